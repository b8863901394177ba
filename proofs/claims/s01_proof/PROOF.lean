import PyProof.Rows.All
import Wide.All
import OpenK.AllK
import Wide.FinOn
import PyProof.EqAt
import PyProof.EqKinds
import PyProof.TupleCall
import KE.BitLaws
import Open.SpecLaws
import KE.OsHead
import KE.OsGo
import PySem.Challenge.RW_shortruns_s01_answers
set_option Elab.async false
section
set_option linter.all false
set_option maxRecDepth 100000
set_option maxHeartbeats 4000000
theorem zzw:PySem.Challenge.rw_shortruns_s01_answers.wellSaid=true:=by decide +kernel
namespace L2
open PySem PySem.Spec PyProof.Rows
abbrev Key:=Sum Int Str
def pJ:Key->Value->Bool
 | .inl k,v=>Value.isInt k v
 | .inr x,v=>Value.isStrOf x v
def Qq (w:World):Key->Int
 | .inl k=>hashInt k
 | .inr x=>hashStr w x
theorem lI:∀ {k:Key}{v:Value},pJ k v=true->(∃ i t,k=Sum.inl i/\v=Value.int i t)\/(∃ x t,k=Sum.inr x/\v=Value.str x t)
 | .inl i,v,h=>by
  obtain⟨t,e⟩:=Value.isInt_shape (k:=i) (v:=v) h
  exact .inl ⟨i,t,rfl,e⟩
 | .inr x,v,h=>by
  obtain⟨t,e⟩:=Value.isStrOf_shape (x:=x) (v:=v) h
  exact .inr ⟨x,t,rfl,e⟩
theorem Qp (i:Int) (t:Tok):pJ (.inl i) (.int i t)=true:=by simp [pJ,Value.isInt]
theorem Qo (x:Str) (t:Tok):pJ (.inr x) (.str x t)=true:=by simp [pJ,Value.isStrOf]
theorem Qn (a b:Int):decide ((Sum.inl a:Key)=Sum.inl b)=(a == b):=by
 by_cases e:a=b
 ·subst e;simp
 ·have h:¬ (Sum.inl a:Key)=Sum.inl b:=fun q=>e (Sum.inl.inj q)
  rw [decide_eq_false h]
  exact(beq_eq_false_iff_ne.mpr e).symm
theorem Qk (a b:Str):decide ((Sum.inr a:Key)=Sum.inr b)=decide (a=b):=by
 by_cases e:a=b
 ·subst e;simp
 ·have h:¬ (Sum.inr a:Key)=Sum.inr b:=fun q=>e (Sum.inr.inj q)
  rw [decide_eq_false h,decide_eq_false e]
theorem Qm (a:Int) (b:Str):decide ((Sum.inl a:Key)=Sum.inr b)=false:=decide_eq_false (fun q=>nomatch q)
theorem Ql (a:Str) (b:Int):decide ((Sum.inr a:Key)=Sum.inl b)=false:=decide_eq_false (fun q=>nomatch q)
def fO (prog:Program) (w:World):PySem.KeyKind prog w Key where
 is:=pJ
 hash:=Qq w
 inj:=fun v a b ha hb=>by
  rcases lI ha with ⟨i,t,rfl,rfl⟩ |⟨x,t,rfl,rfl⟩
  ·rcases lI hb with ⟨j,u,rfl,e⟩ |⟨y,u,rfl,e⟩
   ·injection e with e1 _;rw [e1]
   ·exact nomatch e
  ·rcases lI hb with ⟨j,u,rfl,e⟩ |⟨y,u,rfl,e⟩
   ·exact nomatch e
   ·injection e with e1 _;rw [e1]
 byValue:=fun k v h=>by
  rcases lI h with ⟨i,t,rfl,rfl⟩ |⟨x,t,rfl,rfl⟩<;>rfl
 pyHash:=fun hv h=>by
  rcases lI hv with ⟨i,t,rfl,rfl⟩ |⟨x,t,rfl,rfl⟩
  ·exact wpAny_pyHash_int h
  ·exact wpAny_pyHash_str h
 eqBool:=fun hu hv h=>by
  rcases lI hu with ⟨i,t,rfl,rfl⟩ |⟨x,t,rfl,rfl⟩
  ·rcases lI hv with ⟨j,u,rfl,rfl⟩ |⟨y,u,rfl,rfl⟩
   ·rw [Qn] at h;exact wpAny_eqBool_int h
   ·rw [Qm] at h;exact SeqAt.EqAt.int_str i t y u _ _ _ _ h
  ·rcases lI hv with ⟨j,u,rfl,rfl⟩ |⟨y,u,rfl,rfl⟩
   ·rw [Ql] at h;exact SeqAt.EqAt.str_int x t j u _ _ _ _ h
   ·rw [Qk] at h;exact wpAny_eqBool_str h
 «strs»:=fun k x t v h=>by
  rcases lI h with ⟨i,u,rfl,e⟩ |⟨y,u,rfl,e⟩
  ·exact nomatch e
  ·injection e with e1 _
   subst e1
   cases v<;>rfl
theorem nH (prog:Program) (w:World) (i:Int) (t:Tok):(fO prog w).is (.inl i) (.int i t)=true:=Qp i t
theorem PB (prog:Program) (w:World) (x:Str) (t:Tok):(fO prog w).is (.inr x) (.str x t)=true:=Qo x t
end L2
namespace L2
open PySem PySem.Spec PyProof.Rows
inductive V where
 | aD | bl (b:Bool) | int (i:Int) | str (x:Str) | hG (b:Array UInt8) | va (b:UInt64) | ref (a:Addr) | ty (n:String)
 deriving DecidableEq
def RelV:V->Value->Prop
 | .aD,u=>u=Value.none
 | .bl b,u=>u=Value.bool b
 | .int i,u=>∃ t,u=Value.int i t
 | .str x,u=>∃ t,u=Value.str x t
 | .hG b,u=>∃ t,u=Value.bytes b t
 | .va b,u=>∃ t,u=Value.float b t
 | .ref a,u=>u=Value.ref a
 | .ty n,u=>u=Value.type n
abbrev Vals:List V->List Value->Prop:=Paired RelV
theorem Vals.length {xs:List V}{us:List Value}(r:Vals xs us):xs.length=us.length:=Paired.length r
theorem Vals.get:∀ {xs:List V}{us:List Value}{i:Nat}{x:V},Vals xs us->xs[i]? = some x->∃ u,us[i]? = some u/\RelV x u
 |_,_,_,_,.nil,e=>by simp at e
 |_,_,0,_,.cons r _,e=>by simp at e;subst e;exact⟨_,rfl,r⟩
 |_,_,i+1,x,.cons _ t,e=>by
  obtain⟨u,h1,h2⟩:=Vals.get (i:=i) (x:=x) t (by simpa using e)
  exact⟨u,by simpa using h1,h2⟩
theorem Vals.set {x:V}{u:Value}(r:RelV x u):∀ {xs:List V}{us:List Value}(i:Nat),Vals xs us->Vals (xs.set i x) (us.set i u)
 |_,_,_,.nil=>.nil
 |_,_,0,.cons _ t=>.cons r t
 |_,_,i+1,.cons q t=>.cons q (Vals.set r i t)
theorem Vals.append:∀ {xs ys:List V}{us ws:List Value},Vals xs us->Vals ys ws->Vals (xs++ys) (us++ws)
 |_,_,_,_,.nil,s=>s
 |_,_,_,_,.cons r t,s=>.cons r (Vals.append t s)
theorem Vals.take:∀ {xs:List V}{us:List Value}(n:Nat),Vals xs us->Vals (xs.take n) (us.take n)
 |_,_,0,_=>.nil
 |_,_,_+1,.nil=>.nil
 |_,_,n+1,.cons r t=>.cons r (Vals.take n t)
theorem Vals.drop:∀ {xs:List V}{us:List Value}(n:Nat),Vals xs us->Vals (xs.drop n) (us.drop n)
 |_,_,0,r=>r
 |_,_,_+1,.nil=>.nil
 |_,_,n+1,.cons _ t=>Vals.drop n t
def hX:Option V->Option Value->Prop
 | some v,some u=>RelV v u
 | none,none=>True
 |_,_=>False
def KV {κ:Type}:List (κ×V)->List (κ×Value)->Prop:=Paired fun(p:κ×V) (q:κ×Value)=>p.1=q.1/\RelV p.2 q.2
def kV:Key->V
 | .inl i=>.int i
 | .inr x=>.str x
inductive HO where
 | lst (xs:List V)
 | tup (xs:List V)
 | dK (aB:List (Key×V)) | dT (aB:List (List Key×V))
 | set (S:Int->Bool) (n:Nat)
 | ins (C dx:Addr) (fs:List (Str×V))
 | own (x:Addr)
 | xd (fs:List (Str×V))
 | met (f x:Addr)
 | xn (lo hi:Int)
 | fQ (o:Obj) (u:HO)
 | nh (ps:Array Value)
 | ext (φ:Heap->Prop)
abbrev Hp:=Addr->Option HO
def upd (H:Hp) (a:Addr) (o:HO):Hp:=fun b=>if b=a then some o else H b
theorem af {H:Hp}{a:Addr}{o:HO}:upd H a o a=some o:=by unfold upd;rw [if_pos rfl]
theorem aj {H:Hp}{a b:Addr}{o:HO}(h:b≠a):upd H a o b=H b:=by unfold upd;rw [if_neg h]
theorem bM {H:Hp}{a:Addr}{o u:HO}:upd (upd H a o) a u=upd H a u:=by
 funext b;unfold upd;split<;>rfl
theorem dg {H:Hp}{a b:Addr}{o u:HO}(h:H a=some o) (h':H b=some u) (d:o≠u):a≠b:=by
 intro e;subst e;rw [h] at h';exact d (Option.some.inj h')
theorem aP {H:Hp}{a b:Addr}{o:HO}(h:H a=some o) (h':H b=none):a≠b:=by
 intro e;subst e;rw [h] at h';cases h'
section
variable (P:Program) (w:World)
def dP (H:Hp) (h:Heap) (a:Addr):HO->Prop
 | .lst xs=>xs.length<=sizeLine/\∃(au:List Value) (n:Nat),Vals xs au/\h.get? a=some { cls:=.type "list",data:=.seq au.toArray n }
 | .tup xs=>xs.length<=sizeLine/\∃ au:List Value,Vals xs au/\IsTup h a au.toArray
 | .dK aB=>aB.length<=sizeLine/\(a == sysModules)=false/\∃ vs,KV aB vs/\h.DictOf (fO P w) a vs
 | .dT aB=>aB.length<=sizeLine/\(a == sysModules)=false/\∃ xs:List (List Key×Addr×Value),
   Paired (fun(p:List Key×V) (q:List Key×Addr×Value)=>p.1=q.1/\H q.2.1=some (.tup (p.1.map kV))/\RelV p.2 q.2.2) aB xs /\
   ∃ o es ep,h.get? a=some o/\o.ExactDict/\o.data=.dict es ep/\es.toList=xs.map (entryOfKey (tupleKind (fO P w)))/\(xs.map (·.1)).Nodup
 | .set S n=>h.SetOf (intKind P w) a S n
 | .ins C dx fs=>H dx=some (.own a)/\fs.length<=1000/\dx≠a/\h.get? a=some (PySem.W.instObj C dx) /\
   ∃ mA,h.Ns1 dx mA/\(∀ f,hX (fs.lookup f) (mA f))/\PySem.Within mA (fs.map (·.1))
 | .own _=>∃ o,h.get? a=some o
 | .xd fs=>∃ mA,h.Ns1 a mA/\∀ f,hX (fs.lookup f) (mA f)
 | .xn lo hi=>∃ t u v,h.get? a=some { cls:=.type "range",data:=.fields #[.int lo t,.int hi u,.int 1 v] }
 | .fQ o u=>h.get? a=some o/\dP H h a u
 | .nh ps=>h.get? a=some { cls:=.none,data:=.fields ps }
 | .met f x=>h.get? a=some (PySem.W.methodObj (.ref f) (.ref x))
 | .ext φ=>φ h/\(∃ o,h.get? a=some o)/\∀ h1 h2:Heap,φ h1->(∀ o,h1.get? a=some o->h2.get? a=some o)->φ h2
def cP (H:Hp) (h:Heap):Prop:=∀ a o,H a=some o->dP P w H h a o
end
section
variable {P:Program}{w:World}{H H':Hp}{h h':Heap}{a:Addr}{o:HO}
theorem dP.lt (x:dP P w H h a o):a<h.objs.size:=by
 cases o with
 | lst xs=>obtain⟨_,_,_,_,e⟩:=x;exact Heap.lt_size e
 | tup xs=>obtain⟨_,_,_,p⟩:=x;exact p.lt
 | dK aB=>obtain⟨_,_,_,_,o,_,_,e,_⟩:=x;exact Heap.lt_size e
 | dT aB=>obtain⟨_,_,_,_,o,_,_,e,_⟩:=x;exact Heap.lt_size e
 | set S n=>obtain⟨o,_,_,_,e,_⟩:=x;exact Heap.lt_size e
 | ins C dx fs=>obtain⟨_,_,_,e,_⟩:=x;exact Heap.lt_size e
 | own y=>obtain⟨_,e⟩:=x;exact Heap.lt_size e
 | xd fs=>obtain⟨_,⟨_,_,_,e,_⟩,_⟩:=x;exact Heap.lt_size e
 | xn lo hi=>obtain⟨_,_,_,e⟩:=x;exact Heap.lt_size e
 | fQ ob u=>obtain⟨e,_⟩:=x;exact Heap.lt_size e
 | nh ps=>exact Heap.lt_size (show h.get? a=some _ from x)
 | met f y=>exact Heap.lt_size (show h.get? a=some _ from x)
 | ext φ=>obtain⟨_,⟨_,e⟩,_⟩:=x;exact Heap.lt_size e
theorem Paired.yw {α β:Type}{F G:α->β->Prop}:∀ {l₁:List α}{l₂:List β},Paired F l₁ l₂->(∀ a b,F a b->G a b)->Paired G l₁ l₂
 |_,_,.nil,_=>.nil
 |_,_,.cons r t,f=>.cons (f _ _ r) (Paired.yw t f)
theorem dP.cI (x:dP P w H h a o) (k:∀ b u,(b=a\/H b=some (.own a))->h.get? b=some u->h'.get? b=some u)
  (ho:∀ b,H b=some (.own a)->H' b=some (.own a)) (ht:∀ b xs,H b=some (.tup xs)->H' b=some (.tup xs)):dP P w H' h' a o:=by
 induction o with
 | lst xs=>obtain⟨z,au,n,r,e⟩:=x;exact⟨z,au,n,r,k _ _ (.inl rfl) e⟩
 | tup xs=>obtain⟨z,au,r,ob,e,c⟩:=x;exact⟨z,au,r,ob,k _ _ (.inl rfl) e,c⟩
 | dK aB=>obtain⟨z,y,vs,r,ob,es,ep,e,c⟩:=x;exact⟨z,y,vs,r,ob,es,ep,k _ _ (.inl rfl) e,c⟩
 | dT aB=>
  obtain⟨z,y,xs,r,ob,es,ep,e,c⟩:=x
  exact⟨z,y,xs,Paired.yw r fun p q z=>⟨z.1,ht _ _ z.2.1,z.2.2⟩,ob,es,ep,k _ _ (.inl rfl) e,c⟩
 | set S n=>obtain⟨ob,es,ep,t,e,c⟩:=x;exact⟨ob,es,ep,t,k _ _ (.inl rfl) e,c⟩
 | ins C dx fs=>
  obtain⟨d,z,ne,e,mA,⟨od,es,ep,e2,c⟩,r⟩:=x
  exact⟨ho _ d,z,ne,k _ _ (.inl rfl) e,mA,⟨od,es,ep,k _ _ (.inr d) e2,c⟩,r⟩
 | own y=>obtain⟨ob,e⟩:=x;exact⟨ob,k _ _ (.inl rfl) e⟩
 | xd fs=>obtain⟨mA,⟨od,es,ep,e,c⟩,r⟩:=x;exact⟨mA,⟨od,es,ep,k _ _ (.inl rfl) e,c⟩,r⟩
 | xn lo hi=>obtain⟨t,u,v,e⟩:=x;exact⟨t,u,v,k _ _ (.inl rfl) e⟩
 | fQ ob u ih=>obtain⟨e,q⟩:=x;exact⟨k _ _ (.inl rfl) e,ih q⟩
 | nh ps=>
  have e:h.get? a=some { cls:=.none,data:=.fields ps }:=x
  show h'.get? a=some { cls:=.none,data:=.fields ps }
  exact k a _ (.inl rfl) e
 | met f y=>
  have e:h.get? a=some (PySem.W.methodObj (.ref f) (.ref y)):=x
  show h'.get? a=some (PySem.W.methodObj (.ref f) (.ref y))
  exact k a _ (.inl rfl) e
 | ext φ=>obtain⟨p,⟨o,e⟩,st⟩:=x;exact⟨st _ _ p fun o q=>k _ _ (.inl rfl) q,⟨o,k _ _ (.inl rfl) e⟩,st⟩
theorem cP.lt (x:cP P w H h) (e:H a=some o):a<h.objs.size:=(x a o e).lt
theorem cP.fresh (x:cP P w H h) (e:h.objs.size<=a):H a=none:=by
 cases q:H a with
 | none=>rfl
 | some u=>exact absurd (Nat.lt_of_lt_of_le (x.lt q) e) (Nat.lt_irrefl _)
theorem cP.kept (x:cP P w H h) (k:∀ b u,h.get? b=some u->h'.get? b=some u):cP P w H h':=fun a o e=>
 (x a o e).cI (fun b u _ q=>k b u q) (fun _ q=>q) fun _ _ q=>q
theorem cP.laid (x:cP P w H h) (k:∀ b u,h.get? b=some u->h'.get? b=some u) (hp:h.objs.size<=a) (new:dP P w (upd H a o) h' a o):cP P w (upd H a o) h':=fun b u e=>by
 have hn:=x.fresh hp
 by_cases hb:b=a
 ·subst hb;rw [af] at e;cases e;exact new
 ·rw [aj hb] at e
  exact(x b u e).cI (fun c v _ q=>k c v q) (fun c q=>by rw [aj (aP q hn)];exact q) fun c xs q=>by rw [aj (aP q hn)];exact q
end
def Rd (H:Hp) (a:Addr) (u:HO):Prop:=H a=some u\/∃ o,H a=some (.fQ o u)
theorem Rd.ok {P:Program}{w:World}{H:Hp}{h:Heap}{a:Addr}{u:HO}(r:Rd H a u) (x:cP P w H h):dP P w H h a u:=by
 rcases r with r |⟨o,r⟩
 ·exact x a u r
 ·obtain⟨_,q⟩:=x a _ r
  exact q
def sv:Option HO->Prop
 | some (.lst _)=>True
 | some (.dK _)=>True
 | some (.dT _)=>True
 | some (.set _ _)=>True
 | some (.ins _ _ _)=>True
 | some (.ext _)=>True
 |_=>False
section
variable {P:Program}{w:World}{H:Hp}{h h':Heap}{x e:Addr}{o':HO}
theorem cP.write (ok:cP P w H h) (mu:sv (H x)) (he:e=x\/H e=some (.own x)) (k:∀ b u,b≠e->h.get? b=some u->h'.get? b=some u) (pW:∃ u,h'.get? e=some u)
  (new:dP P w (upd H x o') h' x o'):cP P w (upd H x o') h':=fun b u q=>by
 have Eu:∀ c y,H c=some (.own y)->c≠x:=fun c y r z=>by subst z;rw [r] at mu;exact mu
 have OJ:∀ c xs,H c=some (.tup xs)->c≠x:=fun c xs r z=>by subst z;rw [r] at mu;exact mu
 by_cases hb:b=x
 ·subst hb;rw [af] at q;cases q;exact new
 ·rw [aj hb] at q
  by_cases nV:b=e
  ·have q':H b=some (.own x):=by
    rcases he with z | z
    ·exact absurd (nV.trans z) hb
    ·rw [nV];exact z
   rw [q] at q';cases q'
   obtain⟨v,hv⟩:=pW
   exact⟨v,by rw [nV];exact hv⟩
  ·refine(ok b u q).cI (fun c v hc r=>k c v ?_ r) (fun c r=>by rw [aj (Eu c b r)];exact r) fun c xs r=>by rw [aj (OJ c xs r)];exact r
   rcases hc with rfl | hc
   ·exact nV
   ·rintro rfl
    rcases he with z | z
    ·exact Eu c b hc z
    ·rw [hc] at z;cases z;exact hb rfl
end
structure Un (fs ex:List Addr) (H H':Hp) (h h':Heap):Prop where
 keep:∀ b o,h.get? b=some o->H b=none->b ∉ fs->b ∉ ex->h'.get? b=some o
 slot:∀ b o,h.get? b=some o->H b=none->b∈fs->b ∉ ex->∃ sl,h'.get? b=some { o with slots:=sl }
 free:∀ b o,h.get? b=some o->H b=none->b ∉ ex->H' b=none
 there:∀ b o,h.get? b=some o->b ∉ ex->∃ o',h'.get? b=some o'
 l8:∀ b xs,H b=some (.tup xs)->H' b=some (.tup xs)
 lV:∀ b o u,H b=some (.fQ o u)->H' b=some (.fQ o u)
 ma:∀ b ps,H b=some (.nh ps)->∃ more,H' b=some (.nh (ps++more))
section
variable {fs fs' ex ex':List Addr}{H H1 H2:Hp}{h h1 h2 h':Heap}{a x e:Addr}{o:HO}
theorem Un.any (u:Un fs ex H H1 h h1){b:Addr}{ob:Obj}(q:h.get? b=some ob) (n:H b=none) (hx:b ∉ ex):∃ sl,h1.get? b=some { ob with slots:=sl }:=by
 by_cases hb:b∈fs
 ·exact u.slot b ob q n hb hx
 ·exact⟨ob.slots,u.keep b ob q n hb hx⟩
theorem Un.kept (k:∀ b u,h.get? b=some u->h'.get? b=some u):Un fs ex H H h h':=
 ⟨fun b ob q _ _ _=>k b ob q,fun b ob q _ _ _=>⟨ob.slots,k b ob q⟩,fun _ _ _ n _=>n,fun b ob q _=>⟨ob,k b ob q⟩,fun _ _ q=>q,fun _ _ _ q=>q,fun _ ps q=>⟨#[],by rw [q];simp⟩⟩
theorem Un.refl:Un fs ex H H h h:=Un.kept fun _ _ q=>q
theorem Un.laid (k:∀ b u,h.get? b=some u->h'.get? b=some u) (hp:h.objs.size<=a) (hn:H a=none):Un fs ex H (upd H a o) h h' where
 keep:=fun b u q _ _ _=>k b u q
 slot:=fun b u q _ _ _=>⟨u.slots,k b u q⟩
 free:=fun b u q n _=>by rw [aj (Nat.ne_of_lt (Nat.lt_of_lt_of_le (Heap.lt_size q) hp))];exact n
 there:=fun b u q _=>⟨u,k b u q⟩
 l8:=fun b xs q=>by rw [aj (aP q hn)];exact q
 lV:=fun b u xs q=>by rw [aj (aP q hn)];exact q
 ma:=fun b ps q=>⟨#[],by rw [aj (aP q hn),q];simp⟩
theorem Un.write (mu:sv (H x)) (he:e=x\/H e=some (.own x)) (k:∀ b u,b≠e->h.get? b=some u->h'.get? b=some u) (pW:∃ u,h'.get? e=some u):Un fs ex H (upd H x o) h h':=by
 have hx:∀ b,H b=none->b≠x:=fun b n z=>by subst z;rw [n] at mu;exact mu
 have hb:∀ b,H b=none->b≠e:=fun b n z=>by
  subst z
  rcases he with r | r
  ·exact hx b n r
  ·rw [n] at r;cases r
 have hm:∀ b u,H b=some u->¬ sv (some u)->b≠x:=fun b u q nm z=>by subst z;rw [q] at mu;exact nm mu
 refine⟨fun b u q n _ _=>k b u (hb b n) q,fun b u q n _ _=>⟨u.slots,k b u (hb b n) q⟩,fun b u q n _=>by rw [aj (hx b n)];exact n,fun b u q _=>?_,
  fun b xs q=>by rw [aj (hm b _ q fun z=>z)];exact q,fun b u xs q=>by rw [aj (hm b _ q fun z=>z)];exact q,fun b ps q=>⟨#[],by rw [aj (hm b _ q fun z=>z),q];simp⟩⟩
 by_cases nV:b=e
 ·subst nV;exact pW
 ·exact⟨u,k b u nV q⟩
end
def sQ (h:Heap) (H:Hp):List Addr:=(List.range h.objs.size).filter fun a=>(H a).isSome
def lQ (h:Heap) (H:Hp):Heap:=PySem.W.hideAll h (sQ h H)
theorem Rt (h:Heap) (H:Hp):(lQ h H).objs.size=h.objs.size:=PySem.W.hideAll_size _ _
theorem Ru {h:Heap}{H:Hp}{b:Addr}{o:Obj}(e:h.get? b=some o) (n:H b=none):(lQ h H).get? b=some o:=
 PySem.W.hideAll_get _ e fun hm=>by
  have q:(H b).isSome=true:=(List.mem_filter.mp hm).2
  rw [n] at q;simp at q
theorem OE {h:Heap}{H:Hp}{b:Addr}{o:Obj}(e:(lQ h H).get? b=some o):h.get? b=some o/\H b=none:=by
 have e':h.get? b=some o:=PySem.W.of_hideAll (sQ h H) e
 refine⟨e',?_⟩
 cases q:H b with
 | none=>rfl
 | some x=>
  have hm:b∈sQ h H:=List.mem_filter.mpr ⟨List.mem_range.mpr (Heap.lt_size e'),by simp [q]⟩
  have z:(lQ h H).get? b=none:=PySem.W.hideAll_none (sQ h H) hm
  rw [z] at e;cases e
end L2
namespace L2
open PySem PySem.Spec PyProof.Rows
structure Mod (K:PySem.W.Frag) (mg:Str->Option Value) (base:Heap):Prop where
 pH:K.In base
 glob:base.Ns mainGlobals mg
 blt:∃ mb,base.Ns builtinsNs mb/\∀ x:Str,x ≠ "__name__"->mb x=bootBuiltins x
 nolimit:base.NoLimit
structure Cx where
 prog:Program
 w:World
 K:PySem.W.Frag
 mg:Str->Option Value
 base:Heap
 A:Around
 N:List Str
 fB:Shared
 sD:Hp
 env:Env
 aA:List Env
 stack:List Env
 ex:List Addr
 fn:Str->Bool
 calm:Bool
 pn:List (Addr×Obj)
 xe:Value->Shared->Prop
def kF (l:List Env):List Addr:=l.filterMap (·.frame)
abbrev Cx.fs (X:Cx):List Addr:=kF X.aA
def oy (sc:Scope) (x:Str):Prop:=sc.names.lookup x=some .local\/sc.names.lookup x=some .cell\/sc.names.lookup x=some .free
def Loc (sc:Scope) (x:Str):Prop:=sc.names.lookup x=some .local\/sc.names.lookup x=some .cell
def Look (env:Env) (h:Heap) (m:Str->Option Value) (x:Str) (u:Value):Prop:=
 (env.kindOf x=some .local/\m x=some u)\/((env.kindOf x=some .cell\/env.kindOf x=some .free)/\∃ c,env.cells.lookup x=some c/\h.IsCell c (some u))
structure Cx.Ok (X:Cx):Prop where
 mod:Mod X.K X.mg X.base
 kind:X.env.scope.kind=.function
 glob:X.env.globals=mainGlobals
 blt:X.env.builtins=builtinsNs
 above:X.fB.heap.objs.size<=X.env.locals
 inj:∀ x y c,X.env.cells.lookup x=some c->X.env.cells.lookup y=some c->x=y
 has:∀ x,(X.env.kindOf x=some .cell\/X.env.kindOf x=some .free)->∃ c,X.env.cells.lookup x=some c
 rZ:∀ x c,X.fn x=true->X.env.cells.lookup x=some c->X.fB.heap.objs.size<=c
 hd:X.calm=true->X.A.handled=none
 frames:X.A.frames=some X.stack
 aG:X.stack=X.aA\/(X.stack=X.env::X.aA/\X.env.frame=some X.env.locals)
 vc:∀ b∈X.ex,b≠X.env.locals/\∀ x c,X.env.cells.lookup x=some c->c≠b
 bs:∀ b o,X.base.get? b=some o->X.fB.heap.get? b=some o/\X.sD b=none
 lX:X.base.objs.size<=X.fB.heap.objs.size
 qQ:∀ b o,X.base.get? b=some o->b ∉ X.ex
 rS:∀ b∈X.ex,b ∉ X.fs
 jU:X.fB.heap.FunFrames X.base X.aA
 nY:∀ b∈X.fs,X.sD b=none
structure Inv (X:Cx) (ab:List (Addr×Obj)) (σ:List (Option V)) (H:Hp) (s:Shared):Prop where
 ok:X.Ok
 os:s.os=X.fB.os
 bare:AllBare s.gens
 base:Un X.fs X.ex X.sD H X.fB.heap s.heap
 loc:∃ m,s.heap.Ns X.env.locals m/\∀(i:Nat) (x:Str) (v:V),X.N[i]? = some x->σ[i]? = some (some v)->oy X.env.scope x->∃ u,RelV v u/\Look X.env s.heap m x u
 cell:∀ x c,X.env.cells.lookup x=some c->∃ v,s.heap.IsCell c v
 free:H X.env.locals=none
 kG:∀ x c,X.env.cells.lookup x=some c->H c=none
 pin:∀ p∈X.pn++ab,s.heap.get? p.1=some p.2/\H p.1=none/\p.1≠X.env.locals/\p.1 ∉ X.fs/\∀ v,p.2.data≠.cell v
 aU:cP X.prog X.w H s.heap
 len:σ.length=X.N.length
section
variable {X:Cx}{ab:List (Addr×Obj)}{σ:List (Option V)}{H H':Hp}{s:Shared}{h':Heap}
theorem Cx.Ok.OX (ok:X.Ok){b:Addr}{o:Obj}(e:X.base.get? b=some o):b ∉ X.fs:=fun hb=>by
 have:=(ok.jU.mem hb).1
 rw [e] at this;cases this
theorem Inv.bs (I:Inv X ab σ H s):∀ b o,X.base.get? b=some o->s.heap.get? b=some o/\H b=none:=fun b o e=>
 ⟨I.base.keep b o (I.ok.bs b o e).1 (I.ok.bs b o e).2 (I.ok.OX e) (I.ok.qQ b o e),I.base.free b o (I.ok.bs b o e).1 (I.ok.bs b o e).2 (I.ok.qQ b o e)⟩
theorem Inv.bk (I:Inv X ab σ H s):∀ b o,X.base.get? b=some o->s.heap.get? b=some o:=fun b o e=>(I.bs b o e).1
theorem Inv.mod (I:Inv X ab σ H s):Mod X.K X.mg X.base:=I.ok.mod
theorem Inv.fP (I:Inv X ab σ H s):X.K.In s.heap:=I.ok.mod.pH.keeps I.bk
theorem Inv.lt (I:Inv X ab σ H s):X.env.locals<s.heap.objs.size:=let ⟨_,hn,_⟩:=I.loc;hn.lt
theorem Inv.sz (I:Inv X ab σ H s):X.fB.heap.objs.size<=s.heap.objs.size:=Nat.le_trans I.ok.above (Nat.le_of_lt I.lt)
theorem Inv.OV (I:Inv X ab σ H s){a:Addr}(h:s.heap.objs.size<=a):a ∉ X.fs:=fun hb=>by
 obtain⟨_,o,ho,_⟩:=I.ok.jU.mem hb
 exact absurd (Nat.lt_of_lt_of_le (Heap.lt_size ho) (Nat.le_trans I.sz h)) (Nat.lt_irrefl _)
theorem Inv.oh (I:Inv X ab σ H s):∀ x c,X.env.cells.lookup x=some c->c≠X.env.locals:=fun x c e z=>by
 obtain⟨v,o,ho,hd⟩:=I.cell x c e
 obtain⟨m,⟨o',es,ep,ho',hd',_⟩,_⟩:=I.loc
 rw [z,ho'] at ho;cases ho;rw [hd'] at hd;cases hd
theorem Inv.jU (I:Inv X ab σ H s):s.heap.FunFrames X.base X.aA:=by
 have all:∀(l:List Env),(∀ b∈kF l,b∈X.fs)->X.fB.heap.FunFrames X.base l->s.heap.FunFrames X.base l:=by
  intro l
  induction l with
  | nil=>intro _ _;trivial
  | cons env r ih=>
   intro hs hl
   obtain⟨hk,⟨L,o,hf,hn,ho,hd⟩,hr⟩:=hl
   have hL:L∈X.fs:=hs L (by unfold kF;rw [List.filterMap_cons,hf];exact List.mem_cons_self)
   obtain⟨sl,e⟩:=I.base.slot L o ho (I.ok.nY L hL) hL fun z=>I.ok.rS L z hL
   exact⟨hk,⟨L,_,hf,hn,e,hd⟩,ih (fun b hb=>hs b (by unfold kF;rw [List.filterMap_cons,hf];exact List.mem_cons_of_mem _ hb)) hr⟩
 exact all X.aA (fun _ hb=>hb) I.ok.jU
theorem Inv.stack (I:Inv X ab σ H s):s.heap.FunFrames X.base X.stack:=by
 rcases I.ok.aG with e |⟨e,hf⟩
 ·rw [e];exact I.jU
 ·rw [e]
  obtain⟨m,hn,_⟩:=I.loc
  refine .cons (by rw [I.ok.kind];decide) hf hn ?_ I.jU
  exact Heap.get?_none_of_le (Nat.le_trans I.ok.lX I.ok.above)
theorem Inv.vW (I:Inv X ab σ H s):∀ b∈kF X.stack,b∈X.env.locals::X.fs:=fun b hb=>by
 rcases I.ok.aG with e |⟨e,hf⟩
 ·rw [e] at hb;exact List.mem_cons_of_mem _ hb
 ·rw [e] at hb
  unfold kF at hb
  rw [List.filterMap_cons,hf] at hb
  exact hb
theorem Inv.Bc (I:Inv X ab σ H s):∀ b∈kF X.stack,H b=none:=fun b hb=>by
 rcases List.mem_cons.mp (I.vW b hb) with e | hb
 ·rw [e];exact I.free
 ·obtain⟨_,o,ho,_⟩:=I.ok.jU.mem hb
  exact I.base.free b o ho (I.ok.nY b hb) fun z=>I.ok.rS b z hb
theorem Inv.step {g':Array GenState}{t':Nat}{d':Drawn}{ch:List Addr}(I:Inv X ab σ H s)
  (k8:∀ b∈ch,(b∈X.ex\/X.fB.heap.objs.size<=b)/\b≠X.env.locals/\(∀ x c,X.env.cells.lookup x=some c->c≠b)/\∀ p∈X.pn++ab,p.1≠b)
  (keep:∀ b o,b≠X.env.locals->b ∉ X.fs->b ∉ ch->s.heap.get? b=some o->H b=none->h'.get? b=some o)
  (slot:∀ b o,b≠X.env.locals->b∈X.fs->b ∉ ch->s.heap.get? b=some o->H b=none->∃ sl,h'.get? b=some { o with slots:=sl }) (free:∀ b o,b ∉ ch->s.heap.get? b=some o->H b=none->H' b=none)
  (there:∀ b o,b ∉ ch->s.heap.get? b=some o->∃ o',h'.get? b=some o')
  (l8:∀ b xs,H b=some (.tup xs)->H' b=some (.tup xs)) (lV:∀ b o u,H b=some (.fQ o u)->H' b=some (.fQ o u)) (ma:∀ b ps,H b=some (.nh ps)->∃ more,H' b=some (.nh (ps++more)))
  (ns:∀ m,s.heap.Ns X.env.locals m->h'.Ns X.env.locals m) (aU:cP X.prog X.w H' h') (hg:AllBare g') :
  Inv X ab σ H' { s with heap:=h',gens:=g',drawn:=d',toks:=t' }:=by
 have EE:∀ b o,X.fB.heap.get? b=some o->b≠X.env.locals:=fun b o e=>Nat.ne_of_lt (Nat.lt_of_lt_of_le (Heap.lt_size e) I.ok.above)
 have uj:∀ b o,X.fB.heap.get? b=some o->b ∉ X.ex->b ∉ ch:=fun b o e hx hb=>by
  rcases (k8 b hb).1 with z | z
  ·exact hx z
  ·exact absurd (Nat.lt_of_lt_of_le (Heap.lt_size e) z) (Nat.lt_irrefl _)
 have cellK:∀ x c,X.env.cells.lookup x=some c->∀ v,s.heap.IsCell c v->h'.IsCell c v:=fun x c e v ⟨o,ho,hd⟩=>by
  have qW:c ∉ ch:=fun z=>(k8 c z).2.2.1 x c e rfl
  by_cases hc:c∈X.fs
  ·obtain⟨sl,q⟩:=slot c o (I.oh x c e) hc qW ho (I.kG x c e)
   exact⟨_,q,hd⟩
  ·exact⟨o,keep c o (I.oh x c e) hc qW ho (I.kG x c e),hd⟩
 refine⟨I.ok,I.os,hg,⟨fun b o e n hb hx=>?_,fun b o e n hb hx=>?_,fun b o e n hx=>?_,fun b o e hx=>?_,fun b xs e=>l8 b xs (I.base.l8 b xs e),fun b o xs e=>lV b o xs (I.base.lV b o xs e),fun b ps e=>?_⟩,?_,fun x c e=>?_,?_,fun x c e=>?_,fun p hp=>?_,aU,I.len⟩
 ·exact keep b o (EE b o e) hb (uj b o e hx) (I.base.keep b o e n hb hx) (I.base.free b o e n hx)
 ·obtain⟨sl,e1⟩:=I.base.slot b o e n hb hx
  obtain⟨sl',e2⟩:=slot b _ (EE b o e) hb (uj b o e hx) e1 (I.base.free b o e n hx)
  exact⟨sl',e2⟩
 ·obtain⟨o',e1⟩:=I.base.there b o e hx
  exact free b o' (uj b o e hx) e1 (I.base.free b o e n hx)
 ·obtain⟨o',e1⟩:=I.base.there b o e hx
  exact there b o' (uj b o e hx) e1
 ·obtain⟨m1,e1⟩:=I.base.ma b ps e
  obtain⟨m2,e2⟩:=ma b _ e1
  exact⟨m1++m2,by rw [e2,Array.append_assoc]⟩
 ·obtain⟨m,hn,hl⟩:=I.loc
  refine⟨m,ns m hn,fun i x v e1 e2 e3=>?_⟩
  obtain⟨u,r,l⟩:=hl i x v e1 e2 e3
  refine⟨u,r,?_⟩
  rcases l with l |⟨k,c,e,z⟩
  ·exact .inl l
  ·exact .inr ⟨k,c,e,cellK x c e _ z⟩
 ·obtain⟨v,z⟩:=I.cell x c e
  exact⟨v,cellK x c e v z⟩
 ·obtain⟨m,⟨o,_,_,ho,_⟩,_⟩:=I.loc
  exact free _ o (fun z=>(k8 _ z).2.1 rfl) ho I.free
 ·obtain⟨v,o,ho,hd⟩:=I.cell x c e
  exact free c o (fun z=>(k8 c z).2.2.1 x c e rfl) ho (I.kG x c e)
 ·obtain⟨e,n,ne,nf,d⟩:=I.pin p hp
  have qW:p.1 ∉ ch:=fun z=>(k8 p.1 z).2.2.2 p hp rfl
  exact⟨keep p.1 p.2 ne nf qW e n,free p.1 p.2 qW e n,ne,nf,d⟩
theorem Inv.un {t':Nat}(I:Inv X ab σ H s) (u:Un X.fs [] H H' s.heap h') (aU:cP X.prog X.w H' h'):Inv X ab σ H' { s with heap:=h',toks:=t' }:=by
 obtain⟨m,⟨o,es,ep,ho,r⟩,_⟩:=id I.loc
 obtain⟨sl,hL⟩:=u.any ho I.free (by simp)
 exact I.step (g':=s.gens) (d':=s.drawn) (ch:=[]) (fun _ z=>nomatch z) (fun b o _ hb _ e n=>u.keep b o e n hb (by simp)) (fun b o _ hb _ e n=>u.slot b o e n hb (by simp)) (fun b o _ e n=>u.free b o e n (by simp)) (fun b o _ e=>u.there b o e (by simp)) u.l8 u.lV u.ma (fun m' hm=>by
  obtain⟨o',es',ep',ho',r'⟩:=hm
  rw [ho] at ho';cases ho'
  exact⟨_,es',ep',hL,r'⟩) aU I.bare
theorem Inv.call {g':Array GenState}{t':Nat}{d':Drawn}{ch:List Addr}(I:Inv X ab σ H s) (u:Un (kF X.stack) ch H H' s.heap h') (aU:cP X.prog X.w H' h') (hg:AllBare g')
  (k8:∀ b∈ch,(b∈X.ex\/X.fB.heap.objs.size<=b)/\b≠X.env.locals/\(∀ x c,X.env.cells.lookup x=some c->c≠b)/\∀ p∈X.pn++ab,p.1≠b) :
  Inv X ab σ H' { s with heap:=h',gens:=g',drawn:=d',toks:=t' }:=by
 obtain⟨m,⟨o,es,ep,ho,r⟩,_⟩:=id I.loc
 obtain⟨sl,hL⟩:=u.any ho I.free fun z=>(k8 _ z).2.1 rfl
 exact I.step (ch:=ch) k8 (fun b o hL hb hc e n=>u.keep b o e n (fun z=>(List.mem_cons.mp (I.vW b z)).elim hL hb) hc) (fun b o _ _ hc e n=>u.any e n hc) (fun b o hc e n=>u.free b o e n hc) (fun b o hc e=>u.there b o e hc) u.l8 u.lV u.ma (fun m' hm=>by
  obtain⟨o',es',ep',ho',r'⟩:=hm
  rw [ho] at ho';cases ho'
  exact⟨_,es',ep',hL,r'⟩) aU hg
theorem Inv.turned {t':Nat}{it:Addr}(I:Inv X ab σ H s) (k:∀ b o,b≠it->s.heap.get? b=some o->h'.get? b=some o) (hn:H it=none) (hL:it≠X.env.locals)
  (h1:it∈X.ex\/X.fB.heap.objs.size<=it) (h2:∀ x c,X.env.cells.lookup x=some c->c≠it) (h3:∀ p∈X.pn++ab,p.1≠it):Inv X ab σ H { s with heap:=h',toks:=t' }:=by
 have mC:∀ b u,H b=some u->b≠it:=fun b u e z=>by rw [z,hn] at e;cases e
 refine I.step (g':=s.gens) (d':=s.drawn) (ch:=[it]) (fun b hb=>?_) (fun b o _ _ hc e _=>k b o (fun z=>hc (by simp [z])) e) (fun b o _ _ hc e _=>⟨o.slots,k b o (fun z=>hc (by simp [z])) e⟩) (fun _ _ _ _ n=>n)
  (fun b o hc e=>⟨o,k b o (fun z=>hc (by simp [z])) e⟩) (fun _ _ e=>e) (fun _ _ _ e=>e) (fun b ps e=>⟨#[],by rw [e];simp⟩) (fun m hm=>?_) (fun b u e=>?_) I.bare
 ·have e:b=it:=by simpa using hb
  subst e
  exact⟨h1,hL,h2,h3⟩
 ·obtain⟨o,es,ep,ho,r⟩:=hm
  exact⟨o,es,ep,k _ o (Ne.symm hL) ho,r⟩
 ·refine(I.aU b u e).cI (fun c v hc q=>k c v ?_ q) (fun _ q=>q) fun _ _ q=>q
  rcases hc with z | z
  ·rw [z];exact mC b u e
  ·exact mC c _ z
theorem Inv.tok (I:Inv X ab σ H s) (t:Nat):Inv X ab σ H { s with toks:=t }:=I.un (h':=s.heap) (t':=t) Un.refl I.aU
theorem Inv.kept {t':Nat}(I:Inv X ab σ H s) (k:∀ b u,s.heap.get? b=some u->h'.get? b=some u):Inv X ab σ H { s with heap:=h',toks:=t' }:=I.un (Un.kept k) (I.aU.kept k)
theorem Inv.laid {a:Addr}{o:HO}{t':Nat}(I:Inv X ab σ H s) (k:∀ b u,s.heap.get? b=some u->h'.get? b=some u) (hp:s.heap.objs.size<=a) (new:dP X.prog X.w (upd H a o) h' a o) :
  Inv X ab σ (upd H a o) { s with heap:=h',toks:=t' }:=I.un (Un.laid k hp (I.aU.fresh hp)) (I.aU.laid k hp new)
theorem Inv.write {x e:Addr}{o:HO}{t':Nat}(I:Inv X ab σ H s) (mu:sv (H x)) (he:e=x\/H e=some (.own x)) (k:∀ b u,b≠e->s.heap.get? b=some u->h'.get? b=some u) (pW:∃ u,h'.get? e=some u)
  (new:dP X.prog X.w (upd H x o) h' x o):Inv X ab σ (upd H x o) { s with heap:=h',toks:=t' }:=I.un (Un.write mu he k pW) (I.aU.write mu he k pW new)
theorem Inv.weak {σ':List (Option V)}(I:Inv X ab σ H s) (hl:σ'.length=σ.length) (w:∀(i:Nat) v,σ'[i]? = some (some v)->σ[i]? = some (some v)):Inv X ab σ' H s:=
 ⟨I.ok,I.os,I.bare,I.base,let ⟨m,hn,hl'⟩:=I.loc;⟨m,hn,fun i x v e1 e2 e3=>hl' i x v e1 (w i v e2) e3⟩,I.cell,I.free,I.kG,I.pin,I.aU,hl.trans I.len⟩
theorem Inv.DJ {pins':List (Addr×Obj)}(I:Inv X ab σ H s) (h:∀ p∈pins',s.heap.get? p.1=some p.2/\H p.1=none/\p.1≠X.env.locals/\p.1 ∉ X.fs/\∀ v,p.2.data≠.cell v):Inv X pins' σ H s:=
 ⟨I.ok,I.os,I.bare,I.base,I.loc,I.cell,I.free,I.kG,fun p hp=>(List.mem_append.mp hp).elim (fun z=>I.pin p (List.mem_append_left _ z)) (h p),I.aU,I.len⟩
theorem yf {N:List Str}(hN:N.Nodup){i j:Nat}{x:Str}(a:N[i]? = some x) (b:N[j]? = some x):i=j:=by
 obtain⟨h1,e1⟩:=List.getElem?_eq_some_iff.mp a
 obtain⟨h2,e2⟩:=List.getElem?_eq_some_iff.mp b
 exact(List.getElem_inj hN).mp (e1.trans e2.symm)
theorem Bb {M:Model}{A:Around}{E:Value->Shared->Prop}{i:Nat}{x:Str}{v:V}{u:Value}{Q:Unit->Shared->Prop}(I:Inv X ab σ H s) (hN:X.N.Nodup) (hi:X.N[i]? = some x) (hx:Loc X.env.scope x) (r:RelV v u)
  (h:∀ s',Inv X ab (σ.set i (some v)) H s'->(∃ a,Heap.SameBut a s.heap s'.heap/\(a=X.env.locals\/X.env.cells.lookup x=some a))->Q () s') (hf:X.fn x=true\/X.env.scope.names.lookup x=some .local:=by first | exact .inl rfl | exact .inr rfl | assumption):wpAny M A (storeName X.env x u) Q E s:=by
 obtain⟨m,hn,hl⟩:=id I.loc
 have RJ:(X.env.scope.kind == .class||(X.env.scope.kind == .module&&X.env.locals != X.env.globals))=false:=by rw [I.ok.kind];rfl
 have hiσ:i<σ.length:=by rw [I.len];exact(List.getElem?_eq_some_iff.mp hi).1
 have oh:=I.oh
 have tracked:∀ {a:Addr}{h':Heap},(∃ o,s.heap.get? a=some o/\H a=none)->Heap.SameBut a s.heap h'->cP X.prog X.w H h':=fun {a h'} ha hs b ob e=>by
  obtain⟨_,_,pU⟩:=ha
  refine(I.aU b ob e).cI (fun c w' hc q=>(hs.2 c ?_).trans q) (fun _ q=>q) fun _ _ q=>q
  rintro rfl
  rcases hc with rfl | hc
  ·rw [pU] at e;cases e
  ·rw [pU] at hc;cases hc
 rcases hx with hk | hk
 ·refine wpAny_storeName_local hk hn (fun h' hn' hs=>?_) RJ
  obtain⟨oL,_,_,Q2,_⟩:=id hn
  refine h _ ⟨I.ok,I.os,I.bare,⟨fun b o e n hb hx=>?_,fun b o e n hb hx=>?_,I.base.free,fun b o e hx=>?_,I.base.l8,I.base.lV,I.base.ma⟩,⟨_,hn',fun j y v' e1 e2 e3=>?_⟩,fun y c e=>?_,I.free,I.kG,fun p hp=>?_,tracked ⟨oL,Q2,I.free⟩ hs,by simpa using I.len⟩ ⟨_,hs,.inl rfl⟩
  ·exact(hs.2 b (Nat.ne_of_lt (Nat.lt_of_lt_of_le (Heap.lt_size e) I.ok.above))).trans (I.base.keep b o e n hb hx)
  ·obtain⟨sl,e1⟩:=I.base.slot b o e n hb hx
   exact⟨sl,(hs.2 b (Nat.ne_of_lt (Nat.lt_of_lt_of_le (Heap.lt_size e) I.ok.above))).trans e1⟩
  ·obtain⟨o',e1⟩:=I.base.there b o e hx
   exact⟨o',(hs.2 b (Nat.ne_of_lt (Nat.lt_of_lt_of_le (Heap.lt_size e) I.ok.above))).trans e1⟩
  ·by_cases hj:j=i
   ·subst hj
    rw [hi] at e1;cases e1
    rw [List.getElem?_set_self hiσ] at e2
    cases e2
    exact⟨u,r,.inl ⟨hk,by simp⟩⟩
   ·rw [List.getElem?_set_ne (Ne.symm hj)] at e2
    obtain⟨u',r',q⟩:=hl j y v' e1 e2 e3
    refine⟨u',r',?_⟩
    rcases q with ⟨k,e⟩ |⟨k,c,e,z⟩
    ·refine .inl ⟨k,?_⟩
     have:y≠x:=fun e=>hj (yf hN e1 (e ▸ hi))
     simp [this,e]
    ·exact .inr ⟨k,c,e,z.sameBut hs (oh y c e)⟩
  ·obtain⟨w',z⟩:=I.cell y c e
   exact⟨w',z.sameBut hs (oh y c e)⟩
  ·obtain⟨e,n,ne,nf,d⟩:=I.pin p hp
   exact⟨(hs.2 p.1 ne).trans e,n,ne,nf,d⟩
 ·have zk:X.fn x=true:=by
   rcases hf with z | z
   ·exact z
   ·rw [z] at hk;cases hk
  obtain⟨c,hc⟩:=I.ok.has x (.inl hk)
  obtain⟨w',z⟩:=I.cell x c hc
  refine wpAny_storeName_cell I.ok.kind hk hc z (fun h' hc' hs=>?_)
  obtain⟨oc,FF,Q1⟩:=id z
  refine h { s with heap:=h' } ⟨I.ok,I.os,I.bare,⟨fun b o e n hb hx=>?_,fun b o e n hb hx=>?_,I.base.free,fun b o e hx=>?_,I.base.l8,I.base.lV,I.base.ma⟩,⟨m,hn.sameBut hs (Ne.symm (oh x c hc)),fun j y v' e1 e2 e3=>?_⟩,fun y c' e=>?_,I.free,I.kG,fun p hp=>?_,tracked ⟨oc,FF,I.kG x c hc⟩ hs,by simpa using I.len⟩ ⟨c,hs,.inr hc⟩
  ·exact(hs.2 b (Nat.ne_of_lt (Nat.lt_of_lt_of_le (Heap.lt_size e) (I.ok.rZ x c zk hc)))).trans (I.base.keep b o e n hb hx)
  ·obtain⟨sl,e1⟩:=I.base.slot b o e n hb hx
   exact⟨sl,(hs.2 b (Nat.ne_of_lt (Nat.lt_of_lt_of_le (Heap.lt_size e) (I.ok.rZ x c zk hc)))).trans e1⟩
  ·obtain⟨o',e1⟩:=I.base.there b o e hx
   exact⟨o',(hs.2 b (Nat.ne_of_lt (Nat.lt_of_lt_of_le (Heap.lt_size e) (I.ok.rZ x c zk hc)))).trans e1⟩
  ·by_cases hj:j=i
   ·subst hj
    rw [hi] at e1;cases e1
    rw [List.getElem?_set_self hiσ] at e2
    cases e2
    exact⟨u,r,.inr ⟨.inl hk,c,hc,hc'⟩⟩
   ·rw [List.getElem?_set_ne (Ne.symm hj)] at e2
    obtain⟨u',r',q⟩:=hl j y v' e1 e2 e3
    refine⟨u',r',?_⟩
    rcases q with q |⟨k,c',e,z'⟩
    ·exact .inl q
    ·refine .inr ⟨k,c',e,z'.sameBut hs ?_⟩
     rintro rfl
     exact hj (yf hN e1 (I.ok.inj _ _ _ e hc ▸ hi))
  ·by_cases F3:c'=c
   ·subst F3;exact⟨_,hc'⟩
   ·obtain⟨w2,z2⟩:=I.cell y c' e
    exact⟨w2,z2.sameBut hs F3⟩
  ·obtain⟨e,n,ne,nf,d⟩:=I.pin p hp
   refine⟨(hs.2 p.1 ?_).trans e,n,ne,nf,d⟩
   intro q
   rw [q,FF] at e
   have q':oc=p.2:=Option.some.inj e
   exact d w' (by rw [←q'];exact Q1)
theorem vV {M:Model}{A:Around}{E:Value->Shared->Prop}{i:Nat}{x:Str}{v:V}{u:Value}{Q:Unit->Shared->Prop}(I:Inv X ab σ H s) (hN:X.N.Nodup) (hi:X.N[i]? = some x) (hx:Loc X.env.scope x) (r:RelV v u)
  (h:∀ s',Inv X ab (σ.set i (some v)) H s'->Q () s') (hf:X.fn x=true\/X.env.scope.names.lookup x=some .local:=by first | exact .inl rfl | exact .inr rfl | assumption):wpAny M A (storeName X.env x u) Q E s:=
 Bb I hN hi hx r (fun s' I' _=>h s' I') hf
theorem Inv.call' {s':Shared}{ch:List Addr}(I:Inv X ab σ H s) (ho:s'.os=s.os) (u:Un (kF X.stack) ch H H' s.heap s'.heap) (aU:cP X.prog X.w H' s'.heap) (hg:AllBare s'.gens)
  (k8:∀ b∈ch,(b∈X.ex\/X.fB.heap.objs.size<=b)/\b≠X.env.locals/\(∀ x c,X.env.cells.lookup x=some c->c≠b)/\∀ p∈X.pn++ab,p.1≠b):Inv X ab σ H' s':=by
 obtain⟨h',g',d',t',o'⟩:=s'
 have e:o'=s.os:=ho
 subst e
 exact I.call (g':=g') (t':=t') (d':=d') u aU hg k8
end
abbrev XK:=Value->Option Addr->Hp->Prop
abbrev St:=List (Option V)
abbrev VK:=V->Hp->Prop
abbrev TE:=St->Hp->VK->Prop
abbrev TT:=St->Hp->(Bool->Hp->Prop)->Prop
abbrev TA:=St->Hp->(List V->Hp->Prop)->Prop
structure Ends where
 nx:St->Hp->Prop
 rt:VK
 bk:St->Hp->Prop:=fun _ _=>False
 ct:St->Hp->Prop:=fun _ _=>False
abbrev TS:=Ends->St->Hp->Prop
def EP (X:Cx) (ab:List (Addr×Obj)) (σ:St) (Q:VK) (u:Value) (s':Shared):Prop:=∃ v H',Inv X ab σ H' s'/\RelV v u/\Q v H'
def TP (X:Cx) (ab:List (Addr×Obj)) (σ:St) (Q:Bool->Hp->Prop) (b:Bool) (s':Shared):Prop:=∃ H',Inv X ab σ H' s'/\Q b H'
def AP (X:Cx) (ab:List (Addr×Obj)) (σ:St) (Q:List V->Hp->Prop) (us:List Value) (s':Shared):Prop:=∃ vs H',Inv X ab σ H' s'/\Vals vs us/\Q vs H'
def SP (X:Cx) (ab:List (Addr×Obj)) (D:Ends) (f:Flow) (s':Shared):Prop:=
 match f with
 | .next=>∃ σ' H',Inv X ab σ' H' s'/\D.nx σ' H'
 | .brk=>∃ σ' H',Inv X ab σ' H' s'/\D.bk σ' H'
 | .cont=>∃ σ' H',Inv X ab σ' H' s'/\D.ct σ' H'
 | .ret u=>∃ v σ' H',Inv X ab σ' H' s'/\RelV v u/\D.rt v H'
def PE (X:Cx) (e:Expr) (t:TE):Prop:=
 ∀(ab:List (Addr×Obj)) (s:Shared) (σ:St) (H:Hp) (Q:VK),Inv X ab σ H s->t σ H Q->wpAny (model X.prog X.w) X.A (eval e X.env) (EP X ab σ Q) X.xe s
def PT (X:Cx) (e:Expr) (t:TT):Prop:=
 ∀(ab:List (Addr×Obj)) (s:Shared) (σ:St) (H:Hp) (Q:Bool->Hp->Prop),Inv X ab σ H s->t σ H Q->wpAny (model X.prog X.w) X.A (isTrue e X.env (eval e X.env)) (TP X ab σ Q) X.xe s
def PW (X:Cx) (e:Expr) (t:TT):Prop:=
 ∀(whole:Sem Value) (ab:List (Addr×Obj)) (s:Shared) (σ:St) (H:Hp) (Q:Bool->Hp->Prop),Inv X ab σ H s->t σ H Q->wpAny (model X.prog X.w) X.A (isTrue e X.env whole) (TP X ab σ Q) X.xe s
theorem PW.pt {X:Cx}{e:Expr}{t:TT}(h:PW X e t):PT X e t:=h _
def PA (X:Cx) (es:List Expr) (t:TA):Prop:=
 ∀(pos:Pos) (ab:List (Addr×Obj)) (s:Shared) (σ:St) (H:Hp) (Q:List V->Hp->Prop),Inv X ab σ H s->t σ H Q->wpAny (model X.prog X.w) X.A (spliced (backTo pos (starEach es X.env))) (AP X ab σ Q) X.xe s
def PS (X:Cx) (st:Stmt) (t:TS):Prop:=
 ∀(ab:List (Addr×Obj)) (s:Shared) (σ:St) (H:Hp) (D:Ends),Inv X ab σ H s->t D σ H->wpAny (model X.prog X.w) X.A (exec st X.env) (SP X ab D) X.xe s
def fV (X:Cx) (st:List Stmt) (t:TS):Prop:=
 ∀(ab:List (Addr×Obj)) (s:Shared) (σ:St) (H:Hp) (D:Ends),Inv X ab σ H s->t D σ H->wpAny (model X.prog X.w) X.A (execs st X.env) (SP X ab D) X.xe s
theorem aV {α:Type}{t:Sem α}{Q Q':α->Shared->Prop}{M:Model}{A:Around}{E:Value->Shared->Prop}{s:Shared}(h:wpAny M A t Q E s) (hQ:∀ a s,Q a s->Q' a s):wpAny M A t Q' E s:=wpAny_mono h hQ fun _ _ x=>x
end L2
namespace L2
open PySem PySem.Spec PyProof.Rows
section
variable {X:Cx}
def bV (i:Nat):TE:=fun σ H Q=>∃ v,σ[i]? = some (some v)/\Q v H
def tC (v:V):TE:=fun _ H Q=>Q v H
theorem M5 {i:Nat}{x:Str}{pos:Pos}(hN:X.N[i]? = some x) (hv:oy X.env.scope x) (hd:(x == ("__debug__":Str))=false:=by decide) (kz:(x == ("__classdict__":Str))=false:=by decide):PE X (.Name x pos) (bV i):=by
 intro ab s σ H Q I h
 obtain⟨v,e,h⟩:=h
 obtain⟨m,hn,hl⟩:=I.loc
 obtain⟨u,r,l⟩:=hl i x v hN e hv
 have fin:EP X ab σ Q u s:=⟨v,H,I,r,h⟩
 rcases l with ⟨hk,hm⟩ |⟨hk,c,hc,uU⟩
 ·exact wpAny_Name (wpAny_loadName_local I.ok.kind hk hn hm fin) hd
 ·rcases hk with hk | hk
  ·exact wpAny_Name (wpAny_loadName_cell I.ok.kind hk hc uU fin) hd
  ·exact wpAny_Name (wpAny_loadName_free I.ok.kind hk hc uU fin kz) hd
theorem aq {i j pos}:PE X (.Constant (.int i) j pos) (tC (.int i)):=fun _ _ _ H _ I h=>wpAny_Constant_int ⟨.int i,H,I.tok _,⟨_,rfl⟩,h⟩
theorem iJ {b j pos}:PE X (.Constant (.bool b) j pos) (tC (.bl b)):=fun _ _ _ H _ I h=>Constant_bool ⟨.bl b,H,I,rfl,h⟩
theorem cj {j pos}:PE X (.Constant .none j pos) (tC .aD):=fun _ _ _ H _ I h=>Constant_none ⟨.aD,H,I,rfl,h⟩
def Gl (X:Cx) (x:Str):Prop:=X.env.kindOf x=some .globalImplicit
theorem pD {E:Value->Shared->Prop}{ab:List (Addr×Obj)}{s:Shared}{σ:St}{H:Hp}{x:Str}{u:Value}{pos:Pos}{Q:Value->Shared->Prop}(I:Inv X ab σ H s) (hg:Gl X x) (hm:X.mg x=some u) (h:Q u s)
  (hd:(x == ("__debug__":Str))=false:=by decide):wpAny (model X.prog X.w) X.A (eval (.Name x pos) X.env) Q E s:=
 Calls.Name_function_global I.ok.kind hg (Calls.loadGlobal_global (by rw [I.ok.glob];exact I.mod.glob.keeps I.bk) hm h) hd
theorem pE {E:Value->Shared->Prop}{ab:List (Addr×Obj)}{s:Shared}{σ:St}{H:Hp}{x:Str}{u:Value}{pos:Pos}{Q:Value->Shared->Prop}(I:Inv X ab σ H s) (hg:Gl X x) (hm:X.mg x=none) (hv:bootBuiltins x=some u) (h:Q u s)
  (hn:x ≠ "__name__":=by decide) (hd:(x == ("__debug__":Str))=false:=by decide):wpAny (model X.prog X.w) X.A (eval (.Name x pos) X.env) Q E s:=by
 obtain⟨mb,h1,h2⟩:=I.mod.blt
 exact Calls.Name_function_global I.ok.kind hg (Calls.loadGlobal_builtin (by rw [I.ok.glob];exact I.mod.glob.keeps I.bk) hm (by rw [I.ok.blt];exact h1.keeps I.bk) ((h2 x hn).trans hv) h) hd
theorem xH {x:Str}{v:V}{u:Value}{pos:Pos}(hg:Gl X x) (hm:X.mg x=some u) (r:RelV v u) (hd:(x == ("__debug__":Str))=false:=by decide):PE X (.Name x pos) (tC v):=
 fun _ _ _ H _ I h=>pD I hg hm ⟨v,H,I,r,h⟩ hd
variable {a b:Expr}{ta tb:TE}{pos:Pos}
def tB (t:TE):TT:=fun σ H Q=>t σ H fun x H1=>∃ c,x=.bl c/\Q c H1
theorem cO {e:Expr}{t:TE}(h:PE X e t) (he:∀ whole,isTrue e X.env whole=(do let v ← whole;standAt e.pos;holding [v] (truthy v)):=by intro _;rfl):PT X e (tB t):=by
 intro ab s σ H Q I hw
 refine isTrue_plain (aV (h ab s σ H _ I hw) fun v s1 ⟨x,H1,I1,r1,q1⟩=>?_) (he _)
 obtain⟨d,rfl,q⟩:=q1
 cases r1
 exact wpAny_truthy_bool ⟨H1,I1,q⟩
variable {tA tB':TT}{rest:List Expr}
def JT (t u:TT):TT:=fun σ H Q=>t σ H fun c H1=>if c=true then u σ H1 Q else Q false H1
def A7 (t u:TT):TT:=fun σ H Q=>t σ H fun c H1=>if c=true then Q true H1 else u σ H1 Q
def JH (t:TT):TT:=fun σ H Q=>t σ H fun c H1=>Q (!c) H1
theorem lE (ha:PT X a tA):PW X (.BoolOp .And [a] pos) tA:=by
 intro wh ab s σ H Q I h
 refine isTrue_and (aV (ha ab s σ H Q I h) fun c s1 e=>?_)
 cases c with
 | true=>exact isTrue_and_nil e
 | false=>exact e
theorem kh (ha:PT X a tA):PW X (.BoolOp .Or [a] pos) tA:=by
 intro wh ab s σ H Q I h
 refine isTrue_or (aV (ha ab s σ H Q I h) fun c s1 e=>?_)
 cases c with
 | false=>exact isTrue_or_nil e
 | true=>exact e
theorem lF (ha:PT X a tA) (hb:PW X (.BoolOp .And (b::rest) pos) tB'):PW X (.BoolOp .And (a::b::rest) pos) (JT tA tB'):=by
 intro wh ab s σ H Q I h
 refine isTrue_and (aV (ha ab s σ H _ I h) fun c s1 ⟨H1,I1,q1⟩=>?_)
 cases c with
 | true=>exact hb wh ab s1 σ H1 Q I1 q1
 | false=>exact⟨H1,I1,q1⟩
theorem i7 (ha:PT X a tA) (hb:PW X (.BoolOp .Or (b::rest) pos) tB'):PW X (.BoolOp .Or (a::b::rest) pos) (A7 tA tB'):=by
 intro wh ab s σ H Q I h
 refine isTrue_or (aV (ha ab s σ H _ I h) fun c s1 ⟨H1,I1,q1⟩=>?_)
 cases c with
 | true=>exact⟨H1,I1,q1⟩
 | false=>exact hb wh ab s1 σ H1 Q I1 q1
theorem fg (ha:PT X a tA):PT X (.UnaryOp .Not a pos) (JH tA):=by
 intro ab s σ H Q I h
 exact isTrue_not (ha ab s σ H (fun c H1=>Q (!c) H1) I h)
def vR (ta tb:TE):TE:=fun σ H Q=>ta σ H fun x H1=>∃ c,x=.bl c/\if c=true then tb σ H1 Q else Q (.bl false) H1
def A6 (ta tb:TE):TE:=fun σ H Q=>ta σ H fun x H1=>∃ c,x=.bl c/\if c=true then Q (.bl true) H1 else tb σ H1 Q
theorem mv {op}{t:TE}(h:PE X a t):PE X (.BoolOp op [a] pos) t:=fun ab s σ H Q I hw=>BoolOp_one (h ab s σ H Q I hw)
theorem oV (ha:PE X a ta) (hb:PE X (.BoolOp .And (b::rest) pos) tb):PE X (.BoolOp .And (a::b::rest) pos) (vR ta tb):=by
 intro ab s σ H Q I h
 refine BoolOp_and (aV (ha ab s σ H _ I h) fun v s1 ⟨x,H1,I1,r1,q1⟩=>?_)
 obtain⟨c,rfl,q1⟩:=q1
 cases r1
 refine wpAny_truthy_bool ?_
 cases c with
 | true=>exact hb ab s1 σ H1 Q I1 q1
 | false=>exact⟨.bl false,H1,I1,rfl,q1⟩
theorem DN (ha:PE X a ta) (hb:PE X (.BoolOp .Or (b::rest) pos) tb):PE X (.BoolOp .Or (a::b::rest) pos) (A6 ta tb):=by
 intro ab s σ H Q I h
 refine BoolOp_or (aV (ha ab s σ H _ I h) fun v s1 ⟨x,H1,I1,r1,q1⟩=>?_)
 obtain⟨c,rfl,q1⟩:=q1
 cases r1
 refine wpAny_truthy_bool ?_
 cases c with
 | false=>exact hb ab s1 σ H1 Q I1 q1
 | true=>exact⟨.bl true,H1,I1,rfl,q1⟩
def A8 (t:TT) (ta tb:TE):TE:=fun σ H Q=>t σ H fun c H1=>if c=true then ta σ H1 Q else tb σ H1 Q
theorem i9 {c:Expr}(hc:PT X c tA) (ha:PE X a ta) (hb:PE X b tb):PE X (.IfExp c a b pos) (A8 tA ta tb):=by
 intro ab s σ H Q I h
 refine wpAny_IfExp (aV (hc ab s σ H _ I h) fun d s1 ⟨H1,I1,q1⟩=>?_)
 cases d with
 | true=>exact ha ab s1 σ H1 Q I1 q1
 | false=>exact hb ab s1 σ H1 Q I1 q1
end
end L2
namespace L2
open PySem PySem.Spec PyProof.Rows
def ai (K:PySem.W.Frag) (H:Hp) (a:Addr) (xs:List V):Prop:=
 Rd H a (.lst xs) \/
  ∃(o:Obj) (au:Array Value) (n:Nat),K.lookup a=some o/\o.cls=.type "list"/\o.dict=none/\o.data=.seq au n/\au.size<=sizeLine/\Vals xs au.toList
def cE (K:PySem.W.Frag) (H:Hp) (a:Addr) (xs:List V):Prop:=
 Rd H a (.tup xs) \/
  ∃(o:Obj) (au:Array Value) (n:Nat),K.lookup a=some o/\o.cls=.type "tuple"/\o.data=.seq au n/\au.size<=sizeLine/\Vals xs au.toList
def WW:Value->Option V
 | .none=>some .aD
 | .bool b=>some (.bl b)
 | .int i _=>some (.int i)
 | .str x _=>some (.str x)
 | .bytes b _=>some (.hG b)
 | .float b _=>some (.va b)
 | .ref a=>some (.ref a)
 | .type n=>some (.ty n)
 |_=>none
theorem RelV.abs {x:V}{u:Value}(r:RelV x u):WW u=some x:=by
 cases x with
 | aD=>cases r;rfl
 | bl _=>cases r;rfl
 | int _=>obtain⟨t,rfl⟩:=r;rfl
 | str _=>obtain⟨t,rfl⟩:=r;rfl
 | hG _=>obtain⟨t,rfl⟩:=r;rfl
 | va _=>obtain⟨t,rfl⟩:=r;rfl
 | ref _=>cases r;rfl
 | ty _=>cases r;rfl
theorem RelV.inj {x y:V}{u:Value}(r:RelV x u) (q:RelV y u):x=y:=Option.some.inj (r.abs.symm.trans q.abs)
theorem Vals.inj:∀ {xs ys:List V}{us:List Value},Vals xs us->Vals ys us->xs=ys
 |_,_,_,.nil,.nil=>rfl
 |_,_,_,.cons r t,.cons r' t'=>by rw [r.inj r',Vals.inj t t']
section
variable {X:Cx}{ab:List (Addr×Obj)}{σ:St}{H:Hp}{s:Shared}{a:Addr}{xs ys:List V}
theorem ai.of {K:PySem.W.Frag}(h:H a=some (.lst xs)):ai K H a xs:=.inl (.inl h)
theorem cE.of {K:PySem.W.Frag}(h:H a=some (.tup xs)):cE K H a xs:=.inl (.inl h)
theorem Inv.list (I:Inv X ab σ H s) (h:ai X.K H a xs):∃ au:List Value,Vals xs au/\PlainL s.heap a au.toArray/\xs.length<=sizeLine:=by
 rcases h with h |⟨o,au,n,hk,hc,hd,hs,hz,r⟩
 ·obtain⟨z,au,n,r,e⟩:=h.ok I.aU
  exact⟨au,r,⟨_,n,e,rfl,rfl,rfl⟩,z⟩
 ·refine⟨au.toList,r,⟨o,n,I.fP a o hk,hc,hd,by simpa using hs⟩,?_⟩
  have e:=r.length
  simp only [Array.length_toList] at e
  omega
theorem Inv.tuple (I:Inv X ab σ H s) (h:cE X.K H a xs):∃ au:List Value,Vals xs au/\IsTup s.heap a au.toArray/\xs.length<=sizeLine:=by
 rcases h with h |⟨o,au,n,hk,hc,hs,hz,r⟩
 ·obtain⟨z,au,r,p⟩:=h.ok I.aU
  exact⟨au,r,p,z⟩
 ·refine⟨au.toList,r,⟨o,I.fP a o hk,hc,n,by simpa using hs⟩,?_⟩
  have e:=r.length
  simp only [Array.length_toList] at e
  omega
theorem Inv.uy (I:Inv X ab σ H s) (h:ai X.K H a xs) (h':ai X.K H a ys):xs=ys:=by
 obtain⟨au,r,⟨o,n,e,_,_,d⟩,_⟩:=I.list h
 obtain⟨its',r',⟨o',n',e',_,_,d'⟩,_⟩:=I.list h'
 rw [e] at e';cases e'
 rw [d] at d'
 injection d' with d1 _
 have:au=its':=by simpa using congrArg Array.toList d1
 subst this
 exact r.inj r'
theorem Inv.Jp (I:Inv X ab σ H s) (h:cE X.K H a xs) (h':cE X.K H a ys):xs=ys:=by
 obtain⟨au,r,⟨o,e,_,n,d⟩,_⟩:=I.tuple h
 obtain⟨its',r',⟨o',e',_,n',d'⟩,_⟩:=I.tuple h'
 rw [e] at e';cases e'
 rw [d] at d'
 injection d' with d1 _
 have:au=its':=by simpa using congrArg Array.toList d1
 subst this
 exact r.inj r'
end
abbrev Cx.kK (X:Cx) (E:Value->Shared->Prop):Cx:={ X with xe:=E }
abbrev Cx.kS (X:Cx):Cx:=X.kK fun _ _=>False
theorem Cx.Ok.kK {X:Cx}(ok:X.Ok) (E:Value->Shared->Prop):(X.kK E).Ok:=
 ⟨ok.mod,ok.kind,ok.glob,ok.blt,ok.above,ok.inj,ok.has,ok.rZ,ok.hd,ok.frames,ok.aG,ok.vc,ok.bs,ok.lX,ok.qQ,ok.rS,ok.jU,ok.nY⟩
theorem Cx.Ok.l7 {X:Cx}{E:Value->Shared->Prop}(ok:(X.kK E).Ok):X.Ok:=
 ⟨ok.mod,ok.kind,ok.glob,ok.blt,ok.above,ok.inj,ok.has,ok.rZ,ok.hd,ok.frames,ok.aG,ok.vc,ok.bs,ok.lX,ok.qQ,ok.rS,ok.jU,ok.nY⟩
section
variable {X:Cx}{ab:List (Addr×Obj)}{σ:St}{H:Hp}{s:Shared}{E:Value->Shared->Prop}
theorem Inv.kK (I:Inv X ab σ H s) (E:Value->Shared->Prop):Inv (X.kK E) ab σ H s:=⟨I.ok.kK E,I.os,I.bare,I.base,I.loc,I.cell,I.free,I.kG,I.pin,I.aU,I.len⟩
theorem Inv.l7 (I:Inv (X.kK E) ab σ H s):Inv X ab σ H s:=⟨I.ok.l7,I.os,I.bare,I.base,I.loc,I.cell,I.free,I.kG,I.pin,I.aU,I.len⟩
theorem SP.l7 {D:Ends}{f:Flow}{s':Shared}(h:SP (X.kK E) ab D f s'):SP X ab D f s':=by
 cases f with
 | next=>obtain⟨σ',H',I,q⟩:=h;exact⟨σ',H',I.l7,q⟩
 | brk=>obtain⟨σ',H',I,q⟩:=h;exact⟨σ',H',I.l7,q⟩
 | cont=>obtain⟨σ',H',I,q⟩:=h;exact⟨σ',H',I.l7,q⟩
 | ret u=>obtain⟨v,σ',H',I,r,q⟩:=h;exact⟨v,σ',H',I.l7,r,q⟩
theorem fV.kS {st:List Stmt}{t:TS}(h:fV X.kS st t):fV X st t:=fun ab s σ H D I hw=>
 wpAny_mono (h ab s σ H D (I.kK _) hw) (fun _ _ q=>q.l7) fun _ _ z=>False.elim z
end
section
variable {X:Cx}{st:Stmt}{rest:List Stmt}{t u:TS}{e:Expr}{te:TE}{pos:Pos}
def jB:TS:=fun D σ H=>D.nx σ H
def iA (t u:TS):TS:=fun D σ H=>t { D with nx:=u D } σ H
theorem aY:fV X [] jB:=fun _ _ σ H _ I h=>wpAny_execs_nil ⟨σ,H,I,h⟩
theorem ag (h1:PS X st t) (h2:fV X rest u):fV X (st::rest) (iA t u):=by
 intro ab s σ H D I h
 refine wpAny_execs_cons (aV (h1 ab s σ H { D with nx:=u D } I h) fun f s1 q=>?_)
 cases f with
 | next=>
  obtain⟨σ',H',I',q⟩:=q
  exact h2 ab s1 σ' H' D I' q
 | ret v=>exact q
 | brk=>exact q
 | cont=>exact q
theorem ak (h1:PS X st t):fV X [st] t:=by
 intro ab s σ H D I h
 refine wpAny_execs_cons (aV (h1 ab s σ H D I h) fun f s1 q=>?_)
 cases f with
 | next=>exact wpAny_execs_nil q
 | ret v=>exact q
 | brk=>exact q
 | cont=>exact q
def JP:TS:=fun D σ H=>D.bk σ H
theorem xE:PS X (.Break pos) JP:=fun _ _ σ H _ I h=>wpAny_Break ⟨σ,H,I,h⟩
theorem Inv.quiet {ab:List (Addr×Obj)}{σ:St}{H:Hp}{s:Shared}(I:Inv X ab σ H s):interactive X.env=false:=by simp [interactive,I.ok.kind]
def sV (te:TE):TS:=fun D σ H=>te σ H fun _ H1=>D.nx σ H1
theorem fC (he:PE X e te) (hs:swapsWith e none pos.line X.env=pure false:=by rfl):PS X (.Expr e pos) (sV te):=by
 intro ab s σ H D I h
 exact wpAny_Expr_any (aV (he ab s σ H _ I h) fun v s1 ⟨x,H1,I1,r1,q1⟩=>⟨σ,H1,I1,q1⟩) I.quiet hs
def iB (te:TE):TS:=fun D σ H=>te σ H D.rt
theorem ay (he:PE X e te):PS X (.Return (some e) pos) (iB te):=by
 intro ab s σ H D I h
 exact wpAny_Return_some (aV (he ab s σ H _ I h) fun v s1 ⟨x,H1,I1,r1,q1⟩=>⟨x,σ,H1,I1,r1,q1⟩)
def lB (c:TT) (t u:TS):TS:=fun D σ H=>c σ H fun b H1=>if b=true then t D σ H1 else u D σ H1
theorem aX {c:Expr}{a b:List Stmt}{tc:TT}(hc:PT X c tc) (ha:fV X a t) (hb:fV X b u):PS X (.If c a b pos) (lB tc t u):=by
 intro ab s σ H D I h
 refine wpAny_If (aV (hc ab s σ H _ I h) fun d s1 ⟨H1,I1,q1⟩=>?_)
 cases d with
 | true=>exact ha ab s1 σ H1 D I1 q1
 | false=>exact hb ab s1 σ H1 D I1 q1
end
abbrev TG:=V->St->Hp->(St->Hp->Prop)->Prop
abbrev oz:=List V->St->Hp->(St->Hp->Prop)->Prop
def PG (X:Cx) (target:Expr) (t:TG):Prop:=
 ∀(ab:List (Addr×Obj)) (s:Shared) (σ:St) (H:Hp) (v:V) (u:Value) (Q:St->Hp->Prop),Inv X ab σ H s->RelV v u->t v σ H Q->
  wpAny (model X.prog X.w) X.A (assign target X.env u) (fun _ s'=>∃ σ' H',Inv X ab σ' H' s'/\Q σ' H') X.xe s
def vy (X:Cx) (ts:List Expr) (t:oz):Prop:=
 ∀(ab:List (Addr×Obj)) (s:Shared) (σ:St) (H:Hp) (vs:List V) (us:List Value) (Q:St->Hp->Prop),Inv X ab σ H s->Vals vs us->t vs σ H Q->
  wpAny (model X.prog X.w) X.A (assignInOrder ((assignEach ts X.env).map (·.2)) us) (fun _ s'=>∃ σ' H',Inv X ab σ' H' s'/\Q σ' H') X.xe s
abbrev Ak:=V->V->V->Hp->(Hp->Prop)->Prop
def IA (X:Cx) (t:Ak):Prop:=
 ∀(ab:List (Addr×Obj)) (s:Shared) (σ:St) (H:Hp) (o i v:V) (ov iv u:Value) (Q:Hp->Prop),Inv X ab σ H s->RelV o ov->RelV i iv->RelV v u->t o i v H Q->
  wpAny (model X.prog X.w) X.A (setItem ov iv u) (fun _ s'=>∃ H',Inv X ab σ H' s'/\Q H') X.xe s
abbrev qg:=V->V->Hp->VK->Prop
def vx (X:Cx) (op:Operator) (t:qg):Prop:=
 ∀(ab:List (Addr×Obj)) (s:Shared) (σ:St) (H:Hp) (x y:V) (v u:Value) (Q:VK),Inv X ab σ H s->RelV x v->RelV y u->t x y H Q->
  wpAny (model X.prog X.w) X.A (inplaceOp op v u) (EP X ab σ Q) X.xe s
section
variable {X:Cx}{pos:Pos}
def jm (i:Nat):TG:=fun v σ H Q=>Q (σ.set i (some v)) H
theorem dk {i:Nat}{x:Str}(hN:X.N.Nodup) (hi:X.N[i]? = some x) (hx:Loc X.env.scope x) (hf:X.fn x=true\/X.env.scope.names.lookup x=some .local:=by first | exact .inl rfl | exact .inr rfl | assumption):PG X (.Name x pos) (jm i):=by
 intro ab s σ H v u Q I r h
 exact wpAny_assign_Name (vV I hN hi hx r (fun s' I'=>⟨_,H,I',h⟩) hf)
def GB:oz:=fun vs σ H Q=>vs=[]/\Q σ H
def zF (t:TG) (u:oz):oz:=fun vs σ H Q=>∃ v r,vs=v::r/\t v σ H fun σ' H'=>u r σ' H' Q
theorem M0:vy X [] GB:=by
 intro ab s σ H vs us Q I r h
 obtain⟨e,h⟩:=h
 subst e
 cases r
 exact assignInOrder_nil ⟨σ,H,I,h⟩
theorem DL {e:Expr}{es:List Expr}{t:TG}{u:oz}(h1:PG X e t) (h2:vy X es u)
  (hs:(assignEach (e::es) X.env).map (·.2)=assign e X.env::(assignEach es X.env).map (·.2):=by rfl):vy X (e::es) (zF t u):=by
 intro ab s σ H vs us Q I r h
 obtain⟨v,vr,e1,h⟩:=h
 subst e1
 cases r with
 | cons r rr=>
  rw [hs]
  refine assignInOrder_cons (aV (h1 ab s σ H _ _ _ I r h) fun _ s1 ⟨σ1,H1,I1,q1⟩=>?_)
  exact h2 ab s1 σ1 H1 _ _ Q I1 rr q1
def GA (K:PySem.W.Frag) (n:Nat) (t:oz):TG:=fun v σ H Q=>∃ a xs,v=.ref a/\cE K H a xs/\xs.length=n/\t xs σ H Q
theorem M3 {es:List Expr}{k:Nat}{t:oz}{n:Nat}(hc:X.calm=true) (h:vy X es t)
  (hn:(assignEach es X.env).length=n:=by rfl) (eZ:(assignEach es X.env).findIdx? (·.1)=none:=by rfl):PG X (.Tuple es k pos) (GA X.K n t):=by
 intro ab s σ H v u Q I r hw
 obtain⟨a,xs,e1,hq,hl,hw⟩:=hw
 subst e1
 cases r
 obtain⟨au,rv,ht,hz⟩:=I.tuple hq
 refine assign_Tuple_tuple (I.ok.hd hc) ht (by simp [hn,←hl,rv.length]) eZ fun h' hx=>?_
 have I1:Inv X ab σ H { s with heap:=h' }:=I.kept (t':=s.toks) fun b o e=>hx b o (Nat.ne_of_lt (Heap.lt_size e)) e
 exact h ab _ σ H xs _ Q I1 (by simpa using rv) hw
def me (te:TE) (g:TG):TS:=fun D σ H=>te σ H fun x H1=>g x σ H1 D.nx
theorem Dx {i:Nat}{x:Str}{e:Expr}{te:TE}{pos':Pos}(hN:X.N.Nodup) (hi:X.N[i]? = some x) (hx:Loc X.env.scope x) (he:PE X e te) (hs:swapsWith e (some (.Name x pos')) pos.line X.env=pure false:=by rfl) (hf:X.fn x=true\/X.env.scope.names.lookup x=some .local:=by first | exact .inl rfl | exact .inr rfl | assumption) :
  PS X (.Assign [.Name x pos'] e pos) (me te (jm i)):=by
 intro ab s σ H D I h
 refine wpAny_Assign_Name (aV (he ab s σ H _ I h) fun v s1 ⟨y,H1,I1,r1,q1⟩=>?_) hs
 exact vV I1 hN hi hx r1 (fun s2 I2=>⟨_,H1,I2,q1⟩) hf
def JS (i:Nat) (te:TE) (ti:qg):TS:=fun D σ H=>∃ x,σ[i]? = some (some x)/\te σ H fun y H1=>ti x y H1 fun z H2=>D.nx (σ.set i (some z)) H2
theorem jE {i:Nat}{x:Str}{e:Expr}{te:TE}{op:Operator}{ti:qg}{pos':Pos}(hN:X.N.Nodup) (hi:X.N[i]? = some x) (hx:Loc X.env.scope x) (he:PE X e te) (ho:vx X op ti) (hf:X.fn x=true\/X.env.scope.names.lookup x=some .local:=by first | exact .inl rfl | exact .inr rfl | assumption) :
  PS X (.AugAssign (.Name x pos') op e pos) (JS i te ti):=by
 intro ab s σ H D I h
 obtain⟨v,e1,h⟩:=h
 obtain⟨m,hn,hl⟩:=I.loc
 have IU:oy X.env.scope x:=by rcases hx with k | k;exact .inl k;exact .inr (.inl k)
 obtain⟨u,r,l⟩:=hl i x v hi e1 IU
 refine wpAny_AugAssign_Name ?_
 have go:wpAny (model X.prog X.w) X.A (eval e X.env) (fun w s₂=>wpAny (model X.prog X.w) X.A (inplaceOp op u w) (fun r s₃=>wpAny (model X.prog X.w) X.A (storeName X.env x r) (fun _=>SP X ab D .next) X.xe s₃) X.xe s₂) X.xe s:=by
  refine aV (he ab s σ H _ I h) fun w s1 ⟨y,H1,I1,r1,q1⟩=>?_
  refine aV (ho ab s1 σ H1 v y u w _ I1 r r1 q1) fun z s2 ⟨zv,H2,I2,r2,q2⟩=>?_
  exact vV I2 hN hi hx r2 (fun s3 I3=>⟨_,H2,I3,q2⟩) hf
 rcases l with ⟨hk,hm⟩ |⟨hk,c,hc,uU⟩
 ·exact wpAny_loadName_local I.ok.kind hk hn hm go
 ·rcases hk with hk | hk
  ·exact wpAny_loadName_cell I.ok.kind hk hc uU go
  ·rcases hx with k | k
   ·have:X.env.scope.names.lookup x=some .free:=hk
    rw [k] at this;cases this
   ·have:X.env.scope.names.lookup x=some .free:=hk
    rw [k] at this;cases this
def JR (to ti te:TE) (sS:V->V->Hp->VK->Prop) (sR:qg) (sP:Ak):TS:=fun D σ H=>to σ H fun o H1=>ti σ H1 fun i H2=>sS o i H2 fun x H3=>te σ H3 fun y H4=>sR x y H4 fun z H5=>sP o i z H5 fun H6=>D.nx σ H6
def IB (X:Cx) (t:V->V->Hp->VK->Prop):Prop:=
 ∀(ab:List (Addr×Obj)) (s:Shared) (σ:St) (H:Hp) (o i:V) (ov iv:Value) (Q:VK),Inv X ab σ H s->RelV o ov->RelV i iv->t o i H Q->
  wpAny (model X.prog X.w) X.A (getItem ov iv) (EP X ab σ Q) X.xe s
theorem MW {o i e:Expr}{to ti te:TE}{sS:V->V->Hp->VK->Prop}{sR:qg}{sP:Ak}{op:Operator}{jy:Pos}(ho:PE X o to) (hi:PE X i ti) (hg:IB X sS) (he:PE X e te) (hp:vx X op sR) (hs:IA X sP)
  (ha:∀ ov iv new,augStore i ov iv new=(do holding [new,ov,iv] (setItem ov iv new);release [new,ov,iv] [];pure .next):=by intros;rfl):PS X (.AugAssign (.Subscript o i jy) op e pos) (JR to ti te sS sR sP):=by
 intro ab s σ H D I h
 refine wpAny_AugAssign_SubscriptAny (aV (ho ab s σ H _ I h) fun ov s1 ⟨x1,H1,I1,r1,q1⟩=>?_) ha
 refine aV (hi ab s1 σ H1 _ I1 q1) fun iv s2 ⟨x2,H2,I2,r2,q2⟩=>?_
 refine aV (hg ab s2 σ H2 x1 x2 ov iv _ I2 r1 r2 q2) fun old s3 ⟨x3,H3,I3,r3,q3⟩=>?_
 refine aV (he ab s3 σ H3 _ I3 q3) fun v s4 ⟨x4,H4,I4,r4,q4⟩=>?_
 refine aV (hp ab s4 σ H4 x3 x4 old v _ I4 r3 r4 q4) fun new s5 ⟨x5,H5,I5,r5,q5⟩=>?_
 exact aV (hs ab s5 σ H5 x1 x2 x5 ov iv new _ I5 r1 r2 r5 q5) fun _ s6 ⟨H6,I6,q6⟩=>⟨σ,H6,I6,q6⟩
def E9 (f:Int->Int->Int):qg:=fun x y H Q=>∃ i j,x=.int i/\y=.int j/\Q (.int (f i j)) H
theorem lK:vx X .Add (E9 fun i j=>i+j):=by
 intro ab s σ H x y v u Q I r1 r2 h
 obtain⟨i,j,e1,e2,q⟩:=h
 subst e1;subst e2
 obtain⟨t,rfl⟩:=r1
 obtain⟨t',rfl⟩:=r2
 exact iadd_int ⟨.int _,H,I.tok _,⟨_,rfl⟩,q⟩
theorem uE:vx X .Sub (E9 fun i j=>i-j):=by
 intro ab s σ H x y v u Q I r1 r2 h
 obtain⟨i,j,e1,e2,q⟩:=h
 subst e1;subst e2
 obtain⟨t,rfl⟩:=r1
 obtain⟨t',rfl⟩:=r2
 exact isub_int ⟨.int _,H,I.tok _,⟨_,rfl⟩,q⟩
end
section
variable {X:Cx}{pos:Pos}
def JE (c:TT) (tb:TS):TS:=fun D σ H=>∃ W:Nat->St->Hp->Prop,(∃ m,W m σ H)/\∀ m σ H,W m σ H->
 c σ H fun b H1=>if b=true then ∃ N:St->Hp->Prop,(∀ σ' H',N σ' H'->∃ m',m'<m/\W m' σ' H')/\tb { D with nx:=N,ct:=N,bk:=D.nx } σ H1 else D.nx σ H1
theorem mn {c:Expr}{body:List Stmt}{tc:TT}{tb:TS}(hp:PassesOwn (model X.prog X.w) X.A X.env X.xe) (hc:PT X c tc) (hb:fV X body tb):PS X (.While c body [] pos) (JE tc tb):=by
 intro ab s σ H D I h
 obtain⟨W,⟨m0,w0⟩,turn⟩:=h
 refine wpAny_While (codeAny_whileLoop (fun n s'=>∃ σ' H',Inv X ab σ' H' s'/\W n σ' H') ?_ m0 ⟨σ,H,I,w0⟩)
 rintro n s1 ⟨σ1,H1,I1,w1⟩
 refine wpAny_passesOwn hp (aV (hc ab s1 σ1 H1 _ I1 (turn n σ1 H1 w1)) fun b s2 ⟨H2,I2,q2⟩=>?_)
 cases b with
 | true=>
  obtain⟨N,hN,q2⟩:=q2
  rw [if_pos rfl]
  refine wpAny_passesOwn hp (aV (hb ab s2 σ1 H2 _ I2 q2) fun f s3 q3=>?_)
  cases f with
  | next=>
   obtain⟨σ3,H3,I3,n3⟩:=q3
   obtain⟨m',hm,w3⟩:=hN σ3 H3 n3
   exact⟨m',hm,σ3,H3,I3,w3⟩
  | cont=>
   obtain⟨σ3,H3,I3,n3⟩:=q3
   obtain⟨m',hm,w3⟩:=hN σ3 H3 n3
   exact⟨m',hm,σ3,H3,I3,w3⟩
  | brk=>exact q3
  | ret v=>exact q3
 | false=>
  rw [if_neg Bool.false_ne_true]
  exact wpAny_execs_nil ⟨σ1,H2,I2,q2⟩
end
structure It where
 go:Nat->Hp->Prop
 jx:Nat->Hp->V->Hp->Prop
 stop:Nat->Hp->Prop
def j0 (X:Cx) (ab:List (Addr×Obj)) (H:Hp) (b:Addr):Prop:=
 H b=none/\b≠X.env.locals/\b ∉ X.fs/\(b∈X.ex\/X.fB.heap.objs.size<=b)/\(∀ x c,X.env.cells.lookup x=some c->c≠b)/\∀ p∈X.pn++ab,p.1≠b
theorem Inv.nZ {X:Cx}{ab:List (Addr×Obj)}{σ:St}{H H':Hp}{s:Shared}{b:Addr}(I:Inv X ab σ H s) (hb:s.heap.objs.size<=b) (hn:H' b=none):j0 X ab H' b:=by
 refine⟨hn,Nat.ne_of_gt (Nat.lt_of_lt_of_le I.lt hb),I.OV hb,.inr (Nat.le_trans I.sz hb),fun x c e z=>?_,fun p hp z=>?_⟩
 ·obtain⟨v,q⟩:=I.cell x c e
  exact absurd (Nat.lt_of_lt_of_le q.lt (by rw [z];exact hb)) (Nat.lt_irrefl _)
 ·exact absurd (Nat.lt_of_lt_of_le (Heap.lt_size (I.pin p hp).1) (by rw [z];exact hb)) (Nat.lt_irrefl _)
structure Turn (P:Program) (w:World) (K:PySem.W.Frag) (tg:Expr) (J:It) (fp:List Addr) (it:Addr) (tn:Nat->Heap->Prop):Prop where
 mem:it∈fp
 obj:∀ i h,tn i h->∀ b∈fp,∃ o,h.get? b=some o/\∀ v,o.data≠.cell v
 keep:∀ i h h',tn i h->(∀ b∈fp,∀ o,h.get? b=some o->h'.get? b=some o)->tn i h'
 item:∀(X:Cx),X.prog=P->X.w=w->X.K=K->X.calm=true->∀(i:Nat) (ab:List (Addr×Obj)) (s:Shared) (σ:St) (H:Hp) (E:Value->Shared->Prop),Inv X ab σ H s->(∀ b∈fp,j0 X ab H b)->tn i s.heap->J.go i H->
  wpAny (model P w) X.A (pyNext (.ref it)) (fun r s1=>∃ u,r=some u /\
   wpAny (model P w) X.A (letOwnedTupleGo tg (.ref it) u) (fun _ s2=>∃ x H',Inv X ab σ H' s2/\RelV x u/\J.jx i H x H'/\tn (i+1) s2.heap/\∀ b∈fp,H' b=none) E s1) E s
 done:∀(X:Cx),X.prog=P->X.w=w->X.K=K->X.calm=true->∀(i:Nat) (ab:List (Addr×Obj)) (s:Shared) (σ:St) (H:Hp) (E:Value->Shared->Prop),Inv X ab σ H s->(∀ b∈fp,j0 X ab H b)->tn i s.heap->J.stop i H->
  wpAny (model P w) X.A (pyNext (.ref it)) (fun r s1=>r=none/\Inv X ab σ H s1) E s
 self:∀(A:Around) (i:Nat) (s:Shared) (Q:Value->Shared->Prop) (E:Value->Shared->Prop),tn i s.heap->Q (.ref it) s->wpAny (model P w) A (pyIter (.ref it)) Q E s
abbrev TI:=St->Hp->(It->Hp->Prop)->Prop
def Ar (X:Cx) (ab:List (Addr×Obj)) (σ:St) (tg:Expr) (R:It->Hp->Prop) (yE:Value) (s2:Shared):Prop:=
 ∃(it:Addr) (fp:List Addr) (tn:Nat->Heap->Prop) (J:It) (H':Hp),yE=.ref it/\Inv X ab σ H' s2/\Turn X.prog X.w X.K tg J fp it tn/\tn 0 s2.heap/\(∀ b∈fp,j0 X ab H' b)/\R J H'
def PI (X:Cx) (tg iter:Expr) (wi:TI):Prop:=
 ∀(ab:List (Addr×Obj)) (s:Shared) (σ:St) (H:Hp) (R:It->Hp->Prop),Inv X ab σ H s->wi σ H R->
  wpAny (model X.prog X.w) X.A (eval iter X.env) (fun v s1=>wpAny (model X.prog X.w) X.A (pyIter v) (Ar X ab σ tg R) X.xe s1) X.xe s
theorem u0 {M:Model}{A:Around}{E:Value->Shared->Prop}{s:Shared}{tg:Expr}{it:Addr}{u:Value}{o:Obj}{n:String}{vs:Array Value}{Q:Unit->Shared->Prop}(ho:s.heap.get? it=some o) (hc:o.cls=.type n) (hd:o.data=.fields vs)
  (hn:["enumerate","zip","dict_itemiterator","dict_reverseitemiterator","odict_iterator","itertools.zip_longest","itertools.pairwise"].contains n=false) (hQ:Q () s):wpAny M A (letOwnedTupleGo tg (.ref it) u) Q E s:=by
 unfold letOwnedTupleGo
 cases tg<;>first
  | exact wpAny_pure hQ
  |(cases u<;>first
    | exact wpAny_pure hQ
    |(refine wpAny_bind (wpAny_load ho ?_)
      rw [hc,hd]
      show wpAny M A (if(["enumerate","zip","dict_itemiterator","dict_reverseitemiterator","odict_iterator","itertools.zip_longest","itertools.pairwise"].contains n&&vs[0]? == some (rawInt _))=true then _ else _) Q E s
      rw [if_neg (by intro h;rw [hn,Bool.false_and] at h;cases h)]
      exact wpAny_pure hQ))
def mY (K:PySem.W.Frag) (a:Addr):It:=
 ⟨fun i H=>∃ xs x,ai K H a xs/\xs[i]? = some x,fun i H x H'=>H'=H/\∀ xs,ai K H a xs->xs[i]? = some x,fun i H=>∃ xs,ai K H a xs/\xs.length<=i⟩
def sy (K:PySem.W.Frag) (a:Addr):It:=
 ⟨fun i H=>∃ xs x,cE K H a xs/\xs[i]? = some x,fun i H x H'=>H'=H/\∀ xs,cE K H a xs->xs[i]? = some x,fun i H=>∃ xs,cE K H a xs/\xs.length<=i⟩
def l4 (lo:Int) (n:Nat):It:=⟨fun i _=>i<n,fun i H x H'=>H'=H/\x=.int (lo+i),fun i _=>n<=i⟩
theorem Jn {P:Program}{w:World}{K:PySem.W.Frag}{tg:Expr}(a it:Addr):Turn P w K tg (mY K a) [it] it (fun i h=>h.IsListIter it a i) where
 mem:=by simp
 obj:=fun i h st b hb=>by
  have e:b=it:=by simpa using hb
  subst e
  obtain⟨o,e,c,d⟩:=st
  exact⟨o,e,fun v z=>by rw [d] at z;cases z⟩
 keep:=fun i h h' st k=>st.at fun o e=>k it (by simp) o e
 item:=by
  intro X hP hw hK hc i ab s σ H E I hf st hg
  subst hP hw hK
  obtain⟨xs,x,hq,hx⟩:=hg
  obtain⟨au,rv,p,hz⟩:=I.list hq
  obtain⟨u,hu,ru⟩:=rv.get hx
  obtain⟨f0,f1,f2,f3,f4,f5⟩:=hf it (by simp)
  refine wpAny_pyNext_list_item st p.isList (x:=u) (by simpa using hu) fun h' st' sb=>?_
  have I1:Inv X ab σ H { s with heap:=h' }:=I.turned (t':=s.toks) (fun b o hb e=>(sb.2 b hb).trans e) f0 f1 f3 f4 f5
  obtain⟨o,e,c,d⟩:=id st'
  exact⟨u,rfl,u0 (s:={ s with heap:=h' }) e c d (by decide) ⟨x,H,I1,ru,⟨rfl,fun ys hy=>by rw [I.uy hy hq];exact hx⟩,st',fun b hb=>(hf b hb).1⟩⟩
 done:=by
  intro X hP hw hK hc i ab s σ H E I hf st hg
  subst hP hw hK
  obtain⟨xs,hq,hx⟩:=hg
  obtain⟨au,rv,p,hz⟩:=I.list hq
  obtain⟨f0,f1,f2,f3,f4,f5⟩:=hf it (by simp)
  have hl:=rv.length
  exact wpAny_pyNext_list_end (I.ok.hd hc) st p.isList (by simp;omega) fun h' eb=>⟨rfl,I.turned (t':=s.toks) (fun b o hb e=>eb b o hb e) f0 f1 f3 f4 f5⟩
 self:=fun _ _ _ _ _ st h=>wpAny_pyIter_listiter st h
theorem Jk {P:Program}{w:World}{K:PySem.W.Frag}{tg:Expr}(a it:Addr):Turn P w K tg (sy K a) [it] it (fun i h=>h.IsTupleIter it a i) where
 mem:=by simp
 obj:=fun i h st b hb=>by
  have e:b=it:=by simpa using hb
  subst e
  obtain⟨o,e,c,d⟩:=st
  exact⟨o,e,fun v z=>by rw [d] at z;cases z⟩
 keep:=fun i h h' st k=>st.at fun o e=>k it (by simp) o e
 item:=by
  intro X hP hw hK hc i ab s σ H E I hf st hg
  subst hP hw hK
  obtain⟨xs,x,hq,hx⟩:=hg
  obtain⟨au,rv,p,hz⟩:=I.tuple hq
  obtain⟨u,hu,ru⟩:=rv.get hx
  obtain⟨f0,f1,f2,f3,f4,f5⟩:=hf it (by simp)
  refine wpAny_pyNext_tuple_item st (show s.heap.IsTuple a au.toArray from p) (x:=u) (by simpa using hu) fun h' st' sb=>?_
  have I1:Inv X ab σ H { s with heap:=h' }:=I.turned (t':=s.toks) (fun b o hb e=>(sb.2 b hb).trans e) f0 f1 f3 f4 f5
  obtain⟨o,e,c,d⟩:=id st'
  exact⟨u,rfl,u0 (s:={ s with heap:=h' }) e c d (by decide) ⟨x,H,I1,ru,⟨rfl,fun ys hy=>by rw [I.Jp hy hq];exact hx⟩,st',fun b hb=>(hf b hb).1⟩⟩
 done:=by
  intro X hP hw hK hc i ab s σ H E I hf st hg
  subst hP hw hK
  obtain⟨xs,hq,hx⟩:=hg
  obtain⟨au,rv,p,hz⟩:=I.tuple hq
  obtain⟨f0,f1,f2,f3,f4,f5⟩:=hf it (by simp)
  have hl:=rv.length
  exact wpAny_pyNext_tuple_end (I.ok.hd hc) st (show s.heap.IsTuple a au.toArray from p) (by simp;omega) fun h' eb=>⟨rfl,I.turned (t':=s.toks) (fun b o hb e=>eb b o hb e) f0 f1 f3 f4 f5⟩
 self:=fun _ _ _ _ _ st h=>wpAny_pyIter_tupleiter st h
theorem Jm {P:Program}{w:World}{K:PySem.W.Frag}{tg:Expr}(it:Addr) (lo:Int) (n:Nat):Turn P w K tg (l4 lo n) [it] it (fun i h=>IsRangeIter h it (lo+(i:Nat)*1) ((n:Int)-(i:Nat)) 1) where
 mem:=by simp
 obj:=fun i h st b hb=>by
  have e:b=it:=by simpa using hb
  subst e
  exact⟨_,st,fun v z=>by
   have z':Data.fields _=Data.cell v:=z
   cases z'⟩
 keep:=fun i h h' st k=>k it (by simp) _ st
 item:=by
  intro X hP hw hK hc i ab s σ H E I hf st hg
  subst hP hw hK
  obtain⟨f0,f1,f2,f3,f4,f5⟩:=hf it (by simp)
  have W:=Walks.range (prog:=X.prog) (w:=X.w) (I.ok.hd hc) it lo 1 n
  refine W.item i s _ _ hg st fun v h' tk hv st' kk=>?_
  obtain⟨t,rfl⟩:=hv
  have I1:Inv X ab σ H { s with heap:=h',toks:=tk }:=I.turned (fun b o hb e=>kk b o (by simpa using hb) e) f0 f1 f3 f4 f5
  refine⟨_,rfl,u0 (s:={ s with heap:=h',toks:=tk }) (n:="range_iterator") st' rfl rfl (by decide) ⟨.int (lo+i),H,I1,⟨t,?_⟩,⟨rfl,rfl⟩,st',fun b hb=>(hf b hb).1⟩⟩
  rw [Int.mul_one]
 done:=by
  intro X hP hw hK hc i ab s σ H E I hf st hg
  subst hP hw hK
  obtain⟨f0,f1,f2,f3,f4,f5⟩:=hf it (by simp)
  exact wpAny_pyNext_range_end (I.ok.hd hc) st (by have:n<=i:=hg;omega) fun h' eb=>⟨rfl,I.turned (t':=s.toks) (fun b o hb e=>eb b o hb e) f0 f1 f3 f4 f5⟩
 self:=fun _ _ _ _ _ st h=>wpAny_pyIter_rangeiter st h
end L2
namespace L2
open PySem PySem.Spec PyProof.Rows
section
variable {X:Cx}{tg:Expr}
def Fb (K:PySem.W.Frag) (tl:TE):TI:=fun σ H R=>tl σ H fun x H1=>∃ a,x=.ref a/\(∃ xs,ai K H1 a xs)/\R (mY K a) H1
def Qy (K:PySem.W.Frag) (tl:TE):TI:=fun σ H R=>tl σ H fun x H1=>∃ a,x=.ref a/\(∃ xs,cE K H1 a xs)/\R (sy K a) H1
theorem fD {l:Expr}{tl:TE}(hl:PE X l tl):PI X tg l (Fb X.K tl):=by
 intro ab s σ H R I h
 refine aV (hl ab s σ H _ I h) fun v s1 ⟨x,H1,I1,r1,q1⟩=>?_
 obtain⟨a,e,⟨xs,hq⟩,q⟩:=q1
 subst e
 cases r1
 obtain⟨au,rv,p,hz⟩:=I1.list hq
 refine wpAny_pyIter_list p.isList ?_
 refine⟨s1.heap.objs.size,[s1.heap.objs.size],_,_,H1,rfl,I1.kept (t':=s1.toks) fun b o e=>Heap.get?_push_of_some _ e,Jn a _,⟨_,Heap.get?_push_size _ rfl,rfl,rfl⟩,fun b hb=>?_,q⟩
 have e:b=s1.heap.objs.size:=by simpa using hb
 subst e
 exact I1.nZ (Nat.le_refl _) (I1.aU.fresh (Nat.le_refl _))
theorem MX {l:Expr}{tl:TE}(hl:PE X l tl):PI X tg l (Qy X.K tl):=by
 intro ab s σ H R I h
 refine aV (hl ab s σ H _ I h) fun v s1 ⟨x,H1,I1,r1,q1⟩=>?_
 obtain⟨a,e,⟨xs,hq⟩,q⟩:=q1
 subst e
 cases r1
 obtain⟨au,rv,p,hz⟩:=I1.tuple hq
 refine wpAny_pyIter_tuple (show s1.heap.IsTuple a au.toArray from p) ?_
 refine⟨s1.heap.objs.size,[s1.heap.objs.size],_,_,H1,rfl,I1.kept (t':=s1.toks) fun b o e=>Heap.get?_push_of_some _ e,Jk a _,⟨_,Heap.get?_push_size _ rfl,rfl,rfl⟩,fun b hb=>?_,q⟩
 have e:b=s1.heap.objs.size:=by simpa using hb
 subst e
 exact I1.nZ (Nat.le_refl _) (I1.aU.fresh (Nat.le_refl _))
theorem Mz {ab:List (Addr×Obj)}{σ:St}{H:Hp}{s:Shared}{R:It->Hp->Prop}{E:Value->Shared->Prop}{lo hi:Int}{t u v:Tok}{tk:Nat}(I:Inv X ab σ H s) (h1:-(2 ^ 62)<=lo) (h2:lo<2 ^ 62) (h3:-(2 ^ 62)<=hi) (h4:hi<2 ^ 62)
  (q:R (l4 lo (hi-lo).toNat) H):wpAny (model X.prog X.w) X.A (pyIter (.ref s.heap.objs.size)) (Ar X ab σ tg R) E { s with heap:=s.heap.push { cls:=.type "range",data:=.fields #[.int lo t,.int hi u,.int 1 v] },toks:=tk }:=by
 refine wpAny_pyIter_range (IsRange.new ..) (small_one h1 h2 h3 h4) ?_
 have I1:Inv X ab σ H { s with heap:=s.heap.push { cls:=.type "range",data:=.fields #[.int lo t,.int hi u,.int 1 v] },toks:=tk }:=I.kept fun b o e=>Heap.get?_push_of_some _ e
 refine⟨(s.heap.push { cls:=.type "range",data:=.fields #[.int lo t,.int hi u,.int 1 v] }).objs.size,[(s.heap.push { cls:=.type "range",data:=.fields #[.int lo t,.int hi u,.int 1 v] }).objs.size],_,_,H,rfl,
  I1.kept (t':=tk) fun b o e=>Heap.get?_push_of_some _ e,Jm _ lo (hi-lo).toNat,?_,fun b hb=>?_,q⟩
 ·have e1:lo+((0:Nat):Int)*1=lo:=by simp
  have e2:(((hi-lo).toNat:Nat):Int)-((0:Nat):Int)=Builtin.Range.rangeSize lo hi 1:=by rw [rangeSize_one];split<;>omega
  show IsRangeIter _ _ (lo+((0:Nat):Int)*1) ((((hi-lo).toNat:Nat):Int)-((0:Nat):Int)) 1
  rw [e1,e2]
  exact Heap.get?_push_size _ rfl
 ·have e:b=(s.heap.push { cls:=.type "range",data:=.fields #[.int lo t,.int hi u,.int 1 v] }).objs.size:=by simpa using hb
  subst e
  exact I1.nZ (Nat.le_refl _) (I1.aU.fresh (Nat.le_refl _))
def QA (ta:TA):TI:=fun σ H R=>ta σ H fun vs H1=>∃ j:Int,vs=[.int j]/\-(2 ^ 62)<=j/\j<2 ^ 62/\R (l4 0 j.toNat) H1
theorem qI {a:Expr}{ta:TA}{p pos:Pos}(hg:Gl X "range") (hm:X.mg "range" = none) (ha:PA X [a] ta) (hs:starEach [a] X.env=[(false,eval a X.env)]:=by rfl):PI X tg (.Call (.Name "range" p) [a] [] pos) (QA ta):=by
 intro ab s σ H R I h
 refine Call_ (pE I hg hm boot_range (PyProof.Rows.callWith_type1 (aV (ha pos ab s σ H _ I h) fun us s1 ⟨vs,H1,I1,r1,q1⟩=>?_) hs rfl))
 obtain⟨j,e,q1,q2,q⟩:=q1
 subst e
 cases r1 with
 | cons r rr=>
  cases rr
  obtain⟨t,rfl⟩:=r
  exact call_range_1 (Mz I1 (by omega) (by omega) q1 q2 (by simpa using q))
def JJ (wi:TI) (g:TG) (tb:TS):TS:=fun D σ H=>wi σ H fun J H1=>∃ W:Nat->Nat->St->Hp->Prop,(∃ m,W 0 m σ H1)/\∀ i m σ H,W i m σ H->
 (J.stop i H/\D.nx σ H)\/(J.go i H/\∃ N:St->Hp->Prop,(∀ σ' H',N σ' H'->∃ m',m'<m/\W (i+1) m' σ' H')/\∀ x H',J.jx i H x H'->g x σ H' fun σ2 H2=>tb { D with nx:=N,ct:=N,bk:=D.nx } σ2 H2)
def qH (fp:List Addr) (h:Heap):List (Addr×Obj):=fp.filterMap fun b=>(h.get? b).map fun o=>(b,o)
theorem yt {fp:List Addr}{h:Heap}{b:Addr}{o:Obj}(hb:b∈fp) (e:h.get? b=some o):(b,o)∈qH fp h:=List.mem_filterMap.mpr ⟨b,hb,by rw [e];rfl⟩
theorem OD {fp:List Addr}{h:Heap}{p:Addr×Obj}(hp:p∈qH fp h):p.1∈fp/\h.get? p.1=some p.2:=by
 obtain⟨b,hb,e⟩:=List.mem_filterMap.mp hp
 cases q:h.get? b with
 | none=>rw [q] at e;cases e
 | some o=>
  rw [q] at e
  have e':(b,o)=p:=Option.some.inj e
  subst e'
  exact⟨hb,q⟩
theorem Inv.pinned {ab:List (Addr×Obj)}{σ:St}{H:Hp}{s:Shared}{fp:List Addr}(I:Inv X ab σ H s) (hf:∀ b∈fp,j0 X ab H b) (ho:∀ b∈fp,∃ o,s.heap.get? b=some o/\∀ v,o.data≠.cell v):Inv X (ab++qH fp s.heap) σ H s:=
 I.DJ fun p hp=>(List.mem_append.mp hp).elim (fun z=>I.pin p (List.mem_append_right _ z)) fun z=>by
  obtain⟨hb,e⟩:=OD z
  obtain⟨f0,f1,f2,_⟩:=hf p.1 hb
  obtain⟨o,e',d⟩:=ho p.1 hb
  rw [e] at e';cases e'
  exact⟨e,f0,f1,f2,d⟩
theorem Inv.sO {ab pl:List (Addr×Obj)}{σ:St}{H:Hp}{s:Shared}(I:Inv X (ab++pl) σ H s):Inv X ab σ H s:=I.DJ fun p hp=>I.pin p (List.mem_append_right _ (List.mem_append_left _ hp))
theorem gP {iter:Expr}{body:List Stmt}{wi:TI}{g:TG}{tb:TS}{pos:Pos}(hp:PassesOwn (model X.prog X.w) X.A X.env X.xe) (hc:X.calm=true) (hi:PI X tg iter wi) (hg:PG X tg g) (hb:fV X body tb)
  (hs:∀ x,foldedSetIterable iter X.env x=pure x:=by intro _;rfl):PS X (.For tg iter body [] pos) (JJ wi g tb):=by
 intro ab s σ H D I h
 refine wpAny_For (aV (hi ab s σ H _ I h) fun v s1 h1=>aV h1 fun yE s2 h2=>?_) hs
 obtain⟨it,fp,tn,J,H2,e,I2,T,mi,f2,W,⟨m0,w0⟩,turn⟩:=h2
 subst e
 have stat:∀ {H':Hp},(∀ b∈fp,H' b=none)->∀ b∈fp,j0 X ab H' b:=fun hn b hb=>⟨hn b hb,(f2 b hb).2⟩
 refine codeAny_forLoop_any (fun n s'=>∃ i σ' H',Inv X ab σ' H' s'/\tn i s'.heap/\(∀ b∈fp,H' b=none)/\W i n σ' H') ?_ m0 ⟨0,σ,H2,I2,mi,fun b hb=>(f2 b hb).1,w0⟩
 rintro n s3 ⟨i,σ3,H3,I3,mh,rR,w3⟩
 rcases turn i n σ3 H3 w3 with ⟨stop,qn⟩ |⟨go,N,hN,step⟩
 ·refine wpAny_passesOwn hp (aV (T.done X rfl rfl rfl hc i ab s3 σ3 H3 X.xe I3 (stat rR) mh stop) fun r s4 ⟨hr,I4⟩=>?_)
  subst hr
  exact wpAny_execs_nil ⟨σ3,H3,I4,qn⟩
 ·refine wpAny_passesOwn hp (aV (T.item X rfl rfl rfl hc i ab s3 σ3 H3 X.xe I3 (stat rR) mh go) fun r s4 ⟨u,hr,h4⟩=>?_)
  subst hr
  refine wpAny_passesOwn hp (aV h4 fun _ s5 ⟨x,H5,I5,r5,y5,oJ,Sy⟩=>?_)
  have I5':=I5.pinned (stat Sy) (T.obj _ _ oJ)
  refine wpAny_passesOwn hp (aV (hg _ s5 σ3 H5 x u _ I5' r5 (step x H5 y5)) fun _ s6 ⟨σ6,H6,I6,q6⟩=>?_)
  refine wpAny_passesOwn hp (aV (hb _ s6 σ6 H6 _ I6 q6) fun f s7 q7=>?_)
  have again:∀ {σ7:St}{H7:Hp},Inv X (ab++qH fp s5.heap) σ7 H7 s7->N σ7 H7->∃ m,m<n/\∃ i σ' H',Inv X ab σ' H' s7/\tn i s7.heap/\(∀ b∈fp,H' b=none)/\W i m σ' H':=fun {σ7 H7} I7 n7=>by
   obtain⟨m',hm,w7⟩:=hN σ7 H7 n7
   refine⟨m',hm,i+1,σ7,H7,I7.sO,T.keep _ _ _ oJ fun b hb o e=>(I7.pin (b,o) (List.mem_append_right _ (List.mem_append_right _ (yt hb e)))).1,fun b hb=>?_,w7⟩
   obtain⟨o,e,d⟩:=T.obj _ _ oJ b hb
   exact(I7.pin (b,o) (List.mem_append_right _ (List.mem_append_right _ (yt hb e)))).2.1
  cases f with
  | next=>obtain⟨σ7,H7,I7,n7⟩:=q7;exact again I7 n7
  | cont=>obtain⟨σ7,H7,I7,n7⟩:=q7;exact again I7 n7
  | brk=>obtain⟨σ7,H7,I7,q7⟩:=q7;exact⟨σ7,H7,I7.sO,q7⟩
  | ret v=>obtain⟨x7,σ7,H7,I7,r7,q7⟩:=q7;exact⟨x7,σ7,H7,I7.sO,r7,q7⟩
end
theorem lj {K:PySem.W.Frag}{a:Addr}{xs:List V}{g:TG}{tb:TS}{D:Ends}{σ:St}{H:Hp}(Pv:Nat->St->Hp->Prop) (h0:Pv 0 σ H) (hl:∀ i σ H,i<=xs.length->Pv i σ H->ai K H a xs)
  (hs:∀ i x σ H,xs[i]? = some x->Pv i σ H->g x σ H fun σ2 H2=>tb { D with nx:=Pv (i+1),ct:=Pv (i+1),bk:=D.nx } σ2 H2) (hd:∀ σ H,Pv xs.length σ H->D.nx σ H) :
  ∃ W:Nat->Nat->St->Hp->Prop,(∃ m,W 0 m σ H)/\∀ i m σ H,W i m σ H->
   ((mY K a).stop i H/\D.nx σ H)\/((mY K a).go i H/\∃ N:St->Hp->Prop,(∀ σ' H',N σ' H'->∃ m',m'<m/\W (i+1) m' σ' H')/\∀ x H',(mY K a).jx i H x H'->g x σ H' fun σ2 H2=>tb { D with nx:=N,ct:=N,bk:=D.nx } σ2 H2):=by
 refine⟨fun i m σ H=>m=xs.length-i/\i<=xs.length/\Pv i σ H,⟨xs.length,by simp,Nat.zero_le _,h0⟩,?_⟩
 rintro i m σ H ⟨rfl,hi,p⟩
 have q:=hl i σ H hi p
 by_cases bR:i<xs.length
 ·refine .inr ⟨⟨xs,xs[i],q,by simp [bR]⟩,Pv (i+1),fun σ' H' p'=>⟨xs.length-(i+1),by omega,rfl,bR,p'⟩,fun x H' y=>?_⟩
  obtain⟨e,y⟩:=y
  subst e
  exact hs i x σ _ (y xs q) p
 ·have e:i=xs.length:=by omega
  subst e
  exact .inl ⟨⟨xs,q,Nat.le_refl _⟩,hd σ H p⟩
theorem GK {lo:Int}{n:Nat}{g:TG}{tb:TS}{D:Ends}{σ:St}{H:Hp}(Pv:Nat->St->Hp->Prop) (h0:Pv 0 σ H)
  (hs:∀ i σ H,i<n->Pv i σ H->g (.int (lo+i)) σ H fun σ2 H2=>tb { D with nx:=Pv (i+1),ct:=Pv (i+1),bk:=D.nx } σ2 H2) (hd:∀ σ H,Pv n σ H->D.nx σ H) :
  ∃ W:Nat->Nat->St->Hp->Prop,(∃ m,W 0 m σ H)/\∀ i m σ H,W i m σ H->
   ((l4 lo n).stop i H/\D.nx σ H)\/((l4 lo n).go i H/\∃ N:St->Hp->Prop,(∀ σ' H',N σ' H'->∃ m',m'<m/\W (i+1) m' σ' H')/\∀ x H',(l4 lo n).jx i H x H'->g x σ H' fun σ2 H2=>tb { D with nx:=N,ct:=N,bk:=D.nx } σ2 H2):=by
 refine⟨fun i m σ H=>m=n-i/\i<=n/\Pv i σ H,⟨n,by simp,Nat.zero_le _,h0⟩,?_⟩
 rintro i m σ H ⟨rfl,hi,p⟩
 by_cases bR:i<n
 ·refine .inr ⟨bR,Pv (i+1),fun σ' H' p'=>⟨n-(i+1),by omega,rfl,bR,p'⟩,fun x H' y=>?_⟩
  obtain⟨e,y⟩:=y
  subst e y
  exact hs i σ _ bR p
 ·have e:i=n:=by omega
  subst e
  exact .inl ⟨Nat.le_refl _,hd σ H p⟩
end L2
namespace L2
open PySem PySem.Spec PyProof.Rows
abbrev R2:=V->V->Hp->VK->Prop
def dW (X:Cx) (f:Value->Value->Sem Value) (r:R2):Prop:=
 ∀(ab:List (Addr×Obj)) (s:Shared) (σ:St) (H:Hp) (x y:V) (v u:Value) (Q:VK),Inv X ab σ H s->RelV x v->RelV y u->r x y H Q->
  wpAny (model X.prog X.w) X.A (f v u) (EP X ab σ Q) X.xe s
def Aj (X:Cx) (f:Value->Sem Value) (r:V->Hp->VK->Prop):Prop:=
 ∀(ab:List (Addr×Obj)) (s:Shared) (σ:St) (H:Hp) (x:V) (v:Value) (Q:VK),Inv X ab σ H s->RelV x v->r x H Q->
  wpAny (model X.prog X.w) X.A (f v) (EP X ab σ Q) X.xe s
def kJ (X:Cx) (f:Value) (r:List V->Hp->VK->Prop):Prop:=
 ∀(ab:List (Addr×Obj)) (s:Shared) (σ:St) (H:Hp) (xs:List V) (us:List Value) (Q:VK),Inv X ab σ H s->Vals xs us->r xs H Q->
  wpAny (model X.prog X.w) X.A (call f us) (EP X ab σ Q) X.xe s
def fH (r:R2) (ta tb:TE):TE:=fun σ H Q=>ta σ H fun x H1=>tb σ H1 fun y H2=>r x y H2 Q
def qt (r:V->Hp->VK->Prop) (ta:TE):TE:=fun σ H Q=>ta σ H fun x H1=>r x H1 Q
def rI (C:Int->Int->Prop) (g:Int->Int->V):R2:=fun x y H Q=>∃ i j,x=.int i/\y=.int j/\C i j/\Q (g i j) H
def i6 (g:Int->Int->V):R2:=fun x y H Q=>∃ i j,x=.int i/\y=.int j/\Q (g i j) H
def rU (g:Int->V):V->Hp->VK->Prop:=fun x H Q=>∃ i,x=.int i/\Q (g i) H
section
variable {X:Cx}{a b c:Expr}{ta tb tc:TE}{pos:Pos}
theorem Ab (ha:PE X a ta) (hb:PE X b tb){ab:List (Addr×Obj)}{s:Shared}{σ:St}{H:Hp}{R:V->V->Hp->Prop}(I:Inv X ab σ H s)
  (h:ta σ H fun x H1=>tb σ H1 fun y H2=>R x y H2){Q:Value->Shared->Prop}{f:Value->Value->Sem Value}
  (hf:∀ v u s2 x y H2,Inv X ab σ H2 s2->RelV x v->RelV y u->R x y H2->wpAny (model X.prog X.w) X.A (f v u) Q X.xe s2) :
  wpAny (model X.prog X.w) X.A (eval a X.env) (fun v s₁=>wpAny (model X.prog X.w) X.A (eval b X.env) (fun u s₂=>wpAny (model X.prog X.w) X.A (f v u) Q X.xe s₂) X.xe s₁) X.xe s:=by
 refine aV (ha ab s σ H _ I h) fun v s1 ⟨x,H1,I1,r1,q1⟩=>?_
 refine aV (hb ab s1 σ H1 _ I1 q1) fun u s2 ⟨y,H2,I2,r2,q2⟩=>?_
 exact hf v u s2 x y H2 I2 r1 r2 q2
theorem bA {op:Operator}{r:R2}(ho:dW X (binaryOp op) r) (ha:PE X a ta) (hb:PE X b tb):PE X (.BinOp a op b pos) (fH r ta tb):=by
 intro ab s σ H Q I h
 exact wpAny_BinOp (Ab ha hb I h fun v u s2 x y H2 I2 rx ry q=>ho ab s2 σ H2 x y v u Q I2 rx ry q)
theorem kP {op:UnaryOp}{r:V->Hp->VK->Prop}(ho:Aj X (unaryOp op) r) (ha:PE X a ta):PE X (.UnaryOp op a pos) (qt r ta):=by
 intro ab s σ H Q I h
 exact UnaryOp_ (aV (ha ab s σ H _ I h) fun v s1 ⟨x,H1,I1,r1,q1⟩=>ho ab s1 σ H1 x v Q I1 r1 q1)
theorem xM {f:Value->Value->Sem Value}{C:Int->Int->Prop}{g:Int->Int->Int}
  (rule:∀(i j:Int) (t u:Tok) (s:Shared) (Q:Value->Shared->Prop) (E:Value->Shared->Prop),C i j->Q (.int (g i j) s.toks) { s with toks:=s.toks+1 }->wpAny (model X.prog X.w) X.A (f (.int i t) (.int j u)) Q E s) :
  dW X f (rI C fun i j=>.int (g i j)):=by
 intro ab s σ H x y v u Q I rx ry h
 obtain⟨i,j,rfl,rfl,hc,q⟩:=h
 obtain⟨t,rfl⟩:=rx
 obtain⟨t',rfl⟩:=ry
 exact rule i j t t' s _ _ hc ⟨.int (g i j),H,I.tok _,⟨_,rfl⟩,q⟩
theorem DZ {f:Value->Value->Sem Value}{g:Int->Int->Int}
  (rule:∀(i j:Int) (t u:Tok) (s:Shared) (Q:Value->Shared->Prop) (E:Value->Shared->Prop),Q (.int (g i j) s.toks) { s with toks:=s.toks+1 }->wpAny (model X.prog X.w) X.A (f (.int i t) (.int j u)) Q E s) :
  dW X f (i6 fun i j=>.int (g i j)):=by
 intro ab s σ H x y v u Q I rx ry h
 obtain⟨i,j,rfl,rfl,q⟩:=h
 obtain⟨t,rfl⟩:=rx
 obtain⟨t',rfl⟩:=ry
 exact rule i j t t' s _ _ ⟨.int (g i j),H,I.tok _,⟨_,rfl⟩,q⟩
theorem t5 {f:Value->Value->Sem Value}{g:Int->Int->Bool}
  (rule:∀(i j:Int) (t u:Tok) (s:Shared) (Q:Value->Shared->Prop) (E:Value->Shared->Prop),Q (.bool (g i j)) s->wpAny (model X.prog X.w) X.A (f (.int i t) (.int j u)) Q E s) :
  dW X f (i6 fun i j=>.bl (g i j)):=by
 intro ab s σ H x y v u Q I rx ry h
 obtain⟨i,j,rfl,rfl,q⟩:=h
 obtain⟨t,rfl⟩:=rx
 obtain⟨t',rfl⟩:=ry
 exact rule i j t t' s _ _ ⟨.bl (g i j),H,I,rfl,q⟩
def AA (i j:Int):Prop:=(-(2 ^ 64)<i/\i<2 ^ 64)\/(-(2 ^ 64)<j/\j<2 ^ 64)
theorem AA.ok {i j:Int}(h:AA i j):IntMulOk i j:=by
 rcases h with ⟨h1,h2⟩ |⟨h1,h2⟩
 ·exact .of_left (intBits_le_64 h1 h2)
 ·exact .of_right (intBits_le_64 h1 h2)
theorem dM:dW X (binaryOp .Add) (i6 fun i j=>.int (i+j)):=DZ fun _ _ _ _ _ _ _ q=>add_int q
theorem lG:dW X (binaryOp .Sub) (i6 fun i j=>.int (i-j)):=DZ fun _ _ _ _ _ _ _ q=>sub_int q
theorem Nn:dW X (binaryOp .Mod) (rI (fun _ j=>0<j) fun i j=>.int (i % j)):=xM fun i j _ _ _ _ _ hc q=>by
 have h1:(0:Int)<j:=hc
 exact mod_int' (by omega) (by rw [Int.fmod_eq_emod_of_nonneg i (by omega)];exact q)
theorem Jh {f:Value->Sem Value}{g:Int->Int}
  (rule:∀(i:Int) (t:Tok) (s:Shared) (Q:Value->Shared->Prop) (E:Value->Shared->Prop),Q (.int (g i) s.toks) { s with toks:=s.toks+1 }->wpAny (model X.prog X.w) X.A (f (.int i t)) Q E s) :
  Aj X f (rU fun i=>.int (g i)):=by
 intro ab s σ H x v Q I rx h
 obtain⟨i,rfl,q⟩:=h
 obtain⟨t,rfl⟩:=rx
 exact rule i t s _ _ ⟨.int (g i),H,I.tok _,⟨_,rfl⟩,q⟩
theorem kM:Aj X (unaryOp .USub) (rU fun i=>.int (-i)):=Jh fun _ _ _ _ _ q=>neg_int q
end
def wo:V->V->Bool
 | .aD,.aD=>true | .aD,.int _=>true | .int _,.aD=>true | .aD,.bl _=>true | .bl _,.aD=>true | .aD,.str _=>true | .str _,.aD=>true
 | .int _,.int _=>true | .bl _,.bl _=>true | .str _,.str _=>true | .hG _,.hG _=>true
 | .int _,.str _=>true | .str _,.int _=>true | .bl _,.str _=>true | .str _,.bl _=>true
 |_,_=>false
def MI:R2:=fun x y H Q=>wo x y=true/\Q (.bl (decide (x=y))) H
def MD:R2:=fun x y H Q=>wo x y=true/\Q (.bl (!decide (x=y))) H
theorem Ht {i j:Int}:decide (V.int i=V.int j)=(i == j):=by
 rw [Bool.eq_iff_iff]
 simp
theorem Hw {i j:Bool}:decide (V.bl i=V.bl j)=(i == j):=by
 rw [Bool.eq_iff_iff]
 simp
theorem Hq {i j:Str}:decide (V.str i=V.str j)=(i == j):=by
 rw [Bool.eq_iff_iff]
 simp
theorem Hv {i j:Array UInt8}:decide (V.hG i=V.hG j)=(i.toList == j.toList):=by
 rw [Bool.eq_iff_iff]
 cases i
 cases j
 simp
section
variable {X:Cx}{a b c:Expr}{ta tb tc:TE}{pos:Pos}
theorem c4 {ab:List (Addr×Obj)}{σ:St}{H:Hp}{s:Shared}{Q:VK}{k k':Bool}(I:Inv X ab σ H s) (q:Q (.bl k) H) (e:k=k'):EP X ab σ Q (.bool k') s:=by
 subst e
 exact⟨.bl k,H,I,rfl,q⟩
theorem dJ:dW X (compareOp .Eq) MI:=by
 intro ab s σ H x y v u Q I rx ry h
 obtain⟨hs,q⟩:=h
 cases x with
 | aD=>
  cases rx
  cases y with
  | aD=>cases ry;exact PySem.EqNone.eq_none_none (c4 I q (by simp))
  | bl j=>cases ry;exact PySem.EqNone.eq_none_bool (c4 I q (by simp))
  | int j=>obtain⟨t',rfl⟩:=ry;exact PySem.EqNone.eq_none_int (c4 I q (by simp))
  | str j=>obtain⟨t',rfl⟩:=ry;exact PySem.EqNone.eq_none_str (c4 I q (by simp))
  |_=>exact absurd (show false=true from hs) Bool.false_ne_true
 | bl i=>
  cases rx
  cases y with
  | aD=>cases ry;exact PySem.EqNone.eq_bool_none (c4 I q (by simp))
  | bl j=>cases ry;exact eq_bool (c4 I q Hw)
  | str j=>obtain⟨t',rfl⟩:=ry;exact PySem.EqMixed.eq_bool_str (c4 I q (by simp))
  |_=>exact absurd (show false=true from hs) Bool.false_ne_true
 | int i=>
  obtain⟨t,rfl⟩:=rx
  cases y with
  | aD=>cases ry;exact PySem.EqNone.eq_int_none (c4 I q (by simp))
  | int j=>obtain⟨t',rfl⟩:=ry;exact eq_int (c4 I q Ht)
  | str j=>obtain⟨t',rfl⟩:=ry;exact PySem.EqMixed.eq_int_str (c4 I q (by simp))
  |_=>exact absurd (show false=true from hs) Bool.false_ne_true
 | str i=>
  obtain⟨t,rfl⟩:=rx
  cases y with
  | aD=>cases ry;exact PySem.EqNone.eq_str_none (c4 I q (by simp))
  | bl j=>cases ry;exact PySem.EqMixed.eq_str_bool (c4 I q (by simp))
  | int j=>obtain⟨t',rfl⟩:=ry;exact PySem.EqMixed.eq_str_int (c4 I q (by simp))
  | str j=>obtain⟨t',rfl⟩:=ry;exact eq_str (c4 I q Hq)
  |_=>exact absurd (show false=true from hs) Bool.false_ne_true
 | hG i=>
  obtain⟨t,rfl⟩:=rx
  cases y with
  | hG j=>obtain⟨t',rfl⟩:=ry;exact PySem.W.eq_bytes (c4 I q Hv)
  |_=>exact absurd (show false=true from hs) Bool.false_ne_true
 |_=>cases y<;>exact absurd (show false=true from hs) Bool.false_ne_true
theorem oY:dW X (compareOp .NotEq) MD:=by
 intro ab s σ H x y v u Q I rx ry h
 obtain⟨hs,q⟩:=h
 cases x with
 | aD=>
  cases rx
  cases y with
  | aD=>cases ry;exact PySem.EqNone.ne_none_none (c4 I q (by simp))
  | bl j=>cases ry;exact PySem.EqNone.ne_none_bool (c4 I q (by simp))
  | int j=>obtain⟨t',rfl⟩:=ry;exact PySem.EqNone.ne_none_int (c4 I q (by simp))
  | str j=>obtain⟨t',rfl⟩:=ry;exact PySem.EqNone.ne_none_str (c4 I q (by simp))
  |_=>exact absurd (show false=true from hs) Bool.false_ne_true
 | bl i=>
  cases rx
  cases y with
  | aD=>cases ry;exact PySem.EqNone.ne_bool_none (c4 I q (by simp))
  | bl j=>cases ry;exact ne_bool (c4 I q (congrArg not Hw))
  | str j=>obtain⟨t',rfl⟩:=ry;exact PySem.EqMixed.ne_bool_str (c4 I q (by simp))
  |_=>exact absurd (show false=true from hs) Bool.false_ne_true
 | int i=>
  obtain⟨t,rfl⟩:=rx
  cases y with
  | aD=>cases ry;exact PySem.EqNone.ne_int_none (c4 I q (by simp))
  | int j=>obtain⟨t',rfl⟩:=ry;exact ne_int (c4 I q (congrArg not Ht))
  | str j=>obtain⟨t',rfl⟩:=ry;exact PySem.EqMixed.ne_int_str (c4 I q (by simp))
  |_=>exact absurd (show false=true from hs) Bool.false_ne_true
 | str i=>
  obtain⟨t,rfl⟩:=rx
  cases y with
  | aD=>cases ry;exact PySem.EqNone.ne_str_none (c4 I q (by simp))
  | bl j=>cases ry;exact PySem.EqMixed.ne_str_bool (c4 I q (by simp))
  | int j=>obtain⟨t',rfl⟩:=ry;exact PySem.EqMixed.ne_str_int (c4 I q (by simp))
  | str j=>obtain⟨t',rfl⟩:=ry;exact ne_str (c4 I q (congrArg not Hq))
  |_=>exact absurd (show false=true from hs) Bool.false_ne_true
 | hG i=>
  obtain⟨t,rfl⟩:=rx
  cases y with
  | hG j=>obtain⟨t',rfl⟩:=ry;exact PySem.W.ne_bytes (c4 I q (congrArg not Hv))
  |_=>exact absurd (show false=true from hs) Bool.false_ne_true
 |_=>cases y<;>exact absurd (show false=true from hs) Bool.false_ne_true
theorem eO:dW X (compareOp .Lt) (i6 fun i j=>.bl (decide (i<j))):=t5 fun _ _ _ _ _ _ _ q=>lt_int q
theorem dQ:dW X (compareOp .LtE) (i6 fun i j=>.bl (decide (i<=j))):=t5 fun _ _ _ _ _ _ _ q=>le_int q
theorem fM:dW X (compareOp .Gt) (i6 fun i j=>.bl (decide (j<i))):=t5 fun _ _ _ _ _ _ _ q=>gt_int q
theorem Nq:dW X (compareOp .GtE) (i6 fun i j=>.bl (decide (j<=i))):=t5 fun _ _ _ _ _ _ _ q=>ge_int q
theorem gR:dW X (compareOp .Is) (fun x y H Q=>y=.aD/\Q (.bl (decide (x=.aD))) H):=by
 intro ab s σ H x y v u Q I rx ry h
 obtain⟨rfl,q⟩:=h
 cases ry
 refine is_none_gen (c4 I q ?_)
 cases x<;>first
  |(cases rx;rfl)
  |(obtain⟨t,rfl⟩:=rx;rfl)
theorem kj:dW X (compareOp .IsNot) (fun x y H Q=>y=.aD/\Q (.bl (!decide (x=.aD))) H):=by
 intro ab s σ H x y v u Q I rx ry h
 obtain⟨rfl,q⟩:=h
 cases ry
 refine isnot_none_gen (c4 I q ?_)
 cases x<;>first
  |(cases rx;rfl)
  |(obtain⟨t,rfl⟩:=rx;rfl)
theorem aO (b:Expr){op:CmpOp}(h:op≠.In:=by decide) (h2:op≠.NotIn:=by decide):behindInMarks op b=false:=by
 have e1:(op == CmpOp.In)=false:=by cases op<;>first | rfl | exact absurd rfl h
 have e2:(op == CmpOp.NotIn)=false:=by cases op<;>first | rfl | exact absurd rfl h2
 cases b<;>simp [behindInMarks,e1,e2]
theorem ie {op:CmpOp}{r:R2}(ho:dW X (compareOp op) r) (ha:PE X a ta) (hb:PE X b tb) (hm:behindInMarks op b=false):PE X (.Compare a [op] [b] pos) (fH r ta tb):=by
 intro ab s σ H Q I h
 exact wpAny_Compare1 (Ab ha hb I h fun v u s2 x y H2 I2 rx ry q=>ho ab s2 σ H2 x y v u Q I2 rx ry q) hm
def lA (t:TE):TT:=fun σ H Q=>t σ H fun x H'=>∃ k,x=.bl k/\Q k H'
theorem aT {op:CmpOp}{r:R2}(ho:dW X (compareOp op) r) (ha:PE X a ta) (hb:PE X b tb) (hm:behindInMarks op b=false):PT X (.Compare a [op] [b] pos) (lA (fH r ta tb)):=by
 intro ab s σ H Q I h
 refine wpAny_isTrue_Compare1 (aV (ha ab s σ H _ I h) fun v s1 ⟨x,H1,I1,r1,q1⟩=>aV (hb ab s1 σ H1 _ I1 q1) fun u s2 ⟨y,H2,I2,r2,q2⟩=>
  aV (ho ab s2 σ H2 x y v u _ I2 r1 r2 q2) fun c s3 ⟨z,H3,I3,r3,k,e,q3⟩=>?_) hm
 subst e
 cases r3
 exact wpAny_truthy_bool ⟨H3,I3,q3⟩
def Ba (r r':R2) (ta tb tc:TE):TE:=fun σ H Q=>ta σ H fun x H1=>tb σ H1 fun y H2=>r x y H2 fun z H3=>∃ k,z=.bl k /\
 (if k=true then tc σ H3 fun w' H4=>r' y w' H4 Q else Q (.bl false) H3)
theorem nE {op op':CmpOp}{r r':R2}(ho:dW X (compareOp op) r) (ho':dW X (compareOp op') r') (ha:PE X a ta) (hb:PE X b tb) (hc:PE X c tc)
  (hm:lastMarks [op,op'] [b,c]=false:=by with_unfolding_all rfl):PE X (.Compare a [op,op'] [b,c] pos) (Ba r r' ta tb tc):=by
 intro ab s σ H Q I h
 refine Compare_chain (aV (ha ab s σ H _ I h) fun v s1 ⟨x,H1,I1,r1,q1⟩=>chain_link (aV (hb ab s1 σ H1 _ I1 q1) fun u s2 ⟨y,H2,I2,r2,q2⟩=>
  aV (ho ab s2 σ H2 x y v u _ I2 r1 r2 q2) fun d s3 ⟨z,H3,I3,r3,k,e,q3⟩=>?_)) hm
 subst e
 cases r3
 refine wpAny_truthy_bool ?_
 cases k with
 | false=>exact ite_ff ⟨.bl false,H3,I3,rfl,q3⟩
 | true=>exact ite_tt (chain_last (aV (hc ab s3 σ H3 _ I3 q3) fun w' s4 ⟨z',H4,I4,r4,q4⟩=>ho' ab s4 σ H4 y z' u w' Q I4 r2 r4 q4))
theorem tU {op op':CmpOp}{r r':R2}(ho:dW X (compareOp op) r) (ho':dW X (compareOp op') r') (ha:PE X a ta) (hb:PE X b tb) (hc:PE X c tc)
  (hm:lastMarks [op,op'] [b,c]=false:=by with_unfolding_all rfl):PT X (.Compare a [op,op'] [b,c] pos) (lA (Ba r r' ta tb tc)):=by
 intro ab s σ H Q I h
 refine isTrue_chain (aV (ha ab s σ H _ I h) fun v s1 ⟨x,H1,I1,r1,q1⟩=>test_link (aV (hb ab s1 σ H1 _ I1 q1) fun u s2 ⟨y,H2,I2,r2,q2⟩=>
  aV (ho ab s2 σ H2 x y v u _ I2 r1 r2 q2) fun d s3 ⟨z,H3,I3,r3,k,e,q3⟩=>?_)) hm
 subst e
 cases r3
 refine wpAny_truthy_bool ?_
 cases k with
 | false=>
  obtain⟨k',e',q'⟩:=q3
  cases e'
  exact ite_ff ⟨H3,I3,q'⟩
 | true=>
  refine ite_tt (test_last (aV (hc ab s3 σ H3 _ I3 q3) fun w' s4 ⟨z',H4,I4,r4,q4⟩=>aV (ho' ab s4 σ H4 y z' u w' _ I4 r2 r4 q4) fun d' s5 ⟨z2,H5,I5,r5,k2,e2,q5⟩=>?_))
  subst e2
  cases r5
  exact wpAny_truthy_bool ⟨H5,I5,q5⟩
theorem px:(sizeLine:Nat)<2 ^ 63:=by rw [sizeLine_eq];decide
theorem vals1 {x:V}{us:List Value}(r:Vals [x] us):∃ u,us=[u]/\RelV x u:=by
 cases r with
 | cons r1 r2=>cases r2;exact⟨_,rfl,r1⟩
theorem vals2 {x y:V}{us:List Value}(r:Vals [x,y] us):∃ u w',us=[u,w']/\RelV x u/\RelV y w':=by
 cases r with
 | cons r1 r2=>
  cases r2 with
  | cons r3 r4=>cases r4;exact⟨_,_,rfl,r1,r3⟩
theorem p7 (hc:X.calm=true):kJ X (.builtin "max") (fun xs H Q=>∃ i j,xs=[.int i,.int j]/\Q (.int (if j > i then j else i)) H):=by
 intro ab s σ H xs us Q I r h
 obtain⟨i,j,rfl,q⟩:=h
 obtain⟨u,w',rfl,⟨t,rfl⟩,⟨t',rfl⟩⟩:=vals2 r
 refine max_two_ints (I.ok.hd hc) fun h' tk k=>⟨_,H,I.kept k,?_,q⟩
 by_cases hj:j > i
 ·rw [if_pos hj,if_pos hj];exact⟨_,rfl⟩
 ·rw [if_neg hj,if_neg hj];exact⟨_,rfl⟩
theorem rY (hc:X.calm=true):kJ X (.builtin "min") (fun xs H Q=>∃ i j,xs=[.int i,.int j]/\Q (.int (if j<i then j else i)) H):=by
 intro ab s σ H xs us Q I r h
 obtain⟨i,j,rfl,q⟩:=h
 obtain⟨u,w',rfl,⟨t,rfl⟩,⟨t',rfl⟩⟩:=vals2 r
 refine min_two_ints (I.ok.hd hc) fun h' tk k=>⟨_,H,I.kept k,?_,q⟩
 by_cases hj:j<i
 ·rw [if_pos hj,if_pos hj];exact⟨_,rfl⟩
 ·rw [if_neg hj,if_neg hj];exact⟨_,rfl⟩
theorem VB:kJ X (.type "str") (fun xs H Q=>∃ i,xs=[.int i]/\i.natAbs.log2<1920/\Q (.str (toString i)) H):=by
 intro ab s σ H xs us Q I r h
 obtain⟨i,rfl,hz,q⟩:=h
 obtain⟨u,rfl,t,rfl⟩:=vals1 r
 exact PySem.P.str_of_int hz ⟨.str _,H,I.tok _,⟨_,rfl⟩,q⟩
end
end L2
namespace L2
open PySem PySem.Spec PyProof.Rows
structure oB (h:Heap) (x dx C:Addr) (mA:Str->Option Value):Prop where
 obj:h.get? x=some (PySem.W.instObj C dx)
 ns:h.Ns1 dx mA
 ne:dx≠x
theorem Qa {h:Heap}{dx:Addr}{mA:Str->Option Value}(n:h.Ns1 dx mA):∃ od,h.get? dx=some od/\∀ name,PySem.W.lookIn name od=some (mA name):=by
 obtain⟨o,es,ep,ho,hd,hk,_,hm⟩:=n
 refine⟨o,ho,fun name=>?_⟩
 have e:=hm name
 unfold nsFind findBy at e
 rw [←Array.find?_toList] at e
 unfold PySem.W.lookIn
 rw [hd]
 dsimp only
 split
 ·rename_i y q
  rw [q] at e
  exact congrArg some e
 ·rename_i q
  rw [q] at e
  have a:es.toList.any (·.refKey)=false:=by
   rw [List.any_eq_false]
   intro y hy
   obtain⟨z,t,Rn⟩:=hk y (Array.mem_toList_iff.mp hy)
   simp [DictEntry.refKey,Rn]
  have a':¬ es.toList.any (·.refKey)=true:=by rw [a];exact Bool.false_ne_true
  rw [if_neg a']
  exact congrArg some e
theorem oB.look {h:Heap}{x dx C:Addr}{mA:Str->Option Value}(I:oB h x dx C mA):∃ od,PySem.W.InstAt h x (PySem.W.instObj C dx) C (some od)/\∀ name,PySem.W.lookIn name od=some (mA name):=
 let ⟨od,ho,hl⟩:=Qa I.ns
 ⟨od,⟨I.obj,rfl,rfl,ho⟩,hl⟩
section
variable {prog:Program}{w:World}{A:Around}{E:Value->Shared->Prop}{s:Shared}{K:PySem.W.Frag}{x dx C f:Addr}{mA:Str->Option Value}{name:Str}{v:Value}
theorem get_map {expr:Bool}{Q:Value->Shared->Prop}(X:K.In s.heap) (I:oB s.heap x dx C mA) (hg:PySem.W.plainGet K C name=true) (hh:PySem.W.hasDictIn K C=true)
  (ha:PySem.W.findIn K (.ref C) name=some none) (hv:mA name=some v) (hv':PySem.W.handedIn v=true) (h:Q v { s with toks:=s.toks+1 }) :
  wpAny (model prog w) A (getAttr (.ref x) name expr) Q E s:=by
 obtain⟨od,J,hl⟩:=I.look
 exact PySem.W.get_value X J (PySem.W.plainGet_of hg).1 (PySem.W.findObj_own hh ha rfl (by rw [hl,hv])) hv' h
theorem Sn {pl:Sem Bool}{Q:Value×List Value->Shared->Prop}(X:K.In s.heap) (I:oB s.heap x dx C mA) (hg:PySem.W.plainGet K C name=true)
  (hf:PySem.W.findIn K (.ref C) name=some (some (.ref f))) (ht:PySem.W.isFn K (.ref f)=true) (hv:mA name=none) (h:Q (.ref f,[.ref x]) s) :
  wpAny (model prog w) A (getMethod (.ref x) name pl) Q E s:=by
 obtain⟨od,J,hl⟩:=I.look
 exact PySem.W.method_fn X J (PySem.W.plainGet_of hg).1 (PySem.W.plainGet_of hg).2 hf (beq_iff_eq.mp ht) (by show(PySem.W.lookIn name od).map (·.isSome)=some false;rw [hl,hv];rfl) h
theorem Lg {ns:List Str}{Q:Unit->Shared->Prop}(X:K.In s.heap) (I:oB s.heap x dx C mA)
  (hs:PySem.W.findIn K (.ref C) "__setattr__" = some (some (.builtin "object.__setattr__"))) (hp:PySem.W.plainOver K C=true) (ht:PySem.W.takerIn K C name=some none) (hh:PySem.W.hasDictIn K C=true)
  (hw:PySem.Within mA ns) (hsz:ns.length<=sizeLine)
  (h:∀ h',oB h' x dx C (fun y=>if y=name then some v else mA y)->Heap.SameBut dx s.heap h'->Q () { s with heap:=h',toks:=s.toks+2 }) :
  wpAny (model prog w) A (setAttr (.ref x) name v) Q E s:=by
 obtain⟨od,J,hl⟩:=I.look
 refine PySem.W.set_plain X J hs (PySem.W.osa_open (s:={ s with toks:=s.toks+1 }) (r:=none) X J hp ht fun b=>?_)
 obtain⟨cd,hc,hd'⟩:=PySem.W.any_some hh
 have hx:s.heap.get? x=some ⟨.ref C,some dx,.plain,#[]⟩:=I.obj
 refine wpAny_bind (wpAny_pure (wpAny_bind (wpAny_bind (wpAny_loadPart hx (wpAny_bind (PySem.W.Looks.here (s:={ s with toks:=s.toks+1 }) (PySem.W.looks_clsIn X hc) ?_))))))
 rw [hd']
 refine wpAny_pure (a:=some dx) (wpAny_bind (wpAny_pure (wpAny_bind ?_)))
 refine wpAny_nsSet1 (s:={ s with toks:=s.toks+1 }) I.ns fun h' pT Fu=>?_
 obtain⟨oD,XJ,XM,Q3,RI,RN⟩:=pT.count (PySem.Within.cons name v hw)
 refine wpAny_bind (wpAny_lookBehind Q3 (by rw [RI];exact pastItsLine_dict (Nat.le_trans RN (by rw [List.length_cons];omega))) ?_)
 exact wpAny_pure (h _ ⟨(Fu.2 _ (Ne.symm I.ne)).trans I.obj,pT,I.ne⟩ Fu)
theorem PK {R:Result->Shared->Prop}{vs:List Value}{kw:List (Str×Value)}(X:K.In s.heap) (hm:PySem.W.makesIn K C=true)
  (hi:PySem.W.findIn K (.ref C) "__init__" = some (some (.ref f))) (hf:PySem.W.typeIn K (.ref f)=some (.type "function"))
  (h:codeAny (model prog w) (A.under (.builtin "type.__call__" ⟨.ref C::vs,kw⟩)) (.call (.ref f) ⟨.ref (s.heap.objs.size+1)::vs,kw⟩) (PySem.W.InitBack (s.heap.objs.size+1) R)
   { s with heap:=(s.heap.push PySem.W.emptyDict).push (PySem.W.instObj C s.heap.objs.size) }) :
  codeAny (model prog w) A (.call (.ref C) ⟨vs,kw⟩) R s:=by
 obtain⟨hh,g,d,t,os⟩:=s
 exact PySem.W.make_core (PySem.W.makes_of X hm) (PySem.W.looks_findIn X hi) (fun self=>PySem.W.bind_fn X self hf) (.inl rfl) h
end
def dj (f:Str) (v:V):List (Str×V)->List (Str×V)
 |[]=>[(f,v)]
 |(g,x)::r=>if g=f then(g,v)::r else(g,x)::dj f v r
theorem EV (f g:Str) (v:V):∀ fs:List (Str×V),(dj f v fs).lookup g=if g=f then some v else fs.lookup g
 |[]=>by
  show List.lookup g [(f,v)]=_
  by_cases h:g=f
  ·have hb:(g == f)=true:=beq_iff_eq.mpr h
   simp only [List.lookup,hb,if_pos h]
  ·have hb:(g == f)=false:=beq_eq_false_iff_ne.mpr h
   simp only [List.lookup,hb,if_neg h]
 |(k,x)::r=>by
  have ih:=EV f g v r
  rw [show dj f v ((k,x)::r)=(if k=f then(k,v)::r else(k,x)::dj f v r) from rfl]
  by_cases hk:k=f
  ·rw [if_pos hk]
   by_cases h:g=k
   ·have hb:(g == k)=true:=beq_iff_eq.mpr h
    simp only [List.lookup,hb,if_pos (h.trans hk)]
   ·have hb:(g == k)=false:=beq_eq_false_iff_ne.mpr h
    simp only [List.lookup,hb,if_neg (fun e:g=f=>h (e.trans hk.symm))]
  ·rw [if_neg hk]
   by_cases h:g=k
   ·have hb:(g == k)=true:=beq_iff_eq.mpr h
    simp only [List.lookup,hb,if_neg (fun e:g=f=>hk (h.symm.trans e))]
   ·have hb:(g == k)=false:=beq_eq_false_iff_ne.mpr h
    simp only [List.lookup,hb]
    exact ih
theorem yC (f:Str) (v:V):∀ fs:List (Str×V),f∈(dj f v fs).map (·.1)/\∀ g,g∈fs.map (·.1)->g∈(dj f v fs).map (·.1)
 |[]=>⟨by simp [dj],fun g h=>by simp at h⟩
 |(k,x)::r=>by
  obtain⟨i1,i2⟩:=yC f v r
  rw [show dj f v ((k,x)::r)=(if k=f then(k,v)::r else(k,x)::dj f v r) from rfl]
  by_cases hk:k=f
  ·rw [if_pos hk]
   subst hk
   exact⟨by simp,fun g h=>by simpa using h⟩
  ·rw [if_neg hk]
   refine⟨?_,fun g h=>?_⟩
   ·rw [List.map_cons]
    exact List.mem_cons_of_mem _ i1
   ·rw [List.map_cons] at h ⊢
    rcases List.mem_cons.mp h with e | e
    ·exact List.mem_cons.mpr (.inl e)
    ·exact List.mem_cons_of_mem _ (i2 g e)
theorem EY (f:Str) (v:V):∀ fs:List (Str×V),(dj f v fs).length<=fs.length+1
 |[]=>by simp [dj]
 |(k,x)::r=>by
  have ih:=EY f v r
  rw [show dj f v ((k,x)::r)=(if k=f then(k,v)::r else(k,x)::dj f v r) from rfl]
  by_cases hk:k=f
  ·rw [if_pos hk,List.length_cons,List.length_cons];omega
  ·rw [if_neg hk,List.length_cons,List.length_cons];omega
theorem hX.some_of {v:V}{o:Option Value}(r:hX (some v) o):∃ u,o=some u/\RelV v u:=by
 cases o with
 | none=>exact(show False from r).elim
 | some u=>exact⟨u,rfl,r⟩
theorem hX.none_of {o:Option Value}(r:hX none o):o=none:=by
 cases o with
 | none=>rfl
 | some u=>exact(show False from r).elim
theorem RS {v:V}{u:Value}(r:RelV v u):PySem.W.handedIn u=true:=by
 cases v with
 | aD=>cases (show u=Value.none from r);rfl
 | bl b=>cases (show u=Value.bool b from r);rfl
 | int i=>obtain⟨t,e⟩:=(show ∃ t,u=Value.int i t from r);cases e;rfl
 | str x=>obtain⟨t,e⟩:=(show ∃ t,u=Value.str x t from r);cases e;rfl
 | hG b=>obtain⟨t,e⟩:=(show ∃ t,u=Value.bytes b t from r);cases e;rfl
 | va b=>obtain⟨t,e⟩:=(show ∃ t,u=Value.float b t from r);cases e;rfl
 | ref a=>cases (show u=Value.ref a from r);rfl
 | ty n=>cases (show u=Value.type n from r);rfl
section
variable {P:Program}{w:World}{H H':Hp}{h h':Heap}{a C dx:Addr}{fs fs':List (Str×V)}
theorem yH (aU:cP P w H h) (e:H a=some (.ins C dx fs)):∃ mA,oB h a dx C mA/\(∀ f,hX (fs.lookup f) (mA f))/\PySem.Within mA (fs.map (·.1))/\fs.length<=1000/\H dx=some (.own a):=by
 obtain⟨d,z,ne,ob,mA,n,r,q⟩:=(show dP P w H h a (.ins C dx fs) from aU a _ e)
 exact⟨mA,⟨ob,n,ne⟩,r,q,z,d⟩
end
structure iS (K:PySem.W.Frag) (C:Addr):Prop where
 pg:PySem.W.plainGet K C Str.empty=true
 hd:PySem.W.hasDictIn K C=true
 po:PySem.W.plainOver K C=true
 sa:PySem.W.findIn K (.ref C) "__setattr__" = some (some (.builtin "object.__setattr__"))
theorem iS.get {K:PySem.W.Frag}{C:Addr}(c:iS K C) (f:Str):PySem.W.plainGet K C f=true:=c.pg
def lu (K:PySem.W.Frag) (C:Addr) (f:Str):Prop:=PySem.W.findIn K (.ref C) f=some none
theorem lu.JA {K:PySem.W.Frag}{C:Addr}{f:Str}(n:lu K C f):PySem.W.takerIn K C f=some none:=by
 unfold PySem.W.takerIn
 rw [show PySem.W.findIn K (.ref C) f=some none from n]
 rfl
structure Meth (K:PySem.W.Frag) (C:Addr) (m:Str) (f:Addr):Prop where
 at_:PySem.W.findIn K (.ref C) m=some (some (.ref f))
 fn:PySem.W.isFn K (.ref f)=true
 kp:PySem.W.keepIn K (.ref f)=true
section
variable {X:Cx}{ab:List (Addr×Obj)}{σ:St}{H:Hp}{s:Shared}{a C dx:Addr}{fs:List (Str×V)}{f:Str}{v:V}{A:Around}{E:Value->Shared->Prop}
theorem Gw {b:Bool}{Q:Value->Shared->Prop}(I:Inv X ab σ H s) (e:H a=some (.ins C dx fs)) (c:iS X.K C) (n:lu X.K C f) (l:fs.lookup f=some v)
  (h:∀ u s',Inv X ab σ H s'->RelV v u->Q u s'):wpAny (model X.prog X.w) A (getAttr (.ref a) f b) Q E s:=by
 obtain⟨mA,O,r,_,_,_⟩:=yH I.aU e
 obtain⟨u,hu,ru⟩:=hX.some_of (v:=v) (o:=mA f) (by rw [←l];exact r f)
 exact get_map I.fP O (c.get f) c.hd n hu (RS ru) (h u _ (I.tok _) ru)
theorem Gv {m:Str}{g:Addr}{pl:Sem Bool}{Q:Value×List Value->Shared->Prop}(I:Inv X ab σ H s) (e:H a=some (.ins C dx fs)) (c:iS X.K C) (k:Meth X.K C m g) (l:fs.lookup m=none)
  (h:Q (.ref g,[.ref a]) s):wpAny (model X.prog X.w) A (getMethod (.ref a) m pl) Q E s:=by
 obtain⟨mA,O,r,_,_,_⟩:=yH I.aU e
 have hn:mA m=none:=hX.none_of (by rw [←l];exact r m)
 exact Sn I.fP O (c.get m) k.at_ k.fn hn h
theorem Br {y:V}{u:Value}{Q:Unit->Shared->Prop}(I:Inv X ab σ H s) (e:H a=some (.ins C dx fs)) (c:iS X.K C) (n:lu X.K C f) (hl:fs.length<1000) (ry:RelV y u)
  (h:∀ s',Inv X ab σ (upd H a (.ins C dx (dj f y fs))) s'->Q () s'):wpAny (model X.prog X.w) A (setAttr (.ref a) f u) Q E s:=by
 obtain⟨mA,O,r,wi,_,ho⟩:=yH I.aU e
 have hz:(fs.map (·.1)).length<=sizeLine:=by rw [List.length_map,sizeLine_eq];omega
 refine Lg I.fP O c.sa c.po n.JA c.hd wi hz fun h' O' sb=>h _ ?_
 have hd:∃ o,h'.get? dx=some o:=let ⟨o,_,_,e',_⟩:=O'.ns;⟨o,e'⟩
 refine I.write (x:=a) (e:=dx) (by rw [e];exact True.intro) (.inr ho) (fun b q hb z=>(sb.2 b hb).trans z) hd ?_
 refine⟨by rw [aj O.ne];exact ho,?_,O.ne,O'.obj,_,O'.ns,fun g=>?_,fun g hg=>?_⟩
 ·have:=EY f y fs;omega
 ·show hX ((dj f y fs).lookup g) (if g=f then some u else mA g)
  rw [EV]
  by_cases q:g=f
  ·rw [if_pos q,if_pos q];exact ry
  ·rw [if_neg q,if_neg q];exact r g
 ·by_cases q:g=f
  ·rw [q];exact(yC f y fs).1
  ·refine(yC f y fs).2 g (wi g fun z=>hg ?_)
   show(if g=f then some u else mA g)=none
   rw [if_neg q];exact z
theorem Inv.made (I:Inv X ab σ H s):Inv X ab σ (upd (upd H s.heap.objs.size (.own (s.heap.objs.size+1))) (s.heap.objs.size+1) (.ins C s.heap.objs.size []))
  { s with heap:=(s.heap.push PySem.W.emptyDict).push (PySem.W.instObj C s.heap.objs.size) }:=by
 have e1:(s.heap.push PySem.W.emptyDict).get? s.heap.objs.size=some PySem.W.emptyDict:=Heap.get?_push_size s.heap rfl
 have e2:((s.heap.push PySem.W.emptyDict).push (PySem.W.instObj C s.heap.objs.size)).get? (s.heap.objs.size+1)=some (PySem.W.instObj C s.heap.objs.size):=by
  have:=Heap.get?_push_size (s.heap.push PySem.W.emptyDict) (o:=PySem.W.instObj C s.heap.objs.size) rfl
  rwa [Heap.size_push] at this
 have e3:(s.heap.push PySem.W.emptyDict).Ns s.heap.objs.size (fun _=>none):=⟨PySem.W.emptyDict,#[],_,e1,rfl,(fun e he=>absurd he (by simp)),fun _=>rfl⟩
 have I1:=I.laid (a:=s.heap.objs.size) (o:=.own (s.heap.objs.size+1)) (h':=s.heap.push PySem.W.emptyDict) (t':=s.toks) (fun b u q=>Heap.get?_push_of_some _ q) (Nat.le_refl _) ⟨_,e1⟩
 refine I1.laid (a:=s.heap.objs.size+1) (o:=.ins C s.heap.objs.size []) (t':=s.toks) (fun b u q=>Heap.get?_push_of_some _ q) (Nat.le_of_eq (Heap.size_push _ _)) ?_
 have ne:s.heap.objs.size≠s.heap.objs.size+1:=Nat.ne_of_lt (Nat.lt_succ_self _)
 refine⟨by rw [aj ne,af],Nat.zero_le _,ne,e2,fun _=>none,(Heap.Ns1.of_empty e3).at fun o q=>Heap.get?_push_of_some _ q,fun _=>True.intro,fun y hy=>absurd rfl hy⟩
theorem V8 {prog:Program}{w:World}{env:Env}{e:Expr}{f:Str}{pos:Pos}{s:Shared}{Q:Value->Shared->Prop}(hb:attributeBase e f env (eval e env)=eval e env)
  (h:wpAny (model prog w) A (eval e env) (fun o s₁=>wpAny (model prog w) A (getAttr o f true) Q E s₁) E s):wpAny (model prog w) A (eval (.Attribute e f pos) env) Q E s:=
 Attribute_any_ h (by rw [arm_eval_Attribute,hb])
end
def du (K:PySem.W.Frag) (ta:TE) (f:Str):TE:=fun σ H Q=>ta σ H fun x H1=>∃ a C dx fs v,x=.ref a/\H1 a=some (.ins C dx fs)/\iS K C/\lu K C f/\fs.lookup f=some v/\Q v H1
def Dd (K:PySem.W.Frag) (ta tv:TE) (f:Str):TS:=fun D σ H=>tv σ H fun y H1=>ta σ H1 fun x H2=>∃ a C dx fs,x=.ref a/\H2 a=some (.ins C dx fs)/\iS K C/\lu K C f/\fs.length<1000 /\
 D.nx σ (upd H2 a (.ins C dx (dj f y fs)))
def ID (X:Cx) (op:Operator) (rd:V->V->Hp->VK->Prop):Prop:=
 ∀(ab:List (Addr×Obj)) (s:Shared) (σ:St) (H:Hp) (x y:V) (u v:Value) (Q:VK),Inv X ab σ H s->RelV x u->RelV y v->rd x y H Q->wpAny (model X.prog X.w) X.A (inplaceOp op u v) (EP X ab σ Q) X.xe s
def Mc (K:PySem.W.Frag) (ta tv:TE) (rd:V->V->Hp->VK->Prop) (f:Str):TS:=fun D σ H=>ta σ H fun x H1=>∃ a C dx fs v,x=.ref a/\H1 a=some (.ins C dx fs)/\iS K C/\lu K C f/\fs.lookup f=some v /\
 tv σ H1 fun y H2=>rd v y H2 fun z H3=>∃ dx' fs',H3 a=some (.ins C dx' fs')/\fs'.length<1000/\D.nx σ (upd H3 a (.ins C dx' (dj f z fs')))
section
variable {X:Cx}{o e value:Expr}{f:Str}{pos pos' jy:Pos}{ta tv:TE}
theorem Nc (he:PE X e ta) (hb:attributeBase e f X.env (eval e X.env)=eval e X.env):PE X (.Attribute e f pos) (du X.K ta f):=by
 intro ab s σ H Q I h
 refine V8 hb (aV (he ab s σ H _ I h) fun u s1 ⟨x,H1,I1,rx,a,C,dx,fs,v,ex,ea,c,n,l,q⟩=>?_)
 subst ex
 obtain rfl:u=Value.ref a:=rx
 exact Gw I1 ea c n l fun u' s2 I2 ru=>⟨v,H1,I2,ru,q⟩
theorem bL (ha:PE X o ta) (hv:PE X value tv) (hs:swapsWith value (some (.Attribute o f pos')) pos.line X.env=pure false):PS X (.Assign [.Attribute o f pos'] value pos) (Dd X.K ta tv f):=by
 intro ab s σ H D I h
 refine plainObj_wpAny_Assign_Attribute (aV (hv ab s σ H _ I h) fun u s1 ⟨y,H1,I1,ry,q⟩=>aV (ha ab s1 σ H1 _ I1 q) fun ov s2 ⟨x,H2,I2,rx,a,C,dx,fs,ex,ea,c,n,l,q2⟩=>?_) hs
 subst ex
 obtain rfl:ov=Value.ref a:=rx
 exact Br I2 ea c n l ry fun s3 I3=>⟨σ,_,I3,q2⟩
theorem MV {op:Operator}{rd:V->V->Hp->VK->Prop}(ha:PE X o ta) (hv:PE X value tv) (jQ:ID X op rd):PS X (.AugAssign (.Attribute o f jy) op value pos) (Mc X.K ta tv rd f):=by
 intro ab s σ H D I h
 refine wpAny_AugAssign_AttributeAny (aV (ha ab s σ H _ I h) fun ov s1 ⟨x,H1,I1,rx,a,C,dx,fs,v,ex,ea,c,n,l,q⟩=>?_)
 subst ex
 obtain rfl:ov=Value.ref a:=rx
 refine Gw I1 ea c n l fun u s2 I2 ru=>aV (hv ab s2 σ H1 _ I2 q) fun w3 s3 ⟨y,H2,I3,ry,q3⟩=>aV (jQ ab s3 σ H2 v y u w3 _ I3 ru ry q3) fun w4 s4 ⟨z,H3,I4,rz,dx',fs',ea',l',q4⟩=>?_
 exact Br I4 ea' c n l' rz fun s5 I5=>⟨σ,_,I5,q4⟩
def ML:V->V->Hp->VK->Prop:=fun x y H Q=>∃ i j,x=.int i/\y=.int j/\Q (.int (i+j)) H
theorem Qw:ID X .Add ML:=by
 rintro ab s σ H x y u v Q I rx ry ⟨i,j,rfl,rfl,q⟩
 obtain⟨t,rfl⟩:=(show ∃ t,u=Value.int i t from rx)
 obtain⟨t',rfl⟩:=(show ∃ t',v=Value.int j t' from ry)
 exact PyProof.Rows.iadd_int ⟨.int (i+j),H,I.tok _,⟨_,rfl⟩,q⟩
end
end L2
namespace L2
open PySem PySem.Spec PyProof.Rows
structure cA (k:Nat) (A:Around):Prop where
 hd:A.handled=none
 dp:A.depth+3*k+5<recursionLimit
 un:A.units+16*k+200<cLine
theorem cA.mono {j k:Nat}{A:Around}(r:cA k A) (h:j<=k):cA j A:=⟨r.hd,by have:=r.dp;omega,by have:=r.un;omega⟩
theorem cA.deeper {k:Nat}{A:Around}(r:cA (k+1) A) (env:Env):cA k (A.deeper env):=
 ⟨r.hd,by have:=r.dp;show A.depth+1+3*k+5<_;omega,by have:=r.un;show A.units+3+16*k+200<_;omega⟩
theorem PL {A:Around}{C:Addr}{us:List Value}{kw:List (Str×Value)}:(A.under (.builtin "type.__call__" ⟨.ref C::us,kw⟩)).depth=A.depth+1:=by
 first | rfl | simp [Around.under,Code.weight,Code.isCreation,Code.isGuard,Code.isCaller,Code.frames,Code.isFrame,guardIds]
theorem PJ {A:Around}{C:Addr}{us:List Value}{kw:List (Str×Value)}:(A.under (.builtin "type.__call__" ⟨.ref C::us,kw⟩)).units=A.units+1:=by
 first | rfl | simp [Around.under,Code.cUnits,Code.frames,Code.isFrame]
theorem cA.make {k:Nat}{A:Around}(r:cA (k+1) A) (C:Addr) (us:List Value) (kw:List (Str×Value)):cA k (A.under (.builtin "type.__call__" ⟨.ref C::us,kw⟩)):=
 ⟨r.hd,by have:=r.dp;rw [PL];omega,by have:=r.un;rw [PJ];omega⟩
theorem cA.depth {k:Nat}{A:Around}(r:cA k A):A.depth<recursionLimit:=by have:=r.dp;omega
theorem cA.units {k:Nat}{A:Around}(r:cA k A):A.units+64<cLine:=by have:=r.un;omega
def dz:TA:=fun _ H Q=>Q [] H
def cF (ta:TE) (tr:TA):TA:=fun σ H Q=>ta σ H fun x H1=>tr σ H1 fun xs H2=>Q (x::xs) H2
section
variable {X:Cx}{e:Expr}{es:List Expr}{te:TE}{t:TA}{pos:Pos}
theorem ae:PA X [] dz:=fun _ _ _ _ H Q I h=>Calls.spliced_nil ⟨[],H,I,.nil,h⟩
theorem aa (ha:PE X e te) (hr:PA X es t) (hs:starEach (e::es) X.env=(false,eval e X.env)::starEach es X.env:=by rfl):PA X (e::es) (cF te t):=by
 intro pos ab s σ H Q I h
 rw [hs]
 show wpAny _ _ (spliced ((false,eval e X.env)::backTo pos (starEach es X.env))) _ _ s
 refine Calls.spliced_cons (aV (ha ab s σ H _ I h) fun u s1 ⟨x,H1,I1,r1,q1⟩=>?_)
 exact aV (hr pos ab s1 σ H1 _ I1 q1) fun us s2 ⟨xs,H2,I2,r2,q2⟩=>⟨x::xs,H2,I2,.cons r1 r2,q2⟩
def A5 (t:TA):TE:=fun σ H Q=>t σ H fun xs H1=>xs.length<=sizeLine/\∀ p,H1 p=none->Q (.ref p) (upd H1 p (.tup xs))
def md (t:TA):TE:=fun σ H Q=>t σ H fun xs H1=>xs.length<=sizeLine/\∀ p,H1 p=none->Q (.ref p) (upd H1 p (.lst xs))
theorem tW {x1}(h:PA X es t):PE X (.Tuple es x1 pos) (A5 t):=by
 intro ab s σ H Q I hq
 refine wpAny_Tuple_spliced (aV (h pos ab s σ H _ I hq) fun us s1 ⟨xs,H1,I1,r,z,q⟩=>⟨by rw [←r.length];exact z,?_⟩)
 have hf:H1 s1.heap.objs.size=none:=I1.aU.fresh (Nat.le_refl _)
 refine⟨.ref s1.heap.objs.size,upd H1 s1.heap.objs.size (.tup xs),I1.laid (t':=s1.toks) (fun b u e=>Heap.get?_push_of_some _ e) (Nat.le_refl _) ?_,rfl,q _ hf⟩
 exact⟨z,us,r,⟨_,Heap.get?_push_size _ rfl,rfl,_,rfl⟩⟩
theorem aZ (h:PA X es t):PE X (.List es pos) (md t):=by
 intro ab s σ H Q I hq
 refine wpAny_List_spliced (aV (h pos ab s σ H _ I hq) fun us s1 ⟨xs,H1,I1,r,z,q⟩=>⟨by rw [←r.length];exact z,?_⟩)
 have hf:H1 s1.heap.objs.size=none:=I1.aU.fresh (Nat.le_refl _)
 refine⟨.ref s1.heap.objs.size,upd H1 s1.heap.objs.size (.lst xs),I1.laid (t':=s1.toks) (fun b u e=>Heap.get?_push_of_some _ e) (Nat.le_refl _) ?_,rfl,q _ hf⟩
 exact⟨z,us,0,r,Heap.get?_push_size _ rfl⟩
end
abbrev Sp:=List V->Hp->VK->XK->Prop
abbrev j5:=List Env->Hp->Shared->XK->Value->Shared->Prop
structure oC (P:Program) (w:World) (K:PySem.W.Frag) (mg:Str->Option Value) (base:Heap) (A:Around) (aA:List Env) (s:Shared) (H:Hp):Prop where
 frames:A.frames=some aA
 mod:Mod K mg base
 bs:∀ b o,base.get? b=some o->s.heap.get? b=some o/\H b=none
 lX:base.objs.size<=s.heap.objs.size
 jU:s.heap.FunFrames base aA
 nY:∀ b∈kF aA,H b=none
 aU:cP P w H s.heap
 bare:AllBare s.gens
def CE (aA:List Env) (P:Program) (w:World) (H:Hp) (s:Shared) (Q:VK) (u:Value) (s':Shared):Prop:=
 ∃ v H',s'.os=s.os/\AllBare s'.gens/\Un (kF aA) [] H H' s.heap s'.heap/\cP P w H' s'.heap/\RelV v u/\Q v H'
def CR (CX:j5) (aA:List Env) (P:Program) (w:World) (H:Hp) (s:Shared) (Q:VK) (E:XK) (r:Result) (s':Shared):Prop:=
 match r with
 | .ok (.ret u)=>CE aA P w H s Q u s'
 | .ok _=>False
 | .error e=>CX aA H s E e s'
structure fc (P:Program) (w:World) (K:PySem.W.Frag) (mg:Str->Option Value) (base:Heap) (CX:j5) (k:Nat) (f:Addr) (fd:FuncData) (ps:List Str) (sp:Sp):Prop where
 len:∀ vs H Q E,sp vs H Q E->vs.length=ps.length
 run:∀(A:Around) (aA:List Env) (s:Shared) (H:Hp) (args:Args) (us:List Value) (vs:List V) (Q:VK) (E:XK),cA k A->oC P w K mg base A aA s H->BindsTo s fd args (ps.zip us)->Vals vs us->sp vs H Q E->
  codeAny (model P w) A (.call (.ref f) args) (CR CX aA P w H s Q E) s
theorem fc.mono {P:Program}{w:World}{K:PySem.W.Frag}{mg:Str->Option Value}{base:Heap}{CX:j5}{j k:Nat}{f:Addr}{fd:FuncData}{ps:List Str}{sp:Sp}(F:fc P w K mg base CX j f fd ps sp) (h:j<=k) :
  fc P w K mg base CX k f fd ps sp:=⟨F.len,fun A aA s H args us vs Q E hr=>F.run A aA s H args us vs Q E (hr.mono h)⟩
theorem oC.make {P:Program}{w:World}{K:PySem.W.Frag}{mg:Str->Option Value}{base:Heap}{A:Around}{aA:List Env}{s:Shared}{H:Hp}(e:oC P w K mg base A aA s H) (C:Addr) (us:List Value) (kw:List (Str×Value)) :
  oC P w K mg base (A.under (.builtin "type.__call__" ⟨.ref C::us,kw⟩)) aA s H:=⟨by first | exact e.frames |(simpa [Around.under,Code.envs,Code.isFrame,pushEnvs] using e.frames),e.mod,e.bs,e.lX,e.jU,e.nY,e.aU,e.bare⟩
section
variable {X:Cx}{ab:List (Addr×Obj)}{σ:St}{H:Hp}{s s':Shared}
theorem Inv.Hc (I:Inv X ab σ H s):oC X.prog X.w X.K X.mg X.base X.A X.stack s H:=
 ⟨I.ok.frames,I.ok.mod,I.bs,Nat.le_trans I.ok.lX I.sz,I.stack,I.Bc,I.aU,I.bare⟩
theorem Inv.after {Q:VK}{u:Value}(I:Inv X ab σ H s) (h:CE X.stack X.prog X.w H s Q u s'):EP X ab σ Q u s':=by
 obtain⟨v,H',os,bare,un,aU,r,q⟩:=h
 obtain⟨hh,g,d,t,os'⟩:=s'
 obtain rfl:os'=s.os:=os
 exact⟨v,H',I.call (h':=hh) (g':=g) (d':=d) (t':=t) (ch:=[]) un aU bare (fun b z=>absurd z (by simp)),r,q⟩
end
def iC (sp:Sp) (d4:List V) (E:XK) (t:TA):TE:=fun σ H Q=>t σ H fun vs H1=>sp (vs++d4) H1 Q E
def sT (C:Addr) (m:Str) (sp:Sp) (d4:List V) (E:XK) (ta:TE) (t:TA):TE:=fun σ H Q=>ta σ H fun x H1=>∃ a dx fs,x=.ref a/\H1 a=some (.ins C dx fs)/\fs.lookup m=none /\
 t σ H1 fun vs H2=>sp (x::(vs++d4)) H2 Q E
def sU (C:Addr) (sp:Sp) (d4:List V) (E:XK) (t:TA):TE:=fun σ H Q=>t σ H fun vs H1=>∀ x dx,H1 x=none->H1 dx=none->dx≠x->
 sp (.ref x::(vs++d4)) (upd (upd H1 dx (.own x)) x (.ins C dx [])) (fun v H2=>v=.aD/\Q (.ref x) H2) E
def Binds (K:PySem.W.Frag) (fd:FuncData) (ps:List Str) (ds:List Value):Prop:=
 ∀(s:Shared) (us:List Value),K.In s.heap->(us++ds).length=ps.length->BindsTo s fd ⟨us,[]⟩ (ps.zip (us++ds))
theorem Binds.all {K:PySem.W.Frag}{fd:FuncData}{ps:List Str}(h:∀ us:List Value,us.length=ps.length->bindArgs fd ⟨us,[]⟩=pure (ps.zip us)):Binds K fd ps []:=fun s us _ hl=>by
 rw [List.append_nil] at hl ⊢
 exact .of_eq (h us hl)
def Passes (CX:j5) (X:Cx) (E:XK):Prop:=∀(ab:List (Addr×Obj)) (σ:St) (H:Hp) (s:Shared) (e:Value) (s':Shared),Inv X ab σ H s->CX X.stack H s E e s'->X.xe e s'
section
variable {X:Cx}{CX:j5}{k:Nat}{f C:Addr}{fd:FuncData}{ps:List Str}{sp:Sp}{d4:List V}{ds:List Value}{E:XK}{x m:Str}{p pos apos:Pos}{e o:Expr}{es:List Expr}{ta:TE}{t:TA}
theorem qE {ab:List (Addr×Obj)}{σ:St}{H:Hp}{s:Shared}{Q:VK}{us:List Value}{vs:List V}(F:fc X.prog X.w X.K X.mg X.base CX k f fd ps sp) (hr:cA k X.A) (hb:Binds X.K fd ps ds) (hd:Vals d4 ds) (hx:Passes CX X E)
  (I:Inv X ab σ H s) (r:Vals vs us) (h:sp (vs++d4) H Q E):wpAny (model X.prog X.w) X.A (call (.ref f) us) (EP X ab σ Q) X.xe s:=by
 have r2:Vals (vs++d4) (us++ds):=r.append hd
 have hl:(us++ds).length=ps.length:=by rw [←r2.length];exact F.len _ _ _ _ h
 refine wpAny_call (codeAny_mono (F.run X.A X.stack s H ⟨us,[]⟩ (us++ds) (vs++d4) Q E hr I.Hc (hb s us I.fP hl) r2 h) fun r s' hq=>?_)
 cases r with
 | error e=>exact hx ab σ H s e s' I hq
 | ok fl=>
  cases fl with
  | ret u=>exact I.after hq
  | next=>exact False.elim hq
  | brk=>exact False.elim hq
  | cont=>exact False.elim hq
theorem Ni (F:fc X.prog X.w X.K X.mg X.base CX k f fd ps sp) (hr:cA k X.A) (hg:Gl X x) (hm:X.mg x=some (.ref f)) (hk:PySem.W.keepIn X.K (.ref f)=true) (hb:Binds X.K fd ps ds) (hd:Vals d4 ds) (hx:Passes CX X E)
  (ha:PA X (e::es) t) (eP:(x == ("__debug__":Str))=false:=by decide) (he:starEach (e::es) X.env=(false,eval e X.env)::starEach es X.env:=by rfl) (dh:(backTo pos (starEach es X.env)).any (·.1)=false:=by rfl) :
  PE X (.Call (.Name x p) (e::es) [] pos) (iC sp d4 E t):=by
 intro ab s σ H Q I h
 refine wpAny_Call_Name_kw (pD I hg hm ?_ eP)
 refine PySem.W.callWith_K (h₀:=X.base) I.ok.mod.pH hk (aV (ha pos ab s σ H _ I h) fun us s1 ⟨vs,H1,I1,r,q⟩=>⟨I1.fP,?_⟩) he dh
 exact qE F hr hb hd hx I1 r q
theorem Nh (F:fc X.prog X.w X.K X.mg X.base CX k f fd ps sp) (hr:cA k X.A) (hg:Gl X x) (hm:X.mg x=some (.ref f)) (hk:PySem.W.keepIn X.K (.ref f)=true) (hb:Binds X.K fd ps ds) (hd:Vals d4 ds) (hx:Passes CX X E)
  (eP:(x == ("__debug__":Str))=false:=by decide):PE X (.Call (.Name x p) [] [] pos) (iC sp d4 E dz):=by
 intro ab s σ H Q I h
 refine wpAny_Call_Name_kw (pD I hg hm ?_ eP)
 exact PySem.W.callWith_K0 I.fP hk (qE (us:=[]) F hr hb hd hx I .nil h)
theorem M8 {pl:Sem Bool}(he:PE X o ta) (c:iS X.K C) (hm:Meth X.K C m f) (F:fc X.prog X.w X.K X.mg X.base CX k f fd ps sp) (hr:cA k X.A) (hb:Binds X.K fd ps ds) (hd:Vals d4 ds) (hx:Passes CX X E) (ha:PA X (e::es) t)
  (eZ:starEach (e::es) X.env=(false,eval e X.env)::starEach es X.env:=by rfl) (dh:(backTo pos (starEach es X.env)).any (·.1)=false:=by rfl)
  (ht:eval (.Call (.Attribute o m apos) (e::es) [] pos) X.env=(do
   let ov ← eval o X.env
   standAt apos.atName
   let (f,first) ← holding [ov] (getMethod ov m pl)
   callWith pos f first (backTo pos (starEach (e::es) X.env)) (backToKw pos (keywordEach [] X.env))):=by rfl) :
  PE X (.Call (.Attribute o m apos) (e::es) [] pos) (sT C m sp d4 E ta t):=by
 intro ab s σ H Q I h
 refine PySem.W.methodCall_KW (pl:=pl) (aV (he ab s σ H _ I h) fun u s1 ⟨x,H1,I1,rx,a,dx,fs,ex,ea,l,q⟩=>?_) ht
 subst ex
 obtain rfl:u=Value.ref a:=rx
 refine Gv I1 ea c hm l ?_
 refine PySem.W.callWith_K (first:=[.ref a]) (h₀:=X.base) I.ok.mod.pH hm.kp (aV (ha pos ab s1 σ H1 _ I1 q) fun us s2 ⟨vs,H2,I2,r,q2⟩=>⟨I2.fP,?_⟩) eZ dh
 exact qE (us:=.ref a::us) (vs:=.ref a::vs) F hr hb hd hx I2 (.cons rfl r) q2
theorem M7 {pl:Sem Bool}(he:PE X o ta) (c:iS X.K C) (hm:Meth X.K C m f) (F:fc X.prog X.w X.K X.mg X.base CX k f fd ps sp) (hr:cA k X.A) (hb:Binds X.K fd ps ds) (hd:Vals d4 ds) (hx:Passes CX X E)
  (ht:eval (.Call (.Attribute o m apos) [] [] pos) X.env=(do
   let ov ← eval o X.env
   standAt apos.atName
   let (f,first) ← holding [ov] (getMethod ov m pl)
   callWith pos f first (backTo pos (starEach [] X.env)) (backToKw pos (keywordEach [] X.env))):=by rfl) :
  PE X (.Call (.Attribute o m apos) [] [] pos) (sT C m sp d4 E ta dz):=by
 intro ab s σ H Q I h
 refine PySem.W.methodCall_KW (pl:=pl) (aV (he ab s σ H _ I h) fun u s1 ⟨x,H1,I1,rx,a,dx,fs,ex,ea,l,q⟩=>?_) ht
 subst ex
 obtain rfl:u=Value.ref a:=rx
 refine Gv I1 ea c hm l ?_
 exact PySem.W.callWith_K0 (first:=[.ref a]) I1.fP hm.kp (qE (us:=[.ref a]) (vs:=[.ref a]) F hr hb hd hx I1 (.cons rfl .nil) q)
structure Mk (K:PySem.W.Frag) (C f:Addr):Prop where
 makes:PySem.W.makesIn K C=true
 init:PySem.W.findIn K (.ref C) "__init__" = some (some (.ref f))
 fn:PySem.W.isFn K (.ref f)=true
 kp:PySem.W.keepIn K (.ref C)=true
theorem De {ab:List (Addr×Obj)}{σ:St}{H:Hp}{s:Shared}{Q:VK}{us:List Value}{vs:List V}(M:Mk X.K C f) (F:fc X.prog X.w X.K X.mg X.base CX k f fd ps sp) (hr:cA (k+1) X.A) (hb:Binds X.K fd ps ds) (hd:Vals d4 ds)
  (hx:Passes CX X E) (I:Inv X ab σ H s) (r:Vals vs us)
  (h:∀ x dx,H x=none->H dx=none->dx≠x->sp (.ref x::(vs++d4)) (upd (upd H dx (.own x)) x (.ins C dx [])) (fun v H2=>v=.aD/\Q (.ref x) H2) E) :
  wpAny (model X.prog X.w) X.A (call (.ref C) us) (EP X ab σ Q) X.xe s:=by
 have hq:=h (s.heap.objs.size+1) s.heap.objs.size (I.aU.fresh (Nat.le_succ _)) (I.aU.fresh (Nat.le_refl _)) (Nat.ne_of_lt (Nat.lt_succ_self _))
 have I2:=Inv.made (C:=C) I
 have r2:Vals (V.ref (s.heap.objs.size+1)::(vs++d4)) (Value.ref (s.heap.objs.size+1)::(us++ds)):=.cons rfl (r.append hd)
 have hl:(Value.ref (s.heap.objs.size+1)::us++ds).length=ps.length:=by
  have e:=r2.length
  rw [F.len _ _ _ _ hq] at e
  exact e.symm
 refine wpAny_call (PK (f:=f) I.fP M.makes M.init (beq_iff_eq.mp M.fn) (codeAny_mono (F.run _ X.stack _ _ ⟨Value.ref (s.heap.objs.size+1)::us,[]⟩ (Value.ref (s.heap.objs.size+1)::(us++ds)) _ _ E (hr.make C us [])
  (I2.Hc.make C us []) (hb _ (Value.ref (s.heap.objs.size+1)::us) I2.fP hl) r2 hq) fun r s' hq'=>?_))
 cases r with
 | error e=>exact hx ab σ _ _ e s' I2 hq'
 | ok fl=>
  cases fl with
  | ret u=>
   obtain⟨v,H',I3,rv,ev,q3⟩:=I2.after hq'
   subst ev
   exact⟨rv,⟨V.ref (s.heap.objs.size+1),H',I3,rfl,q3⟩⟩
  | next=>exact False.elim hq'
  | brk=>exact False.elim hq'
  | cont=>exact False.elim hq'
theorem Nb (M:Mk X.K C f) (F:fc X.prog X.w X.K X.mg X.base CX k f fd ps sp) (hr:cA (k+1) X.A) (hg:Gl X x) (hm:X.mg x=some (.ref C)) (hb:Binds X.K fd ps ds) (hd:Vals d4 ds) (hx:Passes CX X E)
  (ha:PA X (e::es) t) (eP:(x == ("__debug__":Str))=false:=by decide) (he:starEach (e::es) X.env=(false,eval e X.env)::starEach es X.env:=by rfl) (dh:(backTo pos (starEach es X.env)).any (·.1)=false:=by rfl) :
  PE X (.Call (.Name x p) (e::es) [] pos) (sU C sp d4 E t):=by
 intro ab s σ H Q I h
 refine wpAny_Call_Name_kw (pD I hg hm ?_ eP)
 refine PySem.W.callWith_K (h₀:=X.base) I.ok.mod.pH M.kp (aV (ha pos ab s σ H _ I h) fun us s1 ⟨vs,H1,I1,r,q⟩=>⟨I1.fP,?_⟩) he dh
 exact De M F hr hb hd hx I1 r q
theorem Na (M:Mk X.K C f) (F:fc X.prog X.w X.K X.mg X.base CX k f fd ps sp) (hr:cA (k+1) X.A) (hg:Gl X x) (hm:X.mg x=some (.ref C)) (hb:Binds X.K fd ps ds) (hd:Vals d4 ds) (hx:Passes CX X E)
  (eP:(x == ("__debug__":Str))=false:=by decide):PE X (.Call (.Name x p) [] [] pos) (sU C sp d4 E dz):=by
 intro ab s σ H Q I h
 refine wpAny_Call_Name_kw (pD I hg hm ?_ eP)
 exact PySem.W.callWith_K0 I.fP M.kp (De (us:=[]) M F hr hb hd hx I .nil h)
end
structure aN (N P:List Str) (sc:Scope):Prop where
 kind:sc.kind=.function
 co:sc.isCoroutine=false
 gen:sc.isGenerator=false
 nd:N.Nodup
 pre:N.take P.length=P
 par:∀ x∈P,sc.names.lookup x=some .local\/sc.names.lookup x=some .cell
 OW:∀ y∈sc.names,y.2≠.free
theorem HP {kindOf:Str->Option NameKind}{x:Str}:∀ {binds:List (Str×Value)}{m:Str->Option Value},(∀ v,(x,v) ∉ binds)->bindL kindOf binds m x=m x
 |[],_,_=>rfl
 |(n,v)::r,m,h=>by
  unfold bindL
  rw [HP fun w hw=>h w (List.mem_cons_of_mem _ hw)]
  split
  ·have:x≠n:=by rintro rfl;exact h v List.mem_cons_self
   simp [this]
  ·rfl
theorem HR {kindOf:Str->Option NameKind}{x:Str}:∀ {binds:List (Str×Value)}{m:Str->Option Value},(∀ v,(x,v) ∉ binds)->bindC kindOf binds m x=m x
 |[],_,_=>rfl
 |(n,v)::r,m,h=>by
  unfold bindC
  rw [HR fun w hw=>h w (List.mem_cons_of_mem _ hw)]
  split
  ·rfl
  ·have:x≠n:=by rintro rfl;exact h v List.mem_cons_self
   simp [this]
theorem HQ {kindOf:Str->Option NameKind}{x:Str}{v:Value}:∀ {P:List Str}{vs:List Value}{i:Nat}{m:Str->Option Value},P.Nodup->P[i]? = some x->vs[i]? = some v->kindOf x=some .local->
  bindL kindOf (P.zip vs) m x=some v
 |[],_,_,_,_,h,_,_=>by simp at h
 |_::_,[],_,_,_,_,h,_=>by simp at h
 | p::P,w::vs,0,m,nd,h1,h2,hk=>by
  simp at h1 h2;subst h1;subst h2
  show bindL kindOf ((p,w)::P.zip vs) m p=_
  unfold bindL
  rw [HP fun v hv=>(List.nodup_cons.mp nd).1 (List.of_mem_zip hv).1,if_pos hk]
  simp
 | p::P,w::vs,i+1,m,nd,h1,h2,hk=>by
  show bindL kindOf ((p,w)::P.zip vs) m x=_
  unfold bindL
  exact HQ (i:=i) (List.nodup_cons.mp nd).2 (by simpa using h1) (by simpa using h2) hk
theorem HS {kindOf:Str->Option NameKind}{x:Str}{v:Value}:∀ {P:List Str}{vs:List Value}{i:Nat}{m:Str->Option Value},P.Nodup->P[i]? = some x->vs[i]? = some v->kindOf x≠some .local->
  bindC kindOf (P.zip vs) m x=some v
 |[],_,_,_,_,h,_,_=>by simp at h
 |_::_,[],_,_,_,_,h,_=>by simp at h
 | p::P,w::vs,0,m,nd,h1,h2,hk=>by
  simp at h1 h2;subst h1;subst h2
  show bindC kindOf ((p,w)::P.zip vs) m p=_
  unfold bindC
  rw [HR fun v hv=>(List.nodup_cons.mp nd).1 (List.of_mem_zip hv).1,if_neg hk]
  simp
 | p::P,w::vs,i+1,m,nd,h1,h2,hk=>by
  show bindC kindOf ((p,w)::P.zip vs) m x=_
  unfold bindC
  exact HS (i:=i) (List.nodup_cons.mp nd).2 (by simpa using h1) (by simpa using h2) hk
def start (N:List Str) (vs:List V):St:=vs.map some++List.replicate (N.length-vs.length) none
def jY (CX:j5) (P:Program) (w:World) (K:PySem.W.Frag) (mg:Str->Option Value) (base:Heap) (N:List Str) (qual:Str) (scope:Scope) (f:Addr) (cd:Value) (A:Around) (aA:List Env) (s:Shared) (H:Hp) (E:XK):Cx where
 prog:=P
 w:=w
 K:=K
 mg:=mg
 base:=base
 A:=A.deeper (envOfC qual scope s.heap.objs.size f cd)
 N:=N
 fB:=s
 sD:=H
 env:=envOfC qual scope s.heap.objs.size f cd
 aA:=aA
 stack:=envOfC qual scope s.heap.objs.size f cd::aA
 ex:=[]
 calm:=true
 fn:=fun _=>true
 pn:=[]
 xe:=fun e s'=>wpAny (model P w) (A.deeper (envOfC qual scope s.heap.objs.size f cd)) (leaving (envOfC qual scope s.heap.objs.size f cd) e) (fun _ s''=>CX aA H s E e s'') (fun e' s''=>CX aA H s E e' s'') s'
theorem HE {sc:Scope}{n:Nat}{x:Str}(h:sc.names.lookup x=some .cell):∃ c,(cellsFrom n sc.names []).lookup x=some c:=by
 have q:=PySem.W.cellsFrom_some sc.names n [] (.inl h)
 exact Option.isSome_iff_exists.mp q
theorem Qt {CX:j5}{P:Program}{w:World}{K:PySem.W.Frag}{mg:Str->Option Value}{base:Heap}{N ps:List Str}{qual:Str}{scope:Scope}{f:Addr}{cd:Value}{A:Around}{aA:List Env}{s s1:Shared}{H:Hp}{E:XK}{us:List Value}{vs:List V}
  (S:aN N ps scope) (hd:A.handled=none) (e0:oC P w K mg base A aA s H) (hl:vs.length=ps.length) (r:Vals vs us)
  (x:InCallC s s.heap.objs.size (bindL (envOfC qual scope s.heap.objs.size f cd).kindOf (ps.zip us) fun _=>none) (cellsFrom (s.heap.objs.size+1) scope.names []) (bindC (envOfC qual scope s.heap.objs.size f cd).kindOf (ps.zip us) fun _=>none) s1) :
  Inv (jY CX P w K mg base N qual scope f cd A aA s H E) [] (start N vs) H s1:=by
 have dh:ps.length<=N.length:=by have:=congrArg List.length S.pre;rw [List.length_take] at this;omega
 obtain⟨h1,tk,rfl,hk⟩:=x.done
 have pb:∀ b:Addr,b ∉ (jY CX P w K mg base N qual scope f cd A aA s H E).ex:=fun b z=>absurd (show b∈([]:List Addr) from z) (by simp)
 refine⟨⟨e0.mod,S.kind,rfl,rfl,Nat.le_refl _,fun y z c h1 h2=>?_,fun y hy=>?_,fun y c _ h=>?_,fun _=>hd,Around.frames_deeper e0.frames,.inr ⟨rfl,rfl⟩,fun b z=>absurd z (pb b),e0.bs,e0.lX,fun b _ _=>pb b,fun b z=>absurd z (pb b),e0.jU,e0.nY⟩,
  rfl,e0.bare,Un.kept hk,⟨_,x.toInCall.ns,fun i y v h1 h2 h3=>?_⟩,fun y c h=>⟨_,x.cell y c h⟩,e0.aU.fresh (Nat.le_refl _),fun y c h=>?_,fun p hp=>absurd (show p∈([]:List (Addr×Obj)) from hp) (by simp),e0.aU.kept hk,?_⟩
 ·exact name_of_addr x.apart (PySem.mem_of_lookup h1) (PySem.mem_of_lookup h2)
 ·have hy:scope.names.lookup y=some .cell\/scope.names.lookup y=some .free:=hy
  rcases hy with hy | hy
  ·exact HE hy
  ·exact absurd rfl (S.OW _ (PySem.mem_of_lookup hy))
 ·exact Nat.le_of_lt (x.above y c (PySem.mem_of_lookup h))
 ·have hi:i<vs.length:=by
   unfold start at h2
   by_cases hi:i<vs.length
   ·exact hi
   ·rw [List.getElem?_append_right (by simpa using hi)] at h2
    rw [List.getElem?_replicate] at h2
    split at h2<;>cases h2
  have ha:vs[i]? = some v:=by
   unfold start at h2
   rw [List.getElem?_append_left (by simpa using hi),List.getElem?_map] at h2
   cases e:vs[i]? with
   | none=>rw [e] at h2;cases h2
   | some a=>rw [e] at h2;cases h2;rfl
  obtain⟨u,hu,rv⟩:=r.get ha
  have hp:ps[i]? = some y:=by
   rw [←S.pre,List.getElem?_take_of_lt (by omega)];exact h1
  have EF:ps.Nodup:=by rw [←S.pre];exact S.nd.sublist (List.take_sublist _ _)
  refine⟨u,rv,?_⟩
  rcases S.par y (List.mem_of_getElem? hp) with k | k
  ·exact .inl ⟨k,HQ EF hp hu k⟩
  ·obtain⟨c,e⟩:=HE (n:=s.heap.objs.size+1) k
   refine .inr ⟨.inl k,c,e,?_⟩
   have q:=x.cell y c e
   rw [HS EF hp hu (by show scope.names.lookup y≠_;rw [k];decide)] at q
   exact q
 ·exact e0.aU.fresh (Nat.le_of_lt (x.above y c (PySem.mem_of_lookup h)))
 ·unfold start
  show _=N.length
  rw [List.length_append,List.length_map,List.length_replicate]
  omega
theorem SD {CX:j5}{P:Program}{w:World}{K:PySem.W.Frag}{mg:Str->Option Value}{base:Heap}{k:Nat}{f:Addr}{name qual:Str}{params:Arguments}{body:List Stmt}{scope:Scope}{dV kV doc pm aw ct oc:Value}{an od:Option Addr}
  {eN:Array (Option Value)}{N ps:List Str}{sp:Sp}(lk:K.lookup f=some ⟨oc,od,.func (PySem.W.fnOf name qual params body scope dV kV doc pm an aw ct),eN⟩) (kz:PySem.W.codeIn K aw qual=true) (S:aN N ps scope)
  (len:∀ vs H Q E,sp vs H Q E->vs.length=ps.length)
  (il:∀(A:Around) (aA:List Env) (s:Shared) (H:Hp) (vs:List V) (Q:VK) (E:XK),cA k (A.deeper (envOfC qual scope s.heap.objs.size f aw))->sp vs H Q E->
   ∃ t,fV (jY CX P w K mg base N qual scope f aw A aA s H E) body t/\t { nx:=fun _ H'=>Q .aD H',rt:=Q } (start N vs) H) :
  fc P w K mg base CX (k+1) f (PySem.W.fnOf name qual params body scope dV kV doc pm an aw ct) ps sp:=by
 refine⟨len,fun A aA s H args us vs Q E hr e0 hb r k5=>?_⟩
 have hl:=len _ _ _ _ k5
 have KX:K.In s.heap:=e0.mod.pH.keeps fun b o e=>(e0.bs b o e).1
 have lim:s.heap.NoLimit:=e0.mod.nolimit.keeps fun b o e=>(e0.bs b o e).1
 have Rm:∀ y∈ps.zip us,scope.names.lookup y.1=some .local\/(scope.names.lookup y.1=some .cell/\((cellsFrom (s.heap.objs.size+1) scope.names []).lookup y.1).isSome=true):=fun⟨n,v⟩ hy=>by
  rcases S.par n (List.of_mem_zip hy).1 with q | q
  ·exact .inl q
  ·exact .inr ⟨q,PySem.W.cellsFrom_some _ _ _ (.inl q)⟩
 refine codeAny_call_function hr.depth (KX _ _ lk) rfl S.co S.gen rfl (PySem.W.codeRec_of KX kz) (hb _ _ _ _ ?_)
 refine wpAny_newFunctionEnv_cells S.kind Rm fun env he s1 x=>?_
 subst he
 refine⟨lim.keeps x.toInCall.keep,codeAny_func ?_⟩
 obtain⟨t,ht,hq⟩:=il A aA s H vs Q E (hr.deeper _) k5
 have I:Inv (jY CX P w K mg base N qual scope f aw A aA s H E) [] (start N vs) H s1:=Qt S hr.hd e0 hl r x
 refine wpAny_mono (ht [] s1 (start N vs) H _ I hq) (fun fl s' hs=>?_) fun e s' hs=>hs
 have fin:∀ {σ':St}{H':Hp}{v:V}{u:Value},Inv (jY CX P w K mg base N qual scope f aw A aA s H E) [] σ' H' s'->RelV v u->Q v H'->CE aA P w H s Q u s':=
  fun {σ' H' v u} J rv q=>⟨v,H',J.os,J.bare,J.base,J.aU,rv,q⟩
 cases fl with
 | ret u=>
  obtain⟨v,σ',H',J,rv,q⟩:=hs
  exact fin J rv q
 | next=>
  obtain⟨σ',H',J,q⟩:=hs
  exact fin (v:=V.aD) (u:=Value.none) J rfl q
 | brk=>
  obtain⟨_,_,_,q⟩:=hs
  exact False.elim q
 | cont=>
  obtain⟨_,_,_,q⟩:=hs
  exact False.elim q
end L2
namespace L2
open PySem PySem.Spec PyProof.Rows
section
variable {X:Cx}{x:Str}{p pos:Pos}{e:Expr}{es:List Expr}{t:TA}{id T:String}{r:List V->Hp->VK->Prop}
def vQ (r:List V->Hp->VK->Prop) (t:TA):TE:=fun σ H Q=>t σ H fun vs H1=>r vs H1 Q
theorem bJ (hc:kJ X (.builtin id) r) (hg:Gl X x) (hm:X.mg x=none) (hv:bootBuiltins x=some (.builtin id)) (ha:PA X (e::es) t) (hn:x ≠ "__name__":=by decide) (eP:(x == ("__debug__":Str))=false:=by decide)
  (he:starEach (e::es) X.env=(false,eval e X.env)::starEach es X.env:=by rfl) (dh:(backTo pos (starEach es X.env)).any (·.1)=false:=by rfl):PE X (.Call (.Name x p) (e::es) [] pos) (vQ r t):=by
 intro ab s σ H Q I h
 refine wpAny_Call_Name_kw (pE I hg hm hv ?_ hn eP)
 exact PyProof.Rows.callWith_builtin1 (aV (ha pos ab s σ H _ I h) fun us s1 ⟨vs,H1,I1,r1,q1⟩=>hc ab s1 σ H1 vs us Q I1 r1 q1) he dh
theorem tY (hc:kJ X (.type T) r) (hg:Gl X x) (hm:X.mg x=none) (hv:bootBuiltins x=some (.type T)) (ha:PA X (e::es) t) (hn:x ≠ "__name__":=by decide) (eP:(x == ("__debug__":Str))=false:=by decide)
  (he:starEach (e::es) X.env=(false,eval e X.env)::starEach es X.env:=by rfl) (dh:(backTo pos (starEach es X.env)).any (·.1)=false:=by rfl):PE X (.Call (.Name x p) (e::es) [] pos) (vQ r t):=by
 intro ab s σ H Q I h
 refine wpAny_Call_Name_kw (pE I hg hm hv ?_ hn eP)
 exact PyProof.Rows.callWith_type1 (aV (ha pos ab s σ H _ I h) fun us s1 ⟨vs,H1,I1,r1,q1⟩=>hc ab s1 σ H1 vs us Q I1 r1 q1) he dh
end
end L2
namespace HT
open PySem PyProof.Rows
section
variable {prog:Program}{w:World}{A:Around}{E:Value->Shared->Prop}{s:Shared}
def gB (n d:Nat):Option Int->Nat
 | none=>d
 | some v=>if v<0 then(v+(n:Int)).toNat else min v.toNat n
theorem Dc (n d:Nat):gB n d none=d:=rfl
theorem oR (n d k:Nat):gB n d (some (k:Int))=min k n:=by
 show(if(k:Int)<0 then((k:Int)+(n:Int)).toNat else min (k:Int).toNat n)=min k n
 rw [if_neg (by omega),Int.toNat_natCast]
end
end HT
namespace L2
open PySem PySem.Spec PyProof.Rows
abbrev TO:=St->Hp->(Option Int->Hp->Prop)->Prop
def PO (X:Cx) (e:Option Expr) (t:TO):Prop:=
 ∀(ab:List (Addr×Obj)) (s:Shared) (σ:St) (H:Hp) (Q:Option Int->Hp->Prop),Inv X ab σ H s->t σ H Q->
  wpAny (model X.prog X.w) X.A (evalPart e X.env) (fun u s'=>∃ o H',Inv X ab σ H' s'/\IsPart u o/\Q o H') X.xe s
def JI:TO:=fun _ H Q=>Q none H
def JG (t:TE):TO:=fun σ H Q=>t σ H fun x H1=>∃ i,x=.int i/\Q (some i) H1
section
variable {X:Cx}{e:Expr}{te:TE}{lo hi:Option Expr}{tl th:TO}{pos p2:Pos}
theorem Dz:PO X none JI:=by
 intro ab s σ H Q I h
 rw [evalPart_none]
 exact wpAny_pure ⟨none,H,I,.none,h⟩
theorem kO (h:PE X e te):PO X (some e) (JG te):=by
 intro ab s σ H Q I hw
 rw [evalPart_some]
 refine aV (h ab s σ H _ I hw) fun u s1 ⟨x,H1,I1,r1,q1⟩=>?_
 obtain⟨i,rfl,q⟩:=q1
 obtain⟨t,rfl⟩:=r1
 exact⟨some i,H1,I1,.int i t,q⟩
def Iv (X:Cx) (r:V->Option Int->Option Int->Hp->VK->Prop):Prop:=
 ∀(ab:List (Addr×Obj)) (s:Shared) (σ:St) (H:Hp) (x:V) (v vl vu:Value) (lo hi:Option Int) (sl:Addr) (Q:VK),Inv X ab σ H s->RelV x v->s.heap.IsSliceOf sl vl vu .none->IsPart vl lo->IsPart vu hi->r x lo hi H Q->
  ∃ T id,typeLookup (.type T) "__getitem__" = pure (some (.builtin id))/\s.TypeIs v T/\wpAny (model X.prog X.w) X.A (getItem v (.ref sl)) (EP X ab σ Q) X.xe s
def JF (r:V->Option Int->Option Int->Hp->VK->Prop) (te:TE) (tl th:TO):TE:=fun σ H Q=>te σ H fun x H1=>tl σ H1 fun l H2=>th σ H2 fun u H3=>r x l u H3 Q
theorem oU {r:V->Option Int->Option Int->Hp->VK->Prop}(hr:Iv X r) (he:PE X e te) (hl:PO X lo tl) (hu:PO X hi th):PE X (.Subscript e (.Slice lo hi none p2) pos) (JF r te tl th):=by
 intro ab s σ H Q I h
 refine Subscript_ (aV (he ab s σ H _ I h) fun v s1 ⟨x,H1,I1,r1,q1⟩=>?_)
 refine wpAny_Slice (aV (hl ab s1 σ H1 _ I1 q1) fun vl s2 ⟨l,H2,I2,pl,q2⟩=>aV (hu ab s2 σ H2 _ I2 q2) fun vu s3 ⟨u,H3,I3,pu,q3⟩=>?_)
 rw [evalPart_none]
 refine wpAny_pure ?_
 have I4:Inv X ab σ H3 { s3 with heap:=s3.heap.push { cls:=.type "slice",data:=.fields #[vl,vu,.none] } }:=I3.kept (t':=s3.toks) fun b ob q=>Heap.get?_push_of_some _ q
 obtain⟨T,id,hT,ht,hg⟩:=hr ab { s3 with heap:=s3.heap.push { cls:=.type "slice",data:=.fields #[vl,vu,.none] } } σ H3 x v vl vu l u s3.heap.objs.size Q I4 r1 (Heap.IsSliceOf.new ..) pl pu q3
 show wpAny (model X.prog X.w) X.A (subscriptTail e (.Slice lo hi none p2) v (.ref s3.heap.objs.size)) (EP X ab σ Q) X.xe { s3 with heap:=s3.heap.push { cls:=.type "slice",data:=.fields #[vl,vu,.none] } }
 exact tail_any (ops:=[.ref s3.heap.objs.size,v]) ht hT hg (by with_unfolding_all rfl)
def iq (xs:List V) (lo hi:Option Int):List V:=(xs.drop (HT.gB xs.length 0 lo)).take (HT.gB xs.length xs.length hi-HT.gB xs.length 0 lo)
theorem Vl (xs:List V) (lo hi:Option Int):(iq xs lo hi).length<=xs.length:=by
 unfold iq
 rw [List.length_take,List.length_drop]
 omega
end
end L2
namespace L2
open PySem PySem.Spec PyProof.Rows
def kY (n:Nat) (i:Int):Option Nat:=if 0<=i then(if i<n then some i.toNat else none) else if -(n:Int)<=i then some (i+n).toNat else none
def lY {α:Type}(xs:List α) (i:Int):Option α:=(kY xs.length i).bind fun j=>xs[j]?
theorem E2 {n:Nat}{i:Int}{j:Nat}(h:kY n i=some j):seqIndex? i n=some j/\j<n/\-(n:Int)<=i/\i<n:=by
 unfold kY at h
 by_cases h0:0<=i
 ·rw [if_pos h0] at h
  by_cases h1:i<n
  ·rw [if_pos h1] at h
   have e:i.toNat=j:=Option.some.inj h
   exact⟨by rw [seqIndex_of h0 h1,e],by omega,by omega,h1⟩
  ·rw [if_neg h1] at h;cases h
 ·rw [if_neg h0] at h
  by_cases h1:-(n:Int)<=i
  ·rw [if_pos h1] at h
   have e:(i+n).toNat=j:=Option.some.inj h
   exact⟨by rw [seqIndex_neg (by omega) h1,e],by omega,h1,by omega⟩
  ·rw [if_neg h1] at h;cases h
theorem Ia {α:Type}{xs:List α}{i:Int}{v:α}(h:lY xs i=some v):∃ j,seqIndex? i xs.length=some j/\xs[j]? = some v/\j<xs.length/\-(xs.length:Int)<=i/\i<xs.length:=by
 unfold lY at h
 cases e:kY xs.length i with
 | none=>rw [e] at h;cases h
 | some j=>
  rw [e] at h
  obtain⟨h1,h2,h3,h4⟩:=E2 e
  exact⟨j,h1,h,h2,h3,h4⟩
theorem bS {α:Type}{xs:List α}{j:Nat}{v:α}(h:xs[j]? = some v):lY xs (j:Int)=some v:=by
 have hj:j<xs.length:=(List.getElem?_eq_some_iff.mp h).1
 have e:kY xs.length (j:Int)=some j:=by
  unfold kY
  rw [if_pos (by omega),if_pos (by omega)];simp
 unfold lY;rw [e];exact h
theorem HZ {α:Type}(xs:List α) (v:α):lY (xs++[v]) (-1)=some v:=by
 have hl:(xs++[v]).length=xs.length+1:=by simp
 have e:kY (xs++[v]).length (-1)=some xs.length:=by
  unfold kY
  rw [hl,if_neg (by decide),if_pos (by omega)]
  congr 1
  omega
 unfold lY
 rw [e]
 show(xs++[v])[xs.length]? = some v
 simp
def WZ (b:Expr):Prop:=∀ o i,subscripted b false o i=operate [o,i] (getItem o i)
def Au (X:Cx) (r:R2):Prop:=
 ∀(value slice:Expr) (ab:List (Addr×Obj)) (s:Shared) (σ:St) (H:Hp) (x y:V) (v u:Value) (Q:VK),Inv X ab σ H s->RelV x v->RelV y u->r x y H Q->
  subscripted slice false v u=operate [v,u] (getItem v u)->wpAny (model X.prog X.w) X.A (subscriptTail value slice v u) (EP X ab σ Q) X.xe s
def IC (X:Cx) (id:String) (r:V->List V->Hp->VK->Prop):Prop:=
 ∀(ab:List (Addr×Obj)) (s:Shared) (σ:St) (H:Hp) (x:V) (xs:List V) (v:Value) (us:List Value) (Q:VK),Inv X ab σ H s->RelV x v->Vals xs us->r x xs H Q->
  wpAny (model X.prog X.w) X.A (call (.builtin id) (v::us)) (EP X ab σ Q) X.xe s
section
variable {X:Cx}{a b:Expr}{ta tb:TE}{pos:Pos}
theorem bH {r:R2}(hr:Au X r) (ha:PE X a ta) (hb:PE X b tb) (hs:WZ b):PE X (.Subscript a b pos) (fH r ta tb):=by
 intro ab s σ H Q I h
 exact Subscript_ (Ab ha hb I h fun v u s2 x y H2 I2 rx ry q=>hr a b ab s2 σ H2 x y v u Q I2 rx ry q (hs _ _))
def qG (K:PySem.W.Frag):R2:=fun x y H Q=>∃ p xs i v,x=.ref p/\y=.int i/\ai K H p xs/\lY xs i=some v/\Q v H
def ME (K:PySem.W.Frag):R2:=fun x y H Q=>∃ p xs i v,x=.ref p/\y=.int i/\cE K H p xs/\lY xs i=some v/\Q v H
theorem bQ:Au X (qG X.K):=by
 intro value slice ab s σ H x y v u Q I rx ry h hs
 obtain⟨p,xs,i,z,rfl,rfl,hq,he,q⟩:=h
 cases rx
 obtain⟨t,rfl⟩:=ry
 obtain⟨au,r,pl,hz⟩:=I.list hq
 obtain⟨j,h1,h2,h3,h4,h5⟩:=Ia he
 obtain⟨w,ew,rw'⟩:=r.get h2
 have hl:=r.length
 have hn:=px
 have fin:EP X ab σ Q w s:=⟨z,H,I,rw',q⟩
 by_cases h0:0<=i
 ·have hj:i.toNat=j:=by
   rw [seqIndex_of h0 h5] at h1
   exact Option.some.inj h1
  exact item_listR pl.isList h0 (by omega) (by rw [hj];simpa using ew) fin hs
 ·have hj:(i+(au.toArray.size:Int)).toNat=j:=by
   rw [seqIndex_neg (by omega) h4] at h1
   rw [List.size_toArray,←hl]
   exact Option.some.inj h1
  exact subscriptTail_builtinR (x:=w) pl.isList.typeIs slot_list_getitem.lookup
   (wpAny_getItem_list_neg (Q:=fun r s'=>r=w/\EP X ab σ Q r s') pl.isList (by omega) (by rw [List.size_toArray]<;>omega) (by omega) (by rw [hj];simpa using ew) ⟨rfl,fin⟩) hs
theorem pK:Au X (ME X.K):=by
 intro value slice ab s σ H x y v u Q I rx ry h hs
 obtain⟨p,xs,i,z,rfl,rfl,hq,he,q⟩:=h
 cases rx
 obtain⟨t,rfl⟩:=ry
 obtain⟨au,r,pl,hz⟩:=I.tuple hq
 obtain⟨j,h1,h2,h3,h4,h5⟩:=Ia he
 obtain⟨w,ew,rw'⟩:=r.get h2
 have hl:=r.length
 have hn:=px
 have fin:EP X ab σ Q w s:=⟨z,H,I,rw',q⟩
 exact subscriptTail_builtinR (x:=w) pl.typeIs slot_tuple_getitem.lookup
  (getItem_tuple (j:=j) (Q:=fun r s'=>r=w/\EP X ab σ Q r s') pl (by omega) (by omega) (by rw [List.size_toArray,←hl];exact h1) (by simpa using ew) ⟨rfl,fin⟩) hs
theorem PH (au:List Value) (n j:Nat) (u:Value):Obj.mapSeq (·.setIfInBounds j u) { cls:=.type "list",data:=.seq au.toArray n } = { cls:=.type "list",data:=.seq (au.set j u).toArray n }:=by
 simp [Obj.mapSeq]
theorem Inv.lst {ab:List (Addr×Obj)}{σ:St}{H:Hp}{s:Shared}{p:Addr}{xs:List V}(I:Inv X ab σ H s) (h:H p=some (.lst xs)) :
  ∃(au:List Value) (n:Nat),Vals xs au/\s.heap.get? p=some { cls:=.type "list",data:=.seq au.toArray n }/\xs.length<=sizeLine:=by
 obtain⟨z,au,n,r,e⟩:=I.aU p _ h
 exact⟨au,n,r,e,z⟩
theorem Inv.P9 {ab:List (Addr×Obj)}{σ:St}{H:Hp}{s:Shared}{p:Addr}{xs ys:List V}{au its':List Value}{n n':Nat}{f:Obj->Obj}(I:Inv X ab σ H s) (h:H p=some (.lst xs))
  (ho:s.heap.get? p=some { cls:=.type "list",data:=.seq au.toArray n }) (hf:f { cls:=.type "list",data:=.seq au.toArray n } = { cls:=.type "list",data:=.seq its'.toArray n' }) (r:Vals ys its') (hz:ys.length<=sizeLine) (t:Nat) :
  Inv X ab σ (upd H p (.lst ys)) { s with heap:=s.heap.update p f,toks:=t }:=by
 have e:(s.heap.update p f).get? p=some { cls:=.type "list",data:=.seq its'.toArray n' }:=by
  rw [Heap.get?_update_self f ho (by rw [hf]<;>rfl),hf]
 refine I.write (x:=p) (e:=p) (by rw [h];trivial) (.inl rfl) (fun b u hb q=>(Heap.get?_update_other _ _ (Ne.symm hb)).trans q) ⟨_,e⟩ ?_
 exact⟨hz,its',n',r,e⟩
def MB:V->V->V->Hp->(Hp->Prop)->Prop:=fun o i v H Q=>∃ p xs k j,o=.ref p/\i=.int k/\H p=some (.lst xs)/\kY xs.length k=some j/\Q (upd H p (.lst (xs.set j v)))
theorem set_list:IA X MB:=by
 intro ab s σ H o i v ov iv u Q I ro ri rv h
 obtain⟨p,xs,k,j,rfl,rfl,hp,hj,q⟩:=h
 cases ro
 obtain⟨t,rfl⟩:=ri
 obtain⟨au,n,r,ho,hz⟩:=I.lst hp
 obtain⟨h1,h2,h3,h4⟩:=E2 hj
 have hl:=r.length
 have hn:=px
 have I':Inv X ab σ (upd H p (.lst (xs.set j v))) { s with heap:=s.heap.update p (Obj.mapSeq (·.setIfInBounds j u)) }:=
  I.P9 hp ho (PH au n j u) (r.set rv j) (by rw [List.length_set];exact hz) s.toks
 by_cases h0:0<=k
 ·have hk:k.toNat=j:=by
   rw [seqIndex_of h0 h4] at h1
   exact Option.some.inj h1
  exact PySem.W.ki_setAt ho h0 (by omega) (by rw [List.size_toArray,←hl];exact h4) (by rw [hk];exact⟨_,I',q⟩)
 ·have hk:(k+(au.toArray.size:Int)).toNat=j:=by
   rw [seqIndex_neg (by omega) h3] at h1
   rw [List.size_toArray,←hl]
   exact Option.some.inj h1
  exact PySem.W.ki_setBack ho (by omega) (by rw [List.size_toArray,←hl];exact h3) (by omega) (by rw [hk];exact⟨_,I',q⟩)
theorem K8 (lo hi:Option Int) (n:Nat):(sliceBounds lo hi none n).1=((HT.gB n 0 lo:Nat):Int)/\(sliceBounds lo hi none n).2.1=((HT.gB n n hi:Nat):Int)/\(sliceBounds lo hi none n).2.2=1:=by
 refine⟨?_,?_,rfl⟩
 ·cases lo with
  | none=>simp [sliceBounds,HT.gB]
  | some i=>
   simp only [sliceBounds,HT.gB,Option.getD_none,show(1:Int) > 0 by decide,if_true]
   by_cases h:i<0
   ·simp only [h,if_true]<;>omega
   ·simp only [h,if_false]<;>omega
 ·cases hi with
  | none=>simp [sliceBounds,HT.gB]
  | some i=>
   simp only [sliceBounds,HT.gB,Option.getD_none,show(1:Int) > 0 by decide,if_true]
   by_cases h:i<0
   ·simp only [h,if_true]<;>omega
   ·simp only [h,if_false]<;>omega
theorem K9 (au:List Value) (lo hi:Option Int):slicePick au.toArray lo hi none=((au.drop (HT.gB au.length 0 lo)).take (HT.gB au.length au.length hi-HT.gB au.length 0 lo)).toArray:=by
 obtain⟨h1,h2,h3⟩:=K8 lo hi au.toArray.size
 unfold slicePick
 rw [h1,h2,h3]
 simp only [sliceRange_one,pick_run,List.size_toArray]<;>rfl
def MA (K:PySem.W.Frag):V->Option Int->Option Int->Hp->VK->Prop:=fun x lo hi H Q=>∃ a xs,x=.ref a/\ai K H a xs/\∀ p,H p=none->Q (.ref p) (upd H p (.lst (iq xs lo hi)))
theorem oK:Iv X (MA X.K):=by
 intro ab s σ H x v vl vu lo hi sl Q I rx hs pl pu h
 obtain⟨a,xs,rfl,hx,q⟩:=h
 cases rx
 obtain⟨au,r,ht,hz⟩:=I.list hx
 have hlen:=r.length
 refine⟨"list",_,slot_list_getitem.lookup,ht.isList.typeIs,?_⟩
 refine wpAny_getItem_list_slice ht.isList hs pl pu .none (by simp) ?_ (by rw [List.size_toArray]<;>omega)
 rw [K9,←hlen]
 refine⟨.ref s.heap.objs.size,_,I.laid (t':=s.toks) (o:=.lst (iq xs lo hi)) (fun b ob q=>Heap.get?_push_of_some _ q) (Nat.le_refl _) ?_,rfl,q _ (I.aU.fresh (Nat.le_refl _))⟩
 exact⟨Nat.le_trans (Vl xs lo hi) hz,_,0,(r.drop (HT.gB xs.length 0 lo)).take (HT.gB xs.length xs.length hi-HT.gB xs.length 0 lo),Heap.get?_push_size _ rfl⟩
def mN:V->Bool
 | .aD=>true
 | .bl _=>true
 | .int _=>true
 | .str _=>true
 |_=>false
def mO:V->V->Bool
 | .aD,.aD=>true
 | .bl a,.bl b=>a == b
 | .bl a,.int b=>(if a then 1 else 0) == b
 | .int a,.bl b=>a == (if b then 1 else 0)
 | .int a,.int b=>a == b
 | .str a,.str b=>a == b
 |_,_=>false
theorem UJ {A:Around}{s:Shared}{y x:V}{u v:Value}(ry:RelV y u) (rx:RelV x v) (fy:mN y=true) (fx:mN x=true):SeqAt.EqAt A s u v (mO y x):=by
 cases y with
 | aD=>
  cases ry
  cases x with
  | aD=>cases rx;exact SeqAt.EqAt.same _
  | bl b=>cases rx;exact SeqAt.EqAt.none_bool b
  | int b=>obtain⟨t,rfl⟩:=rx;exact SeqAt.EqAt.none_int b t
  | str b=>obtain⟨t,rfl⟩:=rx;exact SeqAt.EqAt.none_str b t
  |_=>exact absurd (show false=true from fx) Bool.false_ne_true
 | bl a=>
  cases ry
  cases x with
  | aD=>cases rx;exact SeqAt.EqAt.bool_none a
  | bl b=>cases rx;exact SeqAt.EqAt.bool_bool a b
  | int b=>obtain⟨t,rfl⟩:=rx;exact SeqAt.EqAt.bool_int a b t
  | str b=>obtain⟨t,rfl⟩:=rx;exact SeqAt.EqAt.bool_str a b t
  |_=>exact absurd (show false=true from fx) Bool.false_ne_true
 | int a=>
  obtain⟨t',rfl⟩:=ry
  cases x with
  | aD=>cases rx;exact SeqAt.EqAt.int_none a t'
  | bl b=>cases rx;exact SeqAt.EqAt.int_bool a t' b
  | int b=>obtain⟨t,rfl⟩:=rx;exact SeqAt.EqAt.int_int a t' b t
  | str b=>obtain⟨t,rfl⟩:=rx;exact SeqAt.EqAt.int_str a t' b t
  |_=>exact absurd (show false=true from fx) Bool.false_ne_true
 | str a=>
  obtain⟨t',rfl⟩:=ry
  cases x with
  | aD=>cases rx;exact SeqAt.EqAt.str_none a t'
  | bl b=>cases rx;exact SeqAt.EqAt.str_bool a t' b
  | int b=>obtain⟨t,rfl⟩:=rx;exact SeqAt.EqAt.str_int a t' b t
  | str b=>obtain⟨t,rfl⟩:=rx;exact SeqAt.EqAt.str_str a t' b t
  |_=>exact absurd (show false=true from fx) Bool.false_ne_true
 |_=>exact absurd (show false=true from fy) Bool.false_ne_true
def lW (x:V) (u:Value):Bool:=match u with
 | .none=>mO .aD x
 | .bool b=>mO (.bl b) x
 | .int i _=>mO (.int i) x
 | .str z _=>mO (.str z) x
 |_=>false
theorem Hb {x y:V}{u:Value}(r:RelV y u) (f:mN y=true):lW x u=mO y x:=by
 cases y with
 | aD=>cases r;rfl
 | bl b=>cases r;rfl
 | int i=>obtain⟨t,rfl⟩:=r;rfl
 | str z=>obtain⟨t,rfl⟩:=r;rfl
 |_=>exact absurd (show false=true from f) Bool.false_ne_true
theorem Af {x:V}:∀ {xs:List V}{us:List Value},Vals xs us->xs.all mN=true->us.any (lW x)=xs.any fun y=>mO y x
 |_,_,.nil,_=>rfl
 | y::xs,u::us,.cons r t,f=>by
  rw [List.all_cons,Bool.and_eq_true] at f
  rw [List.any_cons,List.any_cons,Hb r f.1,Af t f.2]
theorem yu {A:Around}{s:Shared}{x:V}{v:Value}(rx:RelV x v) (fx:mN x=true):∀ {xs:List V}{us:List Value},Vals xs us->xs.all mN=true->∀ u∈us,SeqAt.EqAt A s u v (lW x u)
 |_,_,.nil,_=>fun u hu=>by cases hu
 | y::xs,u::us,.cons r t,f=>fun u' hu=>by
  rw [List.all_cons,Bool.and_eq_true] at f
  rcases List.mem_cons.mp hu with rfl | hu
  ·rw [Hb r f.1];exact UJ r rx f.1 fx
  ·exact yu rx fx t f.2 u' hu
def rf (x:V) (xs:List V):Bool:=xs.any fun y=>mO y x
def MG (K:PySem.W.Frag) (neg:Bool):R2:=fun x y H Q=>∃ p xs,y=.ref p/\(ai K H p xs\/cE K H p xs)/\mN x=true/\xs.all mN=true/\Q (.bl (if neg then !rf x xs else rf x xs)) H
theorem Np:dW X (compareOp .In) (MG X.K false):=by
 intro ab s σ H x y v u Q I rx ry h
 obtain⟨p,xs,rfl,hq,fx,fs,q⟩:=h
 cases ry
 rcases hq with hq | hq
 ·obtain⟨au,r,pl,hz⟩:=I.list hq
  refine SeqAt.in_listAt (lW x) pl.isList (fun w hw=>yu rx fx r fs w (by simpa using hw)) ⟨.bl _,H,I,rfl,?_⟩
  rw [show au.toArray.any (lW x)=au.any (lW x) by simp,Af r fs]
  exact q
 ·obtain⟨au,r,pl,hz⟩:=I.tuple hq
  refine SeqAt.in_tupleAt (lW x) pl (fun w hw=>yu rx fx r fs w (by simpa using hw)) ⟨.bl _,H,I,rfl,?_⟩
  rw [show au.toArray.any (lW x)=au.any (lW x) by simp,Af r fs]
  exact q
theorem cC:kJ X (.builtin "len") (fun xs H Q=>∃ p ys,xs=[.ref p]/\(ai X.K H p ys\/cE X.K H p ys)/\Q (.int ys.length) H):=by
 intro ab s σ H xs us Q I r h
 obtain⟨p,ys,rfl,hq,q⟩:=h
 obtain⟨u,rfl,rx⟩:=vals1 r
 cases rx
 have hn:=px
 rcases hq with hq | hq
 ·obtain⟨au,r',pl,hz⟩:=I.list hq
  have hlen:=r'.length
  exact Calls.call_len_list pl.isList (by simp only [List.size_toArray]<;>omega) ⟨.int ys.length,H,I.tok _,⟨s.toks+1,by rw [List.size_toArray,hlen]⟩,q⟩
 ·obtain⟨au,r',pl,hz⟩:=I.tuple hq
  have hlen:=r'.length
  exact len_tuple pl (by simp only [List.size_toArray]<;>omega) ⟨.int ys.length,H,I.tok _,⟨s.toks+1,by rw [List.size_toArray,hlen]⟩,q⟩
theorem VC:kJ X (.builtin "len") (fun xs H Q=>∃ z,xs=[.str z]/\z.length<=sizeLine/\Q (.int z.length) H):=by
 intro ab s σ H xs us Q I r h
 obtain⟨z,rfl,hz,q⟩:=h
 obtain⟨u,rfl,t,rfl⟩:=vals1 r
 have hn:=px
 exact len_str (by omega) ⟨.int z.length,H,I.tok _,⟨_,rfl⟩,q⟩
theorem zX:kJ X (.type "tuple") (fun xs H Q=>∃ p ys,xs=[.ref p]/\((ai X.K H p ys/\∀ l,H l=none->Q (.ref l) (upd H l (.tup ys)))\/(cE X.K H p ys/\Q (.ref p) H))):=by
 intro ab s σ H xs us Q I r h
 obtain⟨p,ys,rfl,h⟩:=h
 obtain⟨u,rfl,rx⟩:=vals1 r
 cases rx
 rcases h with ⟨hq,q⟩ |⟨hq,q⟩
 ·obtain⟨au,r',pl,hz⟩:=I.list hq
  have hlen:=r'.length
  refine call_tuple_list pl.isList (fun h' kp=>?_) (by simp only [List.size_toArray]<;>omega)
  have I1:Inv X ab σ H { s with heap:=h' }:=I.kept (t':=s.toks) kp
  have I2:Inv X ab σ (upd H h'.objs.size (.tup ys)) { s with heap:=h'.push { cls:=.type "tuple",data:=.seq au.toArray } }:=
   I1.laid (t':=s.toks) (fun b o e=>Heap.get?_push_of_some _ e) (Nat.le_refl _) (show dP X.prog X.w _ _ _ (.tup ys) from⟨hz,au,r',IsTup.new _ _⟩)
  exact⟨.ref h'.objs.size,_,I2,rfl,q _ (I1.aU.fresh (Nat.le_refl _))⟩
 ·obtain⟨au,r',pl,hz⟩:=I.tuple hq
  exact call_tuple_same pl ⟨.ref p,H,I,rfl,q⟩
def vI (K:PySem.W.Frag) (T:String) (x:V) (H:Hp):Prop:=match x with
 | .str _=>T = "str"
 | .int _=>T = "int"
 | .ref p=>(T = "list"/\∃ xs,ai K H p xs)\/(T = "tuple"/\∃ o,K.lookup p=some o/\o.cls=.type "tuple"/\o.dict=none) \/
   (T = "dict"/\((∃ aB,H p=some (.dK aB))\/∃ aB,H p=some (.dT aB)))\/(T = "set"/\∃ S n,H p=some (.set S n))
 |_=>False
theorem AM {ab:List (Addr×Obj)}{σ:St}{H:Hp}{s:Shared}{T:String}{x:V}{v:Value}(I:Inv X ab σ H s) (r:RelV x v) (ty:vI X.K T x H) :
  s.TypeIs v T/\∀ a,v=.ref a->∃ ob,s.heap.get? a=some ob/\ob.dict=none:=by
 cases x with
 | str z=>
  obtain⟨t,rfl⟩:=r
  cases (show T = "str" from ty)
  exact⟨typeIs_str s z t,fun _ e=>nomatch e⟩
 | int i=>
  obtain⟨t,rfl⟩:=r
  cases (show T = "int" from ty)
  exact⟨typeIs_int s i t,fun _ e=>nomatch e⟩
 | ref p=>
  cases r
  rcases ty with ⟨rfl,xs,hq⟩ |⟨rfl,o,hk,hc,hd⟩ |⟨rfl,hk⟩ |⟨rfl,S,n,hk⟩
  ·obtain⟨au,_,pl,_⟩:=I.list hq
   refine⟨pl.isList.typeIs,fun a e=>?_⟩
   cases e
   obtain⟨o,n,e,c,hd,_⟩:=pl
   exact⟨o,e,hd⟩
  ·refine⟨⟨o,I.fP p o hk,hc⟩,fun a e=>?_⟩
   cases e
   exact⟨o,I.fP _ o hk,hd⟩
  ·have z:∃ o,s.heap.get? p=some o/\o.ExactDict:=by
    rcases hk with ⟨aB,hk⟩ |⟨aB,hk⟩
    ·obtain⟨_,_,_,_,o,_,_,e,ex,_⟩:=I.aU p _ hk
     exact⟨o,e,ex⟩
    ·obtain⟨_,_,_,_,o,_,_,e,ex,_⟩:=I.aU p _ hk
     exact⟨o,e,ex⟩
   obtain⟨o,e,ex⟩:=z
   refine⟨⟨o,e,ex.1⟩,fun a e2=>?_⟩
   cases e2
   exact⟨o,e,ex.2.1⟩
  ·obtain⟨o,_,_,_,e,ex,_⟩:=I.aU p _ hk
   refine⟨⟨o,e,ex.1⟩,fun a e2=>?_⟩
   cases e2
   exact⟨o,e,ex.2.1⟩
 |_=>exact False.elim ty
def JQ (K:PySem.W.Frag) (T:String) (r:V->List V->Hp->VK->Prop) (to:TE):TE:=fun σ H Q=>to σ H fun x H1=>vI K T x H1/\r x [] H1 Q
def sW (K:PySem.W.Frag) (T:String) (r:V->List V->Hp->VK->Prop) (to:TE) (t:TA):TE:=fun σ H Q=>to σ H fun x H1=>vI K T x H1/\t σ H1 fun xs H2=>r x xs H2 Q
variable {o e:Expr}{es:List Expr}{to:TE}{t:TA}{name:Str}{apos dO:Pos}{T id:String}{r:V->List V->Hp->VK->Prop}
theorem DQ (pa:PlainAttrs T) (slot:Slot T name id) (yP:typeOf (.builtin id)=pure (.type "method_descriptor")) (hm:IC X id r) (ho:PE X o to)
  (zr:attributeBase o name X.env (eval o X.env)=eval o X.env:=by rfl) (zb:(apos.endLine == dO.line)=true:=by rfl):PE X (.Call (.Attribute o name apos) [] [] dO) (JQ X.K T r to):=by
 intro ab s σ H Q I h
 refine wpAny_Call_method0_late zr zb (aV (ho ab s σ H _ I h) fun v s1 ⟨x,H1,I1,r1,ty,q1⟩=>?_)
 obtain⟨h1,h2⟩:=AM I1 r1 ty
 exact⟨T,id,pa,slot,yP,h1,h2,Calls.callWith_builtin rfl (PySem.evalArgs_none (hm ab s1 σ H1 x [] v [] Q I1 r1 .nil q1))⟩
theorem fL (pa:PlainAttrs T) (slot:Slot T name id) (yP:typeOf (.builtin id)=pure (.type "method_descriptor")) (hm:IC X id r) (ho:PE X o to) (ha:PA X (e::es) t)
  (zr:attributeBase o name X.env (eval o X.env)=eval o X.env:=by rfl)
  (zl:((backTo dO (starEach (e::es) X.env)).all (fun x=>!x.1)&&(backToKw dO (keywordEach [] X.env)).all (fun x=>x.1.isSome)
   && decide ((e::es).length+([]:List Keyword).length+(if([]:List Keyword).isEmpty then 0 else 1)<30))=true:=by rfl)
  (zb:(apos.endLine == dO.line)=true:=by rfl) (hs:starEach (e::es) X.env=(false,eval e X.env)::starEach es X.env:=by rfl) (Q0:(backTo dO (starEach es X.env)).any (·.1)=false:=by rfl) :
  PE X (.Call (.Attribute o name apos) (e::es) [] dO) (sW X.K T r to t):=by
 intro ab s σ H Q I h
 refine wpAny_Call_method_late zr zl zb rfl (aV (ho ab s σ H _ I h) fun v s1 ⟨x,H1,I1,r1,ty,q1⟩=>?_)
 obtain⟨h1,h2⟩:=AM I1 r1 ty
 refine⟨T,id,pa,slot,yP,h1,h2,?_⟩
 have hA:=ha dO ab s1 σ H1 _ I1 q1
 rw [hs] at hA ⊢
 refine Calls.callWith_builtin (by show(false||(backTo dO (starEach es X.env)).any (·.1))=false;rw [Q0]<;>rfl) (Calls.evalArgs_plain ?_)
 exact aV hA fun us s2 ⟨vs,H2,I2,r2,q2⟩=>hm ab s2 σ H2 x vs v us Q I2 r1 r2 q2
end
end L2
namespace L2
open PySem PySem.Spec PyProof.Rows
def As (X:Cx) (id:String) (r:V->List V->Hp->VK->Prop):Prop:=
 ∀(ab:List (Addr×Obj)) (s:Shared) (σ:St) (H:Hp) (x:V) (xs:List V) (v:Value) (us:List Value) (Q:VK),Inv X ab σ H s->RelV x v->Vals xs us->r x xs H Q->
  wpAny (model X.prog X.w) X.A (call (.builtin id) (v::us)) (EP X ab σ Q) X.xe s
theorem Vals.one:∀ {x:V}{us:List Value},Vals [x] us->∃ u,us=[u]/\RelV x u
 |_,_,.cons r .nil=>⟨_,rfl,r⟩
theorem Vals.zero:∀ {us:List Value},Vals [] us->us=[]
 |_,.nil=>rfl
theorem Vals.dropLast {xs:List V}{us:List Value}(h:Vals xs us):Vals xs.dropLast us.dropLast:=by
 induction h with
 | nil=>exact .nil
 | cons r t ih=>
  cases t with
  | nil=>exact .nil
  | cons q t'=>exact .cons r ih
theorem UE {α:Type}(l:List α):l.eraseIdx (l.length-1)=l.dropLast:=by
 induction l with
 | nil=>rfl
 | cons a r ih=>
  cases r with
  | nil=>rfl
  | cons b r=>
   have e:(a::b::r).length-1=((b::r).length-1)+1:=by
    have h1:(a::b::r).length=r.length+2:=rfl
    have h2:(b::r).length=r.length+1:=rfl
    omega
   rw [e,List.eraseIdx_cons_succ,ih]
   all_goals rfl
section
variable {X:Cx}{ab:List (Addr×Obj)}{σ:St}{H:Hp}{s:Shared}{l b:Addr}{xs ys zs:List V}
theorem Inv.yy {au its':List Value}{n:Nat}{f:Array Value->Array Value}{t':Nat}(I:Inv X ab σ H s) (hH:H l=some (.lst xs))
  (e:s.heap.get? l=some { cls:=.type "list",data:=.seq au.toArray n }) (hf:f au.toArray=its'.toArray) (hv:Vals ys its') (hz:ys.length<=sizeLine) :
  Inv X ab σ (upd H l (.lst ys)) { s with heap:=s.heap.update l (Obj.mapSeq f),toks:=t' }:=by
 have q:=PySem.IsL.update e f
 rw [hf] at q
 refine I.write (x:=l) (e:=l) (by rw [hH];exact trivial) (.inl rfl) (fun b' u hb hu=>(Heap.get?_update_other s.heap (Obj.mapSeq f) (Ne.symm hb)).trans hu) ⟨_,q⟩ ?_
 exact⟨hz,its',_,hv,q⟩
theorem Inv.Qb {au:List Value}{t':Nat}(I:Inv X ab σ H s) (hv:Vals ys au) (hz:ys.length<=sizeLine) :
  Inv X ab σ (upd H s.heap.objs.size (.lst ys)) { s with heap:=s.heap.push { cls:=.type "list",data:=.seq au.toArray },toks:=t' }:=
 I.laid (fun _ _ q=>Heap.get?_push_of_some _ q) (Nat.le_refl _) ⟨hz,au,0,hv,Heap.get?_push_size _ rfl⟩
theorem Inv.fresh (I:Inv X ab σ H s):H s.heap.objs.size=none:=I.aU.fresh (Nat.le_refl _)
theorem Inv.pj (I:Inv X ab σ H s) (hH:H l=some (.lst xs)):xs.length<=sizeLine/\∃(au:List Value) (n:Nat),Vals xs au/\xs.length=au.length/\s.heap.get? l=some { cls:=.type "list",data:=.seq au.toArray n }:=by
 obtain⟨z,au,n,r,e⟩:=I.aU l _ hH
 exact⟨z,au,n,r,r.length,e⟩
theorem OS {n:Nat}(h:n<=sizeLine):Builtin.List.listTooLong n=false:=by
 unfold Builtin.List.listTooLong
 exact decide_eq_false (by omega)
end
section
variable {X:Cx}
def xB:V->List V->Hp->VK->Prop:=fun x vs H Q=>∃ l xs y,x=.ref l/\vs=[y]/\H l=some (.lst xs)/\xs.length<sizeLine/\Q .aD (upd H l (.lst (xs++[y])))
theorem jd:As X "list.append" xB:=by
 intro ab s σ H x vs v us Q I rx rv h
 obtain⟨l,xs,y,rfl,rfl,hH,hz,q⟩:=h
 cases rx
 obtain⟨u,rfl,ru⟩:=rv.one
 obtain⟨z,au,n,r,hl,e⟩:=I.pj hH
 refine call_meets F.slot_list_append ⟨_,e,rfl⟩ F.entry_list_append (F.args_list_append_2 _ _) (PySem.list_append l au.toArray n u (by rw [List.size_toArray];omega)) ⟨e,?_⟩
 refine⟨.aD,_,I.yy (its':=au++[u]) hH e (by simp) (r.append (.cons ru .nil)) ?_,rfl,q⟩
 rw [List.length_append,List.length_singleton]
 omega
def xy:V->List V->Hp->VK->Prop:=fun x vs H Q=>∃ l b xs zs,x=.ref l/\vs=[.ref b]/\H l=some (.lst xs)/\H b=some (.lst zs)/\xs.length+zs.length<=sizeLine/\Q .aD (upd H l (.lst (xs++zs)))
theorem pf:As X "list.extend" xy:=by
 intro ab s σ H x vs v us Q I rx rv h
 obtain⟨l,b,xs,zs,rfl,rfl,hH,hB,hz,q⟩:=h
 cases rx
 obtain⟨u,rfl,ru⟩:=rv.one
 cases ru
 obtain⟨z,au,n,r,hl,e⟩:=I.pj hH
 obtain⟨z2,km,n2,r2,nQ,e2⟩:=I.pj hB
 have hsz:au.toArray.size+km.toArray.size<=sizeLine:=by rw [List.size_toArray,List.size_toArray];omega
 have Rc:¬ (!au.toArray.isEmpty&&Builtin.List.listTooLong (au.toArray.size+km.toArray.size))=true:=by
  rw [OS hsz,Bool.and_false]
  exact Bool.false_ne_true
 refine call_meets F.slot_list_extend ⟨_,e,rfl⟩ F.entry_list_extend (F.args_list_extend_2 _ _)
  (AutoSeq1.list_extend_list_list_0 l au.toArray n b km.toArray n2 Rc (by rw [List.size_toArray];omega) (by omega)) ⟨e,e2,?_⟩
 refine⟨.aD,_,I.yy (its':=au++km) hH e (by simp) (r.append r2) ?_,rfl,q⟩
 rw [List.length_append]
 omega
def MC:V->List V->Hp->VK->Prop:=fun x vs H Q=>∃ l xs y,x=.ref l/\vs=[]/\H l=some (.lst xs)/\xs[xs.length-1]? = some y/\Q y (upd H l (.lst xs.dropLast))
theorem EM:As X "list.pop" MC:=by
 intro ab s σ H x vs v us Q I rx rv h
 obtain⟨l,xs,y,rfl,rfl,hH,hy,q⟩:=h
 cases rx
 have QI:=rv.zero
 subst QI
 obtain⟨z,au,n,r,hl,e⟩:=I.pj hH
 obtain⟨u,hu,ru⟩:=r.get hy
 have hy':au.toArray[au.toArray.size-1]? = some u:=by
  show au.toArray[au.length-1]? = some u
  rw [←Array.getElem?_toList,←hl]
  exact hu
 refine call_meets F.slot_list_pop ⟨_,e,rfl⟩ F.entry_list_pop (F.args_list_pop_1 _) (MeetsSeq.list_pop_last l au.toArray n u hy' (by rw [List.size_toArray];omega)) ⟨e,?_⟩
 refine⟨y,_,I.yy (its':=au.dropLast) hH e ?_ r.dropLast ?_,ru,q⟩
 ·show au.toArray.eraseIdxIfInBounds (au.toArray.size-1)=au.dropLast.toArray
  rw [List.size_toArray,List.eraseIdxIfInBounds_toArray,UE]
 ·rw [List.length_dropLast]
  omega
def xA:R2:=fun x y H Q=>∃ l b xs zs,x=.ref l/\y=.ref b/\H l=some (.lst xs)/\H b=some (.lst zs)/\xs.length+zs.length<=sizeLine/\∀ p,H p=none->Q (.ref p) (upd H p (.lst (xs++zs)))
theorem ig:dW X (binaryOp .Add) xA:=by
 intro ab s σ H x y v u Q I rx ry h
 obtain⟨l,b,xs,zs,rfl,rfl,hH,hB,hz,q⟩:=h
 cases rx
 cases ry
 obtain⟨z,au,n,r,hl,e⟩:=I.pj hH
 obtain⟨z2,km,n2,r2,nQ,e2⟩:=I.pj hB
 refine PySem.P.add_list e e2 ?_ (by rw [List.size_toArray,List.size_toArray];omega)
 have ea:au.toArray++km.toArray=(au++km).toArray:=by simp
 rw [ea]
 exact⟨.ref _,_,I.Qb (t':=s.toks) (r.append r2) (by rw [List.length_append];omega),rfl,q _ I.fresh⟩
end
end L2
namespace L2
open PySem PySem.Spec PyProof.Rows
theorem Vals.ints:∀ {ns:List Int}{us:List Value},Vals (ns.map V.int) us->IntsAre us ns
 |[],us,h=>by
  rw [List.map_nil] at h
  cases h
  exact IntsAre.nil
 | n::ns,us,h=>by
  rw [List.map_cons] at h
  cases h with
  | cons r t=>
   obtain⟨k,rfl⟩:=r
   exact IntsAre.cons n k (Vals.ints t)
theorem Vals.Aa:∀ {bs:List Bool}{us:List Value},Vals (bs.map V.bl) us->us=bs.map Value.bool
 |[],us,h=>by
  rw [List.map_nil] at h
  cases h
  rfl
 | b::bs,us,h=>by
  rw [List.map_cons] at h
  cases h with
  | cons r t=>
   cases r
   rw [Vals.Aa t,List.map_cons]
theorem Vals.xu {a:Addr}{us:List Value}(r:Vals [V.ref a] us):us=[Value.ref a]:=by
 cases r with
 | cons r t=>
  cases t
  cases r
  rfl
section
variable {prog:Program}{w:World}{A:Around}{E:Value->Shared->Prop}{s:Shared}{l:Addr}{au:List Value}{ns:List Int}{Q:Value->Shared->Prop}
theorem PD (hh:A.handled=none) (hl:s.heap.IsList l au.toArray) (hi:IntsAre au ns) (dw:0<ns.length)
  (h:∀ h' tk M t',(∀ b o,s.heap.get? b=some o->h'.get? b=some o)->M∈ns->(∀ a,a∈ns->a<=M)->Q (.int M t') { s with heap:=h',toks:=tk }):wpAny (model prog w) A (call (.builtin "max") [.ref l]) Q E s:=by
 obtain⟨xs,e⟩:=hi.allInts.items
 have hn:numsOf (intItems xs).toList=ns:=by rw [←e];exact hi.numsOf
 rw [nums_intItems] at hn
 subst hn
 rw [e] at hl
 have hsz:0<xs.size:=by simpa using dw
 refine PySem.max_intList hh hl hsz fun v h' tk hv hk=>?_
 obtain⟨t,rfl⟩:=intItems_at hv
 obtain⟨h1,h2⟩:=argBest_gt (numAt xs) (xs.size-1)
 refine h h' tk _ t hk ?_ fun a ha=>?_
 ·rw [numAt_eq];exact PySem.getD_mem (by rw [List.length_map,Array.length_toList];omega)
 ·obtain⟨j,hj,rfl⟩:=mem_getD ha
  rw [List.length_map,Array.length_toList] at hj
  rw [←numAt_eq];exact h2 j (by omega)
end
section
variable {X:Cx}
def Ds (K:PySem.W.Frag):List V->Hp->VK->Prop:=fun vs H Q=>∃(a:Addr) (ns:List Int),vs=[V.ref a]/\ai K H a (ns.map V.int)/\0<ns.length/\∀ m,m∈ns->(∀ y,y∈ns->y<=m)->Q (.int m) H
theorem Vo (hc:X.calm=true):kJ X (.builtin "max") (Ds X.K):=by
 intro ab s σ H vs us Q I r h
 obtain⟨a,ns,rfl,hs,dw,q⟩:=h
 obtain⟨au,rv,hl,_⟩:=I.list hs
 rw [Vals.xu r]
 exact PD (I.ok.hd hc) hl.isList rv.ints dw fun h' tk m t' hk h1 h2=>⟨.int _,H,I.kept hk,⟨_,rfl⟩,q m h1 h2⟩
end
theorem E3 {prog:Program}{w:World}{A:Around}{E:Value->Shared->Prop}{s:Shared}{l:Addr}{items:Array Value}{Q:Value->Shared->Prop}(hl:s.heap.IsList l items)
  (h:∀ s₂:Shared,s₂={ s with heap:=s.heap.push { cls:=.type "list_iterator",data:=.fields #[.ref l,.int 0 0] } }->
   (s₂.heap.IsListIter s.heap.objs.size l 0/\s₂.heap.IsList l items)->l≠s.heap.objs.size->Q (.ref s.heap.objs.size) s₂):wpAny (model prog w) A (pyIter (.ref l)) Q E s:=by
 have bR:l<s.heap.objs.size:=by obtain⟨_,e,_⟩:=hl;exact Heap.lt_size e
 exact wpAny_pyIter_list hl (h _ rfl ⟨⟨_,Heap.get?_push_size _ rfl,rfl,rfl⟩,hl.push _⟩ (Nat.ne_of_lt bR))
theorem AQ {prog:Program}{w:World}{A:Around}{bs:List Bool}{au:List Value}(e:au=bs.map Value.bool) :
  TruthOf prog w A (fun i v=>au.toArray[i]? = some v) (fun i=>bs.getD i false):=fun i v s Q E hv hq=>by
 have hv':au[i]? = some v:=by simpa using hv
 rw [e,List.getElem?_map] at hv'
 obtain⟨b,hb,rfl⟩:=Option.map_eq_some_iff.mp hv'
 have hg:bs.getD i false=b:=by rw [List.getD_eq_getElem?_getD,hb]<;>rfl
 have hq':Q (bs.getD i false) s:=hq
 rw [hg] at hq'
 exact wpAny_truthy_bool hq'
theorem any_range:∀ bs:List Bool,(List.range bs.length).any (fun i=>bs.getD i false)=bs.any id
 |[]=>rfl
 | b::bs=>by
  rw [List.length_cons,List.range_succ_eq_map,List.any_cons,List.any_map,List.any_cons,←any_range bs]
  all_goals rfl
theorem all_range:∀ bs:List Bool,(List.range bs.length).all (fun i=>bs.getD i false)=bs.all id
 |[]=>rfl
 | b::bs=>by
  rw [List.length_cons,List.range_succ_eq_map,List.all_cons,List.all_map,List.all_cons,←all_range bs]
  all_goals rfl
section
variable {X:Cx}
def MJ (K:PySem.W.Frag):List V->Hp->VK->Prop:=fun vs H Q=>∃(a:Addr) (bs:List Bool),vs=[V.ref a]/\ai K H a (bs.map V.bl)/\Q (.bl (bs.any id)) H
def MK (K:PySem.W.Frag):List V->Hp->VK->Prop:=fun vs H Q=>∃(a:Addr) (bs:List Bool),vs=[V.ref a]/\ai K H a (bs.map V.bl)/\Q (.bl (bs.all id)) H
theorem Vp (hc:X.calm=true):kJ X (.builtin "any") (MJ X.K):=by
 intro ab s σ H vs us Q I r h
 obtain⟨a,bs,rfl,hs,q⟩:=h
 obtain⟨au,rv,hl,_⟩:=I.list hs
 rw [Vals.xu r]
 have hb:=rv.Aa
 refine call_any_walk (E3 hl.isList fun s₂ e2 st dw=>?_)
 subst e2
 refine⟨_,_,_,_,_,_,_,rfl,Walks.list (A:=X.A.in1) (I.ok.hd hc) _ a dw au.toArray,st,AQ hb,fun h' tk hk=>?_⟩
 refine⟨.bl _,H,I.kept fun b o eo=>hk b o (fun nO=>?_) (Heap.get?_push_of_some _ eo),?_,q⟩
 ·rcases List.mem_cons.mp nO with e1 | nO
  ·exact absurd (e1 ▸ Heap.lt_size eo) (Nat.lt_irrefl _)
  ·cases nO
 ·show Value.bool _=Value.bool _
  rw [←any_range,hb,List.size_toArray,List.length_map]
theorem p6 (hc:X.calm=true):kJ X (.builtin "all") (MK X.K):=by
 intro ab s σ H vs us Q I r h
 obtain⟨a,bs,rfl,hs,q⟩:=h
 obtain⟨au,rv,hl,_⟩:=I.list hs
 rw [Vals.xu r]
 have hb:=rv.Aa
 refine call_all_walk (E3 hl.isList fun s₂ e2 st dw=>?_)
 subst e2
 refine⟨_,_,_,_,_,_,_,rfl,Walks.list (A:=X.A.in1) (I.ok.hd hc) _ a dw au.toArray,st,AQ hb,fun h' tk hk=>?_⟩
 refine⟨.bl _,H,I.kept fun b o eo=>hk b o (fun nO=>?_) (Heap.get?_push_of_some _ eo),?_,q⟩
 ·rcases List.mem_cons.mp nO with e1 | nO
  ·exact absurd (e1 ▸ Heap.lt_size eo) (Nat.lt_irrefl _)
  ·cases nO
 ·show Value.bool _=Value.bool _
  rw [←all_range,hb,List.size_toArray,List.length_map]
end
end L2
namespace L2
open PySem PySem.Spec PyProof.Rows
abbrev II (h:Heap) (c:Addr) (v:Option Value):Prop:=h.IsCell c v
def Ml (scope sc:Scope):Scope:=
 { scope with names:=scope.names.map fun(n,k)=>if(k == .free&&sc.kind == .function&&sc.names.lookup n == some .cell) then(n,.cell) else(n,k) }
def fu (cells:List (Str×Addr)):List (Str×NameKind)->List (Str×Addr)->List (Str×Addr)
 |[],acc=>acc
 |(n,k)::r,acc=>if k == .free then fu cells r ((n,(cells.lookup n).getD 0)::acc) else fu cells r acc
theorem HC (env:Env) (f:Str×NameKind->List (Str×Addr)->Sem (ForInStep (List (Str×Addr))))
  (hf:∀ n k c,f (n,k) c=if k == .free then(do let a ← cellOf env n;pure (.yield ((n,a)::c))) else pure (.yield c)) :
  ∀(names:List (Str×NameKind)) (acc:List (Str×Addr)),(∀ y∈names,y.2=.free->∃ c,env.cells.lookup y.1=some c)->forIn names acc f=pure (fu env.cells names acc)
 |[],acc,_=>by rw [List.forIn_nil];rfl
 |(n,k)::r,acc,h=>by
  rw [List.forIn_cons,hf]
  have ih:=fun acc=>HC env f hf r acc fun y hy=>h y (List.mem_cons_of_mem _ hy)
  unfold fu
  by_cases hk:(k == NameKind.free)=true
  ·rw [if_pos hk,if_pos hk]
   obtain⟨c,hc⟩:=h (n,k) List.mem_cons_self (by simpa using hk)
   have e:cellOf env n=pure c:=by unfold cellOf;rw [hc]
   rw [e]
   have e2:(env.cells.lookup n).getD 0=c:=by rw [hc];rfl
   rw [e2]
   exact ih _
  ·rw [if_neg hk,if_neg hk]
   exact ih _
theorem Vs {scope:Scope}{env:Env}(h:∀ y∈scope.names,y.2=.free->∃ c,env.cells.lookup y.1=some c):closureFor scope env=pure (fu env.cells scope.names []):=by
 simp only [closureFor]
 rw [HC env _ (fun n k c=>rfl) scope.names [] h]
 rfl
theorem mem_lookup {α:Type}:∀ {l:List (Str×α)}{n:Str}{c:α},(n,c)∈l->∃ c',l.lookup n=some c'
 |(k,v)::r,n,c,h=>by
  rw [List.lookup_cons]
  cases hb:n == k with
  | true=>exact⟨_,rfl⟩
  | false=>
   rcases List.mem_cons.mp h with e | h
   ·cases e;simp at hb
   ·exact mem_lookup h
theorem vk {cells:List (Str×Addr)}:∀ {names:List (Str×NameKind)}{acc:List (Str×Addr)}{n:Str}{c:Addr},(n,c)∈fu cells names acc->(n,c)∈acc\/((n,.free)∈names/\c=(cells.lookup n).getD 0)
 |[],_,_,_,h=>.inl h
 |(m,k)::r,acc,n,c,h=>by
  unfold fu at h
  split at h
  ·rename_i hk
   have hk:k=.free:=by simpa using hk
   rcases vk h with h |⟨h1,h2⟩
   ·rcases List.mem_cons.mp h with e | h
    ·cases e;exact .inr ⟨hk ▸ List.mem_cons_self,rfl⟩
    ·exact .inl h
   ·exact .inr ⟨List.mem_cons_of_mem _ h1,h2⟩
  ·rcases vk h with h |⟨h1,h2⟩
   ·exact .inl h
   ·exact .inr ⟨List.mem_cons_of_mem _ h1,h2⟩
theorem zU {cells:List (Str×Addr)}:∀ {names:List (Str×NameKind)}{acc:List (Str×Addr)}{p:Str×Addr},p∈acc->p∈fu cells names acc
 |[],_,_,h=>h
 |(m,k)::r,acc,p,h=>by
  unfold fu
  split
  ·exact zU (List.mem_cons_of_mem _ h)
  ·exact zU h
theorem zT {cells:List (Str×Addr)}:∀ {names:List (Str×NameKind)}{acc:List (Str×Addr)}{n:Str},(n,.free)∈names->(n,(cells.lookup n).getD 0)∈fu cells names acc
 |(m,k)::r,acc,n,h=>by
  unfold fu
  rcases List.mem_cons.mp h with e | h
  ·cases e
   exact zU List.mem_cons_self
  ·split
   ·exact zT h
   ·exact zT h
theorem rX:∀ {names:List (Str×NameKind)}{h:Heap}{acc:List (Str×Addr)}{x:Str}{c:Addr},(x,c)∈cellsFrom h.objs.size names acc->
  (x,c)∈acc\/((x,.cell)∈names/\h.objs.size<=c/\II (pushCells h names) c none)
 |[],_,_,_,_,h=>.inl h
 |(n,k)::r,h,acc,x,c,hm=>by
  unfold cellsFrom at hm
  unfold pushCells
  split at hm
  ·rename_i hk
   rw [if_pos hk]
   have hk:k=.cell:=by simpa using hk
   rw [←Heap.size_push h { cls:=.type "cell",data:=.cell none }] at hm
   rcases rX hm with hm |⟨h1,h2,h3⟩
   ·rcases List.mem_cons.mp hm with e | hm
    ·cases e
     exact .inr ⟨hk ▸ List.mem_cons_self,Nat.le_refl _,_,pushCells_keeps r _ _ _ (Heap.get?_push_size _ rfl),rfl⟩
    ·exact .inl hm
   ·rw [Heap.size_push] at h2
    exact .inr ⟨List.mem_cons_of_mem _ h1,Nat.le_of_succ_le h2,h3⟩
  ·rename_i hk
   rw [if_neg hk]
   rcases rX hm with hm |⟨h1,h2,h3⟩
   ·exact .inl hm
   ·exact .inr ⟨List.mem_cons_of_mem _ h1,h2,h3⟩
theorem vn:∀ {names:List (Str×NameKind)}{n:Nat}{acc:List (Str×Addr)}{p:Str×Addr},p∈acc->p∈cellsFrom n names acc
 |[],_,_,_,h=>h
 |(m,k)::r,n,acc,p,h=>by
  unfold cellsFrom
  split
  ·exact vn (List.mem_cons_of_mem _ h)
  ·exact vn h
theorem zW:∀ {names:List (Str×NameKind)}{n:Nat}{acc:List (Str×Addr)}{x:Str},(x,.cell)∈names->∃ c,(x,c)∈cellsFrom n names acc
 |(m,k)::r,n,acc,x,h=>by
  unfold cellsFrom
  rcases List.mem_cons.mp h with e | h
  ·cases e
   exact⟨n,vn List.mem_cons_self⟩
  ·split
   ·exact zW h
   ·exact zW h
theorem zV:∀ {names:List (Str×NameKind)}{h:Heap}{acc:List (Str×Addr)}{x y:Str}{c:Addr},(∀ p∈acc,p.2<h.objs.size)->(∀ x y c,(x,c)∈acc->(y,c)∈acc->x=y)->
  (x,c)∈cellsFrom h.objs.size names acc->(y,c)∈cellsFrom h.objs.size names acc->x=y
 |[],_,_,_,_,_,_,hi,h1,h2=>hi _ _ _ h1 h2
 |(n,k)::r,h,acc,x,y,c,hl,hi,h1,h2=>by
  unfold cellsFrom at h1 h2
  split at h1
  ·rename_i hk
   rw [if_pos hk] at h2
   rw [←Heap.size_push h { cls:=.type "cell",data:=.cell none }] at h1 h2
   refine zV (h:=h.push _) (fun p hp=>?_) (fun x y c a b=>?_) h1 h2
   ·rw [Heap.size_push]
    rcases List.mem_cons.mp hp with rfl | hp
    ·exact Nat.lt_succ_self _
    ·exact Nat.lt_succ_of_lt (hl p hp)
   ·rcases List.mem_cons.mp a with e | a<;>rcases List.mem_cons.mp b with e' | b
    ·cases e;cases e';rfl
    ·cases e;exact absurd (hl _ b) (Nat.lt_irrefl _)
    ·cases e';exact absurd (hl _ a) (Nat.lt_irrefl _)
    ·exact hi _ _ _ a b
  ·rename_i hk
   rw [if_neg hk] at h2
   exact zV hl hi h1 h2
theorem O4 {M:Model}{A:Around}{E:Value->Shared->Prop}{s:Shared}{scope:Scope}{globals:Addr}{closure:List (Str×Addr)}{qual:Str}{func:Option Addr}{code:Value}{around:Env}{builtins:Addr}{Q:Env->Shared->Prop}
  (h:Q (newEnv scope s.heap.objs.size globals (cellsFrom (s.heap.objs.size+1) scope.names closure) qual func code (some around) builtins)
   { s with heap:=pushCells (s.heap.push { cls:=.type "dict",data:=.dict #[] }) scope.names }) :
  wpAny M A (newFunctionEnv scope globals closure [] qual func code (some around) builtins) Q E s:=by
 simp only [newFunctionEnv,Option.isSome_some,if_true]
 refine wpAny_bind (wpAny_alloc ?_)
 refine wpAny_bind (wpAny_layCells _ (fun n k c=>rfl) scope.names closure _ _ ?_)
 rw [show({ s with heap:=s.heap.push { cls:=.type "dict",data:=.dict #[] } }:Shared).heap.objs.size=s.heap.objs.size+1 from Heap.size_push ..]
 rw [List.forIn_nil]
 exact wpAny_bind (wpAny_pure (wpAny_pure h))
theorem yz {sc:Scope}:∀ {names:List (Str×NameKind)}{x:Str}{k:NameKind},
  (names.map fun(n,k)=>if(k == NameKind.free&&sc.kind == .function&&sc.names.lookup n == some .cell) then(n,NameKind.cell) else(n,k)).lookup x=some k->
  ∃ k',names.lookup x=some k'/\(k=k'\/(k'=.free/\k=.cell))
 |[],_,_,h=>by simp at h
 |(n,k₀)::r,x,k,h=>by
  have ih:=@yz sc r x k
  have h':List.lookup x ((if(k₀ == NameKind.free&&sc.kind == .function&&sc.names.lookup n == some .cell)=true then(n,NameKind.cell) else(n,k₀))::(r.map _))=some k:=h
  cases hx:x == n with
  | true=>
   simp only [List.lookup_cons,hx]
   by_cases hc:(k₀ == NameKind.free&&sc.kind == .function&&sc.names.lookup n == some .cell)=true
   ·rw [if_pos hc] at h'
    simp only [List.lookup_cons,hx] at h'
    cases h'
    simp only [Bool.and_eq_true,beq_iff_eq] at hc
    exact⟨k₀,rfl,.inr ⟨hc.1.1,rfl⟩⟩
   ·rw [if_neg hc] at h'
    simp only [List.lookup_cons,hx] at h'
    cases h'
    exact⟨_,rfl,.inl rfl⟩
  | false=>
   simp only [List.lookup_cons,hx]
   by_cases hc:(k₀ == NameKind.free&&sc.kind == .function&&sc.names.lookup n == some .cell)=true
   ·rw [if_pos hc] at h'
    simp only [List.lookup_cons,hx] at h'
    exact ih h'
   ·rw [if_neg hc] at h'
    simp only [List.lookup_cons,hx] at h'
    exact ih h'
structure sG (N:List Str) (sc scope:Scope) (own:List (Str×Nat)):Prop where
 kind:scope.kind=.function
 uniq:∀ y∈scope.names,scope.names.lookup y.1=some y.2
 ix:∀ p∈own,N[p.2]? = some p.1
 free:∀ y∈scope.names,y.2=.free->sc.names.lookup y.1=some .cell\/sc.names.lookup y.1=some .free
 own:∀ y∈scope.names,y.2=.local\/y.2=.cell->y.1∈own.map (·.1)\/y.1 ∉ N
def wipe (σ:St):List Nat->St
 |[]=>σ
 | v::vs=>(wipe σ vs).set v none
theorem vF (σ:St):∀ vs:List Nat,(wipe σ vs).length=σ.length
 |[]=>rfl
 | v::vs=>by unfold wipe;rw [List.length_set,vF σ vs]
theorem vE {σ:St}{i:Nat}{x:V}:∀ {vs:List Nat},(wipe σ vs)[i]? = some (some x)->σ[i]? = some (some x)/\i ∉ vs
 |[],h=>⟨h,by simp⟩
 | v::vs,h=>by
  unfold wipe at h
  by_cases hi:v=i
  ·subst hi
   by_cases hv:v<(wipe σ vs).length
   ·rw [List.getElem?_set_self hv] at h;cases h
   ·rw [List.getElem?_eq_none (by simpa using hv)] at h;cases h
  ·rw [List.getElem?_set_ne hi] at h
   obtain⟨h1,h2⟩:=vE h
   exact⟨h1,by simp only [List.mem_cons,not_or];exact⟨fun e=>hi e.symm,h2⟩⟩
abbrev Cx.fR (X:Cx) (s:Shared) (H:Hp) (scope:Scope) (dn:Env) (fp:List Addr):Cx:={ X with fB:=s,sD:=H,env:=dn,aA:=X.stack,ex:=fp,fn:=fun x=>scope.names.lookup x == some .cell,pn:=[],xe:=fun _ _=>False }
section
variable {X:Cx}{ab:List (Addr×Obj)}{σ:St}{H:Hp}{s:Shared}
theorem V0 {scope:Scope}{own:List (Str×Nat)}{fp:List Addr}(I:Inv X ab σ H s) (ok:sG X.N X.env.scope scope own) (hN:X.N.Nodup) (pV:∀ b∈fp,j0 X ab H b/\b<s.heap.objs.size) :
  Inv (X.fR s H scope (compEnvC scope (cellsFrom (s.heap.objs.size+1) scope.names (fu X.env.cells scope.names [])) s.heap.objs.size X.env) fp) [] (wipe σ (own.map (·.2))) H { s with heap:=pushCells (s.heap.push { cls:=.type "dict",data:=.dict #[] }) scope.names }:=by
 have pU:∀ y∈scope.names,y.2=.free->∃ c,X.env.cells.lookup y.1=some c:=fun y hy e=>by
  rcases ok.free y hy e with k | k
  ·exact I.ok.has _ (.inl k)
  ·exact I.ok.has _ (.inr k)
 generalize rH:compEnvC scope (cellsFrom (s.heap.objs.size+1) scope.names (fu X.env.cells scope.names [])) s.heap.objs.size X.env=dn
 have kp:∀ b o,s.heap.get? b=some o->(pushCells (s.heap.push { cls:=.type "dict",data:=.dict #[] }) scope.names).get? b=some o:=fun b o e=>pushCells_keeps _ _ _ _ (Heap.get?_push_of_some _ e)
 have hL:dn.locals=s.heap.objs.size:=by rw [←rH];rfl
 have jl:dn.cells=cellsFrom (s.heap.objs.size+1) scope.names (fu X.env.cells scope.names []):=by rw [←rH];rfl
 have yX:dn.scope=Ml scope X.env.scope:=by rw [←rH];rfl
 rw [←Heap.size_push s.heap { cls:=.type "dict",data:=.dict #[] }] at jl
 have cm:∀ {y c},(y,c)∈fu X.env.cells scope.names []->X.env.cells.lookup y=some c/\c<s.heap.objs.size:=fun {y c} hm=>by
  rcases vk hm with hm |⟨h1,rfl⟩
  ·cases hm
  ·obtain⟨c,hc⟩:=pU _ h1 rfl
   rw [hc]
   obtain⟨w,z⟩:=I.cell _ _ hc
   exact⟨rfl,z.lt⟩
 have mem:∀ {y c},dn.cells.lookup y=some c->(X.env.cells.lookup y=some c/\c<s.heap.objs.size)\/(s.heap.objs.size+1<=c/\II (pushCells (s.heap.push { cls:=.type "dict",data:=.dict #[] }) scope.names) c none):=fun {y c} e=>by
  rw [jl] at e
  rcases rX (PySem.mem_of_lookup e) with hm |⟨_,h2,h3⟩
  ·exact .inl (cm hm)
  ·rw [Heap.size_push] at h2;exact .inr ⟨h2,h3⟩
 have look:∀ {y},scope.names.lookup y=some .free->∃ c,dn.cells.lookup y=some c/\X.env.cells.lookup y=some c:=fun {y} hl=>by
  have hy:(y,NameKind.free)∈scope.names:=PySem.mem_of_lookup hl
  obtain⟨c',e'⟩:=mem_lookup (vn (names:=scope.names) (n:=(s.heap.push { cls:=.type "dict",data:=.dict #[] }).objs.size) (zT (cells:=X.env.cells) (acc:=[]) hy))
  rw [←jl] at e'
  refine⟨c',e',?_⟩
  rw [jl] at e'
  rcases rX (PySem.mem_of_lookup e') with hm |⟨h1,_,_⟩
  ·exact(cm hm).1
  ·have:=ok.uniq _ h1
   rw [hl] at this;cases this
 have Oq:(X.fR s H scope dn fp).Ok:=by
  refine⟨I.ok.mod,by show dn.scope.kind=_;rw [yX];exact ok.kind,by show dn.globals=_;rw [←rH];exact I.ok.glob,by show dn.builtins=_;rw [←rH];exact I.ok.blt,by show s.heap.objs.size<=dn.locals;rw [hL];exact Nat.le_refl _,
   fun y z c e1 e2=>?_,fun y hy=>?_,fun y c z e=>?_,I.ok.hd,I.ok.frames,.inl rfl,fun b hb=>⟨?_,fun y c e z=>?_⟩,I.bs,Nat.le_trans I.ok.lX I.sz,fun b o e hb=>?_,fun b hb z=>?_,I.stack,I.Bc⟩
  ·have e1:dn.cells.lookup y=some c:=e1
   have e2:dn.cells.lookup z=some c:=e2
   rw [jl] at e1 e2
   refine zV (fun p hp=>?_) (fun y z c a b=>I.ok.inj y z c (cm a).1 (cm b).1) (PySem.mem_of_lookup e1) (PySem.mem_of_lookup e2)
   rw [Heap.size_push]
   exact Nat.lt_succ_of_lt (cm (y:=p.1) (c:=p.2) hp).2
  ·show ∃ c,dn.cells.lookup y=some c
   have key:∀ k,dn.kindOf y=some k->(k=.cell\/k=.free)->∃ c,dn.cells.lookup y=some c:=fun k hk hk'=>by
    unfold Env.kindOf at hk
    rw [yX] at hk
    obtain⟨k',e,r⟩:=yz hk
    have:k'=.cell\/k'=.free:=by
     rcases r with rfl |⟨rfl,_⟩
     ·exact hk'
     ·exact .inr rfl
    rcases this with rfl | rfl
    ·obtain⟨c,hm⟩:=zW (n:=(s.heap.push { cls:=.type "dict",data:=.dict #[] }).objs.size) (acc:=fu X.env.cells scope.names []) (PySem.mem_of_lookup e)
     obtain⟨c',e'⟩:=mem_lookup hm
     exact⟨c',by rw [jl];exact e'⟩
    ·obtain⟨c,h1,_⟩:=look e
     exact⟨c,h1⟩
   rcases hy with hy | hy
   ·exact key _ hy (.inl rfl)
   ·exact key _ hy (.inr rfl)
  ·have z:(scope.names.lookup y == some NameKind.cell)=true:=z
   have z:scope.names.lookup y=some .cell:=by simpa using z
   have e:dn.cells.lookup y=some c:=e
   rw [jl] at e
   rcases rX (PySem.mem_of_lookup e) with hm |⟨_,h2,_⟩
   ·rcases vk hm with hm |⟨h1,_⟩
    ·cases hm
    ·have q:=ok.uniq _ h1
     rw [z] at q;cases q
   ·rw [Heap.size_push] at h2
    exact Nat.le_of_succ_le h2
  ·show b≠dn.locals
   rw [hL];exact Nat.ne_of_lt (pV b hb).2
  ·have e:dn.cells.lookup y=some c:=e
   rcases mem e with ⟨h1,_⟩ |⟨h1,_⟩
   ·exact(pV b hb).1.2.2.2.2.1 y c h1 z
   ·have h2:s.heap.objs.size+1<=b:=by rw [←z];exact h1
    exact absurd (Nat.lt_of_lt_of_le (pV b hb).2 (Nat.le_of_succ_le h2)) (Nat.lt_irrefl _)
  ·rcases (pV b hb).1.2.2.2.1 with z | z
   ·exact I.ok.qQ b o e z
   ·exact absurd (Nat.lt_of_lt_of_le (Heap.lt_size e) (Nat.le_trans I.ok.lX z)) (Nat.lt_irrefl _)
  ·rcases List.mem_cons.mp (I.vW b z) with z | z
   ·exact(pV b hb).1.2.1 z
   ·exact(pV b hb).1.2.2.1 z
 refine⟨Oq,rfl,I.bare,Un.kept kp,⟨fun _=>none,?_,fun i y av e1 e2 e3=>?_⟩,fun y c e=>?_,?_,fun y c e=>?_,fun p hp=>?_,I.aU.kept kp,by rw [vF];exact I.len⟩
 ·show Heap.Ns _ dn.locals _
  rw [hL]
  exact Heap.Ns.keeps (Heap.Ns.new ..) fun b o e=>pushCells_keeps _ _ _ _ e
 ·obtain⟨e2,dw⟩:=vE e2
  have uP:scope.names.lookup y=some .free/\(dn.kindOf y=some .cell\/dn.kindOf y=some .free):=by
   have key:∀ k,dn.scope.names.lookup y=some k->k=.local\/k=.cell\/k=.free->scope.names.lookup y=some .free/\(dn.kindOf y=some .cell\/dn.kindOf y=some .free):=fun k hk hk'=>by
    have jR:=hk
    rw [yX] at hk
    obtain⟨k',e,r⟩:=yz hk
    have no:¬ (k'=.local\/k'=.cell):=fun hh=>by
     rcases ok.own _ (PySem.mem_of_lookup e) hh with e' | e'
     ·obtain⟨p,hp,QX⟩:=List.mem_map.mp e'
      have e3:=ok.ix p hp
      have:p.1=y:=QX
      rw [this] at e3
      exact dw (List.mem_map.mpr ⟨p,hp,yf hN e3 e1⟩)
     ·exact e' (List.mem_of_getElem? e1)
    rcases r with rfl |⟨rfl,rfl⟩
    ·rcases hk' with rfl | rfl | rfl
     ·exact absurd (.inl rfl) no
     ·exact absurd (.inr rfl) no
     ·exact⟨e,.inr jR⟩
    ·exact⟨e,.inl jR⟩
   have e3:oy dn.scope y:=e3
   rcases e3 with e3 | e3 | e3
   ·exact key _ e3 (.inl rfl)
   ·exact key _ e3 (.inr (.inl rfl))
   ·exact key _ e3 (.inr (.inr rfl))
  obtain⟨m,hn,hl⟩:=I.loc
  have QG:oy X.env.scope y:=(ok.free _ (PySem.mem_of_lookup uP.1) rfl).elim (fun k=>.inr (.inl k)) (fun k=>.inr (.inr k))
  obtain⟨w,r,q⟩:=hl i y av e1 e2 QG
  refine⟨w,r,.inr ⟨uP.2,?_⟩⟩
  obtain⟨c,h1,h2⟩:=look uP.1
  rcases q with ⟨k,_⟩ |⟨_,c',e',z⟩
  ·have k:X.env.scope.names.lookup y=some .local:=k
   rcases ok.free _ (PySem.mem_of_lookup uP.1) rfl with k' | k'<;>rw [show X.env.scope.names.lookup y=_ from k'] at k<;>cases k
  ·rw [h2] at e';cases e'
   exact⟨c,h1,z.keeps kp⟩
 ·have e:dn.cells.lookup y=some c:=e
  rcases mem e with ⟨h1,_⟩ |⟨_,z⟩
  ·obtain⟨w,z⟩:=I.cell y c h1
   exact⟨w,z.keeps kp⟩
  ·exact⟨_,z⟩
 ·show H dn.locals=none
  rw [hL];exact I.aU.fresh (Nat.le_refl _)
 ·have e:dn.cells.lookup y=some c:=e
  rcases mem e with ⟨h1,_⟩ |⟨h1,_⟩
  ·exact I.kG y c h1
  ·exact I.aU.fresh (Nat.le_of_succ_le h1)
 ·exact absurd (show p∈([]:List (Addr×Obj))++[] from hp) (by simp)
theorem WI {E:Value->Shared->Prop}{D:Addr}{xs:List V}{y:V}{v:Value}{Q:Value->Shared->Prop}(I:Inv X ab σ H s) (hD:H D=some (.lst xs)) (hz:xs.length<sizeLine) (r:RelV y v)
  (h:∀ s',Inv X ab σ (upd H D (.lst (xs++[y]))) s'->Q .none s'):wpAny (model X.prog X.w) X.A (call (.builtin "list.append") [.ref D,v]) Q E s:=by
 obtain⟨hz',au,n,ri,e⟩:=I.aU D _ hD
 have hl:=ri.length
 refine append_at (hsz:=by rw [List.size_toArray];omega) e fun h' sb ho'=>?_
 refine h { s with heap:=h' } (I.write (t':=s.toks) (by rw [hD];trivial) (.inl rfl) (fun b u hb q=>(sb.2 b hb).trans q) ⟨_,ho'⟩ ⟨by rw [List.length_append];exact hz,au++[v],n+1,ri.append (.cons r .nil),?_⟩)
 rw [ho']
 simp
def sq (X:Cx) (ifs:List Expr) (t:TT):Prop:=
 ∀(ab:List (Addr×Obj)) (s:Shared) (σ:St) (H:Hp) (Q:Bool->Hp->Prop),Inv X ab σ H s->t σ H Q->
  wpAny (model X.prog X.w) X.A (forIn ifs true fun c r=>if r=true then do let ok ← isTrue c X.env (eval c X.env);pure (ForInStep.yield ok) else pure (ForInStep.yield r)) (TP X ab σ Q) X.xe s
def A4:TT:=fun _ H Q=>Q true H
theorem gc:sq X [] A4:=fun _ _ _ H _ I h=>wpAny_tests_nil ⟨H,I,h⟩
theorem Dv {c:Expr}{t:TT}(h:PT X c t):sq X [c] t:=fun ab s σ H Q I hw=>wpAny_tests_one (h ab s σ H Q I hw)
end
theorem oI {α:Type}{t:Sem α}{Q Q':α->Shared->Prop}{M:Model}{A:Around}{E:Value->Shared->Prop}{s:Shared}(h:wpAny M A t Q (fun _ _=>False) s) (hQ:∀ a s,Q a s->Q' a s):wpAny M A t Q' E s:=wpAny_mono h hQ fun _ _ z=>False.elim z
theorem Vq {prog:Program}{w:World}{A:Around}{R:Result->Shared->Prop}{s:Shared}{elt target iter:Expr}{ifs:List Expr}{scope:Scope}{pos:Pos}{it acc:Value}{env:Env}(I:Nat->Shared->Prop)
  (turn:∀ n s,I n s->wpAny (model prog w) A (pyNext it) (fun r s₁=>match r with
   | none=>R (.ok .next) s₁
   | some v=>wpAny (model prog w) A (letOwnedTupleGo target it v) (fun _ s₁'=>wpAny (model prog w) A (assign target env v) (fun _ s₂=>
     wpAny (model prog w) A (forIn ifs true fun c r=>if r=true then do let ok ← isTrue c env (eval c env);pure (ForInStep.yield ok) else pure (ForInStep.yield r)) (fun ok s₃=>
      if ok=true then wpAny (model prog w) A (eval elt env) (fun x s₄=>
       wpAny (model prog w) A (call (.builtin "list.append") [acc,x]) (fun _ s₅=>∃ m,m<n/\I m s₅) (notedBy (model prog w) A env fun e s'=>R (.error e) s') s₄) (notedBy (model prog w) A env fun e s'=>R (.error e) s') s₃
      else ∃ m,m<n/\I m s₃) (notedBy (model prog w) A env fun e s'=>R (.error e) s') s₂) (notedBy (model prog w) A env fun e s'=>R (.error e) s') s₁') (notedBy (model prog w) A env fun e s'=>R (.error e) s') s₁) (notedBy (model prog w) A env fun e s'=>R (.error e) s') s)
  (n:Nat) (h:I n s) :
  codeAny (model prog w) A (.compLoop (.ListComp elt [⟨target,iter,ifs,0⟩] scope pos) 0 it acc env) R s:=by
 refine codeAny_loop rfl I (fun n s hI=>?_) n h
 show wpAny _ A ((compTurn (.ListComp elt [⟨target,iter,ifs,0⟩] scope pos) 0 it acc env).onRaise (fun x=>do noteFrame x env;theTreesLotGoes x)) _ _ s
 refine wpAny_noted ?_
 rw [compTurn_list]
 refine wpAny_bind (wpAny_standAt (wpAny_bind (wpAny_mono (turn n s hI) (fun r s₁ h₁=>?_) fun _ _ h'=>h')))
 cases r with
 | none=>exact wpAny_pure h₁
 | some v=>
  refine wpAny_bind (wpAny_mono h₁ (fun _ s₁' h₁'=>?_) fun _ _ h'=>h')
  refine wpAny_bind (wpAny_mono h₁' (fun _ s₂ h₂=>wpAny_bind (wpAny_mono h₂ (fun ok s₃ h₃=>?_) fun _ _ h'=>h')) fun _ _ h'=>h')
  cases ok with
  | false=>exact wpAny_pure ⟨rfl,h₃⟩
  | true=>
   exact wpAny_bind (wpAny_bind (wpAny_mono h₃ (fun x s₄ h₄=>wpAny_bind (wpAny_mono h₄ (fun _ s₅ h₅=>wpAny_pure (wpAny_pure ⟨rfl,h₅⟩)) fun _ _ h'=>h')) fun _ _ h'=>h'))
section
variable {X:Cx}
def qu (wi:TI) (g:TG) (tt:TT) (te:TE) (vs:List Nat):TE:=fun σ H Q=>wi σ H fun J H1=>∀ D,H1 D=none->∃ W:Nat->Nat->Hp->Prop,(∃ m,W 0 m (upd H1 D (.lst [])))/\∀ i m H,W i m H->
 (J.stop i H/\Q (.ref D) H)\/(J.go i H/\∃ Nx:Hp->Prop,(∀ H',Nx H'->∃ m',m'<m/\W (i+1) m' H')/\∀ x H',J.jx i H x H'->g x (wipe σ vs) H' fun σ2 H2=>wipe σ2 vs=wipe σ vs/\tt σ2 H2 fun b H3=>
  if b=true then te σ2 H3 fun y H4=>∃ acc,H4 D=some (.lst acc)/\acc.length<sizeLine/\Nx (upd H4 D (.lst (acc++[y]))) else Nx H3)
theorem EZ {ab:List (Addr×Obj)}{s:Shared}{σ:St}{H:Hp}{Q:VK}{elt tg iter:Expr}{ifs:List Expr}{scope:Scope}{own:List (Str×Nat)}{pos pos':Pos}{wi:TI}{g:TG}{tt:TT}{te:TE}{use:Option (Value->Sem Unit)}{Qf:Value->Shared->Prop}
  (hc:X.calm=true) (hN:X.N.Nodup) (I:Inv X ab σ H s) (hi:PI X tg iter wi) (ok:sG X.N X.env.scope scope own)
  (hg:∀(s:Shared) (H:Hp) (C:Addr) (cl:List (Str×Addr)) (fp:List Addr),PG (X.fR s H scope (compEnvC scope cl C X.env) fp) tg g) (ht:∀(s:Shared) (H:Hp) (C:Addr) (cl:List (Str×Addr)) (fp:List Addr),sq (X.fR s H scope (compEnvC scope cl C X.env) fp) ifs tt)
  (he:∀(s:Shared) (H:Hp) (C:Addr) (cl:List (Str×Addr)) (fp:List Addr),PE (X.fR s H scope (compEnvC scope cl C X.env) fp) elt te) (hs:∀ x,foldedSetIterable iter X.env x=pure x)
  (h:qu wi g tt te (own.map (·.2)) σ H Q)
  (R3:∀ D C s' m H',Inv X ab σ H' s'->Q (.ref D) H'->s'.heap.Ns C m->j0 X ab H' C->compPost (model X.prog X.w) X.A X.xe use Qf (.ref D) C (.ok .next) s') :
  wpAny (model X.prog X.w) X.A (comprehension (.ListComp elt [⟨tg,iter,ifs,0⟩] scope pos) scope X.env pos' (newList []) false (eval iter X.env) use) Qf X.xe s:=by
 have pU:∀ y∈scope.names,y.2=.free->∃ c,X.env.cells.lookup y.1=some c:=fun y hy e=>by
  rcases ok.free y hy e with k | k
  ·exact I.ok.has _ (.inl k)
  ·exact I.ok.has _ (.inr k)
 refine wpAny_comprehension_free (use:=use) rfl hs (Vs pU) ok.kind (fun y hy e=>by rw [ok.uniq y hy,e])
  (aV (hi ab s σ H _ I h) fun xv s1 hx=>aV hx fun yE s2 h2=>?_)
 obtain⟨it,fp,tn,J,H2,e,I2,T,mi,f2,q⟩:=h2
 subst e
 refine wpAny_newObj_type (O4 ?_) (by show 0<=sizeLine;decide)
 generalize hD:s2.heap.objs.size=D
 have R6:H2 D=none:=I2.aU.fresh (Nat.le_of_eq hD)
 obtain⟨W,⟨m0,w0⟩,turn⟩:=q D R6
 generalize Ft:({ s2 with heap:=s2.heap.push { cls:=.type "list",data:=.seq ([]:List Value).toArray } }:Shared)=s3
 have I3:Inv X ab σ (upd H2 D (.lst [])) s3:=by
  rw [←Ft]
  refine I2.laid (t':=s2.toks) (fun b o e=>Heap.get?_push_of_some _ e) (Nat.le_of_eq hD) ⟨Nat.zero_le _,[],0,.nil,?_⟩
  rw [←hD]
  exact Heap.get?_push_size _ rfl
 have h3:s3.heap=s2.heap.push { cls:=.type "list",data:=.seq ([]:List Value).toArray }:=by rw [←Ft]
 have sz:∀ b∈fp,b<s2.heap.objs.size:=fun b hb=>by
  obtain⟨o,e,_⟩:=T.obj _ _ mi b hb
  exact Heap.lt_size e
 have f3:∀ b∈fp,j0 X ab (upd H2 D (.lst [])) b/\b<s3.heap.objs.size:=fun b hb=>by
  have bR:=sz b hb
  refine⟨⟨?_,(f2 b hb).2⟩,by rw [h3,Heap.size_push];exact Nat.lt_succ_of_lt bR⟩
  rw [aj (by rw [←hD];exact Nat.ne_of_lt bR)]
  exact(f2 b hb).1
 have mh:tn 0 s3.heap:=T.keep _ _ _ mi fun b _ o e=>by rw [h3];exact Heap.get?_push_of_some _ e
 have I4:=V0 I3 ok hN f3
 have pg:=hg s3 (upd H2 D (.lst [])) s3.heap.objs.size (cellsFrom (s3.heap.objs.size+1) scope.names (fu X.env.cells scope.names [])) fp
 have pt:=ht s3 (upd H2 D (.lst [])) s3.heap.objs.size (cellsFrom (s3.heap.objs.size+1) scope.names (fu X.env.cells scope.names [])) fp
 have pe:=he s3 (upd H2 D (.lst [])) s3.heap.objs.size (cellsFrom (s3.heap.objs.size+1) scope.names (fu X.env.cells scope.names [])) fp
 show codeAny _ _ (.compStart (.ListComp elt [⟨tg,iter,ifs,0⟩] scope pos) 0 (.ref it) (.ref D) (compEnvC scope (cellsFrom (s3.heap.objs.size+1) scope.names (fu X.env.cells scope.names [])) s3.heap.objs.size X.env)) (compPost (model X.prog X.w) X.A X.xe use Qf (.ref D) s3.heap.objs.size) { s3 with heap:=pushCells (s3.heap.push { cls:=.type "dict",data:=.dict #[] }) scope.names }
 have EB:∀ b∈fp,(upd H2 D (.lst [])) b=none:=fun b hb=>(f3 b hb).1.1
 generalize RK:compEnvC scope (cellsFrom (s3.heap.objs.size+1) scope.names (fu X.env.cells scope.names [])) s3.heap.objs.size X.env=ce at I4 pg pt pe ⊢
 have cL:ce.locals=s3.heap.objs.size:=by subst RK;rfl
 generalize XD:upd H2 D (.lst [])=H3 at I3 I4 pg pt pe w0 EB f3
 generalize QS:({ s3 with heap:=pushCells (s3.heap.push { cls:=.type "dict",data:=.dict #[] }) scope.names }:Shared)=s4 at I4 ⊢
 have Bg:tn 0 s4.heap:=T.keep _ _ _ mh fun b _ o e=>by rw [←QS];exact pushCells_keeps _ _ _ _ (Heap.get?_push_of_some _ e)
 have stat:∀ {σ':St}{H':Hp}{s':Shared},Inv (X.fR s3 H3 scope ce fp) [] σ' H' s'->(∀ b∈fp,H' b=none)->∀ b∈fp,j0 (X.fR s3 H3 scope ce fp) [] H' b:=fun {σ' H' s'} I' hn b hb=>
  ⟨hn b hb,(I'.ok.vc b hb).1,I'.ok.rS b hb,.inl hb,fun x c e=>(I'.ok.vc b hb).2 x c e,fun p hp=>absurd (show p∈([]:List (Addr×Obj))++[] from hp) (by simp)⟩
 have loop:codeAny (model X.prog X.w) X.A (.compLoop (.ListComp elt [⟨tg,iter,ifs,0⟩] scope pos) 0 (.ref it) (.ref D) ce) (compPost (model X.prog X.w) X.A X.xe use Qf (.ref D) s3.heap.objs.size) s4:=by
  refine Vq (fun n s'=>∃ i H',Inv (X.fR s3 H3 scope ce fp) [] (wipe σ (own.map (·.2))) H' s'/\tn i s'.heap/\(∀ b∈fp,H' b=none)/\W i n H') ?_ m0 ⟨0,H3,I4,Bg,EB,w0⟩
  rintro n s5 ⟨i,H5,I5,oJ,n5,w5⟩
  rcases turn i n H5 w5 with ⟨stop,qq⟩ |⟨go,Nx,R5,step⟩
  ·have td:=T.done (X.fR s3 H3 scope ce fp) rfl rfl rfl hc i [] s5 _ H5 (fun _ _=>False) I5 (stat I5 n5) oJ stop
   refine oI td fun r s6 ⟨hr,I6⟩=>?_
   subst hr
   have I7:Inv X ab σ H5 s6:=I3.call' (ch:=fp) I6.os I6.base I6.aU I6.bare fun b hb=>⟨(f3 b hb).1.2.2.2.1,(f3 b hb).1.2.1,(f3 b hb).1.2.2.2.2.1,(f3 b hb).1.2.2.2.2.2⟩
   have nC:H5 s3.heap.objs.size=none:=by
    have z:H5 ce.locals=none:=I6.free
    rw [cL] at z
    exact z
   obtain⟨m,hn,_⟩:=I6.loc
   have hn:s6.heap.Ns ce.locals m:=hn
   rw [cL] at hn
   exact R3 D s3.heap.objs.size s6 m H5 I7 qq hn (I3.nZ (Nat.le_refl _) nC)
  ·have ti:=T.item (X.fR s3 H3 scope ce fp) rfl rfl rfl hc i [] s5 _ H5 (fun _ _=>False) I5 (stat I5 n5) oJ go
   refine oI ti fun r s6 ⟨u,hr,h6⟩=>?_
   subst hr
   refine oI h6 fun _ s7 ⟨x,H7,I7,r7,y7,vZ,n7⟩=>?_
   have I7':=I7.pinned (stat I7 n7) (T.obj _ _ vZ)
   refine oI (pg _ s7 _ H7 x u _ I7' r7 (step x H7 y7)) fun _ s8 ⟨σ8,H8,I8,Fi,q8⟩=>?_
   refine oI (pt _ s8 σ8 H8 _ I8 q8) fun b s9 ⟨H9,I9,q9⟩=>?_
   have fin:∀ {s':Shared}{H':Hp},Inv (X.fR s3 H3 scope ce fp) ([]++qH fp s7.heap) σ8 H' s'->Nx H'->∃ m,m<n/\∃ i H',Inv (X.fR s3 H3 scope ce fp) [] (wipe σ (own.map (·.2))) H' s'/\tn i s'.heap/\(∀ b∈fp,H' b=none)/\W i m H':=fun {s' H'} I' nx=>by
    obtain⟨m',hm,w'⟩:=R5 H' nx
    have pin':∀ b∈fp,∀ o,s7.heap.get? b=some o->s'.heap.get? b=some o/\H' b=none:=fun b hb o e=>
     let z:=I'.pin (b,o) (List.mem_append_right _ (List.mem_append_right _ (yt hb e)))
     ⟨z.1,z.2.1⟩
    have hl:(wipe σ (own.map (·.2))).length=σ8.length:=by rw [←Fi,vF]
    refine⟨m',hm,i+1,H',(I'.sO (ab:=[])).weak hl (fun j v e=>?_),T.keep _ _ _ vZ fun b hb o e=>(pin' b hb o e).1,fun b hb=>?_,w'⟩
    ·rw [←Fi] at e
     exact(vE e).1
    ·obtain⟨o,e,_⟩:=T.obj _ _ vZ b hb
     exact(pin' b hb o e).2
   cases b with
   | false=>
    simp only [Bool.false_eq_true,if_false] at q9 ⊢
    exact fin I9 q9
   | true=>
    simp only [if_true] at q9 ⊢
    refine oI (pe _ s9 σ8 H9 _ I9 q9) fun z eV ⟨yv,Ax,W2,MM,acc,R7,QC,nx⟩=>?_
    exact WI (X:=X.fR s3 H3 scope ce fp) W2 R7 QC MM fun cX W0=>fin W0 nx
 exact codeAny_compStart_list loop (T.self X.A 0 _ _ _ Bg loop)
theorem i8 {elt tg iter:Expr}{ifs:List Expr}{scope:Scope}{own:List (Str×Nat)}{pos:Pos}{wi:TI}{g:TG}{tt:TT}{te:TE}(hc:X.calm=true) (hN:X.N.Nodup) (hi:PI X tg iter wi) (ok:sG X.N X.env.scope scope own)
  (hg:∀(s:Shared) (H:Hp) (C:Addr) (cl:List (Str×Addr)) (fp:List Addr),PG (X.fR s H scope (compEnvC scope cl C X.env) fp) tg g) (ht:∀(s:Shared) (H:Hp) (C:Addr) (cl:List (Str×Addr)) (fp:List Addr),sq (X.fR s H scope (compEnvC scope cl C X.env) fp) ifs tt)
  (he:∀(s:Shared) (H:Hp) (C:Addr) (cl:List (Str×Addr)) (fp:List Addr),PE (X.fR s H scope (compEnvC scope cl C X.env) fp) elt te) (hs:∀ x,foldedSetIterable iter X.env x=pure x:=by intro _;rfl) :
  PE X (.ListComp elt [⟨tg,iter,ifs,0⟩] scope pos) (qu wi g tt te (own.map (·.2))):=by
 intro ab s σ H Q I h
 rw [eval_ListComp]
 refine EZ hc hN I hi ok hg ht he hs h fun D C s' m H' I' q hn f=>⟨m,hn,fun h'' sb=>?_⟩
 obtain⟨f0,f1,f2,f3,f4,f5⟩:=f
 exact⟨.ref D,H',I'.turned (t':=s'.toks) (fun b o hb e=>(sb.2 b hb).trans e) f0 f1 f3 f4 f5,rfl,q⟩
theorem ny {i:Nat}{y:Str}{py:Pos}{elt tg iter:Expr}{ifs:List Expr}{scope:Scope}{own:List (Str×Nat)}{pos Bh:Pos}{wi:TI}{g:TG}{tt:TT}{te:TE}(hc:X.calm=true) (hN:X.N.Nodup) (hy:X.N[i]? = some y) (Fd:X.env.scope.names.lookup y=some .local)
  (QM:swapsWith (.ListComp elt [⟨tg,iter,ifs,0⟩] scope pos) (some (.Name y py)) Bh.line X.env=pure true) (hi:PI X tg iter wi) (ok:sG X.N X.env.scope scope own)
  (hg:∀(s:Shared) (H:Hp) (C:Addr) (cl:List (Str×Addr)) (fp:List Addr),PG (X.fR s H scope (compEnvC scope cl C X.env) fp) tg g) (ht:∀(s:Shared) (H:Hp) (C:Addr) (cl:List (Str×Addr)) (fp:List Addr),sq (X.fR s H scope (compEnvC scope cl C X.env) fp) ifs tt)
  (he:∀(s:Shared) (H:Hp) (C:Addr) (cl:List (Str×Addr)) (fp:List Addr),PE (X.fR s H scope (compEnvC scope cl C X.env) fp) elt te) (hs:∀ x,foldedSetIterable iter X.env x=pure x:=by intro _;rfl) :
  PS X (.Assign [.Name y py] (.ListComp elt [⟨tg,iter,ifs,0⟩] scope pos) Bh) (me (qu wi g tt te (own.map (·.2))) (jm i)):=by
 intro ab s σ H D I h
 rw [exec_Assign_Name_used _ _ _ _ QM]
 refine wpAny_bind (wpAny_standAt (wpAny_bind ?_))
 show wpAny _ X.A (do let _ ← comprehension (.ListComp elt [⟨tg,iter,ifs,0⟩] scope pos) scope X.env (firstIterPos [⟨tg,iter,ifs,0⟩] pos) (newList []) false (eval iter X.env) (some (assign (.Name y py) X.env))) _ _ s
 have h:qu wi g tt te (own.map (·.2)) σ H (fun x H1=>jm i x σ H1 D.nx):=h
 refine wpAny_bind (aV (EZ (Qf:=fun _ s'=>SP X ab D .next s') hc hN I hi ok hg ht he hs h fun L C s' m H' I' q hn f=>?_) fun _ s' hq=>wpAny_pure (wpAny_pure hq))
 show wpAny _ _ (assign (.Name y py) X.env (.ref L)) _ _ _
 refine wpAny_assign_Name (Bb (v:=V.ref L) I' hN hy (.inl Fd) rfl (fun s2 I2 ⟨a,sb,ha⟩=>?_) (.inr Fd))
 obtain⟨f0,f1,f2,f3,f4,f5⟩:=f
 have RV:C≠a:=by
  rcases ha with z | z
  ·rw [z];exact f1
  ·exact fun e=>f4 y a z e.symm
 refine⟨m,hn.sameBut sb RV,fun h3 Mb=>?_⟩
 exact⟨_,H',I2.turned (t':=s2.toks) (fun b o hb e=>(Mb.2 b hb).trans e) f0 f1 f3 f4 f5,q⟩
theorem ni {elt:Expr}{gs:List Comprehension}{scope:Scope}{pos py:Pos}{y:Str}{l:Nat}{env:Env}(hk:env.scope.kind=.function) (hy:env.scope.names.lookup y=some .local) (hl:(py.line == pos.line)=true)
  (ha:(scope.names.any fun(n,k)=>n == y&&(k == .local||k == .cell))=false):swapsWith (.ListComp elt gs scope pos) (some (.Name y py)) l env=pure true:=by
 have ky:env.kindOf y=some .local:=hy
 have hb:env.blockKind=.function:=by unfold Env.blockKind;rw [hk];rfl
 unfold swapsWith
 simp only [hb,ky,ha,Expr.pos,hl]
 rfl
end
theorem yB {lo:Int}{n:Nat}{g:TG}{tt:TT}{te:TE}{vs:List Nat}{σ:St}{H1:Hp}{D:Addr}{Qd:Hp->Prop}(Pv:Nat->Hp->Prop) (h0:Pv 0 (upd H1 D (.lst [])))
  (hs:∀ i H,i<n->Pv i H->g (.int (lo+i)) (wipe σ vs) H fun σ2 H2=>wipe σ2 vs=wipe σ vs/\tt σ2 H2 fun b H3=>
   if b=true then te σ2 H3 fun y H4=>∃ acc,H4 D=some (.lst acc)/\acc.length<sizeLine/\Pv (i+1) (upd H4 D (.lst (acc++[y]))) else Pv (i+1) H3) (hd:∀ H,Pv n H->Qd H) :
  ∃ W:Nat->Nat->Hp->Prop,(∃ m,W 0 m (upd H1 D (.lst [])))/\∀ i m H,W i m H->
   ((l4 lo n).stop i H/\Qd H)\/((l4 lo n).go i H/\∃ Nx:Hp->Prop,(∀ H',Nx H'->∃ m',m'<m/\W (i+1) m' H')/\∀ x H',(l4 lo n).jx i H x H'->g x (wipe σ vs) H' fun σ2 H2=>wipe σ2 vs=wipe σ vs/\tt σ2 H2 fun b H3=>
    if b=true then te σ2 H3 fun y H4=>∃ acc,H4 D=some (.lst acc)/\acc.length<sizeLine/\Nx (upd H4 D (.lst (acc++[y]))) else Nx H3):=by
 refine⟨fun i m H=>m=n-i/\i<=n/\Pv i H,⟨n,by simp,Nat.zero_le _,h0⟩,?_⟩
 rintro i m H ⟨rfl,hi,p⟩
 by_cases bR:i<n
 ·refine .inr ⟨bR,Pv (i+1),fun H' p'=>⟨n-(i+1),by omega,rfl,bR,p'⟩,fun x H' y=>?_⟩
  obtain⟨e,y⟩:=y
  subst e y
  exact hs i _ bR p
 ·have e:i=n:=by omega
  subst e
  exact .inl ⟨Nat.le_refl _,hd H p⟩
theorem kX {K:PySem.W.Frag}{a:Addr}{xs:List V}{g:TG}{tt:TT}{te:TE}{vs:List Nat}{σ:St}{H1:Hp}{D:Addr}{Qd:Hp->Prop}(Pv:Nat->Hp->Prop) (h0:Pv 0 (upd H1 D (.lst []))) (hl:∀ i H,i<=xs.length->Pv i H->ai K H a xs)
  (hs:∀ i x H,xs[i]? = some x->Pv i H->g x (wipe σ vs) H fun σ2 H2=>wipe σ2 vs=wipe σ vs/\tt σ2 H2 fun b H3=>
   if b=true then te σ2 H3 fun y H4=>∃ acc,H4 D=some (.lst acc)/\acc.length<sizeLine/\Pv (i+1) (upd H4 D (.lst (acc++[y]))) else Pv (i+1) H3) (hd:∀ H,Pv xs.length H->Qd H) :
  ∃ W:Nat->Nat->Hp->Prop,(∃ m,W 0 m (upd H1 D (.lst [])))/\∀ i m H,W i m H->
   ((mY K a).stop i H/\Qd H)\/((mY K a).go i H/\∃ Nx:Hp->Prop,(∀ H',Nx H'->∃ m',m'<m/\W (i+1) m' H')/\∀ x H',(mY K a).jx i H x H'->g x (wipe σ vs) H' fun σ2 H2=>wipe σ2 vs=wipe σ vs/\tt σ2 H2 fun b H3=>
    if b=true then te σ2 H3 fun y H4=>∃ acc,H4 D=some (.lst acc)/\acc.length<sizeLine/\Nx (upd H4 D (.lst (acc++[y]))) else Nx H3):=by
 refine⟨fun i m H=>m=xs.length-i/\i<=xs.length/\Pv i H,⟨xs.length,by simp,Nat.zero_le _,h0⟩,?_⟩
 rintro i m H ⟨rfl,hi,p⟩
 have q:=hl i H hi p
 by_cases bR:i<xs.length
 ·refine .inr ⟨⟨xs,xs[i],q,by simp [bR]⟩,Pv (i+1),fun H' p'=>⟨xs.length-(i+1),by omega,rfl,bR,p'⟩,fun x H' y=>?_⟩
  obtain⟨e,y⟩:=y
  subst e
  exact hs i x _ (y xs q) p
 ·have e:i=xs.length:=by omega
  subst e
  exact .inl ⟨⟨xs,q,Nat.le_refl _⟩,hd H p⟩
theorem Qi {K:PySem.W.Frag}{a:Addr}{xs:List V}{g:TG}{tt:TT}{te:TE}{vs:List Nat}{σ:St}{H1:Hp}{D:Addr}{Qd:Hp->Prop}(Pv:Nat->Hp->Prop) (h0:Pv 0 (upd H1 D (.lst []))) (hl:∀ i H,i<=xs.length->Pv i H->cE K H a xs)
  (hs:∀ i x H,xs[i]? = some x->Pv i H->g x (wipe σ vs) H fun σ2 H2=>wipe σ2 vs=wipe σ vs/\tt σ2 H2 fun b H3=>
   if b=true then te σ2 H3 fun y H4=>∃ acc,H4 D=some (.lst acc)/\acc.length<sizeLine/\Pv (i+1) (upd H4 D (.lst (acc++[y]))) else Pv (i+1) H3) (hd:∀ H,Pv xs.length H->Qd H) :
  ∃ W:Nat->Nat->Hp->Prop,(∃ m,W 0 m (upd H1 D (.lst [])))/\∀ i m H,W i m H->
   ((sy K a).stop i H/\Qd H)\/((sy K a).go i H/\∃ Nx:Hp->Prop,(∀ H',Nx H'->∃ m',m'<m/\W (i+1) m' H')/\∀ x H',(sy K a).jx i H x H'->g x (wipe σ vs) H' fun σ2 H2=>wipe σ2 vs=wipe σ vs/\tt σ2 H2 fun b H3=>
    if b=true then te σ2 H3 fun y H4=>∃ acc,H4 D=some (.lst acc)/\acc.length<sizeLine/\Nx (upd H4 D (.lst (acc++[y]))) else Nx H3):=by
 refine⟨fun i m H=>m=xs.length-i/\i<=xs.length/\Pv i H,⟨xs.length,by simp,Nat.zero_le _,h0⟩,?_⟩
 rintro i m H ⟨rfl,hi,p⟩
 have q:=hl i H hi p
 by_cases bR:i<xs.length
 ·refine .inr ⟨⟨xs,xs[i],q,by simp [bR]⟩,Pv (i+1),fun H' p'=>⟨xs.length-(i+1),by omega,rfl,bR,p'⟩,fun x H' y=>?_⟩
  obtain⟨e,y⟩:=y
  subst e
  exact hs i x _ (y xs q) p
 ·have e:i=xs.length:=by omega
  subst e
  exact .inl ⟨⟨xs,q,Nat.le_refl _⟩,hd H p⟩
def HM (N:List Str) (sc scope:Scope) (own:List (Str×Nat)):Bool:=
 (match scope.kind with | .function=>true |_=>false)&&(scope.names.all fun y=>decide (scope.names.lookup y.1=some y.2))&&(own.all fun p=>decide (N[p.2]? = some p.1)) &&
  (scope.names.all fun y=>match y.2 with
   | .free=>(match sc.names.lookup y.1 with | some .cell=>true | some .free=>true |_=>false)
   | .local=>decide (y.1∈own.map (·.1))||decide (y.1 ∉ N)
   | .cell=>decide (y.1∈own.map (·.1))||decide (y.1 ∉ N)
   |_=>true)
theorem fF {N:List Str}{sc scope:Scope}{own:List (Str×Nat)}(h:HM N sc scope own=true):sG N sc scope own:=by
 unfold HM at h
 simp only [Bool.and_eq_true,List.all_eq_true,decide_eq_true_eq] at h
 obtain⟨⟨⟨h1,h2⟩,h3⟩,h4⟩:=h
 refine⟨?_,h2,h3,fun y hy e=>?_,fun y hy e=>?_⟩
 ·split at h1
  ·assumption
  ·cases h1
 ·have q:=h4 y hy
  simp only [e] at q
  split at q<;>first | exact .inl (by assumption) | exact .inr (by assumption) | cases q
 ·have q:=h4 y hy
  rcases e with e | e<;>(simp only [e,Bool.or_eq_true,decide_eq_true_eq] at q;exact q)
end L2
namespace L2
open PySem PySem.Spec PyProof.Rows
section
variable {κ:Type} [DecidableEq κ]
def dc (aB:List (κ×V)) (k:κ):Option V:=(aB.find? fun kv=>decide (kv.1=k)).map (·.2)
def putK (aB:List (κ×V)) (k:κ) (v:V):List (κ×V):=
 if(aB.any fun kv=>decide (kv.1=k))=true then aB.map (fun kv=>if kv.1=k then(kv.1,v) else kv) else aB++[(k,v)]
theorem j8 {p:κ×V}{r:List (κ×V)}{k:κ}(e:p.1=k):dc (p::r) k=some p.2:=by simp [dc,List.find?_cons,e]
theorem j9 {p:κ×V}{r:List (κ×V)}{k:κ}(e:¬ p.1=k):dc (p::r) k=dc r k:=by simp [dc,List.find?_cons,e]
theorem sN (k:κ):∀ aB:List (κ×V),(aB.any fun kv=>decide (kv.1=k))=(dc aB k).isSome
 |[]=>rfl
 | p::r=>by
  rw [List.any_cons]
  by_cases e:p.1=k
  ·simp only [j8 e,decide_eq_true e,Bool.true_or,Option.isSome_some]
  ·rw [j9 e,decide_eq_false e,Bool.false_or];exact sN k r
theorem AK (k j:κ) (y:V):∀ aB:List (κ×V),dc (aB.map fun kv=>if kv.1=k then(kv.1,y) else kv) j=(dc aB j).map fun x=>if j=k then y else x
 |[]=>rfl
 | p::r=>by
  have ih:=AK k j y r
  rw [List.map_cons]
  by_cases h:p.1=k
  ·rw [if_pos h]
   by_cases e:p.1=j
   ·rw [j8 (p:=(p.1,y)) e,j8 e,Option.map_some,if_pos (e.symm.trans h)]
   ·rw [j9 (p:=(p.1,y)) e,j9 e,ih]
  ·rw [if_neg h]
   by_cases e:p.1=j
   ·rw [j8 (p:=p) e,j8 e,Option.map_some,if_neg (fun z=>h (e.trans z))]
   ·rw [j9 (p:=p) e,j9 e,ih]
theorem AJ (k j:κ) (y:V):∀ aB:List (κ×V),dc aB k=none->dc (aB++[(k,y)]) j=if j=k then some y else dc aB j
 |[],_=>by
  by_cases e:k=j
  ·rw [if_pos e.symm];exact j8 (p:=(k,y)) e
  ·rw [if_neg (fun z=>e z.symm)];exact j9 (p:=(k,y)) e
 | p::r,hn=>by
  rw [List.cons_append]
  have hk:¬ p.1=k:=fun z=>by rw [j8 z] at hn;cases hn
  rw [j9 hk] at hn
  have ih:=AJ k j y r hn
  by_cases e:p.1=j
  ·rw [j8 e,j8 e,if_neg (fun z=>hk (e.trans z))]
  ·rw [j9 e,j9 e,ih]
theorem qi (aB:List (κ×V)) (k j:κ) (y:V):dc (putK aB k y) j=if j=k then some y else dc aB j:=by
 unfold putK
 by_cases a:(aB.any fun kv=>decide (kv.1=k))=true
 ·rw [if_pos a,AK]
  rw [sN] at a
  by_cases e:j=k
  ·obtain⟨x,hx⟩:=Option.isSome_iff_exists.mp a
   rw [if_pos e,e,hx,Option.map_some,if_pos rfl]
  ·rw [if_neg e]
   cases dc aB j with
   | none=>rfl
   | some x=>rw [Option.map_some,if_neg e]
 ·rw [if_neg a]
  refine AJ k j y aB ?_
  rw [sN] at a
  cases q:dc aB k with
  | none=>rfl
  | some x=>rw [q] at a;exact(a rfl).elim
theorem pA (aB:List (κ×V)) (k:κ) (v:V):(putK aB k v).length<=aB.length+1:=by
 unfold putK
 split
 ·rw [List.length_map];omega
 ·rw [List.length_append,List.length_cons,List.length_nil];omega
theorem hX.Qs {o:Option V}{u:Option Value}(r:hX o u):o.isSome=u.isSome:=by
 cases o with
 | none=>cases u with
  | none=>rfl
  | some _=>exact(show False from r).elim
 | some _=>cases u with
  | none=>exact(show False from r).elim
  | some _=>rfl
theorem hX.getD {o:Option V}{u:Option Value}{d:V}{d':Value}(r:hX o u) (rd:RelV d d'):RelV (o.getD d) (u.getD d'):=by
 cases o with
 | none=>cases u with
  | none=>exact rd
  | some _=>exact(show False from r).elim
 | some _=>cases u with
  | none=>exact(show False from r).elim
  | some _=>exact r
theorem KV.val {aB:List (κ×V)}{vs:List (κ×Value)}(r:KV aB vs) (k:κ):hX (dc aB k) (valueAt vs k):=by
 unfold KV at r
 induction r with
 | nil=>exact True.intro
 | @cons p q ps qs h t ih=>
  obtain⟨h1,h2⟩:=h
  by_cases e:p.1=k
  ·have e':q.1=k:=h1.symm.trans e
   have b:valueAt (q::qs) k=some q.2:=by simp [valueAt,List.find?_cons,e']
   rw [j8 e,b];exact h2
  ·have e':¬ q.1=k:=fun z=>e (h1.trans z)
   have b:valueAt (q::qs) k=valueAt qs k:=by simp [valueAt,List.find?_cons,e']
   rw [j9 e,b];exact ih
theorem KV.any {aB:List (κ×V)}{vs:List (κ×Value)}(r:KV aB vs) (k:κ):(aB.any fun kv=>decide (kv.1=k))=vs.any fun kv=>decide (kv.1=k):=by
 unfold KV at r
 induction r with
 | nil=>rfl
 | cons h t ih=>rw [List.any_cons,List.any_cons,ih,h.1]
theorem KV.xp {aB:List (κ×V)}{vs:List (κ×Value)}(r:KV aB vs) (k:κ){y:V}{u:Value}(ry:RelV y u) :
  KV (aB.map fun kv=>if kv.1=k then(kv.1,y) else kv) (vs.map fun kv=>if kv.1=k then(kv.1,u) else kv):=by
 unfold KV at r ⊢
 induction r with
 | nil=>exact .nil
 | @cons p q ps qs h t ih=>
  rw [List.map_cons,List.map_cons]
  refine .cons ?_ ih
  obtain⟨h1,h2⟩:=h
  by_cases e:p.1=k
  ·rw [if_pos e,if_pos (h1.symm.trans e)];exact⟨h1,ry⟩
  ·rw [if_neg e,if_neg (fun z=>e (h1.trans z))];exact⟨h1,h2⟩
theorem KV.put {aB:List (κ×V)}{vs:List (κ×Value)}(r:KV aB vs) (k:κ){y:V}{u:Value}(ry:RelV y u):KV (putK aB k y) (stored vs k u):=by
 unfold putK stored
 rw [r.any k]
 by_cases e:(vs.any fun kv=>decide (kv.1=k))=true
 ·rw [if_pos e,if_pos e];exact r.xp k ry
 ·rw [if_neg e,if_neg e];exact Paired.snoc r ⟨rfl,ry⟩
theorem KV.length {aB:List (κ×V)}{vs:List (κ×Value)}(r:KV aB vs):aB.length=vs.length:=Paired.length r
end
theorem qZ {P:Program}{w:World}{k:Key}{u:Value}(r:RelV (kV k) u):(fO P w).is k u=true:=by
 cases k with
 | inl i=>obtain⟨t,e⟩:=(show ∃ t,u=Value.int i t from r);subst e;exact nH P w i t
 | inr x=>obtain⟨t,e⟩:=(show ∃ t,u=Value.str x t from r);subst e;exact PB P w x t
theorem E5 {P:Program}{w:World}:∀ {ks:List Key}{us:List Value},Vals (ks.map kV) us->ItemsAre (fO P w) ks us
 |[],_,r=>by rw [List.map_nil] at r;cases r;exact .nil
 | k::ks,_,r=>by
  rw [List.map_cons] at r
  cases r with
  | cons h t=>exact .cons (qZ h) (E5 t)
abbrev KT (H:Hp):List (List Key×V)->List (List Key×Addr×Value)->Prop:=Paired fun p q=>p.1=q.1/\H q.2.1=some (.tup (p.1.map kV))/\RelV p.2 q.2.2
theorem KT.val {H:Hp}{aB:List (List Key×V)}{xs:List (List Key×Addr×Value)}(r:KT H aB xs) (k:List Key):hX (dc aB k) ((atKey xs k).map (·.2)):=by
 induction r with
 | nil=>exact True.intro
 | @cons p q ps qs h t ih=>
  obtain⟨h1,_,h2⟩:=h
  by_cases e:p.1=k
  ·have e':q.1=k:=h1.symm.trans e
   have b:atKey (q::qs) k=some q.2:=by simp [atKey,List.find?_cons,e']
   rw [j8 e,b];exact h2
  ·have e':¬ q.1=k:=fun z=>e (h1.trans z)
   have b:atKey (q::qs) k=atKey qs k:=by simp [atKey,List.find?_cons,e']
   rw [j9 e,b];exact ih
theorem KT.xp {H:Hp}{aB:List (List Key×V)}{xs:List (List Key×Addr×Value)}(r:KT H aB xs) (k:List Key){y:V}{u:Value}(ry:RelV y u) :
  KT H (aB.map fun kv=>if kv.1=k then(kv.1,y) else kv) (xs.map (putAt k u)):=by
 induction r with
 | nil=>exact .nil
 | @cons p q ps qs h t ih=>
  rw [List.map_cons,List.map_cons]
  refine .cons ?_ ih
  obtain⟨h1,h2,h3⟩:=h
  unfold putAt
  by_cases e:p.1=k
  ·rw [if_pos e,if_pos (h1.symm.trans e)];exact⟨h1,h2,ry⟩
  ·rw [if_neg e,if_neg (fun z=>e (h1.trans z))];exact⟨h1,h2,h3⟩
theorem KT.put {H:Hp}{aB:List (List Key×V)}{xs:List (List Key×Addr×Value)}(r:KT H aB xs) (k:List Key){b:Addr}{y:V}{u:Value}(hb:H b=some (.tup (k.map kV))) (ry:RelV y u) :
  KT H (putK aB k y) (storedH xs k b u):=by
 have e:(aB.any fun kv=>decide (kv.1=k))=(atKey xs k).isSome:=by
  rw [sN,(r.val k).Qs,Option.isSome_map]
 unfold putK storedH
 rw [e]
 by_cases q:(atKey xs k).isSome=true
 ·rw [if_pos q,if_pos q];exact r.xp k ry
 ·rw [if_neg q,if_neg q];exact Paired.snoc r ⟨rfl,hb,ry⟩
theorem KT.keeps {H H':Hp}{aB:List (List Key×V)}{xs:List (List Key×Addr×Value)}(r:KT H aB xs) (ht:∀ b ys,H b=some (.tup ys)->H' b=some (.tup ys)):KT H' aB xs:=
 Paired.yw r fun _ _ z=>⟨z.1,ht _ _ z.2.1,z.2.2⟩
section
variable {P:Program}{w:World}{H:Hp}{h:Heap}{a:Addr}
theorem Dr {u:HO}(ok:cP P w H h) (e:Rd H a u):dP P w H h a u:=e.ok ok
theorem vh {aB:List (Key×V)}(ok:cP P w H h) (e:Rd H a (.dK aB)):aB.length<=sizeLine/\(a == sysModules)=false/\∃ vs,KV aB vs/\h.DictOf (fO P w) a vs:=
 show dP P w H h a (.dK aB) from Dr ok e
theorem U7 {aB:List (Key×V)}(ok:cP P w H h) (e:H a=some (.dK aB)):aB.length<=sizeLine/\(a == sysModules)=false/\∃ vs,KV aB vs/\h.DictOf (fO P w) a vs:=vh ok (.inl e)
theorem uC {ks:List Key}(ok:cP P w H h) (e:H a=some (.tup (ks.map kV))):(tupleKind (fO P w)).is h ks a:=by
 obtain⟨_,au,r,o,h1,h2,n,h3⟩:=(show dP P w H h a (.tup (ks.map kV)) from ok a _ e)
 exact⟨o,au.toArray,n,h1,h2,h3,by simpa using E5 r⟩
theorem vg {aB:List (List Key×V)}(ok:cP P w H h) (e:Rd H a (.dT aB)):aB.length<=sizeLine/\(a == sysModules)=false /\
  ∃ xs,KT H aB xs/\h.DictOfH (tupleKind (fO P w)) a xs:=by
 obtain⟨z,y,xs,r,o,es,ep,h1,h2,h3,h4,h5⟩:=(show dP P w H h a (.dT aB) from Dr ok e)
 refine⟨z,y,xs,r,o,es,ep,h1,h2,h3,h4,fun x hx=>?_,h5⟩
 have all:∀ {l:List (List Key×V)}{m:List (List Key×Addr×Value)},KT H l m->∀ x∈m,(tupleKind (fO P w)).is h x.1 x.2.1:=by
  intro l m q
  induction q with
  | nil=>intro x hx;exact nomatch hx
  | @cons p q ps qs hq t ih=>
   intro x hx
   rcases List.mem_cons.mp hx with e | hx
   ·subst e
    exact uC ok (by rw [←hq.1];exact hq.2.1)
   ·exact ih x hx
 exact all r x hx
theorem U4 {aB:List (List Key×V)}(ok:cP P w H h) (e:H a=some (.dT aB)):aB.length<=sizeLine/\(a == sysModules)=false /\
  ∃ xs,KT H aB xs/\h.DictOfH (tupleKind (fO P w)) a xs:=vg ok (.inl e)
end
def iy (H:Hp) (a:Addr) (y:V) (r:Option V):Prop:=
 (∃ aB k,Rd H a (.dK aB)/\y=kV k/\r=dc aB k)\/∃ aB k b,Rd H a (.dT aB)/\y=.ref b/\H b=some (.tup (k.map kV))/\r=dc aB k
def oE (H:Hp) (a:Addr) (y v:V) (H':Hp):Prop:=
 (∃ aB k,H a=some (.dK aB)/\y=kV k/\aB.length<sizeLine/\H'=upd H a (.dK (putK aB k v))) \/
 ∃ aB k b,H a=some (.dT aB)/\y=.ref b/\H b=some (.tup (k.map kV))/\aB.length<sizeLine/\H'=upd H a (.dT (putK aB k v))
theorem iy.k {H:Hp}{a:Addr}{aB:List (Key×V)}{k:Key}(e:H a=some (.dK aB)):iy H a (kV k) (dc aB k):=.inl ⟨aB,k,.inl e,rfl,rfl⟩
theorem oE.k {H:Hp}{a:Addr}{aB:List (Key×V)}{k:Key}{v:V}(e:H a=some (.dK aB)) (hl:aB.length<sizeLine):oE H a (kV k) v (upd H a (.dK (putK aB k v))):=.inl ⟨aB,k,e,rfl,hl,rfl⟩
section
variable {X:Cx}{ab:List (Addr×Obj)}{σ:St}{H:Hp}{s:Shared}{a:Addr}{y v:V}{u r:Value}{o:Option V}{A:Around}{E:Value->Shared->Prop}
theorem Inv.big (I:Inv X ab σ H s):sysModules<s.heap.objs.size:=by
 have h:mainGlobals<s.heap.objs.size:=(I.mod.glob.keeps I.bk).lt
 exact Nat.lt_trans (by decide) h
theorem Hy {h':Heap}{t':Nat}{ob:HO}(I:Inv X ab σ H s) (mu:sv (H a)) (hs:Heap.SameBut a s.heap h') (he:∃ q,h'.get? a=some q) (new:dP X.prog X.w (upd H a ob) h' a ob) :
  Inv X ab σ (upd H a ob) { s with heap:=h',toks:=t' }:=
 I.write (x:=a) (e:=a) mu (.inl rfl) (fun b q hb z=>(hs.2 b hb).trans z) he new
theorem U8 {P:Program}{w:World}{H':Hp}{h':Heap}{aB:List (Key×V)}{vs:List (Key×Value)}(z:aB.length<=sizeLine) (hd:(a == sysModules)=false) (rel:KV aB vs) (dd:h'.DictOf (fO P w) a vs) :
  dP P w H' h' a (.dK aB):=⟨z,hd,vs,rel,dd⟩
theorem Vb {H':Hp}{Q:Unit->Shared->Prop}(hu:A.units+1<cLine) (I:Inv X ab σ H s) (g:oE H a y v H') (ry:RelV y u) (rv:RelV v r) (h:∀ s',Inv X ab σ H' s'->Q () s') :
  wpAny (model X.prog X.w) A (setItem (.ref a) u r) Q E s:=by
 rcases g with ⟨aB,k,e,ey,l,eH⟩ |⟨aB,k,b,e,ey,eb,l,eH⟩
 ·subst ey eH
  obtain⟨z,hd,vs,rel,dd⟩:=U7 I.aU e
  have hz:vs.length<=sizeLine:=by rw [←rel.length];exact z
  have hl:(putK aB k v).length<=sizeLine:=by have:=pA aB k v;omega
  refine wpAny_setItem_pairs (hsz:=hz) (qZ ry) dd fun h' dd' hs=>h _ ?_
  have he:∃ q,h'.get? a=some q:=let ⟨q,_,_,hq,_⟩:=dd';⟨q,hq⟩
  exact Hy I (by rw [e];exact True.intro) hs he (U8 hl hd (rel.put k rv) dd')
 ·subst ey eH
  cases (show u=Value.ref b from ry)
  obtain⟨z,hd,xs,rel,dd⟩:=U4 I.aU e
  have hz:xs.length<=sizeLine:=by rw [←Paired.length rel];exact z
  have hl:(putK aB k v).length<=sizeLine:=by have:=pA aB k v;omega
  refine wpAny_setItem_heap (hsz:=hz) (tupleKind_room_in1 hu) (uC I.aU eb) dd fun h' dd' hs=>h _ ?_
  obtain⟨q,es,ep,hq,h2,h3,h4,_,h5⟩:=dd'
  refine Hy I (by rw [e];exact True.intro) hs ⟨q,hq⟩ ⟨hl,hd,_,(rel.put k eb rv).keeps fun c ys ec=>?_,q,es,ep,hq,h2,h3,h4,h5⟩
  rw [aj (dg ec e (fun z=>nomatch z))]
  exact ec
end
def Md (td ty tv:TE):TS:=fun D σ H=>tv σ H fun v H1=>td σ H1 fun x H2=>ty σ H2 fun y H3=>∃ a H4,x=.ref a/\oE H3 a y v H4/\D.nx σ H4
section
variable {X:Cx}{o i e value:Expr}{pos pos' jy:Pos}{td ty tv:TE}
theorem tV (hu:X.A.units+1<cLine) (ho:PE X o td) (hi:PE X i ty) (hv:PE X value tv) (hs:swapsWith value (some (.Subscript o i pos')) pos.line X.env=pure false) :
  PS X (.Assign [.Subscript o i pos'] value pos) (Md td ty tv):=by
 intro ab s σ H D I h
 refine wpAny_Assign_Subscript (aV (hv ab s σ H _ I h) fun r s1 ⟨v,H1,I1,rv,q1⟩=>aV (ho ab s1 σ H1 _ I1 q1) fun u s2 ⟨x,H2,I2,rx,q2⟩=>aV (hi ab s2 σ H2 _ I2 q2) fun iv s3 ⟨y,H3,I3,ry,a,H4,ex,g,q3⟩=>?_) hs
 subst ex
 obtain rfl:u=Value.ref a:=rx
 exact Vb hu I3 g ry rv fun s4 I4=>⟨σ,H4,I4,q3⟩
end
theorem U9 {P:Program}{w:World}{H:Hp}(h:Heap) (hb:sysModules<h.objs.size):dP P w H (h.push { cls:=.type "dict",data:=.dict #[] }) h.objs.size (.dK []):=
 ⟨Nat.zero_le _,beq_eq_false_iff_ne.mpr (Ne.symm (Nat.ne_of_lt hb)),[],.nil,Heap.DictOf.new h⟩
theorem U5 {P:Program}{w:World}{H:Hp}(h:Heap) (hb:sysModules<h.objs.size):dP P w H (h.push { cls:=.type "dict",data:=.dict #[] }) h.objs.size (.dT []):=
 ⟨Nat.zero_le _,beq_eq_false_iff_ne.mpr (Ne.symm (Nat.ne_of_lt hb)),[],.nil,_,#[],0,Heap.get?_push_size _ rfl,⟨rfl,rfl,rfl⟩,rfl,rfl,List.nodup_nil⟩
def JL:TE:=fun _ H Q=>∀ p,H p=none->Q (.ref p) (upd H p (.dK []))
def JK:TE:=fun _ H Q=>∀ p,H p=none->Q (.ref p) (upd H p (.dT []))
section
variable {X:Cx}{pos:Pos}
theorem xI:PE X (.Dict [] [] pos) JL:=fun ab s σ H Q I h=>
 wpAny_Dict_empty ⟨.ref s.heap.objs.size,_,I.laid (a:=s.heap.objs.size) (o:=.dK []) (t':=s.toks) (fun _ _ q=>Heap.get?_push_of_some _ q) (Nat.le_refl _) (U9 s.heap I.big),rfl,h _ (I.aU.fresh (Nat.le_refl _))⟩
theorem Nd:PE X (.Dict [] [] pos) JK:=fun ab s σ H Q I h=>
 wpAny_Dict_empty ⟨.ref s.heap.objs.size,_,I.laid (a:=s.heap.objs.size) (o:=.dT []) (t':=s.toks) (fun _ _ q=>Heap.get?_push_of_some _ q) (Nat.le_refl _) (U5 s.heap I.big),rfl,h _ (I.aU.fresh (Nat.le_refl _))⟩
end
structure M1 (X:Cx) (o:Expr) (m:Str) (apos:Pos) (e:Expr) (dO:Pos):Prop where
 base:attributeBase o m X.env (eval o X.env)=eval o X.env
 dE:((backTo dO (starEach [e] X.env)).all (fun x=>!x.1)&&(backToKw dO (keywordEach [] X.env)).all (fun x=>x.1.isSome)
  && decide (([e]:List Expr).length+([]:List Keyword).length+(if([]:List Keyword).isEmpty then 0 else 1)<30))=true
 line:(apos.endLine == dO.line)=true
 trees:backTo dO (starEach [e] X.env)=[(false,eval e X.env)]
structure M2 (X:Cx) (o:Expr) (m:Str) (apos:Pos) (e f:Expr) (dO:Pos):Prop where
 base:attributeBase o m X.env (eval o X.env)=eval o X.env
 dE:((backTo dO (starEach [e,f] X.env)).all (fun x=>!x.1)&&(backToKw dO (keywordEach [] X.env)).all (fun x=>x.1.isSome)
  && decide (([e,f]:List Expr).length+([]:List Keyword).length+(if([]:List Keyword).isEmpty then 0 else 1)<30))=true
 line:(apos.endLine == dO.line)=true
 trees:backTo dO (starEach [e,f] X.env)=[(false,eval e X.env),(false,eval f X.env)]
def Aw (H:Hp) (a:Addr):Prop:=(∃ aB,Rd H a (.dK aB))\/∃ aB,Rd H a (.dT aB)
theorem E8 {X:Cx}{ab:List (Addr×Obj)}{σ:St}{H:Hp}{s:Shared}{a:Addr}(I:Inv X ab σ H s) (d:Aw H a) :
  s.TypeIs (.ref a) "dict"/\(∀ b,Value.ref a=.ref b->∃ ob,s.heap.get? b=some ob/\ob.dict=none)/\(a == sysModules)=false:=by
 rcases d with ⟨aB,e⟩ |⟨aB,e⟩
 ·obtain⟨_,hd,vs,_,dd⟩:=vh I.aU e
  refine⟨dd.typeIs,fun b q=>?_,hd⟩
  cases q
  obtain⟨ob,_,_,h1,h2,_⟩:=dd
  exact⟨ob,h1,h2.2.1⟩
 ·obtain⟨_,hd,xs,_,dd⟩:=vg I.aU e
  refine⟨dd.typeIs,fun b q=>?_,hd⟩
  cases q
  obtain⟨ob,_,_,h1,h2,_⟩:=dd
  exact⟨ob,h1,h2.2.1⟩
section
variable {X:Cx}{ab:List (Addr×Obj)}{σ:St}{H:Hp}{s:Shared}{a:Addr}{y d:V}{u r:Value}{o:Option V}{A:Around}{E:Value->Shared->Prop}
theorem Vd {Q:Value->Shared->Prop}(hu:A.units+1<cLine) (I:Inv X ab σ H s) (g:iy H a y o) (ry:RelV y u) (h:∀ w' s',Inv X ab σ H s'->RelV (o.getD .aD) w'->Q w' s') :
  wpAny (model X.prog X.w) A (call (.builtin "dict.get") [.ref a,u]) Q E s:=by
 rcases g with ⟨aB,k,e,ey,l⟩ |⟨aB,k,b,e,ey,eb,l⟩
 ·subst ey
  obtain⟨z,hd,vs,rel,dd⟩:=vh I.aU e
  refine call_meetsIn PySem.F.slot_dict_get dd.typeIs PySem.F.entry_dict_get (PySem.F.args_dict_get_2 _ _) (meets_dict_get (fO X.prog X.w) a (qZ ry) hd) ⟨_,dd.mapOf,h _ _ (I.tok _) ?_⟩
  rw [l]
  exact(rel.val k).getD rfl
 ·subst ey
  cases (show u=Value.ref b from ry)
  obtain⟨z,hd,xs,rel,dd⟩:=vg I.aU e
  refine call_meetsIn PySem.F.slot_dict_get dd.typeIs PySem.F.entry_dict_get (PySem.F.args_dict_get_2 _ _) (meetsH_dict_get (tupleKind (fO X.prog X.w)) a b hd) ⟨tupleKind_room_in1 hu,k,xs,uC I.aU eb,dd,h _ _ (I.tok _) ?_⟩
  rw [l]
  exact(rel.val k).getD rfl
theorem Vc {Q:Value->Shared->Prop}(hu:A.units+1<cLine) (I:Inv X ab σ H s) (g:iy H a y o) (ry:RelV y u) (rd:RelV d r) (h:∀ w' s',Inv X ab σ H s'->RelV (o.getD d) w'->Q w' s') :
  wpAny (model X.prog X.w) A (call (.builtin "dict.get") [.ref a,u,r]) Q E s:=by
 rcases g with ⟨aB,k,e,ey,l⟩ |⟨aB,k,b,e,ey,eb,l⟩
 ·subst ey
  obtain⟨z,hd,vs,rel,dd⟩:=vh I.aU e
  refine call_meetsIn PySem.F.slot_dict_get dd.typeIs PySem.F.entry_dict_get (PySem.F.args_dict_get_3 _ _ _) (meets_dict_get_default (fO X.prog X.w) a (qZ ry) hd r) ⟨_,dd.mapOf,h _ _ (I.tok _) ?_⟩
  rw [l]
  exact(rel.val k).getD rd
 ·subst ey
  cases (show u=Value.ref b from ry)
  obtain⟨z,hd,xs,rel,dd⟩:=vg I.aU e
  refine call_meetsIn PySem.F.slot_dict_get dd.typeIs PySem.F.entry_dict_get (PySem.F.args_dict_get_3 _ _ _) (meetsH_dict_get_default (tupleKind (fO X.prog X.w)) a b hd r) ⟨tupleKind_room_in1 hu,k,xs,uC I.aU eb,dd,h _ _ (I.tok _) ?_⟩
  rw [l]
  exact(rel.val k).getD rd
end
def JN (td ty:TE):TE:=fun σ H Q=>td σ H fun x H1=>∃ a,x=.ref a/\Aw H1 a/\ty σ H1 fun y H2=>∃ o,iy H2 a y o/\Q (o.getD .aD) H2
def JM (td ty tx:TE):TE:=fun σ H Q=>td σ H fun x H1=>∃ a,x=.ref a/\Aw H1 a/\ty σ H1 fun y H2=>tx σ H2 fun z H3=>∃ o,iy H3 a y o/\Q (o.getD z) H3
section
variable {X:Cx}{o e f:Expr}{apos dO:Pos}{td ty tx:TE}
theorem nB (hu:X.A.units+1<cLine) (ho:PE X o td) (he:PE X e ty) (m:M1 X o "get" apos e dO):PE X (.Call (.Attribute o "get" apos) [e] [] dO) (JN td ty):=by
 intro ab s σ H Q I h
 refine wpAny_Call_method m.base m.dE m.line PySem.F.plainAttrs_dict PySem.F.slot_dict_get PySem.F.type_dict_get (aV (ho ab s σ H _ I h) fun u s1 ⟨x,H1,I1,rx,a,ex,d,q1⟩=>?_)
 subst ex
 obtain rfl:u=Value.ref a:=rx
 obtain⟨t1,t2,_⟩:=E8 I1 d
 refine⟨t1,t2,?_⟩
 rw [m.trees]
 refine Calls.callWith_builtin rfl (Calls.evalArgs_plain (Calls.spliced_cons (aV (he ab s1 σ H1 _ I1 q1) fun iv s2 ⟨y,H2,I2,ry,ov,g,q2⟩=>Calls.spliced_nil ?_)))
 exact Vd hu I2 g ry fun w' s3 I3 rw'=>⟨_,H2,I3,rw',q2⟩
theorem xJ (hu:X.A.units+1<cLine) (ho:PE X o td) (he:PE X e ty) (hf:PE X f tx) (m:M2 X o "get" apos e f dO):PE X (.Call (.Attribute o "get" apos) [e,f] [] dO) (JM td ty tx):=by
 intro ab s σ H Q I h
 refine wpAny_Call_method m.base m.dE m.line PySem.F.plainAttrs_dict PySem.F.slot_dict_get PySem.F.type_dict_get (aV (ho ab s σ H _ I h) fun u s1 ⟨x,H1,I1,rx,a,ex,d,q1⟩=>?_)
 subst ex
 obtain rfl:u=Value.ref a:=rx
 obtain⟨t1,t2,_⟩:=E8 I1 d
 refine⟨t1,t2,?_⟩
 rw [m.trees]
 refine Calls.callWith_builtin rfl (Calls.evalArgs_plain (Calls.spliced_cons (aV (he ab s1 σ H1 _ I1 q1) fun iv s2 ⟨y,H2,I2,ry,q2⟩=>
  Calls.spliced_cons (aV (hf ab s2 σ H2 _ I2 q2) fun fv s3 ⟨z,H3,I3,rz,ov,g,q3⟩=>Calls.spliced_nil ?_))))
 exact Vc hu I3 g ry rz fun w' s4 I4 rw'=>⟨_,H3,I4,rw',q3⟩
end
end L2
namespace L2
open PySem PySem.Spec PyProof.Rows
section
variable {X:Cx}{ab:List (Addr×Obj)}{σ:St}{H:Hp}{s:Shared}{h':Heap}
theorem Inv.Ji {t':Nat}{ch:List Addr}(I:Inv X ab σ H s) (k:∀ b o,b ∉ ch->s.heap.get? b=some o->h'.get? b=some o) (hf:∀ b∈ch,j0 X ab H b):Inv X ab σ H { s with heap:=h',toks:=t' }:=by
 have mC:∀ b u,H b=some u->b ∉ ch:=fun b u e z=>by
  have q:=(hf b z).1
  rw [q] at e;cases e
 refine I.step (g':=s.gens) (d':=s.drawn) (ch:=ch) (fun b hb=>⟨(hf b hb).2.2.2.1,(hf b hb).2.1,(hf b hb).2.2.2.2.1,(hf b hb).2.2.2.2.2⟩) (fun b o _ _ hc e _=>k b o hc e) (fun b o _ _ hc e _=>⟨o.slots,k b o hc e⟩)
  (fun _ _ _ _ n=>n) (fun b o hc e=>⟨o,k b o hc e⟩) (fun _ _ e=>e) (fun _ _ _ e=>e) (fun b ps e=>⟨#[],by rw [e];simp⟩) (fun m hm=>?_) (fun b u e=>?_) I.bare
 ·obtain⟨o,es,ep,ho,r⟩:=hm
  exact⟨o,es,ep,k _ o (fun z=>(hf _ z).2.1 rfl) ho,r⟩
 ·refine(I.aU b u e).cI (fun c v hc q=>k c v ?_ q) (fun _ q=>q) fun _ _ q=>q
  rcases hc with z | z
  ·rw [z];exact mC b u e
  ·exact mC c _ z
theorem Inv.AN {t':Nat}{ch:List Addr}{T:Addr}{ob:HO}(I:Inv X ab σ H s) (k:∀ b o,b ∉ ch->s.heap.get? b=some o->h'.get? b=some o) (hf:∀ b∈ch,j0 X ab H b) (hT:s.heap.objs.size<=T)
  (new:dP X.prog X.w (upd H T ob) h' T ob):Inv X ab σ (upd H T ob) { s with heap:=h',toks:=t' }:=by
 have hn:H T=none:=I.aU.fresh hT
 have mC:∀ b u,H b=some u->b ∉ ch:=fun b u e z=>by
  have q:=(hf b z).1
  rw [q] at e;cases e
 refine I.step (g':=s.gens) (d':=s.drawn) (ch:=ch) (fun b hb=>⟨(hf b hb).2.2.2.1,(hf b hb).2.1,(hf b hb).2.2.2.2.1,(hf b hb).2.2.2.2.2⟩) (fun b o _ _ hc e _=>k b o hc e) (fun b o _ _ hc e _=>⟨o.slots,k b o hc e⟩)
  (fun b o _ e n=>?_) (fun b o hc e=>⟨o,k b o hc e⟩) (fun b xs e=>?_) (fun b o u e=>?_) (fun b ps e=>⟨#[],?_⟩) (fun m hm=>?_) (fun b u e=>?_) I.bare
 ·rw [aj (Nat.ne_of_lt (Nat.lt_of_lt_of_le (Heap.lt_size e) hT))];exact n
 ·rw [aj (aP e hn)];exact e
 ·rw [aj (aP e hn)];exact e
 ·rw [aj (aP e hn),e];simp
 ·obtain⟨o,es,ep,ho,r⟩:=hm
  exact⟨o,es,ep,k _ o (fun z=>(hf _ z).2.1 rfl) ho,r⟩
 ·by_cases hb:b=T
  ·subst hb
   rw [af] at e
   cases e
   exact new
  ·rw [aj hb] at e
   refine(I.aU b u e).cI (fun c v hc q=>k c v ?_ q) (fun c q=>by rw [aj (aP q hn)];exact q) fun c xs q=>by rw [aj (aP q hn)];exact q
   rcases hc with z | z
   ·rw [z];exact mC b u e
   ·exact mC c _ z
end
section
variable {X:Cx}
theorem MY {tg:Expr}{ab:List (Addr×Obj)}{σ:St}{H:Hp}{s:Shared}{R:It->Hp->Prop}{J:It}{tn:Nat->Heap->Prop}{tk:Nat}(I:Inv X ab σ H s) (o:Obj)
  (T:Turn X.prog X.w X.K tg J [s.heap.objs.size] s.heap.objs.size tn) (st:tn 0 (s.heap.push o)) (q:R J H):Ar X ab σ tg R (.ref s.heap.objs.size) { s with heap:=s.heap.push o,toks:=tk }:=by
 refine⟨s.heap.objs.size,[s.heap.objs.size],tn,J,H,rfl,I.kept fun b ob e=>Heap.get?_push_of_some _ e,T,st,fun b hb=>?_,q⟩
 have e:b=s.heap.objs.size:=by simpa using hb
 subst e
 exact I.nZ (Nat.le_refl _) (I.aU.fresh (Nat.le_refl _))
end
def sC (lo c:Int) (n:Nat):It:=⟨fun i _=>i<n,fun i H x H'=>H'=H/\x=.int (lo+(i:Nat)*c),fun i _=>n<=i⟩
theorem Jl {P:Program}{w:World}{K:PySem.W.Frag}{tg:Expr}(it:Addr) (lo c:Int) (n:Nat):Turn P w K tg (sC lo c n) [it] it (fun i h=>IsRangeIter h it (lo+(i:Nat)*c) ((n:Int)-(i:Nat)) c) where
 mem:=by simp
 obj:=fun i h st b hb=>by
  have e:b=it:=by simpa using hb
  subst e
  exact⟨_,st,fun v z=>nomatch z⟩
 keep:=fun i h h' st k=>k it (by simp) _ st
 item:=by
  intro X hP hw hK hc i ab s σ H E I hf st hg
  subst hP hw hK
  obtain⟨f0,f1,f2,f3,f4,f5⟩:=hf it (by simp)
  have W:=Walks.range (prog:=X.prog) (w:=X.w) (I.ok.hd hc) it lo c n
  refine W.item i s _ _ hg st fun v h' tk hv st' kk=>?_
  obtain⟨t,rfl⟩:=hv
  have I1:Inv X ab σ H { s with heap:=h',toks:=tk }:=I.turned (fun b o hb e=>kk b o (by simpa using hb) e) f0 f1 f3 f4 f5
  exact⟨_,rfl,u0 (s:={ s with heap:=h',toks:=tk }) (n:="range_iterator") st' rfl rfl (by decide) ⟨.int (lo+(i:Nat)*c),H,I1,⟨t,rfl⟩,⟨rfl,rfl⟩,st',fun b hb=>(hf b hb).1⟩⟩
 done:=by
  intro X hP hw hK hc i ab s σ H E I hf st hg
  subst hP hw hK
  obtain⟨f0,f1,f2,f3,f4,f5⟩:=hf it (by simp)
  exact wpAny_pyNext_range_end (I.ok.hd hc) st (by have:n<=i:=hg;omega) fun h' eb=>⟨rfl,I.turned (t':=s.toks) (fun b o hb e=>eb b o hb e) f0 f1 f3 f4 f5⟩
 self:=fun A i s Q E st h=>wpAny_pyIter_rangeiter st h
def Iy (i j c:Int) (n:Nat):Prop:=c≠0/\c.natAbs<1073741824/\Builtin.Range.small i j c=true/\Builtin.Range.rangeSize i j c=n
def Qz (ta:TA):TI:=fun σ H R=>ta σ H fun vs H1=>∃(i j c:Int) (n:Nat),vs=[.int i,.int j,.int c]/\Iy i j c n/\R (sC i c n) H1
section
variable {X:Cx}{tg:Expr}
theorem DK {a b c:Expr}{ta:TA}{p pos:Pos}(hg:Gl X "range") (hm:X.mg "range" = none) (ha:PA X [a,b,c] ta)
  (hs:starEach [a,b,c] X.env=(false,eval a X.env)::starEach [b,c] X.env:=by rfl) (dh:(backTo pos (starEach [b,c] X.env)).any (·.1)=false:=by rfl) :
  PI X tg (.Call (.Name "range" p) [a,b,c] [] pos) (Qz ta):=by
 intro ab s σ H R I h
 refine Call_ (pE I hg hm boot_range (PyProof.Rows.callWith_type1 (aV (ha pos ab s σ H _ I h) fun us s1 ⟨vs,H1,I1,r1,q1⟩=>?_) hs dh))
 obtain⟨i,j,k,n,e,⟨c0,c1,c2,c3⟩,q⟩:=q1
 subst e
 cases r1 with
 | cons r rr=>
  cases rr with
  | cons r' rr=>
   cases rr with
   | cons r'' rr=>
    cases rr
    obtain⟨t,rfl⟩:=r
    obtain⟨t',rfl⟩:=r'
    obtain⟨t'',rfl⟩:=r''
    refine call_range_3 c0 ?_ (.inl (PyProof.noPylong_small c1))
    refine wpAny_pyIter_range (IsRange.new ..) c2 ?_
    have I2:Inv X ab σ H1 { s1 with heap:=s1.heap.push { cls:=.type "range",data:=.fields #[.int i t,.int j t',.int k t''] } }:=I1.kept (t':=s1.toks) fun b o e=>Heap.get?_push_of_some _ e
    refine MY (tk:=s1.toks) I2 _ (Jl _ i k n) ?_ q
    have e1:i+((0:Nat):Int)*k=i:=by simp
    have e2:(n:Int)-((0:Nat):Int)=Builtin.Range.rangeSize i j k:=by rw [c3];simp
    show IsRangeIter _ _ (i+((0:Nat):Int)*k) ((n:Int)-((0:Nat):Int)) k
    rw [e1,e2]
    exact Heap.get?_push_size _ rfl
end
theorem GJ {lo c:Int}{n:Nat}{g:TG}{tb:TS}{D:Ends}{σ:St}{H:Hp}(Pv:Nat->St->Hp->Prop) (h0:Pv 0 σ H)
  (hs:∀ i σ H,i<n->Pv i σ H->g (.int (lo+(i:Nat)*c)) σ H fun σ2 H2=>tb { D with nx:=Pv (i+1),ct:=Pv (i+1),bk:=D.nx } σ2 H2) (hd:∀ σ H,Pv n σ H->D.nx σ H) :
  ∃ W:Nat->Nat->St->Hp->Prop,(∃ m,W 0 m σ H)/\∀ i m σ H,W i m σ H->
   ((sC lo c n).stop i H/\D.nx σ H)\/((sC lo c n).go i H/\∃ N:St->Hp->Prop,(∀ σ' H',N σ' H'->∃ m',m'<m/\W (i+1) m' σ' H')/\∀ x H',(sC lo c n).jx i H x H'->g x σ H' fun σ2 H2=>tb { D with nx:=N,ct:=N,bk:=D.nx } σ2 H2):=by
 refine⟨fun i m σ H=>m=n-i/\i<=n/\Pv i σ H,⟨n,by simp,Nat.zero_le _,h0⟩,?_⟩
 rintro i m σ H ⟨rfl,hi,p⟩
 by_cases bR:i<n
 ·refine .inr ⟨bR,Pv (i+1),fun σ' H' p'=>⟨n-(i+1),by omega,rfl,bR,p'⟩,fun x H' y=>?_⟩
  obtain⟨e,y⟩:=y
  subst e y
  exact hs i σ _ bR p
 ·have e:i=n:=by omega
  subst e
  exact .inl ⟨Nat.le_refl _,hd σ H p⟩
def sA (K:PySem.W.Frag) (a:Addr):It:=
 ⟨fun i H=>∃(xs:List V) (x:V),ai K H a xs/\xs[i]? = some x,fun i H v H'=>∃ T x,v=.ref T/\H T=none/\H'=upd H T (.tup [.int (i:Nat),x])/\∀ xs,ai K H a xs->xs[i]? = some x,fun i H=>∃ xs:List V,ai K H a xs/\xs.length<=i⟩
theorem Jo {P:Program}{w:World}{K:PySem.W.Frag}{elts:List Expr}{kk:Nat}{jy:Pos}(a e it:Addr) :
  Turn P w K (.Tuple elts kk jy) (sA K a) [e,it] e (fun i h=>(∃ old,IsEnum h e it ((i:Nat):Int) old)/\h.IsListIter it a i/\e≠it) where
 mem:=by simp
 obj:=fun i h st b hb=>by
  obtain⟨⟨old,he⟩,⟨o,ho,hc,hd⟩,_⟩:=st
  have e':b=e\/b=it:=by simpa using hb
  rcases e' with z | z
  ·rw [z];exact⟨_,he,fun v q=>nomatch q⟩
  ·rw [z];exact⟨o,ho,fun v q=>by rw [hd] at q;cases q⟩
 keep:=fun i h h' st k=>let ⟨⟨old,he⟩,hi,dw⟩:=st;⟨⟨old,k e (by simp) _ he⟩,hi.at fun o q=>k it (by simp) o q,dw⟩
 item:=by
  intro X hP hw hK hc i ab s σ H E I hf st hg
  subst hP hw hK
  obtain⟨⟨old,he⟩,hit,dw⟩:=st
  obtain⟨xs,x,hq,hx⟩:=hg
  obtain⟨au,rv,p,hz⟩:=I.list hq
  obtain⟨u,hu,ru⟩:=rv.get hx
  have pX:e<s.heap.objs.size:=Heap.lt_size he
  have zh:it<s.heap.objs.size:=by obtain⟨_,q,_⟩:=hit;exact Heap.lt_size q
  refine wpAny_pyNext_enum_item he hit p.isList (x:=u) (by simpa using hu) dw fun h' ho hit' hT hsz hk=>?_
  refine⟨_,rfl,wpAny_letOwnedTupleGo_enum (s:={ s with heap:=h',toks:=s.toks+1 }) ho fun h'' he' sb=>?_⟩
  have zu:h''.get? s.heap.objs.size=some { cls:=.type "tuple",data:=.seq #[.int i s.toks,u] }:=(sb.2 _ (Nat.ne_of_gt pX)).trans hT
  have new:dP X.prog X.w (upd H s.heap.objs.size (.tup [.int (i:Nat),x])) h'' s.heap.objs.size (.tup [.int (i:Nat),x]):=
   ⟨by show 2<=sizeLine;decide,[.int i s.toks,u],.cons ⟨_,rfl⟩ (.cons ru .nil),⟨_,zu,rfl,_,rfl⟩⟩
  have I1:Inv X ab σ (upd H s.heap.objs.size (.tup [.int (i:Nat),x])) { s with heap:=h'',toks:=s.toks+1 }:=
   I.AN (ch:=[e,it]) (fun b ob hb q=>(sb.2 b (fun z=>hb (by simp [z]))).trans (hk b ob (fun z=>hb (by simp [z])) (fun z=>hb (by simp [z])) q)) hf (Nat.le_refl _) new
  refine⟨.ref s.heap.objs.size,_,I1,rfl,⟨_,x,rfl,I.aU.fresh (Nat.le_refl _),rfl,fun ys hy=>by rw [I.uy hy hq];exact hx⟩,⟨⟨u,?_⟩,hit'.at fun o q=>(sb.2 it (Ne.symm dw)).trans q,dw⟩,fun b hb=>?_⟩
  ·have e1:((i+1:Nat):Int)=(i:Int)+1:=by omega
   rw [e1];exact he'
  ·have hb':b<s.heap.objs.size:=by
    have e':b=e\/b=it:=by simpa using hb
    rcases e' with z | z
    ·rw [z];exact pX
    ·rw [z];exact zh
   rw [aj (Nat.ne_of_lt hb')]
   exact(hf b hb).1
 done:=by
  intro X hP hw hK hc i ab s σ H E I hf st hg
  subst hP hw hK
  obtain⟨⟨old,he⟩,hit,dw⟩:=st
  obtain⟨xs,hq,hx⟩:=hg
  obtain⟨au,rv,p,hz⟩:=I.list hq
  obtain⟨f0,f1,f2,f3,f4,f5⟩:=hf it (by simp)
  have hl:=rv.length
  exact wpAny_pyNext_enum_end (I.ok.hd hc) he hit p.isList (by simp;omega) fun h' eb=>⟨rfl,I.turned (t':=s.toks) (fun b o hb q=>eb b o hb q) f0 f1 f3 f4 f5⟩
 self:=fun A i s Q E st h=>let ⟨⟨_,he⟩,_⟩:=st;wpAny_pyIter_enum he h
def QB (K:PySem.W.Frag) (ta:TA):TI:=fun σ H R=>ta σ H fun vs H1=>∃ a xs,vs=[.ref a]/\ai K H1 a xs/\R (sA K a) H1
theorem MZ {X:Cx}{e:Expr}{ta:TA}{p pos jy:Pos}{elts:List Expr}{kk:Nat}(hg:Gl X "enumerate") (hm:X.mg "enumerate" = none) (ha:PA X [e] ta) (hs:starEach [e] X.env=[(false,eval e X.env)]:=by rfl) :
  PI X (.Tuple elts kk jy) (.Call (.Name "enumerate" p) [e] [] pos) (QB X.K ta):=by
 intro ab s σ H R I h
 refine Call_ (pE I hg hm boot_enumerate (PyProof.Rows.callWith_type1 (aV (ha pos ab s σ H _ I h) fun us s1 ⟨vs,H1,I1,r1,q1⟩=>?_) hs rfl))
 obtain⟨a,xs,ex,hq,q⟩:=q1
 subst ex
 cases r1 with
 | cons r rr=>
  cases rr
  cases r
  obtain⟨au,rv,p',hz⟩:=I1.list hq
  refine call_enumerate_list p'.isList fun h' he hit hsz hk=>wpAny_pyIter_enum he ?_
  have I2:Inv X ab σ H1 { s1 with heap:=h' }:=I1.kept (t':=s1.toks) hk
  refine⟨s1.heap.objs.size+1,[s1.heap.objs.size+1,s1.heap.objs.size],_,_,H1,rfl,I2,Jo a (s1.heap.objs.size+1) s1.heap.objs.size,⟨⟨.none,he⟩,hit,Nat.succ_ne_self _⟩,fun b hb=>?_,q⟩
  have e':b=s1.heap.objs.size+1\/b=s1.heap.objs.size:=by simpa using hb
  have hle:s1.heap.objs.size<=b:=by
   rcases e' with z | z
   ·rw [z];exact Nat.le_add_right _ _
   ·rw [z];exact Nat.le_refl _
  exact I1.nZ hle (I1.aU.fresh hle)
theorem VV:bootBuiltins "zip" = some (.type "zip"):=by decide +kernel
def mX (K:PySem.W.Frag) (a b:Addr):It:=
 ⟨fun i H=>∃(xs ys:List V) (x y:V),ai K H a xs/\ai K H b ys/\xs[i]? = some x/\ys[i]? = some y,
  fun i H v H'=>∃ T x y,v=.ref T/\H T=none/\H'=upd H T (.tup [x,y])/\(∀ xs,ai K H a xs->xs[i]? = some x)/\∀ ys,ai K H b ys->ys[i]? = some y,
  fun i H=>∃ xs ys:List V,ai K H a xs/\ai K H b ys/\(xs.length<=i\/ys.length<=i)⟩
theorem Jj {P:Program}{w:World}{K:PySem.W.Frag}{elts:List Expr}{kk:Nat}{jy:Pos}{a b z TI TO i1 i2:Addr}(D:ZipApart z TI TO i1 i2 a b) :
  Turn P w K (.Tuple elts kk jy) (mX K a b) [z,TI,TO,i1,i2] z (fun i h=>IsZip h z TI TO .none/\IsPair h TI (.ref i1) (.ref i2)/\(∃ x y,IsPair h TO x y)/\h.IsListIter i1 a i/\h.IsListIter i2 b i) where
 mem:=by simp
 obj:=fun i h st c hc=>by
  obtain⟨hz,kC,⟨x,y,k9⟩,⟨o1,e1,_,d1⟩,⟨o2,e2,_,d2⟩⟩:=st
  have e':c=z\/c=TI\/c=TO\/c=i1\/c=i2:=by simpa using hc
  rcases e' with q | q | q | q | q
  ·rw [q];exact⟨_,hz,fun v q=>nomatch q⟩
  ·rw [q];exact⟨_,kC,fun v q=>nomatch q⟩
  ·rw [q];exact⟨_,k9,fun v q=>nomatch q⟩
  ·rw [q];exact⟨o1,e1,fun v q=>by rw [d1] at q;cases q⟩
  ·rw [q];exact⟨o2,e2,fun v q=>by rw [d2] at q;cases q⟩
 keep:=fun i h h' st k=>by
  obtain⟨hz,kC,⟨x,y,k9⟩,h1,h2⟩:=st
  exact⟨k z (by simp) _ hz,k TI (by simp) _ kC,⟨x,y,k TO (by simp) _ k9⟩,h1.at fun o q=>k i1 (by simp) o q,h2.at fun o q=>k i2 (by simp) o q⟩
 item:=by
  intro X hP hw hK hc i ab s σ H E I hf st hg
  subst hP hw hK
  obtain⟨hz,kC,⟨x0,y0,k9⟩,h1,h2⟩:=st
  obtain⟨xs,ys,x,y,pR,pQ,hx,hy⟩:=hg
  obtain⟨au,rv,p,_⟩:=I.list pR
  obtain⟨km,tN,p2,_⟩:=I.list pQ
  obtain⟨u,hu,ru⟩:=rv.get hx
  obtain⟨u2,QJ,Me⟩:=tN.get hy
  have Fc:z<s.heap.objs.size:=Heap.lt_size hz
  refine wpAny_pyNext_zip_item D hz kC k9 h1 h2 p.isList p2.isList (x:=u) (y:=u2) (by simpa using hu) (by simpa using QJ) fun h' z' TO' h1' h2' hT hsz hk=>?_
  refine⟨_,rfl,wpAny_letOwnedTupleGo_zip (s:={ s with heap:=h' }) z' fun h'' z'' sb=>?_⟩
  have zu:h''.get? s.heap.objs.size=some { cls:=.type "tuple",data:=.seq #[u,u2] }:=(sb.2 _ (Nat.ne_of_gt Fc)).trans hT
  have new:dP X.prog X.w (upd H s.heap.objs.size (.tup [x,y])) h'' s.heap.objs.size (.tup [x,y]):=
   ⟨by show 2<=sizeLine;decide,[u,u2],.cons ru (.cons Me .nil),⟨_,zu,rfl,_,rfl⟩⟩
  have I1:Inv X ab σ (upd H s.heap.objs.size (.tup [x,y])) { s with heap:=h'' }:=
   I.AN (t':=s.toks) (ch:=[z,TI,TO,i1,i2]) (fun c o hb q=>(sb.2 c (fun q'=>hb (by simp [q']))).trans (hk c o (fun q'=>hb (by simp [q'])) (fun q'=>hb (by simp [q'])) (fun q'=>hb (by simp [q'])) (fun q'=>hb (by simp [q'])) q)) hf (Nat.le_refl _) new
  refine⟨.ref s.heap.objs.size,_,I1,rfl,⟨_,x,y,rfl,I.aU.fresh (Nat.le_refl _),rfl,fun l hl=>by rw [I.uy hl pR];exact hx,fun l hl=>by rw [I.uy hl pQ];exact hy⟩,⟨z'',?_,⟨u,u2,?_⟩,?_,?_⟩,fun c uT=>?_⟩
  ·exact(sb.2 _ D.TIz).trans (hk _ _ D.TIz D.TITO D.TIi1 D.TIi2 kC)
  ·exact(sb.2 _ D.TOz).trans TO'
  ·exact h1'.at fun o q=>(sb.2 _ D.i1z).trans q
  ·exact h2'.at fun o q=>(sb.2 _ D.i2z).trans q
  ·have bR:c<s.heap.objs.size:=by
    have e':c=z\/c=TI\/c=TO\/c=i1\/c=i2:=by simpa using uT
    rcases e' with q | q | q | q | q
    ·rw [q];exact Fc
    ·rw [q];exact Heap.lt_size kC
    ·rw [q];exact Heap.lt_size k9
    ·rw [q];obtain⟨_,e1,_⟩:=h1;exact Heap.lt_size e1
    ·rw [q];obtain⟨_,e2,_⟩:=h2;exact Heap.lt_size e2
   rw [aj (Nat.ne_of_lt bR)]
   exact(hf c uT).1
 done:=by
  intro X hP hw hK hc i ab s σ H E I hf st hg
  subst hP hw hK
  obtain⟨hz,kC,⟨x0,y0,k9⟩,h1,h2⟩:=st
  obtain⟨xs,ys,pR,pQ,RD⟩:=hg
  obtain⟨au,rv,p,_⟩:=I.list pR
  obtain⟨km,tN,p2,_⟩:=I.list pQ
  have l1:=rv.length
  have l2:=tN.length
  have he:au.toArray[i]? = none\/km.toArray[i]? = none:=by
   rcases RD with q | q
   ·exact .inl (by simp;omega)
   ·exact .inr (by simp;omega)
  exact wpAny_pyNext_zip_end (I.ok.hd hc) D hz kC k9 h1 h2 p.isList p2.isList he fun h' hk=>⟨rfl,I.Ji (t':=s.toks) (ch:=[z,TI,TO,i1,i2]) (fun c o hb q=>
   hk c o (fun q'=>hb (by simp [q'])) (fun q'=>hb (by simp [q'])) (fun q'=>hb (by simp [q'])) (fun q'=>hb (by simp [q'])) q) hf⟩
 self:=fun A i s Q E st h=>wpAny_pyIter_zip st.1 h
def Qx (K:PySem.W.Frag) (ta:TA):TI:=fun σ H R=>ta σ H fun vs H1=>∃ a b xs ys,vs=[.ref a,.ref b]/\ai K H1 a xs/\ai K H1 b ys/\R (mX K a b) H1
theorem nA {X:Cx}{e e2:Expr}{ta:TA}{p pos jy:Pos}{elts:List Expr}{kk:Nat}(hg:Gl X "zip") (hm:X.mg "zip" = none) (ha:PA X [e,e2] ta)
  (hs:starEach [e,e2] X.env=(false,eval e X.env)::starEach [e2] X.env:=by rfl) (dh:(backTo pos (starEach [e2] X.env)).any (·.1)=false:=by rfl) :
  PI X (.Tuple elts kk jy) (.Call (.Name "zip" p) [e,e2] [] pos) (Qx X.K ta):=by
 intro ab s σ H R I h
 refine Call_ (pE I hg hm VV (PyProof.Rows.callWith_type1 (aV (ha pos ab s σ H _ I h) fun us s1 ⟨vs,H1,I1,r1,q1⟩=>?_) hs dh))
 obtain⟨a,b,xs,ys,ex,pR,pQ,q⟩:=q1
 subst ex
 cases r1 with
 | cons r rr=>
  cases rr with
  | cons r' rr=>
   cases rr
   cases r
   cases r'
   obtain⟨au,rv,p1,_⟩:=I1.list pR
   obtain⟨km,tN,p2,_⟩:=I1.list pQ
   have la:a<s1.heap.objs.size:=p1.lt
   have lb:b<s1.heap.objs.size:=p2.lt
   refine call_zip_2 p1.isList p2.isList fun h' hz kC k9 h1 h2 hsz hk=>wpAny_pyIter_zip hz ?_
   have I2:Inv X ab σ H1 { s1 with heap:=h' }:=I1.kept (t':=s1.toks) hk
   refine⟨s1.heap.objs.size+4,[s1.heap.objs.size+4,s1.heap.objs.size+2,s1.heap.objs.size+3,s1.heap.objs.size,s1.heap.objs.size+1],_,_,H1,rfl,I2,Jj (PySem.W.ktu_apart s1.heap.objs.size a b la lb),⟨hz,kC,⟨_,_,k9⟩,h1,h2⟩,fun c uT=>?_,q⟩
   have e':c=s1.heap.objs.size+4\/c=s1.heap.objs.size+2\/c=s1.heap.objs.size+3\/c=s1.heap.objs.size\/c=s1.heap.objs.size+1:=by simpa using uT
   have hle:s1.heap.objs.size<=c:=by
    rcases e' with z | z | z | z | z
    ·rw [z];exact Nat.le_add_right _ _
    ·rw [z];exact Nat.le_add_right _ _
    ·rw [z];exact Nat.le_add_right _ _
    ·rw [z];exact Nat.le_refl _
    ·rw [z];exact Nat.le_add_right _ _
   exact I1.nZ hle (I1.aU.fresh hle)
end L2
namespace L2
open PySem PySem.Spec PyProof.Rows
def inClass (s:Stmt) (j:Nat):Stmt:=match s with
 | .ClassDef _ _ _ body _ _ _ _ _ _ _=>body.getD j (.Pass ⟨0,0,0,0⟩)
 |_=>.Pass ⟨0,0,0,0⟩
def jq (s:Stmt):Arguments:=match s with
 | .FunctionDef _ a _ _ _ _ _ _ _ _=>a
 |_=>{ posonlyargs:=[],args:=[],vararg:=none,kwonlyargs:=[],kw_defaults:=[],kwarg:=none,defaults:=[] }
def fE (s:Stmt):List Stmt:=match s with
 | .FunctionDef _ _ b _ _ _ _ _ _ _=>b
 |_=>[]
def aC (s:Stmt):Scope:=match s with
 | .FunctionDef _ _ _ _ _ _ sc _ _ _=>sc
 |_=>{ kind:=.function,names:=[],isGenerator:=false,isCoroutine:=false }
abbrev iz:j5:=fun _ _ _ _ _ _=>False
abbrev E0:XK:=fun _ _ _=>False
theorem nF {X:Cx}:Passes iz X E0:=fun _ _ _ _ _ _ _ h=>h.elim
structure l6 (K:PySem.W.Frag) (x qual:Str) (st:Stmt) (f:Addr) (fd:FuncData):Prop where
 ex:∃(oc:Value) (od:Option Addr) (kV doc pm:Value) (an:Option Addr) (aw ct:Value) (eN:Array (Option Value)),
  fd=PySem.W.fnOf x qual (jq st) (fE st) (aC st) .none kV doc pm an aw ct/\K.lookup f=some ⟨oc,od,.func fd,eN⟩/\PySem.W.codeIn K aw qual=true
 kp:PySem.W.keepIn K (.ref f)=true
section
variable {P:Program}{w:World}{K:PySem.W.Frag}{mg:Str->Option Value}{base:Heap}
theorem l6.ok {x qual:Str}{st:Stmt}{f:Addr}{fd:FuncData}{N ps:List Str}{k:Nat}{sp:Sp}(F:l6 K x qual st f fd) (S:aN N ps (aC st)) (len:∀ vs H Q E,sp vs H Q E->vs.length=ps.length)
  (il:∀(aw:Value) (A:Around) (aA:List Env) (s:Shared) (H:Hp) (vs:List V) (Q:VK) (E:XK),cA k (A.deeper (envOfC qual (aC st) s.heap.objs.size f aw))->sp vs H Q E->
   ∃ t,fV (jY iz P w K mg base N qual (aC st) f aw A aA s H E).kS (fE st) t/\t { nx:=fun _ H'=>Q .aD H',rt:=Q } (start N vs) H):fc P w K mg base iz (k+1) f fd ps sp:=by
 obtain⟨oc,od,kV,doc,pm,an,aw,ct,eN,rfl,lk,kz⟩:=F.ex
 refine SD lk kz S len fun A aA s H vs Q E hr k5=>?_
 obtain⟨t,h,q⟩:=il aw A aA s H vs Q E hr k5
 exact⟨t,h.kS,q⟩
theorem l6.binds {x qual:Str}{st:Stmt}{f:Addr}{fd:FuncData}{ps:List Str}(F:l6 K x qual st f fd)
  (h:∀(kV doc pm:Value) (an:Option Addr) (aw ct:Value) (us:List Value),us.length=ps.length->bindArgs (PySem.W.fnOf x qual (jq st) (fE st) (aC st) .none kV doc pm an aw ct) ⟨us,[]⟩=pure (ps.zip us)):Binds K fd ps []:=by
 obtain⟨oc,od,kV,doc,pm,an,aw,ct,eN,rfl,lk,kz⟩:=F.ex
 exact .all (h kV doc pm an aw ct)
theorem zH {x qual:Str}{st:Stmt}{f:Addr}{oc:Value}{od an:Option Addr}{eN:Array (Option Value)}{kV doc pm aw ct:Value}(l:K.lookup f=some ⟨oc,od,.func (PySem.W.fnOf x qual (jq st) (fE st) (aC st) .none kV doc pm an aw ct),eN⟩)
  (c:PySem.W.codeIn K aw qual=true) (k:PySem.W.keepIn K (.ref f)=true):l6 K x qual st f (PySem.W.fnOf x qual (jq st) (fE st) (aC st) .none kV doc pm an aw ct):=⟨⟨oc,od,kV,doc,pm,an,aw,ct,eN,rfl,l,c⟩,k⟩
end
theorem gU {A:Around}{k:Nat}(hr:cA k A):A.units+1<cLine:=Nat.lt_of_le_of_lt (Nat.add_le_add_left (by decide:1<=64) _) hr.units
section
variable {X:Cx}
theorem pv (i:Nat){x:Str}{pos:Pos}(hN:X.N[i]? = some x:=by rfl) (hv:oy X.env.scope x:=by first | exact Or.inl rfl | exact Or.inr (Or.inl rfl) | exact Or.inr (Or.inr rfl)) (hd:(x == ("__debug__":Str))=false:=by decide)
  (kz:(x == ("__classdict__":Str))=false:=by decide):PE X (.Name x pos) (bV i):=M5 hN hv hd kz
end
theorem aI {A B:Prop}(h:B):if false=true then A else B:=by
 rw [if_neg Bool.false_ne_true]
 exact h
theorem aH {A B:Prop}(h:A):if true=true then A else B:=by
 rw [if_pos rfl]
 exact h
theorem gT {c A B:Prop} [Decidable c] (h1:c->A) (h2:¬ c->B):if c then A else B:=by
 by_cases h:c
 ·rw [if_pos h]
  exact h1 h
 ·rw [if_neg h]
  exact h2 h
def aJ (H H':Hp):Prop:=∀ b o,H b=some o->H' b=some o
theorem aJ.refl (H:Hp):aJ H H:=fun _ _ h=>h
theorem aJ.trans {H H1 H2:Hp}(a:aJ H H1) (b:aJ H1 H2):aJ H H2:=fun c o h=>b c o (a c o h)
theorem aJ.free {H H':Hp}(e:aJ H H'){l:Addr}(h:H' l=Option.none):H l=Option.none:=by
 cases q:H l with
 | none=>rfl
 | some o=>
  rw [e l o q] at h
  cases h
theorem aJ.seq {K:PySem.W.Frag}{H H':Hp}{a:Addr}{xs:List V}(e:aJ H H') (h:ai K H a xs):ai K H' a xs:=by
 rcases h with (h |⟨o,h⟩) | h
 ·exact .inl (.inl (e _ _ h))
 ·exact .inl (.inr ⟨o,e _ _ h⟩)
 ·exact .inr h
theorem O7 {α:Type}{l:List α}(hN:l.Nodup){i j:Nat}{x:α}(a:l[i]? = some x) (b:l[j]? = some x):i=j:=by
 obtain⟨h1,e1⟩:=List.getElem?_eq_some_iff.mp a
 obtain⟨h2,e2⟩:=List.getElem?_eq_some_iff.mp b
 exact(List.getElem_inj hN).mp (e1.trans e2.symm)
end L2
end
section
set_option linter.all false
set_option maxRecDepth 100000
set_option maxHeartbeats 4000000
section
namespace L2
open PySem PySem.Spec PyProof.Rows
open PySem.W (WData Codec OpenSpec Well WellAll ReadsW ReadsAllW)
mutual
inductive Dw (K:PySem.W.Frag) (H:Hp):V->WData->Prop
 | aD:Dw K H .aD .none
 | bl (b:Bool):Dw K H (.bl b) (.bool b)
 | int (i:Int):Dw K H (.int i) (.int i)
 | str (x:Str):Dw K H (.str x) (.str x)
 | hG (b:Array UInt8):Dw K H (.hG b) (.bytes b.toList)
 | lst {a:Addr}{xs:List V}{ds:List WData}:ai K H a xs->j4 K H xs ds->Dw K H (.ref a) (.list ds)
 | tup {a:Addr}{xs:List V}{ds:List WData}:cE K H a xs->j4 K H xs ds->Dw K H (.ref a) (.tuple ds)
inductive j4 (K:PySem.W.Frag) (H:Hp):List V->List WData->Prop
 | nil:j4 K H [] []
 | cons {v:V}{vs:List V}{d:WData}{ds:List WData}:Dw K H v d->j4 K H vs ds->j4 K H (v::vs) (d::ds)
end
theorem U3 {K:PySem.W.Frag}{H:Hp}:∀ ns:List Int,j4 K H (ns.map V.int) (ns.map WData.int)
 |[]=>.nil
 | n::r=>.cons (.int n) (U3 r)
theorem Qu {K:PySem.W.Frag}{H:Hp}:∀(ns:List Int) (xs:List V),j4 K H xs (ns.map WData.int)->xs=ns.map V.int
 |[],xs,h=>by
  cases h
  rfl
 | n::r,xs,h=>by
  cases h with
  | cons h1 h2=>
   cases h1
   rw [Qu r _ h2]<;>rfl
section
variable {P:Program}{w:World}{K:PySem.W.Frag}{H:Hp}{h:Heap}{R:PySem.W.WRecords}{cl:Str->Option Addr}
theorem J2 {a:Addr}{xs:List V}(aU:cP P w H h) (KX:K.In h) (q:ai K H a xs):∃(au:List Value) (o:Obj) (n:Nat),Vals xs au/\h.get? a=some o/\o.cls=.type "list"/\o.data=.seq au.toArray n:=by
 rcases q with q |⟨o,au,n,e,hc,_,hd,_,hv⟩
 ·obtain⟨_,au,n,hv,e⟩:=(show dP P w H h a (.lst xs) from q.ok aU)
  exact⟨au,_,n,hv,e,rfl,rfl⟩
 ·exact⟨au.toList,o,n,hv,KX _ _ e,hc,by simp [hd]⟩
theorem J1 {a:Addr}{xs:List V}(aU:cP P w H h) (KX:K.In h) (q:cE K H a xs):∃(au:List Value) (o:Obj) (n:Nat),Vals xs au/\h.get? a=some o/\o.cls=.type "tuple"/\o.data=.seq au.toArray n:=by
 rcases q with q |⟨o,au,n,e,hc,hd,_,hv⟩
 ·obtain⟨_,au,hv,o,e,hc,n,hd⟩:=(show dP P w H h a (.tup xs) from q.ok aU)
  exact⟨au,o,n,hv,e,hc,hd⟩
 ·exact⟨au.toList,o,n,hv,KX _ _ e,hc,by simp [hd]⟩
mutual
theorem Dw.reads (aU:cP P w H h) (KX:K.In h):∀(d:WData) (v:V) (u:Value),Dw K H v d->RelV v u->∃ as,ReadsW R cl h u d as
 | .none,_,_,x,r=>by
  cases x
  cases r
  exact⟨_,ReadsW.none⟩
 | .bool b,_,_,x,r=>by
  cases x
  cases r
  exact⟨_,ReadsW.bool b⟩
 | .int i,_,_,x,r=>by
  cases x
  obtain⟨t,rfl⟩:=r
  exact⟨_,ReadsW.int i t⟩
 | .str s,_,_,x,r=>by
  cases x
  obtain⟨t,rfl⟩:=r
  exact⟨_,ReadsW.str s t⟩
 | .bytes b,_,_,x,r=>by
  cases x
  obtain⟨t,rfl⟩:=r
  exact⟨_,ReadsW.bytes _ t⟩
 | .list ds,_,_,x,r=>by
  cases x with
  | lst hs ha=>
   cases r
   obtain⟨au,o,n,rv,ho,hc,hd⟩:=J2 aU KX hs
   obtain⟨as,hr⟩:=Dw.readsAll aU KX ds _ au ha rv
   exact⟨_,ReadsW.list ho hc hd hr⟩
 | .tuple ds,_,_,x,r=>by
  cases x with
  | tup hs ha=>
   cases r
   obtain⟨au,o,n,rv,ho,hc,hd⟩:=J1 aU KX hs
   obtain⟨as,hr⟩:=Dw.readsAll aU KX ds _ au ha rv
   exact⟨_,ReadsW.tuple ho hc hd hr⟩
 | .float _,_,_,x,_=>by cases x
 | .dict _,_,_,x,_=>by cases x
 | .bytearray _,_,_,x,_=>by cases x
 | .set _,_,_,x,_=>by cases x
 | .frozenset _,_,_,x,_=>by cases x
 | .obj _ _,_,_,x,_=>by cases x
theorem Dw.readsAll (aU:cP P w H h) (KX:K.In h):∀(ds:List WData) (vs:List V) (us:List Value),j4 K H vs ds->Vals vs us->∃ as,ReadsAllW R cl h us ds as
 |[],_,_,x,r=>by
  cases x
  cases r
  exact⟨_,ReadsAllW.nil⟩
 | d::ds,_,_,x,r=>by
  cases x with
  | cons h1 h2=>
   cases r with
   | cons r1 r2=>
    obtain⟨as,q1⟩:=Dw.reads aU KX d _ _ h1 r1
    obtain⟨bs,q2⟩:=Dw.readsAll aU KX ds _ _ h2 r2
    exact⟨_,ReadsAllW.cons q1 q2⟩
end
end
mutual
def iI:WData->Bool
 | .none=>true
 | .bool _=>true
 | .int _=>true
 | .str _=>true
 | .bytes _=>true
 | .list xs=>jF xs
 | .tuple xs=>jF xs
 |_=>false
def jF:List WData->Bool
 |[]=>true
 | x::r=>iI x&&jF r
end
theorem DI {α:Type}{f:α->WData}(h:∀ a,iI (f a)=true):∀ l:List α,jF (l.map f)=true
 |[]=>rfl
 | x::r=>by
  show(iI (f x)&&jF (r.map f))=true
  rw [h x,DI h r]<;>rfl
theorem mq:∀(c:Codec) (a:c.denote),iI (c.enc a)=true
 | .unit,_=>rfl
 | .bool,_=>rfl
 | .int _ _,_=>rfl
 | .nat _ _,_=>rfl
 | .u8,_=>rfl
 | .bytes _ _,_=>rfl
 | .text _ _ _ _,_=>rfl
 | .list _ _ c,a=>DI (fun x=>mq c x) a
 | .pair c d,a=>by
  show(iI (c.enc a.1)&&(iI (d.enc a.2)&&true))=true
  rw [mq c a.1,mq d a.2]<;>rfl
 | .triple c d e,a=>by
  show(iI (c.enc a.1)&&(iI (d.enc a.2.1)&&(iI (e.enc a.2.2)&&true)))=true
  rw [mq c a.1,mq d a.2.1,mq e a.2.2]<;>rfl
 | .option c,none=>rfl
 | .option c,some x=>mq c x
theorem DH:∀(cs:List Codec) (a:Codec.denoteAll cs),jF (Codec.encAll cs a)=true
 |[],_=>rfl
 | c::cs,a=>by
  show(iI (c.enc a.1)&&jF (Codec.encAll cs a.2))=true
  rw [mq c a.1,DH cs a.2]<;>rfl
theorem vG:∀ {xs:List WData}{d:WData},d∈xs->d.weight<=WData.weightAll xs
 |[],d,h=>absurd h (by simp)
 | x::r,d,h=>by
  show d.weight<=x.weight+1+WData.weightAll r
  rcases List.mem_cons.mp h with e | m
  ·rw [e]
   omega
  ·have z:=vG m
   omega
def toV:Value->V
 | .none=>.aD
 | .bool b=>.bl b
 | .int i _=>.int i
 | .str x _=>.str x
 | .bytes b _=>.hG b
 | .ref a=>.ref a
 |_=>.aD
def jv (A:List Addr):Value->Prop
 | .none=>True
 | .bool _=>True
 | .int _ _=>True
 | .str _ _=>True
 | .bytes _ _=>True
 | .ref a=>a∈A
 |_=>False
theorem jv.mono {A B:List Addr}(h:∀ a∈A,a∈B):∀ {u:Value},jv A u->jv B u:=fun {u} x=>by
 cases u with
 | ref a=>exact h a x
 | none=>trivial
 | bool b=>trivial
 | int i t=>trivial
 | str s t=>trivial
 | bytes b t=>trivial
 |_=>exact False.elim x
theorem Mj {A:List Addr}{u:Value}(x:jv A u):RelV (toV u) u:=by
 cases u with
 | ref a=>rfl
 | none=>rfl
 | bool b=>rfl
 | int i t=>exact⟨t,rfl⟩
 | str s t=>exact⟨t,rfl⟩
 | bytes b t=>exact⟨t,rfl⟩
 |_=>exact False.elim x
theorem oF {A:List Addr}:∀ {vs:List Value},(∀ u∈vs,jv A u)->Vals (vs.map toV) vs
 |[],_=>.nil
 | u::r,h=>.cons (Mj (h u (List.mem_cons_self ..))) (oF fun x hx=>h x (List.mem_cons_of_mem _ hx))
def j6 (h:Heap) (A:List Addr) (a:Addr):Prop:=∃ vs:List Value,vs.length<=sizeLine/\(∀ u∈vs,jv A u) /\
 (h.get? a=some { cls:=.type "list",data:=.seq vs.toArray }\/h.get? a=some { cls:=.type "tuple",data:=.seq vs.toArray })
theorem j6.mono {h:Heap}{A B:List Addr}{a:Addr}(k:∀ a∈A,a∈B) (x:j6 h A a):j6 h B a:=by
 obtain⟨vs,h1,h2,h3⟩:=x
 exact⟨vs,h1,fun u hu=>(h2 u hu).mono k,h3⟩
theorem sM {P:Params}{h:Heap}:∀ {vs:List Value}{ds:List WData},WellAll P h vs ds->vs.length=ds.length
 |_,_,.nil=>rfl
 |_,_,.cons _ b=>by
  show _+1=_+1
  rw [sM b]
theorem AH {P:Params}{h:Heap}{v:Value}{ds:List WData}(x:Well P h v (.list ds)):∃(a:Addr) (vs:List Value),v=.ref a/\h.get? a=some { cls:=.type "list",data:=.seq vs.toArray }/\WellAll P h vs ds:=by
 cases x with
 | list ho e7=>exact⟨_,_,rfl,ho,e7⟩
theorem AG {P:Params}{h:Heap}{v:Value}{ds:List WData}(x:Well P h v (.tuple ds)):∃(a:Addr) (vs:List Value),v=.ref a/\h.get? a=some { cls:=.type "tuple",data:=.seq vs.toArray }/\WellAll P h vs ds:=by
 cases x with
 | tuple ho e7=>exact⟨_,_,rfl,ho,e7⟩
theorem AI {P:Params}{h:Heap}{us:List Value}{d:WData}{ds:List WData}(x:WellAll P h us (d::ds)):∃(v:Value) (vs:List Value),us=v::vs/\Well P h v d/\WellAll P h vs ds:=by
 cases x with
 | cons a b=>exact⟨_,_,rfl,a,b⟩
theorem EX {n:Nat}(h:n<=1048576):n<=sizeLine:=Nat.le_trans h (by decide)
section
variable {P:Params}{h:Heap}
mutual
theorem WG:∀(d:WData) (v:Value),Well P h v d->iI d=true->d.weight<=1048576->∃ A:List Addr,jv A v/\∀ a∈A,j6 h A a
 | .none,_,x,_,_=>by
  cases x
  exact⟨[],trivial,fun a m=>absurd m (by simp)⟩
 | .bool b,_,x,_,_=>by
  cases x
  exact⟨[],trivial,fun a m=>absurd m (by simp)⟩
 | .int i,_,x,_,_=>by
  cases x
  exact⟨[],trivial,fun a m=>absurd m (by simp)⟩
 | .str s,_,x,_,_=>by
  cases x
  exact⟨[],trivial,fun a m=>absurd m (by simp)⟩
 | .bytes b,_,x,_,_=>by
  cases x
  exact⟨[],trivial,fun a m=>absurd m (by simp)⟩
 | .list ds,_,x,p,z=>by
  obtain⟨a,vs,rfl,ho,e7⟩:=AH x
  have z2:WData.weightAll ds<=1048576:=z
  obtain⟨A,h1,h2⟩:=vw ds _ e7 p fun d hd=>Nat.le_trans (vG hd) z2
  have k:∀ b∈A,b∈a::A:=fun b hb=>List.mem_cons_of_mem _ hb
  refine⟨a::A,List.mem_cons_self ..,fun b hb=>?_⟩
  rcases List.mem_cons.mp hb with e | m
  ·rw [e]
   exact⟨vs,EX (by rw [sM e7];exact Nat.le_trans (PySem.W.length_le_weightAllW ds) z2),fun u hu=>(h1 u hu).mono k,.inl ho⟩
  ·exact(h2 b m).mono k
 | .tuple ds,_,x,p,z=>by
  obtain⟨a,vs,rfl,ho,e7⟩:=AG x
  have z2:WData.weightAll ds<=1048576:=z
  obtain⟨A,h1,h2⟩:=vw ds _ e7 p fun d hd=>Nat.le_trans (vG hd) z2
  have k:∀ b∈A,b∈a::A:=fun b hb=>List.mem_cons_of_mem _ hb
  refine⟨a::A,List.mem_cons_self ..,fun b hb=>?_⟩
  rcases List.mem_cons.mp hb with e | m
  ·rw [e]
   exact⟨vs,EX (by rw [sM e7];exact Nat.le_trans (PySem.W.length_le_weightAllW ds) z2),fun u hu=>(h1 u hu).mono k,.inr ho⟩
  ·exact(h2 b m).mono k
 | .float _,_,_,p,_=>Bool.noConfusion (show false=true from p)
 | .dict _,_,_,p,_=>Bool.noConfusion (show false=true from p)
 | .bytearray _,_,_,p,_=>Bool.noConfusion (show false=true from p)
 | .set _,_,_,p,_=>Bool.noConfusion (show false=true from p)
 | .frozenset _,_,_,p,_=>Bool.noConfusion (show false=true from p)
 | .obj _ _,_,_,p,_=>Bool.noConfusion (show false=true from p)
theorem vw:∀(ds:List WData) (vs:List Value),WellAll P h vs ds->jF ds=true->(∀ d∈ds,d.weight<=1048576)->∃ A:List Addr,(∀ u∈vs,jv A u)/\∀ a∈A,j6 h A a
 |[],_,x,_,_=>by
  cases x
  exact⟨[],fun u m=>absurd m (by simp),fun a m=>absurd m (by simp)⟩
 | d::ds,_,x,p,z=>by
  obtain⟨v,vs,rfl,x1,x2⟩:=AI x
  have q:iI d=true/\jF ds=true:=Bool.and_eq_true_iff.mp p
  obtain⟨A,a1,a2⟩:=WG d v x1 q.1 (z d (List.mem_cons_self ..))
  obtain⟨B,b1,b2⟩:=vw ds vs x2 q.2 fun e he=>z e (List.mem_cons_of_mem _ he)
  have kA:∀ b∈A,b∈A++B:=fun b hb=>List.mem_append.mpr (.inl hb)
  have kB:∀ b∈B,b∈A++B:=fun b hb=>List.mem_append.mpr (.inr hb)
  refine⟨A++B,fun u hu=>?_,fun b hb=>?_⟩
  ·rcases List.mem_cons.mp hu with e | m
   ·rw [e]
    exact a1.mono kA
   ·exact(b1 u m).mono kB
  ·rcases List.mem_append.mp hb with m | m
   ·exact(a2 b m).mono kA
   ·exact(b2 b m).mono kB
end
end
def uK (o:Obj):Option HO:=match o.data with
 | .seq vs _=>if(o.cls == Value.type "list")=true then some (.fQ o (.lst (vs.toList.map toV))) else some (.fQ o (.tup (vs.toList.map toV)))
 |_=>none
def fS (K:PySem.W.Frag) (h:Heap) (A:List Addr):Hp:=fun b=>if b∈A then(if(K.lookup b).isNone=true then(h.get? b).bind uK else none) else none
def sr (H:Hp):Prop:=∀ b,H b=none\/∃ o u,H b=some (.fQ o u)
theorem FH (vs:List Value):uK { cls:=.type "list",data:=.seq vs.toArray } = some (.fQ { cls:=.type "list",data:=.seq vs.toArray } (.lst (vs.map toV))):=by
 show(if(Value.type "list" == Value.type "list")=true then some (HO.fQ { cls:=.type "list",data:=.seq vs.toArray } (.lst (vs.toArray.toList.map toV))) else some (HO.fQ { cls:=.type "list",data:=.seq vs.toArray } (.tup (vs.toArray.toList.map toV))))=_
 rw [if_pos (beq_self_eq_true _)]
theorem FG (vs:List Value):uK { cls:=.type "tuple",data:=.seq vs.toArray } = some (.fQ { cls:=.type "tuple",data:=.seq vs.toArray } (.tup (vs.map toV))):=by
 show(if(Value.type "tuple" == Value.type "list")=true then some (HO.fQ { cls:=.type "tuple",data:=.seq vs.toArray } (.lst (vs.toArray.toList.map toV))) else some (HO.fQ { cls:=.type "tuple",data:=.seq vs.toArray } (.tup (vs.toArray.toList.map toV))))=_
 rw [if_neg (by decide)]
section
variable {P:Program}{w:World}{K:PySem.W.Frag}{h:Heap}{A:List Addr}
theorem vv {b:Addr}{o:Obj}(hb:b∈A) (hk:K.lookup b=none) (e:h.get? b=some o):fS K h A b=uK o:=by
 unfold fS
 rw [if_pos hb,hk,if_pos (show(none:Option Obj).isNone=true from rfl),e]<;>rfl
theorem OF {b:Addr}{u:HO}(q:fS K h A b=some u):b∈A/\K.lookup b=none:=by
 unfold fS at q
 by_cases hb:b∈A
 ·rw [if_pos hb] at q
  cases hk:K.lookup b with
  | none=>exact⟨hb,rfl⟩
  | some o=>
   rw [hk,if_neg (by simp)] at q
   cases q
 ·rw [if_neg hb] at q
  cases q
theorem vt (ar:∀ a∈A,j6 h A a){b:Addr}{u:HO}(q:fS K h A b=some u):K.lookup b=none/\∃ vs:List Value,vs.length<=sizeLine/\(∀ u∈vs,jv A u) /\
  ((h.get? b=some { cls:=.type "list",data:=.seq vs.toArray }/\u=.fQ { cls:=.type "list",data:=.seq vs.toArray } (.lst (vs.map toV))) \/
   (h.get? b=some { cls:=.type "tuple",data:=.seq vs.toArray }/\u=.fQ { cls:=.type "tuple",data:=.seq vs.toArray } (.tup (vs.map toV)))):=by
 obtain⟨hb,hk⟩:=OF q
 obtain⟨vs,h1,h2,h3⟩:=ar b hb
 refine⟨hk,vs,h1,h2,?_⟩
 rcases h3 with e | e
 ·rw [vv hb hk e,FH] at q
  exact .inl ⟨e,(Option.some.inj q).symm⟩
 ·rw [vv hb hk e,FG] at q
  exact .inr ⟨e,(Option.some.inj q).symm⟩
theorem WD (ar:∀ a∈A,j6 h A a):sr (fS K h A):=fun b=>by
 cases q:fS K h A b with
 | none=>exact .inl rfl
 | some u=>
  obtain⟨_,vs,_,_,⟨_,e⟩ |⟨_,e⟩⟩:=vt ar q
  ·exact .inr ⟨_,_,by rw [e]⟩
  ·exact .inr ⟨_,_,by rw [e]⟩
theorem WE (ar:∀ a∈A,j6 h A a):cP P w (fS K h A) h:=fun b u q=>by
 obtain⟨_,vs,h1,h2,⟨e,rfl⟩ |⟨e,rfl⟩⟩:=vt ar q
 ·exact⟨e,by rw [List.length_map];exact h1,vs,_,oF h2,e⟩
 ·exact⟨e,by rw [List.length_map];exact h1,vs,oF h2,_,e,rfl,_,rfl⟩
theorem tu {c c':Value}{vs us:List Value}(e:(some { cls:=c,data:=.seq vs.toArray }:Option Obj)=some { cls:=c',data:=.seq us.toArray }):c=c'/\vs=us:=by
 have e1:=Option.some.inj e
 have e2:c=c':=congrArg Obj.cls e1
 have e3:Data.seq vs.toArray=Data.seq us.toArray:=congrArg Obj.data e1
 injection e3 with e4
 refine⟨e2,?_⟩
 have e5:=congrArg Array.toList e4
 simpa using e5
theorem WC (KX:K.In h) (ar:∀ a∈A,j6 h A a){a:Addr}{vs:List Value}(ha:a∈A) (e:h.get? a=some { cls:=.type "list",data:=.seq vs.toArray }):(∀ u∈vs,jv A u)/\ai K (fS K h A) a (vs.map toV):=by
 obtain⟨us,h1,h2,h3⟩:=ar a ha
 have hu:us=vs:=by
  rcases h3 with q | q
  ·rw [e] at q
   exact(tu q).2.symm
  ·rw [e] at q
   exact absurd (Value.type.inj (tu q).1) (by decide)
 subst hu
 refine⟨h2,?_⟩
 cases hk:K.lookup a with
 | none=>exact .inl (.inr ⟨_,by rw [vv ha hk e,FH]⟩)
 | some o=>
  have e2:=KX a o hk
  rw [e] at e2
  obtain rfl:=Option.some.inj e2
  exact .inr ⟨_,us.toArray,_,hk,rfl,rfl,rfl,by rw [List.size_toArray];exact h1,by simpa using oF h2⟩
theorem WB (KX:K.In h) (ar:∀ a∈A,j6 h A a){a:Addr}{vs:List Value}(ha:a∈A) (e:h.get? a=some { cls:=.type "tuple",data:=.seq vs.toArray }):(∀ u∈vs,jv A u)/\cE K (fS K h A) a (vs.map toV):=by
 obtain⟨us,h1,h2,h3⟩:=ar a ha
 have hu:us=vs:=by
  rcases h3 with q | q
  ·rw [e] at q
   exact absurd (Value.type.inj (tu q).1) (by decide)
  ·rw [e] at q
   exact(tu q).2.symm
 subst hu
 refine⟨h2,?_⟩
 cases hk:K.lookup a with
 | none=>exact .inl (.inr ⟨_,by rw [vv ha hk e,FG]⟩)
 | some o=>
  have e2:=KX a o hk
  rw [e] at e2
  obtain rfl:=Option.some.inj e2
  exact .inr ⟨_,us.toArray,_,hk,rfl,rfl,by rw [List.size_toArray];exact h1,by simpa using oF h2⟩
mutual
theorem U2 {Pm:Params}(KX:K.In h) (ar:∀ a∈A,j6 h A a):∀(d:WData) (v:Value),Well Pm h v d->iI d=true->jv A v->Dw K (fS K h A) (toV v) d
 | .none,_,x,_,_=>by
  cases x
  exact .aD
 | .bool b,_,x,_,_=>by
  cases x
  exact .bl b
 | .int i,_,x,_,_=>by
  cases x
  exact .int i
 | .str s,_,x,_,_=>by
  cases x
  exact .str s
 | .bytes b,_,x,_,_=>by
  cases x
  have z:=Dw.hG (K:=K) (H:=fS K h A) b.toArray
  exact z
 | .list ds,_,x,p,hu=>by
  obtain⟨a,vs,rfl,ho,e7⟩:=AH x
  obtain⟨h2,hs⟩:=WC KX ar hu ho
  exact .lst hs (vf KX ar ds _ e7 p h2)
 | .tuple ds,_,x,p,hu=>by
  obtain⟨a,vs,rfl,ho,e7⟩:=AG x
  obtain⟨h2,hs⟩:=WB KX ar hu ho
  exact .tup hs (vf KX ar ds _ e7 p h2)
 | .float _,_,_,p,_=>Bool.noConfusion (show false=true from p)
 | .dict _,_,_,p,_=>Bool.noConfusion (show false=true from p)
 | .bytearray _,_,_,p,_=>Bool.noConfusion (show false=true from p)
 | .set _,_,_,p,_=>Bool.noConfusion (show false=true from p)
 | .frozenset _,_,_,p,_=>Bool.noConfusion (show false=true from p)
 | .obj _ _,_,_,p,_=>Bool.noConfusion (show false=true from p)
theorem vf {Pm:Params}(KX:K.In h) (ar:∀ a∈A,j6 h A a):∀(ds:List WData) (vs:List Value),WellAll Pm h vs ds->jF ds=true->(∀ u∈vs,jv A u)->j4 K (fS K h A) (vs.map toV) ds
 |[],_,x,_,_=>by
  cases x
  exact .nil
 | d::ds,_,x,p,hu=>by
  obtain⟨v,vs,rfl,x1,x2⟩:=AI x
  have q:iI d=true/\jF ds=true:=Bool.and_eq_true_iff.mp p
  exact .cons (U2 KX ar d v x1 q.1 (hu _ (List.mem_cons_self ..))) (vf KX ar ds vs x2 q.2 fun u m=>hu u (List.mem_cons_of_mem _ m))
end
end
theorem J3 {P:Program}{w:World}{K:PySem.W.Frag}{mg mb:Str->Option Value}{CX:j5}{k:Nat}{fa:Addr}{fd:FuncData}{ps:List Str}{sp:Sp}{s₁:Shared}{vals:List Value}{ds:List WData}{R:PySem.W.WRecords}{cl:Str->Option Addr}{d0:WData}
  (KX:K.In s₁.heap) (FI:s₁.heap.Ns mainGlobals mg) (hb:s₁.heap.Ns builtinsNs mb) (RP:∀ x:Str,x ≠ "__name__"->mb x=bootBuiltins x) (FK:s₁.heap.NoLimit) (hg:s₁.gens=#[])
  (rh:WellAll w.params s₁.heap vals ds) (dh:jF ds=true) (fq:∀ d∈ds,d.weight<=1048576) (hr:cA k callerA)
  (F:∀ base:Heap,K.In base->base.Ns mainGlobals mg->fc P w K mg base CX k fa fd ps sp) (RO:∀(s:Shared) (us:List Value),us.length=ps.length->BindsTo s fd ⟨us,[]⟩ (ps.zip us)) (hlen:ds.length=ps.length)
  (k5:∀(H:Hp) (xs:List V),sr H->j4 K H xs ds->sp xs H (fun v H'=>Dw K H' v d0) fun _ _ _=>False)
  (rM:∀ H e s',CX [] H s₁ (fun _ _ _=>False) e s'->False) :
  codeAny (model P w) callerA (.call (.ref fa) ⟨vals,[]⟩) (fun r s'=>∃ u as,r=.ok (.ret u)/\ReadsW R cl s'.heap u d0 as/\OldK s₁.heap s'.heap/\s'.os=s₁.os/\AllBare s'.gens) s₁:=by
 obtain⟨A,ho,ar⟩:=vw ds vals rh dh fq
 have hO:sr (fS K s₁.heap A):=WD ar
 have aU:cP P w (fS K s₁.heap A) s₁.heap:=WE ar
 have hS:=vf KX ar ds vals rh dh ho
 have hV:=oF ho
 have hK:∀ b u,fS K s₁.heap A b=some u->K.lookup b=none:=fun b u q=>(vt ar q).1
 have pb:∀ {b:Addr}{o:Obj}{es:Array DictEntry}{ep:Nat},s₁.heap.get? b=some o->o.data=.dict es ep->fS K s₁.heap A b=none:=fun {b o es ep} e d=>by
  cases q:fS K s₁.heap A b with
  | none=>rfl
  | some u=>
   obtain⟨_,vs,_,_,⟨e2,_⟩ |⟨e2,_⟩⟩:=vt ar q
   ·rw [e2] at e
    cases e
    have d':Data.seq vs.toArray _=Data.dict es ep:=d
    cases d'
   ·rw [e2] at e
    cases e
    have d':Data.seq vs.toArray _=Data.dict es ep:=d
    cases d'
 generalize fS K s₁.heap A=H at hO aU hS hK pb
 have HW:∀ {b:Addr}{o:Obj},s₁.heap.get? b=some o->H b=none->(lQ s₁.heap H).get? b=some o:=fun e n=>Ru e n
 have uf:∀ {b:Addr}{m:Str->Option Value},s₁.heap.Ns b m->(lQ s₁.heap H).Ns b m:=fun {b m} ⟨o,es,ep,e,d,r⟩=>⟨o,es,ep,HW e (pb e d),d,r⟩
 have nK:∀ b o,K.lookup b=some o->H b=none:=fun b o e=>by
  cases q:H b with
  | none=>rfl
  | some u=>
   rw [hK b u q] at e
   cases e
 have Ga:K.In (lQ s₁.heap H):=fun b o e=>HW (KX b o e) (nK b o e)
 have hM:Mod K mg (lQ s₁.heap H):=⟨Ga,uf FI,⟨mb,uf hb,RP⟩,let ⟨mc,h1,h2⟩:=FK;⟨mc,uf h1,h2⟩⟩
 have e0:oC P w K mg (lQ s₁.heap H) callerA [] s₁ H:=⟨rfl,hM,fun b o e=>OE e,Nat.le_of_eq (Rt _ _),trivial,fun b hb=>absurd (show b∈([]:List Addr) from hb) (by simp),aU,.of_eq hg⟩
 have hl:vals.length=ps.length:=by rw [sM rh];exact hlen
 refine codeAny_mono ((F _ Ga (uf FI)).run callerA [] s₁ H ⟨vals,[]⟩ vals (vals.map toV) _ _ hr e0 (RO s₁ vals hl) hV (k5 H _ hO hS)) fun r s' x=>?_
 cases r with
 | error e=>exact(rM H e s' x).elim
 | ok fl=>
  cases fl with
  | next=>exact False.elim x
  | brk=>exact False.elim x
  | cont=>exact False.elim x
  | ret u=>
   obtain⟨v,H',os,bare,un,hok',r',q⟩:=x
   have kept:∀ b o,s₁.heap.get? b=some o->s'.heap.get? b=some o:=fun b o e=>by
    cases q2:H b with
    | none=>exact un.keep b o e q2 (by intro z;exact absurd (show b∈([]:List Addr) from z) (by simp)) (by simp)
    | some u2=>
     rcases hO b with z |⟨ob,u3,z⟩
     ·rw [q2] at z
      cases z
     ·have z2:=un.lV b ob _ z
      obtain⟨e1,_⟩:=aU b _ z
      obtain⟨e2,_⟩:=hok' b _ z2
      rw [e] at e1
      cases e1
      exact e2
   have KX':K.In s'.heap:=fun b o e=>kept b o (KX b o e)
   obtain⟨as,Fx⟩:=Dw.reads (R:=R) (cl:=cl) hok' KX' d0 v u q r'
   exact⟨u,as,rfl,Fx,OldK.of_keep kept,os,bare⟩
theorem Qj {ds:List WData}(h:WData.layableAll ds=true):∀ d∈ds,d.weight<=1048576:=fun d hd=>
 (PySem.W.layableW_iff.mp (List.all_eq_true.mp h d hd)).2.2
theorem Hd:∀(cs:List Codec) (a:Codec.denoteAll cs),(Codec.encAll cs a).length=cs.length
 |[],_=>rfl
 | c::cs,a=>by
  show(Codec.encAll cs a.2).length+1=cs.length+1
  rw [Hd cs a.2]
theorem IQ {r:OpenSpec}{k:Nat}{q:Program}{loose:List Str}{XP:(Str->Option Value)->Heap->Prop}{YP:World->Heap->Prop}{d:DefRec}{K:Params->PySem.W.Frag}{CX:World->j5}{ps:List Str}{sp:World->Sp}
  (yO:r.wellSaid=true) (FZ:d.params.defaults=[]) (hlen:r.args.length=ps.length) (hr:cA k callerA)
  (hY:∀(w:World) (h:Heap),YP w h->(K w.params).In h)
  (F:∀(w:World) (mg:Str->Option Value) (fa:Addr) (h:Heap),YP w h->(K w.params).In h->h.Ns mainGlobals mg->mg d.name=some (.ref fa)->
   ∃ fd:FuncData,(∀(s:Shared) (us:List Value),us.length=ps.length->BindsTo s fd ⟨us,[]⟩ (ps.zip us)) /\
    ∀ base:Heap,(K w.params).In base->base.Ns mainGlobals mg->fc r.prog w (K w.params) mg base (CX w) k fa fd ps (sp w))
  (k5:∀(w:World) (H:Hp) (xs:List V) (a:Codec.denoteAll r.args),sr H->Codec.withinAll r.args a=true->Codec.app r.args r.asked a=true->j4 (K w.params) H xs (Codec.encAll r.args a)->
   sp w xs H (fun v H'=>Dw (K w.params) H' v (r.ret.enc (Codec.app r.args r.f a))) fun _ _ _=>False)
  (rM:∀(w:World) (H:Hp) (s:Shared) (e:Value) (s':Shared),CX w [] H s (fun _ _ _=>False) e s'->False) :
  PySem.W.WalkOS q loose XP YP r d [] (fun f vs=>PySem.call f vs):=by
 intro w fB s₁ mg mb G Y fa o pm cd doc dV kV ho hd kz hD Q6 hg args vals as QZ Ri Fx rh za
 obtain⟨a,e1,e2⟩:=PySem.W.os_pre_some QZ
 obtain⟨e3,Fh⟩:=Codec.encAll_of_decAll r.args args a e1
 subst e3
 have KX:=hY w _ Y
 obtain⟨fd,hb,hF⟩:=F w mg fa _ Y KX G.T.g Q6
 refine PySem.W.enter_call (codeAny_mono (J3 (R:=[]) (cl:=classAt fB.heap) (d0:=r.ret.enc (Codec.app r.args r.f a)) KX G.T.g G.T.b G.T.builtins G.T.nolimit hg rh (DH _ _) (Qj Ri) hr hF hb (by rw [Hd];exact hlen)
  (fun H xs hO hS=>k5 w H xs a hO Fh e2 hS) fun H e s'=>rM w H s₁ e s') fun r' s' hq=>?_)
 obtain⟨u,as',rfl,h1,h2,h3,h4⟩:=hq
 exact⟨.inl ⟨u,_,as',rfl,fun _=>rfl,h1,(OpenSpec.post_iff yO Fh _ _).mpr rfl,fun z=>Bool.noConfusion (show false=true from z)⟩,h2,h3,h4⟩
theorem Xb {r:OpenSpec}{k:Nat}{q:Program}{loose:List Str}{XP:(Str->Option Value)->Heap->Prop}{YP:World->Heap->Prop}{d:DefRec}{K:Params->PySem.W.Frag}{CX:j5}{ps:List Str}{sp:PySem.W.Frag->Sp}
  (yO:r.wellSaid=true) (FZ:d.params.defaults=[]) (hlen:r.args.length=ps.length) (hr:cA k callerA)
  (hY:∀(w:World) (h:Heap),YP w h->(K w.params).In h)
  (F:∀(w:World) (mg:Str->Option Value) (fa:Addr) (h:Heap),YP w h->(K w.params).In h->h.Ns mainGlobals mg->mg d.name=some (.ref fa)->
   ∃ fd:FuncData,(∀(s:Shared) (us:List Value),us.length=ps.length->BindsTo s fd ⟨us,[]⟩ (ps.zip us)) /\
    ∀ base:Heap,(K w.params).In base->base.Ns mainGlobals mg->fc r.prog w (K w.params) mg base CX k fa fd ps (sp (K w.params)))
  (k5:∀(K:PySem.W.Frag) (H:Hp) (xs:List V) (a:Codec.denoteAll r.args),sr H->Codec.withinAll r.args a=true->Codec.app r.args r.asked a=true->j4 K H xs (Codec.encAll r.args a)->
   sp K xs H (fun v H'=>Dw K H' v (r.ret.enc (Codec.app r.args r.f a))) fun _ _ _=>False)
  (rM:∀(H:Hp) (s:Shared) (e:Value) (s':Shared),CX [] H s (fun _ _ _=>False) e s'->False) :
  PySem.W.WalkOS q loose XP YP r d [] (fun f vs=>PySem.call f vs):=
 IQ (K:=K) (CX:=fun _=>CX) (sp:=fun w=>sp (K w.params)) yO FZ hlen hr hY F (fun w H xs a h1 h2 h3 h4=>k5 (K w.params) H xs a h1 h2 h3 h4) fun _ H s e s'=>rM H s e s'
end L2
end
end
section
set_option linter.all false
set_option maxRecDepth 100000
set_option maxHeartbeats 4000000
set_option autoImplicit false
namespace My
open Vbdcan
open List (all_eq_true all_map any_cons append_assoc append_nil cons_append drop_drop drop_eq_getElem_cons drop_eq_nil_iff drop_length drop_zero ext_getElem filter_append filter_cons find?_cons_of_neg flatMap_cons foldl_cons getD_eq_getElem?_getD getElem?_append_left getElem?_append_right getElem?_eq_getElem getElem?_map getElem?_set_ne getElem?_zip_eq_some getElem_map getElem_mem getElem_range length_append length_cons length_drop length_eq_zero_iff length_map length_modify length_nil length_range length_reverse length_singleton length_take length_zip map_append map_congr_left map_cons map_const' map_map mem_append mem_cons mem_cons_of_mem mem_cons_self mem_iff_getElem mem_map mem_of_getElem? mem_range nil_append not_mem_nil range range_succ sum_cons takeWhile_cons_of_pos takeWhile_prefix take_length take_succ_eq_append_getElem)
structure ax where
 lo:Option Int
 hi:Option Int
 add:Int
 low:Int
 high:Int
theorem ax.ext' {a b:ax}(h1:a.lo=b.lo) (h2:a.hi=b.hi) (h3:a.add=b.add) (h4:a.low=b.low) (h5:a.high=b.high):a=b:=by
 cases a;cases b;simp at *;exact⟨h1,h2,h3,h4,h5⟩
def bg (l:List Bound) (k:Nat):Bound:=l.getD k (none,none)
def aF (l:List Int) (k:Nat):Int:=l.getD k 0
def sp (s:Sum) (k:Nat):ax:=⟨(bg s.box k).1,(bg s.box k).2,aF s.add k,aF s.low k,aF s.high k⟩
def ax.zero:ax:=⟨none,none,0,0,0⟩
def ax.seq (a b:ax):ax:=⟨maxO a.lo (b.lo.map fun l=>l-a.add),minO a.hi (b.hi.map fun h=>h-a.add),a.add+b.add,min a.low (a.add+b.low),max a.high (a.add+b.high)⟩
def ax.rep (n:Int) (a:ax):ax:=
 let k:=(n-1)*a.add
 ⟨a.lo.map fun l=>l-min 0 k,a.hi.map fun h=>h-max 0 k,n*a.add,min 0 k+a.low,max 0 k+a.high⟩
def ax.act (b:Bound) (d:Int):ax:=⟨b.1,b.2,d,min 0 d,max 0 d⟩
def ax.ok (a:ax) (r:Int):Bool:=within r (a.lo,a.hi)
def ax.often (a:ax) (r:Int):Option Nat:=oftenB r (a.lo,a.hi) a.add
structure Wf (s:Sum):Prop where
 box:s.box.length=8
 add:s.add.length=8
 low:s.low.length=8
 high:s.high.length=8
theorem rP {α:Type}{l m:List α}{d:α}(h:l.length=m.length) (e:∀ k,k<l.length->l.getD k d=m.getD k d):l=m:=by
 apply ext_getElem h
 intro k h1 h2
 have:=e k h1
 rw [getD_eq_getElem?_getD,getD_eq_getElem?_getD,getElem?_eq_getElem h1,getElem?_eq_getElem h2] at this
 exact this
theorem Wf.ext {s t:Sum}(a:Wf s) (b:Wf t) (hl:s.len=t.len) (h:∀ k,k<8->sp s k=sp t k):s=t:=by
 have h1:s.box=t.box:=rP (d:=(none,none)) (by rw [a.box,b.box]) fun k hk=>by
  have e:=h k (by rw [←a.box];exact hk)
  have e1:=congrArg ax.lo e
  have e2:=congrArg ax.hi e
  exact Prod.ext e1 e2
 have h2:s.add=t.add:=rP (d:=0) (by rw [a.add,b.add]) fun k hk=>congrArg ax.add (h k (by rw [←a.add];exact hk))
 have h3:s.low=t.low:=rP (d:=0) (by rw [a.low,b.low]) fun k hk=>congrArg ax.low (h k (by rw [←a.low];exact hk))
 have h4:s.high=t.high:=rP (d:=0) (by rw [a.high,b.high]) fun k hk=>congrArg ax.high (h k (by rw [←a.high];exact hk))
 cases s;cases t;simp at *;exact⟨hl,h1,h2,h3,h4⟩
theorem j7 {α β γ:Type}{f:α->β->γ}{l:List α}{m:List β}{a:α}{b:β}{c:γ}{k n:Nat}(hl:l.length=n) (hm:m.length=n) (hk:k<n):(l.zipWith f m).getD k c=f (l.getD k a) (m.getD k b):=by
 subst hl
 rw [getD_eq_getElem?_getD,getD_eq_getElem?_getD,getD_eq_getElem?_getD,List.getElem?_zipWith,getElem?_eq_getElem hk,getElem?_eq_getElem (by omega)]
 rfl
theorem map_getD {α β:Type}{f:α->β}{l:List α}{a:α}{b:β}{k n:Nat}(hl:l.length=n) (hk:k<n):(l.map f).getD k b=f (l.getD k a):=by
 subst hl
 rw [getD_eq_getElem?_getD,getD_eq_getElem?_getD,getElem?_map,getElem?_eq_getElem hk]
 rfl
theorem kg {α:Type}{a:α}{n k:Nat}:(List.replicate n a).getD k a=a:=by
 rw [getD_eq_getElem?_getD,List.getElem?_replicate]
 split<;>rfl
theorem kL:Wf {}:=⟨rfl,rfl,rfl,rfl⟩
theorem dX (k:Nat):sp {} k=ax.zero:=by
 unfold sp ax.zero bg aF
 show ax.mk (free.getD k (none,none)).1 (free.getD k (none,none)).2 (still.getD k 0) (still.getD k 0) (still.getD k 0)=_
 unfold free still
 rw [kg,kg]
theorem Wf.seq {a b:Sum}(ha:Wf a) (hb:Wf b):Wf (seqSum a b):=by
 unfold seqSum plus
 refine⟨?_,?_,?_,?_⟩<;>simp [ha.box,ha.add,ha.low,ha.high,hb.box,hb.add,hb.low,hb.high]
theorem dI {a b:Sum}(ha:Wf a) (hb:Wf b){k:Nat}(hk:k<8):sp (seqSum a b) k=ax.seq (sp a k) (sp b k):=by
 unfold sp seqSum ax.seq bg aF plus
 dsimp only
 rw [j7 (a:=(none,none)) (b:=(none,none)) ha.box (by simp [hb.box,ha.add]) hk,
  j7 (a:=(none,none)) (b:=0) hb.box ha.add hk,j7 (a:=0) (b:=0) ha.add hb.add hk,
  j7 (a:=0) (b:=0) ha.low (by simp [ha.add,hb.low]) hk,j7 (a:=0) (b:=0) ha.add hb.low hk,
  j7 (a:=0) (b:=0) ha.high (by simp [ha.add,hb.high]) hk,j7 (a:=0) (b:=0) ha.add hb.high hk]
 rfl
theorem Wf.rep {s:Sum}(h:Wf s) (n:Nat):Wf (repSum n s):=by
 unfold repSum
 split
 ·exact kL
 ·unfold times
  refine⟨?_,?_,?_,?_⟩<;>simp [h.box,h.add,h.low,h.high]
theorem mul_neg' {k d:Int}(hk:0<=k) (hd:d<0):k*d<=0:=Int.mul_nonpos_of_nonneg_of_nonpos hk (Int.le_of_lt hd)
theorem mul_pos' {k d:Int}(hk:0<=k) (hd:0<=d):0<=k*d:=Int.mul_nonneg hk hd
theorem ER {k d:Int}(hk:0<=k):min 0 (k*d)=if d<0 then k*d else 0:=by
 split
 ·rename_i h;have:=mul_neg' hk h;omega
 ·rename_i h;have:=mul_pos' hk (show 0<=d by omega);omega
theorem ES {k d:Int}(hk:0<=k):max 0 (k*d)=if 0<d then k*d else 0:=by
 split
 ·rename_i h;have:=mul_pos' hk (show 0<=d by omega);omega
 ·rename_i h
  have:=Int.mul_nonpos_of_nonneg_of_nonpos hk (show d<=0 by omega)
  omega
theorem mj {s:Sum}(h:Wf s){n:Nat}(hn:n≠0){k:Nat}(hk:k<8):sp (repSum n s) k=ax.rep n (sp s k):=by
 unfold repSum
 rw [if_neg hn]
 unfold sp ax.rep bg aF times
 dsimp only
 have hz:(0:Int)<=(n:Int)-1:=by omega
 rw [j7 (a:=(none,none)) (b:=0) h.box h.add hk,map_getD (a:=0) h.add hk,j7 (a:=0) (b:=0) h.low h.add hk,j7 (a:=0) (b:=0) h.high h.add hk,
  ER hz,ES hz]
 apply ax.ext'
 ·dsimp only
  congr 1
  funext l
  split<;>omega
 ·dsimp only
  congr 1
  funext l
  split<;>omega
 ·rfl
 ·dsimp only
  split<;>omega
 ·dsimp only
  split<;>omega
theorem Wf.act {a:Act}(h1:a.box.length=8) (h2:a.add.length=8):Wf (actSum a):=by
 unfold actSum
 refine⟨?_,?_,?_,?_⟩<;>simp [h1,h2]
theorem tf {a:Act}(h2:a.add.length=8){k:Nat}(hk:k<8):sp (actSum a) k=ax.act (bg a.box k) (aF a.add k):=by
 unfold actSum sp ax.act bg aF
 dsimp only
 rw [map_getD (a:=0) h2 hk,map_getD (a:=0) h2 hk]
structure ax.Lh (a:ax):Prop where
 l0:a.low<=0
 h0:0<=a.high
 la:a.low<=a.add
 ah:a.add<=a.high
theorem ax.Lh.zero:ax.zero.Lh:=⟨Int.le_refl _,Int.le_refl _,Int.le_refl _,Int.le_refl _⟩
theorem ax.Lh.seq {a b:ax}(x:a.Lh) (y:b.Lh):(a.seq b).Lh:=by
 obtain⟨_,_,_,_⟩:=x
 obtain⟨_,_,_,_⟩:=y
 unfold ax.seq
 constructor<;>dsimp only<;>omega
theorem ax.Lh.rep {a:ax}(x:a.Lh) (n:Int):(a.rep n).Lh:=by
 obtain⟨_,_,_,_⟩:=x
 have e:n*a.add=(n-1)*a.add+a.add:=by rw [Int.sub_mul];omega
 unfold ax.rep
 constructor<;>dsimp only<;>omega
theorem ax.Lh.act (b:Bound) (d:Int):(ax.act b d).Lh:=by
 unfold ax.act
 constructor<;>dsimp only<;>omega
theorem PF (a:Option Int):maxO a none=a:=by cases a<;>rfl
theorem OU (a:Option Int):maxO none a=a:=by cases a<;>rfl
theorem PC (a:Option Int):minO a none=a:=by cases a<;>rfl
theorem OT (a:Option Int):minO none a=a:=by cases a<;>rfl
theorem ET (a:Option Int):a.map (fun l=>l-0)=a:=by cases a<;>simp
theorem ax.AB {a:ax}(x:a.Lh):ax.zero.seq a=a:=by
 obtain⟨_,_,_,_⟩:=x
 unfold ax.seq ax.zero
 apply ax.ext'<;>dsimp only
 ·rw [OU,ET]
 ·rw [OT,ET]
 ·omega
 ·omega
 ·omega
theorem ax.Lk {a:ax}(x:a.Lh):a.seq ax.zero=a:=by
 obtain⟨_,_,_,_⟩:=x
 unfold ax.seq ax.zero
 apply ax.ext'<;>dsimp only
 ·rw [Option.map_none,PF]
 ·rw [Option.map_none,PC]
 ·omega
 ·omega
 ·omega
theorem ax.seq_assoc (a b c:ax):(a.seq b).seq c=a.seq (b.seq c):=by
 unfold ax.seq
 apply ax.ext'<;>dsimp only
 ·cases a.lo<;>cases b.lo<;>cases c.lo<;>simp only [maxO,Option.map]<;>(try rfl)<;>congr 1<;>omega
 ·cases a.hi<;>cases b.hi<;>cases c.hi<;>simp only [minO,Option.map]<;>(try rfl)<;>congr 1<;>omega
 ·omega
 ·omega
 ·omega
theorem seq_assoc {a b c:Sum}(ha:Wf a) (hb:Wf b) (hc:Wf c):seqSum (seqSum a b) c=seqSum a (seqSum b c):=by
 refine(Wf.seq (Wf.seq ha hb) hc).ext (Wf.seq ha (Wf.seq hb hc)) ?_ fun k hk=>?_
 ·show a.len+b.len+c.len=a.len+(b.len+c.len);omega
 ·rw [dI (Wf.seq ha hb) hc hk,dI ha hb hk,dI ha (Wf.seq hb hc) hk,dI hb hc hk,ax.seq_assoc]
def Lh (s:Sum):Prop:=∀ k,k<8->(sp s k).Lh
theorem O0 {a:Sum}(ha:Wf a) (l:Lh a):seqSum {} a=a:=by
 refine(Wf.seq kL ha).ext ha ?_ fun k hk=>?_
 ·show 0+a.len=a.len;omega
 ·rw [dI kL ha hk,dX,ax.AB (l k hk)]
def bX (acts:List Act):Prop:=∀ a∈acts,a.box.length=8/\a.add.length=8
theorem Gx {acts:List Act}(h:bX acts) (i:Nat):Wf (((acts[i]?).map actSum).getD {})/\Lh (((acts[i]?).map actSum).getD {}):=by
 cases e:acts[i]? with
 | none=>exact⟨kL,fun k _=>by show(sp {} k).Lh;rw [dX];exact ax.Lh.zero⟩
 | some a=>
  have ha:=h a (mem_of_getElem? e)
  refine⟨Wf.act ha.1 ha.2,fun k hk=>?_⟩
  show(sp (actSum a) k).Lh
  rw [tf ha.2 hk]
  exact ax.Lh.act _ _
theorem Lh.rep {s:Sum}(h:Wf s) (l:Lh s) (n:Nat):Lh (repSum n s):=fun k hk=>by
 by_cases hn:n=0
 ·subst hn
  show(sp {} k).Lh
  rw [dX];exact ax.Lh.zero
 ·rw [mj h hn hk]
  exact(l k hk).rep _
mutual
theorem cU {acts:List Act}(h:bX acts):∀ i:Item,Wf (sumItem acts i)/\Lh (sumItem acts i)
 | .act i=>by unfold sumItem;exact Gx h i
 | .rep n l=>by
  unfold sumItem
  have x:=bU h l
  exact⟨x.1.rep n,Lh.rep x.1 x.2 n⟩
theorem bU {acts:List Act}(h:bX acts):∀ l:Items,Wf (sumItems acts l)/\Lh (sumItems acts l)
 | .nil=>by
  unfold sumItems
  exact⟨kL,fun k _=>by rw [dX];exact ax.Lh.zero⟩
 | .cons i r=>by
  unfold sumItems
  have x:=cU h i
  have y:=bU h r
  refine⟨x.1.seq y.1,fun k hk=>?_⟩
  rw [dI x.1 y.1 hk]
  exact(x.2 k hk).seq (y.2 k hk)
end
def listOf:Items->List Item
 | .nil=>[]
 | .cons i r=>i::listOf r
theorem gJ:∀ l:Items,itemsOf (listOf l)=l
 | .nil=>rfl
 | .cons i r=>by unfold listOf itemsOf;rw [gJ r]
theorem EW:∀ l:List Item,listOf (itemsOf l)=l
 |[]=>rfl
 | i::r=>by unfold itemsOf listOf;rw [EW r]
theorem Ll {a:Sum}(ha:Wf a) (l:Lh a):seqSum a {} = a:=by
 refine(Wf.seq ha kL).ext ha ?_ fun k hk=>?_
 ·show a.len+0=a.len;omega
 ·rw [dI ha kL hk,dX,ax.Lk (l k hk)]
theorem Lh.seq {a b:Sum}(ha:Wf a) (hb:Wf b) (la:Lh a) (lb:Lh b):Lh (seqSum a b):=fun k hk=>by
 rw [dI ha hb hk]
 exact(la k hk).seq (lb k hk)
theorem HD {acts:List Act}(h:bX acts):∀(l:List Item) (acc:Sum),Wf acc->Lh acc->(l.map (sumItem acts)).foldl seqSum acc=seqSum acc (sumItems acts (itemsOf l))
 |[],acc,rK,la=>(Ll rK la).symm
 | i::r,acc,rK,la=>by
  have x:=cU h i
  have y:=bU h (itemsOf r)
  rw [map_cons,foldl_cons,HD h r _ (rK.seq x.1) (Lh.seq rK x.1 la x.2)]
  show _=seqSum acc (seqSum (sumItem acts i) (sumItems acts (itemsOf r)))
  rw [seq_assoc rK x.1 y.1]
theorem Vt {acts:List Act}(h:bX acts) (l:List Item):(l.map (sumItem acts)).foldl seqSum {} = sumItems acts (itemsOf l):=by
 have y:=bU h (itemsOf l)
 rw [HD h l {} kL (fun k _=>by rw [dX];exact ax.Lh.zero),O0 y.1 y.2]
theorem SG {rs:List Int}{box:List Bound}(h1:rs.length=8) (h2:box.length=8):fits rs box=true↔∀ k,k<8->within (aF rs k) (bg box k)=true:=by
 unfold fits
 rw [all_eq_true]
 constructor
 ·intro h k hk
  have hz:(rs.zip box)[k]? = some (aF rs k,bg box k):=by
   unfold aF bg
   rw [getElem?_zip_eq_some,getD_eq_getElem?_getD,getD_eq_getElem?_getD,getElem?_eq_getElem (by omega),getElem?_eq_getElem (by omega)]
   exact⟨rfl,rfl⟩
  exact h _ (mem_of_getElem? hz)
 ·intro h p hp
  obtain⟨k,hk⟩:=List.getElem?_of_mem hp
  obtain⟨e1,e2⟩:=getElem?_zip_eq_some.mp hk
  have eE:k<8:=by
   have:=(List.getElem?_eq_some_iff.mp e1).1
   omega
  have:=h k eE
  unfold aF bg at this
  rw [getD_eq_getElem?_getD,getD_eq_getElem?_getD,e1,e2] at this
  exact this
theorem n6 {rs:List Int}{s:Sum}(h1:rs.length=8) (h2:Wf s):fits rs s.box=true↔∀ k,k<8->(sp s k).ok (aF rs k)=true:=SG h1 h2.box
theorem fi (a:ax) (r:Int):a.ok r=true↔(∀ l,a.lo=some l->l<=r)/\(∀ h,a.hi=some h->r<=h):=by
 unfold ax.ok within
 cases a.lo<;>cases a.hi<;>simp
theorem xQ (a b:ax) (r:Int):(a.seq b).ok r=(a.ok r&&b.ok (r+a.add)):=by
 rw [Bool.eq_iff_iff,Bool.and_eq_true,fi,fi,fi]
 unfold ax.seq
 dsimp only
 cases a.lo<;>cases b.lo<;>cases a.hi<;>cases b.hi<;>simp [maxO,minO]<;>omega
theorem gH {a b:List Int}(ha:a.length=8) (hb:b.length=8):(plus a b).length=8:=by unfold plus;simp [ha,hb]
theorem eC {a:List Int}{n:Int}(ha:a.length=8):(times n a).length=8:=by unfold times;simp [ha]
theorem ko {a b:List Int}(ha:a.length=8) (hb:b.length=8){k:Nat}(hk:k<8):aF (plus a b) k=aF a k+aF b k:=j7 ha hb hk
theorem kZ {a:List Int}{n:Int}(ha:a.length=8){k:Nat}(hk:k<8):aF (times n a) k=n*aF a k:=map_getD ha hk
theorem lL {a b:List Int}(ha:a.length=8) (hb:b.length=8) (h:∀ k,k<8->aF a k=aF b k):a=b:=rP (d:=0) (by omega) fun k hk=>h k (by omega)
theorem SF {rs:List Int}{a b:Sum}(h1:rs.length=8) (ha:Wf a) (hb:Wf b):fits rs (seqSum a b).box=(fits rs a.box&&fits (plus rs a.add) b.box):=by
 rw [Bool.eq_iff_iff,Bool.and_eq_true,n6 h1 (ha.seq hb),n6 h1 ha,n6 (gH h1 ha.add) hb]
 constructor
 ·intro h
  refine⟨fun k hk=>?_,fun k hk=>?_⟩
  ·have:=h k hk
   rw [dI ha hb hk,xQ,Bool.and_eq_true] at this
   exact this.1
  ·have:=h k hk
   rw [dI ha hb hk,xQ,Bool.and_eq_true] at this
   rw [ko h1 ha.add hk]
   exact this.2
 ·intro ⟨x,y⟩ k hk
  rw [dI ha hb hk,xQ,Bool.and_eq_true]
  have:=y k hk
  rw [ko h1 ha.add hk] at this
  exact⟨x k hk,this⟩
theorem vb {rs:List Int}(h1:rs.length=8):fits rs free=true:=(n6 (s:={}) h1 kL).mpr fun k _=>by rw [dX];rfl
def eS (n:Nat):Option Nat->Prop
 | none=>True
 | some k=>n<=k
theorem uA (n:Nat):∀ l:List (Option Nat),eS n (least l)↔∀ x∈l,eS n x
 |[]=>by simp [least,eS]
 | none::r=>by
  have:=uA n r
  simp only [least,mem_cons,forall_eq_or_imp]
  rw [this]
  simp [eS]
 | some a::r=>by
  have:=uA n r
  simp only [least,mem_cons,forall_eq_or_imp]
  rw [←this]
  cases least r with
  | none=>simp [eS]
  | some b=>simp only [eS];omega
theorem pB {j:Nat}:∀ {l:List (Option Nat)},least l=some j->some j∈l
 |[],h=>by simp [least] at h
 | none::r,h=>mem_cons_of_mem _ (pB (l:=r) h)
 | some a::r,h=>by
  simp only [least] at h
  cases e:least r with
  | none=>rw [e] at h;dsimp only at h;cases h;exact mem_cons_self
  | some b=>
   rw [e] at h
   dsimp only at h
   have h:=Option.some.inj h
   by_cases zt:a<=b
   ·have:a=j:=by omega
    subst this;exact mem_cons_self
   ·have:b=j:=by omega
    subst this;exact mem_cons_of_mem _ (pB e)
theorem vi {x d:Int}{n:Nat}(hx:0<=x) (hd:0<d):n<=(x / d).toNat+1↔((n:Int)-1)*d<=x:=by
 have h0:0<=x / d:=Int.ediv_nonneg hx (Int.le_of_lt hd)
 have:((n:Int)-1<=x / d)↔((n:Int)-1)*d<=x:=Int.le_ediv_iff_mul_le hd
 omega
theorem xZ {a:ax}{r:Int}{n:Nat}(hn:n≠0):eS n (a.often r)↔(a.rep n).ok r=true:=by
 rw [fi]
 unfold ax.often oftenB
 rw [uA]
 simp only [mem_cons,not_mem_nil,or_false,forall_eq_or_imp,forall_eq]
 have hz:(0:Int)<=(n:Int)-1:=by omega
 unfold ax.rep
 dsimp only
 rw [ER hz,ES hz]
 apply and_congr
 ·cases a.lo with
  | none=>simp [eS]
  | some l=>
   dsimp only [Option.map]
   split
   ·rename_i h
    simp only [eS]
    constructor
    ·omega
    ·intro q
     have:=q _ rfl
     split at this
     ·rename_i hd
      have:=mul_neg' hz hd
      omega
     ·omega
   ·rename_i h
    split
    ·rename_i hd
     simp only [eS]
     rw [vi (by omega) (by omega)]
     have e:((n:Int)-1)*-a.add=-(((n:Int)-1)*a.add):=Int.mul_neg _ _
     rw [e]
     constructor
     ·intro q l' e';cases e';omega
     ·intro q;have:=q _ rfl;omega
    ·simp only [eS,true_iff]
     intro l' e';cases e';omega
 ·cases a.hi with
  | none=>simp [eS]
  | some l=>
   dsimp only [Option.map]
   split
   ·rename_i h
    simp only [eS]
    constructor
    ·omega
    ·intro q
     have:=q _ rfl
     split at this
     ·rename_i hd
      have:=mul_pos' hz (Int.le_of_lt hd)
      omega
     ·omega
   ·rename_i h
    split
    ·rename_i hd
     simp only [eS]
     rw [vi (by omega) (by omega)]
     constructor
     ·intro q l' e';cases e';omega
     ·intro q;have:=q _ rfl;omega
    ·simp only [eS,true_iff]
     intro l' e';cases e';omega
theorem Ow {a:ax}{r:Int}{j:Nat}(h:a.often r=some j):a.ok (r+j*a.add)=false:=by
 unfold ax.often oftenB at h
 have hm:=pB h
 have hf:¬ a.ok (r+j*a.add)=true:=by
  rw [fi]
  intro ⟨q1,q2⟩
  simp only [mem_cons,not_mem_nil,or_false] at hm
  rcases hm with hm | hm
  ·cases e:a.lo with
   | none=>rw [e] at hm;cases hm
   | some l=>
    rw [e] at hm
    have q:=q1 l e
    dsimp only at hm
    split at hm
    ·have:j=0:=Option.some.inj hm
     subst this
     simp at q
     omega
    ·split at hm
     ·rename_i h1 h2
      have hj:j=((r-l) / (-a.add)).toNat+1:=Option.some.inj hm
      have:=(vi (x:=r-l) (d:=-a.add) (n:=j+1) (by omega) (by omega)).mpr (by
       have e:(((j+1:Nat):Int)-1)*-a.add=-((j:Int)*a.add):=by
        rw [Int.mul_neg];congr 2;omega
       rw [e];omega)
      omega
     ·cases hm
  ·cases e:a.hi with
   | none=>rw [e] at hm;cases hm
   | some l=>
    rw [e] at hm
    have q:=q2 l e
    dsimp only at hm
    split at hm
    ·have:j=0:=Option.some.inj hm
     subst this
     simp at q
     omega
    ·split at hm
     ·rename_i h1 h2
      have hj:j=((l-r) / a.add).toNat+1:=Option.some.inj hm
      have:=(vi (x:=l-r) (d:=a.add) (n:=j+1) (by omega) (by omega)).mpr (by
       have e:(((j+1:Nat):Int)-1)*a.add=((j:Int)*a.add):=by
        congr 1;omega
       rw [e];omega)
      omega
     ·cases hm
 simpa using hf
theorem uc {rs:List Int}{s:Sum}(h1:rs.length=8) (h2:Wf s):often rs s=least ((range 8).map fun k=>(sp s k).often (aF rs k)):=by
 unfold often
 congr 1
 apply ext_getElem
 ·simp [h1,h2.box,h2.add]
 ·intro k k1 k2
  simp [h1,h2.box,h2.add] at k1
  simp only [getElem_map,List.getElem_zip,getElem_range]
  unfold ax.often sp aF bg
  dsimp only
  rw [getD_eq_getElem?_getD,getD_eq_getElem?_getD,getD_eq_getElem?_getD,getElem?_eq_getElem (by omega),getElem?_eq_getElem (by rw [h2.box];omega),getElem?_eq_getElem (by rw [h2.add];omega)]
  rfl
theorem ub {rs:List Int}{s:Sum}(h1:rs.length=8) (h2:Wf s) (n:Nat):eS n (often rs s)↔fits rs (repSum n s).box=true:=by
 by_cases hn:n=0
 ·subst hn
  have:fits rs (repSum 0 s).box=true:=vb h1
  rw [this]
  cases often rs s<;>simp [eS]
 ·rw [uc h1 h2,uA,n6 h1 (h2.rep n)]
  constructor
  ·intro h k hk
   rw [mj h2 hn hk]
   exact(xZ hn).mp (h _ (mem_map.mpr ⟨k,mem_range.mpr hk,rfl⟩))
  ·intro h x hx
   obtain⟨k,hk,rfl⟩:=mem_map.mp hx
   have hk:=mem_range.mp hk
   have:=h k hk
   rw [mj h2 hn hk] at this
   exact(xZ hn).mpr this
theorem Oz {rs:List Int}{s:Sum}(h1:rs.length=8) (h2:Wf s){j:Nat}(h:often rs s=some j):fits (plus rs (times j s.add)) s.box=false:=by
 rw [uc h1 h2] at h
 obtain⟨k,hk,e⟩:=mem_map.mp (pB h)
 have hk:=mem_range.mp hk
 have:=Ow e
 have hf:¬ fits (plus rs (times j s.add)) s.box=true:=by
  rw [n6 (gH h1 (eC h2.add)) h2]
  intro q
  have q:=q k hk
  rw [ko h1 (eC h2.add) hk,kZ h2.add hk] at q
  rw [show aF s.add k=(sp s k).add from rfl] at q
  rw [this] at q
  cases q
 simpa using hf
theorem fZ {s:Sum}(h:Wf s):repSum 1 s=s:=by
 refine(h.rep 1).ext h ?_ fun k hk=>?_
 ·show 1*s.len=s.len;omega
 ·rw [mj h (by decide) hk]
  unfold ax.rep
  apply ax.ext'<;>dsimp only<;>simp
theorem Ou {rs:List Int}{s:Sum}(h1:rs.length=8) (h2:Wf s) (h:fits rs s.box=false):often rs s=some 0:=by
 have:¬ eS 1 (often rs s):=fun q=>by
  have:=(ub h1 h2 1).mp q
  rw [fZ h2,h] at this
  cases this
 cases e:often rs s with
 | none=>rw [e] at this;exact absurd trivial this
 | some j=>
  rw [e] at this
  have:¬ 1<=j:=this
  congr 1
  omega
theorem Jf {n:Nat}{o:Option Nat}:upTo n o=n↔eS n o:=by
 cases o<;>simp only [upTo,eS]<;>omega
theorem Je {n:Nat}{o:Option Nat}:upTo n o<=n:=by
 cases o<;>simp only [upTo]<;>omega
theorem Jd {n:Nat}{o:Option Nat}(h:upTo n o≠n):o=some (upTo n o):=by
 cases o with
 | none=>exact absurd rfl h
 | some k=>simp only [upTo] at *;congr 1;omega
theorem qe {s:Sum}(h:Wf s) (n:Nat):(repSum n s).add=times n s.add:=by
 unfold repSum
 split
 ·rename_i e
  subst e
  refine lL rfl (eC h.add) fun k hk=>?_
  rw [kZ h.add hk]
  show aF still k=((0:Nat):Int)*_
  unfold aF still
  rw [kg]
  simp
 ·rfl
theorem nI (s:Sum) (n:Nat):(repSum n s).len=n*s.len:=by
 unfold repSum
 split
 ·rename_i e;subst e;simp
 ·rfl
theorem ki {rs:List Int}(h:rs.length=8):plus rs still=rs:=lL (gH h rfl) h fun k hk=>by
 rw [ko h rfl hk]
 have:aF still k=0:=by unfold aF still;rw [kg]
 omega
theorem DA {a b c:List Int}(ha:a.length=8) (hb:b.length=8) (hc:c.length=8):plus (plus a b) c=plus a (plus b c):=lL (gH (gH ha hb) hc) (gH ha (gH hb hc)) fun k hk=>by
 rw [ko (gH ha hb) hc hk,ko ha hb hk,ko ha (gH hb hc) hk,ko hb hc hk];omega
mutual
theorem xx {acts:List Act}(h:bX acts):∀(i:Item) (rs:List Int),rs.length=8->
  (reachItem acts rs i).2.2=fits rs (sumItem acts i).box/\(reachItem acts rs i).2.1.length=8 /\
  (fits rs (sumItem acts i).box=true->(reachItem acts rs i).1=(sumItem acts i).len/\(reachItem acts rs i).2.1=plus rs (sumItem acts i).add) /\
  (fits rs (sumItem acts i).box=false->(reachItem acts rs i).1<(sumItem acts i).len)
 | .act i,rs,hr=>by
  have x:=Gx h i
  unfold reachItem sumItem
  dsimp only
  split
  ·rename_i e
   exact⟨e.symm,gH hr x.1.add,fun _=>⟨rfl,rfl⟩,fun q=>by rw [e] at q;cases q⟩
  ·rename_i e
   have e:fits rs (((acts[i]?).map actSum).getD {}).box=false:=by simpa using e
   refine⟨e.symm,hr,fun q=>(by rw [e] at q;cases q),fun _=>?_⟩
   cases ea:acts[i]? with
   | none=>
    rw [ea] at e
    have:fits rs free=false:=e
    rw [vb hr] at this
    cases this
   | some a=>show 0<1;decide
 | .rep n l,rs,hr=>by
  have x:=bU h l
  have y:=gC h l
  unfold reachItem sumItem
  dsimp only
  have hf:=ub hr x.1 n
  rw [←Jf] at hf
  have F6:=gH hr (eC (n:=((upTo n (often rs (sumItems acts l)):Nat):Int)) x.1.add)
  split
  ·rename_i e
   have e':=hf.mp e
   rw [e']
   refine⟨rfl,F6,fun _=>⟨(nI _ _).symm,?_⟩,fun q=>by cases q⟩
   rw [qe x.1,e]
  ·rename_i e
   have e':fits rs (repSum n (sumItems acts l)).box=false:=by
    have:¬ fits rs (repSum n (sumItems acts l)).box=true:=fun q=>e (hf.mpr q)
    simpa using this
   have hl:=Je (n:=n) (o:=often rs (sumItems acts l))
   have z:=y _ F6
   have nf:=Oz hr x.1 (Jd e)
   rw [e']
   refine⟨rfl,z.2.1,fun q=>(by cases q),fun _=>?_⟩
   rw [nI]
   have z4:=z.2.2.2 nf
   have hm:(upTo n (often rs (sumItems acts l))+1)*(sumItems acts l).len<=n*(sumItems acts l).len:=Nat.mul_le_mul_right _ (by omega)
   rw [Nat.add_mul] at hm
   dsimp only
   omega
theorem gC {acts:List Act}(h:bX acts):∀(l:Items) (rs:List Int),rs.length=8->
  (reachItems acts rs l).2.2=fits rs (sumItems acts l).box/\(reachItems acts rs l).2.1.length=8 /\
  (fits rs (sumItems acts l).box=true->(reachItems acts rs l).1=(sumItems acts l).len/\(reachItems acts rs l).2.1=plus rs (sumItems acts l).add) /\
  (fits rs (sumItems acts l).box=false->(reachItems acts rs l).1<(sumItems acts l).len)
 | .nil,rs,hr=>by
  unfold reachItems sumItems
  dsimp only
  have e:=vb hr
  refine⟨e.symm,hr,fun _=>⟨rfl,(ki hr).symm⟩,fun q=>?_⟩
  rw [e] at q;cases q
 | .cons i r,rs,hr=>by
  have xi:=cU h i
  have xr:=bU h r
  have y:=xx h i rs hr
  unfold reachItems sumItems
  dsimp only
  rw [SF hr xi.1 xr.1]
  cases e:fits rs (sumItem acts i).box with
  | false=>
   rw [e] at y
   rw [if_pos y.1,Bool.false_and]
   refine⟨y.1,y.2.1,fun q=>(by cases q),fun _=>?_⟩
   have:=y.2.2.2 rfl
   show _<(sumItem acts i).len+(sumItems acts r).len
   omega
  | true=>
   rw [e] at y
   rw [if_neg (by rw [y.1];decide),Bool.true_and]
   have y3:=y.2.2.1 rfl
   have z:=gC h r _ y.2.1
   rw [y3.2] at z ⊢
   rw [y3.1]
   dsimp only
   refine⟨z.1,z.2.1,fun q=>⟨?_,?_⟩,fun q=>?_⟩
   ·rw [(z.2.2.1 q).1];rfl
   ·rw [(z.2.2.1 q).2]
    exact DA hr xi.1.add xr.1.add
   ·have:=z.2.2.2 q
    show _<(sumItem acts i).len+(sumItems acts r).len
    omega
end
theorem Ln (a b:Sum):(seqSum a b).add=plus a.add b.add:=rfl
theorem Lm (a b:Sum):(seqSum a b).len=a.len+b.len:=rfl
mutual
theorem ye {acts:List Act}(h:bX acts):∀ i:Item,(sumItem acts i).len=0->(sumItem acts i).add=still
 | .act i,e=>by
  unfold sumItem at *
  cases ea:acts[i]? with
  | none=>rfl
  | some a=>rw [ea] at e;exact absurd (show(1:Nat)=0 from e) (by decide)
 | .rep n l,e=>by
  have x:=bU h l
  unfold sumItem at *
  rw [nI] at e
  rw [qe x.1]
  have hs:aF still=fun _=>0:=by funext k;unfold aF still;rw [kg]
  rcases Nat.mul_eq_zero.mp e with e | e
  ·subst e
   refine lL (eC x.1.add) rfl fun k hk=>?_
   rw [kZ x.1.add hk,hs];simp
  ·rw [Ex h l e]
   refine lL rfl rfl fun k hk=>?_
   rw [kZ rfl hk,hs];simp
theorem Ex {acts:List Act}(h:bX acts):∀ l:Items,(sumItems acts l).len=0->(sumItems acts l).add=still
 | .nil,_=>rfl
 | .cons i r,e=>by
  unfold sumItems at *
  rw [Lm] at e
  rw [Ln,ye h i (by omega),Ex h r (by omega)]
  exact ki rfl
end
theorem qo {a:List Int}(h:a.length=8):times 0 a=still:=by
 have hs:aF still=fun _=>0:=by funext k;unfold aF still;rw [kg]
 refine lL (eC h) rfl fun k hk=>?_
 rw [kZ h hk,hs];simp
mutual
theorem Ik {acts:List Act}(h:bX acts):∀(i:Item) (rs:List Int),rs.length=8->afterItem acts rs 0 i=rs
 | .act i,rs,hr=>by unfold afterItem;rw [if_pos rfl]
 | .rep n l,rs,hr=>by
  have x:=bU h l
  unfold afterItem
  dsimp only
  split
  ·rename_i e
   have:(sumItem acts (.rep n l)).add=still:=ye h (.rep n l) (by unfold sumItem;rw [nI];omega)
   unfold sumItem at this
   rw [qe x.1] at this
   rw [this,ki hr]
  ·rw [Nat.zero_mod]
   have:times (((0:Nat):Int) / ((sumItems acts l).len:Int)) (sumItems acts l).add=still:=by
    have e0:((0:Nat):Int) / ((sumItems acts l).len:Int)=0:=Int.zero_ediv _
    rw [e0];exact qo x.1.add
   rw [this,ki hr]
   exact Ah h l rs hr
theorem Ah {acts:List Act}(h:bX acts):∀(l:Items) (rs:List Int),rs.length=8->afterItems acts rs 0 l=rs
 | .nil,rs,hr=>by unfold afterItems;rfl
 | .cons i r,rs,hr=>by
  unfold afterItems
  dsimp only
  split
  ·rename_i e
   rw [ye h i (by omega),ki hr,Nat.zero_sub]
   exact Ah h r rs hr
  ·exact Ik h i rs hr
end
theorem Io {acts:List Act}(h:bX acts):∀(l:Items) (rs:List Int),rs.length=8->afterItems acts rs (sumItems acts l).len l=plus rs (sumItems acts l).add
 | .nil,rs,hr=>by unfold afterItems sumItems;exact(ki hr).symm
 | .cons i r,rs,hr=>by
  have xi:=cU h i
  have xr:=bU h r
  unfold afterItems
  dsimp only
  have e0:sumItems acts (.cons i r)=seqSum (sumItem acts i) (sumItems acts r):=by rw [sumItems]
  have e:(sumItems acts (.cons i r)).len=(sumItem acts i).len+(sumItems acts r).len:=by rw [e0];rfl
  rw [e,if_pos (by omega),Nat.add_sub_cancel_left,Io h r _ (gH hr xi.1.add),DA hr xi.1.add xr.1.add,e0]
  rfl
theorem wj (acts:List Act):∀(r:Run) (rs rs':List Int),settle acts rs false r=settle acts rs' false r
 |[],_,_=>rfl
 | .item i::r,rs,rs'=>by unfold settle;dsimp only;rw [Bool.false_and,Bool.false_and,wj acts r _ (plus rs' (sumItem acts i).add)]
 | .star b::r,rs,rs'=>by unfold settle;dsimp only;rw [if_pos (Or.inl rfl),if_pos (Or.inl rfl),wj acts r rs rs']
inductive Sg where
 | name | num | op | cl | star | fz
 deriving DecidableEq
structure bY where
 sg:Sg
 pl:Nat
 ls:List Nat
def isNumeral (d:List Nat):Bool:=if d.head? = some 48 then decide (d.length=1) else decide (d.length<=10)&&decide (number d<=MOST)
def signOf (c:Nat):Sg:=if c=40 then .op else if c=41 then .cl else if c=42 then .star else .fz
def bO (p:Nat) (t:List Nat):bY:=
 let c:=t.headD 0
 if small c=true then⟨.name,p,t.takeWhile small⟩
 else if digit c=true then⟨if isNumeral (t.takeWhile digit)=true then .num else .fz,p,t.takeWhile digit⟩
 else⟨signOf c,p,[c]⟩
def dv:Nat->Nat->List Nat->List bY
 | 0,_,_=>[]
 | k+1,p,t=>match t with
  |[]=>[]
  | c::r=>if c=32 then dv k (p+1) r else bO p (c::r)::dv k (p+(bO p (c::r)).ls.length) ((c::r).drop (bO p (c::r)).ls.length)
def bY.tok (x:bY):Tok:=match x.sg with
 | .name=>.name x.ls
 | .num=>.num (number x.ls)
 | .op=>.open_
 | .cl=>.close
 | .star=>.star
 | .fz=>.bad
def iu:List bY->List (Tok×Nat)
 |[]=>[]
 | x::r=>if x.sg=.fz then [(.bad,x.pl)] else(x.tok,x.pl)::iu r
theorem Eh:∀(d:List Nat) (n:Nat),n*10 ^ d.length<=d.foldl (fun n c=>10*n+(c-48)) n
 |[],n=>by simp
 | c::r,n=>by
  have:=Eh r (10*n+(c-48))
  rw [foldl_cons,length_cons,Nat.pow_succ]
  refine Nat.le_trans ?_ this
  have e:n*(10 ^ r.length*10)=(10*n)*10 ^ r.length:=by
   rw [Nat.mul_comm (10 ^ r.length) 10,←Nat.mul_assoc,Nat.mul_comm n 10]
  rw [e]
  exact Nat.mul_le_mul_right _ (by omega)
theorem yF {d:List Nat}{c:Nat}(h:d.head? = some c) (hc:digit c=true):isNumeral d=false↔(1<d.length/\c=48)\/MOST<number d:=by
 unfold isNumeral
 rw [h]
 have hl:1<=d.length:=by
  cases d with
  | nil=>cases h
  | cons a b=>simp
 split
 ·rename_i e
  have e:=Option.some.inj e
  subst e
  by_cases h1:d.length=1
  ·have:d=[48]:=by
    match d,h1,h with
    |[a],_,h=>cases h;rfl
   subst this
   simp [number,MOST]
  ·simp [h1]
   left;omega
 ·rename_i e
  have e:c≠48:=fun q=>e (by rw [q])
  have hd:49<=c:=by
   unfold digit at hc
   simp at hc
   omega
  by_cases h2:d.length<=10
  ·simp [h2,e]
  ·simp [h2]
   right
   match d,h,h2 with
   | a::r,h,h2=>
    cases h
    have:=Eh r (10*0+(c-48))
    unfold number MOST
    rw [foldl_cons]
    refine Nat.lt_of_lt_of_le ?_ this
    have h3:10 ^ 10<=10 ^ r.length:=Nat.pow_le_pow_right (by decide) (by simp at h2;omega)
    have h4:1*10 ^ r.length<=(10*0+(c-48))*10 ^ r.length:=Nat.mul_le_mul_right _ (by omega)
    omega
theorem ka:∀(k p:Nat) (t:List Nat),tokens k p t=iu (dv k p t)
 | 0,_,_=>rfl
 | k+1,p,[]=>rfl
 | k+1,p,c::r=>by
  unfold tokens dv
  by_cases Gb:c=32
  ·simp only [Gb,if_true]
   exact ka k _ _
  ·simp only [Gb,if_false]
   have hh:((c::r).headD 0)=c:=rfl
   by_cases dS:c=40
   ·subst dS
    have e:bO p (40::r)=⟨.op,p,[40]⟩:=rfl
    rw [e]
    simp only [if_true,iu,bY.tok]
    rw [ka k]
    rfl
   by_cases lT:c=41
   ·subst lT
    have e:bO p (41::r)=⟨.cl,p,[41]⟩:=rfl
    rw [e]
    simp only [if_true,iu,bY.tok]
    rw [ka k]
    rfl
   by_cases lS:c=42
   ·subst lS
    have e:bO p (42::r)=⟨.star,p,[42]⟩:=rfl
    rw [e]
    simp only [if_true,iu,bY.tok]
    rw [ka k]
    rfl
   simp only [dS,lT,lS,if_false]
   by_cases hd:digit c=true
   ·have hs:¬ small c=true:=by
     unfold digit at hd;unfold small;simp at *;omega
    have e:bO p (c::r)=⟨if isNumeral ((c::r).takeWhile digit)=true then .num else .fz,p,(c::r).takeWhile digit⟩:=by
     unfold bO;simp only [hh,hs,hd,if_true];rfl
    have dC:((c::r).takeWhile digit).head? = some c:=by simp [List.takeWhile,hd]
    rw [e,if_pos hd]
    by_cases hn:isNumeral ((c::r).takeWhile digit)=true
    ·have hb:¬ ((1<((c::r).takeWhile digit).length/\c=48)\/MOST<number ((c::r).takeWhile digit)):=fun q=>by
      have:=(yF dC hd).mpr q
      rw [this] at hn;cases hn
     rw [if_neg hb,if_pos hn]
     show _=iu (_::_)
     unfold iu
     rw [if_neg (fun q=>by cases q)]
     rw [ka k]
     rfl
    ·have hb:=(yF dC hd).mp (by simpa using hn)
     rw [if_pos hb,if_neg hn]
     rfl
   ·rw [if_neg hd]
    by_cases hs:small c=true
    ·have e:bO p (c::r)=⟨.name,p,(c::r).takeWhile small⟩:=by
      unfold bO;simp only [hh,hs,if_true]
     rw [e,if_pos hs]
     show _=iu (_::_)
     unfold iu
     rw [if_neg (fun q=>by cases q),ka k]
     rfl
    ·have e:bO p (c::r)=⟨.fz,p,[c]⟩:=by
      unfold bO signOf;simp only [hh,hs,hd,dS,lT,lS,if_false];rfl
     rw [e,if_neg hs]
     rfl
theorem vP {p:Nat->Bool}{c:Nat}{r:List Nat}(h:p c=true):1<=((c::r).takeWhile p).length:=by
 simp [List.takeWhile,h]
theorem qm (p:Nat) (c:Nat) (r:List Nat):1<=(bO p (c::r)).ls.length:=by
 unfold bO
 have hh:((c::r).headD 0)=c:=rfl
 simp only [hh]
 split
 ·rename_i h;exact vP h
 ·split
  ·rename_i h;exact vP h
  ·simp
theorem oT:∀(k p:Nat) (t:List Nat),(dv k p t).length<=t.length
 | 0,_,t=>Nat.zero_le _
 | k+1,p,[]=>Nat.le_refl _
 | k+1,p,c::r=>by
  unfold dv
  dsimp only
  split
  ·have:=oT k (p+1) r
   simp only [length_cons];omega
  ·have h1:=qm p c r
   have:=oT k (p+(bO p (c::r)).ls.length) ((c::r).drop (bO p (c::r)).ls.length)
   rw [length_drop] at this
   simp only [length_cons] at *;omega
theorem vj:∀ l:List bY,(iu l).length<=l.length
 |[]=>Nat.le_refl _
 | x::r=>by
  have:=vj r
  unfold iu
  split<;>simp only [length_cons,length_nil]<;>omega
structure aM where
 top:List Part
 aG:List (Option Nat×List Item)
 head:Option (Option Nat)
 bE:Nat
 deep:Nat
def aM.push (s:aM) (i:Item):aM:=match s.aG with
 |[]=>{ s with top:=s.top++[.item i] }
 |(h,l)::r=>{ s with aG:=(h,l++[i])::r }
def aM.close (s:aM):Option aM:=match s.aG with
 |[]=>none
 |(some n,l)::r=>some (aM.push { s with aG:=r } (.rep n (itemsOf l)))
 |(none,l)::r=>some { s with top:=s.top++[.star (itemsOf l)],aG:=r }
def bI (acts:List Act) (s:aM) (t:Tok):Option aM:=match s.head with
 | some h=>if t=.open_/\s.aG.length≠40 then some { s with aG:=(h,[])::s.aG,head:=none,deep:=max s.deep (s.aG.length+1) } else none
 | none=>match t with
  | .name w=>(actOf acts w).map fun i=>s.push (.act i)
  | .num n=>some { s with head:=some (some n) }
  | .star=>if 0<s.aG.length\/s.bE=8 then none else some { s with head:=some none,bE:=s.bE+1 }
  | .close=>s.close
  |_=>none
def cV (acts:List Act):aM->List (Tok×Nat)->Except Nat aM
 | s,[]=>.ok s
 | s,(t,p)::r=>match bI acts s t with
  | none=>.error p
  | some s'=>cV acts s' r
def aM.open? (s:aM):Bool:=s.head.isSome||decide (0<s.aG.length)
def cz (acts:List Act) (e:Nat) (s:aM) (t:List (Tok×Nat)):Except Nat aM:=match cV acts s t with
 | .error p=>.error p
 | .ok s'=>if s'.open? = true then .error e else .ok s'
theorem yo (acts:List Act) (s:aM):bI acts s .bad=none:=by
 unfold bI
 cases s.head with
 | none=>rfl
 | some h=>simp
theorem EN (acts:List Act):∀(l:List bY) (s:aM),cV acts s (l.map fun x=>(x.tok,x.pl))=cV acts s (iu l)
 |[],s=>rfl
 | x::r,s=>by
  unfold iu
  rw [map_cons]
  by_cases h:x.sg=.fz
  ·rw [if_pos h]
   have e:x.tok=.bad:=by unfold bY.tok;rw [h]
   unfold cV
   rw [e,yo]
  ·rw [if_neg h]
   unfold cV
   cases bI acts s x.tok with
   | none=>rfl
   | some s'=>exact EN acts r s'
def aM.iH (s:aM) (l:List Item):aM:=match s.aG with
 |[]=>{ s with top:=s.top++l.map .item }
 |(h,m)::r=>{ s with aG:=(h,m++l)::r }
theorem MO (s:aM):s.iH []=s:=by
 unfold aM.iH
 cases s with
 | mk top aG head bE deep=>
  cases aG with
  | nil=>simp
  | cons a r=>simp
theorem Du (s:aM) (i:Item) (l:List Item):(s.push i).iH l=s.iH (i::l):=by
 unfold aM.iH aM.push
 cases s with
 | mk top aG head bE deep=>
  cases aG with
  | nil=>simp
  | cons a r=>simp
def aM.deeper (s:aM) (n:Nat):aM:={ s with deep:=max s.deep n }
def plainHead:List (Tok×Nat)->Prop
 |(.name _,_)::_=>False
 |(.num _,_)::_=>False
 |_=>True
theorem iG (s:aM) (i:Item):(s.push i).aG.length=s.aG.length/\(s.push i).head=s.head/\(s.push i).deep=s.deep/\(s.push i).bE=s.bE:=by
 unfold aM.push
 cases s with
 | mk top aG head bE deep=>
  cases aG with
  | nil=>simp
  | cons a r=>simp
theorem jV (acts:List Act) (e:Nat) (s s':aM) (t:Tok) (p:Nat) (r:List (Tok×Nat)) (h:bI acts s t=some s'):cz acts e s ((t,p)::r)=cz acts e s' r:=by
 have:cV acts s ((t,p)::r)=cV acts s' r:=by rw [cV,h]
 unfold cz
 rw [this]
theorem nX (acts:List Act) (e:Nat) (s:aM) (t:Tok) (p:Nat) (r:List (Tok×Nat)) (h:bI acts s t=none):cz acts e s ((t,p)::r)=.error p:=by
 unfold cz cV
 rw [h]
theorem u9 (acts:List Act) (e:Nat) (s:aM) (h:s.open? = true):cz acts e s []=.error e:=by
 unfold cz cV
 dsimp only
 rw [if_pos h]
def Av (acts:List Act) (e:Nat) (s:aM) (t:List (Tok×Nat)):Except Nat (Items×Toks)->Prop
 | .ok (l,u)=>cz acts e s t=cz acts e ((s.iH (listOf l)).deeper (s.aG.length+deepItems l)) u/\plainHead u/\u.length<=t.length
 | .error p=>cz acts e s t=.error p
theorem ql (acts:List Act) (e:Nat) (s:aM) (t:List (Tok×Nat)) (hs:s.aG.length<=s.deep) (h:plainHead t):Av acts e s t (.ok (.nil,t)):=by
 refine⟨?_,h,Nat.le_refl _⟩
 unfold listOf deepItems
 rw [MO]
 have:s.deeper (s.aG.length+0)=s:=by unfold aM.deeper;cases s;simp at *;omega
 rw [this]
theorem vX (acts:List Act) (s:aM) (n:Nat) (hh:s.head=none):bI acts s (.num n)=some { s with head:=some (some n) }:=by unfold bI;rw [hh]
theorem Be (acts:List Act) (s:aM) (h:Option Nat) (t:Tok) (ht:t≠.open_):bI acts { s with head:=some h } t=none:=by
 unfold bI;dsimp only;rw [if_neg];intro q;exact ht q.1
theorem qk (acts:List Act) (e:Nat) (s:aM) (n p:Nat) (t:Tok) (q:Nat) (r:List (Tok×Nat)) (hh:s.head=none) (ht:t≠.open_):Av acts e s ((.num n,p)::(t,q)::r) (.error q):=by
 show cz acts e s _=.error q
 rw [jV acts e s _ _ p _ (vX acts s n hh)]
 exact nX acts e _ _ q r (Be acts s _ t ht)
theorem rb (acts:List Act) (e:Nat):∀(k d:Nat) (t:List (Tok×Nat)) (s:aM),s.head=none->s.aG.length+d=40->s.aG.length<=s.deep->t.length<k->
  Av acts e s t (items acts e k d t)
 | 0,d,t,s,_,_,_,hk=>absurd hk (Nat.not_lt_zero _)
 | k+1,d,[],s,hh,hd,hs,hk=>by
  unfold items
  exact ql acts e s _ hs trivial
 | k+1,d,(.name w,p)::r,s,hh,hd,hs,hk=>by
  unfold items
  dsimp only
  cases ea:actOf acts w with
  | none=>exact nX acts e s _ p r (by unfold bI;rw [hh];dsimp only;rw [ea];rfl)
  | some i=>
   dsimp only
   have st:bI acts s (.name w)=some (s.push (.act i)):=by unfold bI;rw [hh];dsimp only;rw [ea];rfl
   have ps:=iG s (.act i)
   have ih:=rb acts e k d r (s.push (.act i)) (by rw [ps.2.1];exact hh) (by rw [ps.1];exact hd) (by rw [ps.1,ps.2.2.1];exact hs) (by simp at hk;omega)
   have f1:=jV acts e s _ _ p r st
   cases ei:items acts e k d r with
   | error q=>
    rw [ei] at ih
    exact f1.trans ih
   | ok x=>
    obtain⟨l,u⟩:=x
    rw [ei] at ih
    obtain⟨i1,i2,i3⟩:=ih
    refine⟨?_,i2,by simp only [length_cons];omega⟩
    rw [f1,i1,Du,ps.1]
    show _=cz acts e ((s.iH (.act i::listOf l)).deeper (s.aG.length+deepItems (.cons (.act i) l))) u
    have:deepItems (.cons (.act i) l)=deepItems l:=by rw [deepItems,deepItem];omega
    rw [this]
 | k+1,d,(.num n,p)::(.open_,q)::r,s,hh,hd,hs,hk=>by
  unfold items
  dsimp only
  have st:=vX acts s n hh
  by_cases e0:d=0
  ·rw [if_pos e0]
   show cz acts e s _=.error q
   rw [jV acts e s _ _ p _ st]
   refine nX acts e _ _ q r ?_
   unfold bI
   dsimp only
   rw [if_neg]
   intro ⟨_,h⟩
   exact h (by omega)
  ·rw [if_neg e0]
   have mi:bI acts { s with head:=some (some n) } .open_=some { s with aG:=(some n,[])::s.aG,head:=none,deep:=max s.deep (s.aG.length+1) }:=by
    unfold bI;dsimp only;rw [if_pos ⟨rfl,by omega⟩]
   have f2:=(jV acts e s _ _ p _ st).trans (jV acts e _ _ _ q r mi)
   have ih:=rb acts e k (d-1) r { s with aG:=(some n,[])::s.aG,head:=none,deep:=max s.deep (s.aG.length+1) } rfl (by simp only [length_cons];omega) (by simp only [length_cons];omega) (by simp at hk;omega)
   cases ei:items acts e k (d-1) r with
   | error z=>rw [ei] at ih;exact f2.trans ih
   | ok x=>
    obtain⟨b,u⟩:=x
    rw [ei] at ih
    obtain⟨i1,i2,i3⟩:=ih
    have body:(aM.iH { s with aG:=(some n,[])::s.aG,head:=none,deep:=max s.deep (s.aG.length+1) } (listOf b)).deeper (((some n,[])::s.aG:List (Option Nat×List Item)).length+deepItems b)
      = { s with aG:=(some n,listOf b)::s.aG,head:=none,deep:=max s.deep (s.aG.length+(deepItems b+1)) }:=by
     unfold aM.iH aM.deeper
     simp only [nil_append,length_cons]
     congr 1
     omega
    rw [body] at i1
    have f3:=f2.trans i1
    have bad:∀(t:Tok) (z:Nat) (v:List (Tok×Nat)),bI acts { s with aG:=(some n,listOf b)::s.aG,head:=none,deep:=max s.deep (s.aG.length+(deepItems b+1)) } t=none->u=(t,z)::v->cz acts e s ((.num n,p)::(.open_,q)::r)=.error z:=fun t z v hm hu=>by
     rw [f3,hu]
     exact nX acts e _ _ z v hm
    match u,i2,i3,f3,bad with
    |[],_,_,f3,_=>exact f3.trans (u9 acts e _ (by unfold aM.open?;simp))
    |(.name _,_)::_,i2,_,_,_=>exact i2.elim
    |(.num _,_)::_,i2,_,_,_=>exact i2.elim
    |(.open_,z)::v,_,_,_,bad=>exact bad _ z v rfl rfl
    |(.star,z)::v,_,_,_,bad=>exact bad _ z v (by unfold bI;dsimp only;rw [if_pos (Or.inl (by simp))]) rfl
    |(.bad,z)::v,_,_,_,bad=>exact bad _ z v rfl rfl
    |(.close,z)::v,_,i3,f3,_=>
     dsimp only
     have mh:bI acts { s with aG:=(some n,listOf b)::s.aG,head:=none,deep:=max s.deep (s.aG.length+(deepItems b+1)) } .close
       = some (aM.push ({ s with head:=none,deep:=max s.deep (s.aG.length+(deepItems b+1)) }) (.rep n b)):=by
      unfold bI;dsimp only;unfold aM.close;dsimp only;rw [gJ]
     have f4:=f3.trans (jV acts e _ _ _ z v mh)
     have ps:=iG ({ s with head:=none,deep:=max s.deep (s.aG.length+(deepItems b+1)) }:aM) (.rep n b)
     have lM:=rb acts e k d v (aM.push ({ s with head:=none,deep:=max s.deep (s.aG.length+(deepItems b+1)) }) (.rep n b)) ps.2.1 (by rw [ps.1];exact hd) (by rw [ps.1,ps.2.2.1];dsimp only;omega) (by simp at hk i3;omega)
     cases He:items acts e k d v with
     | error z=>rw [He] at lM;exact f4.trans lM
     | ok x=>
      obtain⟨l,w⟩:=x
      rw [He] at lM
      obtain⟨j1,j2,j3⟩:=lM
      refine⟨?_,j2,by simp only [length_cons] at *;omega⟩
      rw [f4,j1,Du,ps.1]
      congr 1
      have e3:deepItems (.cons (.rep n b) l)=max (deepItems b+1) (deepItems l):=by rw [deepItems,deepItem]
      rw [e3]
      unfold aM.deeper aM.iH
      cases s with
      | mk top aG head bE deep=>
       dsimp only at hh
       subst hh
       cases aG with
       | nil=>simp only [listOf];congr 1;omega
       | cons a r=>simp only [listOf];congr 1;omega
 | k+1,d,(.num n,p)::[],s,hh,hd,hs,hk=>by
  unfold items
  show cz acts e s _=.error e
  rw [jV acts e s _ _ p _ (vX acts s n hh)]
  exact u9 acts e _ (by unfold aM.open?;simp)
 | k+1,d,(.num n,p)::(.name w,q)::r,s,hh,hd,hs,hk=>by
  unfold items
  exact qk acts e s n p _ q r hh (by simp)
 | k+1,d,(.num n,p)::(.num w,q)::r,s,hh,hd,hs,hk=>by
  unfold items
  exact qk acts e s n p _ q r hh (by simp)
 | k+1,d,(.num n,p)::(.close,q)::r,s,hh,hd,hs,hk=>by
  unfold items
  exact qk acts e s n p _ q r hh (by simp)
 | k+1,d,(.num n,p)::(.star,q)::r,s,hh,hd,hs,hk=>by
  unfold items
  exact qk acts e s n p _ q r hh (by simp)
 | k+1,d,(.num n,p)::(.bad,q)::r,s,hh,hd,hs,hk=>by
  unfold items
  exact qk acts e s n p _ q r hh (by simp)
 | k+1,d,(.open_,p)::r,s,hh,hd,hs,hk=>by
  unfold items
  exact ql acts e s _ hs trivial
 | k+1,d,(.close,p)::r,s,hh,hd,hs,hk=>by
  unfold items
  exact ql acts e s _ hs trivial
 | k+1,d,(.star,p)::r,s,hh,hd,hs,hk=>by
  unfold items
  exact ql acts e s _ hs trivial
 | k+1,d,(.bad,p)::r,s,hh,hd,hs,hk=>by
  unfold items
  exact ql acts e s _ hs trivial
def isStar (p:Part):Bool:=match p with | .star _=>true | .item _=>false
def bW (m:Run):Nat:=(m.filter isStar).length
def deepOf (m:Run):Nat:=m.foldr (fun p n=>max (deepPart p) n) 0
theorem E7:∀ l:Items,items1 l=(listOf l).map Part.item
 | .nil=>rfl
 | .cons i r=>by unfold items1 listOf;rw [E7 r];rfl
theorem qw:∀(l:Items) (m:Run),bW (items1 l++m)=bW m
 | .nil,m=>rfl
 | .cons i r,m=>by
  unfold items1
  have:=qw r m
  unfold bW at *
  rw [cons_append,filter_cons,if_neg (by simp [isStar])]
  exact this
theorem zQ:∀(l:Items) (m:Run),deepOf (items1 l++m)=max (deepItems l) (deepOf m)
 | .nil,m=>by
  unfold items1 deepItems
  simp
 | .cons i r,m=>by
  unfold items1 deepItems
  have:=zQ r m
  unfold deepOf at *
  rw [cons_append,List.foldr_cons,this]
  have e:deepPart (.item i)=deepItem i:=rfl
  rw [e]
  omega
def Aq (acts:List Act) (e:Nat) (s:aM) (t:List (Tok×Nat)):Except Nat Run->Prop
 | .ok m=>cz acts e s t=.ok { s with top:=s.top++m,bE:=s.bE+bW m,deep:=max s.deep (deepOf m) }
 | .error p=>cz acts e s t=.error p
theorem DU (acts:List Act) (e:Nat):∀(k n:Nat) (t:List (Tok×Nat)) (s:aM),s.head=none->s.aG=[]->s.bE+n=8->t.length<k->t.length<e+1->
  Aq acts e s t (parts acts e k n t)
 | 0,n,t,s,_,_,_,hk,_=>absurd hk (Nat.not_lt_zero _)
 | k+1,n,t,s,hh,hs,hn,hk,he=>by
  have it:=rb acts e (e+1) 40 t s hh (by rw [hs];rfl) (by rw [hs];exact Nat.zero_le _) he
  unfold parts
  show Aq acts e s t (match items acts e (e+1) 40 t with
   | .error p=>.error p
   | .ok (l,u)=>_)
  cases ei:items acts e (e+1) 40 t with
  | error p=>rw [ei] at it;exact it
  | ok x=>
   obtain⟨l,u⟩:=x
   rw [ei] at it
   obtain⟨i1,i2,i3⟩:=it
   dsimp only
   have body:(s.iH (listOf l)).deeper (s.aG.length+deepItems l)={ s with top:=s.top++items1 l,deep:=max s.deep (deepItems l) }:=by
    unfold aM.iH aM.deeper
    rw [hs,E7]
    simp
   rw [body] at i1
   have bad:∀(t':Tok) (z:Nat) (v:List (Tok×Nat)),bI acts { s with top:=s.top++items1 l,deep:=max s.deep (deepItems l) } t'=none->u=(t',z)::v->cz acts e s t=.error z:=fun t' z v hm hu=>by
    rw [i1,hu]
    exact nX acts e _ _ z v hm
   have vU:¬ n=0->bI acts { s with top:=s.top++items1 l,deep:=max s.deep (deepItems l) } .star=some { s with top:=s.top++items1 l,deep:=max s.deep (deepItems l),head:=some none,bE:=s.bE+1 }:=fun n0=>by
    unfold bI
    dsimp only
    rw [hh,hs]
    dsimp only
    rw [if_neg]
    intro q
    rcases q with q | q
    ·simp at q
    ·omega
   have nj:n=0->bI acts { s with top:=s.top++items1 l,deep:=max s.deep (deepItems l) } .star=none:=fun n0=>by
    unfold bI
    dsimp only
    rw [hh,hs]
    dsimp only
    rw [if_pos]
    right;omega
   have wait:∀(q:Nat) (t':Tok) (z:Nat) (v:List (Tok×Nat)),t'≠.open_->¬ n=0->u=(.star,q)::(t',z)::v->cz acts e s t=.error z:=fun q t' z v ht n0 hu=>by
    rw [i1,hu,jV acts e _ _ _ q _ (vU n0)]
    exact nX acts e _ _ z v (Be acts { s with top:=s.top++items1 l,deep:=max s.deep (deepItems l),bE:=s.bE+1 } none t' ht)
   match u,i1,i2,i3,bad,wait with
   |[],i1,_,_,_,_=>
    show cz acts e s t=.ok _
    rw [i1]
    have:aM.open? { s with top:=s.top++items1 l,deep:=max s.deep (deepItems l) } = false:=by
     unfold aM.open?;rw [hh,hs];rfl
    unfold cz cV
    dsimp only
    rw [this,if_neg (by decide)]
    have h1:=qw l []
    have h2:=zQ l []
    rw [append_nil] at h1 h2
    rw [h1,h2]
    have h3:bW []=0:=rfl
    have h4:deepOf []=0:=rfl
    rw [h3,h4]
    simp
   |(.name _,_)::_,_,i2,_,_,_=>exact i2.elim
   |(.num _,_)::_,_,i2,_,_,_=>exact i2.elim
   |(.open_,z)::v,_,_,_,bad,_=>exact bad _ z v (by unfold bI;dsimp only;rw [hh]) rfl
   |(.bad,z)::v,_,_,_,bad,_=>exact bad _ z v (yo _ _) rfl
   |(.close,z)::v,_,_,_,bad,_=>exact bad _ z v (by unfold bI;dsimp only;rw [hh];dsimp only;unfold aM.close;dsimp only;rw [hs]) rfl
   |[(.star,q)],i1,_,_,bad,_=>
    dsimp only
    by_cases n0:n=0
    ·rw [if_pos n0];exact bad _ q _ (nj n0) rfl
    ·rw [if_neg n0]
     show cz acts e s t=.error e
     rw [i1,jV acts e _ _ _ q _ (vU n0)]
     exact u9 acts e _ (by unfold aM.open?;simp)
   |(.star,q)::(.name w,z)::v,i1,_,_,bad,wait=>
    dsimp only
    by_cases n0:n=0
    ·rw [if_pos n0];exact bad _ q _ (nj n0) rfl
    ·rw [if_neg n0];exact wait q _ z v (by simp) n0 rfl
   |(.star,q)::(.num w,z)::v,i1,_,_,bad,wait=>
    dsimp only
    by_cases n0:n=0
    ·rw [if_pos n0];exact bad _ q _ (nj n0) rfl
    ·rw [if_neg n0];exact wait q _ z v (by simp) n0 rfl
   |(.star,q)::(.close,z)::v,i1,_,_,bad,wait=>
    dsimp only
    by_cases n0:n=0
    ·rw [if_pos n0];exact bad _ q _ (nj n0) rfl
    ·rw [if_neg n0];exact wait q _ z v (by simp) n0 rfl
   |(.star,q)::(.star,z)::v,i1,_,_,bad,wait=>
    dsimp only
    by_cases n0:n=0
    ·rw [if_pos n0];exact bad _ q _ (nj n0) rfl
    ·rw [if_neg n0];exact wait q _ z v (by simp) n0 rfl
   |(.star,q)::(.bad,z)::v,i1,_,_,bad,wait=>
    dsimp only
    by_cases n0:n=0
    ·rw [if_pos n0];exact bad _ q _ (nj n0) rfl
    ·rw [if_neg n0];exact wait q _ z v (by simp) n0 rfl
   |(.star,q)::(.open_,z)::r,i1,_,i3,bad,wait=>
    dsimp only
    by_cases n0:n=0
    ·rw [if_pos n0];exact bad _ q _ (nj n0) rfl
    ·rw [if_neg n0]
     have mi:bI acts { s with top:=s.top++items1 l,deep:=max s.deep (deepItems l),head:=some none,bE:=s.bE+1 } .open_
       = some { top:=s.top++items1 l,aG:=[(none,[])],head:=none,bE:=s.bE+1,deep:=max (max s.deep (deepItems l)) 1 }:=by
      unfold bI;dsimp only;rw [hs,if_pos ⟨rfl,by simp⟩];rfl
     have f2:=i1.trans ((jV acts e _ _ _ q _ (vU n0)).trans (jV acts e _ _ _ z r mi))
     have it:=rb acts e (e+1) 39 r { top:=s.top++items1 l,aG:=[(none,[])],head:=none,bE:=s.bE+1,deep:=max (max s.deep (deepItems l)) 1 } rfl rfl (by simp only [length_cons,length_nil];omega) (by simp only [length_cons] at i3;omega)
     show Aq acts e s t (match items acts e (e+1) 39 r with
      | .error p=>.error p
      | .ok (b,(.close,_)::v)=>_
      | .ok (_,v)=>_)
     cases ei:items acts e (e+1) 39 r with
     | error p=>rw [ei] at it;exact f2.trans it
     | ok x=>
      obtain⟨b,u⟩:=x
      rw [ei] at it
      obtain⟨j1,j2,j3⟩:=it
      have VY:(aM.iH { top:=s.top++items1 l,aG:=[(none,[])],head:=none,bE:=s.bE+1,deep:=max (max s.deep (deepItems l)) 1 } (listOf b)).deeper (([(none,[])]:List (Option Nat×List Item)).length+deepItems b)
        = { top:=s.top++items1 l,aG:=[(none,listOf b)],head:=none,bE:=s.bE+1,deep:=max (max s.deep (deepItems l)) (deepItems b+1) }:=by
       unfold aM.iH aM.deeper
       simp only [nil_append,length_cons,length_nil]
       congr 1
       omega
      rw [VY] at j1
      have f3:=f2.trans j1
      have om:∀(t':Tok) (z:Nat) (v:List (Tok×Nat)),bI acts { top:=s.top++items1 l,aG:=[(none,listOf b)],head:=none,bE:=s.bE+1,deep:=max (max s.deep (deepItems l)) (deepItems b+1) } t'=none->u=(t',z)::v->cz acts e s t=.error z:=fun t' z v hm hu=>by
       rw [f3,hu]
       exact nX acts e _ _ z v hm
      match u,j2,j3,f3,om with
      |[],_,_,f3,_=>exact f3.trans (u9 acts e _ (by unfold aM.open?;simp))
      |(.name _,_)::_,j2,_,_,_=>exact j2.elim
      |(.num _,_)::_,j2,_,_,_=>exact j2.elim
      |(.open_,z)::v,_,_,_,om=>exact om _ z v rfl rfl
      |(.star,z)::v,_,_,_,om=>exact om _ z v (by unfold bI;dsimp only;rw [if_pos (Or.inl (by simp))]) rfl
      |(.bad,z)::v,_,_,_,om=>exact om _ z v rfl rfl
      |(.close,z)::v,_,j3,f3,_=>
       dsimp only
       have mh:bI acts { top:=s.top++items1 l,aG:=[(none,listOf b)],head:=none,bE:=s.bE+1,deep:=max (max s.deep (deepItems l)) (deepItems b+1) } .close
         = some { top:=s.top++items1 l++[.star b],aG:=[],head:=none,bE:=s.bE+1,deep:=max (max s.deep (deepItems l)) (deepItems b+1) }:=by
        unfold bI;dsimp only;unfold aM.close;dsimp only;rw [gJ]
       have f4:=f3.trans (jV acts e _ _ _ z v mh)
       have ih:=DU acts e k (n-1) v { top:=s.top++items1 l++[.star b],aG:=[],head:=none,bE:=s.bE+1,deep:=max (max s.deep (deepItems l)) (deepItems b+1) } rfl rfl (by dsimp only;omega) (by simp only [length_cons] at *;omega) (by simp only [length_cons] at *;omega)
       cases ep:parts acts e k (n-1) v with
       | error p=>rw [ep] at ih;exact f4.trans ih
       | ok m=>
        rw [ep] at ih
        refine(f4.trans ih).trans ?_
        rw [qw,zQ]
        have h1:bW (.star b::m)=bW m+1:=by unfold bW;rw [filter_cons,if_pos (by rfl)];rfl
        have h2:deepOf (.star b::m)=max (deepItems b+1) (deepOf m):=by unfold deepOf;rw [List.foldr_cons];rfl
        rw [h1,h2]
        cases s with
        | mk top aG head bE deep=>
         dsimp only at hh hs
         subst hh hs
         simp only [append_assoc,cons_append,nil_append]
         congr 2
         ·omega
         ·omega
def aM.init:aM:=⟨[],[],none,0,0⟩
def readM (acts:List Act) (t:List Nat):Except Nat aM:=
 if 4096<t.length then .error 4097 else cz acts (t.length+1) aM.init ((dv (t.length+1) 1 t).map fun x=>(x.tok,x.pl))
theorem xw (acts:List Act) (t:List Nat):readM acts t=match readRun acts t with
  | .error p=>.error p
  | .ok m=>.ok ⟨m,[],none,bW m,deepOf m⟩:=by
 unfold readM readRun
 by_cases h:4096<t.length
 ·rw [if_pos h,if_pos (show LONGEST<t.length from h)]
  rfl
 ·rw [if_neg h,if_neg (show ¬ LONGEST<t.length from h)]
  have e:cz acts (t.length+1) aM.init ((dv (t.length+1) 1 t).map fun x=>(x.tok,x.pl))=cz acts (t.length+1) aM.init (tokens (t.length+1) 1 t):=by
   unfold cz
   rw [EN,ka]
  rw [e]
  have hl:(tokens (t.length+1) 1 t).length<=t.length:=by
   rw [ka]
   exact Nat.le_trans (vj _) (oT _ _ _)
  have:=DU acts (t.length+1) (t.length+2) 8 (tokens (t.length+1) 1 t) aM.init rfl rfl rfl (by omega) (by omega)
  show _=match parts acts (t.length+1) (t.length+2) 8 (tokens (t.length+1) 1 t) with
   | .error p=>(Except.error p:Except Nat aM)
   | .ok m=>Except.ok (aM.mk m [] none (bW m) (deepOf m))
  cases ep:parts acts (t.length+1) (t.length+2) 8 (tokens (t.length+1) 1 t) with
  | error p=>rw [ep] at this;exact this
  | ok m=>
   rw [ep] at this
   refine Eq.trans this ?_
   unfold aM.init
   simp
theorem rW {c:Nat}(h:digit c=true):decimal (c-48)=[c]:=by
 unfold digit at h
 simp at h
 unfold decimal
 rw [Nat.toDigits_of_lt_base (by omega)]
 have:c=48\/c=49\/c=50\/c=51\/c=52\/c=53\/c=54\/c=55\/c=56\/c=57:=by omega
 rcases this with h | h | h | h | h | h | h | h | h | h<;>subst h<;>rfl
theorem Hu:∀(r:List Nat) (n:Nat),0<n->(∀ c∈r,digit c=true)->decimal (r.foldl (fun n c=>10*n+(c-48)) n)=decimal n++r
 |[],n,_,_=>by simp
 | c::r,n,hn,h=>by
  have hc:=h c mem_cons_self
  have hc':48<=c/\c<=57:=by unfold digit at hc;simpa using hc
  rw [foldl_cons,Hu r _ (by omega) fun x hx=>h x (mem_cons_of_mem _ hx)]
  have:decimal (10*n+(c-48))=decimal n++decimal (c-48):=by
   unfold decimal
   rw [←Nat.toDigits_append_toDigits (by decide) hn (by omega),map_append]
  rw [this,rW hc,append_assoc]
  rfl
theorem Va {d:List Nat}(hd:∀ c∈d,digit c=true) (hn:isNumeral d=true) (h0:d≠[]):decimal (number d)=d:=by
 match d,hd,hn,h0 with
 | c::r,hd,hn,_=>
  have hc:=hd c mem_cons_self
  have hr:=fun x hx=>hd x (mem_cons_of_mem c hx)
  unfold isNumeral at hn
  by_cases e:(c::r).head? = some 48
  ·rw [if_pos e] at hn
   have hl:(c::r).length=1:=by simpa using hn
   have:r=[]:=by simpa using hl
   subst this
   have:c=48:=Option.some.inj e
   subst this
   rfl
  ·have hc':48<=c/\c<=57:=by unfold digit at hc;simpa using hc
   have:c≠48:=fun q=>e (by rw [q];rfl)
   unfold number
   rw [foldl_cons,Hu r _ (by omega) hr]
   have:10*0+(c-48)=c-48:=by omega
   rw [this,rW hc]
   rfl
def fh:Bool->List bY->List Nat
 |_,[]=>[]
 | b,x::r=>(if b=false/\(x.sg=.name\/x.sg=.num\/x.sg=.star) then [32] else [])++(x.ls++fh (decide (x.sg=.op)) r)
def vK:Tok->List Nat
 | .name w=>w
 | .num n=>decimal n
 | .open_=>[40]
 | .close=>[41]
 | .star=>[42]
 | .bad=>[]
def xK:Tok->Bool
 | .name _=>true
 | .num _=>true
 | .star=>true
 |_=>false
def tt:Bool->List (Tok×Nat)->List Nat
 |_,[]=>[]
 | b,(t,_)::r=>(if b=false/\xK t=true then [32] else [])++(vK t++tt (decide (t=.open_)) r)
theorem all_takeWhile {p:Nat->Bool}:∀(l:List Nat),∀ c∈l.takeWhile p,p c=true
 |[],c,h=>by simp at h
 | a::l,c,h=>by
  by_cases e:p a=true
  ·rw [takeWhile_cons_of_pos e] at h
   rcases mem_cons.mp h with h | h
   ·rw [h];exact e
   ·exact all_takeWhile l c h
  ·rw [List.takeWhile_cons_of_neg e] at h
   simp at h
theorem Jv (p c:Nat) (r:List Nat) (h:(bO p (c::r)).sg≠.fz):(bO p (c::r)).ls=vK (bO p (c::r)).tok:=by
 unfold bO at *
 have hh:((c::r).headD 0)=c:=rfl
 simp only [hh] at *
 by_cases hs:small c=true
 ·rw [if_pos hs] at *;rfl
 ·rw [if_neg hs] at *
  by_cases hd:digit c=true
  ·rw [if_pos hd] at *
   by_cases hn:isNumeral ((c::r).takeWhile digit)=true
   ·simp only [hn,if_true]
    show(c::r).takeWhile digit=decimal (number ((c::r).takeWhile digit))
    rw [Va (all_takeWhile _) hn]
    intro q
    have:=vP (r:=r) hd
    rw [q] at this
    simp at this
   ·simp [hn] at h
  ·rw [if_neg hd] at *
   unfold signOf at *
   by_cases dS:c=40
   ·subst dS;rfl
   by_cases lT:c=41
   ·subst lT;rfl
   by_cases lS:c=42
   ·subst lS;rfl
   simp [dS,lT,lS] at h
theorem uw:∀(k p:Nat) (t:List Nat),∀ x∈dv k p t,∃(p' c:Nat) (r:List Nat),x=bO p' (c::r)
 | 0,_,_,x,h=>by simp [dv] at h
 | k+1,p,[],x,h=>by simp [dv] at h
 | k+1,p,c::r,x,h=>by
  unfold dv at h
  dsimp only at h
  split at h
  ·exact uw k _ _ x h
  ·rcases mem_cons.mp h with h | h
   ·exact⟨p,c,r,h⟩
   ·exact uw k _ _ x h
theorem D0:∀(l:List bY) (b:Bool),(∀ x∈l,x.sg≠.fz/\x.ls=vK x.tok)->fh b l=tt b (l.map fun x=>(x.tok,x.pl))
 |[],b,_=>rfl
 | x::r,b,h=>by
  have hx:=h x mem_cons_self
  unfold fh
  rw [map_cons]
  unfold tt
  rw [D0 r _ fun y hy=>h y (mem_cons_of_mem _ hy),←hx.2]
  have e1:(x.sg=.name\/x.sg=.num\/x.sg=.star)↔xK x.tok=true:=by
   unfold bY.tok;cases x.sg<;>simp [xK]
  have e2:decide (x.sg=.op)=decide (x.tok=.open_):=by
   unfold bY.tok;cases x.sg<;>simp
  rw [e2]
  simp only [e1]
def sj (b:Bool):List (List Nat)->List Nat
 |[]=>[]
 | a::r=>(if b=false then [32] else [])++joined (a::r)
theorem qy (b:Bool) (a:List Nat) (r:List (List Nat)):(if b=false then [32] else [])++(a++sj false r)=sj b (a::r):=by
 unfold sj
 cases r with
 | nil=>simp [joined]
 | cons c r=>simp [joined]
theorem WR {acts:List Act}{w:List Nat}{i:Nat}(h:actOf acts w=some i):((acts[i]?).map fun a=>a.name).getD []=w:=by
 unfold actOf at h
 dsimp only at h
 split at h
 ·rename_i hi
  have e:=Option.some.inj h
  have:=List.findIdx_getElem (xs:=acts) (p:=fun a=>a.name == w) (w:=hi)
  simp only [e] at this hi
  rw [getElem?_eq_getElem hi]
  simpa using this
 ·cases h
def isNil:Items->Bool
 | .nil=>true
 | .cons _ _=>false
theorem q0 (acts:List Act) (e:Nat):∀(k d:Nat) (t:List (Tok×Nat)) (l:Items) (u:List (Tok×Nat)) (b:Bool),items acts e k d t=.ok (l,u)->
  tt b t=sj b (showItems acts l)++tt (b&&isNil l) u
 | 0,d,t,l,u,b,h=>by unfold items at h;cases h
 | k+1,d,(.name w,p)::r,l,u,b,h=>by
  unfold items at h
  dsimp only at h
  cases ea:actOf acts w with
  | none=>rw [ea] at h;cases h
  | some i=>
   rw [ea] at h
   dsimp only at h
   cases ei:items acts e k d r with
   | error q=>rw [ei] at h;cases h
   | ok x=>
    obtain⟨l',u'⟩:=x
    rw [ei] at h
    dsimp only at h
    cases h
    have ih:=q0 acts e k d r l' u false ei
    rw [show tt b ((.name w,p)::r)=(if b=false/\true=true then [32] else [])++(w++tt false r) from rfl,ih]
    have e1:showItems acts (.cons (.act i) l')=w::showItems acts l':=by rw [showItems,showItem,WR ea]
    rw [e1,←qy]
    simp [isNil]
 | k+1,d,(.num n,p)::(.open_,q)::r,l,u,b,h=>by
  unfold items at h
  dsimp only at h
  by_cases e0:d=0
  ·rw [if_pos e0] at h;cases h
  ·rw [if_neg e0] at h
   cases ei:items acts e k (d-1) r with
   | error z=>rw [ei] at h;cases h
   | ok x=>
    obtain⟨c,v⟩:=x
    rw [ei] at h
    match v,ei,h with
    |[],_,h=>cases h
    |(.name _,_)::_,_,h=>cases h
    |(.num _,_)::_,_,h=>cases h
    |(.open_,_)::_,_,h=>cases h
    |(.star,_)::_,_,h=>cases h
    |(.bad,_)::_,_,h=>cases h
    |(.close,z)::v,ei,h=>
     dsimp only at h
     have ih:=q0 acts e k (d-1) r c ((.close,z)::v) true ei
     cases ej:items acts e k d v with
     | error z=>rw [ej] at h;cases h
     | ok x=>
      obtain⟨l',u'⟩:=x
      rw [ej] at h
      dsimp only at h
      cases h
      have lM:=q0 acts e k d v l' u false ej
      rw [show tt b ((.num n,p)::(.open_,q)::r)=(if b=false/\true=true then [32] else [])++(decimal n++(((if false=false/\false=true then [32] else []):List Nat)++([40]++tt true r))) from rfl,ih,
       show tt (true&&isNil c) ((.close,z)::v)=((if(true&&isNil c)=false/\false=true then [32] else []):List Nat)++([41]++tt false v) from rfl,lM]
      have e1:showItems acts (.cons (.rep n c) l')=(decimal n++(40::(joined (showItems acts c)++[41])))::showItems acts l':=by rw [showItems,showItem]
      have e2:sj true (showItems acts c)=joined (showItems acts c):=by
       cases showItems acts c with
       | nil=>rfl
       | cons a r=>simp [sj]
      rw [e1,←qy,e2]
      simp [isNil]
 | k+1,d,[],l,u,b,h=>by
  unfold items at h
  cases h
  simp [showItems,sj,isNil]
 | k+1,d,(.num n,p)::[],l,u,b,h=>by unfold items at h;cases h
 | k+1,d,(.num n,p)::(.name w,q)::r,l,u,b,h=>by unfold items at h;cases h
 | k+1,d,(.num n,p)::(.num w,q)::r,l,u,b,h=>by unfold items at h;cases h
 | k+1,d,(.num n,p)::(.close,q)::r,l,u,b,h=>by unfold items at h;cases h
 | k+1,d,(.num n,p)::(.star,q)::r,l,u,b,h=>by unfold items at h;cases h
 | k+1,d,(.num n,p)::(.bad,q)::r,l,u,b,h=>by unfold items at h;cases h
 | k+1,d,(.open_,p)::r,l,u,b,h=>by
  unfold items at h
  cases h
  simp [showItems,sj,isNil]
 | k+1,d,(.close,p)::r,l,u,b,h=>by
  unfold items at h
  cases h
  simp [showItems,sj,isNil]
 | k+1,d,(.star,p)::r,l,u,b,h=>by
  unfold items at h
  cases h
  simp [showItems,sj,isNil]
 | k+1,d,(.bad,p)::r,l,u,b,h=>by
  unfold items at h
  cases h
  simp [showItems,sj,isNil]
theorem we (acts:List Act):∀ l:Items,(items1 l).map (showPart acts)=showItems acts l
 | .nil=>by simp [items1,showItems]
 | .cons i r=>by rw [items1,showItems,map_cons,we acts r];rfl
theorem Bo (b:Bool):∀(l m:List (List Nat)),sj b l++sj (b&&l.isEmpty) m=sj b (l++m)
 |[],m=>by simp [sj]
 | a::r,m=>by
  have ih:=Bo false r m
  rw [cons_append,←qy,←qy,←ih]
  simp
theorem DR (acts:List Act) (e:Nat):∀(k n:Nat) (t:List (Tok×Nat)) (m:Run) (b:Bool),parts acts e k n t=.ok m->tt b t=sj b (m.map (showPart acts))
 | 0,n,t,m,b,h=>by unfold parts at h;cases h
 | k+1,n,t,m,b,h=>by
  unfold parts at h
  cases ei:items acts e (e+1) DEEP t with
  | error p=>rw [ei] at h;cases h
  | ok x=>
   obtain⟨l,u⟩:=x
   rw [ei] at h
   have h1:=q0 acts e (e+1) DEEP t l u b ei
   have en:isNil l=(showItems acts l).isEmpty:=by cases l<;>simp [showItems,isNil]
   match u,h,h1 with
   |[],h,h1=>
    cases h
    rw [h1,we]
    simp [tt]
   |(.name _,_)::_,h,_=>cases h
   |(.num _,_)::_,h,_=>cases h
   |(.open_,_)::_,h,_=>cases h
   |(.close,_)::_,h,_=>cases h
   |(.bad,_)::_,h,_=>cases h
   |[(.star,q)],h,_=>dsimp only at h;split at h<;>cases h
   |(.star,q)::(.name _,_)::_,h,_=>dsimp only at h;split at h<;>cases h
   |(.star,q)::(.num _,_)::_,h,_=>dsimp only at h;split at h<;>cases h
   |(.star,q)::(.close,_)::_,h,_=>dsimp only at h;split at h<;>cases h
   |(.star,q)::(.star,_)::_,h,_=>dsimp only at h;split at h<;>cases h
   |(.star,q)::(.bad,_)::_,h,_=>dsimp only at h;split at h<;>cases h
   |(.star,q)::(.open_,z)::r,h,h1=>
    dsimp only at h
    by_cases n0:n=0
    ·rw [if_pos n0] at h;cases h
    ·rw [if_neg n0] at h
     cases ej:items acts e (e+1) (DEEP-1) r with
     | error p=>rw [ej] at h;cases h
     | ok x=>
      obtain⟨c,v⟩:=x
      rw [ej] at h
      match v,ej,h with
      |[],_,h=>cases h
      |(.name _,_)::_,_,h=>cases h
      |(.num _,_)::_,_,h=>cases h
      |(.open_,_)::_,_,h=>cases h
      |(.star,_)::_,_,h=>cases h
      |(.bad,_)::_,_,h=>cases h
      |(.close,y)::v,ej,h=>
       dsimp only at h
       have h2:=q0 acts e (e+1) (DEEP-1) r c ((.close,y)::v) true ej
       cases ep:parts acts e k (n-1) v with
       | error p=>rw [ep] at h;cases h
       | ok m'=>
        rw [ep] at h
        dsimp only at h
        cases h
        have h3:=DR acts e k (n-1) v m' false ep
        rw [map_append,we,←Bo,h1,en,map_cons,←qy]
        congr 1
        rw [show ∀ b',tt b' ((.star,q)::(.open_,z)::r)=(if b'=false/\true=true then [32] else [])++([42]++(((if false=false/\false=true then [32] else []):List Nat)++([40]++tt true r))) from fun _=>rfl,h2,
         show tt (true&&isNil c) ((.close,y)::v)=((if(true&&isNil c)=false/\false=true then [32] else []):List Nat)++([41]++tt false v) from rfl,h3]
        have e2:sj true (showItems acts c)=joined (showItems acts c):=by
         cases showItems acts c with
         | nil=>rfl
         | cons a r=>simp [sj]
        rw [e2]
        have e3:showPart acts (.star c)=42::40::(joined (showItems acts c)++[41]):=rfl
        rw [e3]
        simp
theorem Ez (acts:List Act) (e:Nat):∀(l:List bY) (s s':aM),cV acts s (l.map fun x=>(x.tok,x.pl))=.ok s'->∀ x∈l,x.sg≠.fz
 |[],_,_,_,x,hx=>by simp at hx
 | y::r,s,s',h,x,hx=>by
  rw [map_cons] at h
  unfold cV at h
  cases em:bI acts s y.tok with
  | none=>rw [em] at h;cases h
  | some s2=>
   rw [em] at h
   rcases mem_cons.mp hx with hx | hx
   ·subst hx
    intro q
    have:x.tok=.bad:=by unfold bY.tok;rw [q]
    rw [this,yo] at em
    cases em
   ·exact Ez acts e r s2 s' h x hx
theorem GI (acts:List Act) (t:List Nat) (m:Run) (h:readRun acts t=.ok m):fh true (dv (t.length+1) 1 t)=printRun acts m:=by
 have hr:=xw acts t
 rw [h] at hr
 unfold readM at hr
 unfold readRun at h
 by_cases hl:4096<t.length
 ·rw [if_pos hl] at hr;cases hr
 ·rw [if_neg hl] at hr
  rw [if_neg (show ¬ LONGEST<t.length from hl)] at h
  have hw:∀ x∈dv (t.length+1) 1 t,x.sg≠.fz:=by
   unfold cz at hr
   cases em:cV acts aM.init ((dv (t.length+1) 1 t).map fun x=>(x.tok,x.pl)) with
   | error p=>rw [em] at hr;cases hr
   | ok s'=>exact Ez acts 0 _ _ _ em
  have hc:∀ l:List bY,(∀ x∈l,x.sg≠.fz)->iu l=l.map fun x=>(x.tok,x.pl):=by
   intro l
   induction l with
   | nil=>intro _;rfl
   | cons x r ih=>
    intro hx
    unfold iu
    rw [if_neg (hx x mem_cons_self),map_cons,ih fun y hy=>hx y (mem_cons_of_mem _ hy)]
  rw [D0 _ true fun x hx=>⟨hw x hx,by
   obtain⟨p',c,r,e⟩:=uw _ _ _ x hx
   have:=hw x hx
   rw [e] at this ⊢
   exact Jv p' c r this⟩,←hc _ hw,←ka]
  rw [DR acts _ _ _ _ _ true h]
  unfold printRun
  cases m.map (showPart acts) with
  | nil=>rfl
  | cons a r=>simp [sj]
mutual
def cY:Item->Nat
 | .act _=>1
 | .rep _ l=>bK l+1
def bK:Items->Nat
 | .nil=>0
 | .cons i r=>cY i+bK r
end
mutual
def jK:Item->Prop
 | .act _=>True
 | .rep n l=>n<=MOST/\fN l
def fN:Items->Prop
 | .nil=>True
 | .cons i r=>jK i/\fN r
end
mutual
def ck:Item->Nat
 | .act _=>2 ^ 42
 | .rep n l=>n*bh l
def bh:Items->Nat
 | .nil=>0
 | .cons i r=>ck i+bh r
end
mutual
theorem IK:∀ i:Item,jK i->ck i<=cY i*2 ^ (42+30*deepItem i)
 | .act _,_=>by unfold ck cY deepItem;decide
 | .rep n l,h=>by
  unfold jK at h
  have ih:=vD l h.2
  unfold ck cY deepItem
  have h1:n<=2 ^ 30:=Nat.le_trans h.1 (by unfold MOST;decide)
  calc n*bh l<=2 ^ 30*(bK l*2 ^ (42+30*deepItems l)):=Nat.mul_le_mul h1 ih
   _=bK l*2 ^ (42+30*(deepItems l+1)):=by
    rw [show 42+30*(deepItems l+1)=30+(42+30*deepItems l) by omega,Nat.pow_add 2 30,←Nat.mul_assoc,Nat.mul_comm (2 ^ 30) (bK l),Nat.mul_assoc]
   _<=(bK l+1)*2 ^ (42+30*(deepItems l+1)):=Nat.mul_le_mul_right _ (by omega)
theorem vD:∀ l:Items,fN l->bh l<=bK l*2 ^ (42+30*deepItems l)
 | .nil,_=>by unfold bh;exact Nat.zero_le _
 | .cons i r,h=>by
  unfold fN at h
  have h1:=IK i h.1
  have h2:=vD r h.2
  unfold bh bK deepItems
  rw [Nat.add_mul]
  exact Nat.add_le_add (Nat.le_trans h1 (Nat.mul_le_mul_left _ (Nat.pow_le_pow_right (by decide) (by omega)))) (Nat.le_trans h2 (Nat.mul_le_mul_left _ (Nat.pow_le_pow_right (by decide) (by omega))))
end
theorem Dt:∃ f:Nat->Nat,∀ n,f n=2 ^ n:=⟨fun n=>2 ^ n,fun _=>rfl⟩
noncomputable def pw:Nat->Nat:=Classical.choose Dt
theorem dY (n:Nat):pw n=2 ^ n:=Classical.choose_spec Dt n
theorem gE (m n:Nat):pw (m+n)=pw m*pw n:=by rw [dY,dY,dY];exact Nat.pow_add 2 m n
theorem gb {m n:Nat}(h:m<=n):pw m<=pw n:=by rw [dY,dY];exact Nat.pow_le_pow_right (by decide) h
theorem fK (n:Nat):1<=pw n:=by rw [dY];exact Nat.one_le_two_pow
noncomputable def bG:Nat:=pw 1300
theorem sL {l:Items}(h:fN l) (hn:bK l<=4096) (hd:deepItems l<=40):bh l<=bG:=by
 refine Nat.le_trans (vD l h) ?_
 refine Nat.le_trans (Nat.mul_le_mul_right _ hn) ?_
 rw [←dY]
 unfold bG
 rw [show(4096:Nat)=pw 12 by rw [dY],←gE]
 exact gb (by omega)
theorem AE {i:Item}(h:jK i) (hn:cY i<=4096) (hd:deepItem i<=40):ck i<=bG:=by
 have:bh (.cons i .nil)<=bG:=sL (l:=.cons i .nil) ⟨h,trivial⟩ (by unfold bK bK;omega) (by unfold deepItems deepItems;omega)
 unfold bh bh at this
 omega
structure fT (B:Nat) (a:ax):Prop where
 lo:∀ l,a.lo=some l->l.natAbs<=B
 hi:∀ l,a.hi=some l->l.natAbs<=B
 add:a.add.natAbs<=B
 low:a.low.natAbs<=B
 high:a.high.natAbs<=B
theorem fT.zero (B:Nat):fT B ax.zero:=⟨fun _ h=>(nomatch h),fun _ h=>(nomatch h),Nat.zero_le _,Nat.zero_le _,Nat.zero_le _⟩
theorem fT.mono {A B:Nat}{a:ax}(h:fT A a) (hl:A<=B):fT B a:=
 ⟨fun l e=>Nat.le_trans (h.lo l e) hl,fun l e=>Nat.le_trans (h.hi l e) hl,Nat.le_trans h.add hl,Nat.le_trans h.low hl,Nat.le_trans h.high hl⟩
theorem fT.seq {A B:Nat}{a b:ax}(ha:fT A a) (hb:fT B b):fT (A+B) (a.seq b):=by
 have a3:=ha.add;have a4:=ha.low;have a5:=ha.high;have b3:=hb.add;have b4:=hb.low;have b5:=hb.high
 unfold ax.seq
 refine⟨fun l e=>?_,fun l e=>?_,?_,?_,?_⟩
 ·dsimp only at e
  have h1:=ha.lo;have h2:=hb.lo
  revert e h1 h2
  cases a.lo<;>cases b.lo<;>intro e h1 h2<;>simp [maxO] at e<;>subst e
  ·have:=h2 _ rfl;omega
  ·have:=h1 _ rfl;omega
  ·have:=h1 _ rfl;have:=h2 _ rfl;omega
 ·dsimp only at e
  have h1:=ha.hi;have h2:=hb.hi
  revert e h1 h2
  cases a.hi<;>cases b.hi<;>intro e h1 h2<;>simp [minO] at e<;>subst e
  ·have:=h2 _ rfl;omega
  ·have:=h1 _ rfl;omega
  ·have:=h1 _ rfl;have:=h2 _ rfl;omega
 ·dsimp only;omega
 ·dsimp only;omega
 ·dsimp only;omega
theorem yl {n:Nat}{x:Int}{B:Nat}(h:x.natAbs<=B):((n:Int)*x).natAbs<=n*B:=by
 rw [Int.natAbs_mul]
 exact Nat.mul_le_mul (by simp) h
theorem fT.rep {B:Nat}{a:ax}(h:fT B a){n:Nat}(hn:n≠0):fT (n*B) (a.rep n):=by
 have a3:=h.add;have a4:=h.low;have a5:=h.high
 have hk:(((n:Int)-1)*a.add).natAbs<=(n-1)*B:=by
  rw [show((n:Int)-1)=((n-1:Nat):Int) by omega]
  exact yl a3
 have hm:(n-1)*B+B=n*B:=by
  obtain⟨m,rfl⟩:∃ m,n=m+1:=⟨n-1,by omega⟩
  rw [Nat.add_mul];simp
 unfold ax.rep
 refine⟨fun l e=>?_,fun l e=>?_,?_,?_,?_⟩
 ·dsimp only at e
  have h1:=h.lo
  revert e h1
  cases a.lo<;>intro e h1<;>simp at e
  subst e
  have:=h1 _ rfl
  omega
 ·dsimp only at e
  have h1:=h.hi
  revert e h1
  cases a.hi<;>intro e h1<;>simp at e
  subst e
  have:=h1 _ rfl
  omega
 ·dsimp only;exact yl a3
 ·dsimp only;omega
 ·dsimp only;omega
structure dU (B:Nat) (s:Sum):Prop where
 len:s.len<=B
 sp:∀ k,k<8->fT B (sp s k)
def qh (acts:List Act):Prop:=∀ a∈acts,∀ k,k<8->fT (2 ^ 42) (ax.act (bg a.box k) (aF a.add k))
theorem dU.nil (B:Nat):dU B {}:=⟨Nat.zero_le _,fun k _=>by rw [dX];exact fT.zero B⟩
mutual
theorem gy {acts:List Act}(h:bX acts) (hs:qh acts):∀ i:Item,dU (ck i) (sumItem acts i)
 | .act i=>by
  unfold ck sumItem
  cases e:acts[i]? with
  | none=>exact dU.nil _
  | some a=>
   have ha:=mem_of_getElem? e
   refine⟨by show 1<=_;decide,fun k hk=>?_⟩
   show fT _ (sp (actSum a) k)
   rw [tf (h a ha).2 hk]
   exact hs a ha k hk
 | .rep n l=>by
  have ih:=fI h hs l
  have x:=bU h l
  unfold ck sumItem
  by_cases hn:n=0
  ·subst hn;exact dU.nil _
  ·refine⟨by rw [nI];exact Nat.mul_le_mul_left _ ih.len,fun k hk=>?_⟩
   rw [mj x.1 hn hk]
   exact(ih.sp k hk).rep hn
theorem fI {acts:List Act}(h:bX acts) (hs:qh acts):∀ l:Items,dU (bh l) (sumItems acts l)
 | .nil=>by unfold bh sumItems;exact dU.nil _
 | .cons i r=>by
  have h1:=gy h hs i
  have h2:=fI h hs r
  have xi:=cU h i
  have xr:=bU h r
  unfold bh sumItems
  refine⟨Nat.add_le_add h1.len h2.len,fun k hk=>?_⟩
  rw [dI xi.1 xr.1 hk]
  exact(h1.sp k hk).seq (h2.sp k hk)
end
def vz (t:List (Tok×Nat)):Prop:=∀ n p,(Tok.num n,p)∈t->n<=MOST
theorem l9:∀(k p:Nat) (t:List Nat),vz (tokens k p t)
 | 0,_,_,n,q,h=>by simp [tokens] at h
 | k+1,p,[],n,q,h=>by simp [tokens] at h
 | k+1,p,c::r,n,q,h=>by
  unfold tokens at h
  dsimp only at h
  split at h
  ·exact l9 k _ _ n q h
  ·split at h
   ·rcases mem_cons.mp h with h | h
    ·cases h
    ·exact l9 k _ _ n q h
   ·split at h
    ·rcases mem_cons.mp h with h | h
     ·cases h
     ·exact l9 k _ _ n q h
    ·split at h
     ·rcases mem_cons.mp h with h | h
      ·cases h
      ·exact l9 k _ _ n q h
     ·split at h
      ·split at h
       ·rcases mem_cons.mp h with h | h
        ·cases h
        ·simp at h
       ·rename_i hb
        rcases mem_cons.mp h with h | h
        ·cases h
         have:¬ MOST<number ((c::r).takeWhile digit):=fun q=>hb (Or.inr q)
         omega
        ·exact l9 k _ _ n q h
      ·split at h
       ·rcases mem_cons.mp h with h | h
        ·cases h
        ·exact l9 k _ _ n q h
       ·rcases mem_cons.mp h with h | h
        ·cases h
        ·simp at h
theorem pL (acts:List Act) (e:Nat):∀(k d:Nat) (t:List (Tok×Nat)) (l:Items) (u:List (Tok×Nat)),items acts e k d t=.ok (l,u)->vz t->
  bK l+u.length<=t.length/\deepItems l<=d/\fN l/\vz u
 | 0,d,t,l,u,h,_=>by unfold items at h;cases h
 | k+1,d,(.name w,p)::r,l,u,h,hn=>by
  unfold items at h
  dsimp only at h
  cases ea:actOf acts w with
  | none=>rw [ea] at h;cases h
  | some i=>
   rw [ea] at h
   dsimp only at h
   cases ei:items acts e k d r with
   | error q=>rw [ei] at h;cases h
   | ok x=>
    obtain⟨l',u'⟩:=x
    rw [ei] at h
    dsimp only at h
    cases h
    have ih:=pL acts e k d r l' u ei fun n p hm=>hn n p (mem_cons_of_mem _ hm)
    unfold bK cY deepItems deepItem fN jK
    simp only [length_cons]
    exact⟨by omega,by omega,⟨trivial,ih.2.2.1⟩,ih.2.2.2⟩
 | k+1,d,(.num n,p)::(.open_,q)::r,l,u,h,hn=>by
  unfold items at h
  dsimp only at h
  by_cases e0:d=0
  ·rw [if_pos e0] at h;cases h
  ·rw [if_neg e0] at h
   cases ei:items acts e k (d-1) r with
   | error z=>rw [ei] at h;cases h
   | ok x=>
    obtain⟨c,v⟩:=x
    rw [ei] at h
    have ih:=pL acts e k (d-1) r c v ei fun n p hm=>hn n p (mem_cons_of_mem _ (mem_cons_of_mem _ hm))
    match v,ih,h with
    |[],_,h=>cases h
    |(.name _,_)::_,_,h=>cases h
    |(.num _,_)::_,_,h=>cases h
    |(.open_,_)::_,_,h=>cases h
    |(.star,_)::_,_,h=>cases h
    |(.bad,_)::_,_,h=>cases h
    |(.close,z)::v,ih,h=>
     dsimp only at h
     cases ej:items acts e k d v with
     | error z=>rw [ej] at h;cases h
     | ok x=>
      obtain⟨l',u'⟩:=x
      rw [ej] at h
      dsimp only at h
      cases h
      have lM:=pL acts e k d v l' u ej fun n p hm=>ih.2.2.2 n p (mem_cons_of_mem _ hm)
      unfold bK cY deepItems deepItem fN jK
      simp only [length_cons] at *
      exact⟨by omega,by omega,⟨⟨hn n p mem_cons_self,ih.2.2.1⟩,lM.2.2.1⟩,lM.2.2.2⟩
 | k+1,d,[],l,u,h,hn=>by
  unfold items at h
  cases h
  exact⟨by unfold bK;simp,by unfold deepItems;omega,by unfold fN;trivial,hn⟩
 | k+1,d,(.num n,p)::[],l,u,h,_=>by unfold items at h;cases h
 | k+1,d,(.num n,p)::(.name w,q)::r,l,u,h,_=>by unfold items at h;cases h
 | k+1,d,(.num n,p)::(.num w,q)::r,l,u,h,_=>by unfold items at h;cases h
 | k+1,d,(.num n,p)::(.close,q)::r,l,u,h,_=>by unfold items at h;cases h
 | k+1,d,(.num n,p)::(.star,q)::r,l,u,h,_=>by unfold items at h;cases h
 | k+1,d,(.num n,p)::(.bad,q)::r,l,u,h,_=>by unfold items at h;cases h
 | k+1,d,(.open_,p)::r,l,u,h,hn=>by
  unfold items at h
  cases h
  exact⟨by unfold bK;omega,by unfold deepItems;omega,by unfold fN;trivial,hn⟩
 | k+1,d,(.close,p)::r,l,u,h,hn=>by
  unfold items at h
  cases h
  exact⟨by unfold bK;omega,by unfold deepItems;omega,by unfold fN;trivial,hn⟩
 | k+1,d,(.star,p)::r,l,u,h,hn=>by
  unfold items at h
  cases h
  exact⟨by unfold bK;omega,by unfold deepItems;omega,by unfold fN;trivial,hn⟩
 | k+1,d,(.bad,p)::r,l,u,h,hn=>by
  unfold items at h
  cases h
  exact⟨by unfold bK;omega,by unfold deepItems;omega,by unfold fN;trivial,hn⟩
structure mV (B:Nat) (p:Part):Prop where
 it:∀ i,p=.item i->jK i/\cY i<=B/\deepItem i<=40
 st:∀ l,p=.star l->fN l/\bK l<=B/\deepItems l<=39
theorem Bn:∀(l:Items),fN l->deepItems l<=40->(items1 l).length<=bK l/\∀ p∈items1 l,mV (bK l) p
 | .nil,_,_=>⟨by unfold items1;simp,fun p hp=>by unfold items1 at hp;simp at hp⟩
 | .cons i r,hn,hd=>by
  unfold fN at hn
  unfold deepItems at hd
  have ih:=Bn r hn.2 (by omega)
  have h1:1<=cY i:=by cases i<;>unfold cY<;>omega
  unfold items1 bK
  refine⟨by simp only [length_cons];omega,fun p hp=>?_⟩
  rcases mem_cons.mp hp with hp | hp
  ·subst hp
   exact⟨fun j e=>(by cases e;exact⟨hn.1,by omega,by omega⟩),fun l e=>(by cases e)⟩
  ·have:=ih.2 p hp
   exact⟨fun j e=>⟨(this.it j e).1,by have:=(this.it j e).2.1;omega,(this.it j e).2.2⟩,fun l e=>⟨(this.st l e).1,by have:=(this.st l e).2.1;omega,(this.st l e).2.2⟩⟩
theorem mV.mono {A B:Nat}{p:Part}(h:mV A p) (hl:A<=B):mV B p:=
 ⟨fun i e=>⟨(h.it i e).1,Nat.le_trans (h.it i e).2.1 hl,(h.it i e).2.2⟩,fun l e=>⟨(h.st l e).1,Nat.le_trans (h.st l e).2.1 hl,(h.st l e).2.2⟩⟩
theorem DT (acts:List Act) (e:Nat):∀(k n:Nat) (t:List (Tok×Nat)) (m:Run),parts acts e k n t=.ok m->vz t->m.length<=t.length/\∀ p∈m,mV t.length p
 | 0,n,t,m,h,_=>by unfold parts at h;cases h
 | k+1,n,t,m,h,hn=>by
  unfold parts at h
  cases ei:items acts e (e+1) DEEP t with
  | error p=>rw [ei] at h;cases h
  | ok x=>
   obtain⟨l,u⟩:=x
   rw [ei] at h
   have h1:=pL acts e (e+1) DEEP t l u ei hn
   have h1':=Bn l h1.2.2.1 h1.2.1
   match u,h,h1 with
   |[],h,h1=>
    cases h
    simp only [length_nil] at h1
    exact⟨by omega,fun p hp=>(h1'.2 p hp).mono (by omega)⟩
   |(.name _,_)::_,h,_=>cases h
   |(.num _,_)::_,h,_=>cases h
   |(.open_,_)::_,h,_=>cases h
   |(.close,_)::_,h,_=>cases h
   |(.bad,_)::_,h,_=>cases h
   |[(.star,q)],h,_=>dsimp only at h;split at h<;>cases h
   |(.star,q)::(.name _,_)::_,h,_=>dsimp only at h;split at h<;>cases h
   |(.star,q)::(.num _,_)::_,h,_=>dsimp only at h;split at h<;>cases h
   |(.star,q)::(.close,_)::_,h,_=>dsimp only at h;split at h<;>cases h
   |(.star,q)::(.star,_)::_,h,_=>dsimp only at h;split at h<;>cases h
   |(.star,q)::(.bad,_)::_,h,_=>dsimp only at h;split at h<;>cases h
   |(.star,q)::(.open_,z)::r,h,h1=>
    dsimp only at h
    by_cases n0:n=0
    ·rw [if_pos n0] at h;cases h
    ·rw [if_neg n0] at h
     cases ej:items acts e (e+1) (DEEP-1) r with
     | error p=>rw [ej] at h;cases h
     | ok x=>
      obtain⟨c,v⟩:=x
      rw [ej] at h
      have h2:=pL acts e (e+1) (DEEP-1) r c v ej fun n p hm=>h1.2.2.2 n p (mem_cons_of_mem _ (mem_cons_of_mem _ hm))
      match v,h2,h with
      |[],_,h=>cases h
      |(.name _,_)::_,_,h=>cases h
      |(.num _,_)::_,_,h=>cases h
      |(.open_,_)::_,_,h=>cases h
      |(.star,_)::_,_,h=>cases h
      |(.bad,_)::_,_,h=>cases h
      |(.close,y)::v,h2,h=>
       dsimp only at h
       cases ep:parts acts e k (n-1) v with
       | error p=>rw [ep] at h;cases h
       | ok m'=>
        rw [ep] at h
        dsimp only at h
        cases h
        have h3:=DT acts e k (n-1) v m' ep fun n p hm=>h2.2.2.2 n p (mem_cons_of_mem _ hm)
        have hd:deepItems c<=39:=h2.2.1
        simp only [length_cons,length_append] at *
        refine⟨by omega,fun p hp=>?_⟩
        rcases mem_append.mp hp with hp | hp
        ·exact(h1'.2 p hp).mono (by omega)
        ·rcases mem_cons.mp hp with hp | hp
         ·subst hp
          exact⟨fun i e=>(by cases e),fun l e=>(by cases e;exact⟨h2.2.2.1,by omega,hd⟩)⟩
         ·exact(h3.2 p hp).mono (by omega)
theorem Dm (acts:List Act) (t:List Nat) (m:Run) (h:readRun acts t=.ok m):m.length<=4096/\∀ p∈m,mV 4096 p:=by
 unfold readRun at h
 by_cases hl:LONGEST<t.length
 ·rw [if_pos hl] at h;cases h
 ·rw [if_neg hl] at h
  have hl':t.length<=4096:=by unfold LONGEST at hl;omega
  have ht:(tokens (t.length+1) 1 t).length<=t.length:=by
   rw [ka]
   exact Nat.le_trans (vj _) (oT _ _ _)
  have:=DT acts _ _ _ _ m h (l9 _ _ _)
  exact⟨by omega,fun p hp=>(this.2 p hp).mono (by omega)⟩
def de (acts:List Act):List Int->Bool->Run->Option (List Item)
 |_,_,[]=>some []
 | now,dH,.item i::r=>
  let ok:=dH&&fits now (sumItem acts i).box
  (de acts (if ok=true then plus now (sumItem acts i).add else now) ok r).map fun l=>i::l
 | now,dH,.star b::r=>
  match (if dH=true/\0<(sumItems acts b).len then often now (sumItems acts b) else some 0) with
  | none=>none
  | some n=>
   let ok:=dH&&fits now (sumItem acts (.rep n b)).box
   (de acts (if ok=true then plus now (sumItem acts (.rep n b)).add else now) ok r).map fun l=>.rep n b::l
theorem oM {acts:List Act}(h:bX acts):∀(r:Run) (now:List Int) (dH:Bool),now.length=8->de acts now dH r=settle acts now dH r
 |[],_,_,_=>rfl
 | .item i::r,now,dH,hl=>by
  have x:=cU h i
  unfold de settle
  dsimp only
  cases e:(dH&&fits now (sumItem acts i).box) with
  | true=>
   rw [if_pos rfl,oM h r _ _ (gH hl x.1.add)]
  | false=>
   rw [if_neg (by decide),oM h r _ _ hl,wj acts r now (plus now (sumItem acts i).add)]
 | .star b::r,now,dH,hl=>by
  have x:=bU h b
  have e0:∀ n,sumItem acts (.rep n b)=repSum n (sumItems acts b):=fun n=>by rw [sumItem]
  unfold de settle
  dsimp only
  by_cases ha:dH=true/\0<(sumItems acts b).len
  ·rw [if_pos ha,if_neg (by rw [ha.1];intro q;rcases q with q | q;cases q;omega)]
   cases eo:often now (sumItems acts b) with
   | none=>rfl
   | some n=>
    dsimp only
    have hf:fits now (sumItem acts (.rep n b)).box=true:=by
     rw [e0]
     exact(ub hl x.1 n).mp (by rw [eo];exact Nat.le_refl _)
    rw [hf,ha.1,Bool.and_self,if_pos rfl,e0,qe x.1,oM h r _ _ (gH hl (eC x.1.add))]
  ·rw [if_neg ha]
   dsimp only
   have hz:dH=false\/(sumItems acts b).len=0:=by
    cases dH with
    | false=>exact Or.inl rfl
    | true=>exact Or.inr (Nat.eq_zero_of_not_pos fun q=>ha ⟨rfl,q⟩)
   rw [if_pos hz]
   have hf:fits now (sumItem acts (.rep 0 b)).box=true:=by rw [e0];exact vb hl
   rw [hf,Bool.and_true]
   have hs:(if dH=true then plus now (sumItem acts (.rep 0 b)).add else now)=now:=by
    split
    ·rw [e0];exact ki hl
    ·rfl
   rw [hs,oM h r _ _ hl]
def cc (B:Nat) (rs:List Int):Prop:=∀ k,k<8->(aF rs k).natAbs<=B
theorem cc.mono {A B:Nat}{rs:List Int}(h:cc A rs) (hl:A<=B):cc B rs:=fun k hk=>Nat.le_trans (h k hk) hl
theorem cc.plus {A B:Nat}{rs ds:List Int}(h1:rs.length=8) (h2:ds.length=8) (a:cc A rs) (b:cc B ds):cc (A+B) (plus rs ds):=fun k hk=>by
 rw [ko h1 h2 hk]
 have:=a k hk
 have:=b k hk
 omega
theorem cc.times {B:Nat}{ds:List Int}(h:ds.length=8) (b:cc B ds) (n:Nat):cc (n*B) (times n ds):=fun k hk=>by
 rw [kZ h hk]
 exact yl (b k hk)
theorem dU.now {B:Nat}{s:Sum}(h:dU B s):cc B s.add:=fun k hk=>(h.sp k hk).add
theorem Hi {x d:Int}{B:Nat}(hx:0<=x) (hd:0<d) (h:x.natAbs<=B):(x / d).toNat<=B:=by
 have h1:x / d<=x:=Int.ediv_le_self d hx
 omega
theorem OA {a:ax}{r:Int}{A B n:Nat}(hr:r.natAbs<=A) (hs:fT B a) (h:a.often r=some n):n<=A+B+1:=by
 unfold ax.often oftenB at h
 have hm:=pB h
 simp only [mem_cons,not_mem_nil,or_false] at hm
 rcases hm with hm | hm
 ·cases e:a.lo with
  | none=>rw [e] at hm;cases hm
  | some l=>
   rw [e] at hm
   have:=hs.lo l e
   dsimp only at hm
   split at hm
   ·have:=Option.some.inj hm;omega
   ·split at hm
    ·have e2:=Option.some.inj hm
     have:=Hi (x:=r-l) (d:=-a.add) (B:=A+B) (by omega) (by omega) (by omega)
     omega
    ·cases hm
 ·cases e:a.hi with
  | none=>rw [e] at hm;cases hm
  | some l=>
   rw [e] at hm
   have:=hs.hi l e
   dsimp only at hm
   split at hm
   ·have:=Option.some.inj hm;omega
   ·split at hm
    ·have e2:=Option.some.inj hm
     have:=Hi (x:=l-r) (d:=a.add) (B:=A+B) (by omega) (by omega) (by omega)
     omega
    ·cases hm
theorem ja {rs:List Int}{s:Sum}{A B n:Nat}(hl:rs.length=8) (hw:Wf s) (hr:cc A rs) (hs:dU B s) (h:often rs s=some n):n<=A+B+1:=by
 rw [uc hl hw] at h
 obtain⟨k,hk,e⟩:=mem_map.mp (pB h)
 have hk:=mem_range.mp hk
 exact OA (hr k hk) (hs.sp k hk) e
noncomputable def grow:Run->Nat->Nat
 |[],S=>S
 | .item _::r,S=>grow r (S+bG)
 | .star _::r,S=>grow r (S*pw 1302)
theorem zA:∀(r:Run) (S:Nat),grow r S<=(S+r.length*bG)*pw (1302*bW r)
 |[],S=>by
  have:bW []=0:=rfl
  unfold grow;rw [this,dY];simp
 | .item i::r,S=>by
  have e:bW (.item i::r)=bW r:=by unfold bW;rw [filter_cons,if_neg (by simp [isStar])]
  have ih:=zA r (S+bG)
  rw [e,length_cons]
  unfold grow
  refine Nat.le_trans ih (Nat.le_of_eq ?_)
  congr 1
  rw [Nat.add_mul];omega
 | .star b::r,S=>by
  have e:bW (.star b::r)=bW r+1:=by unfold bW;rw [filter_cons,if_pos (by rfl)];rfl
  have ih:=zA r (S*pw 1302)
  rw [e,length_cons]
  unfold grow
  refine Nat.le_trans ih ?_
  rw [show 1302*(bW r+1)=1302+1302*bW r by omega,gE,←Nat.mul_assoc]
  refine Nat.mul_le_mul_right _ ?_
  rw [Nat.add_mul]
  refine Nat.add_le_add_left ?_ _
  have h1:r.length*bG<=(r.length+1)*bG:=Nat.mul_le_mul_right _ (by omega)
  refine Nat.le_trans h1 ?_
  exact Nat.le_mul_of_pos_right _ (fK _)
theorem zB:∀(r:Run) (S:Nat),S<=grow r S
 |[],S=>Nat.le_refl _
 | .item _::r,S=>by unfold grow;exact Nat.le_trans (by omega) (zB r _)
 | .star _::r,S=>by unfold grow;exact Nat.le_trans (Nat.le_mul_of_pos_right _ (fK _)) (zB r _)
theorem IT:bG*4=pw 1302:=by
 unfold bG
 rw [show(4:Nat)=pw 2 by rw [dY],←gE]
theorem iT:1<=bG:=fK _
theorem Bf {n S w:Nat}(hS:bG<=S) (hw:w<=bG) (hn:n<=S+bG+1):S+n*w<=S*pw 1302:=by
 have h1:=iT
 have h2:n*w<=(3*S)*bG:=Nat.mul_le_mul (by omega) hw
 rw [←IT]
 have h3:S*(bG*4)=(3*S)*bG+S*bG:=by
  rw [Nat.mul_comm bG 4,←Nat.mul_assoc,Nat.mul_comm S 4,←Nat.add_mul];congr 1;omega
 have h4:S<=S*bG:=Nat.le_mul_of_pos_right _ h1
 omega
theorem wg {acts:List Act}(h:bX acts) (hs:qh acts):∀(r:Run) (now:List Int) (dH:Bool) (S:Nat) (l:List Item),now.length=8->cc S now->bG<=S->(∀ p∈r,mV 4096 p)->de acts now dH r=some l->
  bh (itemsOf l)+S<=grow r S
 |[],now,dH,S,l,_,_,_,_,e=>by
  unfold de at e
  cases e
  unfold itemsOf bh grow;omega
 | .item i::r,now,dH,S,l,hl,hn,hS,hp,e=>by
  have x:=cU h i
  have sl:=gy h hs i
  have jh:=(hp _ mem_cons_self).it i rfl
  have hw:=AE jh.1 jh.2.1 jh.2.2
  unfold de at e
  dsimp only at e
  cases er:de acts (if(dH&&fits now (sumItem acts i).box)=true then plus now (sumItem acts i).add else now) (dH&&fits now (sumItem acts i).box) r with
  | none=>rw [er] at e;cases e
  | some l'=>
   rw [er] at e
   cases e
   have pT:cc (S+bG) (if(dH&&fits now (sumItem acts i).box)=true then plus now (sumItem acts i).add else now):=by
    split
    ·exact(cc.plus hl x.1.add hn sl.now).mono (by omega)
    ·exact hn.mono (by omega)
   have nQ:(if(dH&&fits now (sumItem acts i).box)=true then plus now (sumItem acts i).add else now).length=8:=by
    split
    ·exact gH hl x.1.add
    ·exact hl
   have ih:=wg h hs r _ _ (S+bG) l' nQ pT (by omega) (fun p hp'=>hp p (mem_cons_of_mem _ hp')) er
   unfold itemsOf bh grow
   omega
 | .star b::r,now,dH,S,l,hl,hn,hS,hp,e=>by
  have x:=bU h b
  have sl:=fI h hs b
  have jh:=(hp _ mem_cons_self).st b rfl
  have hw:=sL jh.1 jh.2.1 (by omega)
  have e0:∀ n,sumItem acts (.rep n b)=repSum n (sumItems acts b):=fun n=>by rw [sumItem]
  unfold de at e
  cases eo:(if dH=true/\0<(sumItems acts b).len then often now (sumItems acts b) else some 0) with
  | none=>rw [eo] at e;cases e
  | some n=>
   rw [eo] at e
   dsimp only at e
   have Q4:n<=S+bG+1:=by
    split at eo
    ·have:=ja hl x.1 hn sl eo
     omega
    ·cases eo;omega
   have hg:=Bf hS hw Q4
   cases er:de acts (if(dH&&fits now (sumItem acts (.rep n b)).box)=true then plus now (sumItem acts (.rep n b)).add else now) (dH&&fits now (sumItem acts (.rep n b)).box) r with
   | none=>rw [er] at e;cases e
   | some l'=>
    rw [er] at e
    cases e
    have nQ:(if(dH&&fits now (sumItem acts (.rep n b)).box)=true then plus now (sumItem acts (.rep n b)).add else now).length=8:=by
     split
     ·rw [e0];exact gH hl (x.1.rep n).add
     ·exact hl
    have pT:cc (S*pw 1302) (if(dH&&fits now (sumItem acts (.rep n b)).box)=true then plus now (sumItem acts (.rep n b)).add else now):=by
     split
     ·rw [e0,qe x.1]
      refine(cc.plus hl (eC x.1.add) hn (cc.times x.1.add sl.now n)).mono hg
     ·exact hn.mono (Nat.le_mul_of_pos_right _ (fK _))
    have ih:=wg h hs r _ _ (S*pw 1302) l' nQ pT (Nat.le_trans hS (Nat.le_mul_of_pos_right _ (fK _))) (fun p hp'=>hp p (mem_cons_of_mem _ hp')) er
    unfold itemsOf bh grow ck
    omega
noncomputable def cQ:Nat:=pw 11750
theorem Gn {r:Run}(hl:r.length<=4096) (eZ:bW r<=8):grow r bG<=cQ:=by
 refine Nat.le_trans (zA r bG) ?_
 have h1:bG+r.length*bG<=pw 13*bG:=by
  have:r.length*bG<=4096*bG:=Nat.mul_le_mul_right _ hl
  have e:pw 13=8192:=by rw [dY]
  rw [e]
  omega
 refine Nat.le_trans (Nat.mul_le_mul h1 (gb (show 1302*bW r<=10416 by omega))) ?_
 unfold bG cQ
 rw [←gE,←gE]
 exact gb (by omega)
theorem Dp {acts:List Act}(h:bX acts){i:Item}{r:Items}{rs:List Int}(hr:rs.length=8) (f:fits rs (sumItem acts i).box=true) :
  reachItems acts rs (.cons i r)=((sumItem acts i).len+(reachItems acts (plus rs (sumItem acts i).add) r).1,(reachItems acts (plus rs (sumItem acts i).add) r).2.1,(reachItems acts (plus rs (sumItem acts i).add) r).2.2):=by
 have y:=xx h i rs hr
 rw [reachItems]
 dsimp only
 rw [if_neg (by rw [y.1,f];decide),(y.2.2.1 f).1,(y.2.2.1 f).2]
theorem Dn {acts:List Act}(h:bX acts){i:Item}{r:Items}{rs:List Int}(hr:rs.length=8) (f:fits rs (sumItem acts i).box=false):reachItems acts rs (.cons i r)=reachItem acts rs i:=by
 have y:=xx h i rs hr
 rw [reachItems]
 dsimp only
 rw [if_pos (by rw [y.1,f])]
theorem Dq {acts:List Act}(h:bX acts){n:Nat}{l:Items}{rs:List Int}(hr:rs.length=8) (f:fits rs (sumItem acts (.rep n l)).box=false) :
  ∃ t,often rs (sumItems acts l)=some t/\t<n/\reachItem acts rs (.rep n l)=(t*(sumItems acts l).len+(reachItems acts (plus rs (times t (sumItems acts l).add)) l).1,(reachItems acts (plus rs (times t (sumItems acts l).add)) l).2.1,false):=by
 have x:=bU h l
 have e0:sumItem acts (.rep n l)=repSum n (sumItems acts l):=by rw [sumItem]
 rw [e0] at f
 have hf:¬ eS n (often rs (sumItems acts l)):=fun q=>by
  have:=(ub hr x.1 n).mp q
  rw [f] at this
  cases this
 cases eo:often rs (sumItems acts l) with
 | none=>rw [eo] at hf;exact absurd trivial hf
 | some t=>
  rw [eo] at hf
  have ht:t<n:=by simp only [eS] at hf;omega
  refine⟨t,rfl,ht,?_⟩
  rw [reachItem]
  dsimp only
  rw [eo]
  have:upTo n (some t)=t:=by simp only [upTo];omega
  rw [this,if_neg (by omega)]
theorem Mx {acts:List Act}{i:Nat}{rs:List Int}(f:fits rs (sumItem acts (.act i)).box=false):reachItem acts rs (.act i)=(0,rs,false):=by
 rw [sumItem] at f
 rw [reachItem,if_neg (by rw [f];decide)]
theorem Ot {a:ax}{r:Int}(h:a.ok r=false):a.often r=some 0:=by
 have h1:¬ eS 1 (a.often r):=fun q=>by
  have:=(xZ (a:=a) (r:=r) (n:=1) (by decide)).mp q
  have e:a.rep ((1:Nat):Int)=a:=by
   unfold ax.rep
   apply ax.ext'<;>dsimp only<;>simp
  rw [e,h] at this
  cases this
 cases e:a.often r with
 | none=>rw [e] at h1;exact absurd trivial h1
 | some j=>
  rw [e] at h1
  have:¬ 1<=j:=h1
  congr 1
  omega
theorem Ox {a:ax}{r l:Int}(h:a.ok r=true) (hd:a.add<0) (hl:a.lo=some l):a.often r=some (((r-l) / (-a.add)).toNat+1)/\0<=(r-l) / (-a.add):=by
 have hk:=(fi a r).mp h
 have h1:=hk.1 l hl
 refine⟨?_,Int.ediv_nonneg (by omega) (by omega)⟩
 unfold ax.often oftenB
 dsimp only
 rw [hl]
 dsimp only
 rw [if_neg (by omega),if_pos hd]
 cases eh:a.hi with
 | none=>rfl
 | some u=>
  have h2:=hk.2 u eh
  dsimp only
  rw [if_neg (by omega),if_neg (by omega)]
  rfl
theorem Oy {a:ax}{r u:Int}(h:a.ok r=true) (hd:0<a.add) (hu:a.hi=some u):a.often r=some (((u-r) / a.add).toNat+1)/\0<=(u-r) / a.add:=by
 have hk:=(fi a r).mp h
 have h1:=hk.2 u hu
 refine⟨?_,Int.ediv_nonneg (by omega) (by omega)⟩
 unfold ax.often oftenB
 dsimp only
 rw [hu]
 dsimp only
 rw [if_neg (show ¬ u<r by omega),if_pos hd]
 cases eh:a.lo with
 | none=>rfl
 | some l=>
  have h2:=hk.1 l eh
  dsimp only
  rw [if_neg (by omega),if_neg (by omega)]
  rfl
theorem iK {a:ax}{r:Int}(h:a.ok r=true) (h1:a.add<0->a.lo=none) (h2:0<a.add->a.hi=none):a.often r=none:=by
 have hk:=(fi a r).mp h
 unfold ax.often oftenB
 dsimp only
 cases el:a.lo with
 | none=>
  cases eh:a.hi with
  | none=>rfl
  | some u=>
   have h4:=hk.2 u eh
   have h5:¬ 0<a.add:=fun q=>by have:=h2 q;rw [eh] at this;cases this
   dsimp only
   rw [if_neg (by omega),if_neg h5]
   rfl
 | some l=>
  have h3:=hk.1 l el
  have h6:¬ a.add<0:=fun q=>by have:=h1 q;rw [el] at this;cases this
  cases eh:a.hi with
  | none=>
   dsimp only
   rw [if_neg (by omega),if_neg h6]
   rfl
  | some u=>
   have h4:=hk.2 u eh
   have h5:¬ 0<a.add:=fun q=>by have:=h2 q;rw [eh] at this;cases this
   dsimp only
   rw [if_neg (by omega),if_neg h6,if_neg (by omega),if_neg h5]
   rfl
def d9:Option Nat->Option Int:=Option.map fun n=>(n:Int)
theorem yA (x:Option Nat):∀ l:List (Option Nat),d9 (least (l++[x]))=minO (d9 (least l)) (d9 x)
 |[]=>by
  cases x<;>rfl
 | none::r=>by
  rw [cons_append]
  exact yA x r
 | some a::r=>by
  have ih:=yA x r
  rw [cons_append]
  unfold least
  cases e1:least (r++[x]) with
  | none=>
   rw [e1] at ih
   cases e2:least r with
   | none=>
    rw [e2] at ih
    cases x with
    | none=>rfl
    | some b=>cases ih
   | some b=>
    rw [e2] at ih
    cases x<;>cases ih
  | some m=>
   rw [e1] at ih
   cases e2:least r with
   | none=>
    rw [e2] at ih
    cases x with
    | none=>cases ih
    | some b=>
     have:m=b:=by
      have q:(m:Int)=b:=by simpa [d9,minO] using ih
      omega
     subst this
     simp only [d9,minO,Option.map]
     congr 1
     omega
   | some b=>
    rw [e2] at ih
    cases x with
    | none=>
     have:m=b:=by
      have q:(m:Int)=b:=by simpa [d9,minO] using ih
      omega
     subst this
     rfl
    | some d=>
     have:(m:Int)=min (b:Int) d:=by simpa [d9,minO] using ih
     simp only [d9,minO,Option.map]
     congr 1
     omega
structure cH (W:Nat) (rs:List Int):Prop where
 len:rs.length=8
 zero:∀ k,W<=k->k<8->aF rs k=0
def Tail (W:Nat) (s:Sum):Prop:=∀ k,W<=k->k<8->sp s k=ax.zero
theorem SH {W:Nat}{rs:List Int}{s:Sum}(hW:W<=8) (hr:rs.length=8) (hs:Wf s) (ht:Tail W s):fits rs s.box=(range W).all fun k=>(sp s k).ok (aF rs k):=by
 rw [Bool.eq_iff_iff,n6 hr hs,all_eq_true]
 constructor
 ·intro h k hk
  exact h k (by have:=mem_range.mp hk;omega)
 ·intro h k hk
  by_cases jk:k<W
  ·exact h k (mem_range.mpr jk)
  ·rw [ht k (by omega) hk];rfl
theorem Qg (l:List (Option Nat)):∀ m:List (Option Nat),(∀ x∈m,x=none)->least (l++m)=least l:=by
 intro m
 induction l with
 | nil=>
  intro h
  induction m with
  | nil=>rfl
  | cons x r ih=>
   have:=h x mem_cons_self
   subst this
   exact ih fun y hy=>h y (mem_cons_of_mem _ hy)
 | cons y r ih=>
  intro h
  rw [cons_append]
  cases y with
  | none=>exact ih h
  | some a=>unfold least;rw [ih h]
theorem Ov {W:Nat}{rs:List Int}{s:Sum}(hW:W<=8) (hr:rs.length=8) (hs:Wf s) (ht:Tail W s):often rs s=least ((range W).map fun k=>(sp s k).often (aF rs k)):=by
 rw [uc hr hs]
 have e:range 8=range W++(range (8-W)).map (fun x=>W+x):=by
  rw [←List.range_add];congr 1;omega
 rw [e,map_append]
 refine Qg _ _ fun x hx=>?_
 rw [map_map] at hx
 obtain⟨k,hk,rfl⟩:=mem_map.mp hx
 have hk:=mem_range.mp hk
 show(sp s (W+k)).often _=none
 rw [ht (W+k) (by omega) (by omega)]
 exact iK rfl (fun q=>by cases q) (fun q=>by cases q)
theorem Tail.nil (W:Nat):Tail W {}:=fun k _ _=>dX k
theorem Tail.seq {W:Nat}{a b:Sum}(ha:Wf a) (hb:Wf b) (ta:Tail W a) (tb:Tail W b):Tail W (seqSum a b):=fun k h1 h2=>by
 rw [dI ha hb h2,ta k h1 h2,tb k h1 h2,ax.AB ax.Lh.zero]
theorem Tail.rep {W:Nat}{a:Sum}(ha:Wf a) (ta:Tail W a) (n:Nat):Tail W (repSum n a):=fun k h1 h2=>by
 by_cases hn:n=0
 ·subst hn;exact dX k
 ·rw [mj ha hn h2,ta k h1 h2]
  unfold ax.rep ax.zero
  apply ax.ext'<;>dsimp only<;>simp
def ly (W:Nat) (acts:List Act):Prop:=∀ a∈acts,∀ k,W<=k->k<8->bg a.box k=(none,none)/\aF a.add k=0
mutual
theorem gw {W:Nat}{acts:List Act}(h:bX acts) (t:ly W acts):∀ i:Item,Tail W (sumItem acts i)
 | .act i=>by
  unfold sumItem
  cases e:acts[i]? with
  | none=>exact Tail.nil W
  | some a=>
   have ha:=mem_of_getElem? e
   intro k h1 h2
   show sp (actSum a) k=ax.zero
   rw [tf (h a ha).2 h2,(t a ha k h1 h2).1,(t a ha k h1 h2).2]
   rfl
 | .rep n l=>by unfold sumItem;exact Tail.rep (bU h l).1 (eU h t l) n
theorem eU {W:Nat}{acts:List Act}(h:bX acts) (t:ly W acts):∀ l:Items,Tail W (sumItems acts l)
 | .nil=>by unfold sumItems;exact Tail.nil W
 | .cons i r=>by unfold sumItems;exact Tail.seq (cU h i).1 (bU h r).1 (gw h t i) (eU h t r)
end
theorem cH.plus {W:Nat}{rs:List Int}{s:Sum}(r:cH W rs) (hs:Wf s) (ht:Tail W s) (n:Int):cH W (plus rs (times n s.add)):=
 ⟨gH r.len (eC hs.add),fun k h1 h2=>by
  rw [ko r.len (eC hs.add) h2,kZ hs.add h2,r.zero k h1 h2]
  have:aF s.add k=0:=congrArg ax.add (ht k h1 h2)
  rw [this];simp⟩
theorem fA {a:List Int}(h:a.length=8):times 1 a=a:=lL (eC h) h fun k hk=>by rw [kZ h hk];omega
theorem xD:∀(k k' p:Nat) (t:List Nat),t.length<k->t.length<k'->dv k p t=dv k' p t
 | 0,_,_,t,h,_=>absurd h (Nat.not_lt_zero _)
 |_+1,0,_,t,_,h=>absurd h (Nat.not_lt_zero _)
 | k+1,k'+1,p,[],_,_=>rfl
 | k+1,k'+1,p,c::r,h,h'=>by
  unfold dv
  dsimp only
  simp only [length_cons] at h h'
  have h1:=qm p c r
  have hd:((c::r).drop (bO p (c::r)).ls.length).length<=r.length:=by rw [length_drop,length_cons];omega
  rw [xD k k' (p+1) r (by omega) (by omega),xD k k' _ _ (Nat.lt_of_le_of_lt hd (by omega)) (Nat.lt_of_le_of_lt hd (by omega))]
def pt (p:Nat) (t:List Nat):List bY:=dv (t.length+1) p t
theorem MR (p:Nat):pt p []=[]:=rfl
theorem MS (p:Nat) (r:List Nat):pt p (32::r)=pt (p+1) r:=by
 unfold pt
 rw [dv]
 simp only [if_true]
 rfl
theorem MQ (p c:Nat) (r:List Nat) (h:c≠32):pt p (c::r)=bO p (c::r)::pt (p+(bO p (c::r)).ls.length) ((c::r).drop (bO p (c::r)).ls.length):=by
 unfold pt
 rw [dv]
 simp only [h,if_false]
 have h1:=qm p c r
 congr 1
 refine xD _ _ _ _ ?_ ?_
 ·rw [length_drop];simp only [length_cons];omega
 ·omega
theorem AV (p c:Nat) (r:List Nat):(bO p (c::r)).ls.length<=(c::r).length:=by
 unfold bO
 have hh:((c::r).headD 0)=c:=rfl
 simp only [hh]
 split
 ·exact(takeWhile_prefix _).length_le
 ·split
  ·exact(takeWhile_prefix _).length_le
  ·simp
theorem drop_cons {t:List Nat}{e:Nat}(h:e<t.length):t.drop e=t[e]::t.drop (e+1):=drop_eq_getElem_cons h
theorem jA {p:Nat->Bool}{t:List Nat}{e:Nat}(h:e<t.length):((t.drop e).takeWhile p).length=if p t[e]=true then((t.drop (e+1)).takeWhile p).length+1 else 0:=by
 rw [drop_cons h]
 split
 ·rename_i hp;rw [takeWhile_cons_of_pos hp];rfl
 ·rename_i hp;rw [List.takeWhile_cons_of_neg hp];rfl
def cR:List bY->Nat
 |[]=>0
 | x::r=>x.ls.length+1+cR r
theorem sX:∀(k p:Nat) (t:List Nat),cR (dv k p t)<=2*t.length
 | 0,_,t=>Nat.zero_le _
 | k+1,p,[]=>Nat.le_refl _
 | k+1,p,c::r=>by
  unfold dv
  dsimp only
  split
  ·have:=sX k (p+1) r
   simp only [length_cons];omega
  ·have h1:=qm p c r
   have h2:=AV p c r
   have:=sX k (p+(bO p (c::r)).ls.length) ((c::r).drop (bO p (c::r)).ls.length)
   rw [length_drop] at this
   unfold cR
   simp only [length_cons] at *;omega
theorem xN:∀(xs:List bY) (b:Bool),(fh b xs).length<=cR xs
 |[],_=>Nat.le_refl _
 | x::r,b=>by
  have:=xN r (decide (x.sg=.op))
  unfold fh cR
  simp only [length_append]
  split<;>simp only [length_cons,length_nil]<;>omega
def dA (st:List Nat×Bool) (x:bY):List Nat×Bool:=(st.1++((if st.2=false/\(x.sg=.name\/x.sg=.num\/x.sg=.star) then [32] else [])++x.ls),decide (x.sg=.op))
theorem xO:∀(xs:List bY) (acc:List Nat) (b:Bool),(xs.foldl dA (acc,b)).1=acc++fh b xs
 |[],acc,b=>by simp [fh]
 | x::r,acc,b=>by
  rw [foldl_cons,show dA (acc,b) x=(acc++((if b=false/\(x.sg=.name\/x.sg=.num\/x.sg=.star) then [32] else [])++x.ls),decide (x.sg=.op)) from rfl,xO r,fh,append_assoc,append_assoc]
theorem iU (xs ys:List bY):cR (xs++ys)=cR xs+cR ys:=by
 induction xs with
 | nil=>simp [cR]
 | cons x r ih=>rw [cons_append,cR,cR,ih];omega
theorem jW (xs:List bY):(xs.foldl dA ([],true)).1.length<=cR xs:=by
 rw [xO,nil_append]
 exact xN xs true
theorem OI {d:List Nat}(h:isNumeral d=true) (hd:∀ c∈d,digit c=true) (h0:d≠[]):number d<=MOST:=by
 match d,h0 with
 | c::r,_=>
  by_cases q:MOST<number (c::r)
  ·have:=(yF (d:=c::r) (c:=c) rfl (hd c mem_cons_self)).mpr (Or.inr q)
   rw [h] at this;cases this
  ·omega
theorem Jx (p c:Nat) (r:List Nat) (h:(bO p (c::r)).sg=.num):number (bO p (c::r)).ls<=MOST/\∀ d∈(bO p (c::r)).ls,48<=d:=by
 unfold bO at *
 have hh:((c::r).headD 0)=c:=rfl
 simp only [hh] at *
 by_cases hs:small c=true
 ·rw [if_pos hs] at h;cases h
 ·rw [if_neg hs] at *
  by_cases hd:digit c=true
  ·rw [if_pos hd] at *
   dsimp only at *
   have hn:isNumeral ((c::r).takeWhile digit)=true:=by
    by_cases q:isNumeral ((c::r).takeWhile digit)=true
    ·exact q
    ·rw [if_neg q] at h;cases h
   have ha:=all_takeWhile (p:=digit) (c::r)
   refine⟨OI hn ha ?_,fun d hm=>?_⟩
   ·rw [takeWhile_cons_of_pos hd];simp
   ·have:=ha d hm
    unfold digit at this
    simp at this
    omega
  ·rw [if_neg hd] at h
   unfold signOf at h
   dsimp only at h
   split at h
   ·cases h
   ·split at h
    ·cases h
    ·split at h<;>cases h
theorem MP (k p:Nat) (t:List Nat):∀ x∈dv k p t,x.sg=.num->number x.ls<=MOST/\∀ d∈x.ls,48<=d:=fun x hx h=>by
 obtain⟨p',c,r,rfl⟩:=uw k p t x hx
 exact Jx p' c r h
theorem Jw (p:Nat) (t:List Nat):(bO p t).pl=p:=by
 unfold bO
 dsimp only
 split
 ·rfl
 ·split<;>rfl
theorem xC:∀(k p:Nat) (t:List Nat),∀ x∈dv k p t,p<=x.pl
 | 0,_,_,x,h=>by simp [dv] at h
 | k+1,p,[],x,h=>by simp [dv] at h
 | k+1,p,c::r,x,h=>by
  unfold dv at h
  dsimp only at h
  split at h
  ·have:=xC k _ _ x h;omega
  ·rcases mem_cons.mp h with h | h
   ·rw [h,Jw];exact Nat.le_refl _
   ·have:=xC k _ _ x h;omega
theorem Pp {acts:List Act}{s s':aM}{T:List (Tok×Nat)}{i:Nat}{t:Tok}{p:Nat}(h:T[i]? = some (t,p)) (hs:bI acts s t=some s'):cV acts s (T.drop i)=cV acts s' (T.drop (i+1)):=by
 obtain⟨h1,h2⟩:=List.getElem?_eq_some_iff.mp h
 rw [drop_eq_getElem_cons h1,h2,cV,hs]
theorem Po {acts:List Act}{s:aM}{T:List (Tok×Nat)}{i:Nat}{t:Tok}{p:Nat}(h:T[i]? = some (t,p)) (hs:bI acts s t=none):cV acts s (T.drop i)=.error p:=by
 obtain⟨h1,h2⟩:=List.getElem?_eq_some_iff.mp h
 rw [drop_eq_getElem_cons h1,h2,cV,hs]
theorem i5 {acts:List Act}{t:List Nat}{p:Nat}(h:readM acts t=.error p):readRun acts t=.error p:=by
 have e:=xw acts t
 rw [h] at e
 cases er:readRun acts t with
 | error q=>rw [er] at e;injection e with e;rw [e]
 | ok m=>rw [er] at e;cases e
theorem Mr {acts:List Act}{t:List Nat}{s:aM}(h:readM acts t=.ok s):∃ m,readRun acts t=.ok m/\s=⟨m,[],none,bW m,deepOf m⟩:=by
 have e:=xw acts t
 rw [h] at e
 cases er:readRun acts t with
 | error q=>rw [er] at e;cases e
 | ok m=>rw [er] at e;injection e with e;exact⟨m,rfl,e⟩
def bZ (acts:List Act):Item->Sum
 | .act i=>sumItem acts (.act i)
 | .rep _ l=>sumItems acts l
def rowOf:Item->Items
 | .act _=>.nil
 | .rep _ l=>l
theorem jI {acts:List Act}(h:bX acts) (i:Item):Wf (bZ acts i):=by
 cases i with
 | act i=>exact(cU h _).1
 | rep n l=>exact(bU h l).1
theorem jJ {W:Nat}{acts:List Act}(h:bX acts) (t:ly W acts) (i:Item):Tail W (bZ acts i):=by
 cases i with
 | act i=>exact gw h t _
 | rep n l=>exact eU h t l
theorem ia (i:Item):bK (rowOf i)<cY i:=by
 cases i with
 | act i=>unfold rowOf bK cY;omega
 | rep n l=>
  show bK l<cY (.rep n l)
  unfold cY;omega
theorem dU.mono {A B:Nat}{s:Sum}(h:dU A s) (hl:A<=B):dU B s:=⟨Nat.le_trans h.len hl,fun k hk=>(h.sp k hk).mono hl⟩
theorem Mv {acts:List Act}(h:bX acts) (hs:qh acts){i:Item}{rs:List Int}(hr:rs.length=8) (f:fits rs (sumItem acts i).box=false) :
  ∃ t,often rs (bZ acts i)=some t/\reachItem acts rs i=(t*(bZ acts i).len+(reachItems acts (plus rs (times t (bZ acts i).add)) (rowOf i)).1,(reachItems acts (plus rs (times t (bZ acts i).add)) (rowOf i)).2.1,false) /\
   dU (ck i) (bZ acts i)/\cc (ck i-bh (rowOf i)) (times t (bZ acts i).add)/\bh (rowOf i)<=ck i:=by
 cases i with
 | act j=>
  have x:=cU h (.act j)
  have sl:=gy h hs (.act j)
  have e0:plus rs (times ((0:Nat):Int) (sumItem acts (.act j)).add)=rs:=by
   have:times ((0:Nat):Int) (sumItem acts (.act j)).add=still:=qo x.1.add
   rw [this,ki hr]
  refine⟨0,Ou hr x.1 f,?_,sl,?_,by unfold rowOf bh;omega⟩
  ·show reachItem acts rs (.act j)=(0*_+(reachItems acts (plus rs (times ((0:Nat):Int) (sumItem acts (.act j)).add)) .nil).1,(reachItems acts (plus rs (times ((0:Nat):Int) (sumItem acts (.act j)).add)) .nil).2.1,false)
   rw [Mx f,e0,reachItems]
   simp
  ·intro k hk
   show(aF (times ((0:Nat):Int) (sumItem acts (.act j)).add) k).natAbs<=_
   rw [kZ x.1.add hk]
   simp
 | rep n l=>
  obtain⟨t,h1,h2,h3⟩:=Dq h hr f
  have sl:=fI h hs l
  have x:=bU h l
  have hn:bh l<=n*bh l:=Nat.le_mul_of_pos_left _ (by omega)
  refine⟨t,h1,h3,sl.mono (by unfold ck;exact hn),?_,by unfold rowOf ck;exact hn⟩
  refine(cc.times x.1.add sl.now t).mono ?_
  show t*bh l<=ck (.rep n l)-bh l
  unfold ck
  have:(t+1)*bh l<=n*bh l:=Nat.mul_le_mul_right _ (by omega)
  rw [Nat.add_mul] at this
  omega
theorem Mu {acts:List Act}(h:bX acts){l:Items}{rs:List Int}(hr:rs.length=8) :
  (reachItems acts rs (.cons (.rep 1 l) .nil)).1=(reachItems acts rs l).1/\(reachItems acts rs (.cons (.rep 1 l) .nil)).2.1=(reachItems acts rs l).2.1:=by
 have x:=bU h l
 have e0:sumItem acts (.rep 1 l)=sumItems acts l:=by rw [sumItem,fZ x.1]
 have y:=gC h l rs hr
 cases f:fits rs (sumItems acts l).box with
 | true=>
  rw [Dp h hr (by rw [e0];exact f),e0,(y.2.2.1 f).1,(y.2.2.1 f).2]
  unfold reachItems
  exact⟨rfl,rfl⟩
 | false=>
  rw [Dn h hr (by rw [e0];exact f)]
  obtain⟨t,h1,h2,h3⟩:=Dq h (n:=1) hr (by rw [e0];exact f)
  have:t=0:=by omega
  subst this
  rw [h3]
  have ez:plus rs (times ((0:Nat):Int) (sumItems acts l).add)=rs:=by
   have:times ((0:Nat):Int) (sumItems acts l).add=still:=qo x.1.add
   rw [this,ki hr]
  rw [ez]
  simp
theorem Il {acts:List Act}(h:bX acts){i:Item}{rs:List Int}{k:Nat}(hr:rs.length=8) (f:¬ (sumItem acts i).len<=k) :
  0<(bZ acts i).len/\afterItem acts rs k i=afterItems acts (plus rs (times ((k:Int) / ((bZ acts i).len:Int)) (bZ acts i).add)) (k % (bZ acts i).len) (rowOf i)/\k % (bZ acts i).len<=(sumItems acts (rowOf i)).len:=by
 cases i with
 | act j=>
  have x:=cU h (.act j)
  have e1:(sumItem acts (.act j)).len<=1:=by
   unfold sumItem
   cases acts[j]? with
   | none=>exact Nat.zero_le _
   | some a=>exact Nat.le_refl _
  have ek:k=0:=by omega
  have el:(sumItem acts (.act j)).len=1:=by omega
  subst ek
  show 0<(sumItem acts (.act j)).len/\_=afterItems acts (plus rs (times (((0:Nat):Int) / ((sumItem acts (.act j)).len:Int)) (sumItem acts (.act j)).add)) (0 % (sumItem acts (.act j)).len) .nil/\0 % (sumItem acts (.act j)).len<=(sumItems acts .nil).len
  refine⟨by omega,?_,by rw [Nat.zero_mod];exact Nat.zero_le _⟩
  have e0:((0:Nat):Int) / ((sumItem acts (.act j)).len:Int)=0:=Int.zero_ediv _
  rw [e0,qo x.1.add,ki hr,Nat.zero_mod,afterItems,Ik h _ rs hr]
 | rep n l=>
  have x:=bU h l
  have e0:sumItem acts (.rep n l)=repSum n (sumItems acts l):=by rw [sumItem]
  rw [e0,nI] at f
  have hp:0<(sumItems acts l).len:=by
   rcases Nat.eq_zero_or_pos (sumItems acts l).len with z | z
   ·rw [z] at f;simp at f
   ·exact z
  refine⟨hp,?_,Nat.le_of_lt (Nat.mod_lt _ hp)⟩
  rw [afterItem]
  rw [if_neg f]
  rfl
theorem Ij {acts:List Act}{i:Item}{r:Items}{rs:List Int}{k:Nat}(f:(sumItem acts i).len<=k):afterItems acts rs k (.cons i r)=afterItems acts (plus rs (sumItem acts i).add) (k-(sumItem acts i).len) r:=by
 rw [afterItems]
 rw [if_pos f]
theorem Im {acts:List Act}{i:Item}{r:Items}{rs:List Int}{k:Nat}(f:¬ (sumItem acts i).len<=k):afterItems acts rs k (.cons i r)=afterItem acts rs k i:=by
 rw [afterItems]
 rw [if_neg f]
theorem jN (acts:List Act) (i:Item) (r:Items):(sumItems acts (.cons i r)).len=(sumItem acts i).len+(sumItems acts r).len:=by rw [sumItems];rfl
theorem WL {acts:List Act}(h:bX acts){l:Items}{rs:List Int}{k:Nat}(hr:rs.length=8) (hk:k<=(sumItems acts l).len):afterItems acts rs k (.cons (.rep 1 l) .nil)=afterItems acts rs k l:=by
 have x:=bU h l
 have e0:sumItem acts (.rep 1 l)=sumItems acts l:=by rw [sumItem,fZ x.1]
 by_cases f:(sumItem acts (.rep 1 l)).len<=k
 ·rw [Ij f,e0]
  have ek:k=(sumItems acts l).len:=by rw [e0] at f;omega
  rw [ek,Io h l rs hr,afterItems]
 ·rw [Im f]
  obtain⟨h1,h2,h3⟩:=Il h hr f
  rw [h2]
  show afterItems acts (plus rs (times ((k:Int) / ((sumItems acts l).len:Int)) (sumItems acts l).add)) (k % (sumItems acts l).len) l=_
  rw [e0] at f
  have e1:((k:Int) / ((sumItems acts l).len:Int))=0:=Int.ediv_eq_zero_of_lt (by omega) (by omega)
  rw [e1,qo x.1.add,ki hr,Nat.mod_eq_of_lt (by omega)]
mutual
def pM (n:Nat):Item->Prop
 | .act i=>i<n
 | .rep _ l=>jg n l
def jg (n:Nat):Items->Prop
 | .nil=>True
 | .cons i r=>pM n i/\jg n r
end
theorem WV {acts:List Act}{w:Text}{i:Nat}(h:actOf acts w=some i):i<acts.length:=by
 unfold actOf at h
 dsimp only at h
 split at h
 ·cases h;assumption
 ·cases h
theorem uD (acts:List Act) (e:Nat):∀(k d:Nat) (t:List (Tok×Nat)) (l:Items) (u:List (Tok×Nat)),items acts e k d t=.ok (l,u)->jg acts.length l
 | 0,d,t,l,u,h=>by unfold items at h;cases h
 | k+1,d,(.name w,p)::r,l,u,h=>by
  unfold items at h
  dsimp only at h
  cases ea:actOf acts w with
  | none=>rw [ea] at h;cases h
  | some i=>
   rw [ea] at h
   dsimp only at h
   cases ei:items acts e k d r with
   | error q=>rw [ei] at h;cases h
   | ok x=>
    obtain⟨l',u'⟩:=x
    rw [ei] at h
    dsimp only at h
    cases h
    unfold jg pM
    exact⟨WV ea,uD acts e k d r l' u ei⟩
 | k+1,d,(.num n,p)::(.open_,q)::r,l,u,h=>by
  unfold items at h
  dsimp only at h
  by_cases e0:d=0
  ·rw [if_pos e0] at h;cases h
  ·rw [if_neg e0] at h
   cases ei:items acts e k (d-1) r with
   | error z=>rw [ei] at h;cases h
   | ok x=>
    obtain⟨c,v⟩:=x
    rw [ei] at h
    have ih:=uD acts e k (d-1) r c v ei
    match v,h with
    |[],h=>cases h
    |(.name _,_)::_,h=>cases h
    |(.num _,_)::_,h=>cases h
    |(.open_,_)::_,h=>cases h
    |(.star,_)::_,h=>cases h
    |(.bad,_)::_,h=>cases h
    |(.close,z)::v,h=>
     dsimp only at h
     cases ej:items acts e k d v with
     | error z=>rw [ej] at h;cases h
     | ok x=>
      obtain⟨l',u'⟩:=x
      rw [ej] at h
      dsimp only at h
      cases h
      unfold jg pM
      exact⟨ih,uD acts e k d v l' u ej⟩
 | k+1,d,[],l,u,h=>by unfold items at h;cases h;unfold jg;trivial
 | k+1,d,(.num n,p)::[],l,u,h=>by unfold items at h;cases h
 | k+1,d,(.num n,p)::(.name w,q)::r,l,u,h=>by unfold items at h;cases h
 | k+1,d,(.num n,p)::(.num w,q)::r,l,u,h=>by unfold items at h;cases h
 | k+1,d,(.num n,p)::(.close,q)::r,l,u,h=>by unfold items at h;cases h
 | k+1,d,(.num n,p)::(.star,q)::r,l,u,h=>by unfold items at h;cases h
 | k+1,d,(.num n,p)::(.bad,q)::r,l,u,h=>by unfold items at h;cases h
 | k+1,d,(.open_,p)::r,l,u,h=>by unfold items at h;cases h;unfold jg;trivial
 | k+1,d,(.close,p)::r,l,u,h=>by unfold items at h;cases h;unfold jg;trivial
 | k+1,d,(.star,p)::r,l,u,h=>by unfold items at h;cases h;unfold jg;trivial
 | k+1,d,(.bad,p)::r,l,u,h=>by unfold items at h;cases h;unfold jg;trivial
theorem DE:∀ l:Items,plainOf (items1 l)=some l
 | .nil=>rfl
 | .cons i r=>by unfold items1 plainOf;rw [DE r];rfl
theorem DB:∀(l:Items) (b:Items) (m:Run),plainOf (items1 l++(.star b::m))=none
 | .nil,b,m=>rfl
 | .cons i r,b,m=>by unfold items1;rw [cons_append,plainOf,DB r b m];rfl
theorem E6:∀ {m:Run}{l:Items},plainOf m=some l->m=items1 l
 |[],l,h=>by cases h;rfl
 | .item i::r,l,h=>by
  unfold plainOf at h
  cases e:plainOf r with
  | none=>rw [e] at h;cases h
  | some l'=>
   rw [e] at h
   cases h
   unfold items1
   rw [E6 e]
 | .star _::_,l,h=>by cases h
theorem vY:∀ {m:Run},bW m=0↔∃ l,plainOf m=some l
 |[]=>⟨fun _=>⟨_,rfl⟩,fun _=>rfl⟩
 | .item i::r=>by
  have e:bW (.item i::r)=bW r:=by unfold bW;rw [filter_cons,if_neg (by simp [isStar])]
  rw [e,vY (m:=r)]
  constructor
  ·rintro ⟨l,h⟩;exact⟨.cons i l,by unfold plainOf;rw [h];rfl⟩
  ·rintro ⟨l,h⟩
   unfold plainOf at h
   cases e:plainOf r with
   | none=>rw [e] at h;cases h
   | some l'=>exact⟨l',rfl⟩
 | .star b::r=>by
  have e:bW (.star b::r)=bW r+1:=by unfold bW;rw [filter_cons,if_pos (by rfl)];rfl
  rw [e]
  exact⟨fun h=>by omega,fun⟨l,h⟩=>by cases h⟩
structure fW (n:Nat) (l:Items):Prop where
 nodes:bK l<=4096
 nums:fN l
 deep:deepItems l<=40
 ins:jg n l
theorem Nj (acts:List Act) (e:Nat):∀(k n:Nat) (t:List (Tok×Nat)) (m:Run) (l:Items),parts acts e k n t=.ok m->plainOf m=some l->∃ u,items acts e (e+1) DEEP t=.ok (l,u)
 | 0,n,t,m,l,h,_=>by unfold parts at h;cases h
 | k+1,n,t,m,l0,h,hp=>by
  unfold parts at h
  cases ei:items acts e (e+1) DEEP t with
  | error p=>rw [ei] at h;cases h
  | ok x=>
   obtain⟨l,u⟩:=x
   rw [ei] at h
   match u,h with
   |[],h=>
    cases h
    rw [DE] at hp
    cases hp
    exact⟨_,rfl⟩
   |(.name _,_)::_,h=>cases h
   |(.num _,_)::_,h=>cases h
   |(.open_,_)::_,h=>cases h
   |(.close,_)::_,h=>cases h
   |(.bad,_)::_,h=>cases h
   |[(.star,q)],h=>dsimp only at h;split at h<;>cases h
   |(.star,q)::(.name _,_)::_,h=>dsimp only at h;split at h<;>cases h
   |(.star,q)::(.num _,_)::_,h=>dsimp only at h;split at h<;>cases h
   |(.star,q)::(.close,_)::_,h=>dsimp only at h;split at h<;>cases h
   |(.star,q)::(.star,_)::_,h=>dsimp only at h;split at h<;>cases h
   |(.star,q)::(.bad,_)::_,h=>dsimp only at h;split at h<;>cases h
   |(.star,q)::(.open_,z)::r,h=>
    dsimp only at h
    by_cases n0:n=0
    ·rw [if_pos n0] at h;cases h
    ·rw [if_neg n0] at h
     cases ej:items acts e (e+1) (DEEP-1) r with
     | error p=>rw [ej] at h;cases h
     | ok x=>
      obtain⟨c,v⟩:=x
      rw [ej] at h
      match v,h with
      |[],h=>cases h
      |(.name _,_)::_,h=>cases h
      |(.num _,_)::_,h=>cases h
      |(.open_,_)::_,h=>cases h
      |(.star,_)::_,h=>cases h
      |(.bad,_)::_,h=>cases h
      |(.close,y)::v,h=>
       dsimp only at h
       cases ep:parts acts e k (n-1) v with
       | error p=>rw [ep] at h;cases h
       | ok m'=>
        rw [ep] at h
        dsimp only at h
        cases h
        rw [DB] at hp
        cases hp
theorem DS (acts:List Act) (e:Nat):∀(k n:Nat) (t:List (Tok×Nat)) (m:Run),parts acts e k n t=.ok m->bW m<=n
 | 0,n,t,m,h=>by unfold parts at h;cases h
 | k+1,n,t,m,h=>by
  unfold parts at h
  cases ei:items acts e (e+1) DEEP t with
  | error p=>rw [ei] at h;cases h
  | ok x=>
   obtain⟨l,u⟩:=x
   rw [ei] at h
   match u,h with
   |[],h=>
    cases h
    have:=qw l []
    rw [append_nil] at this
    rw [this]
    exact Nat.zero_le _
   |(.name _,_)::_,h=>cases h
   |(.num _,_)::_,h=>cases h
   |(.open_,_)::_,h=>cases h
   |(.close,_)::_,h=>cases h
   |(.bad,_)::_,h=>cases h
   |[(.star,q)],h=>dsimp only at h;split at h<;>cases h
   |(.star,q)::(.name _,_)::_,h=>dsimp only at h;split at h<;>cases h
   |(.star,q)::(.num _,_)::_,h=>dsimp only at h;split at h<;>cases h
   |(.star,q)::(.close,_)::_,h=>dsimp only at h;split at h<;>cases h
   |(.star,q)::(.star,_)::_,h=>dsimp only at h;split at h<;>cases h
   |(.star,q)::(.bad,_)::_,h=>dsimp only at h;split at h<;>cases h
   |(.star,q)::(.open_,z)::r,h=>
    dsimp only at h
    by_cases n0:n=0
    ·rw [if_pos n0] at h;cases h
    ·rw [if_neg n0] at h
     cases ej:items acts e (e+1) (DEEP-1) r with
     | error p=>rw [ej] at h;cases h
     | ok x=>
      obtain⟨c,v⟩:=x
      rw [ej] at h
      match v,h with
      |[],h=>cases h
      |(.name _,_)::_,h=>cases h
      |(.num _,_)::_,h=>cases h
      |(.open_,_)::_,h=>cases h
      |(.star,_)::_,h=>cases h
      |(.bad,_)::_,h=>cases h
      |(.close,y)::v,h=>
       dsimp only at h
       cases ep:parts acts e k (n-1) v with
       | error p=>rw [ep] at h;cases h
       | ok m'=>
        rw [ep] at h
        dsimp only at h
        cases h
        have ih:=DS acts e k (n-1) v m' ep
        have e1:bW (.star c::m')=bW m'+1:=by unfold bW;rw [filter_cons,if_pos (by rfl)];rfl
        rw [qw,e1]
        omega
theorem Dl (acts:List Act) (t:List Nat) (m:Run) (h:readRun acts t=.ok m):bW m<=8:=by
 unfold readRun at h
 split at h
 ·cases h
 ·exact DS acts _ _ _ _ m h
theorem Mq (acts:List Act) (t:List Nat) (m:Run) (l:Items) (h:readRun acts t=.ok m) (hp:plainOf m=some l):fW acts.length l:=by
 unfold readRun at h
 by_cases hl:LONGEST<t.length
 ·rw [if_pos hl] at h;cases h
 ·rw [if_neg hl] at h
  have hl':t.length<=4096:=by unfold LONGEST at hl;omega
  have ht:(tokens (t.length+1) 1 t).length<=t.length:=by
   rw [ka]
   exact Nat.le_trans (vj _) (oT _ _ _)
  obtain⟨u,hu⟩:=Nj acts _ _ _ _ m l h hp
  have h1:=pL acts _ _ _ _ l u hu (l9 _ _ _)
  exact⟨by omega,h1.2.2.1,h1.2.1,uD acts _ _ _ _ l u hu⟩
def di:Item->Nat
 | .act _=>1
 | .rep n _=>n
def hU:Item->Option Nat
 | .act i=>some i
 | .rep _ _=>none
abbrev Todo:=List (Item×Nat)
def dF (i:Nat) (td:Todo):Nat:=(td.map fun p=>p.2*countItem i p.1).sum
def df (td:Todo):Nat:=(td.map fun p=>cY p.1).sum
theorem HB (i:Nat) (a b:Todo):dF i (a++b)=dF i a+dF i b:=by unfold dF;rw [map_append,List.sum_append]
theorem yg (a b:Todo):df (a++b)=df a+df b:=by unfold df;rw [map_append,List.sum_append]
theorem zR (i e:Nat):∀ l:Items,dF i ((listOf l).map fun x=>(x,e))=e*countItems i l
 | .nil=>by unfold listOf countItems;simp [dF]
 | .cons j r=>by
  have ih:=zR i e r
  rw [listOf,countItems,map_cons]
  unfold dF at *
  rw [map_cons,sum_cons,ih,Nat.mul_add]
theorem gh (e:Nat):∀ l:Items,df ((listOf l).map fun x=>(x,e))=bK l
 | .nil=>by unfold listOf bK;simp [df]
 | .cons j r=>by
  have ih:=gh e r
  rw [listOf,bK,map_cons]
  unfold df at *
  rw [map_cons,sum_cons,ih]
theorem gG:∀ td:Todo,td.length<=df td
 |[]=>Nat.le_refl _
 | p::r=>by
  have ih:=gG r
  have h1:1<=cY p.1:=by cases p.1<;>unfold cY<;>omega
  unfold df at *
  simp only [map_cons,sum_cons,length_cons]
  omega
theorem Vr (i:Nat) (a:Todo) (it:Item) (e:Nat):dF i (a++[(it,e)])=dF i (a++(listOf (rowOf it)).map fun x=>(x,e*di it))+(if hU it=some i then e*di it else 0):=by
 rw [HB,HB,zR]
 have h1:dF i [(it,e)]=e*countItem i it:=by unfold dF;simp
 rw [h1]
 cases it with
 | act j=>
  show dF i a+e*countItem i (.act j)=dF i a+e*1*countItems i .nil+(if some j=some i then e*1 else 0)
  rw [countItem,countItems]
  by_cases h:i=j
  ·subst h;simp
  ·rw [if_neg h,if_neg (by intro z;cases z;exact h rfl)];omega
 | rep n l=>
  show dF i a+e*countItem i (.rep n l)=dF i a+e*n*countItems i l+(if none=some i then e*n else 0)
  rw [countItem,if_neg (by intro z;cases z),Nat.mul_assoc]
  omega
theorem jM (a:Todo) (it:Item) (e f:Nat):df (a++(listOf (rowOf it)).map fun x=>(x,f))<df (a++[(it,e)]):=by
 rw [yg,yg,gh]
 have h1:df [(it,e)]=cY it:=by unfold df;simp
 rw [h1]
 have:=ia it
 omega
structure lZ (n:Nat) (p:Item×Nat):Prop where
 nums:jK p.1
 ins:pM n p.1
theorem vO {n:Nat}:∀ {l:Items}(e:Nat),fN l->jg n l->∀ p∈(listOf l).map fun x=>(x,e),lZ n p
 | .nil,e,_,_,p,hp=>by unfold listOf at hp;simp at hp
 | .cons j r,e,h1,h2,p,hp=>by
  unfold fN at h1
  unfold jg at h2
  unfold listOf at hp
  rw [map_cons] at hp
  rcases mem_cons.mp hp with hp | hp
  ·subst hp;exact⟨h1.1,h2.1⟩
  ·exact vO e h1.2 h2.2 p hp
theorem lZ.row {n:Nat}{it:Item}{e:Nat}(h:lZ n (it,e)) (f:Nat):∀ p∈(listOf (rowOf it)).map fun x=>(x,f),lZ n p:=by
 cases it with
 | act j=>intro p hp;unfold rowOf listOf at hp;simp at hp
 | rep m l=>
  have h1:jK (.rep m l):=h.nums
  have h2:pM n (.rep m l):=h.ins
  unfold jK at h1
  unfold pM at h2
  exact vO f h1.2 h2
theorem lZ.times {n:Nat}{it:Item}{e:Nat}(h:lZ n (it,e)):di it<=MOST:=by
 cases it with
 | act j=>show 1<=MOST;decide
 | rep m l=>
  have h1:jK (.rep m l):=h.nums
  unfold jK at h1
  exact h1.1
theorem lZ.act {n:Nat}{it:Item}{e i:Nat}(h:lZ n (it,e)) (ha:hU it=some i):i<n:=by
 cases it with
 | act j=>unfold hU at ha;cases ha;exact h.ins
 | rep m l=>unfold hU at ha;cases ha
def bB (up:Bool) (a:ax):Int:=if up=true then a.high else -a.low
def cf (up:Bool) (a:ax):Int:=if up=true then a.add else -a.add
theorem Ai (up:Bool) (k:Nat) (s:Sum):addOf up k s=-(cf up (sp s k)):=by
 unfold addOf cf sp Vbdcan.get aF
 cases up<;>simp
theorem ux (up:Bool) (k:Nat) (s:Sum):lowOf up k s=-(bB up (sp s k)):=by
 unfold lowOf bB sp Vbdcan.get aF
 cases up<;>simp
theorem tP {up:Bool}{a:ax}(h:a.Lh):cf up a<=bB up a/\0<=bB up a:=by
 have:=h.l0;have:=h.h0;have:=h.la;have:=h.ah
 unfold cf bB
 cases up<;>simp<;>omega
theorem xF (up:Bool) (a b:ax):bB up (a.seq b)=max (bB up a) (cf up a+bB up b):=by
 unfold bB cf ax.seq
 cases up<;>simp<;>omega
theorem M4 (up:Bool) (n:Int) (a:ax):bB up (a.rep n)=max 0 ((n-1)*cf up a)+bB up a:=by
 unfold bB cf ax.rep
 cases up
 ·simp only [Bool.false_eq_true,if_false]
  rw [Int.mul_neg]
  omega
 ·simp
def cT (p r left:Int):Nat:=if left-p<=0 then 0 else(-(-(left-p) / r)).toNat
structure Below (p r left:Int):Prop where
 spec:(if -r<0 then((left-p+r-1) / r).toNat else 0)=cT p r left
 pos:0<left-(cT p r left:Int)*r
 le:left-(cT p r left:Int)*r<=p
 int:(cT p r left:Int)=if left-p<=0 then 0 else -(-(left-p) / r)
 lim:(cT p r left:Int)<=left
 rise:0<left-p->0<r
theorem Vx {m r:Int}(hr:0<r):-(-m / r)=(m+r-1) / r:=by
 have h1:r*(-m / r)+(-m) % r=-m:=Int.mul_ediv_add_emod (-m) r
 have h2:=Int.emod_nonneg (-m) (show r≠0 by omega)
 have h3:=Int.emod_lt_of_pos (-m) hr
 generalize (-m) % r=z at *
 generalize -m / r=q at *
 have h4:m+r-1=(r-1-z)+r*(-q):=by rw [Int.mul_neg];omega
 rw [h4,Int.add_mul_ediv_left _ _ (by omega),Int.ediv_eq_zero_of_lt (by omega) (by omega)]
 omega
theorem HU {p r left:Int}{n:Int}(h1:r<=p) (h2:0<=p) (hl:0<left) (hn:1<=n) (hp:left<=max 0 ((n-1)*r)+p):Below p r left:=by
 by_cases hm:left-p<=0
 ·have e:cT p r left=0:=by unfold cT;rw [if_pos hm]
  refine⟨?_,by rw [e];simp;exact hl,by rw [e];simp;omega,by rw [e,if_pos hm];rfl,by rw [e];simp;omega,fun q=>by omega⟩
  rw [e]
  split
  ·rename_i hr
   have:(left-p+r-1) / r<=0:=by
    have:(left-p+r-1) / r<1:=Int.ediv_lt_of_lt_mul (by omega) (by omega)
    omega
   omega
  ·rfl
 ·have hr:0<r:=by
   have h3:0<(n-1)*r:=by omega
   have h4:0<=n-1:=by omega
   rcases Int.lt_or_le 0 r with q | q
   ·exact q
   ·have:=Int.mul_nonpos_of_nonneg_of_nonpos h4 q
    omega
  have ec:=Vx (m:=left-p) hr
  have e:cT p r left=((left-p+r-1) / r).toNat:=by unfold cT;rw [if_neg hm,ec]
  have q1:r*((left-p+r-1) / r)+(left-p+r-1) % r=left-p+r-1:=Int.mul_ediv_add_emod _ _
  have q2:=Int.emod_nonneg (left-p+r-1) (show r≠0 by omega)
  have q3:=Int.emod_lt_of_pos (left-p+r-1) hr
  have q4:0<=(left-p+r-1) / r:=Int.ediv_nonneg (by omega) (by omega)
  have q5:(left-p+r-1) / r<=left-p:=by
   have:(left-p+r-1) / r<left-p+1:=by
    apply Int.ediv_lt_of_lt_mul hr
    have:left-p<=(left-p)*r:=by
     have:=Int.mul_le_mul_of_nonneg_left (show(1:Int)<=r by omega) (show 0<=left-p by omega)
     omega
    rw [Int.add_mul]
    omega
   omega
  have e2:(cT p r left:Int)=(left-p+r-1) / r:=by rw [e];omega
  have e3:(left-p+r-1) / r*r=r*((left-p+r-1) / r):=Int.mul_comm _ _
  refine⟨by rw [e,if_pos (by omega)],?_,?_,?_,?_,fun _=>hr⟩
  ·rw [e2,e3];omega
  ·rw [e2,e3];omega
  ·rw [e2,if_neg hm,ec]
  ·rw [e2];omega
theorem SI {acts:List Act}{up:Bool}{k:Nat}{v x:Int}(l:Items) (h:x<=v):firstItems acts up k v x l=some 0:=by
 cases l<;>rw [firstItems,if_pos h]
theorem iQ {acts:List Act}(h:bX acts){up:Bool}{k:Nat}(hk:k<8){v:Int}:∀(l:Items) (left:Int),0<left->
  (left<=bB up (sp (sumItems acts l) k)->∃ n,firstItems acts up k v (v+left) l=some n)/\(bB up (sp (sumItems acts l) k)<left->firstItems acts up k v (v+left) l=none)
 | .nil,left,hl=>by
  have e:bB up (sp (sumItems acts .nil) k)=0:=by rw [sumItems,dX];unfold bB ax.zero;cases up<;>simp
  rw [e,firstItems,if_neg (by omega)]
  exact⟨fun q=>by omega,fun _=>rfl⟩
 | .cons a r,left,hl=>by
  have xa:=cU h a
  have xr:=bU h r
  have e:bB up (sp (sumItems acts (.cons a r)) k)=max (bB up (sp (sumItem acts a) k)) (cf up (sp (sumItem acts a) k)+bB up (sp (sumItems acts r) k)):=by
   rw [sumItems,dI xa.1 xr.1 hk,xF]
  obtain⟨r1,r2⟩:=tP (up:=up) (xa.2 k hk)
  rw [e,firstItems,if_neg (by omega)]
  dsimp only
  rw [ux,Ai]
  by_cases hp:left<=bB up (sp (sumItem acts a) k)
  ·rw [if_pos (by omega)]
   exact⟨fun _=>⟨_,rfl⟩,fun q=>by omega⟩
  ·rw [if_neg (by omega)]
   have ih:=iQ h hk (v:=v) (up:=up) r (left-cf up (sp (sumItem acts a) k)) (by omega)
   have ex:v+left+-(cf up (sp (sumItem acts a) k))=v+(left-cf up (sp (sumItem acts a) k)):=by omega
   rw [ex]
   refine⟨fun q=>?_,fun q=>?_⟩
   ·obtain⟨n,hn⟩:=ih.1 (by omega)
    exact⟨_,by rw [hn];rfl⟩
   ·rw [ih.2 (by omega)];rfl
theorem SJ {acts:List Act}(h:bX acts){up:Bool}{k:Nat}(hk:k<8){v left:Int}{a:Item}{r:Items}(hl:0<left) (hp:bB up (sp (sumItem acts a) k)<left) (hs:left<=bB up (sp (sumItems acts (.cons a r)) k)) :
  0<left-cf up (sp (sumItem acts a) k)/\left-cf up (sp (sumItem acts a) k)<=bB up (sp (sumItems acts r) k) /\
  (firstItems acts up k v (v+left) (.cons a r)).getD 0=(sumItem acts a).len+(firstItems acts up k v (v+(left-cf up (sp (sumItem acts a) k))) r).getD 0:=by
 have xa:=cU h a
 have xr:=bU h r
 rw [sumItems,dI xa.1 xr.1 hk,xF] at hs
 obtain⟨r1,r2⟩:=tP (up:=up) (xa.2 k hk)
 refine⟨by omega,by omega,?_⟩
 rw [firstItems,if_neg (by omega)]
 dsimp only
 rw [ux,Ai,if_neg (by omega)]
 have ex:v+left+-(cf up (sp (sumItem acts a) k))=v+(left-cf up (sp (sumItem acts a) k)):=by omega
 rw [ex]
 obtain⟨n,hn⟩:=(iQ h hk (v:=v) (up:=up) r (left-cf up (sp (sumItem acts a) k)) (by omega)).1 (by omega)
 rw [hn]
 rfl
theorem GN {acts:List Act}(h:bX acts){up:Bool}{k:Nat}(hk:k<8){v left:Int}{a:Item}{r:Items}(hl:0<left) (hp:left<=bB up (sp (sumItem acts a) k)) :
  Below (bB up (sp (bZ acts a) k)) (cf up (sp (bZ acts a) k)) left /\
  (firstItems acts up k v (v+left) (.cons a r)).getD 0=firstItem acts up k v (v+left) a:=by
 have xa:=cU h a
 refine⟨?_,?_⟩
 ·cases a with
  | act i=>
   show Below (bB up (sp (sumItem acts (.act i)) k)) (cf up (sp (sumItem acts (.act i)) k)) left
   obtain⟨r1,r2⟩:=tP (up:=up) (xa.2 k hk)
   exact HU (n:=1) r1 r2 hl (by omega) (by omega)
  | rep n l=>
   show Below (bB up (sp (sumItems acts l) k)) (cf up (sp (sumItems acts l) k)) left
   have xl:=bU h l
   obtain⟨r1,r2⟩:=tP (up:=up) (xl.2 k hk)
   have e0:sumItem acts (.rep n l)=repSum n (sumItems acts l):=by rw [sumItem]
   rw [e0] at hp
   by_cases hn:n=0
   ·subst hn
    have e1:repSum 0 (sumItems acts l)={}:=rfl
    rw [e1,dX] at hp
    have:bB up ax.zero=0:=by unfold bB ax.zero;cases up<;>simp
    omega
   ·rw [mj xl.1 hn hk,M4] at hp
    exact HU (n:=n) r1 r2 hl (by omega) hp
 ·rw [firstItems,if_neg (by omega)]
  dsimp only
  rw [ux,if_pos (by omega)]
  rfl
theorem SM {acts:List Act}{up:Bool}{k:Nat}{v x:Int}{i:Nat}:firstItem acts up k v x (.act i)=1:=by rw [firstItem]
theorem GL {acts:List Act}{up:Bool}{k:Nat}{v left:Int}{n:Nat}{l:Items}(b:Below (bB up (sp (sumItems acts l) k)) (cf up (sp (sumItems acts l) k)) left) :
  firstItem acts up k v (v+left) (.rep n l)=cT (bB up (sp (sumItems acts l) k)) (cf up (sp (sumItems acts l) k)) left*(sumItems acts l).len +
   (firstItems acts up k v (v+(left-(cT (bB up (sp (sumItems acts l) k)) (cf up (sp (sumItems acts l) k)) left:Int)*cf up (sp (sumItems acts l) k))) l).getD 0:=by
 rw [firstItem,ux,Ai]
 generalize hp:bB up (sp (sumItems acts l) k)=p at *
 generalize hr:cf up (sp (sumItems acts l) k)=r at *
 have e:(if -r<0 then((v+left+-p-v+- -r-1) / - -r).toNat else 0)=cT p r left:=by
  rw [←b.spec,Int.neg_neg]
  have:v+left+-p-v+r-1=left-p+r-1:=by omega
  rw [this]
 rw [e]
 have ex:v+left+(cT p r left:Int)*-r=v+(left-(cT p r left:Int)*r):=by rw [Int.mul_neg];omega
 rw [ex]
theorem SK {acts:List Act}(h:bX acts){up:Bool}{k:Nat}(hk:k<8){v left:Int}{l:Items}(hl:0<left) (hp:left<=bB up (sp (sumItems acts l) k)) :
  (firstItems acts up k v (v+left) (.cons (.rep 1 l) .nil)).getD 0=(firstItems acts up k v (v+left) l).getD 0:=by
 have xl:=bU h l
 have e0:sumItem acts (.rep 1 l)=sumItems acts l:=by rw [sumItem,fZ xl.1]
 obtain⟨b,e⟩:=GN h hk (v:=v) (a:=.rep 1 l) (r:=.nil) hl (by rw [e0];exact hp)
 rw [e,GL b]
 have z:cT (bB up (sp (sumItems acts l) k)) (cf up (sp (sumItems acts l) k)) left=0:=by unfold cT;rw [if_pos (by omega)]
 rw [z]
 simp
theorem jG {up:Bool}{B:Nat}{a:ax}(h:fT B a):(bB up a).natAbs<=B/\(cf up a).natAbs<=B:=by
 have:=h.low;have:=h.high;have:=h.add
 unfold bB cf
 cases up<;>simp<;>omega
theorem add_eq {W:Nat}{x y:Sum}(hW:W<=8) (hx:Wf x) (hy:Wf y) (tx:Tail W x) (ty:Tail W y):((range W).all fun k=>decide ((sp x k).add=(sp y k).add))=(x.add == y.add):=by
 rw [Bool.eq_iff_iff,beq_iff_eq,all_eq_true]
 constructor
 ·intro h
  refine lL hx.add hy.add fun k hk=>?_
  by_cases jk:k<W
  ·exact of_decide_eq_true (h k (mem_range.mpr jk))
  ·have h1:(sp x k).add=0:=by rw [tx k (by omega) hk];rfl
   have h2:(sp y k).add=0:=by rw [ty k (by omega) hk];rfl
   show(sp x k).add=(sp y k).add
   rw [h1,h2]
 ·intro h k _
  refine decide_eq_true ?_
  show aF x.add k=aF y.add k
  rw [h]
theorem WN {W:Nat}{x:Sum}(hW:W<=8) (hx:Wf x) (tx:Tail W x):((range W).any fun k=>decide ((sp x k).add≠0))=decide (x.add≠still):=by
 rw [Bool.eq_iff_iff,decide_eq_true_eq,List.any_eq_true]
 constructor
 ·rintro ⟨k,hk,h⟩ e
  have hk:=mem_range.mp hk
  refine of_decide_eq_true h ?_
  show aF x.add k=0
  rw [e]
  exact kg
 ·intro h
  apply Classical.byContradiction
  intro q
  apply h
  refine lL hx.add rfl fun k hk=>?_
  have e:aF still k=0:=kg
  rw [e]
  by_cases jk:k<W
  ·apply Classical.byContradiction
   intro z
   exact q ⟨k,mem_range.mpr jk,decide_eq_true z⟩
  ·have h1:(sp x k).add=0:=by rw [tx k (by omega) hk];rfl
   exact h1
def eA (a b:ax):Bool:=decide (maxO a.lo b.lo=b.lo)&&decide (minO a.hi b.hi=b.hi)
def AY (a b:Bound):Bool:=(match b.1,a.1 with
  | none,_=>true
  | some _,none=>false
  | some x,some y=>decide (x<=y))&&(match b.2,a.2 with
  | none,_=>true
  | some _,none=>false
  | some x,some y=>decide (y<=x))
theorem Ib (a b:ax):eA a b=AY (b.lo,b.hi) (a.lo,a.hi):=by
 unfold eA AY
 congr 1
 ·dsimp only
  cases a.lo<;>cases b.lo<;>simp [maxO]<;>omega
 ·dsimp only
  cases a.hi<;>cases b.hi<;>simp [minO]<;>omega
theorem Wc {W:Nat}{x y:Sum}(hW:W<=8) (hx:Wf x) (hy:Wf y) (tx:Tail W x) (ty:Tail W y):((range W).all fun k=>eA (sp x k) (sp y k))=tighter y x:=by
 have e:tighter y x=(range 8).all fun k=>eA (sp x k) (sp y k):=by
  rw [Bool.eq_iff_iff]
  unfold tighter
  rw [all_eq_true,all_eq_true]
  have hz:(y.box.zip x.box).length=8:=by rw [length_zip,hx.box,hy.box];rfl
  have key:∀ k,k<8->(y.box.zip x.box)[k]? = some (bg y.box k,bg x.box k):=fun k hk=>by
   rw [getElem?_zip_eq_some]
   unfold bg
   rw [getD_eq_getElem?_getD,getD_eq_getElem?_getD,getElem?_eq_getElem (by rw [hy.box];exact hk),getElem?_eq_getElem (by rw [hx.box];exact hk)]
   exact⟨rfl,rfl⟩
  constructor
  ·intro h k hk
   have hk:=mem_range.mp hk
   rw [Ib]
   exact h _ (mem_of_getElem? (key k hk))
  ·intro h p hp
   obtain⟨k,hk,e⟩:=mem_iff_getElem.mp hp
   have eE:k<8:=by omega
   have e2:=key k eE
   rw [getElem?_eq_getElem hk,e] at e2
   cases e2
   have:=h k (mem_range.mpr eE)
   rw [Ib] at this
   exact this
 rw [e,Bool.eq_iff_iff,all_eq_true,all_eq_true]
 constructor
 ·intro h k hk
  have hk:=mem_range.mp hk
  by_cases jk:k<W
  ·exact h k (mem_range.mpr jk)
  ·rw [tx k (by omega) hk,ty k (by omega) hk];rfl
 ·intro h k hk
  have hk:=mem_range.mp hk
  exact h k (mem_range.mpr (by omega))
structure cN (s:State):Prop where
 w:s.names.length<=8
 regs:cH s.names.length s.regs
 big:cc BIG s.regs
 ok:bX s.acts
 small:qh s.acts
 tail:ly s.names.length s.acts
 dE:s.acts.length<=16
 nodup:(s.acts.map fun a=>a.name).Nodup
 offer:∀ p l,s.offer=some (p,l)->p<=1/\fits s.regs (sumItems s.acts l).box=true/\beyond (plus s.regs (sumItems s.acts l).add)=false/\bh l<=cQ
theorem V2:BIG<=bG:=by
 unfold bG
 have h:pw 60<=pw 1300:=gb (by decide)
 rw [dY 60] at h
 refine Nat.le_trans ?_ h
 decide
theorem IS:bG<=cQ:=gb (by decide)
theorem cN.now {s:State}(h:cN s):cc bG s.regs:=h.big.mono V2
theorem rg (k:Nat):aF still k=0:=kg
theorem JZ:cN Vbdcan.start where
 w:=Nat.zero_le _
 regs:=⟨rfl,fun k _ _=>rg k⟩
 big:=fun k _=>by
  show(aF still k).natAbs<=BIG
  rw [rg];exact Nat.zero_le _
 ok:=fun a h=>by cases h
 small:=fun a h=>by cases h
 tail:=fun a h=>by cases h
 dE:=Nat.zero_le _
 nodup:=List.nodup_nil
 offer:=fun p l h=>by cases h
theorem Ld {W:Nat}{rs:List Int}(h:rs.length=8) (hW:W<=8):rs.take W=(range W).map fun k=>aF rs k:=by
 apply ext_getElem
 ·simp;omega
 ·intro k h1 h2
  simp at h1 h2
  rw [List.getElem_take,getElem_map,getElem_range]
  unfold aF
  rw [getD_eq_getElem?_getD,getElem?_eq_getElem (by omega)]
  rfl
theorem qP {rs:List Int}(h:rs.length=8):beyond rs=false↔cc BIG rs:=by
 unfold beyond cc
 rw [List.any_eq_false]
 constructor
 ·intro q k hk
  have hk':k<rs.length:=by omega
  have:=q rs[k] (getElem_mem hk')
  simp only [Bool.or_eq_true,decide_eq_true_eq,not_or] at this
  have e:aF rs k=rs[k]:=by unfold aF;rw [getD_eq_getElem?_getD,getElem?_eq_getElem hk'];rfl
  rw [e];omega
 ·intro q x hx
  obtain⟨k,hk,rfl⟩:=mem_iff_getElem.mp hx
  have:=q k (by omega)
  have e:aF rs k=rs[k]:=by unfold aF;rw [getD_eq_getElem?_getD,getElem?_eq_getElem hk];rfl
  rw [e] at this
  simp only [Bool.or_eq_true,decide_eq_true_eq,not_or]
  omega
theorem V3 {W:Nat}{rs:List Int}(r:cH W rs) (hW:W<=8):((range W).all fun k=>decide (-(BIG:Int)<=aF rs k)&&decide (aF rs k<=BIG))=!beyond rs:=by
 cases e:beyond rs with
 | false=>
  have h:=(qP r.len).mp e
  simp only [Bool.not_false]
  rw [all_eq_true]
  intro k hk
  have hk:=mem_range.mp hk
  have:=h k (by omega)
  simp only [Bool.and_eq_true,decide_eq_true_eq]
  omega
 | true=>
  simp only [Bool.not_true]
  rw [Bool.eq_false_iff]
  intro q
  rw [all_eq_true] at q
  have:beyond rs=false:=(qP r.len).mpr fun k hk=>by
   by_cases jk:k<W
   ·have:=q k (mem_range.mpr jk)
    simp only [Bool.and_eq_true,decide_eq_true_eq] at this
    omega
   ·rw [r.zero k (by omega) hk];exact Nat.zero_le _
  rw [e] at this;cases this
mutual
theorem WM {W:Nat}{acts:List Act}(h:bX acts) (t:ly W acts):∀(i:Item) (rs:List Int) (k:Nat),cH W rs->cH W (afterItem acts rs k i)
 | .act i,rs,k,r=>by
  have x:=cU h (.act i)
  have tl:=gw h t (.act i)
  rw [sumItem] at x tl
  rw [afterItem]
  split
  ·exact r
  ·have:=r.plus x.1 tl 1
   rw [fA x.1.add] at this
   exact this
 | .rep n l,rs,k,r=>by
  have x:=bU h l
  have tl:=eU h t l
  rw [afterItem]
  split
  ·exact r.plus x.1 tl n
  ·exact hJ h t l _ _ (r.plus x.1 tl _)
theorem hJ {W:Nat}{acts:List Act}(h:bX acts) (t:ly W acts):∀(l:Items) (rs:List Int) (k:Nat),cH W rs->cH W (afterItems acts rs k l)
 | .nil,rs,k,r=>by rw [afterItems];exact r
 | .cons i l,rs,k,r=>by
  have x:=cU h i
  have tl:=gw h t i
  rw [afterItems]
  split
  ·refine hJ h t l _ _ ?_
   have:=r.plus x.1 tl 1
   rw [fA x.1.add] at this
   exact this
  ·exact WM h t i rs k r
end
theorem ib {W:Nat}{acts:List Act}(h:bX acts) (t:ly W acts){rs:List Int}(r:cH W rs) (l:Items):cH W (plus rs (sumItems acts l).add):=by
 have x:=bU h l
 have:=r.plus x.1 (eU h t l) 1
 rw [fA x.1.add] at this
 exact this
theorem IL {n:Nat}{l:Items}(h:fW n l):bh l<=bG:=sL h.nums h.nodes h.deep
theorem Lf {s:State}(h:cN s){t:Text}{m:Run}{l:List Item}(hr:readRun s.acts t=.ok m) (hs:settle s.acts s.regs true m=some l):bh (itemsOf l)<=cQ:=by
 obtain⟨h1,h2⟩:=Dm s.acts t m hr
 have h3:=Dl s.acts t m hr
 rw [←oM h.ok m s.regs true h.regs.len] at hs
 have:=wg h.ok h.small m s.regs true bG l h.regs.len h.now (Nat.le_refl _) h2 hs
 have:=Gn h1 h3
 omega
theorem iE {s:State}(h:cN s){t:Text}{l:Items}(e:Vbdcan.settled s t=.ok l):bh l<=cQ:=by
 unfold Vbdcan.settled at e
 cases er:readRun s.acts t with
 | error p=>rw [er] at e;cases e
 | ok m=>
  rw [er] at e
  dsimp only at e
  cases es:settle s.acts s.regs true m with
  | none=>rw [es] at e;cases e
  | some l'=>
   rw [es] at e
   cases e
   exact Lf h er es
theorem fY {s:State}{t:Text}{e:Nat}(h:Vbdcan.settled s t=.error e):e=2\/e=8:=by
 unfold Vbdcan.settled at h
 split at h
 ·cases h;exact .inl rfl
 ·split at h
  ·cases h;exact .inr rfl
  ·cases h
theorem gF {s:State}{t:Text}{e:Nat}(h:plain s t=.error e):e=2\/e=3:=by
 unfold plain at h
 split at h
 ·cases h;exact .inl rfl
 ·split at h
  ·cases h;exact .inr rfl
  ·cases h
theorem gQ {s:State}{t:Text}{l:Items}(h:plain s t=.ok l):∃ m,readRun s.acts t=.ok m/\plainOf m=some l/\fW s.acts.length l:=by
 unfold plain at h
 cases er:readRun s.acts t with
 | error p=>rw [er] at h;cases h
 | ok m=>
  rw [er] at h
  dsimp only at h
  cases ep:plainOf m with
  | none=>rw [ep] at h;cases h
  | some l'=>
   rw [ep] at h
   cases h
   exact⟨m,rfl,ep,Mq s.acts t m l er ep⟩
theorem Mw {s:State}(h:cN s) (l:Items):(reachItems s.acts s.regs l).2.2=decide ((reachItems s.acts s.regs l).1=(sumItems s.acts l).len):=by
 obtain⟨h1,_,h3,h4⟩:=gC h.ok l s.regs h.regs.len
 rw [h1]
 cases e:fits s.regs (sumItems s.acts l).box with
 | true=>rw [(h3 e).1];simp
 | false=>
  have:=h4 e
  rw [decide_eq_false (by omega)]
theorem jD {s:State}(h:cN s) (l:Items):(reachItems s.acts s.regs l).1<=(sumItems s.acts l).len:=by
 obtain⟨h1,_,h3,h4⟩:=gC h.ok l s.regs h.regs.len
 cases e:fits s.regs (sumItems s.acts l).box with
 | true=>rw [(h3 e).1];exact Nat.le_refl _
 | false=>have:=h4 e;omega
def eK (n:Nat) (r k v:Int):Bool:=from_ r 0 ((n:Int)-1)&&(from_ k 0 2&&amount v)
theorem Hk {n:Nat}{r k v:Int}{t:List Int}:demands n (r::k::v::t)=if eK n r k v=true then(demands n t).map (fun l=>(r.toNat,k.toNat,v)::l) else none:=by
 rw [demands]
 unfold eK
 by_cases h:from_ r 0 ((n:Int)-1)=true/\from_ k 0 2=true/\amount v=true
 ·rw [if_pos h,if_pos (by simp [h.1,h.2.1,h.2.2])]
 ·rw [if_neg h,if_neg (by simpa using h)]
theorem gX {n:Nat}:∀ {l:List Int}{ds:List (Nat×Nat×Int)},demands n l=some ds->l.length=3*ds.length/\∀ j,j<ds.length->∃ r k v,l[3*j]? = some r/\l[3*j+1]? = some k/\l[3*j+2]? = some v/\eK n r k v=true/\ds[j]? = some (r.toNat,k.toNat,v)
 |[],ds,h=>by
  cases h
  exact⟨rfl,fun j hj=>absurd hj (Nat.not_lt_zero _)⟩
 |[_],ds,h=>by cases h
 |[_,_],ds,h=>by cases h
 | r::k::v::t,ds,h=>by
  rw [Hk] at h
  split at h
  ·rename_i hr
   cases e:demands n t with
   | none=>rw [e] at h;cases h
   | some ds'=>
    rw [e] at h
    cases h
    obtain⟨h1,h2⟩:=gX e
    refine⟨by simp only [length_cons];omega,fun j hj=>?_⟩
    cases j with
    | zero=>exact⟨r,k,v,rfl,rfl,rfl,hr,rfl⟩
    | succ j=>
     obtain⟨r',k',v',q1,q2,q3,q4,q5⟩:=h2 j (by simp only [length_cons] at hj;omega)
     refine⟨r',k',v',?_,?_,?_,q4,q5⟩
     ·rw [show 3*(j+1)=3*j+1+1+1 by omega];exact q1
     ·rw [show 3*(j+1)+1=3*j+1+1+1+1 by omega];exact q2
     ·rw [show 3*(j+1)+2=3*j+2+1+1+1 by omega];exact q3
  ·cases h
theorem Hl {n:Nat}:∀ {l:List Int},l.length % 3=0->(∀ j r k v,l[3*j]? = some r->l[3*j+1]? = some k->l[3*j+2]? = some v->eK n r k v=true)->∃ ds,demands n l=some ds
 |[],_,_=>⟨[],rfl⟩
 |[_],h,_=>by simp at h
 |[_,_],h,_=>by simp at h
 | r::k::v::t,h,q=>by
  obtain⟨ds,e⟩:=Hl (n:=n) (l:=t) (by simp only [length_cons] at h;omega) fun j r' k' v' q1 q2 q3=>q (j+1) r' k' v'
   (by rw [show 3*(j+1)=3*j+1+1+1 by omega];exact q1) (by rw [show 3*(j+1)+1=3*j+1+1+1+1 by omega];exact q2) (by rw [show 3*(j+1)+2=3*j+2+1+1+1 by omega];exact q3)
  refine⟨(r.toNat,k.toNat,v)::ds,?_⟩
  rw [Hk,if_pos (q 0 r k v rfl rfl rfl),e]
  rfl
structure jw (W j:Nat) (a:Act):Prop where
 box:a.box.length=8
 add:a.add.length=8
 lo:∀ k l,k<8->(bg a.box k).1=some l->l.natAbs<=MOST
 hi:∀ k l,k<8->(bg a.box k).2=some l->l.natAbs<=MOST
 ch:∀ k,k<8->(aF a.add k).natAbs<=j*MOST
 tail:∀ k,W<=k->k<8->bg a.box k=(none,none)/\aF a.add k=0
theorem jw.start (W:Nat) (name:Text) (must:Bool):jw W 0 { name:=name,must:=must }:=by
 have e:∀ k,bg free k=(none,none):=fun k=>kg
 refine⟨rfl,rfl,fun k l _ h=>?_,fun k l _ h=>?_,fun k _=>?_,fun k _ _=>⟨e k,rg k⟩⟩
 ·have h:(bg free k).1=some l:=h
  rw [e k] at h;cases h
 ·have h:(bg free k).2=some l:=h
  rw [e k] at h;cases h
 ·show(aF still k).natAbs<=_
  rw [rg];exact Nat.zero_le _
theorem getD_modify {α:Type}{l:List α}{r k:Nat}{f:α->α}{d:α}(hk:k<l.length):(l.modify r f).getD k d=if k=r then f (l.getD k d) else l.getD k d:=by
 rw [getD_eq_getElem?_getD,getD_eq_getElem?_getD,List.getElem?_modify]
 by_cases h:r=k
 ·subst h
  rw [if_pos rfl,getElem?_eq_getElem hk]
  simp
 ·rw [if_neg (fun z=>h z.symm)]
  simp [h]
theorem Hm {a:Act}{W j r:Nat}{v:Int}(p:jw W j a):(demand1 a (r,0,v)).name=a.name/\(demand1 a (r,0,v)).must=a.must/\(demand1 a (r,0,v)).add=a.add/\∀ k,k<8->bg (demand1 a (r,0,v)).box k=if k=r then(maxO (bg a.box k).1 (some v),(bg a.box k).2) else bg a.box k:=
 ⟨rfl,rfl,rfl,fun k hk=>by
  show(a.box.modify r _).getD k _=_
  rw [getD_modify (by rw [p.box];exact hk)]
  rfl⟩
theorem Hn {a:Act}{W j r:Nat}{v:Int}(p:jw W j a):(demand1 a (r,1,v)).name=a.name/\(demand1 a (r,1,v)).must=a.must/\(demand1 a (r,1,v)).add=a.add/\∀ k,k<8->bg (demand1 a (r,1,v)).box k=if k=r then((bg a.box k).1,minO (bg a.box k).2 (some v)) else bg a.box k:=
 ⟨rfl,rfl,rfl,fun k hk=>by
  show(a.box.modify r _).getD k _=_
  rw [getD_modify (by rw [p.box];exact hk)]
  rfl⟩
theorem Ho {a:Act}{W j r:Nat}{v:Int}(p:jw W j a):(demand1 a (r,2,v)).name=a.name/\(demand1 a (r,2,v)).must=a.must/\(demand1 a (r,2,v)).box=a.box/\∀ k,k<8->aF (demand1 a (r,2,v)).add k=if k=r then aF a.add k+v else aF a.add k:=
 ⟨rfl,rfl,rfl,fun k hk=>by
  show(a.add.modify r _).getD k _=_
  rw [getD_modify (by rw [p.add];exact hk)]
  rfl⟩
theorem jw.more {W j r kd:Nat}{v:Int}{a:Act}(p:jw W j a) (hr:r<W) (hW:W<=8) (hk:kd=0\/kd=1\/kd=2) (hv:v.natAbs<=MOST):jw W (j+1) (demand1 a (r,kd,v)):=by
 have mono:∀ k,k<8->(aF a.add k).natAbs<=(j+1)*MOST:=fun k hk=>by
  have:=p.ch k hk
  rw [Nat.add_mul];omega
 rcases hk with rfl | rfl | rfl
 ·obtain⟨e1,e2,e3,e4⟩:=Hm (r:=r) (v:=v) p
  refine⟨by show(a.box.modify _ _).length=8;rw [length_modify];exact p.box,by rw [e3];exact p.add,fun k l h q=>?_,fun k l h q=>?_,fun k h=>by rw [e3];exact mono k h,fun k h1 h2=>?_⟩
  ·rw [e4 k h] at q
   split at q
   ·dsimp only at q
    cases eb:(bg a.box k).1 with
    | none=>rw [eb] at q;cases q;exact hv
    | some x=>
     rw [eb] at q
     have:=p.lo k x h eb
     cases q
     omega
   ·exact p.lo k l h q
  ·rw [e4 k h] at q
   split at q
   ·exact p.hi k l h q
   ·exact p.hi k l h q
  ·rw [e4 k h2,if_neg (by omega),e3]
   exact p.tail k h1 h2
 ·obtain⟨e1,e2,e3,e4⟩:=Hn (r:=r) (v:=v) p
  refine⟨by show(a.box.modify _ _).length=8;rw [length_modify];exact p.box,by rw [e3];exact p.add,fun k l h q=>?_,fun k l h q=>?_,fun k h=>by rw [e3];exact mono k h,fun k h1 h2=>?_⟩
  ·rw [e4 k h] at q
   split at q
   ·exact p.lo k l h q
   ·exact p.lo k l h q
  ·rw [e4 k h] at q
   split at q
   ·dsimp only at q
    cases eb:(bg a.box k).2 with
    | none=>rw [eb] at q;cases q;exact hv
    | some x=>
     rw [eb] at q
     have:=p.hi k x h eb
     cases q
     omega
   ·exact p.hi k l h q
  ·rw [e4 k h2,if_neg (by omega),e3]
   exact p.tail k h1 h2
 ·obtain⟨e1,e2,e3,e4⟩:=Ho (r:=r) (v:=v) p
  refine⟨by rw [e3];exact p.box,by show(a.add.modify _ _).length=8;rw [length_modify];exact p.add,fun k l h q=>?_,fun k l h q=>?_,fun k h=>?_,fun k h1 h2=>?_⟩
  ·rw [e3] at q;exact p.lo k l h q
  ·rw [e3] at q;exact p.hi k l h q
  ·rw [e4 k h]
   have:=p.ch k h
   split
   ·rw [Nat.add_mul];omega
   ·exact mono k h
  ·rw [e3,e4 k h2,if_neg (by omega)]
   exact p.tail k h1 h2
theorem jw.all {W j:Nat}{a:Act}(p:jw W j a) (hj:j<=2000):a.box.length=8/\a.add.length=8/\(∀ k,k<8->fT (2 ^ 42) (ax.act (bg a.box k) (aF a.add k)))/\∀ k,W<=k->k<8->bg a.box k=(none,none)/\aF a.add k=0:=by
 refine⟨p.box,p.add,fun k hk=>?_,p.tail⟩
 have h1:=p.ch k hk
 have h2:j*MOST<=2000*MOST:=Nat.mul_le_mul_right _ hj
 have h3:2000*MOST<=2 ^ 42:=by decide
 have h4:MOST<=2 ^ 42:=by decide
 unfold ax.act
 refine⟨fun l e=>Nat.le_trans (p.lo k l hk e) h4,fun l e=>Nat.le_trans (p.hi k l hk e) h4,?_,?_,?_⟩<;>dsimp only<;>omega
theorem Df {n:Nat}{r k v:Int}(h:eK n r k v=true):0<=r/\r<n/\(k=0\/k=1\/k=2)/\v.natAbs<=MOST:=by
 unfold eK from_ amount from_ at h
 simp only [Bool.and_eq_true,decide_eq_true_eq] at h
 obtain⟨⟨h1,h2⟩,⟨h3,h4⟩,h5,h6⟩:=h
 exact⟨h1,by omega,by omega,by omega⟩
def told (ds:List (Nat×Nat×Int)) (name:Text) (must:Bool) (j:Nat):Act:=(ds.take j).foldl demand1 { name:=name,must:=must }
theorem AS {ds:List (Nat×Nat×Int)}{name:Text}{must:Bool}{j:Nat}{d:Nat×Nat×Int}(h:ds[j]? = some d):told ds name must (j+1)=demand1 (told ds name must j) d:=by
 obtain⟨h1,h2⟩:=List.getElem?_eq_some_iff.mp h
 unfold told
 rw [take_succ_eq_append_getElem h1,List.foldl_append,h2]
 rfl
theorem vJ {n:Nat}{l:List Int}{ds:List (Nat×Nat×Int)}{name:Text}{must:Bool}(hW:n<=8) (h:demands n l=some ds):∀ j,j<=ds.length->jw n j (told ds name must j)
 | 0,_=>by unfold told;rw [List.take_zero];exact jw.start n name must
 | j+1,hj=>by
  obtain⟨h1,h2⟩:=gX h
  obtain⟨r,k,v,_,_,_,q4,q5⟩:=h2 j (by omega)
  rw [AS q5]
  obtain⟨p1,p2,p3,p4⟩:=Df q4
  exact(vJ hW h j (by omega)).more (by omega) hW (by omega) p4
theorem AU {ds:List (Nat×Nat×Int)}{name:Text}{must:Bool}:∀ j,(told ds name must j).name=name/\(told ds name must j).must=must:=fun j=>by
 unfold told
 generalize ds.take j=l
 have:∀(l:List (Nat×Nat×Int)) (a:Act),(l.foldl demand1 a).name=a.name/\(l.foldl demand1 a).must=a.must:=by
  intro l
  induction l with
  | nil=>intro a;exact⟨rfl,rfl⟩
  | cons d r ih=>
   intro a
   rw [foldl_cons]
   obtain⟨h1,h2⟩:=ih (demand1 a d)
   rw [h1,h2]
   unfold demand1
   split<;>exact⟨rfl,rfl⟩
 exact this l _
theorem Ms {acts:List Act}{t:Text}{m:Run}(h:readRun acts t=.ok m):t.length<=4096:=by
 unfold readRun at h
 split at h
 ·cases h
 ·rename_i q;unfold LONGEST at q;omega
theorem Dy {acts:List Act}{t:Text}{m:Run}(h:readRun acts t=.ok m):(printRun acts m).length<=8192:=by
 rw [←GI acts t m h]
 have h1:=xN (dv (t.length+1) 1 t) true
 have h2:=sX (t.length+1) 1 t
 have h3:=Ms h
 omega
def IG:Call->Prop
 | .act _ _ l=>l.length<=5000
 |_=>True
theorem Dk {W:Nat}{rs:List Int}{k:Nat}{v:Int}(r:cH W rs) (hk:k<W):cH W (rs.set k v) where
 len:=by rw [List.length_set];exact r.len
 zero:=fun j h1 h2=>by
  unfold aF
  rw [getD_eq_getElem?_getD,getElem?_set_ne (by omega),←getD_eq_getElem?_getD]
  exact r.zero j h1 h2
theorem iN {rs:List Int}{k j:Nat}{v:Int}(hk:k<rs.length):aF (rs.set k v) j=if j=k then v else aF rs j:=by
 unfold aF
 rw [getD_eq_getElem?_getD]
 by_cases h:j=k
 ·subst h
  rw [List.getElem?_set_self hk,if_pos rfl]
  rfl
 ·rw [getElem?_set_ne (fun z=>h z.symm),←getD_eq_getElem?_getD,if_neg h]
theorem Ew {B:Nat}{rs:List Int}{k:Nat}{v:Int}(h:cc B rs) (hk:k<rs.length) (hv:v.natAbs<=B):cc B (rs.set k v):=fun j hj=>by
 rw [iN hk]
 split
 ·exact hv
 ·exact h j hj
theorem EO {v:Int}(h:amount v=true):v.natAbs<=BIG:=by
 unfold amount from_ at h
 have h:=of_decide_eq_true h
 have e1:MOST=1000000000:=rfl
 have e2:BIG=1000000000000000000:=rfl
 omega
theorem cN.JB {s:State}(h:cN s):ly (s.names.length+1) s.acts:=fun a ha k h1 h2=>h.tail a ha k (by omega) h2
theorem Lb (s:State) (rs:List Int):(shown s rs).length<=s.names.length:=by unfold shown;rw [length_take];omega
def Am (s:State) (x:State×List Int):Prop:=x.1=s/\x.2.length<=8300
theorem JY (s:State) (k:Nat):Am s (no s k):=⟨rfl,by unfold no;simp⟩
theorem gx {s:State}{l:List Int}(h:l.length<=8299):Am s (yes s l):=⟨rfl,by unfold yes;simp only [length_cons];omega⟩
theorem JX {s:State}(h:cN s):∀(d:Call),IG d->cN (step s d).1/\(step s d).2.length<=8300:=by
 have hs:∀ x:State×List Int,Am s x->cN x.1/\x.2.length<=8300:=fun x q=>⟨by rw [q.1];exact h,q.2⟩
 have bT:∀ k,cN (no s k).1/\(no s k).2.length<=8300:=fun k=>hs _ (JY s k)
 have hW:=h.w
 have sl:∀ rs:List Int,(shown s rs).length<=8:=fun rs=>Nat.le_trans (Lb s rs) hW
 have moved:∀(rs:List Int) (l:List Int),cH s.names.length rs->cc BIG rs->s.offer=none->l.length<=20->cN (yes { s with regs:=rs } l).1/\(yes { s with regs:=rs } l).2.length<=8300:=fun rs l r b ho hl=>
  ⟨⟨h.w,r,b,h.ok,h.small,h.tail,h.dE,h.nodup,fun p l' q=>by rw [show(yes { s with regs:=rs } l).1.offer=s.offer from rfl,ho] at q;cases q⟩,by unfold yes;simp only [length_cons];omega⟩
 have ended:∀(rs:List Int) (l:List Int),cH s.names.length rs->cc BIG rs->l.length<=20->cN (yes { s with regs:=rs,offer:=none } l).1/\(yes { s with regs:=rs,offer:=none } l).2.length<=8300:=fun rs l r b hl=>
  ⟨⟨h.w,r,b,h.ok,h.small,h.tail,h.dE,h.nodup,fun p l' q=>by cases q⟩,by unfold yes;simp only [length_cons];omega⟩
 intro d hd
 cases d with
 | reg v name=>
  rw [step]
  split
  ·exact bT 1
  ·rename_i h1
   split
   ·exact bT 4
   ·rename_i h2
    split
    ·exact bT 5
    ·split
     ·exact bT 6
     ·rename_i h4
      have hv:amount v=true:=by
       cases e:amount v with
       | true=>rfl
       | false=>exact absurd (Or.inl e) h1
      have h2:s.names.length<8:=by unfold REGS at h2;omega
      have ho:s.offer=none:=by
       cases e:s.offer with
       | none=>rfl
       | some x=>rw [e] at h4;exact absurd rfl h4
      refine⟨⟨?_,?_,?_,h.ok,h.small,?_,h.dE,h.nodup,fun p l q=>?_⟩,by unfold yes;simp⟩
      ·show(s.names++[name]).length<=8
       rw [length_append];simp;omega
      ·show cH (s.names++[name]).length (s.regs.set s.names.length v)
       rw [length_append]
       exact Dk ⟨h.regs.len,fun k q1 q2=>h.regs.zero k (by simp at q1;omega) q2⟩ (by simp)
      ·exact Ew h.big (by rw [h.regs.len];exact h2) (EO hv)
      ·show ly (s.names++[name]).length s.acts
       rw [length_append]
       exact h.JB
      ·have q:s.offer=some (p,l):=q
       rw [ho] at q;cases q
 | act must name l=>
  rw [step]
  split
  ·exact bT 1
  ·split
   ·exact bT 1
   ·rename_i ds FX
    split
    ·exact bT 4
    ·rename_i h2
     split
     ·exact bT 5
     ·rename_i h3
      split
      ·exact bT 6
      ·rename_i h4
       have ho:s.offer=none:=by
        cases e:s.offer with
        | none=>rfl
        | some x=>rw [e] at h4;exact absurd rfl h4
       have hl:l.length<=5000:=hd
       obtain⟨dl,_⟩:=gX FX
       have hp:=vJ (name:=name) (must:=must == 1) hW FX ds.length (Nat.le_refl _)
       have et:told ds name (must == 1) ds.length=ds.foldl demand1 { name:=name,must:=must == 1 }:=by unfold told;rw [take_length]
       have en:=(AU (ds:=ds) (name:=name) (must:=must == 1) ds.length).1
       rw [et] at hp en
       obtain⟨q1,q2,q3,q4⟩:=hp.all (by omega)
       generalize ds.foldl demand1 { name:=name,must:=must == 1 } = a at *
       have mem:∀ x∈s.acts++[a],x∈s.acts\/x=a:=fun x hx=>by
        rcases mem_append.mp hx with z | z
        ·exact .inl z
        ·simp at z;exact .inr z
       refine⟨⟨h.w,h.regs,h.big,fun x hx=>?_,fun x hx=>?_,fun x hx=>?_,?_,?_,fun p l q=>?_⟩,by unfold yes;simp⟩
       ·rcases mem x hx with z | z
        ·exact h.ok x z
        ·subst z;exact⟨q1,q2⟩
       ·rcases mem x hx with z | z
        ·exact h.small x z
        ·subst z;exact q3
       ·rcases mem x hx with z | z
        ·exact h.tail x z
        ·subst z;exact q4
       ·show(s.acts++[a]).length<=16
        rw [length_append];unfold ACTS at h2;simp;omega
       ·show((s.acts++[a]).map fun a=>a.name).Nodup
        rw [map_append,List.nodup_append]
        refine⟨h.nodup,by simp,fun x hx y hy e=>?_⟩
        simp at hy
        obtain⟨b,hb,rfl⟩:=mem_map.mp hx
        apply h3
        rw [List.any_eq_true]
        refine⟨b,hb,?_⟩
        rw [beq_iff_eq,e,hy,en]
       ·have q:s.offer=some (p,l):=q
        rw [ho] at q;cases q
 | set r v=>
  rw [step]
  split
  ·exact bT 1
  ·rename_i h1
   split
   ·exact bT 6
   ·rename_i h4
    have ho:s.offer=none:=by
     cases e:s.offer with
     | none=>rfl
     | some x=>rw [e] at h4;exact absurd rfl h4
    have hr:from_ r 0 ((s.names.length:Int)-1)=true:=by
     cases e:from_ r 0 ((s.names.length:Int)-1) with
     | true=>rfl
     | false=>exact absurd (Or.inl e) h1
    have hv:amount v=true:=by
     cases e:amount v with
     | true=>rfl
     | false=>exact absurd (Or.inr e) h1
    unfold from_ at hr
    have hr:=of_decide_eq_true hr
    exact moved _ [] (Dk h.regs (by omega)) (Ew h.big (by rw [h.regs.len];omega) (EO hv)) ho (by simp)
 | read t=>
  rw [step]
  split
  ·exact hs _ ⟨rfl,by simp⟩
  ·exact hs _ ⟨rfl,by simp⟩
 | form t=>
  rw [step]
  split
  ·exact bT 2
  ·rename_i r hr
   have:=Dy hr
   exact hs _ (gx (by unfold Vbdcan.ints;rw [length_map];omega))
 | sum t=>
  rw [step]
  split
  ·exact bT _
  ·rename_i l hl
   refine hs _ (gx ?_)
   unfold sumRow
   rw [length_cons,List.length_flatMap]
   have:∀(q:List (Bound×Int×Int×Int)),q.length<=8->(q.map fun p=>(boundRow p.1++[p.2.1,p.2.2.1,p.2.2.2]).length).sum<=56:=fun q hq=>by
    have e:(q.map fun p=>(boundRow p.1++[p.2.1,p.2.2.1,p.2.2.2]).length)=q.map fun _=>7:=map_congr_left fun p _=>rfl
    rw [e,map_const']
    simp
    omega
   have:=this (((sumItems s.acts l).box.zip ((sumItems s.acts l).add.zip ((sumItems s.acts l).low.zip (sumItems s.acts l).high))).take s.names.length) (by rw [length_take];omega)
   omega
 | counts t=>
  rw [step]
  split
  ·exact bT _
  ·have:=h.dE
   exact hs _ (gx (by unfold Vbdcan.ints;rw [length_map,length_map,length_range];omega))
 | can t=>
  rw [step]
  split
  ·exact bT _
  ·exact hs _ (gx (by simp))
 | run t=>
  rw [step]
  split
  ·split
   ·exact bT _
   ·exact bT _
  ·rename_i l hl
   dsimp only
   split
   ·exact bT _
   ·rename_i h1
    split
    ·exact bT _
    ·rename_i h4
     split
     ·exact bT _
     ·rename_i h5
      have ho:s.offer=none:=by
       cases e:s.offer with
       | none=>rfl
       | some x=>rw [e] at h4;exact absurd rfl h4
      have hf:fits s.regs (sumItems s.acts l).box=true:=by
       cases e:fits s.regs (sumItems s.acts l).box with
       | true=>rfl
       | false=>exact absurd e h5
      have hb:beyond (plus s.regs (sumItems s.acts l).add)=false:=by
       cases e:beyond (plus s.regs (sumItems s.acts l).add) with
       | false=>rfl
       | true=>exact absurd ⟨hf,e⟩ h1
      have hr:=ib h.ok h.tail h.regs l
      have:=sl (plus s.regs (sumItems s.acts l).add)
      exact moved _ _ hr ((qP hr.len).mp hb) ho (by simp only [length_cons];omega)
 | reach t=>
  rw [step]
  split
  ·exact bT _
  ·rename_i l hl
   have:=sl (reachItems s.acts s.regs l).2.1
   exact hs _ (gx (by simp only [length_cons];omega))
 | at_ k t=>
  rw [step]
  split
  ·split
   ·exact bT _
   ·exact bT _
  ·split
   ·exact bT _
   ·rename_i rs rm
    have:=sl rs
    exact hs _ (gx (by omega))
 | first r up v t=>
  rw [step]
  split
  ·exact bT _
  ·split
   ·exact bT _
   ·split
    ·exact bT _
    ·rename_i l _ _ k _
     split
     ·exact bT _
     ·have:=sl (afterItems s.acts s.regs k l)
      exact hs _ (gx (by simp only [length_cons];omega))
 | most t=>
  rw [step]
  split
  ·exact bT _
  ·split
   ·exact bT _
   ·exact hs _ (gx (by simp))
 | ever t=>
  rw [step]
  split
  ·exact bT _
  ·dsimp only
   split
   ·exact hs _ (gx (by simp))
   ·split
    ·exact hs _ (gx (by simp))
    ·split
     ·exact hs _ (gx (by simp))
     ·exact hs _ (gx (by simp))
 | compare a b=>
  rw [step]
  split
  ·exact hs _ (gx (by simp))
  ·exact bT _
  ·exact bT _
  ·exact bT _
 | propose side t=>
  rw [step]
  split
  ·exact bT _
  ·rename_i h0
   split
   ·split
    ·exact bT _
    ·exact bT _
   ·rename_i l hl
    split
    ·exact bT _
    ·rename_i h1
     split
     ·exact bT _
     ·split
      ·exact bT _
      ·rename_i h5
       have hf:fits s.regs (sumItems s.acts l).box=true:=by
        cases e:fits s.regs (sumItems s.acts l).box with
        | true=>rfl
        | false=>exact absurd e h5
       have hb:beyond (plus s.regs (sumItems s.acts l).add)=false:=by
        cases e:beyond (plus s.regs (sumItems s.acts l).add) with
        | false=>rfl
        | true=>exact absurd ⟨hf,e⟩ h1
       have yU:from_ side 0 1=true:=by
        cases e:from_ side 0 1 with
        | true=>rfl
        | false=>exact absurd e h0
       unfold from_ at yU
       have yU:=of_decide_eq_true yU
       refine⟨⟨h.w,h.regs,h.big,h.ok,h.small,h.tail,h.dE,h.nodup,fun p l' q=>?_⟩,by unfold yes;simp⟩
       have q:some (side.toNat,l)=some (p,l'):=q
       cases q
       exact⟨by omega,hf,hb,iE h hl⟩
 | accept side=>
  rw [step]
  split
  ·exact bT _
  ·split
   ·exact bT _
   ·rename_i p l ho
    split
    ·exact bT _
    ·obtain⟨_,_,hb,_⟩:=h.offer p l ho
     have hr:=ib h.ok h.tail h.regs l
     have:=sl (plus s.regs (sumItems s.acts l).add)
     exact ended _ _ hr ((qP hr.len).mp hb) (by simp only [length_cons];omega)
 | cut side k=>
  rw [step]
  split
  ·exact bT _
  ·split
   ·exact bT _
   ·rename_i p l ho
    split
    ·exact bT _
    ·split
     ·exact bT _
     ·rename_i rs rm
      split
      ·exact bT _
      ·rename_i hb
       have e:rs=afterItems s.acts s.regs k.toNat l:=by
        unfold cutAt at rm
        split at rm
        ·cases rm
        ·cases rm;rfl
       subst e
       have hr:=hJ h.ok h.tail l s.regs k.toNat h.regs
       have:=sl (afterItems s.acts s.regs k.toNat l)
       exact ended _ _ hr ((qP hr.len).mp (by simpa using hb)) (by omega)
 | withdraw side=>
  rw [step]
  split
  ·exact bT _
  ·split
   ·exact bT _
   ·split
    ·exact bT _
    ·exact ended s.regs [] h.regs h.big (by simp)
 | regs=>
  rw [step]
  have:=sl s.regs
  exact hs _ (gx (by omega))
 | acts=>
  rw [step]
  refine hs _ (gx ?_)
  have one:∀ a:Act,(bit a.must::((a.box.zip a.add).take s.names.length).flatMap fun p=>boundRow p.1++[p.2]).length<=41:=fun a=>by
   rw [length_cons,List.length_flatMap]
   have e:(((a.box.zip a.add).take s.names.length).map fun p=>(boundRow p.1++[p.2]).length)=((a.box.zip a.add).take s.names.length).map fun _=>5:=map_congr_left fun p _=>rfl
   rw [e,map_const']
   simp
   omega
  have all:∀ l:List Act,(l.flatMap fun a=>bit a.must::((a.box.zip a.add).take s.names.length).flatMap fun p=>boundRow p.1++[p.2]).length<=41*l.length:=fun l=>by
   induction l with
   | nil=>simp
   | cons a r ih=>
    rw [flatMap_cons,length_append,length_cons (as:=r)]
    have:=one a
    omega
  have:=all s.acts
  have:=h.dE
  omega
 | state=>
  rw [step]
  split
  ·exact hs _ (gx (by simp))
  ·exact hs _ (gx (by simp))
theorem IM (c:List (List Int)):PyVbdcan.whole c=c:=by
 unfold PyVbdcan.whole
 split<;>rfl
theorem Dh {k:Nat}{r:List Int}{xs:List (List Int)}{t:List Int}(h:PyFlat.rows (k+1) r=some (xs,t)) :
  ∃(n:Int) (r':List Int) (ys:List (List Int)),r=n::r'/\0<=n/\n.toNat<=r'.length/\xs=r'.take n.toNat::ys/\PyFlat.rows k (r'.drop n.toNat)=some (ys,t):=by
 unfold PyFlat.rows at h
 cases r with
 | nil=>cases h
 | cons n r'=>
  unfold PyFlat.row at h
  dsimp only at h
  by_cases hn:0<=n/\n.toNat<=r'.length
  ·rw [if_pos hn] at h
   dsimp only at h
   cases e:PyFlat.rows k (r'.drop n.toNat) with
   | none=>rw [e] at h;cases h
   | some x=>
    obtain⟨ys,t'⟩:=x
    rw [e] at h
    cases h
    exact⟨n,r',ys,rfl,hn.1,hn.2,rfl,e⟩
  ·rw [if_neg hn] at h;cases h
theorem Di:∀ {k:Nat}{r:List Int}{xs:List (List Int)}{t:List Int},PyFlat.rows k r=some (xs,t)->xs.length=k
 | 0,r,xs,t,h=>by cases h;rfl
 | k+1,r,xs,t,h=>by
  obtain⟨n,r',ys,_,_,_,rfl,h2⟩:=Dh h
  rw [length_cons,Di h2]
theorem VA {shape:Int->Option (Nat×Nat)}{f:Nat}{p:Int}{r:List Int}{cs:List (List (List Int))}(h:PyFlat.calls shape (f+1) (p::r)=some cs) :
  ∃(n k:Nat) (xs:List (List Int)) (t:List Int) (cs':List (List (List Int))),shape p=some (n,k)/\n<=r.length/\PyFlat.rows k (r.drop n)=some (xs,t)/\PyFlat.calls shape f t=some cs'/\cs=((p::r.take n)::xs)::cs':=by
 unfold PyFlat.calls at h
 cases e:PyFlat.call shape (p::r) with
 | none=>rw [e] at h;cases h
 | some x=>
  obtain⟨c,t⟩:=x
  rw [e] at h
  dsimp only at h
  cases e2:PyFlat.calls shape f t with
  | none=>rw [e2] at h;cases h
  | some cs'=>
   rw [e2] at h
   cases h
   unfold PyFlat.call at e
   dsimp only at e
   cases e3:shape p with
   | none=>rw [e3] at e;cases e
   | some y=>
    obtain⟨n,k⟩:=y
    rw [e3] at e
    dsimp only at e
    by_cases hn:r.length<n
    ·rw [if_pos hn] at e;cases e
    ·rw [if_neg hn] at e
     cases e4:PyFlat.rows k (r.drop n) with
     | none=>rw [e4] at e;cases e
     | some z=>
      obtain⟨xs,t'⟩:=z
      rw [e4] at e
      cases e
      exact⟨n,k,xs,t,cs',rfl,by omega,e4,e2,rfl⟩
structure gu (r:List Int):Prop where
 len:r.length<=5000
 is:∀ z∈r,0<=z/\z<256
structure Num (z:Int):Prop where
 lo:-(10 ^ 18)<=z
 hi:z<=10 ^ 18
structure Iw (r:List Int):Prop where
 len:r.length<=5000
 is:∀ z∈r,Num z
theorem iL {z:Int}(h:VbdcanNeutral.whole60 z=true):Num z:=by
 unfold VbdcanNeutral.whole60 at h
 simp only [Bool.and_eq_true,decide_eq_true_eq] at h
 exact⟨h.1,h.2⟩
theorem gZ {r:List Int}(h1:r.length<=5000) (h2:(r.all fun(z:Int)=>VbdcanNeutral.natural z 8)=true):gu r:=by
 refine⟨h1,fun z hz=>?_⟩
 have:=all_eq_true.mp h2 z hz
 unfold VbdcanNeutral.natural at this
 simp only [Bool.and_eq_true,decide_eq_true_eq] at this
 exact⟨this.1,by have:=this.2;omega⟩
theorem Mi {r:List Int}(h1:r.length<=5000) (h2:(r.all fun(z:Int)=>VbdcanNeutral.whole60 z)=true):Iw r:=
 ⟨h1,fun z hz=>iL (all_eq_true.mp h2 z hz)⟩
theorem Ae {ns:List Int}{rs:List (List Int)}(h:VbdcanNeutral.asked1 ((0::ns)::rs)=true):∃ x0:Int,∃ r0:List Int,ns=[x0]/\rs=[r0]/\Num x0/\gu r0:=by
 unfold VbdcanNeutral.asked1 at h
 split at h
 all_goals first
  |(rename_i heq;simp at heq;done)
  |(cases h;done)
  | skip
 rename_i heq
 simp at heq
 simp only [Bool.and_eq_true,decide_eq_true_eq] at h
 exact⟨_,_,heq.1,heq.2,iL h.1,gZ h.2.1 h.2.2⟩
theorem WA {ns:List Int}{rs:List (List Int)}(h:VbdcanNeutral.asked1 ((1::ns)::rs)=true):∃ x0:Int,∃ r0 r1:List Int,ns=[x0]/\rs=[r0,r1]/\Num x0/\gu r0/\Iw r1:=by
 unfold VbdcanNeutral.asked1 at h
 split at h
 all_goals first
  |(rename_i heq;simp at heq;done)
  |(cases h;done)
  | skip
 rename_i heq
 simp at heq
 simp only [Bool.and_eq_true,decide_eq_true_eq] at h
 exact⟨_,_,_,heq.1,heq.2,iL h.1,gZ h.2.1 h.2.2.1,Mi h.2.2.2.1 h.2.2.2.2⟩
theorem Wn {ns:List Int}{rs:List (List Int)}(h:VbdcanNeutral.asked1 ((2::ns)::rs)=true):∃ x0 x1:Int,ns=[x0,x1]/\rs=[]/\Num x0/\Num x1:=by
 unfold VbdcanNeutral.asked1 at h
 split at h
 all_goals first
  |(rename_i heq;simp at heq;done)
  |(cases h;done)
  | skip
 rename_i heq
 simp at heq
 simp only [Bool.and_eq_true,decide_eq_true_eq] at h
 exact⟨_,_,heq.1,heq.2,iL h.1,iL h.2⟩
theorem Wk {ns:List Int}{rs:List (List Int)}(h:VbdcanNeutral.asked1 ((3::ns)::rs)=true):∃ r0:List Int,ns=[]/\rs=[r0]/\gu r0:=by
 unfold VbdcanNeutral.asked1 at h
 split at h
 all_goals first
  |(rename_i heq;simp at heq;done)
  |(cases h;done)
  | skip
 rename_i heq
 simp at heq
 simp only [Bool.and_eq_true,decide_eq_true_eq] at h
 exact⟨_,heq.1,heq.2,gZ h.1 h.2⟩
theorem Wj {ns:List Int}{rs:List (List Int)}(h:VbdcanNeutral.asked1 ((4::ns)::rs)=true):∃ r0:List Int,ns=[]/\rs=[r0]/\gu r0:=by
 unfold VbdcanNeutral.asked1 at h
 split at h
 all_goals first
  |(rename_i heq;simp at heq;done)
  |(cases h;done)
  | skip
 rename_i heq
 simp at heq
 simp only [Bool.and_eq_true,decide_eq_true_eq] at h
 exact⟨_,heq.1,heq.2,gZ h.1 h.2⟩
theorem Wi {ns:List Int}{rs:List (List Int)}(h:VbdcanNeutral.asked1 ((5::ns)::rs)=true):∃ r0:List Int,ns=[]/\rs=[r0]/\gu r0:=by
 unfold VbdcanNeutral.asked1 at h
 split at h
 all_goals first
  |(rename_i heq;simp at heq;done)
  |(cases h;done)
  | skip
 rename_i heq
 simp at heq
 simp only [Bool.and_eq_true,decide_eq_true_eq] at h
 exact⟨_,heq.1,heq.2,gZ h.1 h.2⟩
theorem Wh {ns:List Int}{rs:List (List Int)}(h:VbdcanNeutral.asked1 ((6::ns)::rs)=true):∃ r0:List Int,ns=[]/\rs=[r0]/\gu r0:=by
 unfold VbdcanNeutral.asked1 at h
 split at h
 all_goals first
  |(rename_i heq;simp at heq;done)
  |(cases h;done)
  | skip
 rename_i heq
 simp at heq
 simp only [Bool.and_eq_true,decide_eq_true_eq] at h
 exact⟨_,heq.1,heq.2,gZ h.1 h.2⟩
theorem Wg {ns:List Int}{rs:List (List Int)}(h:VbdcanNeutral.asked1 ((7::ns)::rs)=true):∃ r0:List Int,ns=[]/\rs=[r0]/\gu r0:=by
 unfold VbdcanNeutral.asked1 at h
 split at h
 all_goals first
  |(rename_i heq;simp at heq;done)
  |(cases h;done)
  | skip
 rename_i heq
 simp at heq
 simp only [Bool.and_eq_true,decide_eq_true_eq] at h
 exact⟨_,heq.1,heq.2,gZ h.1 h.2⟩
theorem We {ns:List Int}{rs:List (List Int)}(h:VbdcanNeutral.asked1 ((8::ns)::rs)=true):∃ r0:List Int,ns=[]/\rs=[r0]/\gu r0:=by
 unfold VbdcanNeutral.asked1 at h
 split at h
 all_goals first
  |(rename_i heq;simp at heq;done)
  |(cases h;done)
  | skip
 rename_i heq
 simp at heq
 simp only [Bool.and_eq_true,decide_eq_true_eq] at h
 exact⟨_,heq.1,heq.2,gZ h.1 h.2⟩
theorem Wd {ns:List Int}{rs:List (List Int)}(h:VbdcanNeutral.asked1 ((9::ns)::rs)=true):∃ r0:List Int,ns=[]/\rs=[r0]/\gu r0:=by
 unfold VbdcanNeutral.asked1 at h
 split at h
 all_goals first
  |(rename_i heq;simp at heq;done)
  |(cases h;done)
  | skip
 rename_i heq
 simp at heq
 simp only [Bool.and_eq_true,decide_eq_true_eq] at h
 exact⟨_,heq.1,heq.2,gZ h.1 h.2⟩
theorem Wz {ns:List Int}{rs:List (List Int)}(h:VbdcanNeutral.asked1 ((10::ns)::rs)=true):∃ x0:Int,∃ r0:List Int,ns=[x0]/\rs=[r0]/\Num x0/\gu r0:=by
 unfold VbdcanNeutral.asked1 at h
 split at h
 all_goals first
  |(rename_i heq;simp at heq;done)
  |(cases h;done)
  | skip
 rename_i heq
 simp at heq
 simp only [Bool.and_eq_true,decide_eq_true_eq] at h
 exact⟨_,_,heq.1,heq.2,iL h.1,gZ h.2.1 h.2.2⟩
theorem Wy {ns:List Int}{rs:List (List Int)}(h:VbdcanNeutral.asked1 ((11::ns)::rs)=true):∃ x0 x1 x2:Int,∃ r0:List Int,ns=[x0,x1,x2]/\rs=[r0]/\Num x0/\Num x1/\Num x2/\gu r0:=by
 unfold VbdcanNeutral.asked1 at h
 split at h
 all_goals first
  |(rename_i heq;simp at heq;done)
  |(cases h;done)
  | skip
 rename_i heq
 simp at heq
 simp only [Bool.and_eq_true,decide_eq_true_eq] at h
 exact⟨_,_,_,_,heq.1,heq.2,iL h.1,iL h.2.1,iL h.2.2.1,gZ h.2.2.2.1 h.2.2.2.2⟩
theorem Wx {ns:List Int}{rs:List (List Int)}(h:VbdcanNeutral.asked1 ((12::ns)::rs)=true):∃ r0:List Int,ns=[]/\rs=[r0]/\gu r0:=by
 unfold VbdcanNeutral.asked1 at h
 split at h
 all_goals first
  |(rename_i heq;simp at heq;done)
  |(cases h;done)
  | skip
 rename_i heq
 simp at heq
 simp only [Bool.and_eq_true,decide_eq_true_eq] at h
 exact⟨_,heq.1,heq.2,gZ h.1 h.2⟩
theorem Ww {ns:List Int}{rs:List (List Int)}(h:VbdcanNeutral.asked1 ((13::ns)::rs)=true):∃ r0:List Int,ns=[]/\rs=[r0]/\gu r0:=by
 unfold VbdcanNeutral.asked1 at h
 split at h
 all_goals first
  |(rename_i heq;simp at heq;done)
  |(cases h;done)
  | skip
 rename_i heq
 simp at heq
 simp only [Bool.and_eq_true,decide_eq_true_eq] at h
 exact⟨_,heq.1,heq.2,gZ h.1 h.2⟩
theorem Wv {ns:List Int}{rs:List (List Int)}(h:VbdcanNeutral.asked1 ((14::ns)::rs)=true):∃ r0 r1:List Int,ns=[]/\rs=[r0,r1]/\gu r0/\gu r1:=by
 unfold VbdcanNeutral.asked1 at h
 split at h
 all_goals first
  |(rename_i heq;simp at heq;done)
  |(cases h;done)
  | skip
 rename_i heq
 simp at heq
 simp only [Bool.and_eq_true,decide_eq_true_eq] at h
 exact⟨_,_,heq.1,heq.2,gZ h.1 h.2.1,gZ h.2.2.1 h.2.2.2⟩
theorem Wu {ns:List Int}{rs:List (List Int)}(h:VbdcanNeutral.asked1 ((15::ns)::rs)=true):∃ x0:Int,∃ r0:List Int,ns=[x0]/\rs=[r0]/\Num x0/\gu r0:=by
 unfold VbdcanNeutral.asked1 at h
 split at h
 all_goals first
  |(rename_i heq;simp at heq;done)
  |(cases h;done)
  | skip
 rename_i heq
 simp at heq
 simp only [Bool.and_eq_true,decide_eq_true_eq] at h
 exact⟨_,_,heq.1,heq.2,iL h.1,gZ h.2.1 h.2.2⟩
theorem Wt {ns:List Int}{rs:List (List Int)}(h:VbdcanNeutral.asked1 ((16::ns)::rs)=true):∃ x0:Int,ns=[x0]/\rs=[]/\Num x0:=by
 unfold VbdcanNeutral.asked1 at h
 split at h
 all_goals first
  |(rename_i heq;simp at heq;done)
  |(cases h;done)
  | skip
 rename_i heq
 simp at heq
 exact⟨_,heq.1,heq.2,iL h⟩
theorem Wr {ns:List Int}{rs:List (List Int)}(h:VbdcanNeutral.asked1 ((17::ns)::rs)=true):∃ x0 x1:Int,ns=[x0,x1]/\rs=[]/\Num x0/\Num x1:=by
 unfold VbdcanNeutral.asked1 at h
 split at h
 all_goals first
  |(rename_i heq;simp at heq;done)
  |(cases h;done)
  | skip
 rename_i heq
 simp at heq
 simp only [Bool.and_eq_true,decide_eq_true_eq] at h
 exact⟨_,_,heq.1,heq.2,iL h.1,iL h.2⟩
theorem Wq {ns:List Int}{rs:List (List Int)}(h:VbdcanNeutral.asked1 ((18::ns)::rs)=true):∃ x0:Int,ns=[x0]/\rs=[]/\Num x0:=by
 unfold VbdcanNeutral.asked1 at h
 split at h
 all_goals first
  |(rename_i heq;simp at heq;done)
  |(cases h;done)
  | skip
 rename_i heq
 simp at heq
 exact⟨_,heq.1,heq.2,iL h⟩
theorem Wo {ns:List Int}{rs:List (List Int)}(h:VbdcanNeutral.asked1 ((19::ns)::rs)=true):ns=[]/\rs=[]:=by
 unfold VbdcanNeutral.asked1 at h
 split at h
 all_goals first
  |(rename_i heq;simp at heq;done)
  |(cases h;done)
  | skip
 rename_i heq
 simp at heq
 exact⟨heq.1,heq.2⟩
theorem Wm {ns:List Int}{rs:List (List Int)}(h:VbdcanNeutral.asked1 ((20::ns)::rs)=true):ns=[]/\rs=[]:=by
 unfold VbdcanNeutral.asked1 at h
 split at h
 all_goals first
  |(rename_i heq;simp at heq;done)
  |(cases h;done)
  | skip
 rename_i heq
 simp at heq
 exact⟨heq.1,heq.2⟩
theorem Wl {ns:List Int}{rs:List (List Int)}(h:VbdcanNeutral.asked1 ((21::ns)::rs)=true):ns=[]/\rs=[]:=by
 unfold VbdcanNeutral.asked1 at h
 split at h
 all_goals first
  |(rename_i heq;simp at heq;done)
  |(cases h;done)
  | skip
 rename_i heq
 simp at heq
 exact⟨heq.1,heq.2⟩
theorem Jz {r:List Int}(h:∀ z∈r,0<=z):(VbdcanNeutral.text r).map (fun(n:Nat)=>(n:Int))=r:=by
 unfold VbdcanNeutral.text
 rw [map_map]
 conv=>rhs;rw [←List.map_id r]
 refine map_congr_left fun z hz=>?_
 have:=h z hz
 show((z.toNat:Nat):Int)=z
 omega
theorem text_len (r:List Int):(VbdcanNeutral.text r).length=r.length:=by unfold VbdcanNeutral.text;rw [length_map]
def iD (s:ax):List Int:=boundRow (s.lo,s.hi)++[s.add,s.low,s.high]
theorem sI {α β:Type}{l:List α}{m:List β}{k n:Nat}{a:α}{b:β}(hl:l.length=n) (hm:m.length=n) (hk:k<n):(l.zip m)[k]? = some (l.getD k a,m.getD k b):=by
 rw [getElem?_zip_eq_some,getD_eq_getElem?_getD,getD_eq_getElem?_getD,getElem?_eq_getElem (by omega),getElem?_eq_getElem (by omega)]
 exact⟨rfl,rfl⟩
theorem A2 {α β:Type}{l:List α}{W:Nat}{f:Nat->α}(hW:W<=l.length) (h:∀ k,k<l.length->l[k]? = some (f k)):l.take W=(range W).map f:=by
 apply ext_getElem
 ·simp;omega
 ·intro k h1 h2
  have hk:k<l.length:=by simp at h1;omega
  have:=h k hk
  rw [getElem?_eq_getElem hk] at this
  rw [List.getElem_take,getElem_map,getElem_range]
  exact Option.some.inj this
theorem JU {s:State}{x:Sum}(hx:Wf x) (hW:s.names.length<=8):sumRow s x=(x.len:Int)::(range s.names.length).flatMap fun k=>iD (sp x k):=by
 unfold sumRow
 congr 1
 have yK:(x.low.zip x.high).length=8:=by rw [length_zip,hx.low,hx.high];rfl
 have yJ:(x.add.zip (x.low.zip x.high)).length=8:=by rw [length_zip,hx.add,yK];rfl
 have Xr:(x.box.zip (x.add.zip (x.low.zip x.high))).length=8:=by rw [length_zip,hx.box,yJ];rfl
 rw [A2 (β:=Unit) (f:=fun k=>(bg x.box k,aF x.add k,aF x.low k,aF x.high k)) (by omega) (fun k hk=>?_),List.flatMap_map]
 ·rfl
 ·have hk:k<8:=by omega
  rw [sI (a:=(none,none)) (b:=(0,0,0)) hx.box yJ hk]
  congr 2
  rw [getD_eq_getElem?_getD,sI (a:=0) (b:=(0,0)) hx.add yK hk]
  show(aF x.add k,_)=_
  congr 1
  rw [getD_eq_getElem?_getD,sI (a:=0) (b:=0) hx.low hx.high hk]
  rfl
def dG (W:Nat) (a:Act):List Int:=bit a.must::(range W).flatMap fun k=>boundRow (bg a.box k)++[aF a.add k]
theorem WQ {W:Nat}{a:Act}(h1:a.box.length=8) (h2:a.add.length=8) (hW:W<=8):(bit a.must::((a.box.zip a.add).take W).flatMap fun p=>boundRow p.1++[p.2])=dG W a:=by
 unfold dG
 congr 1
 have hz:(a.box.zip a.add).length=8:=by rw [length_zip,h1,h2];rfl
 rw [A2 (β:=Unit) (f:=fun k=>(bg a.box k,aF a.add k)) (by omega) (fun k hk=>sI h1 h2 (by omega)),List.flatMap_map]
theorem WO {s:State}(h:cN s):(s.acts.flatMap fun a=>bit a.must::((a.box.zip a.add).take s.names.length).flatMap fun p=>boundRow p.1++[p.2])=s.acts.flatMap (dG s.names.length):=by
 have:∀ l:List Act,(∀ a∈l,a.box.length=8/\a.add.length=8)->(l.flatMap fun a=>bit a.must::((a.box.zip a.add).take s.names.length).flatMap fun p=>boundRow p.1++[p.2])=l.flatMap (dG s.names.length):=by
  intro l
  induction l with
  | nil=>intro _;rfl
  | cons a r ih=>
   intro q
   rw [flatMap_cons,flatMap_cons,ih fun b hb=>q b (mem_cons_of_mem _ hb),WQ (q a (by simp)).1 (q a (by simp)).2 h.w]
 exact this s.acts h.ok
theorem jn {α:Type}(f:Nat->List α) (i:Nat):(range (i+1)).flatMap f=(range i).flatMap f++f i:=by
 rw [range_succ,List.flatMap_append]
 simp
theorem SE {α β:Type}(f:α->List β){l:List α}{i:Nat}{x:α}(h:l[i]? = some x):(l.take (i+1)).flatMap f=(l.take i).flatMap f++f x:=by
 obtain⟨h1,h2⟩:=List.getElem?_eq_some_iff.mp h
 rw [take_succ_eq_append_getElem h1,List.flatMap_append,h2]
 simp
theorem jC (s:ax):(iD s).length=7:=rfl
theorem iP (f:Nat->List Int) (n:Nat) (h:∀ k,(f k).length=n):∀ i,((range i).flatMap f).length=n*i
 | 0=>by simp
 | i+1=>by rw [jn,length_append,iP f n h i,h i,Nat.mul_add];omega
def ff:Except Nat Run->Int
 | .error _=>-2
 | .ok m=>if bW m=0 then 0 else -3
theorem gO (s:State) (t:Text):ff (readRun s.acts t)=match plain s t with | .error e=>-(e:Int) | .ok _=>0:=by
 unfold plain
 cases e:readRun s.acts t with
 | error p=>rfl
 | ok m=>
  dsimp only [ff]
  cases ep:plainOf m with
  | none=>
   rw [if_neg]
   ·rfl
   ·intro z
    obtain⟨l,hl⟩:=vY.mp z
    rw [ep] at hl;cases hl
  | some l=>
   rw [if_pos (vY.mpr ⟨l,ep⟩)]
def Eg:List Nat:=[1,1,2,0,0,0,0,0,0,0,1,3,0,0,0,1,1,2,1,0,0,0]
def iZ:List Nat:=[1,2,0,1,1,1,1,1,1,1,1,1,1,1,2,1,0,0,0,0,0,0]
theorem Le {p:Int}{n k:Nat}(h:PyVbdcan.shape p=some (n,k)):p.toNat<22/\(p.toNat:Int)=p/\Eg[p.toNat]? = some n/\iZ[p.toNat]? = some k:=by
 by_cases h0:p=0
 ·subst h0
  have e:PyVbdcan.shape 0=some (1,1):=by decide
  rw [e] at h
  cases h
  exact⟨by decide,by decide,rfl,rfl⟩
 by_cases h1:p=1
 ·subst h1
  have e:PyVbdcan.shape 1=some (1,2):=by decide
  rw [e] at h
  cases h
  exact⟨by decide,by decide,rfl,rfl⟩
 by_cases h2:p=2
 ·subst h2
  have e:PyVbdcan.shape 2=some (2,0):=by decide
  rw [e] at h
  cases h
  exact⟨by decide,by decide,rfl,rfl⟩
 by_cases h3:p=3
 ·subst h3
  have e:PyVbdcan.shape 3=some (0,1):=by decide
  rw [e] at h
  cases h
  exact⟨by decide,by decide,rfl,rfl⟩
 by_cases h4:p=4
 ·subst h4
  have e:PyVbdcan.shape 4=some (0,1):=by decide
  rw [e] at h
  cases h
  exact⟨by decide,by decide,rfl,rfl⟩
 by_cases h5:p=5
 ·subst h5
  have e:PyVbdcan.shape 5=some (0,1):=by decide
  rw [e] at h
  cases h
  exact⟨by decide,by decide,rfl,rfl⟩
 by_cases h6:p=6
 ·subst h6
  have e:PyVbdcan.shape 6=some (0,1):=by decide
  rw [e] at h
  cases h
  exact⟨by decide,by decide,rfl,rfl⟩
 by_cases h7:p=7
 ·subst h7
  have e:PyVbdcan.shape 7=some (0,1):=by decide
  rw [e] at h
  cases h
  exact⟨by decide,by decide,rfl,rfl⟩
 by_cases h8:p=8
 ·subst h8
  have e:PyVbdcan.shape 8=some (0,1):=by decide
  rw [e] at h
  cases h
  exact⟨by decide,by decide,rfl,rfl⟩
 by_cases h9:p=9
 ·subst h9
  have e:PyVbdcan.shape 9=some (0,1):=by decide
  rw [e] at h
  cases h
  exact⟨by decide,by decide,rfl,rfl⟩
 by_cases gi:p=10
 ·subst gi
  have e:PyVbdcan.shape 10=some (1,1):=by decide
  rw [e] at h
  cases h
  exact⟨by decide,by decide,rfl,rfl⟩
 by_cases cS:p=11
 ·subst cS
  have e:PyVbdcan.shape 11=some (3,1):=by decide
  rw [e] at h
  cases h
  exact⟨by decide,by decide,rfl,rfl⟩
 by_cases uW:p=12
 ·subst uW
  have e:PyVbdcan.shape 12=some (0,1):=by decide
  rw [e] at h
  cases h
  exact⟨by decide,by decide,rfl,rfl⟩
 by_cases zy:p=13
 ·subst zy
  have e:PyVbdcan.shape 13=some (0,1):=by decide
  rw [e] at h
  cases h
  exact⟨by decide,by decide,rfl,rfl⟩
 by_cases Gj:p=14
 ·subst Gj
  have e:PyVbdcan.shape 14=some (0,2):=by decide
  rw [e] at h
  cases h
  exact⟨by decide,by decide,rfl,rfl⟩
 by_cases Gi:p=15
 ·subst Gi
  have e:PyVbdcan.shape 15=some (1,1):=by decide
  rw [e] at h
  cases h
  exact⟨by decide,by decide,rfl,rfl⟩
 by_cases rO:p=16
 ·subst rO
  have e:PyVbdcan.shape 16=some (1,0):=by decide
  rw [e] at h
  cases h
  exact⟨by decide,by decide,rfl,rfl⟩
 by_cases Gh:p=17
 ·subst Gh
  have e:PyVbdcan.shape 17=some (2,0):=by decide
  rw [e] at h
  cases h
  exact⟨by decide,by decide,rfl,rfl⟩
 by_cases Gg:p=18
 ·subst Gg
  have e:PyVbdcan.shape 18=some (1,0):=by decide
  rw [e] at h
  cases h
  exact⟨by decide,by decide,rfl,rfl⟩
 by_cases Gf:p=19
 ·subst Gf
  have e:PyVbdcan.shape 19=some (0,0):=by decide
  rw [e] at h
  cases h
  exact⟨by decide,by decide,rfl,rfl⟩
 by_cases Ge:p=20
 ·subst Ge
  have e:PyVbdcan.shape 20=some (0,0):=by decide
  rw [e] at h
  cases h
  exact⟨by decide,by decide,rfl,rfl⟩
 by_cases Gd:p=21
 ·subst Gd
  have e:PyVbdcan.shape 21=some (0,0):=by decide
  rw [e] at h
  cases h
  exact⟨by decide,by decide,rfl,rfl⟩
 unfold PyVbdcan.shape at h
 rw [if_neg h0,if_neg h1,if_neg h2,if_neg h3,if_neg h4,if_neg h5,if_neg h6,if_neg h7,if_neg h8,if_neg h9,if_neg gi,if_neg cS,if_neg uW,if_neg zy,if_neg Gj,if_neg Gi,if_neg rO,if_neg Gh,if_neg Gg,if_neg Gf,if_neg Ge,if_neg Gd] at h
 cases h
theorem Wa {c:VbdcanNeutral.Call}(h:VbdcanNeutral.asked1 c=true):∃ d,VbdcanNeutral.callOf c=some d/\IG d:=by
 unfold VbdcanNeutral.asked1 at h
 split at h
 all_goals first
  | exact⟨_,rfl,trivial⟩
  |(cases h;done)
  |(refine⟨_,rfl,?_⟩
    simp only [Bool.and_eq_true,decide_eq_true_eq] at h
    exact h.2.2.2.1)
theorem Jt (a:List Int) (r:List (List Int)):PyFlat.told (a::r)=(a.length:Int)::(a++PyFlat.told r):=by
 unfold PyFlat.told
 rw [flatMap_cons]
 rfl
theorem Vy {shape:Int->Option (Nat×Nat)}{f:Nat}{cs:List (List (List Int))}(h:PyFlat.calls shape f []=some cs):cs=[]:=by
 unfold PyFlat.calls at h
 cases f<;>cases h<;>rfl
theorem Vz {shape:Int->Option (Nat×Nat)}{f:Nat}{p:Int}{r:List Int}{cs:List (List (List Int))}(h:PyFlat.calls shape f (p::r)=some cs):∃ f',f=f'+1:=by
 cases f with
 | zero=>unfold PyFlat.calls at h;cases h
 | succ f=>exact⟨f,rfl⟩
theorem step_call {s:State}(h:cN s){c:VbdcanNeutral.Call}{d:Call}(hd:VbdcanNeutral.callOf c=some d):VbdcanNeutral.step s c=Vbdcan.step s d:=by
 unfold VbdcanNeutral.step
 rw [hd]
theorem jX {l:List Int}{e:Nat}{n:Int}{r:List Int}(h:l.drop e=n::r):e<l.length/\l[e]? = some n/\r=l.drop (e+1):=by
 have he:e<l.length:=by
  apply Classical.byContradiction
  intro q
  rw [List.drop_eq_nil_of_le (by omega)] at h
  cases h
 rw [drop_eq_getElem_cons he] at h
 injection h with h1 h2
 exact⟨he,by rw [getElem?_eq_getElem he,h1],h2.symm⟩
theorem Wb {l:List Int}(h:PyVbdcan.answers_asked l=true):∃ cs,PyFlat.calls PyVbdcan.shape l.length l=some cs/\cs.length<=150/\(∀ c∈cs,VbdcanNeutral.asked1 c=true)/\PyVbdcan.answers l=PyFlat.told (PyFlat.played VbdcanNeutral.step VbdcanNeutral.start cs):=by
 unfold PyVbdcan.answers_asked at h
 have key:∀ cs,PyFlat.calls PyVbdcan.shape l.length l=some cs->PyVbdcan.calls l=some cs:=fun cs e=>by
  unfold PyVbdcan.calls
  rw [e]
  show some (cs.map PyVbdcan.whole)=some cs
  congr 1
  conv=>rhs;rw [←List.map_id cs]
  exact map_congr_left fun c _=>IM c
 cases e:PyFlat.calls PyVbdcan.shape l.length l with
 | none=>
  have:PyVbdcan.calls l=none:=by unfold PyVbdcan.calls;rw [e]
  rw [this] at h;cases h
 | some cs=>
  have e2:=key cs e
  rw [e2] at h
  dsimp only at h
  rw [Bool.and_eq_true] at h
  obtain⟨h1,h2⟩:=h
  unfold PyFlat.atMost at h1
  have h1:=of_decide_eq_true h1
  unfold VbdcanNeutral.asked at h2
  rw [Bool.and_eq_true] at h2
  refine⟨cs,rfl,h1,fun c hc=>all_eq_true.mp h2.1 c hc,?_⟩
  unfold PyVbdcan.answers
  rw [e2]
end My
end
section
set_option linter.all false
set_option maxRecDepth 100000
set_option maxHeartbeats 4000000
namespace SR
open PySem PySem.Spec PyProof.Rows L2
open List (all_eq_true all_map any_cons append_assoc append_nil cons_append drop_drop drop_eq_getElem_cons drop_eq_nil_iff drop_length drop_zero ext_getElem filter_append filter_cons find?_cons_of_neg flatMap_cons foldl_cons getD_eq_getElem?_getD getElem?_append_left getElem?_append_right getElem?_eq_getElem getElem?_map getElem?_set_ne getElem?_zip_eq_some getElem_map getElem_mem getElem_range length_append length_cons length_drop length_eq_zero_iff length_map length_modify length_nil length_range length_reverse length_singleton length_take length_zip map_append map_congr_left map_cons map_const' map_map mem_append mem_cons mem_cons_of_mem mem_cons_self mem_iff_getElem mem_map mem_of_getElem? mem_range nil_append not_mem_nil range range_succ sum_cons takeWhile_cons_of_pos takeWhile_prefix take_length take_succ_eq_append_getElem)
open Vbdcan (ACTS BIG MOST Part REGS State actOf actSum afterItems amount beyond bit boundRow countItems cutAt demand1 demands digit firstItems fits free from_ get goodName items1 itemsOf maxO minO often plus printRun reachItems readRun repSum seqSum settled still sumItem sumItems tighter yes)
open VbdcanNeutral (asked1 text)
open My (bX fW aM cc bY cH dU Sg ax cN Tail Todo Wf hU dG hJ eA cT bg d9 dF deepOf gX drop_cons jX iQ iP jn jW cz grow aF iN isNumeral gJ jN eC cV bI df gh gG jM cY bK ja iK fi bZ jJ jI dA fh bB jG gF gQ pt iG pw gE dY gb fK gC jD readM i5 ff gO ib fZ cf rowOf ia iZ eK de fY iE signOf gy fI dX dI iD jC bW cR iU gw eU jA text_len di fA bO cQ bG iT cU bU ck bh)
open PyVbdcan (answers)
structure aW (P:Program) (w:World) (K:PySem.W.Frag) (mg:Str->Option Value) (base:Heap) (k:Nat) (x:Str) (ps:List Str) (sp:Sp):Prop where
 ex:∃(f:Addr) (fd:FuncData),fc P w K mg base iz k f fd ps sp/\mg x=some (.ref f)/\PySem.W.keepIn K (.ref f)=true/\Binds K fd ps []
structure iw (P:Program) (w:World) (K:PySem.W.Frag) (mg:Str->Option Value) (base:Heap) (k:Nat) (x:Str) (C:Addr) (ps:List Str) (sp:Sp):Prop where
 ex:∃(f:Addr) (fd:FuncData),fc P w K mg base iz k f fd ps sp/\mg x=some (.ref C)/\Mk K C f/\Binds K fd ps []
structure lx (P:Program) (w:World) (K:PySem.W.Frag) (mg:Str->Option Value) (base:Heap) (k:Nat) (C:Addr) (m:Str) (ps:List Str) (sp:Sp):Prop where
 cl:iS K C
 ex:∃(f:Addr) (fd:FuncData),fc P w K mg base iz k f fd ps sp/\Meth K C m f/\Binds K fd ps []
section
variable {X:Cx}{k:Nat}{x m:Str}{C:Addr}{ps:List Str}{sp:Sp}{e o:Expr}{es:List Expr}{t:TA}{ta:TE}{p pos apos:Pos}
theorem Ng (c:aW X.prog X.w X.K X.mg X.base k x ps sp) (hr:cA k X.A) (hg:Gl X x) (ha:PA X (e::es) t) (eP:(x == ("__debug__":Str))=false:=by decide)
  (he:starEach (e::es) X.env=(false,eval e X.env)::starEach es X.env:=by rfl) (dh:(backTo pos (starEach es X.env)).any (·.1)=false:=by rfl):PE X (.Call (.Name x p) (e::es) [] pos) (iC sp [] E0 t):=by
 obtain⟨f,fd,F,hm,hk,hb⟩:=c.ex
 exact Ni F hr hg hm hk hb .nil nF ha eP he dh
theorem pC {j:Nat}(c:aW X.prog X.w X.K X.mg X.base k x ps sp) (hr:cA j X.A) (ha:PA X (e::es) t) (Rq:k<=j:=by decide) (hg:Gl X x:=by exact rfl) (eP:(x==("__debug__":Str))=false:=by decide)
  (he:starEach (e::es) X.env=(false,eval e X.env)::starEach es X.env:=by rfl) (dh:(backTo pos (starEach es X.env)).any (·.1)=false:=by rfl):PE X (.Call (.Name x p) (e::es) [] pos) (iC sp [] E0 t):=Ng c (hr.mono Rq) hg ha eP he dh
theorem DP (c:aW X.prog X.w X.K X.mg X.base k x ps sp) (hr:cA k X.A) (hg:Gl X x) (eP:(x == ("__debug__":Str))=false:=by decide):PE X (.Call (.Name x p) [] [] pos) (iC sp [] E0 dz):=by
 obtain⟨f,fd,F,hm,hk,hb⟩:=c.ex
 exact Nh F hr hg hm hk hb .nil nF eP
theorem eL (c:iw X.prog X.w X.K X.mg X.base k x C ps sp) (hr:cA (k+1) X.A) (hg:Gl X x) (ha:PA X (e::es) t) (eP:(x == ("__debug__":Str))=false:=by decide)
  (he:starEach (e::es) X.env=(false,eval e X.env)::starEach es X.env:=by rfl) (dh:(backTo pos (starEach es X.env)).any (·.1)=false:=by rfl):PE X (.Call (.Name x p) (e::es) [] pos) (sU C sp [] E0 t):=by
 obtain⟨f,fd,F,hm,M,hb⟩:=c.ex
 exact Nb M F hr hg hm hb .nil nF ha eP he dh
theorem M9 (c:iw X.prog X.w X.K X.mg X.base k x C ps sp) (hr:cA (k+1) X.A) (hg:Gl X x) (eP:(x == ("__debug__":Str))=false:=by decide):PE X (.Call (.Name x p) [] [] pos) (sU C sp [] E0 dz):=by
 obtain⟨f,fd,F,hm,M,hb⟩:=c.ex
 exact Na M F hr hg hm hb .nil nF eP
theorem tX {pl:Sem Bool}(ho:PE X o ta) (c:lx X.prog X.w X.K X.mg X.base k C m ps sp) (hr:cA k X.A) (ha:PA X (e::es) t)
  (eZ:starEach (e::es) X.env=(false,eval e X.env)::starEach es X.env:=by rfl) (dh:(backTo pos (starEach es X.env)).any (·.1)=false:=by rfl)
  (ht:eval (.Call (.Attribute o m apos) (e::es) [] pos) X.env=(do
   let ov ← eval o X.env
   standAt apos.atName
   let (f,first) ← holding [ov] (getMethod ov m pl)
   callWith pos f first (backTo pos (starEach (e::es) X.env)) (backToKw pos (keywordEach [] X.env))):=by rfl) :
  PE X (.Call (.Attribute o m apos) (e::es) [] pos) (sT C m sp [] E0 ta t):=by
 obtain⟨f,fd,F,hm,hb⟩:=c.ex
 exact M8 ho c.cl hm F hr hb .nil nF ha eZ dh ht
theorem DO {pl:Sem Bool}(ho:PE X o ta) (c:lx X.prog X.w X.K X.mg X.base k C m ps sp) (hr:cA k X.A)
  (ht:eval (.Call (.Attribute o m apos) [] [] pos) X.env=(do
   let ov ← eval o X.env
   standAt apos.atName
   let (f,first) ← holding [ov] (getMethod ov m pl)
   callWith pos f first (backTo pos (starEach [] X.env)) (backToKw pos (keywordEach [] X.env))):=by rfl) :
  PE X (.Call (.Attribute o m apos) [] [] pos) (sT C m sp [] E0 ta dz):=by
 obtain⟨f,fd,F,hm,hb⟩:=c.ex
 exact M7 ho c.cl hm F hr hb .nil nF ht
theorem bP {i:Int}(hg:Gl X x) (hm:∃ t,X.mg x=some (.int i t)) (hd:(x == ("__debug__":Str))=false:=by decide):PE X (.Name x pos) (tC (.int i)):=by
 obtain⟨t,hm⟩:=hm
 exact xH hg hm ⟨t,rfl⟩ hd
theorem ic {z:Str}(hg:Gl X x) (hm:∃ t,X.mg x=some (.str z t)) (hd:(x == ("__debug__":Str))=false:=by decide):PE X (.Name x pos) (tC (.str z)):=by
 obtain⟨t,hm⟩:=hm
 exact xH hg hm ⟨t,rfl⟩ hd
theorem xG {a:Addr}(hg:Gl X x) (hm:X.mg x=some (.ref a)) (hd:(x == ("__debug__":Str))=false:=by decide):PE X (.Name x pos) (tC (.ref a)):=xH hg hm rfl hd
def Bd (i:Int):Prop:=i.natAbs<2 ^ 13000
theorem HN {i:Int}(h:Bd i):Builtin.Int.intBits i<=13000:=by
 unfold Builtin.Int.intBits
 split
 ·exact Nat.zero_le _
 ·have:i.natAbs.log2<13000:=by
   rcases Nat.eq_zero_or_pos i.natAbs with h0 | hp
   ·rw [h0];decide
   ·exact(Nat.log2_lt (Nat.ne_of_gt hp)).mpr h
  omega
theorem Pf {i j:Int}(hi:Bd i) (hj:Bd j):IntMulOk i j:=by
 have h1:=HN hi
 have h2:=HN hj
 unfold IntMulOk
 intro q
 simp only [Bool.and_eq_true,decide_eq_true_eq] at q
 have q3:=q.2
 unfold Builtin.Int.intTooBig at q3
 simp at q3
 have hb:bitsLine=134217728:=by decide +kernel
 rw [hb] at q3
 omega
def mZ (i j:Int):Prop:=AA i j\/(Bd i/\Bd j)
theorem kQ:dW X (binaryOp .Mult) (rI mZ fun i j=>.int (i*j)):=xM fun _ _ _ _ _ _ _ hc q=>mul_int q (by
 rcases hc with hc | hc
 ·exact hc.ok
 ·exact Pf hc.1 hc.2)
theorem noPylong {i j:Int}(hi:Bd i):Builtin.divisionGoesByPylong i j=false:=by
 unfold Builtin.divisionGoesByPylong
 dsimp only
 have hl:i.natAbs.log2<13000:=by
  rcases Nat.eq_zero_or_pos i.natAbs with h0 | hp
  ·rw [h0];decide
  ·exact(Nat.log2_lt (Nat.ne_of_gt hp)).mpr hi
 have h1:(if i == 0 then 0 else i.natAbs.log2 / 30+1)<=434:=by
  split
  ·exact Nat.zero_le _
  ·omega
 rw [Bool.and_eq_false_iff]
 by_cases h2:(if j == 0 then 0 else j.natAbs.log2 / 30+1) > 300
 ·right
  rw [decide_eq_false_iff_not]
  omega
 ·left
  exact decide_eq_false h2
theorem tZ:dW X (binaryOp .FloorDiv) (rI (fun i j=>0<j/\Bd i) fun i j=>.int (i / j)):=xM fun i j _ _ _ _ _ hc q=>by
 have h1:(0:Int)<j:=hc.1
 exact floordiv_int (by omega) (by rw [Int.fdiv_eq_ediv_of_nonneg i (by omega)];exact q) (.inl (noPylong hc.2))
theorem mr {K:PySem.W.Frag}{i j:Nat}{x y:Str}{p1 p2:Pos}{kk:Nat}(hc:X.calm=true) (hN:X.N.Nodup) (hi:X.N[i]? = some x) (hx:Loc X.env.scope x) (hj:X.N[j]? = some y) (hy:Loc X.env.scope y)
  (hf:X.fn x=true\/X.env.scope.names.lookup x=some .local:=by first | exact .inl rfl | exact .inr rfl | assumption) (RB:X.fn y=true\/X.env.scope.names.lookup y=some .local:=by first | exact .inl rfl | exact .inr rfl | assumption)
  (hK:X.K=K:=by rfl):PG X (.Tuple [.Name x p1,.Name y p2] kk pos) (GA K 2 (zF (jm i) (zF (jm j) GB))):=by
 subst hK
 exact M3 hc (DL (dk hN hi hx hf) (DL (dk hN hj hy RB) M0))
theorem cy {K:PySem.W.Frag}{f:Str}(ha:PE X o ta) (hb:attributeBase o f X.env (eval o X.env)=eval o X.env) (hK:X.K=K:=by rfl):PE X (.Attribute o f pos) (du K ta f):=by
 subst hK
 exact Nc ha hb
def TabAt (K:PySem.W.Frag) (a:Addr) (aB:List (Key×V)):Prop:=∀(P:Program) (w:World) (h:Heap),K.In h->(a == sysModules)=false/\∃ vs,KV aB vs/\h.DictOf (fO P w) a vs
theorem pF (K:PySem.W.Frag) (i:Nat){x f:Str}{p pos:Pos}(hN:X.N[i]?=some x:=by rfl) (hv:oy X.env.scope x:=by first |exact Or.inl rfl |exact Or.inr (Or.inl rfl) |exact Or.inr (Or.inr rfl)) (hd:(x==("__debug__":Str))=false:=by decide) (kz:(x==("__classdict__":Str))=false:=by decide) (hb:attributeBase (.Name x p) f X.env (eval (.Name x p) X.env)=eval (.Name x p) X.env:=by rfl) (hK:X.K=K:=by rfl):PE X (.Attribute (.Name x p) f pos) (du K (bV i) f):=cy (pv i hN hv hd kz) hb hK
theorem pq (i:Nat){P:List Str}{sc:Scope}{x:Str}{e:Expr}{te:TE}{pos pos':Pos}(S:aN X.N P sc) (he:PE X e te) (hi:X.N[i]?=some x:=by rfl) (hx:Loc X.env.scope x:=by exact Or.inl rfl) (hs:swapsWith e (some (.Name x pos')) pos.line X.env=pure false:=by rfl) (hf:X.fn x=true\/X.env.scope.names.lookup x=some .local:=by first |exact .inl rfl |exact .inr rfl |assumption):PS X (.Assign [.Name x pos'] e pos) (me te (jm i)):=Dx S.nd hi hx he hs hf
theorem M6 {a:Addr}{aB:List (Key×V)}{e f:Expr}{ty tx:TE}{dO:Pos}(hg:Gl X x) (hm:X.mg x=some (.ref a)) (ht:TabAt X.K a aB) (he:PE X e ty) (hf:PE X f tx) (m:M2 X (.Name x p) "get" apos e f dO) (eP:(x == ("__debug__":Str))=false:=by decide) :
  PE X (.Call (.Attribute (.Name x p) "get" apos) [e,f] [] dO) (fun σ H Q=>ty σ H fun y H2=>tx σ H2 fun z H3=>∃ k,y=kV k/\Q ((dc aB k).getD z) H3):=by
 intro ab s σ H Q I h
 refine wpAny_Call_method m.base m.dE m.line PySem.F.plainAttrs_dict PySem.F.slot_dict_get PySem.F.type_dict_get (pD I hg hm ?_ eP)
 obtain⟨hd,vs,rel,dd⟩:=ht X.prog X.w s.heap I.fP
 refine⟨dd.typeIs,fun b q=>?_,?_⟩
 ·cases q
  obtain⟨ob,_,_,h1,h2,_⟩:=dd
  exact⟨ob,h1,h2.2.1⟩
 rw [m.trees]
 refine Calls.callWith_builtin rfl (Calls.evalArgs_plain (Calls.spliced_cons (aV (he ab s σ H _ I h) fun iv s2 ⟨y,H2,I2,ry,q2⟩=>
  Calls.spliced_cons (aV (hf ab s2 σ H2 _ I2 q2) fun fv s3 ⟨z,H3,I3,rz,k,ek,q3⟩=>Calls.spliced_nil ?_))))
 subst ek
 obtain⟨pY,Xc,Mm,Hx⟩:=ht X.prog X.w s3.heap I3.fP
 refine call_meetsIn PySem.F.slot_dict_get Hx.typeIs PySem.F.entry_dict_get (PySem.F.args_dict_get_3 _ _ _) (meets_dict_get_default (fO X.prog X.w) a (qZ ry) pY fv) ⟨_,Hx.mapOf,⟨_,H3,I3.tok _,(Mm.val k).getD rz,q3⟩⟩
end
structure FnAt (K:PySem.W.Frag) (mg:Str->Option Value) (x:Str) (st:Stmt):Prop where
 ex:∃(f:Addr) (fd:FuncData),l6 K x x st f fd/\mg x=some (.ref f)
structure ClsAt (K:PySem.W.Frag) (mg:Str->Option Value) (x qual:Str) (C:Addr) (fields:List Str) (st:Stmt):Prop where
 cl:iS K C
 no:∀ f∈fields,lu K C f
 at_:mg x=some (.ref C)
 ex:∃(f:Addr) (fd:FuncData),l6 K "__init__" qual st f fd/\Mk K C f
theorem ClsAt.n {K:PySem.W.Frag}{mg:Str->Option Value}{x q:Str}{C:Addr}{fs:List Str}{st:Stmt}(h:ClsAt K mg x q C fs st){f:Str}(m:f∈fs:=by simp):lu K C f:=h.no f m
structure MethAt (K:PySem.W.Frag) (C:Addr) (m qual:Str) (st:Stmt):Prop where
 ex:∃(f:Addr) (fd:FuncData),l6 K m qual st f fd/\Meth K C m f
def top (i:Nat):Stmt:=PySem.Challenge.pw_shortruns_s01_answers.main.body.getD i (.Pass ⟨0,0,0,0⟩)
abbrev CV:Stmt:=inClass (top 17) 0
abbrev CT:Stmt:=inClass (top 18) 0
abbrev Co:Stmt:=top 19
abbrev BQ:Stmt:=top 20
abbrev BN:Stmt:=top 21
abbrev BO:Stmt:=top 22
abbrev Cb:Stmt:=top 23
abbrev Cc:Stmt:=top 24
abbrev BZ:Stmt:=top 25
abbrev xc:Stmt:=top 26
abbrev w6:Stmt:=top 27
abbrev wX:Stmt:=top 28
abbrev Cp:Stmt:=top 29
abbrev BV:Stmt:=top 30
abbrev xg:Stmt:=top 31
abbrev wY:Stmt:=top 32
abbrev BS:Stmt:=top 33
abbrev Ca:Stmt:=top 34
abbrev xm:Stmt:=top 35
abbrev BU:Stmt:=top 36
abbrev xj:Stmt:=top 37
abbrev C6:Stmt:=inClass (top 39) 0
abbrev CQ:Stmt:=top 40
abbrev BR:Stmt:=top 41
abbrev B1:Stmt:=top 42
abbrev B0:Stmt:=top 43
abbrev wV:Stmt:=top 44
abbrev qB:Stmt:=top 45
abbrev CS:Stmt:=inClass (top 55) 0
abbrev Cd:Stmt:=top 56
abbrev Ck:Stmt:=top 57
abbrev Cn:Stmt:=top 58
abbrev Cm:Stmt:=top 59
abbrev BG:Stmt:=top 60
abbrev Cj:Stmt:=top 61
abbrev BK:Stmt:=top 62
abbrev BJ:Stmt:=top 63
abbrev B9:Stmt:=top 64
abbrev C4:Stmt:=inClass (top 66) 0
abbrev C2:Stmt:=inClass (top 66) 1
abbrev C0:Stmt:=inClass (top 66) 2
abbrev CY:Stmt:=inClass (top 66) 3
abbrev CZ:Stmt:=inClass (top 66) 4
abbrev C1:Stmt:=inClass (top 66) 5
abbrev C3:Stmt:=inClass (top 66) 6
abbrev B5:Stmt:=top 67
abbrev C9:Stmt:=inClass (top 69) 0
abbrev C7:Stmt:=inClass (top 70) 0
abbrev CU:Stmt:=inClass (top 71) 0
abbrev Ci:Stmt:=top 72
abbrev wW:Stmt:=top 73
abbrev B6:Stmt:=top 74
abbrev BI:Stmt:=top 76
abbrev BH:Stmt:=top 77
abbrev B2:Stmt:=top 78
abbrev Cz:Stmt:=top 79
abbrev CD:Stmt:=top 80
abbrev Cr:Stmt:=top 81
abbrev CI:Stmt:=top 82
abbrev qC:Stmt:=top 83
abbrev xb:Stmt:=top 89
abbrev xf:Stmt:=top 90
abbrev CC:Stmt:=top 91
abbrev CG:Stmt:=top 92
abbrev C5:Stmt:=inClass (top 94) 0
abbrev BW:Stmt:=top 95
abbrev B7:Stmt:=top 96
abbrev CN:Stmt:=top 97
abbrev B8:Stmt:=top 98
abbrev BY:Stmt:=top 99
abbrev BL:Stmt:=top 100
abbrev BP:Stmt:=top 101
abbrev C8:Stmt:=inClass (top 103) 0
abbrev CO:Stmt:=top 104
abbrev wZ:Stmt:=top 105
abbrev B3:Stmt:=top 106
abbrev CJ:Stmt:=top 107
abbrev Cu:Stmt:=top 108
abbrev CA:Stmt:=top 109
abbrev CK:Stmt:=top 110
abbrev CF:Stmt:=top 111
abbrev w9:Stmt:=top 116
abbrev Ce:Stmt:=top 117
abbrev Cg:Stmt:=top 118
abbrev BM:Stmt:=top 119
abbrev Cy:Stmt:=top 120
abbrev xh:Stmt:=top 121
abbrev Ct:Stmt:=top 122
abbrev Cf:Stmt:=top 124
abbrev B4:Stmt:=top 125
abbrev CB:Stmt:=top 126
abbrev CM:Stmt:=top 127
abbrev CH:Stmt:=top 128
abbrev Cq:Stmt:=top 129
abbrev Cv:Stmt:=top 131
abbrev CL:Stmt:=top 132
abbrev Cs:Stmt:=top 133
abbrev CP:Stmt:=top 137
abbrev CW:Stmt:=inClass (top 138) 0
abbrev BX:Stmt:=top 139
abbrev xk:Stmt:=top 140
structure Cl where
 span:Addr
 sum:Addr
 part:Addr
 token:Addr
 cG:Addr
 action:Addr
 offer:Addr
 state:Addr
 tS:Addr
 attempt:Addr
 rows:Addr
 Gz:Addr
 zE:Addr
 zD:Addr
structure Txt (K:PySem.W.Frag) (mg:Str->Option Value) (c:Cl):Prop where
 vp:∃ t,mg "MOST" = some (.int (1000000000) t)
 HL:∃ t,mg "BIG" = some (.int (1000000000000000000) t)
 VI:∃ t,mg "MOST_REGISTERS" = some (.int (8) t)
 VJ:∃ t,mg "MOST_ACTIONS" = some (.int (16) t)
 VL:∃ t,mg "LONGEST_NAME" = some (.int (8) t)
 HH:∃ t,mg "LONGEST_TEXT" = some (.int (4096) t)
 VP:∃ t,mg "DEEPEST" = some (.int (40) t)
 VH:∃ t,mg "MOST_STARS" = some (.int (8) t)
 oi:∃ t,mg "NOT_OF_ITS_FORM" = some (.int (-1) t)
 p8:∃ t,mg "NO_RUN" = some (.int (-2) t)
 VD:∃ t,mg "STAR_NOT_ALLOWED" = some (.int (-3) t)
 vo:∃ t,mg "NO_PLACE" = some (.int (-4) t)
 HG:∃ t,mg "NAME_TAKEN" = some (.int (-5) t)
 p9:∃ t,mg "NOT_THE_TIME" = some (.int (-6) t)
 r6:∃ t,mg "CANNOT_BE_DONE" = some (.int (-7) t)
 HJ:∃ t,mg "FOR_EVER" = some (.int (-8) t)
 HK:∃ t,mg "BLANK" = some (.int (32) t)
 z8:∃ t,mg "NAME" = some (.str "name" t)
 z7:∃ t,mg "NUMERAL" = some (.str "numeral" t)
 zZ:∃ t,mg "OPENING" = some (.str "(" t)
 VR:∃ t,mg "CLOSING" = some (.str ")" t)
 zY:∃ t,mg "STAR" = some (.str "*" t)
 HF:∃ t,mg "WRONG" = some (.str "wrong" t)
 VE:mg "SIGNS" = some (.ref c.Gz)
 Ve:TabAt K c.Gz [(.inl 40,.str "("),(.inl 41,.str ")"),(.inl 42,.str "*")]
 VQ:∃ t,mg "COMES_TO_AN_END" = some (.int (0) t)
 VS:∃ t,mg "CHANGES_THINGS" = some (.int (1) t)
 VF:∃ t,mg "NEED_NOT_GO_ON" = some (.int (2) t)
 VG:∃ t,mg "MUST_GO_ON" = some (.int (3) t)
 HI:∃ t,mg "LEAST" = some (.int (0) t)
 VO:∃ t,mg "GREATEST" = some (.int (1) t)
 VT:∃ t,mg "CHANGE" = some (.int (2) t)
 VN:mg "HOW_MANY_NUMBERS" = some (.ref c.zE)
 JD:∀ H,cE K H c.zE [.int 1,.int 1,.int 2,.int 0,.int 0,.int 0,.int 0,.int 0,.int 0,.int 0,.int 1,.int 3,.int 0,.int 0,.int 0,.int 1,.int 1,.int 2,.int 1,.int 0,.int 0,.int 0]
 VM:mg "HOW_MANY_ROWS" = some (.ref c.zD)
 JC:∀ H,cE K H c.zD [.int 1,.int 2,.int 0,.int 1,.int 1,.int 1,.int 1,.int 1,.int 1,.int 1,.int 1,.int 1,.int 1,.int 1,.int 2,.int 1,.int 0,.int 0,.int 0,.int 0,.int 0,.int 0]
 qc:mg "all" = none
 V7:mg "any" = none
 V6:mg "enumerate" = none
 cB:mg "len" = none
 ou:mg "max" = none
 sd:mg "min" = none
 oq:mg "range" = none
 V5:mg "str" = none
 Ad:mg "tuple" = none
 oo:mg "zip" = none
 TU:FnAt K mg "empty_span" Co
 S5:FnAt K mg "step_span" BQ
 S2:FnAt K mg "stricter_least" BN
 S3:FnAt K mg "stricter_greatest" BO
 Tv:FnAt K mg "limit_before" Cb
 Tw:FnAt K mg "joined_span" Cc
 Td:FnAt K mg "repeated_span" BZ
 TR:FnAt K mg "empty_sum" xc
 Tx:FnAt K mg "joined" w6
 Te:FnAt K mg "repeated" wX
 TY:FnAt K mg "chained" Cp
 S9:FnAt K mg "span_allows" BV
 TZ:FnAt K mg "can_be_done" xg
 Ts:FnAt K mg "moved" wY
 S7:FnAt K mg "span_times" BS
 Tt:FnAt K mg "most_times" Ca
 Uv:FnAt K mg "adds_the_same" xm
 S8:FnAt K mg "span_asks_no_more" BU
 Us:FnAt K mg "asks_no_more" xj
 Uw:FnAt K mg "action_part" CQ
 S6:FnAt K mg "star_part" BR
 Tg:FnAt K mg "repeat_part" B1
 Tf:FnAt K mg "repeat_with_sum" B0
 S0:FnAt K mg "sum_of_row" wV
 TX:FnAt K mg "counts_of" qB
 Tz:FnAt K mg "is_small_letter" Cd
 TL:FnAt K mg "is_digit" Ck
 TQ:FnAt K mg "end_of_name" Cn
 TN:FnAt K mg "end_of_numeral" Cm
 SQ:FnAt K mg "worth" BG
 TJ:FnAt K mg "is_numeral" Cj
 SW:FnAt K mg "token_at" BK
 SV:FnAt K mg "tokens_of" BJ
 Tr:FnAt K mg "one_text" B9
 Tn:FnAt K mg "read_text" B5
 TH:FnAt K mg "is_register" Ci
 S1:FnAt K mg "sum_of_action" wW
 To:FnAt K mg "read_in_state" B6
 SU:FnAt K mg "told_limit" BI
 SS:FnAt K mg "told_span" BH
 Th:FnAt K mg "refusal_without_stars" B2
 T9:FnAt K mg "call_read" Cz
 Ud:FnAt K mg "call_form" CD
 T3:FnAt K mg "call_sum" Cr
 Ui:FnAt K mg "call_counts" CI
 Uj:FnAt K mg "call_compare" qC
 TM:FnAt K mg "is_all_must" xb
 TV:FnAt K mg "course_of" xf
 Uc:FnAt K mg "call_most" CC
 Ug:FnAt K mg "call_ever" CG
 Ta:FnAt K mg "settled" BW
 Tp:FnAt K mg "reach" B7
 Uq:FnAt K mg "behind" CN
 Tq:FnAt K mg "peak_of" B8
 Tc:FnAt K mg "rise_of" BY
 SX:FnAt K mg "times_below" BL
 S4:FnAt K mg "steps_to_climb" BP
 Ur:FnAt K mg "attempt" CO
 Tu:FnAt K mg "may_be_held" wZ
 Ti:FnAt K mg "refusal_to_do" B3
 Uk:FnAt K mg "call_can" CJ
 T6:FnAt K mg "call_run" Cu
 Ua:FnAt K mg "call_reach" CA
 Ul:FnAt K mg "call_at" CK
 Ue:FnAt K mg "call_first" CF
 TK:FnAt K mg "is_name" w9
 TB:FnAt K mg "is_small" Ce
 TF:FnAt K mg "is_row_of_rules" Cg
 SY:FnAt K mg "tell_rule" BM
 T8:FnAt K mg "call_reg" Cy
 Uo:FnAt K mg "call_act" xh
 T5:FnAt K mg "call_set" Ct
 TC:FnAt K mg "is_side" Cf
 Tj:FnAt K mg "refusal_to_answer" B4
 Ub:FnAt K mg "call_propose" CB
 Up:FnAt K mg "call_accept" CM
 Uh:FnAt K mg "call_cut" CH
 T2:FnAt K mg "call_withdraw" Cq
 T7:FnAt K mg "call_registers" Cv
 Um:FnAt K mg "call_actions" CL
 T4:FnAt K mg "call_state" Cs
 Uu:FnAt K mg "answered_by" CP
 Tb:FnAt K mg "rows_from" BX
 Ut:FnAt K mg "answers" xk
 aK:ClsAt K mg "Span" "Span.__init__" c.span ["least","greatest","added","lowest","highest"] CV
 a9:ClsAt K mg "Sum" "Sum.__init__" c.sum ["length","spans"] CT
 aQ:ClsAt K mg "Part" "Part.__init__" c.part ["action","times","row","once","whole"] C6
 cW:ClsAt K mg "Token" "Token.__init__" c.token ["sign","place","letters"] CS
 aL:ClsAt K mg "Reading" "Reading.__init__" c.cG ["known","width","place","row","around","head","stars","deepest"] C4
 PU:MethAt K c.cG "takes" "Reading.takes" C2
 PQ:MethAt K c.cG "takes_name" "Reading.takes_name" C0
 PM:MethAt K c.cG "takes_star" "Reading.takes_star" CY
 PN:MethAt K c.cG "takes_opening" "Reading.takes_opening" CZ
 PR:MethAt K c.cG "takes_closing" "Reading.takes_closing" C1
 PV:MethAt K c.cG "is_unfinished" "Reading.is_unfinished" C3
 cv:ClsAt K mg "Action" "Action.__init__" c.action ["name","must","least","greatest","change"] C9
 gI:ClsAt K mg "Offer" "Offer.__init__" c.offer ["side","run"] C7
 aE:ClsAt K mg "State" "State.__init__" c.state ["names","held","actions","offer"] CU
 ij:ClsAt K mg "Reached" "Reached.__init__" c.tS ["done","held"] C5
 bw:ClsAt K mg "Attempt" "Attempt.__init__" c.attempt ["refusal","run"] C8
 lJ:ClsAt K mg "Rows" "Rows.__init__" c.rows ["rows","end"] CW
theorem aS {N P:List Str}{sc:Scope}(a:sc.kind=.function:=by rfl) (b:sc.isCoroutine=false:=by rfl) (c:sc.isGenerator=false:=by rfl) (d:N.Nodup:=by decide +kernel) (e:N.take P.length=P:=by rfl) (f:∀ x∈P,sc.names.lookup x=some .local\/sc.names.lookup x=some .cell:=by decide +kernel) (g:∀ y∈sc.names,y.2≠.free:=by decide +kernel):aN N P sc:=⟨a,b,c,d,e,f,g⟩
theorem LY:aN ["self","least","greatest","added","lowest","highest"] ["self","least","greatest","added","lowest","highest"] (aC CV):=aS
theorem LW:aN ["self","length","spans"] ["self","length","spans"] (aC CT):=aS
theorem LO:aN [] [] (aC Co):=aS
theorem Lu:aN ["least","greatest","change"] ["least","greatest","change"] (aC BQ):=aS
theorem Lr:aN ["one","other"] ["one","other"] (aC BN):=aS
theorem Ls:aN ["one","other"] ["one","other"] (aC BO):=aS
theorem LG:aN ["limit","added"] ["limit","added"] (aC Cb):=aS
theorem LH:aN ["first","then"] ["first","then"] (aC Cc):=aS
theorem Bu:aN ["once","times","before_last"] ["once","times"] (aC BZ):=aS
theorem wH:aN ["width","k"] ["width"] (aC xc):=aS
theorem wC:aN ["first","then","one","other","spans"] ["first","then"] (aC w6):=aS
theorem wy:aN ["once","times","span"] ["once","times"] (aC wX):=aS
theorem tI:aN ["sums","width","total","one"] ["sums","width"] (aC Cp):=aS
theorem Ly:aN ["span","value"] ["span","value"] (aC BV):=aS
theorem wI:aN ["total","held","span","value"] ["total","held"] (aC xg):=aS
theorem wA:aN ["held","total","times","span","value"] ["held","total","times"] (aC wY):=aS
theorem Lw:aN ["span","value"] ["span","value"] (aC BS):=aS
theorem tF:aN ["once","held","most","span","value"] ["once","held"] (aC Ca):=aS
theorem wU:aN ["one","other","span","beside"] ["one","other"] (aC xm):=aS
theorem Lx:aN ["span","beside"] ["span","beside"] (aC BU):=aS
theorem wR:aN ["one","other","span","beside"] ["one","other"] (aC xj):=aS
theorem L7:aN ["self","action","times","row","once","whole"] ["self","action","times","row","once","whole"] (aC C6):=aS
theorem LU:aN ["action","total"] ["action","total"] (aC CQ):=aS
theorem Lv:aN ["row","width"] ["row","width"] (aC BR):=aS
theorem LB:aN ["times","row","width"] ["times","row","width"] (aC B1):=aS
theorem LA:aN ["times","row","once"] ["times","row","once"] (aC B0):=aS
theorem wu:aN ["row","width","part"] ["row","width"] (aC wV):=aS
theorem kN:aN ["row","width","k","counts","part","todo","entry","times","inner"] ["row","width"] (aC qB):=aS
theorem LV:aN ["self","sign","place","letters"] ["self","sign","place","letters"] (aC CS):=aS
theorem LI:aN ["byte"] ["byte"] (aC Cd):=aS
theorem LN:aN ["byte"] ["byte"] (aC Ck):=aS
theorem wG:aN ["text","start","end"] ["text","start"] (aC Cn):=aS
theorem wF:aN ["text","start","end"] ["text","start"] (aC Cm):=aS
theorem tD:aN ["digits","number","digit"] ["digits"] (aC BG):=aS
theorem LM:aN ["digits"] ["digits"] (aC Cj):=aS
theorem wq:aN ["text","start","byte","digits"] ["text","start"] (aC BK):=aS
theorem oN:aN ["text","found","start","token"] ["text"] (aC BJ):=aS
theorem qz:aN ["tokens","letters","before","token"] ["tokens"] (aC B9):=aS
theorem L5:aN ["self","known","width"] ["self","known","width"] (aC C4):=aS
theorem L3:aN ["self","token"] ["self","token"] (aC C2):=aS
theorem BD:aN ["self","token","part"] ["self","token"] (aC C0):=aS
theorem L0:aN ["self","token"] ["self","token"] (aC CY):=aS
theorem L1:aN ["self","token"] ["self","token"] (aC CZ):=aS
theorem tM:aN ["self","entry","outer","head"] ["self"] (aC C1):=aS
theorem L4:aN ["self"] ["self"] (aC C3):=aS
theorem wz:aN ["text","known","width","reading","token"] ["text","known","width"] (aC B5):=aS
theorem Ma:aN ["self","name","must"] ["self","name","must"] (aC C9):=aS
theorem L8:aN ["self","side","run"] ["self","side","run"] (aC C7):=aS
theorem LX:aN ["self"] ["self"] (aC CU):=aS
theorem LL:aN ["state","number"] ["state","number"] (aC Ci):=aS
theorem wx:aN ["action","width","k","spans"] ["action","width"] (aC wW):=aS
theorem tE:aN ["state","text","width","known","number","action"] ["state","text"] (aC B6):=aS
theorem Lp:aN ["limit"] ["limit"] (aC BI):=aS
theorem Lo:aN ["span"] ["span"] (aC BH):=aS
theorem LC:aN ["reading"] ["reading"] (aC B2):=aS
theorem BB:aN ["state","numbers","rows","reading"] ["state","numbers","rows"] (aC Cz):=aS
theorem LR:aN ["state","numbers","rows"] ["state","numbers","rows"] (aC CD):=aS
theorem oP:aN ["state","numbers","rows","reading","refusal","total","answer","span"] ["state","numbers","rows"] (aC Cr):=aS
theorem wM:aN ["state","numbers","rows","reading","refusal"] ["state","numbers","rows"] (aC CI):=aS
theorem lD:aN ["state","numbers","rows","text","readings","reading","refusals","refusal","due","one","other"] ["state","numbers","rows"] (aC qC):=aS
theorem tG:aN ["state","row","counts","action","count"] ["state","row"] (aC xb):=aS
theorem tH:aN ["state","row","total","span"] ["state","row"] (aC xf):=aS
theorem tK:aN ["state","numbers","rows","reading","refusal","times"] ["state","numbers","rows"] (aC CC):=aS
theorem wL:aN ["state","numbers","rows","reading","refusal"] ["state","numbers","rows"] (aC CG):=aS
theorem L6:aN ["self","done","held"] ["self","done","held"] (aC C5):=aS
theorem lC:aN ["row","held","now","able","parts","part","times","total"] ["row","held"] (aC BW):=aS
theorem iW:aN ["run","held","done","now","row","inner","part","times"] ["run","held"] (aC B7):=aS
theorem iX:aN ["run","steps","held","left","now","row","inner","part","times"] ["run","steps","held"] (aC CN):=aS
theorem LF:aN ["span","is_up"] ["span","is_up"] (aC B8):=aS
theorem Lz:aN ["span","is_up"] ["span","is_up"] (aC BY):=aS
theorem Bt:aN ["once","is_up","height","missing"] ["once","is_up","height"] (aC BL):=aS
theorem iV:aN ["run","number","is_up","height","done","left","row","inner","part","times"] ["run","number","is_up","height"] (aC BP):=aS
theorem L9:aN ["self","refusal","run"] ["self","refusal","run"] (aC C8):=aS
theorem wQ:aN ["state","text","reading","run"] ["state","text"] (aC CO):=aS
theorem wB:aN ["values","value"] ["values"] (aC wZ):=aS
theorem Bv:aN ["state","tried","able"] ["state","tried"] (aC B3):=aS
theorem BC:aN ["state","numbers","rows","tried"] ["state","numbers","rows"] (aC CJ):=aS
theorem wJ:aN ["state","numbers","rows","tried","refusal"] ["state","numbers","rows"] (aC Cu):=aS
theorem wK:aN ["state","numbers","rows","tried","reached"] ["state","numbers","rows"] (aC CA):=aS
theorem wN:aN ["state","numbers","rows","steps","tried"] ["state","numbers","rows"] (aC CK):=aS
theorem oQ:aN ["state","numbers","rows","number","up","tried","gap","steps"] ["state","numbers","rows"] (aC CF):=aS
theorem wD:aN ["letters","byte"] ["letters"] (aC w9):=aS
theorem LJ:aN ["number"] ["number"] (aC Ce):=aS
theorem Bx:aN ["state","row","k"] ["state","row"] (aC Cg):=aS
theorem Lq:aN ["action","number","kind","value"] ["action","number","kind","value"] (aC BM):=aS
theorem BA:aN ["state","numbers","rows","name"] ["state","numbers","rows"] (aC Cy):=aS
theorem nk:aN ["state","numbers","rows","name","row","action","made","k"] ["state","numbers","rows"] (aC xh):=aS
theorem Bz:aN ["state","numbers","rows","number"] ["state","numbers","rows"] (aC Ct):=aS
theorem LK:aN ["number"] ["number"] (aC Cf):=aS
theorem LD:aN ["state","side"] ["state","side"] (aC B4):=aS
theorem tJ:aN ["state","numbers","rows","side","tried","refusal"] ["state","numbers","rows"] (aC CB):=aS
theorem wO:aN ["state","numbers","rows","refusal","whole"] ["state","numbers","rows"] (aC CM):=aS
theorem qA:aN ["state","numbers","rows","refusal","steps","run","then"] ["state","numbers","rows"] (aC CH):=aS
theorem By:aN ["state","numbers","rows","side"] ["state","numbers","rows"] (aC Cq):=aS
theorem LQ:aN ["state","numbers","rows"] ["state","numbers","rows"] (aC Cv):=aS
theorem tL:aN ["state","numbers","rows","answer","action","k"] ["state","numbers","rows"] (aC CL):=aS
theorem LP:aN ["state","numbers","rows"] ["state","numbers","rows"] (aC Cs):=aS
theorem LS:aN [] [] (aC CP):=aS
theorem LZ:aN ["self","rows","end"] ["self","rows","end"] (aC CW):=aS
theorem oO:aN ["calls","start","how_many","rows","end","k","begin"] ["calls","start","how_many"] (aC BX):=aS
theorem ke:aN ["calls","callees","state","told","at","number","callee","start_of_rows","found","answer"] ["calls"] (aC xk):=aS
section
variable {P:Program}{w:World}{K:PySem.W.Frag}{mg:Str->Option Value}{base:Heap}
theorem Pz {x:Str}{st:Stmt}{N ps:List Str}{k:Nat}{sp:Sp}(F:FnAt K mg x st) (S:aN N ps (aC st))
  (len:∀ vs H Q E,sp vs H Q E->vs.length=ps.length)
  (il:∀(f:Addr) (aw:Value) (A:Around) (aA:List Env) (s:Shared) (H:Hp) (vs:List V) (Q:VK) (E:XK),cA k (A.deeper (envOfC x (aC st) s.heap.objs.size f aw))->sp vs H Q E->
   ∃ t,fV (jY iz P w K mg base N x (aC st) f aw A aA s H E).kS (fE st) t/\t { nx:=fun _ H'=>Q .aD H',rt:=Q } (start N vs) H)
   (hb:∀(kV doc pm:Value) (an:Option Addr) (aw ct:Value) (us:List Value),us.length=ps.length->bindArgs (PySem.W.fnOf x x (jq st) (fE st) (aC st) .none kV doc pm an aw ct) ⟨us,[]⟩=pure (ps.zip us):=by first |(exact fun _ _ _ _ _ _ us hl=>(match us,hl with |[],_=>rfl)) |(exact fun _ _ _ _ _ _ us hl=>(match us,hl with |[_],_=>rfl)) |(exact fun _ _ _ _ _ _ us hl=>(match us,hl with |[_,_],_=>rfl)) |(exact fun _ _ _ _ _ _ us hl=>(match us,hl with |[_,_,_],_=>rfl)) |(exact fun _ _ _ _ _ _ us hl=>(match us,hl with |[_,_,_,_],_=>rfl)) |(exact fun _ _ _ _ _ _ us hl=>(match us,hl with |[_,_,_,_,_],_=>rfl)) |(exact fun _ _ _ _ _ _ us hl=>(match us,hl with |[_,_,_,_,_,_],_=>rfl)) |(exact fun _ _ _ _ _ _ us hl=>(match us,hl with |[_,_,_,_,_,_,_],_=>rfl)) |(exact fun _ _ _ _ _ _ us hl=>(match us,hl with |[_,_,_,_,_,_,_,_],_=>rfl)) |(exact fun _ _ _ _ _ _ us hl=>(match us,hl with |[_,_,_,_,_,_,_,_,_],_=>rfl))):aW P w K mg base (k+1) x ps sp:=by
 obtain⟨f,fd,F,hm⟩:=F.ex
 exact⟨f,fd,F.ok S len (fun aw A aA s H vs Q E hr h=>il f aw A aA s H vs Q E hr h),hm,F.kp,F.binds hb⟩
theorem a0 {x:Str}{st:Stmt}{N ps:List Str}{k:Nat}{sp:Sp}(F:FnAt K mg x st) (S:aN N ps (aC st))
  (il:∀(f:Addr) (aw:Value) (A:Around) (aA:List Env) (s:Shared) (H:Hp) (vs:List V) (Q:VK) (E:XK),cA k (A.deeper (envOfC x (aC st) s.heap.objs.size f aw))->sp vs H Q E->
   ∃ t,fV (jY iz P w K mg base N x (aC st) f aw A aA s H E).kS (fE st) t/\t { nx:=fun _ H'=>Q .aD H',rt:=Q } (start N vs) H)
   (len:∀ vs H Q E,sp vs H Q E->vs.length=ps.length:=by intro vs H Q E h;repeat first |(obtain⟨rfl,_⟩:=h;rfl) |(obtain⟨_,h⟩:=h))
   (hb:∀(kV doc pm:Value) (an:Option Addr) (aw ct:Value) (us:List Value),us.length=ps.length->bindArgs (PySem.W.fnOf x x (jq st) (fE st) (aC st) .none kV doc pm an aw ct) ⟨us,[]⟩=pure (ps.zip us):=by first |(exact fun _ _ _ _ _ _ us hl=>(match us,hl with |[],_=>rfl)) |(exact fun _ _ _ _ _ _ us hl=>(match us,hl with |[_],_=>rfl)) |(exact fun _ _ _ _ _ _ us hl=>(match us,hl with |[_,_],_=>rfl)) |(exact fun _ _ _ _ _ _ us hl=>(match us,hl with |[_,_,_],_=>rfl)) |(exact fun _ _ _ _ _ _ us hl=>(match us,hl with |[_,_,_,_],_=>rfl)) |(exact fun _ _ _ _ _ _ us hl=>(match us,hl with |[_,_,_,_,_],_=>rfl)) |(exact fun _ _ _ _ _ _ us hl=>(match us,hl with |[_,_,_,_,_,_],_=>rfl)) |(exact fun _ _ _ _ _ _ us hl=>(match us,hl with |[_,_,_,_,_,_,_],_=>rfl)) |(exact fun _ _ _ _ _ _ us hl=>(match us,hl with |[_,_,_,_,_,_,_,_],_=>rfl)) |(exact fun _ _ _ _ _ _ us hl=>(match us,hl with |[_,_,_,_,_,_,_,_,_],_=>rfl))):aW P w K mg base (k+1) x ps sp:=Pz F S len il hb
theorem lH {x qual:Str}{C:Addr}{fields:List Str}{st:Stmt}{N ps:List Str}{k:Nat}{sp:Sp}(F:ClsAt K mg x qual C fields st) (S:aN N ps (aC st))
  (len:∀ vs H Q E,sp vs H Q E->vs.length=ps.length)
  (il:∀(f:Addr) (aw:Value) (A:Around) (aA:List Env) (s:Shared) (H:Hp) (vs:List V) (Q:VK) (E:XK),cA k (A.deeper (envOfC qual (aC st) s.heap.objs.size f aw))->sp vs H Q E->
   ∃ t,fV (jY iz P w K mg base N qual (aC st) f aw A aA s H E).kS (fE st) t/\t { nx:=fun _ H'=>Q .aD H',rt:=Q } (start N vs) H)
   (hb:∀(kV doc pm:Value) (an:Option Addr) (aw ct:Value) (us:List Value),us.length=ps.length->bindArgs (PySem.W.fnOf "__init__" qual (jq st) (fE st) (aC st) .none kV doc pm an aw ct) ⟨us,[]⟩=pure (ps.zip us):=by first |(exact fun _ _ _ _ _ _ us hl=>(match us,hl with |[],_=>rfl)) |(exact fun _ _ _ _ _ _ us hl=>(match us,hl with |[_],_=>rfl)) |(exact fun _ _ _ _ _ _ us hl=>(match us,hl with |[_,_],_=>rfl)) |(exact fun _ _ _ _ _ _ us hl=>(match us,hl with |[_,_,_],_=>rfl)) |(exact fun _ _ _ _ _ _ us hl=>(match us,hl with |[_,_,_,_],_=>rfl)) |(exact fun _ _ _ _ _ _ us hl=>(match us,hl with |[_,_,_,_,_],_=>rfl)) |(exact fun _ _ _ _ _ _ us hl=>(match us,hl with |[_,_,_,_,_,_],_=>rfl)) |(exact fun _ _ _ _ _ _ us hl=>(match us,hl with |[_,_,_,_,_,_,_],_=>rfl)) |(exact fun _ _ _ _ _ _ us hl=>(match us,hl with |[_,_,_,_,_,_,_,_],_=>rfl)) |(exact fun _ _ _ _ _ _ us hl=>(match us,hl with |[_,_,_,_,_,_,_,_,_],_=>rfl))):iw P w K mg base (k+1) x C ps sp:=by
 obtain⟨f,fd,G,M⟩:=F.ex
 exact⟨f,fd,G.ok S len (fun aw A aA s H vs Q E hr h=>il f aw A aA s H vs Q E hr h),F.at_,M,G.binds hb⟩
theorem yr {x qual:Str}{C:Addr}{fields:List Str}{st:Stmt}{N ps:List Str}{k:Nat}{sp:Sp}(F:ClsAt K mg x qual C fields st) (S:aN N ps (aC st))
  (il:∀(f:Addr) (aw:Value) (A:Around) (aA:List Env) (s:Shared) (H:Hp) (vs:List V) (Q:VK) (E:XK),cA k (A.deeper (envOfC qual (aC st) s.heap.objs.size f aw))->sp vs H Q E->
   ∃ t,fV (jY iz P w K mg base N qual (aC st) f aw A aA s H E).kS (fE st) t/\t { nx:=fun _ H'=>Q .aD H',rt:=Q } (start N vs) H)
   (len:∀ vs H Q E,sp vs H Q E->vs.length=ps.length:=by intro vs H Q E h;repeat first |(obtain⟨rfl,_⟩:=h;rfl) |(obtain⟨_,h⟩:=h))
   (hb:∀(kV doc pm:Value) (an:Option Addr) (aw ct:Value) (us:List Value),us.length=ps.length->bindArgs (PySem.W.fnOf "__init__" qual (jq st) (fE st) (aC st) .none kV doc pm an aw ct) ⟨us,[]⟩=pure (ps.zip us):=by first |(exact fun _ _ _ _ _ _ us hl=>(match us,hl with |[],_=>rfl)) |(exact fun _ _ _ _ _ _ us hl=>(match us,hl with |[_],_=>rfl)) |(exact fun _ _ _ _ _ _ us hl=>(match us,hl with |[_,_],_=>rfl)) |(exact fun _ _ _ _ _ _ us hl=>(match us,hl with |[_,_,_],_=>rfl)) |(exact fun _ _ _ _ _ _ us hl=>(match us,hl with |[_,_,_,_],_=>rfl)) |(exact fun _ _ _ _ _ _ us hl=>(match us,hl with |[_,_,_,_,_],_=>rfl)) |(exact fun _ _ _ _ _ _ us hl=>(match us,hl with |[_,_,_,_,_,_],_=>rfl)) |(exact fun _ _ _ _ _ _ us hl=>(match us,hl with |[_,_,_,_,_,_,_],_=>rfl)) |(exact fun _ _ _ _ _ _ us hl=>(match us,hl with |[_,_,_,_,_,_,_,_],_=>rfl)) |(exact fun _ _ _ _ _ _ us hl=>(match us,hl with |[_,_,_,_,_,_,_,_,_],_=>rfl))):iw P w K mg base (k+1) x C ps sp:=lH F S len il hb
theorem Py {qual m:Str}{C:Addr}{st:Stmt}{N ps:List Str}{k:Nat}{sp:Sp}(cl:iS K C) (F:MethAt K C m qual st) (S:aN N ps (aC st))
  (len:∀ vs H Q E,sp vs H Q E->vs.length=ps.length)
  (il:∀(f:Addr) (aw:Value) (A:Around) (aA:List Env) (s:Shared) (H:Hp) (vs:List V) (Q:VK) (E:XK),cA k (A.deeper (envOfC qual (aC st) s.heap.objs.size f aw))->sp vs H Q E->
   ∃ t,fV (jY iz P w K mg base N qual (aC st) f aw A aA s H E).kS (fE st) t/\t { nx:=fun _ H'=>Q .aD H',rt:=Q } (start N vs) H)
   (hb:∀(kV doc pm:Value) (an:Option Addr) (aw ct:Value) (us:List Value),us.length=ps.length->bindArgs (PySem.W.fnOf m qual (jq st) (fE st) (aC st) .none kV doc pm an aw ct) ⟨us,[]⟩=pure (ps.zip us):=by first |(exact fun _ _ _ _ _ _ us hl=>(match us,hl with |[],_=>rfl)) |(exact fun _ _ _ _ _ _ us hl=>(match us,hl with |[_],_=>rfl)) |(exact fun _ _ _ _ _ _ us hl=>(match us,hl with |[_,_],_=>rfl)) |(exact fun _ _ _ _ _ _ us hl=>(match us,hl with |[_,_,_],_=>rfl)) |(exact fun _ _ _ _ _ _ us hl=>(match us,hl with |[_,_,_,_],_=>rfl)) |(exact fun _ _ _ _ _ _ us hl=>(match us,hl with |[_,_,_,_,_],_=>rfl)) |(exact fun _ _ _ _ _ _ us hl=>(match us,hl with |[_,_,_,_,_,_],_=>rfl)) |(exact fun _ _ _ _ _ _ us hl=>(match us,hl with |[_,_,_,_,_,_,_],_=>rfl)) |(exact fun _ _ _ _ _ _ us hl=>(match us,hl with |[_,_,_,_,_,_,_,_],_=>rfl)) |(exact fun _ _ _ _ _ _ us hl=>(match us,hl with |[_,_,_,_,_,_,_,_,_],_=>rfl))):lx P w K mg base (k+1) C m ps sp:=by
 obtain⟨f,fd,G,M⟩:=F.ex
 exact⟨cl,f,fd,G.ok S len (fun aw A aA s H vs Q E hr h=>il f aw A aA s H vs Q E hr h),M,G.binds hb⟩
theorem ph {qual m:Str}{C:Addr}{st:Stmt}{N ps:List Str}{k:Nat}{sp:Sp}(cl:iS K C) (F:MethAt K C m qual st) (S:aN N ps (aC st))
  (il:∀(f:Addr) (aw:Value) (A:Around) (aA:List Env) (s:Shared) (H:Hp) (vs:List V) (Q:VK) (E:XK),cA k (A.deeper (envOfC qual (aC st) s.heap.objs.size f aw))->sp vs H Q E->
   ∃ t,fV (jY iz P w K mg base N qual (aC st) f aw A aA s H E).kS (fE st) t/\t { nx:=fun _ H'=>Q .aD H',rt:=Q } (start N vs) H)
   (len:∀ vs H Q E,sp vs H Q E->vs.length=ps.length:=by intro vs H Q E h;repeat first |(obtain⟨rfl,_⟩:=h;rfl) |(obtain⟨_,h⟩:=h))
   (hb:∀(kV doc pm:Value) (an:Option Addr) (aw ct:Value) (us:List Value),us.length=ps.length->bindArgs (PySem.W.fnOf m qual (jq st) (fE st) (aC st) .none kV doc pm an aw ct) ⟨us,[]⟩=pure (ps.zip us):=by first |(exact fun _ _ _ _ _ _ us hl=>(match us,hl with |[],_=>rfl)) |(exact fun _ _ _ _ _ _ us hl=>(match us,hl with |[_],_=>rfl)) |(exact fun _ _ _ _ _ _ us hl=>(match us,hl with |[_,_],_=>rfl)) |(exact fun _ _ _ _ _ _ us hl=>(match us,hl with |[_,_,_],_=>rfl)) |(exact fun _ _ _ _ _ _ us hl=>(match us,hl with |[_,_,_,_],_=>rfl)) |(exact fun _ _ _ _ _ _ us hl=>(match us,hl with |[_,_,_,_,_],_=>rfl)) |(exact fun _ _ _ _ _ _ us hl=>(match us,hl with |[_,_,_,_,_,_],_=>rfl)) |(exact fun _ _ _ _ _ _ us hl=>(match us,hl with |[_,_,_,_,_,_,_],_=>rfl)) |(exact fun _ _ _ _ _ _ us hl=>(match us,hl with |[_,_,_,_,_,_,_,_],_=>rfl)) |(exact fun _ _ _ _ _ _ us hl=>(match us,hl with |[_,_,_,_,_,_,_,_,_],_=>rfl))):lx P w K mg base (k+1) C m ps sp:=Py cl F S len il hb
end
structure Gr (G H G' H':Hp):Prop where
 gg:aJ G G'
 sub:aJ G' H'
 same:aJ H H'
 old:∀ a,H a≠none->G' a=G a
theorem Gr.refl {G H:Hp}(s:aJ G H):Gr G H G H:=⟨aJ.refl _,s,aJ.refl _,fun _ _=>rfl⟩
theorem Gr.trans {G H G1 H1 G2 H2:Hp}(a:Gr G H G1 H1) (b:Gr G1 H1 G2 H2):Gr G H G2 H2 where
 gg:=a.gg.trans b.gg
 sub:=b.sub
 same:=a.same.trans b.same
 old:=fun x h=>by
  cases e:H x with
  | none=>exact absurd e h
  | some o=>rw [b.old x (by rw [a.same x o e];simp),a.old x h]
theorem Gr.new {G H G' H':Hp}(g:Gr G H G' H'){p:Addr}{o:HO}(n:H' p=none):Gr G H (upd G' p o) (upd H' p o):=by
 have hn:H p=none:=g.same.free n
 refine⟨fun a u h=>?_,fun a u h=>?_,fun a u h=>?_,fun a h=>?_⟩
 ·have:=g.gg a u h
  rw [aj (aP (g.sub a u this) n)];exact this
 ·by_cases e:a=p
  ·subst e;rw [af] at h ⊢;exact h
  ·rw [aj e] at h ⊢;exact g.sub a u h
 ·have:=g.same a u h
  rw [aj (aP this n)];exact this
 ·have e:a≠p:=fun e=>h (by rw [e];exact hn)
  rw [aj e];exact g.old a h
theorem Gr.loose {G H G' H':Hp}(g:Gr G H G' H'){p:Addr}{o:HO}(n:H' p=none):Gr G H G' (upd H' p o):=by
 refine⟨g.gg,fun a u h=>?_,fun a u h=>?_,g.old⟩
 ·rw [aj (aP (g.sub a u h) n)];exact g.sub a u h
 ·have:=g.same a u h
  rw [aj (aP this n)];exact this
theorem Gr.set {G H G' H':Hp}(g:Gr G H G' H'){p:Addr}{o:HO}(n:H p=none) (n':G' p=none):Gr G H G' (upd H' p o):=by
 refine⟨g.gg,fun a u h=>?_,fun a u h=>?_,g.old⟩
 ·rw [aj (aP h n')];exact g.sub a u h
 ·rw [aj (aP h n)];exact g.same a u h
theorem Gr.fix {G H G' H':Hp}(g:Gr G H G' H'){p:Addr}{o:HO}(n:H p=none) (h:H' p=some o):Gr G H (upd G' p o) H':=by
 refine⟨fun a u e=>?_,fun a u e=>?_,g.same,fun a e=>?_⟩
 ·by_cases q:a=p
  ·subst q
   have h1:=g.sub a u (g.gg a u e)
   rw [h] at h1
   rw [af];exact h1
  ·rw [aj q];exact g.gg a u e
 ·by_cases q:a=p
  ·subst q;rw [af] at e;rw [h];exact e
  ·rw [aj q] at e;exact g.sub a u e
 ·have q:a≠p:=fun q=>e (by rw [q];exact n)
  rw [aj q];exact g.old a e
def cJ:Option Int->V
 | none=>.aD
 | some i=>.int i
def J5 (s:ax):List (Str×V):=[("least",cJ s.lo),("greatest",cJ s.hi),("added",.int s.add),("lowest",.int s.low),("highest",.int s.high)]
def fw (c:Cl) (G:Hp) (a:Addr) (s:ax):Prop:=∃ dx,G a=some (.ins c.span dx (J5 s))
theorem fw.mono {c:Cl}{G G':Hp}{a:Addr}{s:ax}(h:fw c G a s) (g:aJ G G'):fw c G' a s:=let ⟨dx,e⟩:=h;⟨dx,g _ _ e⟩
def sumF (n:Int) (l:Addr):List (Str×V):=[("length",.int n),("spans",.ref l)]
structure lq (c:Cl) (W:Nat) (G:Hp) (l:Addr) (f:Nat->ax):Prop where
 ex:∃ as:List Addr,G l=some (.lst (as.map V.ref))/\as.length=W/\∀(k:Nat) (a:Addr),as[k]? = some a->fw c G a (f k)
theorem lq.mono {c:Cl}{W:Nat}{G G':Hp}{l:Addr}{f:Nat->ax}(h:lq c W G l f) (g:aJ G G'):lq c W G' l f:=
 let ⟨as,e,n,r⟩:=h.ex;⟨as,g _ _ e,n,fun k a q=>(r k a q).mono g⟩
def cM (c:Cl) (W:Nat) (G:Hp) (a:Addr) (s:Vbdcan.Sum):Prop:=∃ dx l,G a=some (.ins c.sum dx (sumF s.len l))/\lq c W G l (My.sp s)
theorem cM.mono {c:Cl}{W:Nat}{G G':Hp}{a:Addr}{s:Vbdcan.Sum}(h:cM c W G a s) (g:aJ G G'):cM c W G' a s:=
 let ⟨dx,l,e,r⟩:=h;⟨dx,l,g _ _ e,r.mono g⟩
variable {P:Program}{w:World}{K:PySem.W.Frag}{mg:Str->Option Value}{base:Heap}{c:Cl}
theorem r8:bootBuiltins "min" = some (.builtin "min"):=by decide +kernel
theorem oj:bootBuiltins "max" = some (.builtin "max"):=by decide +kernel
theorem qb:bootBuiltins "all" = some (.builtin "all"):=by decide +kernel
theorem VW:bootBuiltins "str" = some (.type "str"):=by decide +kernel
theorem z9:bootBuiltins "tuple" = some (.type "tuple"):=by decide +kernel
def ml (C:Addr) (n:Nat) (F:List V->List (Str×V)):Sp:=fun vs H Q _=>∃(p dx:Addr) (args:List V),vs=.ref p::args/\args.length=n/\H p=some (.ins C dx [])/\Q .aD (upd H p (.ins C dx (F args)))
section
def J4:List V->List (Str×V)
 |[x1,x2,x3,x4,x5]=>[("least",x1),("greatest",x2),("added",x3),("lowest",x4),("highest",x5)]
 |_=>[]
theorem uu (T:Txt K mg c):iw P w K mg base 1 "Span" c.span ["self","least","greatest","added","lowest","highest"] (ml c.span 5 J4):=by
 refine lH T.aK LY (fun vs H Q E h=>?_) (fun f aw A aA s H vs Q E hr h=>?_)
 ·obtain⟨p,dx,args,rfl,hl,_⟩:=h
  show args.length+1=6
  omega
 ·obtain⟨p,dx,args,rfl,hl,hp,k⟩:=h
  match args,hl,k with
  |[x1,x2,x3,x4,x5],_,k=>
  refine⟨_,(ag (bL (pv 0) (pv 1) rfl)
    (ag (bL (pv 0) (pv 2) rfl)
    (ag (bL (pv 0) (pv 3) rfl)
    (ag (bL (pv 0) (pv 4) rfl)
    (ak (bL (pv 0) (pv 5) rfl)))))),?_⟩
  refine⟨_,rfl,_,rfl,p,_,dx,_,rfl,hp,T.aK.cl,T.aK.n,(by show 0<1000;decide),?_⟩
  refine⟨_,rfl,_,rfl,p,_,dx,_,rfl,af,T.aK.cl,T.aK.n,(by show 1<1000;decide),?_⟩
  refine⟨_,rfl,_,rfl,p,_,dx,_,rfl,af,T.aK.cl,T.aK.n,(by show 2<1000;decide),?_⟩
  refine⟨_,rfl,_,rfl,p,_,dx,_,rfl,af,T.aK.cl,T.aK.n,(by show 3<1000;decide),?_⟩
  refine⟨_,rfl,_,rfl,p,_,dx,_,rfl,af,T.aK.cl,T.aK.n,(by show 4<1000;decide),?_⟩
  rw [bM,bM,bM,bM]
  exact k
def JW:List V->List (Str×V)
 |[x1,x2]=>[("length",x1),("spans",x2)]
 |_=>[]
theorem ur (T:Txt K mg c):iw P w K mg base 1 "Sum" c.sum ["self","length","spans"] (ml c.sum 2 JW):=by
 refine lH T.a9 LW (fun vs H Q E h=>?_) (fun f aw A aA s H vs Q E hr h=>?_)
 ·obtain⟨p,dx,args,rfl,hl,_⟩:=h
  show args.length+1=3
  omega
 ·obtain⟨p,dx,args,rfl,hl,hp,k⟩:=h
  match args,hl,k with
  |[x1,x2],_,k=>
  refine⟨_,(ag (bL (pv 0) (pv 1) rfl)
    (ak (bL (pv 0) (pv 2) rfl))),?_⟩
  refine⟨_,rfl,_,rfl,p,_,dx,_,rfl,hp,T.a9.cl,T.a9.n,(by show 0<1000;decide),?_⟩
  refine⟨_,rfl,_,rfl,p,_,dx,_,rfl,af,T.a9.cl,T.a9.n,(by show 1<1000;decide),?_⟩
  rw [bM]
  exact k
theorem Gr.made {G H G' H':Hp}(g:Gr G H G' H'){x dx C:Addr}{fs:List (Str×V)}(n1:H' x=none) (n2:H' dx=none) (n3:dx≠x) :
  Gr G H (upd (upd G' dx (.own x)) x (.ins C dx fs)) (upd (upd H' dx (.own x)) x (.ins C dx fs)):=(g.new n2).new (by rw [aj (fun e=>n3 e.symm)];exact n1)
def Bi (f:Option Int->Option Int->Option Int):Sp:=fun vs H Q _=>∃ a b:Option Int,vs=[cJ a,cJ b]/\Q (cJ (f a b)) H
theorem xP (T:Txt K mg c):aW P w K mg base 1 "stricter_least" ["one","other"] (Bi maxO):=by
 refine a0 T.S2 Lr (fun f aw A aA s H vs Q E hr h=>?_)
 ·obtain⟨a,b,rfl,k⟩:=h
  refine⟨_,(ag (aX (aT gR (pv 0) cj (aO _)) (ak (ay (pv 1))) aY)
    (ag (aX (aT gR (pv 1) cj (aO _)) (ak (ay (pv 0))) aY)
    (ak (ay (bJ (p7 rfl) (by rfl) T.ou oj (aa (pv 0) (aa (pv 1) ae))))))),?_⟩
  cases a with
  | none=>exact⟨_,rfl,rfl,_,rfl,aH ⟨_,rfl,k⟩⟩
  | some a=>
   refine⟨_,rfl,rfl,_,rfl,aI ?_⟩
   cases b with
   | none=>exact⟨_,rfl,rfl,_,rfl,aH ⟨_,rfl,k⟩⟩
   | some b=>
    refine⟨_,rfl,rfl,_,rfl,aI ?_⟩
    refine⟨_,rfl,_,rfl,a,b,rfl,?_⟩
    have e:(if b > a then b else a)=max a b:=by split<;>omega
    rw [e]
    exact k
theorem t7 (T:Txt K mg c):aW P w K mg base 1 "stricter_greatest" ["one","other"] (Bi minO):=by
 refine a0 T.S3 Ls (fun f aw A aA s H vs Q E hr h=>?_)
 ·obtain⟨a,b,rfl,k⟩:=h
  refine⟨_,(ag (aX (aT gR (pv 0) cj (aO _)) (ak (ay (pv 1))) aY)
    (ag (aX (aT gR (pv 1) cj (aO _)) (ak (ay (pv 0))) aY)
    (ak (ay (bJ (rY rfl) (by rfl) T.sd r8 (aa (pv 0) (aa (pv 1) ae))))))),?_⟩
  cases a with
  | none=>exact⟨_,rfl,rfl,_,rfl,aH ⟨_,rfl,k⟩⟩
  | some a=>
   refine⟨_,rfl,rfl,_,rfl,aI ?_⟩
   cases b with
   | none=>exact⟨_,rfl,rfl,_,rfl,aH ⟨_,rfl,k⟩⟩
   | some b=>
    refine⟨_,rfl,rfl,_,rfl,aI ?_⟩
    refine⟨_,rfl,_,rfl,a,b,rfl,?_⟩
    have e:(if b<a then b else a)=min a b:=by split<;>omega
    rw [e]
    exact k
def KC:Sp:=fun vs H Q _=>∃(a:Option Int) (d:Int),vs=[cJ a,.int d]/\Q (cJ (a.map fun l=>l-d)) H
theorem t9 (T:Txt K mg c):aW P w K mg base 1 "limit_before" ["limit","added"] KC:=by
 refine a0 T.Tv LG (fun f aw A aA s H vs Q E hr h=>?_)
 ·obtain⟨a,d,rfl,k⟩:=h
  refine⟨_,(ag (aX (aT gR (pv 0) cj (aO _)) (ak (ay cj)) aY)
    (ak (ay (bA lG (pv 0) (pv 1))))),?_⟩
  cases a with
  | none=>exact⟨_,rfl,rfl,_,rfl,aH k⟩
  | some a=>exact⟨_,rfl,rfl,_,rfl,aI ⟨_,rfl,_,rfl,_,_,rfl,rfl,k⟩⟩
def KY (c:Cl):Sp:=fun vs H Q _=>∃ G,vs=[]/\aJ G H/\∀ p G' H',Gr G H G' H'->fw c G' p ax.zero->Q (.ref p) H'
theorem NU (T:Txt K mg c):aW P w K mg base 3 "empty_span" [] (KY c):=by
 refine a0 T.TU LO (fun f aw A aA s H vs Q E hr h=>?_)
 ·obtain⟨G,rfl,g,k⟩:=h
  refine⟨_,(ak (ay (eL (uu T) (hr.mono (by decide)) rfl (aa cj (aa cj (aa aq (aa aq (aa aq ae)))))))),?_⟩
  refine fun x dx n1 n2 n3=>⟨x,dx,_,rfl,rfl,af,rfl,?_⟩
  rw [bM]
  exact k _ _ _ ((Gr.refl g).made n1 n2 n3) ⟨dx,af⟩
def Kh (c:Cl):Sp:=fun vs H Q _=>∃(a b:Option Int) (d:Int) (G:Hp),vs=[cJ a,cJ b,.int d]/\aJ G H/\∀ p G' H',Gr G H G' H'->fw c G' p (ax.act (a,b) d)->Q (.ref p) H'
theorem NB (T:Txt K mg c):aW P w K mg base 3 "step_span" ["least","greatest","change"] (Kh c):=by
 refine a0 T.S5 Lu (fun f aw A aA s H vs Q E hr h=>?_)
 ·obtain⟨a,b,d,G,rfl,g,k⟩:=h
  refine⟨_,(ak (ay (eL (uu T) (hr.mono (by decide)) rfl (aa (pv 0) (aa (pv 1) (aa (pv 2) (aa (bJ (rY rfl) (by rfl) T.sd r8 (aa aq (aa (pv 2) ae))) (aa (bJ (p7 rfl) (by rfl) T.ou oj (aa aq (aa (pv 2) ae))) ae)))))))),?_⟩
  refine⟨_,rfl,_,rfl,_,rfl,_,rfl,0,d,rfl,_,rfl,0,d,rfl,?_⟩
  refine fun x dx n1 n2 n3=>⟨x,dx,_,rfl,rfl,af,rfl,?_⟩
  rw [bM]
  refine k _ _ _ ((Gr.refl g).made n1 n2 n3) ⟨dx,?_⟩
  rw [af]
  have e1:(if d<0 then d else 0)=min 0 d:=by split<;>omega
  have e2:(if d > 0 then d else 0)=max 0 d:=by split<;>omega
  rw [e1,e2]
  rfl
def KD (c:Cl):Sp:=fun vs H Q _=>∃(a b:Addr) (s t:ax) (G:Hp),vs=[.ref a,.ref b]/\aJ G H/\fw c G a s/\fw c G b t/\∀ p G' H',Gr G H G' H'->fw c G' p (s.seq t)->Q (.ref p) H'
theorem NN (T:Txt K mg c):aW P w K mg base 3 "joined_span" ["first","then"] (KD c):=by
 refine a0 T.Tw LH (fun f aw A aA s H vs Q E hr h=>?_)
 ·obtain⟨a,b,s,t,G,rfl,g,⟨da,ha⟩,⟨db,hb⟩,k⟩:=h
  have ha:=g _ _ ha
  have hb:=g _ _ hb
  refine⟨_,(ak (ay (eL (uu T) (hr.mono (by decide)) rfl (aa (pC (xP T) hr (aa (pF K 0) (aa (pC (t9 T) hr (aa (pF K 1) (aa (pF K 0) ae))) ae))) (aa (pC (t7 T) hr (aa (pF K 0) (aa (pC (t9 T) hr (aa (pF K 1) (aa (pF K 0) ae))) ae))) (aa (bA dM (pF K 0) (pF K 1)) (aa (bJ (rY rfl) (by rfl) T.sd r8 (aa (pF K 0) (aa (bA dM (pF K 0) (pF K 1)) ae))) (aa (bJ (p7 rfl) (by rfl) T.ou oj (aa (pF K 0) (aa (bA dM (pF K 0) (pF K 1)) ae))) ae)))))))),?_⟩
  refine⟨_,rfl,a,_,da,_,_,rfl,ha,T.aK.cl,T.aK.n,rfl,?_⟩
  refine⟨_,rfl,b,_,db,_,_,rfl,hb,T.aK.cl,T.aK.n,rfl,_,rfl,a,_,da,_,_,rfl,ha,T.aK.cl,T.aK.n,rfl,t.lo,s.add,rfl,?_⟩
  refine⟨s.lo,_,rfl,?_⟩
  refine⟨_,rfl,a,_,da,_,_,rfl,ha,T.aK.cl,T.aK.n,rfl,?_⟩
  refine⟨_,rfl,b,_,db,_,_,rfl,hb,T.aK.cl,T.aK.n,rfl,_,rfl,a,_,da,_,_,rfl,ha,T.aK.cl,T.aK.n,rfl,t.hi,s.add,rfl,?_⟩
  refine⟨s.hi,_,rfl,?_⟩
  refine⟨_,rfl,a,_,da,_,_,rfl,ha,T.aK.cl,T.aK.n,rfl,_,rfl,b,_,db,_,_,rfl,hb,T.aK.cl,T.aK.n,rfl,_,_,rfl,rfl,?_⟩
  refine⟨_,rfl,a,_,da,_,_,rfl,ha,T.aK.cl,T.aK.n,rfl,?_⟩
  refine⟨_,rfl,a,_,da,_,_,rfl,ha,T.aK.cl,T.aK.n,rfl,_,rfl,b,_,db,_,_,rfl,hb,T.aK.cl,T.aK.n,rfl,_,_,rfl,rfl,s.low,s.add+t.low,rfl,?_⟩
  refine⟨_,rfl,a,_,da,_,_,rfl,ha,T.aK.cl,T.aK.n,rfl,?_⟩
  refine⟨_,rfl,a,_,da,_,_,rfl,ha,T.aK.cl,T.aK.n,rfl,_,rfl,b,_,db,_,_,rfl,hb,T.aK.cl,T.aK.n,rfl,_,_,rfl,rfl,s.high,s.add+t.high,rfl,?_⟩
  refine fun x dx n1 n2 n3=>⟨x,dx,_,rfl,rfl,af,rfl,?_⟩
  rw [bM]
  refine k _ _ _ ((Gr.refl g).made n1 n2 n3) ⟨dx,?_⟩
  rw [af]
  have e1:(if s.add+t.low<s.low then s.add+t.low else s.low)=min s.low (s.add+t.low):=by split<;>omega
  have e2:(if s.add+t.high > s.high then s.add+t.high else s.high)=max s.high (s.add+t.high):=by split<;>omega
  rw [e1,e2]
  rfl
end
theorem pG {K:PySem.W.Frag}{a b:Addr}{xs ys:List V}{g:TG}{tt:TT}{te:TE}{vs:List Nat}{σ:L2.St}{H1:Hp}{D:Addr}{Qd:Hp->Prop}(Pv:Nat->Hp->Prop) (yL:xs.length=ys.length) (h0:Pv 0 (upd H1 D (.lst [])))
  (hl:∀ i H,Pv i H->ai K H a xs/\ai K H b ys)
  (hs:∀(i:Nat) (x y:V) (H:Hp) (T:Addr),xs[i]? = some x->ys[i]? = some y->H T=none->Pv i H->g (.ref T) (wipe σ vs) (upd H T (.tup [x,y])) fun σ2 H2=>wipe σ2 vs=wipe σ vs/\tt σ2 H2 fun b H3=>
   if b=true then te σ2 H3 fun y H4=>∃ acc,H4 D=some (.lst acc)/\acc.length<sizeLine/\Pv (i+1) (upd H4 D (.lst (acc++[y]))) else Pv (i+1) H3) (hd:∀ H,Pv xs.length H->Qd H) :
  ∃ W:Nat->Nat->Hp->Prop,(∃ m,W 0 m (upd H1 D (.lst [])))/\∀ i m H,W i m H->
   ((mX K a b).stop i H/\Qd H)\/((mX K a b).go i H/\∃ Nx:Hp->Prop,(∀ H',Nx H'->∃ m',m'<m/\W (i+1) m' H')/\∀ x H',(mX K a b).jx i H x H'->g x (wipe σ vs) H' fun σ2 H2=>wipe σ2 vs=wipe σ vs/\tt σ2 H2 fun b H3=>
    if b=true then te σ2 H3 fun y H4=>∃ acc,H4 D=some (.lst acc)/\acc.length<sizeLine/\Nx (upd H4 D (.lst (acc++[y]))) else Nx H3):=by
 refine⟨fun i m H=>m=xs.length-i/\i<=xs.length/\Pv i H,⟨xs.length,by simp,Nat.zero_le _,h0⟩,?_⟩
 rintro i m H ⟨rfl,hi,p⟩
 obtain⟨q1,q2⟩:=hl i H p
 by_cases bR:i<xs.length
 ·refine .inr ⟨⟨xs,ys,xs[i],ys[i]'(by omega),q1,q2,by simp [bR],by simp [yL ▸ bR]⟩,Pv (i+1),fun H' p'=>⟨xs.length-(i+1),by omega,rfl,bR,p'⟩,fun x H' y=>?_⟩
  obtain⟨T,x1,y1,rfl,hT,rfl,e1,e2⟩:=y
  exact hs i x1 y1 H T (e1 xs q1) (e2 ys q2) hT p
 ·have e:i=xs.length:=by omega
  subst e
  exact .inl ⟨⟨xs,ys,q1,q2,.inl (Nat.le_refl _)⟩,hd H p⟩
theorem Sz {K:PySem.W.Frag}{a b:Addr}{xs ys:List V}{g:TG}{tb:TS}{D:Ends}{σ:L2.St}{H:Hp}(Pv:Nat->L2.St->Hp->Prop) (yL:xs.length=ys.length) (h0:Pv 0 σ H) (hl:∀ i σ H,Pv i σ H->ai K H a xs/\ai K H b ys)
  (hs:∀(i:Nat) (x y:V) (σ:L2.St) (H:Hp) (T:Addr),xs[i]? = some x->ys[i]? = some y->H T=none->Pv i σ H->g (.ref T) σ (upd H T (.tup [x,y])) fun σ2 H2=>tb { D with nx:=Pv (i+1),ct:=Pv (i+1),bk:=D.nx } σ2 H2) (hd:∀ σ H,Pv xs.length σ H->D.nx σ H) :
  ∃ W:Nat->Nat->L2.St->Hp->Prop,(∃ m,W 0 m σ H)/\∀ i m σ H,W i m σ H->
   ((mX K a b).stop i H/\D.nx σ H)\/((mX K a b).go i H/\∃ N:L2.St->Hp->Prop,(∀ σ' H',N σ' H'->∃ m',m'<m/\W (i+1) m' σ' H')/\∀ x H',(mX K a b).jx i H x H'->g x σ H' fun σ2 H2=>tb { D with nx:=N,ct:=N,bk:=D.nx } σ2 H2):=by
 refine⟨fun i m σ H=>m=xs.length-i/\i<=xs.length/\Pv i σ H,⟨xs.length,by simp,Nat.zero_le _,h0⟩,?_⟩
 rintro i m σ H ⟨rfl,hi,p⟩
 obtain⟨q1,q2⟩:=hl i σ H p
 by_cases bR:i<xs.length
 ·refine .inr ⟨⟨xs,ys,xs[i],ys[i]'(by omega),q1,q2,by simp [bR],by simp [yL ▸ bR]⟩,Pv (i+1),fun σ' H' p'=>⟨xs.length-(i+1),by omega,rfl,bR,p'⟩,fun x H' y=>?_⟩
  obtain⟨T,x1,y1,rfl,hT,rfl,e1,e2⟩:=y
  exact hs i x1 y1 σ H T (e1 xs q1) (e2 ys q2) hT p
 ·have e:i=xs.length:=by omega
  subst e
  exact .inl ⟨⟨xs,ys,q1,q2,.inl (Nat.le_refl _)⟩,hd σ H p⟩
structure Lc (R:Hp->Nat->V->Prop) (G H:Hp) (D:Addr) (i:Nat) (H':Hp):Prop where
 ex:∃(ys:List V) (G':Hp),Gr G H G' H'/\G' D=none/\H' D=some (.lst ys)/\ys.length=i/\∀(k:Nat) (y:V),ys[k]? = some y->R G' k y
theorem Lc.start {R:Hp->Nat->V->Prop}{G H:Hp}{D:Addr}(s:aJ G H) (n:H D=none):Lc R G H D 0 (upd H D (.lst [])):=
 ⟨[],G,(Gr.refl s).loose n,s.free n,af,rfl,fun k y h=>by simp at h⟩
theorem Lc.turn {R:Hp->Nat->V->Prop}{G H:Hp}{D:Addr}{i:Nat}{H1 H2 G1 G2:Hp}{ys:List V}{y:V}(mono:∀ {G G':Hp}{k:Nat}{y:V},aJ G G'->R G k y->R G' k y)
  (nD:H D=none) (g:Gr G H G1 H1) (gD:G1 D=none) (hD:H1 D=some (.lst ys)) (hl:ys.length=i) (hR:∀(k:Nat) (y:V),ys[k]? = some y->R G1 k y) (g2:Gr G1 H1 G2 H2) (hy:R G2 i y) (hi:i<1000000) :
  ∃ acc,H2 D=some (.lst acc)/\acc.length<sizeLine/\Lc R G H D (i+1) (upd H2 D (.lst (acc++[y]))):=by
 have lU:G2 D=none:=by rw [g2.old D (by rw [hD];simp)];exact gD
 refine⟨ys,g2.same _ _ hD,by rw [hl];exact Nat.lt_of_lt_of_le hi (by decide),⟨ys++[y],G2,(g.trans g2).set nD lU,lU,af,by simp [hl],fun k z h=>?_⟩⟩
 by_cases hk:k<ys.length
 ·rw [getElem?_append_left hk] at h
  exact mono g2.gg (hR k z h)
 ·have hk':k=ys.length:=by
   have:=(List.getElem?_eq_some_iff.mp h).1
   simp at this;omega
  subst hk'
  rw [getElem?_append_right (Nat.le_refl _)] at h
  simp at h
  subst h
  rw [hl];exact hy
theorem Lc.done {R:Hp->Nat->V->Prop}{G H:Hp}{D:Addr}{n:Nat}{H':Hp}(mono:∀ {G G':Hp}{k:Nat}{y:V},aJ G G'->R G k y->R G' k y) (nD:H D=none) (h:Lc R G H D n H') :
  ∃(ys:List V) (G':Hp),Gr G H G' H'/\G' D=some (.lst ys)/\ys.length=n/\∀(k:Nat) (y:V),ys[k]? = some y->R G' k y:=by
 obtain⟨ys,G',g,gD,hD,hl,hR⟩:=h.ex
 have gf:aJ G' (upd G' D (.lst ys)):=fun a o e=>by rw [aj (aP e gD)];exact e
 exact⟨ys,upd G' D (.lst ys),g.fix nD hD,af,hl,fun k y e=>mono gf (hR k y e)⟩
def eB (c:Cl) (f:Nat->ax):Hp->Nat->V->Prop:=fun G k y=>∃ a,y=.ref a/\fw c G a (f k)
theorem eB.mono {c:Cl}{f:Nat->ax}{G G':Hp}{k:Nat}{y:V}(g:aJ G G') (h:eB c f G k y):eB c f G' k y:=let ⟨a,e,s⟩:=h;⟨a,e,s.mono g⟩
theorem tQ {ys:List V}(h:∀(k:Nat) (y:V),ys[k]? = some y->∃ a,y=V.ref a):∃ as:List Addr,ys=as.map V.ref:=by
 induction ys with
 | nil=>exact⟨[],rfl⟩
 | cons y r ih=>
  obtain⟨a,rfl⟩:=h 0 y rfl
  obtain⟨as,rfl⟩:=ih fun k z e=>h (k+1) z (by simpa using e)
  exact⟨a::as,rfl⟩
theorem sY {c:Cl}{f:Nat->ax}{G:Hp}{D:Addr}{ys:List V}{W:Nat}(hD:G D=some (.lst ys)) (hl:ys.length=W) (hR:∀(k:Nat) (y:V),ys[k]? = some y->eB c f G k y):lq c W G D f:=by
 obtain⟨as,rfl⟩:=tQ fun k y e=>let ⟨a,q,_⟩:=hR k y e;⟨a,q⟩
 refine⟨as,hD,by simpa using hl,fun k a e=>?_⟩
 obtain⟨b,q,s⟩:=hR k (.ref a) (by rw [getElem?_map,e];rfl)
 cases q
 exact s
theorem lq.get {c:Cl}{W:Nat}{G:Hp}{l:Addr}{f:Nat->ax}(h:lq c W G l f):∃ ys:List V,G l=some (.lst ys)/\ys.length=W/\∀(k:Nat) (y:V),ys[k]? = some y->eB c f G k y:=by
 obtain⟨as,e,n,r⟩:=h.ex
 refine⟨as.map V.ref,e,by simpa using n,fun k y q=>?_⟩
 rw [getElem?_map] at q
 cases ek:as[k]? with
 | none=>rw [ek] at q;cases q
 | some a=>rw [ek] at q;cases q;exact⟨a,rfl,r k a ek⟩
theorem lq.congr {c:Cl}{W:Nat}{G:Hp}{l:Addr}{f g:Nat->ax}(h:lq c W G l f) (e:∀ k,k<W->f k=g k):lq c W G l g:=by
 obtain⟨as,e1,n,r⟩:=h.ex
 refine⟨as,e1,n,fun k a q=>?_⟩
 rw [←e k (by rw [←n];exact(List.getElem?_eq_some_iff.mp q).1)]
 exact r k a q
section
structure Iu (n:Int) (s:ax):Prop where
 m1:mZ (n-1) s.add
 m2:mZ n s.add
def Kp (c:Cl):Sp:=fun vs H Q _=>∃(a:Addr) (s:ax) (n:Int) (G:Hp),vs=[.ref a,.int n]/\aJ G H/\fw c G a s/\Iu n s/\∀ p G' H',Gr G H G' H'->fw c G' p (s.rep n)->Q (.ref p) H'
theorem NI (T:Txt K mg c):aW P w K mg base 3 "repeated_span" ["once","times"] (Kp c):=by
 refine a0 T.Td Bu (fun f aw A aA s H vs Q E hr h=>?_)
 ·obtain⟨a,s,n,G,rfl,g,⟨da,ha⟩,hb,k⟩:=h
  have ha:=g _ _ ha
  refine⟨_,(ag (pq 2 Bu (bA kQ (bA lG (pv 1) aq) (pF K 0)))
    (ak (ay (eL (uu T) (hr.mono (by decide)) rfl (aa (pC (t9 T) hr (aa (pF K 0) (aa (bJ (rY rfl) (by rfl) T.sd r8 (aa aq (aa (pv 2) ae))) ae))) (aa (pC (t9 T) hr (aa (pF K 0) (aa (bJ (p7 rfl) (by rfl) T.ou oj (aa aq (aa (pv 2) ae))) ae))) (aa (bA kQ (pv 1) (pF K 0)) (aa (bA dM (bJ (rY rfl) (by rfl) T.sd r8 (aa aq (aa (pv 2) ae))) (pF K 0)) (aa (bA dM (bJ (p7 rfl) (by rfl) T.ou oj (aa aq (aa (pv 2) ae))) (pF K 0)) ae))))))))),?_⟩
  refine⟨_,rfl,_,_,rfl,rfl,_,rfl,a,_,da,_,_,rfl,ha,T.aK.cl,T.aK.n,rfl,_,_,rfl,rfl,hb.m1,?_⟩
  refine⟨_,rfl,a,_,da,_,_,rfl,ha,T.aK.cl,T.aK.n,rfl,_,rfl,0,_,rfl,s.lo,_,rfl,?_⟩
  refine⟨_,rfl,a,_,da,_,_,rfl,ha,T.aK.cl,T.aK.n,rfl,_,rfl,0,_,rfl,s.hi,_,rfl,?_⟩
  refine⟨_,rfl,_,rfl,a,_,da,_,_,rfl,ha,T.aK.cl,T.aK.n,rfl,_,_,rfl,rfl,hb.m2,?_⟩
  refine⟨_,rfl,0,_,rfl,_,rfl,a,_,da,_,_,rfl,ha,T.aK.cl,T.aK.n,rfl,_,_,rfl,rfl,?_⟩
  refine⟨_,rfl,0,_,rfl,_,rfl,a,_,da,_,_,rfl,ha,T.aK.cl,T.aK.n,rfl,_,_,rfl,rfl,?_⟩
  refine fun x dx n1 n2 n3=>⟨x,dx,_,rfl,rfl,af,rfl,?_⟩
  rw [bM]
  refine k _ _ _ ((Gr.refl g).made n1 n2 n3) ⟨dx,?_⟩
  rw [af]
  have e1:(if(n-1)*s.add<0 then(n-1)*s.add else 0)=min 0 ((n-1)*s.add):=by split<;>omega
  have e2:(if(n-1)*s.add > 0 then(n-1)*s.add else 0)=max 0 ((n-1)*s.add):=by split<;>omega
  rw [e1,e2]
  rfl
def KW (c:Cl):Sp:=fun vs H Q _=>∃(W:Nat) (G:Hp),vs=[.int W]/\W<=8/\aJ G H/\∀ p G' H',Gr G H G' H'->cM c W G' p {}->Q (.ref p) H'
theorem Ec (T:Txt K mg c):aW P w K mg base 4 "empty_sum" ["width"] (KW c):=by
 refine a0 T.TR wH (fun f aw A aA s H vs Q E hr h=>?_)
 ·obtain⟨W,G,rfl,hW,g,k⟩:=h
  refine⟨_,(ak (ay (eL (ur T) (hr.mono (by decide)) rfl (aa aq (aa (i8 (own:=[("k",1)]) rfl wH.nd (qI rfl T.oq (aa (pv 0) ae)) (fF (N:=["width","k"]) (sc:=aC xc) (by decide +kernel)) (fun _ _ _ _ _=>(dk (i:=1) wH.nd rfl (Or.inl rfl))) (fun _ _ _ _ _=>gc) (fun _ _ _ _ _=>(DP (NU T) (hr.mono (by decide)) rfl))) ae))))),?_⟩
  refine⟨_,rfl,W,rfl,by omega,by omega,fun D nD=>?_⟩
  refine yB (n:=W) (Lc (eB c fun _=>ax.zero) G H D) (Lc.start g nD) (fun i H1 hi L=>?_) (fun H1 L=>?_)
  ·obtain⟨ys,G1,g1,gD,hD,hl,hR⟩:=L.ex
   refine⟨rfl,G1,rfl,g1.sub,fun p G2 H2 g2 hp=>?_⟩
   exact Lc.turn (R:=eB c fun _=>ax.zero) eB.mono nD g1 gD hD hl hR g2 ⟨p,rfl,hp⟩ (by omega)
  ·obtain⟨ys,G1,g1,hD,hl,hR⟩:=Lc.done (R:=eB c fun _=>ax.zero) eB.mono nD L
   refine fun x dx n1 n2 n3=>⟨x,dx,_,rfl,rfl,af,rfl,?_⟩
   rw [bM]
   have gm:=g1.made (C:=c.sum) (fs:=sumF 0 D) n1 n2 n3
   refine k _ _ _ gm ⟨dx,D,af,(sY hD hl hR).mono ?_ |>.congr fun k hk=>(dX k).symm⟩
   exact fun a o e=>by
    rw [aj (aP (g1.sub _ _ e) n1),aj (aP (g1.sub _ _ e) n2)];exact e
end
theorem iF {G' H':Hp}(s:aJ G' H'){x dx C:Addr}{fs:List (Str×V)}(n1:H' x=none) (n2:H' dx=none):aJ G' (upd (upd G' dx (.own x)) x (.ins C dx fs)):=fun a o e=>by
 rw [aj (aP (s _ _ e) n1),aj (aP (s _ _ e) n2)];exact e
section
def KG (c:Cl):Sp:=fun vs H Q _=>∃(a b:Addr) (s t:Vbdcan.Sum) (W:Nat) (G:Hp),vs=[.ref a,.ref b]/\W<=8/\aJ G H/\cM c W G a s/\cM c W G b t/\Wf s/\Wf t /\
 ∀ p G' H',Gr G H G' H'->cM c W G' p (seqSum s t)->Q (.ref p) H'
theorem NO (T:Txt K mg c):aW P w K mg base 4 "joined" ["first","then"] (KG c):=by
 refine a0 T.Tx wC (fun f aw A aA s H vs Q E hr h=>?_)
 ·obtain⟨a,b,s,t,W,G,rfl,hW,g,⟨da,la,ha,sa⟩,⟨db,lb,hb,sb⟩,ws,wt,k⟩:=h
  obtain⟨xs,fm,eY,iY⟩:=sa.get
  obtain⟨ys,kr,qY,qD⟩:=sb.get
  refine⟨_,(ag (ny (i:=4) (own:=[("one",2),("other",3)]) rfl wC.nd rfl rfl (ni rfl rfl rfl rfl) (nA rfl T.oo (aa (pF K 0) (aa (pF K 1) ae))) (fF (N:=["first","then","one","other","spans"]) (sc:=aC w6) (by decide +kernel)) (fun _ _ _ _ _=>(mr (K:=K) (i:=2) (j:=3) rfl wC.nd rfl (Or.inl rfl) rfl (Or.inl rfl))) (fun _ _ _ _ _=>gc) (fun _ _ _ _ _=>(pC (NN T) hr (aa (pv 2) (aa (pv 3) ae)))))
    (ak (ay (eL (ur T) (hr.mono (by decide)) rfl (aa (bA dM (pF K 0) (pF K 1)) (aa (pv 4) ae)))))),?_⟩
  refine⟨_,rfl,a,_,da,_,_,rfl,g _ _ ha,T.a9.cl,T.a9.n,rfl,_,rfl,b,_,db,_,_,rfl,g _ _ hb,T.a9.cl,T.a9.n,rfl,la,lb,xs,ys,rfl,ai.of (g _ _ fm),ai.of (g _ _ kr),fun D nD=>?_⟩
  refine pG (xs:=xs) (ys:=ys) (Lc (eB c fun k=>(My.sp s k).seq (My.sp t k)) G H D) (eY.trans qY.symm) (Lc.start g nD) (fun i H1 L=>?_) (fun i x y H1 T1 hx hy hT L=>?_) (fun H1 L=>?_)
  ·obtain⟨zs,G1,g1,_⟩:=L.ex
   exact⟨ai.of (g1.same _ _ (g _ _ fm)),ai.of (g1.same _ _ (g _ _ kr))⟩
  ·obtain⟨zs,G1,g1,gD,hD,hl,hR⟩:=L.ex
   obtain⟨xa,rfl,gK⟩:=iY i x hx
   obtain⟨ya,rfl,nJ⟩:=qD i y hy
   have g2:=g1.loose (o:=.tup [.ref xa,.ref ya]) hT
   refine⟨T1,_,rfl,cE.of af,rfl,_,_,rfl,_,_,rfl,rfl,rfl,?_⟩
   refine⟨_,rfl,_,rfl,xa,ya,_,_,G1,rfl,g2.sub,gK.mono g1.gg,nJ.mono g1.gg,fun p G2 H2 g3 hp=>?_⟩
   refine Lc.turn (R:=eB c fun k=>(My.sp s k).seq (My.sp t k)) eB.mono nD g2 gD (by rw [aj (aP hD hT)];exact hD) hl hR g3 ⟨p,rfl,hp⟩ ?_
   have:=(List.getElem?_eq_some_iff.mp hx).1
   omega
  ·obtain⟨zs,G1,g1,hD,hl,hR⟩:=Lc.done (R:=eB c fun k=>(My.sp s k).seq (My.sp t k)) eB.mono nD L
   refine⟨_,rfl,a,_,da,_,_,rfl,g1.same _ _ (g _ _ ha),T.a9.cl,T.a9.n,rfl,_,rfl,b,_,db,_,_,rfl,g1.same _ _ (g _ _ hb),T.a9.cl,T.a9.n,rfl,_,_,rfl,rfl,_,rfl,?_⟩
   refine fun x dx n1 n2 n3=>⟨x,dx,_,rfl,rfl,af,rfl,?_⟩
   rw [bM]
   have gm:=g1.made (C:=c.sum) (fs:=sumF (s.len+t.len) D) n1 n2 n3
   refine k _ _ _ gm ⟨dx,D,af,((sY hD (hl.trans eY) hR).mono (iF g1.sub n1 n2)).congr fun k hk=>(dI ws wt (by omega)).symm⟩
structure mS (W n:Nat) (s:Vbdcan.Sum):Prop where
 len:mZ n s.len
 sp:∀ k,k<W->Iu n (My.sp s k)
def Kq (c:Cl):Sp:=fun vs H Q _=>∃(a:Addr) (n:Nat) (s:Vbdcan.Sum) (W:Nat) (G:Hp),vs=[.ref a,.int n]/\W<=8/\aJ G H/\cM c W G a s/\Wf s/\(n≠0->mS W n s) /\
 ∀ p G' H',Gr G H G' H'->cM c W G' p (repSum n s)->Q (.ref p) H'
theorem NJ (T:Txt K mg c):aW P w K mg base 5 "repeated" ["once","times"] (Kq c):=by
 refine a0 T.Te wy (fun f aw A aA s H vs Q E hr h=>?_)
 ·obtain⟨a,n,s,W,G,rfl,hW,g,⟨da,la,ha,sa⟩,ws,hb,k⟩:=h
  obtain⟨xs,fm,eY,iY⟩:=sa.get
  refine⟨_,(ag (aX (aT dJ (pv 1) aq (aO _)) (ak (ay (pC (Ec T) hr (aa (bJ cC (by rfl) T.cB PySem.boot_len (aa (pF K 0) ae)) ae)))) aY)
    (ak (ay (eL (ur T) (hr.mono (by decide)) rfl (aa (bA kQ (pv 1) (pF K 0)) (aa (i8 (own:=[("span",2)]) rfl wy.nd (fD (pF K 0)) (fF (N:=["once","times","span"]) (sc:=aC wX) (by decide +kernel)) (fun _ _ _ _ _=>(dk (i:=2) wy.nd rfl (Or.inl rfl))) (fun _ _ _ _ _=>gc) (fun _ _ _ _ _=>(pC (NI T) hr (aa (pv 2) (aa (pv 1) ae))))) ae)))))),?_⟩
  refine⟨_,rfl,rfl,_,rfl,gT (fun h0=>?_) (fun h0=>?_)⟩
  ·have h0:V.int n=V.int 0:=of_decide_eq_true h0
   have h0:n=0:=by injection h0 with h0;omega
   subst h0
   refine⟨_,rfl,a,_,da,_,_,rfl,g _ _ ha,T.a9.cl,T.a9.n,rfl,la,xs,rfl,.inl (ai.of (g _ _ fm)),?_⟩
   rw [eY]
   exact⟨W,G,rfl,hW,g,fun p G' H' g' hp=>k p G' H' g' hp⟩
  ·have h0:n≠0:=fun q=>h0 (by subst q;rfl)
   have hb:=hb h0
   refine⟨_,rfl,_,rfl,a,_,da,_,_,rfl,g _ _ ha,T.a9.cl,T.a9.n,rfl,_,_,rfl,rfl,hb.len,?_⟩
   refine⟨_,rfl,a,_,da,_,_,rfl,g _ _ ha,T.a9.cl,T.a9.n,rfl,la,rfl,⟨_,ai.of (g _ _ fm)⟩,fun D nD=>?_⟩
   refine kX (K:=K) (a:=la) (xs:=xs) (Lc (eB c fun k=>(My.sp s k).rep n) G H D) (Lc.start g nD) (fun i H1 _ L=>?_) (fun i x H1 hx L=>?_) (fun H1 L=>?_)
   ·obtain⟨zs,G1,g1,_⟩:=L.ex
    exact ai.of (g1.same _ _ (g _ _ fm))
   ·obtain⟨zs,G1,g1,gD,hD,hl,hR⟩:=L.ex
    obtain⟨xa,rfl,gK⟩:=iY i x hx
    have hi:=(List.getElem?_eq_some_iff.mp hx).1
    refine⟨rfl,_,rfl,_,rfl,xa,_,n,G1,rfl,g1.sub,gK.mono g1.gg,hb.sp i (by omega),fun p G2 H2 g3 hp=>?_⟩
    exact Lc.turn (R:=eB c fun k=>(My.sp s k).rep n) eB.mono nD g1 gD hD hl hR g3 ⟨p,rfl,hp⟩ (by omega)
   ·obtain⟨zs,G1,g1,hD,hl,hR⟩:=Lc.done (R:=eB c fun k=>(My.sp s k).rep n) eB.mono nD L
    refine fun x dx n1 n2 n3=>⟨x,dx,_,rfl,rfl,af,rfl,?_⟩
    rw [bM]
    have gm:=g1.made (C:=c.sum) (fs:=sumF (n*s.len) D) n1 n2 n3
    refine k _ _ _ gm ⟨dx,D,?_,((sY hD (hl.trans eY) hR).mono (iF g1.sub n1 n2)).congr fun k hk=>(My.mj ws h0 (by omega)).symm⟩
    rw [af,My.nI]
    congr 2
structure WY (c:Cl) (W:Nat) (G:Hp) (as:List Addr) (ss:List Vbdcan.Sum):Prop where
 len:as.length=ss.length
 at_:∀(k:Nat) (a:Addr) (s:Vbdcan.Sum),as[k]? = some a->ss[k]? = some s->cM c W G a s
theorem AF:∀(ss:List Vbdcan.Sum) (a:Vbdcan.Sum),Wf a->(∀ s∈ss,Wf s)->Wf (ss.foldl seqSum a)
 |[],a,h,_=>h
 | s::r,a,h,hs=>AF r _ (h.seq (hs s mem_cons_self)) fun t ht=>hs t (mem_cons_of_mem _ ht)
theorem zI {α β:Type}{f:α->β->α}{l:List β}{i:Nat}{x:β}{a:α}(h:l[i]? = some x):(l.take (i+1)).foldl f a=f ((l.take i).foldl f a) x:=by
 have:l.take (i+1)=l.take i++[x]:=by
  rw [List.take_add_one,h];rfl
 rw [this,List.foldl_append];rfl
def K1 (c:Cl):Sp:=fun vs H Q _=>∃(l:Addr) (W:Nat) (as:List Addr) (ss:List Vbdcan.Sum) (G:Hp),vs=[.ref l,.int W]/\W<=8/\aJ G H/\H l=some (.lst (as.map V.ref))/\WY c W G as ss/\(∀ s∈ss,Wf s) /\
 ∀ p G' H',Gr G H G' H'->cM c W G' p (ss.foldl seqSum {})->Q (.ref p) H'
theorem NW (T:Txt K mg c):aW P w K mg base 5 "chained" ["sums","width"] (K1 c):=by
 refine a0 T.TY tI (fun f aw A aA s H vs Q E hr h=>?_)
 ·obtain⟨l,W,as,ss,G,rfl,hW,g,hl,hs,wf,k⟩:=h
  refine⟨_,(ag (pq 2 tI (pC (Ec T) hr (aa (pv 1) ae)))
    (ag (gP PassesOwn.never rfl (fD (pv 0)) (dk (i:=3) tI.nd rfl (Or.inl rfl)) (ak (pq 2 tI (pC (NO T) hr (aa (pv 2) (aa (pv 3) ae))))))
    (ak (ay (pv 2))))),?_⟩
  refine⟨_,rfl,W,G,rfl,hW,g,fun p G1 H1 g1 hp=>?_⟩
  refine⟨_,rfl,l,rfl,⟨_,ai.of (g1.same _ _ hl)⟩,lj (K:=K) (a:=l) (xs:=as.map V.ref) (fun i σ H'=>∃(v:Option V) (q:Addr) (G':Hp),σ=[some (.ref l),some (.int W),some (.ref q),v]/\Gr G H G' H'/\cM c W G' q ((ss.take i).foldl seqSum {}))
   ⟨none,p,G1,rfl,g1,hp⟩ (fun i σ H' _ ⟨_,_,_,_,g2,_⟩=>ai.of (g2.same _ _ hl)) ?_ ?_⟩
  ·rintro i y σ H' hi ⟨v,q,G2,rfl,g2,hq⟩
   rw [getElem?_map] at hi
   cases e:as[i]? with
   | none=>rw [e] at hi;cases hi
   | some a=>
    rw [e] at hi
    cases hi
    have bR:i<ss.length:=by rw [←hs.len];exact(List.getElem?_eq_some_iff.mp e).1
    have es:ss[i]? = some ss[i]:=getElem?_eq_getElem bR
    refine⟨_,rfl,_,rfl,q,a,_,_,W,G2,rfl,hW,g2.sub,hq,(hs.at_ i a _ e es).mono g2.gg,AF _ _ My.kL fun t ht=>wf t (List.mem_of_mem_take ht),wf _ (getElem_mem bR),fun p' G3 H3 g3 hp'=>?_⟩
    refine⟨_,p',G3,rfl,g2.trans g3,?_⟩
    rw [zI es]
    exact hp'
  ·rintro σ H' ⟨v,q,G2,rfl,g2,hq⟩
   rw [length_map,hs.len,take_length] at hq
   exact⟨_,rfl,k q G2 H' g2 hq⟩
end
def bz (W:Nat) (rs:List Int):List V:=(range W).map fun k=>V.int (aF rs k)
theorem uQ {W:Nat}{rs:List Int}{k:Nat}{v:V}(h:(bz W rs)[k]? = some v):v=.int (aF rs k)/\k<W:=by
 unfold bz at h
 rw [getElem?_map] at h
 cases e:(range W)[k]? with
 | none=>rw [e] at h;cases h
 | some j=>
  rw [e] at h
  cases h
  obtain⟨h1,h2⟩:=List.getElem?_eq_some_iff.mp e
  simp at h1 h2
  subst h2
  exact⟨rfl,h1⟩
theorem dD (W:Nat) (rs:List Int):(bz W rs).length=W:=by unfold bz;simp
theorem mF {ys:List V}{W:Nat}{f:Nat->V}(hl:ys.length=W) (h:∀(k:Nat) (y:V),ys[k]? = some y->y=f k):ys=(range W).map f:=by
 apply ext_getElem
 ·simp [hl]
 ·intro k h1 h2
  rw [h k ys[k] (getElem?_eq_getElem h1)]
  simp
section
def Kl (c:Cl):Sp:=fun vs H Q _=>∃(a:Addr) (s:ax) (r:Int),vs=[.ref a,.int r]/\fw c H a s/\Q (.bl (s.ok r)) H
theorem D5 (T:Txt K mg c):aW P w K mg base 1 "span_allows" ["span","value"] (Kl c):=by
 refine a0 T.S9 Ly (fun f aw A aA s H vs Q E hr h=>?_)
 ·obtain⟨a,s,r,rfl,⟨da,ha⟩,k⟩:=h
  refine⟨_,(ag (aX (PW.pt (lF (aT kj (pF K 0) cj (aO _)) (lE (aT eO (pv 1) (pF K 0) (aO _))))) (ak (ay iJ)) aY)
    (ak (ay (DN (ie gR (pF K 0) cj (aO _)) (mv (ie dQ (pv 1) (pF K 0) (aO _))))))),?_⟩
  have fin:(∀ l,s.lo=some l->l<=r)->iA (iB (A6 (fH (fun x y H Q=>y=.aD/\Q (.bl (decide (x=.aD))) H) (du K (bV 0) "greatest") (tC .aD)) (fH (i6 fun i j=>.bl (decide (i<=j))) (bV 1) (du K (bV 0) "greatest")))) jB { nx:=fun _ H'=>Q .aD H',rt:=Q } [some (.ref a),some (.int r)] H:=fun za=>by
   refine⟨_,rfl,a,_,da,_,_,rfl,ha,T.aK.cl,T.aK.n,rfl,rfl,_,rfl,?_⟩
   cases eh:s.hi with
   | none=>
    refine aH ?_
    have e:s.ok r=true:=(fi s r).mpr ⟨za,fun h q=>by rw [eh] at q;cases q⟩
    rw [e] at k
    exact k
   | some u=>
    refine aI ?_
    refine⟨_,rfl,_,rfl,a,_,da,_,_,rfl,ha,T.aK.cl,T.aK.n,rfl,_,u,rfl,?_,?_⟩
    ·show cJ s.hi=_
     rw [eh];rfl
    ·have e:s.ok r=decide (r<=u):=by
      rw [Bool.eq_iff_iff,fi,decide_eq_true_eq]
      exact⟨fun q=>q.2 u eh,fun q=>⟨za,fun h e=>by rw [eh] at e;cases e;exact q⟩⟩
     rw [e] at k
     exact k
  refine⟨_,rfl,a,_,da,_,_,rfl,ha,T.aK.cl,T.aK.n,rfl,rfl,_,rfl,?_⟩
  cases el:s.lo with
  | none=>
   refine aI ?_
   exact aI (fin fun l q=>by rw [el] at q;cases q)
  | some l=>
   refine aH ?_
   refine⟨_,rfl,_,rfl,a,_,da,_,_,rfl,ha,T.aK.cl,T.aK.n,rfl,_,l,rfl,?_,_,rfl,?_⟩
   ·show cJ s.lo=_
    rw [el];rfl
   ·refine gT (fun h=>?_) (fun h=>fin fun l' q=>?_)
    ·have h:r<l:=of_decide_eq_true h
     have e:s.ok r=false:=by
      rw [Bool.eq_false_iff]
      intro q
      have:=((fi s r).mp q).1 l el
      omega
     rw [e] at k
     exact k
    ·rw [el] at q
     cases q
     have h:¬ r<l:=fun q=>h (decide_eq_true q)
     omega
def fU (f:Nat->Bool):Hp->Nat->V->Prop:=fun _ k y=>y=.bl (f k)
def mU (f:Nat->Int):Hp->Nat->V->Prop:=fun _ k y=>y=.int (f k)
def wc (c:Cl):Sp:=fun vs H Q _=>∃(a l:Addr) (s:Vbdcan.Sum) (rs:List Int) (W:Nat) (G:Hp),vs=[.ref a,.ref l]/\W<=8/\aJ G H/\cM c W G a s/\H l=some (.lst (bz W rs))/\rs.length=8/\Wf s/\Tail W s /\
 ∀ H' G',Gr G H G' H'->Q (.bl (fits rs s.box)) H'
theorem ua (T:Txt K mg c):aW P w K mg base 2 "can_be_done" ["total","held"] (wc c):=by
 refine a0 T.TZ wI (fun f aw A aA s H vs Q E hr h=>?_)
 ·obtain⟨a,l,s,rs,W,G,rfl,hW,g,⟨da,la,ha,sa⟩,hl,lO,ws,ts,k⟩:=h
  obtain⟨xs,fm,eY,iY⟩:=sa.get
  refine⟨_,(ak (ay (bJ (p6 rfl) (by rfl) T.qc qb (aa (i8 (own:=[("span",2),("value",3)]) rfl wI.nd (nA rfl T.oo (aa (pF K 0) (aa (pv 1) ae))) (fF (N:=["total","held","span","value"]) (sc:=aC xg) (by decide +kernel)) (fun _ _ _ _ _=>(mr (K:=K) (i:=2) (j:=3) rfl wI.nd rfl (Or.inl rfl) rfl (Or.inl rfl))) (fun _ _ _ _ _=>gc) (fun _ _ _ _ _=>(pC (D5 T) hr (aa (pv 2) (aa (pv 3) ae))))) ae)))),?_⟩
  refine⟨_,rfl,a,_,da,_,_,rfl,g _ _ ha,T.a9.cl,T.a9.n,rfl,_,rfl,la,l,xs,bz W rs,rfl,ai.of (g _ _ fm),ai.of hl,fun D nD=>?_⟩
  refine pG (xs:=xs) (ys:=bz W rs) (Lc (fU fun k=>(My.sp s k).ok (aF rs k)) G H D) (eY.trans (dD W rs).symm) (Lc.start g nD) (fun i H1 L=>?_) (fun i x y H1 T1 hx hy hT L=>?_) (fun H1 L=>?_)
  ·obtain⟨zs,G1,g1,_⟩:=L.ex
   exact⟨ai.of (g1.same _ _ (g _ _ fm)),ai.of (g1.same _ _ hl)⟩
  ·obtain⟨zs,G1,g1,gD,hD,bC,hR⟩:=L.ex
   obtain⟨xa,rfl,gK⟩:=iY i x hx
   obtain⟨rfl,hi⟩:=uQ hy
   have g2:=g1.loose (o:=.tup [.ref xa,.int (aF rs i)]) hT
   refine⟨T1,_,rfl,cE.of af,rfl,_,_,rfl,_,_,rfl,rfl,rfl,?_⟩
   refine⟨_,rfl,_,rfl,xa,_,_,rfl,(gK.mono g1.gg).mono g2.sub,?_⟩
   exact Lc.turn (R:=fU fun k=>(My.sp s k).ok (aF rs k)) (fun _ h=>h) nD g2 gD (by rw [aj (aP hD hT)];exact hD) bC hR (Gr.refl g2.sub) rfl (by omega)
  ·obtain⟨zs,G1,g1,hD,bC,hR⟩:=Lc.done (R:=fU fun k=>(My.sp s k).ok (aF rs k)) (fun _ h=>h) nD L
   have e:=mF (f:=fun k=>V.bl ((My.sp s k).ok (aF rs k))) (bC.trans eY) hR
   subst e
   refine⟨D,(range W).map fun k=>(My.sp s k).ok (aF rs k),rfl,ai.of (g1.sub _ _ ?_),?_⟩
   ·rw [hD,map_map]
    rfl
   ·have e2:((range W).map fun k=>(My.sp s k).ok (aF rs k)).all id=fits rs s.box:=by
     rw [My.SH hW lO ws ts,all_map]
     rfl
    rw [e2]
    exact k H1 G1 g1
def wb (c:Cl):Sp:=fun vs H Q _=>∃(a l:Addr) (n:Int) (s:Vbdcan.Sum) (rs:List Int) (W:Nat) (G:Hp),vs=[.ref l,.ref a,.int n]/\W<=8/\aJ G H/\cM c W G a s/\H l=some (.lst (bz W rs))/\rs.length=8/\Wf s /\
 (∀ k,k<W->mZ n (My.sp s k).add)/\∀ p H' G',Gr G H G' H'->G' p=some (.lst (bz W (plus rs (Vbdcan.times n s.add))))->Q (.ref p) H'
theorem my (T:Txt K mg c):aW P w K mg base 1 "moved" ["held","total","times"] (wb c):=by
 refine a0 T.Ts wA (fun f aw A aA s H vs Q E hr h=>?_)
 ·obtain⟨a,l,n,s,rs,W,G,rfl,hW,g,⟨da,la,ha,sa⟩,hl,lO,ws,hm,k⟩:=h
  obtain⟨xs,fm,eY,iY⟩:=sa.get
  refine⟨_,(ak (ay (i8 (own:=[("span",3),("value",4)]) rfl wA.nd (nA rfl T.oo (aa (pF K 1) (aa (pv 0) ae))) (fF (N:=["held","total","times","span","value"]) (sc:=aC wY) (by decide +kernel)) (fun _ _ _ _ _=>(mr (K:=K) (i:=3) (j:=4) rfl wA.nd rfl (Or.inl rfl) rfl (Or.inl rfl))) (fun _ _ _ _ _=>gc) (fun _ _ _ _ _=>(bA dM (pv 4) (bA kQ (pv 2) (pF K 3))))))),?_⟩
  refine⟨_,rfl,a,_,da,_,_,rfl,g _ _ ha,T.a9.cl,T.a9.n,rfl,_,rfl,la,l,xs,bz W rs,rfl,ai.of (g _ _ fm),ai.of hl,fun D nD=>?_⟩
  refine pG (xs:=xs) (ys:=bz W rs) (Lc (mU fun k=>aF rs k+n*(My.sp s k).add) G H D) (eY.trans (dD W rs).symm) (Lc.start g nD) (fun i H1 L=>?_) (fun i x y H1 T1 hx hy hT L=>?_) (fun H1 L=>?_)
  ·obtain⟨zs,G1,g1,_⟩:=L.ex
   exact⟨ai.of (g1.same _ _ (g _ _ fm)),ai.of (g1.same _ _ hl)⟩
  ·obtain⟨zs,G1,g1,gD,hD,bC,hR⟩:=L.ex
   obtain⟨xa,rfl,gK⟩:=iY i x hx
   obtain⟨rfl,hi⟩:=uQ hy
   have g2:=g1.loose (o:=.tup [.ref xa,.int (aF rs i)]) hT
   obtain⟨zM,gK⟩:=(gK.mono g1.gg).mono g2.sub
   refine⟨T1,_,rfl,cE.of af,rfl,_,_,rfl,_,_,rfl,rfl,rfl,?_⟩
   refine⟨_,rfl,_,rfl,_,rfl,xa,_,zM,_,_,rfl,gK,T.aK.cl,T.aK.n,rfl,_,_,rfl,rfl,hm i hi,_,_,rfl,rfl,?_⟩
   exact Lc.turn (R:=mU fun k=>aF rs k+n*(My.sp s k).add) (fun _ h=>h) nD g2 gD (by rw [aj (aP hD hT)];exact hD) bC hR (Gr.refl g2.sub) rfl (by omega)
  ·obtain⟨zs,G1,g1,hD,bC,hR⟩:=Lc.done (R:=mU fun k=>aF rs k+n*(My.sp s k).add) (fun _ h=>h) nD L
   have e:=mF (f:=fun k=>V.int (aF rs k+n*(My.sp s k).add)) (bC.trans eY) hR
   subst e
   refine k D H1 G1 g1 ?_
   rw [hD]
   unfold bz
   congr 2
   apply map_congr_left
   intro j hj
   have hj:=mem_range.mp hj
   rw [My.ko lO (eC ws.add) (by omega),My.kZ ws.add (by omega)]
   rfl
structure An (s:ax) (r:Int):Prop where
 lo:∀ l,s.lo=some l->Bd (r-l)
 hi:∀ h,s.hi=some h->Bd (h-r)
def Kj (c:Cl):Sp:=fun vs H Q _=>∃(a:Addr) (s:ax) (r:Int),vs=[.ref a,.int r]/\fw c H a s/\An s r/\Q (cJ (d9 (s.often r))) H
theorem ND (T:Txt K mg c):aW P w K mg base 2 "span_times" ["span","value"] (Kj c):=by
 refine a0 T.S7 Lw (fun f aw A aA s H vs Q E hr h=>?_)
 ·obtain⟨a,s,r,rfl,⟨da,ha⟩,hb,k⟩:=h
  refine⟨_,(ag (aX (fg (cO (pC (D5 T) hr (aa (pv 0) (aa (pv 1) ae))))) (ak (ay aq)) aY)
    (ag (aX (PW.pt (lF (aT eO (pF K 0) aq (aO _)) (lE (aT kj (pF K 0) cj (aO _))))) (ak (ay (bA dM (bA tZ (bA lG (pv 1) (pF K 0)) (kP kM (pF K 0))) aq))) aY)
    (ag (aX (PW.pt (lF (aT fM (pF K 0) aq (aO _)) (lE (aT kj (pF K 0) cj (aO _))))) (ak (ay (bA dM (bA tZ (bA lG (pF K 0) (pv 1)) (pF K 0)) aq))) aY)
    (ak (ay cj))))),?_⟩
  refine⟨_,rfl,_,rfl,a,s,r,rfl,⟨da,ha⟩,_,rfl,?_⟩
  cases eo:s.ok r with
  | false=>
   refine aH ?_
   rw [My.Ot eo] at k
   exact k
  | true=>
   refine aI ?_
   refine⟨_,rfl,a,_,da,_,_,rfl,ha,T.aK.cl,T.aK.n,rfl,_,_,rfl,rfl,_,rfl,?_⟩
   by_cases hd:s.add<0
   ·rw [decide_eq_true hd]
    refine aH ?_
    refine⟨_,rfl,a,_,da,_,_,rfl,ha,T.aK.cl,T.aK.n,rfl,rfl,_,rfl,?_⟩
    cases el:s.lo with
    | some l=>
     refine aH ?_
     obtain⟨e1,e2⟩:=My.Ox eo hd el
     refine⟨_,rfl,_,rfl,a,_,da,_,_,rfl,ha,T.aK.cl,T.aK.n,rfl,_,l,rfl,?_,?_⟩
     ·show cJ s.lo=_
      rw [el];rfl
     refine⟨_,rfl,a,_,da,_,_,rfl,ha,T.aK.cl,T.aK.n,rfl,_,rfl,_,_,rfl,rfl,⟨by omega,hb.lo l el⟩,_,_,rfl,rfl,?_⟩
     rw [e1] at k
     have e3:((((r-l) / -s.add).toNat+1:Nat):Int)=(r-l) / -s.add+1:=by omega
     have k:Q (V.int ((((r-l) / -s.add).toNat+1:Nat):Int)) H:=k
     rw [e3] at k
     exact k
    | none=>
     refine aI ?_
     refine⟨_,rfl,a,_,da,_,_,rfl,ha,T.aK.cl,T.aK.n,rfl,_,_,rfl,rfl,_,rfl,?_⟩
     rw [decide_eq_false (show ¬ (0:Int)<s.add by omega)]
     refine aI ?_
     refine aI ?_
     rw [iK eo (fun _=>el) (fun q=>by omega)] at k
     exact k
   ·rw [decide_eq_false hd]
    refine aI ?_
    refine aI ?_
    refine⟨_,rfl,a,_,da,_,_,rfl,ha,T.aK.cl,T.aK.n,rfl,_,_,rfl,rfl,_,rfl,?_⟩
    by_cases hu:0<s.add
    ·rw [decide_eq_true hu]
     refine aH ?_
     refine⟨_,rfl,a,_,da,_,_,rfl,ha,T.aK.cl,T.aK.n,rfl,rfl,_,rfl,?_⟩
     cases eh:s.hi with
     | some u=>
      refine aH ?_
      obtain⟨e1,e2⟩:=My.Oy eo hu eh
      refine⟨_,rfl,a,_,da,_,_,rfl,ha,T.aK.cl,T.aK.n,rfl,_,rfl,u,_,?_,rfl,?_⟩
      ·show cJ s.hi=_
       rw [eh];rfl
      refine⟨_,rfl,a,_,da,_,_,rfl,ha,T.aK.cl,T.aK.n,rfl,_,_,rfl,rfl,⟨hu,hb.hi u eh⟩,_,_,rfl,rfl,?_⟩
      rw [e1] at k
      have e3:((((u-r) / s.add).toNat+1:Nat):Int)=(u-r) / s.add+1:=by omega
      have k:Q (V.int ((((u-r) / s.add).toNat+1:Nat):Int)) H:=k
      rw [e3] at k
      exact k
     | none=>
      refine aI ?_
      rw [iK eo (fun q=>by omega) (fun _=>eh)] at k
      exact k
    ·rw [decide_eq_false hu]
     refine aI ?_
     refine aI ?_
     rw [iK eo (fun q=>by omega) (fun q=>by omega)] at k
     exact k
def Kz (c:Cl):Sp:=fun vs H Q _=>∃(a l:Addr) (s:Vbdcan.Sum) (rs:List Int) (W:Nat) (G:Hp),vs=[.ref a,.ref l]/\W<=8/\aJ G H/\cM c W G a s/\H l=some (.lst (bz W rs))/\rs.length=8/\Wf s/\Tail W s /\
 (∀ k,k<W->An (My.sp s k) (aF rs k))/\∀ H' G',Gr G H G' H'->Q (cJ (d9 (often rs s))) H'
theorem t8 (T:Txt K mg c):aW P w K mg base 3 "most_times" ["once","held"] (Kz c):=by
 refine a0 T.Tt tF (fun f aw A aA s H vs Q E hr h=>?_)
 ·obtain⟨a,l,s,rs,W,G,rfl,hW,g,⟨da,la,ha,sa⟩,hl,lO,ws,ts,hm,k⟩:=h
  obtain⟨xs,fm,eY,iY⟩:=sa.get
  refine⟨_,(ag (pq 2 tF cj)
    (ag (gP PassesOwn.never rfl (nA rfl T.oo (aa (pF K 0) (aa (pv 1) ae))) (mr (K:=K) (i:=3) (j:=4) rfl tF.nd rfl (Or.inl rfl) rfl (Or.inl rfl)) (ak (pq 2 tF (pC (t7 T) hr (aa (pv 2) (aa (pC (ND T) hr (aa (pv 3) (aa (pv 4) ae))) ae))))))
    (ak (ay (pv 2))))),?_⟩
  refine⟨_,rfl,a,_,da,_,_,rfl,g _ _ ha,T.a9.cl,T.a9.n,rfl,_,rfl,la,l,xs,bz W rs,rfl,ai.of (g _ _ fm),ai.of hl,?_⟩
  refine Sz (xs:=xs) (ys:=bz W rs) (fun i σ H'=>∃(v1 v2:Option V),σ=[some (.ref a),some (.ref l),some (cJ (d9 (Vbdcan.least ((range i).map fun k=>(My.sp s k).often (aF rs k))))),v1,v2]/\Gr G H G H')
   (eY.trans (dD W rs).symm) ⟨none,none,rfl,Gr.refl g⟩ (fun i σ H1 ⟨_,_,_,g1⟩=>⟨ai.of (g1.same _ _ (g _ _ fm)),ai.of (g1.same _ _ hl)⟩) ?_ ?_
  ·rintro i x y σ H1 T1 hx hy hT ⟨v1,v2,rfl,g1⟩
   obtain⟨xa,rfl,gK⟩:=iY i x hx
   obtain⟨rfl,hi⟩:=uQ hy
   have g2:=g1.loose (o:=.tup [.ref xa,.int (aF rs i)]) hT
   refine⟨T1,_,rfl,cE.of af,rfl,_,_,rfl,_,_,rfl,rfl,?_⟩
   refine⟨_,rfl,_,rfl,_,rfl,xa,_,_,rfl,gK.mono g2.sub,hm i hi,?_⟩
   refine⟨_,_,rfl,some (.ref xa),some (.int (aF rs i)),?_,g2⟩
   rw [range_succ,map_append,List.map_singleton,My.yA]
   rfl
  ·rintro σ H1 ⟨v1,v2,rfl,g1⟩
   refine⟨_,rfl,?_⟩
   have:=k H1 G g1
   rw [My.Ov hW lO ws ts] at this
   rw [eY]
   exact this
end
open Vbdcan (Item Items)
def jH (a t r o w:V):List (Str×V):=[("action",a),("times",t),("row",r),("once",o),("whole",w)]
def Nk:List V->List (Str×V)
 |[x1,x2,x3,x4,x5]=>jH x1 x2 x3 x4 x5
 |_=>[]
mutual
def bF (c:Cl) (W:Nat) (acts:List Vbdcan.Act) (G:Hp):Addr->Item->Prop
 | a,.act i=>∃ dx r so,G a=some (.ins c.part dx (jH (.int i) (.int 1) (.ref r) (.ref so) (.ref so)))/\G r=some (.lst [])/\cM c W G so (sumItem acts (.act i))
 | a,.rep n l=>∃ dx r so sw as,G a=some (.ins c.part dx (jH .aD (.int n) (.ref r) (.ref so) (.ref sw)))/\G r=some (.lst (as.map V.ref))/\bj c W acts G as l/\cM c W G so (sumItems acts l)/\cM c W G sw (sumItem acts (.rep n l))
def bj (c:Cl) (W:Nat) (acts:List Vbdcan.Act) (G:Hp):List Addr->Items->Prop
 | as,.nil=>as=[]
 | as,.cons i r=>∃ a as',as=a::as'/\bF c W acts G a i/\bj c W acts G as' r
end
mutual
theorem bF.mono {c:Cl}{W:Nat}{acts:List Vbdcan.Act}{G G':Hp}(g:aJ G G'):∀ {a:Addr}(i:Item),bF c W acts G a i->bF c W acts G' a i
 | a,.act i,h=>by
  unfold bF at *
  obtain⟨dx,r,so,h1,h2,h3⟩:=h
  exact⟨dx,r,so,g _ _ h1,g _ _ h2,h3.mono g⟩
 | a,.rep n l,h=>by
  unfold bF at *
  obtain⟨dx,r,so,sw,as,h1,h2,h3,h4,h5⟩:=h
  exact⟨dx,r,so,sw,as,g _ _ h1,g _ _ h2,bj.mono g l h3,h4.mono g,h5.mono g⟩
theorem bj.mono {c:Cl}{W:Nat}{acts:List Vbdcan.Act}{G G':Hp}(g:aJ G G'):∀ {as:List Addr}(l:Items),bj c W acts G as l->bj c W acts G' as l
 | as,.nil,h=>by unfold bj at *;exact h
 | as,.cons i r,h=>by
  unfold bj at *
  obtain⟨a,as',e,h1,h2⟩:=h
  exact⟨a,as',e,bF.mono g i h1,bj.mono g r h2⟩
end
theorem bj.get {c:Cl}{W:Nat}{acts:List Vbdcan.Act}{G:Hp}:∀ {as:List Addr}{l:Items},bj c W acts G as l->as.length=(My.listOf l).length/\∀(k:Nat) (a:Addr),as[k]? = some a->∃ i,(My.listOf l)[k]? = some i/\bF c W acts G a i
 | as,.nil,h=>by
  unfold bj at h
  subst h
  exact⟨rfl,fun k a e=>by simp at e⟩
 | as,.cons i r,h=>by
  unfold bj at h
  obtain⟨a,as',rfl,h1,h2⟩:=h
  obtain⟨e1,e2⟩:=bj.get h2
  unfold My.listOf
  refine⟨by simp [e1],fun k b e=>?_⟩
  cases k with
  | zero=>simp at e;subst e;exact⟨i,rfl,h1⟩
  | succ k=>exact e2 k b (by simpa using e)
theorem bj.put {c:Cl}{W:Nat}{acts:List Vbdcan.Act}{G:Hp}:∀ {as:List Addr}{l:List Item},as.length=l.length->(∀(k:Nat) (a:Addr) (i:Item),as[k]? = some a->l[k]? = some i->bF c W acts G a i)->bj c W acts G as (itemsOf l)
 |[],[],_,_=>by unfold itemsOf bj;rfl
 | a::as,i::l,hl,h=>by
  unfold itemsOf bj
  refine⟨a,as,rfl,h 0 a i rfl rfl,bj.put (by simpa using hl) fun k b j e1 e2=>h (k+1) b j (by simpa using e1) (by simpa using e2)⟩
 |[],_::_,hl,_=>by simp at hl
 |_::_,[],hl,_=>by simp at hl
theorem bj.snoc {c:Cl}{W:Nat}{acts:List Vbdcan.Act}{G:Hp}{as:List Addr}{l:List Item}{a:Addr}{i:Item}(h:bj c W acts G as (itemsOf l)) (h1:bF c W acts G a i):bj c W acts G (as++[a]) (itemsOf (l++[i])):=by
 obtain⟨e1,e2⟩:=h.get
 rw [My.EW] at e1 e2
 refine bj.put (by simp [e1]) fun k b j q1 q2=>?_
 by_cases hk:k<as.length
 ·rw [getElem?_append_left hk] at q1
  rw [getElem?_append_left (by omega)] at q2
  obtain⟨j',q3,q4⟩:=e2 k b q1
  rw [q2] at q3;cases q3
  exact q4
 ·have:k=as.length:=by
   have:=(List.getElem?_eq_some_iff.mp q1).1
   simp at this;omega
  subst this
  rw [getElem?_append_right (Nat.le_refl _)] at q1
  rw [e1,getElem?_append_right (Nat.le_refl _)] at q2
  simp at q1 q2
  subst q1 q2
  exact h1
theorem bF.whole {c:Cl}{W:Nat}{acts:List Vbdcan.Act}{G:Hp}{a:Addr}{i:Item}(h:bF c W acts G a i):∃ dx x1 x2 x3 x4 sw,G a=some (.ins c.part dx (jH x1 x2 x3 x4 (.ref sw)))/\cM c W G sw (sumItem acts i):=by
 cases i with
 | act i=>
  unfold bF at h
  obtain⟨dx,r,so,h1,h2,h3⟩:=h
  exact⟨dx,_,_,_,_,so,h1,h3⟩
 | rep n l=>
  unfold bF at h
  obtain⟨dx,r,so,sw,as,h1,h2,h3,h4,h5⟩:=h
  exact⟨dx,_,_,_,_,sw,h1,h5⟩
section
theorem uv (T:Txt K mg c):iw P w K mg base 1 "Part" c.part ["self","action","times","row","once","whole"] (ml c.part 5 Nk):=by
 refine lH T.aQ L7 (fun vs H Q E h=>?_) (fun f aw A aA s H vs Q E hr h=>?_)
 ·obtain⟨p,dx,args,rfl,hl,_⟩:=h
  show args.length+1=6
  omega
 ·obtain⟨p,dx,args,rfl,hl,hp,k⟩:=h
  match args,hl,k with
  |[x1,x2,x3,x4,x5],_,k=>
  refine⟨_,(ag (bL (pv 0) (pv 1) rfl)
    (ag (bL (pv 0) (pv 2) rfl)
    (ag (bL (pv 0) (pv 3) rfl)
    (ag (bL (pv 0) (pv 4) rfl)
    (ak (bL (pv 0) (pv 5) rfl)))))),?_⟩
  refine⟨_,rfl,_,rfl,p,_,dx,_,rfl,hp,T.aQ.cl,T.aQ.n,(by show 0<1000;decide),?_⟩
  refine⟨_,rfl,_,rfl,p,_,dx,_,rfl,af,T.aQ.cl,T.aQ.n,(by show 1<1000;decide),?_⟩
  refine⟨_,rfl,_,rfl,p,_,dx,_,rfl,af,T.aQ.cl,T.aQ.n,(by show 2<1000;decide),?_⟩
  refine⟨_,rfl,_,rfl,p,_,dx,_,rfl,af,T.aQ.cl,T.aQ.n,(by show 3<1000;decide),?_⟩
  refine⟨_,rfl,_,rfl,p,_,dx,_,rfl,af,T.aQ.cl,T.aQ.n,(by show 4<1000;decide),?_⟩
  rw [bM,bM,bM,bM]
  exact k
def K6 (c:Cl):Sp:=fun vs H Q _=>∃(acts:List Vbdcan.Act) (i:Nat) (so:Addr) (W:Nat) (G:Hp),vs=[.int i,.ref so]/\aJ G H/\cM c W G so (sumItem acts (.act i))/\∀ p G' H',Gr G H G' H'->bF c W acts G' p (.act i)->Q (.ref p) H'
theorem Oo (T:Txt K mg c):aW P w K mg base 3 "action_part" ["action","total"] (K6 c):=by
 refine a0 T.Uw LU (fun f aw A aA s H vs Q E hr h=>?_)
 ·obtain⟨acts,i,so,W,G,rfl,g,hs,k⟩:=h
  refine⟨_,(ak (ay (eL (uv T) (hr.mono (by decide)) rfl (aa (pv 0) (aa aq (aa (aZ ae) (aa (pv 1) (aa (pv 1) ae)))))))),?_⟩
  refine⟨_,rfl,⟨Nat.zero_le _,fun l hl=>?_⟩⟩
  refine⟨_,rfl,_,rfl,?_⟩
  have g1:=(Gr.refl g).new (o:=.lst []) hl
  refine fun x dx n1 n2 n3=>⟨x,dx,_,rfl,rfl,af,rfl,?_⟩
  rw [bM]
  refine k _ _ _ (g1.made n1 n2 n3) ?_
  unfold bF
  have sm:=iF (C:=c.part) (fs:=jH (.int i) (.int 1) (.ref l) (.ref so) (.ref so)) g1.sub n1 n2
  exact⟨dx,l,so,af,sm _ _ af,hs.mono (g1.gg.trans sm)⟩
def Ap (f:Nat->Addr->Prop):Hp->Nat->V->Prop:=fun _ k y=>∃ a,y=.ref a/\f k a
def Ke (c:Cl):Sp:=fun vs H Q _=>∃(acts:List Vbdcan.Act) (r:Addr) (W:Nat) (as:List Addr) (l:Items) (G:Hp),vs=[.ref r,.int W]/\W<=8/\aJ G H/\H r=some (.lst (as.map V.ref))/\bj c W acts G as l/\as.length<=5000/\bX acts /\
 ∀ p G' H',Gr G H G' H'->cM c W G' p (sumItems acts l)->Q (.ref p) H'
theorem mw (T:Txt K mg c):aW P w K mg base 6 "sum_of_row" ["row","width"] (Ke c):=by
 refine a0 T.S0 wu (fun f aw A aA s H vs Q E hr h=>?_)
 ·obtain⟨acts,r,W,as,l,G,rfl,hW,g,cx,hi,hlen,ao,k⟩:=h
  obtain⟨e1,e2⟩:=hi.get
  refine⟨_,(ak (ay (pC (NW T) hr (aa (i8 (own:=[("part",2)]) rfl wu.nd (fD (pv 0)) (fF (N:=["row","width","part"]) (sc:=aC wV) (by decide +kernel)) (fun _ _ _ _ _=>(dk (i:=2) wu.nd rfl (Or.inl rfl))) (fun _ _ _ _ _=>gc) (fun _ _ _ _ _=>(pF K 2))) (aa (pv 1) ae))))),?_⟩
  refine⟨_,rfl,r,rfl,⟨_,ai.of cx⟩,fun D nD=>?_⟩
  refine kX (K:=K) (a:=r) (xs:=as.map V.ref) (Lc (Ap fun k a=>∀ i,(My.listOf l)[k]? = some i->cM c W G a (sumItem acts i)) G H D) (Lc.start g nD) (fun i H1 _ L=>?_) (fun i x H1 hx L=>?_) (fun H1 L=>?_)
  ·obtain⟨zs,G1,g1,_⟩:=L.ex
   exact ai.of (g1.same _ _ cx)
  ·obtain⟨zs,G1,g1,gD,hD,bC,hR⟩:=L.ex
   rw [getElem?_map] at hx
   cases ea:as[i]? with
   | none=>rw [ea] at hx;cases hx
   | some a=>
    rw [ea] at hx
    cases hx
    obtain⟨it,iR,hit⟩:=e2 i a ea
    obtain⟨dx,x1,x2,x3,x4,sw,h1,h2⟩:=hit.whole
    have zi:=(List.getElem?_eq_some_iff.mp ea).1
    refine⟨rfl,_,rfl,a,_,dx,_,_,rfl,g1.same _ _ (g _ _ h1),T.aQ.cl,T.aQ.n,rfl,?_⟩
    exact Lc.turn (R:=Ap fun k a=>∀ i,(My.listOf l)[k]? = some i->cM c W G a (sumItem acts i)) (fun _ h=>h) nD g1 gD hD bC hR (Gr.refl g1.sub) ⟨sw,rfl,fun j ej=>by rw [iR] at ej;cases ej;exact h2⟩ (by omega)
  ·obtain⟨zs,G1,g1,hD,bC,hR⟩:=Lc.done (R:=Ap fun k a=>∀ i,(My.listOf l)[k]? = some i->cM c W G a (sumItem acts i)) (fun _ h=>h) nD L
   obtain⟨bs,rfl⟩:=tQ fun k y e=>let ⟨a,q,_⟩:=hR k y e;⟨a,q⟩
   rw [length_map,length_map] at bC
   refine⟨_,rfl,D,W,bs,(My.listOf l).map (sumItem acts),G1,rfl,hW,g1.sub,g1.sub _ _ hD,⟨by simp [bC,e1],fun k a s q1 q2=>?_⟩,fun s hs=>?_,fun p G2 H2 g2 hp=>?_⟩
   ·rw [getElem?_map] at q2
    cases ei:(My.listOf l)[k]? with
    | none=>rw [ei] at q2;cases q2
    | some i=>
     rw [ei] at q2
     cases q2
     obtain⟨a',q3,q4⟩:=hR k (.ref a) (by rw [getElem?_map,q1];rfl)
     cases q3
     exact(q4 i ei).mono g1.gg
   ·obtain⟨i,_,rfl⟩:=mem_map.mp hs
    exact(cU ao i).1
   ·rw [My.Vt ao,gJ] at hp
    exact k p G2 H2 (g1.trans g2) hp
def Bj (c:Cl):Sp:=fun vs H Q _=>∃(acts:List Vbdcan.Act) (n:Nat) (r so:Addr) (W:Nat) (as:List Addr) (l:Items) (G:Hp),vs=[.int n,.ref r,.ref so]/\W<=8/\aJ G H/\G r=some (.lst (as.map V.ref))/\bj c W acts G as l /\
 cM c W G so (sumItems acts l)/\bX acts/\(n≠0->mS W n (sumItems acts l))/\∀ p G' H',Gr G H G' H'->bF c W acts G' p (.rep n l)->Q (.ref p) H'
theorem D6 (T:Txt K mg c):aW P w K mg base 6 "repeat_with_sum" ["times","row","once"] (Bj c):=by
 refine a0 T.Tf LA (fun f aw A aA s H vs Q E hr h=>?_)
 ·obtain⟨acts,n,r,so,W,as,l,G,rfl,hW,g,cx,hi,hs,ao,hb,k⟩:=h
  refine⟨_,(ak (ay (eL (uv T) (hr.mono (by decide)) rfl (aa cj (aa (pv 0) (aa (pv 1) (aa (pv 2) (aa (pC (NJ T) hr (aa (pv 2) (aa (pv 0) ae))) ae)))))))),?_⟩
  refine⟨_,rfl,_,rfl,_,rfl,_,rfl,_,rfl,so,n,_,W,G,rfl,hW,g,hs,(bU ao l).1,hb,fun q G1 H1 g1 hq=>?_⟩
  refine fun x dx n1 n2 n3=>⟨x,dx,_,rfl,rfl,af,rfl,?_⟩
  rw [bM]
  refine k _ _ _ (g1.made n1 n2 n3) ?_
  unfold bF
  have sm:=iF (C:=c.part) (fs:=jH .aD (.int n) (.ref r) (.ref so) (.ref q)) g1.sub n1 n2
  refine⟨dx,r,so,q,as,af,sm _ _ (g1.gg _ _ cx),bj.mono (g1.gg.trans sm) l hi,hs.mono (g1.gg.trans sm),?_⟩
  have e:sumItem acts (.rep n l)=repSum n (sumItems acts l):=by rw [sumItem]
  rw [e]
  exact hq.mono sm
def Kr (c:Cl):Sp:=fun vs H Q _=>∃(acts:List Vbdcan.Act) (n:Nat) (r:Addr) (W:Nat) (as:List Addr) (l:Items) (G:Hp),vs=[.int n,.ref r,.int W]/\W<=8/\aJ G H/\G r=some (.lst (as.map V.ref))/\bj c W acts G as l/\as.length<=5000/\bX acts /\
 (n≠0->mS W n (sumItems acts l))/\∀ p G' H',Gr G H G' H'->bF c W acts G' p (.rep n l)->Q (.ref p) H'
theorem NK (T:Txt K mg c):aW P w K mg base 7 "repeat_part" ["times","row","width"] (Kr c):=by
 refine a0 T.Tg LB (fun f aw A aA s H vs Q E hr h=>?_)
 ·obtain⟨acts,n,r,W,as,l,G,rfl,hW,g,cx,hi,hlen,ao,hb,k⟩:=h
  refine⟨_,(ak (ay (pC (D6 T) hr (aa (pv 0) (aa (pv 1) (aa (pC (mw T) hr (aa (pv 1) (aa (pv 2) ae))) ae)))))),?_⟩
  refine⟨_,rfl,_,rfl,_,rfl,_,rfl,acts,r,W,as,l,G,rfl,hW,g,g _ _ cx,hi,hlen,ao,fun q G1 H1 g1 hq=>?_⟩
  exact⟨acts,n,r,q,W,as,l,G1,rfl,hW,g1.sub,g1.gg _ _ cx,bj.mono g1.gg l hi,hq,ao,hb,fun p G2 H2 g2 hp=>k p G2 H2 (g1.trans g2) hp⟩
def ll (c:Cl) (W:Nat) (acts:List Vbdcan.Act) (G:Hp) (a:Addr) (l:Items):Prop:=∃ dx r so as,G a=some (.ins c.part dx (jH .aD .aD (.ref r) (.ref so) .aD))/\G r=some (.lst (as.map V.ref))/\bj c W acts G as l/\cM c W G so (sumItems acts l)
theorem ll.mono {c:Cl}{W:Nat}{acts:List Vbdcan.Act}{G G':Hp}{a:Addr}{l:Items}(g:aJ G G') (h:ll c W acts G a l):ll c W acts G' a l:=
 let ⟨dx,r,so,as,h1,h2,h3,h4⟩:=h;⟨dx,r,so,as,g _ _ h1,g _ _ h2,bj.mono g l h3,h4.mono g⟩
def Ki (c:Cl):Sp:=fun vs H Q _=>∃(acts:List Vbdcan.Act) (r:Addr) (W:Nat) (as:List Addr) (l:Items) (G:Hp),vs=[.ref r,.int W]/\W<=8/\aJ G H/\G r=some (.lst (as.map V.ref))/\bj c W acts G as l/\as.length<=5000/\bX acts /\
 ∀ p G' H',Gr G H G' H'->ll c W acts G' p l->Q (.ref p) H'
theorem NC (T:Txt K mg c):aW P w K mg base 7 "star_part" ["row","width"] (Ki c):=by
 refine a0 T.S6 Lv (fun f aw A aA s H vs Q E hr h=>?_)
 ·obtain⟨acts,r,W,as,l,G,rfl,hW,g,cx,hi,hlen,ao,k⟩:=h
  refine⟨_,(ak (ay (eL (uv T) (hr.mono (by decide)) rfl (aa cj (aa cj (aa (pv 0) (aa (pC (mw T) hr (aa (pv 0) (aa (pv 1) ae))) (aa cj ae)))))))),?_⟩
  refine⟨_,rfl,_,rfl,_,rfl,acts,r,W,as,l,G,rfl,hW,g,g _ _ cx,hi,hlen,ao,fun q G1 H1 g1 hq=>?_⟩
  refine fun x dx n1 n2 n3=>⟨x,dx,_,rfl,rfl,af,rfl,?_⟩
  rw [bM]
  have sm:=iF (C:=c.part) (fs:=jH .aD .aD (.ref r) (.ref q) .aD) g1.sub n1 n2
  exact k _ _ _ (g1.made n1 n2 n3) ⟨dx,r,q,as,af,sm _ _ (g1.gg _ _ cx),bj.mono (g1.gg.trans sm) l hi,hq.mono sm⟩
end
def bD (t:List Nat):List V:=t.map fun(n:Nat)=>V.int (n:Int)
theorem fX (t:List Nat):(bD t).length=t.length:=by unfold bD;simp
theorem vN {t:List Nat}{k:Nat}(h:k<t.length):(bD t)[k]? = some (.int t[k]):=by
 unfold bD
 rw [getElem?_map,getElem?_eq_getElem h]
 rfl
theorem se {t:List Nat}{k:Nat}(h:k<t.length):lY (bD t) (k:Int)=some (.int t[k]):=bS (vN h)
section
def Bl (lo hi:Int):Sp:=fun vs H Q _=>∃ b:Int,vs=[.int b]/\Q (.bl (decide (lo<=b/\b<=hi))) H
theorem vm {lo hi b:Int}{Q:VK}{H:Hp}(k:Q (.bl (decide (lo<=b/\b<=hi))) H):if decide (lo<=b)=true then Q (.bl (decide (b<=hi))) H else Q (.bl false) H:=by
 by_cases h:lo<=b
 ·rw [decide_eq_true h,if_pos rfl]
  have e:decide (lo<=b/\b<=hi)=decide (b<=hi):=by simp [h]
  rw [e] at k
  exact k
 ·rw [decide_eq_false h,if_neg Bool.false_ne_true]
  have e:decide (lo<=b/\b<=hi)=false:=by simp [h]
  rw [e] at k
  exact k
theorem xU (T:Txt K mg c):aW P w K mg base 1 "is_small_letter" ["byte"] (Bl 97 122):=by
 refine a0 T.Tz LI (fun f aw A aA s H vs Q E hr h=>?_)
 ·obtain⟨b,rfl,k⟩:=h
  refine⟨_,(ak (ay (nE dQ dQ aq (pv 0) aq))),?_⟩
  refine⟨_,rfl,_,_,rfl,rfl,_,rfl,?_⟩
  refine gT (fun q=>?_) (fun q=>?_)
  ·have:=vm k
   rw [if_pos q] at this
   exact⟨_,_,rfl,rfl,this⟩
  ·have:=vm k
   rw [if_neg q] at this
   exact this
theorem Eb (T:Txt K mg c):aW P w K mg base 1 "is_digit" ["byte"] (Bl 48 57):=by
 refine a0 T.TL LN (fun f aw A aA s H vs Q E hr h=>?_)
 ·obtain⟨b,rfl,k⟩:=h
  refine⟨_,(ak (ay (nE dQ dQ aq (pv 0) aq))),?_⟩
  refine⟨_,rfl,_,_,rfl,rfl,_,rfl,?_⟩
  refine gT (fun q=>?_) (fun q=>?_)
  ·have:=vm k
   rw [if_pos q] at this
   exact⟨_,_,rfl,rfl,this⟩
  ·have:=vm k
   rw [if_neg q] at this
   exact this
theorem Hr (n:Nat):decide ((97:Int)<=(n:Int)/\(n:Int)<=122)=Vbdcan.small n:=by
 unfold Vbdcan.small
 rw [Bool.eq_iff_iff,decide_eq_true_eq,decide_eq_true_eq]
 omega
theorem rW (n:Nat):decide ((48:Int)<=(n:Int)/\(n:Int)<=57)=digit n:=by
 unfold digit
 rw [Bool.eq_iff_iff,decide_eq_true_eq,decide_eq_true_eq]
 omega
def Bk (p:Nat->Bool):Sp:=fun vs H Q _=>∃(l:Addr) (t:List Nat) (st:Nat),vs=[.ref l,.int st]/\H l=some (.lst (bD t))/\st<=t.length/\Q (.int ((st+((t.drop st).takeWhile p).length:Nat):Int)) H
theorem NT (T:Txt K mg c):aW P w K mg base 2 "end_of_name" ["text","start"] (Bk Vbdcan.small):=by
 refine a0 T.TQ wG (fun f aw A aA s H vs Q E hr h=>?_)
 ·obtain⟨l,t,st,rfl,hl,eZ,k⟩:=h
  refine⟨_,(ag (pq 2 wG (pv 1))
    (ag (mn PassesOwn.never (PW.pt (lF (aT eO (pv 2) (bJ cC (by rfl) T.cB PySem.boot_len (aa (pv 0) ae)) (aO _)) (lE (cO (pC (xU T) hr (aa (bH bQ (pv 0) (pv 2) (fun _ _=>rfl)) ae)))))) (ak (jE (i:=2) wG.nd rfl (Or.inl rfl) aq lK)))
    (ak (ay (pv 2))))),?_⟩
  refine⟨_,rfl,?_⟩
  refine⟨fun m σ H'=>H'=H/\∃ e:Nat,σ=[some (.ref l),some (.int st),some (.int e)]/\e<=t.length/\m=t.length-e/\st+((t.drop st).takeWhile Vbdcan.small).length=e+((t.drop e).takeWhile Vbdcan.small).length,⟨_,rfl,st,rfl,eZ,rfl,rfl⟩,?_⟩
  rintro m σ H' ⟨rfl,e,rfl,he,rfl,inv⟩
  refine⟨_,rfl,_,rfl,l,_,rfl,.inl (ai.of hl),_,_,rfl,rfl,_,rfl,?_⟩
  rw [fX]
  by_cases bR:e<t.length
  ·rw [decide_eq_true (show(e:Int)<(t.length:Int) by omega)]
   refine aH ?_
   refine⟨_,rfl,_,rfl,l,_,_,_,rfl,rfl,ai.of hl,se bR,_,rfl,_,rfl,?_⟩
   rw [Hr]
   have tw:=jA (p:=Vbdcan.small) bR
   cases hp:Vbdcan.small t[e] with
   | true=>
    rw [if_pos hp] at tw
    refine aH ⟨fun σ' H''=>H''=H'/\σ'=[some (.ref l),some (.int st),some (.int ((e+1:Nat):Int))],fun σ' H'' q=>?_,?_⟩
    ·obtain⟨rfl,rfl⟩:=q
     exact⟨t.length-(e+1),by omega,rfl,e+1,rfl,by omega,rfl,by omega⟩
    ·exact⟨_,rfl,_,_,rfl,rfl,rfl,rfl⟩
   | false=>
    rw [if_neg (by rw [hp];decide)] at tw
    refine aI ⟨_,rfl,?_⟩
    have e1:st+((t.drop st).takeWhile Vbdcan.small).length=e:=by omega
    rw [e1] at k
    exact k
  ·rw [decide_eq_false (show ¬ (e:Int)<(t.length:Int) by omega)]
   refine aI ?_
   refine aI ⟨_,rfl,?_⟩
   have e0:e=t.length:=by omega
   have e1:st+((t.drop st).takeWhile Vbdcan.small).length=e:=by
    rw [inv,e0,drop_length];rfl
   rw [e1] at k
   exact k
theorem NS (T:Txt K mg c):aW P w K mg base 2 "end_of_numeral" ["text","start"] (Bk digit):=by
 refine a0 T.TN wF (fun f aw A aA s H vs Q E hr h=>?_)
 ·obtain⟨l,t,st,rfl,hl,eZ,k⟩:=h
  refine⟨_,(ag (pq 2 wF (pv 1))
    (ag (mn PassesOwn.never (PW.pt (lF (aT eO (pv 2) (bJ cC (by rfl) T.cB PySem.boot_len (aa (pv 0) ae)) (aO _)) (lE (cO (pC (Eb T) hr (aa (bH bQ (pv 0) (pv 2) (fun _ _=>rfl)) ae)))))) (ak (jE (i:=2) wF.nd rfl (Or.inl rfl) aq lK)))
    (ak (ay (pv 2))))),?_⟩
  refine⟨_,rfl,?_⟩
  refine⟨fun m σ H'=>H'=H/\∃ e:Nat,σ=[some (.ref l),some (.int st),some (.int e)]/\e<=t.length/\m=t.length-e/\st+((t.drop st).takeWhile digit).length=e+((t.drop e).takeWhile digit).length,⟨_,rfl,st,rfl,eZ,rfl,rfl⟩,?_⟩
  rintro m σ H' ⟨rfl,e,rfl,he,rfl,inv⟩
  refine⟨_,rfl,_,rfl,l,_,rfl,.inl (ai.of hl),_,_,rfl,rfl,_,rfl,?_⟩
  rw [fX]
  by_cases bR:e<t.length
  ·rw [decide_eq_true (show(e:Int)<(t.length:Int) by omega)]
   refine aH ?_
   refine⟨_,rfl,_,rfl,l,_,_,_,rfl,rfl,ai.of hl,se bR,_,rfl,_,rfl,?_⟩
   rw [rW]
   have tw:=jA (p:=digit) bR
   cases hp:digit t[e] with
   | true=>
    rw [if_pos hp] at tw
    refine aH ⟨fun σ' H''=>H''=H'/\σ'=[some (.ref l),some (.int st),some (.int ((e+1:Nat):Int))],fun σ' H'' q=>?_,?_⟩
    ·obtain⟨rfl,rfl⟩:=q
     exact⟨t.length-(e+1),by omega,rfl,e+1,rfl,by omega,rfl,by omega⟩
    ·exact⟨_,rfl,_,_,rfl,rfl,rfl,rfl⟩
   | false=>
    rw [if_neg (by rw [hp];decide)] at tw
    refine aI ⟨_,rfl,?_⟩
    have e1:st+((t.drop st).takeWhile digit).length=e:=by omega
    rw [e1] at k
    exact k
  ·rw [decide_eq_false (show ¬ (e:Int)<(t.length:Int) by omega)]
   refine aI ?_
   refine aI ⟨_,rfl,?_⟩
   have e0:e=t.length:=by omega
   have e1:st+((t.drop st).takeWhile digit).length=e:=by
    rw [inv,e0,drop_length];rfl
   rw [e1] at k
   exact k
def J6:Sp:=fun vs H Q _=>∃(l:Addr) (d:List Nat),vs=[.ref l]/\H l=some (.lst (bD d))/\(∀ x∈d,48<=x)/\Q (.int (Vbdcan.number d)) H
theorem D1 (T:Txt K mg c):aW P w K mg base 1 "worth" ["digits"] J6:=by
 refine a0 T.SQ tD (fun f aw A aA s H vs Q E hr h=>?_)
 ·obtain⟨l,d,rfl,hl,hd,k⟩:=h
  refine⟨_,(ag (pq 1 tD aq)
    (ag (gP PassesOwn.never rfl (fD (pv 0)) (dk (i:=2) tD.nd rfl (Or.inl rfl)) (ak (pq 1 tD (bA lG (bA dM (bA kQ (pv 1) aq) (pv 2)) aq))))
    (ak (ay (pv 1))))),?_⟩
  refine⟨_,rfl,l,rfl,⟨_,ai.of hl⟩,lj (K:=K) (a:=l) (xs:=bD d) (fun i σ H'=>H'=H/\∃ v:Option V,σ=[some (.ref l),some (.int (Vbdcan.number (d.take i))),v]) ⟨rfl,none,rfl⟩ (fun i σ H' _ ⟨e,_⟩=>by rw [e];exact ai.of hl) ?_ ?_⟩
  ·rintro i x σ H' hx ⟨rfl,v,rfl⟩
   have hi:i<d.length:=by
    have:=(List.getElem?_eq_some_iff.mp hx).1
    rw [fX] at this
    exact this
   rw [vN hi] at hx
   cases hx
   refine⟨_,rfl,_,_,rfl,rfl,.inl (.inr ⟨by omega,by omega⟩),_,rfl,_,_,rfl,rfl,_,_,rfl,rfl,rfl,some (.int d[i]),?_⟩
   have e:Vbdcan.number (d.take (i+1))=10*Vbdcan.number (d.take i)+(d[i]-48):=by
    unfold Vbdcan.number
    rw [zI (getElem?_eq_getElem hi)]
   have XF:=hd d[i] (getElem_mem hi)
   rw [e]
   have e2:((10*Vbdcan.number (d.take i)+(d[i]-48):Nat):Int)=(Vbdcan.number (d.take i):Int)*10+(d[i]:Int)-48:=by omega
   rw [e2]
   rfl
  ·rintro σ H' ⟨rfl,v,rfl⟩
   rw [fX,take_length]
   exact⟨_,rfl,k⟩
def KO:Sp:=fun vs H Q _=>∃(l:Addr) (d:List Nat),vs=[.ref l]/\H l=some (.lst (bD d))/\(∀ x∈d,48<=x)/\d≠[]/\Q (.bl (isNumeral d)) H
theorem NQ (T:Txt K mg c):aW P w K mg base 2 "is_numeral" ["digits"] KO:=by
 refine a0 T.TJ LM (fun f aw A aA s H vs Q E hr h=>?_)
 ·obtain⟨l,d,rfl,hl,hd,h0,k⟩:=h
  have rB:0<d.length:=List.length_pos_iff.mpr h0
  have hh:d.head? = some d[0]:=by
   match d,h0 with
   | a::r,_=>rfl
  have Xv:(toString (1000000000:Int):String).length=10:=by decide +kernel
  refine⟨_,(ag (aX (aT dJ (bH bQ (pv 0) aq (fun _ _=>rfl)) aq (aO _)) (ak (ay (ie dJ (bJ cC (by rfl) T.cB PySem.boot_len (aa (pv 0) ae)) aq (aO _)))) aY)
    (ak (ay (oV (ie dQ (bJ cC (by rfl) T.cB PySem.boot_len (aa (pv 0) ae)) (bJ VC (by rfl) T.cB PySem.boot_len (aa (tY VB (by rfl) T.V5 VW (aa (bP rfl T.vp) ae)) ae)) (aO _)) (mv (ie dQ (pC (D1 T) hr (aa (pv 0) ae)) (bP rfl T.vp) (aO _))))))),?_⟩
  refine⟨_,rfl,l,_,0,_,rfl,rfl,ai.of hl,se (k:=0) rB,rfl,_,rfl,?_⟩
  unfold isNumeral at k
  rw [hh] at k
  refine gT (fun q=>?_) (fun q=>?_)
  ·have q:V.int d[0]=V.int 48:=of_decide_eq_true q
   have q:d[0]=48:=by injection q with q;omega
   rw [q,if_pos rfl] at k
   refine⟨_,rfl,l,_,rfl,.inl (ai.of hl),rfl,?_⟩
   rw [fX]
   have e:decide (V.int (d.length:Int)=V.int 1)=decide (d.length=1):=by
    rw [Bool.eq_iff_iff,decide_eq_true_eq,decide_eq_true_eq]
    exact⟨fun z=>by injection z with z;omega,fun z=>by rw [z];rfl⟩
   rw [e]
   exact k
  ·have q:d[0]≠48:=fun z=>q (by rw [z];rfl)
   rw [if_neg (fun z=>q (Option.some.inj z))] at k
   refine⟨_,rfl,l,_,rfl,.inl (ai.of hl),_,rfl,(by decide +kernel),_,rfl,(by decide +kernel),_,_,rfl,rfl,_,rfl,?_⟩
   rw [fX]
   have UY:((Str.ofString (toString (1000000000:Int))).length:Int)=10:=by decide +kernel
   rw [UY]
   refine gT (fun q2=>?_) (fun q2=>?_)
   ·have q2:(d.length:Int)<=10:=of_decide_eq_true q2
    have e:decide (d.length<=10)=true:=decide_eq_true (by omega)
    rw [e,Bool.true_and] at k
    refine⟨_,rfl,l,d,rfl,hl,hd,_,_,rfl,rfl,?_⟩
    have e2:decide ((Vbdcan.number d:Int)<=1000000000)=decide (Vbdcan.number d<=MOST):=by
     rw [Bool.eq_iff_iff,decide_eq_true_eq,decide_eq_true_eq]
     unfold MOST
     omega
    rw [←e2] at k
    exact k
   ·have q2:¬ (d.length:Int)<=10:=fun z=>q2 (decide_eq_true z)
    have e:decide (d.length<=10)=false:=decide_eq_false (by omega)
    rw [e,Bool.false_and] at k
    exact k
def fJ:Sg->Str
 | .name=>"name"
 | .num=>"numeral"
 | .op=>"("
 | .cl=>")"
 | .star=>"*"
 | .fz=>"wrong"
def oG (x:bY) (l:Addr):List (Str×V):=[("sign",.str (fJ x.sg)),("place",.int x.pl),("letters",.ref l)]
def Ju:List V->List (Str×V)
 |[x1,x2,x3]=>[("sign",x1),("place",x2),("letters",x3)]
 |_=>[]
def kH (c:Cl) (G:Hp) (a:Addr) (x:bY):Prop:=∃ dx l,G a=some (.ins c.token dx (oG x l))/\G l=some (.lst (bD x.ls))
theorem kH.mono {c:Cl}{G G':Hp}{a:Addr}{x:bY}(h:kH c G a x) (g:aJ G G'):kH c G' a x:=let ⟨dx,l,e1,e2⟩:=h;⟨dx,l,g _ _ e1,g _ _ e2⟩
theorem yp (T:Txt K mg c):iw P w K mg base 1 "Token" c.token ["self","sign","place","letters"] (ml c.token 3 Ju):=by
 refine lH T.cW LV (fun vs H Q E h=>?_) (fun f aw A aA s H vs Q E hr h=>?_)
 ·obtain⟨p,dx,args,rfl,hl,_⟩:=h
  show args.length+1=4
  omega
 ·obtain⟨p,dx,args,rfl,hl,hp,k⟩:=h
  match args,hl,k with
  |[x1,x2,x3],_,k=>
  refine⟨_,(ag (bL (pv 0) (pv 1) rfl)
    (ag (bL (pv 0) (pv 2) rfl)
    (ak (bL (pv 0) (pv 3) rfl)))),?_⟩
  refine⟨_,rfl,_,rfl,p,_,dx,_,rfl,hp,T.cW.cl,T.cW.n,(by show 0<1000;decide),?_⟩
  refine⟨_,rfl,_,rfl,p,_,dx,_,rfl,af,T.cW.cl,T.cW.n,(by show 1<1000;decide),?_⟩
  refine⟨_,rfl,_,rfl,p,_,dx,_,rfl,af,T.cW.cl,T.cW.n,(by show 2<1000;decide),?_⟩
  rw [bM,bM]
  exact k
theorem Hz {t:List Nat}{st:Nat}{p:Nat->Bool}(h:st<=t.length):iq (bD t) (some (st:Int)) (some ((st+((t.drop st).takeWhile p).length:Nat):Int))=bD ((t.drop st).takeWhile p):=by
 have hle:((t.drop st).takeWhile p).length<=(t.drop st).length:=(takeWhile_prefix _).length_le
 rw [length_drop] at hle
 unfold iq
 rw [HT.oR,HT.oR,fX,Nat.min_eq_left h,Nat.min_eq_left (by omega),Nat.add_sub_cancel_left]
 unfold bD
 rw [←List.map_drop,←List.map_take]
 congr 1
 exact(List.prefix_iff_eq_take.mp (takeWhile_prefix p)).symm
def Ka (c:Cl):Sp:=fun vs H Q _=>∃(l:Addr) (t:List Nat) (st:Nat) (G:Hp),vs=[.ref l,.int st]/\aJ G H/\H l=some (.lst (bD t))/\st<t.length/\∀ p G' H',Gr G H G' H'->kH c G' p (bO (st+1) (t.drop st))->Q (.ref p) H'
theorem Nv (T:Txt K mg c):aW P w K mg base 3 "token_at" ["text","start"] (Ka c):=by
 refine a0 T.SW wq (fun f aw A aA s H vs Q E hr h=>?_)
 ·obtain⟨l,t,st,G,rfl,g,hl,eZ,k⟩:=h
  have hh:(t.drop st).headD 0=t[st]:=by rw [drop_cons eZ];rfl
  refine⟨_,(ag (pq 2 wq (bH bQ (pv 0) (pv 1) (fun _ _=>rfl)))
    (ag (aX (cO (pC (xU T) hr (aa (pv 2) ae))) (ak (ay (eL (yp T) (hr.mono (by decide)) rfl (aa (ic rfl T.z8) (aa (bA dM (pv 1) aq) (aa (oU oK (pv 0) (kO (pv 1)) (kO (pC (NT T) hr (aa (pv 0) (aa (pv 1) ae))))) ae)))))) aY)
    (ag (aX (cO (pC (Eb T) hr (aa (pv 2) ae))) (ag (pq 3 wq (oU oK (pv 0) (kO (pv 1)) (kO (pC (NS T) hr (aa (pv 0) (aa (pv 1) ae))))))
     (ak (ay (eL (yp T) (hr.mono (by decide)) rfl (aa (i9 (cO (pC (NQ T) hr (aa (pv 3) ae))) (ic rfl T.z7) (ic rfl T.HF)) (aa (bA dM (pv 1) aq) (aa (pv 3) ae))))))) aY)
    (ak (ay (eL (yp T) (hr.mono (by decide)) rfl (aa (M6 rfl T.VE T.Ve (pv 2) (ic rfl T.HF) ⟨rfl,by rfl,by rfl,by rfl⟩) (aa (bA dM (pv 1) aq) (aa (aZ (aa (pv 2) ae)) ae))))))))),?_⟩
  refine⟨_,rfl,_,rfl,l,_,_,_,rfl,rfl,ai.of hl,se eZ,?_⟩
  refine⟨_,rfl,_,rfl,_,rfl,?_⟩
  rw [Hr]
  cases hs:Vbdcan.small t[st] with
  | true=>
   refine aH ?_
   refine⟨_,rfl,_,_,rfl,rfl,_,rfl,_,rfl,st,rfl,_,rfl,_,rfl,l,t,st,rfl,hl,by omega,_,rfl,l,_,rfl,ai.of hl,fun q nq=>?_⟩
   rw [Hz (by omega)]
   have g1:=(Gr.refl g).new (o:=.lst (bD ((t.drop st).takeWhile Vbdcan.small))) nq
   refine fun x dx n1 n2 n3=>⟨x,dx,_,rfl,rfl,af,rfl,?_⟩
   rw [bM]
   have e:bO (st+1) (t.drop st)=⟨.name,st+1,(t.drop st).takeWhile Vbdcan.small⟩:=by
    unfold bO;simp only [hh,hs,if_true]
   rw [e] at k
   have sm:=iF (C:=c.token) (fs:=oG ⟨.name,st+1,(t.drop st).takeWhile Vbdcan.small⟩ q) g1.sub n1 n2
   exact k _ _ _ (g1.made n1 n2 n3) ⟨dx,q,af,sm _ _ af⟩
  | false=>
   refine aI ?_
   refine⟨_,rfl,_,rfl,_,rfl,?_⟩
   rw [rW]
   cases hd:digit t[st] with
   | true=>
    refine aH ?_
    refine⟨_,rfl,_,rfl,st,rfl,_,rfl,_,rfl,l,t,st,rfl,hl,by omega,_,rfl,l,_,rfl,ai.of hl,fun q nq=>?_⟩
    rw [Hz (by omega)]
    have g1:=(Gr.refl g).new (o:=.lst (bD ((t.drop st).takeWhile digit))) nq
    have RH:∀ x∈(t.drop st).takeWhile digit,48<=x:=fun x hx=>by
     have:=My.all_takeWhile _ x hx
     unfold digit at this
     simp at this
     omega
    have dw:(t.drop st).takeWhile digit≠[]:=by
     rw [drop_cons eZ,takeWhile_cons_of_pos hd];simp
    refine⟨_,rfl,q,_,rfl,af,RH,dw,_,rfl,?_⟩
    have e:bO (st+1) (t.drop st)=⟨if isNumeral ((t.drop st).takeWhile digit)=true then .num else .fz,st+1,(t.drop st).takeWhile digit⟩:=by
     unfold bO;simp only [hh,hs,hd,if_true];rfl
    rw [e] at k
    refine gT (fun hn=>?_) (fun hn=>?_)
    ·rw [if_pos hn] at k
     refine⟨_,rfl,_,_,rfl,rfl,_,rfl,?_⟩
     refine fun x dx n1 n2 n3=>⟨x,dx,_,rfl,rfl,af,rfl,?_⟩
     rw [bM]
     have sm:=iF (C:=c.token) (fs:=oG ⟨.num,st+1,(t.drop st).takeWhile digit⟩ q) g1.sub n1 n2
     exact k _ _ _ (g1.made n1 n2 n3) ⟨dx,q,af,sm _ _ af⟩
    ·rw [if_neg hn] at k
     refine⟨_,rfl,_,_,rfl,rfl,_,rfl,?_⟩
     refine fun x dx n1 n2 n3=>⟨x,dx,_,rfl,rfl,af,rfl,?_⟩
     rw [bM]
     have sm:=iF (C:=c.token) (fs:=oG ⟨.fz,st+1,(t.drop st).takeWhile digit⟩ q) g1.sub n1 n2
     exact k _ _ _ (g1.made n1 n2 n3) ⟨dx,q,af,sm _ _ af⟩
   | false=>
    refine aI ?_
    refine⟨_,rfl,.inl (t[st]:Int),rfl,?_⟩
    refine⟨_,rfl,_,_,rfl,rfl,?_⟩
    refine⟨_,rfl,⟨by show 1<=sizeLine;decide,fun q nq=>?_⟩⟩
    have g1:=(Gr.refl g).new (o:=.lst (bD [t[st]])) nq
    refine fun x dx n1 n2 n3=>⟨x,dx,_,rfl,rfl,af,rfl,?_⟩
    rw [bM]
    have e:bO (st+1) (t.drop st)=⟨signOf t[st],st+1,[t[st]]⟩:=by
     unfold bO;simp only [hh,hs,hd];rfl
    rw [e] at k
    have es:(dc ([(.inl 40,.str "("),(.inl 41,.str ")"),(.inl 42,.str "*")]:List (Key×V)) (.inl (t[st]:Int))).getD (.str "wrong")=.str (fJ (signOf t[st])):=by
     unfold signOf
     by_cases dS:t[st]=40
     ·rw [dS];rfl
     by_cases lT:t[st]=41
     ·rw [lT];rfl
     by_cases lS:t[st]=42
     ·rw [lS];rfl
     rw [if_neg dS,if_neg lT,if_neg lS]
     have n0:dc ([(.inl 40,.str "("),(.inl 41,.str ")"),(.inl 42,.str "*")]:List (Key×V)) (.inl (t[st]:Int))=none:=by
      unfold dc
      rw [find?_cons_of_neg,find?_cons_of_neg,find?_cons_of_neg]
      ·rfl
      ·simp;omega
      ·simp;omega
      ·simp;omega
     rw [n0];rfl
    have sm:=iF (C:=c.token) (fs:=oG ⟨signOf t[st],st+1,[t[st]]⟩ q) g1.sub n1 n2
    have gm:=g1.made (C:=c.token) (fs:=oG ⟨signOf t[st],st+1,[t[st]]⟩ q) n1 n2 n3
    have fin:=k x _ _ gm ⟨dx,q,af,sm _ _ af⟩
    rw [es]
    exact fin
end
structure Al {α:Type}(R:Addr->α->Prop) (as:List Addr) (xs:List α):Prop where
 len:as.length=xs.length
 at_:∀(k:Nat) (a:Addr) (x:α),as[k]? = some a->xs[k]? = some x->R a x
theorem Al.nil {α:Type}{R:Addr->α->Prop}:Al R [] []:=⟨rfl,fun k a x h _=>by simp at h⟩
theorem Al.imp {α:Type}{R R':Addr->α->Prop}{as:List Addr}{xs:List α}(h:Al R as xs) (i:∀ a x,R a x->R' a x):Al R' as xs:=⟨h.len,fun k a x e1 e2=>i a x (h.at_ k a x e1 e2)⟩
theorem Al.snoc {α:Type}{R:Addr->α->Prop}{as:List Addr}{xs:List α}{a:Addr}{x:α}(h:Al R as xs) (hx:R a x):Al R (as++[a]) (xs++[x]):=by
 refine⟨by simp [h.len],fun k b y q1 q2=>?_⟩
 by_cases hk:k<as.length
 ·rw [getElem?_append_left hk] at q1
  rw [getElem?_append_left (by rw [←h.len];exact hk)] at q2
  exact h.at_ k b y q1 q2
 ·have:k=as.length:=by
   have:=(List.getElem?_eq_some_iff.mp q1).1
   simp at this;omega
  subst this
  rw [getElem?_append_right (Nat.le_refl _)] at q1
  rw [h.len,getElem?_append_right (Nat.le_refl _)] at q2
  simp at q1 q2
  subst q1 q2
  exact hx
theorem Al.get {α:Type}{R:Addr->α->Prop}{as:List Addr}{xs:List α}(h:Al R as xs){k:Nat}{a:Addr}(e:as[k]? = some a):∃ x,xs[k]? = some x/\R a x:=by
 have hk:k<xs.length:=by rw [←h.len];exact(List.getElem?_eq_some_iff.mp e).1
 exact⟨xs[k],getElem?_eq_getElem hk,h.at_ k a _ e (getElem?_eq_getElem hk)⟩
theorem i4 {as:List Addr}{k:Nat}{x:V}(h:(as.map V.ref)[k]? = some x):∃ a,as[k]? = some a/\x=.ref a:=by
 rw [getElem?_map] at h
 cases e:as[k]? with
 | none=>rw [e] at h;cases h
 | some a=>rw [e] at h;cases h;exact⟨a,rfl,rfl⟩
section
def J9 (c:Cl):Sp:=fun vs H Q _=>∃(l:Addr) (t:List Nat) (G:Hp),vs=[.ref l]/\aJ G H/\H l=some (.lst (bD t))/\t.length<=5000 /\
 ∀ p as G' H',Gr G H G' H'->G' p=some (.lst (as.map V.ref))->Al (kH c G') as (pt 1 t)->Q (.ref p) H'
theorem D4 (T:Txt K mg c):aW P w K mg base 4 "tokens_of" ["text"] (J9 c):=by
 refine a0 T.SV oN (fun f aw A aA s H vs Q E hr h=>?_)
 ·obtain⟨l,t,G,rfl,g,hl,h5,k⟩:=h
  refine⟨_,(ag (pq 1 oN (aZ ae))
    (ag (pq 2 oN aq)
    (ag (mn PassesOwn.never (aT eO (pv 2) (bJ cC (by rfl) T.cB PySem.boot_len (aa (pv 0) ae)) (aO _)) (ak (aX (aT dJ (bH bQ (pv 0) (pv 2) (fun _ _=>rfl)) (bP rfl T.HK) (aO _)) (ak (jE (i:=2) oN.nd rfl (Or.inl rfl) aq lK)) (ag (pq 3 oN (pC (Nv T) hr (aa (pv 0) (aa (pv 2) ae))))
      (ag (fC (fL PySem.F.plainAttrs_list PySem.F.slot_list_append PySem.F.type_list_append jd (pv 1) (aa (pv 3) ae)))
      (ak (jE (i:=2) oN.nd rfl (Or.inl rfl) (bJ cC (by rfl) T.cB PySem.boot_len (aa (pF K 3) ae)) lK)))))))
    (ak (ay (pv 1)))))),?_⟩
  refine⟨Nat.zero_le _,fun D nD=>?_⟩
  refine⟨fun m σ H'=>∃(e:Nat) (v:Option V) (as:List Addr) (xs:List bY) (G':Hp),σ=[some (.ref l),some (.ref D),some (.int e),v]/\e<=t.length/\m=t.length-e/\Gr G H G' H'/\G' D=none/\H' D=some (.lst (as.map V.ref)) /\
   Al (kH c G') as xs/\pt 1 t=xs++pt (e+1) (t.drop e)/\xs.length<=e,
   ⟨_,0,none,[],[],G,rfl,Nat.zero_le _,rfl,(Gr.refl g).loose nD,g.free nD,af,Al.nil,rfl,Nat.le_refl _⟩,?_⟩
  rintro m σ H1 ⟨e,v,as,xs,G1,rfl,he,rfl,g1,gD,hD,ha,pS,QE⟩
  have bC:=g1.same _ _ hl
  refine⟨_,rfl,_,rfl,l,_,rfl,.inl (ai.of bC),_,_,rfl,rfl,_,rfl,?_⟩
  rw [fX]
  by_cases bR:e<t.length
  ·rw [decide_eq_true (show(e:Int)<(t.length:Int) by omega)]
   refine aH ?_
   refine⟨fun σ' H'=>∃(e':Nat) (v:Option V) (as:List Addr) (xs:List bY) (G':Hp),σ'=[some (.ref l),some (.ref D),some (.int e'),v]/\e'<=t.length/\e<e'/\Gr G H G' H'/\G' D=none/\H' D=some (.lst (as.map V.ref)) /\
    Al (kH c G') as xs/\pt 1 t=xs++pt (e'+1) (t.drop e')/\xs.length<=e',fun σ' H' q=>?_,?_⟩
   ·obtain⟨e',v',as',xs',G',rfl,q1,q2,q3⟩:=q
    exact⟨t.length-e',by omega,e',v',as',xs',G',rfl,q1,rfl,q3⟩
   have uS:=drop_cons bR
   refine⟨_,rfl,_,rfl,l,_,_,_,rfl,rfl,ai.of bC,se bR,rfl,_,rfl,gT (fun q=>?_) (fun q=>?_)⟩
   ·have q:V.int t[e]=V.int 32:=of_decide_eq_true q
    have q:t[e]=32:=by injection q with q;omega
    refine⟨_,rfl,_,_,rfl,rfl,⟨e+1,v,as,xs,G1,rfl,by omega,by omega,g1,gD,hD,ha,?_,by omega⟩⟩
    rw [uS,q,My.MS] at pS
    exact pS
   ·have q:t[e]≠32:=fun z=>q (by rw [z];rfl)
    refine⟨_,rfl,_,rfl,l,t,e,G1,rfl,g1.sub,bC,bR,fun p G2 H2 g2 hp=>?_⟩
    have lU:G2 D=none:=by rw [g2.old D (by rw [hD];simp)];exact gD
    have Pb:H D=none:=nD
    refine⟨_,rfl,.inl ⟨rfl,_,ai.of (g2.same _ _ hD)⟩,_,rfl,D,_,_,rfl,rfl,g2.same _ _ hD,?_,?_⟩
    ·rw [length_map,ha.len]
     exact Nat.lt_of_le_of_lt (Nat.le_trans QE (by omega)) (show 5000<sizeLine by decide)
    have g3:=(g1.trans g2).set (o:=.lst (as.map V.ref++[.ref p])) Pb lU
    obtain⟨dp,lp,ik,gM⟩:=hp
    have Et:p≠D:=fun z=>by rw [z,lU] at ik;cases ik
    have qU:lp≠D:=fun z=>by rw [z,lU] at gM;cases gM
    refine⟨_,rfl,_,rfl,p,_,dp,_,_,rfl,g3.sub _ _ ik,T.cW.cl,T.cW.n,rfl,lp,_,rfl,.inl (ai.of (g3.sub _ _ gM)),_,_,rfl,rfl,?_⟩
    rw [fX]
    have rB:=My.qm (e+1) t[e] (t.drop (e+1))
    have hle:=My.AV (e+1) t[e] (t.drop (e+1))
    rw [←uS] at rB hle
    rw [length_drop] at hle
    refine⟨e+(bO (e+1) (t.drop e)).ls.length,some (.ref p),as++[p],xs++[bO (e+1) (t.drop e)],G2,by simp,by omega,by omega,g3,lU,by rw [af,map_append];rfl,(ha.imp fun a x h=>h.mono g2.gg).snoc ⟨dp,lp,ik,gM⟩,?_,by simp;omega⟩
    rw [uS,My.MQ _ _ _ q,←uS] at pS
    rw [pS,append_assoc,drop_drop]
    congr 2
    have e1:e+1+(bO (e+1) (t.drop e)).ls.length=e+(bO (e+1) (t.drop e)).ls.length+1:=by omega
    rw [e1]
    rfl
  ·rw [decide_eq_false (show ¬ (e:Int)<(t.length:Int) by omega)]
   refine aI ⟨_,rfl,?_⟩
   have e0:e=t.length:=by omega
   rw [e0,drop_length,My.MR,append_nil] at pS
   have gf:aJ G1 (upd G1 D (.lst (as.map V.ref))):=fun a o z=>by rw [aj (aP z gD)];exact z
   refine k D as _ H1 (g1.fix nD hD) af ?_
   rw [pS]
   exact ha.imp fun a x h=>h.mono gf
def Ky (c:Cl):Sp:=fun vs H Q _=>∃(l:Addr) (as:List Addr) (xs:List bY) (G:Hp),vs=[.ref l]/\aJ G H/\H l=some (.lst (as.map V.ref))/\Al (kH c G) as xs/\cR xs<=20000 /\
 ∀ p G' H',Gr G H G' H'->G' p=some (.lst (bD (fh true xs)))->Q (.ref p) H'
theorem tj (a b:Sg):decide (V.str (fJ a)=V.str (fJ b))=decide (a=b):=by
 cases a<;>cases b<;>decide +kernel
theorem La (a:Sg):rf (V.str (fJ a)) [.str "name",.str "numeral",.str "*"]=decide (a=.name\/a=.num\/a=.star):=by
 cases a<;>decide +kernel
theorem AZ (a b:List Nat):bD a++bD b=bD (a++b):=by unfold bD;rw [map_append]
theorem NM (T:Txt K mg c):aW P w K mg base 1 "one_text" ["tokens"] (Ky c):=by
 refine a0 T.Tr qz (fun f aw A aA s H vs Q E hr h=>?_)
 ·obtain⟨l,as,xs,G,rfl,g,hl,ha,hsz,k⟩:=h
  refine⟨_,(ag (pq 1 qz (aZ ae))
    (ag (pq 2 qz (ic rfl T.zZ))
    (ag (gP PassesOwn.never rfl (fD (pv 0)) (dk (i:=3) qz.nd rfl (Or.inl rfl)) (ag (aX (PW.pt (lF (aT oY (pv 2) (ic rfl T.zZ) (aO _)) (lE (aT Np (pF K 3) (tW (aa (ic rfl T.z8) (aa (ic rfl T.z7) (aa (ic rfl T.zY) ae)))) (by rfl))))) (ak (fC (fL PySem.F.plainAttrs_list PySem.F.slot_list_append PySem.F.type_list_append jd (pv 1) (aa (bP rfl T.HK) ae)))) aY)
     (ag (fC (fL PySem.F.plainAttrs_list PySem.F.slot_list_extend PySem.F.type_list_extend pf (pv 1) (aa (pF K 3) ae)))
     (ak (pq 2 qz (pF K 3))))))
    (ak (ay (pv 1)))))),?_⟩
  refine⟨Nat.zero_le _,fun D nD=>?_⟩
  have qU:l≠D:=aP hl nD
  refine⟨_,rfl,l,rfl,⟨_,ai.of (by rw [aj qU];exact hl)⟩,lj (K:=K) (a:=l) (xs:=as.map V.ref) (fun i σ H'=>∃(v:Option V) (sg:Sg),σ=[some (.ref l),some (.ref D),some (.str (fJ sg)),v]/\Gr G H G H' /\
   H' D=some (.lst (bD ((xs.take i).foldl dA ([],true)).1))/\((xs.take i).foldl dA ([],true)).2=decide (sg=.op))
   ⟨none,.op,rfl,(Gr.refl g).loose nD,af,rfl⟩ (fun i σ H' _ ⟨_,_,_,g1,_⟩=>ai.of (g1.same _ _ hl)) ?_ ?_⟩
  ·rintro i y σ H1 hy ⟨v,sg,rfl,g1,hD,hb⟩
   obtain⟨a,ea,rfl⟩:=i4 hy
   obtain⟨x,ex,da,la,h1,h2⟩:=ha.get ea
   have FU:(xs.take (i+1)).foldl dA ([],true)=dA ((xs.take i).foldl dA ([],true)) x:=zI ex
   have hlen:((xs.take (i+1)).foldl dA ([],true)).1.length<=20000:=by
    refine Nat.le_trans (jW _) ?_
    have:cR xs=cR (xs.take (i+1))+cR (xs.drop (i+1)):=by rw [←iU,List.take_append_drop]
    omega
   have GC:G D=none:=g.free nD
   have rest:∀(H2:Hp) (b:List Nat),Gr G H G H2->H2 D=some (.lst (bD (((xs.take i).foldl dA ([],true)).1++b)))->b=(if((xs.take i).foldl dA ([],true)).2=false/\(x.sg=.name\/x.sg=.num\/x.sg=.star) then [32] else [])->
     iA (sV (sW K "list" xy (bV 1) (cF (du K (bV 3) "letters") dz))) (iA (me (du K (bV 3) "sign") (jm 2)) jB)
      { nx:=fun σ H'=>∃(v:Option V) (sg:Sg),σ=[some (.ref l),some (.ref D),some (.str (fJ sg)),v]/\Gr G H G H'/\H' D=some (.lst (bD ((xs.take (i+1)).foldl dA ([],true)).1))/\((xs.take (i+1)).foldl dA ([],true)).2=decide (sg=.op),rt:=Q }
      [some (.ref l),some (.ref D),some (.str (fJ sg)),some (.ref a)] H2:=fun H2 b g2 iO RQ=>by
    have hq:((xs.take (i+1)).foldl dA ([],true)).1=((xs.take i).foldl dA ([],true)).1++b++x.ls:=by
     rw [FU,RQ]
     show _++(_++_)=_
     rw [append_assoc]
    refine⟨_,rfl,.inl ⟨rfl,_,ai.of iO⟩,_,rfl,a,_,da,_,_,rfl,g2.sub _ _ h1,T.cW.cl,T.cW.n,rfl,D,la,_,_,rfl,rfl,iO,g2.sub _ _ h2,?_,?_⟩
    ·rw [fX,fX,←length_append,←hq]
     exact Nat.le_trans hlen (show 20000<=sizeLine by decide)
    ·have g3:=g2.set (o:=.lst (bD (((xs.take i).foldl dA ([],true)).1++b)++bD x.ls)) nD GC
     refine⟨_,rfl,a,_,da,_,_,rfl,g3.sub _ _ h1,T.cW.cl,T.cW.n,rfl,some (.ref a),x.sg,rfl,g3,?_,?_⟩
     ·rw [af,AZ,hq]
     ·rw [FU];rfl
   have Sb:((xs.take i).foldl dA ([],true)).1.length<20000:=by
    have h2:cR (xs.take (i+1))<=20000:=by
     have:cR xs=cR (xs.take (i+1))+cR (xs.drop (i+1)):=by rw [←iU,List.take_append_drop]
     omega
    have h3:xs.take (i+1)=xs.take i++[x]:=by rw [List.take_add_one,ex];rfl
    rw [h3,iU] at h2
    have h4:cR [x]=x.ls.length+1:=by simp [cR]
    have h5:=jW (xs.take i)
    omega
   refine⟨_,rfl,rfl,_,rfl,?_⟩
   have e1:decide (V.str (fJ sg)=V.str "(")=decide (sg=.op):=tj sg .op
   rw [e1]
   by_cases jQ:sg=.op
   ·rw [decide_eq_true jQ]
    refine aI (aI ?_)
    rw [decide_eq_true jQ] at hb
    refine rest H1 [] g1 (by rw [append_nil];exact hD) ?_
    rw [if_neg (by rw [hb];simp)]
   ·rw [decide_eq_false jQ]
    rw [decide_eq_false jQ] at hb
    refine aH ?_
    refine⟨_,rfl,a,_,da,_,_,rfl,g1.sub _ _ h1,T.cW.cl,T.cW.n,rfl,⟨by show 3<=sizeLine;decide,fun tp jb=>?_⟩⟩
    have g2:=g1.loose (o:=.tup [.str "name",.str "numeral",.str "*"]) jb
    have iO:upd H1 tp (.tup [.str "name",.str "numeral",.str "*"]) D=some (.lst (bD ((xs.take i).foldl dA ([],true)).1)):=by rw [aj (aP hD jb)];exact hD
    refine⟨tp,_,rfl,.inr (cE.of af),rfl,rfl,_,rfl,?_⟩
    have e2:(if false=true then !rf (V.str (fJ x.sg)) [.str "name",.str "numeral",.str "*"] else rf (V.str (fJ x.sg)) [.str "name",.str "numeral",.str "*"])=decide (x.sg=.name\/x.sg=.num\/x.sg=.star):=La x.sg
    rw [e2]
    refine gT (fun q=>?_) (fun q=>?_)
    ·have q:=of_decide_eq_true q
     refine⟨_,rfl,.inl ⟨rfl,_,ai.of iO⟩,D,_,_,rfl,rfl,iO,?_,?_⟩
     ·rw [fX]
      exact Nat.lt_of_lt_of_le Sb (show 20000<=sizeLine by decide)
     ·refine rest _ [32] (g2.set nD GC) ?_ ?_
      ·rw [af,←AZ];rfl
      ·rw [if_pos ⟨hb,q⟩]
    ·have q:¬ (x.sg=.name\/x.sg=.num\/x.sg=.star):=fun z=>q (decide_eq_true z)
     refine rest _ [] g2 (by rw [append_nil];exact iO) ?_
     rw [if_neg (fun z=>q z.2)]
  ·rintro σ H1 ⟨v,sg,rfl,g1,hD,hb⟩
   rw [length_map,ha.len,take_length,My.xO,nil_append] at hD
   exact⟨_,rfl,k D _ H1 (g1.fix nD hD) af⟩
end
open Vbdcan (Item Items)
def oA (c:Cl) (W:Nat) (acts:List Vbdcan.Act) (G:Hp) (a:Addr):Part->Prop
 | .item i=>bF c W acts G a i
 | .star l=>ll c W acts G a l
theorem oA.mono {c:Cl}{W:Nat}{acts:List Vbdcan.Act}{G G':Hp}(g:aJ G G'){a:Addr}{p:Part}(h:oA c W acts G a p):oA c W acts G' a p:=by
 cases p with
 | item i=>exact bF.mono g i h
 | star l=>exact ll.mono g h
structure IE (x:bY) (h:Option Nat):Prop where
 star:h=none->x.sg=.star
 num:∀ n,h=some n->x.sg=.num/\n=Vbdcan.number x.ls/\n<=MOST/\∀ d∈x.ls,48<=d
structure WX (x:bY):Prop where
 num:x.sg=.num->Vbdcan.number x.ls<=MOST/\∀ d∈x.ls,48<=d
def vA (c:Cl) (G:Hp) (v:V):Option (Option Nat)->Prop
 | none=>v=.aD
 | some h=>∃ tk x,v=.ref tk/\kH c G tk x/\IE x h
theorem vA.mono {c:Cl}{G G':Hp}(g:aJ G G'){v:V}{h:Option (Option Nat)}(e:vA c G v h):vA c G' v h:=by
 cases h with
 | none=>exact e
 | some h=>
  obtain⟨tk,x,e1,e2,e3⟩:=e
  exact⟨tk,x,e1,e2.mono g,e3⟩
def iM (w:List Nat):List Key:=w.map fun(n:Nat)=>Sum.inl (n:Int)
theorem yD:∀ {v w:List Nat},iM v=iM w->v=w
 |[],[],_=>rfl
 |[],_::_,h=>by cases h
 |_::_,[],h=>by cases h
 | a::v,b::w,h=>by
  injection h with h1 h2
  injection h1 with h1
  rw [yD (v:=v) (w:=w) h2,show a=b by omega]
theorem E1 (w:List Nat):(iM w).map kV=bD w:=by unfold iM bD;rw [map_map];rfl
def sx (c:Cl) (W:Nat) (acts:List Vbdcan.Act) (G:Hp) (kd:Addr):Prop:=∃ aB,G kd=some (.dT aB) /\
 ∀ w:List Nat,(∀ i,actOf acts w=some i->∃ a,dc aB (iM w)=some (.ref a)/\bF c W acts G a (.act i))/\(actOf acts w=none->dc aB (iM w)=none)
theorem sx.mono {c:Cl}{W:Nat}{acts:List Vbdcan.Act}{G G':Hp}(g:aJ G G'){kd:Addr}(h:sx c W acts G kd):sx c W acts G' kd:=by
 obtain⟨aB,e,f⟩:=h
 exact⟨aB,g _ _ e,fun w=>⟨fun i q=>let ⟨a,q1,q2⟩:=(f w).1 i q;⟨a,q1,bF.mono g _ q2⟩,(f w).2⟩⟩
inductive Chain (c:Cl) (W:Nat) (acts:List Vbdcan.Act) (G H:Hp) (N:Nat):Addr->List Addr->List Addr->List Part->List (Option Nat×List Item)->Prop
 | base {r:Addr}{top:List Part}{as:List Addr}(g:G r=none) (h:H r=some (.lst (as.map V.ref))) (p:Al (oA c W acts G) as top) (n:as.length<=N):Chain c W acts G H N r [] [r] top []
 | step {r t ro tk:Addr}{ts rows:List Addr}{top:List Part}{h:Option Nat}{l:List Item}{aG:List (Option Nat×List Item)}{as:List Addr}{x:bY}(g:G r=none) (hr:H r=some (.lst (as.map V.ref))) (p:bj c W acts G as (itemsOf l)) (n:as.length<=N)
   (ht:G t=some (.tup [.ref ro,.ref tk])) (hx:kH c G tk x) (hh:IE x h) (hs:h=none->aG=[]) (nr:r ∉ rows) (rest:Chain c W acts G H N ro ts rows top aG):Chain c W acts G H N r (t::ts) (r::rows) top ((h,l)::aG)
section
variable {c:Cl}{W:Nat}{acts:List Vbdcan.Act}{G H G' H':Hp}{N N':Nat}{r:Addr}{ts rows:List Addr}{top:List Part}{aG:List (Option Nat×List Item)}
theorem Chain.mem (h:Chain c W acts G H N r ts rows top aG):r∈rows:=by cases h<;>simp
theorem Chain.free (h:Chain c W acts G H N r ts rows top aG):∀ q∈rows,G q=none:=by
 induction h with
 | base g _ _ _=>intro q hq;simp at hq;rw [hq];exact g
 | step g _ _ _ _ _ _ _ _ _ ih=>
  intro q hq
  rcases mem_cons.mp hq with e | e
  ·rw [e];exact g
  ·exact ih q e
theorem Chain.uz (h:Chain c W acts G H N r ts rows top aG):ts.length=aG.length:=by
 induction h with
 | base _ _ _ _=>rfl
 | step _ _ _ _ _ _ _ _ _ _ ih=>simp [ih]
theorem Chain.mono (h:Chain c W acts G H N r ts rows top aG) (g:aJ G G') (gn:∀ q∈rows,G' q=none) (hk:∀ q∈rows,H' q=H q) (hN:N<=N'):Chain c W acts G' H' N' r ts rows top aG:=by
 induction h with
 | base g0 h0 p n=>exact .base (gn _ (by simp)) (by rw [hk _ (by simp)];exact h0) (p.imp fun a x q=>q.mono g) (Nat.le_trans n hN)
 | step g0 hr p n ht hx hh hs nr rest ih=>
  exact .step (gn _ (by simp)) (by rw [hk _ (by simp)];exact hr) (bj.mono g _ p) (Nat.le_trans n hN) (g _ _ ht) (hx.mono g) hh hs nr (ih (fun q hq=>gn q (mem_cons_of_mem _ hq)) fun q hq=>hk q (mem_cons_of_mem _ hq))
theorem Mn {as bs:List Addr}(h:as.map V.ref=bs.map V.ref):as=bs:=by
 induction as generalizing bs with
 | nil=>cases bs with
  | nil=>rfl
  | cons b r=>cases h
 | cons a r ih=>cases bs with
  | nil=>cases h
  | cons b r'=>
   injection h with h1 h2
   injection h1 with h1
   rw [h1,ih h2]
theorem yx {H:Hp}{r:Addr}{as bs:List Addr}(h:H r=some (.lst (as.map V.ref))) (h':H r=some (.lst (bs.map V.ref))):as=bs:=by
 rw [h] at h'
 injection h' with h'
 injection h' with h'
 exact Mn h'
theorem Chain.row (h:Chain c W acts G H N r ts rows top aG):∃ as:List Addr,H r=some (.lst (as.map V.ref))/\as.length<=N:=by
 cases h with
 | base _ h _ n=>exact⟨_,h,n⟩
 | step _ h _ n _ _ _ _ _ _=>exact⟨_,h,n⟩
theorem Chain.push {as:List Addr}{a:Addr}{i:Item}{head:Option (Option Nat)}{st dp:Nat}(h:Chain c W acts G H N r ts rows top aG) (hr:H r=some (.lst (as.map V.ref))) (hi:bF c W acts G a i) :
  Chain c W acts G (upd H r (.lst (as.map V.ref++[.ref a]))) (N+1) r ts rows (aM.push ⟨top,aG,head,st,dp⟩ i).top (aM.push ⟨top,aG,head,st,dp⟩ i).aG:=by
 cases h with
 | base g0 h0 p n=>
  have e:=yx hr h0
  subst e
  refine .base (as:=as++[a]) g0 (by rw [af,map_append];rfl) (p.snoc hi) (by simp;omega)
 | step g0 h0 p n ht hx hh hs nr rest=>
  have e:=yx hr h0
  subst e
  refine .step (as:=as++[a]) g0 (by rw [af,map_append];rfl) (p.snoc hi) (by simp;omega) ht hx hh hs nr ?_
  exact rest.mono (aJ.refl _) rest.free (fun q hq=>aj fun z=>nr (by rw [←z];exact hq)) (by omega)
theorem Chain.MN {as:List Addr}{a:Addr}{l:Items}(h:Chain c W acts G H N r ts rows top []) (hr:H r=some (.lst (as.map V.ref))) (hi:ll c W acts G a l) :
  Chain c W acts G (upd H r (.lst (as.map V.ref++[.ref a]))) (N+1) r ts rows (top++[.star l]) []:=by
 cases h with
 | base g0 h0 p n=>
  have e:=yx hr h0
  subst e
  exact .base (as:=as++[a]) g0 (by rw [af,map_append];rfl) (p.snoc (x:=Part.star l) hi) (by simp;omega)
end
def eX (kd:Addr) (W:Nat) (pl:Int) (r ar:Addr) (hd:V) (st dp:Nat):List (Str×V):=
 [("known",.ref kd),("width",.int W),("place",.int pl),("row",.ref r),("around",.ref ar),("head",hd),("stars",.int st),("deepest",.int dp)]
structure kI (c:Cl) (W:Nat) (acts:List Vbdcan.Act) (G0 H0 G H:Hp) (a:Addr) (s:aM) (N:Nat):Prop where
 ex:∃(dx kd r ar:Addr) (hd:V) (ts rows:List Addr),Gr G0 H0 G H/\H a=some (.ins c.cG dx (eX kd W 0 r ar hd s.bE s.deep))/\H0 a=none/\G a=none /\
  H ar=some (.lst (ts.reverse.map V.ref))/\H0 ar=none/\G ar=none/\ar ∉ rows/\(∀ q∈rows,H0 q=none)/\Chain c W acts G H N r ts rows s.top s.aG/\vA c G hd s.head/\sx c W acts G kd/\s.aG.length<=40/\(s.head=some none->s.aG=[])
theorem kI.obj {c:Cl}{W:Nat}{acts:List Vbdcan.Act}{G0 H0 G H:Hp}{a:Addr}{s:aM}{N:Nat}(h:kI c W acts G0 H0 G H a s N):∃ dx kd r ar hd,H a=some (.ins c.cG dx (eX kd W 0 r ar hd s.bE s.deep)):=
 let ⟨dx,kd,r,ar,hd,_,_,_,h1,_⟩:=h.ex;⟨dx,kd,r,ar,hd,h1⟩
def Ir (acts:List Vbdcan.Act) (s:aM) (t:Vbdcan.Tok) (b:Bool) (s':aM):Prop:=(b=true/\bI acts s t=some s')\/(b=false/\bI acts s t=none/\s'=s)
section
def sZ (c:Cl) (ok:aM->bY->Prop):Sp:=fun vs H Q _=>∃(a tk:Addr) (x:bY) (s:aM) (N W:Nat) (acts:List Vbdcan.Act) (G0 H0 G:Hp),vs=[.ref a,.ref tk]/\W<=8/\bX acts/\kI c W acts G0 H0 G H a s N/\kH c G tk x/\WX x/\N<5000/\ok s x /\
 ∀(b:Bool) (s':aM) (G' H':Hp),aJ G G'->kI c W acts G0 H0 G' H' a s' (N+1)->Ir acts s x.tok b s'->Q (.bl b) H'
theorem Pj (T:Txt K mg c):lx P w K mg base 1 c.cG "takes_name" ["self","token"] (sZ c fun s x=>s.head=none/\x.sg=.name):=by
 refine ph T.aL.cl T.PQ BD (fun f aw A aA s H vs Q E hr h=>?_)
 ·obtain⟨a,tk,x,s,N,W,acts,G0,H0,G,rfl,hW,ao,R,⟨dt,lt,gL,ku⟩,tok,hN,⟨hh,hx⟩,k⟩:=h
  obtain⟨dx,kd,r,ar,hd,ts,rows,g,hA,eG,gA,dR,gk,gW,fk,gj,ch,dC,kn,dS,jP⟩:=R.ex
  obtain⟨aB,jj,kf⟩:=kn
  refine⟨_,(ag (pq 2 BD (nB (gU hr) (pF K 0) (tY zX (by rfl) T.Ad z9 (aa (pF K 1) ae)) ⟨rfl,by rfl,by rfl,by rfl⟩))
    (ag (aX (aT gR (pv 2) cj (aO _)) (ak (ay iJ)) aY)
    (ag (fC (fL PySem.F.plainAttrs_list PySem.F.slot_list_append PySem.F.type_list_append jd (pF K 0) (aa (pv 2) ae)))
    (ak (ay iJ))))),?_⟩
  refine⟨_,rfl,a,_,dx,_,_,rfl,hA,T.aL.cl,T.aL.n,rfl,kd,rfl,.inr ⟨aB,.inl (g.sub _ _ jj)⟩,?_⟩
  refine⟨_,rfl,tk,_,dt,_,_,rfl,g.sub _ _ gL,T.cW.cl,T.cW.n,rfl,lt,_,rfl,.inl ⟨ai.of (g.sub _ _ ku),fun tp jb=>?_⟩⟩
  have g1:=g.loose (o:=.tup (bD x.ls)) jb
  have cI:∀ q o,H q=some o->upd H tp (.tup (bD x.ls)) q=some o:=fun q o e=>by rw [aj (aP e jb)];exact e
  have Dg:∀ q∈rows,upd H tp (.tup (bD x.ls)) q=H q:=fun q hq=>aj fun z=>by
   subst z
   exact absurd jb (by
    have:∀ {r ts rows top aG},Chain c W acts G H N r ts rows top aG->∀ q∈rows,H q≠none:=fun {r ts rows top aG} h=>by
     induction h with
     | base _ h _ _=>intro q hq;simp at hq;rw [hq,h];simp
     | step _ h _ _ _ _ _ _ _ _ ih=>
      intro q hq
      rcases mem_cons.mp hq with e | e
      ·rw [e,h];simp
      ·exact ih q e
    exact this ch q hq)
  refine⟨_,.inr ⟨aB,iM x.ls,tp,.inl (g1.sub _ _ jj),rfl,by rw [af,E1],rfl⟩,?_⟩
  have pO:x.tok=.name x.ls:=by unfold bY.tok;rw [hx]
  cases ea:actOf acts x.ls with
  | none=>
   rw [(kf x.ls).2 ea]
   refine⟨_,rfl,rfl,_,rfl,aH ?_⟩
   refine k false s G _ (aJ.refl _) ⟨dx,kd,r,ar,hd,ts,rows,g1,cI _ _ hA,eG,gA,cI _ _ dR,gk,gW,fk,gj,ch.mono (aJ.refl _) ch.free Dg (by omega),dC,⟨aB,jj,kf⟩,dS,jP⟩ (Or.inr ⟨rfl,?_,rfl⟩)
   rw [pO]
   unfold bI
   rw [hh]
   dsimp only
   rw [ea];rfl
  | some i=>
   obtain⟨pa,e1,e2⟩:=(kf x.ls).1 i ea
   rw [e1]
   refine⟨_,rfl,rfl,_,rfl,aI ?_⟩
   obtain⟨as,cx,hlen⟩:=ch.row
   have Vw:=ch.mono (G':=G) (H':=upd H tp (.tup (bD x.ls))) (aJ.refl _) ch.free Dg (Nat.le_refl _)
   have yZ:=cI _ _ cx
   have dB:r≠a:=dg cx hA (by intro z;cases z)
   have QV:r≠ar:=fun z=>fk (by rw [←z];exact ch.mem)
   refine⟨_,rfl,a,_,dx,_,_,rfl,cI _ _ hA,T.aL.cl,T.aL.n,rfl,.inl ⟨rfl,_,ai.of yZ⟩,_,rfl,r,_,_,rfl,rfl,yZ,?_,?_⟩
   ·rw [length_map]
    exact Nat.lt_of_le_of_lt hlen (Nat.lt_trans hN (by decide))
   ·have g2:=g1.set (o:=.lst (as.map V.ref++[.ref pa])) (gj r ch.mem) (ch.free r ch.mem)
    have pk:=Vw.push (head:=s.head) (st:=s.bE) (dp:=s.deep) yZ e2
    have ps:=iG s (.act i)
    refine k true (s.push (.act i)) G _ (aJ.refl _) ⟨dx,kd,r,ar,hd,ts,rows,g2,?_,eG,gA,?_,gk,gW,fk,gj,pk,?_,⟨aB,jj,kf⟩,by rw [ps.1];exact dS,fun z=>by rw [ps.2.1,hh] at z;cases z⟩ (Or.inl ⟨rfl,?_⟩)
    ·rw [aj dB.symm,ps.2.2.2,ps.2.2.1];exact cI _ _ hA
    ·rw [aj QV.symm];exact cI _ _ dR
    ·rw [ps.2.1];exact dC
    ·rw [pO]
     unfold bI
     rw [hh]
     dsimp only
     rw [ea];rfl
end
open Vbdcan (Item Items)
theorem Chain.there {c:Cl}{W:Nat}{acts:List Vbdcan.Act}{G H:Hp}{N:Nat}{r:Addr}{ts rows:List Addr}{top:List Part}{aG:List (Option Nat×List Item)}(h:Chain c W acts G H N r ts rows top aG):∀ q∈rows,∃ xs,H q=some (.lst xs):=by
 induction h with
 | base _ h _ _=>intro q hq;simp at hq;rw [hq];exact⟨_,h⟩
 | step _ h _ _ _ _ _ _ _ _ ih=>
  intro q hq
  rcases mem_cons.mp hq with e | e
  ·rw [e];exact⟨_,h⟩
  ·exact ih q e
theorem Chain.upd {c:Cl}{W:Nat}{acts:List Vbdcan.Act}{G H:Hp}{N:Nat}{r:Addr}{ts rows:List Addr}{top:List Part}{aG:List (Option Nat×List Item)}{q:Addr}{o:HO}(h:Chain c W acts G H N r ts rows top aG) (hq:q ∉ rows) :
  Chain c W acts G (upd H q o) N r ts rows top aG:=h.mono (aJ.refl _) h.free (fun p hp=>aj fun z=>hq (by rw [←z];exact hp)) (Nat.le_refl _)
theorem Ac {n:Nat}(h:n<=MOST) (x:Int):mZ n x:=by
 unfold MOST at h
 exact .inl (.inl ⟨by omega,by omega⟩)
theorem mS.small {W n:Nat}(h:n<=MOST) (h0:n≠0) (s:Vbdcan.Sum):mS W n s:=
 ⟨Ac h _,fun k _=>⟨by
  have:=Ac (n:=n-1) (by omega) (My.sp s k).add
  have e:((n-1:Nat):Int)=(n:Int)-1:=by omega
  rw [e] at this
  exact this,Ac h _⟩⟩
section
theorem Pg (T:Txt K mg c):lx P w K mg base 1 c.cG "takes_star" ["self","token"] (sZ c fun s x=>s.head=none/\x.sg=.star):=by
 refine ph T.aL.cl T.PM L0 (fun f aw A aA s H vs Q E hr h=>?_)
 ·obtain⟨a,tk,x,s,N,W,acts,G0,H0,G,rfl,hW,ao,R,ht,tok,hN,⟨hh,hx⟩,k⟩:=h
  obtain⟨dx,kd,r,ar,hd,ts,rows,g,hA,eG,gA,dR,gk,gW,fk,gj,ch,dC,kn,dS,jP⟩:=R.ex
  have pO:x.tok=.star:=by unfold bY.tok;rw [hx]
  have hlen:(ts.reverse.map V.ref).length=s.aG.length:=by rw [length_map,length_reverse,ch.uz]
  refine⟨_,(ag (aX (PW.pt (i7 (aT fM (bJ cC (by rfl) T.cB PySem.boot_len (aa (pF K 0) ae)) aq (aO _)) (kh (aT dJ (pF K 0) (bP rfl T.VH) (aO _))))) (ak (ay iJ)) aY)
    (ag (bL (pv 0) (pv 1) rfl)
    (ag (MV (pv 0) aq Qw)
    (ak (ay iJ))))),?_⟩
  refine⟨_,rfl,a,_,dx,_,_,rfl,hA,T.aL.cl,T.aL.n,rfl,ar,_,rfl,.inl (ai.of dR),_,_,rfl,rfl,_,rfl,?_⟩
  rw [hlen]
  have fail:bI acts s x.tok=none->Q (.bl false) H:=fun e=>
   k false s G H (aJ.refl _) ⟨dx,kd,r,ar,hd,ts,rows,g,hA,eG,gA,dR,gk,gW,fk,gj,ch.mono (aJ.refl _) ch.free (fun _ _=>rfl) (by omega),dC,kn,dS,jP⟩ (Or.inr ⟨rfl,e,rfl⟩)
  by_cases h1:0<s.aG.length
  ·rw [decide_eq_true (show(0:Int)<(s.aG.length:Int) by omega)]
   refine aH (aH (fail ?_))
   rw [pO]
   unfold bI
   rw [hh]
   dsimp only
   rw [if_pos (Or.inl h1)]
  ·rw [decide_eq_false (show ¬ (0:Int)<(s.aG.length:Int) by omega)]
   refine aI ?_
   refine⟨_,rfl,a,_,dx,_,_,rfl,hA,T.aL.cl,T.aL.n,rfl,rfl,_,rfl,?_⟩
   have e8:decide (V.int (s.bE:Int)=V.int 8)=decide (s.bE=8):=by
    rw [Bool.eq_iff_iff,decide_eq_true_eq,decide_eq_true_eq]
    exact⟨fun z=>by injection z with z;omega,fun z=>by rw [z];rfl⟩
   rw [e8]
   by_cases h2:s.bE=8
   ·rw [decide_eq_true h2]
    refine aH (fail ?_)
    rw [pO]
    unfold bI
    rw [hh]
    dsimp only
    rw [if_pos (Or.inr h2)]
   ·rw [decide_eq_false h2]
    refine aI ?_
    refine⟨_,rfl,_,rfl,a,_,dx,_,rfl,hA,T.aL.cl,T.aL.n,(by show 8<1000;decide),?_⟩
    refine⟨_,rfl,a,_,dx,_,_,rfl,af,T.aL.cl,T.aL.n,rfl,_,_,rfl,rfl,dx,_,af,(by show 8<1000;decide),?_⟩
    rw [bM]
    have RU:a ∉ rows:=fun z=>by
     obtain⟨xs,e⟩:=ch.there a z
     rw [hA] at e;cases e
    have dw:ar≠a:=dg dR hA (by intro z;cases z)
    have g1:=g.set (o:=.ins c.cG dx (eX kd W 0 r ar (.ref tk) (s.bE+1) s.deep)) eG gA
    refine k true { s with head:=some none,bE:=s.bE+1 } G _ (aJ.refl _) ⟨dx,kd,r,ar,.ref tk,ts,rows,g1,?_,eG,gA,by rw [aj dw];exact dR,gk,gW,fk,gj,(ch.upd RU).mono (aJ.refl _) ch.free (fun _ _=>rfl) (by omega),⟨tk,x,rfl,ht,⟨fun _=>hx,fun n e=>(by cases e)⟩⟩,kn,dS,fun _=>length_eq_zero_iff.mp (by dsimp only;omega)⟩ (Or.inl ⟨rfl,?_⟩)
    ·rw [af];rfl
    ·rw [pO]
     unfold bI
     rw [hh]
     dsimp only
     rw [if_neg]
     intro z
     rcases z with z | z
     ·exact h1 z
     ·exact h2 z
theorem Ph (T:Txt K mg c):lx P w K mg base 1 c.cG "takes_opening" ["self","token"] (sZ c fun s x=>s.head≠none):=by
 refine ph T.aL.cl T.PN L1 (fun f aw A aA s H vs Q E hr h=>?_)
 ·obtain⟨a,tk,x,s,N,W,acts,G0,H0,G,rfl,hW,ao,R,⟨dt,lt,gL,ku⟩,tok,hN,hh,k⟩:=h
  obtain⟨dx,kd,r,ar,hd,ts,rows,g,hA,eG,gA,dR,gk,gW,fk,gj,ch,dC,kn,dS,jP⟩:=R.ex
  have hlen:(ts.reverse.map V.ref).length=s.aG.length:=by rw [length_map,length_reverse,ch.uz]
  obtain⟨hv,p5⟩:∃ hv,s.head=some hv:=by
   cases e:s.head with
   | none=>exact absurd e hh
   | some hv=>exact⟨hv,rfl⟩
  rw [p5] at dC
  obtain⟨hk,yN,rfl,uN,uO⟩:=dC
  have FE:x.tok=.open_↔x.sg=.op:=by unfold bY.tok;cases x.sg<;>simp
  have fail:bI acts s x.tok=none->Q (.bl false) H:=fun e=>
   k false s G H (aJ.refl _) ⟨dx,kd,r,ar,.ref hk,ts,rows,g,hA,eG,gA,dR,gk,gW,fk,gj,ch.mono (aJ.refl _) ch.free (fun _ _=>rfl) (by omega),by rw [p5];exact⟨hk,yN,rfl,uN,uO⟩,kn,dS,jP⟩ (Or.inr ⟨rfl,e,rfl⟩)
  refine⟨_,(ag (aX (PW.pt (i7 (aT oY (pF K 1) (ic rfl T.zZ) (aO _)) (kh (aT dJ (bJ cC (by rfl) T.cB PySem.boot_len (aa (pF K 0) ae)) (bP rfl T.VP) (aO _))))) (ak (ay iJ)) aY)
    (ag (fC (fL PySem.F.plainAttrs_list PySem.F.slot_list_append PySem.F.type_list_append jd (pF K 0) (aa (tW (aa (pF K 0) (aa (pF K 0) ae))) ae)))
    (ag (bL (pv 0) (aZ ae) rfl)
    (ag (bL (pv 0) cj rfl)
    (ag (bL (pv 0) (bJ (p7 rfl) (by rfl) T.ou oj (aa (pF K 0) (aa (bJ cC (by rfl) T.cB PySem.boot_len (aa (pF K 0) ae)) ae))) rfl)
    (ak (ay iJ))))))),?_⟩
  refine⟨_,rfl,tk,_,dt,_,_,rfl,g.sub _ _ gL,T.cW.cl,T.cW.n,rfl,rfl,_,rfl,?_⟩
  have e1:decide (V.str (fJ x.sg)=V.str "(")=decide (x.sg=.op):=tj x.sg .op
  rw [e1]
  by_cases jQ:x.sg=.op
  ·rw [decide_eq_true jQ]
   refine aI ?_
   refine⟨_,rfl,a,_,dx,_,_,rfl,hA,T.aL.cl,T.aL.n,rfl,ar,_,rfl,.inl (ai.of dR),rfl,_,rfl,?_⟩
   rw [hlen]
   have UX:decide (V.int (s.aG.length:Int)=V.int 40)=decide (s.aG.length=40):=by
    rw [Bool.eq_iff_iff,decide_eq_true_eq,decide_eq_true_eq]
    exact⟨fun z=>by injection z with z;omega,fun z=>by rw [z];rfl⟩
   rw [UX]
   by_cases h2:s.aG.length=40
   ·rw [decide_eq_true h2]
    refine aH (fail ?_)
    unfold bI
    rw [p5]
    dsimp only
    rw [if_neg (fun z=>z.2 h2)]
   ·rw [decide_eq_false h2]
    refine aI ?_
    refine⟨_,rfl,a,_,dx,_,_,rfl,hA,T.aL.cl,T.aL.n,rfl,.inl ⟨rfl,_,ai.of dR⟩,?_⟩
    refine⟨_,rfl,a,_,dx,_,_,rfl,hA,T.aL.cl,T.aL.n,rfl,_,rfl,a,_,dx,_,_,rfl,hA,T.aL.cl,T.aL.n,rfl,⟨by show 2<=sizeLine;decide,fun tp jb=>?_⟩⟩
    have cI:∀ q o,H q=some o->upd H tp (.tup [.ref r,.ref hk]) q=some o:=fun q o e=>by rw [aj (aP e jb)];exact e
    refine⟨ar,_,_,rfl,rfl,cI _ _ dR,?_,?_⟩
    ·rw [hlen]
     exact Nat.lt_of_le_of_lt dS (by decide)
    have g1:=g.new (o:=.tup [.ref r,.ref hk]) jb
    have Se:G tp=none:=g.sub.free jb
    have vB:aJ G (upd G tp (.tup [.ref r,.ref hk])):=fun q o e=>by rw [aj (aP e Se)];exact e
    have Jr:a≠tp:=aP hA jb
    have Jq:ar≠tp:=aP dR jb
    have GG:upd G tp (.tup [.ref r,.ref hk]) a=none:=by rw [aj Jr];exact gA
    have GF:upd G tp (.tup [.ref r,.ref hk]) ar=none:=by rw [aj Jq];exact gW
    have g2:=g1.set (o:=.lst (ts.reverse.map V.ref++[.ref tp])) gk GF
    have pd:a≠ar:=dg hA dR (by intro z;cases z)
    have AR:tp ∉ rows:=fun z=>by
     obtain⟨xs,e⟩:=ch.there tp z
     rw [jb] at e;cases e
    have aR:a ∉ rows:=fun z=>by
     obtain⟨xs,e⟩:=ch.there a z
     rw [hA] at e;cases e
    have rN:upd (upd H tp (.tup [.ref r,.ref hk])) ar (.lst (ts.reverse.map V.ref++[.ref tp])) a=some (.ins c.cG dx (eX kd W 0 r ar (.ref hk) s.bE s.deep)):=by rw [aj pd];exact cI _ _ hA
    refine⟨Nat.zero_le _,fun q nq=>?_⟩
    refine⟨_,rfl,a,_,dx,_,rfl,(by rw [aj (aP rN nq)];exact rN),T.aL.cl,T.aL.n,(by show 8<1000;decide),?_⟩
    refine⟨_,rfl,a,_,dx,_,rfl,af,T.aL.cl,T.aL.n,(by show 8<1000;decide),?_⟩
    rw [bM]
    have qa:a≠q:=aP rN nq
    have tT:ar≠q:=aP (af (H:=upd H tp (.tup [.ref r,.ref hk])) (a:=ar) (o:=.lst (ts.reverse.map V.ref++[.ref tp]))) nq
    have R8:∀ o,upd (upd (upd (upd H tp (.tup [.ref r,.ref hk])) ar (.lst (ts.reverse.map V.ref++[.ref tp]))) q (.lst [])) a o ar=some (.lst (ts.reverse.map V.ref++[.ref tp])):=fun o=>by
     rw [aj pd.symm,aj tT,af]
    refine⟨_,rfl,a,_,dx,_,_,rfl,af,T.aL.cl,T.aL.n,rfl,_,rfl,a,_,dx,_,_,rfl,af,T.aL.cl,T.aL.n,rfl,ar,_,rfl,.inl (ai.of (R8 _)),_,_,rfl,?_⟩
    refine⟨_,rfl,a,_,dx,_,rfl,af,T.aL.cl,T.aL.n,(by show 8<1000;decide),?_⟩
    rw [bM]
    have g3:=g2.loose (o:=.lst []) nq
    have Sa:H0 q=none:=g2.same.free nq
    have gq:upd G tp (.tup [.ref r,.ref hk]) q=none:=g2.sub.free nq
    have g4:=g3.set (o:=.ins c.cG dx (eX kd W 0 q ar .aD s.bE (max s.deep (s.aG.length+1)))) eG GG
    have qR:q ∉ rows:=fun z=>by
     obtain⟨xs,e⟩:=ch.there q z
     have:upd (upd H tp (.tup [.ref r,.ref hk])) ar (.lst (ts.reverse.map V.ref++[.ref tp])) q=some (.lst xs):=by
      rw [aj tT.symm];exact cI _ _ e
     rw [nq] at this;cases this
    have Xg:q≠tp:=fun z=>by
     have:upd G tp (.tup [.ref r,.ref hk]) q=some (.tup [.ref r,.ref hk]):=by rw [z,af]
     rw [gq] at this;cases this
    have Vu:Chain c W acts (upd G tp (.tup [.ref r,.ref hk])) (upd (upd (upd (upd H tp (.tup [.ref r,.ref hk])) ar (.lst (ts.reverse.map V.ref++[.ref tp]))) q (.lst [])) a (.ins c.cG dx (eX kd W 0 q ar .aD s.bE (max s.deep (s.aG.length+1))))) (N+1) r ts rows s.top s.aG:=
     ch.mono vB (fun p hp=>by rw [aj (fun z=>AR (by rw [←z];exact hp))];exact ch.free p hp)
      (fun p hp=>by rw [aj (fun z=>aR (by rw [←z];exact hp)),aj (fun z=>qR (by rw [←z];exact hp)),aj (fun z=>fk (by rw [←z];exact hp)),aj (fun z=>AR (by rw [←z];exact hp))]) (by omega)
    have yY:hv=none->s.aG=[]:=fun e=>jP (by rw [p5,e])
    have eF:dj "deepest" (V.int (if((ts.reverse.map V.ref++[V.ref tp]).length:Int) > (s.deep:Int) then((ts.reverse.map V.ref++[V.ref tp]).length:Int) else(s.deep:Int))) (dj "head" .aD (dj "row" (.ref q) (eX kd W 0 r ar (.ref hk) s.bE s.deep)))=eX kd W 0 q ar .aD s.bE (max s.deep (s.aG.length+1)):=by
     have e:(if((ts.reverse.map V.ref++[V.ref tp]).length:Int) > (s.deep:Int) then((ts.reverse.map V.ref++[V.ref tp]).length:Int) else(s.deep:Int))=((max s.deep (s.aG.length+1):Nat):Int):=by
      rw [length_append,hlen,length_singleton]
      split<;>omega
     rw [e]
     rfl
    rw [eF]
    refine k true { s with aG:=(hv,[])::s.aG,head:=none,deep:=max s.deep (s.aG.length+1) } _ _ vB ⟨dx,kd,q,ar,.aD,tp::ts,q::rows,g4,?_,eG,GG,?_,gk,GF,?_,?_,?_,rfl,kn.mono vB,?_,fun z=>(by cases z)⟩ (Or.inl ⟨rfl,?_⟩)
    ·rw [af]
    ·rw [aj pd.symm,aj tT,af,List.reverse_cons,map_append];rfl
    ·exact fun z=>(mem_cons.mp z).elim (fun z=>tT z) fk
    ·intro p hp
     rcases mem_cons.mp hp with e | e
     ·rw [e];exact Sa
     ·exact gj p e
    ·exact .step (as:=[]) gq (by rw [aj qa.symm,af];rfl) (by unfold itemsOf bj;rfl) (Nat.zero_le _) af (uN.mono vB) uO yY qR Vu
    ·show s.aG.length+1<=40
     omega
    ·rw [FE.mpr jQ]
     unfold bI
     rw [p5]
     dsimp only
     rw [if_pos ⟨rfl,h2⟩]
  ·rw [decide_eq_false jQ]
   refine aH (aH (fail ?_))
   unfold bI
   rw [p5]
   dsimp only
   rw [if_neg (fun z=>jQ (FE.mp z.1))]
end
open Vbdcan (Item Items)
section
def Kd (c:Cl):Sp:=fun vs H Q _=>∃(a:Addr) (s:aM) (N W:Nat) (acts:List Vbdcan.Act) (G0 H0 G:Hp),vs=[.ref a]/\W<=8/\bX acts/\kI c W acts G0 H0 G H a s N/\N<5000/\s.head=none /\
 ∀(b:Bool) (s':aM) (G' H':Hp),aJ G G'->kI c W acts G0 H0 G' H' a s' (N+1)->Ir acts s .close b s'->Q (.bl b) H'
theorem Pk (T:Txt K mg c):lx P w K mg base 8 c.cG "takes_closing" ["self"] (Kd c):=by
 refine ph T.aL.cl T.PR tM (fun f aw A aA s H vs Q E hr h=>?_)
 ·obtain⟨a,s,N,W,acts,G0,H0,G,rfl,hW,ao,R,hN,hh,k⟩:=h
  obtain⟨dx,kd,r,ar,hd,ts,rows,g,hA,eG,gA,dR,gk,gW,fk,gj,ch,dC,kn,dS,jP⟩:=R.ex
  have hlen:(ts.reverse.map V.ref).length=s.aG.length:=by rw [length_map,length_reverse,ch.uz]
  have vd:bI acts s .close=s.close:=by unfold bI;rw [hh]
  have e0:decide (V.int (s.aG.length:Int)=V.int 0)=decide (s.aG.length=0):=by
   rw [Bool.eq_iff_iff,decide_eq_true_eq,decide_eq_true_eq]
   exact⟨fun z=>by injection z with z;omega,fun z=>by rw [z];rfl⟩
  obtain⟨top,aG,head,bE,deep⟩:=s
  dsimp only at *
  refine⟨_,(ag (aX (aT dJ (bJ cC (by rfl) T.cB PySem.boot_len (aa (pF K 0) ae)) aq (aO _)) (ak (ay iJ)) aY)
    (ag (pq 1 tM (DQ PySem.F.plainAttrs_list PySem.F.slot_list_pop PySem.F.type_list_pop EM (pF K 0)))
    (ag (pq 2 tM (bH pK (pv 1) aq (fun _ _=>rfl)))
    (ag (pq 3 tM (bH pK (pv 1) aq (fun _ _=>rfl)))
    (ag (aX (aT dJ (pF K 3) (ic rfl T.zY) (aO _)) (ak (fC (fL PySem.F.plainAttrs_list PySem.F.slot_list_append PySem.F.type_list_append jd (pv 2) (aa (pC (NC T) hr (aa (pF K 0) (aa (pF K 0) ae))) ae)))) (ak (fC (fL PySem.F.plainAttrs_list PySem.F.slot_list_append PySem.F.type_list_append jd (pv 2) (aa (pC (NK T) hr (aa (pC (D1 T) hr (aa (pF K 3) ae)) (aa (pF K 0) (aa (pF K 0) ae)))) ae)))))
    (ag (bL (pv 0) (pv 2) rfl)
    (ak (ay iJ)))))))),?_⟩
  refine⟨_,rfl,a,_,dx,_,_,rfl,hA,T.aL.cl,T.aL.n,rfl,ar,_,rfl,.inl (ai.of dR),rfl,_,rfl,?_⟩
  rw [hlen,e0]
  cases ch with
  | base g1 h1 p1 n1=>
   refine aH ?_
   refine k false _ G H (aJ.refl _) ⟨dx,kd,r,ar,hd,_,_,g,hA,eG,gA,dR,gk,gW,fk,gj,.base g1 h1 p1 (by omega),dC,kn,dS,jP⟩ (Or.inr ⟨rfl,?_,rfl⟩)
   rw [vd];rfl
  | step g1 h1 p1 n1 ht hx FR hs nr rest=>
   rename_i t ro tk ts rows h l aG as x
   refine aI ?_
   obtain⟨Hh,P8,pN,yM⟩:=hx
   have p0:(t::ts).reverse.map V.ref=ts.reverse.map V.ref++[V.ref t]:=by rw [List.reverse_cons,map_append];rfl
   have pd:a≠ar:=dg hA dR (by intro z;cases z)
   have ED:r≠ar:=fun z=>fk (by rw [←z];simp)
   have O6:r≠a:=dg h1 hA (by intro z;cases z)
   have tO:ro∈rows:=rest.mem
   have EC:ro≠ar:=fun z=>fk (by rw [←z];exact mem_cons_of_mem _ tO)
   obtain⟨xo,Fe⟩:=rest.there ro tO
   have O5:ro≠a:=dg Fe hA (by intro z;cases z)
   have aR:a ∉ rows:=fun z=>by
    obtain⟨xs,e⟩:=rest.there a z
    rw [hA] at e;cases e
   refine⟨_,rfl,a,_,dx,_,_,rfl,hA,T.aL.cl,T.aL.n,rfl,.inl ⟨rfl,_,ai.of dR⟩,ar,_,.ref t,rfl,rfl,dR,?_,?_⟩
   ·rw [p0];simp
   have zK:((t::ts).reverse.map V.ref).dropLast=ts.reverse.map V.ref:=by rw [p0,List.dropLast_concat]
   rw [zK]
   have gs:=g.set (o:=.lst (ts.reverse.map V.ref)) gk gW
   have h1':upd H ar (.lst (ts.reverse.map V.ref)) r=some (.lst (as.map V.ref)):=by rw [aj ED];exact h1
   have gf:=gs.fix (gj r (by simp)) h1'
   have gr:G r=none:=g1
   have Gk:aJ G (upd G r (.lst (as.map V.ref))):=fun q o e=>by rw [aj (aP e gr)];exact e
   have lR:upd H ar (.lst (ts.reverse.map V.ref)) a=some (.ins c.cG dx (eX kd W 0 r ar hd bE deep)):=by rw [aj pd];exact hA
   have gL:=gf.sub _ _ (Gk _ _ ht)
   refine⟨_,rfl,t,_,0,_,rfl,rfl,cE.of gL,bS (j:=0) rfl,?_⟩
   refine⟨_,rfl,t,_,1,_,rfl,rfl,cE.of gL,bS (j:=1) rfl,?_⟩
   have Fm:=gf.sub _ _ (Gk _ _ pN)
   have Q9:=gf.sub _ _ (Gk _ _ yM)
   have uL:upd H ar (.lst (ts.reverse.map V.ref)) ro=some (.lst xo):=by rw [aj EC];exact Fe
   have fin:∀(p:Addr) (G2 H2:Hp) (s':aM),Gr (upd G r (.lst (as.map V.ref))) (upd H ar (.lst (ts.reverse.map V.ref))) G2 H2->aM.close ⟨top,(h,l)::aG,head,bE,deep⟩=some s'->s'.bE=bE->s'.deep=deep->s'.head=head->s'.aG.length=aG.length->
     (∀ c7:List Addr,H2 ro=some (.lst (c7.map V.ref))->Chain c W acts G2 H2 N ro ts rows top aG->Chain c W acts G2 (upd H2 ro (.lst (c7.map V.ref++[.ref p]))) (N+1) ro ts rows s'.top s'.aG)->
     xB (.ref ro) [.ref p] H2 fun _ H3=>iA (Dd K (bV 0) (bV 2) "row") (iA (iB (tC (.bl true))) jB) { nx:=fun _ H'=>Q .aD H',rt:=Q } [some (.ref a),some (.ref t),some (.ref ro),some (.ref tk)] H3:=fun p G2 H2 s' g2 es e1 e2 e3 e4 hc=>by
    have nv:Chain c W acts G2 H2 N ro ts rows top aG:=rest.mono (Gk.trans g2.gg) (fun q hq=>by
      obtain⟨xs,e⟩:=rest.there q hq
      have nq:q≠ar:=fun z=>fk (by rw [←z];exact mem_cons_of_mem _ hq)
      rw [g2.old q (by rw [aj nq,e];simp),aj (fun z=>nr (by rw [←z];exact hq))]
      exact rest.free q hq) (fun q hq=>by
      obtain⟨xs,e⟩:=rest.there q hq
      have nq:q≠ar:=fun z=>fk (by rw [←z];exact mem_cons_of_mem _ hq)
      rw [g2.same q _ (by rw [aj nq];exact e),e]) (Nat.le_refl _)
    obtain⟨c7,k7,nR⟩:=nv.row
    have Vv:=hc c7 k7 nv
    have Si:G2 ro=none:=nv.free ro tO
    have GD:G2 a=none:=by rw [g2.old a (by rw [lR];simp),aj O6.symm];exact gA
    have Sw:G2 ar=none:=by rw [g2.old ar (by rw [af];simp),aj ED.symm];exact gW
    refine⟨ro,_,_,rfl,rfl,k7,?_,?_⟩
    ·rw [length_map]
     exact Nat.lt_of_le_of_lt nR (Nat.lt_trans hN (by decide))
    have rN:upd H2 ro (.lst (c7.map V.ref++[.ref p])) a=some (.ins c.cG dx (eX kd W 0 r ar hd bE deep)):=by rw [aj O5.symm];exact g2.same _ _ lR
    refine⟨_,rfl,_,rfl,a,_,dx,_,rfl,rN,T.aL.cl,T.aL.n,(by show 8<1000;decide),?_⟩
    have g3:=(gf.trans g2).set (o:=.lst (c7.map V.ref++[.ref p])) (gj ro (mem_cons_of_mem _ tO)) Si
    have g4:=g3.set (o:=.ins c.cG dx (eX kd W 0 ro ar hd bE deep)) eG GD
    refine k true s' G2 _ (Gk.trans g2.gg) ⟨dx,kd,ro,ar,hd,ts,rows,g4,?_,eG,GD,?_,gk,Sw,fun z=>fk (mem_cons_of_mem _ z),fun q hq=>gj q (mem_cons_of_mem _ hq),Vv.upd aR,?_,kn.mono (Gk.trans g2.gg),?_,?_⟩ (Or.inl ⟨rfl,?_⟩)
    ·rw [af,e1,e2]
     rfl
    ·rw [aj pd.symm,aj EC.symm]
     exact g2.same _ _ af
    ·rw [e3];exact dC.mono (Gk.trans g2.gg)
    ·rw [e4];simp only [length_cons] at dS;omega
    ·intro z;rw [e3,hh] at z;cases z
    ·rw [vd];exact es
   refine⟨_,rfl,tk,_,Hh,_,_,rfl,Fm,T.cW.cl,T.cW.n,rfl,rfl,_,rfl,?_⟩
   have e1:decide (V.str (fJ x.sg)=V.str "*")=decide (x.sg=.star):=tj x.sg .star
   rw [e1]
   have pI:bj c W acts (upd G r (.lst (as.map V.ref))) as (itemsOf l):=bj.mono Gk _ p1
   cases h with
   | none=>
    have yV:=FR.star rfl
    rw [decide_eq_true yV]
    refine aH ?_
    have QN:=hs rfl
    subst QN
    refine⟨_,rfl,.inl ⟨rfl,_,ai.of uL⟩,?_⟩
    refine⟨_,rfl,a,_,dx,_,_,rfl,lR,T.aL.cl,T.aL.n,rfl,_,rfl,a,_,dx,_,_,rfl,lR,T.aL.cl,T.aL.n,rfl,acts,r,W,as,itemsOf l,_,rfl,hW,gf.sub,af,pI,by omega,ao,fun p G2 H2 g2 hp=>?_⟩
    exact fin p G2 H2 ⟨top++[.star (itemsOf l)],[],head,bE,deep⟩ g2 rfl rfl rfl rfl rfl fun c7 k7 nv=>nv.MN k7 hp
   | some n=>
    obtain⟨yV,hn,y9,zo⟩:=FR.num n rfl
    rw [decide_eq_false (by rw [yV];decide)]
    refine aI ?_
    refine⟨_,rfl,.inl ⟨rfl,_,ai.of uL⟩,?_⟩
    refine⟨_,rfl,tk,_,Hh,_,_,rfl,Fm,T.cW.cl,T.cW.n,rfl,P8,_,rfl,Q9,zo,?_⟩
    refine⟨_,rfl,a,_,dx,_,_,rfl,lR,T.aL.cl,T.aL.n,rfl,_,rfl,a,_,dx,_,_,rfl,lR,T.aL.cl,T.aL.n,rfl,?_⟩
    rw [←hn]
    refine⟨acts,n,r,W,as,itemsOf l,_,rfl,hW,gf.sub,af,pI,by omega,ao,fun h0=>mS.small y9 h0 _,fun p G2 H2 g2 hp=>?_⟩
    have ps:=iG ⟨top,aG,head,bE,deep⟩ (.rep n (itemsOf l))
    exact fin p G2 H2 (aM.push ⟨top,aG,head,bE,deep⟩ (.rep n (itemsOf l))) g2 rfl ps.2.2.2 ps.2.2.1 ps.2.1 ps.1 fun c7 k7 nv=>nv.push k7 hp
end
open Vbdcan (Item Items)
theorem nc {H:Hp}{a b:Addr}{o o':HO}(h:a≠b):upd (upd H a o) b o'=upd (upd H b o') a o:=by
 funext q
 by_cases e1:q=a
 ·subst e1
  rw [af,aj h,af]
 ·by_cases e2:q=b
  ·subst e2
   rw [af,aj e1,af]
  ·rw [aj e2,aj e1,aj e1,aj e2]
section
theorem Pl (T:Txt K mg c):lx P w K mg base 9 c.cG "takes" ["self","token"] (sZ c fun _ _=>True):=by
 refine ph T.aL.cl T.PU L3 (fun f aw A aA s H vs Q E hr h=>?_)
 ·obtain⟨a,tk,x,s,N,W,acts,G0,H0,G,rfl,hW,ao,R,ht,tok,hN,_,k⟩:=h
  obtain⟨dx,kd,r,ar,hd,ts,rows,g,hA,eG,gA,dR,gk,gW,fk,gj,ch,dC,kn,dS,jP⟩:=R.ex
  obtain⟨dt,lt,gL,ku⟩:=ht
  have ht1':=g.sub _ _ gL
  refine⟨_,(ag (aX (aT kj (pF K 0) cj (aO _)) (ak (ay (tX (pv 0) (Ph T) (hr.mono (by decide)) (aa (pv 1) ae)))) aY)
    (ag (aX (aT dJ (pF K 1) (ic rfl T.z8) (aO _)) (ak (ay (tX (pv 0) (Pj T) (hr.mono (by decide)) (aa (pv 1) ae)))) aY)
    (ag (aX (aT dJ (pF K 1) (ic rfl T.z7) (aO _)) (ag (bL (pv 0) (pv 1) rfl)
     (ak (ay iJ))) aY)
    (ag (aX (aT dJ (pF K 1) (ic rfl T.zY) (aO _)) (ak (ay (tX (pv 0) (Pg T) (hr.mono (by decide)) (aa (pv 1) ae)))) aY)
    (ak (ay (oV (ie dJ (pF K 1) (ic rfl T.VR) (aO _)) (mv (DO (pv 0) (Pk T) (hr.mono (by decide))))))))))),?_⟩
  refine⟨_,rfl,a,_,dx,_,_,rfl,hA,T.aL.cl,T.aL.n,rfl,rfl,_,rfl,?_⟩
  cases eh:s.head with
  | some hv=>
   rw [eh] at dC
   obtain⟨hk,yN,rfl,uN,uO⟩:=dC
   refine aH ?_
   exact⟨_,rfl,a,dx,_,rfl,hA,rfl,_,rfl,a,tk,x,s,N,W,acts,G0,H0,G,rfl,hW,ao,R,⟨dt,lt,gL,ku⟩,tok,hN,(fun z=>by rw [eh] at z;cases z),k⟩
  | none=>
   rw [eh] at dC
   have dC:hd=.aD:=dC
   subst dC
   refine aI ?_
   have e1:∀ sg:Sg,decide (V.str (fJ x.sg)=V.str (fJ sg))=decide (x.sg=sg):=fun sg=>tj x.sg sg
   refine⟨_,rfl,tk,_,dt,_,_,rfl,ht1',T.cW.cl,T.cW.n,rfl,rfl,_,rfl,?_⟩
   rw [show decide (V.str (fJ x.sg)=V.str "name")=decide (x.sg=.name) from e1 .name]
   refine gT (fun q=>?_) (fun q1=>?_)
   ·have q:=of_decide_eq_true q
    exact⟨_,rfl,a,dx,_,rfl,hA,rfl,_,rfl,a,tk,x,s,N,W,acts,G0,H0,G,rfl,hW,ao,R,⟨dt,lt,gL,ku⟩,tok,hN,⟨eh,q⟩,k⟩
   refine⟨_,rfl,tk,_,dt,_,_,rfl,ht1',T.cW.cl,T.cW.n,rfl,rfl,_,rfl,?_⟩
   rw [show decide (V.str (fJ x.sg)=V.str "numeral")=decide (x.sg=.num) from e1 .num]
   refine gT (fun q=>?_) (fun q2=>?_)
   ·have q:=of_decide_eq_true q
    obtain⟨y9,zo⟩:=tok.num q
    refine⟨_,rfl,_,rfl,a,_,dx,_,rfl,hA,T.aL.cl,T.aL.n,(by show 8<1000;decide),?_⟩
    have aR:a ∉ rows:=fun z=>by
     obtain⟨xs,e⟩:=ch.there a z
     rw [hA] at e;cases e
    have dw:ar≠a:=dg dR hA (by intro z;cases z)
    have g1:=g.set (o:=.ins c.cG dx (eX kd W 0 r ar (.ref tk) s.bE s.deep)) eG gA
    refine k true { s with head:=some (some (Vbdcan.number x.ls)) } G _ (aJ.refl _) ⟨dx,kd,r,ar,.ref tk,ts,rows,g1,?_,eG,gA,by rw [aj dw];exact dR,gk,gW,fk,gj,(ch.upd aR).mono (aJ.refl _) ch.free (fun _ _=>rfl) (by omega),⟨tk,x,rfl,⟨dt,lt,gL,ku⟩,⟨fun z=>(by cases z),fun n z=>(by cases z;exact⟨q,rfl,y9,zo⟩)⟩⟩,kn,dS,fun z=>(by cases z)⟩ (Or.inl ⟨rfl,?_⟩)
    ·rw [af];rfl
    ·unfold bI bY.tok
     rw [eh,q]
   refine⟨_,rfl,tk,_,dt,_,_,rfl,ht1',T.cW.cl,T.cW.n,rfl,rfl,_,rfl,?_⟩
   rw [show decide (V.str (fJ x.sg)=V.str "*")=decide (x.sg=.star) from e1 .star]
   refine gT (fun q=>?_) (fun q3=>?_)
   ·have q:=of_decide_eq_true q
    exact⟨_,rfl,a,dx,_,rfl,hA,rfl,_,rfl,a,tk,x,s,N,W,acts,G0,H0,G,rfl,hW,ao,R,⟨dt,lt,gL,ku⟩,tok,hN,⟨eh,q⟩,k⟩
   refine⟨_,rfl,tk,_,dt,_,_,rfl,ht1',T.cW.cl,T.cW.n,rfl,rfl,_,rfl,?_⟩
   rw [show decide (V.str (fJ x.sg)=V.str ")")=decide (x.sg=.cl) from e1 .cl]
   refine gT (fun q=>?_) (fun q4=>?_)
   ·have q:=of_decide_eq_true q
    have Uz:x.tok=.close:=by unfold bY.tok;rw [q]
    rw [Uz] at k
    exact⟨_,rfl,a,dx,_,rfl,hA,rfl,a,s,N,W,acts,G0,H0,G,rfl,hW,ao,R,hN,eh,k⟩
   ·refine k false s G H (aJ.refl _) ⟨dx,kd,r,ar,.aD,ts,rows,g,hA,eG,gA,dR,gk,gW,fk,gj,ch.mono (aJ.refl _) ch.free (fun _ _=>rfl) (by omega),by rw [eh];rfl,kn,dS,jP⟩ (Or.inr ⟨rfl,?_,rfl⟩)
    have n1:x.sg≠.name:=fun z=>q1 (decide_eq_true z)
    have n2:x.sg≠.num:=fun z=>q2 (decide_eq_true z)
    have n3:x.sg≠.star:=fun z=>q3 (decide_eq_true z)
    have n4:x.sg≠.cl:=fun z=>q4 (decide_eq_true z)
    unfold bI bY.tok
    rw [eh]
    cases ex:x.sg with
    | name=>exact absurd ex n1
    | num=>exact absurd ex n2
    | star=>exact absurd ex n3
    | cl=>exact absurd ex n4
    | op=>rfl
    | fz=>rfl
def KH (c:Cl):Sp:=fun vs H Q _=>∃(a:Addr) (s:aM) (N W:Nat) (acts:List Vbdcan.Act) (G0 H0 G:Hp),vs=[.ref a]/\kI c W acts G0 H0 G H a s N/\Q (.bl s.open?) H
theorem Pn (T:Txt K mg c):lx P w K mg base 1 c.cG "is_unfinished" ["self"] (KH c):=by
 refine ph T.aL.cl T.PV L4 (fun f aw A aA s H vs Q E hr h=>?_)
 ·obtain⟨a,s,N,W,acts,G0,H0,G,rfl,R,k⟩:=h
  obtain⟨dx,kd,r,ar,hd,ts,rows,g,hA,eG,gA,dR,gk,gW,fk,gj,ch,dC,kn,dS,jP⟩:=R.ex
  have hlen:(ts.reverse.map V.ref).length=s.aG.length:=by rw [length_map,length_reverse,ch.uz]
  refine⟨_,(ak (ay (DN (ie kj (pF K 0) cj (aO _)) (mv (ie fM (bJ cC (by rfl) T.cB PySem.boot_len (aa (pF K 0) ae)) aq (aO _)))))),?_⟩
  refine⟨_,rfl,a,_,dx,_,_,rfl,hA,T.aL.cl,T.aL.n,rfl,rfl,_,rfl,?_⟩
  unfold aM.open? at k
  cases eh:s.head with
  | some hv=>
   rw [eh] at dC k
   obtain⟨hk,yN,rfl,uN,uO⟩:=dC
   exact aH k
  | none=>
   rw [eh] at dC k
   have dC:hd=.aD:=dC
   subst dC
   refine aI ?_
   refine⟨_,rfl,a,_,dx,_,_,rfl,hA,T.aL.cl,T.aL.n,rfl,ar,_,rfl,.inl (ai.of dR),_,_,rfl,rfl,?_⟩
   rw [hlen]
   have e:decide ((0:Int)<(s.aG.length:Int))=(Option.isSome (none:Option (Option Nat))||decide (0<s.aG.length)):=by
    rw [Option.isSome_none,Bool.false_or,Bool.eq_iff_iff,decide_eq_true_eq,decide_eq_true_eq]
    omega
   rw [←e] at k
   exact k
def KS (c:Cl):Sp:=fun vs H Q _=>∃(p dx kd:Addr) (W:Nat),vs=[.ref p,.ref kd,.int W]/\H p=some (.ins c.cG dx []) /\
 ∀ r ar,H r=none->H ar=none->r≠ar->Q .aD (upd (upd (upd H r (.lst [])) ar (.lst [])) p (.ins c.cG dx (eX kd W 0 r ar .aD 0 0)))
theorem Pt (T:Txt K mg c):iw P w K mg base 1 "Reading" c.cG ["self","known","width"] (KS c):=by
 refine yr T.aL L5 (fun f aw A aA s H vs Q E hr h=>?_)
 ·obtain⟨p,dx,kd,W,rfl,hp,k⟩:=h
  refine⟨_,(ag (bL (pv 0) (pv 1) rfl)
    (ag (bL (pv 0) (pv 2) rfl)
    (ag (bL (pv 0) aq rfl)
    (ag (bL (pv 0) (aZ ae) rfl)
    (ag (bL (pv 0) (aZ ae) rfl)
    (ag (bL (pv 0) cj rfl)
    (ag (bL (pv 0) aq rfl)
    (ak (bL (pv 0) aq rfl))))))))),?_⟩
  refine⟨_,rfl,_,rfl,p,_,dx,_,rfl,hp,T.aL.cl,T.aL.n,(by show 0<1000;decide),?_⟩
  refine⟨_,rfl,_,rfl,p,_,dx,_,rfl,af,T.aL.cl,T.aL.n,(by show 1<1000;decide),?_⟩
  refine⟨_,rfl,p,_,dx,_,rfl,af,T.aL.cl,T.aL.n,(by show 2<1000;decide),?_⟩
  rw [bM,bM]
  refine⟨Nat.zero_le _,fun r nr=>?_⟩
  have yd:p≠r:=aP (af (H:=H) (a:=p)) nr
  have nr':H r=none:=by rw [aj yd.symm] at nr;exact nr
  refine⟨_,rfl,p,_,dx,_,rfl,(by rw [aj yd,af]),T.aL.cl,T.aL.n,(by show 3<1000;decide),?_⟩
  rw [nc (H:=H) yd,bM]
  refine⟨Nat.zero_le _,fun ar jc=>?_⟩
  have ug:p≠ar:=aP (af (H:=upd H r (.lst [])) (a:=p)) jc
  have Ek:r≠ar:=fun z=>by
   subst z
   rw [aj ug.symm,af] at jc;cases jc
  have nar':H ar=none:=by rw [aj ug.symm,aj Ek.symm] at jc;exact jc
  refine⟨_,rfl,p,_,dx,_,rfl,(by rw [aj ug,af]),T.aL.cl,T.aL.n,(by show 4<1000;decide),?_⟩
  rw [nc (H:=upd H r (.lst [])) ug,bM]
  refine⟨_,rfl,p,_,dx,_,rfl,af,T.aL.cl,T.aL.n,(by show 5<1000;decide),?_⟩
  refine⟨_,rfl,p,_,dx,_,rfl,af,T.aL.cl,T.aL.n,(by show 6<1000;decide),?_⟩
  refine⟨_,rfl,p,_,dx,_,rfl,af,T.aL.cl,T.aL.n,(by show 7<1000;decide),?_⟩
  rw [bM,bM,bM]
  exact k r ar nr' nar' Ek
end
open Vbdcan (Item Items)
structure ju (c:Cl) (W:Nat) (acts:List Vbdcan.Act) (G:Hp) (a:Addr) (res:Except Nat Vbdcan.Run):Prop where
 ex:∃(dx kd r ar:Addr) (pl:Nat) (hd:V) (st dp:Nat),G a=some (.ins c.cG dx (eX kd W pl r ar hd st dp))/\(∀ e,res=.error e->pl=e/\0<pl) /\
  ∀ m,res=.ok m->pl=0/\st=bW m/\dp=deepOf m/\∃ as:List Addr,G r=some (.lst (as.map V.ref))/\Al (oA c W acts G) as m
theorem ju.mono {c:Cl}{W:Nat}{acts:List Vbdcan.Act}{G G':Hp}{a:Addr}{res:Except Nat Vbdcan.Run}(h:ju c W acts G a res) (g:aJ G G'):ju c W acts G' a res:=by
 obtain⟨dx,kd,r,ar,pl,hd,st,dp,h1,h2,h3⟩:=h.ex
 refine⟨dx,kd,r,ar,pl,hd,st,dp,g _ _ h1,h2,fun m e=>?_⟩
 obtain⟨q1,q2,q3,as,q4,q5⟩:=h3 m e
 exact⟨q1,q2,q3,as,g _ _ q4,q5.imp fun a x z=>z.mono g⟩
theorem kI.fz {c:Cl}{W:Nat}{acts:List Vbdcan.Act}{G0 H0 G H:Hp}{a:Addr}{s:aM}{N:Nat}(R:kI c W acts G0 H0 G H a s N):∃ dx kd r ar hd,H a=some (.ins c.cG dx (eX kd W 0 r ar hd s.bE s.deep)) /\
  ∀(p:Nat) (res:Except Nat Vbdcan.Run),0<p->res=.error p->∃ G',Gr G0 H0 G' (upd H a (.ins c.cG dx (eX kd W p r ar hd s.bE s.deep)))/\ju c W acts G' a res:=by
 obtain⟨dx,kd,r,ar,hd,ts,rows,g,hA,eG,gA,_⟩:=R.ex
 refine⟨dx,kd,r,ar,hd,hA,fun p res hp e=>?_⟩
 have g1:=g.set (o:=.ins c.cG dx (eX kd W p r ar hd s.bE s.deep)) eG gA
 refine⟨_,g1.fix eG af,dx,kd,r,ar,p,hd,s.bE,s.deep,af,fun e' q=>?_,fun m q=>?_⟩
 ·rw [e] at q;cases q;exact⟨rfl,hp⟩
 ·rw [e] at q;cases q
section
def Kv (c:Cl):Sp:=fun vs H Q _=>∃(l kd:Addr) (t:List Nat) (W:Nat) (acts:List Vbdcan.Act) (G:Hp),vs=[.ref l,.ref kd,.int W]/\W<=8/\bX acts/\aJ G H/\H l=some (.lst (bD t))/\t.length<=5000/\sx c W acts G kd /\
 ∀ p G' H',Gr G H G' H'->ju c W acts G' p (readRun acts t)->Q (.ref p) H'
theorem NL (T:Txt K mg c):aW P w K mg base 10 "read_text" ["text","known","width"] (Kv c):=by
 refine a0 T.Tn wz (fun f aw A aA s H vs Q E hr h=>?_)
 ·obtain⟨l,kd,t,W,acts,G,rfl,hW,ao,g,hl,h5,kn,k⟩:=h
  refine⟨_,(ag (pq 3 wz (eL (Pt T) (hr.mono (by decide)) rfl (aa (pv 1) (aa (pv 2) ae))))
    (ag (aX (aT fM (bJ cC (by rfl) T.cB PySem.boot_len (aa (pv 0) ae)) (bP rfl T.HH) (aO _)) (ag (bL (pv 3) (bA dM (bP rfl T.HH) aq) rfl)
     (ak (ay (pv 3)))) aY)
    (ag (gP PassesOwn.never rfl (fD (pC (D4 T) hr (aa (pv 0) ae))) (dk (i:=4) wz.nd rfl (Or.inl rfl)) (ak (aX (fg (cO (tX (pv 3) (Pl T) (hr.mono (by decide)) (aa (pv 4) ae)))) (ag (bL (pv 3) (pF K 4) rfl)
      (ak (ay (pv 3)))) aY)))
    (ag (aX (cO (DO (pv 3) (Pn T) (hr.mono (by decide)))) (ak (bL (pv 3) (bA dM (bJ cC (by rfl) T.cB PySem.boot_len (aa (pv 0) ae)) aq) rfl)) aY)
    (ak (ay (pv 3))))))),?_⟩
  refine⟨_,rfl,_,rfl,?_⟩
  refine fun a dx n1 n2 n3=>⟨a,dx,kd,W,rfl,af,fun r ar nr jc dw=>⟨rfl,?_⟩⟩
  have o7:r≠a:=fun z=>by rw [z,af] at nr;cases nr
  have EJ:ar≠a:=fun z=>by rw [z,af] at jc;cases jc
  have OK:r≠dx:=fun z=>by rw [z,aj n3,af] at nr;cases nr
  have Pa:ar≠dx:=fun z=>by rw [z,aj n3,af] at jc;cases jc
  have El:H r=none:=by rw [aj o7,aj OK] at nr;exact nr
  have EK:H ar=none:=by rw [aj EJ,aj Pa] at jc;exact jc
  have gA:G a=none:=g.free n1
  have gr:G r=none:=g.free El
  have Su:G ar=none:=g.free EK
  generalize rL:upd (upd (upd (upd (upd H dx (.own a)) a (.ins c.cG dx [])) r (.lst [])) ar (.lst [])) a (.ins c.cG dx (eX kd W 0 r ar .aD 0 0))=H1
  have g1:Gr G H G H1:=by
   rw [←rL]
   have q1:=(Gr.refl g).loose (o:=.own a) n2
   have q2:=q1.loose (p:=a) (o:=.ins c.cG dx []) (by rw [aj (fun e=>n3 e.symm)];exact n1)
   have q3:=q2.loose (p:=r) (o:=.lst []) nr
   have q4:=q3.loose (p:=ar) (o:=.lst []) (by rw [aj dw.symm];exact jc)
   exact q4.set n1 gA
  have lR:H1 a=some (.ins c.cG dx (eX kd W 0 r ar .aD 0 0)):=by rw [←rL,af]
  have cx:H1 r=some (.lst []):=by rw [←rL,aj o7,aj dw,af]
  have F9:H1 ar=some (.lst []):=by rw [←rL,aj EJ,af]
  have bC:=g1.same _ _ hl
  have R1:∀(G2 H2:Hp),Gr G H1 G2 H2->kI c W acts G H G2 H2 a aM.init 0:=fun G2 H2 g2=>by
   have o:∀ q,H1 q≠none->G q=none->G2 q=none:=fun q z1 z2=>by rw [g2.old q z1];exact z2
   refine⟨dx,kd,r,ar,.aD,[],[r],g1.trans g2,g2.same _ _ lR,n1,o a (by rw [lR];simp) gA,g2.same _ _ F9,EK,o ar (by rw [F9];simp) Su,(by simp;exact dw.symm),(by intro q hq;simp at hq;rw [hq];exact El),?_,rfl,kn.mono g2.gg,Nat.zero_le _,fun z=>(by cases z)⟩
   exact .base (as:=[]) (o r (by rw [cx];simp) gr) (g2.same _ _ cx) Al.nil (Nat.le_refl _)
  refine⟨_,rfl,l,_,rfl,.inl (ai.of bC),_,_,rfl,rfl,_,rfl,?_⟩
  rw [fX]
  refine gT (fun q=>?_) (fun q=>?_)
  ·have q:(4096:Int)<(t.length:Int):=of_decide_eq_true q
   have R:=R1 G H1 (Gr.refl g1.sub)
   obtain⟨dx',kd',r',ar',hd',hA',fin⟩:=R.fz
   obtain⟨G',gg,ra⟩:=fin 4097 (readRun acts t) (by decide) (i5 (by unfold readM;rw [if_pos (by omega)]))
   refine⟨_,_,rfl,rfl,_,rfl,a,_,dx',_,rfl,hA',T.aL.cl,T.aL.n,(by show 8<1000;decide),?_⟩
   exact⟨_,rfl,k a G' _ gg ra⟩
  ·have q:¬ (4096:Int)<(t.length:Int):=fun z=>q (decide_eq_true z)
   have eM:readM acts t=cz acts (t.length+1) aM.init ((pt 1 t).map fun x=>(x.tok,x.pl)):=by unfold readM pt;rw [if_neg (by omega)]
   refine⟨_,rfl,l,t,G,rfl,g1.sub,bC,h5,fun p as G2 H2 g2 hp ha=>?_⟩
   have Xz:(pt 1 t).length<=t.length:=My.oT _ _ _
   refine⟨p,rfl,⟨_,ai.of (g2.sub _ _ hp)⟩,lj (K:=K) (a:=p) (xs:=as.map V.ref) (fun i σ H'=>∃(v:Option V) (s:aM) (G':Hp),σ=[some (.ref l),some (.ref kd),some (.int W),some (.ref a),v]/\aJ G2 G'/\kI c W acts G H G' H' a s i /\
    cV acts aM.init ((pt 1 t).map fun x=>(x.tok,x.pl))=cV acts s (((pt 1 t).map fun x=>(x.tok,x.pl)).drop i))
    ⟨none,aM.init,G2,rfl,aJ.refl _,R1 G2 H2 g2,rfl⟩ (fun i σ H' _ ⟨_,s,G',_,sg,R,_⟩=>ai.of ((let ⟨_,_,_,_,_,_,_,gg,_⟩:=R.ex;gg.sub) _ _ (sg _ _ hp))) ?_ ?_⟩
   ·rintro i y σ H3 hy ⟨v,s,G3,rfl,sg,R,inv⟩
    obtain⟨tk,UA,rfl⟩:=i4 hy
    obtain⟨x,ex,QK⟩:=ha.get UA
    have Fg:=QK.mono sg
    have Ff:x∈pt 1 t:=mem_of_getElem? ex
    have hi:i<(pt 1 t).length:=(List.getElem?_eq_some_iff.mp ex).1
    have eT:((pt 1 t).map fun x=>(x.tok,x.pl))[i]? = some (x.tok,x.pl):=by rw [getElem?_map,ex];rfl
    obtain⟨zN,Qr,r3,WH,pY,zw⟩:=R.obj
    have mf:aJ G3 H3:=(let ⟨_,_,_,_,_,_,_,gg,_⟩:=R.ex;gg.sub)
    refine⟨_,rfl,a,zN,_,rfl,zw,rfl,_,rfl,a,tk,x,s,i,W,acts,G,H,G3,rfl,hW,ao,R,Fg,⟨fun z=>My.MP _ _ _ x Ff z⟩,by omega,trivial,fun b s' G4 H4 Bp R4 Js=>?_⟩
    refine⟨_,rfl,?_⟩
    rcases Js with ⟨rfl,eZ⟩ |⟨rfl,eZ,rfl⟩
    ·refine aI ⟨_,s',G4,rfl,sg.trans Bp,R4,?_⟩
     rw [inv]
     exact My.Pp eT eZ
    ·refine aH ?_
     obtain⟨dt,lt,gL,ku⟩:=Fg
     have qv:aJ G4 H4:=(let ⟨_,_,_,_,_,_,_,gg,_⟩:=R4.ex;gg.sub)
     obtain⟨dx',kd',r',ar',hd',hA',fin⟩:=R4.fz
     have dh:0<x.pl:=My.xC _ _ _ x Ff
     obtain⟨G',gg,ra⟩:=fin x.pl (readRun acts t) dh (i5 (by
      rw [eM]
      unfold cz
      rw [inv,My.Po eT eZ]))
     refine⟨_,rfl,tk,_,dt,_,_,rfl,qv _ _ (Bp _ _ gL),T.cW.cl,T.cW.n,rfl,_,rfl,a,_,dx',_,rfl,hA',T.aL.cl,T.aL.n,(by show 8<1000;decide),?_⟩
     exact⟨_,rfl,k a G' _ gg ra⟩
   ·rintro σ H3 ⟨v,s,G3,rfl,sg,R,inv⟩
    have oa:(((pt 1 t).map fun x=>(x.tok,x.pl)).drop (as.map V.ref).length)=[]:=by
     rw [drop_eq_nil_iff,length_map,length_map,ha.len]
     exact Nat.le_refl _
    rw [oa] at inv
    have inv:cV acts aM.init ((pt 1 t).map fun x=>(x.tok,x.pl))=.ok s:=inv
    obtain⟨zN,Qr,r3,WH,pY,zw⟩:=R.obj
    refine⟨_,rfl,a,zN,_,rfl,zw,rfl,a,s,_,W,acts,G,H,G3,rfl,R,_,rfl,?_⟩
    refine gT (fun q2=>?_) (fun q2=>?_)
    ·obtain⟨dx',kd',r',ar',hd',hA',fin⟩:=R.fz
     obtain⟨G',gg,ra⟩:=fin (t.length+1) (readRun acts t) (by omega) (i5 (by
      rw [eM]
      unfold cz
      rw [inv]
      dsimp only
      rw [if_pos q2]))
     have Rj:H3 l=some (.lst (bD t)):=(let ⟨_,_,_,_,_,_,_,gg,_⟩:=R.ex;gg.same) _ _ hl
     refine⟨_,rfl,l,_,rfl,.inl (ai.of Rj),_,_,rfl,rfl,_,rfl,a,_,dx',_,rfl,hA',T.aL.cl,T.aL.n,(by show 8<1000;decide),?_⟩
     refine⟨_,rfl,?_⟩
     rw [fX]
     exact k a G' _ gg ra
    ·obtain⟨m,em,es⟩:=My.Mr (acts:=acts) (t:=t) (s:=s) (by
      rw [eM]
      unfold cz
      rw [inv]
      dsimp only
      rw [if_neg q2])
     obtain⟨dx',kd',r',ar',hd',ts,rows,gg,hA',eG,gA',hAr',gk,gAr',nAr',h0R',ch,dC,kn',dS,jP⟩:=R.ex
     subst es
     refine⟨_,rfl,?_⟩
     cases ch with
     | base gz hz pz nz=>
      rename_i az
      have f1:=gg.fix eG hA'
      have f2:=f1.fix (h0R' r' (by simp)) hz
      have gr':G3 r'=none:=gz
      have nra':r'≠a:=dg hz hA' (by intro z;cases z)
      have k1:aJ G3 (upd G3 a (.ins c.cG dx' (eX kd' W 0 r' ar' hd' (bW m) (deepOf m)))):=fun q o e=>by rw [aj (aP e gA')];exact e
      have k2:aJ G3 (upd (upd G3 a (.ins c.cG dx' (eX kd' W 0 r' ar' hd' (bW m) (deepOf m)))) r' (.lst (az.map V.ref))):=fun q o e=>by rw [aj (aP e gr')];exact k1 _ _ e
      refine k a _ H3 f2 ⟨dx',kd',r',ar',0,hd',bW m,deepOf m,?_,fun e z=>?_,fun m' z=>?_⟩
      ·rw [aj nra'.symm,af];rfl
      ·rw [em] at z;cases z
      ·rw [em] at z
       cases z
       exact⟨rfl,rfl,rfl,az,af,pz.imp fun b x z=>z.mono k2⟩
end
open Vbdcan (Item Items)
theorem gN {x:Int}(h:x.natAbs<=8*cQ):Bd x:=by
 unfold Bd
 have e:8*cQ=pw 11753:=by
  unfold cQ
  rw [show(8:Nat)=pw 3 by rw [dY],←gE]
 rw [e] at h
 have h2:pw 11753+pw 11753<=pw 13000:=by
  have:pw 11753+pw 11753=pw 11754:=by
   rw [show(11754:Nat)=11753+1 from rfl,gE,dY 1];omega
  rw [this]
  exact gb (by decide)
 have h1:=fK 11753
 have h3:x.natAbs<pw 13000:=by omega
 rw [dY] at h3
 exact h3
theorem oZ (x:Int):mZ 1 x:=.inl (.inl ⟨by decide,by decide⟩)
structure Ws (W:Nat) (acts:List Vbdcan.Act):Prop where
 w:W<=8
 ok:bX acts
 small:My.qh acts
 tail:My.ly W acts
theorem xq {W:Nat}{rs:List Int}{s:Vbdcan.Sum}(r:cH W rs) (hs:Wf s) (ht:Tail W s):cH W (plus rs s.add):=by
 have:=r.plus hs ht 1
 rw [fA hs.add] at this
 exact this
structure Ao (c:Cl) (W:Nat) (acts:List Vbdcan.Act) (G H:Hp) (r lh D:Addr) (rs:List Int) (m:Vbdcan.Run) (i:Nat) (σ:L2.St) (H':Hp):Prop where
 ex:∃(nl:Addr) (b:Bool) (v5 v6:Option V) (now:List Int) (c7:List Addr) (l0:List Item) (S:Nat) (G':Hp),
  σ=[some (.ref r),some (.ref lh),some (.ref nl),some (.bl b),some (.ref D),v5,v6,none]/\Gr G H G' H'/\G' D=none/\H' D=some (.lst (c7.map V.ref))/\bj c W acts G' c7 (itemsOf l0)/\c7.length=i /\
  H' nl=some (.lst (bz W now))/\nl≠D/\cH W now/\cc S now/\bG<=S/\grow (m.drop i) S<=cQ /\
  de acts rs true m=(de acts now b (m.drop i)).map (fun l=>l0++l)
section
theorem Bq (T:Txt K mg c){W:Nat}{acts:List Vbdcan.Act}(ws:Ws W acts){G H G2 H2:Hp}{r lh D nl q:Addr}{rs now:List Int}{m:Vbdcan.Run}{i:Nat}{b:Bool}{v5 v6:Option V}{c7:List Addr}{l0:List Item}{it:Item}{S S':Nat}
  (nD:H D=none) (g:Gr G H G2 H2) (gD:G2 D=none) (hD:H2 D=some (.lst (c7.map V.ref++[.ref q]))) (hI:bj c W acts G2 c7 (itemsOf l0)) (hlen:c7.length=i) (hq:bF c W acts G2 q it)
  (cK:H2 nl=some (.lst (bz W now))) (mB:nl≠D) (hr:cH W now) (hS:bG<=S') (hle:cc S' now) (zc:cc S' (plus now (sumItem acts it).add)) (hg:grow (m.drop (i+1)) S'<=cQ)
  (inv:de acts rs true m=(de acts (if(b&&fits now (sumItem acts it).box)=true then plus now (sumItem acts it).add else now) (b&&fits now (sumItem acts it).box) (m.drop (i+1))).map (fun l=>l0++it::l))
  (E:Ends) (k:∀ σ' H',Ao c W acts G H r lh D rs m (i+1) σ' H'->E.nx σ' H') :
  iA (me (vR (bV 3) (iC (wc c) [] E0 (cF (du K (fH (qG K) (bV 4) (qt (rU fun i=>.int (-i)) (tC (.int 1)))) "whole") (cF (bV 2) dz)))) (jm 3))
   (lB (tB (bV 3)) (me (iC (wb c) [] E0 (cF (bV 2) (cF (du K (fH (qG K) (bV 4) (qt (rU fun i=>.int (-i)) (tC (.int 1)))) "whole") (cF (tC (.int 1)) dz)))) (jm 2)) jB) E
   [some (.ref r),some (.ref lh),some (.ref nl),some (.bl b),some (.ref D),v5,v6,none] H2:=by
 have xi:=cU ws.ok it
 have ti:=gw ws.ok ws.tail it
 obtain⟨dq,x1,x2,x3,x4,sw,FA,mK⟩:=hq.whole
 have eD:c7.map V.ref++[V.ref q]=(c7++[q]).map V.ref:=by rw [map_append];rfl
 have fin:∀(G3 H3:Hp) (nl':Addr) (now':List Int) (b':Bool) (v5 v6:Option V),Gr G2 H2 G3 H3->H3 nl'=some (.lst (bz W now'))->nl'≠D->cH W now'->cc S' now'->b'=(b&&fits now (sumItem acts it).box)->now'=(if b'=true then plus now (sumItem acts it).add else now)->
   E.nx [some (.ref r),some (.ref lh),some (.ref nl'),some (.bl b'),some (.ref D),v5,v6,none] H3:=fun G3 H3 nl' now' b' v5 v6 g3 h1 h2 h3 h4 h5 h6=>by
  refine k _ _ ⟨nl',b',v5,v6,now',c7++[q],l0++[it],S',G3,rfl,g.trans g3,?_,?_,(bj.mono g3.gg _ hI).snoc (bF.mono g3.gg _ hq),by simp [hlen],h1,h2,h3,h4,hS,hg,?_⟩
  ·rw [g3.old D (by rw [hD];simp)];exact gD
  ·rw [←eD];exact g3.same _ _ hD
  ·rw [inv,←h5,←h6]
   congr 1
   funext l
   rw [append_assoc];rfl
 refine⟨_,rfl,b,rfl,?_⟩
 cases b with
 | false=>
  refine aI ?_
  refine⟨_,rfl,_,rfl,aI ?_⟩
  exact fin G2 H2 nl now false v5 v6 (Gr.refl g.sub) cK mB hr hle rfl rfl
 | true=>
  refine aH ?_
  refine⟨_,rfl,_,rfl,D,_,_,_,rfl,rfl,ai.of hD,HZ _ _,q,_,dq,_,_,rfl,g.sub _ _ FA,T.aQ.cl,T.aQ.n,rfl,_,rfl,sw,nl,_,now,W,G2,rfl,ws.w,g.sub,mK,cK,hr.len,xi.1,ti,fun H3 G3 g3=>?_⟩
  refine⟨_,rfl,_,rfl,?_⟩
  cases ef:fits now (sumItem acts it).box with
  | false=>
   refine aI ?_
   exact fin G3 H3 nl now false v5 v6 g3 (g3.same _ _ cK) mB hr hle (by rw [ef];rfl) rfl
  | true=>
   refine aH ?_
   refine⟨_,rfl,_,rfl,_,rfl,D,_,_,_,rfl,rfl,ai.of (g3.same _ _ hD),HZ _ _,q,_,dq,_,_,rfl,g3.sub _ _ (g3.gg _ _ FA),T.aQ.cl,T.aQ.n,rfl,sw,nl,1,_,now,W,G3,rfl,ws.w,g3.sub,mK.mono g3.gg,g3.same _ _ cK,hr.len,xi.1,fun _ _=>oZ _,fun p H4 G4 g4 hp=>?_⟩
   rw [fA xi.1.add] at hp
   have Et:p≠D:=fun z=>by
    have:G4 D=none:=by rw [(g3.trans g4).old D (by rw [hD];simp)];exact gD
    rw [z,this] at hp;cases hp
   exact fin G4 H4 p _ true v5 v6 (g3.trans g4) (g4.sub _ _ hp) Et (xq hr xi.1 ti) zc (by rw [ef];rfl) rfl
theorem bF.times {c:Cl}{W:Nat}{acts:List Vbdcan.Act}{G:Hp}{a:Addr}{i:Item}(h:bF c W acts G a i):∃(dx:Addr) (x1:V) (n:Nat) (x3 x4 x5:V),G a=some (.ins c.part dx (jH x1 (.int n) x3 x4 x5)):=by
 cases i with
 | act i=>
  unfold bF at h
  obtain⟨dx,r,so,h1,h2,h3⟩:=h
  exact⟨dx,_,1,_,_,_,h1⟩
 | rep n l=>
  unfold bF at h
  obtain⟨dx,r,so,sw,as,h1,h2,h3,h4,h5⟩:=h
  exact⟨dx,_,n,_,_,_,h1⟩
theorem wk (T:Txt K mg c){W:Nat}{acts:List Vbdcan.Act}(ws:Ws W acts){G2 H2:Hp}{a D nl r lh:Addr}{b:Bool}{ls:Items}{o:Option Nat}{c7:List Addr}(g2:aJ G2 H2) (eZ:ll c W acts G2 a ls) (hD:H2 D=some (.lst (c7.map V.ref))) (nR:c7.length<5000) (rJ:∀ n,o=some n->n≠0->mS W n (sumItems acts ls))
  (E:Ends) (kn:o=none->E.rt .aD H2)
  (k:∀(n:Nat) (q:Addr) (G3 H3:Hp),o=some n->Gr G2 H2 G3 H3->bF c W acts G3 q (.rep n ls)->E.nx [some (.ref r),some (.ref lh),some (.ref nl),some (.bl b),some (.ref D),some (.ref a),some (.int n),none] (upd H3 D (.lst (c7.map V.ref++[.ref q])))) :
  iA (lB (lA (fH (fun x y H Q=>y=.aD/\Q (.bl (decide (x=.aD))) H) (bV 6) (tC .aD))) (iB (tC .aD)) jB)
   (sV (sW K "list" xB (bV 4) (cF (iC (Bj c) [] E0 (cF (bV 6) (cF (du K (bV 5) "row") (cF (du K (bV 5) "once") dz)))) dz))) E
   [some (.ref r),some (.ref lh),some (.ref nl),some (.bl b),some (.ref D),some (.ref a),some (cJ (d9 o)),none] H2:=by
 obtain⟨da,ra,so,fb,h1,h2,h3,h4⟩:=eZ
 cases o with
 | none=>exact⟨_,rfl,rfl,_,rfl,aH (kn rfl)⟩
 | some n=>
  refine⟨_,rfl,rfl,_,rfl,aI ?_⟩
  refine⟨_,rfl,.inl ⟨rfl,_,ai.of hD⟩,_,rfl,_,rfl,a,_,da,_,_,rfl,g2 _ _ h1,T.aQ.cl,T.aQ.n,rfl,_,rfl,a,_,da,_,_,rfl,g2 _ _ h1,T.aQ.cl,T.aQ.n,rfl,
   acts,n,ra,so,W,fb,ls,G2,rfl,ws.w,g2,h2,h3,h4,ws.ok,rJ n rfl,fun q G3 H3 g3 hq=>?_⟩
  refine⟨D,_,_,rfl,rfl,g3.same _ _ hD,?_,k n q G3 H3 rfl g3 hq⟩
  rw [length_map]
  exact Nat.lt_trans nR (by decide)
def Km (c:Cl):Sp:=fun vs H Q _=>∃(r lh:Addr) (m:Vbdcan.Run) (rs:List Int) (W:Nat) (acts:List Vbdcan.Act) (as:List Addr) (G:Hp),vs=[.ref r,.ref lh]/\Ws W acts/\aJ G H/\G r=some (.lst (as.map V.ref))/\Al (oA c W acts G) as m /\
 H lh=some (.lst (bz W rs))/\cH W rs/\cc bG rs/\m.length<=4096/\(∀ p∈m,My.mV 4096 p)/\bW m<=8 /\
 (Vbdcan.settle acts rs true m=none->∀ G' H',Gr G H G' H'->Q .aD H') /\
 ∀ l,Vbdcan.settle acts rs true m=some l->∀ p G' H',Gr G H G' H'->bF c W acts G' p (.rep 1 (itemsOf l))->Q (.ref p) H'
set_option maxHeartbeats 1500000 in
theorem NG (T:Txt K mg c):aW P w K mg base 7 "settled" ["row","held"] (Km c):=by
 refine a0 T.Ta lC (fun f aw A aA s H vs Q E hr h=>?_)
 ·obtain⟨r,lh,m,rs,W,acts,as,G,rfl,ws,g,mI,cg,lP,k6,y4,hm,QY,QO,kn,ks⟩:=h
  have Fs:de acts rs true m=Vbdcan.settle acts rs true m:=My.oM ws.ok m rs true k6.len
  refine⟨_,(ag (pq 2 lC (pv 1))
    (ag (pq 3 lC iJ)
    (ag (pq 4 lC (aZ ae))
    (ag (gP PassesOwn.never rfl (fD (pv 0)) (dk (i:=5) lC.nd rfl (Or.inl rfl)) (ag (aX (aT gR (pF K 5) cj (aO _)) (ag (pq 6 lC (i9 (PW.pt (lF (cO (pv 3)) (lE (aT fM (cy (K:=K) (pF K 5) rfl) aq (aO _))))) (pC (t8 T) hr (aa (pF K 5) (aa (pv 2) ae))) aq))
      (ag (aX (aT gR (pv 6) cj (aO _)) (ak (ay cj)) aY)
      (ak (fC (fL PySem.F.plainAttrs_list PySem.F.slot_list_append PySem.F.type_list_append jd (pv 4) (aa (pC (D6 T) hr (aa (pv 6) (aa (pF K 5) (aa (pF K 5) ae)))) ae)))))) (ak (fC (fL PySem.F.plainAttrs_list PySem.F.slot_list_append PySem.F.type_list_append jd (pv 4) (aa (pv 5) ae)))))
     (ag (pq 3 lC (oV (pv 3) (mv (pC (ua T) hr (aa (cy (K:=K) (bH bQ (pv 4) (kP kM aq) (fun _ _=>rfl)) rfl) (aa (pv 2) ae))))))
     (ak (aX (cO (pv 3)) (ak (pq 2 lC (pC (my T) hr (aa (pv 2) (aa (cy (K:=K) (bH bQ (pv 4) (kP kM aq) (fun _ _=>rfl)) rfl) (aa aq ae)))))) aY)))))
    (ag (pq 7 lC (pC (mw T) hr (aa (pv 4) (aa (bJ cC (by rfl) T.cB PySem.boot_len (aa (pv 1) ae)) ae))))
    (ak (ay (eL (uv T) (hr.mono (by decide)) rfl (aa cj (aa aq (aa (pv 4) (aa (pv 7) (aa (pv 7) ae))))))))))))),?_⟩
  refine⟨_,rfl,?_⟩
  refine⟨Nat.zero_le _,fun D nD=>?_⟩
  have qU:lh≠D:=aP lP nD
  have OL:r≠D:=aP (g _ _ mI) nD
  refine⟨_,rfl,r,rfl,⟨_,ai.of (by rw [aj OL];exact g _ _ mI)⟩,lj (K:=K) (a:=r) (xs:=as.map V.ref) (Ao c W acts G H r lh D rs m) ?_ (fun i σ H' _ L=>?_) ?_ ?_⟩
  ·refine⟨lh,true,none,none,rs,[],[],bG,G,rfl,(Gr.refl g).loose nD,g.free nD,af,by unfold itemsOf bj;rfl,rfl,by rw [aj qU];exact lP,qU,k6,y4,Nat.le_refl _,My.Gn hm QO,?_⟩
   rw [drop_zero]
   cases de acts rs true m<;>rfl
  ·obtain⟨nl,b,v5,v6,now,c7,l0,S,G1,rfl,g1,_⟩:=L.ex
   exact ai.of (g1.sub _ _ (g1.gg _ _ mI))
  ·rintro i y σ H1 hy L
   obtain⟨nl,b,v5,v6,now,c7,l0,S,G1,rfl,g1,gD,hD,hI,hlen,cK,mB,cx,hle,hS,hg,inv⟩:=L.ex
   obtain⟨a,ea,rfl⟩:=i4 hy
   obtain⟨p,ep,hp⟩:=cg.get ea
   have ik:=hp.mono g1.gg
   have hi:i<m.length:=(List.getElem?_eq_some_iff.mp ep).1
   have UR:m.drop i=p::m.drop (i+1):=by
    rw [drop_eq_getElem_cons hi]
    congr 1
    exact(List.getElem?_eq_some_iff.mp ep).2
   have FC:=QY p (mem_of_getElem? ep)
   rw [UR] at hg inv
   cases p with
   | item it=>
    have ik:bF c W acts G1 a it:=ik
    obtain⟨da,x1,n,x3,x4,x5,h1⟩:=ik.times
    refine⟨_,rfl,a,_,da,_,_,rfl,g1.sub _ _ h1,T.aQ.cl,T.aQ.n,rfl,rfl,_,rfl,aI ?_⟩
    refine⟨_,rfl,.inl ⟨rfl,_,ai.of hD⟩,_,rfl,D,_,_,rfl,rfl,hD,?_,?_⟩
    ·rw [length_map,hlen]
     exact Nat.lt_trans (by omega:i<4097) (by decide)
    have g2:=g1.set (o:=.lst (c7.map V.ref++[.ref a])) nD gD
    have jh:=FC.it it rfl
    have fq:=My.AE jh.1 jh.2.1 jh.2.2
    have sl:=gy ws.ok ws.small it
    rw [grow] at hg
    have RY:bG<=S+bG:=Nat.le_add_left _ _
    have zc:cc (S+bG) now:=hle.mono (Nat.le_add_right _ _)
    refine Bq T ws (S:=S) (S':=S+bG) nD g2 gD af hI hlen ik (by rw [aj mB];exact cK) mB cx RY zc ?_ hg ?_ _ (fun σ' H' z=>z)
    ·exact(cc.plus cx.len (cU ws.ok it).1.add hle sl.now).mono (by omega)
    ·rw [inv,de,Option.map_map]
     rfl
   | star ls=>
    have ik:ll c W acts G1 a ls:=ik
    obtain⟨da,ra,so,fb,h1,h2,h3,h4⟩:=ik
    have jh:=FC.st ls rfl
    have fq:=My.sL jh.1 jh.2.1 (by omega)
    have sl:=fI ws.ok ws.small ls
    have wl:=bU ws.ok ls
    have tl:=eU ws.ok ws.tail ls
    have RW:S<=cQ:=Nat.le_trans (Nat.le_trans (Nat.le_mul_of_pos_right S (fK 1302)) (My.zB _ _)) hg
    have Xt:bh ls<=cQ:=Nat.le_trans fq (Nat.le_trans hS RW)
    rw [grow] at hg
    have Ef:∀ o:Option Nat,o=(if b=true/\0<(sumItems acts ls).len then often now (sumItems acts ls) else some 0)->∀ n,o=some n->n<=S+bG+1:=fun o ho n e=>by
     rw [ho] at e
     split at e
     ·have:=ja cx.len wl.1 hle sl e
      omega
     ·cases e;omega
    have rJ:∀ o:Option Nat,o=(if b=true/\0<(sumItems acts ls).len then often now (sumItems acts ls) else some 0)->∀ n,o=some n->n≠0->mS W n (sumItems acts ls):=fun o ho n e h0=>by
     have hn:=Ef o ho n e
     have RR:=iT
     have bn:Bd (n:Int):=gN (by rw [Int.natAbs_natCast];omega)
     have VZ:Bd ((n:Int)-1):=gN (by omega)
     have bx:∀ x:Int,x.natAbs<=bh ls->Bd x:=fun x hx=>gN (by omega)
     have bl:Bd ((sumItems acts ls).len:Int):=bx _ (by rw [Int.natAbs_natCast];exact sl.len)
     exact⟨.inr ⟨bn,bl⟩,fun k hk=>⟨.inr ⟨VZ,bx _ (sl.sp k (by have:=ws.w;omega)).add⟩,.inr ⟨bn,bx _ (sl.sp k (by have:=ws.w;omega)).add⟩⟩⟩
    have cont:∀(o:Option Nat) (G2 H2:Hp) (n:Nat) (q:Addr) (G3 H3:Hp) (E':Ends),o=(if b=true/\0<(sumItems acts ls).len then often now (sumItems acts ls) else some 0)->Gr G1 H1 G2 H2->(∀ σ' H',Ao c W acts G H r lh D rs m (i+1) σ' H'->E'.nx σ' H')->o=some n->Gr G2 H2 G3 H3->bF c W acts G3 q (.rep n ls)->
      iA (me (vR (bV 3) (iC (wc c) [] E0 (cF (du K (fH (qG K) (bV 4) (qt (rU fun i=>.int (-i)) (tC (.int 1)))) "whole") (cF (bV 2) dz)))) (jm 3))
       (lB (tB (bV 3)) (me (iC (wb c) [] E0 (cF (bV 2) (cF (du K (fH (qG K) (bV 4) (qt (rU fun i=>.int (-i)) (tC (.int 1)))) "whole") (cF (tC (.int 1)) dz)))) (jm 2)) jB) E'
       [some (.ref r),some (.ref lh),some (.ref nl),some (.bl b),some (.ref D),some (.ref a),some (.int n),none] (upd H3 D (.lst (c7.map V.ref++[.ref q]))):=fun o G2 H2 n q G3 H3 E' ho g2 kE e g3 hq=>by
     have eI:=g2.trans g3
     have u7:G3 D=none:=by rw [eI.old D (by rw [hD];simp)];exact gD
     have hn:=Ef o ho n e
     have Rv:=My.Bf hS fq hn
     have e0:sumItem acts (.rep n ls)=repSum n (sumItems acts ls):=by rw [sumItem]
     refine Bq T ws (S:=S) (S':=S*pw 1302) nD ((g1.trans eI).set nD u7) u7 af (bj.mono eI.gg _ hI) hlen hq (by rw [aj mB];exact eI.same _ _ cK) mB cx (Nat.le_trans hS (Nat.le_mul_of_pos_right _ (fK _))) (hle.mono (Nat.le_mul_of_pos_right _ (fK _))) ?_ hg ?_ E' kE
     ·rw [e0,My.qe wl.1]
      exact(cc.plus cx.len (eC wl.1.add) hle (cc.times wl.1.add sl.now n)).mono Rv
     ·rw [inv,de,←ho,e]
      dsimp only
      rw [Option.map_map]
      rfl
    have never:∀ o:Option Nat,o=(if b=true/\0<(sumItems acts ls).len then often now (sumItems acts ls) else some 0)->o=none->∀ G2 H2,Gr G1 H1 G2 H2->Q .aD H2:=fun o ho e G2 H2 g2=>by
     refine kn ?_ G2 H2 (g1.trans g2)
     rw [←Fs,inv,de,←ho,e]
     rfl
    have nR:c7.length<5000:=by omega
    refine⟨_,rfl,a,_,da,_,_,rfl,g1.sub _ _ h1,T.aQ.cl,T.aQ.n,rfl,rfl,_,rfl,aH ?_⟩
    refine⟨_,rfl,b,rfl,?_⟩
    cases b with
    | false=>
     refine aI (aI ?_)
     exact wk T ws (o:=some 0) g1.sub ⟨da,ra,so,fb,h1,h2,h3,h4⟩ hD nR (rJ _ rfl) _ (fun e=>by cases e) (fun n q G3 H3 e g3 hq=>cont (some 0) G1 H1 n q G3 H3 _ rfl (Gr.refl g1.sub) (fun _ _ z=>z) e g3 hq)
    | true=>
     refine aH ?_
     obtain⟨jo,mE,lN,rk⟩:=h4
     refine⟨_,rfl,a,_,da,_,_,rfl,g1.sub _ _ h1,T.aQ.cl,T.aQ.n,rfl,so,_,jo,_,_,rfl,g1.sub _ _ lN,T.a9.cl,T.a9.n,rfl,_,_,rfl,rfl,_,rfl,?_⟩
     refine gT (fun z=>?_) (fun z=>?_)
     ·have z:(0:Int)<((sumItems acts ls).len:Int):=of_decide_eq_true z
      have eo:often now (sumItems acts ls)=(if true=true/\0<(sumItems acts ls).len then often now (sumItems acts ls) else some 0):=by rw [if_pos ⟨rfl,by omega⟩]
      refine⟨_,rfl,a,_,da,_,_,rfl,g1.sub _ _ h1,T.aQ.cl,T.aQ.n,rfl,_,rfl,so,nl,_,now,W,G1,rfl,ws.w,g1.sub,⟨jo,mE,lN,rk⟩,cK,cx.len,wl.1,tl,fun k hk=>?_,fun H3 G3 g3=>?_⟩
      ·have eE:k<8:=by have:=ws.w;omega
       have Q5:=hle k eE
       exact⟨fun l el=>gN (by have:=(sl.sp k eE).lo l el;omega),fun u eu=>gN (by have:=(sl.sp k eE).hi u eu;omega)⟩
      ·exact wk T ws (o:=often now (sumItems acts ls)) g3.sub (ll.mono g3.gg ⟨da,ra,so,fb,h1,h2,h3,jo,mE,lN,rk⟩) (g3.same _ _ hD) nR (rJ _ eo) _ (fun e=>never _ eo e G3 H3 g3) (fun n q G4 H4 e g4 hq=>cont _ G3 H3 n q G4 H4 _ eo g3 (fun _ _ z=>z) e g4 hq)
     ·have z:¬ 0<(sumItems acts ls).len:=fun y=>z (decide_eq_true (by omega))
      have eo:some 0=(if true=true/\0<(sumItems acts ls).len then often now (sumItems acts ls) else some 0):=by rw [if_neg (fun y=>z y.2)]
      exact wk T ws (o:=some 0) g1.sub ⟨da,ra,so,fb,h1,h2,h3,jo,mE,lN,rk⟩ hD nR (rJ _ eo) _ (fun e=>by cases e) (fun n q G3 H3 e g3 hq=>cont (some 0) G1 H1 n q G3 H3 _ eo (Gr.refl g1.sub) (fun _ _ z=>z) e g3 hq)
  ·rintro σ H1 L
   obtain⟨nl,b,v5,v6,now,c7,l0,S,G1,rfl,g1,gD,hD,hI,hlen,cK,mB,cx,hle,hS,hg,inv⟩:=L.ex
   rw [length_map,cg.len] at hlen inv
   rw [drop_length,de] at inv
   have hl:Vbdcan.settle acts rs true m=some l0:=by rw [←Fs,inv];simp
   refine⟨_,rfl,_,rfl,lh,_,rfl,.inl (ai.of (g1.same _ _ lP)),?_⟩
   rw [dD]
   refine⟨acts,D,W,c7,itemsOf l0,G1,rfl,ws.w,g1.sub,hD,hI,by omega,ws.ok,fun p G2 H2 g2 hp=>?_⟩
   refine⟨_,rfl,_,rfl,_,rfl,?_⟩
   have iO:=g2.same _ _ hD
   have lU:G2 D=none:=by rw [g2.old D (by rw [hD];simp)];exact gD
   have g3:=(g1.trans g2).fix nD iO
   have sk:aJ G2 (upd G2 D (.lst (c7.map V.ref))):=fun q o e=>by rw [aj (aP e lU)];exact e
   refine fun x dx n1 n2 n3=>⟨x,dx,_,rfl,rfl,af,rfl,?_⟩
   rw [bM]
   refine ks l0 hl _ _ _ (g3.made n1 n2 n3) ?_
   have sm:=iF (C:=c.part) (fs:=jH .aD (.int 1) (.ref D) (.ref p) (.ref p)) g3.sub n1 n2
   unfold bF
   have e0:sumItem acts (.rep 1 (itemsOf l0))=sumItems acts (itemsOf l0):=by rw [sumItem,fZ (bU ws.ok _).1]
   refine⟨dx,D,p,p,c7,af,sm _ _ af,bj.mono ((g2.gg.trans sk).trans sm) _ hI,(hp.mono sk).mono sm,?_⟩
   rw [e0]
   exact(hp.mono sk).mono sm
end
open Vbdcan (Item Items)
theorem bF.view {c:Cl}{W:Nat}{acts:List Vbdcan.Act}{G:Hp}{a:Addr}{i:Item}(h:bF c W acts G a i):∃(dx:Addr) (x1 x2:V) (rr so sw:Addr) (fb:List Addr),G a=some (.ins c.part dx (jH x1 x2 (.ref rr) (.ref so) (.ref sw)))/\G rr=some (.lst (fb.map V.ref)) /\
  bj c W acts G fb (rowOf i)/\cM c W G so (bZ acts i)/\cM c W G sw (sumItem acts i):=by
 cases i with
 | act i=>
  unfold bF at h
  obtain⟨dx,r,so,h1,h2,h3⟩:=h
  exact⟨dx,_,_,r,so,so,[],h1,h2,(by unfold rowOf bj;rfl),h3,h3⟩
 | rep n l=>
  unfold bF at h
  obtain⟨dx,r,so,sw,as,h1,h2,h3,h4,h5⟩:=h
  exact⟨dx,_,_,r,so,sw,as,h1,h2,h3,h4,h5⟩
def Mt:List V->List (Str×V)
 |[x1,x2]=>[("done",x1),("held",x2)]
 |_=>[]
structure Rw (c:Cl) (W:Nat) (acts:List Vbdcan.Act) (R:Nat×List Int) (C d:Nat) (now:List Int) (nl:Addr) (l:Items) (H':Hp):Prop where
 cK:H' nl=some (.lst (bz W now))
 regs:cH W now
 le:∃ A,cc A now/\A+bh l<=C
 n:d+(reachItems acts now l).1=R.1
 vM:(reachItems acts now l).2.1=R.2
theorem zO {l:List Item}{i:Nat}{it:Item}(h:l[i]? = some it):itemsOf (l.drop i)=.cons it (itemsOf (l.drop (i+1))):=by
 obtain⟨h1,h2⟩:=List.getElem?_eq_some_iff.mp h
 rw [drop_eq_getElem_cons h1,h2,itemsOf]
theorem qS:∀ {l:Items}{i:Nat}{it:Item},(My.listOf l)[i]? = some it->cY it<=bK l
 | .nil,i,it,h=>by unfold My.listOf at h;simp at h
 | .cons j r,0,it,h=>by unfold My.listOf at h;simp at h;subst h;unfold bK;omega
 | .cons j r,i+1,it,h=>by
  unfold My.listOf at h
  have:=qS (l:=r) (i:=i) (it:=it) (by simpa using h)
  unfold bK;omega
theorem Ey (i:Item):1<=cY i:=by cases i<;>unfold cY<;>omega
section
theorem Pu (T:Txt K mg c):iw P w K mg base 1 "Reached" c.tS ["self","done","held"] (ml c.tS 2 Mt):=by
 refine lH T.ij L6 (fun vs H Q E h=>?_) (fun f aw A aA s H vs Q E hr h=>?_)
 ·obtain⟨p,dx,args,rfl,hl,_⟩:=h
  show args.length+1=3
  omega
 ·obtain⟨p,dx,args,rfl,hl,hp,k⟩:=h
  match args,hl,k with
  |[x1,x2],_,k=>
  refine⟨_,(ag (bL (pv 0) (pv 1) rfl)
    (ak (bL (pv 0) (pv 2) rfl))),?_⟩
  refine⟨_,rfl,_,rfl,p,_,dx,_,rfl,hp,T.ij.cl,T.ij.n,(by show 0<1000;decide),?_⟩
  refine⟨_,rfl,_,rfl,p,_,dx,_,rfl,af,T.ij.cl,T.ij.n,(by show 1<1000;decide),?_⟩
  rw [bM]
  exact k
def wa (c:Cl):Sp:=fun vs H Q _=>∃(ra lh:Addr) (l:Items) (rs:List Int) (W:Nat) (acts:List Vbdcan.Act) (G:Hp),vs=[.ref ra,.ref lh]/\Ws W acts/\aJ G H/\bF c W acts G ra (.rep 1 l)/\H lh=some (.lst (bz W rs))/\cH W rs/\cc bG rs/\bh l<=cQ /\
 ∀ p dx nl G' H',Gr G H G' H'->G' p=some (.ins c.tS dx [("done",.int ((reachItems acts rs l).1:Int)),("held",.ref nl)])->H' nl=some (.lst (bz W (reachItems acts rs l).2.1))->Q (.ref p) H'
theorem xS (T:Txt K mg c):aW P w K mg base 4 "reach" ["run","held"] (wa c):=by
 refine a0 T.Tp iW (fun f aw A aA s H vs Q E hr h=>?_)
 ·obtain⟨ra,lh,l,rs,W,acts,G,rfl,ws,g,dB,lP,k6,y4,fq,k⟩:=h
  have Fv:=My.Mu ws.ok (l:=l) k6.len
  refine⟨_,(ag (pq 2 iW aq)
    (ag (pq 3 iW (pv 1))
    (ag (pq 4 iW (aZ (aa (pv 0) ae)))
    (ag (mn PassesOwn.never (aT fM (bJ cC (by rfl) T.cB PySem.boot_len (aa (pv 4) ae)) aq (aO _)) (ag (pq 5 iW (aZ ae))
     (ag (gP PassesOwn.never rfl (fD (pv 4)) (dk (i:=6) iW.nd rfl (Or.inl rfl)) (ag (aX (fg (cO (pC (ua T) hr (aa (pF K 6) (aa (pv 3) ae))))) (ag (pq 7 iW (pC (t8 T) hr (aa (pF K 6) (aa (pv 3) ae))))
       (ag (jE (i:=2) iW.nd rfl (Or.inl rfl) (bA kQ (pv 7) (cy (K:=K) (pF K 6) rfl)) lK)
       (ag (pq 3 iW (pC (my T) hr (aa (pv 3) (aa (pF K 6) (aa (pv 7) ae)))))
       (ag (pq 5 iW (pF K 6))
       (ak xE))))) aY)
      (ag (jE (i:=2) iW.nd rfl (Or.inl rfl) (cy (K:=K) (pF K 6) rfl) lK)
      (ak (pq 3 iW (pC (my T) hr (aa (pv 3) (aa (pF K 6) (aa aq ae)))))))))
     (ak (pq 4 iW (pv 5))))))
    (ak (ay (eL (Pu T) (hr.mono (by decide)) rfl (aa (pv 2) (aa (pv 3) ae))))))))),?_⟩
  refine⟨_,rfl,?_⟩
  refine⟨_,rfl,⟨by show 1<=sizeLine;decide,fun q nq=>?_⟩⟩
  have w1:bh (.cons (.rep 1 l) .nil)=bh l:=by rw [bh,ck,bh];omega
  refine⟨fun m σ H'=>∃(d:Nat) (nl rw:Addr) (v5 v6 v7:Option V) (now:List Int) (as:List Addr) (l':Items) (G':Hp),σ=[some (.ref ra),some (.ref lh),some (.int d),some (.ref nl),some (.ref rw),v5,v6,v7]/\Gr G H G' H' /\
   Rw c W acts ((reachItems acts rs l).1,(reachItems acts rs l).2.1) (2*cQ) d now nl l' H'/\H' rw=some (.lst (as.map V.ref))/\bj c W acts G' as l'/\m=bK l',
   ⟨_,0,lh,q,none,none,none,rs,[ra],.cons (.rep 1 l) .nil,G,rfl,(Gr.refl g).loose nq,⟨?_,k6,⟨bG,y4,?_⟩,?_,Fv.2⟩,af,?_,rfl⟩,?_⟩
  ·rw [aj (aP lP nq)];exact lP
  ·rw [w1]
   have:bG<=cQ:=gb (by decide)
   omega
  ·rw [Nat.zero_add];exact Fv.1
  ·unfold bj
   exact⟨ra,[],rfl,dB,by unfold bj;rfl⟩
  rintro m σ H1 ⟨d,nl,rw,v5,v6,v7,now,as,l',G1,rfl,g1,R,nL,hI,rfl⟩
  refine⟨_,rfl,rw,_,rfl,.inl (ai.of nL),_,_,rfl,rfl,_,rfl,?_⟩
  rw [length_map]
  obtain⟨e1,e2⟩:=hI.get
  by_cases h0:0<as.length
  ·rw [decide_eq_true (show(0:Int)<(as.length:Int) by omega)]
   refine aH ?_
   refine⟨fun σ' H'=>∃(d:Nat) (nl rw:Addr) (v5 v6 v7:Option V) (now:List Int) (as:List Addr) (l'':Items) (G':Hp),σ'=[some (.ref ra),some (.ref lh),some (.int d),some (.ref nl),some (.ref rw),v5,v6,v7]/\Gr G H G' H' /\
    Rw c W acts ((reachItems acts rs l).1,(reachItems acts rs l).2.1) (2*cQ) d now nl l'' H'/\H' rw=some (.lst (as.map V.ref))/\bj c W acts G' as l''/\bK l''<bK l',fun σ' H' z=>?_,?_⟩
   ·obtain⟨d,nl,rw,v5,v6,v7,now,as,l'',G',z1,z2,z3,z4,z5,z6⟩:=z
    exact⟨_,z6,d,nl,rw,v5,v6,v7,now,as,l'',G',z1,z2,z3,z4,z5,rfl⟩
   have OR:0<bK l':=by
    obtain⟨it,iR,_⟩:=e2 0 as[0] (getElem?_eq_getElem h0)
    have:=qS iR
    have:=Ey it
    omega
   refine⟨Nat.zero_le _,fun jO qV=>?_⟩
   have g2:=(Gr.refl g1.sub).loose (o:=.lst []) qV
   have mH:=g2.same _ _ nL
   refine⟨_,rfl,rw,rfl,⟨_,ai.of mH⟩,lj (K:=K) (a:=rw) (xs:=as.map V.ref) (fun i σ H'=>∃(d:Nat) (nl:Addr) (v6 v7:Option V) (now:List Int) (G':Hp),σ=[some (.ref ra),some (.ref lh),some (.int d),some (.ref nl),some (.ref rw),some (.ref jO),v6,v7]/\Gr G1 (upd H1 jO (.lst [])) G' H' /\
    Rw c W acts ((reachItems acts rs l).1,(reachItems acts rs l).2.1) (2*cQ) d now nl (itemsOf ((My.listOf l').drop i)) H') ?_ (fun i σ H' _ ⟨_,_,_,_,_,_,_,g3,_⟩=>ai.of (g3.same _ _ mH)) ?_ ?_⟩
   ·refine⟨d,nl,v6,v7,now,G1,rfl,Gr.refl g2.sub,?_⟩
    rw [drop_zero,gJ]
    exact⟨g2.same _ _ R.cK,R.regs,R.le,R.n,R.vM⟩
   ·rintro i y σ H3 hy ⟨d,nl,v6,v7,now,G3,rfl,g3,R⟩
    obtain⟨a,ea,rfl⟩:=i4 hy
    obtain⟨it,iR,hit⟩:=e2 i a ea
    have rF:=bF.mono g3.gg it hit
    obtain⟨dx,x1,x2,rr,so,sw,fb,v1,v2,v3,v4,v5'⟩:=rF.view
    rw [zO iR] at R
    obtain⟨cK,regs,⟨A,hA,R9⟩,hn,ht⟩:=R
    have eW:bh (.cons it (itemsOf ((My.listOf l').drop (i+1))))=ck it+bh (itemsOf ((My.listOf l').drop (i+1))):=by rw [bh]
    rw [eW] at R9
    have xi:=cU ws.ok it
    have ti:=gw ws.ok ws.tail it
    have sl:=gy ws.ok ws.small it
    refine⟨_,rfl,a,_,dx,_,_,rfl,g3.sub _ _ v1,T.aQ.cl,T.aQ.n,rfl,_,rfl,sw,nl,_,now,W,G3,rfl,ws.w,g3.sub,v5',cK,regs.len,xi.1,ti,fun H4 G4 g4=>?_⟩
    refine⟨_,rfl,?_⟩
    cases ef:fits now (sumItem acts it).box with
    | true=>
     refine aI ?_
     obtain⟨eR,je,rj,Fp⟩:=v5'
     refine⟨_,rfl,_,rfl,a,_,dx,_,_,rfl,g4.sub _ _ (g4.gg _ _ v1),T.aQ.cl,T.aQ.n,rfl,sw,_,eR,_,_,rfl,g4.sub _ _ (g4.gg _ _ rj),T.a9.cl,T.a9.n,rfl,_,_,rfl,rfl,?_⟩
     refine⟨_,rfl,_,rfl,a,_,dx,_,_,rfl,g4.sub _ _ (g4.gg _ _ v1),T.aQ.cl,T.aQ.n,rfl,sw,nl,1,_,now,W,G4,rfl,ws.w,g4.sub,cM.mono ⟨eR,je,rj,Fp⟩ g4.gg,g4.same _ _ cK,regs.len,xi.1,fun _ _=>oZ _,fun p H5 G5 g5 hp=>?_⟩
     rw [fA xi.1.add] at hp
     rw [My.Dp ws.ok regs.len ef] at hn ht
     refine⟨d+(sumItem acts it).len,p,some (.ref a),v7,_,G5,?_,g3.trans (g4.trans g5),⟨g5.sub _ _ hp,xq regs xi.1 ti,⟨A+ck it,cc.plus regs.len xi.1.add hA sl.now,by omega⟩,by dsimp only at hn;omega,ht⟩⟩
     rfl
    | false=>
     refine aH ?_
     obtain⟨t,to,tr,qj,Jy,tw⟩:=My.Mv ws.ok ws.small regs.len ef
     have ow:=jI ws.ok it
     have ot:=jJ ws.ok ws.tail it
     have RR:=iT
     have Xu:bG<=cQ:=gb (by decide)
     have XC:t<=A+ck it+1:=ja regs.len ow hA qj to
     have bt:Bd (t:Int):=gN (by rw [Int.natAbs_natCast];omega)
     have bx:∀ x:Int,x.natAbs<=ck it->Bd x:=fun x hx=>gN (by omega)
     have v4':=v4
     obtain⟨jo,mE,lN,rk⟩:=v4'
     refine⟨_,rfl,a,_,dx,_,_,rfl,g4.sub _ _ (g4.gg _ _ v1),T.aQ.cl,T.aQ.n,rfl,_,rfl,so,nl,_,now,W,G4,rfl,ws.w,g4.sub,v4.mono g4.gg,g4.same _ _ cK,regs.len,ow,ot,fun k hk=>?_,fun H5 G5 g5=>?_⟩
     ·have eE:k<8:=by have:=ws.w;omega
      have Q5:=hA k eE
      exact⟨fun l el=>gN (by have:=(qj.sp k eE).lo l el;omega),fun u eu=>gN (by have:=(qj.sp k eE).hi u eu;omega)⟩
     rw [to]
     have jS:=g4.trans g5
     refine⟨_,rfl,_,rfl,_,rfl,a,_,dx,_,_,rfl,jS.sub _ _ (jS.gg _ _ v1),T.aQ.cl,T.aQ.n,rfl,so,_,jo,_,_,rfl,jS.sub _ _ (jS.gg _ _ lN),T.a9.cl,T.a9.n,rfl,(t:Int),_,rfl,rfl,.inr ⟨bt,bx _ (by rw [Int.natAbs_natCast];exact qj.len)⟩,_,_,rfl,rfl,?_⟩
     refine⟨_,rfl,_,rfl,a,_,dx,_,_,rfl,jS.sub _ _ (jS.gg _ _ v1),T.aQ.cl,T.aQ.n,rfl,_,rfl,so,nl,(t:Int),_,now,W,G5,rfl,ws.w,g5.sub,v4.mono jS.gg,jS.same _ _ cK,regs.len,ow,fun k hk=>.inr ⟨bt,bx _ (qj.sp k (by have:=ws.w;omega)).add⟩,fun p H6 G6 g6 hp=>?_⟩
     have pZ:=jS.trans g6
     refine⟨_,rfl,a,_,dx,_,_,rfl,pZ.sub _ _ (pZ.gg _ _ v1),T.aQ.cl,T.aQ.n,rfl,?_⟩
     rw [My.Dn ws.ok regs.len ef,tr] at hn ht
     refine⟨_,rfl,d+t*(bZ acts it).len,p,rr,some (.ref rr),some (.ref a),some (.int t),_,fb,rowOf it,G6,?_,(g1.trans (g2.trans g3)).trans pZ,⟨g6.sub _ _ hp,regs.plus ow ot t,⟨A+(ck it-bh (rowOf it)),cc.plus regs.len (eC ow.add) hA Jy,by omega⟩,by dsimp only at hn;omega,ht⟩,pZ.sub _ _ (pZ.gg _ _ v2),bj.mono pZ.gg _ v3,?_⟩
     ·rfl
     ·exact Nat.lt_of_lt_of_le (ia it) (qS iR)
   ·rintro σ H3 ⟨d,nl,v6,v7,now,G3,rfl,g3,R⟩
    have oa:(My.listOf l').drop (as.map V.ref).length=[]:=by
     rw [drop_eq_nil_iff,length_map,e1]
     exact Nat.le_refl _
    rw [oa] at R
    refine⟨_,rfl,d,nl,jO,some (.ref jO),v6,v7,now,[],.nil,G3,rfl,g1.trans (g2.trans g3),R,g3.same _ _ af,by unfold bj;rfl,?_⟩
    have:bK .nil=0:=by unfold bK;rfl
    omega
  ·rw [decide_eq_false (show ¬ (0:Int)<(as.length:Int) by omega)]
   refine aI ?_
   have zL:as=[]:=length_eq_zero_iff.mp (by omega)
   have el:l'=.nil:=by
    cases l' with
    | nil=>rfl
    | cons i r=>rw [zL] at e1;unfold My.listOf at e1;simp at e1
   subst el
   obtain⟨cK,regs,_,hn,ht⟩:=R
   rw [reachItems] at hn ht
   dsimp only at hn ht
   refine⟨_,rfl,_,rfl,?_⟩
   refine fun x dx n1 n2 n3=>⟨x,dx,_,rfl,rfl,af,rfl,?_⟩
   rw [bM]
   refine k x dx nl _ _ (g1.made n1 n2 n3) ?_ ?_
   ·rw [af,←hn];rfl
   ·rw [aj (aP cK n1),aj (aP cK n2),←ht];exact cK
end
open Vbdcan (Item Items)
section
theorem Nr {W:Nat}{acts:List Vbdcan.Act}(ws:Ws W acts){it:Item}(h:(sumItem acts it).len≠0):dU (ck it) (bZ acts it)/\bh (rowOf it)<=ck it:=by
 cases it with
 | act j=>exact⟨gy ws.ok ws.small _,by unfold rowOf bh;exact Nat.zero_le _⟩
 | rep n b=>
  have hn:n≠0:=fun z=>by
   subst z
   apply h
   rw [sumItem];rfl
  have hle:bh b<=ck (.rep n b):=by rw [ck];exact Nat.le_mul_of_pos_left _ (by omega)
  exact⟨(fI ws.ok ws.small b).mono hle,hle⟩
theorem V4 {a b:Nat}(h:Bd (b:Int)) (hl:a<=b):Bd (a:Int):=by
 unfold Bd at *
 rw [Int.natAbs_natCast] at *
 exact Nat.lt_of_le_of_lt hl h
theorem Qc {W:Nat}{acts:List Vbdcan.Act}(ws:Ws W acts){l:Items}{d:Nat}(hw:bh l<=cQ) (h:d<=(sumItems acts l).len):Bd (d:Int):=gN (by
 have:=(fI ws.ok ws.small l).len
 rw [Int.natAbs_natCast]
 omega)
structure Bw (c:Cl) (W:Nat) (acts:List Vbdcan.Act) (R:List Int) (k:Nat) (now:List Int) (nl:Addr) (l:Items) (H':Hp):Prop where
 cK:H' nl=some (.lst (bz W now))
 regs:cH W now
 wt:bh l<=cQ
 le:k<=(sumItems acts l).len
 vM:afterItems acts now k l=R
def wd (c:Cl):Sp:=fun vs H Q _=>∃(ra lh:Addr) (k:Nat) (l:Items) (rs:List Int) (W:Nat) (acts:List Vbdcan.Act) (G:Hp),vs=[.ref ra,.int k,.ref lh]/\Ws W acts/\aJ G H/\bF c W acts G ra (.rep 1 l)/\H lh=some (.lst (bz W rs))/\cH W rs/\bh l<=cQ/\k<=(sumItems acts l).len /\
 ∀ nl G' H',Gr G H G' H'->(nl=lh\/∃ o,G' nl=some o)->H' nl=some (.lst (bz W (afterItems acts rs k l)))->Q (.ref nl) H'
theorem xY (T:Txt K mg c):aW P w K mg base 2 "behind" ["run","steps","held"] (wd c):=by
 refine a0 T.Uq iX (fun f aw A aA s H vs Q E hr h=>?_)
 ·obtain⟨ra,lh,k,l,rs,W,acts,G,rfl,ws,g,dB,lP,k6,QF,zd,fin⟩:=h
  refine⟨_,(ag (pq 3 iX (pv 1))
    (ag (pq 4 iX (pv 2))
    (ag (pq 5 iX (aZ (aa (pv 0) ae)))
    (ag (mn PassesOwn.never (aT fM (pv 3) aq (aO _)) (ag (pq 6 iX (aZ ae))
     (ag (gP PassesOwn.never rfl (fD (pv 5)) (dk (i:=7) iX.nd rfl (Or.inl rfl)) (ag (aX (aT fM (cy (K:=K) (pF K 7) rfl) (pv 3) (aO _)) (ag (pq 8 iX (bA tZ (pv 3) (cy (K:=K) (pF K 7) rfl)))
       (ag (jE (i:=3) iX.nd rfl (Or.inl rfl) (bA kQ (pv 8) (cy (K:=K) (pF K 7) rfl)) uE)
       (ag (pq 4 iX (pC (my T) hr (aa (pv 4) (aa (pF K 7) (aa (pv 8) ae)))))
       (ag (pq 6 iX (pF K 7))
       (ak xE))))) aY)
      (ag (jE (i:=3) iX.nd rfl (Or.inl rfl) (cy (K:=K) (pF K 7) rfl) uE)
      (ak (pq 4 iX (pC (my T) hr (aa (pv 4) (aa (pF K 7) (aa aq ae)))))))))
     (ak (pq 5 iX (pv 6))))))
    (ak (ay (pv 4))))))),?_⟩
  refine⟨_,rfl,_,rfl,?_⟩
  refine⟨_,rfl,⟨by show 1<=sizeLine;decide,fun q nq=>?_⟩⟩
  refine⟨fun m σ H'=>∃(d:Nat) (nl rw:Addr) (v5 v6 v7:Option V) (now:List Int) (as:List Addr) (l':Items) (G':Hp),σ=[some (.ref ra),some (.int k),some (.ref lh),some (.int d),some (.ref nl),some (.ref rw),v5,v6,v7]/\Gr G H G' H'/\(nl=lh\/∃ o,G' nl=some o) /\
   Bw c W acts (afterItems acts rs k l) d now nl l' H'/\H' rw=some (.lst (as.map V.ref))/\bj c W acts G' as l'/\m=bK l',
   ⟨_,k,lh,q,none,none,none,rs,[ra],.cons (.rep 1 l) .nil,G,rfl,(Gr.refl g).loose nq,.inl rfl,⟨?_,k6,?_,?_,My.WL ws.ok k6.len zd⟩,af,?_,rfl⟩,?_⟩
  ·rw [aj (aP lP nq)];exact lP
  ·have w1:bh (.cons (.rep 1 l) .nil)=bh l:=by rw [bh,ck,bh];omega
   rw [w1];exact QF
  ·have e0:sumItem acts (.rep 1 l)=sumItems acts l:=by rw [sumItem,fZ (bU ws.ok l).1]
   rw [jN,e0]
   omega
  ·unfold bj
   exact⟨ra,[],rfl,dB,by unfold bj;rfl⟩
  rintro m σ H1 ⟨d,nl,rw,v5,v6,v7,now,as,l',G1,rfl,g1,GH,R,nL,hI,rfl⟩
  refine⟨_,rfl,_,_,rfl,rfl,_,rfl,?_⟩
  obtain⟨e1,e2⟩:=hI.get
  by_cases h0:0<d
  ·rw [decide_eq_true (show(0:Int)<(d:Int) by omega)]
   refine aH ?_
   have OR:0<bK l':=by
    cases l' with
    | nil=>
     have:=R.le
     have e:(sumItems acts .nil).len=0:=by rw [sumItems]
     omega
    | cons i r=>
     have:=Ey i
     unfold bK;omega
   refine⟨fun σ' H'=>∃(d:Nat) (nl rw:Addr) (v5 v6 v7:Option V) (now:List Int) (as:List Addr) (l'':Items) (G':Hp),σ'=[some (.ref ra),some (.int k),some (.ref lh),some (.int d),some (.ref nl),some (.ref rw),v5,v6,v7]/\Gr G H G' H'/\(nl=lh\/∃ o,G' nl=some o) /\
    Bw c W acts (afterItems acts rs k l) d now nl l'' H'/\H' rw=some (.lst (as.map V.ref))/\bj c W acts G' as l''/\bK l''<bK l',fun σ' H' z=>?_,?_⟩
   ·obtain⟨d,nl,rw,v5,v6,v7,now,as,l'',G',z1,z2,z0,z3,z4,z5,z6⟩:=z
    exact⟨_,z6,d,nl,rw,v5,v6,v7,now,as,l'',G',z1,z2,z0,z3,z4,z5,rfl⟩
   refine⟨Nat.zero_le _,fun jO qV=>?_⟩
   have g2:=(Gr.refl g1.sub).loose (o:=.lst []) qV
   have mH:=g2.same _ _ nL
   refine⟨_,rfl,rw,rfl,⟨_,ai.of mH⟩,lj (K:=K) (a:=rw) (xs:=as.map V.ref) (fun i σ H'=>∃(d:Nat) (nl:Addr) (v6 v7:Option V) (now:List Int) (G':Hp),σ=[some (.ref ra),some (.int k),some (.ref lh),some (.int d),some (.ref nl),some (.ref rw),some (.ref jO),v6,v7]/\Gr G1 (upd H1 jO (.lst [])) G' H'/\(nl=lh\/∃ o,G' nl=some o) /\
    Bw c W acts (afterItems acts rs k l) d now nl (itemsOf ((My.listOf l').drop i)) H') ?_ (fun i σ H' _ ⟨_,_,_,_,_,_,_,g3,_⟩=>ai.of (g3.same _ _ mH)) ?_ ?_⟩
   ·refine⟨d,nl,v6,v7,now,G1,rfl,Gr.refl g2.sub,GH,?_⟩
    rw [drop_zero,gJ]
    exact⟨g2.same _ _ R.cK,R.regs,R.wt,R.le,R.vM⟩
   ·rintro i y σ H3 hy ⟨d,nl,v6,v7,now,G3,rfl,g3,rR,R⟩
    obtain⟨a,ea,rfl⟩:=i4 hy
    obtain⟨it,iR,hit⟩:=e2 i a ea
    have rF:=bF.mono g3.gg it hit
    obtain⟨dx,x1,x2,rr,so,sw,fb,v1,v2,v3,v4,v5'⟩:=rF.view
    rw [zO iR] at R
    obtain⟨cK,regs,fq,hle,ht⟩:=R
    have HV:=Qc ws fq hle
    rw [jN] at hle
    have eW:bh (.cons it (itemsOf ((My.listOf l').drop (i+1))))=ck it+bh (itemsOf ((My.listOf l').drop (i+1))):=by rw [bh]
    rw [eW] at fq
    have xi:=cU ws.ok it
    have ti:=gw ws.ok ws.tail it
    have v5'':=v5'
    obtain⟨eR,je,rj,Fp⟩:=v5''
    refine⟨_,rfl,a,_,dx,_,_,rfl,g3.sub _ _ v1,T.aQ.cl,T.aQ.n,rfl,sw,_,eR,_,_,rfl,g3.sub _ _ rj,T.a9.cl,T.a9.n,rfl,_,rfl,_,_,rfl,rfl,_,rfl,?_⟩
    by_cases f:(sumItem acts it).len<=d
    ·rw [decide_eq_false (show ¬ (d:Int)<((sumItem acts it).len:Int) by omega)]
     refine aI ?_
     refine⟨_,rfl,_,rfl,a,_,dx,_,_,rfl,g3.sub _ _ v1,T.aQ.cl,T.aQ.n,rfl,sw,_,eR,_,_,rfl,g3.sub _ _ rj,T.a9.cl,T.a9.n,rfl,_,_,rfl,rfl,?_⟩
     refine⟨_,rfl,_,rfl,a,_,dx,_,_,rfl,g3.sub _ _ v1,T.aQ.cl,T.aQ.n,rfl,sw,nl,1,_,now,W,G3,rfl,ws.w,g3.sub,v5',cK,regs.len,xi.1,fun _ _=>oZ _,fun p H5 G5 g5 hp=>?_⟩
     rw [fA xi.1.add] at hp
     rw [My.Ij f] at ht
     refine⟨d-(sumItem acts it).len,p,some (.ref a),v7,_,G5,?_,g3.trans g5,.inr ⟨_,hp⟩,⟨g5.sub _ _ hp,xq regs xi.1 ti,by omega,by omega,ht⟩⟩
     have e:((d-(sumItem acts it).len:Nat):Int)=(d:Int)-((sumItem acts it).len:Int):=by omega
     rw [e]
     rfl
    ·rw [decide_eq_true (show(d:Int)<((sumItem acts it).len:Int) by omega)]
     refine aH ?_
     obtain⟨Xh,OG,Nt⟩:=My.Il ws.ok regs.len f
     rw [My.Im f,OG] at ht
     have ow:=jI ws.ok it
     have ot:=jJ ws.ok ws.tail it
     have v4':=v4
     obtain⟨jo,mE,lN,rk⟩:=v4'
     have ediv:(d:Int) / ((bZ acts it).len:Int)=((d / (bZ acts it).len:Nat):Int):=(Int.natCast_ediv _ _).symm
     have FY:d / (bZ acts it).len<=d:=Nat.div_le_self _ _
     obtain⟨eN,Nm⟩:=Nr ws (it:=it) (by omega)
     have bt:∀ x:Int,x.natAbs<=ck it->mZ ((d:Int) / ((bZ acts it).len:Int)) x:=fun x hx=>by
      rw [ediv]
      generalize d / (bZ acts it).len=tq at FY
      exact .inr ⟨V4 HV FY,gN (by omega)⟩
     refine⟨_,rfl,_,rfl,a,_,dx,_,_,rfl,g3.sub _ _ v1,T.aQ.cl,T.aQ.n,rfl,so,_,jo,_,_,rfl,g3.sub _ _ lN,T.a9.cl,T.a9.n,rfl,_,_,rfl,rfl,⟨by omega,HV⟩,?_⟩
     refine⟨_,rfl,_,rfl,_,rfl,a,_,dx,_,_,rfl,g3.sub _ _ v1,T.aQ.cl,T.aQ.n,rfl,so,_,jo,_,_,rfl,g3.sub _ _ lN,T.a9.cl,T.a9.n,rfl,_,_,rfl,rfl,bt _ (by rw [Int.natAbs_natCast];exact eN.len),_,_,rfl,rfl,?_⟩
     refine⟨_,rfl,_,rfl,a,_,dx,_,_,rfl,g3.sub _ _ v1,T.aQ.cl,T.aQ.n,rfl,_,rfl,so,nl,_,_,now,W,G3,rfl,ws.w,g3.sub,v4,cK,regs.len,ow,fun k hk=>bt _ (eN.sp k (by have:=ws.w;omega)).add,fun p H6 G6 g6 hp=>?_⟩
     refine⟨_,rfl,a,_,dx,_,_,rfl,g6.sub _ _ (g6.gg _ _ v1),T.aQ.cl,T.aQ.n,rfl,?_⟩
     refine⟨_,rfl,d % (bZ acts it).len,p,rr,some (.ref rr),some (.ref a),some (.int ((d:Int) / ((bZ acts it).len:Int))),_,fb,rowOf it,G6,?_,(g1.trans (g2.trans g3)).trans g6,.inr ⟨_,hp⟩,⟨g6.sub _ _ hp,regs.plus ow ot _,by omega,Nt,ht⟩,g6.sub _ _ (g6.gg _ _ v2),bj.mono g6.gg _ v3,?_⟩
     ·have e:((d % (bZ acts it).len:Nat):Int)=(d:Int)-(d:Int) / ((bZ acts it).len:Int)*((bZ acts it).len:Int):=by
       rw [Int.natCast_emod,Int.emod_def,Int.mul_comm]
      rw [e]
      rfl
     ·exact Nat.lt_of_lt_of_le (ia it) (qS iR)
   ·rintro σ H3 ⟨d,nl,v6,v7,now,G3,rfl,g3,rR,R⟩
    have oa:(My.listOf l').drop (as.map V.ref).length=[]:=by
     rw [drop_eq_nil_iff,length_map,e1]
     exact Nat.le_refl _
    rw [oa] at R
    refine⟨_,rfl,d,nl,jO,some (.ref jO),v6,v7,now,[],.nil,G3,rfl,g1.trans (g2.trans g3),rR,R,g3.same _ _ af,by unfold bj;rfl,?_⟩
    have:bK .nil=0:=by unfold bK;rfl
    omega
  ·rw [decide_eq_false (show ¬ (0:Int)<(d:Int) by omega)]
   refine aI ?_
   have ed:d=0:=by omega
   subst ed
   obtain⟨cK,regs,_,_,ht⟩:=R
   rw [My.Ah ws.ok l' now regs.len] at ht
   refine⟨_,rfl,fin nl G1 H1 g1 GH ?_⟩
   rw [←ht];exact cK
end
def MH (K:PySem.W.Frag):V->V->Hp->VK->Prop:=fun x y H Q=>∃(p:Addr) (xs:List V) (j:Nat) (v:V),x=.ref p/\y=.int (j:Int)/\ai K H p xs/\xs[j]? = some v/\Q v H
theorem So {X:Cx}:IB X (MH X.K):=by
 intro ab s σ H o i ov iv Q I rx ry h
 obtain⟨p,xs,j,z,rfl,rfl,hq,he,q⟩:=h
 cases rx
 obtain⟨t,rfl⟩:=ry
 obtain⟨au,r,pl,hz⟩:=I.list hq
 obtain⟨w,ew,rw'⟩:=r.get he
 have hl:=r.length
 have hn:=px
 have hj:j<xs.length:=(List.getElem?_eq_some_iff.mp he).1
 exact wpAny_getItem_list pl.isList (by omega) (by omega) (by simpa using ew) ⟨z,H,I,rw',q⟩
theorem SA {K:PySem.W.Frag}{a:Addr}{xs:List V}{g:TG}{tb:TS}{D:Ends}{σ:L2.St}{H:Hp}(Pv:Nat->L2.St->Hp->Prop) (h0:Pv 0 σ H) (hl:∀ i σ H,Pv i σ H->ai K H a xs)
  (hs:∀(i:Nat) (x:V) (σ:L2.St) (H:Hp) (T:Addr),xs[i]? = some x->H T=none->Pv i σ H->g (.ref T) σ (upd H T (.tup [.int (i:Nat),x])) fun σ2 H2=>tb { D with nx:=Pv (i+1),ct:=Pv (i+1),bk:=D.nx } σ2 H2) (hd:∀ σ H,Pv xs.length σ H->D.nx σ H) :
  ∃ W:Nat->Nat->L2.St->Hp->Prop,(∃ m,W 0 m σ H)/\∀ i m σ H,W i m σ H->
   ((sA K a).stop i H/\D.nx σ H)\/((sA K a).go i H/\∃ N:L2.St->Hp->Prop,(∀ σ' H',N σ' H'->∃ m',m'<m/\W (i+1) m' σ' H')/\∀ x H',(sA K a).jx i H x H'->g x σ H' fun σ2 H2=>tb { D with nx:=N,ct:=N,bk:=D.nx } σ2 H2):=by
 refine⟨fun i m σ H=>m=xs.length-i/\i<=xs.length/\Pv i σ H,⟨xs.length,by simp,Nat.zero_le _,h0⟩,?_⟩
 rintro i m σ H ⟨rfl,hi,p⟩
 have q1:=hl i σ H p
 by_cases bR:i<xs.length
 ·refine .inr ⟨⟨xs,xs[i],q1,by simp [bR]⟩,Pv (i+1),fun σ' H' p'=>⟨xs.length-(i+1),by omega,rfl,bR,p'⟩,fun x H' y=>?_⟩
  obtain⟨T,x1,rfl,hT,rfl,e1⟩:=y
  exact hs i x1 σ H T (e1 xs q1) hT p
 ·have e:i=xs.length:=by omega
  subst e
  exact .inl ⟨⟨xs,q1,Nat.le_refl _⟩,hd σ H p⟩
def Az (P:Program) (w:World) (K:PySem.W.Frag) (mg:Str->Option Value) (base:Heap) (k:Nat) (f:Addr) (ps:List Str) (sp:Sp):Prop:=∃ fd:FuncData,fc P w K mg base iz k f fd ps sp/\PySem.W.keepIn K (.ref f)=true/\Binds K fd ps []
theorem aW.v {P:Program}{w:World}{K:PySem.W.Frag}{mg:Str->Option Value}{base:Heap}{j k:Nat}{x:Str}{ps:List Str}{sp:Sp}(h:aW P w K mg base j x ps sp) (hk:j<=k):∃ f,mg x=some (.ref f)/\Az P w K mg base k f ps sp:=by
 obtain⟨f,fd,F,hm,Rk,hb⟩:=h.ex
 exact⟨f,hm,fd,F.mono hk,Rk,hb⟩
def JO (P:Program) (w:World) (K:PySem.W.Frag) (mg:Str->Option Value) (base:Heap) (k:Nat) (tv:TE) (t:TA):TE:=fun σ H Q=>tv σ H fun v H1=>∃(f:Addr) (ps:List Str) (sp:Sp),v=.ref f/\Az P w K mg base k f ps sp/\t σ H1 fun vs H2=>sp (vs++[]) H2 Q E0
theorem Nf {X:Cx}{k:Nat}{x:Str}{p pos:Pos}{e:Expr}{es:List Expr}{tv:TE}{t:TA}(hv:PE X (.Name x p) tv) (hr:cA k X.A) (ha:PA X (e::es) t)
  (he:starEach (e::es) X.env=(false,eval e X.env)::starEach es X.env:=by rfl) (dh:(backTo pos (starEach es X.env)).any (·.1)=false:=by rfl):PE X (.Call (.Name x p) (e::es) [] pos) (JO X.prog X.w X.K X.mg X.base k tv t):=by
 intro ab s σ H Q I h
 refine wpAny_Call_Name_kw (aV (hv ab s σ H _ I h) fun fv s1 ⟨v,H1,I1,rv,q1⟩=>?_)
 obtain⟨f,ps,sp,rfl,⟨fd,F,hk,hb⟩,q1⟩:=q1
 cases rv
 refine PySem.W.callWith_K (h₀:=X.base) I.ok.mod.pH hk (aV (ha pos ab s1 σ H1 _ I1 q1) fun us s2 ⟨vs,H2,I2,r,q⟩=>⟨I2.fP,?_⟩) he dh
 exact qE F hr hb .nil nF I2 r q
theorem Al.AL {α:Type}{R:Addr->α->Prop}{a:Addr}{as:List Addr}{x:α}{xs:List α}(h:Al R (a::as) (x::xs)):R a x/\Al R as xs:=
 ⟨h.at_ 0 a x rfl rfl,by have:=h.len;simpa using this,fun k b y e1 e2=>h.at_ (k+1) b y (by simpa using e1) (by simpa using e2)⟩
theorem yG:∀ {v w:List Int},v.map V.int=w.map V.int->v=w
 |[],[],_=>rfl
 |[],_::_,h=>by cases h
 |_::_,[],h=>by cases h
 | a::v,b::w,h=>by
  injection h with h1 h2
  injection h1 with h1
  rw [h1,yG h2]
theorem UI {A:Around}{s:Shared}{a p:Addr}{v w:List Int}{i1 i2:List Value}(hu:A.units<cLine) (ha:s.heap.IsTuple a i1.toArray) (hp:s.heap.IsTuple p i2.toArray) (ra:Vals (v.map V.int) i1) (rp:Vals (w.map V.int) i2) (hs:a=p->v=w) :
  SeqAt.EqAt A s (.ref a) (.ref p) (decide (v=w)):=by
 by_cases e:a=p
 ·subst e
  rw [decide_eq_true (hs rfl)]
  exact SeqAt.EqAt.same _
 ·have l1:v.length=i1.length:=by have:=ra.length;simpa using this
  have l2:w.length=i2.length:=by have:=rp.length;simpa using this
  have key:=SeqAt.RcAt.tuples (A:=A) (e:=fun j=>decide (v[j]? = w[j]?)) ha hp hu (fun j h1 h2=>?_)
  ·have eb:((range (min i1.toArray.size i2.toArray.size)).all (fun j=>decide (v[j]? = w[j]?))&&i1.toArray.size == i2.toArray.size)=decide (v=w):=by
    rw [Bool.eq_iff_iff,Bool.and_eq_true,decide_eq_true_eq,all_eq_true,beq_iff_eq]
    simp only [List.size_toArray]
    constructor
    ·rintro ⟨q1,q2⟩
     apply List.ext_getElem?
     intro j
     by_cases hj:j<i1.length
     ·exact of_decide_eq_true (q1 j (mem_range.mpr (by omega)))
     ·rw [List.getElem?_eq_none (by omega),List.getElem?_eq_none (by omega)]
    ·intro q
     subst q
     exact⟨fun j _=>decide_eq_true rfl,by omega⟩
   rw [eb] at key
   exact SeqAt.EqAt.of_refs e key
  ·simp only [List.size_toArray] at h1 h2
   obtain⟨u1,q1,r1⟩:=ra.get (i:=j) (x:=V.int (v[j]'(by omega))) (by rw [getElem?_map,getElem?_eq_getElem (by omega)];rfl)
   obtain⟨u2,q2,r2⟩:=rp.get (i:=j) (x:=V.int (w[j]'(by omega))) (by rw [getElem?_map,getElem?_eq_getElem (by omega)];rfl)
   obtain⟨t1,rfl⟩:=r1
   obtain⟨t2,rfl⟩:=r2
   have g1:i1.toArray[j]'(by simpa using h1)=.int (v[j]'(by omega)) t1:=by
    rw [getElem?_eq_getElem h1] at q1
    simpa using Option.some.inj q1
   have g2:i2.toArray[j]'(by simpa using h2)=.int (w[j]'(by omega)) t2:=by
    rw [getElem?_eq_getElem h2] at q2
    simpa using Option.some.inj q2
   rw [g1,g2]
   have eb:decide (v[j]? = w[j]?)=(v[j]'(by omega) == w[j]'(by omega)):=by
    rw [Bool.eq_iff_iff,decide_eq_true_eq,beq_iff_eq,getElem?_eq_getElem (by omega),getElem?_eq_getElem (by omega)]
    exact⟨fun z=>Option.some.inj z,fun z=>by rw [z]⟩
   show SeqAt.EqAt A.in1 s _ _ (decide (v[j]? = w[j]?))
   rw [eb]
   exact SeqAt.EqAt.int_int _ _ _ _
def ng (H:Hp) (w:List Int) (u:Value):Bool:=match u with
 | .ref a=>(match H a with
  | some (.tup xs)=>decide (xs=w.map V.int)
  |_=>false)
 |_=>false
theorem AO {H:Hp}{w v:List Int}{a:Addr}(h:H a=some (.tup (v.map V.int))):ng H w (.ref a)=decide (v=w):=by
 unfold ng
 simp only [h]
 rw [Bool.eq_iff_iff,decide_eq_true_eq,decide_eq_true_eq]
 exact⟨yG,fun z=>by rw [z]⟩
def MF:R2:=fun x y H Q=>∃(p l:Addr) (w:List Int) (as:List Addr) (ws:List (List Int)),x=.ref p/\y=.ref l/\H p=some (.tup (w.map V.int))/\H l=some (.lst (as.map V.ref))/\Al (fun a v=>H a=some (.tup (v.map V.int))) as ws/\Q (.bl (ws.any fun v=>decide (v=w))) H
theorem DY {X:Cx}(hu:X.A.units+1<cLine):dW X (compareOp .In) MF:=by
 intro ab s σ H x y v u Q I rx ry h
 obtain⟨p,l,w,as,ws,rfl,rfl,hp,hl,al,q⟩:=h
 cases rx
 cases ry
 obtain⟨au,r,pl,hz⟩:=I.list (ai.of hl)
 obtain⟨i2,r2,MT,yJ⟩:=I.tuple (cE.of hp)
 have mem:∀ y∈au,∃(a:Addr) (v:List Int),y=.ref a/\H a=some (.tup (v.map V.int)):=fun y hy=>by
  obtain⟨j,hj,ej⟩:=mem_iff_getElem.mp hy
  have hlen:=r.length
  rw [length_map] at hlen
  have ea:as[j]? = some (as[j]'(by omega)):=getElem?_eq_getElem (by omega)
  obtain⟨u,e1,e2⟩:=r.get (i:=j) (x:=V.ref (as[j]'(by omega))) (by rw [getElem?_map,ea];rfl)
  cases e2
  rw [getElem?_eq_getElem hj,ej] at e1
  obtain⟨v,ev,hv⟩:=al.get ea
  exact⟨_,v,Option.some.inj e1,hv⟩
 refine SeqAt.in_listAt (ng H w) pl.isList (fun y hy=>?_) ⟨.bl _,H,I,rfl,?_⟩
 ·obtain⟨a,v,rfl,hv⟩:=mem y (by simpa using hy)
  rw [AO hv]
  obtain⟨i1,r1,MU,yK⟩:=I.tuple (cE.of hv)
  exact UI hu MU MT r1 r2 fun e=>by
   subst e
   rw [hp] at hv
   injection hv with hv
   injection hv with hv
   exact(yG hv).symm
 ·have e:au.toArray.any (ng H w)=ws.any fun v=>decide (v=w):=by
   rw [show au.toArray.any (ng H w)=au.any (ng H w) by simp]
   have:∀(as:List Addr) (ws:List (List Int)) (au:List Value),Al (fun a v=>H a=some (.tup (v.map V.int))) as ws->Vals (as.map V.ref) au->au.any (ng H w)=ws.any fun v=>decide (v=w):=by
    intro as
    induction as with
    | nil=>
     intro ws au al r
     cases ws with
     | nil=>cases r;rfl
     | cons _ _=>have:=al.len;simp at this
    | cons a as ih=>
     intro ws au al r
     cases ws with
     | nil=>have:=al.len;simp at this
     | cons w' ws=>
      obtain⟨h,al⟩:=al.AL
      cases r with
      | cons r1 r2=>
       cases r1
       rw [any_cons,any_cons,AO h,ih ws _ al r2]
   exact this as ws au al r
  rw [e]
  exact q
open Vbdcan (Item Items)
theorem cu {b:Bool}{A B:Prop}(e:b=true) (h:A):if b=true then A else B:=by rw [e];exact aH h
theorem cZ {b:Bool}{A B:Prop}(e:b=false) (h:B):if b=true then A else B:=by rw [e];exact aI h
def js (nm:Addr) (m:Int) (d1 d2 d3:Addr):List (Str×V):=[("name",.ref nm),("must",.int m),("least",.ref d1),("greatest",.ref d2),("change",.ref d3)]
structure IH (k1 k2 k3:List (Key×V)) (x:Vbdcan.Act):Prop where
 lo:∀ k:Nat,k<8->dc k1 (Sum.inl (k:Int))=(bg x.box k).1.map V.int
 hi:∀ k:Nat,k<8->dc k2 (Sum.inl (k:Int))=(bg x.box k).2.map V.int
 ch:∀ k:Nat,k<8->(dc k3 (Sum.inl (k:Int))).getD (.int 0)=.int (aF x.add k)
structure sH (c:Cl) (G:Hp) (a:Addr) (x:Vbdcan.Act):Prop where
 ex:∃(dx nm d1 d2 d3:Addr) (k1 k2 k3:List (Key×V)),G a=some (.ins c.action dx (js nm (bit x.must) d1 d2 d3))/\G nm=some (.tup (bD x.name))/\G d1=some (.dK k1)/\G d2=some (.dK k2)/\G d3=some (.dK k3)/\IH k1 k2 k3 x
theorem sH.mono {c:Cl}{G G':Hp}{a:Addr}{x:Vbdcan.Act}(g:aJ G G') (h:sH c G a x):sH c G' a x:=by
 obtain⟨dx,nm,d1,d2,d3,k1,k2,k3,h1,h2,h3,h4,h5,h6⟩:=h.ex
 exact⟨dx,nm,d1,d2,d3,k1,k2,k3,g _ _ h1,g _ _ h2,g _ _ h3,g _ _ h4,g _ _ h5,h6⟩
theorem oX (o:Option Int):(o.map V.int).getD .aD=cJ o:=by cases o<;>rfl
def bN (ln lh la:Addr) (ov:V):List (Str×V):=[("names",.ref ln),("held",.ref lh),("actions",.ref la),("offer",ov)]
def qK (p:Int) (ra:Addr):List (Str×V):=[("side",.int p),("run",.ref ra)]
def mW (c:Cl) (W:Nat) (acts:List Vbdcan.Act) (G:Hp) (ov:V):Option (Nat×Items)->Prop
 | none=>ov=.aD
 | some (p,l)=>∃ a dx ra,ov=.ref a/\G a=some (.ins c.offer dx (qK p ra))/\bF c W acts G ra (.rep 1 l)
theorem mW.mono {c:Cl}{W:Nat}{acts:List Vbdcan.Act}{G G':Hp}{ov:V}{o:Option (Nat×Items)}(g:aJ G G') (h:mW c W acts G ov o):mW c W acts G' ov o:=by
 cases o with
 | none=>exact h
 | some x=>
  obtain⟨p,l⟩:=x
  obtain⟨a,dx,ra,h1,h2,h3⟩:=h
  exact⟨a,dx,ra,h1,g _ _ h2,bF.mono g _ h3⟩
def TupAt (G:Hp) (t:Addr) (nm:List Nat):Prop:=G t=some (.tup (bD nm))
structure fG (c:Cl) (G H:Hp) (st la:Addr) (s:State):Prop where
 ex:∃(dx ln lh:Addr) (ov:V) (ts as:List Addr),H st=some (.ins c.state dx (bN ln lh la ov))/\G st=none/\H ln=some (.lst (ts.map V.ref))/\Al (TupAt G) ts s.names /\
  H lh=some (.lst (bz s.names.length s.regs))/\H la=some (.lst (as.map V.ref))/\G la=none/\Al (sH c G) as s.acts/\(∃ o,G ln=some o)/\(∃ o,G lh=some o)/\mW c s.names.length s.acts G ov s.offer
theorem fG.mono {c:Cl}{G H G' H':Hp}{st la:Addr}{s:State}(h:fG c G H st la s) (g:Gr G H G' H'):fG c G' H' st la s:=by
 obtain⟨dx,ln,lh,ov,ts,as,h1,h2,h3,h4,h5,h6,h7,h8,h9,gi,cS⟩:=h.ex
 exact⟨dx,ln,lh,ov,ts,as,g.same _ _ h1,by rw [g.old st (by rw [h1];simp)];exact h2,g.same _ _ h3,h4.imp fun _ _ z=>g.gg _ _ z,g.same _ _ h5,g.same _ _ h6,by rw [g.old la (by rw [h6];simp)];exact h7,h8.imp fun _ _ z=>z.mono g.gg,let ⟨o,z⟩:=h9;⟨o,g.gg _ _ z⟩,let ⟨o,z⟩:=gi;⟨o,g.gg _ _ z⟩,cS.mono g.gg⟩
structure hZ (st la:Addr) (G H G' H':Hp):Prop where
 gg:aJ G G'
 sub:aJ G' H'
 same:∀ a o,a≠st->a≠la->H a=some o->H' a=some o
 old:∀ a,H a≠none->G' a=G a
 rV:∀ a,H a≠none->H' a≠none
theorem vH {H:Hp}{p a:Addr}{o:HO}(h:H a≠none):upd H p o a≠none:=by
 by_cases e:a=p
 ·subst e;rw [af];simp
 ·rw [aj e];exact h
theorem hZ.free {st la:Addr}{G H G' H':Hp}(g:hZ st la G H G' H'){q:Addr}(n:H' q=none):H q=none:=by
 cases e:H q with
 | none=>rfl
 | some o=>exact absurd n (g.rV q (by rw [e];simp))
theorem Gr.x {st la:Addr}{G H G' H':Hp}(g:Gr G H G' H'):hZ st la G H G' H':=⟨g.gg,g.sub,fun a o _ _ h=>g.same a o h,g.old,fun a h=>by
 cases e:H a with
 | none=>exact absurd e h
 | some o=>rw [g.same a o e];simp⟩
theorem hZ.mm {st la:Addr}{G H G' H':Hp}{o:HO}(g:hZ st la G H G' H') (n:G' st=none):hZ st la G H G' (upd H' st o):=
 ⟨g.gg,fun a u h=>by rw [aj (aP h n)];exact g.sub a u h,fun a u h1 h2 h3=>by rw [aj h1];exact g.same a u h1 h2 h3,g.old,fun a h=>vH (g.rV a h)⟩
theorem hZ.Lj {st la:Addr}{G H G' H':Hp}{o:HO}(g:hZ st la G H G' H') (n:G' la=none):hZ st la G H G' (upd H' la o):=
 ⟨g.gg,fun a u h=>by rw [aj (aP h n)];exact g.sub a u h,fun a u h1 h2 h3=>by rw [aj h2];exact g.same a u h1 h2 h3,g.old,fun a h=>vH (g.rV a h)⟩
theorem hZ.loose {st la:Addr}{G H G' H':Hp}(g:hZ st la G H G' H'){p:Addr}{o:HO}(n:H' p=none):hZ st la G H G' (upd H' p o):=
 ⟨g.gg,fun a u h=>by rw [aj (aP (g.sub a u h) n)];exact g.sub a u h,fun a u h1 h2 h3=>by
  rw [aj (aP (g.same a u h1 h2 h3) n)];exact g.same a u h1 h2 h3,g.old,fun a h=>vH (g.rV a h)⟩
theorem hZ.fix {st la:Addr}{G H G' H':Hp}(g:hZ st la G H G' H'){p:Addr}{o:HO}(n:H p=none) (h:H' p=some o):hZ st la G H (upd G' p o) H':=by
 refine⟨fun a u e=>?_,fun a u e=>?_,g.same,fun a e=>?_,g.rV⟩
 ·by_cases q:a=p
  ·subst q
   have h1:=g.sub a u (g.gg a u e)
   rw [h] at h1
   rw [af];exact h1
  ·rw [aj q];exact g.gg a u e
 ·by_cases q:a=p
  ·subst q;rw [af] at e;rw [h];exact e
  ·rw [aj q] at e;exact g.sub a u e
 ·have q:a≠p:=fun q=>e (by rw [q];exact n)
  rw [aj q];exact g.old a e
def sF (c:Cl) (st la:Addr) (s:State) (d:Vbdcan.Call) (G H:Hp) (Q:VK):Prop:=∀ q G' H',hZ st la G H G' H'->fG c G' H' st la (Vbdcan.step s d).1->H q=none->H' q=some (.lst ((Vbdcan.step s d).2.map V.int))->Q (.ref q) H'
def eJ (c:Cl) (p:Int):Sp:=fun vs H Q _=>∃(st la ln lr:Addr) (ns:List Int) (rs:List (List Int)) (as:List Addr) (s:State) (d:Vbdcan.Call) (G:Hp),vs=[.ref st,.ref ln,.ref lr]/\cN s/\aJ G H/\fG c G H st la s /\
 H ln=some (.lst (ns.map V.int))/\H lr=some (.lst (as.map V.ref))/\Al (fun a r=>H a=some (.lst (r.map V.int))) as rs/\asked1 ((p::ns)::rs)=true/\VbdcanNeutral.callOf ((p::ns)::rs)=some d/\sF c st la s d G H Q
theorem sF.cI {c:Cl}{st la:Addr}{s:State}{d:Vbdcan.Call}{G H G' H':Hp}{Q:VK}{q:Addr}{l:List Int}(k:sF c st la s d G H Q) (hs:fG c G H st la s) (g:Gr G H G' H') (e:Vbdcan.step s d=(s,l)) (nq:H q=none) (hq:H' q=some (.lst (l.map V.int))):Q (.ref q) H':=by
 refine k q G' H' g.x ?_ nq ?_
 ·rw [e];exact hs.mono g
 ·rw [e];exact hq
theorem gY {r:List Int}(h:My.gu r):r.map V.int=bD (text r):=by
 have:=My.Jz (r:=r) fun z hz=>(h.is z hz).1
 conv=>lhs;rw [←this]
 unfold bD
 rw [map_map]
 rfl
theorem jr {R:Addr->List Int->Prop}{as:List Addr}{r:List Int}(h:Al R as [r]):∃ a,as=[a]/\R a r:=by
 match as,h with
 |[],h=>have:=h.len;simp at this
 |[a],h=>exact⟨a,rfl,h.at_ 0 a r rfl rfl⟩
 |_::_::_,h=>have:=h.len;simp at this
theorem Ig {R:Addr->List Int->Prop}{as:List Addr}{r t:List Int}(h:Al R as [r,t]):∃ a b,as=[a,b]/\R a r/\R b t:=by
 match as,h with
 |[],h=>have:=h.len;simp at this
 |[_],h=>have:=h.len;simp at this
 |[a,b],h=>exact⟨a,b,rfl,h.at_ 0 a r rfl rfl,h.at_ 1 b t rfl rfl⟩
 |_::_::_::_,h=>have:=h.len;simp at this
open Vbdcan (Item Items)
theorem bF.Vi {c:Cl}{W:Nat}{acts:List Vbdcan.Act}{G:Hp}{a:Addr}{i:Item}(h:bF c W acts G a i):∃(dx:Addr) (rr:Addr) (x4 x5:V) (fb:List Addr),G a=some (.ins c.part dx (jH (cJ ((hU i).map fun n=>(n:Int))) (.int (di i)) (.ref rr) x4 x5))/\G rr=some (.lst (fb.map V.ref)) /\
  bj c W acts G fb (rowOf i):=by
 cases i with
 | act i=>
  unfold bF at h
  obtain⟨dx,r,so,h1,h2,h3⟩:=h
  exact⟨dx,r,_,_,[],h1,h2,(by unfold rowOf bj;rfl)⟩
 | rep n l=>
  unfold bF at h
  obtain⟨dx,r,so,sw,as,h1,h2,h3,h4,h5⟩:=h
  exact⟨dx,r,_,_,as,h1,h2,h3⟩
def yh (i:Item):Nat:=bK (rowOf i)
def qf (c:Cl) (W:Nat) (acts:List Vbdcan.Act) (G:Hp) (t:Addr) (p:Item×Nat):Prop:=∃ a,G t=some (.tup [.ref a,.int (p.2:Nat)])/\bF c W acts G a p.1
theorem qf.mono {c:Cl}{W:Nat}{acts:List Vbdcan.Act}{G G':Hp}{t:Addr}{p:Item×Nat}(g:aJ G G') (h:qf c W acts G t p):qf c W acts G' t p:=
 let ⟨a,h1,h2⟩:=h;⟨a,g _ _ h1,bF.mono g _ h2⟩
theorem Al.append {α:Type}{R:Addr->α->Prop}{as bs:List Addr}{xs ys:List α}(h1:Al R as xs) (h2:Al R bs ys):Al R (as++bs) (xs++ys):=by
 refine⟨by rw [length_append,length_append,h1.len,h2.len],fun k a x e1 e2=>?_⟩
 by_cases hk:k<as.length
 ·rw [getElem?_append_left hk] at e1
  rw [getElem?_append_left (by rw [←h1.len];exact hk)] at e2
  exact h1.at_ k a x e1 e2
 ·rw [getElem?_append_right (by omega)] at e1
  rw [getElem?_append_right (by rw [←h1.len];omega),←h1.len] at e2
  exact h2.at_ _ a x e1 e2
theorem Al.Jg {α:Type}{R:Addr->α->Prop}{as:List Addr}{a:Addr}{xs:List α}(h:Al R (as++[a]) xs):∃ ys x,xs=ys++[x]/\Al R as ys/\R a x:=by
 have hl:=h.len
 rw [length_append,length_singleton] at hl
 have dw:xs≠[]:=by intro e;rw [e] at hl;simp at hl
 obtain⟨ys,x,rfl⟩:∃ ys x,xs=ys++[x]:=⟨xs.dropLast,xs.getLast dw,(List.dropLast_concat_getLast dw).symm⟩
 rw [length_append,length_singleton] at hl
 refine⟨ys,x,rfl,⟨by omega,fun k b y e1 e2=>?_⟩,?_⟩
 ·have hk:=(List.getElem?_eq_some_iff.mp e1).1
  exact h.at_ k b y (by rw [getElem?_append_left hk];exact e1) (by rw [getElem?_append_left (by omega)];exact e2)
 ·exact h.at_ as.length a x (by simp) (by rw [show as.length=ys.length by omega];simp)
structure Ay (c:Cl) (W:Nat) (acts:List Vbdcan.Act) (G H:Hp) (cn to:Addr) (l:Items) (n:Nat) (td:Todo) (G' H':Hp):Prop where
 g:Gr G H G' H'
 u6:G' cn=none
 uX:G' to=none
 zS:H cn=none
 vL:H to=none
 ne:cn≠to
 mM:∃ cs:List Int,H' cn=some (.lst (cs.map V.int))/\cs.length=n/\∀ i z,cs[i]? = some z->z+(dF i td:Int)=(countItems i l:Int)
 yQ:∃ lz:List Addr,H' to=some (.lst (lz.map V.ref))/\Al (qf c W acts G') lz td
 ok:∀ p∈td,My.lZ n p
 dE:df td<=4096
def jZ (c:Cl) (W:Nat) (acts:List Vbdcan.Act) (f:Nat->Item×Nat->Prop):Hp->Nat->V->Prop:=fun G k y=>∃ t,y=.ref t/\∀ p,f k p->qf c W acts G t p
theorem jZ.mono {c:Cl}{W:Nat}{acts:List Vbdcan.Act}{f:Nat->Item×Nat->Prop}{G G':Hp}{k:Nat}{y:V}(g:aJ G G') (h:jZ c W acts f G k y):jZ c W acts f G' k y:=let ⟨t,e,s⟩:=h;⟨t,e,fun p q=>(s p q).mono g⟩
theorem A1 {c:Cl}{W:Nat}{acts:List Vbdcan.Act}{G:Hp}{td:Todo}{ys:List V}(hl:ys.length=td.length) (hR:∀(k:Nat) (y:V),ys[k]? = some y->jZ c W acts (fun k p=>td[k]? = some p) G k y):∃ lz:List Addr,ys=lz.map V.ref/\Al (qf c W acts G) lz td:=by
 obtain⟨lz,rfl⟩:=tQ fun k y e=>let ⟨a,q,_⟩:=hR k y e;⟨a,q⟩
 refine⟨lz,rfl,by simpa using hl,fun k a p e1 e2=>?_⟩
 obtain⟨t,q1,q2⟩:=hR k (.ref a) (by rw [getElem?_map,e1];rfl)
 cases q1
 exact q2 p e2
section
def mR (n:Nat) (l:Items):List Int:=(range n).map fun i=>(countItems i l:Int)
def K0 (c:Cl):Sp:=fun vs H Q _=>∃(r:Addr) (n W:Nat) (acts:List Vbdcan.Act) (as:List Addr) (l:Items) (G:Hp),vs=[.ref r,.int n]/\n<=16/\aJ G H/\H r=some (.lst (as.map V.ref))/\bj c W acts G as l/\fW n l /\
 ∀ p G' H',Gr G H G' H'->H p=none->H' p=some (.lst ((mR n l).map V.int))->Q (.ref p) H'
theorem Ed (T:Txt K mg c):aW P w K mg base 1 "counts_of" ["row","width"] (K0 c):=by
 refine a0 T.TX kN (fun f aw A aA s H vs Q E hr h=>?_)
 ·obtain⟨r,n,W,acts,as,l,G,rfl,hn,g,mI,hI,ft,k⟩:=h
  obtain⟨e1,e2⟩:=hI.get
  refine⟨_,(ag (ny (i:=3) (own:=[("k",2)]) rfl kN.nd rfl rfl (ni rfl rfl rfl rfl) (qI rfl T.oq (aa (pv 1) ae)) (fF (N:=["row","width","k","counts","part","todo","entry","times","inner"]) (sc:=aC qB) (by decide +kernel)) (fun _ _ _ _ _=>(dk (i:=2) kN.nd rfl (Or.inl rfl))) (fun _ _ _ _ _=>gc) (fun _ _ _ _ _=>aq))
    (ag (ny (i:=5) (own:=[("part",4)]) rfl kN.nd rfl rfl (ni rfl rfl rfl rfl) (fD (pv 0)) (fF (N:=["row","width","k","counts","part","todo","entry","times","inner"]) (sc:=aC qB) (by decide +kernel)) (fun _ _ _ _ _=>(dk (i:=4) kN.nd rfl (Or.inl rfl))) (fun _ _ _ _ _=>gc) (fun _ _ _ _ _=>(tW (aa (pv 4) (aa aq ae)))))
    (ag (mn PassesOwn.never (aT fM (bJ cC (by rfl) T.cB PySem.boot_len (aa (pv 5) ae)) aq (aO _)) (ag (pq 6 kN (DQ PySem.F.plainAttrs_list PySem.F.slot_list_pop PySem.F.type_list_pop EM (pv 5)))
     (ag (pq 4 kN (bH pK (pv 6) aq (fun _ _=>rfl)))
     (ag (Dx (i:=7) kN.nd rfl (Or.inr rfl) (bA kQ (bH pK (pv 6) aq (fun _ _=>rfl)) (pF K 4)))
     (ag (aX (aT kj (pF K 4) cj (aO _)) (ak (MW (pv 3) (pF K 4) So (pv 7) lK set_list)) aY)
     (ak (fC (fL PySem.F.plainAttrs_list PySem.F.slot_list_extend PySem.F.type_list_extend pf (pv 5) (aa (i8 (own:=[("inner",8)]) rfl kN.nd (fD (pF K 4)) (fF (N:=["row","width","k","counts","part","todo","entry","times","inner"]) (sc:=aC qB) (by decide +kernel)) (fun _ _ _ _ _=>(dk (i:=8) kN.nd rfl (Or.inl rfl))) (fun _ _ _ _ _=>gc) (fun _ _ _ _ _=>(tW (aa (pv 8) (aa (pv 7) ae))))) ae)))))))))
    (ak (ay (pv 3)))))),?_⟩
  refine⟨_,rfl,n,rfl,by omega,by omega,fun cn uk=>?_⟩
  refine yB (n:=n) (Lc (mU fun _=>0) G H cn) (Lc.start g uk) (fun i H1 hi L=>?_) (fun H1 L=>?_)
  ·obtain⟨ys,G1,g1,gD,hD,hl,hR⟩:=L.ex
   exact⟨rfl,Lc.turn (R:=mU fun _=>0) (fun _ h=>h) uk g1 gD hD hl hR (Gr.refl g1.sub) rfl (by omega)⟩
  obtain⟨ys,G1,g1,u6,mM,Rh,R0⟩:=L.ex
  have Ux:=mF (f:=fun _=>V.int 0) Rh R0
  refine⟨_,rfl,r,rfl,⟨_,ai.of (g1.same _ _ mI)⟩,fun to ue=>?_⟩
  have AW:((My.listOf l).map fun x=>(x,1)).length=as.length:=by rw [length_map,e1]
  have XG:as.length<=4096:=by
   have:=gG ((My.listOf l).map fun x=>(x,1))
   rw [gh,AW] at this
   have:=ft.nodes
   omega
  refine kX (K:=K) (a:=r) (xs:=as.map V.ref) (Lc (jZ c W acts fun k p=>((My.listOf l).map fun x=>(x,1))[k]? = some p) G1 H1 to) (Lc.start g1.sub ue) (fun i H2 _ L=>?_) (fun i x H2 hx L=>?_) (fun H2 L=>?_)
  ·obtain⟨zs,G2,g2,_⟩:=L.ex
   exact ai.of (g2.same _ _ (g1.same _ _ mI))
  ·obtain⟨zs,G2,g2,gD,hD,bC,hR⟩:=L.ex
   obtain⟨a,ea,rfl⟩:=i4 hx
   obtain⟨it,iR,hit⟩:=e2 i a ea
   have zi:=(List.getElem?_eq_some_iff.mp ea).1
   refine⟨rfl,_,rfl,⟨by show 2<=sizeLine;decide,fun t nt=>?_⟩⟩
   have g3:=(Gr.refl g2.sub).new (o:=.tup [.ref a,.int 1]) nt
   refine Lc.turn (R:=jZ c W acts fun k p=>((My.listOf l).map fun x=>(x,1))[k]? = some p) jZ.mono ue g2 gD hD bC hR g3 ⟨t,rfl,fun p hp=>?_⟩ (by omega)
   have hp:((My.listOf l).map fun x=>(x,1))[i]? = some p:=hp
   rw [getElem?_map,iR] at hp
   cases hp
   exact⟨a,af,bF.mono (g1.gg.trans (g2.gg.trans g3.gg)) _ hit⟩
  obtain⟨zs,G2,g2,uX,yQ,bR,RZ⟩:=L.ex
  rw [length_map] at bR
  obtain⟨lz,rfl,al⟩:=A1 (td:=(My.listOf l).map fun x=>(x,1)) (bR.trans AW.symm) RZ
  have O8:cn≠to:=aP mM ue
  refine⟨fun m σ H'=>∃(v4 v6 v7:Option V) (td:Todo) (G':Hp),σ=[some (.ref r),some (.int n),none,some (.ref cn),v4,some (.ref to),v6,v7,none]/\Ay c W acts G H cn to l n td G' H'/\m=df td,⟨_,none,none,none,(My.listOf l).map fun x=>(x,1),G2,rfl,?_,rfl⟩,?_⟩
  ·refine⟨g1.trans g2,by rw [g2.old cn (by rw [mM];simp)];exact u6,uX,uk,g1.same.free ue,O8,⟨List.replicate n 0,?_,by simp,fun i z hz=>?_⟩,⟨lz,yQ,al⟩,My.vO 1 ft.nums ft.ins,?_⟩
   ·rw [g2.same _ _ mM,Ux]
    congr 2
    rw [List.map_replicate,map_const',length_range]
   ·obtain⟨h1,h2⟩:=List.getElem?_eq_some_iff.mp hz
    simp at h2
    rw [←h2,My.zR]
    omega
   ·rw [gh];exact ft.nodes
  rintro m σ H3 ⟨v4,v6,v7,td,G3,rfl,C,rfl⟩
  obtain⟨cs,mL,jl,uR⟩:=C.mM
  obtain⟨oH,yR,Ih⟩:=C.yQ
  refine⟨_,rfl,to,_,rfl,.inl (ai.of yR),_,_,rfl,rfl,_,rfl,?_⟩
  rw [length_map]
  by_cases h0:0<oH.length
  ·rw [decide_eq_true (show(0:Int)<(oH.length:Int) by omega)]
   refine aH ?_
   obtain⟨jz,t,rfl⟩:∃ jz t,oH=jz++[t]:=⟨oH.dropLast,oH.getLast (by intro e;rw [e] at h0;simp at h0),(List.dropLast_concat_getLast _).symm⟩
   obtain⟨kb,⟨it,e⟩,rfl,Ii,⟨a,ht,hit⟩⟩:=Ih.Jg
   have ok:=C.ok (it,e) (by simp)
   obtain⟨dx,rr,x4,x5,fb,v1,v2,v3⟩:=hit.Vi
   refine⟨fun σ' H'=>∃(v4 v6 v7:Option V) (td':Todo) (G':Hp),σ'=[some (.ref r),some (.int n),none,some (.ref cn),v4,some (.ref to),v6,v7,none]/\Ay c W acts G H cn to l n td' G' H'/\df td'<df (kb++[(it,e)]),fun σ' H' z=>?_,?_⟩
   ·obtain⟨v4,v6,v7,td',G',z1,z2,z3⟩:=z
    exact⟨_,z3,v4,v6,v7,td',G',z1,z2,rfl⟩
   refine⟨_,rfl,.inl ⟨rfl,_,ai.of yR⟩,to,_,.ref t,rfl,rfl,yR,?_,?_⟩
   ·rw [map_append];simp
   have zK:((jz++[t]).map V.ref).dropLast=jz.map V.ref:=by rw [map_append];exact List.dropLast_concat
   rw [zK]
   have g4:=C.g.set (o:=.lst (jz.map V.ref)) C.vL C.uX
   have Fo:=g4.sub _ _ ht
   refine⟨_,rfl,t,_,0,_,rfl,rfl,cE.of Fo,bS (j:=0) rfl,?_⟩
   refine⟨_,rfl,t,_,1,_,rfl,rfl,cE.of Fo,bS (j:=1) rfl,_,rfl,a,_,dx,_,_,rfl,g4.sub _ _ v1,T.aQ.cl,T.aQ.n,rfl,(e:Int),(di it:Int),rfl,rfl,?_,?_⟩
   ·have:=ok.times
    have e9:MOST=1000000000:=rfl
    exact .inl (.inr ⟨by omega,by omega⟩)
   have em:(e:Int)*(di it:Int)=((e*di it:Nat):Int):=by simp
   have Fl:upd H3 to (.lst (jz.map V.ref)) to=some (.lst (jz.map V.ref)):=af
   have zq:upd H3 to (.lst (jz.map V.ref)) cn=some (.lst (cs.map V.int)):=by rw [aj C.ne];exact mL
   have tail:∀(H5:Hp) (cs':List Int),Gr G H G3 H5->H5 cn=some (.lst (cs'.map V.int))->H5 to=some (.lst (jz.map V.ref))->cs'.length=n->(∀ i z,cs'[i]? = some z->z+(dF i (kb++(My.listOf (rowOf it)).map fun x=>(x,e*di it)):Int)=(countItems i l:Int))->
     ∀ E':Ends,(∀ σ' H',(∃(v4 v6 v7:Option V) (td':Todo) (G':Hp),σ'=[some (.ref r),some (.int n),none,some (.ref cn),v4,some (.ref to),v6,v7,none]/\Ay c W acts G H cn to l n td' G' H'/\df td'<df (kb++[(it,e)]))->E'.nx σ' H')->
     sV (sW K "list" xy (bV 5) (cF (qu (Fb K (du K (bV 4) "row")) (jm 8) A4 (A5 (cF (bV 8) (cF (bV 7) dz))) [8]) dz)) E'
      [some (.ref r),some (.int n),none,some (.ref cn),some (.ref a),some (.ref to),some (.ref t),some (.int ((e:Int)*(di it:Int))),none] H5:=fun H5 cs' g5 F5 yT dm QH E' kE=>by
    obtain⟨r1,r2⟩:=v3.get
    have SN:yh it<=4096:=by
     have h1:=C.dE
     rw [My.yg] at h1
     have h2:df [(it,e)]=cY it:=by unfold df;simp
     have h3:=ia it
     unfold yh
     omega
    have sf:fb.length<=4096:=by
     have h1:=gG ((My.listOf (rowOf it)).map fun x=>(x,1))
     rw [gh,length_map,←r1] at h1
     unfold yh at SN
     omega
    refine⟨_,rfl,.inl ⟨rfl,_,ai.of yT⟩,_,rfl,a,_,dx,_,_,rfl,g5.sub _ _ v1,T.aQ.cl,T.aQ.n,rfl,rr,rfl,⟨_,ai.of (g5.sub _ _ v2)⟩,fun D nD=>?_⟩
    refine kX (K:=K) (a:=rr) (xs:=fb.map V.ref) (Lc (jZ c W acts fun k p=>((My.listOf (rowOf it)).map fun x=>(x,e*di it))[k]? = some p) G3 H5 D) (Lc.start g5.sub nD) (fun i H6 _ L=>?_) (fun i x H6 hx L=>?_) (fun H6 L=>?_)
    ·obtain⟨zs,G6,g6,_⟩:=L.ex
     exact ai.of (g6.same _ _ (g5.sub _ _ v2))
    ·obtain⟨zs,G6,g6,gD,hD,bC,hR⟩:=L.ex
     obtain⟨b,eb,rfl⟩:=i4 hx
     obtain⟨jt,UO,Rp⟩:=r2 i b eb
     have XA:=(List.getElem?_eq_some_iff.mp eb).1
     refine⟨rfl,_,rfl,_,rfl,⟨by show 2<=sizeLine;decide,fun u nu=>?_⟩⟩
     have g7:=(Gr.refl g6.sub).new (o:=.tup [.ref b,.int ((e:Int)*(di it:Int))]) nu
     refine Lc.turn (R:=jZ c W acts fun k p=>((My.listOf (rowOf it)).map fun x=>(x,e*di it))[k]? = some p) jZ.mono nD g6 gD hD bC hR g7 ⟨u,rfl,fun p hp=>?_⟩ (by omega)
     have hp:((My.listOf (rowOf it)).map fun x=>(x,e*di it))[i]? = some p:=hp
     rw [getElem?_map,UO] at hp
     cases hp
     exact⟨b,by rw [af,em],bF.mono (g6.gg.trans g7.gg) _ Rp⟩
    obtain⟨zs,G6,g6,hD,bC,hR⟩:=Lc.done (R:=jZ c W acts fun k p=>((My.listOf (rowOf it)).map fun x=>(x,e*di it))[k]? = some p) jZ.mono nD L
    rw [length_map] at bC
    obtain⟨AX,rfl,WK⟩:=A1 (td:=(My.listOf (rowOf it)).map fun x=>(x,e*di it)) (by rw [bC,r1,length_map]) hR
    have Sd:H6 to=some (.lst (jz.map V.ref)):=g6.same _ _ yT
    have Gm:G6 to=none:=by rw [g6.old to (by rw [yT];simp)];exact C.uX
    have Ss:G6 cn=none:=by rw [g6.old cn (by rw [F5];simp)];exact C.u6
    have SO:jz.length<=4096:=by
     have h1:=gG (kb++[(it,e)])
     have h2:=C.dE
     have h3:=Ii.len
     rw [length_append] at h1
     omega
    refine⟨to,D,_,_,rfl,rfl,Sd,g6.sub _ _ hD,?_,kE _ _ ⟨some (.ref a),some (.ref t),_,kb++(My.listOf (rowOf it)).map fun x=>(x,e*di it),G6,rfl,?_,jM kb it e _⟩⟩
    ·rw [length_map,length_map]
     have h1:AX.length=fb.length:=by simpa using bC
     have h2:sizeLine=16777216:=sizeLine_eq
     omega
    ·refine⟨(g5.trans g6).set C.vL Gm,Ss,Gm,C.zS,C.vL,C.ne,⟨cs',by rw [aj C.ne];exact g6.same _ _ F5,dm,QH⟩,⟨jz++AX,by rw [af,map_append],(Ii.imp fun _ _ z=>z.mono g6.gg).append WK⟩,fun p hp=>?_,?_⟩
     ·rcases mem_append.mp hp with z | z
      ·exact C.ok p (List.mem_append_left _ z)
      ·exact ok.row _ p z
     ·exact Nat.le_of_lt (Nat.lt_of_lt_of_le (jM kb it e _) C.dE)
   refine⟨_,rfl,a,_,dx,_,_,rfl,g4.sub _ _ v1,T.aQ.cl,T.aQ.n,rfl,rfl,_,rfl,?_⟩
   have turn:=fun i=>My.Vr i kb it e
   cases ea:hU it with
   | none=>
    refine aI ?_
    refine tail _ cs g4 zq Fl jl (fun i z hz=>?_) _ (fun _ _ z=>z)
    have h1:=uR i z hz
    rw [turn i,ea,if_neg (by intro z;cases z)] at h1
    simpa using h1
   | some j=>
    refine aH ?_
    have hj:=ok.act ea
    have zf:j<cs.length:=by omega
    refine⟨_,rfl,_,rfl,a,_,dx,_,_,rfl,g4.sub _ _ v1,T.aQ.cl,T.aQ.n,rfl,cn,_,j,.int cs[j],rfl,?_,ai.of zq,?_,_,rfl,_,_,rfl,rfl,cn,_,(j:Int),j,rfl,?_,zq,?_,?_⟩
    ·rw [ea];rfl
    ·rw [getElem?_map,getElem?_eq_getElem zf];rfl
    ·rw [ea];rfl
    ·unfold kY
     rw [if_pos (by omega),length_map,if_pos (by omega)]
     simp
    have UM:(cs.map V.int).set j (.int (cs[j]+(e:Int)*(di it:Int)))=(cs.set j (cs[j]+(e:Int)*(di it:Int))).map V.int:=by rw [List.map_set]
    have g5:=g4.set (o:=.lst ((cs.map V.int).set j (.int (cs[j]+(e:Int)*(di it:Int))))) C.zS C.u6
    refine tail _ (cs.set j (cs[j]+(e:Int)*(di it:Int))) g5 (by rw [af,UM]) (by rw [aj C.ne.symm];exact Fl) (by rw [List.length_set];exact jl) (fun i z hz=>?_) _ (fun _ _ z=>z)
    by_cases hi:i=j
    ·subst hi
     rw [List.getElem?_set_self zf] at hz
     cases hz
     have h1:=uR i cs[i] (getElem?_eq_getElem zf)
     rw [turn i,ea,if_pos rfl] at h1
     rw [em]
     omega
    ·rw [getElem?_set_ne (fun z=>hi z.symm)] at hz
     have h1:=uR i z hz
     rw [turn i,ea,if_neg (by intro z;cases z;exact hi rfl)] at h1
     simpa using h1
  ·rw [decide_eq_false (show ¬ (0:Int)<(oH.length:Int) by omega)]
   refine aI ?_
   have UB:td=[]:=length_eq_zero_iff.mp (by have:=Ih.len;omega)
   subst UB
   refine⟨_,rfl,k cn G3 H3 C.g C.zS ?_⟩
   rw [mL]
   congr 2
   unfold mR
   apply congrArg (List.map V.int)
   apply ext_getElem
   ·simp [jl]
   ·intro i h1 h2
    have:=uR i cs[i] (getElem?_eq_getElem h1)
    simp only [getElem_map,getElem_range]
    have e0:dF i []=0:=rfl
    rw [e0] at this
    omega
end
open Vbdcan (Item Items)
section
theorem Hs (a b:Option Int):decide (cJ a=cJ b)=decide (a=b):=by
 cases a<;>cases b<;>simp [cJ]
theorem Bs (a b:Option Int):wo (cJ a) (cJ b)=true:=by cases a<;>cases b<;>rfl
def K5 (c:Cl):Sp:=fun vs H Q _=>∃(a b:Addr) (s t:Vbdcan.Sum) (W:Nat) (G:Hp),vs=[.ref a,.ref b]/\W<=8/\aJ G H/\cM c W G a s/\cM c W G b t/\Wf s/\Wf t/\Tail W s/\Tail W t /\
 ∀ H' G',Gr G H G' H'->Q (.bl (s.add == t.add)) H'
theorem Om (T:Txt K mg c):aW P w K mg base 1 "adds_the_same" ["one","other"] (K5 c):=by
 refine a0 T.Uv wU (fun f aw A aA s H vs Q E hr h=>?_)
 ·obtain⟨a,b,s,t,W,G,rfl,hW,g,⟨da,la,ha,sa⟩,⟨db,lb,hb,sb⟩,ws,wt,ts,tt,k⟩:=h
  obtain⟨xs,fm,eY,iY⟩:=sa.get
  obtain⟨ys,kr,qY,qD⟩:=sb.get
  refine⟨_,(ak (ay (bJ (p6 rfl) (by rfl) T.qc qb (aa (i8 (own:=[("span",2),("beside",3)]) rfl wU.nd (nA rfl T.oo (aa (pF K 0) (aa (pF K 1) ae))) (fF (N:=["one","other","span","beside"]) (sc:=aC xm) (by decide +kernel)) (fun _ _ _ _ _=>(mr (K:=K) (i:=2) (j:=3) rfl wU.nd rfl (Or.inl rfl) rfl (Or.inl rfl))) (fun _ _ _ _ _=>gc) (fun _ _ _ _ _=>(ie dJ (pF K 2) (pF K 3) (aO _)))) ae)))),?_⟩
  refine⟨_,rfl,a,_,da,_,_,rfl,g _ _ ha,T.a9.cl,T.a9.n,rfl,_,rfl,b,_,db,_,_,rfl,g _ _ hb,T.a9.cl,T.a9.n,rfl,la,lb,xs,ys,rfl,ai.of (g _ _ fm),ai.of (g _ _ kr),fun D nD=>?_⟩
  refine pG (xs:=xs) (ys:=ys) (Lc (fU fun k=>decide ((My.sp s k).add=(My.sp t k).add)) G H D) (eY.trans qY.symm) (Lc.start g nD) (fun i H1 L=>?_) (fun i x y H1 T1 hx hy hT L=>?_) (fun H1 L=>?_)
  ·obtain⟨zs,G1,g1,_⟩:=L.ex
   exact⟨ai.of (g1.same _ _ (g _ _ fm)),ai.of (g1.same _ _ (g _ _ kr))⟩
  ·obtain⟨zs,G1,g1,gD,hD,bC,hR⟩:=L.ex
   obtain⟨xa,rfl,gK⟩:=iY i x hx
   obtain⟨ya,rfl,nJ⟩:=qD i y hy
   have hi:i<W:=by rw [←eY];exact(List.getElem?_eq_some_iff.mp hx).1
   have g2:=g1.loose (o:=.tup [.ref xa,.ref ya]) hT
   obtain⟨zM,gK⟩:=(gK.mono g1.gg).mono g2.sub
   obtain⟨UZ,nJ⟩:=(nJ.mono g1.gg).mono g2.sub
   refine⟨T1,_,rfl,cE.of af,rfl,_,_,rfl,_,_,rfl,rfl,rfl,?_⟩
   refine⟨_,rfl,xa,_,zM,_,_,rfl,gK,T.aK.cl,T.aK.n,rfl,_,rfl,ya,_,UZ,_,_,rfl,nJ,T.aK.cl,T.aK.n,rfl,rfl,?_⟩
   have e:decide (V.int (My.sp s i).add=V.int (My.sp t i).add)=decide ((My.sp s i).add=(My.sp t i).add):=by
    rw [Bool.eq_iff_iff,decide_eq_true_eq,decide_eq_true_eq]
    exact⟨fun z=>by injection z,fun z=>by rw [z]⟩
   exact Lc.turn (R:=fU fun k=>decide ((My.sp s k).add=(My.sp t k).add)) (fun _ h=>h) nD g2 gD (by rw [aj (aP hD hT)];exact hD) bC hR (Gr.refl g2.sub) (congrArg V.bl e) (by omega)
  ·obtain⟨zs,G1,g1,hD,bC,hR⟩:=Lc.done (R:=fU fun k=>decide ((My.sp s k).add=(My.sp t k).add)) (fun _ h=>h) nD L
   have e:=mF (f:=fun k=>V.bl (decide ((My.sp s k).add=(My.sp t k).add))) (bC.trans eY) hR
   subst e
   refine⟨D,(range W).map fun k=>decide ((My.sp s k).add=(My.sp t k).add),rfl,ai.of (g1.sub _ _ ?_),?_⟩
   ·rw [hD,map_map]
    rfl
   ·have e2:((range W).map fun k=>decide ((My.sp s k).add=(My.sp t k).add)).all id=(s.add == t.add):=by
     rw [←My.add_eq hW ws wt ts tt,all_map]
     rfl
    rw [e2]
    exact k H1 G1 g1
def Kk (c:Cl):Sp:=fun vs H Q _=>∃(a b:Addr) (s t:ax),vs=[.ref a,.ref b]/\fw c H a s/\fw c H b t/\Q (.bl (eA s t)) H
theorem NF (T:Txt K mg c):aW P w K mg base 2 "span_asks_no_more" ["span","beside"] (Kk c):=by
 refine a0 T.S8 Lx (fun f aw A aA s H vs Q E hr h=>?_)
 ·obtain⟨a,b,s,t,rfl,⟨da,ha⟩,⟨db,hb⟩,k⟩:=h
  refine⟨_,(ak (ay (oV (ie dJ (pC (xP T) hr (aa (pF K 0) (aa (pF K 1) ae))) (pF K 1) (aO _)) (mv (ie dJ (pC (t7 T) hr (aa (pF K 0) (aa (pF K 1) ae))) (pF K 1) (aO _)))))),?_⟩
  refine⟨_,rfl,a,_,da,_,_,rfl,ha,T.aK.cl,T.aK.n,rfl,_,rfl,b,_,db,_,_,rfl,hb,T.aK.cl,T.aK.n,rfl,s.lo,t.lo,rfl,?_⟩
  refine⟨_,rfl,b,_,db,_,_,rfl,hb,T.aK.cl,T.aK.n,rfl,Bs _ _,_,rfl,?_⟩
  have e1:decide (cJ (maxO s.lo t.lo)=cJ t.lo)=decide (maxO s.lo t.lo=t.lo):=Hs _ _
  have e2:decide (cJ (minO s.hi t.hi)=cJ t.hi)=decide (minO s.hi t.hi=t.hi):=Hs _ _
  cases e:decide (maxO s.lo t.lo=t.lo) with
  | false=>
   refine cZ (e1.trans e) ?_
   have ek:eA s t=false:=by unfold eA;rw [e];rfl
   rw [ek] at k
   exact k
  | true=>
   refine cu (e1.trans e) ?_
   refine⟨_,rfl,a,_,da,_,_,rfl,ha,T.aK.cl,T.aK.n,rfl,_,rfl,b,_,db,_,_,rfl,hb,T.aK.cl,T.aK.n,rfl,s.hi,t.hi,rfl,?_⟩
   refine⟨_,rfl,b,_,db,_,_,rfl,hb,T.aK.cl,T.aK.n,rfl,Bs _ _,?_⟩
   have ek:eA s t=decide (minO s.hi t.hi=t.hi):=by unfold eA;rw [e];rfl
   rw [ek,←e2] at k
   exact k
def K3 (c:Cl):Sp:=fun vs H Q _=>∃(a b:Addr) (s t:Vbdcan.Sum) (W:Nat) (G:Hp),vs=[.ref a,.ref b]/\W<=8/\aJ G H/\cM c W G a s/\cM c W G b t/\Wf s/\Wf t/\Tail W s/\Tail W t /\
 ∀ H' G',Gr G H G' H'->Q (.bl (tighter t s)) H'
theorem Ee (T:Txt K mg c):aW P w K mg base 3 "asks_no_more" ["one","other"] (K3 c):=by
 refine a0 T.Us wR (fun f aw A aA s H vs Q E hr h=>?_)
 ·obtain⟨a,b,s,t,W,G,rfl,hW,g,⟨da,la,ha,sa⟩,⟨db,lb,hb,sb⟩,ws,wt,ts,tt,k⟩:=h
  obtain⟨xs,fm,eY,iY⟩:=sa.get
  obtain⟨ys,kr,qY,qD⟩:=sb.get
  refine⟨_,(ak (ay (bJ (p6 rfl) (by rfl) T.qc qb (aa (i8 (own:=[("span",2),("beside",3)]) rfl wR.nd (nA rfl T.oo (aa (pF K 0) (aa (pF K 1) ae))) (fF (N:=["one","other","span","beside"]) (sc:=aC xj) (by decide +kernel)) (fun _ _ _ _ _=>(mr (K:=K) (i:=2) (j:=3) rfl wR.nd rfl (Or.inl rfl) rfl (Or.inl rfl))) (fun _ _ _ _ _=>gc) (fun _ _ _ _ _=>(pC (NF T) hr (aa (pv 2) (aa (pv 3) ae))))) ae)))),?_⟩
  refine⟨_,rfl,a,_,da,_,_,rfl,g _ _ ha,T.a9.cl,T.a9.n,rfl,_,rfl,b,_,db,_,_,rfl,g _ _ hb,T.a9.cl,T.a9.n,rfl,la,lb,xs,ys,rfl,ai.of (g _ _ fm),ai.of (g _ _ kr),fun D nD=>?_⟩
  refine pG (xs:=xs) (ys:=ys) (Lc (fU fun k=>eA (My.sp s k) (My.sp t k)) G H D) (eY.trans qY.symm) (Lc.start g nD) (fun i H1 L=>?_) (fun i x y H1 T1 hx hy hT L=>?_) (fun H1 L=>?_)
  ·obtain⟨zs,G1,g1,_⟩:=L.ex
   exact⟨ai.of (g1.same _ _ (g _ _ fm)),ai.of (g1.same _ _ (g _ _ kr))⟩
  ·obtain⟨zs,G1,g1,gD,hD,bC,hR⟩:=L.ex
   obtain⟨xa,rfl,gK⟩:=iY i x hx
   obtain⟨ya,rfl,nJ⟩:=qD i y hy
   have hi:i<W:=by rw [←eY];exact(List.getElem?_eq_some_iff.mp hx).1
   have g2:=g1.loose (o:=.tup [.ref xa,.ref ya]) hT
   refine⟨T1,_,rfl,cE.of af,rfl,_,_,rfl,_,_,rfl,rfl,rfl,?_⟩
   refine⟨_,rfl,_,rfl,xa,ya,_,_,rfl,(gK.mono g1.gg).mono g2.sub,(nJ.mono g1.gg).mono g2.sub,?_⟩
   exact Lc.turn (R:=fU fun k=>eA (My.sp s k) (My.sp t k)) (fun _ h=>h) nD g2 gD (by rw [aj (aP hD hT)];exact hD) bC hR (Gr.refl g2.sub) rfl (by omega)
  ·obtain⟨zs,G1,g1,hD,bC,hR⟩:=Lc.done (R:=fU fun k=>eA (My.sp s k) (My.sp t k)) (fun _ h=>h) nD L
   have e:=mF (f:=fun k=>V.bl (eA (My.sp s k) (My.sp t k))) (bC.trans eY) hR
   subst e
   refine⟨D,(range W).map fun k=>eA (My.sp s k) (My.sp t k),rfl,ai.of (g1.sub _ _ ?_),?_⟩
   ·rw [hD,map_map]
    rfl
   ·have e2:((range W).map fun k=>eA (My.sp s k) (My.sp t k)).all id=tighter t s:=by
     rw [←My.Wc hW ws wt ts tt,all_map]
     rfl
    rw [e2]
    exact k H1 G1 g1
def Kx (c:Cl):Sp:=fun vs H Q _=>∃(a:Addr) (s:ax) (up:Bool),vs=[.ref a,.bl up]/\fw c H a s/\Q (.int (bB up s)) H
theorem xT (T:Txt K mg c):aW P w K mg base 1 "peak_of" ["span","is_up"] (Kx c):=by
 refine a0 T.Tq LF (fun f aw A aA s H vs Q E hr h=>?_)
 ·obtain⟨a,s,up,rfl,⟨da,ha⟩,k⟩:=h
  refine⟨_,(ak (ay (i9 (cO (pv 1)) (pF K 0) (kP kM (pF K 0))))),?_⟩
  refine⟨_,rfl,up,rfl,?_⟩
  cases up with
  | true=>exact aH ⟨_,rfl,a,_,da,_,_,rfl,ha,T.aK.cl,T.aK.n,rfl,k⟩
  | false=>exact aI ⟨_,rfl,a,_,da,_,_,rfl,ha,T.aK.cl,T.aK.n,rfl,_,rfl,k⟩
def Ko (c:Cl):Sp:=fun vs H Q _=>∃(a:Addr) (s:ax) (up:Bool),vs=[.ref a,.bl up]/\fw c H a s/\Q (.int (cf up s)) H
theorem xR (T:Txt K mg c):aW P w K mg base 1 "rise_of" ["span","is_up"] (Ko c):=by
 refine a0 T.Tc Lz (fun f aw A aA s H vs Q E hr h=>?_)
 ·obtain⟨a,s,up,rfl,⟨da,ha⟩,k⟩:=h
  refine⟨_,(ak (ay (i9 (cO (pv 1)) (pF K 0) (kP kM (pF K 0))))),?_⟩
  refine⟨_,rfl,up,rfl,?_⟩
  cases up with
  | true=>exact aH ⟨_,rfl,a,_,da,_,_,rfl,ha,T.aK.cl,T.aK.n,rfl,k⟩
  | false=>exact aI ⟨_,rfl,a,_,da,_,_,rfl,ha,T.aK.cl,T.aK.n,rfl,_,rfl,k⟩
def Kb (c:Cl):Sp:=fun vs H Q _=>∃(a:Addr) (s:ax) (up:Bool) (left:Int),vs=[.ref a,.bl up,.int left]/\fw c H a s/\My.Below (bB up s) (cf up s) left/\Bd (-(left-bB up s)) /\
 Q (.int (cT (bB up s) (cf up s) left:Nat)) H
theorem Nw (T:Txt K mg c):aW P w K mg base 2 "times_below" ["once","is_up","height"] (Kb c):=by
 refine a0 T.SX Bt (fun f aw A aA s H vs Q E hr h=>?_)
 ·obtain⟨a,s,up,left,rfl,ha,hb,hd,k⟩:=h
  refine⟨_,(ag (pq 3 Bt (bA lG (pv 2) (pC (xT T) hr (aa (pv 0) (aa (pv 1) ae)))))
    (ag (aX (aT dQ (pv 3) aq (aO _)) (ak (ay aq)) aY)
    (ak (ay (kP kM (bA tZ (kP kM (pv 3)) (pC (xR T) hr (aa (pv 0) (aa (pv 1) ae))))))))),?_⟩
  refine⟨_,rfl,_,rfl,_,rfl,a,s,up,rfl,ha,_,_,rfl,rfl,?_⟩
  refine⟨_,rfl,_,_,rfl,rfl,_,rfl,?_⟩
  have hi:=hb.int
  by_cases h0:left-bB up s<=0
  ·rw [decide_eq_true h0]
   refine aH ?_
   rw [if_pos h0] at hi
   rw [hi] at k
   exact k
  ·rw [decide_eq_false h0]
   refine aI ?_
   rw [if_neg h0] at hi
   refine⟨_,rfl,_,rfl,_,rfl,_,rfl,a,s,up,rfl,ha,_,_,rfl,rfl,⟨hb.rise (by omega),hd⟩,_,rfl,?_⟩
   rw [hi] at k
   exact k
end
open Vbdcan (Item Items)
theorem cM.at_ {c:Cl}{W:Nat}{G:Hp}{a:Addr}{s:Vbdcan.Sum}(h:cM c W G a s){k:Nat}(hk:k<W):∃(dx l:Addr) (xs:List V) (sa:Addr),G a=some (.ins c.sum dx (sumF s.len l))/\G l=some (.lst xs)/\xs[k]? = some (.ref sa)/\fw c G sa (My.sp s k):=by
 obtain⟨dx,l,h1,h2⟩:=h
 obtain⟨ys,e1,e2,e3⟩:=h2.get
 have e4:ys[k]? = some (ys[k]'(by omega)):=getElem?_eq_getElem (by omega)
 obtain⟨sa,e5,e6⟩:=e3 k _ e4
 rw [e5] at e4
 exact⟨dx,l,ys,sa,h1,e1,e4,e6⟩
structure Cw (acts:List Vbdcan.Act) (up:Bool) (k:Nat) (v:Int) (R d:Nat) (left:Int) (l:Items):Prop where
 pos:0<left
 le:left<=bB up (My.sp (sumItems acts l) k)
 wt:bh l<=cQ
 n:d+(firstItems acts up k v (v+left) l).getD 0=R
theorem DM (acts:List Vbdcan.Act) (up:Bool) (k:Nat):bB up (My.sp (sumItems acts .nil) k)=0:=by
 rw [sumItems,dX]
 unfold bB ax.zero
 cases up<;>simp
section
def Kg (c:Cl):Sp:=fun vs H Q _=>∃(ra:Addr) (k:Nat) (up:Bool) (ht v:Int) (l:Items) (W:Nat) (acts:List Vbdcan.Act) (G:Hp),vs=[.ref ra,.int k,.bl up,.int ht]/\Ws W acts/\aJ G H/\bF c W acts G ra (.rep 1 l)/\k<W/\bh l<=cQ /\
 ∀ G' H',Gr G H G' H'->Q (cJ (d9 (firstItems acts up k v (v+ht) l))) H'
theorem NA (T:Txt K mg c):aW P w K mg base 3 "steps_to_climb" ["run","number","is_up","height"] (Kg c):=by
 refine a0 T.S4 iV (fun f aw A aA s H vs Q E hr h=>?_)
 ·obtain⟨ra,k,up,ht,v,l,W,acts,G,rfl,ws,g,dB,jk,fq,fin⟩:=h
  have eE:k<8:=by have:=ws.w;omega
  have xl:=bU ws.ok l
  have e0:sumItem acts (.rep 1 l)=sumItems acts l:=by rw [sumItem,fZ xl.1]
  refine⟨_,(ag (aX (aT dQ (pv 3) aq (aO _)) (ak (ay aq)) aY)
    (ag (aX (aT eO (pC (xT T) hr (aa (bH bQ (cy (K:=K) (pF K 0) rfl) (pv 1) (fun _ _=>rfl)) (aa (pv 2) ae))) (pv 3) (aO _)) (ak (ay cj)) aY)
    (ag (pq 4 iV aq)
    (ag (pq 5 iV (pv 3))
    (ag (pq 6 iV (aZ (aa (pv 0) ae)))
    (ag (mn PassesOwn.never (aT fM (bJ cC (by rfl) T.cB PySem.boot_len (aa (pv 6) ae)) aq (aO _)) (ag (pq 7 iV (aZ ae))
     (ag (gP PassesOwn.never rfl (fD (pv 6)) (dk (i:=8) iV.nd rfl (Or.inl rfl)) (ag (aX (aT Nq (pC (xT T) hr (aa (bH bQ (cy (K:=K) (pF K 8) rfl) (pv 1) (fun _ _=>rfl)) (aa (pv 2) ae))) (pv 5) (aO _)) (ag (pq 9 iV (pC (Nw T) hr (aa (bH bQ (cy (K:=K) (pF K 8) rfl) (pv 1) (fun _ _=>rfl)) (aa (pv 2) (aa (pv 5) ae)))))
       (ag (jE (i:=4) iV.nd rfl (Or.inl rfl) (bA kQ (pv 9) (cy (K:=K) (pF K 8) rfl)) lK)
       (ag (jE (i:=5) iV.nd rfl (Or.inl rfl) (bA kQ (pv 9) (pC (xR T) hr (aa (bH bQ (cy (K:=K) (pF K 8) rfl) (pv 1) (fun _ _=>rfl)) (aa (pv 2) ae)))) uE)
       (ag (pq 7 iV (pF K 8))
       (ak xE))))) aY)
      (ag (jE (i:=4) iV.nd rfl (Or.inl rfl) (cy (K:=K) (pF K 8) rfl) lK)
      (ak (jE (i:=5) iV.nd rfl (Or.inl rfl) (pC (xR T) hr (aa (bH bQ (cy (K:=K) (pF K 8) rfl) (pv 1) (fun _ _=>rfl)) (aa (pv 2) ae))) uE)))))
     (ak (pq 6 iV (pv 7))))))
    (ak (ay (bA dM (pv 4) aq))))))))),?_⟩
  refine⟨_,rfl,_,_,rfl,rfl,_,rfl,?_⟩
  by_cases h0:ht<=0
  ·rw [decide_eq_true h0]
   refine aH ?_
   have:=fin G H (Gr.refl g)
   rw [My.SI l (by omega)] at this
   exact this
  rw [decide_eq_false h0]
  refine aI ?_
  obtain⟨dx,x1,x2,rr,so,sw,fb,v1,v2,v3,v4,v5⟩:=dB.view
  obtain⟨eR,je,sJ,sa,w1,w2,w3,w4⟩:=v5.at_ jk
  refine⟨_,rfl,ra,_,dx,_,_,rfl,g _ _ v1,T.aQ.cl,T.aQ.n,rfl,sw,_,eR,_,_,rfl,g _ _ w1,T.a9.cl,T.a9.n,rfl,_,rfl,je,sJ,_,_,rfl,rfl,ai.of (g _ _ w2),bS w3,_,rfl,sa,_,up,rfl,w4.mono g,_,rfl,_,_,rfl,rfl,_,rfl,?_⟩
  rw [e0]
  by_cases h1:bB up (My.sp (sumItems acts l) k)<ht
  ·rw [decide_eq_true h1]
   refine aH ?_
   have:=fin G H (Gr.refl g)
   rw [(iQ ws.ok eE (v:=v) l ht (by omega)).2 h1] at this
   exact this
  rw [decide_eq_false h1]
  refine aI ?_
  obtain⟨R,hR⟩:=(iQ (up:=up) ws.ok eE (v:=v) l ht (by omega)).1 (by omega)
  rw [hR] at fin
  refine⟨_,rfl,?_⟩
  refine⟨_,rfl,⟨by show 1<=sizeLine;decide,fun q nq=>?_⟩⟩
  have w1':bh (.cons (.rep 1 l) .nil)=bh l:=by rw [bh,ck,bh];omega
  refine⟨fun m σ H'=>∃(d:Nat) (left:Int) (rw:Addr) (v7 v8 v9:Option V) (as:List Addr) (l':Items) (G':Hp),σ=[some (.ref ra),some (.int k),some (.bl up),some (.int ht),some (.int d),some (.int left),some (.ref rw),v7,v8,v9]/\Gr G H G' H' /\
   H' rw=some (.lst (as.map V.ref))/\bj c W acts G' as l'/\(Cw acts up k v R d left l'\/(l'=.nil/\d+1=R))/\m=bK l',
   ⟨_,0,ht,q,none,none,none,[ra],.cons (.rep 1 l) .nil,G,rfl,(Gr.refl g).loose nq,af,?_,.inl ⟨by omega,?_,by rw [w1'];exact fq,?_⟩,rfl⟩,?_⟩
  ·unfold bj
   exact⟨ra,[],rfl,dB,by unfold bj;rfl⟩
  ·rw [sumItems,dI (cU ws.ok _).1 (bU ws.ok _).1 eE,My.xF,e0]
   omega
  ·rw [My.SK (up:=up) (v:=v) ws.ok eE (by omega) (by omega),hR]
   simp
  rintro m σ H1 ⟨d,left,rw,v7,v8,v9,as,l',G1,rfl,g1,nL,hI,hC,rfl⟩
  refine⟨_,rfl,rw,_,rfl,.inl (ai.of nL),_,_,rfl,rfl,_,rfl,?_⟩
  rw [length_map]
  obtain⟨e1,e2⟩:=hI.get
  by_cases h0':0<as.length
  ·rw [decide_eq_true (show(0:Int)<(as.length:Int) by omega)]
   refine aH ?_
   have hC:Cw acts up k v R d left l':=by
    rcases hC with z |⟨rfl,_⟩
    ·exact z
    ·have e0:(My.listOf Items.nil).length=0:=rfl
     omega
   refine⟨fun σ' H'=>∃(d:Nat) (left:Int) (rw:Addr) (v7 v8 v9:Option V) (as:List Addr) (l'':Items) (G':Hp),σ'=[some (.ref ra),some (.int k),some (.bl up),some (.int ht),some (.int d),some (.int left),some (.ref rw),v7,v8,v9]/\Gr G H G' H' /\
    H' rw=some (.lst (as.map V.ref))/\bj c W acts G' as l''/\(Cw acts up k v R d left l''\/(l''=.nil/\d+1=R))/\bK l''<bK l',fun σ' H' z=>?_,?_⟩
   ·obtain⟨d,left,rw,v7,v8,v9,as,l'',G',z1,z2,z3,z4,z5,z6⟩:=z
    exact⟨_,z6,d,left,rw,v7,v8,v9,as,l'',G',z1,z2,z3,z4,z5,rfl⟩
   refine⟨Nat.zero_le _,fun jO qV=>?_⟩
   have g2:=(Gr.refl g1.sub).loose (o:=.lst []) qV
   have mH:=g2.same _ _ nL
   refine⟨_,rfl,rw,rfl,⟨_,ai.of mH⟩,lj (K:=K) (a:=rw) (xs:=as.map V.ref) (fun i σ H'=>∃(d:Nat) (left:Int) (v8 v9:Option V) (G':Hp),σ=[some (.ref ra),some (.int k),some (.bl up),some (.int ht),some (.int d),some (.int left),some (.ref rw),some (.ref jO),v8,v9]/\Gr G1 (upd H1 jO (.lst [])) G' H' /\
    Cw acts up k v R d left (itemsOf ((My.listOf l').drop i))) ?_ (fun i σ H' _ ⟨_,_,_,_,_,_,g3,_⟩=>ai.of (g3.same _ _ mH)) ?_ ?_⟩
   ·refine⟨d,left,v8,v9,G1,rfl,Gr.refl g2.sub,?_⟩
    rw [drop_zero,gJ]
    exact hC
   ·rintro i y σ H3 hy ⟨d,left,v8,v9,G3,rfl,g3,C⟩
    obtain⟨a,ea,rfl⟩:=i4 hy
    obtain⟨it,iR,hit⟩:=e2 i a ea
    have rF:=bF.mono g3.gg it hit
    obtain⟨dx,x1,x2,rr,so,sw,fb,v1,v2,v3,v4,v5'⟩:=rF.view
    obtain⟨eR,je,sJ,sa,w1,w2,w3,w4⟩:=v5'.at_ jk
    obtain⟨jo,mE,AD,sb,o1,o2,o3,o4⟩:=v4.at_ jk
    rw [zO iR] at C
    obtain⟨cp,cl,cw,cn⟩:=C
    have xi:=cU ws.ok it
    have sl:=gy ws.ok ws.small it
    have IP:bh (.cons it (itemsOf ((My.listOf l').drop (i+1))))=ck it+bh (itemsOf ((My.listOf l').drop (i+1))):=by rw [bh]
    rw [IP] at cw
    refine⟨_,rfl,a,_,dx,_,_,rfl,g3.sub _ _ v1,T.aQ.cl,T.aQ.n,rfl,sw,_,eR,_,_,rfl,g3.sub _ _ w1,T.a9.cl,T.a9.n,rfl,_,rfl,je,sJ,_,_,rfl,rfl,ai.of (g3.sub _ _ w2),bS w3,_,rfl,sa,_,up,rfl,w4.mono g3.sub,_,rfl,_,_,rfl,rfl,_,rfl,?_⟩
    by_cases hp:left<=bB up (My.sp (sumItem acts it) k)
    ·refine cu (decide_eq_true hp) ?_
     obtain⟨r9,fe⟩:=My.GN ws.ok eE (v:=v) (r:=itemsOf ((My.listOf l').drop (i+1))) cp hp
     rw [fe] at cn
     have eN:dU (ck it) (bZ acts it)/\bh (rowOf it)<=ck it:=by
      cases it with
      | act j=>exact⟨sl,by unfold rowOf bh;exact Nat.zero_le _⟩
      | rep n b=>
       have hn:n≠0:=fun z=>by
        subst z
        have ez:sumItem acts (.rep 0 b)={}:=by rw [sumItem];rfl
        rw [ez,dX] at hp
        have:bB up ax.zero=0:=by unfold bB ax.zero;cases up<;>simp
        omega
       have hle:bh b<=ck (.rep n b):=by rw [ck];exact Nat.le_mul_of_pos_left _ (by omega)
       exact⟨(fI ws.ok ws.small b).mono hle,hle⟩
     obtain⟨eN,Nm⟩:=eN
     have dh:=(jG (up:=up) (sl.sp k eE)).1
     obtain⟨jQ,Xw⟩:=jG (up:=up) (eN.sp k eE)
     have FK:=r9.lim
     have bt:Bd (cT (bB up (My.sp (bZ acts it) k)) (cf up (My.sp (bZ acts it) k)) left:Int):=gN (by omega)
     refine⟨_,rfl,a,_,dx,_,_,rfl,g3.sub _ _ v1,T.aQ.cl,T.aQ.n,rfl,so,_,jo,_,_,rfl,g3.sub _ _ o1,T.a9.cl,T.a9.n,rfl,_,rfl,mE,AD,_,_,rfl,rfl,ai.of (g3.sub _ _ o2),bS o3,_,rfl,_,rfl,sb,_,up,left,rfl,o4.mono g3.sub,r9,gN (by omega),?_⟩
     refine⟨_,rfl,_,rfl,_,rfl,a,_,dx,_,_,rfl,g3.sub _ _ v1,T.aQ.cl,T.aQ.n,rfl,so,_,jo,_,_,rfl,g3.sub _ _ o1,T.a9.cl,T.a9.n,rfl,_,_,rfl,rfl,.inr ⟨bt,gN (by rw [Int.natAbs_natCast];have:=eN.len;omega)⟩,_,_,rfl,rfl,?_⟩
     refine⟨_,rfl,_,rfl,_,rfl,a,_,dx,_,_,rfl,g3.sub _ _ v1,T.aQ.cl,T.aQ.n,rfl,so,_,jo,_,_,rfl,g3.sub _ _ o1,T.a9.cl,T.a9.n,rfl,_,rfl,mE,AD,_,_,rfl,rfl,ai.of (g3.sub _ _ o2),bS o3,_,rfl,sb,_,up,rfl,o4.mono g3.sub,_,_,rfl,rfl,.inr ⟨bt,gN (by omega)⟩,_,_,rfl,rfl,?_⟩
     refine⟨_,rfl,a,_,dx,_,_,rfl,g3.sub _ _ v1,T.aQ.cl,T.aQ.n,rfl,?_⟩
     refine⟨_,rfl,d+cT (bB up (My.sp (bZ acts it) k)) (cf up (My.sp (bZ acts it) k)) left*(bZ acts it).len,left-(cT (bB up (My.sp (bZ acts it) k)) (cf up (My.sp (bZ acts it) k)) left:Int)*cf up (My.sp (bZ acts it) k),rr,some (.ref rr),some (.ref a),some (.int (cT (bB up (My.sp (bZ acts it) k)) (cf up (My.sp (bZ acts it) k)) left:Int)),fb,rowOf it,G3,?_,g1.trans (g2.trans g3),g3.sub _ _ v2,v3,?_,Nat.lt_of_lt_of_le (ia it) (qS iR)⟩
     ·rfl
     ·cases it with
      | act j=>
       refine .inr ⟨rfl,?_⟩
       rw [My.SM] at cn
       have ez:cT (bB up (My.sp (bZ acts (.act j)) k)) (cf up (My.sp (bZ acts (.act j)) k)) left=0:=by
        unfold cT
        rw [if_pos (by show left-bB up (My.sp (sumItem acts (.act j)) k)<=0;omega)]
       rw [ez]
       omega
      | rep n b=>
       refine .inl ⟨r9.pos,r9.le,by omega,?_⟩
       rw [My.GL r9] at cn
       rw [←cn,Nat.add_assoc]
       rfl
    ·refine cZ (decide_eq_false hp) ?_
     obtain⟨s1,s2,s3⟩:=My.SJ ws.ok eE (v:=v) cp (by omega) cl
     rw [s3] at cn
     refine⟨_,rfl,_,rfl,a,_,dx,_,_,rfl,g3.sub _ _ v1,T.aQ.cl,T.aQ.n,rfl,sw,_,eR,_,_,rfl,g3.sub _ _ w1,T.a9.cl,T.a9.n,rfl,_,_,rfl,rfl,?_⟩
     refine⟨_,rfl,_,rfl,a,_,dx,_,_,rfl,g3.sub _ _ v1,T.aQ.cl,T.aQ.n,rfl,sw,_,eR,_,_,rfl,g3.sub _ _ w1,T.a9.cl,T.a9.n,rfl,_,rfl,je,sJ,_,_,rfl,rfl,ai.of (g3.sub _ _ w2),bS w3,_,rfl,sa,_,up,rfl,w4.mono g3.sub,_,_,rfl,rfl,?_⟩
     exact⟨d+(sumItem acts it).len,_,some (.ref a),v9,G3,rfl,g3,s1,s2,Nat.le_trans (Nat.le_add_left _ _) cw,by rw [Nat.add_assoc];exact cn⟩
   ·rintro σ H3 ⟨d,left,v8,v9,G3,rfl,g3,C⟩
    have oa:(My.listOf l').drop (as.map V.ref).length=[]:=by
     rw [drop_eq_nil_iff,length_map,e1]
     exact Nat.le_refl _
    rw [oa] at C
    have h1:=C.le
    have h2:=C.pos
    rw [show itemsOf []=Items.nil from rfl,DM] at h1
    omega
  ·rw [decide_eq_false (show ¬ (0:Int)<(as.length:Int) by omega)]
   refine aI ?_
   have zL:as=[]:=length_eq_zero_iff.mp (by omega)
   have el:l'=.nil:=by
    cases l' with
    | nil=>rfl
    | cons i r=>rw [zL] at e1;unfold My.listOf at e1;simp at e1
   subst el
   rcases hC with z |⟨_,z⟩
   ·have h1:=z.le
    have h2:=z.pos
    rw [DM] at h1
    omega
   ·refine⟨_,rfl,_,_,rfl,rfl,?_⟩
    have:=fin G1 H1 g1
    have e3:(d:Int)+1=(R:Int):=by omega
    show Q (.int ((d:Int)+1)) H1
    rw [e3]
    exact this
end
open Vbdcan (Item Items)
section
def KU (c:Cl):Sp:=fun vs H Q _=>∃(p dx nm:Addr) (m:Int),vs=[.ref p,.ref nm,.int m]/\H p=some (.ins c.action dx []) /\
 ∀ d1 d2 d3,H d1=none->H d2=none->H d3=none->d1≠d2->d1≠d3->d2≠d3->Q .aD (upd (upd (upd (upd H d1 (.dK [])) d2 (.dK [])) d3 (.dK [])) p (.ins c.action dx (js nm m d1 d2 d3)))
theorem Px (T:Txt K mg c):iw P w K mg base 1 "Action" c.action ["self","name","must"] (KU c):=by
 refine yr T.cv Ma (fun f aw A aA s H vs Q E hr h=>?_)
 ·obtain⟨p,dx,nm,m,rfl,hp,k⟩:=h
  refine⟨_,(ag (bL (pv 0) (pv 1) rfl)
    (ag (bL (pv 0) (pv 2) rfl)
    (ag (bL (pv 0) xI rfl)
    (ag (bL (pv 0) xI rfl)
    (ak (bL (pv 0) xI rfl)))))),?_⟩
  refine⟨_,rfl,_,rfl,p,_,dx,_,rfl,hp,T.cv.cl,T.cv.n,(by show 0<1000;decide),?_⟩
  refine⟨_,rfl,_,rfl,p,_,dx,_,rfl,af,T.cv.cl,T.cv.n,(by show 1<1000;decide),?_⟩
  rw [bM]
  refine fun d1 n1=>?_
  have a1:p≠d1:=aP (af (H:=H) (a:=p)) n1
  have n1':H d1=none:=by rw [aj a1.symm] at n1;exact n1
  refine⟨_,rfl,p,_,dx,_,rfl,(by rw [aj a1,af]),T.cv.cl,T.cv.n,(by show 2<1000;decide),?_⟩
  rw [nc (H:=H) a1,bM]
  refine fun d2 n2=>?_
  have a2:p≠d2:=aP (af (H:=upd H d1 (.dK [])) (a:=p)) n2
  have ox:d1≠d2:=fun z=>by
   subst z
   rw [aj a2.symm,af] at n2;cases n2
  have n2':H d2=none:=by rw [aj a2.symm,aj ox.symm] at n2;exact n2
  refine⟨_,rfl,p,_,dx,_,rfl,(by rw [aj a2,af]),T.cv.cl,T.cv.n,(by show 3<1000;decide),?_⟩
  rw [nc (H:=upd H d1 (.dK [])) a2,bM]
  refine fun d3 n3=>?_
  have a3:p≠d3:=aP (af (H:=upd (upd H d1 (.dK [])) d2 (.dK [])) (a:=p)) n3
  have sh:d2≠d3:=fun z=>by
   subst z
   rw [aj a3.symm,af] at n3;cases n3
  have si:d1≠d3:=fun z=>by
   subst z
   rw [aj a3.symm,aj ox,af] at n3;cases n3
  have n3':H d3=none:=by rw [aj a3.symm,aj sh.symm,aj si.symm] at n3;exact n3
  refine⟨_,rfl,p,_,dx,_,rfl,(by rw [aj a3,af]),T.cv.cl,T.cv.n,(by show 4<1000;decide),?_⟩
  rw [nc (H:=upd (upd H d1 (.dK [])) d2 (.dK [])) a3,bM]
  exact k d1 d2 d3 n1' n2' n3' ox si sh
def OC:List V->List (Str×V)
 |[x1,x2]=>[("side",x1),("run",x2)]
 |_=>[]
theorem Pw (T:Txt K mg c):iw P w K mg base 1 "Offer" c.offer ["self","side","run"] (ml c.offer 2 OC):=by
 refine lH T.gI L8 (fun vs H Q E h=>?_) (fun f aw A aA s H vs Q E hr h=>?_)
 ·obtain⟨p,dx,args,rfl,hl,_⟩:=h
  show args.length+1=3
  omega
 ·obtain⟨p,dx,args,rfl,hl,hp,k⟩:=h
  match args,hl,k with
  |[x1,x2],_,k=>
  refine⟨_,(ag (bL (pv 0) (pv 1) rfl)
    (ak (bL (pv 0) (pv 2) rfl))),?_⟩
  refine⟨_,rfl,_,rfl,p,_,dx,_,rfl,hp,T.gI.cl,T.gI.n,(by show 0<1000;decide),?_⟩
  refine⟨_,rfl,_,rfl,p,_,dx,_,rfl,af,T.gI.cl,T.gI.n,(by show 1<1000;decide),?_⟩
  rw [bM]
  exact k
def KR (c:Cl):Sp:=fun vs H Q _=>∃(p dx:Addr),vs=[.ref p]/\H p=some (.ins c.state dx []) /\
 ∀ d1 d2 d3,H d1=none->H d2=none->H d3=none->d1≠d2->d1≠d3->d2≠d3->Q .aD (upd (upd (upd (upd H d1 (.lst [])) d2 (.lst [])) d3 (.lst [])) p (.ins c.state dx (bN d1 d2 d3 .aD)))
theorem Pq (T:Txt K mg c):iw P w K mg base 1 "State" c.state ["self"] (KR c):=by
 refine yr T.aE LX (fun f aw A aA s H vs Q E hr h=>?_)
 ·obtain⟨p,dx,rfl,hp,k⟩:=h
  refine⟨_,(ag (bL (pv 0) (aZ ae) rfl)
    (ag (bL (pv 0) (aZ ae) rfl)
    (ag (bL (pv 0) (aZ ae) rfl)
    (ak (bL (pv 0) cj rfl))))),?_⟩
  refine⟨Nat.zero_le _,fun d1 n1=>?_⟩
  have a1:p≠d1:=aP hp n1
  refine⟨_,rfl,p,_,dx,_,rfl,(by rw [aj a1];exact hp),T.aE.cl,T.aE.n,(by show 0<1000;decide),?_⟩
  refine⟨Nat.zero_le _,fun d2 n2=>?_⟩
  have a2:p≠d2:=aP (af (H:=upd H d1 (.lst [])) (a:=p)) n2
  have ox:d1≠d2:=fun z=>by
   subst z
   rw [aj a2.symm,af] at n2;cases n2
  have n2':H d2=none:=by rw [aj a2.symm,aj ox.symm] at n2;exact n2
  refine⟨_,rfl,p,_,dx,_,rfl,(by rw [aj a2,af]),T.aE.cl,T.aE.n,(by show 1<1000;decide),?_⟩
  rw [nc (H:=upd H d1 (.lst [])) a2,bM]
  refine⟨Nat.zero_le _,fun d3 n3=>?_⟩
  have a3:p≠d3:=aP (af (H:=upd (upd H d1 (.lst [])) d2 (.lst [])) (a:=p)) n3
  have sh:d2≠d3:=fun z=>by
   subst z
   rw [aj a3.symm,af] at n3;cases n3
  have si:d1≠d3:=fun z=>by
   subst z
   rw [aj a3.symm,aj ox,af] at n3;cases n3
  have n3':H d3=none:=by rw [aj a3.symm,aj sh.symm,aj si.symm] at n3;exact n3
  refine⟨_,rfl,p,_,dx,_,rfl,(by rw [aj a3,af]),T.aE.cl,T.aE.n,(by show 2<1000;decide),?_⟩
  rw [nc (H:=upd (upd H d1 (.lst [])) d2 (.lst [])) a3,bM]
  refine⟨_,rfl,p,_,dx,_,rfl,af,T.aE.cl,T.aE.n,(by show 3<1000;decide),?_⟩
  rw [bM]
  exact k d1 d2 d3 n1 n2' n3' ox si sh
def KN (c:Cl):Sp:=fun vs H Q _=>∃(st la:Addr) (r:Int) (s:State) (G:Hp),vs=[.ref st,.int r]/\fG c G H st la s/\Q (.bl (from_ r 0 ((s.names.length:Int)-1))) H
theorem xX (T:Txt K mg c):aW P w K mg base 1 "is_register" ["state","number"] (KN c):=by
 refine a0 T.TH LL (fun f aw A aA s H vs Q E hr h=>?_)
 ·obtain⟨st,la,r,s,G,rfl,hs,k⟩:=h
  obtain⟨dx,ln,lh,ov,ts,as,h1,h2,h3,h4,h5,h6,h7,h8,h9,gi,cS⟩:=hs.ex
  refine⟨_,(ak (ay (nE dQ eO aq (pv 1) (bJ cC (by rfl) T.cB PySem.boot_len (aa (pF K 0) ae))))),?_⟩
  refine⟨_,rfl,0,r,rfl,rfl,_,rfl,?_⟩
  by_cases h0:0<=r
  ·refine cu (decide_eq_true h0) ?_
   refine⟨_,rfl,st,_,dx,_,_,rfl,h1,T.aE.cl,T.aE.n,rfl,lh,_,rfl,.inl (ai.of h5),_,_,rfl,rfl,?_⟩
   rw [dD]
   have e:from_ r 0 ((s.names.length:Int)-1)=decide (r<(s.names.length:Int)):=by
    unfold from_
    rw [Bool.eq_iff_iff,decide_eq_true_eq,decide_eq_true_eq]
    omega
   rw [e] at k
   exact k
  ·refine cZ (decide_eq_false h0) ?_
   have e:from_ r 0 ((s.names.length:Int)-1)=false:=by
    unfold from_
    exact decide_eq_false (by omega)
   rw [e] at k
   exact k
theorem JV {acts:List Vbdcan.Act}{i:Nat}{x:Vbdcan.Act}(h:acts[i]? = some x):sumItem acts (.act i)=actSum x:=by
 rw [sumItem,h];rfl
def Kf (c:Cl):Sp:=fun vs H Q _=>∃(a:Addr) (x:Vbdcan.Act) (W:Nat) (G:Hp),vs=[.ref a,.int W]/\W<=8/\aJ G H/\sH c G a x/\x.add.length=8/\∀ p G' H',Gr G H G' H'->cM c W G' p (actSum x)->Q (.ref p) H'
theorem Nz (T:Txt K mg c):aW P w K mg base 4 "sum_of_action" ["action","width"] (Kf c):=by
 refine a0 T.S1 wx (fun f aw A aA s H vs Q E hr h=>?_)
 ·obtain⟨a,x,W,G,rfl,hW,g,ha,hx,k⟩:=h
  obtain⟨dx,nm,d1,d2,d3,k1,k2,k3,h1,h2,h3,h4,h5,h6⟩:=ha.ex
  refine⟨_,(ag (ny (i:=3) (own:=[("k",2)]) rfl wx.nd rfl rfl (ni rfl rfl rfl rfl) (qI rfl T.oq (aa (pv 1) ae)) (fF (N:=["action","width","k","spans"]) (sc:=aC wW) (by decide +kernel)) (fun _ _ _ _ _=>(dk (i:=2) wx.nd rfl (Or.inl rfl))) (fun _ _ _ _ _=>gc) (fun _ _ _ _ _=>(pC (NB T) hr (aa (nB (gU hr) (pF K 0) (pv 2) ⟨rfl,by rfl,by rfl,by rfl⟩) (aa (nB (gU hr) (pF K 0) (pv 2) ⟨rfl,by rfl,by rfl,by rfl⟩) (aa (xJ (gU hr) (pF K 0) (pv 2) aq ⟨rfl,by rfl,by rfl,by rfl⟩) ae))))))
    (ak (ay (eL (ur T) (hr.mono (by decide)) rfl (aa aq (aa (pv 3) ae)))))),?_⟩
  refine⟨_,rfl,W,rfl,by omega,by omega,fun D nD=>?_⟩
  refine yB (n:=W) (Lc (eB c fun k=>ax.act (bg x.box k) (aF x.add k)) G H D) (Lc.start g nD) (fun i H1 hi L=>?_) (fun H1 L=>?_)
  ·obtain⟨ys,G1,g1,gD,hD,hl,hR⟩:=L.ex
   have zj:i<8:=by omega
   have q:∀ b o,G b=some o->H1 b=some o:=fun b o e=>g1.sub _ _ (g1.gg _ _ e)
   have ei:(0:Int)+(i:Nat)=((i:Nat):Int):=by omega
   rw [ei]
   refine⟨rfl,_,rfl,a,_,dx,_,_,rfl,q _ _ h1,T.cv.cl,T.cv.n,rfl,d1,rfl,.inl ⟨_,.inl (q _ _ h3)⟩,_,rfl,_,iy.k (k:=Sum.inl ((i:Nat):Int)) (q _ _ h3),?_⟩
   refine⟨_,rfl,a,_,dx,_,_,rfl,q _ _ h1,T.cv.cl,T.cv.n,rfl,d2,rfl,.inl ⟨_,.inl (q _ _ h4)⟩,_,rfl,_,iy.k (k:=Sum.inl ((i:Nat):Int)) (q _ _ h4),?_⟩
   refine⟨_,rfl,a,_,dx,_,_,rfl,q _ _ h1,T.cv.cl,T.cv.n,rfl,d3,rfl,.inl ⟨_,.inl (q _ _ h5)⟩,_,rfl,_,iy.k (k:=Sum.inl ((i:Nat):Int)) (q _ _ h5),?_⟩
   rw [h6.lo i zj,h6.hi i zj,h6.ch i zj,oX,oX]
   refine⟨_,_,_,G1,rfl,g1.sub,fun p G2 H2 g2 hp=>?_⟩
   exact Lc.turn (R:=eB c fun k=>ax.act (bg x.box k) (aF x.add k)) eB.mono nD g1 gD hD hl hR g2 ⟨p,rfl,hp⟩ (by omega)
  ·obtain⟨ys,G1,g1,hD,hl,hR⟩:=Lc.done (R:=eB c fun k=>ax.act (bg x.box k) (aF x.add k)) eB.mono nD L
   refine⟨_,rfl,?_⟩
   refine fun y dy n1 n2 n3=>⟨y,dy,_,rfl,rfl,af,rfl,?_⟩
   rw [bM]
   have gm:=g1.made (C:=c.sum) (fs:=sumF 1 D) n1 n2 n3
   have sm:=iF (C:=c.sum) (fs:=sumF 1 D) g1.sub n1 n2
   exact k _ _ _ gm ⟨dy,D,af,((sY hD hl hR).mono sm).congr fun k hk=>(My.tf hx (by omega)).symm⟩
theorem WU {acts:List Vbdcan.Act}{w:List Nat}:actOf acts w=none↔∀(i:Nat) (x:Vbdcan.Act),acts[i]? = some x->x.name≠w:=by
 unfold actOf
 dsimp only
 constructor
 ·intro h i x hx e
  split at h
  ·cases h
  ·rename_i hl
   apply hl
   rw [List.findIdx_lt_length]
   exact⟨x,mem_of_getElem? hx,by rw [e];exact beq_self_eq_true w⟩
 ·intro h
  rw [if_neg]
  intro hl
  rw [List.findIdx_lt_length] at hl
  obtain⟨x,hx,e⟩:=hl
  obtain⟨i,hi,ei⟩:=mem_iff_getElem.mp hx
  exact h i x (by rw [getElem?_eq_getElem hi,ei]) (eq_of_beq e)
theorem WT {acts:List Vbdcan.Act}{w:List Nat}{i:Nat}(h:actOf acts w=some i):∃ x,acts[i]? = some x/\x.name=w:=by
 unfold actOf at h
 dsimp only at h
 split at h
 ·rename_i hl
  cases h
  refine⟨acts[acts.findIdx fun a=>a.name == w],getElem?_eq_getElem hl,?_⟩
  have:=List.findIdx_getElem (xs:=acts) (p:=fun a=>a.name == w) (w:=hl)
  exact eq_of_beq this
 ·cases h
def Kw (c:Cl):Sp:=fun vs H Q _=>∃(st la l:Addr) (t:List Nat) (s:State) (G:Hp),vs=[.ref st,.ref l]/\cN s/\aJ G H/\fG c G H st la s/\H l=some (.lst (bD t))/\t.length<=5000 /\
 ∀ p G' H',Gr G H G' H'->ju c s.names.length s.acts G' p (readRun s.acts t)->Q (.ref p) H'
theorem mx (T:Txt K mg c):aW P w K mg base 11 "read_in_state" ["state","text"] (Kw c):=by
 refine a0 T.To tE (fun f aw A aA s H vs Q E hr h=>?_)
 ·obtain⟨st,la,l,t,s,G,rfl,so,g,hs,hl,zx,k⟩:=h
  obtain⟨dx,ln,lh,ov,ts,as,h1,h2,h3,h4,h5,h6,h7,h8,h9,gi,cS⟩:=hs.ex
  refine⟨_,(ag (pq 2 tE (bJ cC (by rfl) T.cB PySem.boot_len (aa (pF K 0) ae)))
    (ag (pq 3 tE Nd)
    (ag (gP PassesOwn.never rfl (MZ rfl T.V6 (aa (pF K 0) ae)) (mr (K:=K) (i:=4) (j:=5) rfl tE.nd rfl (Or.inl rfl) rfl (Or.inl rfl)) (ak (tV (gU hr) (pv 3) (pF K 5) (pC (Oo T) hr (aa (pv 4) (aa (pC (Nz T) hr (aa (pv 5) (aa (pv 2) ae))) ae))) rfl)))
    (ak (ay (pC (NL T) hr (aa (pv 1) (aa (pv 3) (aa (pv 2) ae))))))))),?_⟩
  refine⟨_,rfl,st,_,dx,_,_,rfl,h1,T.aE.cl,T.aE.n,rfl,lh,_,rfl,.inl (ai.of h5),?_⟩
  rw [dD]
  refine fun kd ui=>?_
  have g1:=(Gr.refl g).loose (o:=.dT []) ui
  have BE:=g1.same
  refine⟨_,rfl,st,_,dx,_,_,rfl,BE _ _ h1,T.aE.cl,T.aE.n,rfl,la,as.map V.ref,rfl,ai.of (BE _ _ h6),?_⟩
  refine SA (K:=K) (a:=la) (xs:=as.map V.ref) (fun i σ H'=>∃(v4 v5:Option V) (G':Hp) (aB:List (List Key×V)),σ=[some (.ref st),some (.ref l),some (.int s.names.length),some (.ref kd),v4,v5]/\Gr G H G' H'/\G' kd=none/\H' kd=some (.dT aB)/\aB.length<=i /\
   ∀ w:List Nat,(∀(j:Nat) (x:Vbdcan.Act),j<i->s.acts[j]? = some x->x.name=w->∃ a,dc aB (iM w)=some (.ref a)/\bF c s.names.length s.acts G' a (.act j))/\((∀(j:Nat) (x:Vbdcan.Act),j<i->s.acts[j]? = some x->x.name≠w)->dc aB (iM w)=none))
   ⟨none,none,G,[],rfl,g1,g.free ui,af,Nat.le_refl _,fun w=>⟨fun j x hj=>absurd hj (Nat.not_lt_zero _),fun _=>rfl⟩⟩ (fun i σ H' ⟨_,_,_,_,_,gg,_⟩=>ai.of (gg.same _ _ h6)) ?_ ?_
  ·rintro i y σ H1 T1 hy nT ⟨v4,v5,G1,aB,rfl,g1,zC,jj,zd,inv⟩
   obtain⟨a,ea,rfl⟩:=i4 hy
   obtain⟨x,ex,hx⟩:=h8.get ea
   have g2:=g1.loose (o:=.tup [.int (i:Nat),.ref a]) nT
   have pN:=hx.mono g1.gg
   have QD:=(so.ok x (mem_of_getElem? ex)).2
   have zh:i<s.acts.length:=(List.getElem?_eq_some_iff.mp ex).1
   have dE:=so.dE
   refine⟨T1,_,rfl,cE.of af,rfl,_,_,rfl,_,_,rfl,rfl,?_⟩
   refine⟨_,rfl,_,rfl,_,rfl,a,x,s.names.length,G1,rfl,so.w,g2.sub,pN,QD,fun p G3 H3 g3 hp=>?_⟩
   refine⟨s.acts,i,p,s.names.length,G3,rfl,g3.sub,by rw [JV ex];exact hp,fun q G4 H4 g4 hq=>?_⟩
   have jT:=g3.trans g4
   have Ro:H4 kd=some (.dT aB):=jT.same _ _ (by rw [aj (aP jj nT)];exact jj)
   have Gu:G4 kd=none:=by rw [jT.old kd (by rw [aj (aP jj nT),jj];simp)];exact zC
   obtain⟨da,nm,d1,d2,d3,k1,k2,k3,q1,q2,q3,q4,q5,q6⟩:=pN.ex
   have q1':=jT.sub _ _ (jT.gg _ _ q1)
   have q2':=jT.sub _ _ (jT.gg _ _ q2)
   refine⟨_,rfl,_,rfl,a,_,da,_,_,rfl,q1',T.cv.cl,T.cv.n,rfl,kd,_,rfl,.inr ⟨aB,iM x.name,nm,Ro,rfl,by rw [E1];exact q2',?_,rfl⟩,?_⟩
   ·have h2:sizeLine=16777216:=sizeLine_eq
    omega
   refine⟨_,_,G4,putK aB (iM x.name) (.ref q),rfl,(g2.trans jT).set ui Gu,Gu,af,?_,fun w=>⟨fun j z hj hz ez=>?_,fun hz=>?_⟩⟩
   ·have:=pA aB (iM x.name) (.ref q)
    omega
   ·rw [qi]
    by_cases e:iM w=iM x.name
    ·rw [if_pos e]
     have ew:w=x.name:=yD e
     have ji:j=i:=by
      have h1:(s.acts.map fun a=>a.name)[j]? = some w:=by rw [getElem?_map,hz];exact congrArg some ez
      have h2:(s.acts.map fun a=>a.name)[i]? = some w:=by rw [getElem?_map,ex];exact congrArg some ew.symm
      exact O7 so.nodup h1 h2
     subst ji
     exact⟨q,rfl,hq⟩
    ·rw [if_neg e]
     have ze:j<i:=by
      rcases Nat.lt_or_ge j i with z | z
      ·exact z
      ·have:j=i:=by omega
       subst this
       rw [ex] at hz
       cases hz
       exact absurd (by rw [ez]) e
     obtain⟨b,b1,b2⟩:=(inv w).1 j z ze hz ez
     exact⟨b,b1,bF.mono jT.gg _ b2⟩
   ·rw [qi,if_neg (fun e=>hz i x (by omega) ex (yD e).symm)]
    exact(inv w).2 fun j z hj=>hz j z (by omega)
  ·rintro σ H1 ⟨v4,v5,G1,aB,rfl,g1,zC,jj,zd,inv⟩
   have g2:=g1.fix ui jj
   have gf:aJ G1 (upd G1 kd (.dT aB)):=fun b o e=>by rw [aj (aP e zC)];exact e
   rw [length_map,h8.len] at inv
   refine⟨_,rfl,_,rfl,_,rfl,l,kd,t,s.names.length,s.acts,upd G1 kd (.dT aB),rfl,so.w,so.ok,g2.sub,g1.same _ _ hl,zx,⟨aB,af,fun w=>⟨fun i e=>?_,fun e=>?_⟩⟩,fun p G3 H3 g3 hp=>k p G3 H3 (g2.trans g3) hp⟩
   ·obtain⟨x,ex,en⟩:=WT e
    obtain⟨b,b1,b2⟩:=(inv w).1 i x (List.getElem?_eq_some_iff.mp ex).1 ex en
    exact⟨b,b1,bF.mono gf _ b2⟩
   ·exact(inv w).2 fun j x _ hx=>WU.mp e j x hx
end
open Vbdcan (Item Items)
theorem Gr.Li {X:Addr->Prop}{G H G' H' H2:Hp}(g:Gr G H G' H') (hx:∀ a,X a->H a=none/\G' a=none) (e:∀ a,¬ X a->H2 a=H' a):Gr G H G' H2:=by
 refine⟨g.gg,fun a u h=>?_,fun a u h=>?_,g.old⟩
 ·rw [e a fun z=>by rw [(hx a z).2] at h;cases h]
  exact g.sub a u h
 ·rw [e a fun z=>by rw [(hx a z).1] at h;cases h]
  exact g.same a u h
theorem sF.refuse {c:Cl}{st la:Addr}{s:State}{d:Vbdcan.Call}{G H G' H':Hp}{Q:VK}{n:Nat}(k:sF c st la s d G H Q) (hs:fG c G H st la s) (g:Gr G H G' H') (e:Vbdcan.step s d=Vbdcan.no s n) :
  ∀ q,H' q=none->Q (.ref q) (upd H' q (.lst [.int (-(n:Int))])):=fun q nq=>k.cI hs (g.loose nq) e (g.same.free nq) af
theorem bu {x:V}:([x]:List V).length<=sizeLine:=by show 1<=sizeLine;decide
theorem jf {x y:V}:([x,y]:List V).length<=sizeLine:=by show 2<=sizeLine;decide
theorem kp {H:Hp}{a q:Addr}{o u:HO}(h:H a=some o) (n:H q=none):upd H q u a=some o:=by rw [aj (aP h n)];exact h
theorem kq {H:Hp}{a q:Addr}{o u:HO}(h:H a=some o) (n:a≠q):upd H q u a=some o:=by rw [aj n];exact h
section
def KP:Sp:=fun vs H Q _=>∃(t:Addr) (nm:List Nat) (G:Hp),vs=[.ref t]/\aJ G H/\H t=some (.tup (bD nm))/\nm.length<=5000/\∀ G' H',Gr G H G' H'->Q (.bl (goodName nm)) H'
theorem Ea (T:Txt K mg c):aW P w K mg base 2 "is_name" ["letters"] KP:=by
 refine a0 T.TK wD (fun f aw A aA s H vs Q E hr h=>?_)
 ·obtain⟨t,nm,G,rfl,g,ht,hlen,k⟩:=h
  refine⟨_,(ak (ay (oV (nE dQ dQ aq (bJ cC (by rfl) T.cB PySem.boot_len (aa (pv 0) ae)) (bP rfl T.VL)) (mv (bJ (p6 rfl) (by rfl) T.qc qb (aa (i8 (own:=[("byte",1)]) rfl wD.nd (MX (pv 0)) (fF (N:=["letters","byte"]) (sc:=aC w9) (by decide +kernel)) (fun _ _ _ _ _=>(dk (i:=1) wD.nd rfl (Or.inl rfl))) (fun _ _ _ _ _=>gc) (fun _ _ _ _ _=>(pC (xU T) hr (aa (pv 1) ae)))) ae)))))),?_⟩
  refine⟨_,rfl,t,_,rfl,.inr (cE.of ht),_,_,rfl,rfl,_,rfl,?_⟩
  rw [fX]
  have k0:=k G H (Gr.refl g)
  unfold goodName at k k0
  by_cases h1:1<=nm.length
  ·refine cu (decide_eq_true (show(1:Int)<=(nm.length:Int) by omega)) ?_
   refine⟨_,_,rfl,rfl,_,rfl,?_⟩
   by_cases h2:nm.length<=8
   ·refine cu (decide_eq_true (show(nm.length:Int)<=8 by omega)) ?_
    refine⟨_,rfl,t,rfl,⟨_,cE.of ht⟩,fun D nD=>?_⟩
    refine Qi (K:=K) (a:=t) (xs:=bD nm) (Lc (fU fun k=>Vbdcan.small (nm.getD k 0)) G H D) (Lc.start g nD) (fun i H1 _ L=>?_) (fun i x H1 hx L=>?_) (fun H1 L=>?_)
    ·obtain⟨zs,G1,g1,_⟩:=L.ex
     exact cE.of (g1.same _ _ ht)
    ·obtain⟨zs,G1,g1,gD,hD,bC,hR⟩:=L.ex
     have hi:i<nm.length:=by have:=(List.getElem?_eq_some_iff.mp hx).1;rw [fX] at this;exact this
     rw [vN hi] at hx
     cases hx
     have eg:nm.getD i 0=nm[i]:=by rw [getD_eq_getElem?_getD,getElem?_eq_getElem hi];rfl
     refine⟨rfl,_,rfl,(nm[i]:Int),rfl,?_⟩
     refine Lc.turn (R:=fU fun k=>Vbdcan.small (nm.getD k 0)) (fun _ h=>h) nD g1 gD hD bC hR (Gr.refl g1.sub) (congrArg V.bl ?_) (by omega)
     show decide (97<=(nm[i]:Int)/\(nm[i]:Int)<=122)=Vbdcan.small (nm.getD i 0)
     rw [eg]
     unfold Vbdcan.small
     rw [Bool.eq_iff_iff,decide_eq_true_eq,decide_eq_true_eq]
     omega
    ·obtain⟨zs,G1,g1,hD,bC,hR⟩:=Lc.done (R:=fU fun k=>Vbdcan.small (nm.getD k 0)) (fun _ h=>h) nD L
     rw [fX] at bC
     have e:=mF (f:=fun k=>V.bl (Vbdcan.small (nm.getD k 0))) bC hR
     subst e
     refine⟨D,(range nm.length).map fun k=>Vbdcan.small (nm.getD k 0),rfl,ai.of (g1.sub _ _ ?_),?_⟩
     ·rw [hD,map_map]
      rfl
     ·have e2:((range nm.length).map fun k=>Vbdcan.small (nm.getD k 0)).all id=(decide (1<=nm.length/\nm.length<=8)&&nm.all Vbdcan.small):=by
       rw [decide_eq_true ⟨h1,h2⟩,Bool.true_and,all_map,Bool.eq_iff_iff,all_eq_true,all_eq_true]
       constructor
       ·intro q x hx
        obtain⟨i,hi,rfl⟩:=mem_iff_getElem.mp hx
        have:Vbdcan.small (nm.getD i 0)=true:=q i (mem_range.mpr hi)
        rw [getD_eq_getElem?_getD,getElem?_eq_getElem hi] at this
        exact this
       ·intro q i hi
        have hi:=mem_range.mp hi
        show Vbdcan.small (nm.getD i 0)=true
        rw [getD_eq_getElem?_getD,getElem?_eq_getElem hi]
        exact q _ (getElem_mem hi)
      rw [e2]
      exact k G1 H1 g1
   ·refine cZ (decide_eq_false (show ¬ (nm.length:Int)<=8 by omega)) ?_
    rw [decide_eq_false (fun z=>h2 z.2),Bool.false_and] at k0
    exact k0
  ·refine cZ (decide_eq_false (show ¬ (1:Int)<=(nm.length:Int) by omega)) ?_
   refine⟨_,rfl,aI ?_⟩
   rw [decide_eq_false (fun z=>h1 z.1),Bool.false_and] at k0
   exact k0
def KI:Sp:=fun vs H Q _=>∃ v:Int,vs=[.int v]/\Q (.bl (amount v)) H
theorem xV (T:Txt K mg c):aW P w K mg base 1 "is_small" ["number"] KI:=by
 refine a0 T.TB LJ (fun f aw A aA s H vs Q E hr h=>?_)
 ·obtain⟨v,rfl,k⟩:=h
  refine⟨_,(ak (ay (nE dQ dQ (kP kM (bP rfl T.vp)) (pv 0) (bP rfl T.vp)))),?_⟩
  refine⟨_,rfl,_,rfl,_,_,rfl,rfl,_,rfl,?_⟩
  have e9:(MOST:Int)=1000000000:=rfl
  unfold amount from_ at k
  rw [e9] at k
  by_cases h1:-1000000000<=v
  ·refine cu (decide_eq_true h1) ⟨_,_,rfl,rfl,?_⟩
   have e:decide (-1000000000<=v/\v<=1000000000)=decide (v<=1000000000):=by
    rw [Bool.eq_iff_iff,decide_eq_true_eq,decide_eq_true_eq]
    omega
   rw [e] at k
   exact k
  ·refine cZ (decide_eq_false h1) ?_
   rw [decide_eq_false (fun z=>h1 z.1)] at k
   exact k
theorem Dj {n:Nat}(h:n<=5000):Iy 0 (n:Int) 3 ((n+2) / 3):=by
 refine⟨by decide,by decide,?_,?_⟩
 ·unfold Builtin.Range.small
  rw [PyProof.Rows.rangeSize_pos (by decide) (by omega)]
  generalize hq:((n:Int)+3-1) / 3=q
  have h1:0<=q/\q<=5000:=by omega
  unfold Builtin.Range.rangeFitsLong
  rw [if_pos (by decide)]
  simp only [Bool.and_eq_true,Bool.or_eq_true,decide_eq_true_eq,beq_iff_eq]
  omega
 ·rw [PyProof.Rows.rangeSize_pos (by decide) (by omega)]
  omega
theorem mG {l:List Int}{j:Nat}{z:Int}(h:l[j]? = some z):(l.map V.int)[j]? = some (.int z):=by rw [getElem?_map,h];rfl
def KL (c:Cl):Sp:=fun vs H Q _=>∃(st la l:Addr) (row:List Int) (s:State) (G:Hp),vs=[.ref st,.ref l]/\fG c G H st la s/\H l=some (.lst (row.map V.int))/\row.length<=5000/\Q (.bl (demands s.names.length row).isSome) H
theorem NP (T:Txt K mg c):aW P w K mg base 2 "is_row_of_rules" ["state","row"] (KL c):=by
 refine a0 T.TF Bx (fun f aw A aA s H vs Q E hr h=>?_)
 ·obtain⟨st,la,l,row,s,G,rfl,hs,hl,hlen,k⟩:=h
  refine⟨_,(ag (aX (aT oY (bA Nn (bJ cC (by rfl) T.cB PySem.boot_len (aa (pv 1) ae)) aq) aq (aO _)) (ak (ay iJ)) aY)
    (ag (gP PassesOwn.never rfl (DK rfl T.oq (aa aq (aa (bJ cC (by rfl) T.cB PySem.boot_len (aa (pv 1) ae)) (aa aq ae)))) (dk (i:=2) Bx.nd rfl (Or.inl rfl)) (ak (aX (PW.pt (i7 (fg (cO (pC (xX T) hr (aa (pv 0) (aa (bH bQ (pv 1) (pv 2) (fun _ _=>rfl)) ae))))) (i7 (fg (tU dQ dQ (bP rfl T.HI) (bH bQ (pv 1) (bA dM (pv 2) aq) (fun _ _=>rfl)) (bP rfl T.VT))) (kh (fg (cO (pC (xV T) hr (aa (bH bQ (pv 1) (bA dM (pv 2) aq) (fun _ _=>rfl)) ae)))))))) (ak (ay iJ)) aY)))
    (ak (ay iJ)))),?_⟩
  refine⟨_,rfl,l,_,rfl,.inl (ai.of hl),_,_,rfl,rfl,(by show(0:Int)<3;decide),rfl,_,rfl,?_⟩
  rw [length_map]
  have kn:(demands s.names.length row=none)->Q (.bl false) H:=fun e=>by rw [e] at k;exact k
  by_cases h3:row.length % 3=0
  ·have e3:((row.length:Int) % 3)=0:=by omega
   have UU:(!decide (V.int ((row.length:Int) % 3)=V.int 0))=false:=by rw [e3];rfl
   refine cZ UU ?_
   refine⟨_,rfl,l,_,rfl,.inl (ai.of hl),0,_,3,(row.length+2) / 3,rfl,?_,?_⟩
   ·rw [length_map];exact Dj hlen
   have en:(row.length+2) / 3=row.length / 3:=by omega
   refine GJ (lo:=0) (c:=3) (n:=(row.length+2) / 3) (fun i σ H'=>∃ v:Option V,H=H'/\σ=[some (.ref st),some (.ref l),v]/\∀ j r kd x,j<i->row[3*j]? = some r->row[3*j+1]? = some kd->row[3*j+2]? = some x->eK s.names.length r kd x=true) ⟨none,rfl,rfl,fun j r kd x hj=>absurd hj (Nat.not_lt_zero _)⟩ ?_ ?_
   ·rintro i σ H1 hi ⟨v,rfl,rfl,inv⟩
    have XB:3*i+2<row.length:=by omega
    have e0:row[3*i]? = some (row[3*i]'(by omega)):=getElem?_eq_getElem (by omega)
    have e1:row[3*i+1]? = some (row[3*i+1]'(by omega)):=getElem?_eq_getElem (by omega)
    have e2:row[3*i+2]? = some (row[3*i+2]'(by omega)):=getElem?_eq_getElem (by omega)
    generalize row[3*i]'(by omega)=r at e0
    generalize row[3*i+1]'(by omega)=kd at e1
    generalize row[3*i+2]'(by omega)=x at e2
    have i0:(0:Int)+((i:Nat):Int)*3=((3*i:Nat):Int):=by omega
    have i1:((3*i:Nat):Int)+1=((3*i+1:Nat):Int):=by omega
    have i2:((3*i:Nat):Int)+2=((3*i+2:Nat):Int):=by omega
    rw [i0]
    have bad:eK s.names.length r kd x=false->Q (.bl false) H:=fun hb=>kn (by
     cases ed:demands s.names.length row with
     | none=>rfl
     | some ds=>
      obtain⟨d1,d2⟩:=gX ed
      obtain⟨r',kd',x',q1,q2,q3,q4,_⟩:=d2 i (by omega)
      rw [e0] at q1;rw [e1] at q2;rw [e2] at q3
      cases q1;cases q2;cases q3
      rw [hb] at q4;cases q4)
    refine⟨_,rfl,_,rfl,_,rfl,l,_,_,_,rfl,rfl,ai.of hl,bS (mG e0),st,la,r,s,G,rfl,hs,_,rfl,?_⟩
    cases b0:from_ r 0 ((s.names.length:Int)-1) with
    | false=>exact aH (aH (bad (by unfold eK;rw [b0];rfl)))
    | true=>
     refine aI ?_
     refine⟨_,rfl,_,rfl,_,_,rfl,rfl,l,_,((3*i+1:Nat):Int),_,rfl,congrArg V.int i1,ai.of hl,bS (mG e1),0,kd,rfl,rfl,_,rfl,?_⟩
     have ek:from_ kd 0 2=decide (0<=kd/\kd<=2):=rfl
     by_cases k0:0<=kd
     ·refine cu (decide_eq_true k0) ⟨_,_,rfl,rfl,_,rfl,?_⟩
      by_cases k2:kd<=2
      ·rw [decide_eq_true k2]
       refine aI ?_
       refine⟨_,rfl,_,rfl,_,_,rfl,rfl,l,_,((3*i+2:Nat):Int),_,rfl,congrArg V.int i2,ai.of hl,bS (mG e2),x,rfl,_,rfl,?_⟩
       cases b2:amount x with
       | false=>exact aH (bad (by unfold eK;rw [b2,Bool.and_false,Bool.and_false]))
       | true=>
        refine aI ?_
        refine⟨_,rfl,rfl,fun j r' kd' x' hj q1 q2 q3=>?_⟩
        by_cases ze:j<i
        ·exact inv j r' kd' x' ze q1 q2 q3
        ·have:j=i:=by omega
         subst this
         rw [e0] at q1;rw [e1] at q2;rw [e2] at q3
         cases q1;cases q2;cases q3
         unfold eK
         rw [b0,b2,ek,decide_eq_true ⟨k0,k2⟩]
         rfl
      ·rw [decide_eq_false k2]
       exact aH (aH (bad (by unfold eK;rw [ek,decide_eq_false (fun z=>k2 z.2),Bool.false_and,Bool.and_false])))
     ·refine cZ (decide_eq_false k0) ⟨_,rfl,?_⟩
      exact aH (aH (bad (by unfold eK;rw [ek,decide_eq_false (fun z=>k0 z.1),Bool.false_and,Bool.and_false])))
   ·rintro σ H1 ⟨v,rfl,rfl,inv⟩
    obtain⟨ds,ed⟩:=My.Hl h3 (n:=s.names.length) fun j r kd x q1 q2 q3=>inv j r kd x (by have:=(List.getElem?_eq_some_iff.mp q3).1;omega) q1 q2 q3
    rw [ed] at k
    exact k
  ·have e3:¬ ((row.length:Int) % 3)=0:=by omega
   have eb:(!decide (V.int ((row.length:Int) % 3)=V.int 0))=true:=by
    rw [Bool.not_eq_true',decide_eq_false_iff_not]
    intro z
    injection z with z
    exact e3 z
   refine cu eb (kn ?_)
   cases ed:demands s.names.length row with
   | none=>rfl
   | some ds=>
    have:=(gX ed).1
    omega
structure vC (c:Cl) (H:Hp) (p dx nm:Addr) (m:Int) (d1 d2 d3:Addr) (n:Nat) (x:Vbdcan.Act):Prop where
 obj:H p=some (.ins c.action dx (js nm m d1 d2 d3))
 ex:∃ k1 k2 k3:List (Key×V),H d1=some (.dK k1)/\H d2=some (.dK k2)/\H d3=some (.dK k3)/\k1.length<=n/\k2.length<=n/\k3.length<=n/\IH k1 k2 k3 x
def Kc (c:Cl):Sp:=fun vs H Q _=>∃(p dx nm d1 d2 d3:Addr) (m v:Int) (r kd n W:Nat) (x:Vbdcan.Act),vs=[.ref p,.int r,.int kd,.int v]/\vC c H p dx nm m d1 d2 d3 n x/\d1≠d2/\d1≠d3/\d2≠d3/\r<8/\(kd=0\/kd=1\/kd=2)/\n<=5000/\My.jw W n x /\
 ∀ H':Hp,(∀ a,¬ (a=d1\/a=d2\/a=d3)->H' a=H a)->vC c H' p dx nm m d1 d2 d3 (n+1) (demand1 x (r,kd,v))->Q .aD H'
theorem yI {k r:Nat}(h:¬ k=r):¬ (Sum.inl (k:Int):Key)=Sum.inl (r:Int):=fun z=>h (by injection z with z;omega)
theorem Ny (T:Txt K mg c):aW P w K mg base 2 "tell_rule" ["action","number","kind","value"] (Kc c):=by
 refine a0 T.SY Lq (fun f aw A aA s H vs Q E hr h=>?_)
 ·obtain⟨p,dx,nm,d1,d2,d3,m,v,r,kd,n,W,x,rfl,hN,uq,uo,um,lO,jj,hn,hp,k⟩:=h
  obtain⟨ho,k1,k2,k3,h1,h2,h3,l1,l2,l3,D⟩:=hN
  have hz:sizeLine=16777216:=sizeLine_eq
  have a1:p≠d1:=dg ho h1 (by intro z;cases z)
  have a2:p≠d2:=dg ho h2 (by intro z;cases z)
  have a3:p≠d3:=dg ho h3 (by intro z;cases z)
  refine⟨_,(ak (aX (aT dJ (pv 2) (bP rfl T.HI) (aO _)) (ak (tV (gU hr) (pF K 0) (pv 1) (pC (xP T) hr (aa (nB (gU hr) (pF K 0) (pv 1) ⟨rfl,by rfl,by rfl,by rfl⟩) (aa (pv 3) ae))) rfl)) (ak (aX (aT dJ (pv 2) (bP rfl T.VO) (aO _)) (ak (tV (gU hr) (pF K 0) (pv 1) (pC (t7 T) hr (aa (nB (gU hr) (pF K 0) (pv 1) ⟨rfl,by rfl,by rfl,by rfl⟩) (aa (pv 3) ae))) rfl)) (ak (tV (gU hr) (pF K 0) (pv 1) (bA dM (xJ (gU hr) (pF K 0) (pv 1) aq ⟨rfl,by rfl,by rfl,by rfl⟩) (pv 3)) rfl)))))),?_⟩
  refine⟨_,rfl,rfl,_,rfl,?_⟩
  rcases jj with rfl | rfl | rfl
  ·refine aH ?_
   refine⟨_,rfl,p,_,dx,_,_,rfl,ho,T.cv.cl,T.cv.n,rfl,d1,rfl,.inl ⟨_,.inl h1⟩,_,rfl,_,iy.k (k:=Sum.inl (r:Int)) h1,_,rfl,?_⟩
   rw [D.lo r lO,oX]
   refine⟨_,some v,rfl,?_⟩
   refine⟨_,rfl,p,_,dx,_,_,rfl,ho,T.cv.cl,T.cv.n,rfl,_,rfl,d1,_,rfl,oE.k (k:=Sum.inl (r:Int)) h1 (by omega),?_⟩
   obtain⟨f1,f2,f3,f4⟩:=My.Hm (r:=r) (v:=v) hp
   refine k _ (fun a ha=>aj fun z=>ha (.inl z)) ⟨by rw [aj a1];exact ho,putK k1 (Sum.inl (r:Int)) (cJ (maxO (bg x.box r).1 (some v))),k2,k3,af,by rw [aj uq.symm];exact h2,by rw [aj uo.symm];exact h3,?_,by omega,by omega,⟨fun j hj=>?_,fun j hj=>?_,fun j hj=>?_⟩⟩
   ·have:=pA k1 (Sum.inl (r:Int)) (cJ (maxO (bg x.box r).1 (some v)))
    omega
   ·rw [qi,f4 j hj]
    by_cases e:j=r
    ·subst e
     rw [if_pos rfl,if_pos rfl]
     cases (bg x.box j).1<;>rfl
    ·rw [if_neg e,if_neg (yI e)]
     exact D.lo j hj
   ·rw [f4 j hj]
    split
    ·exact D.hi j hj
    ·exact D.hi j hj
   ·rw [f3];exact D.ch j hj
  ·refine aI ?_
   refine⟨_,rfl,rfl,_,rfl,?_⟩
   refine aH ?_
   refine⟨_,rfl,p,_,dx,_,_,rfl,ho,T.cv.cl,T.cv.n,rfl,d2,rfl,.inl ⟨_,.inl h2⟩,_,rfl,_,iy.k (k:=Sum.inl (r:Int)) h2,_,rfl,?_⟩
   rw [D.hi r lO,oX]
   refine⟨_,some v,rfl,?_⟩
   refine⟨_,rfl,p,_,dx,_,_,rfl,ho,T.cv.cl,T.cv.n,rfl,_,rfl,d2,_,rfl,oE.k (k:=Sum.inl (r:Int)) h2 (by omega),?_⟩
   obtain⟨f1,f2,f3,f4⟩:=My.Hn (r:=r) (v:=v) hp
   refine k _ (fun a ha=>aj fun z=>ha (.inr (.inl z))) ⟨by rw [aj a2];exact ho,k1,putK k2 (Sum.inl (r:Int)) (cJ (minO (bg x.box r).2 (some v))),k3,by rw [aj uq];exact h1,af,by rw [aj um.symm];exact h3,by omega,?_,by omega,⟨fun j hj=>?_,fun j hj=>?_,fun j hj=>?_⟩⟩
   ·have:=pA k2 (Sum.inl (r:Int)) (cJ (minO (bg x.box r).2 (some v)))
    omega
   ·rw [f4 j hj]
    split
    ·exact D.lo j hj
    ·exact D.lo j hj
   ·rw [qi,f4 j hj]
    by_cases e:j=r
    ·subst e
     rw [if_pos rfl,if_pos rfl]
     cases (bg x.box j).2<;>rfl
    ·rw [if_neg e,if_neg (yI e)]
     exact D.hi j hj
   ·rw [f3];exact D.ch j hj
  ·refine aI ?_
   refine⟨_,rfl,rfl,_,rfl,?_⟩
   refine aI ?_
   refine⟨_,rfl,p,_,dx,_,_,rfl,ho,T.cv.cl,T.cv.n,rfl,d3,rfl,.inl ⟨_,.inl h3⟩,_,rfl,_,iy.k (k:=Sum.inl (r:Int)) h3,?_⟩
   rw [D.ch r lO]
   refine⟨_,rfl,_,_,rfl,rfl,?_⟩
   refine⟨_,rfl,p,_,dx,_,_,rfl,ho,T.cv.cl,T.cv.n,rfl,_,rfl,d3,_,rfl,oE.k (k:=Sum.inl (r:Int)) h3 (by omega),?_⟩
   obtain⟨f1,f2,f3,f4⟩:=My.Ho (r:=r) (v:=v) hp
   refine k _ (fun a ha=>aj fun z=>ha (.inr (.inr z))) ⟨by rw [aj a3];exact ho,k1,k2,putK k3 (Sum.inl (r:Int)) (.int (aF x.add r+v)),by rw [aj uo];exact h1,by rw [aj um];exact h2,af,by omega,by omega,?_,⟨fun j hj=>?_,fun j hj=>?_,fun j hj=>?_⟩⟩
   ·have:=pA k3 (Sum.inl (r:Int)) (.int (aF x.add r+v))
    omega
   ·rw [f3];exact D.lo j hj
   ·rw [f3];exact D.hi j hj
   ·rw [qi,f4 j hj]
    by_cases e:j=r
    ·subst e
     rw [if_pos rfl,if_pos rfl]
     rfl
    ·rw [if_neg e,if_neg (yI e)]
     exact D.ch j hj
end
open Vbdcan (Item Items)
theorem qr (nm:List Nat):bD nm=(nm.map fun(n:Nat)=>(n:Int)).map V.int:=by unfold bD;rw [map_map];rfl
theorem EI:∀ {v w:List Nat},(v.map fun(n:Nat)=>(n:Int))=(w.map fun(n:Nat)=>(n:Int))->v=w
 |[],[],_=>rfl
 |[],_::_,h=>by cases h
 |_::_,[],h=>by cases h
 | a::v,b::w,h=>by
  injection h with h1 h2
  have h1:(a:Int)=(b:Int):=h1
  rw [EI h2,show a=b by omega]
theorem Ie (l:List (List Nat)) (nm:List Nat):((l.map fun x=>x.map fun(n:Nat)=>(n:Int)).any fun v=>decide (v=nm.map fun(n:Nat)=>(n:Int)))=l.contains nm:=by
 induction l with
 | nil=>rfl
 | cons a r ih=>
  rw [map_cons,any_cons,ih,List.contains_cons]
  congr 1
  rw [Bool.eq_iff_iff,decide_eq_true_eq,beq_iff_eq]
  exact⟨fun z=>(EI z).symm,fun z=>by rw [z]⟩
theorem RE {W:Nat}{rs:List Int}{v:Int}(h:rs.length=8) (hW:W<8):bz W rs++[.int v]=bz (W+1) (rs.set W v):=by
 unfold bz
 rw [range_succ,map_append,List.map_singleton,iN (by omega),if_pos rfl]
 congr 1
 apply map_congr_left
 intro j hj
 have hj:=mem_range.mp hj
 rw [iN (by omega),if_neg (by omega)]
theorem RF {W r:Nat}{rs:List Int}{v:Int}(h:rs.length=8) (hW:W<=8) (hr:r<W):(bz W rs).set r (.int v)=bz W (rs.set r v):=by
 unfold bz
 apply ext_getElem
 ·simp
 ·intro j h1 h2
  rw [List.getElem_set]
  simp only [getElem_map,getElem_range]
  rw [iN (by omega)]
  by_cases e:r=j
  ·rw [if_pos e,if_pos e.symm]
  ·rw [if_neg e,if_neg (fun z=>e z.symm)]
theorem kR {c:Cl}{W:Nat}{acts:List Vbdcan.Act}{G:Hp}{ov:V}{o:Option (Nat×Items)}(h:mW c W acts G ov o):(!decide (ov=.aD))=o.isSome:=by
 cases o with
 | none=>rw [show ov=.aD from h];rfl
 | some x=>
  obtain⟨p,l⟩:=x
  obtain⟨a,dx,ra,rfl,_⟩:=h
  rfl
theorem Vj {xs:List V}{r:Nat}(h:r<=xs.length):iq xs none (some (r:Int))=xs.take r:=by
 unfold iq
 rw [HT.Dc,HT.oR,drop_zero,Nat.min_eq_left h,Nat.sub_zero]
theorem Vm {xs:List V}{r:Nat}(h:r<=xs.length):iq xs (some (r:Int)) none=xs.drop r:=by
 unfold iq
 rw [HT.Dc,HT.oR,Nat.min_eq_left h,List.take_of_length_le (by rw [length_drop];omega)]
theorem Vk {xs:List V}{a b:Nat}(h:b<=xs.length) (zt:a<=b):iq xs (some (a:Int)) (some (b:Int))=(xs.drop a).take (b-a):=by
 unfold iq
 rw [HT.oR,HT.oR,Nat.min_eq_left h,Nat.min_eq_left (by omega)]
theorem WJ (l:List Vbdcan.Act) (nm:List Nat):(l.map fun a=>a.name).contains nm=l.any fun a=>a.name == nm:=by
 induction l with
 | nil=>rfl
 | cons a r ih=>
  rw [map_cons,List.contains_cons,ih,any_cons]
  congr 1
  rw [Bool.eq_iff_iff,beq_iff_eq,beq_iff_eq]
  exact⟨fun z=>z.symm,fun z=>z.symm⟩
section
theorem N3 (T:Txt K mg c):aW P w K mg base 3 "call_reg" ["state","numbers","rows"] (eJ c 0):=by
 refine a0 T.T8 BA (fun f aw A aA s H vs Q E hr h=>?_)
 ·obtain⟨st,la,ln,lr,ns,rs,as,s,d,G,rfl,so,g,hs,hn,cD,cg,ask,hd,k⟩:=h
  obtain⟨v,nm,rfl,rfl,hv,rD⟩:=My.Ae ask
  obtain⟨a,rfl,ha⟩:=jr cg
  have ed:d=.reg v (text nm):=(Option.some.inj hd).symm
  subst ed
  obtain⟨dx,bp,lh,ov,ts,cq,h1,h2,h3,h4,h5,h6,h7,h8,h9,gi,cS⟩:=hs.ex
  generalize rC:text nm=name at *
  have y8:nm.map V.int=bD name:=by rw [gY rD,rC]
  have dm:name.length<=5000:=by rw [←rC,text_len];exact rD.len
  have es:Vbdcan.step s (.reg v name)=if amount v=false\/goodName name=false then Vbdcan.no s 1 else if REGS<=s.names.length then Vbdcan.no s 4 else if s.names.contains name=true then Vbdcan.no s 5 else if s.offer.isSome=true then Vbdcan.no s 6
   else yes { s with regs:=s.regs.set s.names.length v,names:=s.names++[name] } [(s.names.length:Int)]:=by rw [Vbdcan.step]
  refine⟨_,(ag (pq 3 BA (tY zX (by rfl) T.Ad z9 (aa (bH bQ (pv 2) aq (fun _ _=>rfl)) ae)))
    (ag (aX (PW.pt (i7 (fg (cO (pC (xV T) hr (aa (bH bQ (pv 1) aq (fun _ _=>rfl)) ae)))) (kh (fg (cO (pC (Ea T) hr (aa (pv 3) ae))))))) (ak (ay (aZ (aa (bP rfl T.oi) ae)))) aY)
    (ag (aX (aT dJ (bJ cC (by rfl) T.cB PySem.boot_len (aa (pF K 0) ae)) (bP rfl T.VI) (aO _)) (ak (ay (aZ (aa (bP rfl T.vo) ae)))) aY)
    (ag (aX (aT (DY (gU hr)) (pv 3) (pF K 0) (by rfl)) (ak (ay (aZ (aa (bP rfl T.HG) ae)))) aY)
    (ag (aX (aT kj (pF K 0) cj (aO _)) (ak (ay (aZ (aa (bP rfl T.p9) ae)))) aY)
    (ag (bL (pv 0) (bA ig (pF K 0) (aZ (aa (pv 3) ae))) rfl)
    (ag (bL (pv 0) (bA ig (pF K 0) (aZ (aa (bH bQ (pv 1) aq (fun _ _=>rfl)) ae))) rfl)
    (ak (ay (aZ (aa aq (aa (bA lG (bJ cC (by rfl) T.cB PySem.boot_len (aa (pF K 0) ae)) aq) ae)))))))))))),?_⟩
  refine⟨_,rfl,lr,_,0,_,rfl,rfl,ai.of cD,bS (j:=0) rfl,a,_,rfl,.inl ⟨ai.of ha,fun t nt=>?_⟩⟩
  rw [y8]
  have g1:=(Gr.refl g).new (o:=.tup (bD name)) nt
  have gt:upd G t (.tup (bD name)) t=some (.tup (bD name)):=af
  generalize rL:upd H t (.tup (bD name))=H1 at *
  generalize XE:upd G t (.tup (bD name))=G1 at *
  refine⟨_,rfl,ln,_,0,_,rfl,rfl,ai.of (g1.same _ _ hn),bS (j:=0) rfl,v,rfl,_,rfl,?_⟩
  cases ba:amount v with
  | false=>exact aH (aH ⟨bu,k.refuse hs g1 (n:=1) (by rw [es,if_pos (Or.inl ba)])⟩)
  | true=>
  refine aI ?_
  refine⟨_,rfl,t,name,G1,rfl,g1.sub,g1.sub _ _ gt,dm,fun G2 H2 g2=>⟨_,rfl,?_⟩⟩
  have bq:=g1.trans g2
  cases bn:goodName name with
  | false=>exact aH ⟨bu,k.refuse hs bq (n:=1) (by rw [es,if_pos (Or.inr bn)])⟩
  | true=>
  refine aI ?_
  have e1:¬ (amount v=false\/goodName name=false):=by rw [ba,bn];intro z;rcases z with z | z<;>cases z
  rw [if_neg e1] at es
  refine⟨_,rfl,st,_,dx,_,_,rfl,bq.same _ _ h1,T.aE.cl,T.aE.n,rfl,lh,_,rfl,.inl (ai.of (bq.same _ _ h5)),rfl,_,rfl,?_⟩
  rw [dD]
  have w8:=so.w
  by_cases h8':s.names.length=8
  ·refine cu (decide_eq_true (by rw [h8'];rfl)) ⟨bu,k.refuse hs bq (n:=4) (by rw [es,if_pos (by unfold REGS;omega)])⟩
  refine cZ (decide_eq_false (fun z=>h8' (by injection z with z;omega))) ?_
  rw [if_neg (by unfold REGS;omega)] at es
  have Ag:Al (fun a v=>H2 a=some (.tup (v.map V.int))) ts (s.names.map fun x=>x.map fun(n:Nat)=>(n:Int)):=by
   refine⟨by rw [length_map];exact h4.len,fun i b x q1 q2=>?_⟩
   rw [getElem?_map] at q2
   cases e:s.names[i]? with
   | none=>rw [e] at q2;cases q2
   | some y=>
    rw [e] at q2
    cases q2
    have:=h4.at_ i b y q1 e
    rw [←qr]
    exact bq.sub _ _ (bq.gg _ _ this)
  refine⟨_,rfl,_,rfl,st,_,dx,_,_,rfl,bq.same _ _ h1,T.aE.cl,T.aE.n,rfl,t,bp,name.map (fun(n:Nat)=>(n:Int)),ts,_,rfl,rfl,by rw [←qr];exact g2.sub _ _ (g2.gg _ _ gt),bq.same _ _ h3,Ag,_,rfl,?_⟩
  rw [Ie]
  cases bc:s.names.contains name with
  | true=>exact aH ⟨bu,k.refuse hs bq (n:=5) (by rw [es,if_pos bc])⟩
  | false=>
  refine aI ?_
  rw [if_neg (by rw [bc];decide)] at es
  refine⟨_,rfl,st,_,dx,_,_,rfl,bq.same _ _ h1,T.aE.cl,T.aE.n,rfl,rfl,_,rfl,?_⟩
  cases bo:s.offer.isSome with
  | true=>exact cu ((kR cS).trans bo) ⟨bu,k.refuse hs bq (n:=6) (by rw [es,if_pos bo])⟩
  | false=>
  refine cZ ((kR cS).trans bo) ?_
  rw [if_neg (by rw [bo];decide)] at es
  have ud:s.offer=none:=by
   cases e:s.offer with
   | none=>rfl
   | some x=>rw [e] at bo;cases bo
  have W3:=bq.same _ _ h1
  refine⟨_,rfl,st,_,dx,_,_,rfl,W3,T.aE.cl,T.aE.n,rfl,_,rfl,bu,fun q1 yc=>?_⟩
  have g3:=bq.loose (o:=.lst [.ref t]) yc
  have hz:sizeLine=16777216:=sizeLine_eq
  refine⟨bp,q1,_,_,rfl,rfl,g3.same _ _ h3,af,?_,fun q2 mz=>?_⟩
  ·rw [length_map,h4.len]
   show s.names.length+1<=sizeLine
   omega
  have g4:=g3.loose (o:=.lst (ts.map V.ref++[.ref t])) mz
  refine⟨_,rfl,st,_,dx,_,rfl,g4.same _ _ h1,T.aE.cl,T.aE.n,(by show 4<1000;decide),?_⟩
  have gV:G2 st=none:=by rw [bq.old st (by rw [h1];simp)];exact h2
  have kD:G2 la=none:=by rw [bq.old la (by rw [h6];simp)];exact h7
  have e5:dj "names" (V.ref q2) (bN bp lh la ov)=bN q2 lh la ov:=rfl
  rw [e5]
  have qT:lh≠st:=dg h5 h1 (by intro z;cases z)
  have OY:ln≠st:=dg hn h1 (by intro z;cases z)
  have gS:la≠st:=dg h6 h1 (by intro z;cases z)
  have yb:q2≠st:=(aP (g3.same _ _ h1) mz).symm
  have OP:q2≠la:=(aP (g3.same _ _ h6) mz).symm
  have x5:=(g4.x (st:=st) (la:=la)).mm (o:=.ins c.state dx (bN q2 lh la ov)) gV
  have a5:=kq (u:=.ins c.state dx (bN q2 lh la ov)) (g4.same _ _ h6) gS
  have b5:=kq (u:=.ins c.state dx (bN q2 lh la ov)) (af (H:=upd H2 q1 (.lst [.ref t])) (a:=q2) (o:=.lst (ts.map V.ref++[.ref t]))) yb
  have c5:=kq (u:=.ins c.state dx (bN q2 lh la ov)) (g4.same _ _ h5) qT
  have l5:=kq (u:=.ins c.state dx (bN q2 lh la ov)) (g4.same _ _ hn) OY
  have d5:upd (upd (upd H2 q1 (.lst [.ref t])) q2 (.lst (ts.map V.ref++[.ref t]))) st (.ins c.state dx (bN q2 lh la ov)) st=some (.ins c.state dx (bN q2 lh la ov)):=af
  generalize upd (upd (upd H2 q1 (.lst [.ref t])) q2 (.lst (ts.map V.ref++[.ref t]))) st (.ins c.state dx (bN q2 lh la ov))=H5 at *
  refine⟨_,rfl,st,_,dx,_,_,rfl,d5,T.aE.cl,T.aE.n,rfl,_,rfl,ln,_,0,_,rfl,rfl,ai.of l5,bS (j:=0) rfl,bu,fun q3 nG=>?_⟩
  have x6:=x5.loose (o:=.lst [.int v]) nG
  have a6:=kp (u:=.lst [.int v]) a5 nG
  have b6:=kp (u:=.lst [.int v]) b5 nG
  have c6:=kp (u:=.lst [.int v]) c5 nG
  have d6:=kp (u:=.lst [.int v]) d5 nG
  refine⟨lh,q3,_,_,rfl,rfl,c6,af,?_,fun q4 jL=>?_⟩
  ·rw [dD]
   show s.names.length+1<=sizeLine
   omega
  have w8':s.names.length<8:=by omega
  rw [RE so.regs.len w8']
  have x7:=x6.loose (o:=.lst (bz (s.names.length+1) (s.regs.set s.names.length v))) jL
  have a7:=kp (u:=.lst (bz (s.names.length+1) (s.regs.set s.names.length v))) a6 jL
  have b7:=kp (u:=.lst (bz (s.names.length+1) (s.regs.set s.names.length v))) b6 jL
  have d7:=kp (u:=.lst (bz (s.names.length+1) (s.regs.set s.names.length v))) d6 jL
  have En:q4≠st:=(aP d6 jL).symm
  have OO:q4≠la:=(aP a6 jL).symm
  refine⟨_,rfl,st,_,dx,_,rfl,d7,T.aE.cl,T.aE.n,(by show 4<1000;decide),?_⟩
  have e8:dj "held" (V.ref q4) (bN q2 lh la ov)=bN q2 q4 la ov:=rfl
  rw [e8]
  have x8:=x7.mm (o:=.ins c.state dx (bN q2 q4 la ov)) gV
  have a8:=kq (u:=.ins c.state dx (bN q2 q4 la ov)) a7 gS
  have b8:=kq (u:=.ins c.state dx (bN q2 q4 la ov)) b7 yb
  have c8:=kq (u:=.ins c.state dx (bN q2 q4 la ov)) (af (H:=upd H5 q3 (.lst [.int v])) (a:=q4) (o:=.lst (bz (s.names.length+1) (s.regs.set s.names.length v)))) En
  have d8:upd (upd (upd H5 q3 (.lst [.int v])) q4 (.lst (bz (s.names.length+1) (s.regs.set s.names.length v)))) st (.ins c.state dx (bN q2 q4 la ov)) st=some (.ins c.state dx (bN q2 q4 la ov)):=af
  generalize upd (upd (upd H5 q3 (.lst [.int v])) q4 (.lst (bz (s.names.length+1) (s.regs.set s.names.length v)))) st (.ins c.state dx (bN q2 q4 la ov))=H8 at *
  refine⟨_,rfl,st,_,dx,_,_,rfl,d8,T.aE.cl,T.aE.n,rfl,q4,_,rfl,.inl (ai.of c8),_,_,rfl,rfl,jf,fun q5 gd=>?_⟩
  rw [dD]
  have ez:((s.names.length+1:Nat):Int)-1=(s.names.length:Int):=by omega
  show Q (.ref q5) (upd H8 q5 (.lst [.int 0,.int (((s.names.length+1:Nat):Int)-1)]))
  rw [ez]
  have x9:=x8.loose (o:=.lst [.int 0,.int (s.names.length:Int)]) gd
  have b9:=kp (u:=.lst [.int 0,.int (s.names.length:Int)]) b8 gd
  have c9:=kp (u:=.lst [.int 0,.int (s.names.length:Int)]) c8 gd
  have Sk:G2 q2=none:=(g3.sub).free mz
  have uZ:G2 q4=none:=x6.sub.free jL
  have OQ:q4≠q2:=(aP b6 jL).symm
  have y1:=x9.fix (g3.same.free mz) b9
  have y2:=y1.fix (x6.free jL) c9
  have sk:aJ G2 (upd (upd G2 q2 (.lst (ts.map V.ref++[.ref t]))) q4 (.lst (bz (s.names.length+1) (s.regs.set s.names.length v)))):=fun b o e=>by
   rw [aj (aP e uZ),aj (aP e Sk)];exact e
  have gg:=bq.gg.trans sk
  refine k q5 _ _ y2 ?_ (x8.free gd) ?_
  ·rw [es]
   refine⟨dx,q2,q4,ov,ts++[t],cq,kp d8 gd,?_,?_,(h4.imp fun _ _ z=>gg _ _ z).snoc (sk _ _ (g2.gg _ _ gt)),?_,kp a8 gd,?_,h8.imp fun _ _ z=>z.mono gg,⟨_,by rw [aj OQ.symm];exact af⟩,⟨_,af⟩,?_⟩
   ·rw [aj En.symm,aj yb.symm];exact gV
   ·rw [map_append];exact b9
   ·show upd H8 q5 _ q4=some (.lst (bz (s.names++[name]).length (s.regs.set s.names.length v)))
    rw [length_append]
    exact c9
   ·rw [aj OO.symm,aj OP.symm];exact kD
   ·show mW c (s.names++[name]).length s.acts _ ov s.offer
    rw [ud] at cS ⊢
    exact cS
  ·rw [es];exact af
theorem N0 (T:Txt K mg c):aW P w K mg base 2 "call_set" ["state","numbers","rows"] (eJ c 2):=by
 refine a0 T.T5 Bz (fun f aw A aA s H vs Q E hr h=>?_)
 ·obtain⟨st,la,ln,lr,ns,rs,as,s,d,G,rfl,so,g,hs,hn,cD,cg,ask,hd,k⟩:=h
  obtain⟨r,v,rfl,rfl,cx,hv⟩:=My.Wn ask
  have ed:d=.set r v:=(Option.some.inj hd).symm
  subst ed
  obtain⟨dx,bp,lh,ov,ts,cq,h1,h2,h3,h4,h5,h6,h7,h8,h9,gi,cS⟩:=hs.ex
  have es:Vbdcan.step s (.set r v)=if from_ r 0 ((s.names.length:Int)-1)=false\/amount v=false then Vbdcan.no s 1 else if s.offer.isSome=true then Vbdcan.no s 6 else yes { s with regs:=s.regs.set r.toNat v } []:=by rw [Vbdcan.step]
  have g1:=Gr.refl g
  have hz:sizeLine=16777216:=sizeLine_eq
  have w8:=so.w
  refine⟨_,(ag (pq 3 Bz (bH bQ (pv 1) aq (fun _ _=>rfl)))
    (ag (aX (PW.pt (i7 (fg (cO (pC (xX T) hr (aa (pv 0) (aa (pv 3) ae))))) (kh (fg (cO (pC (xV T) hr (aa (bH bQ (pv 1) aq (fun _ _=>rfl)) ae))))))) (ak (ay (aZ (aa (bP rfl T.oi) ae)))) aY)
    (ag (aX (aT kj (pF K 0) cj (aO _)) (ak (ay (aZ (aa (bP rfl T.p9) ae)))) aY)
    (ag (bL (pv 0) (bA ig (bA ig (oU oK (pF K 0) Dz (kO (pv 3))) (aZ (aa (bH bQ (pv 1) aq (fun _ _=>rfl)) ae))) (oU oK (pF K 0) (kO (bA dM (pv 3) aq)) Dz)) rfl)
    (ak (ay (aZ (aa aq ae)))))))),?_⟩
  refine⟨_,rfl,ln,_,0,_,rfl,rfl,ai.of hn,bS (j:=0) rfl,?_⟩
  refine⟨_,rfl,_,rfl,st,la,r,s,G,rfl,hs,_,rfl,?_⟩
  cases br:from_ r 0 ((s.names.length:Int)-1) with
  | false=>exact aH (aH ⟨bu,k.refuse hs g1 (n:=1) (by rw [es,if_pos (Or.inl br)])⟩)
  | true=>
  refine aI ?_
  refine⟨_,rfl,ln,_,1,_,rfl,rfl,ai.of hn,bS (j:=1) rfl,v,rfl,_,rfl,?_⟩
  cases ba:amount v with
  | false=>exact aH ⟨bu,k.refuse hs g1 (n:=1) (by rw [es,if_pos (Or.inr ba)])⟩
  | true=>
  refine aI ?_
  rw [if_neg (by rw [ba,br];intro z;rcases z with z | z<;>cases z)] at es
  refine⟨_,rfl,st,_,dx,_,_,rfl,h1,T.aE.cl,T.aE.n,rfl,rfl,_,rfl,?_⟩
  cases bo:s.offer.isSome with
  | true=>exact cu ((kR cS).trans bo) ⟨bu,k.refuse hs g1 (n:=6) (by rw [es,if_pos bo])⟩
  | false=>
  refine cZ ((kR cS).trans bo) ?_
  rw [if_neg (by rw [bo];decide)] at es
  have ud:s.offer=none:=by
   cases e:s.offer with
   | none=>rfl
   | some x=>rw [e] at bo;cases bo
  unfold from_ at br
  have br:=of_decide_eq_true br
  obtain⟨rn,rfl⟩:∃ rn:Nat,r=(rn:Int):=⟨r.toNat,by omega⟩
  have pP:rn<s.names.length:=by omega
  refine⟨_,rfl,st,_,dx,_,_,rfl,h1,T.aE.cl,T.aE.n,rfl,_,rfl,_,rfl,lh,_,rfl,ai.of h5,fun q1 yc=>?_⟩
  rw [Vj (by rw [dD];omega)]
  have g2:=g1.loose (o:=.lst ((bz s.names.length s.regs).take rn)) yc
  refine⟨_,rfl,ln,_,1,_,rfl,rfl,ai.of (g2.same _ _ hn),bS (j:=1) rfl,bu,fun q2 mz=>?_⟩
  have g3:=g2.loose (o:=.lst [.int v]) mz
  have b3:=kp (u:=.lst [.int v]) (af (H:=H) (a:=q1) (o:=.lst ((bz s.names.length s.regs).take rn))) mz
  refine⟨q1,q2,_,_,rfl,rfl,b3,af,?_,fun q3 nG=>?_⟩
  ·rw [length_take,dD]
   show _+1<=sizeLine
   omega
  have g4:=g3.loose (o:=.lst ((bz s.names.length s.regs).take rn++[.int v])) nG
  refine⟨_,rfl,st,_,dx,_,_,rfl,g4.same _ _ h1,T.aE.cl,T.aE.n,rfl,_,rfl,_,_,rfl,rfl,_,rfl,lh,_,rfl,ai.of (g4.same _ _ h5),fun q4 jL=>?_⟩
  have e1:(rn:Int)+1=((rn+1:Nat):Int):=by omega
  rw [e1,Vm (by rw [dD];omega)]
  have g5:=g4.loose (o:=.lst ((bz s.names.length s.regs).drop (rn+1))) jL
  have b5:=kp (u:=.lst ((bz s.names.length s.regs).drop (rn+1))) (af (H:=upd (upd H q1 (.lst ((bz s.names.length s.regs).take rn))) q2 (.lst [.int v])) (a:=q3) (o:=.lst ((bz s.names.length s.regs).take rn++[.int v]))) jL
  refine⟨q3,q4,_,_,rfl,rfl,b5,af,?_,fun q5 gd=>?_⟩
  ·rw [length_append,length_take,length_drop,dD]
   show _+1+_<=sizeLine
   omega
  have UC:(bz s.names.length s.regs).take rn++[.int v]++(bz s.names.length s.regs).drop (rn+1)=bz s.names.length (s.regs.set rn v):=by
   rw [←RF so.regs.len w8 pP,List.set_eq_take_append_cons_drop,if_pos (by rw [dD];exact pP),append_assoc]
   rfl
  rw [UC]
  have g6:=g5.loose (o:=.lst (bz s.names.length (s.regs.set rn v))) gd
  have Em:q5≠st:=(aP (g5.same _ _ h1) gd).symm
  have ON:q5≠la:=(aP (g5.same _ _ h6) gd).symm
  have kl:bp≠st:=dg h3 h1 (by intro z;cases z)
  have gS:la≠st:=dg h6 h1 (by intro z;cases z)
  have c6:upd (upd (upd (upd (upd H q1 (.lst ((bz s.names.length s.regs).take rn))) q2 (.lst [.int v])) q3 (.lst ((bz s.names.length s.regs).take rn++[.int v]))) q4 (.lst ((bz s.names.length s.regs).drop (rn+1)))) q5 (.lst (bz s.names.length (s.regs.set rn v))) q5=some (.lst (bz s.names.length (s.regs.set rn v))):=af
  generalize upd (upd (upd (upd (upd H q1 (.lst ((bz s.names.length s.regs).take rn))) q2 (.lst [.int v])) q3 (.lst ((bz s.names.length s.regs).take rn++[.int v]))) q4 (.lst ((bz s.names.length s.regs).drop (rn+1)))) q5 (.lst (bz s.names.length (s.regs.set rn v)))=H6 at *
  refine⟨_,rfl,st,_,dx,_,rfl,g6.same _ _ h1,T.aE.cl,T.aE.n,(by show 4<1000;decide),?_⟩
  have e8:dj "held" (V.ref q5) (bN bp lh la ov)=bN bp q5 la ov:=rfl
  rw [e8]
  have x8:=(g6.x (st:=st) (la:=la)).mm (o:=.ins c.state dx (bN bp q5 la ov)) h2
  refine⟨bu,fun q6 o8=>?_⟩
  have x9:=x8.loose (o:=.lst [.int 0]) o8
  have c9:=kp (u:=.lst [.int 0]) (kq (u:=.ins c.state dx (bN bp q5 la ov)) c6 Em) o8
  have uJ:H q5=none:=g5.same.free gd
  have Sj:G q5=none:=g.free uJ
  have y1:=x9.fix uJ c9
  have sk:aJ G (upd G q5 (.lst (bz s.names.length (s.regs.set rn v)))):=fun b o e=>by
   rw [aj (aP e Sj)];exact e
  refine k q6 _ _ y1 ?_ (x8.free o8) ?_
  ·rw [es]
   refine⟨dx,bp,q5,ov,ts,cq,kp af o8,?_,kp (kq (g6.same _ _ h3) kl) o8,h4.imp fun _ _ z=>sk _ _ z,c9,kp (kq (g6.same _ _ h6) gS) o8,?_,h8.imp fun _ _ z=>z.mono sk,let ⟨o,z⟩:=h9;⟨o,sk _ _ z⟩,⟨_,af⟩,?_⟩
   ·rw [aj Em.symm];exact h2
   ·rw [aj ON.symm];exact h7
   show mW c s.names.length s.acts _ ov s.offer
   exact cS.mono sk
  ·rw [es];exact af
def Iz (G0:Hp) (f:Nat->List Nat->Prop):Hp->Nat->V->Prop:=fun _ k y=>∃ nm,y=.ref nm/\∀ x,f k x->G0 nm=some (.tup (bD x))
theorem V1 {m:Int}(h:from_ m 0 1=true):m=bit (m == 1):=by
 unfold from_ at h
 have h:=of_decide_eq_true h
 unfold bit
 by_cases e:m=1
 ·rw [e];rfl
 ·rw [if_neg (by simpa using e)];omega
theorem Oh (T:Txt K mg c):aW P w K mg base 3 "call_act" ["state","numbers","rows"] (eJ c 1):=by
 refine a0 T.Uo nk (fun f aw A aA s H vs Q E hr h=>?_)
 ·obtain⟨st,la,ln,lr,ns,rs,as,s,d,G,rfl,so,g,hs,hn,cD,cg,ask,hd,k⟩:=h
  obtain⟨m,nm,row,rfl,rfl,hm,rD,mI⟩:=My.WA ask
  obtain⟨a,b,rfl,ha,hb⟩:=Ig cg
  have ed:d=.act m (text nm) row:=(Option.some.inj hd).symm
  subst ed
  obtain⟨dx,bp,lh,ov,ts,cq,h1,h2,h3,h4,h5,h6,h7,h8,h9,gi,cS⟩:=hs.ex
  generalize rC:text nm=name at *
  have y8:nm.map V.int=bD name:=by rw [gY rD,rC]
  have dm:name.length<=5000:=by rw [←rC,text_len];exact rD.len
  have rA:=mI.len
  have hz:sizeLine=16777216:=sizeLine_eq
  have w8:=so.w
  have dE:=so.dE
  have es:Vbdcan.step s (.act m name row)=if from_ m 0 1=false\/goodName name=false then Vbdcan.no s 1 else match demands s.names.length row with
   | none=>Vbdcan.no s 1
   | some ds=>if ACTS<=s.acts.length then Vbdcan.no s 4 else if(s.acts.any fun a=>a.name == name)=true then Vbdcan.no s 5 else if s.offer.isSome=true then Vbdcan.no s 6
    else yes { s with acts:=s.acts++[ds.foldl demand1 { name:=name,must:=m == 1 }] } [(s.acts.length:Int)]:=rfl
  refine⟨_,(ag (pq 3 nk (tY zX (by rfl) T.Ad z9 (aa (bH bQ (pv 2) aq (fun _ _=>rfl)) ae)))
    (ag (pq 4 nk (bH bQ (pv 2) aq (fun _ _=>rfl)))
    (ag (aX (PW.pt (i7 (fg (tU dQ dQ aq (bH bQ (pv 1) aq (fun _ _=>rfl)) aq)) (i7 (fg (cO (pC (Ea T) hr (aa (pv 3) ae)))) (kh (fg (cO (pC (NP T) hr (aa (pv 0) (aa (pv 4) ae))))))))) (ak (ay (aZ (aa (bP rfl T.oi) ae)))) aY)
    (ag (aX (aT dJ (bJ cC (by rfl) T.cB PySem.boot_len (aa (pF K 0) ae)) (bP rfl T.VJ) (aO _)) (ak (ay (aZ (aa (bP rfl T.vo) ae)))) aY)
    (ag (aX (aT (DY (gU hr)) (pv 3) (i8 (own:=[("action",5)]) rfl nk.nd (fD (pF K 0)) (fF (N:=["state","numbers","rows","name","row","action","made","k"]) (sc:=aC xh) (by decide +kernel)) (fun _ _ _ _ _=>(dk (i:=5) nk.nd rfl (Or.inl rfl))) (fun _ _ _ _ _=>gc) (fun _ _ _ _ _=>(pF K 5))) (by rfl)) (ak (ay (aZ (aa (bP rfl T.HG) ae)))) aY)
    (ag (aX (aT kj (pF K 0) cj (aO _)) (ak (ay (aZ (aa (bP rfl T.p9) ae)))) aY)
    (ag (pq 6 nk (eL (Px T) (hr.mono (by decide)) rfl (aa (pv 3) (aa (bH bQ (pv 1) aq (fun _ _=>rfl)) ae))))
    (ag (gP PassesOwn.never rfl (DK rfl T.oq (aa aq (aa (bJ cC (by rfl) T.cB PySem.boot_len (aa (pv 4) ae)) (aa aq ae)))) (dk (i:=7) nk.nd rfl (Or.inl rfl)) (ak (fC (pC (Ny T) hr (aa (pv 6) (aa (bH bQ (pv 4) (pv 7) (fun _ _=>rfl)) (aa (bH bQ (pv 4) (bA dM (pv 7) aq) (fun _ _=>rfl)) (aa (bH bQ (pv 4) (bA dM (pv 7) aq) (fun _ _=>rfl)) ae))))))))
    (ag (fC (fL PySem.F.plainAttrs_list PySem.F.slot_list_append PySem.F.type_list_append jd (pF K 0) (aa (pv 6) ae)))
    (ak (ay (aZ (aa aq (aa (bA lG (bJ cC (by rfl) T.cB PySem.boot_len (aa (pF K 0) ae)) aq) ae)))))))))))))),?_⟩
  refine⟨_,rfl,lr,_,0,_,rfl,rfl,ai.of cD,bS (j:=0) rfl,a,_,rfl,.inl ⟨ai.of ha,fun t nt=>?_⟩⟩
  rw [y8]
  have g1:=(Gr.refl g).new (o:=.tup (bD name)) nt
  have gt:upd G t (.tup (bD name)) t=some (.tup (bD name)):=af
  generalize upd H t (.tup (bD name))=H1 at *
  generalize upd G t (.tup (bD name))=G1 at *
  refine⟨_,rfl,lr,_,1,_,rfl,rfl,ai.of (g1.same _ _ cD),bS (j:=1) rfl,?_⟩
  have ek:from_ m 0 1=decide (0<=m/\m<=1):=rfl
  have HX:from_ m 0 1=false->iB (md (cF (tC (.int (-1))) dz)) { nx:=fun _ H'=>Q .aD H',rt:=Q } [some (.ref st),some (.ref ln),some (.ref lr),some (.ref t),some (.ref b),none,none,none] H1:=fun e=>⟨bu,k.refuse hs g1 (n:=1) (by rw [es,if_pos (Or.inl e)])⟩
  refine⟨_,rfl,ln,_,0,_,rfl,rfl,ai.of (g1.same _ _ hn),bS (j:=0) rfl,0,m,rfl,rfl,_,rfl,?_⟩
  by_cases m0:0<=m
  rotate_left
  ·refine cZ (decide_eq_false m0) ⟨_,rfl,?_⟩
   exact aH (aH (HX (by rw [ek];exact decide_eq_false fun z=>m0 z.1)))
  refine cu (decide_eq_true m0) ⟨_,_,rfl,rfl,_,rfl,?_⟩
  by_cases m1:m<=1
  rotate_left
  ·rw [decide_eq_false m1]
   exact aH (aH (HX (by rw [ek];exact decide_eq_false fun z=>m1 z.2)))
  rw [decide_eq_true m1]
  refine aI ?_
  have bm:from_ m 0 1=true:=by rw [ek];exact decide_eq_true ⟨m0,m1⟩
  refine⟨_,rfl,t,name,G1,rfl,g1.sub,g1.sub _ _ gt,dm,fun G2 H2 g2=>⟨_,rfl,?_⟩⟩
  have bq:=g1.trans g2
  cases bn:goodName name with
  | false=>exact aH (aH ⟨bu,k.refuse hs bq (n:=1) (by rw [es,if_pos (Or.inr bn)])⟩)
  | true=>
  refine aI ?_
  rw [if_neg (by rw [bm,bn];intro z;rcases z with z | z<;>cases z)] at es
  refine⟨_,rfl,_,rfl,st,la,b,row,s,G2,rfl,hs.mono bq,bq.same _ _ hb,rA,_,rfl,?_⟩
  cases ed:demands s.names.length row with
  | none=>exact aH ⟨bu,k.refuse hs bq (n:=1) (by rw [es,ed])⟩
  | some ds=>
  refine aI ?_
  rw [ed] at es
  dsimp only at es
  obtain⟨dl,dat⟩:=gX ed
  refine⟨_,rfl,st,_,dx,_,_,rfl,bq.same _ _ h1,T.aE.cl,T.aE.n,rfl,la,_,rfl,.inl (ai.of (bq.same _ _ h6)),rfl,_,rfl,?_⟩
  rw [length_map,h8.len]
  by_cases rO:s.acts.length=16
  ·refine cu (decide_eq_true (by rw [rO];rfl)) ⟨bu,k.refuse hs bq (n:=4) (by rw [es,if_pos (by unfold ACTS;omega)])⟩
  refine cZ (decide_eq_false (fun z=>rO (by injection z with z;omega))) ?_
  rw [if_neg (by unfold ACTS;omega)] at es
  refine⟨_,rfl,_,rfl,st,_,dx,_,_,rfl,bq.same _ _ h1,T.aE.cl,T.aE.n,rfl,la,rfl,⟨_,ai.of (bq.same _ _ h6)⟩,fun D nD=>?_⟩
  refine kX (K:=K) (a:=la) (xs:=cq.map V.ref) (Lc (Iz G2 fun k x=>∃ y,s.acts[k]? = some y/\y.name=x) G2 H2 D) (Lc.start bq.sub nD) (fun i H3 _ L=>?_) (fun i x H3 hx L=>?_) (fun H3 L=>?_)
  ·obtain⟨zs,G3,g3,_⟩:=L.ex
   exact ai.of (g3.same _ _ (bq.same _ _ h6))
  ·obtain⟨zs,G3,g3,gD,hD,bC,hR⟩:=L.ex
   obtain⟨ac,rT,rfl⟩:=i4 hx
   obtain⟨y,ey,hy⟩:=h8.get rT
   have hi:i<s.acts.length:=(List.getElem?_eq_some_iff.mp ey).1
   obtain⟨da,uh,d1,d2,d3,k1,k2,k3,q1,q2,_⟩:=(hy.mono bq.gg).ex
   refine⟨rfl,_,rfl,ac,_,da,_,_,rfl,g3.same _ _ (bq.sub _ _ q1),T.cv.cl,T.cv.n,rfl,?_⟩
   refine Lc.turn (R:=Iz G2 fun k x=>∃ y,s.acts[k]? = some y/\y.name=x) (fun _ h=>h) nD g3 gD hD bC hR (Gr.refl g3.sub) ⟨uh,rfl,fun x hx=>?_⟩ (by omega)
   obtain⟨y',ey',rfl⟩:=hx
   rw [ey] at ey'
   cases ey'
   exact q2
  obtain⟨zs,G3,g3,gD,hD,bC,hR⟩:=L.ex
  obtain⟨bs,rfl⟩:=tQ fun k y e=>let ⟨a,q,_⟩:=hR k y e;⟨a,q⟩
  rw [length_map,length_map,h8.len] at bC
  have nW:=bq.trans g3
  have Ag:Al (fun a v=>H3 a=some (.tup (v.map V.int))) bs ((s.acts.map fun a=>a.name).map fun x=>x.map fun(n:Nat)=>(n:Int)):=by
   refine⟨by rw [length_map,length_map];exact bC,fun i b x q1 q2=>?_⟩
   rw [getElem?_map,getElem?_map] at q2
   cases e:s.acts[i]? with
   | none=>rw [e] at q2;cases q2
   | some y=>
    rw [e] at q2
    cases q2
    obtain⟨uh,e1,e2⟩:=hR i (.ref b) (by rw [getElem?_map,q1];rfl)
    cases e1
    rw [←qr]
    exact g3.same _ _ (bq.sub _ _ (e2 y.name ⟨y,e,rfl⟩))
  refine⟨t,D,name.map (fun(n:Nat)=>(n:Int)),bs,_,rfl,rfl,by rw [←qr];exact g3.same _ _ (g2.sub _ _ (g2.gg _ _ gt)),hD,Ag,_,rfl,?_⟩
  rw [Ie,WJ]
  cases bc:s.acts.any fun a=>a.name == name with
  | true=>exact aH ⟨bu,k.refuse hs nW (n:=5) (by rw [es,if_pos bc])⟩
  | false=>
  refine aI ?_
  rw [if_neg (by rw [bc];decide)] at es
  refine⟨_,rfl,st,_,dx,_,_,rfl,nW.same _ _ h1,T.aE.cl,T.aE.n,rfl,rfl,_,rfl,?_⟩
  cases bo:s.offer.isSome with
  | true=>exact cu ((kR cS).trans bo) ⟨bu,k.refuse hs nW (n:=6) (by rw [es,if_pos bo])⟩
  | false=>
  refine cZ ((kR cS).trans bo) ?_
  rw [if_neg (by rw [bo];decide)] at es
  have ud:s.offer=none:=by
   cases e:s.offer with
   | none=>rfl
   | some x=>rw [e] at bo;cases bo
  refine⟨_,rfl,_,rfl,ln,_,0,_,rfl,rfl,ai.of (nW.same _ _ hn),bS (j:=0) rfl,?_⟩
  refine fun p dp n1 n2 n3=>⟨p,dp,t,m,rfl,af,fun d1 d2 d3 m1 m2 m3 kW kU mD=>⟨rfl,?_⟩⟩
  have g4:=(nW.loose (o:=.own p) n2).loose (p:=p) (o:=.ins c.action dp []) (by rw [aj (fun e=>n3 e.symm)];exact n1)
  have g5:=g4.loose (o:=.dK []) m1
  have g6:=g5.loose (p:=d2) (o:=.dK []) (by rw [aj kW.symm];exact m2)
  have g7:=g6.loose (p:=d3) (o:=.dK []) (by rw [aj mD.symm,aj kU.symm];exact m3)
  have FD:H p=none:=nW.same.free n1
  have zp:H d1=none:=g4.same.free m1
  have hd2:H d2=none:=g4.same.free m2
  have pY:H d3=none:=g4.same.free m3
  have gp:G3 p=none:=nW.sub.free n1
  have u5:G3 d1=none:=g4.sub.free m1
  have u4:G3 d2=none:=g4.sub.free m2
  have Gy:G3 d3=none:=g4.sub.free m3
  have Es:d1≠p:=fun z=>by rw [z,af] at m1;cases m1
  have Er:d2≠p:=fun z=>by rw [z,af] at m2;cases m2
  have Ep:d3≠p:=fun z=>by rw [z,af] at m3;cases m3
  have g8:=g7.set (o:=.ins c.action dp (js t m d1 d2 d3)) FD gp
  have A0:vC c (upd (upd (upd (upd (upd (upd H3 dp (.own p)) p (.ins c.action dp [])) d1 (.dK [])) d2 (.dK [])) d3 (.dK [])) p (.ins c.action dp (js t m d1 d2 d3))) p dp t m d1 d2 d3 0 (My.told ds name (m == 1) 0):=by
   have ev:∀ k,bg free k=(none,none):=fun k=>My.kg
   refine⟨af,[],[],[],?_,?_,?_,Nat.le_refl _,Nat.le_refl _,Nat.le_refl _,⟨fun k _=>?_,fun k _=>?_,fun k _=>?_⟩⟩
   ·rw [aj Es,aj kU,aj kW,af]
   ·rw [aj Er,aj mD,af]
   ·rw [aj Ep,af]
   ·show none=(bg free k).1.map V.int
    rw [ev];rfl
   ·show none=(bg free k).2.map V.int
    rw [ev];rfl
   ·show V.int 0=.int (aF still k)
    rw [My.rg]
  generalize upd (upd (upd (upd (upd (upd H3 dp (.own p)) p (.ins c.action dp [])) d1 (.dK [])) d2 (.dK [])) d3 (.dK [])) p (.ins c.action dp (js t m d1 d2 d3))=H8 at *
  refine⟨_,rfl,b,_,rfl,.inl (ai.of (g8.same _ _ hb)),0,_,3,(row.length+2) / 3,rfl,?_,?_⟩
  ·rw [length_map];exact Dj rA
  have en:(row.length+2) / 3=ds.length:=by omega
  rw [en]
  refine GJ (lo:=0) (c:=3) (n:=ds.length) (fun i σ H'=>∃ v:Option V,σ=[some (.ref st),some (.ref ln),some (.ref lr),some (.ref t),some (.ref b),none,some (.ref p),v]/\Gr G H G3 H'/\vC c H' p dp t m d1 d2 d3 i (My.told ds name (m == 1) i)) ⟨none,rfl,g8,A0⟩ ?_ ?_
  ·rintro i σ H9 hi ⟨v,rfl,g9,A9⟩
   obtain⟨r,kd,x,e0,e1,e2,ok,UQ⟩:=dat i hi
   obtain⟨p1,p2,p3,p4⟩:=My.Df ok
   have i0:(0:Int)+((i:Nat):Int)*3=((3*i:Nat):Int):=by omega
   have i1:((3*i:Nat):Int)+1=((3*i+1:Nat):Int):=by omega
   have i2:((3*i:Nat):Int)+2=((3*i+2:Nat):Int):=by omega
   rw [i0]
   refine⟨_,rfl,_,rfl,_,rfl,b,_,_,_,rfl,rfl,ai.of (g9.same _ _ hb),bS (mG e0),?_⟩
   refine⟨_,rfl,_,rfl,_,_,rfl,rfl,b,_,((3*i+1:Nat):Int),_,rfl,congrArg V.int i1,ai.of (g9.same _ _ hb),bS (mG e1),?_⟩
   refine⟨_,rfl,_,rfl,_,_,rfl,rfl,b,_,((3*i+2:Nat):Int),_,rfl,congrArg V.int i2,ai.of (g9.same _ _ hb),bS (mG e2),?_⟩
   refine⟨p,dp,t,d1,d2,d3,m,x,r.toNat,kd.toNat,i,s.names.length,My.told ds name (m == 1) i,?_,A9,kW,kU,mD,by omega,by omega,by omega,My.vJ w8 ed i (by omega),fun Ax eH Xa=>?_⟩
   ·rw [Int.toNat_of_nonneg p1,Int.toNat_of_nonneg (show 0<=kd by omega)]
    rfl
   ·refine⟨_,rfl,g9.Li (X:=fun a=>a=d1\/a=d2\/a=d3) (fun a z=>?_) eH,?_⟩
    ·rcases z with rfl | rfl | rfl
     ·exact⟨zp,u5⟩
     ·exact⟨hd2,u4⟩
     ·exact⟨pY,Gy⟩
    ·rw [My.AS UQ];exact Xa
  ·rintro σ H9 ⟨v,rfl,g9,A9⟩
   obtain⟨ho,k1,k2,k3,q1,q2,q3,l1,l2,l3,DD⟩:=A9
   have f1:=g9.fix zp q1
   have f2:=f1.fix hd2 q2
   have f3:=f2.fix pY q3
   have f4:=f3.fix FD ho
   have W5:upd (upd (upd (upd G3 d1 (.dK k1)) d2 (.dK k2)) d3 (.dK k3)) p (.ins c.action dp (js t m d1 d2 d3)) p=some (.ins c.action dp (js t m d1 d2 d3)):=af
   have W8:upd (upd (upd (upd G3 d1 (.dK k1)) d2 (.dK k2)) d3 (.dK k3)) p (.ins c.action dp (js t m d1 d2 d3)) d1=some (.dK k1):=by rw [aj Es,aj kU,aj kW,af]
   have W7:upd (upd (upd (upd G3 d1 (.dK k1)) d2 (.dK k2)) d3 (.dK k3)) p (.ins c.action dp (js t m d1 d2 d3)) d2=some (.dK k2):=by rw [aj Er,aj mD,af]
   have W6:upd (upd (upd (upd G3 d1 (.dK k1)) d2 (.dK k2)) d3 (.dK k3)) p (.ins c.action dp (js t m d1 d2 d3)) d3=some (.dK k3):=by rw [aj Ep,af]
   have sE:G3 t=some (.tup (bD name)):=g3.gg _ _ (g2.gg _ _ gt)
   have W4:upd (upd (upd (upd G3 d1 (.dK k1)) d2 (.dK k2)) d3 (.dK k3)) p (.ins c.action dp (js t m d1 d2 d3)) t=some (.tup (bD name)):=by
    rw [aj (aP sE gp),aj (aP sE Gy),aj (aP sE u4),aj (aP sE u5)];exact sE
   generalize upd (upd (upd (upd G3 d1 (.dK k1)) d2 (.dK k2)) d3 (.dK k3)) p (.ins c.action dp (js t m d1 d2 d3))=G4 at *
   have rE:=g9.same _ _ h6
   have gV:G4 st=none:=by rw [f4.old st (by rw [h1];simp)];exact h2
   have kD:G4 la=none:=by rw [f4.old la (by rw [h6];simp)];exact h7
   have gS:la≠st:=dg h6 h1 (by intro z;cases z)
   have n9:bp≠la:=let ⟨_,z⟩:=h9;aP z h7
   have Pc:lh≠la:=let ⟨_,z⟩:=gi;aP z h7
   refine⟨_,rfl,st,_,dx,_,_,rfl,g9.same _ _ h1,T.aE.cl,T.aE.n,rfl,.inl ⟨rfl,_,ai.of rE⟩,_,rfl,la,_,_,rfl,rfl,rE,?_,?_⟩
   ·rw [length_map,h8.len];omega
   have x9:=(f4.x (st:=st) (la:=la)).Lj (o:=.lst (cq.map V.ref++[.ref p])) kD
   have Fq:upd H9 la (.lst (cq.map V.ref++[.ref p])) st=some (.ins c.state dx (bN bp lh la ov)):=kq (g9.same _ _ h1) gS.symm
   have FL:upd H9 la (.lst (cq.map V.ref++[.ref p])) la=some (.lst (cq.map V.ref++[.ref p])):=af
   have Rf:=kq (u:=.lst (cq.map V.ref++[.ref p])) (g9.same _ _ h3) n9
   have Rg:=kq (u:=.lst (cq.map V.ref++[.ref p])) (g9.same _ _ h5) Pc
   generalize upd H9 la (.lst (cq.map V.ref++[.ref p]))=Ax at *
   refine⟨_,rfl,st,_,dx,_,_,rfl,Fq,T.aE.cl,T.aE.n,rfl,la,_,rfl,.inl (ai.of FL),_,_,rfl,rfl,jf,fun q5 gd=>?_⟩
   have UN:((cq.map V.ref++[V.ref p]).length:Int)-1=(s.acts.length:Int):=by
    rw [length_append,length_map,h8.len]
    show((s.acts.length+1:Nat):Int)-1=_
    omega
   show Q (.ref q5) (upd Ax q5 (.lst [.int 0,.int (((cq.map V.ref++[V.ref p]).length:Int)-1)]))
   rw [UN]
   have Uy:My.told ds name (m == 1) ds.length=ds.foldl demand1 { name:=name,must:=m == 1 }:=by unfold My.told;rw [take_length]
   have zJ:=My.AU (ds:=ds) (name:=name) (must:=m == 1) ds.length
   rw [Uy] at zJ DD
   have lg:=f4.gg
   refine k q5 G4 _ (x9.loose gd) ?_ (x9.free gd) ?_
   ·rw [es]
    refine⟨dx,bp,lh,ov,ts,cq++[p],kp Fq gd,gV,kp Rf gd,h4.imp fun _ _ z=>lg _ _ z,kp Rg gd,?_,kD,(h8.imp fun _ _ z=>z.mono lg).snoc ⟨dp,t,d1,d2,d3,k1,k2,k3,?_,?_,W8,W7,W6,DD⟩,let ⟨o,z⟩:=h9;⟨o,lg _ _ z⟩,let ⟨o,z⟩:=gi;⟨o,lg _ _ z⟩,?_⟩
    ·rw [map_append];exact kp FL gd
    ·rw [zJ.2,←V1 bm];exact W5
    ·rw [zJ.1];exact W4
    ·show mW c s.names.length (s.acts++[_]) G4 ov s.offer
     rw [ud] at cS ⊢
     exact cS
   ·rw [es];exact af
end
open Vbdcan (Item Items)
theorem E4 {c:Cl}{W:Nat}{acts:List Vbdcan.Act}{G:Hp}:∀ {as:List Addr}(l:Items),Al (oA c W acts G) as (items1 l)->bj c W acts G as l
 | as,.nil,h=>by
  have:=h.len
  unfold items1 at this
  unfold bj
  exact length_eq_zero_iff.mp this
 | as,.cons i r,h=>by
  unfold items1 at h
  cases as with
  | nil=>have:=h.len;simp at this
  | cons a as=>
   obtain⟨h1,h2⟩:=h.AL
   unfold bj
   exact⟨a,as,rfl,h1,E4 r h2⟩
theorem ju.plain {c:Cl}{W:Nat}{acts:List Vbdcan.Act}{G:Hp}{a:Addr}{t:List Nat}{m:Vbdcan.Run}{l:Items}(h:ju c W acts G a (readRun acts t)) (hm:readRun acts t=.ok m) (hp:Vbdcan.plainOf m=some l) :
  ∃(dx kd r ar:Addr) (hd:V) (st dp:Nat) (as:List Addr),G a=some (.ins c.cG dx (eX kd W 0 r ar hd st dp))/\G r=some (.lst (as.map V.ref))/\bj c W acts G as l:=by
 obtain⟨dx,kd,r,ar,pl,hd,st,dp,h1,h2,h3⟩:=h.ex
 obtain⟨e1,e2,e3,as,h4,h5⟩:=h3 m hm
 subst e1
 refine⟨dx,kd,r,ar,hd,st,dp,as,h1,h4,E4 l ?_⟩
 rw [←My.E6 hp]
 exact h5
section
def dZ (o:Option Int):List Int:=[bit o.isSome,o.getD 0]
def J8:Sp:=fun vs H Q _=>∃ o:Option Int,vs=[cJ o]/\∀ q,H q=none->Q (.ref q) (upd H q (.lst ((dZ o).map V.int)))
theorem t6 (T:Txt K mg c):aW P w K mg base 1 "told_limit" ["limit"] J8:=by
 refine a0 T.SU Lp (fun f aw A aA s H vs Q E hr h=>?_)
 ·obtain⟨o,rfl,k⟩:=h
  refine⟨_,(ag (aX (aT gR (pv 0) cj (aO _)) (ak (ay (aZ (aa aq (aa aq ae))))) aY)
    (ak (ay (aZ (aa aq (aa (pv 0) ae)))))),?_⟩
  cases o with
  | none=>exact⟨_,rfl,rfl,_,rfl,aH ⟨jf,k⟩⟩
  | some i=>exact⟨_,rfl,rfl,_,rfl,aI ⟨_,rfl,jf,k⟩⟩
def J7 (c:Cl):Sp:=fun vs H Q _=>∃(a:Addr) (s:ax) (G:Hp),vs=[.ref a]/\aJ G H/\fw c G a s/\∀ q G' H',Gr G H G' H'->H q=none->H' q=some (.lst ((iD s).map V.int))->Q (.ref q) H'
theorem Nu (T:Txt K mg c):aW P w K mg base 2 "told_span" ["span"] (J7 c):=by
 refine a0 T.SS Lo (fun f aw A aA s H vs Q E hr h=>?_)
 ·obtain⟨a,s,G,rfl,g,⟨da,ha⟩,k⟩:=h
  refine⟨_,(ak (ay (bA ig (bA ig (pC (t6 T) hr (aa (pF K 0) ae)) (pC (t6 T) hr (aa (pF K 0) ae))) (aZ (aa (pF K 0) (aa (pF K 0) (aa (pF K 0) ae))))))),?_⟩
  refine⟨_,rfl,a,_,da,_,_,rfl,g _ _ ha,T.aK.cl,T.aK.n,rfl,s.lo,rfl,fun q1 n1=>?_⟩
  have g1:=(Gr.refl g).loose (o:=.lst ((dZ s.lo).map V.int)) n1
  refine⟨_,rfl,a,_,da,_,_,rfl,g1.sub _ _ ha,T.aK.cl,T.aK.n,rfl,s.hi,rfl,fun q2 n2=>?_⟩
  have g2:=g1.loose (o:=.lst ((dZ s.hi).map V.int)) n2
  refine⟨q1,q2,_,_,rfl,rfl,kp af n2,af,(by show 2+2<=sizeLine;decide),fun q3 n3=>?_⟩
  have g3:=g2.loose (o:=.lst ((dZ s.lo).map V.int++(dZ s.hi).map V.int)) n3
  refine⟨_,rfl,a,_,da,_,_,rfl,g3.sub _ _ ha,T.aK.cl,T.aK.n,rfl,?_⟩
  refine⟨_,rfl,a,_,da,_,_,rfl,g3.sub _ _ ha,T.aK.cl,T.aK.n,rfl,?_⟩
  refine⟨_,rfl,a,_,da,_,_,rfl,g3.sub _ _ ha,T.aK.cl,T.aK.n,rfl,?_⟩
  refine⟨(by show 3<=sizeLine;decide),fun q4 n4=>?_⟩
  have g4:=g3.loose (o:=.lst [.int s.add,.int s.low,.int s.high]) n4
  refine⟨q3,q4,_,_,rfl,rfl,kp af n4,af,(by show 4+3<=sizeLine;decide),fun q5 n5=>?_⟩
  exact k q5 G _ (g4.loose n5) (g4.same.free n5) af
def Ks (c:Cl):Sp:=fun vs H Q _=>∃(p:Addr) (W:Nat) (acts:List Vbdcan.Act) (res:Except Nat Vbdcan.Run),vs=[.ref p]/\ju c W acts H p res/\Q (.int (ff res)) H
theorem qJ (T:Txt K mg c):aW P w K mg base 1 "refusal_without_stars" ["reading"] (Ks c):=by
 refine a0 T.Th LC (fun f aw A aA s H vs Q E hr h=>?_)
 ·obtain⟨p,W,acts,res,rfl,hR,k⟩:=h
  obtain⟨dx,kd,r,ar,pl,hd,st,dp,h1,h2,h3⟩:=hR.ex
  refine⟨_,(ag (aX (aT fM (pF K 0) aq (aO _)) (ak (ay (bP rfl T.p8))) aY)
    (ag (aX (aT fM (pF K 0) aq (aO _)) (ak (ay (bP rfl T.VD))) aY)
    (ak (ay aq)))),?_⟩
  refine⟨_,rfl,p,_,dx,_,_,rfl,h1,T.aL.cl,T.aL.n,rfl,_,_,rfl,rfl,_,rfl,?_⟩
  cases res with
  | error e=>
   obtain⟨e1,e2⟩:=h2 e rfl
   refine cu (decide_eq_true (show(0:Int)<(pl:Int) by omega)) ?_
   exact k
  | ok m=>
   obtain⟨e1,e2,e3,_⟩:=h3 m rfl
   subst e1
   refine aI ?_
   refine⟨_,rfl,p,_,dx,_,_,rfl,h1,T.aL.cl,T.aL.n,rfl,_,_,rfl,rfl,_,rfl,?_⟩
   dsimp only [ff] at k
   by_cases h0:bW m=0
   ·refine cZ (decide_eq_false (show ¬ (0:Int)<(st:Int) by omega)) ?_
    rw [if_pos h0] at k
    exact k
   ·refine cu (decide_eq_true (show(0:Int)<(st:Int) by omega)) ?_
    rw [if_neg h0] at k
    exact k
theorem N4 (T:Txt K mg c):aW P w K mg base 12 "call_read" ["state","numbers","rows"] (eJ c 3):=by
 refine a0 T.T9 BB (fun f aw A aA s H vs Q E hr h=>?_)
 ·obtain⟨st,la,ln,lr,ns,rs,as,s,d,G,rfl,so,g,hs,hn,cD,cg,ask,hd,k⟩:=h
  obtain⟨t0,rfl,rfl,ht⟩:=My.Wk ask
  obtain⟨a,rfl,ha⟩:=jr cg
  have ed:d=.read (text t0):=(Option.some.inj hd).symm
  subst ed
  rw [gY ht] at ha
  have dm:(text t0).length<=5000:=by rw [text_len];exact ht.len
  generalize text t0=t at *
  refine⟨_,(ag (pq 3 BB (pC (mx T) hr (aa (pv 0) (aa (bH bQ (pv 2) aq (fun _ _=>rfl)) ae))))
    (ag (aX (aT fM (pF K 3) aq (aO _)) (ak (ay (aZ (aa aq (aa (pF K 3) ae))))) aY)
    (ak (ay (aZ (aa aq (aa (bJ cC (by rfl) T.cB PySem.boot_len (aa (pF K 3) ae)) (aa (pF K 3) (aa (pF K 3) ae))))))))),?_⟩
  refine⟨_,rfl,_,rfl,lr,_,0,_,rfl,rfl,ai.of cD,bS (j:=0) rfl,st,la,a,t,s,G,rfl,so,g,hs,ha,dm,fun p G1 H1 g1 hp=>?_⟩
  obtain⟨dx,kd,r,ar,pl,hd',sn,dp,h1,h2,h3⟩:=hp.ex
  refine⟨_,rfl,p,_,dx,_,_,rfl,g1.sub _ _ h1,T.aL.cl,T.aL.n,rfl,_,_,rfl,rfl,_,rfl,?_⟩
  cases er:readRun s.acts t with
  | error e=>
   obtain⟨e1,e2⟩:=h2 e er
   subst e1
   refine cu (decide_eq_true (show(0:Int)<(pl:Int) by omega)) ?_
   refine⟨_,rfl,p,_,dx,_,_,rfl,g1.sub _ _ h1,T.aL.cl,T.aL.n,rfl,jf,fun q nq=>?_⟩
   exact k.cI hs (g1.loose nq) (by rw [Vbdcan.step,er]) (g1.same.free nq) af
  | ok m=>
   obtain⟨e1,e2,e3,as,h4,h5⟩:=h3 m er
   subst e1 e2 e3
   refine aI ?_
   refine⟨_,rfl,p,_,dx,_,_,rfl,g1.sub _ _ h1,T.aL.cl,T.aL.n,rfl,r,_,rfl,.inl (ai.of (g1.sub _ _ h4)),?_⟩
   refine⟨_,rfl,p,_,dx,_,_,rfl,g1.sub _ _ h1,T.aL.cl,T.aL.n,rfl,?_⟩
   refine⟨_,rfl,p,_,dx,_,_,rfl,g1.sub _ _ h1,T.aL.cl,T.aL.n,rfl,?_⟩
   refine⟨(by show 4<=sizeLine;decide),fun q nq=>?_⟩
   refine k.cI (l:=[1,(m.length:Int),(bW m:Int),(deepOf m:Int)]) hs (g1.loose nq) ?_ (g1.same.free nq) ?_
   ·rw [Vbdcan.step,er]
    rfl
   ·rw [af,length_map,h5.len];rfl
theorem N8 (T:Txt K mg c):aW P w K mg base 12 "call_form" ["state","numbers","rows"] (eJ c 4):=by
 refine a0 T.Ud LR (fun f aw A aA s H vs Q E hr h=>?_)
 ·obtain⟨st,la,ln,lr,ns,rs,as,s,d,G,rfl,so,g,hs,hn,cD,cg,ask,hd,k⟩:=h
  obtain⟨t0,rfl,rfl,ht⟩:=My.Wj ask
  obtain⟨a,rfl,ha⟩:=jr cg
  have ed:d=.form (text t0):=(Option.some.inj hd).symm
  subst ed
  rw [gY ht] at ha
  have dm:(text t0).length<=5000:=by rw [text_len];exact ht.len
  generalize text t0=t at *
  refine⟨_,(ag (aX (aT fM (cy (K:=K) (pC (mx T) hr (aa (pv 0) (aa (bH bQ (pv 2) aq (fun _ _=>rfl)) ae))) rfl) aq (aO _)) (ak (ay (aZ (aa (bP rfl T.p8) ae)))) aY)
    (ak (ay (bA ig (aZ (aa aq ae)) (pC (NM T) hr (aa (pC (D4 T) hr (aa (bH bQ (pv 2) aq (fun _ _=>rfl)) ae)) ae)))))),?_⟩
  refine⟨_,rfl,_,rfl,lr,_,0,_,rfl,rfl,ai.of cD,bS (j:=0) rfl,st,la,a,t,s,G,rfl,so,g,hs,ha,dm,fun p G1 H1 g1 hp=>?_⟩
  obtain⟨dx,kd,r,ar,pl,hd',sn,dp,h1,h2,h3⟩:=hp.ex
  refine⟨p,_,dx,_,_,rfl,g1.sub _ _ h1,T.aL.cl,T.aL.n,rfl,_,_,rfl,rfl,_,rfl,?_⟩
  cases er:readRun s.acts t with
  | error e=>
   obtain⟨e1,e2⟩:=h2 e er
   refine cu (decide_eq_true (show(0:Int)<(pl:Int) by omega)) ⟨bu,k.refuse hs g1 (n:=2) (by rw [Vbdcan.step,er])⟩
  | ok m=>
   obtain⟨e1,e2,e3,_⟩:=h3 m er
   subst e1
   refine aI ?_
   refine⟨bu,fun q1 n1=>?_⟩
   have g2:=g1.loose (o:=.lst [.int 0]) n1
   refine⟨_,rfl,lr,_,0,_,rfl,rfl,ai.of (g2.same _ _ cD),bS (j:=0) rfl,a,t,G1,rfl,g2.sub,g2.same _ _ ha,dm,fun p2 vq G3 H3 g3 gM al=>?_⟩
   have hsz:cR (pt 1 t)<=20000:=by
    have:=My.sX (t.length+1) 1 t
    have:cR (pt 1 t)<=2*t.length:=this
    omega
   refine⟨p2,vq,pt 1 t,G3,rfl,g3.sub,g3.sub _ _ gM,al,hsz,fun p3 G4 H4 g4 nN=>?_⟩
   have jT:=g3.trans g4
   have dh:=My.Dy er
   have ef:=My.GI s.acts t m er
   have ef:fh true (pt 1 t)=printRun s.acts m:=ef
   rw [ef] at nN
   refine⟨q1,p3,_,_,rfl,rfl,jT.same _ _ af,g4.sub _ _ nN,?_,fun q2 n2=>?_⟩
   ·rw [fX]
    have h2:sizeLine=16777216:=sizeLine_eq
    show 1+_<=sizeLine
    omega
   refine k.cI (l:=0::Vbdcan.ints (printRun s.acts m)) hs ((g2.trans jT).loose n2) (by rw [Vbdcan.step,er];rfl) ((g2.trans jT).same.free n2) ?_
   rw [af]
   congr 2
   show V.int 0::bD _=_
   rw [qr]
   rfl
theorem NY (T:Txt K mg c):aW P w K mg base 12 "call_sum" ["state","numbers","rows"] (eJ c 5):=by
 refine a0 T.T3 oP (fun f aw A aA s H vs Q E hr h=>?_)
 ·obtain⟨st,la,ln,lr,ns,rs,as,s,d,G,rfl,so,g,hs,hn,cD,cg,ask,hd,k⟩:=h
  obtain⟨t0,rfl,rfl,ht⟩:=My.Wi ask
  obtain⟨a,rfl,ha⟩:=jr cg
  have ed:d=.sum (text t0):=(Option.some.inj hd).symm
  subst ed
  rw [gY ht] at ha
  have dm:(text t0).length<=5000:=by rw [text_len];exact ht.len
  generalize text t0=t at *
  have hz:sizeLine=16777216:=sizeLine_eq
  refine⟨_,(ag (pq 3 oP (pC (mx T) hr (aa (pv 0) (aa (bH bQ (pv 2) aq (fun _ _=>rfl)) ae))))
    (ag (pq 4 oP (pC (qJ T) hr (aa (pv 3) ae)))
    (ag (aX (aT eO (pv 4) aq (aO _)) (ak (ay (aZ (aa (pv 4) ae)))) aY)
    (ag (pq 5 oP (pC (mw T) hr (aa (pF K 3) (aa (bJ cC (by rfl) T.cB PySem.boot_len (aa (pF K 0) ae)) ae))))
    (ag (pq 6 oP (aZ (aa aq (aa (pF K 5) ae))))
    (ag (gP PassesOwn.never rfl (fD (pF K 5)) (dk (i:=7) oP.nd rfl (Or.inl rfl)) (ak (fC (fL PySem.F.plainAttrs_list PySem.F.slot_list_extend PySem.F.type_list_extend pf (pv 6) (aa (pC (Nu T) hr (aa (pv 7) ae)) ae)))))
    (ak (ay (pv 6))))))))),?_⟩
  refine⟨_,rfl,_,rfl,lr,_,0,_,rfl,rfl,ai.of cD,bS (j:=0) rfl,st,la,a,t,s,G,rfl,so,g,hs,ha,dm,fun p G1 H1 g1 hp=>?_⟩
  refine⟨_,rfl,p,_,_,_,rfl,hp.mono g1.sub,?_⟩
  have dN:=gO s t
  refine⟨_,rfl,_,_,rfl,rfl,_,rfl,?_⟩
  cases ep:Vbdcan.plain s t with
  | error e=>
   rw [ep] at dN
   dsimp only at dN
   have he:=gF ep
   rw [dN]
   refine cu (decide_eq_true (show -(e:Int)<0 by omega)) ⟨_,rfl,bu,k.refuse hs g1 (by rw [Vbdcan.step,ep])⟩
  | ok l=>
   rw [ep] at dN
   dsimp only at dN
   rw [dN]
   refine aI ?_
   obtain⟨m,er,n8,ft⟩:=gQ ep
   obtain⟨dx,kd,r,ar,hd',sn,dp,as,h1,h2,h3⟩:=hp.plain er n8
   obtain⟨eQ,bp,lh,ov,ts,cq,s1,s2,s3,s4,s5,s6,s7,s8,s9,eV,cX⟩:=(hs.mono g1).ex
   obtain⟨i1,i2⟩:=h3.get
   have sf:as.length<=5000:=by
    have h1:=gG ((My.listOf l).map fun x=>(x,1))
    rw [gh,length_map,←i1] at h1
    have:=ft.nodes
    omega
   refine⟨_,rfl,p,_,dx,_,_,rfl,g1.sub _ _ h1,T.aL.cl,T.aL.n,rfl,_,rfl,st,_,eQ,_,_,rfl,s1,T.aE.cl,T.aE.n,rfl,lh,_,rfl,.inl (ai.of s5),?_⟩
   rw [dD]
   refine⟨s.acts,r,s.names.length,as,l,G1,rfl,so.w,g1.sub,g1.sub _ _ h2,h3,sf,so.ok,fun p2 G2 H2 g2 gM=>?_⟩
   have wl:=(bU so.ok l).1
   obtain⟨zP,EU,q1,q2⟩:=gM
   obtain⟨ys,e1,e2,e3⟩:=q2.get
   refine⟨_,rfl,p2,_,zP,_,_,rfl,g2.sub _ _ q1,T.a9.cl,T.a9.n,rfl,jf,fun q nq=>?_⟩
   have bq:=g1.trans g2
   have g3:=bq.loose (o:=.lst [.int 0,.int (sumItems s.acts l).len]) nq
   have Eo:H q=none:=bq.same.free nq
   have gq:G2 q=none:=bq.sub.free nq
   have f3:aJ G2 (upd H2 q (.lst [.int 0,.int (sumItems s.acts l).len])):=g3.sub
   refine⟨_,rfl,p2,_,zP,_,_,rfl,f3 _ _ q1,T.a9.cl,T.a9.n,rfl,EU,rfl,⟨_,ai.of (f3 _ _ e1)⟩,?_⟩
   refine lj (K:=K) (a:=EU) (xs:=ys) (fun i σ H'=>∃(v7:Option V) (G':Hp),σ=[some (.ref st),some (.ref ln),some (.ref lr),some (.ref p),some (.int 0),some (.ref p2),some (.ref q),v7]/\Gr G H G' H'/\aJ G2 G'/\G' q=none /\
    H' q=some (.lst ((0::((sumItems s.acts l).len:Int)::(range i).flatMap fun k=>iD (My.sp (sumItems s.acts l) k)).map V.int))) ⟨none,G2,rfl,g3,aJ.refl _,gq,af⟩ (fun i σ H' _ ⟨_,G',_,gg,sg,_⟩=>ai.of (gg.sub _ _ (sg _ _ e1))) ?_ ?_
   ·rintro i y σ H3 hy ⟨v7,G3,rfl,gg,sg,Gp,nM⟩
    obtain⟨sa,rfl,rl⟩:=e3 i y hy
    have hi:i<s.names.length:=by rw [←e2];exact(List.getElem?_eq_some_iff.mp hy).1
    have w8:=so.w
    refine⟨_,rfl,.inl ⟨rfl,_,ai.of nM⟩,_,rfl,sa,_,G3,rfl,gg.sub,rl.mono sg,fun q4 G4 H4 g4 n4 mJ=>?_⟩
    have uZ:G4 q=none:=by rw [g4.old q (by rw [nM];simp)];exact Gp
    refine⟨q,q4,_,_,rfl,rfl,g4.same _ _ nM,mJ,?_,?_⟩
    ·rw [length_map,length_map,jC,length_cons,length_cons,iP _ 7 (fun k=>jC _)]
     omega
    ·refine⟨_,G4,rfl,(gg.trans g4).set Eo uZ,sg.trans g4.gg,uZ,?_⟩
     rw [af,jn,←map_append]
     rfl
   ·rintro σ H3 ⟨v7,G3,rfl,gg,sg,Gp,nM⟩
    refine⟨_,rfl,?_⟩
    refine k.cI (l:=0::Vbdcan.sumRow s (sumItems s.acts l)) hs gg (by rw [Vbdcan.step,ep];rfl) Eo ?_
    rw [nM,My.JU wl so.w,e2]
theorem Oc (T:Txt K mg c):aW P w K mg base 12 "call_counts" ["state","numbers","rows"] (eJ c 6):=by
 refine a0 T.Ui wM (fun f aw A aA s H vs Q E hr h=>?_)
 ·obtain⟨st,la,ln,lr,ns,rs,as,s,d,G,rfl,so,g,hs,hn,cD,cg,ask,hd,k⟩:=h
  obtain⟨t0,rfl,rfl,ht⟩:=My.Wh ask
  obtain⟨a,rfl,ha⟩:=jr cg
  have ed:d=.counts (text t0):=(Option.some.inj hd).symm
  subst ed
  rw [gY ht] at ha
  have dm:(text t0).length<=5000:=by rw [text_len];exact ht.len
  generalize text t0=t at *
  have hz:sizeLine=16777216:=sizeLine_eq
  refine⟨_,(ag (pq 3 wM (pC (mx T) hr (aa (pv 0) (aa (bH bQ (pv 2) aq (fun _ _=>rfl)) ae))))
    (ag (pq 4 wM (pC (qJ T) hr (aa (pv 3) ae)))
    (ag (aX (aT eO (pv 4) aq (aO _)) (ak (ay (aZ (aa (pv 4) ae)))) aY)
    (ak (ay (bA ig (aZ (aa aq ae)) (pC (Ed T) hr (aa (pF K 3) (aa (bJ cC (by rfl) T.cB PySem.boot_len (aa (pF K 0) ae)) ae))))))))),?_⟩
  refine⟨_,rfl,_,rfl,lr,_,0,_,rfl,rfl,ai.of cD,bS (j:=0) rfl,st,la,a,t,s,G,rfl,so,g,hs,ha,dm,fun p G1 H1 g1 hp=>?_⟩
  refine⟨_,rfl,p,_,_,_,rfl,hp.mono g1.sub,?_⟩
  have dN:=gO s t
  refine⟨_,rfl,_,_,rfl,rfl,_,rfl,?_⟩
  cases ep:Vbdcan.plain s t with
  | error e=>
   rw [ep] at dN
   dsimp only at dN
   have he:=gF ep
   rw [dN]
   refine cu (decide_eq_true (show -(e:Int)<0 by omega)) ⟨_,rfl,bu,k.refuse hs g1 (by rw [Vbdcan.step,ep])⟩
  | ok l=>
   rw [ep] at dN
   dsimp only at dN
   rw [dN]
   refine aI ?_
   obtain⟨m,er,n8,ft⟩:=gQ ep
   obtain⟨dx,kd,r,ar,hd',sn,dp,as,h1,h2,h3⟩:=hp.plain er n8
   refine⟨bu,fun q1 n1=>?_⟩
   have g2:=g1.loose (o:=.lst [.int 0]) n1
   obtain⟨eQ,bp,lh,ov,ts,cq,s1,s2,s3,s4,s5,s6,s7,s8,s9,eV,cX⟩:=(hs.mono g2).ex
   refine⟨_,rfl,p,_,dx,_,_,rfl,g2.sub _ _ h1,T.aL.cl,T.aL.n,rfl,_,rfl,st,_,eQ,_,_,rfl,s1,T.aE.cl,T.aE.n,rfl,la,_,rfl,.inl (ai.of s6),?_⟩
   rw [length_map,s8.len]
   refine⟨r,s.acts.length,s.names.length,s.acts,as,l,G1,rfl,so.dE,g2.sub,g2.sub _ _ h2,h3,ft,fun p2 G2 H2 g3 Xk gM=>?_⟩
   have dE:=so.dE
   refine⟨q1,p2,_,_,rfl,rfl,g3.same _ _ af,gM,?_,fun q2 n2=>?_⟩
   ·unfold mR
    rw [length_map,length_map,length_range]
    show 1+_<=sizeLine
    omega
   refine k.cI (l:=0::Vbdcan.ints ((range s.acts.length).map fun i=>countItems i l)) hs ((g2.trans g3).loose n2) (by rw [Vbdcan.step,ep];rfl) ((g2.trans g3).same.free n2) ?_
   rw [af]
   congr 2
   unfold mR Vbdcan.ints
   rw [map_cons,map_map,map_map,map_map]
   rfl
end
open Vbdcan (Item Items)
theorem qp {b:Bool}{σ:L2.St}{H:Hp}{Q:VK}(h:Q (.int (bit b)) H):if b=true then tC (.int 1) σ H Q else tC (.int 0) σ H Q:=by
 cases b with
 | true=>exact aH h
 | false=>exact aI h
def mT (c:Cl) (W:Nat) (acts:List Vbdcan.Act) (ts:List (List Nat)):Hp->Nat->V->Prop:=fun G k y=>∃ p,y=.ref p/\∀ t,ts[k]? = some t->ju c W acts G p (readRun acts t)
theorem mT.mono {c:Cl}{W:Nat}{acts:List Vbdcan.Act}{ts:List (List Nat)}{G G':Hp}{k:Nat}{y:V}(g:aJ G G') (h:mT c W acts ts G k y):mT c W acts ts G' k y:=let ⟨p,e,f⟩:=h;⟨p,e,fun t q=>(f t q).mono g⟩
section
theorem Od (T:Txt K mg c):aW P w K mg base 12 "call_compare" ["state","numbers","rows"] (eJ c 14):=by
 refine a0 T.Uj lD (fun f aw A aA s H vs Q E hr h=>?_)
 ·obtain⟨st,la,ln,lr,ns,rs,as,s,d,G,rfl,so,g,hs,hn,cD,cg,ask,hd,k⟩:=h
  obtain⟨t1,t2,rfl,rfl,gL,ku⟩:=My.Wv ask
  obtain⟨a,b,rfl,ha,hb⟩:=Ig cg
  have ed:d=.compare (text t1) (text t2):=(Option.some.inj hd).symm
  subst ed
  rw [gY gL] at ha
  rw [gY ku] at hb
  have bC:(text t1).length<=5000:=by rw [text_len];exact gL.len
  have nQ:(text t2).length<=5000:=by rw [text_len];exact ku.len
  generalize text t1=u1 at *
  generalize text t2=u2 at *
  have hz:sizeLine=16777216:=sizeLine_eq
  have es:Vbdcan.step s (.compare u1 u2)=match Vbdcan.plain s u1,Vbdcan.plain s u2 with
   | .ok l,.ok m=>yes s [bit ((sumItems s.acts l).add == (sumItems s.acts m).add),bit (tighter (sumItems s.acts m) (sumItems s.acts l)),bit (tighter (sumItems s.acts l) (sumItems s.acts m))]
   | .error e,.error f=>Vbdcan.no s (min e f)
   | .error e,_=>Vbdcan.no s e
   |_,.error f=>Vbdcan.no s f:=rfl
  refine⟨_,(ag (ny (i:=4) (own:=[("text",3)]) rfl lD.nd rfl rfl (ni rfl rfl rfl rfl) (fD (pv 2)) (fF (N:=["state","numbers","rows","text","readings","reading","refusals","refusal","due","one","other"]) (sc:=aC qC) (by decide +kernel)) (fun _ _ _ _ _=>(dk (i:=3) lD.nd rfl (Or.inl rfl))) (fun _ _ _ _ _=>gc) (fun _ _ _ _ _=>(pC (mx T) hr (aa (pv 0) (aa (pv 3) ae)))))
    (ag (ny (i:=6) (own:=[("reading",5)]) rfl lD.nd rfl rfl (ni rfl rfl rfl rfl) (fD (pv 4)) (fF (N:=["state","numbers","rows","text","readings","reading","refusals","refusal","due","one","other"]) (sc:=aC qC) (by decide +kernel)) (fun _ _ _ _ _=>(dk (i:=5) lD.nd rfl (Or.inl rfl))) (fun _ _ _ _ _=>gc) (fun _ _ _ _ _=>(pC (qJ T) hr (aa (pv 5) ae))))
    (ag (ny (i:=8) (own:=[("refusal",7)]) rfl lD.nd rfl rfl (ni rfl rfl rfl rfl) (fD (pv 6)) (fF (N:=["state","numbers","rows","text","readings","reading","refusals","refusal","due","one","other"]) (sc:=aC qC) (by decide +kernel)) (fun _ _ _ _ _=>(dk (i:=7) lD.nd rfl (Or.inl rfl))) (fun _ _ _ _ _=>(Dv (aT eO (pv 7) aq (aO _)))) (fun _ _ _ _ _=>(pv 7)))
    (ag (aX (aT fM (bJ cC (by rfl) T.cB PySem.boot_len (aa (pv 8) ae)) aq (aO _)) (ak (ay (aZ (aa (bJ (Vo rfl) (by rfl) T.ou oj (aa (pv 8) ae)) ae)))) aY)
    (ag (pq 9 lD (pC (mw T) hr (aa (cy (K:=K) (bH bQ (pv 4) aq (fun _ _=>rfl)) rfl) (aa (bJ cC (by rfl) T.cB PySem.boot_len (aa (pF K 0) ae)) ae))))
    (ag (pq 10 lD (pC (mw T) hr (aa (cy (K:=K) (bH bQ (pv 4) aq (fun _ _=>rfl)) rfl) (aa (bJ cC (by rfl) T.cB PySem.boot_len (aa (pF K 0) ae)) ae))))
    (ak (ay (aZ (aa aq (aa (i9 (cO (pC (Om T) hr (aa (pv 9) (aa (pv 10) ae)))) aq aq) (aa (i9 (cO (pC (Ee T) hr (aa (pv 9) (aa (pv 10) ae)))) aq aq) (aa (i9 (cO (pC (Ee T) hr (aa (pv 10) (aa (pv 9) ae)))) aq aq) ae))))))))))))),?_⟩
  refine⟨_,rfl,lr,rfl,⟨_,ai.of cD⟩,fun D nD=>?_⟩
  refine kX (K:=K) (a:=lr) (xs:=([a,b]:List Addr).map V.ref) (Lc (mT c s.names.length s.acts [u1,u2]) G H D) (Lc.start g nD) (fun i H1 _ L=>?_) (fun i x H1 hx L=>?_) (fun H1 L=>?_)
  ·obtain⟨zs,G1,g1,_⟩:=L.ex
   exact ai.of (g1.same _ _ cD)
  ·obtain⟨zs,G1,g1,gD,hD,nP,hR⟩:=L.ex
   obtain⟨e,he,rfl⟩:=i4 hx
   obtain⟨u,hu,RC,Q8⟩:∃ u:List Nat,([u1,u2]:List (List Nat))[i]? = some u/\H e=some (.lst (bD u))/\u.length<=5000:=by
    match i,he with
    | 0,he=>cases he;exact⟨u1,rfl,ha,bC⟩
    | 1,he=>cases he;exact⟨u2,rfl,hb,nQ⟩
    | i+2,he=>simp at he
   have hi:i<2:=by have:=(List.getElem?_eq_some_iff.mp he).1;simpa using this
   refine⟨rfl,_,rfl,_,rfl,st,la,e,u,s,G1,rfl,so,g1.sub,hs.mono g1,g1.same _ _ RC,Q8,fun p G2 H2 g2 hp=>?_⟩
   refine Lc.turn (R:=mT c s.names.length s.acts [u1,u2]) mT.mono nD g1 gD hD nP hR g2 ⟨p,rfl,fun t ht=>?_⟩ (by omega)
   rw [hu] at ht
   cases ht
   exact hp
  obtain⟨zs,G1,g1,hD,nP,hR⟩:=Lc.done (R:=mT c s.names.length s.acts [u1,u2]) mT.mono nD L
  obtain⟨p1,p2,rfl,ik,gM⟩:∃ p1 p2,zs=[.ref p1,.ref p2]/\ju c s.names.length s.acts G1 p1 (readRun s.acts u1)/\ju c s.names.length s.acts G1 p2 (readRun s.acts u2):=by
   match zs,nP,hR with
   |[x,y],_,hR=>
    obtain⟨p1,rfl,q1⟩:=hR 0 x rfl
    obtain⟨p2,rfl,q2⟩:=hR 1 y rfl
    exact⟨p1,p2,rfl,q1 u1 rfl,q2 u2 rfl⟩
  refine⟨_,rfl,D,rfl,⟨_,ai.of (g1.sub _ _ hD)⟩,fun D2 yn=>?_⟩
  refine kX (K:=K) (a:=D) (xs:=[.ref p1,.ref p2]) (Lc (mU fun k=>ff (readRun s.acts (([u1,u2]:List (List Nat)).getD k []))) G1 H1 D2) (Lc.start g1.sub yn) (fun i H2 _ L=>?_) (fun i x H2 hx L=>?_) (fun H2 L=>?_)
  ·obtain⟨zs,G2,g2,_⟩:=L.ex
   exact ai.of (g2.same _ _ (g1.sub _ _ hD))
  ·obtain⟨zs,G2,g2,gD,hD',nP,hR⟩:=L.ex
   have hi:i<2:=by have:=(List.getElem?_eq_some_iff.mp hx).1;simpa using this
   obtain⟨p,rfl,hp⟩:∃ p,x=.ref p/\ju c s.names.length s.acts G1 p (readRun s.acts (([u1,u2]:List (List Nat)).getD i [])):=by
    match i,hx with
    | 0,hx=>cases hx;exact⟨p1,rfl,ik⟩
    | 1,hx=>cases hx;exact⟨p2,rfl,gM⟩
    | i+2,hx=>simp at hx
   refine⟨rfl,_,rfl,p,_,_,_,rfl,(hp.mono g2.gg).mono g2.sub,?_⟩
   exact Lc.turn (R:=mU fun k=>ff (readRun s.acts (([u1,u2]:List (List Nat)).getD k []))) (fun _ h=>h) yn g2 gD hD' nP hR (Gr.refl g2.sub) rfl (by omega)
  obtain⟨zs,G2,g2,iO,nP,hR⟩:=Lc.done (R:=mU fun k=>ff (readRun s.acts (([u1,u2]:List (List Nat)).getD k []))) (fun _ h=>h) yn L
  obtain rfl:zs=[.int (ff (readRun s.acts u1)),.int (ff (readRun s.acts u2))]:=by
   match zs,nP,hR with
   |[x,y],_,hR=>
    have q1:=hR 0 x rfl
    have q2:=hR 1 y rfl
    rw [show x=_ from q1,show y=_ from q2]
    rfl
  generalize pN:ff (readRun s.acts u1)=x1 at *
  generalize yM:ff (readRun s.acts u2)=x2 at *
  refine⟨_,rfl,D2,rfl,⟨_,ai.of (g2.sub _ _ iO)⟩,fun D3 ym=>?_⟩
  have bq:=g1.trans g2
  have nD3':H D3=none:=bq.same.free ym
  have u7:G2 D3=none:=bq.sub.free ym
  refine kX (K:=K) (a:=D2) (xs:=[.int x1,.int x2]) (fun i H'=>Gr G H G2 H'/\H' D3=some (.lst ((([x1,x2].take i).filter fun x=>decide (x<0)).map V.int))) ⟨bq.loose ym,af⟩ (fun i H' _ ⟨gg,_⟩=>ai.of (gg.sub _ _ iO)) (fun i x H' hx hI=>?_) (fun H3 hI=>?_)
  ·obtain⟨gg,hq⟩:=hI
   obtain⟨z,hz',rfl⟩:∃ z,([x1,x2]:List Int)[i]? = some z/\x=.int z:=by
    match i,hx with
    | 0,hx=>cases hx;exact⟨x1,rfl,rfl⟩
    | 1,hx=>cases hx;exact⟨x2,rfl,rfl⟩
    | i+2,hx=>simp at hx
   obtain⟨hi,ei⟩:=List.getElem?_eq_some_iff.mp hz'
   have et:([x1,x2]:List Int).take (i+1)=([x1,x2]:List Int).take i++[z]:=by rw [take_succ_eq_append_getElem hi,ei]
   refine⟨rfl,_,rfl,_,_,rfl,rfl,_,rfl,?_⟩
   by_cases uM:z<0
   ·refine cu (decide_eq_true uM) ⟨_,rfl,_,hq,?_,gg.set nD3' u7,?_⟩
    ·rw [length_map]
     have h1:=List.length_filter_le (fun x=>decide (x<0)) (([x1,x2]:List Int).take i)
     rw [length_take] at h1
     have h2:([x1,x2]:List Int).length=2:=rfl
     omega
    ·rw [af,et,filter_append,map_append,filter_cons,if_pos (decide_eq_true uM)]
     rfl
   ·refine cZ (decide_eq_false uM) ⟨gg,?_⟩
    rw [et,filter_append,filter_cons,if_neg (by simpa using uM)]
    simpa using hq
  obtain⟨gg,hq⟩:=hI
  have hq:H3 D3=some (.lst ((([x1,x2]:List Int).filter fun x=>decide (x<0)).map V.int)):=hq
  have r1:=gO s u1
  have r2:=gO s u2
  rw [pN] at r1
  rw [yM] at r2
  have refuse:∀(o6:List Int) (e:Nat),(([x1,x2]:List Int).filter fun x=>decide (x<0))=o6->0<o6.length->(∀ m,m∈o6->(∀ y,y∈o6->y<=m)->m=-(e:Int))->Vbdcan.step s (.compare u1 u2)=Vbdcan.no s e->∀ E':Ends,(∀ v H',Q v H'->E'.rt v H')->
    iB (md (cF (vQ (Ds K) (cF (bV 8) dz)) dz)) E' [some (.ref st),some (.ref ln),some (.ref lr),none,some (.ref D),none,some (.ref D2),none,some (.ref D3),none,none] H3:=fun o6 e hf rB Q7 eZ E' hE=>by
   rw [hf] at hq
   refine⟨_,rfl,D3,o6,rfl,ai.of hq,rB,fun m hm e7=>⟨bu,fun q nq=>hE _ _ ?_⟩⟩
   rw [Q7 m hm e7]
   exact k.refuse hs gg eZ q nq
  refine⟨_,rfl,D3,_,rfl,.inl (ai.of hq),_,_,rfl,rfl,_,rfl,?_⟩
  rw [length_map]
  cases ve:Vbdcan.plain s u1 with
  | error e=>
   have he:=gF ve
   rw [ve] at r1 es
   have r1:x1=-(e:Int):=r1
   cases mP:Vbdcan.plain s u2 with
   | error f=>
    have hf:=gF mP
    rw [mP] at r2 es
    have r2:x2=-(f:Int):=r2
    have es:Vbdcan.step s (.compare u1 u2)=Vbdcan.no s (min e f):=es
    have ef:(([x1,x2]:List Int).filter fun x=>decide (x<0))=[x1,x2]:=by
     rw [filter_cons,if_pos (decide_eq_true (by omega)),filter_cons,if_pos (decide_eq_true (by omega))];rfl
    rw [ef]
    refine aH (refuse [x1,x2] (min e f) ef (by simp) (fun m hm e7=>?_) es _ (fun _ _ z=>z))
    have h1:=e7 x1 (by simp)
    have h2:=e7 x2 (by simp)
    simp at hm
    rcases hm with z | z<;>omega
   | ok m=>
    rw [mP] at r2 es
    have r2:x2=0:=r2
    have es:Vbdcan.step s (.compare u1 u2)=Vbdcan.no s e:=es
    have ef:(([x1,x2]:List Int).filter fun x=>decide (x<0))=[x1]:=by
     rw [filter_cons,if_pos (decide_eq_true (by omega)),filter_cons,if_neg (by simp;omega)];rfl
    rw [ef]
    refine aH (refuse [x1] e ef (by simp) (fun m hm e7=>?_) es _ (fun _ _ z=>z))
    simp at hm
    omega
  | ok l=>
   rw [ve] at r1 es
   have r1:x1=0:=r1
   cases mP:Vbdcan.plain s u2 with
   | error f=>
    have hf:=gF mP
    rw [mP] at r2 es
    have r2:x2=-(f:Int):=r2
    have es:Vbdcan.step s (.compare u1 u2)=Vbdcan.no s f:=es
    have ef:(([x1,x2]:List Int).filter fun x=>decide (x<0))=[x2]:=by
     rw [filter_cons,if_neg (by simp;omega),filter_cons,if_pos (decide_eq_true (by omega))];rfl
    rw [ef]
    refine aH (refuse [x2] f ef (by simp) (fun m hm e7=>?_) es _ (fun _ _ z=>z))
    simp at hm
    omega
   | ok m=>
    rw [mP] at r2 es
    have r2:x2=0:=r2
    dsimp only at es
    have ef:(([x1,x2]:List Int).filter fun x=>decide (x<0))=[]:=by
     rw [filter_cons,if_neg (by simp;omega),filter_cons,if_neg (by simp;omega)];rfl
    rw [ef]
    refine aI ?_
    obtain⟨m1,UH,UL,QQ⟩:=gQ ve
    obtain⟨m2,UG,UK,QP⟩:=gQ mP
    obtain⟨U1,Xq,Mg,XR,zp,Xf,XN,Ic,a1,a2,a3⟩:=(ik.mono g2.gg).plain UH UL
    obtain⟨U0,Xp,Mf,XQ,hd2,Xe,zP,vq,b1,b2,b3⟩:=(gM.mono g2.gg).plain UG UK
    have sf:∀(as:List Addr) (l:Items),bj c s.names.length s.acts G2 as l->fW s.acts.length l->as.length<=5000:=fun as l h3 ft=>by
     have h1:=gG ((My.listOf l).map fun x=>(x,1))
     rw [gh,length_map,←h3.get.1] at h1
     have:=ft.nodes
     omega
    obtain⟨eQ,bp,lh,ov,ts,cq,s1,s2,s3,s4,s5,s6,s7,s8,s9,eV,cX⟩:=(hs.mono gg).ex
    have mf:=gg.sub
    refine⟨_,rfl,D,_,0,_,rfl,rfl,ai.of (mf _ _ (g2.gg _ _ hD)),bS (j:=0) rfl,p1,_,U1,_,_,rfl,mf _ _ a1,T.aL.cl,T.aL.n,rfl,_,rfl,st,_,eQ,_,_,rfl,s1,T.aE.cl,T.aE.n,rfl,lh,_,rfl,.inl (ai.of s5),?_⟩
    rw [dD]
    refine⟨s.acts,Mg,s.names.length,Ic,l,G2,rfl,so.w,mf,mf _ _ a2,a3,sf Ic l a3 QQ,so.ok,fun o1 G4 H4 g4 uL=>?_⟩
    refine⟨_,rfl,D,_,1,_,rfl,rfl,ai.of (g4.same _ _ (mf _ _ (g2.gg _ _ hD))),bS (j:=1) rfl,p2,_,U0,_,_,rfl,g4.same _ _ (mf _ _ b1),T.aL.cl,T.aL.n,rfl,_,rfl,st,_,eQ,_,_,rfl,g4.same _ _ s1,T.aE.cl,T.aE.n,rfl,lh,_,rfl,.inl (ai.of (g4.same _ _ s5)),?_⟩
    rw [dD]
    refine⟨s.acts,Mf,s.names.length,vq,m,G4,rfl,so.w,g4.sub,g4.same _ _ (mf _ _ b2),bj.mono g4.gg _ b3,sf vq m b3 QP,so.ok,fun o2 G5 H5 g5 k7=>?_⟩
    have wl:=bU so.ok l
    have wm:=bU so.ok m
    have tl:=eU so.ok so.tail l
    have tm:=eU so.ok so.tail m
    have ho1':=uL.mono g5.gg
    refine⟨_,rfl,_,rfl,o1,o2,_,_,s.names.length,G5,rfl,so.w,g5.sub,ho1',k7,wl.1,wm.1,tl,tm,fun H6 G6 g6=>⟨_,rfl,qp ?_⟩⟩
    refine⟨_,rfl,_,rfl,o1,o2,_,_,s.names.length,G6,rfl,so.w,g6.sub,ho1'.mono g6.gg,k7.mono g6.gg,wl.1,wm.1,tl,tm,fun H7 G7 g7=>⟨_,rfl,qp ?_⟩⟩
    have zG:=g6.trans g7
    refine⟨_,rfl,_,rfl,o2,o1,_,_,s.names.length,G7,rfl,so.w,g7.sub,k7.mono zG.gg,ho1'.mono zG.gg,wm.1,wl.1,tm,tl,fun H8 G8 g8=>⟨_,rfl,qp ?_⟩⟩
    refine⟨(by show 4<=sizeLine;decide),fun q nq=>?_⟩
    have lg:=gg.trans ((g4.trans g5).trans (zG.trans g8))
    exact k.cI hs (lg.loose nq) es (lg.same.free nq) af
end
open Vbdcan (Item Items)
def Mp:Except Nat Items->Int
 | .error e=>-(e:Int)
 | .ok _=>0
def HY (r:Int) (v:V):List (Str×V):=[("refusal",.int r),("run",v)]
def AttAt (c:Cl) (W:Nat) (acts:List Vbdcan.Act) (G:Hp) (p:Addr) (res:Except Nat Items):Prop:=∃ dx rv,G p=some (.ins c.attempt dx (HY (Mp res) rv))/\∀ l,res=.ok l->∃ ra,rv=.ref ra/\bF c W acts G ra (.rep 1 l)
def qF (s:State):Except Nat Items->Int
 | .error e=>if e=2 then -2 else if s.offer.isSome=true then -6 else -(e:Int)
 | .ok l=>if fits s.regs (sumItems s.acts l).box=true/\beyond (plus s.regs (sumItems s.acts l).add)=true then -4 else if s.offer.isSome=true then -6 else if fits s.regs (sumItems s.acts l).box=true then 0 else -7
theorem nU {s:State}{rs:List Int}(h:rs.length=8) (hW:s.names.length<=8):bz s.names.length rs=(Vbdcan.shown s rs).map V.int:=by
 unfold bz Vbdcan.shown
 rw [My.Ld h hW,map_map]
 rfl
theorem gv {s:State}(h:cN s):Ws s.names.length s.acts:=⟨h.w,h.ok,h.small,h.tail⟩
theorem xt {s:State}{e:Nat}:qF s (.error e)=if e=2 then -2 else if s.offer.isSome=true then -6 else -(e:Int):=rfl
theorem tR {s:State}{l:Items}:qF s (.ok l)=if fits s.regs (sumItems s.acts l).box=true/\beyond (plus s.regs (sumItems s.acts l).add)=true then -4 else if s.offer.isSome=true then -6 else if fits s.regs (sumItems s.acts l).box=true then 0 else -7:=rfl
theorem whole_run {W:Nat}{acts:List Vbdcan.Act}(ws:Ws W acts) (l:Items):sumItem acts (.rep 1 l)=sumItems acts l:=by rw [sumItem,fZ (bU ws.ok l).1]
section
def V9:List V->List (Str×V)
 |[x1,x2]=>[("refusal",x1),("run",x2)]
 |_=>[]
theorem yq (T:Txt K mg c):iw P w K mg base 1 "Attempt" c.attempt ["self","refusal","run"] (ml c.attempt 2 V9):=by
 refine lH T.bw L9 (fun vs H Q E h=>?_) (fun f aw A aA s H vs Q E hr h=>?_)
 ·obtain⟨p,dx,args,rfl,hl,_⟩:=h
  show args.length+1=3
  omega
 ·obtain⟨p,dx,args,rfl,hl,hp,k⟩:=h
  match args,hl,k with
  |[x1,x2],_,k=>
  refine⟨_,(ag (bL (pv 0) (pv 1) rfl)
    (ak (bL (pv 0) (pv 2) rfl))),?_⟩
  refine⟨_,rfl,_,rfl,p,_,dx,_,rfl,hp,T.bw.cl,T.bw.n,(by show 0<1000;decide),?_⟩
  refine⟨_,rfl,_,rfl,p,_,dx,_,rfl,af,T.bw.cl,T.bw.n,(by show 1<1000;decide),?_⟩
  rw [bM]
  exact k
def K2 (c:Cl):Sp:=fun vs H Q _=>∃(st la l:Addr) (t:List Nat) (s:State) (G:Hp),vs=[.ref st,.ref l]/\cN s/\aJ G H/\fG c G H st la s/\H l=some (.lst (bD t))/\t.length<=5000 /\
 ∀ p G' H',Gr G H G' H'->AttAt c s.names.length s.acts G' p (settled s t)->Q (.ref p) H'
theorem o5 (T:Txt K mg c):aW P w K mg base 12 "attempt" ["state","text"] (K2 c):=by
 refine a0 T.Ur wQ (fun f aw A aA s H vs Q E hr h=>?_)
 ·obtain⟨st,la,l,t,s,G,rfl,so,g,hs,hl,zx,k⟩:=h
  refine⟨_,(ag (pq 2 wQ (pC (mx T) hr (aa (pv 0) (aa (pv 1) ae))))
    (ag (aX (aT fM (pF K 2) aq (aO _)) (ak (ay (eL (yq T) (hr.mono (by decide)) rfl (aa (bP rfl T.p8) (aa cj ae))))) aY)
    (ag (pq 3 wQ (pC (NG T) hr (aa (pF K 2) (aa (pF K 0) ae))))
    (ag (aX (aT gR (pv 3) cj (aO _)) (ak (ay (eL (yq T) (hr.mono (by decide)) rfl (aa (bP rfl T.HJ) (aa cj ae))))) aY)
    (ak (ay (eL (yq T) (hr.mono (by decide)) rfl (aa aq (aa (pv 3) ae))))))))),?_⟩
  refine⟨_,rfl,_,rfl,st,la,l,t,s,G,rfl,so,g,hs,hl,zx,fun p G1 H1 g1 hp=>?_⟩
  obtain⟨dx,kd,r,ar,pl,hd',sn,dp,h1,h2,h3⟩:=hp.ex
  refine⟨_,rfl,p,_,dx,_,_,rfl,g1.sub _ _ h1,T.aL.cl,T.aL.n,rfl,_,_,rfl,rfl,_,rfl,?_⟩
  cases er:readRun s.acts t with
  | error e=>
   obtain⟨e1,e2⟩:=h2 e er
   refine cu (decide_eq_true (show(0:Int)<(pl:Int) by omega)) ?_
   have es:settled s t=.error 2:=by unfold settled;rw [er]
   rw [es] at k
   refine fun x dy n1 n2 n3=>⟨x,dy,_,rfl,rfl,af,rfl,?_⟩
   rw [bM]
   exact k _ _ _ (g1.made n1 n2 n3) ⟨dy,.aD,af,fun l e=>by cases e⟩
  | ok m=>
   obtain⟨e1,e2,e3,as,h4,h5⟩:=h3 m er
   subst e1
   refine aI ?_
   obtain⟨eQ,bp,lh,ov,ts,cq,s1,s2,s3,s4,s5,s6,s7,s8,s9,eV,cX⟩:=(hs.mono g1).ex
   obtain⟨m1,m2⟩:=My.Dm s.acts t m er
   have m3:=My.Dl s.acts t m er
   refine⟨_,rfl,p,_,dx,_,_,rfl,g1.sub _ _ h1,T.aL.cl,T.aL.n,rfl,_,rfl,st,_,eQ,_,_,rfl,s1,T.aE.cl,T.aE.n,rfl,r,lh,m,s.regs,s.names.length,s.acts,as,G1,rfl,(gv so),g1.sub,h4,h5,s5,so.regs,so.now,m1,m2,m3,fun en G2 H2 g2=>?_,fun l' el p2 G2 H2 g2 gM=>?_⟩
   ·have es:settled s t=.error 8:=by unfold settled;rw [er];dsimp only;rw [en]
    rw [es] at k
    refine⟨_,rfl,rfl,_,rfl,aH ?_⟩
    refine fun x dy n1 n2 n3=>⟨x,dy,_,rfl,rfl,af,rfl,?_⟩
    rw [bM]
    exact k _ _ _ ((g1.trans g2).made n1 n2 n3) ⟨dy,.aD,af,fun l e=>by cases e⟩
   ·have es:settled s t=.ok (itemsOf l'):=by unfold settled;rw [er];dsimp only;rw [el]
    rw [es] at k
    refine⟨_,rfl,rfl,_,rfl,aI ?_⟩
    refine⟨_,rfl,?_⟩
    refine fun x dy n1 n2 n3=>⟨x,dy,_,rfl,rfl,af,rfl,?_⟩
    rw [bM]
    have sm:=iF (C:=c.attempt) (fs:=HY 0 (.ref p2)) g2.sub n1 n2
    refine k _ _ _ ((g1.trans g2).made n1 n2 n3) ⟨dy,.ref p2,af,fun l e=>?_⟩
    cases e
    exact⟨p2,rfl,bF.mono sm _ gM⟩
def KA:Sp:=fun vs H Q _=>∃(l:Addr) (W:Nat) (rs:List Int) (G:Hp),vs=[.ref l]/\W<=8/\aJ G H/\H l=some (.lst (bz W rs))/\cH W rs/\∀ G' H',Gr G H G' H'->Q (.bl (!beyond rs)) H'
theorem D9 (T:Txt K mg c):aW P w K mg base 1 "may_be_held" ["values"] KA:=by
 refine a0 T.Tu wB (fun f aw A aA s H vs Q E hr h=>?_)
 ·obtain⟨l,W,rs,G,rfl,hW,g,hl,k6,k⟩:=h
  refine⟨_,(ak (ay (bJ (p6 rfl) (by rfl) T.qc qb (aa (i8 (own:=[("value",1)]) rfl wB.nd (fD (pv 0)) (fF (N:=["values","value"]) (sc:=aC wZ) (by decide +kernel)) (fun _ _ _ _ _=>(dk (i:=1) wB.nd rfl (Or.inl rfl))) (fun _ _ _ _ _=>gc) (fun _ _ _ _ _=>(nE dQ dQ (kP kM (bP rfl T.HL)) (pv 1) (bP rfl T.HL)))) ae)))),?_⟩
  refine⟨_,rfl,l,rfl,⟨_,ai.of hl⟩,fun D nD=>?_⟩
  refine kX (K:=K) (a:=l) (xs:=bz W rs) (Lc (fU fun k=>decide (-(BIG:Int)<=aF rs k)&&decide (aF rs k<=BIG)) G H D) (Lc.start g nD) (fun i H1 _ L=>?_) (fun i x H1 hx L=>?_) (fun H1 L=>?_)
  ·obtain⟨zs,G1,g1,_⟩:=L.ex
   exact ai.of (g1.same _ _ hl)
  ·obtain⟨zs,G1,g1,gD,hD,bC,hR⟩:=L.ex
   obtain⟨rfl,hi⟩:=uQ hx
   refine⟨rfl,_,rfl,_,rfl,_,_,rfl,rfl,_,rfl,?_⟩
   have e9:(BIG:Int)=1000000000000000000:=rfl
   have turn:∀ b:Bool,b=(decide (-(BIG:Int)<=aF rs i)&&decide (aF rs i<=BIG))->∃ acc,H1 D=some (.lst acc)/\acc.length<sizeLine/\Lc (fU fun k=>decide (-(BIG:Int)<=aF rs k)&&decide (aF rs k<=BIG)) G H D (i+1) (upd H1 D (.lst (acc++[.bl b]))):=fun b hb=>
    Lc.turn (R:=fU fun k=>decide (-(BIG:Int)<=aF rs k)&&decide (aF rs k<=BIG)) (fun _ h=>h) nD g1 gD hD bC hR (Gr.refl g1.sub) (congrArg V.bl hb) (by omega)
   by_cases h0:-1000000000000000000<=aF rs i
   ·refine cu (decide_eq_true h0) ⟨_,_,rfl,rfl,turn _ ?_⟩
    rw [e9,decide_eq_true h0,Bool.true_and]
   ·refine cZ (decide_eq_false h0) (turn _ ?_)
    rw [e9,decide_eq_false h0,Bool.false_and]
  ·obtain⟨zs,G1,g1,hD,bC,hR⟩:=Lc.done (R:=fU fun k=>decide (-(BIG:Int)<=aF rs k)&&decide (aF rs k<=BIG)) (fun _ h=>h) nD L
   rw [dD] at bC
   have e:=mF (f:=fun k=>V.bl (decide (-(BIG:Int)<=aF rs k)&&decide (aF rs k<=BIG))) bC hR
   subst e
   refine⟨D,(range W).map fun k=>decide (-(BIG:Int)<=aF rs k)&&decide (aF rs k<=BIG),rfl,ai.of (g1.sub _ _ ?_),?_⟩
   ·rw [hD,map_map]
    rfl
   ·have e2:((range W).map fun k=>decide (-(BIG:Int)<=aF rs k)&&decide (aF rs k<=BIG)).all id=!beyond rs:=by
     rw [←My.V3 k6 hW,all_map]
     rfl
    rw [e2]
    exact k G1 H1 g1
def Kt (c:Cl):Sp:=fun vs H Q _=>∃(st la p:Addr) (s:State) (res:Except Nat Items) (G:Hp),vs=[.ref st,.ref p]/\cN s/\aJ G H/\fG c G H st la s/\AttAt c s.names.length s.acts G p res/\(∀ e,res=.error e->e=2\/e=8)/\∀ G' H',Gr G H G' H'->Q (.int (qF s res)) H'
theorem D7 (T:Txt K mg c):aW P w K mg base 3 "refusal_to_do" ["state","tried"] (Kt c):=by
 refine a0 T.Ti Bv (fun f aw A aA s H vs Q E hr h=>?_)
 ·obtain⟨st,la,p,s,res,G,rfl,so,g,hs,⟨dp,rv,hp,QT⟩,QU,k⟩:=h
  obtain⟨dx,bp,lh,ov,ts,cq,h1,h2,h3,h4,h5,h6,h7,h8,h9,gi,cS⟩:=hs.ex
  refine⟨_,(ag (aX (aT dJ (pF K 1) (bP rfl T.p8) (aO _)) (ak (ay (bP rfl T.p8))) aY)
    (ag (pq 2 Bv (oV (ie dJ (pF K 1) aq (aO _)) (mv (pC (ua T) hr (aa (cy (K:=K) (pF K 1) rfl) (aa (pF K 0) ae))))))
    (ag (aX (PW.pt (lF (cO (pv 2)) (lE (fg (cO (pC (D9 T) hr (aa (pC (my T) hr (aa (pF K 0) (aa (cy (K:=K) (pF K 1) rfl) (aa aq ae)))) ae))))))) (ak (ay (bP rfl T.vo))) aY)
    (ag (aX (aT kj (pF K 0) cj (aO _)) (ak (ay (bP rfl T.p9))) aY)
    (ag (aX (aT eO (pF K 1) aq (aO _)) (ak (ay (pF K 1))) aY)
    (ak (ay (i9 (cO (pv 2)) aq (bP rfl T.r6))))))))),?_⟩
  refine⟨_,rfl,p,_,dp,_,_,rfl,g _ _ hp,T.bw.cl,T.bw.n,rfl,rfl,_,rfl,?_⟩
  cases res with
  | error e=>
   have k0:=k G H (Gr.refl g)
   rw [xt] at k0
   rcases QU e rfl with rfl | rfl
   ·exact aH k0
   ·refine aI ?_
    refine⟨_,rfl,p,_,dp,_,_,rfl,g _ _ hp,T.bw.cl,T.bw.n,rfl,rfl,_,rfl,?_⟩
    refine aI ?_
    refine⟨_,rfl,_,rfl,?_⟩
    refine aI (aI ?_)
    refine⟨_,rfl,st,_,dx,_,_,rfl,h1,T.aE.cl,T.aE.n,rfl,rfl,_,rfl,?_⟩
    rw [if_neg (by decide)] at k0
    cases bo:s.offer.isSome with
    | true=>
     refine cu ((kR cS).trans bo) ?_
     rw [if_pos bo] at k0
     exact k0
    | false=>
     refine cZ ((kR cS).trans bo) ?_
     rw [if_neg (by rw [bo];decide)] at k0
     refine⟨_,rfl,p,_,dp,_,_,rfl,g _ _ hp,T.bw.cl,T.bw.n,rfl,_,_,rfl,rfl,_,rfl,?_⟩
     refine aH ?_
     exact⟨_,rfl,p,_,dp,_,_,rfl,g _ _ hp,T.bw.cl,T.bw.n,rfl,k0⟩
  | ok l=>
   obtain⟨ra,rfl,dB⟩:=QT l rfl
   have ws:=gv so
   have ew:=whole_run ws l
   have wl:=bU so.ok l
   have tl:=eU so.ok so.tail l
   obtain⟨dr,x1,x2,x3,x4,sw,r1,r2⟩:=dB.whole
   rw [ew] at r2
   refine aI ?_
   refine⟨_,rfl,p,_,dp,_,_,rfl,g _ _ hp,T.bw.cl,T.bw.n,rfl,rfl,_,rfl,?_⟩
   refine aH ?_
   refine⟨_,rfl,p,_,dp,_,_,rfl,g _ _ hp,T.bw.cl,T.bw.n,rfl,ra,_,dr,_,_,rfl,g _ _ r1,T.aQ.cl,T.aQ.n,rfl,_,rfl,st,_,dx,_,_,rfl,h1,T.aE.cl,T.aE.n,rfl,sw,lh,_,s.regs,s.names.length,G,rfl,so.w,g,r2,h5,so.regs.len,wl.1,tl,fun H1 G1 g1=>?_⟩
   have rest:∀(G2 H2:Hp),Gr G H G2 H2->¬ (fits s.regs (sumItems s.acts l).box=true/\beyond (plus s.regs (sumItems s.acts l).add)=true)->
     iA (lB (lA (fH (fun x y H Q=>y=.aD/\Q (.bl (!decide (x=.aD))) H) (du K (bV 0) "offer") (tC .aD))) (iB (tC (.int (-6)))) jB)
      (iA (lB (lA (fH (i6 fun i j=>.bl (decide (i<j))) (du K (bV 1) "refusal") (tC (.int 0)))) (iB (du K (bV 1) "refusal")) jB)
       (iB (A8 (tB (bV 2)) (tC (.int 0)) (tC (.int (-7)))))) { nx:=fun _ H'=>Q .aD H',rt:=Q } [some (.ref st),some (.ref p),some (.bl (fits s.regs (sumItems s.acts l).box))] H2:=fun G2 H2 gg bT=>by
    have k2:=k G2 H2 gg
    rw [tR] at k2
    rw [if_neg bT] at k2
    refine⟨_,rfl,st,_,dx,_,_,rfl,gg.same _ _ h1,T.aE.cl,T.aE.n,rfl,rfl,_,rfl,?_⟩
    cases bo:s.offer.isSome with
    | true=>
     refine cu ((kR cS).trans bo) ?_
     rw [if_pos bo] at k2
     exact k2
    | false=>
     refine cZ ((kR cS).trans bo) ?_
     rw [if_neg (by rw [bo];decide)] at k2
     refine⟨_,rfl,p,_,dp,_,_,rfl,gg.sub _ _ (gg.gg _ _ hp),T.bw.cl,T.bw.n,rfl,_,_,rfl,rfl,_,rfl,?_⟩
     refine aI ?_
     refine⟨_,rfl,_,rfl,?_⟩
     cases bf:fits s.regs (sumItems s.acts l).box with
     | true=>
      rw [if_pos bf] at k2
      exact aH k2
     | false=>
      rw [if_neg (by rw [bf];decide)] at k2
      exact aI k2
   refine⟨_,rfl,_,rfl,?_⟩
   cases bf:fits s.regs (sumItems s.acts l).box with
   | false=>
    refine aI (aI ?_)
    have:=rest G1 H1 g1 (fun z=>by rw [bf] at z;cases z.1)
    rw [bf] at this
    exact this
   | true=>
    refine aH ?_
    refine⟨_,rfl,st,_,dx,_,_,rfl,g1.same _ _ h1,T.aE.cl,T.aE.n,rfl,_,rfl,p,_,dp,_,_,rfl,g1.sub _ _ (g1.gg _ _ hp),T.bw.cl,T.bw.n,rfl,ra,_,dr,_,_,rfl,g1.sub _ _ (g1.gg _ _ r1),T.aQ.cl,T.aQ.n,rfl,sw,lh,1,_,s.regs,s.names.length,G1,rfl,so.w,g1.sub,r2.mono g1.gg,g1.same _ _ h5,so.regs.len,wl.1,fun _ _=>oZ _,fun q H2 G2 g2 hq=>?_⟩
    rw [fA wl.1.add] at hq
    refine⟨q,s.names.length,_,G2,rfl,so.w,g2.sub,g2.sub _ _ hq,ib so.ok so.tail so.regs l,fun G3 H3 g3=>⟨_,rfl,?_⟩⟩
    have lg:=(g1.trans g2).trans g3
    cases bb:beyond (plus s.regs (sumItems s.acts l).add) with
    | true=>
     refine aH ?_
     have k2:=k G3 H3 lg
     rw [tR] at k2
     rw [if_pos ⟨bf,bb⟩] at k2
     exact k2
    | false=>
     refine aI ?_
     have:=rest G3 H3 lg (fun z=>by rw [bb] at z;cases z.2)
     rw [bf] at this
     exact this
end
open Vbdcan (Item Items)
section
theorem Oe (T:Txt K mg c):aW P w K mg base 13 "call_can" ["state","numbers","rows"] (eJ c 7):=by
 refine a0 T.Uk BC (fun f aw A aA s H vs Q E hr h=>?_)
 ·obtain⟨st,la,ln,lr,ns,rs,as,s,d,G,rfl,so,g,hs,hn,cD,cg,ask,hd,k⟩:=h
  obtain⟨t0,rfl,rfl,ht⟩:=My.Wg ask
  obtain⟨a,rfl,ha⟩:=jr cg
  have ed:d=.can (text t0):=(Option.some.inj hd).symm
  subst ed
  rw [gY ht] at ha
  have dm:(text t0).length<=5000:=by rw [text_len];exact ht.len
  generalize text t0=t at *
  refine⟨_,(ag (pq 3 BC (pC (o5 T) hr (aa (pv 0) (aa (bH bQ (pv 2) aq (fun _ _=>rfl)) ae))))
    (ag (aX (aT eO (pF K 3) aq (aO _)) (ak (ay (aZ (aa (pF K 3) ae)))) aY)
    (ak (ay (aZ (aa aq (aa (i9 (cO (pC (ua T) hr (aa (cy (K:=K) (pF K 3) rfl) (aa (pF K 0) ae)))) aq aq) ae))))))),?_⟩
  refine⟨_,rfl,_,rfl,lr,_,0,_,rfl,rfl,ai.of cD,bS (j:=0) rfl,st,la,a,t,s,G,rfl,so,g,hs,ha,dm,fun p G1 H1 g1 hp=>?_⟩
  obtain⟨dp,rv,h1,h2⟩:=hp
  refine⟨_,rfl,p,_,dp,_,_,rfl,g1.sub _ _ h1,T.bw.cl,T.bw.n,rfl,_,_,rfl,rfl,_,rfl,?_⟩
  cases er:settled s t with
  | error e=>
   rw [er] at h1
   have he:=fY er
   refine cu (decide_eq_true (show -(e:Int)<0 by omega)) ?_
   exact⟨_,rfl,p,_,dp,_,_,rfl,g1.sub _ _ h1,T.bw.cl,T.bw.n,rfl,bu,k.refuse hs g1 (by rw [Vbdcan.step,er])⟩
  | ok l=>
   rw [er] at h1
   obtain⟨ra,rfl,dB⟩:=h2 l er
   refine aI ?_
   obtain⟨dr,x1,x2,x3,x4,sw,r1,r2⟩:=dB.whole
   rw [whole_run (gv so) l] at r2
   have wl:=bU so.ok l
   have tl:=eU so.ok so.tail l
   obtain⟨eQ,bp,lh,ov,ts,cq,s1,s2,s3,s4,s5,s6,s7,s8,s9,eV,cX⟩:=(hs.mono g1).ex
   refine⟨_,rfl,p,_,dp,_,_,rfl,g1.sub _ _ h1,T.bw.cl,T.bw.n,rfl,ra,_,dr,_,_,rfl,g1.sub _ _ r1,T.aQ.cl,T.aQ.n,rfl,_,rfl,st,_,eQ,_,_,rfl,s1,T.aE.cl,T.aE.n,rfl,sw,lh,_,s.regs,s.names.length,G1,rfl,so.w,g1.sub,r2,s5,so.regs.len,wl.1,tl,fun H2 G2 g2=>⟨_,rfl,qp ?_⟩⟩
   refine⟨jf,fun q nq=>?_⟩
   exact k.cI hs ((g1.trans g2).loose nq) (by rw [Vbdcan.step,er];rfl) ((g1.trans g2).same.free nq) af
theorem N1 (T:Txt K mg c):aW P w K mg base 13 "call_run" ["state","numbers","rows"] (eJ c 8):=by
 refine a0 T.T6 wJ (fun f aw A aA s H vs Q E hr h=>?_)
 ·obtain⟨st,la,ln,lr,ns,rs,as,s,d,G,rfl,so,g,hs,hn,cD,cg,ask,hd,k⟩:=h
  obtain⟨t0,rfl,rfl,ht⟩:=My.We ask
  obtain⟨a,rfl,ha⟩:=jr cg
  have ed:d=.run (text t0):=(Option.some.inj hd).symm
  subst ed
  rw [gY ht] at ha
  have dm:(text t0).length<=5000:=by rw [text_len];exact ht.len
  generalize text t0=t at *
  have hz:sizeLine=16777216:=sizeLine_eq
  have w8:=so.w
  refine⟨_,(ag (pq 3 wJ (pC (o5 T) hr (aa (pv 0) (aa (bH bQ (pv 2) aq (fun _ _=>rfl)) ae))))
    (ag (pq 4 wJ (pC (D7 T) hr (aa (pv 0) (aa (pv 3) ae))))
    (ag (aX (aT eO (pv 4) aq (aO _)) (ak (ay (aZ (aa (pv 4) ae)))) aY)
    (ag (bL (pv 0) (pC (my T) hr (aa (pF K 0) (aa (cy (K:=K) (pF K 3) rfl) (aa aq ae)))) rfl)
    (ak (ay (bA ig (aZ (aa aq (aa (cy (K:=K) (cy (K:=K) (pF K 3) rfl) rfl) ae))) (pF K 0)))))))),?_⟩
  refine⟨_,rfl,_,rfl,lr,_,0,_,rfl,rfl,ai.of cD,bS (j:=0) rfl,st,la,a,t,s,G,rfl,so,g,hs,ha,dm,fun p G1 H1 g1 hp=>?_⟩
  refine⟨_,rfl,_,rfl,st,la,p,s,_,G1,rfl,so,g1.sub,hs.mono g1,hp,fun e he=>fY he,fun G2 H2 g2=>?_⟩
  have bq:=g1.trans g2
  generalize hD:qF s (settled s t)=D
  refine⟨_,rfl,_,_,rfl,rfl,_,rfl,?_⟩
  obtain⟨dp,rv,h1,h2⟩:=hp
  cases er:settled s t with
  | error e=>
   have he:=fY er
   rw [er,xt] at hD
   have es:Vbdcan.step s (.run t)=if e=8/\s.offer.isSome=true then Vbdcan.no s 6 else Vbdcan.no s e:=by rw [Vbdcan.step,er]
   rcases he with rfl | rfl
   ·rw [if_pos rfl] at hD
    subst hD
    exact aH ⟨_,rfl,bu,k.refuse hs bq (n:=2) (by rw [es,if_neg (fun z=>absurd z.1 (by decide))])⟩
   ·rw [if_neg (by decide)] at hD
    by_cases bo:s.offer.isSome=true
    ·rw [if_pos bo] at hD
     subst hD
     exact aH ⟨_,rfl,bu,k.refuse hs bq (n:=6) (by rw [es,if_pos ⟨rfl,bo⟩])⟩
    ·rw [if_neg bo] at hD
     subst hD
     exact aH ⟨_,rfl,bu,k.refuse hs bq (n:=8) (by rw [es,if_neg (fun z=>bo z.2)])⟩
  | ok l=>
   rw [er] at h1
   obtain⟨ra,rfl,dB⟩:=h2 l er
   have es:Vbdcan.step s (.run t)=if fits s.regs (sumItems s.acts l).box=true/\beyond (plus s.regs (sumItems s.acts l).add)=true then Vbdcan.no s 4 else if s.offer.isSome=true then Vbdcan.no s 6
    else if fits s.regs (sumItems s.acts l).box=false then Vbdcan.no s 7 else yes { s with regs:=plus s.regs (sumItems s.acts l).add } (((sumItems s.acts l).len:Int)::Vbdcan.shown s (plus s.regs (sumItems s.acts l).add)):=by rw [Vbdcan.step,er]
   rw [er,tR] at hD
   by_cases bb:fits s.regs (sumItems s.acts l).box=true/\beyond (plus s.regs (sumItems s.acts l).add)=true
   ·rw [if_pos bb] at hD
    subst hD
    exact aH ⟨_,rfl,bu,k.refuse hs bq (n:=4) (by rw [es,if_pos bb])⟩
   rw [if_neg bb] at hD es
   by_cases bo:s.offer.isSome=true
   ·rw [if_pos bo] at hD
    subst hD
    exact aH ⟨_,rfl,bu,k.refuse hs bq (n:=6) (by rw [es,if_pos bo])⟩
   rw [if_neg bo] at hD es
   by_cases bf:fits s.regs (sumItems s.acts l).box=true
   rotate_left
   ·rw [if_neg bf] at hD
    subst hD
    exact aH ⟨_,rfl,bu,k.refuse hs bq (n:=7) (by rw [es,if_pos (by simpa using bf)])⟩
   rw [if_pos bf] at hD
   subst hD
   rw [if_neg (by rw [bf];decide)] at es
   refine aI ?_
   obtain⟨dr,x1,x2,x3,x4,sw,r1,r2⟩:=dB.whole
   rw [whole_run (gv so) l] at r2
   have wl:=bU so.ok l
   obtain⟨dx,bp,lh,ov,ts,cq,s1,s2,s3,s4,s5,s6,s7,s8,s9,eV,cX⟩:=(hs.mono bq).ex
   refine⟨_,rfl,st,_,dx,_,_,rfl,s1,T.aE.cl,T.aE.n,rfl,_,rfl,p,_,dp,_,_,rfl,g2.sub _ _ (g2.gg _ _ h1),T.bw.cl,T.bw.n,rfl,ra,_,dr,_,_,rfl,g2.sub _ _ (g2.gg _ _ r1),T.aQ.cl,T.aQ.n,rfl,sw,lh,1,_,s.regs,s.names.length,G2,rfl,so.w,g2.sub,r2.mono g2.gg,s5,so.regs.len,wl.1,fun _ _=>oZ _,fun q H3 G3 g3 hq=>?_⟩
   rw [fA wl.1.add] at hq
   have eI:=bq.trans g3
   have cx:=ib so.ok so.tail so.regs l
   obtain⟨dx,bp,lh,ov,ts,cq,s1,s2,s3,s4,s5,s6,s7,s8,s9,eV,cX⟩:=(hs.mono eI).ex
   refine⟨_,rfl,st,_,dx,_,rfl,s1,T.aE.cl,T.aE.n,(by show 4<1000;decide),?_⟩
   have e8:dj "held" (V.ref q) (bN bp lh la ov)=bN bp q la ov:=rfl
   rw [e8]
   have x8:=(eI.x (st:=st) (la:=la)).mm (o:=.ins c.state dx (bN bp q la ov)) s2
   have qN:q≠st:=fun z=>by rw [z] at hq;rw [hq] at s2;cases s2
   have qO:q≠la:=fun z=>by rw [z] at hq;rw [hq] at s7;cases s7
   have gS:la≠st:=dg s6 s1 (by intro z;cases z)
   have kl:bp≠st:=dg s3 s1 (by intro z;cases z)
   have nN:=g3.sub _ _ (g3.gg _ _ (g2.gg _ _ h1))
   have uI:=g3.sub _ _ (g3.gg _ _ (g2.gg _ _ r1))
   obtain⟨eR,je,w1,w2⟩:=r2
   have uF:=g3.sub _ _ (g3.gg _ _ (g2.gg _ _ w1))
   have np:p≠st:=fun z=>by rw [z] at h1;rw [g3.gg _ _ (g2.gg _ _ h1)] at s2;cases s2
   have o7:ra≠st:=fun z=>by rw [z] at r1;rw [g3.gg _ _ (g2.gg _ _ r1)] at s2;cases s2
   have qM:sw≠st:=fun z=>by rw [z] at w1;rw [g3.gg _ _ (g2.gg _ _ w1)] at s2;cases s2
   have k4:upd H3 st (.ins c.state dx (bN bp q la ov)) st=some (.ins c.state dx (bN bp q la ov)):=af
   have kx:=kq (u:=.ins c.state dx (bN bp q la ov)) (g3.sub _ _ hq) qN
   refine⟨_,rfl,p,_,dp,_,_,rfl,kq nN np,T.bw.cl,T.bw.n,rfl,ra,_,dr,_,_,rfl,kq uI o7,T.aQ.cl,T.aQ.n,rfl,sw,_,eR,_,_,rfl,kq uF qM,T.a9.cl,T.a9.n,rfl,jf,fun q1 n1=>?_⟩
   have x9:=x8.loose (o:=.lst [.int 0,.int (sumItems s.acts l).len]) n1
   refine⟨_,rfl,st,_,dx,_,_,rfl,kp k4 n1,T.aE.cl,T.aE.n,rfl,q1,q,_,_,rfl,rfl,af,kp kx n1,?_,fun q2 n2=>?_⟩
   ·rw [dD]
    show 2+_<=sizeLine
    omega
   refine k q2 G3 _ (x9.loose n2) ?_ (x9.free n2) ?_
   ·rw [es]
    exact⟨dx,bp,q,ov,ts,cq,kp (kp k4 n1) n2,s2,kp (kp (kq s3 kl) n1) n2,s4,kp (kp kx n1) n2,kp (kp (kq s6 gS) n1) n2,s7,s8,s9,⟨_,hq⟩,cX⟩
   ·rw [es,af,nU cx.len w8]
    rfl
theorem N5 (T:Txt K mg c):aW P w K mg base 13 "call_reach" ["state","numbers","rows"] (eJ c 9):=by
 refine a0 T.Ua wK (fun f aw A aA s H vs Q E hr h=>?_)
 ·obtain⟨st,la,ln,lr,ns,rs,as,s,d,G,rfl,so,g,hs,hn,cD,cg,ask,hd,k⟩:=h
  obtain⟨t0,rfl,rfl,ht⟩:=My.Wd ask
  obtain⟨a,rfl,ha⟩:=jr cg
  have ed:d=.reach (text t0):=(Option.some.inj hd).symm
  subst ed
  rw [gY ht] at ha
  have dm:(text t0).length<=5000:=by rw [text_len];exact ht.len
  generalize text t0=t at *
  have hz:sizeLine=16777216:=sizeLine_eq
  have w8:=so.w
  refine⟨_,(ag (pq 3 wK (pC (o5 T) hr (aa (pv 0) (aa (bH bQ (pv 2) aq (fun _ _=>rfl)) ae))))
    (ag (aX (aT eO (pF K 3) aq (aO _)) (ak (ay (aZ (aa (pF K 3) ae)))) aY)
    (ag (pq 4 wK (pC (xS T) hr (aa (pF K 3) (aa (pF K 0) ae))))
    (ak (ay (bA ig (aZ (aa aq (aa (pF K 4) (aa (i9 (aT dJ (pF K 4) (cy (K:=K) (cy (K:=K) (pF K 3) rfl) rfl) (aO _)) aq aq) ae)))) (pF K 4))))))),?_⟩
  refine⟨_,rfl,_,rfl,lr,_,0,_,rfl,rfl,ai.of cD,bS (j:=0) rfl,st,la,a,t,s,G,rfl,so,g,hs,ha,dm,fun p G1 H1 g1 hp=>?_⟩
  obtain⟨dp,rv,h1,h2⟩:=hp
  refine⟨_,rfl,p,_,dp,_,_,rfl,g1.sub _ _ h1,T.bw.cl,T.bw.n,rfl,_,_,rfl,rfl,_,rfl,?_⟩
  cases er:settled s t with
  | error e=>
   rw [er] at h1
   have he:=fY er
   refine cu (decide_eq_true (show -(e:Int)<0 by omega)) ?_
   exact⟨_,rfl,p,_,dp,_,_,rfl,g1.sub _ _ h1,T.bw.cl,T.bw.n,rfl,bu,k.refuse hs g1 (by rw [Vbdcan.step,er])⟩
  | ok l=>
   rw [er] at h1
   obtain⟨ra,rfl,dB⟩:=h2 l er
   refine aI ?_
   obtain⟨dr,x1,x2,x3,x4,sw,r1,r2⟩:=dB.whole
   rw [whole_run (gv so) l] at r2
   obtain⟨eR,je,w1,w2⟩:=r2
   obtain⟨eQ,bp,lh,ov,ts,cq,s1,s2,s3,s4,s5,s6,s7,s8,s9,eV,cX⟩:=(hs.mono g1).ex
   have fq:=iE so er
   have rA:=(gC so.ok l s.regs so.regs.len).2.1
   refine⟨_,rfl,p,_,dp,_,_,rfl,g1.sub _ _ h1,T.bw.cl,T.bw.n,rfl,_,rfl,st,_,eQ,_,_,rfl,s1,T.aE.cl,T.aE.n,rfl,ra,lh,l,s.regs,s.names.length,s.acts,G1,rfl,(gv so),g1.sub,dB,s5,so.regs,so.now,fq,fun rp oe nl G2 H2 g2 rq cK=>?_⟩
   have b1:=g2.sub _ _ rq
   refine⟨_,rfl,rp,_,oe,_,_,rfl,b1,T.ij.cl,T.ij.n,rfl,?_⟩
   refine⟨_,rfl,rp,_,oe,_,_,rfl,b1,T.ij.cl,T.ij.n,rfl,_,rfl,p,_,dp,_,_,rfl,g2.sub _ _ (g2.gg _ _ h1),T.bw.cl,T.bw.n,rfl,ra,_,dr,_,_,rfl,g2.sub _ _ (g2.gg _ _ r1),T.aQ.cl,T.aQ.n,rfl,sw,_,eR,_,_,rfl,g2.sub _ _ (g2.gg _ _ w1),T.a9.cl,T.a9.n,rfl,rfl,_,rfl,?_⟩
   have eb:decide (V.int ((reachItems s.acts s.regs l).1:Int)=V.int ((sumItems s.acts l).len:Int))=(reachItems s.acts s.regs l).2.2:=by
    rw [My.Mw so l,Bool.eq_iff_iff,decide_eq_true_eq,decide_eq_true_eq]
    exact⟨fun z=>by injection z with z;omega,fun z=>by rw [z]⟩
   rw [eb]
   refine qp ?_
   refine⟨(by show 3<=sizeLine;decide),fun q1 n1=>?_⟩
   have bq:=g1.trans g2
   have g3:=bq.loose (o:=.lst [.int 0,.int (reachItems s.acts s.regs l).1,.int (bit (reachItems s.acts s.regs l).2.2)]) n1
   refine⟨_,rfl,rp,_,oe,_,_,rfl,kp b1 n1,T.ij.cl,T.ij.n,rfl,q1,nl,_,_,rfl,rfl,af,kp cK n1,?_,fun q2 n2=>?_⟩
   ·rw [dD]
    show 3+_<=sizeLine
    omega
   refine k.cI hs (g3.loose n2) (by rw [Vbdcan.step,er];rfl) (g3.same.free n2) ?_
   rw [af,nU rA w8]
   rfl
theorem Of (T:Txt K mg c):aW P w K mg base 13 "call_at" ["state","numbers","rows"] (eJ c 10):=by
 refine a0 T.Ul wN (fun f aw A aA s H vs Q E hr h=>?_)
 ·obtain⟨st,la,ln,lr,ns,rs,as,s,d,G,rfl,so,g,hs,hn,cD,cg,ask,hd,k⟩:=h
  obtain⟨kk,t0,rfl,rfl,Rl,ht⟩:=My.Wz ask
  obtain⟨a,rfl,ha⟩:=jr cg
  have ed:d=.at_ kk (text t0):=(Option.some.inj hd).symm
  subst ed
  rw [gY ht] at ha
  have dm:(text t0).length<=5000:=by rw [text_len];exact ht.len
  generalize text t0=t at *
  have hz:sizeLine=16777216:=sizeLine_eq
  have w8:=so.w
  refine⟨_,(ag (pq 3 wN (bH bQ (pv 1) aq (fun _ _=>rfl)))
    (ag (pq 4 wN (pC (o5 T) hr (aa (pv 0) (aa (bH bQ (pv 2) aq (fun _ _=>rfl)) ae))))
    (ag (aX (PW.pt (lF (aT eO (pv 3) aq (aO _)) (lE (aT oY (pF K 4) (bP rfl T.p8) (aO _))))) (ak (ay (aZ (aa (bP rfl T.r6) ae)))) aY)
    (ag (aX (aT eO (pF K 4) aq (aO _)) (ak (ay (aZ (aa (pF K 4) ae)))) aY)
    (ag (aX (aT fM (pv 3) (cy (K:=K) (pC (xS T) hr (aa (pF K 4) (aa (pF K 0) ae))) rfl) (aO _)) (ak (ay (aZ (aa (bP rfl T.r6) ae)))) aY)
    (ak (ay (bA ig (aZ (aa aq ae)) (pC (xY T) hr (aa (pF K 4) (aa (pv 3) (aa (pF K 0) ae)))))))))))),?_⟩
  refine⟨_,rfl,ln,_,0,_,rfl,rfl,ai.of hn,bS (j:=0) rfl,?_⟩
  refine⟨_,rfl,_,rfl,lr,_,0,_,rfl,rfl,ai.of cD,bS (j:=0) rfl,st,la,a,t,s,G,rfl,so,g,hs,ha,dm,fun p G1 H1 g1 hp=>?_⟩
  obtain⟨dp,rv,h1,h2⟩:=hp
  refine⟨_,rfl,_,_,rfl,rfl,_,rfl,?_⟩
  cases er:settled s t with
  | error e=>
   rw [er] at h1
   have es:Vbdcan.step s (.at_ kk t)=if e=8/\kk<0 then Vbdcan.no s 7 else Vbdcan.no s e:=by rw [Vbdcan.step,er]
   have he:=fY er
   have DG:¬ (e=8/\kk<0)->iA (lB (lA (fH (i6 fun i j=>.bl (decide (i<j))) (du K (bV 4) "refusal") (tC (.int 0)))) (iB (md (cF (du K (bV 4) "refusal") dz))) jB)
     (iA (lB (lA (fH (i6 fun i j=>.bl (decide (j<i))) (bV 3) (du K (iC (wa c) [] E0 (cF (du K (bV 4) "run") (cF (du K (bV 0) "held") dz))) "done"))) (iB (md (cF (tC (.int (-7))) dz))) jB)
      (iB (fH xA (md (cF (tC (.int 0)) dz)) (iC (wd c) [] E0 (cF (du K (bV 4) "run") (cF (bV 3) (cF (du K (bV 0) "held") dz))))))) { nx:=fun _ H'=>Q .aD H',rt:=Q } [some (.ref st),some (.ref ln),some (.ref lr),some (.int kk),some (.ref p)] H1:=fun bT=>by
    refine⟨_,rfl,p,_,dp,_,_,rfl,g1.sub _ _ h1,T.bw.cl,T.bw.n,rfl,_,_,rfl,rfl,_,rfl,?_⟩
    refine cu (decide_eq_true (show -(e:Int)<0 by omega)) ?_
    exact⟨_,rfl,p,_,dp,_,_,rfl,g1.sub _ _ h1,T.bw.cl,T.bw.n,rfl,bu,k.refuse hs g1 (by rw [es,if_neg bT])⟩
   by_cases jR:kk<0
   ·refine cu (decide_eq_true jR) ?_
    refine⟨_,rfl,p,_,dp,_,_,rfl,g1.sub _ _ h1,T.bw.cl,T.bw.n,rfl,rfl,_,rfl,?_⟩
    rcases he with rfl | rfl
    ·exact aI (DG (fun z=>absurd z.1 (by decide)))
    ·exact aH ⟨bu,k.refuse hs g1 (n:=7) (by rw [es,if_pos ⟨rfl,jR⟩])⟩
   ·exact cZ (decide_eq_false jR) (aI (DG (fun z=>jR z.2)))
  | ok l=>
   rw [er] at h1
   obtain⟨ra,rfl,dB⟩:=h2 l er
   have es:Vbdcan.step s (.at_ kk t)=match cutAt s kk l with | none=>Vbdcan.no s 7 | some rs=>yes s (Vbdcan.shown s rs):=by rw [Vbdcan.step,er];rfl
   by_cases jR:kk<0
   ·refine cu (decide_eq_true jR) ?_
    refine⟨_,rfl,p,_,dp,_,_,rfl,g1.sub _ _ h1,T.bw.cl,T.bw.n,rfl,rfl,_,rfl,?_⟩
    exact aH ⟨bu,k.refuse hs g1 (n:=7) (by rw [es];unfold cutAt;rw [if_pos (Or.inl jR)])⟩
   refine cZ (decide_eq_false jR) (aI ?_)
   refine⟨_,rfl,p,_,dp,_,_,rfl,g1.sub _ _ h1,T.bw.cl,T.bw.n,rfl,_,_,rfl,rfl,_,rfl,?_⟩
   refine aI ?_
   obtain⟨eQ,bp,lh,ov,ts,cq,s1,s2,s3,s4,s5,s6,s7,s8,s9,eV,cX⟩:=(hs.mono g1).ex
   have fq:=iE so er
   refine⟨_,rfl,_,rfl,p,_,dp,_,_,rfl,g1.sub _ _ h1,T.bw.cl,T.bw.n,rfl,_,rfl,st,_,eQ,_,_,rfl,s1,T.aE.cl,T.aE.n,rfl,ra,lh,l,s.regs,s.names.length,s.acts,G1,rfl,(gv so),g1.sub,dB,s5,so.regs,so.now,fq,fun rp oe nl G2 H2 g2 rq cK=>?_⟩
   have bq:=g1.trans g2
   refine⟨rp,_,oe,_,_,rfl,g2.sub _ _ rq,T.ij.cl,T.ij.n,rfl,_,_,rfl,rfl,_,rfl,?_⟩
   by_cases nS:((reachItems s.acts s.regs l).1:Int)<kk
   ·exact cu (decide_eq_true nS) ⟨bu,k.refuse hs bq (n:=7) (by rw [es];unfold cutAt;rw [if_pos (Or.inr nS)])⟩
   refine cZ (decide_eq_false nS) ?_
   have ec:cutAt s kk l=some (afterItems s.acts s.regs kk.toNat l):=by unfold cutAt;rw [if_neg (fun z=>by rcases z with z | z;exact jR z;exact nS z)]
   rw [ec] at es
   dsimp only at es
   obtain⟨kn,rfl⟩:∃ kn:Nat,kk=(kn:Int):=⟨kk.toNat,by omega⟩
   rw [Int.toNat_natCast] at es
   have hle:=jD so l
   have cg:=hJ so.ok so.tail l s.regs kn so.regs
   refine⟨bu,fun q1 n1=>?_⟩
   have g3:=bq.loose (o:=.lst [.int 0]) n1
   refine⟨_,rfl,p,_,dp,_,_,rfl,kp (g2.sub _ _ (g2.gg _ _ h1)) n1,T.bw.cl,T.bw.n,rfl,_,rfl,_,rfl,st,_,eQ,_,_,rfl,kp (g2.same _ _ s1) n1,T.aE.cl,T.aE.n,rfl,ra,lh,kn,l,s.regs,s.names.length,s.acts,G2,rfl,(gv so),g3.sub,bF.mono g2.gg _ dB,kp (g2.same _ _ s5) n1,so.regs,fq,by omega,fun yj G3 H3 g4 _ y6=>?_⟩
   have ip:=g3.trans g4
   refine⟨q1,yj,_,_,rfl,rfl,g4.same _ _ af,y6,?_,fun q2 n2=>?_⟩
   ·rw [dD]
    show 1+_<=sizeLine
    omega
   refine k.cI hs (ip.loose n2) es (ip.same.free n2) ?_
   rw [af,nU cg.len w8]
   rfl
end
open Vbdcan (Item Items)
theorem RG {W:Nat}{rs:List Int}{k:Nat}(h:k<W):(bz W rs)[k]? = some (.int (aF rs k)):=by
 unfold bz
 rw [getElem?_map,List.getElem?_range h]
 rfl
section
theorem N9 (T:Txt K mg c):aW P w K mg base 13 "call_first" ["state","numbers","rows"] (eJ c 11):=by
 refine a0 T.Ue oQ (fun f aw A aA s H vs Q E hr h=>?_)
 ·obtain⟨st,la,ln,lr,ns,rs,as,s,d,G,rfl,so,g,hs,hn,cD,cg,ask,hd,k⟩:=h
  obtain⟨r,up,v,t0,rfl,rfl,cx,Fj,hv,ht⟩:=My.Wy ask
  obtain⟨a,rfl,ha⟩:=jr cg
  have ed:d=.first r up v (text t0):=(Option.some.inj hd).symm
  subst ed
  rw [gY ht] at ha
  have dm:(text t0).length<=5000:=by rw [text_len];exact ht.len
  generalize text t0=t at *
  have hz:sizeLine=16777216:=sizeLine_eq
  have w8:=so.w
  have es:Vbdcan.step s (.first r up v t)=if from_ r 0 ((s.names.length:Int)-1)=false\/from_ up 0 1=false then Vbdcan.no s 1 else match settled s t with
   | .error e=>Vbdcan.no s e
   | .ok l=>match firstItems s.acts (up == 1) r.toNat (if up=1 then -v else v) (if up=1 then -(get s.regs r.toNat) else get s.regs r.toNat) l with
    | none=>Vbdcan.no s 7
    | some k=>if(reachItems s.acts s.regs l).1<k then Vbdcan.no s 7 else yes s ((k:Int)::Vbdcan.shown s (afterItems s.acts s.regs k l)):=rfl
  refine⟨_,(ag (pq 3 oQ (bH bQ (pv 1) aq (fun _ _=>rfl)))
    (ag (pq 4 oQ (bH bQ (pv 1) aq (fun _ _=>rfl)))
    (ag (aX (PW.pt (i7 (fg (cO (pC (xX T) hr (aa (pv 0) (aa (pv 3) ae))))) (kh (fg (tU dQ dQ aq (pv 4) aq))))) (ak (ay (aZ (aa (bP rfl T.oi) ae)))) aY)
    (ag (pq 5 oQ (pC (o5 T) hr (aa (pv 0) (aa (bH bQ (pv 2) aq (fun _ _=>rfl)) ae))))
    (ag (aX (aT eO (pF K 5) aq (aO _)) (ak (ay (aZ (aa (pF K 5) ae)))) aY)
    (ag (pq 6 oQ (bA lG (bH bQ (pv 1) aq (fun _ _=>rfl)) (bH bQ (pF K 0) (pv 3) (fun _ _=>rfl))))
    (ag (pq 7 oQ (pC (NA T) hr (aa (pF K 5) (aa (pv 3) (aa (ie dJ (pv 4) aq (aO _)) (aa (i9 (aT dJ (pv 4) aq (aO _)) (pv 6) (kP kM (pv 6))) ae))))))
    (ag (aX (PW.pt (i7 (aT gR (pv 7) cj (aO _)) (kh (aT fM (pv 7) (cy (K:=K) (pC (xS T) hr (aa (pF K 5) (aa (pF K 0) ae))) rfl) (aO _))))) (ak (ay (aZ (aa (bP rfl T.r6) ae)))) aY)
    (ak (ay (bA ig (aZ (aa aq (aa (pv 7) ae))) (pC (xY T) hr (aa (pF K 5) (aa (pv 7) (aa (pF K 0) ae))))))))))))))),?_⟩
  refine⟨_,rfl,ln,_,0,_,rfl,rfl,ai.of hn,bS (j:=0) rfl,?_⟩
  refine⟨_,rfl,ln,_,1,_,rfl,rfl,ai.of hn,bS (j:=1) rfl,?_⟩
  refine⟨_,rfl,_,rfl,st,la,r,s,G,rfl,hs,_,rfl,?_⟩
  cases br:from_ r 0 ((s.names.length:Int)-1) with
  | false=>exact aH (aH ⟨bu,k.refuse hs (Gr.refl g) (n:=1) (by rw [es,if_pos (Or.inl br)])⟩)
  | true=>
  refine aI ?_
  have ek:from_ up 0 1=decide (0<=up/\up<=1):=rfl
  refine⟨_,rfl,0,up,rfl,rfl,_,rfl,?_⟩
  by_cases m0:0<=up
  rotate_left
  ·refine cZ (decide_eq_false m0) ⟨_,rfl,?_⟩
   exact aH ⟨bu,k.refuse hs (Gr.refl g) (n:=1) (by rw [es,if_pos (Or.inr (by rw [ek];exact decide_eq_false fun z=>m0 z.1))])⟩
  refine cu (decide_eq_true m0) ⟨_,_,rfl,rfl,_,rfl,?_⟩
  by_cases m1:up<=1
  rotate_left
  ·rw [decide_eq_false m1]
   exact aH ⟨bu,k.refuse hs (Gr.refl g) (n:=1) (by rw [es,if_pos (Or.inr (by rw [ek];exact decide_eq_false fun z=>m1 z.2))])⟩
  rw [decide_eq_true m1]
  refine aI ?_
  rw [if_neg (by rw [br,ek,decide_eq_true ⟨m0,m1⟩];intro z;rcases z with z | z<;>cases z)] at es
  refine⟨_,rfl,_,rfl,lr,_,0,_,rfl,rfl,ai.of cD,bS (j:=0) rfl,st,la,a,t,s,G,rfl,so,g,hs,ha,dm,fun p G1 H1 g1 hp=>?_⟩
  obtain⟨dp,rv,h1,h2⟩:=hp
  refine⟨_,rfl,p,_,dp,_,_,rfl,g1.sub _ _ h1,T.bw.cl,T.bw.n,rfl,_,_,rfl,rfl,_,rfl,?_⟩
  cases er:settled s t with
  | error e=>
   rw [er] at h1 es
   have he:=fY er
   refine cu (decide_eq_true (show -(e:Int)<0 by omega)) ?_
   exact⟨_,rfl,p,_,dp,_,_,rfl,g1.sub _ _ h1,T.bw.cl,T.bw.n,rfl,bu,k.refuse hs g1 es⟩
  | ok l=>
  rw [er] at h1 es
  dsimp only at es
  obtain⟨ra,rfl,dB⟩:=h2 l er
  refine aI ?_
  unfold from_ at br
  have br:=of_decide_eq_true br
  obtain⟨rn,rfl⟩:∃ rn:Nat,r=(rn:Int):=⟨r.toNat,by omega⟩
  have pP:rn<s.names.length:=by omega
  rw [Int.toNat_natCast] at es
  have UP:get s.regs rn=aF s.regs rn:=rfl
  rw [UP] at es
  obtain⟨eQ,bp,lh,ov,ts,cq,s1,s2,s3,s4,s5,s6,s7,s8,s9,eV,cX⟩:=(hs.mono g1).ex
  have fq:=iE so er
  have hle:=jD so l
  refine⟨_,rfl,ln,_,2,_,rfl,rfl,ai.of (g1.same _ _ hn),bS (j:=2) rfl,_,rfl,st,_,eQ,_,_,rfl,s1,T.aE.cl,T.aE.n,rfl,_,rfl,lh,_,_,_,rfl,rfl,ai.of s5,bS (RG pP),_,_,rfl,rfl,?_⟩
  have fin:∀(o:Option Nat) (G2 H2:Hp),Gr G1 H1 G2 H2->Vbdcan.step s (.first (rn:Int) up v t)=(match o with | none=>Vbdcan.no s 7 | some k=>if(reachItems s.acts s.regs l).1<k then Vbdcan.no s 7 else yes s ((k:Int)::Vbdcan.shown s (afterItems s.acts s.regs k l)))->
    iA (lB (A7 (lA (fH (fun x y H Q=>y=.aD/\Q (.bl (decide (x=.aD))) H) (bV 7) (tC .aD))) (lA (fH (i6 fun i j=>.bl (decide (j<i))) (bV 7) (du K (iC (wa c) [] E0 (cF (du K (bV 5) "run") (cF (du K (bV 0) "held") dz))) "done")))) (iB (md (cF (tC (.int (-7))) dz))) jB)
     (iB (fH xA (md (cF (tC (.int 0)) (cF (bV 7) dz))) (iC (wd c) [] E0 (cF (du K (bV 5) "run") (cF (bV 7) (cF (du K (bV 0) "held") dz)))))) { nx:=fun _ H'=>Q .aD H',rt:=Q }
     [some (.ref st),some (.ref ln),some (.ref lr),some (.int rn),some (.int up),some (.ref p),some (.int (v-aF s.regs rn)),some (cJ (d9 o))] H2:=fun o G2 H2 g2 eo=>by
   have bq:=g1.trans g2
   cases o with
   | none=>exact⟨_,rfl,rfl,_,rfl,aH (aH ⟨bu,k.refuse hs bq (n:=7) eo⟩)⟩
   | some kn=>
    dsimp only at eo
    refine⟨_,rfl,rfl,_,rfl,aI ?_⟩
    refine⟨_,rfl,_,rfl,p,_,dp,_,_,rfl,g2.sub _ _ (g2.gg _ _ h1),T.bw.cl,T.bw.n,rfl,_,rfl,st,_,eQ,_,_,rfl,g2.same _ _ s1,T.aE.cl,T.aE.n,rfl,ra,lh,l,s.regs,s.names.length,s.acts,G2,rfl,(gv so),g2.sub,bF.mono g2.gg _ dB,g2.same _ _ s5,so.regs,so.now,fq,fun rp oe nl G3 H3 g3 rq cK=>?_⟩
    have eI:=bq.trans g3
    refine⟨rp,_,oe,_,_,rfl,g3.sub _ _ rq,T.ij.cl,T.ij.n,rfl,(kn:Int),_,rfl,rfl,_,rfl,?_⟩
    by_cases nS:(reachItems s.acts s.regs l).1<kn
    ·exact cu (decide_eq_true (show((reachItems s.acts s.regs l).1:Int)<(kn:Int) by omega)) ⟨bu,k.refuse hs eI (n:=7) (by rw [eo,if_pos nS])⟩
    refine cZ (decide_eq_false (show ¬ ((reachItems s.acts s.regs l).1:Int)<(kn:Int) by omega)) ?_
    rw [if_neg nS] at eo
    have cg:=hJ so.ok so.tail l s.regs kn so.regs
    refine⟨_,rfl,jf,fun q1 n1=>?_⟩
    have g4:=eI.loose (o:=.lst [.int 0,.int (kn:Int)]) n1
    have rQ:=g2.trans g3
    refine⟨_,rfl,p,_,dp,_,_,rfl,kp (rQ.sub _ _ (rQ.gg _ _ h1)) n1,T.bw.cl,T.bw.n,rfl,_,rfl,_,rfl,st,_,eQ,_,_,rfl,kp (rQ.same _ _ s1) n1,T.aE.cl,T.aE.n,rfl,ra,lh,kn,l,s.regs,s.names.length,s.acts,G3,rfl,(gv so),g4.sub,bF.mono rQ.gg _ dB,kp (rQ.same _ _ s5) n1,so.regs,fq,by omega,fun yj G5 H5 g5 _ y6=>?_⟩
    have jS:=g4.trans g5
    refine⟨q1,yj,_,_,rfl,rfl,g5.same _ _ af,y6,?_,fun q2 n2=>?_⟩
    ·rw [dD]
     show 2+_<=sizeLine
     omega
    refine k.cI hs (jS.loose n2) eo (jS.same.free n2) ?_
    rw [af,nU cg.len w8]
    rfl
  have Fj:up=0\/up=1:=by omega
  rcases Fj with rfl | rfl
  ·refine⟨_,rfl,p,_,dp,_,_,rfl,g1.sub _ _ h1,T.bw.cl,T.bw.n,rfl,_,rfl,_,rfl,rfl,_,rfl,rfl,_,rfl,?_⟩
   refine aI ⟨_,rfl,_,rfl,?_⟩
   refine⟨ra,rn,false,_,v,l,s.names.length,s.acts,G1,rfl,(gv so),g1.sub,dB,pP,fq,fun G2 H2 g2=>?_⟩
   refine fin _ G2 H2 g2 ?_
   rw [es]
   have e1:v+-(v-aF s.regs rn)=aF s.regs rn:=by omega
   rw [e1]
   rfl
  ·refine⟨_,rfl,p,_,dp,_,_,rfl,g1.sub _ _ h1,T.bw.cl,T.bw.n,rfl,_,rfl,_,rfl,rfl,_,rfl,rfl,_,rfl,?_⟩
   refine aH ⟨_,rfl,?_⟩
   refine⟨ra,rn,true,_,-v,l,s.names.length,s.acts,G1,rfl,(gv so),g1.sub,dB,pP,fq,fun G2 H2 g2=>?_⟩
   refine fin _ G2 H2 g2 ?_
   rw [es]
   have e1:-v+(v-aF s.regs rn)=-(aF s.regs rn):=by omega
   rw [e1]
   rfl
end
open Vbdcan (Item Items)
def qX (s:State) (k:Nat):Bool:=(s.acts[k]?).any fun a=>a.must
def kT (s:State) (l:Items) (i:Nat):List Bool:=((range i).filter fun k=>decide (0<countItems k l)).map (qX s)
def qd (s:State) (l:Items):Bool:=(range s.acts.length).all fun i=>countItems i l == 0||((s.acts[i]?).any fun a=>a.must)
theorem Pe (s:State) (l:Items):(kT s l s.acts.length).all id=qd s l:=by
 unfold kT qd
 rw [Bool.eq_iff_iff,all_eq_true,all_eq_true]
 constructor
 ·intro h i hi
  rw [Bool.or_eq_true,beq_iff_eq]
  by_cases hc:0<countItems i l
  ·right
   exact h (qX s i) (mem_map.mpr ⟨i,List.mem_filter.mpr ⟨hi,decide_eq_true hc⟩,rfl⟩)
  ·left;omega
 ·intro h b hb
  obtain⟨i,hi,rfl⟩:=mem_map.mp hb
  obtain⟨h1,h2⟩:=List.mem_filter.mp hi
  have:=h i h1
  rw [Bool.or_eq_true,beq_iff_eq] at this
  have h2:=of_decide_eq_true h2
  rcases this with z | z
  ·omega
  ·exact z
theorem EL (s:State) (l:Items) (i:Nat):kT s l (i+1)=kT s l i++(if 0<countItems i l then [qX s i] else []):=by
 unfold kT
 rw [range_succ,filter_append,map_append,filter_cons]
 by_cases h:0<countItems i l
 ·rw [if_pos (decide_eq_true h),if_pos h];rfl
 ·rw [if_neg (by simpa using h),if_neg h];rfl
theorem Pd (s:State) (l:Items) (i:Nat):(kT s l i).length<=i:=by
 unfold kT
 rw [length_map]
 have:=List.length_filter_le (fun k=>decide (0<countItems k l)) (range i)
 rw [length_range] at this
 exact this
theorem DC {n:Nat}{l:Items}(h:fW n l){c:Cl}{W:Nat}{acts:List Vbdcan.Act}{G:Hp}{as:List Addr}(hi:bj c W acts G as l):as.length<=5000:=by
 have h1:=gG ((My.listOf l).map fun x=>(x,1))
 rw [gh,length_map,←hi.get.1] at h1
 have:=h.nodes
 omega
theorem DF {s:State}(so:cN s){n:Nat}{l:Items}(h:fW n l):∀ k,k<s.names.length->An (My.sp (sumItems s.acts l) k) (aF s.regs k):=fun k hk=>by
 have eE:k<8:=by have:=so.w;omega
 have h1:=(fI so.ok so.small l).sp k eE
 have h2:=My.IL h
 have h3:=so.now k eE
 have h4:=My.IS
 exact⟨fun x e=>gN (by have:=h1.lo x e;omega),fun x e=>gN (by have:=h1.hi x e;omega)⟩
section
theorem VX:bootBuiltins "any" = some (.builtin "any"):=by decide +kernel
def KQ (c:Cl):Sp:=fun vs H Q _=>∃(st la r:Addr) (as:List Addr) (s:State) (l:Items) (G:Hp),vs=[.ref st,.ref r]/\cN s/\aJ G H/\fG c G H st la s/\H r=some (.lst (as.map V.ref))/\bj c s.names.length s.acts G as l/\fW s.acts.length l /\
 ∀ G' H',Gr G H G' H'->Q (.bl (qd s l)) H'
theorem NR (T:Txt K mg c):aW P w K mg base 2 "is_all_must" ["state","row"] (KQ c):=by
 refine a0 T.TM tG (fun f aw A aA s H vs Q E hr h=>?_)
 ·obtain⟨st,la,r,as,s,l,G,rfl,so,g,hs,cx,hi,ft,k⟩:=h
  obtain⟨dx,bp,lh,ov,ts,cq,h1,h2,h3,h4,h5,h6,h7,h8,h9,gi,cS⟩:=hs.ex
  have hz:sizeLine=16777216:=sizeLine_eq
  have dE:=so.dE
  refine⟨_,(ag (pq 2 tG (pC (Ed T) hr (aa (pv 1) (aa (bJ cC (by rfl) T.cB PySem.boot_len (aa (pF K 0) ae)) ae))))
    (ak (ay (bJ (p6 rfl) (by rfl) T.qc qb (aa (i8 (own:=[("action",3),("count",4)]) rfl tG.nd (nA rfl T.oo (aa (pF K 0) (aa (pv 2) ae))) (fF (N:=["state","row","counts","action","count"]) (sc:=aC xb) (by decide +kernel)) (fun _ _ _ _ _=>(mr (K:=K) (i:=3) (j:=4) rfl tG.nd rfl (Or.inl rfl) rfl (Or.inl rfl))) (fun _ _ _ _ _=>(Dv (aT fM (pv 4) aq (aO _)))) (fun _ _ _ _ _=>(ie dJ (pF K 3) aq (aO _)))) ae))))),?_⟩
  refine⟨_,rfl,_,rfl,st,_,dx,_,_,rfl,h1,T.aE.cl,T.aE.n,rfl,la,_,rfl,.inl (ai.of h6),?_⟩
  rw [length_map,h8.len]
  refine⟨r,s.acts.length,s.names.length,s.acts,as,l,G,rfl,so.dE,g,cx,hi,ft,fun cn G1 H1 g1 uk mM=>?_⟩
  have rE:=g1.same _ _ h6
  refine⟨_,rfl,st,_,dx,_,_,rfl,g1.same _ _ h1,T.aE.cl,T.aE.n,rfl,_,rfl,la,cn,_,_,rfl,ai.of rE,ai.of mM,fun D nD=>?_⟩
  have Qh:((mR s.acts.length l).map V.int).length=s.acts.length:=by unfold mR;simp
  have Sv:G1 D=none:=g1.sub.free nD
  refine pG (xs:=cq.map V.ref) (ys:=(mR s.acts.length l).map V.int) (fun i H'=>Gr G1 H1 G1 H'/\H' D=some (.lst ((kT s l i).map V.bl))) (by rw [Qh,length_map,h8.len]) ⟨(Gr.refl g1.sub).loose nD,af⟩ (fun i H' hI=>⟨ai.of (hI.1.same _ _ rE),ai.of (hI.1.same _ _ mM)⟩) (fun i x y H' T1 hx hy hT hI=>?_) (fun H' hI=>?_)
  ·obtain⟨gg,hD⟩:=hI
   obtain⟨ac,rT,rfl⟩:=i4 hx
   obtain⟨z,ez,hz'⟩:=h8.get rT
   have zi:i<s.acts.length:=(List.getElem?_eq_some_iff.mp ez).1
   obtain rfl:y=.int (countItems i l:Int):=by
    unfold mR at hy
    rw [getElem?_map,getElem?_map,List.getElem?_range zi] at hy
    exact(Option.some.inj hy).symm
   have g2:=gg.loose (o:=.tup [.ref ac,.int (countItems i l:Int)]) hT
   obtain⟨da,uh,d1,d2,d3,k1,k2,k3,q1,_⟩:=(hz'.mono g1.gg).ex
   have iO:upd H' T1 (.tup [.ref ac,.int (countItems i l:Int)]) D=some (.lst ((kT s l i).map V.bl)):=kp hD hT
   refine⟨T1,_,rfl,cE.of af,rfl,_,_,rfl,_,_,rfl,rfl,rfl,?_⟩
   refine⟨_,rfl,_,_,rfl,rfl,_,rfl,?_⟩
   by_cases hc:0<countItems i l
   ·refine cu (decide_eq_true (show(0:Int)<(countItems i l:Int) by omega)) ?_
    refine⟨_,rfl,ac,_,da,_,_,rfl,g2.sub _ _ q1,T.cv.cl,T.cv.n,rfl,rfl,_,iO,?_,g2.set nD Sv,?_⟩
    ·rw [length_map]
     have:=Pd s l i
     omega
    ·rw [af,EL,if_pos hc,map_append]
     have em:decide (V.int (bit z.must)=V.int 1)=qX s i:=by
      unfold qX
      rw [ez]
      show _=z.must
      cases z.must<;>rfl
     rw [em]
     rfl
   ·refine cZ (decide_eq_false (show ¬ (0:Int)<(countItems i l:Int) by omega)) ⟨g2,?_⟩
    rw [EL,if_neg hc,append_nil]
    exact iO
  ·obtain⟨gg,hD⟩:=hI
   rw [length_map,h8.len] at hD
   refine⟨D,kT s l s.acts.length,rfl,ai.of hD,?_⟩
   rw [Pe]
   exact k G1 H' (g1.trans gg)
def og (s:State) (l:Items):Int:=if(sumItems s.acts l).len=0\/(often s.regs (sumItems s.acts l)).isSome=true then 0 else if(sumItems s.acts l).add≠still then 1 else if qd s l=true then 3 else 2
theorem DX (o:Option Nat):(!decide (cJ (d9 o)=.aD))=o.isSome:=by cases o<;>rfl
def KZ (c:Cl):Sp:=fun vs H Q _=>∃(st la r:Addr) (as:List Addr) (s:State) (l:Items) (G:Hp),vs=[.ref st,.ref r]/\cN s/\aJ G H/\fG c G H st la s/\H r=some (.lst (as.map V.ref))/\bj c s.names.length s.acts G as l/\fW s.acts.length l /\
 ∀ G' H',Gr G H G' H'->Q (.int (og s l)) H'
theorem NV (T:Txt K mg c):aW P w K mg base 7 "course_of" ["state","row"] (KZ c):=by
 refine a0 T.TV tH (fun f aw A aA s H vs Q E hr h=>?_)
 ·obtain⟨st,la,r,as,s,l,G,rfl,so,g,hs,cx,hi,ft,k⟩:=h
  obtain⟨dx,bp,lh,ov,ts,cq,h1,h2,h3,h4,h5,h6,h7,h8,h9,gi,cS⟩:=hs.ex
  have w8:=so.w
  have wl:=bU so.ok l
  have tl:=eU so.ok so.tail l
  refine⟨_,(ag (pq 2 tH (pC (mw T) hr (aa (pv 1) (aa (bJ cC (by rfl) T.cB PySem.boot_len (aa (pF K 0) ae)) ae))))
    (ag (aX (PW.pt (i7 (aT dJ (pF K 2) aq (aO _)) (kh (aT kj (pC (t8 T) hr (aa (pv 2) (aa (pF K 0) ae))) cj (aO _))))) (ak (ay (bP rfl T.VQ))) aY)
    (ag (aX (cO (bJ (Vp rfl) (by rfl) T.V7 VX (aa (i8 (own:=[("span",3)]) rfl tH.nd (fD (pF K 2)) (fF (N:=["state","row","total","span"]) (sc:=aC xf) (by decide +kernel)) (fun _ _ _ _ _=>(dk (i:=3) tH.nd rfl (Or.inl rfl))) (fun _ _ _ _ _=>gc) (fun _ _ _ _ _=>(ie oY (pF K 3) aq (aO _)))) ae))) (ak (ay (bP rfl T.VS))) aY)
    (ak (ay (i9 (cO (pC (NR T) hr (aa (pv 0) (aa (pv 1) ae)))) (bP rfl T.VG) (bP rfl T.VF))))))),?_⟩
  refine⟨_,rfl,_,rfl,st,_,dx,_,_,rfl,h1,T.aE.cl,T.aE.n,rfl,lh,_,rfl,.inl (ai.of h5),?_⟩
  rw [dD]
  refine⟨s.acts,r,s.names.length,as,l,G,rfl,so.w,g,cx,hi,DC ft hi,so.ok,fun p G1 H1 g1 hp=>?_⟩
  have hp':=hp
  obtain⟨dp,lp,q1,q2⟩:=hp'
  obtain⟨ys,e1,e2,e3⟩:=q2.get
  refine⟨_,rfl,p,_,dp,_,_,rfl,g1.sub _ _ q1,T.a9.cl,T.a9.n,rfl,rfl,_,rfl,?_⟩
  have el:decide (V.int ((sumItems s.acts l).len:Int)=V.int 0)=decide ((sumItems s.acts l).len=0):=by
   rw [Bool.eq_iff_iff,decide_eq_true_eq,decide_eq_true_eq]
   exact⟨fun z=>by injection z with z;omega,fun z=>by rw [z];rfl⟩
  by_cases h0:(sumItems s.acts l).len=0
  ·refine cu (el.trans (decide_eq_true h0)) (aH ?_)
   have:=k G1 H1 g1
   unfold og at this
   rw [if_pos (Or.inl h0)] at this
   exact this
  refine cZ (el.trans (decide_eq_false h0)) ?_
  refine⟨_,rfl,_,rfl,st,_,dx,_,_,rfl,g1.same _ _ h1,T.aE.cl,T.aE.n,rfl,p,lh,_,s.regs,s.names.length,G1,rfl,so.w,g1.sub,hp,g1.same _ _ h5,so.regs.len,wl.1,tl,DF so ft,fun H2 G2 g2=>?_⟩
  have bq:=g1.trans g2
  refine⟨rfl,_,rfl,?_⟩
  cases bo:(often s.regs (sumItems s.acts l)).isSome with
  | true=>
   refine cu ((DX _).trans bo) ?_
   have:=k G2 H2 bq
   unfold og at this
   rw [if_pos (Or.inr bo)] at this
   exact this
  | false=>
  refine cZ ((DX _).trans bo) ?_
  have hn:¬ ((sumItems s.acts l).len=0\/(often s.regs (sumItems s.acts l)).isSome=true):=fun z=>by
   rcases z with z | z
   ·exact h0 z
   ·rw [bo] at z;cases z
  have q1':=g2.sub _ _ (g2.gg _ _ q1)
  have e1':=g2.sub _ _ (g2.gg _ _ e1)
  refine⟨_,rfl,p,_,dp,_,_,rfl,q1',T.a9.cl,T.a9.n,rfl,lp,rfl,⟨_,ai.of e1'⟩,fun D nD=>?_⟩
  refine kX (K:=K) (a:=lp) (xs:=ys) (Lc (fU fun k=>decide ((My.sp (sumItems s.acts l) k).add≠0)) G2 H2 D) (Lc.start g2.sub nD) (fun i H3 _ L=>?_) (fun i x H3 hx L=>?_) (fun H3 L=>?_)
  ·obtain⟨zs,G3,g3,_⟩:=L.ex
   exact ai.of (g3.same _ _ e1')
  ·obtain⟨zs,G3,g3,gD,hD,bC,hR⟩:=L.ex
   obtain⟨sa,rfl,rl⟩:=e3 i x hx
   have hi':i<s.names.length:=by rw [←e2];exact(List.getElem?_eq_some_iff.mp hx).1
   obtain⟨U6,rl⟩:=((rl.mono g2.gg).mono g3.gg).mono g3.sub
   refine⟨rfl,_,rfl,sa,_,U6,_,_,rfl,rl,T.aK.cl,T.aK.n,rfl,rfl,?_⟩
   have e:(!decide (V.int (My.sp (sumItems s.acts l) i).add=V.int 0))=decide ((My.sp (sumItems s.acts l) i).add≠0):=by
    rw [Bool.eq_iff_iff,Bool.not_eq_true',decide_eq_false_iff_not,decide_eq_true_eq]
    exact⟨fun z q=>z (by rw [q]),fun z q=>z (by injection q)⟩
   exact Lc.turn (R:=fU fun k=>decide ((My.sp (sumItems s.acts l) k).add≠0)) (fun _ h=>h) nD g3 gD hD bC hR (Gr.refl g3.sub) (congrArg V.bl e) (by omega)
  obtain⟨zs,G3,g3,hD,bC,hR⟩:=Lc.done (R:=fU fun k=>decide ((My.sp (sumItems s.acts l) k).add≠0)) (fun _ h=>h) nD L
  have ez:=mF (f:=fun k=>V.bl (decide ((My.sp (sumItems s.acts l) k).add≠0))) (bC.trans e2) hR
  subst ez
  refine⟨D,(range s.names.length).map fun k=>decide ((My.sp (sumItems s.acts l) k).add≠0),rfl,ai.of (g3.sub _ _ (by rw [hD,map_map];rfl)),?_⟩
  have e2':((range s.names.length).map fun k=>decide ((My.sp (sumItems s.acts l) k).add≠0)).any id=decide ((sumItems s.acts l).add≠still):=by
   rw [←My.WN so.w wl.1 tl,List.any_map]
   rfl
  rw [e2']
  have eI:=bq.trans g3
  refine⟨_,rfl,?_⟩
  by_cases ha:(sumItems s.acts l).add≠still
  ·refine cu (decide_eq_true ha) ?_
   have:=k G3 H3 eI
   unfold og at this
   rw [if_neg hn,if_pos ha] at this
   exact this
  refine cZ (decide_eq_false ha) ?_
  have XH:Gr G H G H3:=⟨aJ.refl _,eI.gg.trans eI.sub,eI.same,fun _ _=>rfl⟩
  refine⟨_,rfl,_,rfl,st,la,r,as,s,l,G3,rfl,so,eI.sub,hs.mono eI,eI.same _ _ cx,bj.mono eI.gg _ hi,ft,fun G4 H4 g4=>⟨_,rfl,?_⟩⟩
  have:=k G4 H4 (eI.trans g4)
  unfold og at this
  rw [if_neg hn,if_neg ha] at this
  cases bm:qd s l with
  | true=>
   rw [if_pos bm] at this
   exact aH this
  | false=>
   rw [if_neg (by rw [bm];decide)] at this
   exact aI this
theorem N7 (T:Txt K mg c):aW P w K mg base 12 "call_most" ["state","numbers","rows"] (eJ c 12):=by
 refine a0 T.Uc tK (fun f aw A aA s H vs Q E hr h=>?_)
 ·obtain⟨st,la,ln,lr,ns,rs,as,s,d,G,rfl,so,g,hs,hn,cD,cg,ask,hd,k⟩:=h
  obtain⟨t0,rfl,rfl,ht⟩:=My.Wx ask
  obtain⟨a,rfl,ha⟩:=jr cg
  have ed:d=.most (text t0):=(Option.some.inj hd).symm
  subst ed
  rw [gY ht] at ha
  have dm:(text t0).length<=5000:=by rw [text_len];exact ht.len
  generalize text t0=t at *
  refine⟨_,(ag (pq 3 tK (pC (mx T) hr (aa (pv 0) (aa (bH bQ (pv 2) aq (fun _ _=>rfl)) ae))))
    (ag (pq 4 tK (pC (qJ T) hr (aa (pv 3) ae)))
    (ag (aX (aT eO (pv 4) aq (aO _)) (ak (ay (aZ (aa (pv 4) ae)))) aY)
    (ag (pq 5 tK (pC (t8 T) hr (aa (pC (mw T) hr (aa (pF K 3) (aa (bJ cC (by rfl) T.cB PySem.boot_len (aa (pF K 0) ae)) ae))) (aa (pF K 0) ae))))
    (ak (ay (i9 (aT gR (pv 5) cj (aO _)) (aZ (aa (bP rfl T.HJ) ae)) (aZ (aa aq (aa (pv 5) ae)))))))))),?_⟩
  refine⟨_,rfl,_,rfl,lr,_,0,_,rfl,rfl,ai.of cD,bS (j:=0) rfl,st,la,a,t,s,G,rfl,so,g,hs,ha,dm,fun p G1 H1 g1 hp=>?_⟩
  refine⟨_,rfl,p,_,_,_,rfl,hp.mono g1.sub,?_⟩
  have dN:=gO s t
  refine⟨_,rfl,_,_,rfl,rfl,_,rfl,?_⟩
  cases ep:Vbdcan.plain s t with
  | error e=>
   rw [ep] at dN
   dsimp only at dN
   have he:=gF ep
   rw [dN]
   refine cu (decide_eq_true (show -(e:Int)<0 by omega)) ⟨_,rfl,bu,k.refuse hs g1 (by rw [Vbdcan.step,ep])⟩
  | ok l=>
   rw [ep] at dN
   dsimp only at dN
   rw [dN]
   refine aI ?_
   obtain⟨m,er,n8,ft⟩:=gQ ep
   obtain⟨dx,kd,r,ar,hd',sn,dp,as,h1,h2,h3⟩:=hp.plain er n8
   obtain⟨eQ,bp,lh,ov,ts,cq,s1,s2,s3,s4,s5,s6,s7,s8,s9,eV,cX⟩:=(hs.mono g1).ex
   have wl:=bU so.ok l
   have tl:=eU so.ok so.tail l
   refine⟨_,rfl,p,_,dx,_,_,rfl,g1.sub _ _ h1,T.aL.cl,T.aL.n,rfl,_,rfl,st,_,eQ,_,_,rfl,s1,T.aE.cl,T.aE.n,rfl,lh,_,rfl,.inl (ai.of s5),?_⟩
   rw [dD]
   refine⟨s.acts,r,s.names.length,as,l,G1,rfl,so.w,g1.sub,g1.sub _ _ h2,h3,DC ft h3,so.ok,fun p2 G2 H2 g2 gM=>?_⟩
   refine⟨_,rfl,st,_,eQ,_,_,rfl,g2.same _ _ s1,T.aE.cl,T.aE.n,rfl,p2,lh,_,s.regs,s.names.length,G2,rfl,so.w,g2.sub,gM,g2.same _ _ s5,so.regs.len,wl.1,tl,DF so ft,fun H3 G3 g3=>?_⟩
   have eI:=(g1.trans g2).trans g3
   cases eo:often s.regs (sumItems s.acts l) with
   | none=>exact⟨_,rfl,rfl,_,rfl,aH ⟨bu,k.refuse hs eI (n:=8) (by rw [Vbdcan.step,ep];dsimp only;rw [eo])⟩⟩
   | some n=>
    refine⟨_,rfl,rfl,_,rfl,aI ⟨_,rfl,jf,fun q nq=>?_⟩⟩
    exact k.cI (l:=[0,(n:Int)]) hs (eI.loose nq) (by rw [Vbdcan.step,ep];dsimp only;rw [eo];rfl) (eI.same.free nq) af
theorem Oa (T:Txt K mg c):aW P w K mg base 12 "call_ever" ["state","numbers","rows"] (eJ c 13):=by
 refine a0 T.Ug wL (fun f aw A aA s H vs Q E hr h=>?_)
 ·obtain⟨st,la,ln,lr,ns,rs,as,s,d,G,rfl,so,g,hs,hn,cD,cg,ask,hd,k⟩:=h
  obtain⟨t0,rfl,rfl,ht⟩:=My.Ww ask
  obtain⟨a,rfl,ha⟩:=jr cg
  have ed:d=.ever (text t0):=(Option.some.inj hd).symm
  subst ed
  rw [gY ht] at ha
  have dm:(text t0).length<=5000:=by rw [text_len];exact ht.len
  generalize text t0=t at *
  refine⟨_,(ag (pq 3 wL (pC (mx T) hr (aa (pv 0) (aa (bH bQ (pv 2) aq (fun _ _=>rfl)) ae))))
    (ag (pq 4 wL (pC (qJ T) hr (aa (pv 3) ae)))
    (ag (aX (aT eO (pv 4) aq (aO _)) (ak (ay (aZ (aa (pv 4) ae)))) aY)
    (ak (ay (aZ (aa aq (aa (pC (NV T) hr (aa (pv 0) (aa (pF K 3) ae))) ae)))))))),?_⟩
  refine⟨_,rfl,_,rfl,lr,_,0,_,rfl,rfl,ai.of cD,bS (j:=0) rfl,st,la,a,t,s,G,rfl,so,g,hs,ha,dm,fun p G1 H1 g1 hp=>?_⟩
  refine⟨_,rfl,p,_,_,_,rfl,hp.mono g1.sub,?_⟩
  have dN:=gO s t
  refine⟨_,rfl,_,_,rfl,rfl,_,rfl,?_⟩
  cases ep:Vbdcan.plain s t with
  | error e=>
   rw [ep] at dN
   dsimp only at dN
   have he:=gF ep
   rw [dN]
   refine cu (decide_eq_true (show -(e:Int)<0 by omega)) ⟨_,rfl,bu,k.refuse hs g1 (by rw [Vbdcan.step,ep])⟩
  | ok l=>
   rw [ep] at dN
   dsimp only at dN
   rw [dN]
   refine aI ?_
   obtain⟨m,er,n8,ft⟩:=gQ ep
   obtain⟨dx,kd,r,ar,hd',sn,dp,as,h1,h2,h3⟩:=hp.plain er n8
   refine⟨_,rfl,_,rfl,p,_,dx,_,_,rfl,g1.sub _ _ h1,T.aL.cl,T.aL.n,rfl,st,la,r,as,s,l,G1,rfl,so,g1.sub,hs.mono g1,g1.sub _ _ h2,h3,ft,fun G2 H2 g2=>?_⟩
   have bq:=g1.trans g2
   refine⟨jf,fun q nq=>?_⟩
   refine k.cI (l:=[0,og s l]) hs (bq.loose nq) ?_ (bq.same.free nq) af
   rw [Vbdcan.step,ep]
   dsimp only
   unfold og qd
   split
   ·rfl
   ·split
    ·rfl
    ·split
     ·rfl
     ·rfl
end
open Vbdcan (Item Items)
def oS (s:State) (side:Int):Int:=if from_ side 0 1=false then -1 else match s.offer with
 | none=>-6
 | some (p,_)=>if(p:Int)=side then -6 else 0
section
def KJ:Sp:=fun vs H Q _=>∃ n:Int,vs=[.int n]/\Q (.bl (from_ n 0 1)) H
theorem xW (T:Txt K mg c):aW P w K mg base 1 "is_side" ["number"] KJ:=by
 refine a0 T.TC LK (fun f aw A aA s H vs Q E hr h=>?_)
 ·obtain⟨n,rfl,k⟩:=h
  refine⟨_,(ak (ay (nE dQ dQ aq (pv 0) aq))),?_⟩
  refine⟨_,rfl,0,n,rfl,rfl,_,rfl,?_⟩
  have ek:from_ n 0 1=decide (0<=n/\n<=1):=rfl
  rw [ek] at k
  by_cases h0:0<=n
  ·refine cu (decide_eq_true h0) ⟨_,_,rfl,rfl,?_⟩
   have e:decide (0<=n/\n<=1)=decide (n<=1):=by
    rw [Bool.eq_iff_iff,decide_eq_true_eq,decide_eq_true_eq]
    omega
   rw [e] at k
   exact k
  ·refine cZ (decide_eq_false h0) ?_
   rw [decide_eq_false (fun z=>h0 z.1)] at k
   exact k
def Ku (c:Cl):Sp:=fun vs H Q _=>∃(st la:Addr) (side:Int) (s:State) (G:Hp),vs=[.ref st,.int side]/\aJ G H/\fG c G H st la s/\Q (.int (oS s side)) H
theorem D8 (T:Txt K mg c):aW P w K mg base 2 "refusal_to_answer" ["state","side"] (Ku c):=by
 refine a0 T.Tj LD (fun f aw A aA s H vs Q E hr h=>?_)
 ·obtain⟨st,la,side,s,G,rfl,g,hs,k⟩:=h
  obtain⟨dx,bp,lh,ov,ts,cq,h1,h2,h3,h4,h5,h6,h7,h8,h9,gi,cS⟩:=hs.ex
  refine⟨_,(ag (aX (fg (cO (pC (xW T) hr (aa (pv 1) ae)))) (ak (ay (bP rfl T.oi))) aY)
    (ag (aX (PW.pt (i7 (aT gR (pF K 0) cj (aO _)) (kh (aT dJ (cy (K:=K) (pF K 0) rfl) (pv 1) (aO _))))) (ak (ay (bP rfl T.p9))) aY)
    (ak (ay aq)))),?_⟩
  refine⟨_,rfl,side,rfl,_,rfl,?_⟩
  unfold oS at k
  cases bs:from_ side 0 1 with
  | false=>
   rw [if_pos bs] at k
   exact aH k
  | true=>
  refine aI ?_
  rw [if_neg (by rw [bs];decide)] at k
  refine⟨_,rfl,st,_,dx,_,_,rfl,h1,T.aE.cl,T.aE.n,rfl,rfl,_,rfl,?_⟩
  cases eo:s.offer with
  | none=>
   rw [eo] at cS k
   have:ov=.aD:=cS
   subst this
   exact aH (aH k)
  | some x=>
   obtain⟨p,l⟩:=x
   rw [eo] at cS k
   obtain⟨a,da,ra,rfl,uW,zy⟩:=cS
   refine aI ?_
   refine⟨_,rfl,st,_,dx,_,_,rfl,h1,T.aE.cl,T.aE.n,rfl,a,_,da,_,_,rfl,g _ _ uW,T.gI.cl,T.gI.n,rfl,_,rfl,rfl,_,rfl,?_⟩
   dsimp only at k
   by_cases e:(p:Int)=side
   ·rw [if_pos e] at k
    refine cu (decide_eq_true (congrArg V.int e)) k
   ·rw [if_neg e] at k
    exact cZ (decide_eq_false (fun z=>e (by injection z))) k
theorem N6 (T:Txt K mg c):aW P w K mg base 13 "call_propose" ["state","numbers","rows"] (eJ c 15):=by
 refine a0 T.Ub tJ (fun f aw A aA s H vs Q E hr h=>?_)
 ·obtain⟨st,la,ln,lr,ns,rs,as,s,d,G,rfl,so,g,hs,hn,cD,cg,ask,hd,k⟩:=h
  obtain⟨side,t0,rfl,rfl,yW,ht⟩:=My.Wu ask
  obtain⟨a,rfl,ha⟩:=jr cg
  have ed:d=.propose side (text t0):=(Option.some.inj hd).symm
  subst ed
  rw [gY ht] at ha
  have dm:(text t0).length<=5000:=by rw [text_len];exact ht.len
  generalize text t0=t at *
  have es:Vbdcan.step s (.propose side t)=if from_ side 0 1=false then Vbdcan.no s 1 else match settled s t with
   | .error e=>if e=8/\s.offer.isSome=true then Vbdcan.no s 6 else Vbdcan.no s e
   | .ok l=>if fits s.regs (sumItems s.acts l).box=true/\beyond (plus s.regs (sumItems s.acts l).add)=true then Vbdcan.no s 4 else if s.offer.isSome=true then Vbdcan.no s 6
    else if fits s.regs (sumItems s.acts l).box=false then Vbdcan.no s 7 else yes { s with offer:=some (side.toNat,l) } [((sumItems s.acts l).len:Int)]:=rfl
  refine⟨_,(ag (pq 3 tJ (bH bQ (pv 1) aq (fun _ _=>rfl)))
    (ag (aX (fg (cO (pC (xW T) hr (aa (pv 3) ae)))) (ak (ay (aZ (aa (bP rfl T.oi) ae)))) aY)
    (ag (pq 4 tJ (pC (o5 T) hr (aa (pv 0) (aa (bH bQ (pv 2) aq (fun _ _=>rfl)) ae))))
    (ag (pq 5 tJ (pC (D7 T) hr (aa (pv 0) (aa (pv 4) ae))))
    (ag (aX (aT eO (pv 5) aq (aO _)) (ak (ay (aZ (aa (pv 5) ae)))) aY)
    (ag (bL (pv 0) (eL (Pw T) (hr.mono (by decide)) rfl (aa (pv 3) (aa (pF K 4) ae))) rfl)
    (ak (ay (aZ (aa aq (aa (cy (K:=K) (cy (K:=K) (pF K 4) rfl) rfl) ae))))))))))),?_⟩
  refine⟨_,rfl,ln,_,0,_,rfl,rfl,ai.of hn,bS (j:=0) rfl,?_⟩
  refine⟨_,rfl,side,rfl,_,rfl,?_⟩
  cases bs:from_ side 0 1 with
  | false=>exact aH ⟨bu,k.refuse hs (Gr.refl g) (n:=1) (by rw [es,if_pos bs])⟩
  | true=>
  refine aI ?_
  rw [if_neg (by rw [bs];decide)] at es
  refine⟨_,rfl,_,rfl,lr,_,0,_,rfl,rfl,ai.of cD,bS (j:=0) rfl,st,la,a,t,s,G,rfl,so,g,hs,ha,dm,fun p G1 H1 g1 hp=>?_⟩
  refine⟨_,rfl,_,rfl,st,la,p,s,_,G1,rfl,so,g1.sub,hs.mono g1,hp,fun e he=>fY he,fun G2 H2 g2=>?_⟩
  have bq:=g1.trans g2
  generalize hD:qF s (settled s t)=D
  refine⟨_,rfl,_,_,rfl,rfl,_,rfl,?_⟩
  obtain⟨dp,rv,h1,h2⟩:=hp
  cases er:settled s t with
  | error e=>
   have he:=fY er
   rw [er,xt] at hD
   rw [er] at es
   dsimp only at es
   rcases he with rfl | rfl
   ·rw [if_pos rfl] at hD
    subst hD
    exact aH ⟨_,rfl,bu,k.refuse hs bq (n:=2) (by rw [es,if_neg (fun z=>absurd z.1 (by decide))])⟩
   ·rw [if_neg (by decide)] at hD
    by_cases bo:s.offer.isSome=true
    ·rw [if_pos bo] at hD
     subst hD
     exact aH ⟨_,rfl,bu,k.refuse hs bq (n:=6) (by rw [es,if_pos ⟨rfl,bo⟩])⟩
    ·rw [if_neg bo] at hD
     subst hD
     exact aH ⟨_,rfl,bu,k.refuse hs bq (n:=8) (by rw [es,if_neg (fun z=>bo z.2)])⟩
  | ok l=>
   rw [er] at h1 es
   dsimp only at es
   obtain⟨ra,rfl,dB⟩:=h2 l er
   rw [er,tR] at hD
   by_cases bb:fits s.regs (sumItems s.acts l).box=true/\beyond (plus s.regs (sumItems s.acts l).add)=true
   ·rw [if_pos bb] at hD
    subst hD
    exact aH ⟨_,rfl,bu,k.refuse hs bq (n:=4) (by rw [es,if_pos bb])⟩
   rw [if_neg bb] at hD es
   by_cases bo:s.offer.isSome=true
   ·rw [if_pos bo] at hD
    subst hD
    exact aH ⟨_,rfl,bu,k.refuse hs bq (n:=6) (by rw [es,if_pos bo])⟩
   rw [if_neg bo] at hD es
   by_cases bf:fits s.regs (sumItems s.acts l).box=true
   rotate_left
   ·rw [if_neg bf] at hD
    subst hD
    exact aH ⟨_,rfl,bu,k.refuse hs bq (n:=7) (by rw [es,if_pos (by simpa using bf)])⟩
   rw [if_pos bf] at hD
   subst hD
   rw [if_neg (by rw [bf];decide)] at es
   refine aI ?_
   obtain⟨dr,x1,x2,x3,x4,sw,r1,r2⟩:=dB.whole
   rw [whole_run (gv so) l] at r2
   obtain⟨eR,je,w1,w2⟩:=r2
   refine⟨_,rfl,_,rfl,p,_,dp,_,_,rfl,g2.sub _ _ (g2.gg _ _ h1),T.bw.cl,T.bw.n,rfl,?_⟩
   refine fun x dy n1 n2 n3=>⟨x,dy,_,rfl,rfl,af,rfl,?_⟩
   rw [bM]
   have gm:=bq.made (C:=c.offer) (fs:=qK side ra) n1 n2 n3
   have sm:=iF (C:=c.offer) (fs:=qK side ra) g2.sub n1 n2
   have hx:upd (upd G2 dy (.own x)) x (.ins c.offer dy (qK side ra)) x=some (.ins c.offer dy (qK side ra)):=af
   have nN:=sm _ _ (g2.gg _ _ h1)
   have uI:=sm _ _ (g2.gg _ _ r1)
   have uF:=sm _ _ (g2.gg _ _ w1)
   have QW:=bF.mono (g2.gg.trans sm) _ dB
   obtain⟨dx,bp,lh,ov,ts,cq,s1,s2,s3,s4,s5,s6,s7,s8,s9,eV,cX⟩:=(hs.mono gm).ex
   refine⟨_,rfl,st,_,dx,_,rfl,s1,T.aE.cl,T.aE.n,(by show 4<1000;decide),?_⟩
   have e8:dj "offer" (V.ref x) (bN bp lh la ov)=bN bp lh la (.ref x):=rfl
   rw [e8]
   have x8:=(gm.x (st:=st) (la:=la)).mm (o:=.ins c.state dx (bN bp lh la (.ref x))) s2
   have gS:la≠st:=dg s6 s1 (by intro z;cases z)
   have kl:bp≠st:=dg s3 s1 (by intro z;cases z)
   have qT:lh≠st:=dg s5 s1 (by intro z;cases z)
   have np:p≠st:=aP nN s2
   have o7:ra≠st:=aP uI s2
   have qM:sw≠st:=aP uF s2
   refine⟨_,rfl,p,_,dp,_,_,rfl,kq (gm.sub _ _ nN) np,T.bw.cl,T.bw.n,rfl,ra,_,dr,_,_,rfl,kq (gm.sub _ _ uI) o7,T.aQ.cl,T.aQ.n,rfl,sw,_,eR,_,_,rfl,kq (gm.sub _ _ uF) qM,T.a9.cl,T.a9.n,rfl,jf,fun q nq=>?_⟩
   refine k q _ _ (x8.loose nq) ?_ (x8.free nq) ?_
   ·rw [es]
    refine⟨dx,bp,lh,.ref x,ts,cq,kp af nq,s2,kp (kq s3 kl) nq,s4,kp (kq s5 qT) nq,kp (kq s6 gS) nq,s7,s8,s9,eV,x,dy,ra,rfl,?_,QW⟩
    have UD:((side.toNat:Nat):Int)=side:=by
     unfold from_ at bs
     have:=of_decide_eq_true bs
     omega
    rw [UD]
    exact hx
   ·rw [es];exact af
theorem Oi (T:Txt K mg c):aW P w K mg base 3 "call_accept" ["state","numbers","rows"] (eJ c 16):=by
 refine a0 T.Up wO (fun f aw A aA s H vs Q E hr h=>?_)
 ·obtain⟨st,la,ln,lr,ns,rs,as,s,d,G,rfl,so,g,hs,hn,cD,cg,ask,hd,k⟩:=h
  obtain⟨side,rfl,rfl,yW⟩:=My.Wt ask
  have ed:d=.accept side:=(Option.some.inj hd).symm
  subst ed
  have hz:sizeLine=16777216:=sizeLine_eq
  have w8:=so.w
  have es:Vbdcan.step s (.accept side)=if from_ side 0 1=false then Vbdcan.no s 1 else match s.offer with
   | none=>Vbdcan.no s 6
   | some (p,l)=>if(p:Int)=side then Vbdcan.no s 6 else yes { s with regs:=plus s.regs (sumItems s.acts l).add,offer:=none } (((sumItems s.acts l).len:Int)::Vbdcan.shown s (plus s.regs (sumItems s.acts l).add)):=rfl
  refine⟨_,(ag (pq 3 wO (pC (D8 T) hr (aa (pv 0) (aa (bH bQ (pv 1) aq (fun _ _=>rfl)) ae))))
    (ag (aX (aT eO (pv 3) aq (aO _)) (ak (ay (aZ (aa (pv 3) ae)))) aY)
    (ag (pq 4 wO (cy (K:=K) (cy (K:=K) (pF K 0) rfl) rfl))
    (ag (bL (pv 0) (pC (my T) hr (aa (pF K 0) (aa (pv 4) (aa aq ae)))) rfl)
    (ag (bL (pv 0) cj rfl)
    (ak (ay (bA ig (aZ (aa aq (aa (pF K 4) ae))) (pF K 0))))))))),?_⟩
  refine⟨_,rfl,_,rfl,ln,_,0,_,rfl,rfl,ai.of hn,bS (j:=0) rfl,st,la,side,s,G,rfl,g,hs,?_⟩
  generalize hD:oS s side=D
  unfold oS at hD
  refine⟨_,rfl,_,_,rfl,rfl,_,rfl,?_⟩
  cases bs:from_ side 0 1 with
  | false=>
   rw [if_pos bs] at hD es
   subst hD
   exact aH ⟨_,rfl,bu,k.refuse hs (Gr.refl g) (n:=1) es⟩
  | true=>
  rw [if_neg (by rw [bs];decide)] at hD es
  obtain⟨dx,bp,lh,ov,ts,cq,s1,s2,s3,s4,s5,s6,s7,s8,s9,eV,cX⟩:=hs.ex
  cases eo:s.offer with
  | none=>
   rw [eo] at hD es
   dsimp only at hD es
   subst hD
   exact aH ⟨_,rfl,bu,k.refuse hs (Gr.refl g) (n:=6) es⟩
  | some x=>
   obtain⟨p,l⟩:=x
   rw [eo] at hD es cX
   dsimp only at hD es
   by_cases e:(p:Int)=side
   ·rw [if_pos e] at hD es
    subst hD
    exact aH ⟨_,rfl,bu,k.refuse hs (Gr.refl g) (n:=6) es⟩
   rw [if_neg e] at hD es
   subst hD
   refine aI ?_
   obtain⟨a,da,ra,rfl,o1,o2⟩:=cX
   obtain⟨dr,x1,x2,x3,x4,sw,r1,r2⟩:=o2.whole
   rw [whole_run (gv so) l] at r2
   have wl:=bU so.ok l
   have r2':=r2
   obtain⟨eR,je,w1,w2⟩:=r2'
   refine⟨_,rfl,st,_,dx,_,_,rfl,s1,T.aE.cl,T.aE.n,rfl,a,_,da,_,_,rfl,g _ _ o1,T.gI.cl,T.gI.n,rfl,ra,_,dr,_,_,rfl,g _ _ r1,T.aQ.cl,T.aQ.n,rfl,?_⟩
   refine⟨_,rfl,st,_,dx,_,_,rfl,s1,T.aE.cl,T.aE.n,rfl,_,rfl,sw,lh,1,_,s.regs,s.names.length,G,rfl,so.w,g,r2,s5,so.regs.len,wl.1,fun _ _=>oZ _,fun q H3 G3 g3 hq=>?_⟩
   rw [fA wl.1.add] at hq
   have cx:=ib so.ok so.tail so.regs l
   have gV:G3 st=none:=by rw [g3.old st (by rw [s1];simp)];exact s2
   have kD:G3 la=none:=by rw [g3.old la (by rw [s6];simp)];exact s7
   have qN:q≠st:=aP hq gV
   have qO:q≠la:=aP hq kD
   have gS:la≠st:=dg s6 s1 (by intro z;cases z)
   have kl:bp≠st:=dg s3 s1 (by intro z;cases z)
   have qM:sw≠st:=aP (g3.gg _ _ w1) gV
   refine⟨_,rfl,st,_,dx,_,rfl,g3.same _ _ s1,T.aE.cl,T.aE.n,(by show 4<1000;decide),?_⟩
   refine⟨_,rfl,st,_,dx,_,rfl,af,T.aE.cl,T.aE.n,(by show 4<1000;decide),?_⟩
   rw [bM]
   have e8:dj "offer" V.aD (dj "held" (V.ref q) (bN bp lh la (.ref a)))=bN bp q la .aD:=rfl
   rw [e8]
   have x8:=(g3.x (st:=st) (la:=la)).mm (o:=.ins c.state dx (bN bp q la .aD)) gV
   have k4:upd H3 st (.ins c.state dx (bN bp q la .aD)) st=some (.ins c.state dx (bN bp q la .aD)):=af
   have kx:=kq (u:=.ins c.state dx (bN bp q la .aD)) (g3.sub _ _ hq) qN
   refine⟨_,rfl,sw,_,eR,_,_,rfl,kq (g3.sub _ _ (g3.gg _ _ w1)) qM,T.a9.cl,T.a9.n,rfl,jf,fun q1 n1=>?_⟩
   have x9:=x8.loose (o:=.lst [.int 0,.int (sumItems s.acts l).len]) n1
   refine⟨_,rfl,st,_,dx,_,_,rfl,kp k4 n1,T.aE.cl,T.aE.n,rfl,q1,q,_,_,rfl,rfl,af,kp kx n1,?_,fun q2 n2=>?_⟩
   ·rw [dD]
    show 2+_<=sizeLine
    omega
   refine k q2 G3 _ (x9.loose n2) ?_ (x9.free n2) ?_
   ·rw [es]
    exact⟨dx,bp,q,.aD,ts,cq,kp (kp k4 n1) n2,gV,kp (kp (kq (g3.same _ _ s3) kl) n1) n2,s4.imp fun _ _ z=>g3.gg _ _ z,kp (kp kx n1) n2,kp (kp (kq (g3.same _ _ s6) gS) n1) n2,kD,s8.imp fun _ _ z=>z.mono g3.gg,let ⟨o,z⟩:=s9;⟨o,g3.gg _ _ z⟩,⟨_,hq⟩,rfl⟩
   ·rw [es,af,nU cx.len w8]
    rfl
theorem Ob (T:Txt K mg c):aW P w K mg base 3 "call_cut" ["state","numbers","rows"] (eJ c 17):=by
 refine a0 T.Uh qA (fun f aw A aA s H vs Q E hr h=>?_)
 ·obtain⟨st,la,ln,lr,ns,rs,as,s,d,G,rfl,so,g,hs,hn,cD,cg,ask,hd,k⟩:=h
  obtain⟨side,kk,rfl,rfl,yW,Rl⟩:=My.Wr ask
  have ed:d=.cut side kk:=(Option.some.inj hd).symm
  subst ed
  have hz:sizeLine=16777216:=sizeLine_eq
  have w8:=so.w
  have es:Vbdcan.step s (.cut side kk)=if from_ side 0 1=false then Vbdcan.no s 1 else match s.offer with
   | none=>Vbdcan.no s 6
   | some (p,l)=>if(p:Int)=side then Vbdcan.no s 6 else match cutAt s kk l with
    | none=>Vbdcan.no s 7
    | some rs=>if beyond rs=true then Vbdcan.no s 4 else yes { s with regs:=rs,offer:=none } (Vbdcan.shown s rs):=rfl
  refine⟨_,(ag (pq 3 qA (pC (D8 T) hr (aa (pv 0) (aa (bH bQ (pv 1) aq (fun _ _=>rfl)) ae))))
    (ag (aX (aT eO (pv 3) aq (aO _)) (ak (ay (aZ (aa (pv 3) ae)))) aY)
    (ag (pq 4 qA (bH bQ (pv 1) aq (fun _ _=>rfl)))
    (ag (pq 5 qA (cy (K:=K) (pF K 0) rfl))
    (ag (aX (fg (tU dQ dQ aq (pv 4) (cy (K:=K) (pF K 5) rfl))) (ak (ay (aZ (aa (bP rfl T.r6) ae)))) aY)
    (ag (pq 6 qA (pC (xY T) hr (aa (pv 5) (aa (pv 4) (aa (pF K 0) ae)))))
    (ag (aX (fg (cO (pC (D9 T) hr (aa (pv 6) ae)))) (ak (ay (aZ (aa (bP rfl T.vo) ae)))) aY)
    (ag (bL (pv 0) (pv 6) rfl)
    (ag (bL (pv 0) cj rfl)
    (ak (ay (bA ig (aZ (aa aq ae)) (pv 6))))))))))))),?_⟩
  refine⟨_,rfl,_,rfl,ln,_,0,_,rfl,rfl,ai.of hn,bS (j:=0) rfl,st,la,side,s,G,rfl,g,hs,?_⟩
  generalize hD:oS s side=D
  unfold oS at hD
  refine⟨_,rfl,_,_,rfl,rfl,_,rfl,?_⟩
  cases bs:from_ side 0 1 with
  | false=>
   rw [if_pos bs] at hD es
   subst hD
   exact aH ⟨_,rfl,bu,k.refuse hs (Gr.refl g) (n:=1) es⟩
  | true=>
  rw [if_neg (by rw [bs];decide)] at hD es
  obtain⟨dx,bp,lh,ov,ts,cq,s1,s2,s3,s4,s5,s6,s7,s8,s9,eV,cX⟩:=hs.ex
  cases eo:s.offer with
  | none=>
   rw [eo] at hD es
   dsimp only at hD es
   subst hD
   exact aH ⟨_,rfl,bu,k.refuse hs (Gr.refl g) (n:=6) es⟩
  | some x=>
   obtain⟨p,l⟩:=x
   rw [eo] at hD es cX
   dsimp only at hD es
   by_cases e:(p:Int)=side
   ·rw [if_pos e] at hD es
    subst hD
    exact aH ⟨_,rfl,bu,k.refuse hs (Gr.refl g) (n:=6) es⟩
   rw [if_neg e] at hD es
   subst hD
   refine aI ?_
   obtain⟨a,da,ra,rfl,o1,o2⟩:=cX
   obtain⟨dr,x1,x2,x3,x4,sw,r1,r2⟩:=o2.whole
   rw [whole_run (gv so) l] at r2
   obtain⟨eR,je,w1,w2⟩:=r2
   obtain⟨Xi,OB,Xj,Nl⟩:=so.offer p l eo
   have Fw:(reachItems s.acts s.regs l).1=(sumItems s.acts l).len:=((gC so.ok l s.regs so.regs.len).2.2.1 OB).1
   refine⟨_,rfl,ln,_,1,_,rfl,rfl,ai.of hn,bS (j:=1) rfl,?_⟩
   refine⟨_,rfl,st,_,dx,_,_,rfl,s1,T.aE.cl,T.aE.n,rfl,a,_,da,_,_,rfl,g _ _ o1,T.gI.cl,T.gI.n,rfl,?_⟩
   have EA:(kk<0\/((sumItems s.acts l).len:Int)<kk)->Vbdcan.step s (.cut side kk)=Vbdcan.no s 7:=fun z=>by
    rw [es]
    unfold cutAt
    rw [Fw,if_pos z]
   refine⟨_,rfl,0,kk,rfl,rfl,_,rfl,?_⟩
   by_cases m0:0<=kk
   rotate_left
   ·refine cZ (decide_eq_false m0) ⟨_,rfl,?_⟩
    exact aH ⟨bu,k.refuse hs (Gr.refl g) (n:=7) (EA (Or.inl (by omega)))⟩
   refine cu (decide_eq_true m0) ?_
   refine⟨_,rfl,ra,_,dr,_,_,rfl,g _ _ r1,T.aQ.cl,T.aQ.n,rfl,sw,_,eR,_,_,rfl,g _ _ w1,T.a9.cl,T.a9.n,rfl,_,_,rfl,rfl,_,rfl,?_⟩
   by_cases m1:kk<=((sumItems s.acts l).len:Int)
   rotate_left
   ·rw [decide_eq_false m1]
    exact aH ⟨bu,k.refuse hs (Gr.refl g) (n:=7) (EA (Or.inr (by omega)))⟩
   rw [decide_eq_true m1]
   refine aI ?_
   have ec:cutAt s kk l=some (afterItems s.acts s.regs kk.toNat l):=by
    unfold cutAt
    rw [Fw,if_neg (fun z=>by omega)]
   rw [ec] at es
   dsimp only at es
   obtain⟨kn,rfl⟩:∃ kn:Nat,kk=(kn:Int):=⟨kk.toNat,by omega⟩
   rw [Int.toNat_natCast] at es
   have cg:=hJ so.ok so.tail l s.regs kn so.regs
   refine⟨_,rfl,_,rfl,_,rfl,st,_,dx,_,_,rfl,s1,T.aE.cl,T.aE.n,rfl,ra,lh,kn,l,s.regs,s.names.length,s.acts,G,rfl,gv so,g,o2,s5,so.regs,Nl,by omega,fun nl G3 H3 g3 Sx cK=>?_⟩
   refine⟨_,rfl,nl,s.names.length,_,G3,rfl,so.w,g3.sub,cK,cg,fun G4 H4 g4=>⟨_,rfl,?_⟩⟩
   have ip:=g3.trans g4
   cases bb:beyond (afterItems s.acts s.regs kn l) with
   | true=>exact aH ⟨bu,k.refuse hs ip (n:=4) (by rw [es,if_pos bb])⟩
   | false=>
   refine aI ?_
   rw [if_neg (by rw [bb];decide)] at es
   have gV:G4 st=none:=by rw [ip.old st (by rw [s1];simp)];exact s2
   have kD:G4 la=none:=by rw [ip.old la (by rw [s6];simp)];exact s7
   have FJ:=g4.same _ _ cK
   have qN:nl≠st:=dg FJ (ip.same _ _ s1) (by intro z;cases z)
   have qO:∃ o,G4 nl=some o:=by
    rcases Sx with z |⟨o,z⟩
    ·rw [z];obtain⟨o,q⟩:=eV;exact⟨o,ip.gg _ _ q⟩
    ·exact⟨o,g4.gg _ _ z⟩
   have gS:la≠st:=dg s6 s1 (by intro z;cases z)
   have kl:bp≠st:=dg s3 s1 (by intro z;cases z)
   refine⟨_,rfl,_,rfl,st,_,dx,_,rfl,ip.same _ _ s1,T.aE.cl,T.aE.n,(by show 4<1000;decide),?_⟩
   refine⟨_,rfl,st,_,dx,_,rfl,af,T.aE.cl,T.aE.n,(by show 4<1000;decide),?_⟩
   rw [bM]
   have e8:dj "offer" V.aD (dj "held" (V.ref nl) (bN bp lh la (.ref a)))=bN bp nl la .aD:=rfl
   rw [e8]
   have x8:=(ip.x (st:=st) (la:=la)).mm (o:=.ins c.state dx (bN bp nl la .aD)) gV
   have k4:upd H4 st (.ins c.state dx (bN bp nl la .aD)) st=some (.ins c.state dx (bN bp nl la .aD)):=af
   have kx:=kq (u:=.ins c.state dx (bN bp nl la .aD)) FJ qN
   refine⟨bu,fun q1 n1=>?_⟩
   have x9:=x8.loose (o:=.lst [.int 0]) n1
   refine⟨_,rfl,q1,nl,_,_,rfl,rfl,af,kp kx n1,?_,fun q2 n2=>?_⟩
   ·rw [dD]
    show 1+_<=sizeLine
    omega
   refine k q2 G4 _ (x9.loose n2) ?_ (x9.free n2) ?_
   ·rw [es]
    exact⟨dx,bp,nl,.aD,ts,cq,kp (kp k4 n1) n2,gV,kp (kp (kq (ip.same _ _ s3) kl) n1) n2,s4.imp fun _ _ z=>ip.gg _ _ z,kp (kp kx n1) n2,kp (kp (kq (ip.same _ _ s6) gS) n1) n2,kD,s8.imp fun _ _ z=>z.mono ip.gg,let ⟨o,z⟩:=s9;⟨o,ip.gg _ _ z⟩,qO,rfl⟩
   ·rw [es,af,nU cg.len w8]
    rfl
theorem NX (T:Txt K mg c):aW P w K mg base 2 "call_withdraw" ["state","numbers","rows"] (eJ c 18):=by
 refine a0 T.T2 By (fun f aw A aA s H vs Q E hr h=>?_)
 ·obtain⟨st,la,ln,lr,ns,rs,as,s,d,G,rfl,so,g,hs,hn,cD,cg,ask,hd,k⟩:=h
  obtain⟨side,rfl,rfl,yW⟩:=My.Wq ask
  have ed:d=.withdraw side:=(Option.some.inj hd).symm
  subst ed
  have es:Vbdcan.step s (.withdraw side)=if from_ side 0 1=false then Vbdcan.no s 1 else match s.offer with
   | none=>Vbdcan.no s 6
   | some (p,_)=>if(p:Int)≠side then Vbdcan.no s 6 else yes { s with offer:=none } []:=rfl
  refine⟨_,(ag (pq 3 By (bH bQ (pv 1) aq (fun _ _=>rfl)))
    (ag (aX (fg (cO (pC (xW T) hr (aa (pv 3) ae)))) (ak (ay (aZ (aa (bP rfl T.oi) ae)))) aY)
    (ag (aX (PW.pt (i7 (aT gR (pF K 0) cj (aO _)) (kh (aT oY (cy (K:=K) (pF K 0) rfl) (pv 3) (aO _))))) (ak (ay (aZ (aa (bP rfl T.p9) ae)))) aY)
    (ag (bL (pv 0) cj rfl)
    (ak (ay (aZ (aa aq ae)))))))),?_⟩
  refine⟨_,rfl,ln,_,0,_,rfl,rfl,ai.of hn,bS (j:=0) rfl,?_⟩
  refine⟨_,rfl,side,rfl,_,rfl,?_⟩
  cases bs:from_ side 0 1 with
  | false=>exact aH ⟨bu,k.refuse hs (Gr.refl g) (n:=1) (by rw [es,if_pos bs])⟩
  | true=>
  refine aI ?_
  rw [if_neg (by rw [bs];decide)] at es
  obtain⟨dx,bp,lh,ov,ts,cq,s1,s2,s3,s4,s5,s6,s7,s8,s9,eV,cX⟩:=hs.ex
  refine⟨_,rfl,st,_,dx,_,_,rfl,s1,T.aE.cl,T.aE.n,rfl,rfl,_,rfl,?_⟩
  cases eo:s.offer with
  | none=>
   rw [eo] at es cX
   have:ov=.aD:=cX
   subst this
   exact aH (aH ⟨bu,k.refuse hs (Gr.refl g) (n:=6) es⟩)
  | some x=>
   obtain⟨p,l⟩:=x
   rw [eo] at es cX
   dsimp only at es
   obtain⟨a,da,ra,rfl,o1,o2⟩:=cX
   refine aI ?_
   refine⟨_,rfl,st,_,dx,_,_,rfl,s1,T.aE.cl,T.aE.n,rfl,a,_,da,_,_,rfl,g _ _ o1,T.gI.cl,T.gI.n,rfl,_,rfl,rfl,_,rfl,?_⟩
   by_cases e:(p:Int)=side
   rotate_left
   ·refine cu ?_ ⟨bu,k.refuse hs (Gr.refl g) (n:=6) (by rw [es,if_pos e])⟩
    rw [Bool.not_eq_true',decide_eq_false_iff_not]
    intro z
    injection z with z
    exact e z
   refine cZ ?_ ?_
   ·rw [Bool.not_eq_false',decide_eq_true_eq,e]
   rw [if_neg (fun z=>z e)] at es
   have gS:la≠st:=dg s6 s1 (by intro z;cases z)
   have kl:bp≠st:=dg s3 s1 (by intro z;cases z)
   have qT:lh≠st:=dg s5 s1 (by intro z;cases z)
   refine⟨_,rfl,st,_,dx,_,rfl,s1,T.aE.cl,T.aE.n,(by show 4<1000;decide),?_⟩
   have e8:dj "offer" V.aD (bN bp lh la (.ref a))=bN bp lh la .aD:=rfl
   rw [e8]
   have x8:=((Gr.refl g).x (st:=st) (la:=la)).mm (o:=.ins c.state dx (bN bp lh la .aD)) s2
   refine⟨bu,fun q nq=>?_⟩
   refine k q G _ (x8.loose nq) ?_ (x8.free nq) ?_
   ·rw [es]
    exact⟨dx,bp,lh,.aD,ts,cq,kp af nq,s2,kp (kq s3 kl) nq,s4,kp (kq s5 qT) nq,kp (kq s6 gS) nq,s7,s8,s9,eV,rfl⟩
   ·rw [es];exact af
end
open Vbdcan (Item Items)
theorem VU (b:Vbdcan.Bound):boundRow b=dZ b.1++dZ b.2:=rfl
def oW (x:Vbdcan.Act) (k:Nat):List Int:=boundRow (bg x.box k)++[aF x.add k]
theorem DV (x:Vbdcan.Act) (k:Nat):(oW x k).length=5:=rfl
theorem Iq (W:Nat) (x:Vbdcan.Act):dG W x=bit x.must::(range W).flatMap (oW x):=rfl
theorem WS (W:Nat) (x:Vbdcan.Act):(dG W x).length=1+5*W:=by
 rw [Iq,length_cons,iP _ 5 (DV x)]
 omega
theorem Ip (W:Nat):∀ l:List Vbdcan.Act,(l.flatMap (dG W)).length=(1+5*W)*l.length
 |[]=>by simp
 | a::r=>by rw [flatMap_cons,length_append,Ip W r,WS,length_cons,Nat.mul_add];omega
section
theorem N2 (T:Txt K mg c):aW P w K mg base 1 "call_registers" ["state","numbers","rows"] (eJ c 19):=by
 refine a0 T.T7 LQ (fun f aw A aA s H vs Q E hr h=>?_)
 ·obtain⟨st,la,ln,lr,ns,rs,as,s,d,G,rfl,so,g,hs,hn,cD,cg,ask,hd,k⟩:=h
  obtain⟨rfl,rfl⟩:=My.Wo ask
  have ed:d=.regs:=(Option.some.inj hd).symm
  subst ed
  have hz:sizeLine=16777216:=sizeLine_eq
  have w8:=so.w
  obtain⟨dx,bp,lh,ov,ts,cq,s1,s2,s3,s4,s5,s6,s7,s8,s9,eV,cX⟩:=hs.ex
  refine⟨_,(ak (ay (bA ig (aZ (aa aq ae)) (pF K 0)))),?_⟩
  refine⟨bu,fun q1 n1=>?_⟩
  have g1:=(Gr.refl g).loose (o:=.lst [.int 0]) n1
  refine⟨_,rfl,st,_,dx,_,_,rfl,kp s1 n1,T.aE.cl,T.aE.n,rfl,q1,lh,_,_,rfl,rfl,af,kp s5 n1,?_,fun q2 n2=>?_⟩
  ·rw [dD]
   show 1+_<=sizeLine
   omega
  refine k.cI (l:=0::Vbdcan.shown s s.regs) hs (g1.loose n2) rfl (g1.same.free n2) ?_
  rw [af,nU so.regs.len w8]
  rfl
theorem NZ (T:Txt K mg c):aW P w K mg base 1 "call_state" ["state","numbers","rows"] (eJ c 21):=by
 refine a0 T.T4 LP (fun f aw A aA s H vs Q E hr h=>?_)
 ·obtain⟨st,la,ln,lr,ns,rs,as,s,d,G,rfl,so,g,hs,hn,cD,cg,ask,hd,k⟩:=h
  obtain⟨rfl,rfl⟩:=My.Wl ask
  have ed:d=.state:=(Option.some.inj hd).symm
  subst ed
  have es:Vbdcan.step s .state=match s.offer with
   | none=>yes s [0,0,0]
   | some (p,l)=>yes s [1,(p:Int),((sumItems s.acts l).len:Int)]:=rfl
  obtain⟨dx,bp,lh,ov,ts,cq,s1,s2,s3,s4,s5,s6,s7,s8,s9,eV,cX⟩:=hs.ex
  refine⟨_,(ag (aX (aT gR (pF K 0) cj (aO _)) (ak (ay (aZ (aa aq (aa aq (aa aq (aa aq ae))))))) aY)
    (ak (ay (aZ (aa aq (aa aq (aa (cy (K:=K) (pF K 0) rfl) (aa (cy (K:=K) (cy (K:=K) (cy (K:=K) (pF K 0) rfl) rfl) rfl) ae)))))))),?_⟩
  refine⟨_,rfl,st,_,dx,_,_,rfl,s1,T.aE.cl,T.aE.n,rfl,rfl,_,rfl,?_⟩
  cases eo:s.offer with
  | none=>
   rw [eo] at es cX
   have:ov=.aD:=cX
   subst this
   refine aH ⟨(by show 4<=sizeLine;decide),fun q nq=>?_⟩
   exact k.cI hs ((Gr.refl g).loose nq) es nq af
  | some x=>
   obtain⟨p,l⟩:=x
   rw [eo] at es cX
   dsimp only at es
   obtain⟨a,da,ra,rfl,o1,o2⟩:=cX
   obtain⟨dr,x1,x2,x3,x4,sw,r1,r2⟩:=o2.whole
   rw [whole_run (gv so) l] at r2
   obtain⟨eR,je,w1,w2⟩:=r2
   refine aI ?_
   refine⟨_,rfl,st,_,dx,_,_,rfl,s1,T.aE.cl,T.aE.n,rfl,a,_,da,_,_,rfl,g _ _ o1,T.gI.cl,T.gI.n,rfl,?_⟩
   refine⟨_,rfl,st,_,dx,_,_,rfl,s1,T.aE.cl,T.aE.n,rfl,a,_,da,_,_,rfl,g _ _ o1,T.gI.cl,T.gI.n,rfl,ra,_,dr,_,_,rfl,g _ _ r1,T.aQ.cl,T.aQ.n,rfl,sw,_,eR,_,_,rfl,g _ _ w1,T.a9.cl,T.a9.n,rfl,?_⟩
   refine⟨(by show 4<=sizeLine;decide),fun q nq=>?_⟩
   exact k.cI hs ((Gr.refl g).loose nq) es nq af
theorem Og (T:Txt K mg c):aW P w K mg base 2 "call_actions" ["state","numbers","rows"] (eJ c 20):=by
 refine a0 T.Um tL (fun f aw A aA s H vs Q E hr h=>?_)
 ·obtain⟨st,la,ln,lr,ns,rs,as,s,d,G,rfl,so,g,hs,hn,cD,cg,ask,hd,k⟩:=h
  obtain⟨rfl,rfl⟩:=My.Wm ask
  have ed:d=.acts:=(Option.some.inj hd).symm
  subst ed
  have hz:sizeLine=16777216:=sizeLine_eq
  have w8:=so.w
  have dE:=so.dE
  have es:Vbdcan.step s .acts=yes s (s.acts.flatMap (dG s.names.length)):=by rw [←My.WO so];rfl
  obtain⟨dx,bp,lh,ov,ts,cq,s1,s2,s3,s4,s5,s6,s7,s8,s9,eV,cX⟩:=hs.ex
  refine⟨_,(ag (pq 3 tL (aZ (aa aq ae)))
    (ag (gP PassesOwn.never rfl (fD (pF K 0)) (dk (i:=4) tL.nd rfl (Or.inl rfl)) (ag (fC (fL PySem.F.plainAttrs_list PySem.F.slot_list_append PySem.F.type_list_append jd (pv 3) (aa (pF K 4) ae)))
     (ak (gP PassesOwn.never rfl (qI rfl T.oq (aa (bJ cC (by rfl) T.cB PySem.boot_len (aa (pF K 0) ae)) ae)) (dk (i:=5) tL.nd rfl (Or.inl rfl)) (ag (fC (fL PySem.F.plainAttrs_list PySem.F.slot_list_extend PySem.F.type_list_extend pf (pv 3) (aa (pC (t6 T) hr (aa (nB (gU hr) (pF K 4) (pv 5) ⟨rfl,by rfl,by rfl,by rfl⟩) ae)) ae)))
      (ag (fC (fL PySem.F.plainAttrs_list PySem.F.slot_list_extend PySem.F.type_list_extend pf (pv 3) (aa (pC (t6 T) hr (aa (nB (gU hr) (pF K 4) (pv 5) ⟨rfl,by rfl,by rfl,by rfl⟩) ae)) ae)))
      (ak (fC (fL PySem.F.plainAttrs_list PySem.F.slot_list_append PySem.F.type_list_append jd (pv 3) (aa (xJ (gU hr) (pF K 4) (pv 5) aq ⟨rfl,by rfl,by rfl,by rfl⟩) ae))))))))))
    (ak (ay (pv 3))))),?_⟩
  refine⟨bu,fun q nq=>?_⟩
  have g1:=(Gr.refl g).loose (o:=.lst [.int 0]) nq
  have gq:G q=none:=g.free nq
  refine⟨_,rfl,st,_,dx,_,_,rfl,g1.same _ _ s1,T.aE.cl,T.aE.n,rfl,la,rfl,⟨_,ai.of (g1.same _ _ s6)⟩,?_⟩
  refine lj (K:=K) (a:=la) (xs:=cq.map V.ref) (fun i σ H'=>∃ v4 v5:Option V,σ=[some (.ref st),some (.ref ln),some (.ref lr),some (.ref q),v4,v5]/\Gr G H G H'/\H' q=some (.lst ((0::(s.acts.take i).flatMap (dG s.names.length)).map V.int)))
   ⟨none,none,rfl,g1,af⟩ (fun i σ H' _ ⟨_,_,_,gg,_⟩=>ai.of (gg.same _ _ s6)) ?_ ?_
  ·rintro i y σ H2 hy ⟨v4,v5,rfl,g2,mK⟩
   obtain⟨ac,rT,rfl⟩:=i4 hy
   obtain⟨x,ex,hx⟩:=s8.get rT
   have zh:i<s.acts.length:=(List.getElem?_eq_some_iff.mp ex).1
   obtain⟨da,uh,d1,d2,d3,k1,k2,k3,q1,q2,q3,q4,q5,q6⟩:=hx.ex
   have Xn:((s.acts.take i).flatMap (dG s.names.length)).length<=41*16:=by
    rw [Ip,length_take,Nat.min_eq_left (by omega)]
    calc (1+5*s.names.length)*i<=41*i:=Nat.mul_le_mul_right _ (by omega)
     _<=41*16:=Nat.mul_le_mul_left _ (by omega)
   refine⟨_,rfl,.inl ⟨rfl,_,ai.of mK⟩,_,rfl,ac,_,da,_,_,rfl,g2.sub _ _ q1,T.cv.cl,T.cv.n,rfl,q,_,_,rfl,rfl,mK,?_,?_⟩
   ·rw [length_map,length_cons];omega
   have g3:=g2.set (o:=.lst ((0::(s.acts.take i).flatMap (dG s.names.length)).map V.int++[.int (bit x.must)])) nq gq
   have nM:upd H2 q (.lst ((0::(s.acts.take i).flatMap (dG s.names.length)).map V.int++[.int (bit x.must)])) q=some (.lst ((0::(s.acts.take i).flatMap (dG s.names.length)++[bit x.must]).map V.int)):=by rw [af,map_append];rfl
   generalize upd H2 q (.lst ((0::(s.acts.take i).flatMap (dG s.names.length)).map V.int++[.int (bit x.must)]))=H3 at *
   refine⟨_,rfl,st,_,dx,_,_,rfl,g3.same _ _ s1,T.aE.cl,T.aE.n,rfl,lh,_,rfl,.inl (ai.of (g3.same _ _ s5)),s.names.length,by rw [dD],by omega,by omega,?_⟩
   refine GK (n:=s.names.length) (fun j σ H'=>∃ v5:Option V,σ=[some (.ref st),some (.ref ln),some (.ref lr),some (.ref q),some (.ref ac),v5]/\Gr G H G H'/\H' q=some (.lst (((0::(s.acts.take i).flatMap (dG s.names.length)++[bit x.must])++(range j).flatMap (oW x)).map V.int)))
    ⟨v5,rfl,g3,by rw [nM];simp⟩ ?_ ?_
   ·rintro j σ H4 hj ⟨v5,rfl,g4,mJ⟩
    have zg:j<8:=by omega
    have ei:(0:Int)+(j:Nat)=((j:Nat):Int):=by omega
    rw [ei]
    have Qe:(((0::(s.acts.take i).flatMap (dG s.names.length)++[bit x.must])++(range j).flatMap (oW x)).map V.int).length<=1000:=by
     rw [length_map,length_append,length_append,length_cons,iP _ 5 (DV x)]
     show _+1+1+_<=_
     omega
    obtain⟨L,hL⟩:∃ L,L=((0::(s.acts.take i).flatMap (dG s.names.length)++[bit x.must])++(range j).flatMap (oW x)):=⟨_,rfl⟩
    rw [←hL] at mJ Qe
    have qv:=g4.sub
    refine⟨_,rfl,.inl ⟨rfl,_,ai.of mJ⟩,_,rfl,ac,_,da,_,_,rfl,qv _ _ q1,T.cv.cl,T.cv.n,rfl,d1,rfl,.inl ⟨_,.inl (qv _ _ q3)⟩,_,rfl,_,iy.k (k:=Sum.inl ((j:Nat):Int)) (qv _ _ q3),?_⟩
    rw [q6.lo j zg,oX]
    refine⟨_,rfl,fun m1 e1=>?_⟩
    have Xl:q≠m1:=aP mJ e1
    have g5:=g4.loose (o:=.lst ((dZ (bg x.box j).1).map V.int)) e1
    refine⟨q,m1,_,_,rfl,rfl,kp mJ e1,af,(by show _+2<=sizeLine;omega),?_⟩
    have g6:=g5.set (o:=.lst (L.map V.int++(dZ (bg x.box j).1).map V.int)) nq gq
    have Fz:upd (upd H4 m1 (.lst ((dZ (bg x.box j).1).map V.int))) q (.lst (L.map V.int++(dZ (bg x.box j).1).map V.int)) q=some (.lst (L.map V.int++(dZ (bg x.box j).1).map V.int)):=af
    generalize upd (upd H4 m1 (.lst ((dZ (bg x.box j).1).map V.int))) q (.lst (L.map V.int++(dZ (bg x.box j).1).map V.int))=H6 at *
    have vT:=g6.sub
    refine⟨_,rfl,.inl ⟨rfl,_,ai.of Fz⟩,_,rfl,ac,_,da,_,_,rfl,vT _ _ q1,T.cv.cl,T.cv.n,rfl,d2,rfl,.inl ⟨_,.inl (vT _ _ q4)⟩,_,rfl,_,iy.k (k:=Sum.inl ((j:Nat):Int)) (vT _ _ q4),?_⟩
    rw [q6.hi j zg,oX]
    refine⟨_,rfl,fun m2 e2=>?_⟩
    have g7:=g6.loose (o:=.lst ((dZ (bg x.box j).2).map V.int)) e2
    refine⟨q,m2,_,_,rfl,rfl,kp Fz e2,af,?_,?_⟩
    ·rw [length_append]
     show _+2+2<=sizeLine
     omega
    have g8:=g7.set (o:=.lst (L.map V.int++(dZ (bg x.box j).1).map V.int++(dZ (bg x.box j).2).map V.int)) nq gq
    have kx:upd (upd H6 m2 (.lst ((dZ (bg x.box j).2).map V.int))) q (.lst (L.map V.int++(dZ (bg x.box j).1).map V.int++(dZ (bg x.box j).2).map V.int)) q=some (.lst (L.map V.int++(dZ (bg x.box j).1).map V.int++(dZ (bg x.box j).2).map V.int)):=af
    generalize upd (upd H6 m2 (.lst ((dZ (bg x.box j).2).map V.int))) q (.lst (L.map V.int++(dZ (bg x.box j).1).map V.int++(dZ (bg x.box j).2).map V.int))=H8 at *
    have vS:=g8.sub
    refine⟨_,rfl,.inl ⟨rfl,_,ai.of kx⟩,_,rfl,ac,_,da,_,_,rfl,vS _ _ q1,T.cv.cl,T.cv.n,rfl,d3,rfl,.inl ⟨_,.inl (vS _ _ q5)⟩,_,rfl,_,iy.k (k:=Sum.inl ((j:Nat):Int)) (vS _ _ q5),?_⟩
    rw [q6.ch j zg]
    refine⟨q,_,_,rfl,rfl,kx,?_,some (.int j),rfl,g8.set nq gq,?_⟩
    ·rw [length_append,length_append]
     show _+2+2<sizeLine
     omega
    ·rw [af,jn,←append_assoc,←hL,map_append]
     unfold oW
     rw [VU,map_append,map_append,append_assoc,append_assoc,append_assoc]
     rfl
   ·rintro σ H4 ⟨v5,rfl,g4,mJ⟩
    refine⟨_,_,rfl,g4,?_⟩
    rw [mJ,My.SE _ ex]
    congr 2
    rw [Iq]
    simp
  ·rintro σ H2 ⟨v4,v5,rfl,g2,mK⟩
   rw [length_map,s8.len,take_length] at mK
   exact⟨_,rfl,k.cI (l:=0::s.acts.flatMap (dG s.names.length)) hs g2 es nq mK⟩
end
open Vbdcan (Item Items)
def IF (X:Cx):List (Str×Pos×Addr)->Prop
 |[]=>True
 | e::r=>(Gl X e.1/\X.mg e.1=some (.ref e.2.2)/\(e.1 == ("__debug__":Str))=false)/\IF X r
theorem DW {X:Cx}:∀(es:List (Str×Pos×Addr)),IF X es->PA X (es.map fun e=>Expr.Name e.1 e.2.1) (fun σ H Q=>Q (es.map fun e=>V.ref e.2.2) H)
 |[],_=>ae
 | e::r,h=>aa (xG h.1.1 h.1.2.1 h.1.2.2) (DW r h.2)
structure W9 (P:Program) (w:World) (K:PySem.W.Frag) (mg:Str->Option Value) (base:Heap) (c:Cl) (fs:List Addr):Prop where
 len:fs.length=22
 at_:∀(i:Nat) (f:Addr),fs[i]? = some f->Az P w K mg base 13 f ["state","numbers","rows"] (eJ c (i:Int))
section
def K4 (P:Program) (w:World) (K:PySem.W.Frag) (mg:Str->Option Value) (base:Heap) (c:Cl):Sp:=fun vs H Q _=>vs=[]/\∀ fs p,W9 P w K mg base c fs->H p=none->Q (.ref p) (upd H p (.lst (fs.map V.ref)))
theorem Ol (T:Txt K mg c):aW P w K mg base 1 "answered_by" [] (K4 P w K mg base c):=by
 refine a0 T.Uu LS (fun f aw A aA s H vs Q E hr h=>?_)
 ·obtain⟨rfl,k⟩:=h
  obtain⟨f0,m0,v0⟩:=(N3 (P:=P) (w:=w) (base:=base) T).v (k:=13) (by decide)
  obtain⟨f1,m1,v1⟩:=(Oh (P:=P) (w:=w) (base:=base) T).v (k:=13) (by decide)
  obtain⟨f2,m2,v2⟩:=(N0 (P:=P) (w:=w) (base:=base) T).v (k:=13) (by decide)
  obtain⟨f3,m3,v3⟩:=(N4 (P:=P) (w:=w) (base:=base) T).v (k:=13) (by decide)
  obtain⟨f4,m4,v4⟩:=(N8 (P:=P) (w:=w) (base:=base) T).v (k:=13) (by decide)
  obtain⟨f5,m5,v5⟩:=(NY (P:=P) (w:=w) (base:=base) T).v (k:=13) (by decide)
  obtain⟨f6,m6,v6⟩:=(Oc (P:=P) (w:=w) (base:=base) T).v (k:=13) (by decide)
  obtain⟨f7,m7,v7⟩:=(Oe (P:=P) (w:=w) (base:=base) T).v (k:=13) (by decide)
  obtain⟨f8,m8,v8⟩:=(N1 (P:=P) (w:=w) (base:=base) T).v (k:=13) (by decide)
  obtain⟨f9,m9,v9⟩:=(N5 (P:=P) (w:=w) (base:=base) T).v (k:=13) (by decide)
  obtain⟨G9,P7,v10⟩:=(Of (P:=P) (w:=w) (base:=base) T).v (k:=13) (by decide)
  obtain⟨GZ,P6,v11⟩:=(N9 (P:=P) (w:=w) (base:=base) T).v (k:=13) (by decide)
  obtain⟨GY,kW,Jc⟩:=(N7 (P:=P) (w:=w) (base:=base) T).v (k:=13) (by decide)
  obtain⟨GX,kU,Jb⟩:=(Oa (P:=P) (w:=w) (base:=base) T).v (k:=13) (by decide)
  obtain⟨GW,P5,Ja⟩:=(Od (P:=P) (w:=w) (base:=base) T).v (k:=13) (by decide)
  obtain⟨GV,P4,I0⟩:=(N6 (P:=P) (w:=w) (base:=base) T).v (k:=13) (by decide)
  obtain⟨GU,P2,IZ⟩:=(Oi (P:=P) (w:=w) (base:=base) T).v (k:=13) (by decide)
  obtain⟨GS,P1,IY⟩:=(Ob (P:=P) (w:=w) (base:=base) T).v (k:=13) (by decide)
  obtain⟨GR,P0,IX⟩:=(NX (P:=P) (w:=w) (base:=base) T).v (k:=13) (by decide)
  obtain⟨GQ,PZ,IW⟩:=(N2 (P:=P) (w:=w) (base:=base) T).v (k:=13) (by decide)
  obtain⟨GP,PY,v20⟩:=(Og (P:=P) (w:=w) (base:=base) T).v (k:=13) (by decide)
  obtain⟨GO,PX,IV⟩:=(NZ (P:=P) (w:=w) (base:=base) T).v (k:=13) (by decide)
  refine⟨_,(ak (ay (aZ (DW [("call_reg",_,f0),("call_act",_,f1),("call_set",_,f2),("call_read",_,f3),("call_form",_,f4),("call_sum",_,f5),("call_counts",_,f6),("call_can",_,f7),("call_run",_,f8),("call_reach",_,f9),("call_at",_,G9),("call_first",_,GZ),("call_most",_,GY),("call_ever",_,GX),("call_compare",_,GW),("call_propose",_,GV),("call_accept",_,GU),("call_cut",_,GS),("call_withdraw",_,GR),("call_registers",_,GQ),("call_actions",_,GP),("call_state",_,GO)] ⟨⟨rfl,m0,by show(("call_reg":Str) == ("__debug__":Str))=false;decide⟩,⟨rfl,m1,by show(("call_act":Str) == ("__debug__":Str))=false;decide⟩,⟨rfl,m2,by show(("call_set":Str) == ("__debug__":Str))=false;decide⟩,⟨rfl,m3,by show(("call_read":Str) == ("__debug__":Str))=false;decide⟩,⟨rfl,m4,by show(("call_form":Str) == ("__debug__":Str))=false;decide⟩,⟨rfl,m5,by show(("call_sum":Str) == ("__debug__":Str))=false;decide⟩,⟨rfl,m6,by show(("call_counts":Str) == ("__debug__":Str))=false;decide⟩,⟨rfl,m7,by show(("call_can":Str) == ("__debug__":Str))=false;decide⟩,⟨rfl,m8,by show(("call_run":Str) == ("__debug__":Str))=false;decide⟩,⟨rfl,m9,by show(("call_reach":Str) == ("__debug__":Str))=false;decide⟩,⟨rfl,P7,by show(("call_at":Str) == ("__debug__":Str))=false;decide⟩,⟨rfl,P6,by show(("call_first":Str) == ("__debug__":Str))=false;decide⟩,⟨rfl,kW,by show(("call_most":Str) == ("__debug__":Str))=false;decide⟩,⟨rfl,kU,by show(("call_ever":Str) == ("__debug__":Str))=false;decide⟩,⟨rfl,P5,by show(("call_compare":Str) == ("__debug__":Str))=false;decide⟩,⟨rfl,P4,by show(("call_propose":Str) == ("__debug__":Str))=false;decide⟩,⟨rfl,P2,by show(("call_accept":Str) == ("__debug__":Str))=false;decide⟩,⟨rfl,P1,by show(("call_cut":Str) == ("__debug__":Str))=false;decide⟩,⟨rfl,P0,by show(("call_withdraw":Str) == ("__debug__":Str))=false;decide⟩,⟨rfl,PZ,by show(("call_registers":Str) == ("__debug__":Str))=false;decide⟩,⟨rfl,PY,by show(("call_actions":Str) == ("__debug__":Str))=false;decide⟩,⟨rfl,PX,by show(("call_state":Str) == ("__debug__":Str))=false;decide⟩,trivial⟩)))),?_⟩
  refine⟨(by show 22<=sizeLine;decide),fun p hp=>?_⟩
  refine k [f0,f1,f2,f3,f4,f5,f6,f7,f8,f9,G9,GZ,GY,GX,GW,GV,GU,GS,GR,GQ,GP,GO] p ⟨rfl,fun i g h=>?_⟩ hp
  match i,h with
  | 0,h=>cases h;exact v0
  | 1,h=>cases h;exact v1
  | 2,h=>cases h;exact v2
  | 3,h=>cases h;exact v3
  | 4,h=>cases h;exact v4
  | 5,h=>cases h;exact v5
  | 6,h=>cases h;exact v6
  | 7,h=>cases h;exact v7
  | 8,h=>cases h;exact v8
  | 9,h=>cases h;exact v9
  | 10,h=>cases h;exact v10
  | 11,h=>cases h;exact v11
  | 12,h=>cases h;exact Jc
  | 13,h=>cases h;exact Jb
  | 14,h=>cases h;exact Ja
  | 15,h=>cases h;exact I0
  | 16,h=>cases h;exact IZ
  | 17,h=>cases h;exact IY
  | 18,h=>cases h;exact IX
  | 19,h=>cases h;exact IW
  | 20,h=>cases h;exact v20
  | 21,h=>cases h;exact IV
  | i+22,h=>simp at h
def Mh:List V->List (Str×V)
 |[x1,x2]=>[("rows",x1),("end",x2)]
 |_=>[]
theorem Pr (T:Txt K mg c):iw P w K mg base 1 "Rows" c.rows ["self","rows","end"] (ml c.rows 2 Mh):=by
 refine lH T.lJ LZ (fun vs H Q E h=>?_) (fun f aw A aA s H vs Q E hr h=>?_)
 ·obtain⟨p,dx,args,rfl,hl,_⟩:=h
  show args.length+1=3
  omega
 ·obtain⟨p,dx,args,rfl,hl,hp,k⟩:=h
  match args,hl,k with
  |[x1,x2],_,k=>
  refine⟨_,(ag (bL (pv 0) (pv 1) rfl)
    (ak (bL (pv 0) (pv 2) rfl))),?_⟩
  refine⟨_,rfl,_,rfl,p,_,dx,_,rfl,hp,T.lJ.cl,T.lJ.n,(by show 0<1000;decide),?_⟩
  refine⟨_,rfl,_,rfl,p,_,dx,_,rfl,af,T.lJ.cl,T.lJ.n,(by show 1<1000;decide),?_⟩
  rw [bM]
  exact k
theorem HA {l:List Int}{a b:Nat}(h:b<=l.length) (zt:a<=b):iq (l.map V.int) (some (a:Int)) (some (b:Int))=((l.drop a).take (b-a)).map V.int:=by
 rw [Vk (by rw [length_map];exact h) zt,←List.map_drop,←List.map_take]
def LstAt (G:Hp) (a:Addr) (r:List Int):Prop:=G a=some (.lst (r.map V.int))
def Kn (K:PySem.W.Frag) (c:Cl):Sp:=fun vs H Q _=>∃(cl:Addr) (l:List Int) (e k:Nat) (xs:List (List Int)) (t:List Int) (G:Hp),vs=[.ref cl,.int e,.int k]/\aJ G H/\ai K H cl (l.map V.int)/\l.length<=17000/\e<=l.length/\k<=2/\PyFlat.rows k (l.drop e)=some (xs,t) /\
 ∀(p dx lr:Addr) (as:List Addr) (e':Nat) (G' H':Hp),Gr G H G' H'->H p=none->H' p=some (.ins c.rows dx [("rows",.ref lr),("end",.int e')])->H' lr=some (.lst (as.map V.ref))->Al (fun a r=>H' a=some (.lst (r.map V.int))) as xs->l.drop e'=t->e'<=l.length->e<=e'->Q (.ref p) H'
theorem NH (T:Txt K mg c):aW P w K mg base 3 "rows_from" ["calls","start","how_many"] (Kn K c):=by
 refine a0 T.Tb oO (fun f aw A aA s H vs Q E hr h=>?_)
 ·obtain⟨cl,l,e,k,xs,t,G,rfl,g,jl,FO,pX,FP,uH,fin⟩:=h
  have hz:sizeLine=16777216:=sizeLine_eq
  have Xs:=My.Di uH
  refine⟨_,(ag (pq 3 oO (aZ ae))
    (ag (pq 4 oO (pv 1))
    (ag (gP PassesOwn.never rfl (qI rfl T.oq (aa (pv 2) ae)) (dk (i:=5) oO.nd rfl (Or.inl rfl)) (ag (pq 6 oO (bA dM (pv 4) aq))
     (ag (pq 4 oO (bA dM (pv 6) (bH bQ (pv 0) (pv 4) (fun _ _=>rfl))))
     (ak (fC (fL PySem.F.plainAttrs_list PySem.F.slot_list_append PySem.F.type_list_append jd (pv 3) (aa (oU oK (pv 0) (kO (pv 6)) (kO (pv 4))) ae)))))))
    (ak (ay (eL (Pr T) (hr.mono (by decide)) rfl (aa (pv 3) (aa (pv 4) ae)))))))),?_⟩
  refine⟨Nat.zero_le _,fun lr yi=>?_⟩
  have Sl:G lr=none:=g.free yi
  refine⟨_,rfl,?_⟩
  refine⟨_,rfl,k,rfl,by omega,by omega,?_⟩
  refine GK (n:=k) (fun j σ H'=>∃(e':Nat) (v5 v6:Option V) (as:List Addr) (G':Hp),σ=[some (.ref cl),some (.int e),some (.int k),some (.ref lr),some (.int e'),v5,v6]/\Gr G H G' H'/\G' lr=none/\H' lr=some (.lst (as.map V.ref))/\Al (LstAt G') as (xs.take j)/\PyFlat.rows (k-j) (l.drop e')=some (xs.drop j,t)/\e'<=l.length/\e<=e')
   ⟨e,none,none,[],G,rfl,(Gr.refl g).loose yi,Sl,af,Al.nil,uH,pX,Nat.le_refl _⟩ ?_ ?_
  ·rintro j σ H1 hj ⟨e1,v5,v6,as,G1,rfl,g1,Gs,bC,al,cx,FW,zm⟩
   obtain⟨k',hk'⟩:∃ k',k-j=k'+1:=⟨k-j-1,by omega⟩
   rw [hk'] at cx
   obtain⟨n,r',ys,ed,Xy,cK,p0,kr⟩:=My.Dh cx
   obtain⟨q1,q2,q3⟩:=jX ed
   obtain⟨nn,rfl⟩:∃ nn:Nat,n=(nn:Int):=⟨n.toNat,by omega⟩
   rw [Int.toNat_natCast] at cK p0 kr
   have F2:=g1.same.seq jl
   have hr'l:r'.length=l.length-(e1+1):=by rw [q3,length_drop]
   have eb:(e1:Int)+1=((e1+1:Nat):Int):=by omega
   have ee:((e1+1:Nat):Int)+(nn:Int)=((e1+1+nn:Nat):Int):=by omega
   have FQ:j<xs.length:=by omega
   have Ha:xs[j]? = some (r'.take nn):=by
    have:(xs.drop j)[0]? = some (r'.take nn):=by rw [p0];rfl
    rw [List.getElem?_drop] at this
    simpa using this
   refine⟨_,rfl,_,_,rfl,rfl,?_⟩
   refine⟨_,rfl,_,rfl,_,rfl,cl,_,_,_,rfl,rfl,F2,bS (mG q2),_,_,rfl,rfl,?_⟩
   refine⟨_,rfl,.inl ⟨rfl,_,ai.of bC⟩,_,rfl,_,rfl,_,rfl,_,rfl,_,rfl,cl,_,rfl,F2,fun q nq=>?_⟩
   have mQ:iq (l.map V.int) (some ((e1:Int)+1)) (some ((e1:Int)+1+(nn:Int)))=(r'.take nn).map V.int:=by
    rw [eb,ee,HA (by omega) (by omega),q3]
    congr 2
    omega
   have g2:=(Gr.refl g1.sub).new (o:=.lst ((r'.take nn).map V.int)) nq
   refine⟨lr,_,_,rfl,rfl,kp bC nq,?_,?_⟩
   ·rw [length_map,al.len,length_take]
    omega
   have Gq:upd G1 q (.lst ((r'.take nn).map V.int)) lr=none:=by rw [aj (aP bC nq)];exact Gs
   refine⟨e1+1+nn,some (.int (0+(j:Nat))),some (.int ((e1:Int)+1)),as++[q],upd G1 q (.lst ((r'.take nn).map V.int)),?_,?_,Gq,?_,?_,?_,by omega,by omega⟩
   ·have e3:((e1+1+nn:Nat):Int)=(e1:Int)+1+(nn:Int):=by omega
    rw [e3]
    rfl
   ·have g3:=(g1.trans g2).set (o:=.lst (as.map V.ref++[.ref q])) yi Gq
    rw [mQ]
    exact g3
   ·rw [af,map_append];rfl
   ·rw [take_succ_eq_append_getElem FQ]
    have ej:xs[j]=r'.take nn:=by rw [getElem?_eq_getElem FQ] at Ha;exact Option.some.inj Ha
    rw [ej]
    exact(al.imp fun a r z=>g2.gg _ _ z).snoc af
   ·have e4:k-(j+1)=k':=by omega
    have e5:xs.drop (j+1)=ys:=by rw [←drop_drop,p0];rfl
    have e6:l.drop (e1+1+nn)=r'.drop nn:=by rw [q3,drop_drop]
    rw [e4,e5,e6]
    exact kr
  ·rintro σ H1 ⟨e1,v5,v6,as,G1,rfl,g1,Gs,bC,al,cx,FW,zm⟩
   rw [Nat.sub_self] at cx
   have cx:some ([],l.drop e1)=some (xs.drop k,t):=cx
   have et:l.drop e1=t:=by injection cx with z;injection z
   rw [List.take_of_length_le (by omega)] at al
   refine⟨_,rfl,_,rfl,?_⟩
   refine fun x dx n1 n2 n3=>⟨x,dx,_,rfl,rfl,af,rfl,?_⟩
   rw [bM]
   have gm:=g1.made (C:=c.rows) (fs:=[("rows",.ref lr),("end",.int e1)]) n1 n2 n3
   have sm:=iF (C:=c.rows) (fs:=[("rows",.ref lr),("end",.int e1)]) g1.sub n1 n2
   refine fin x dx lr as e1 _ _ gm (g1.same.free n1) af ?_ (al.imp fun a r z=>gm.sub _ _ (sm _ _ z)) et FW zm
   rw [aj (aP bC n1),aj (aP bC n2)]
   exact bC
end
open Vbdcan (Item Items)
theorem fG.upd {c:Cl}{G H:Hp}{st la td:Addr}{s:State}{o:HO}(h:fG c G H st la s) (n1:td≠st) (n2:td≠la) (g:G td=none):fG c G (upd H td o) st la s:=by
 obtain⟨dx,ln,lh,ov,ts,as,h1,h2,h3,h4,h5,h6,h7,h8,⟨o9,h9⟩,⟨OH,gi⟩,cS⟩:=h.ex
 exact⟨dx,ln,lh,ov,ts,as,kq h1 n1.symm,h2,kq h3 (aP h9 g),h4,kq h5 (aP gi g),kq h6 n2.symm,h7,h8,⟨o9,h9⟩,⟨OH,gi⟩,cS⟩
structure IJ (c:Cl) (l:List Int) (H0:Hp) (cb st la td:Addr) (fs:List Addr) (pl:Nat) (G H:Hp):Prop where
 sub:aJ G H
 BF:aJ H0 H
 uY:G td=none
 F4:G cb=some (.lst (fs.map V.ref))
 qx:H0 st=none
 uB:H0 la=none
 kb:H0 td=none
 n1:td≠st
 n2:td≠la
 le:pl<=l.length
 ex:∃(s:State) (cs:List (List (List Int))) (acc:List Int) (n f:Nat),cN s/\fG c G H st la s/\H td=some (.lst (acc.map V.int))/\PyFlat.calls PyVbdcan.shape f (l.drop pl)=some cs/\(∀ x∈cs,asked1 x=true) /\
  acc++PyFlat.told (PyFlat.played VbdcanNeutral.step s cs)=answers l/\n+cs.length<=150/\acc.length<=n*8301
theorem A3 {T:List Nat}{j n:Nat}(h:T[j]? = some n):(T.map fun(n:Nat)=>V.int (n:Int))[j]? = some (.int (n:Int)):=by rw [getElem?_map,h];rfl
theorem Mo {fs:List Addr}{j:Nat}{f:Addr}(h:fs[j]? = some f):(fs.map V.ref)[j]? = some (.ref f):=by rw [getElem?_map,h];rfl
section
def Bm (K:PySem.W.Frag):Sp:=fun vs H Q _=>∃(a:Addr) (l:List Int),vs=[.ref a]/\ai K H a (l.map V.int)/\l.length<=17000/\PyVbdcan.answers_asked l=true/\∀(H':Hp) (p:Addr),H' p=some (.lst ((answers l).map V.int))->Q (.ref p) H'
theorem Oj (T:Txt K mg c){f:Addr}{fd:FuncData}(F:l6 K "answers" "answers" xk f fd):fc P w K mg base iz 14 f fd ["calls"] (Bm K):=by
 refine F.ok ke (fun vs H Q E h=>?_) (fun aw A aA s H vs Q E hr h=>?_)
 ·obtain⟨a,l,rfl,_⟩:=h
  rfl
 ·obtain⟨a,l,rfl,hS,FO,ask,fin⟩:=h
  have hz:sizeLine=16777216:=sizeLine_eq
  obtain⟨Vn,US,SO,Ae,UW⟩:=My.Wb ask
  refine⟨_,(ag (pq 1 ke (DP (Ol T) (hr.mono (by decide)) rfl))
    (ag (pq 2 ke (M9 (Pq T) (hr.mono (by decide)) rfl))
    (ag (pq 3 ke (aZ ae))
    (ag (pq 4 ke aq)
    (ag (mn PassesOwn.never (aT eO (pv 4) (bJ cC (by rfl) T.cB PySem.boot_len (aa (pv 0) ae)) (aO _)) (ag (pq 5 ke (bH bQ (pv 0) (pv 4) (fun _ _=>rfl)))
     (ag (pq 6 ke (bH bQ (pv 1) (pv 5) (fun _ _=>rfl)))
     (ag (pq 7 ke (bA dM (bA dM (pv 4) aq) (bH pK (xG rfl T.VN) (pv 5) (fun _ _=>rfl))))
     (ag (pq 8 ke (pC (NH T) hr (aa (pv 0) (aa (pv 7) (aa (bH pK (xG rfl T.VM) (pv 5) (fun _ _=>rfl)) ae)))))
     (ag (pq 9 ke (Nf (k:=13) (pv 6) (hr.mono (by decide)) (aa (pv 2) (aa (oU oK (pv 0) (kO (bA dM (pv 4) aq)) (kO (pv 7))) (aa (pF K 8) ae)))))
     (ag (fC (fL PySem.F.plainAttrs_list PySem.F.slot_list_append PySem.F.type_list_append jd (pv 3) (aa (bJ cC (by rfl) T.cB PySem.boot_len (aa (pv 9) ae)) ae)))
     (ag (fC (fL PySem.F.plainAttrs_list PySem.F.slot_list_extend PySem.F.type_list_extend pf (pv 3) (aa (pv 9) ae)))
     (ak (pq 4 ke (pF K 8)))))))))))
    (ak (ay (pv 3)))))))),?_⟩
  refine⟨rfl,fun fs cb FT O9=>?_⟩
  have g0:aJ (fun _=>none:Hp) H:=fun b o e=>by cases e
  have g1:=(Gr.refl g0).new (o:=.lst (fs.map V.ref)) O9
  have RM:upd (fun _=>none:Hp) cb (.lst (fs.map V.ref)) cb=some (.lst (fs.map V.ref)):=af
  generalize upd (fun _=>none:Hp) cb (.lst (fs.map V.ref))=G1 at *
  generalize upd H cb (.lst (fs.map V.ref))=H1 at *
  refine fun st dx n1 n2 n3=>⟨st,dx,rfl,af,fun d1 d2 la m1 m2 m3 kW kU mD=>⟨rfl,?_⟩⟩
  have g4:=(g1.loose (o:=.own st) n2).loose (p:=st) (o:=.ins c.state dx []) (by rw [aj (fun e=>n3 e.symm)];exact n1)
  have g5:=g4.loose (o:=.lst []) m1
  have g6:=g5.loose (p:=d2) (o:=.lst []) (by rw [aj kW.symm];exact m2)
  have g7:=g6.loose (p:=la) (o:=.lst []) (by rw [aj mD.symm,aj kU.symm];exact m3)
  have qx:H st=none:=g1.same.free n1
  have Vg:H d1=none:=g4.same.free m1
  have Vf:H d2=none:=g4.same.free m2
  have uB:H la=none:=g4.same.free m3
  have gV:G1 st=none:=g1.sub.free n1
  have u5:G1 d1=none:=g4.sub.free m1
  have u4:G1 d2=none:=g4.sub.free m2
  have kD:G1 la=none:=g4.sub.free m3
  have EH:d1≠st:=fun z=>by rw [z,af] at m1;cases m1
  have EG:d2≠st:=fun z=>by rw [z,af] at m2;cases m2
  have OZ:la≠st:=fun z=>by rw [z,af] at m3;cases m3
  have g8:=g7.set (o:=.ins c.state dx (bN d1 d2 la .aD)) qx gV
  have k4:upd (upd (upd (upd (upd (upd H1 dx (.own st)) st (.ins c.state dx [])) d1 (.lst [])) d2 (.lst [])) la (.lst [])) st (.ins c.state dx (bN d1 d2 la .aD)) st=some (.ins c.state dx (bN d1 d2 la .aD)):=af
  have F1:upd (upd (upd (upd (upd (upd H1 dx (.own st)) st (.ins c.state dx [])) d1 (.lst [])) d2 (.lst [])) la (.lst [])) st (.ins c.state dx (bN d1 d2 la .aD)) d1=some (.lst []):=by rw [aj EH,aj kU,aj kW,af]
  have F0:upd (upd (upd (upd (upd (upd H1 dx (.own st)) st (.ins c.state dx [])) d1 (.lst [])) d2 (.lst [])) la (.lst [])) st (.ins c.state dx (bN d1 d2 la .aD)) d2=some (.lst []):=by rw [aj EG,aj mD,af]
  have FN:upd (upd (upd (upd (upd (upd H1 dx (.own st)) st (.ins c.state dx [])) d1 (.lst [])) d2 (.lst [])) la (.lst [])) st (.ins c.state dx (bN d1 d2 la .aD)) la=some (.lst []):=by rw [aj OZ,af]
  generalize upd (upd (upd (upd (upd (upd H1 dx (.own st)) st (.ins c.state dx [])) d1 (.lst [])) d2 (.lst [])) la (.lst [])) st (.ins c.state dx (bN d1 d2 la .aD))=H8 at *
  have f1:=g8.fix Vg F1
  have f2:=f1.fix Vf F0
  have sk:aJ G1 (upd (upd G1 d1 (.lst [])) d2 (.lst [])):=fun b o e=>by
   rw [aj (aP e u4),aj (aP e u5)];exact e
  have Sh:upd (upd G1 d1 (.lst [])) d2 (.lst []) st=none:=by rw [aj EG.symm,aj EH.symm];exact gV
  have Sm:upd (upd G1 d1 (.lst [])) d2 (.lst []) la=none:=by rw [aj mD.symm,aj kU.symm];exact kD
  have Sr:upd (upd G1 d1 (.lst [])) d2 (.lst []) d1=some (.lst []):=by rw [aj kW,af]
  have Sq:upd (upd G1 d1 (.lst [])) d2 (.lst []) d2=some (.lst []):=af
  have RL:=sk _ _ RM
  generalize upd (upd G1 d1 (.lst [])) d2 (.lst [])=G2 at *
  have yY:fG c G2 H8 st la Vbdcan.start:=⟨dx,d1,d2,.aD,[],[],k4,Sh,F1,Al.nil,F0,FN,Sm,Al.nil,⟨_,Sr⟩,⟨_,Sq⟩,rfl⟩
  refine⟨Nat.zero_le _,fun td qL=>?_⟩
  have f3:=f2.loose (o:=.lst []) qL
  have Ei:td≠st:=(aP k4 qL).symm
  have Ej:td≠la:=(aP FN qL).symm
  have uY:G2 td=none:=f2.sub.free qL
  refine⟨fun m σ H'=>∃(pl:Nat) (v5 v6 v7 v8 v9:Option V) (G':Hp),σ=[some (.ref a),some (.ref cb),some (.ref st),some (.ref td),some (.int pl),v5,v6,v7,v8,v9]/\IJ c l H cb st la td fs pl G' H'/\m=l.length-pl,⟨_,0,none,none,none,none,none,G2,rfl,?_,rfl⟩,?_⟩
  ·refine⟨f3.sub,f3.same,uY,RL,qx,uB,f2.same.free qL,Ei,Ej,Nat.zero_le _,Vbdcan.start,Vn,[],0,l.length,My.JZ,yY.upd Ei Ej uY,af,?_,Ae,?_,by omega,Nat.zero_le _⟩
   ·rw [drop_zero];exact US
   ·rw [nil_append,UW];rfl
  rintro m σ H3 ⟨pl,v5,v6,v7,v8,v9,G3,rfl,I,rfl⟩
  obtain⟨s,cs,acc,n,f,so,hs,uG,mL,F8,rG,zl,hlen⟩:=I.ex
  have uV:=I.BF.seq hS
  refine⟨_,rfl,_,rfl,a,_,rfl,.inl uV,_,_,rfl,rfl,_,rfl,?_⟩
  rw [length_map]
  by_cases bR:pl<l.length
  ·rw [decide_eq_true (show(pl:Int)<(l.length:Int) by omega)]
   refine aH ?_
   obtain⟨p,r,Hg⟩:∃ p r,l.drop pl=p::r:=⟨_,_,drop_eq_getElem_cons bR⟩
   obtain⟨_,hp,hr⟩:=jX Hg
   rw [Hg] at mL
   obtain⟨f',rfl⟩:=My.Vz mL
   obtain⟨nn,kk,xs,t,cs',QR,Xx,uH,hcs',rfl⟩:=My.VA mL
   obtain⟨t1,t2,t3,t4⟩:=My.Le QR
   obtain⟨j,rfl⟩:∃ j:Nat,p=(j:Int):=⟨p.toNat,t2.symm⟩
   rw [Int.toNat_natCast] at t1 t3 t4
   have F7:=F8 ((((j:Int)::r.take nn))::xs) (by simp)
   obtain⟨d,hd,Rz⟩:=My.Wa F7
   obtain⟨fj,Hf⟩:∃ fj,fs[j]? = some fj:=⟨_,getElem?_eq_getElem (by rw [FT.len];exact t1)⟩
   have Vh:=FT.at_ j fj Hf
   have rA:r.length=l.length-(pl+1):=by rw [hr,length_drop]
   have FP:kk<=2:=by
    have e7:∀ k∈iZ,k<=2:=by decide
    exact e7 kk (mem_of_getElem? t4)
   refine⟨fun σ' H'=>∃(pl':Nat) (v5 v6 v7 v8 v9:Option V) (G':Hp),σ'=[some (.ref a),some (.ref cb),some (.ref st),some (.ref td),some (.int pl'),v5,v6,v7,v8,v9]/\IJ c l H cb st la td fs pl' G' H'/\l.length-pl'<l.length-pl,fun σ' H' z=>?_,?_⟩
   ·obtain⟨pl',v5,v6,v7,v8,v9,G',z1,z2,z3⟩:=z
    exact⟨_,z3,pl',v5,v6,v7,v8,v9,G',z1,z2,rfl⟩
   refine⟨_,rfl,_,rfl,a,_,_,_,rfl,rfl,uV,bS (mG hp),?_⟩
   refine⟨_,rfl,_,rfl,cb,_,_,_,rfl,rfl,ai.of (I.sub _ _ I.F4),bS (Mo Hf),?_⟩
   refine⟨_,rfl,_,_,rfl,rfl,_,rfl,c.zE,_,_,_,rfl,rfl,T.JD H3,bS (j:=j) (A3 (T:=My.Eg) t3),_,_,rfl,rfl,?_⟩
   have e3:(pl:Int)+1+(nn:Int)=((pl+1+nn:Nat):Int):=by omega
   refine⟨_,rfl,_,rfl,_,rfl,c.zD,_,_,_,rfl,rfl,T.JC H3,bS (j:=j) (A3 (T:=iZ) t4),?_⟩
   refine⟨a,l,pl+1+nn,kk,xs,t,G3,?_,I.sub,uV,FO,by omega,FP,?_,fun fo Hj lr as e' G4 H4 g4 yk FV Rb cg QL pX zm=>?_⟩
   ·rw [←e3];rfl
   ·rw [←uH,hr,drop_drop]
   have RX:=g4.same.seq uV
   refine⟨_,rfl,fj,_,_,rfl,Vh,?_⟩
   refine⟨_,rfl,_,rfl,_,rfl,_,_,rfl,rfl,_,rfl,_,rfl,_,rfl,a,_,rfl,RX,fun q nq=>?_⟩
   have mQ:iq (l.map V.int) (some ((pl:Int)+1)) (some ((pl:Int)+1+(nn:Int)))=(r.take nn).map V.int:=by
    rw [e3,show(pl:Int)+1=((pl+1:Nat):Int) by omega,HA (by omega) (by omega),hr]
    congr 2
    omega
   have g5:=g4.loose (o:=.lst ((r.take nn).map V.int)) nq
   refine⟨_,rfl,fo,_,Hj,_,_,rfl,kp FV nq,T.lJ.cl,T.lJ.n,rfl,?_⟩
   obtain⟨eQ,bp,lh,ov,ts,cq,s1,s2,s3,s4,s5,s6,s7,s8,s9,eV,cX⟩:=hs.ex
   have O2:fo≠st:=(aP s1 yk).symm
   have O3:fo≠la:=(aP s6 yk).symm
   have Ry:=kp (u:=.lst ((r.take nn).map V.int)) FV nq
   have Ra:=kp (u:=.lst ((r.take nn).map V.int)) Rb nq
   have RT:=cg.imp (R':=fun a r'=>upd H4 q (.lst ((r.take nn).map V.int)) a=some (.lst (r'.map V.int))) fun _ _ z=>kp z nq
   have uJ:upd H4 q (.lst ((r.take nn).map V.int)) q=some (.lst ((r.take nn).map V.int)):=af
   have yS:=g5.same _ _ uG
   refine⟨st,la,q,lr,r.take nn,xs,as,s,d,G4,rfl,so,?_,?_,?_,?_,?_,F7,hd,?_⟩
   ·rw [mQ];exact g5.sub
   ·rw [mQ];exact hs.mono g5
   ·rw [mQ];exact uJ
   ·rw [mQ];exact Ra
   ·rw [mQ];exact RT
   rw [mQ]
   generalize upd H4 q (.lst ((r.take nn).map V.int))=H5 at *
   intro qa G6 H6 x6 J0 qO Fy
   have Fn:=x6.same td _ I.n1 I.n2 yS
   have Sf:G4 td=none:=by rw [g5.old td (by rw [uG];simp)];exact I.uY
   have zz:G6 td=none:=by rw [x6.old td (by rw [yS];simp)];exact Sf
   have Rx:=x6.same fo _ O2 O3 Ry
   have OM:qa≠td:=(aP yS qO).symm
   have O1:fo≠td:=(aP uG yk).symm
   obtain⟨K7,Xo⟩:=My.JX so d Rz
   have bC:acc.length<=150*8301:=Nat.le_trans hlen (Nat.mul_le_mul_right _ (by omega))
   refine⟨_,rfl,.inl ⟨rfl,_,ai.of Fn⟩,_,rfl,qa,_,rfl,.inl (ai.of Fy),td,_,_,rfl,rfl,Fn,?_,?_⟩
   ·rw [length_map];omega
   refine⟨_,rfl,.inl ⟨rfl,_,ai.of af⟩,_,rfl,td,qa,_,_,rfl,rfl,af,kq Fy OM,?_,?_⟩
   ·rw [length_append,length_map,length_map]
    show acc.length+1+_<=sizeLine
    omega
   rw [bM]
   refine⟨_,rfl,fo,_,Hj,_,_,rfl,kq Rx O1,T.lJ.cl,T.lJ.n,rfl,?_⟩
   refine⟨e',some (.int (j:Int)),some (.ref fj),some (.int ((pl:Int)+1+(nn:Int))),some (.ref fo),some (.ref qa),G6,rfl,?_,by omega⟩
   have vd:=My.step_call so hd
   refine⟨fun b o e=>by rw [aj (aP e zz)];exact x6.sub _ _ e,fun b o e=>?_,zz,x6.gg _ _ (g5.gg _ _ I.F4),I.qx,I.uB,I.kb,I.n1,I.n2,pX,(Vbdcan.step s d).1,cs',acc++(((Vbdcan.step s d).2.length:Int)::(Vbdcan.step s d).2),n+1,f',K7,J0.upd I.n1 I.n2 zz,?_,?_,fun x hx=>F8 x (mem_cons_of_mem _ hx),?_,?_,?_⟩
   ·rw [aj (aP e I.kb)]
    exact x6.same b o (aP e I.qx) (aP e I.uB) (g5.same _ _ (I.BF _ _ e))
   ·rw [af,map_append,map_cons,length_map,append_assoc]
    rfl
   ·rw [QL];exact hcs'
   ·rw [←rG]
    have ep:PyFlat.played VbdcanNeutral.step s ((((j:Int)::r.take nn)::xs)::cs')=(Vbdcan.step s d).2::PyFlat.played VbdcanNeutral.step (Vbdcan.step s d).1 cs':=by
     rw [←vd];rfl
    rw [ep,My.Jt,append_assoc]
    rfl
   ·rw [length_cons] at zl;omega
   ·rw [length_append,length_cons,Nat.add_mul];omega
  ·rw [decide_eq_false (show ¬ (pl:Int)<(l.length:Int) by omega)]
   refine aI ?_
   rw [List.drop_eq_nil_of_le (by omega)] at mL
   have UT:=My.Vy mL
   subst UT
   have rG:acc++[]=answers l:=rG
   rw [append_nil] at rG
   refine⟨_,rfl,fin H3 td ?_⟩
   rw [uG,rG]
end
section
variable {P:Program}{w:World}{K:PySem.W.Frag}{mg:Str->Option Value}{h:Heap}{c:Cl}
theorem XI {x:Str}{st:Stmt}{f:Addr}{oc:Value}{od an:Option Addr}{eN:Array (Option Value)}{kV doc pm aw ct:Value}(X:K.In h) (G:h.Ns mainGlobals mg) (a:PySem.W.nsIn K mainGlobals x=some (some (.ref f)))
  (l:K.lookup f=some ⟨oc,od,.func (PySem.W.fnOf x x (jq st) (fE st) (aC st) .none kV doc pm an aw ct),eN⟩) (k1:PySem.W.codeIn K aw x=true) (k2:PySem.W.keepIn K (.ref f)=true):FnAt K mg x st:=
 ⟨f,_,zH l k1 k2,PySem.W.mg_of X G a⟩
def su (K:PySem.W.Frag) (C:Addr):List Str->Prop
 |[]=>True
 | f::r=>PySem.W.findIn K (.ref C) f=some none/\su K C r
theorem su.all {C:Addr}:∀ {l:List Str},su K C l->∀ f∈l,lu K C f
 |[],_,f,hf=>by cases hf
 | g::r,hn,f,hf=>by
  rcases mem_cons.mp hf with rfl | hf
  ·exact hn.1
  ·exact su.all hn.2 f hf
theorem XO {x qual:Str}{C:Addr}{fields:List Str}{st:Stmt}{f:Addr}{oc:Value}{od an:Option Addr}{eN:Array (Option Value)}{kV doc pm aw ct:Value}(X:K.In h) (G:h.Ns mainGlobals mg) (a:PySem.W.nsIn K mainGlobals x=some (some (.ref C)))
  (pg:PySem.W.plainGet K C Str.empty=true) (hd:PySem.W.hasDictIn K C=true) (po:PySem.W.plainOver K C=true) (sa:PySem.W.findIn K (.ref C) "__setattr__" = some (some (.builtin "object.__setattr__"))) (no:su K C fields)
  (Qv:PySem.W.findIn K (.ref C) "__init__" = some (some (.ref f))) (fn:PySem.W.isFn K (.ref f)=true)
  (l:K.lookup f=some ⟨oc,od,.func (PySem.W.fnOf "__init__" qual (jq st) (fE st) (aC st) .none kV doc pm an aw ct),eN⟩) (k1:PySem.W.codeIn K aw qual=true) (k2:PySem.W.keepIn K (.ref f)=true)
  (mk:PySem.W.makesIn K C=true) (kc:PySem.W.keepIn K (.ref C)=true):ClsAt K mg x qual C fields st:=
 ⟨⟨pg,hd,po,sa⟩,no.all,PySem.W.mg_of X G a,f,_,zH l k1 k2,⟨mk,Qv,fn,kc⟩⟩
theorem Xm {C:Addr}{m qual:Str}{st:Stmt}{f:Addr}{oc:Value}{od an:Option Addr}{eN:Array (Option Value)}{kV doc pm aw ct:Value}
  (a:PySem.W.findIn K (.ref C) m=some (some (.ref f))) (fn:PySem.W.isFn K (.ref f)=true)
  (l:K.lookup f=some ⟨oc,od,.func (PySem.W.fnOf m qual (jq st) (fE st) (aC st) .none kV doc pm an aw ct),eN⟩) (k1:PySem.W.codeIn K aw qual=true) (k2:PySem.W.keepIn K (.ref f)=true):MethAt K C m qual st:=
 ⟨f,_,zH l k1 k2,⟨a,fn,k2⟩⟩
theorem Xd {a:Addr}{xs:List V}{od:Option Addr}{au:Array Value}{n:Nat}{sl:Array (Option Value)}(l:K.lookup a=some ⟨.type "tuple",od,.seq au n,sl⟩) (hz:au.size<=sizeLine) (v:Vals xs au.toList):∀ H,cE K H a xs:=
 fun H=>.inr ⟨_,au,n,l,rfl,rfl,hz,v⟩
theorem tab_of {a:Addr}{k1 k2 k3:Int}{x1 x2 x3:Str}{t1 t2 t3 u1 u2 u3:Tok}{ep:Nat}(l:K.lookup a=some ⟨.type "dict",none,.dict #[⟨hashInt k1,.int k1 t1,.str x1 u1⟩,⟨hashInt k2,.int k2 t2,.str x2 u2⟩,⟨hashInt k3,.int k3 t3,.str x3 u3⟩] ep,#[]⟩)
  (hs:(a == sysModules)=false) (uq:k1≠k2) (uo:k1≠k3) (um:k2≠k3):TabAt K a [(.inl k1,.str x1),(.inl k2,.str x2),(.inl k3,.str x3)]:=by
 intro P w h Rr
 refine⟨hs,[(.inl k1,.str x1 u1),(.inl k2,.str x2 u2),(.inl k3,.str x3 u3)],.cons ⟨rfl,u1,rfl⟩ (.cons ⟨rfl,u2,rfl⟩ (.cons ⟨rfl,u3,rfl⟩ .nil)),_,_,_,Rr _ _ l,⟨rfl,rfl,rfl⟩,rfl,?_,?_,?_⟩
 ·intro e he
  simp at he
  rcases he with rfl | rfl | rfl
  ·exact⟨.inl k1,nH P w k1 t1,rfl⟩
  ·exact⟨.inl k2,nH P w k2 t2,rfl⟩
  ·exact⟨.inl k3,nH P w k3 t3,rfl⟩
 ·exact .cons (nH P w k1 t1) rfl (.cons (nH P w k2 t2) rfl (.cons (nH P w k3 t3) rfl .nil))
 ·simp [uq,uo,um]
theorem XS {fa:Addr}(X:K.In h) (G:h.Ns mainGlobals mg) (RA:mg "answers" = some (.ref fa)) (T:Txt K mg c) :
  ∃ fd:FuncData,(∀(s:Shared) (us:List Value),us.length=(["calls"]:List Str).length->BindsTo s fd ⟨us,[]⟩ ((["calls"]:List Str).zip us))/\∀ base:Heap,K.In base->base.Ns mainGlobals mg->fc P w K mg base iz 14 fa fd ["calls"] (Bm K):=by
 obtain⟨f,fd,F,hm⟩:=T.Ut.ex
 have e:=RA.symm.trans hm
 cases e
 obtain⟨oc,od,kV,doc,pm,an,aw,ct,eN,rfl,l,cd⟩:=F.ex
 exact⟨_,fun s us hu=>match us,hu with |[_],_=>.of_eq rfl,fun base _ _=>Oj T F⟩
end
end SR
end
open PySem PySem.W PyProof.Rows
set_option maxRecDepth 100000 in
set_option maxHeartbeats 0 in
theorem PySem.Challenge.cw_shortruns_s01_answers_holds : PySem.Challenge.rw_shortruns_s01_answers.Holds := by
 have z:=zzw
 w_on;k_headS;(case hw=>exact⟨[.list [.int 19]],by decide +kernel,by decide +kernel⟩)
 k_fillS
 refine L2.Xb (r:=PySem.Challenge.rw_shortruns_s01_answers) (k:=14) (CX:=L2.iz) (ps:=["calls"]) (sp:=SR.Bm) (by decide +kernel) rfl rfl ⟨rfl,by decide,by decide⟩ (fun w h Y=>PySem.W.kIn_of Y) ?F ?S (fun _ _ _ _ z=>z)
 case F=>
  intro w mg fa h Y KX G Q6
  refine' SR.XS KX G Q6 (c:=⟨31,52,192,252,378,406,427,448,566,636,828,235,803,804⟩) ?T
  case T=>
   refine' SR.Txt.mk ?_ ?_ ?_ ?_ ?_ ?_ ?_ ?_ ?_ ?_ ?_ ?_ ?_ ?_ ?_ ?_ ?_ ?_ ?_ ?_ ?_ ?_ ?_ ?_ ?_ ?_ ?_ ?_ ?_ ?_ ?_ ?_ ?_ ?_ ?_ ?_ ?_ ?_ ?_ ?_ ?_ ?_ ?_ ?_ ?_ ?_ ?_ ?_ ?_ ?_ ?_ ?_ ?_ ?_ ?_ ?_ ?_ ?_ ?_ ?_ ?_ ?_ ?_ ?_ ?_ ?_ ?_ ?_ ?_ ?_ ?_ ?_ ?_ ?_ ?_ ?_ ?_ ?_ ?_ ?_ ?_ ?_ ?_ ?_ ?_ ?_ ?_ ?_ ?_ ?_ ?_ ?_ ?_ ?_ ?_ ?_ ?_ ?_ ?_ ?_ ?_ ?_ ?_ ?_ ?_ ?_ ?_ ?_ ?_ ?_ ?_ ?_ ?_ ?_ ?_ ?_ ?_ ?_ ?_ ?_ ?_ ?_ ?_ ?_ ?_ ?_ ?_ ?_ ?_ ?_ ?_ ?_ ?_ ?_ ?_ ?_ ?_ ?_ ?_ ?_ ?_ ?_ ?_ ?_ ?_ ?_ ?_
   iterate 23 (exact⟨_,mg_of KX G (by k_is)⟩)
   refine' mg_of KX G ?_;k_is
   refine' SR.tab_of (a:=235) ?l ?s (by decide) (by decide) (by decide);(case l=>k_is);(case s=>decide)
   iterate 7 (exact⟨_,mg_of KX G (by k_is)⟩)
   refine' mg_of KX G ?_;k_is
   refine' SR.Xd (a:=803) ?l ?z ?v;(case l=>k_is);(case z=>decide);(case v=>exact .cons ⟨_,rfl⟩ (.cons ⟨_,rfl⟩ (.cons ⟨_,rfl⟩ (.cons ⟨_,rfl⟩ (.cons ⟨_,rfl⟩ (.cons ⟨_,rfl⟩ (.cons ⟨_,rfl⟩ (.cons ⟨_,rfl⟩ (.cons ⟨_,rfl⟩ (.cons ⟨_,rfl⟩ (.cons ⟨_,rfl⟩ (.cons ⟨_,rfl⟩ (.cons ⟨_,rfl⟩ (.cons ⟨_,rfl⟩ (.cons ⟨_,rfl⟩ (.cons ⟨_,rfl⟩ (.cons ⟨_,rfl⟩ (.cons ⟨_,rfl⟩ (.cons ⟨_,rfl⟩ (.cons ⟨_,rfl⟩ (.cons ⟨_,rfl⟩ (.cons ⟨_,rfl⟩ (.nil)))))))))))))))))))))))
   refine' mg_of KX G ?_;k_is
   refine' SR.Xd (a:=804) ?l ?z ?v;(case l=>k_is);(case z=>decide);(case v=>exact .cons ⟨_,rfl⟩ (.cons ⟨_,rfl⟩ (.cons ⟨_,rfl⟩ (.cons ⟨_,rfl⟩ (.cons ⟨_,rfl⟩ (.cons ⟨_,rfl⟩ (.cons ⟨_,rfl⟩ (.cons ⟨_,rfl⟩ (.cons ⟨_,rfl⟩ (.cons ⟨_,rfl⟩ (.cons ⟨_,rfl⟩ (.cons ⟨_,rfl⟩ (.cons ⟨_,rfl⟩ (.cons ⟨_,rfl⟩ (.cons ⟨_,rfl⟩ (.cons ⟨_,rfl⟩ (.cons ⟨_,rfl⟩ (.cons ⟨_,rfl⟩ (.cons ⟨_,rfl⟩ (.cons ⟨_,rfl⟩ (.cons ⟨_,rfl⟩ (.cons ⟨_,rfl⟩ (.nil)))))))))))))))))))))))
   iterate 10 (refine' mg_none_of KX G ?_;k_is)
   iterate 84 (refine' SR.XI KX G ?a ?l ?b ?c;(case a=>k_is);(case l=>k_is);(case b=>k_is);(case c=>k_is))
   refine' SR.XO (C:=31) KX G ?a ?b ?c ?d ?e ⟨?n0,?n1,?n2,?n3,?n4,trivial⟩ ?i ?f ?l ?g ?j ?m ?o;(case a=>k_is);(case b=>k_is);(case c=>k_is);(case d=>k_is);(case e=>k_is);(case i=>k_is);(case f=>k_is);(case l=>k_is);(case g=>k_is);(case j=>k_is);(case m=>k_is);(case o=>k_is);(case n0=>k_is);(case n1=>k_is);(case n2=>k_is);(case n3=>k_is);(case n4=>k_is)
   refine' SR.XO (C:=52) KX G ?a ?b ?c ?d ?e ⟨?n0,?n1,trivial⟩ ?i ?f ?l ?g ?j ?m ?o;(case a=>k_is);(case b=>k_is);(case c=>k_is);(case d=>k_is);(case e=>k_is);(case i=>k_is);(case f=>k_is);(case l=>k_is);(case g=>k_is);(case j=>k_is);(case m=>k_is);(case o=>k_is);(case n0=>k_is);(case n1=>k_is)
   refine' SR.XO (C:=192) KX G ?a ?b ?c ?d ?e ⟨?n0,?n1,?n2,?n3,?n4,trivial⟩ ?i ?f ?l ?g ?j ?m ?o;(case a=>k_is);(case b=>k_is);(case c=>k_is);(case d=>k_is);(case e=>k_is);(case i=>k_is);(case f=>k_is);(case l=>k_is);(case g=>k_is);(case j=>k_is);(case m=>k_is);(case o=>k_is);(case n0=>k_is);(case n1=>k_is);(case n2=>k_is);(case n3=>k_is);(case n4=>k_is)
   refine' SR.XO (C:=252) KX G ?a ?b ?c ?d ?e ⟨?n0,?n1,?n2,trivial⟩ ?i ?f ?l ?g ?j ?m ?o;(case a=>k_is);(case b=>k_is);(case c=>k_is);(case d=>k_is);(case e=>k_is);(case i=>k_is);(case f=>k_is);(case l=>k_is);(case g=>k_is);(case j=>k_is);(case m=>k_is);(case o=>k_is);(case n0=>k_is);(case n1=>k_is);(case n2=>k_is)
   refine' SR.XO (C:=378) KX G ?a ?b ?c ?d ?e ⟨?n0,?n1,?n2,?n3,?n4,?n5,?n6,?n7,trivial⟩ ?i ?f ?l ?g ?j ?m ?o;(case a=>k_is);(case b=>k_is);(case c=>k_is);(case d=>k_is);(case e=>k_is);(case i=>k_is);(case f=>k_is);(case l=>k_is);(case g=>k_is);(case j=>k_is);(case m=>k_is);(case o=>k_is);(case n0=>k_is);(case n1=>k_is);(case n2=>k_is);(case n3=>k_is);(case n4=>k_is);(case n5=>k_is);(case n6=>k_is);(case n7=>k_is)
   iterate 6 (refine' SR.Xm (C:=378) ?a ?f ?l ?b ?c;(case a=>k_is);(case f=>k_is);(case l=>k_is);(case b=>k_is);(case c=>k_is))
   refine' SR.XO (C:=406) KX G ?a ?b ?c ?d ?e ⟨?n0,?n1,?n2,?n3,?n4,trivial⟩ ?i ?f ?l ?g ?j ?m ?o;(case a=>k_is);(case b=>k_is);(case c=>k_is);(case d=>k_is);(case e=>k_is);(case i=>k_is);(case f=>k_is);(case l=>k_is);(case g=>k_is);(case j=>k_is);(case m=>k_is);(case o=>k_is);(case n0=>k_is);(case n1=>k_is);(case n2=>k_is);(case n3=>k_is);(case n4=>k_is)
   refine' SR.XO (C:=427) KX G ?a ?b ?c ?d ?e ⟨?n0,?n1,trivial⟩ ?i ?f ?l ?g ?j ?m ?o;(case a=>k_is);(case b=>k_is);(case c=>k_is);(case d=>k_is);(case e=>k_is);(case i=>k_is);(case f=>k_is);(case l=>k_is);(case g=>k_is);(case j=>k_is);(case m=>k_is);(case o=>k_is);(case n0=>k_is);(case n1=>k_is)
   refine' SR.XO (C:=448) KX G ?a ?b ?c ?d ?e ⟨?n0,?n1,?n2,?n3,trivial⟩ ?i ?f ?l ?g ?j ?m ?o;(case a=>k_is);(case b=>k_is);(case c=>k_is);(case d=>k_is);(case e=>k_is);(case i=>k_is);(case f=>k_is);(case l=>k_is);(case g=>k_is);(case j=>k_is);(case m=>k_is);(case o=>k_is);(case n0=>k_is);(case n1=>k_is);(case n2=>k_is);(case n3=>k_is)
   refine' SR.XO (C:=566) KX G ?a ?b ?c ?d ?e ⟨?n0,?n1,trivial⟩ ?i ?f ?l ?g ?j ?m ?o;(case a=>k_is);(case b=>k_is);(case c=>k_is);(case d=>k_is);(case e=>k_is);(case i=>k_is);(case f=>k_is);(case l=>k_is);(case g=>k_is);(case j=>k_is);(case m=>k_is);(case o=>k_is);(case n0=>k_is);(case n1=>k_is)
   refine' SR.XO (C:=636) KX G ?a ?b ?c ?d ?e ⟨?n0,?n1,trivial⟩ ?i ?f ?l ?g ?j ?m ?o;(case a=>k_is);(case b=>k_is);(case c=>k_is);(case d=>k_is);(case e=>k_is);(case i=>k_is);(case f=>k_is);(case l=>k_is);(case g=>k_is);(case j=>k_is);(case m=>k_is);(case o=>k_is);(case n0=>k_is);(case n1=>k_is)
   refine' SR.XO (C:=828) KX G ?a ?b ?c ?d ?e ⟨?n0,?n1,trivial⟩ ?i ?f ?l ?g ?j ?m ?o;(case a=>k_is);(case b=>k_is);(case c=>k_is);(case d=>k_is);(case e=>k_is);(case i=>k_is);(case f=>k_is);(case l=>k_is);(case g=>k_is);(case j=>k_is);(case m=>k_is);(case o=>k_is);(case n0=>k_is);(case n1=>k_is)
 case S=>
  intro K H xs a hO Fh F8 hx
  cases hx with
  | cons h1 h2=>
   cases h2
   cases h1 with
   | lst hs ha=>
    have e:=L2.Qu a.1 _ ha
    subst e
    have q:((Codec.inLen 0 17000 a.1&&a.1.all (Codec.inInt (-1000000000000000000) 1000000000000000000))&&true)=true:=Fh
    rw [Bool.and_eq_true,Bool.and_eq_true] at q
    exact⟨_,a.1,rfl,hs,(Codec.inNat_iff.mp q.1.1).2,F8,fun H' p hp=>.lst (L2.ai.of hp) (L2.U3 _)⟩

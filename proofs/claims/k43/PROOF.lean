import PyProof.Rows.All
import Wide.All
import OpenK.AllK
import Wide.FinOn
import Lean
import PyProof.EqAt
import PyProof.EqKinds
import PyProof.TupleCall
import PyProof.CompFree
import PyProof.SetScanFacts
import PyProof.TupleKey
import PyProof.SetKind
import PyProof.DictStraight
import PyProof.IsRules
import PyProof.WalkLemmas
import PyProof.Rows.SetFrom
import KE.KRevIter
import PyProof.Rows.SortRuns
import KE.KSortTup
import PyProof.ListNew
import PyProof.ExcArgsOwn
import KE.KIsAll
import PyProof.NsDelKeeps
import PyProof.NeKinds
import PyProof.FitsBits
import KE.LcSums
import PyProof.ZipIter
import PyProof.EnumFor
import PyProof.EnumStmt
import PyProof.Rows.EnumRows
import PyProof.Rows.FactsT2
import PyProof.Rows.SortWalk
import PyProof.Rows.FactsT3
import PyProof.LayNew
import KE.RegKIsAll
import PySem.Challenge.RW_deepspot_k43_whole_deepest
set_option Elab.async false
set_option linter.all false
set_option maxRecDepth 100000
namespace L2
open PySem PySem.Spec PyProof.Rows
abbrev Key:=Sum Int Str
def G8:Key->Value->Bool
 | .inl k,v=>Value.isInt k v
 | .inr x,v=>Value.isStrOf x v
def N1 (w:World):Key->Int
 | .inl k=>hashInt k
 | .inr x=>hashStr w x
theorem bU:∀ {k:Key}{v:Value},G8 k v=true->(∃ i t,k=Sum.inl i/\v=Value.int i t)\/(∃ x t,k=Sum.inr x/\v=Value.str x t)
 | .inl i,v,h=>by
  obtain⟨t,e⟩:=Value.isInt_shape (k:=i) (v:=v) h;exact .inl ⟨i,t,rfl,e⟩
 | .inr x,v,h=>by
  obtain⟨t,e⟩:=Value.isStrOf_shape (x:=x) (v:=v) h;exact .inr ⟨x,t,rfl,e⟩
theorem Jm (a b:Int):decide ((Sum.inl a:Key)=Sum.inl b)=(a == b):=by
 by_cases e:a=b
 ·subst e;simp
 ·have h:¬ (Sum.inl a:Key)=Sum.inl b:=fun q=>e (Sum.inl.inj q);rw[decide_eq_false h];exact(beq_eq_false_iff_ne.mpr e).symm
theorem Jp (a b:Str):decide ((Sum.inr a:Key)=Sum.inr b)=decide (a=b):=by
 by_cases e:a=b
 ·subst e;simp
 ·have h:¬ (Sum.inr a:Key)=Sum.inr b:=fun q=>e (Sum.inr.inj q);rw[decide_eq_false h,decide_eq_false e]
theorem Jn (a:Int)(b:Str):decide ((Sum.inl a:Key)=Sum.inr b)=false:=decide_eq_false (fun q=>nomatch q)
theorem Jo (a:Str)(b:Int):decide ((Sum.inr a:Key)=Sum.inl b)=false:=decide_eq_false (fun q=>nomatch q)
def xj (prog:Program)(w:World):PySem.KeyKind prog w Key where
 is:=G8
 hash:=N1 w
 inj:=fun v a b ha hb=>by
  rcases bU ha with ⟨i,t,rfl,rfl⟩|⟨x,t,rfl,rfl⟩
  ·rcases bU hb with ⟨j,u,rfl,e⟩|⟨y,u,rfl,e⟩
   ·injection e with e1 _;rw[e1]
   ·exact nomatch e
  ·rcases bU hb with ⟨j,u,rfl,e⟩|⟨y,u,rfl,e⟩
   ·exact nomatch e
   ·injection e with e1 _;rw[e1]
 byValue:=fun k v h=>by
  rcases bU h with ⟨i,t,rfl,rfl⟩|⟨x,t,rfl,rfl⟩ <;> rfl
 pyHash:=fun hv h=>by
  rcases bU hv with ⟨i,t,rfl,rfl⟩|⟨x,t,rfl,rfl⟩
  ·exact wpAny_pyHash_int h
  ·exact wpAny_pyHash_str h
 eqBool:=fun hu hv h=>by
  rcases bU hu with ⟨i,t,rfl,rfl⟩|⟨x,t,rfl,rfl⟩
  ·rcases bU hv with ⟨j,u,rfl,rfl⟩|⟨y,u,rfl,rfl⟩
   ·rw[Jm]at h;exact wpAny_eqBool_int h
   ·rw[Jn]at h;exact SeqAt.EqAt.int_str i t y u _ _ _ _ h
  ·rcases bU hv with ⟨j,u,rfl,rfl⟩|⟨y,u,rfl,rfl⟩
   ·rw[Jo]at h;exact SeqAt.EqAt.str_int x t j u _ _ _ _ h
   ·rw[Jp]at h;exact wpAny_eqBool_str h
 «strs»:=fun k x t v h=>by
  rcases bU h with ⟨i,u,rfl,e⟩|⟨y,u,rfl,e⟩
  ·exact nomatch e
  ·injection e with e1 _
   subst e1
   cases v <;> rfl
end L2
namespace L2
open PySem PySem.Spec PyProof.Rows
inductive V where
 | non|bl (b:Bool)|int (i:Int)|str (x:Str)|byt (b:Array UInt8)|flt (b:UInt64)|ref (a:Addr)|ty (n:String)
 deriving DecidableEq
def RelV:V->Value->Prop
 | .non,u=>u=Value.none
 | .bl b,u=>u=Value.bool b
 | .int i,u=>∃ t,u=Value.int i t
 | .str x,u=>∃ t,u=Value.str x t
 | .byt b,u=>∃ t,u=Value.bytes b t
 | .flt b,u=>∃ t,u=Value.float b t
 | .ref a,u=>u=Value.ref a
 | .ty n,u=>u=Value.type n
abbrev aT:List V->List Value->Prop:=Paired RelV
theorem aT.length {xs:List V}{us:List Value}(r:aT xs us):xs.length=us.length:=Paired.length r
theorem aT.get:∀ {xs:List V}{us:List Value}{i:Nat}{x:V},aT xs us->xs[i]?=some x->∃ u,us[i]?=some u/\RelV x u
 | _,_,_,_,.nil,e=>by simp at e
 | _,_,0,_,.cons r _,e=>by simp at e;subst e;exact⟨_,rfl,r⟩
 | _,_,i+1,x,.cons _ t,e=>by
  obtain⟨u,h1,h2⟩:=aT.get (i:=i) (x:=x) t (by simpa using e)
  exact⟨u,by simpa using h1,h2⟩
theorem aT.set {x:V}{u:Value}(r:RelV x u):∀ {xs:List V}{us:List Value} (i:Nat),aT xs us->aT (xs.set i x) (us.set i u)
 | _,_,_,.nil=>.nil
 | _,_,0,.cons _ t=>.cons r t
 | _,_,i+1,.cons q t=>.cons q (aT.set r i t)
theorem aT.append:∀ {xs ys:List V}{us ws:List Value},aT xs us->aT ys ws->aT (xs++ys) (us++ws)
 | _,_,_,_,.nil,s=>s
 | _,_,_,_,.cons r t,s=>.cons r (aT.append t s)
theorem aT.take:∀ {xs:List V}{us:List Value} (n:Nat),aT xs us->aT (xs.take n) (us.take n)
 | _,_,0,_=>.nil
 | _,_,_+1,.nil=>.nil
 | _,_,n+1,.cons r t=>.cons r (aT.take n t)
theorem aT.drop:∀ {xs:List V}{us:List Value} (n:Nat),aT xs us->aT (xs.drop n) (us.drop n)
 | _,_,0,r=>r
 | _,_,_+1,.nil=>.nil
 | _,_,n+1,.cons _ t=>aT.drop n t
def La:Option V->Option Value->Prop
 | some v,some u=>RelV v u
 | none,none=>True
 | _,_=>False
def KV {κ:Type}:List (κ × V)->List (κ × Value)->Prop:=Paired fun (p:κ × V) (q:κ × Value)=>p.1=q.1/\RelV p.2 q.2
def kV:Key->V
 | .inl i=>.int i
 | .inr x=>.str x
inductive HO where
  | lst (xs:List V)
  | tup (xs:List V)
  | dK (kvs:List (Key × V))|dT (kvs:List (List Key × V))
  | set (S:Int->Bool) (n:Nat)
  | ins (C dx:Addr) (fs:List (Str × V))
  | own (x:Addr)
  | xd (fs:List (Str × V))
  | met (f x:Addr)
  | rng (lo hi:Int)
  | frz (o:Obj) (u:HO)
  | tbl (ps:Array Value)
  | ext (φ:Heap->Prop)
abbrev Hp:=Addr->Option HO
def cV (H:Hp)(a:Addr)(o:HO):Hp:=fun b=>if b=a then some o else H b
theorem bH {H:Hp}{a:Addr}{o:HO}:cV H a o a=some o:=by unfold cV;rw[if_pos rfl]
theorem bQ {H:Hp}{a b:Addr}{o:HO}(h:b≠a):cV H a o b=H b:=by unfold cV;rw[if_neg h]
theorem de {H:Hp}{a b:Addr}{o:HO}(h:H a=some o)(h':H b=none):a≠b:=by
 intro e;subst e;rw[h]at h';cases h'
section
variable (P:Program) (w:World)
def eX (H:Hp)(h:Heap)(a:Addr):HO->Prop
 | .lst xs=>xs.length<=sizeLine/\∃ (its:List Value) (n:Nat),aT xs its/\h.get? a=some {cls:=.type "list",data:=.seq its.toArray n}
 | .tup xs=>xs.length<=sizeLine/\∃ its:List Value,aT xs its/\IsTup h a its.toArray
 | .dK kvs=>kvs.length<=sizeLine/\(a == sysModules)=false/\∃ vs,KV kvs vs/\h.DictOf (xj P w) a vs
 | .dT kvs=>kvs.length<=sizeLine/\(a == sysModules)=false/\∃ xs:List (List Key × Addr × Value),
   Paired (fun (p:List Key × V) (q:List Key × Addr × Value)=>p.1=q.1/\H q.2.1=some (.tup (p.1.map kV))/\RelV p.2 q.2.2) kvs xs ∧
   ∃ o es ep,h.get? a=some o/\o.ExactDict/\o.data=.dict es ep/\es.toList=xs.map (entryOfKey (tupleKind (xj P w)))/\(xs.map (·.1)).Nodup
 | .set S n=>h.SetOf (intKind P w) a S n
 | .ins C dx fs=>H dx=some (.own a)/\fs.length<=1000/\dx≠a/\h.get? a=some (PySem.W.instObj C dx) ∧
   ∃ mA,h.Ns1 dx mA/\(∀ f,La (fs.lookup f) (mA f))/\PySem.Within mA (fs.map (·.1))
 | .own _=>∃ o,h.get? a=some o
 | .xd fs=>∃ mA,h.Ns1 a mA/\∀ f,La (fs.lookup f) (mA f)
 | .rng lo hi=>∃ t u v,h.get? a=some {cls:=.type "range",data:=.fields #[.int lo t,.int hi u,.int 1 v]}
 | .frz o u=>h.get? a=some o/\eX H h a u
 | .tbl ps=>h.get? a=some {cls:=.none,data:=.fields ps}
 | .met f x=>h.get? a=some (PySem.W.methodObj (.ref f) (.ref x))
 | .ext φ=>φ h/\(∃ o,h.get? a=some o)/\∀ h1 h2:Heap,φ h1->(∀ o,h1.get? a=some o->h2.get? a=some o)->φ h2
def lb (H:Hp)(h:Heap):Prop:=∀ a o,H a=some o->eX P w H h a o
end
section
variable {P:Program}{w:World}{H H':Hp}{h h':Heap}{a:Addr}{o:HO}
theorem eX.lt (x:eX P w H h a o):a<h.objs.size:=by
 cases o with
 | lst xs=>obtain⟨_,_,_,_,e⟩:=x;exact Heap.lt_size e
 | tup xs=>obtain⟨_,_,_,p⟩:=x;exact p.lt
 | dK kvs=>obtain⟨_,_,_,_,o,_,_,e,_⟩:=x;exact Heap.lt_size e
 | dT kvs=>obtain⟨_,_,_,_,o,_,_,e,_⟩:=x;exact Heap.lt_size e
 | set S n=>obtain⟨o,_,_,_,e,_⟩:=x;exact Heap.lt_size e
 | ins C dx fs=>obtain⟨_,_,_,e,_⟩:=x;exact Heap.lt_size e
 | own y=>obtain⟨_,e⟩:=x;exact Heap.lt_size e
 | xd fs=>obtain⟨_,⟨_,_,_,e,_⟩,_⟩:=x;exact Heap.lt_size e
 | rng lo hi=>obtain⟨_,_,_,e⟩:=x;exact Heap.lt_size e
 | frz ob u=>obtain⟨e,_⟩:=x;exact Heap.lt_size e
 | tbl ps=>exact Heap.lt_size (show h.get? a=some _ from x)
 | met f y=>exact Heap.lt_size (show h.get? a=some _ from x)
 | ext φ=>obtain⟨_,⟨_,e⟩,_⟩:=x;exact Heap.lt_size e
theorem Paired.mapP {α β:Type}{F G:α->β->Prop}:∀ {l₁:List α}{l₂:List β},Paired F l₁ l₂->(∀ a b,F a b->G a b)->Paired G l₁ l₂
 | _,_,.nil,_=>.nil
 | _,_,.cons r t,f=>.cons (f _ _ r) (Paired.mapP t f)
theorem eX.stay (x:eX P w H h a o)(k:∀ b u,(b=a\/H b=some (.own a))->h.get? b=some u->h'.get? b=some u)
  (ho:∀ b,H b=some (.own a)->H' b=some (.own a)) (ht:∀ b xs,H b=some (.tup xs)->H' b=some (.tup xs)):eX P w H' h' a o:=by
 induction o with
 | lst xs=>obtain⟨z,its,n,r,e⟩:=x;exact⟨z,its,n,r,k _ _ (.inl rfl) e⟩
 | tup xs=>obtain⟨z,its,r,ob,e,c⟩:=x;exact⟨z,its,r,ob,k _ _ (.inl rfl) e,c⟩
 | dK kvs=>obtain⟨z,y,vs,r,ob,es,ep,e,c⟩:=x;exact⟨z,y,vs,r,ob,es,ep,k _ _ (.inl rfl) e,c⟩
 | dT kvs=>
  obtain⟨z,y,xs,r,ob,es,ep,e,c⟩:=x;exact⟨z,y,xs,Paired.mapP r fun p q z=>⟨z.1,ht _ _ z.2.1,z.2.2⟩,ob,es,ep,k _ _ (.inl rfl) e,c⟩
 | set S n=>obtain⟨ob,es,ep,t,e,c⟩:=x;exact⟨ob,es,ep,t,k _ _ (.inl rfl) e,c⟩
 | ins C dx fs=>
  obtain⟨d,z,ne,e,mA,⟨od,es,ep,e2,c⟩,r⟩:=x;exact⟨ho _ d,z,ne,k _ _ (.inl rfl) e,mA,⟨od,es,ep,k _ _ (.inr d) e2,c⟩,r⟩
 | own y=>obtain⟨ob,e⟩:=x;exact⟨ob,k _ _ (.inl rfl) e⟩
 | xd fs=>obtain⟨mA,⟨od,es,ep,e,c⟩,r⟩:=x;exact⟨mA,⟨od,es,ep,k _ _ (.inl rfl) e,c⟩,r⟩
 | rng lo hi=>obtain⟨t,u,v,e⟩:=x;exact⟨t,u,v,k _ _ (.inl rfl) e⟩
 | frz ob u ih=>obtain⟨e,q⟩:=x;exact⟨k _ _ (.inl rfl) e,ih q⟩
 | tbl ps=>
  have e:h.get? a=some {cls:=.none,data:=.fields ps}:=x;show h'.get? a=some {cls:=.none,data:=.fields ps};exact k a _ (.inl rfl) e
 | met f y=>
  have e:h.get? a=some (PySem.W.methodObj (.ref f) (.ref y)):=x;show h'.get? a=some (PySem.W.methodObj (.ref f) (.ref y));exact k a _ (.inl rfl) e
 | ext φ=>obtain⟨p,⟨o,e⟩,st⟩:=x;exact⟨st _ _ p fun o q=>k _ _ (.inl rfl) q,⟨o,k _ _ (.inl rfl) e⟩,st⟩
theorem lb.lt (x:lb P w H h)(e:H a=some o):a<h.objs.size:=(x a o e).lt
theorem lb.fresh (x:lb P w H h)(e:h.objs.size<=a):H a=none:=by
 cases q:H a with
 | none=>rfl
 | some u=>exact absurd (Nat.lt_of_lt_of_le (x.lt q) e) (Nat.lt_irrefl _)
theorem lb.kept (x:lb P w H h)(k:∀ b u,h.get? b=some u->h'.get? b=some u):lb P w H h':=fun a o e=>
 (x a o e).stay (fun b u _ q=>k b u q) (fun _ q=>q) fun _ _ q=>q
theorem lb.laid (x:lb P w H h)(k:∀ b u,h.get? b=some u->h'.get? b=some u)(hp:h.objs.size<=a)(new:eX P w (cV H a o) h' a o):lb P w (cV H a o) h':=fun b u e=>by
 have hn:=x.fresh hp
 by_cases hb:b=a
 ·subst hb;rw[bH]at e;cases e;exact new
 ·rw[bQ hb]at e;exact(x b u e).stay (fun c v _ q=>k c v q) (fun c q=>by rw[bQ (de q hn)];exact q) fun c xs q=>by rw[bQ (de q hn)];exact q
end
def Rd (H:Hp)(a:Addr)(u:HO):Prop:=H a=some u\/∃ o,H a=some (.frz o u)
theorem Rd.of {H:Hp}{a:Addr}{u:HO}(h:H a=some u):Rd H a u:=.inl h
theorem Rd.ok {P:Program}{w:World}{H:Hp}{h:Heap}{a:Addr}{u:HO}(r:Rd H a u)(x:lb P w H h):eX P w H h a u:=by
 rcases r with r|⟨o,r⟩
 ·exact x a u r
 ·obtain⟨_,q⟩:=x a _ r;exact q
def Nb:Option HO->Prop
 | some (.lst _)=>True
 | some (.dK _)=>True
 | some (.dT _)=>True
 | some (.set _ _)=>True
 | some (.ins _ _ _)=>True
 | some (.ext _)=>True
 | _=>False
section
variable {P:Program}{w:World}{H:Hp}{h h':Heap}{x e:Addr}{o':HO}
theorem lb.write (ok:lb P w H h)(mu:Nb (H x))(he:e=x\/H e=some (.own x))(k:∀ b u,b≠e->h.get? b=some u->h'.get? b=some u)(heo:∃ u,h'.get? e=some u)
  (new:eX P w (cV H x o') h' x o'):lb P w (cV H x o') h':=fun b u q=>by
 have nown:∀ c y,H c=some (.own y)->c≠x:=fun c y r z=>by subst z;rw[r]at mu;exact mu
 have ntup:∀ c xs,H c=some (.tup xs)->c≠x:=fun c xs r z=>by subst z;rw[r]at mu;exact mu
 by_cases hb:b=x
 ·subst hb;rw[bH]at q;cases q;exact new
 ·rw[bQ hb]at q
  by_cases hbe:b=e
  ·have q':H b=some (.own x):=by
    rcases he with z|z
    ·exact absurd (hbe.trans z) hb
    ·rw[hbe];exact z
   rw[q]at q';cases q'
   obtain⟨v,hv⟩:=heo;exact⟨v,by rw[hbe];exact hv⟩
  ·refine(ok b u q).stay (fun c v hc r=>k c v ?_ r) (fun c r=>by rw[bQ (nown c b r)];exact r) fun c xs r=>by rw[bQ (ntup c xs r)];exact r
   rcases hc with rfl|hc
   ·exact hbe
   ·rintro rfl
    rcases he with z|z
    ·exact nown c b hc z
    ·rw[hc]at z;cases z;exact hb rfl
end
structure Un (fs ex:List Addr) (H H':Hp) (h h':Heap):Prop where
 keep:∀ b o,h.get? b=some o->H b=none->b∉fs->b∉ex->h'.get? b=some o
 slot:∀ b o,h.get? b=some o->H b=none->b∈fs->b∉ex->∃ sl,h'.get? b=some {o with slots:=sl}
 free:∀ b o,h.get? b=some o->H b=none->b∉ex->H' b=none
 there:∀ b o,h.get? b=some o->b∉ex->∃ o',h'.get? b=some o'
 tups:∀ b xs,H b=some (.tup xs)->H' b=some (.tup xs)
 frzs:∀ b o u,H b=some (.frz o u)->H' b=some (.frz o u)
 tbls:∀ b ps,H b=some (.tbl ps)->∃ more,H' b=some (.tbl (ps++more))
section
variable {fs fs' ex ex':List Addr}{H H1 H2:Hp}{h h1 h2 h':Heap}{a x e:Addr}{o:HO}
theorem Un.any (u:Un fs ex H H1 h h1){b:Addr}{ob:Obj}(q:h.get? b=some ob)(n:H b=none)(hx:b∉ex):∃ sl,h1.get? b=some {ob with slots:=sl}:=by
 by_cases hb:b∈fs
 ·exact u.slot b ob q n hb hx
 ·exact⟨ob.slots,u.keep b ob q n hb hx⟩
theorem Un.trans (a:Un fs ex H H1 h h1)(b:Un fs ex H1 H2 h1 h2):Un fs ex H H2 h h2 where
 keep:=fun c ob q n hc hx=>b.keep c ob (a.keep c ob q n hc hx) (a.free c ob q n hx) hc hx
 slot:=fun c ob q n hc hx=>by
  obtain⟨sl,e1⟩:=a.slot c ob q n hc hx;obtain⟨sl',e2⟩:=b.slot c _ e1 (a.free c ob q n hx) hc hx;exact⟨sl',e2⟩
 free:=fun c ob q n hx=>by
  obtain⟨o',e1⟩:=a.there c ob q hx;exact b.free c o' e1 (a.free c ob q n hx) hx
 there:=fun c ob q hx=>by
  obtain⟨o',e1⟩:=a.there c ob q hx;exact b.there c o' e1 hx
 tups:=fun c xs q=>b.tups c xs (a.tups c xs q)
 frzs:=fun c ob xs q=>b.frzs c ob xs (a.frzs c ob xs q)
 tbls:=fun c ps q=>by
  obtain⟨m1,e1⟩:=a.tbls c ps q;obtain⟨m2,e2⟩:=b.tbls c _ e1;exact⟨m1++m2,by rw[e2,Array.append_assoc]⟩
theorem Un.kept (k:∀ b u,h.get? b=some u->h'.get? b=some u):Un fs ex H H h h':=
 ⟨fun b ob q _ _ _=>k b ob q,fun b ob q _ _ _=>⟨ob.slots,k b ob q⟩,fun _ _ _ n _=>n,fun b ob q _=>⟨ob,k b ob q⟩,fun _ _ q=>q,fun _ _ _ q=>q,fun _ ps q=>⟨#[],by rw[q];simp⟩⟩
theorem Un.refl:Un fs ex H H h h:=Un.kept fun _ _ q=>q
theorem Un.laid (k:∀ b u,h.get? b=some u->h'.get? b=some u)(hp:h.objs.size<=a)(hn:H a=none):Un fs ex H (cV H a o) h h' where
 keep:=fun b u q _ _ _=>k b u q
 slot:=fun b u q _ _ _=>⟨u.slots,k b u q⟩
 free:=fun b u q n _=>by rw[bQ (Nat.ne_of_lt (Nat.lt_of_lt_of_le (Heap.lt_size q) hp))];exact n
 there:=fun b u q _=>⟨u,k b u q⟩
 tups:=fun b xs q=>by rw[bQ (de q hn)];exact q
 frzs:=fun b u xs q=>by rw[bQ (de q hn)];exact q
 tbls:=fun b ps q=>⟨#[],by rw[bQ (de q hn),q];simp⟩
theorem Un.write (mu:Nb (H x))(he:e=x\/H e=some (.own x))(k:∀ b u,b≠e->h.get? b=some u->h'.get? b=some u)(heo:∃ u,h'.get? e=some u):Un fs ex H (cV H x o) h h':=by
 have hx:∀ b,H b=none->b≠x:=fun b n z=>by subst z;rw[n]at mu;exact mu
 have hb:∀ b,H b=none->b≠e:=fun b n z=>by
  subst z
  rcases he with r|r
  ·exact hx b n r
  ·rw[n]at r;cases r
 have hm:∀ b u,H b=some u->¬ Nb (some u)->b≠x:=fun b u q nm z=>by subst z;rw[q]at mu;exact nm mu
 refine⟨fun b u q n _ _=>k b u (hb b n) q,fun b u q n _ _=>⟨u.slots,k b u (hb b n) q⟩,fun b u q n _=>by rw[bQ (hx b n)];exact n,fun b u q _=>?_,
  fun b xs q=>by rw[bQ (hm b _ q fun z=>z)];exact q,fun b u xs q=>by rw[bQ (hm b _ q fun z=>z)];exact q,fun b ps q=>⟨#[],by rw[bQ (hm b _ q fun z=>z),q];simp⟩⟩
 by_cases hbe:b=e
 ·subst hbe;exact heo
 ·exact⟨u,k b u hbe q⟩
theorem Un.mono (u:Un fs ex H H1 h h1)(hs:∀ b∈fs,b∈fs')(hx:∀ b∈ex,b∈ex'):Un fs' ex' H H1 h h1:=
 ⟨fun b ob q n hb he=>u.keep b ob q n (fun z=>hb (hs b z)) fun z=>he (hx b z),fun _ _ q n _ he=>u.any q n fun z=>he (hx _ z),fun b ob q n he=>u.free b ob q n fun z=>he (hx b z),fun b ob q he=>u.there b ob q fun z=>he (hx b z),u.tups,u.frzs,u.tbls⟩
end
def Np (h:Heap)(H:Hp):List Addr:=(List.range h.objs.size).filter fun a=>(H a).isSome
def qL (h:Heap)(H:Hp):Heap:=PySem.W.hideAll h (Np h H)
theorem yt (h:Heap)(H:Hp):(qL h H).objs.size=h.objs.size:=PySem.W.hideAll_size _ _
theorem Bv {h:Heap}{H:Hp}{b:Addr}{o:Obj}(e:h.get? b=some o)(n:H b=none):(qL h H).get? b=some o:=
 PySem.W.hideAll_get _ e fun hm=>by
  have q:(H b).isSome=true:=(List.mem_filter.mp hm).2;rw[n]at q;simp at q
theorem FJ {h:Heap}{H:Hp}{b:Addr}{o:Obj}(e:(qL h H).get? b=some o):h.get? b=some o/\H b=none:=by
 have e':h.get? b=some o:=PySem.W.of_hideAll (Np h H) e;refine⟨e',?_⟩
 cases q:H b with
 | none=>rfl
 | some x=>
  have hm:b∈Np h H:=List.mem_filter.mpr ⟨List.mem_range.mpr (Heap.lt_size e'),by simp[q]⟩
  have z:(qL h H).get? b=none:=PySem.W.hideAll_none (Np h H) hm;rw[z]at e;cases e
def Ez (g h:Heap)(L:Addr):List (Addr × Obj):=(List.range h.objs.size).filterMap fun a=>if a=L\/(g.get? a).isSome=true then none else (h.get? a).map fun o=>(a,o)
def rest (g h:Heap)(L d:Addr):List (Addr × Obj):=(Ez g h L).filter fun p=>decide (p.1≠d)
end L2
namespace L2
open PySem PySem.Spec PyProof.Rows
structure Mod (K:PySem.W.Frag) (mg:Str->Option Value) (base:Heap):Prop where
 kin:K.In base
 glob:base.Ns mainGlobals mg
 blt:∃ mb,base.Ns builtinsNs mb/\∀ x:Str,x≠"__name__"->mb x=bootBuiltins x
 nolimit:base.NoLimit
structure Cx where
 prog:Program
 w:World
 K:PySem.W.Frag
 mg:Str->Option Value
 base:Heap
 A:Around
 N:List Str
 s₀:Shared
 H₀:Hp
 env:Env
 outer:List Env
 stack:List Env
 ex:List Addr
 fn:Str->Bool
 calm:Bool
 pn:List (Addr × Obj)
 xe:Value->Shared->Prop
def uL (l:List Env):List Addr:=l.filterMap (·.frame)
abbrev Cx.fs (X:Cx):List Addr:=uL X.outer
def Nh (sc:Scope)(x:Str):Prop:=sc.names.lookup x=some .local\/sc.names.lookup x=some .cell\/sc.names.lookup x=some .free
def Loc (sc:Scope)(x:Str):Prop:=sc.names.lookup x=some .local\/sc.names.lookup x=some .cell
def Look (env:Env)(h:Heap)(m:Str->Option Value)(x:Str)(u:Value):Prop:=
 (env.kindOf x=some .local/\m x=some u)\/((env.kindOf x=some .cell\/env.kindOf x=some .free)/\∃ c,env.cells.lookup x=some c/\h.IsCell c (some u))
structure Cx.Ok (X:Cx):Prop where
 mod:Mod X.K X.mg X.base
 kind:X.env.scope.kind=.function
 glob:X.env.globals=mainGlobals
 blt:X.env.builtins=builtinsNs
 above:X.s₀.heap.objs.size<=X.env.locals
 inj:∀ x y c,X.env.cells.lookup x=some c->X.env.cells.lookup y=some c->x=y
 has:∀ x,(X.env.kindOf x=some .cell\/X.env.kindOf x=some .free)->∃ c,X.env.cells.lookup x=some c
 cab:∀ x c,X.fn x=true->X.env.cells.lookup x=some c->X.s₀.heap.objs.size<=c
 hd:X.calm=true->X.A.handled=none
 frames:X.A.frames=some X.stack
 stk:X.stack=X.outer\/(X.stack=X.env::X.outer/\X.env.frame=some X.env.locals)
 exf:∀ b∈X.ex,b≠X.env.locals/\∀ x c,X.env.cells.lookup x=some c->c≠b
 bs:∀ b o,X.base.get? b=some o->X.s₀.heap.get? b=some o/\X.H₀ b=none
 bsz:X.base.objs.size<=X.s₀.heap.objs.size
 noex:∀ b o,X.base.get? b=some o->b∉X.ex
 exfs:∀ b∈X.ex,b∉X.fs
 funs:X.s₀.heap.FunFrames X.base X.outer
 frf:∀ b∈X.fs,X.H₀ b=none
structure aN (X:Cx) (pins:List (Addr × Obj)) (σ:List (Option V)) (H:Hp) (s:Shared):Prop where
 ok:X.Ok
 os:s.os=X.s₀.os
 bare:AllBare s.gens
 base:Un X.fs X.ex X.H₀ H X.s₀.heap s.heap
 loc:∃ m,s.heap.Ns X.env.locals m/\∀ (i:Nat) (x:Str) (v:V),X.N[i]?=some x->σ[i]?=some (some v)->Nh X.env.scope x->∃ u,RelV v u/\Look X.env s.heap m x u
 cell:∀ x c,X.env.cells.lookup x=some c->∃ v,s.heap.IsCell c v
 free:H X.env.locals=none
 freeC:∀ x c,X.env.cells.lookup x=some c->H c=none
 pin:∀ p∈X.pn++pins,s.heap.get? p.1=some p.2/\H p.1=none/\p.1≠X.env.locals/\p.1∉X.fs/\∀ v,p.2.data≠.cell v
 hok:lb X.prog X.w H s.heap
 len:σ.length=X.N.length
section
variable {X:Cx}{pins:List (Addr × Obj)}{σ:List (Option V)}{H H':Hp}{s:Shared}{h':Heap}
theorem Cx.Ok.nofr (ok:X.Ok){b:Addr}{o:Obj}(e:X.base.get? b=some o):b∉X.fs:=fun hb=>by
 have:=(ok.funs.mem hb).1;rw[e]at this;cases this
theorem aN.bs (I:aN X pins σ H s):∀ b o,X.base.get? b=some o->s.heap.get? b=some o/\H b=none:=fun b o e=>
 ⟨I.base.keep b o (I.ok.bs b o e).1 (I.ok.bs b o e).2 (I.ok.nofr e) (I.ok.noex b o e),I.base.free b o (I.ok.bs b o e).1 (I.ok.bs b o e).2 (I.ok.noex b o e)⟩
theorem aN.bk (I:aN X pins σ H s):∀ b o,X.base.get? b=some o->s.heap.get? b=some o:=fun b o e=>(I.bs b o e).1
theorem aN.mod (I:aN X pins σ H s):Mod X.K X.mg X.base:=I.ok.mod
theorem aN.kIn (I:aN X pins σ H s):X.K.In s.heap:=I.ok.mod.kin.keeps I.bk
theorem aN.nolimit (I:aN X pins σ H s):s.heap.NoLimit:=I.ok.mod.nolimit.keeps I.bk
theorem aN.fr (I:aN X pins σ H s):∃ m,Fr X.base X.env.locals s.heap m:=
 let ⟨m,hn,_⟩:=I.loc
 ⟨m,hn,I.bk,Nat.le_trans I.ok.bsz I.ok.above⟩
theorem aN.lt (I:aN X pins σ H s):X.env.locals<s.heap.objs.size:=let ⟨_,hn,_⟩:=I.loc;hn.lt
theorem aN.sz (I:aN X pins σ H s):X.s₀.heap.objs.size<=s.heap.objs.size:=Nat.le_trans I.ok.above (Nat.le_of_lt I.lt)
theorem aN.nofs (I:aN X pins σ H s){a:Addr}(h:s.heap.objs.size<=a):a∉X.fs:=fun hb=>by
 obtain⟨_,o,ho,_⟩:=I.ok.funs.mem hb;exact absurd (Nat.lt_of_lt_of_le (Heap.lt_size ho) (Nat.le_trans I.sz h)) (Nat.lt_irrefl _)
theorem aN.cne (I:aN X pins σ H s):∀ x c,X.env.cells.lookup x=some c->c≠X.env.locals:=fun x c e z=>by
 obtain⟨v,o,ho,hd⟩:=I.cell x c e;obtain⟨m,⟨o',es,ep,ho',hd',_⟩,_⟩:=I.loc;rw[z,ho']at ho;cases ho;rw[hd']at hd;cases hd
theorem aN.funs (I:aN X pins σ H s):s.heap.FunFrames X.base X.outer:=by
 have all:∀ (l:List Env),(∀ b∈uL l,b∈X.fs)->X.s₀.heap.FunFrames X.base l->s.heap.FunFrames X.base l:=by
  intro l
  induction l with
  | nil=>intro _ _;trivial
  | cons env r ih=>
   intro hs hl;obtain⟨hk,⟨L,o,hf,hn,ho,hd⟩,hr⟩:=hl;have hL:L∈X.fs:=hs L (by unfold uL;rw[List.filterMap_cons,hf];exact List.mem_cons_self)
   obtain⟨sl,e⟩:=I.base.slot L o ho (I.ok.frf L hL) hL fun z=>I.ok.exfs L z hL;exact⟨hk,⟨L,_,hf,hn,e,hd⟩,ih (fun b hb=>hs b (by unfold uL;rw[List.filterMap_cons,hf];exact List.mem_cons_of_mem _ hb)) hr⟩
 exact all X.outer (fun _ hb=>hb) I.ok.funs
theorem aN.stack (I:aN X pins σ H s):s.heap.FunFrames X.base X.stack:=by
 rcases I.ok.stk with e|⟨e,hf⟩
 ·rw[e];exact I.funs
 ·rw[e];obtain⟨m,hn,_⟩:=I.loc;refine .cons (by rw[I.ok.kind];decide) hf hn ?_ I.funs
  exact Heap.get?_none_of_le (Nat.le_trans I.ok.bsz I.ok.above)
theorem aN.stkSub (I:aN X pins σ H s):∀ b∈uL X.stack,b∈X.env.locals::X.fs:=fun b hb=>by
 rcases I.ok.stk with e|⟨e,hf⟩
 ·rw[e]at hb;exact List.mem_cons_of_mem _ hb
 ·rw[e]at hb;unfold uL at hb;rw[List.filterMap_cons,hf]at hb;exact hb
theorem aN.stkFree (I:aN X pins σ H s):∀ b∈uL X.stack,H b=none:=fun b hb=>by
 rcases List.mem_cons.mp (I.stkSub b hb) with e|hb
 ·rw[e];exact I.free
 ·obtain⟨_,o,ho,_⟩:=I.ok.funs.mem hb;exact I.base.free b o ho (I.ok.frf b hb) fun z=>I.ok.exfs b z hb
theorem aN.step {g':Array GenState}{t':Nat}{d':Drawn}{ch:List Addr}(I:aN X pins σ H s)
  (hch:∀ b∈ch,(b∈X.ex\/X.s₀.heap.objs.size<=b)/\b≠X.env.locals/\(∀ x c,X.env.cells.lookup x=some c->c≠b)/\∀ p∈X.pn++pins,p.1≠b)
  (keep:∀ b o,b≠X.env.locals->b∉X.fs->b∉ch->s.heap.get? b=some o->H b=none->h'.get? b=some o)
  (slot:∀ b o,b≠X.env.locals->b∈X.fs->b∉ch->s.heap.get? b=some o->H b=none->∃ sl,h'.get? b=some {o with slots:=sl}) (free:∀ b o,b∉ch->s.heap.get? b=some o->H b=none->H' b=none)
  (there:∀ b o,b∉ch->s.heap.get? b=some o->∃ o',h'.get? b=some o')
  (tups:∀ b xs,H b=some (.tup xs)->H' b=some (.tup xs)) (frzs:∀ b o u,H b=some (.frz o u)->H' b=some (.frz o u)) (tbls:∀ b ps,H b=some (.tbl ps)->∃ more,H' b=some (.tbl (ps++more)))
  (ns:∀ m,s.heap.Ns X.env.locals m->h'.Ns X.env.locals m) (hok:lb X.prog X.w H' h') (hg:AllBare g') :
  aN X pins σ H' {s with heap:=h',gens:=g',drawn:=d',toks:=t'}:=by
 have neL:∀ b o,X.s₀.heap.get? b=some o->b≠X.env.locals:=fun b o e=>Nat.ne_of_lt (Nat.lt_of_lt_of_le (Heap.lt_size e) I.ok.above);have neC:∀ b o,X.s₀.heap.get? b=some o->b∉X.ex->b∉ch:=fun b o e hx hb=>by
  rcases(hch b hb).1 with z|z
  ·exact hx z
  ·exact absurd (Nat.lt_of_lt_of_le (Heap.lt_size e) z) (Nat.lt_irrefl _)
 have cellK:∀ x c,X.env.cells.lookup x=some c->∀ v,s.heap.IsCell c v->h'.IsCell c v:=fun x c e v ⟨o,ho,hd⟩=>by
  have nch:c∉ch:=fun z=>(hch c z).2.2.1 x c e rfl
  by_cases hc:c∈X.fs
  ·obtain⟨sl,q⟩:=slot c o (I.cne x c e) hc nch ho (I.freeC x c e);exact⟨_,q,hd⟩
  ·exact⟨o,keep c o (I.cne x c e) hc nch ho (I.freeC x c e),hd⟩
 refine⟨I.ok,I.os,hg,⟨fun b o e n hb hx=>?_,fun b o e n hb hx=>?_,fun b o e n hx=>?_,fun b o e hx=>?_,fun b xs e=>tups b xs (I.base.tups b xs e),fun b o xs e=>frzs b o xs (I.base.frzs b o xs e),fun b ps e=>?_⟩,?_,fun x c e=>?_,?_,fun x c e=>?_,fun p hp=>?_,hok,I.len⟩
 ·exact keep b o (neL b o e) hb (neC b o e hx) (I.base.keep b o e n hb hx) (I.base.free b o e n hx)
 ·obtain⟨sl,e1⟩:=I.base.slot b o e n hb hx;obtain⟨sl',e2⟩:=slot b _ (neL b o e) hb (neC b o e hx) e1 (I.base.free b o e n hx);exact⟨sl',e2⟩
 ·obtain⟨o',e1⟩:=I.base.there b o e hx;exact free b o' (neC b o e hx) e1 (I.base.free b o e n hx)
 ·obtain⟨o',e1⟩:=I.base.there b o e hx;exact there b o' (neC b o e hx) e1
 ·obtain⟨m1,e1⟩:=I.base.tbls b ps e;obtain⟨m2,e2⟩:=tbls b _ e1;exact⟨m1++m2,by rw[e2,Array.append_assoc]⟩
 ·obtain⟨m,hn,hl⟩:=I.loc;refine⟨m,ns m hn,fun i x v e1 e2 e3=>?_⟩;obtain⟨u,r,l⟩:=hl i x v e1 e2 e3;refine⟨u,r,?_⟩
  rcases l with l|⟨k,c,e,z⟩
  ·exact .inl l
  ·exact .inr ⟨k,c,e,cellK x c e _ z⟩
 ·obtain⟨v,z⟩:=I.cell x c e;exact⟨v,cellK x c e v z⟩
 ·obtain⟨m,⟨o,_,_,ho,_⟩,_⟩:=I.loc;exact free _ o (fun z=>(hch _ z).2.1 rfl) ho I.free
 ·obtain⟨v,o,ho,hd⟩:=I.cell x c e;exact free c o (fun z=>(hch c z).2.2.1 x c e rfl) ho (I.freeC x c e)
 ·obtain⟨e,n,ne,nf,d⟩:=I.pin p hp;have nch:p.1∉ch:=fun z=>(hch p.1 z).2.2.2 p hp rfl;exact⟨keep p.1 p.2 ne nf nch e n,free p.1 p.2 nch e n,ne,nf,d⟩
theorem aN.un {t':Nat}(I:aN X pins σ H s)(u:Un X.fs [] H H' s.heap h')(hok:lb X.prog X.w H' h'):aN X pins σ H' {s with heap:=h',toks:=t'}:=by
 obtain⟨m,⟨o,es,ep,ho,r⟩,_⟩:=id I.loc;obtain⟨sl,hL⟩:=u.any ho I.free (by simp)
 exact I.step (g':=s.gens) (d':=s.drawn) (ch:=[]) (fun _ z=>nomatch z) (fun b o _ hb _ e n=>u.keep b o e n hb (by simp)) (fun b o _ hb _ e n=>u.slot b o e n hb (by simp)) (fun b o _ e n=>u.free b o e n (by simp)) (fun b o _ e=>u.there b o e (by simp)) u.tups u.frzs u.tbls (fun m' hm=>by
  obtain⟨o',es',ep',ho',r'⟩:=hm;rw[ho]at ho';cases ho'
  exact⟨_,es',ep',hL,r'⟩) hok I.bare
theorem aN.call {g':Array GenState}{t':Nat}{d':Drawn}{ch:List Addr}(I:aN X pins σ H s)(u:Un (uL X.stack) ch H H' s.heap h')(hok:lb X.prog X.w H' h')(hg:AllBare g')
  (hch:∀ b∈ch,(b∈X.ex\/X.s₀.heap.objs.size<=b)/\b≠X.env.locals/\(∀ x c,X.env.cells.lookup x=some c->c≠b)/\∀ p∈X.pn++pins,p.1≠b) :
  aN X pins σ H' {s with heap:=h',gens:=g',drawn:=d',toks:=t'}:=by
 obtain⟨m,⟨o,es,ep,ho,r⟩,_⟩:=id I.loc;obtain⟨sl,hL⟩:=u.any ho I.free fun z=>(hch _ z).2.1 rfl;exact I.step (ch:=ch) hch (fun b o hL hb hc e n=>u.keep b o e n (fun z=>(List.mem_cons.mp (I.stkSub b z)).elim hL hb) hc) (fun b o _ _ hc e n=>u.any e n hc) (fun b o hc e n=>u.free b o e n hc) (fun b o hc e=>u.there b o e hc) u.tups u.frzs u.tbls (fun m' hm=>by
  obtain⟨o',es',ep',ho',r'⟩:=hm;rw[ho]at ho';cases ho'
  exact⟨_,es',ep',hL,r'⟩) hok hg
theorem aN.turned {t':Nat}{it:Addr}(I:aN X pins σ H s)(k:∀ b o,b≠it->s.heap.get? b=some o->h'.get? b=some o)(hn:H it=none)(hL:it≠X.env.locals)
  (h1:it∈X.ex\/X.s₀.heap.objs.size<=it) (h2:∀ x c,X.env.cells.lookup x=some c->c≠it) (h3:∀ p∈X.pn++pins,p.1≠it):aN X pins σ H {s with heap:=h',toks:=t'}:=by
 have nit:∀ b u,H b=some u->b≠it:=fun b u e z=>by rw[z,hn]at e;cases e
 refine I.step (g':=s.gens) (d':=s.drawn) (ch:=[it]) (fun b hb=>?_) (fun b o _ _ hc e _=>k b o (fun z=>hc (by simp[z])) e) (fun b o _ _ hc e _=>⟨o.slots,k b o (fun z=>hc (by simp[z])) e⟩) (fun _ _ _ _ n=>n)
  (fun b o hc e=>⟨o,k b o (fun z=>hc (by simp[z])) e⟩) (fun _ _ e=>e) (fun _ _ _ e=>e) (fun b ps e=>⟨#[],by rw[e];simp⟩) (fun m hm=>?_) (fun b u e=>?_) I.bare
 ·have e:b=it:=by simpa using hb
  subst e;exact⟨h1,hL,h2,h3⟩
 ·obtain⟨o,es,ep,ho,r⟩:=hm;exact⟨o,es,ep,k _ o (Ne.symm hL) ho,r⟩
 ·refine(I.hok b u e).stay (fun c v hc q=>k c v ?_ q) (fun _ q=>q) fun _ _ q=>q
  rcases hc with z|z
  ·rw[z];exact nit b u e
  ·exact nit c _ z
theorem aN.tok (I:aN X pins σ H s)(t:Nat):aN X pins σ H {s with toks:=t}:=I.un (h':=s.heap) (t':=t) Un.refl I.hok
theorem aN.kept {t':Nat}(I:aN X pins σ H s)(k:∀ b u,s.heap.get? b=some u->h'.get? b=some u):aN X pins σ H {s with heap:=h',toks:=t'}:=I.un (Un.kept k) (I.hok.kept k)
theorem aN.laid {a:Addr}{o:HO}{t':Nat}(I:aN X pins σ H s)(k:∀ b u,s.heap.get? b=some u->h'.get? b=some u)(hp:s.heap.objs.size<=a)(new:eX X.prog X.w (cV H a o) h' a o) :
  aN X pins σ (cV H a o) {s with heap:=h',toks:=t'}:=I.un (Un.laid k hp (I.hok.fresh hp)) (I.hok.laid k hp new)
theorem aN.write {x e:Addr}{o:HO}{t':Nat}(I:aN X pins σ H s)(mu:Nb (H x))(he:e=x\/H e=some (.own x))(k:∀ b u,b≠e->s.heap.get? b=some u->h'.get? b=some u)(heo:∃ u,h'.get? e=some u)
  (new:eX X.prog X.w (cV H x o) h' x o):aN X pins σ (cV H x o) {s with heap:=h',toks:=t'}:=I.un (Un.write mu he k heo) (I.hok.write mu he k heo new)
theorem aN.weak {σ':List (Option V)}(I:aN X pins σ H s)(hl:σ'.length=σ.length)(w:∀ (i:Nat) v,σ'[i]?=some (some v)->σ[i]?=some (some v)):aN X pins σ' H s:=
 ⟨I.ok,I.os,I.bare,I.base,let ⟨m,hn,hl'⟩:=I.loc;⟨m,hn,fun i x v e1 e2 e3=>hl' i x v e1 (w i v e2) e3⟩,I.cell,I.free,I.freeC,I.pin,I.hok,hl.trans I.len⟩
theorem aN.pins_of {pins':List (Addr × Obj)}(I:aN X pins σ H s)(h:∀ p∈pins',s.heap.get? p.1=some p.2/\H p.1=none/\p.1≠X.env.locals/\p.1∉X.fs/\∀ v,p.2.data≠.cell v):aN X pins' σ H s:=
 ⟨I.ok,I.os,I.bare,I.base,I.loc,I.cell,I.free,I.freeC,fun p hp=>(List.mem_append.mp hp).elim (fun z=>I.pin p (List.mem_append_left _ z)) (h p),I.hok,I.len⟩
theorem uo {N:List Str}(hN:N.Nodup){i j:Nat}{x:Str}(a:N[i]?=some x)(b:N[j]?=some x):i=j:=by
 obtain⟨h1,e1⟩:=List.getElem?_eq_some_iff.mp a;obtain⟨h2,e2⟩:=List.getElem?_eq_some_iff.mp b;exact(List.getElem_inj hN).mp (e1.trans e2.symm)
theorem pV {M:Model}{A:Around}{E:Value->Shared->Prop}{i:Nat}{x:Str}{v:V}{u:Value}{Q:Unit->Shared->Prop}(I:aN X pins σ H s)(hN:X.N.Nodup)(hi:X.N[i]?=some x)(hx:Loc X.env.scope x)(r:RelV v u)
  (h:∀ s',aN X pins (σ.set i (some v)) H s'->(∃ a,Heap.SameBut a s.heap s'.heap/\(a=X.env.locals\/X.env.cells.lookup x=some a))->Q () s') (hf:X.fn x=true\/X.env.scope.names.lookup x=some .local:=by first|exact .inl rfl|exact .inr rfl|assumption):wpAny M A (storeName X.env x u) Q E s:=by
 obtain⟨m,hn,hl⟩:=id I.loc;have hcls:(X.env.scope.kind == .class || (X.env.scope.kind == .module && X.env.locals != X.env.globals))=false:=by rw[I.ok.kind];rfl
 have hiσ:i<σ.length:=by rw[I.len];exact(List.getElem?_eq_some_iff.mp hi).1
 have cne:=I.cne;have tracked:∀ {a:Addr}{h':Heap},(∃ o,s.heap.get? a=some o/\H a=none)->Heap.SameBut a s.heap h'->lb X.prog X.w H h':=fun {a h'} ha hs b ob e=>by
  obtain⟨_,_,hfree⟩:=ha;refine(I.hok b ob e).stay (fun c w' hc q=>(hs.2 c ?_).trans q) (fun _ q=>q) fun _ _ q=>q;rintro rfl
  rcases hc with rfl|hc
  ·rw[hfree]at e;cases e
  ·rw[hfree]at hc;cases hc
 rcases hx with hk|hk
 ·refine wpAny_storeName_local hk hn (fun h' hn' hs=>?_) hcls;obtain⟨oL,_,_,hoL,_⟩:=id hn;refine h _ ⟨I.ok,I.os,I.bare,⟨fun b o e n hb hx=>?_,fun b o e n hb hx=>?_,I.base.free,fun b o e hx=>?_,I.base.tups,I.base.frzs,I.base.tbls⟩,⟨_,hn',fun j y v' e1 e2 e3=>?_⟩,fun y c e=>?_,I.free,I.freeC,fun p hp=>?_,tracked ⟨oL,hoL,I.free⟩ hs,by simpa using I.len⟩ ⟨_,hs,.inl rfl⟩
  ·exact(hs.2 b (Nat.ne_of_lt (Nat.lt_of_lt_of_le (Heap.lt_size e) I.ok.above))).trans (I.base.keep b o e n hb hx)
  ·obtain⟨sl,e1⟩:=I.base.slot b o e n hb hx;exact⟨sl,(hs.2 b (Nat.ne_of_lt (Nat.lt_of_lt_of_le (Heap.lt_size e) I.ok.above))).trans e1⟩
  ·obtain⟨o',e1⟩:=I.base.there b o e hx;exact⟨o',(hs.2 b (Nat.ne_of_lt (Nat.lt_of_lt_of_le (Heap.lt_size e) I.ok.above))).trans e1⟩
  ·by_cases hj:j=i
   ·subst hj;rw[hi]at e1;cases e1
    rw[List.getElem?_set_self hiσ]at e2
    cases e2
    exact⟨u,r,.inl ⟨hk,by simp⟩⟩
   ·rw[List.getElem?_set_ne (Ne.symm hj)]at e2;obtain⟨u',r',q⟩:=hl j y v' e1 e2 e3;refine⟨u',r',?_⟩
    rcases q with ⟨k,e⟩|⟨k,c,e,z⟩
    ·refine .inl ⟨k,?_⟩;have:y≠x:=fun e=>hj (uo hN e1 (e ▸ hi));simp[this,e]
    ·exact .inr ⟨k,c,e,z.sameBut hs (cne y c e)⟩
  ·obtain⟨w',z⟩:=I.cell y c e;exact⟨w',z.sameBut hs (cne y c e)⟩
  ·obtain⟨e,n,ne,nf,d⟩:=I.pin p hp;exact⟨(hs.2 p.1 ne).trans e,n,ne,nf,d⟩
 ·have hfn:X.fn x=true:=by
   rcases hf with z|z
   ·exact z
   ·rw[z]at hk;cases hk
  obtain⟨c,hc⟩:=I.ok.has x (.inl hk);obtain⟨w',z⟩:=I.cell x c hc;refine wpAny_storeName_cell I.ok.kind hk hc z (fun h' hc' hs=>?_);obtain⟨oc,hoc,hocd⟩:=id z;refine h {s with heap:=h'} ⟨I.ok,I.os,I.bare,⟨fun b o e n hb hx=>?_,fun b o e n hb hx=>?_,I.base.free,fun b o e hx=>?_,I.base.tups,I.base.frzs,I.base.tbls⟩,⟨m,hn.sameBut hs (Ne.symm (cne x c hc)),fun j y v' e1 e2 e3=>?_⟩,fun y c' e=>?_,I.free,I.freeC,fun p hp=>?_,tracked ⟨oc,hoc,I.freeC x c hc⟩ hs,by simpa using I.len⟩ ⟨c,hs,.inr hc⟩
  ·exact(hs.2 b (Nat.ne_of_lt (Nat.lt_of_lt_of_le (Heap.lt_size e) (I.ok.cab x c hfn hc)))).trans (I.base.keep b o e n hb hx)
  ·obtain⟨sl,e1⟩:=I.base.slot b o e n hb hx;exact⟨sl,(hs.2 b (Nat.ne_of_lt (Nat.lt_of_lt_of_le (Heap.lt_size e) (I.ok.cab x c hfn hc)))).trans e1⟩
  ·obtain⟨o',e1⟩:=I.base.there b o e hx;exact⟨o',(hs.2 b (Nat.ne_of_lt (Nat.lt_of_lt_of_le (Heap.lt_size e) (I.ok.cab x c hfn hc)))).trans e1⟩
  ·by_cases hj:j=i
   ·subst hj;rw[hi]at e1;cases e1
    rw[List.getElem?_set_self hiσ]at e2
    cases e2
    exact⟨u,r,.inr ⟨.inl hk,c,hc,hc'⟩⟩
   ·rw[List.getElem?_set_ne (Ne.symm hj)]at e2;obtain⟨u',r',q⟩:=hl j y v' e1 e2 e3;refine⟨u',r',?_⟩
    rcases q with q|⟨k,c',e,z'⟩
    ·exact .inl q
    ·refine .inr ⟨k,c',e,z'.sameBut hs ?_⟩;rintro rfl;exact hj (uo hN e1 (I.ok.inj _ _ _ e hc ▸ hi))
  ·by_cases hcc:c'=c
   ·subst hcc;exact⟨_,hc'⟩
   ·obtain⟨w2,z2⟩:=I.cell y c' e;exact⟨w2,z2.sameBut hs hcc⟩
  ·obtain⟨e,n,ne,nf,d⟩:=I.pin p hp;refine⟨(hs.2 p.1 ?_).trans e,n,ne,nf,d⟩;intro q;rw[q,hoc]at e;have q':oc=p.2:=Option.some.inj e;exact d w' (by rw[<-q'];exact hocd)
theorem kP {M:Model}{A:Around}{E:Value->Shared->Prop}{i:Nat}{x:Str}{v:V}{u:Value}{Q:Unit->Shared->Prop}(I:aN X pins σ H s)(hN:X.N.Nodup)(hi:X.N[i]?=some x)(hx:Loc X.env.scope x)(r:RelV v u)
  (h:∀ s',aN X pins (σ.set i (some v)) H s'->Q () s') (hf:X.fn x=true\/X.env.scope.names.lookup x=some .local:=by first|exact .inl rfl|exact .inr rfl|assumption):wpAny M A (storeName X.env x u) Q E s:=
 pV I hN hi hx r (fun s' I' _=>h s' I') hf
end
abbrev XK:=Value->Option Addr->Hp->Prop
abbrev St:=List (Option V)
abbrev VK:=V->Hp->Prop
abbrev TE:=St->Hp->VK->Prop
abbrev TT:=St->Hp->(Bool->Hp->Prop)->Prop
abbrev TA:=St->Hp->(List V->Hp->Prop)->Prop
structure Ends where
 nx:St->Hp->Prop
 rt:VK
 bk:St->Hp->Prop:=fun _ _=>False
 ct:St->Hp->Prop:=fun _ _=>False
abbrev TS:=Ends->St->Hp->Prop
def EP (X:Cx)(pins:List (Addr × Obj))(σ:St)(Q:VK)(u:Value)(s':Shared):Prop:=∃ v H',aN X pins σ H' s'/\RelV v u/\Q v H'
def TP (X:Cx)(pins:List (Addr × Obj))(σ:St)(Q:Bool->Hp->Prop)(b:Bool)(s':Shared):Prop:=∃ H',aN X pins σ H' s'/\Q b H'
def AP (X:Cx)(pins:List (Addr × Obj))(σ:St)(Q:List V->Hp->Prop)(us:List Value)(s':Shared):Prop:=∃ vs H',aN X pins σ H' s'/\aT vs us/\Q vs H'
def SP (X:Cx)(pins:List (Addr × Obj))(D:Ends)(f:Flow)(s':Shared):Prop:=
 match f with
 | .next=>∃ σ' H',aN X pins σ' H' s'/\D.nx σ' H'
 | .brk=>∃ σ' H',aN X pins σ' H' s'/\D.bk σ' H'
 | .cont=>∃ σ' H',aN X pins σ' H' s'/\D.ct σ' H'
 | .ret u=>∃ v σ' H',aN X pins σ' H' s'/\RelV v u/\D.rt v H'
def PE (X:Cx)(e:Expr)(t:TE):Prop:=
 ∀ (pins:List (Addr × Obj)) (s:Shared) (σ:St) (H:Hp) (Q:VK),aN X pins σ H s->t σ H Q->wpAny (model X.prog X.w) X.A (eval e X.env) (EP X pins σ Q) X.xe s
def PT (X:Cx)(e:Expr)(t:TT):Prop:=
 ∀ (pins:List (Addr × Obj)) (s:Shared) (σ:St) (H:Hp) (Q:Bool->Hp->Prop),aN X pins σ H s->t σ H Q->wpAny (model X.prog X.w) X.A (isTrue e X.env (eval e X.env)) (TP X pins σ Q) X.xe s
def PW (X:Cx)(e:Expr)(t:TT):Prop:=
 ∀ (whole:Sem Value) (pins:List (Addr × Obj)) (s:Shared) (σ:St) (H:Hp) (Q:Bool->Hp->Prop),aN X pins σ H s->t σ H Q->wpAny (model X.prog X.w) X.A (isTrue e X.env whole) (TP X pins σ Q) X.xe s
theorem PW.pt {X:Cx}{e:Expr}{t:TT}(h:PW X e t):PT X e t:=h _
def PA (X:Cx)(es:List Expr)(t:TA):Prop:=
 ∀ (pos:Pos) (pins:List (Addr × Obj)) (s:Shared) (σ:St) (H:Hp) (Q:List V->Hp->Prop),aN X pins σ H s->t σ H Q->wpAny (model X.prog X.w) X.A (spliced (backTo pos (starEach es X.env))) (AP X pins σ Q) X.xe s
def PS (X:Cx)(st:Stmt)(t:TS):Prop:=
 ∀ (pins:List (Addr × Obj)) (s:Shared) (σ:St) (H:Hp) (D:Ends),aN X pins σ H s->t D σ H->wpAny (model X.prog X.w) X.A (exec st X.env) (SP X pins D) X.xe s
def gS (X:Cx)(st:List Stmt)(t:TS):Prop:=
 ∀ (pins:List (Addr × Obj)) (s:Shared) (σ:St) (H:Hp) (D:Ends),aN X pins σ H s->t D σ H->wpAny (model X.prog X.w) X.A (execs st X.env) (SP X pins D) X.xe s
theorem cQ {α:Type}{t:Sem α}{Q Q':α->Shared->Prop}{M:Model}{A:Around}{E:Value->Shared->Prop}{s:Shared}(h:wpAny M A t Q E s)(hQ:∀ a s,Q a s->Q' a s):wpAny M A t Q' E s:=wpAny_mono h hQ fun _ _ x=>x
end L2
namespace L2
open PySem PySem.Spec PyProof.Rows
section
variable {X:Cx}
def j7 (i:Nat):TE:=fun σ H Q=>∃ v,σ[i]?=some (some v)/\Q v H
def tC (v:V):TE:=fun _ H Q=>Q v H
theorem Dh {i:Nat}{x:Str}{pos:Pos} (hN:X.N[i]?=some x) (hv:Nh X.env.scope x) (hd:(x == ("__debug__":Str))=false:=by decide) (hcd:(x == ("__classdict__":Str))=false:=by decide):PE X (.Name x pos) (j7 i):=by
 intro pins s σ H Q I h;obtain⟨v,e,h⟩:=h;obtain⟨m,hn,hl⟩:=I.loc;obtain⟨u,r,l⟩:=hl i x v hN e hv;have fin:EP X pins σ Q u s:=⟨v,H,I,r,h⟩
 rcases l with ⟨hk,hm⟩|⟨hk,c,hc,hcell⟩
 ·exact wpAny_Name (wpAny_loadName_local I.ok.kind hk hn hm fin) hd
 ·rcases hk with hk|hk
  ·exact wpAny_Name (wpAny_loadName_cell I.ok.kind hk hc hcell fin) hd
  ·exact wpAny_Name (wpAny_loadName_free I.ok.kind hk hc hcell fin hcd) hd
theorem JX {i j pos}:PE X (.Constant (.int i) j pos) (tC (.int i)):=fun _ _ _ H _ I h=>wpAny_Constant_int ⟨.int i,H,I.tok _,⟨_,rfl⟩,h⟩
theorem Hc {b j pos}:PE X (.Constant (.bool b) j pos) (tC (.bl b)):=fun _ _ _ H _ I h=>Constant_bool ⟨.bl b,H,I,rfl,h⟩
theorem JZ {j pos}:PE X (.Constant .none j pos) (tC .non):=fun _ _ _ H _ I h=>Constant_none ⟨.non,H,I,rfl,h⟩
theorem J3 {x j pos}:PE X (.Constant (.str x) j pos) (tC (.str x)):=fun _ _ _ H _ I h=>Calls.Constant_str ⟨.str x,H,I.tok _,⟨_,rfl⟩,h⟩
def Gl (X:Cx)(x:Str):Prop:=X.env.kindOf x=some .globalImplicit
theorem Fs {E:Value->Shared->Prop}{pins:List (Addr × Obj)}{s:Shared}{σ:St}{H:Hp}{x:Str}{u:Value}{pos:Pos}{Q:Value->Shared->Prop}(I:aN X pins σ H s)(hg:Gl X x)(hm:X.mg x=some u)(h:Q u s)
  (hd:(x == ("__debug__":Str))=false:=by decide):wpAny (model X.prog X.w) X.A (eval (.Name x pos) X.env) Q E s:=
 Calls.Name_function_global I.ok.kind hg (Calls.loadGlobal_global (by rw[I.ok.glob];exact I.mod.glob.keeps I.bk) hm h) hd
theorem jV {E:Value->Shared->Prop}{pins:List (Addr × Obj)}{s:Shared}{σ:St}{H:Hp}{x:Str}{u:Value}{pos:Pos}{Q:Value->Shared->Prop}(I:aN X pins σ H s)(hg:Gl X x)(hm:X.mg x=none)(hv:bootBuiltins x=some u)(h:Q u s)
  (hn:x≠"__name__":=by decide) (hd:(x == ("__debug__":Str))=false:=by decide):wpAny (model X.prog X.w) X.A (eval (.Name x pos) X.env) Q E s:=by
 obtain⟨mb,h1,h2⟩:=I.mod.blt;exact Calls.Name_function_global I.ok.kind hg (Calls.loadGlobal_builtin (by rw[I.ok.glob];exact I.mod.glob.keeps I.bk) hm (by rw[I.ok.blt];exact h1.keeps I.bk) ((h2 x hn).trans hv) h) hd
theorem FZ {x:Str}{v:V}{u:Value}{pos:Pos} (hg:Gl X x) (hm:X.mg x=none) (hv:bootBuiltins x=some u) (r:RelV v u) (hn:x≠"__name__":=by decide) (hd:(x == ("__debug__":Str))=false:=by decide):PE X (.Name x pos) (tC v):=
 fun _ _ _ H _ I h=>jV I hg hm hv ⟨v,H,I,r,h⟩ hn hd
variable {a b:Expr}{ta tb:TE}{pos:Pos}
def tB (t:TE):TT:=fun σ H Q=>t σ H fun x H1=>∃ c,x=.bl c/\Q c H1
theorem Kb {e:Expr}{t:TE}(h:PE X e t)(he:∀ whole,isTrue e X.env whole=(do let v ← whole;standAt e.pos;holding [v] (truthy v)):=by intro _;rfl):PT X e (tB t):=by
 intro pins s σ H Q I hw;refine isTrue_plain (cQ (h pins s σ H _ I hw) fun v s1 ⟨x,H1,I1,r1,q1⟩=>?_) (he _);obtain⟨d,rfl,q⟩:=q1
 cases r1
 exact wpAny_truthy_bool ⟨H1,I1,q⟩
variable {tA tB':TT}{rest:List Expr}
def Of (t u:TT):TT:=fun σ H Q=>t σ H fun c H1=>if c=true then u σ H1 Q else Q false H1
def O3 (t u:TT):TT:=fun σ H Q=>t σ H fun c H1=>if c=true then Q true H1 else u σ H1 Q
def Om (t:TT):TT:=fun σ H Q=>t σ H fun c H1=>Q (!c) H1
theorem Gq (ha:PT X a tA):PW X (.BoolOp .And [a] pos) tA:=by
 intro wh pins s σ H Q I h;refine isTrue_and (cQ (ha pins s σ H Q I h) fun c s1 e=>?_)
 cases c with
 | true=>exact isTrue_and_nil e
 | false=>exact e
theorem Kf (ha:PT X a tA):PW X (.BoolOp .Or [a] pos) tA:=by
 intro wh pins s σ H Q I h;refine isTrue_or (cQ (ha pins s σ H Q I h) fun c s1 e=>?_)
 cases c with
 | false=>exact isTrue_or_nil e
 | true=>exact e
theorem Ke (ha:PT X a tA)(hb:PW X (.BoolOp .And (b::rest) pos) tB'):PW X (.BoolOp .And (a::b::rest) pos) (Of tA tB'):=by
 intro wh pins s σ H Q I h;refine isTrue_and (cQ (ha pins s σ H _ I h) fun c s1 ⟨H1,I1,q1⟩=>?_)
 cases c with
 | true=>exact hb wh pins s1 σ H1 Q I1 q1
 | false=>exact⟨H1,I1,q1⟩
theorem MF (ha:PT X a tA)(hb:PW X (.BoolOp .Or (b::rest) pos) tB'):PW X (.BoolOp .Or (a::b::rest) pos) (O3 tA tB'):=by
 intro wh pins s σ H Q I h;refine isTrue_or (cQ (ha pins s σ H _ I h) fun c s1 ⟨H1,I1,q1⟩=>?_)
 cases c with
 | true=>exact⟨H1,I1,q1⟩
 | false=>exact hb wh pins s1 σ H1 Q I1 q1
theorem Ka (ha:PT X a tA):PT X (.UnaryOp .Not a pos) (Om tA):=by
 intro pins s σ H Q I h;exact isTrue_not (ha pins s σ H (fun c H1=>Q (!c) H1) I h)
def MQ (ta tb:TE):TE:=fun σ H Q=>ta σ H fun x H1=>∃ c,x=.bl c/\if c=true then tb σ H1 Q else Q (.bl false) H1
def MV (ta:TE):TE:=fun σ H Q=>ta σ H fun x H1=>∃ c,x=.bl c/\Q (.bl (!c)) H1
theorem J2 {op}{t:TE}(h:PE X a t):PE X (.BoolOp op [a] pos) t:=fun pins s σ H Q I hw=>BoolOp_one (h pins s σ H Q I hw)
theorem JW (ha:PE X a ta)(hb:PE X (.BoolOp .And (b::rest) pos) tb):PE X (.BoolOp .And (a::b::rest) pos) (MQ ta tb):=by
 intro pins s σ H Q I h;refine BoolOp_and (cQ (ha pins s σ H _ I h) fun v s1 ⟨x,H1,I1,r1,q1⟩=>?_);obtain⟨c,rfl,q1⟩:=q1
 cases r1
 refine wpAny_truthy_bool ?_
 cases c with
 | true=>exact hb pins s1 σ H1 Q I1 q1
 | false=>exact⟨.bl false,H1,I1,rfl,q1⟩
theorem J1 (ha:PE X a ta):PE X (.UnaryOp .Not a pos) (MV ta):=by
 intro pins s σ H Q I h;refine UnaryOp_ (cQ (ha pins s σ H _ I h) fun v s1 ⟨x,H1,I1,r1,q1⟩=>?_);obtain⟨c,rfl,q1⟩:=q1
 cases r1
 exact not_of (wpAny_truthy_bool ⟨.bl (!c),H1,I1,rfl,q1⟩)
end
end L2
namespace L2
open PySem PySem.Spec PyProof.Rows
def cD (K:PySem.W.Frag)(H:Hp)(a:Addr)(xs:List V):Prop:=
 Rd H a (.lst xs) ∨
  ∃ (o:Obj) (its:Array Value) (n:Nat),K.lookup a=some o/\o.cls=.type "list"/\o.dict=none/\o.data=.seq its n/\its.size<=sizeLine/\aT xs its.toList
def iD (K:PySem.W.Frag)(H:Hp)(a:Addr)(xs:List V):Prop:=
 Rd H a (.tup xs) ∨
  ∃ (o:Obj) (its:Array Value) (n:Nat),K.lookup a=some o/\o.cls=.type "tuple"/\o.data=.seq its n/\its.size<=sizeLine/\aT xs its.toList
def NP:Value->Option V
 | .none=>some .non
 | .bool b=>some (.bl b)
 | .int i _=>some (.int i)
 | .str x _=>some (.str x)
 | .bytes b _=>some (.byt b)
 | .float b _=>some (.flt b)
 | .ref a=>some (.ref a)
 | .type n=>some (.ty n)
 | _=>none
theorem RelV.abs {x:V}{u:Value}(r:RelV x u):NP u=some x:=by
 cases x with
 | non=>cases r;rfl
 | bl _=>cases r;rfl
 | int _=>obtain⟨t,rfl⟩:=r;rfl
 | str _=>obtain⟨t,rfl⟩:=r;rfl
 | byt _=>obtain⟨t,rfl⟩:=r;rfl
 | flt _=>obtain⟨t,rfl⟩:=r;rfl
 | ref _=>cases r;rfl
 | ty _=>cases r;rfl
theorem RelV.inj {x y:V}{u:Value}(r:RelV x u)(q:RelV y u):x=y:=Option.some.inj (r.abs.symm.trans q.abs)
theorem aT.inj:∀ {xs ys:List V}{us:List Value},aT xs us->aT ys us->xs=ys
 | _,_,_,.nil,.nil=>rfl
 | _,_,_,.cons r t,.cons r' t'=>by rw[r.inj r',aT.inj t t']
section
variable {X:Cx}{pins:List (Addr × Obj)}{σ:St}{H:Hp}{s:Shared}{a:Addr}{xs ys:List V}
theorem cD.of {K:PySem.W.Frag}(h:H a=some (.lst xs)):cD K H a xs:=.inl (.inl h)
theorem iD.of {K:PySem.W.Frag}(h:H a=some (.tup xs)):iD K H a xs:=.inl (.inl h)
theorem aN.list (I:aN X pins σ H s)(h:cD X.K H a xs):∃ its:List Value,aT xs its/\PlainL s.heap a its.toArray/\xs.length<=sizeLine:=by
 rcases h with h|⟨o,its,n,hk,hc,hd,hs,hz,r⟩
 ·obtain⟨z,its,n,r,e⟩:=h.ok I.hok;exact⟨its,r,⟨_,n,e,rfl,rfl,rfl⟩,z⟩
 ·refine⟨its.toList,r,⟨o,n,I.kIn a o hk,hc,hd,by simpa using hs⟩,?_⟩
  have e:=r.length;simp only[Array.length_toList]at e;omega
theorem aN.tuple (I:aN X pins σ H s)(h:iD X.K H a xs):∃ its:List Value,aT xs its/\IsTup s.heap a its.toArray/\xs.length<=sizeLine:=by
 rcases h with h|⟨o,its,n,hk,hc,hs,hz,r⟩
 ·obtain⟨z,its,r,p⟩:=h.ok I.hok;exact⟨its,r,p,z⟩
 ·refine⟨its.toList,r,⟨o,I.kIn a o hk,hc,n,by simpa using hs⟩,?_⟩
  have e:=r.length;simp only[Array.length_toList]at e;omega
theorem aN.list_inj (I:aN X pins σ H s)(h:cD X.K H a xs)(h':cD X.K H a ys):xs=ys:=by
 obtain⟨its,r,⟨o,n,e,_,_,d⟩,_⟩:=I.list h;obtain⟨its',r',⟨o',n',e',_,_,d'⟩,_⟩:=I.list h';rw[e]at e';cases e'
 rw[d]at d'
 injection d' with d1 _
 have:its=its':=by simpa using congrArg Array.toList d1
 subst this;exact r.inj r'
theorem aN.tuple_inj (I:aN X pins σ H s)(h:iD X.K H a xs)(h':iD X.K H a ys):xs=ys:=by
 obtain⟨its,r,⟨o,e,_,n,d⟩,_⟩:=I.tuple h;obtain⟨its',r',⟨o',e',_,n',d'⟩,_⟩:=I.tuple h';rw[e]at e';cases e'
 rw[d]at d'
 injection d' with d1 _
 have:its=its':=by simpa using congrArg Array.toList d1
 subst this;exact r.inj r'
end
abbrev Cx.wish (X:Cx)(E:Value->Shared->Prop):Cx:={X with xe:=E}
abbrev Cx.nox (X:Cx):Cx:=X.wish fun _ _=>False
theorem Cx.Ok.wish {X:Cx}(ok:X.Ok)(E:Value->Shared->Prop):(X.wish E).Ok:=
 ⟨ok.mod,ok.kind,ok.glob,ok.blt,ok.above,ok.inj,ok.has,ok.cab,ok.hd,ok.frames,ok.stk,ok.exf,ok.bs,ok.bsz,ok.noex,ok.exfs,ok.funs,ok.frf⟩
theorem Cx.Ok.unwish {X:Cx}{E:Value->Shared->Prop}(ok:(X.wish E).Ok):X.Ok:=
 ⟨ok.mod,ok.kind,ok.glob,ok.blt,ok.above,ok.inj,ok.has,ok.cab,ok.hd,ok.frames,ok.stk,ok.exf,ok.bs,ok.bsz,ok.noex,ok.exfs,ok.funs,ok.frf⟩
section
variable {X:Cx}{pins:List (Addr × Obj)}{σ:St}{H:Hp}{s:Shared}{E:Value->Shared->Prop}
theorem aN.wish (I:aN X pins σ H s)(E:Value->Shared->Prop):aN (X.wish E) pins σ H s:=⟨I.ok.wish E,I.os,I.bare,I.base,I.loc,I.cell,I.free,I.freeC,I.pin,I.hok,I.len⟩
theorem aN.unwish (I:aN (X.wish E) pins σ H s):aN X pins σ H s:=⟨I.ok.unwish,I.os,I.bare,I.base,I.loc,I.cell,I.free,I.freeC,I.pin,I.hok,I.len⟩
theorem SP.unwish {D:Ends}{f:Flow}{s':Shared}(h:SP (X.wish E) pins D f s'):SP X pins D f s':=by
 cases f with
 | next=>obtain⟨σ',H',I,q⟩:=h;exact⟨σ',H',I.unwish,q⟩
 | brk=>obtain⟨σ',H',I,q⟩:=h;exact⟨σ',H',I.unwish,q⟩
 | cont=>obtain⟨σ',H',I,q⟩:=h;exact⟨σ',H',I.unwish,q⟩
 | ret u=>obtain⟨v,σ',H',I,r,q⟩:=h;exact⟨v,σ',H',I.unwish,r,q⟩
theorem PE.nox {e:Expr}{t:TE}(h:PE X.nox e t):PE X e t:=fun pins s σ H Q I hw=>
 wpAny_mono (h pins s σ H Q (I.wish _) hw) (fun _ _ ⟨v,H',I',r,q⟩=>⟨v,H',I'.unwish,r,q⟩) fun _ _ z=>False.elim z
theorem PT.nox {e:Expr}{t:TT}(h:PT X.nox e t):PT X e t:=fun pins s σ H Q I hw=>
 wpAny_mono (h pins s σ H Q (I.wish _) hw) (fun _ _ ⟨H',I',q⟩=>⟨H',I'.unwish,q⟩) fun _ _ z=>False.elim z
theorem gS.nox {st:List Stmt}{t:TS}(h:gS X.nox st t):gS X st t:=fun pins s σ H D I hw=>
 wpAny_mono (h pins s σ H D (I.wish _) hw) (fun _ _ q=>q.unwish) fun _ _ z=>False.elim z
end
section
variable {X:Cx}{st:Stmt}{rest:List Stmt}{t u:TS}{e:Expr}{te:TE}{pos:Pos}
def MU:TS:=fun D σ H=>D.nx σ H
def MX (t u:TS):TS:=fun D σ H=>t {D with nx:=u D} σ H
theorem xp:gS X [] MU:=fun _ _ σ H _ I h=>wpAny_execs_nil ⟨σ,H,I,h⟩
theorem fx (h1:PS X st t)(h2:gS X rest u):gS X (st::rest) (MX t u):=by
 intro pins s σ H D I h;refine wpAny_execs_cons (cQ (h1 pins s σ H {D with nx:=u D} I h) fun f s1 q=>?_)
 cases f with
 | next=>
  obtain⟨σ',H',I',q⟩:=q;exact h2 pins s1 σ' H' D I' q
 | ret v=>exact q
 | brk=>exact q
 | cont=>exact q
theorem rS (h1:PS X st t):gS X [st] t:=by
 intro pins s σ H D I h;refine wpAny_execs_cons (cQ (h1 pins s σ H D I h) fun f s1 q=>?_)
 cases f with
 | next=>exact wpAny_execs_nil q
 | ret v=>exact q
 | brk=>exact q
 | cont=>exact q
theorem aN.quiet {pins:List (Addr × Obj)}{σ:St}{H:Hp}{s:Shared}(I:aN X pins σ H s):interactive X.env=false:=by simp[interactive,I.ok.kind]
def MT (te:TE):TS:=fun D σ H=>te σ H fun _ H1=>D.nx σ H1
theorem rR (he:PE X e te)(hs:swapsWith e none pos.line X.env=pure false:=by rfl):PS X (.Expr e pos) (MT te):=by
 intro pins s σ H D I h;exact wpAny_Expr_any (cQ (he pins s σ H _ I h) fun v s1 ⟨x,H1,I1,r1,q1⟩=>⟨σ,H1,I1,q1⟩) I.quiet hs
def Oo (te:TE):TS:=fun D σ H=>te σ H D.rt
theorem nW (he:PE X e te):PS X (.Return (some e) pos) (Oo te):=by
 intro pins s σ H D I h;exact wpAny_Return_some (cQ (he pins s σ H _ I h) fun v s1 ⟨x,H1,I1,r1,q1⟩=>⟨x,σ,H1,I1,r1,q1⟩)
def Oi (c:TT)(t u:TS):TS:=fun D σ H=>c σ H fun b H1=>if b=true then t D σ H1 else u D σ H1
theorem He {c:Expr}{a b:List Stmt}{tc:TT}(hc:PT X c tc)(ha:gS X a t)(hb:gS X b u):PS X (.If c a b pos) (Oi tc t u):=by
 intro pins s σ H D I h;refine wpAny_If (cQ (hc pins s σ H _ I h) fun d s1 ⟨H1,I1,q1⟩=>?_)
 cases d with
 | true=>exact ha pins s1 σ H1 D I1 q1
 | false=>exact hb pins s1 σ H1 D I1 q1
def Kw:TS:=fun _ _ _=>False
theorem Dl:PS X st Kw:=fun _ _ _ _ _ _ h=>h.elim
end
abbrev TG:=V->St->Hp->(St->Hp->Prop)->Prop
abbrev Ec:=List V->St->Hp->(St->Hp->Prop)->Prop
def PG (X:Cx)(target:Expr)(t:TG):Prop:=
 ∀ (pins:List (Addr × Obj)) (s:Shared) (σ:St) (H:Hp) (v:V) (u:Value) (Q:St->Hp->Prop),aN X pins σ H s->RelV v u->t v σ H Q →
  wpAny (model X.prog X.w) X.A (assign target X.env u) (fun _ s'=>∃ σ' H',aN X pins σ' H' s'/\Q σ' H') X.xe s
def zJ (X:Cx)(ts:List Expr)(t:Ec):Prop:=
 ∀ (pins:List (Addr × Obj)) (s:Shared) (σ:St) (H:Hp) (vs:List V) (us:List Value) (Q:St->Hp->Prop),aN X pins σ H s->aT vs us->t vs σ H Q →
  wpAny (model X.prog X.w) X.A (assignInOrder ((assignEach ts X.env).map (·.2)) us) (fun _ s'=>∃ σ' H',aN X pins σ' H' s'/\Q σ' H') X.xe s
abbrev HB:=V->V->V->Hp->(Hp->Prop)->Prop
def K9 (X:Cx)(t:HB):Prop:=
 ∀ (pins:List (Addr × Obj)) (s:Shared) (σ:St) (H:Hp) (o i v:V) (ov iv u:Value) (Q:Hp->Prop),aN X pins σ H s->RelV o ov->RelV i iv->RelV v u->t o i v H Q →
  wpAny (model X.prog X.w) X.A (setItem ov iv u) (fun _ s'=>∃ H',aN X pins σ H' s'/\Q H') X.xe s
section
variable {X:Cx}{pos:Pos}
def nD (i:Nat):TG:=fun v σ H Q=>Q (σ.set i (some v)) H
theorem kE {i:Nat}{x:Str}(hN:X.N.Nodup)(hi:X.N[i]?=some x)(hx:Loc X.env.scope x)(hf:X.fn x=true\/X.env.scope.names.lookup x=some .local:=by first|exact .inl rfl|exact .inr rfl|assumption):PG X (.Name x pos) (nD i):=by
 intro pins s σ H v u Q I r h;exact wpAny_assign_Name (kP I hN hi hx r (fun s' I'=>⟨_,H,I',h⟩) hf)
def Md:Ec:=fun vs σ H Q=>vs=[]/\Q σ H
def tH (t:TG)(u:Ec):Ec:=fun vs σ H Q=>∃ v r,vs=v::r/\t v σ H fun σ' H'=>u r σ' H' Q
theorem xn:zJ X [] Md:=by
 intro pins s σ H vs us Q I r h;obtain⟨e,h⟩:=h;subst e
 cases r
 exact assignInOrder_nil ⟨σ,H,I,h⟩
theorem iY {e:Expr}{es:List Expr}{t:TG}{u:Ec}(h1:PG X e t)(h2:zJ X es u)
  (hs:(assignEach (e::es) X.env).map (·.2)=assign e X.env::(assignEach es X.env).map (·.2):=by rfl):zJ X (e::es) (tH t u):=by
 intro pins s σ H vs us Q I r h;obtain⟨v,vr,e1,h⟩:=h;subst e1
 cases r with
 | cons r rr=>
  rw[hs];refine assignInOrder_cons (cQ (h1 pins s σ H _ _ _ I r h) fun _ s1 ⟨σ1,H1,I1,q1⟩=>?_);exact h2 pins s1 σ1 H1 _ _ Q I1 rr q1
def Me (K:PySem.W.Frag)(n:Nat)(t:Ec):TG:=fun v σ H Q=>∃ a xs,v=.ref a/\iD K H a xs/\xs.length=n/\t xs σ H Q
theorem Di {es:List Expr}{k:Nat}{t:Ec}{n:Nat}(hc:X.calm=true)(h:zJ X es t)
  (hn:(assignEach es X.env).length=n:=by rfl) (hst:(assignEach es X.env).findIdx? (·.1)=none:=by rfl):PG X (.Tuple es k pos) (Me X.K n t):=by
 intro pins s σ H v u Q I r hw;obtain⟨a,xs,e1,hq,hl,hw⟩:=hw;subst e1
 cases r
 obtain⟨its,rv,ht,hz⟩:=I.tuple hq;refine assign_Tuple_tuple (I.ok.hd hc) ht (by simp[hn,<-hl,rv.length]) hst fun h' hx=>?_
 have I1:aN X pins σ H {s with heap:=h'}:=I.kept (t':=s.toks) fun b o e=>hx b o (Nat.ne_of_lt (Heap.lt_size e)) e;exact h pins _ σ H xs _ Q I1 (by simpa using rv) hw
def NS (to ti:TE)(t:HB):TG:=fun v σ H Q=>to σ H fun o H1=>ti σ H1 fun i H2=>t o i v H2 fun H3=>Q σ H3
theorem J4 {o i:Expr}{to ti:TE}{t:HB}(ho:PE X o to)(hi:PE X i ti)(hs:K9 X t)
  (ha:∀ v,assign (.Subscript o i pos) X.env v=(do
   let ov ← holding [v] (eval o X.env)
   let iv ← holding [v,ov] (eval i X.env)
   standAt pos
   holding [v,ov,iv] (setItem ov iv v)
   release [v,ov,iv] []):=by intro _;rfl):PG X (.Subscript o i pos) (NS to ti t):=by
 intro pins s σ H v u Q I r h;rw[ha];refine wpAny_bind (wpAny_holding (cQ (ho pins s σ H _ I h) fun ov s1 ⟨x,H1,I1,r1,q1⟩=>?_));refine wpAny_bind (wpAny_holding (cQ (hi pins s1 σ H1 _ I1 q1) fun iv s2 ⟨y,H2,I2,r2,q2⟩=>?_));refine wpAny_bind (wpAny_standAt (wpAny_bind (wpAny_holding (cQ (hs pins s2 σ H2 x y v ov iv u _ I2 r1 r2 r q2) fun _ s3 ⟨H3,I3,q3⟩=>?_))));exact wpAny_release ⟨σ,H3,I3,q3⟩
def GH (te:TE)(g:TG):TS:=fun D σ H=>te σ H fun x H1=>g x σ H1 D.nx
theorem vR {tg e:Expr}{te:TE}{g:TG}(he:PE X e te)(hg:PG X tg g)(hs:swapsWithSole [tg] e pos.line X.env=pure false:=by rfl)(hw:swappedStores [tg] e X.env=pure none:=by rfl)
  (h1:(assignEach [tg] X.env).map (·.2)=[assign tg X.env]:=by rfl):PS X (.Assign [tg] e pos) (GH te g):=by
 intro pins s σ H D I h;refine wpAny_Assign_stores (cQ (he pins s σ H _ I h) fun v s1 ⟨x,H1,I1,r1,q1⟩=>?_) hs hw;rw[h1];exact cQ (hg pins s1 σ H1 x v _ I1 r1 q1) fun _ s2 q=>q
theorem Dm {i:Nat}{x:Str}{e:Expr}{te:TE}{pos':Pos}(hN:X.N.Nodup)(hi:X.N[i]?=some x)(hx:Loc X.env.scope x)(he:PE X e te)(hs:swapsWith e (some (.Name x pos')) pos.line X.env=pure false:=by rfl)(hf:X.fn x=true\/X.env.scope.names.lookup x=some .local:=by first|exact .inl rfl|exact .inr rfl|assumption) :
  PS X (.Assign [.Name x pos'] e pos) (GH te (nD i)):=by
 intro pins s σ H D I h;refine wpAny_Assign_Name (cQ (he pins s σ H _ I h) fun v s1 ⟨y,H1,I1,r1,q1⟩=>?_) hs;exact kP I1 hN hi hx r1 (fun s2 I2=>⟨_,H1,I2,q1⟩) hf
def On (i j:Nat)(ta:TA):TS:=fun D σ H=>ta σ H fun vs H1=>∃ v w,vs=[v,w]/\D.nx ((σ.set i (some v)).set j (some w)) H1
theorem J9 {i j:Nat}{x y:Str}{a b:Expr}{ta:TA}{px py pt:Pos}{kt k2 pt2}(hc:X.calm=true)(hN:X.N.Nodup)(hi:X.N[i]?=some x)(hj:X.N[j]?=some y)(hij:i≠j)
  (hx:X.env.scope.names.lookup x=some .local) (hy:X.env.scope.names.lookup y=some .local) (ha:PA X [a,b] ta)
  (hw:swappedStores [.Tuple [.Name x px,.Name y py] kt pt] (.Tuple [a,b] k2 pt2) X.env=pure (some [x,y]))
  (hs:swapsWithSole [.Tuple [.Name x px,.Name y py] kt pt] (.Tuple [a,b] k2 pt2) pos.line X.env=pure false:=by rfl) :
  PS X (.Assign [.Tuple [.Name x px,.Name y py] kt pt] (.Tuple [a,b] k2 pt2) pos) (On i j ta):=by
 intro pins s σ H D I h;rw[exec_Assign_arm];refine wpAny_bind (wpAny_standAt ?_);rw[hs];refine wpAny_bind (wpAny_pure ?_);rw[if_neg (by decide)]
 refine wpAny_bind (Tuple_ (cQ (ha _ pins s σ H _ I h) fun us s1 ⟨vs,H1,I1,r1,q1⟩=>?_));obtain⟨v,w,e1,q1⟩:=q1;subst e1;obtain⟨u1,u2,rfl,rv,rw'⟩:∃ u1 u2,us=[u1,u2]/\RelV v u1/\RelV w u2:=by
  cases r1 with
  | cons p q=>
   cases q with
   | cons p' q'=>
    cases q'
    exact⟨_,_,rfl,p,p'⟩
 refine wpAny_newObj_type ?_ (by show 2<=sizeLine;decide)
 have I2:aN X pins σ H1 {s1 with heap:=s1.heap.push {cls:=.type "tuple",data:=.seq [u1,u2].toArray}}:=I1.kept (t':=s1.toks) fun b o e=>Heap.get?_push_of_some _ e;rw[hw];refine wpAny_bind (wpAny_pure ?_);show wpAny (model X.prog X.w) X.A (do rule "assign.swapped-stores";let items ← unpackItems (.ref s1.heap.objs.size) 2 none;assignInOrder [fun v=>bindName X.env y v,fun v=>bindName X.env x v] items.reverse;pure Flow.next) _ _ _
 refine wpAny_bind (wpAny_rule (wpAny_bind (unpackItems_tuple (items:=#[u1,u2]) (I.ok.hd hc) (IsTup.new s1.heap _) fun h' hx'=>?_)));have I3:=I2.kept (h':=h') (t':=s1.toks) fun b o e=>hx' b o (Nat.ne_of_lt (Heap.lt_size e)) e;show wpAny _ _ (assignInOrder [fun v=>bindName X.env y v,fun v=>bindName X.env x v] [u2,u1] >>= fun _=>pure Flow.next) _ _ _;refine wpAny_bind (assignInOrder_cons (wpAny_bindName (kP I3 hN hj (.inl hy) rw' (fun s2 I4=>?_) (.inr hy))));refine assignInOrder_cons (wpAny_bindName (kP I4 hN hi (.inl hx) rv (fun s3 I5=>assignInOrder_nil (wpAny_pure ?_)) (.inr hx)));rw[List.set_comm _ _ (Ne.symm hij)]at I5;exact⟨_,H1,I5,q1⟩
end
section
variable {X:Cx}{pos:Pos}
def Ky (c:TT)(tb:TS):TS:=fun D σ H=>∃ W:Nat->St->Hp->Prop,(∃ m,W m σ H)/\∀ m σ H,W m σ H →
 c σ H fun b H1=>if b=true then ∃ N:St->Hp->Prop,(∀ σ' H',N σ' H'->∃ m',m'<m/\W m' σ' H')/\tb {D with nx:=N,ct:=N,bk:=D.nx} σ H1 else D.nx σ H1
theorem Do {c:Expr}{body:List Stmt}{tc:TT}{tb:TS}(hp:PassesOwn (model X.prog X.w) X.A X.env X.xe)(hc:PT X c tc)(hb:gS X body tb):PS X (.While c body [] pos) (Ky tc tb):=by
 intro pins s σ H D I h;obtain⟨W,⟨m0,w0⟩,turn⟩:=h;refine wpAny_While (codeAny_whileLoop (fun n s'=>∃ σ' H',aN X pins σ' H' s'/\W n σ' H') ?_ m0 ⟨σ,H,I,w0⟩);rintro n s1 ⟨σ1,H1,I1,w1⟩;refine wpAny_passesOwn hp (cQ (hc pins s1 σ1 H1 _ I1 (turn n σ1 H1 w1)) fun b s2 ⟨H2,I2,q2⟩=>?_)
 cases b with
 | true=>
  obtain⟨N,hN,q2⟩:=q2;rw[if_pos rfl];refine wpAny_passesOwn hp (cQ (hb pins s2 σ1 H2 _ I2 q2) fun f s3 q3=>?_)
  cases f with
  | next=>
   obtain⟨σ3,H3,I3,n3⟩:=q3;obtain⟨m',hm,w3⟩:=hN σ3 H3 n3;exact⟨m',hm,σ3,H3,I3,w3⟩
  | cont=>
   obtain⟨σ3,H3,I3,n3⟩:=q3;obtain⟨m',hm,w3⟩:=hN σ3 H3 n3;exact⟨m',hm,σ3,H3,I3,w3⟩
  | brk=>exact q3
  | ret v=>exact q3
 | false=>
  rw[if_neg Bool.false_ne_true];exact wpAny_execs_nil ⟨σ1,H2,I2,q2⟩
end
structure It where
 go:Nat->Hp->Prop
 yld:Nat->Hp->V->Hp->Prop
 stop:Nat->Hp->Prop
def mR (X:Cx)(pins:List (Addr × Obj))(H:Hp)(b:Addr):Prop:=
 H b=none/\b≠X.env.locals/\b∉X.fs/\(b∈X.ex\/X.s₀.heap.objs.size<=b)/\(∀ x c,X.env.cells.lookup x=some c->c≠b)/\∀ p∈X.pn++pins,p.1≠b
theorem aN.fpOk {X:Cx}{pins:List (Addr × Obj)}{σ:St}{H H':Hp}{s:Shared}{b:Addr}(I:aN X pins σ H s)(hb:s.heap.objs.size<=b)(hn:H' b=none):mR X pins H' b:=by
 refine⟨hn,Nat.ne_of_gt (Nat.lt_of_lt_of_le I.lt hb),I.nofs hb,.inr (Nat.le_trans I.sz hb),fun x c e z=>?_,fun p hp z=>?_⟩
 ·obtain⟨v,q⟩:=I.cell x c e;exact absurd (Nat.lt_of_lt_of_le q.lt (by rw[z];exact hb)) (Nat.lt_irrefl _)
 ·exact absurd (Nat.lt_of_lt_of_le (Heap.lt_size (I.pin p hp).1) (by rw[z];exact hb)) (Nat.lt_irrefl _)
structure Turn (P:Program) (w:World) (K:PySem.W.Frag) (tg:Expr) (J:It) (fp:List Addr) (it:Addr) (tn:Nat->Heap->Prop):Prop where
 mem:it∈fp
 obj:∀ i h,tn i h->∀ b∈fp,∃ o,h.get? b=some o/\∀ v,o.data≠.cell v
 keep:∀ i h h',tn i h->(∀ b∈fp,∀ o,h.get? b=some o->h'.get? b=some o)->tn i h'
 item:∀ (X:Cx),X.prog=P->X.w=w->X.K=K->X.calm=true->∀ (i:Nat) (pins:List (Addr × Obj)) (s:Shared) (σ:St) (H:Hp) (E:Value->Shared->Prop),aN X pins σ H s->(∀ b∈fp,mR X pins H b)->tn i s.heap->J.go i H →
  wpAny (model P w) X.A (pyNext (.ref it)) (fun r s1=>∃ u,r=some u ∧
   wpAny (model P w) X.A (letOwnedTupleGo tg (.ref it) u) (fun _ s2=>∃ x H',aN X pins σ H' s2/\RelV x u/\J.yld i H x H'/\tn (i+1) s2.heap/\∀ b∈fp,H' b=none) E s1) E s
 done:∀ (X:Cx),X.prog=P->X.w=w->X.K=K->X.calm=true->∀ (i:Nat) (pins:List (Addr × Obj)) (s:Shared) (σ:St) (H:Hp) (E:Value->Shared->Prop),aN X pins σ H s->(∀ b∈fp,mR X pins H b)->tn i s.heap->J.stop i H →
  wpAny (model P w) X.A (pyNext (.ref it)) (fun r s1=>r=none/\aN X pins σ H s1) E s
 self:∀ (A:Around) (i:Nat) (s:Shared) (Q:Value->Shared->Prop) (E:Value->Shared->Prop),tn i s.heap->Q (.ref it) s->wpAny (model P w) A (pyIter (.ref it)) Q E s
abbrev TI:=St->Hp->(It->Hp->Prop)->Prop
def OD (X:Cx)(pins:List (Addr × Obj))(σ:St)(tg:Expr)(R:It->Hp->Prop)(itv:Value)(s2:Shared):Prop:=
 ∃ (it:Addr) (fp:List Addr) (tn:Nat->Heap->Prop) (J:It) (H':Hp),itv=.ref it/\aN X pins σ H' s2/\Turn X.prog X.w X.K tg J fp it tn/\tn 0 s2.heap/\(∀ b∈fp,mR X pins H' b)/\R J H'
def PI (X:Cx)(tg iter:Expr)(wi:TI):Prop:=
 ∀ (pins:List (Addr × Obj)) (s:Shared) (σ:St) (H:Hp) (R:It->Hp->Prop),aN X pins σ H s->wi σ H R →
  wpAny (model X.prog X.w) X.A (eval iter X.env) (fun v s1=>wpAny (model X.prog X.w) X.A (pyIter v) (OD X pins σ tg R) X.xe s1) X.xe s
theorem Bt {M:Model}{A:Around}{E:Value->Shared->Prop}{s:Shared}{tg:Expr}{it:Addr}{u:Value}{o:Obj}{n:String}{vs:Array Value}{Q:Unit->Shared->Prop}(ho:s.heap.get? it=some o)(hc:o.cls=.type n)(hd:o.data=.fields vs)
  (hn:["enumerate","zip","dict_itemiterator","dict_reverseitemiterator","odict_iterator","itertools.zip_longest","itertools.pairwise"].contains n=false) (hQ:Q () s):wpAny M A (letOwnedTupleGo tg (.ref it) u) Q E s:=by
 unfold letOwnedTupleGo
 cases tg <;> first
  | exact wpAny_pure hQ
  | (cases u <;> first
    | exact wpAny_pure hQ
    | (
      refine wpAny_bind (wpAny_load ho ?_);rw[hc,hd];show wpAny M A (if (["enumerate","zip","dict_itemiterator","dict_reverseitemiterator","odict_iterator","itertools.zip_longest","itertools.pairwise"].contains n && vs[0]? == some (rawInt _))=true then _ else _) Q E s
      rw[if_neg (by intro h;rw[hn,Bool.false_and]at h;cases h)]
      exact wpAny_pure hQ))
def Nv (K:PySem.W.Frag)(a:Addr):It:=
 ⟨fun i H=>∃ xs x,cD K H a xs/\xs[i]?=some x,fun i H x H'=>H'=H/\∀ xs,cD K H a xs->xs[i]?=some x,fun i H=>∃ xs,cD K H a xs/\xs.length<=i⟩
def Nw (K:PySem.W.Frag)(a:Addr):It:=
 ⟨fun i H=>∃ xs x,iD K H a xs/\xs[i]?=some x,fun i H x H'=>H'=H/\∀ xs,iD K H a xs->xs[i]?=some x,fun i H=>∃ xs,iD K H a xs/\xs.length<=i⟩
def Na (lo:Int)(n:Nat):It:=⟨fun i _=>i<n,fun i H x H'=>H'=H/\x=.int (lo+i),fun i _=>n<=i⟩
theorem zo {P:Program}{w:World}{K:PySem.W.Frag}{tg:Expr}(a it:Addr):Turn P w K tg (Nv K a) [it] it (fun i h=>h.IsListIter it a i) where
 mem:=by simp
 obj:=fun i h st b hb=>by
  have e:b=it:=by simpa using hb
  subst e;obtain⟨o,e,c,d⟩:=st;exact⟨o,e,fun v z=>by rw[d]at z;cases z⟩
 keep:=fun i h h' st k=>st.at fun o e=>k it (by simp) o e
 item:=by
  intro X hP hw hK hc i pins s σ H E I hf st hg;subst hP hw hK;obtain⟨xs,x,hq,hx⟩:=hg;obtain⟨its,rv,p,hz⟩:=I.list hq;obtain⟨u,hu,ru⟩:=rv.get hx;obtain⟨f0,f1,f2,f3,f4,f5⟩:=hf it (by simp)
  refine wpAny_pyNext_list_item st p.isList (x:=u) (by simpa using hu) fun h' st' sb=>?_
  have I1:aN X pins σ H {s with heap:=h'}:=I.turned (t':=s.toks) (fun b o hb e=>(sb.2 b hb).trans e) f0 f1 f3 f4 f5;obtain⟨o,e,c,d⟩:=id st';exact⟨u,rfl,Bt (s:={s with heap:=h'}) e c d (by decide) ⟨x,H,I1,ru,⟨rfl,fun ys hy=>by rw[I.list_inj hy hq];exact hx⟩,st',fun b hb=>(hf b hb).1⟩⟩
 done:=by
  intro X hP hw hK hc i pins s σ H E I hf st hg;subst hP hw hK;obtain⟨xs,hq,hx⟩:=hg;obtain⟨its,rv,p,hz⟩:=I.list hq;obtain⟨f0,f1,f2,f3,f4,f5⟩:=hf it (by simp)
  have hl:=rv.length;exact wpAny_pyNext_list_end (I.ok.hd hc) st p.isList (by simp;omega) fun h' eb=>⟨rfl,I.turned (t':=s.toks) (fun b o hb e=>eb b o hb e) f0 f1 f3 f4 f5⟩
 self:=fun _ _ _ _ _ st h=>wpAny_pyIter_listiter st h
theorem wf {P:Program}{w:World}{K:PySem.W.Frag}{tg:Expr}(a it:Addr):Turn P w K tg (Nw K a) [it] it (fun i h=>h.IsTupleIter it a i) where
 mem:=by simp
 obj:=fun i h st b hb=>by
  have e:b=it:=by simpa using hb
  subst e;obtain⟨o,e,c,d⟩:=st;exact⟨o,e,fun v z=>by rw[d]at z;cases z⟩
 keep:=fun i h h' st k=>st.at fun o e=>k it (by simp) o e
 item:=by
  intro X hP hw hK hc i pins s σ H E I hf st hg;subst hP hw hK;obtain⟨xs,x,hq,hx⟩:=hg;obtain⟨its,rv,p,hz⟩:=I.tuple hq;obtain⟨u,hu,ru⟩:=rv.get hx;obtain⟨f0,f1,f2,f3,f4,f5⟩:=hf it (by simp)
  refine wpAny_pyNext_tuple_item st (show s.heap.IsTuple a its.toArray from p) (x:=u) (by simpa using hu) fun h' st' sb=>?_
  have I1:aN X pins σ H {s with heap:=h'}:=I.turned (t':=s.toks) (fun b o hb e=>(sb.2 b hb).trans e) f0 f1 f3 f4 f5;obtain⟨o,e,c,d⟩:=id st';exact⟨u,rfl,Bt (s:={s with heap:=h'}) e c d (by decide) ⟨x,H,I1,ru,⟨rfl,fun ys hy=>by rw[I.tuple_inj hy hq];exact hx⟩,st',fun b hb=>(hf b hb).1⟩⟩
 done:=by
  intro X hP hw hK hc i pins s σ H E I hf st hg;subst hP hw hK;obtain⟨xs,hq,hx⟩:=hg;obtain⟨its,rv,p,hz⟩:=I.tuple hq;obtain⟨f0,f1,f2,f3,f4,f5⟩:=hf it (by simp)
  have hl:=rv.length;exact wpAny_pyNext_tuple_end (I.ok.hd hc) st (show s.heap.IsTuple a its.toArray from p) (by simp;omega) fun h' eb=>⟨rfl,I.turned (t':=s.toks) (fun b o hb e=>eb b o hb e) f0 f1 f3 f4 f5⟩
 self:=fun _ _ _ _ _ st h=>wpAny_pyIter_tupleiter st h
theorem v9 {P:Program}{w:World}{K:PySem.W.Frag}{tg:Expr}(it:Addr)(lo:Int)(n:Nat):Turn P w K tg (Na lo n) [it] it (fun i h=>IsRangeIter h it (lo+(i:Nat)*1) ((n:Int)-(i:Nat)) 1) where
 mem:=by simp
 obj:=fun i h st b hb=>by
  have e:b=it:=by simpa using hb
  subst e;exact⟨_,st,fun v z=>by
   have z':Data.fields _=Data.cell v:=z
   cases z'⟩
 keep:=fun i h h' st k=>k it (by simp) _ st
 item:=by
  intro X hP hw hK hc i pins s σ H E I hf st hg;subst hP hw hK;obtain⟨f0,f1,f2,f3,f4,f5⟩:=hf it (by simp)
  have W:=Walks.range (prog:=X.prog) (w:=X.w) (I.ok.hd hc) it lo 1 n;refine W.item i s _ _ hg st fun v h' tk hv st' kk=>?_;obtain⟨t,rfl⟩:=hv;have I1:aN X pins σ H {s with heap:=h',toks:=tk}:=I.turned (fun b o hb e=>kk b o (by simpa using hb) e) f0 f1 f3 f4 f5
  refine⟨_,rfl,Bt (s:={s with heap:=h',toks:=tk}) (n:="range_iterator") st' rfl rfl (by decide) ⟨.int (lo+i),H,I1,⟨t,?_⟩,⟨rfl,rfl⟩,st',fun b hb=>(hf b hb).1⟩⟩
  rw[Int.mul_one]
 done:=by
  intro X hP hw hK hc i pins s σ H E I hf st hg;subst hP hw hK;obtain⟨f0,f1,f2,f3,f4,f5⟩:=hf it (by simp)
  exact wpAny_pyNext_range_end (I.ok.hd hc) st (by have:n<=i:=hg;omega) fun h' eb=>⟨rfl,I.turned (t':=s.toks) (fun b o hb e=>eb b o hb e) f0 f1 f3 f4 f5⟩
 self:=fun _ _ _ _ _ st h=>wpAny_pyIter_rangeiter st h
end L2
namespace L2
open PySem PySem.Spec PyProof.Rows
section
variable {X:Cx}{tg:Expr}
def Ml (K:PySem.W.Frag)(tl:TE):TI:=fun σ H R=>tl σ H fun x H1=>∃ a,x=.ref a/\(∃ xs,cD K H1 a xs)/\R (Nv K a) H1
def NY (K:PySem.W.Frag)(tl:TE):TI:=fun σ H R=>tl σ H fun x H1=>∃ a,x=.ref a/\(∃ xs,iD K H1 a xs)/\R (Nw K a) H1
theorem F7 {l:Expr}{tl:TE}(hl:PE X l tl):PI X tg l (Ml X.K tl):=by
 intro pins s σ H R I h;refine cQ (hl pins s σ H _ I h) fun v s1 ⟨x,H1,I1,r1,q1⟩=>?_;obtain⟨a,e,⟨xs,hq⟩,q⟩:=q1;subst e
 cases r1
 obtain⟨its,rv,p,hz⟩:=I1.list hq;refine wpAny_pyIter_list p.isList ?_;refine⟨s1.heap.objs.size,[s1.heap.objs.size],_,_,H1,rfl,I1.kept (t':=s1.toks) fun b o e=>Heap.get?_push_of_some _ e,zo a _,⟨_,Heap.get?_push_size _ rfl,rfl,rfl⟩,fun b hb=>?_,q⟩;have e:b=s1.heap.objs.size:=by simpa using hb
 subst e;exact I1.fpOk (Nat.le_refl _) (I1.hok.fresh (Nat.le_refl _))
theorem J5 {l:Expr}{tl:TE}(hl:PE X l tl):PI X tg l (NY X.K tl):=by
 intro pins s σ H R I h;refine cQ (hl pins s σ H _ I h) fun v s1 ⟨x,H1,I1,r1,q1⟩=>?_;obtain⟨a,e,⟨xs,hq⟩,q⟩:=q1;subst e
 cases r1
 obtain⟨its,rv,p,hz⟩:=I1.tuple hq;refine wpAny_pyIter_tuple (show s1.heap.IsTuple a its.toArray from p) ?_;refine⟨s1.heap.objs.size,[s1.heap.objs.size],_,_,H1,rfl,I1.kept (t':=s1.toks) fun b o e=>Heap.get?_push_of_some _ e,wf a _,⟨_,Heap.get?_push_size _ rfl,rfl,rfl⟩,fun b hb=>?_,q⟩;have e:b=s1.heap.objs.size:=by simpa using hb
 subst e;exact I1.fpOk (Nat.le_refl _) (I1.hok.fresh (Nat.le_refl _))
theorem Ds {pins:List (Addr × Obj)}{σ:St}{H:Hp}{s:Shared}{R:It->Hp->Prop}{E:Value->Shared->Prop}{lo hi:Int}{t u v:Tok}{tk:Nat}(I:aN X pins σ H s)(h1:-(2 ^ 62)<=lo)(h2:lo<2 ^ 62)(h3:-(2 ^ 62)<=hi)(h4:hi<2 ^ 62)
  (q:R (Na lo (hi-lo).toNat) H):wpAny (model X.prog X.w) X.A (pyIter (.ref s.heap.objs.size)) (OD X pins σ tg R) E {s with heap:=s.heap.push {cls:=.type "range",data:=.fields #[.int lo t,.int hi u,.int 1 v]},toks:=tk}:=by
 refine wpAny_pyIter_range (IsRange.new ..) (small_one h1 h2 h3 h4) ?_;have I1:aN X pins σ H {s with heap:=s.heap.push {cls:=.type "range",data:=.fields #[.int lo t,.int hi u,.int 1 v]},toks:=tk}:=I.kept fun b o e=>Heap.get?_push_of_some _ e;refine⟨(s.heap.push {cls:=.type "range",data:=.fields #[.int lo t,.int hi u,.int 1 v]}).objs.size,[(s.heap.push {cls:=.type "range",data:=.fields #[.int lo t,.int hi u,.int 1 v]}).objs.size],_,_,H,rfl,
  I1.kept (t':=tk) fun b o e=>Heap.get?_push_of_some _ e,v9 _ lo (hi-lo).toNat,?_,fun b hb=>?_,q⟩
 ·have e1:lo+((0:Nat):Int)*1=lo:=by simp
  have e2:(((hi-lo).toNat:Nat):Int)-((0:Nat):Int)=Builtin.Range.rangeSize lo hi 1:=by rw[rangeSize_one];split <;> omega
  show IsRangeIter _ _ (lo+((0:Nat):Int)*1) ((((hi-lo).toNat:Nat):Int)-((0:Nat):Int)) 1;rw[e1,e2];exact Heap.get?_push_size _ rfl
 ·have e:b=(s.heap.push {cls:=.type "range",data:=.fields #[.int lo t,.int hi u,.int 1 v]}).objs.size:=by simpa using hb
  subst e;exact I1.fpOk (Nat.le_refl _) (I1.hok.fresh (Nat.le_refl _))
def Mm (ta:TA):TI:=fun σ H R=>ta σ H fun vs H1=>∃ j:Int,vs=[.int j]/\-(2 ^ 62)<=j/\j<2 ^ 62/\R (Na 0 j.toNat) H1
theorem ze {a:Expr}{ta:TA}{p pos:Pos} (hg:Gl X "range") (hm:X.mg "range"=none) (ha:PA X [a] ta) (hs:starEach [a] X.env=[(false,eval a X.env)]:=by rfl):PI X tg (.Call (.Name "range" p) [a] [] pos) (Mm ta):=by
 intro pins s σ H R I h;refine Call_ (jV I hg hm boot_range (PyProof.Rows.callWith_type1 (cQ (ha pos pins s σ H _ I h) fun us s1 ⟨vs,H1,I1,r1,q1⟩=>?_) hs rfl));obtain⟨j,e,q1,q2,q⟩:=q1;subst e
 cases r1 with
 | cons r rr=>
  cases rr
  obtain⟨t,rfl⟩:=r;exact call_range_1 (Ds I1 (by omega) (by omega) q1 q2 (by simpa using q))
def Oh (wi:TI)(g:TG)(tb:TS):TS:=fun D σ H=>wi σ H fun J H1=>∃ W:Nat->Nat->St->Hp->Prop,(∃ m,W 0 m σ H1)/\∀ i m σ H,W i m σ H →
 (J.stop i H/\D.nx σ H)\/(J.go i H/\∃ N:St->Hp->Prop,(∀ σ' H',N σ' H'->∃ m',m'<m/\W (i+1) m' σ' H')/\∀ x H',J.yld i H x H'->g x σ H' fun σ2 H2=>tb {D with nx:=N,ct:=N,bk:=D.nx} σ2 H2)
def nV (fp:List Addr)(h:Heap):List (Addr × Obj):=fp.filterMap fun b=>(h.get? b).map fun o=>(b,o)
theorem hW {fp:List Addr}{h:Heap}{b:Addr}{o:Obj}(hb:b∈fp)(e:h.get? b=some o):(b,o)∈nV fp h:=List.mem_filterMap.mpr ⟨b,hb,by rw[e];rfl⟩
theorem yP {fp:List Addr}{h:Heap}{p:Addr × Obj}(hp:p∈nV fp h):p.1∈fp/\h.get? p.1=some p.2:=by
 obtain⟨b,hb,e⟩:=List.mem_filterMap.mp hp
 cases q:h.get? b with
 | none=>rw[q]at e;cases e
 | some o=>
  rw[q]at e;have e':(b,o)=p:=Option.some.inj e;subst e';exact⟨hb,q⟩
theorem aN.pinned {pins:List (Addr × Obj)}{σ:St}{H:Hp}{s:Shared}{fp:List Addr}(I:aN X pins σ H s)(hf:∀ b∈fp,mR X pins H b)(ho:∀ b∈fp,∃ o,s.heap.get? b=some o/\∀ v,o.data≠.cell v):aN X (pins++nV fp s.heap) σ H s:=
 I.pins_of fun p hp=>(List.mem_append.mp hp).elim (fun z=>I.pin p (List.mem_append_right _ z)) fun z=>by
  obtain⟨hb,e⟩:=yP z;obtain⟨f0,f1,f2,_⟩:=hf p.1 hb;obtain⟨o,e',d⟩:=ho p.1 hb;rw[e]at e';cases e'
  exact⟨e,f0,f1,f2,d⟩
theorem aN.unpinned {pins pl:List (Addr × Obj)}{σ:St}{H:Hp}{s:Shared}(I:aN X (pins++pl) σ H s):aN X pins σ H s:=I.pins_of fun p hp=>I.pin p (List.mem_append_right _ (List.mem_append_left _ hp))
theorem J8 {iter:Expr}{body:List Stmt}{wi:TI}{g:TG}{tb:TS}{pos:Pos}(hp:PassesOwn (model X.prog X.w) X.A X.env X.xe)(hc:X.calm=true)(hi:PI X tg iter wi)(hg:PG X tg g)(hb:gS X body tb)
  (hs:∀ x,foldedSetIterable iter X.env x=pure x:=by intro _;rfl):PS X (.For tg iter body [] pos) (Oh wi g tb):=by
 intro pins s σ H D I h;refine wpAny_For (cQ (hi pins s σ H _ I h) fun v s1 h1=>cQ h1 fun itv s2 h2=>?_) hs;obtain⟨it,fp,tn,J,H2,e,I2,T,st2,f2,W,⟨m0,w0⟩,turn⟩:=h2;subst e;have stat:∀ {H':Hp},(∀ b∈fp,H' b=none)->∀ b∈fp,mR X pins H' b:=fun hn b hb=>⟨hn b hb,(f2 b hb).2⟩;refine codeAny_forLoop_any (fun n s'=>∃ i σ' H',aN X pins σ' H' s'/\tn i s'.heap/\(∀ b∈fp,H' b=none)/\W i n σ' H') ?_ m0 ⟨0,σ,H2,I2,st2,fun b hb=>(f2 b hb).1,w0⟩;rintro n s3 ⟨i,σ3,H3,I3,st3,fr3,w3⟩
 rcases turn i n σ3 H3 w3 with ⟨stop,qn⟩|⟨go,N,hN,step⟩
 ·refine wpAny_passesOwn hp (cQ (T.done X rfl rfl rfl hc i pins s3 σ3 H3 X.xe I3 (stat fr3) st3 stop) fun r s4 ⟨hr,I4⟩=>?_);subst hr;exact wpAny_execs_nil ⟨σ3,H3,I4,qn⟩
 ·refine wpAny_passesOwn hp (cQ (T.item X rfl rfl rfl hc i pins s3 σ3 H3 X.xe I3 (stat fr3) st3 go) fun r s4 ⟨u,hr,h4⟩=>?_);subst hr;refine wpAny_passesOwn hp (cQ h4 fun _ s5 ⟨x,H5,I5,r5,y5,st5,fr5⟩=>?_);have I5':=I5.pinned (stat fr5) (T.obj _ _ st5);refine wpAny_passesOwn hp (cQ (hg _ s5 σ3 H5 x u _ I5' r5 (step x H5 y5)) fun _ s6 ⟨σ6,H6,I6,q6⟩=>?_);refine wpAny_passesOwn hp (cQ (hb _ s6 σ6 H6 _ I6 q6) fun f s7 q7=>?_);have again:∀ {σ7:St}{H7:Hp},aN X (pins++nV fp s5.heap) σ7 H7 s7->N σ7 H7->∃ m,m<n/\∃ i σ' H',aN X pins σ' H' s7/\tn i s7.heap/\(∀ b∈fp,H' b=none)/\W i m σ' H':=fun {σ7 H7} I7 n7=>by
   obtain⟨m',hm,w7⟩:=hN σ7 H7 n7;refine⟨m',hm,i+1,σ7,H7,I7.unpinned,T.keep _ _ _ st5 fun b hb o e=>(I7.pin (b,o) (List.mem_append_right _ (List.mem_append_right _ (hW hb e)))).1,fun b hb=>?_,w7⟩;obtain⟨o,e,d⟩:=T.obj _ _ st5 b hb;exact(I7.pin (b,o) (List.mem_append_right _ (List.mem_append_right _ (hW hb e)))).2.1
  cases f with
  | next=>obtain⟨σ7,H7,I7,n7⟩:=q7;exact again I7 n7
  | cont=>obtain⟨σ7,H7,I7,n7⟩:=q7;exact again I7 n7
  | brk=>obtain⟨σ7,H7,I7,q7⟩:=q7;exact⟨σ7,H7,I7.unpinned,q7⟩
  | ret v=>obtain⟨x7,σ7,H7,I7,r7,q7⟩:=q7;exact⟨x7,σ7,H7,I7.unpinned,r7,q7⟩
end
end L2
namespace L2
open PySem PySem.Spec PyProof.Rows
abbrev R2:=V->V->Hp->VK->Prop
def lg (X:Cx)(f:Value->Value->Sem Value)(r:R2):Prop:=
 ∀ (pins:List (Addr × Obj)) (s:Shared) (σ:St) (H:Hp) (x y:V) (v u:Value) (Q:VK),aN X pins σ H s->RelV x v->RelV y u->r x y H Q →
  wpAny (model X.prog X.w) X.A (f v u) (EP X pins σ Q) X.xe s
def ND (X:Cx)(f:Value->Sem Value)(r:V->Hp->VK->Prop):Prop:=
 ∀ (pins:List (Addr × Obj)) (s:Shared) (σ:St) (H:Hp) (x:V) (v:Value) (Q:VK),aN X pins σ H s->RelV x v->r x H Q →
  wpAny (model X.prog X.w) X.A (f v) (EP X pins σ Q) X.xe s
def eW (X:Cx)(f:Value)(r:List V->Hp->VK->Prop):Prop:=
 ∀ (pins:List (Addr × Obj)) (s:Shared) (σ:St) (H:Hp) (xs:List V) (us:List Value) (Q:VK),aN X pins σ H s->aT xs us->r xs H Q →
  wpAny (model X.prog X.w) X.A (call f us) (EP X pins σ Q) X.xe s
def Kx (r:R2)(ta tb:TE):TE:=fun σ H Q=>ta σ H fun x H1=>tb σ H1 fun y H2=>r x y H2 Q
def O5 (r:V->Hp->VK->Prop)(ta:TE):TE:=fun σ H Q=>ta σ H fun x H1=>r x H1 Q
def rI (C:Int->Int->Prop)(g:Int->Int->V):R2:=fun x y H Q=>∃ i j,x=.int i/\y=.int j/\C i j/\Q (g i j) H
def Hh (g:Int->Int->V):R2:=fun x y H Q=>∃ i j,x=.int i/\y=.int j/\Q (g i j) H
def rU (g:Int->V):V->Hp->VK->Prop:=fun x H Q=>∃ i,x=.int i/\Q (g i) H
section
variable {X:Cx}{a b c:Expr}{ta tb tc:TE}{pos:Pos}
theorem Iv (ha:PE X a ta)(hb:PE X b tb){pins:List (Addr × Obj)}{s:Shared}{σ:St}{H:Hp}{R:V->V->Hp->Prop}(I:aN X pins σ H s)
  (h:ta σ H fun x H1=>tb σ H1 fun y H2=>R x y H2) {Q:Value->Shared->Prop}{f:Value->Value->Sem Value}
  (hf:∀ v u s2 x y H2,aN X pins σ H2 s2->RelV x v->RelV y u->R x y H2->wpAny (model X.prog X.w) X.A (f v u) Q X.xe s2) :
  wpAny (model X.prog X.w) X.A (eval a X.env) (fun v s₁=>wpAny (model X.prog X.w) X.A (eval b X.env) (fun u s₂=>wpAny (model X.prog X.w) X.A (f v u) Q X.xe s₂) X.xe s₁) X.xe s:=by
 refine cQ (ha pins s σ H _ I h) fun v s1 ⟨x,H1,I1,r1,q1⟩=>?_;refine cQ (hb pins s1 σ H1 _ I1 q1) fun u s2 ⟨y,H2,I2,r2,q2⟩=>?_;exact hf v u s2 x y H2 I2 r1 r2 q2
theorem nU {op:Operator}{r:R2}(ho:lg X (binaryOp op) r)(ha:PE X a ta)(hb:PE X b tb):PE X (.BinOp a op b pos) (Kx r ta tb):=by
 intro pins s σ H Q I h;exact wpAny_BinOp (Iv ha hb I h fun v u s2 x y H2 I2 rx ry q=>ho pins s2 σ H2 x y v u Q I2 rx ry q)
theorem MB {op:UnaryOp}{r:V->Hp->VK->Prop}(ho:ND X (unaryOp op) r)(ha:PE X a ta):PE X (.UnaryOp op a pos) (O5 r ta):=by
 intro pins s σ H Q I h;exact UnaryOp_ (cQ (ha pins s σ H _ I h) fun v s1 ⟨x,H1,I1,r1,q1⟩=>ho pins s1 σ H1 x v Q I1 r1 q1)
theorem Nn {f:Value->Value->Sem Value}{C:Int->Int->Prop}{g:Int->Int->Int}
  (rule:∀ (i j:Int) (t u:Tok) (s:Shared) (Q:Value->Shared->Prop) (E:Value->Shared->Prop),C i j->Q (.int (g i j) s.toks) {s with toks:=s.toks+1}->wpAny (model X.prog X.w) X.A (f (.int i t) (.int j u)) Q E s) :
  lg X f (rI C fun i j=>.int (g i j)):=by
 intro pins s σ H x y v u Q I rx ry h;obtain⟨i,j,rfl,rfl,hc,q⟩:=h;obtain⟨t,rfl⟩:=rx;obtain⟨t',rfl⟩:=ry;exact rule i j t t' s _ _ hc ⟨.int (g i j),H,I.tok _,⟨_,rfl⟩,q⟩
theorem Mv {f:Value->Value->Sem Value}{g:Int->Int->Int}
  (rule:∀ (i j:Int) (t u:Tok) (s:Shared) (Q:Value->Shared->Prop) (E:Value->Shared->Prop),Q (.int (g i j) s.toks) {s with toks:=s.toks+1}->wpAny (model X.prog X.w) X.A (f (.int i t) (.int j u)) Q E s) :
  lg X f (Hh fun i j=>.int (g i j)):=by
 intro pins s σ H x y v u Q I rx ry h;obtain⟨i,j,rfl,rfl,q⟩:=h;obtain⟨t,rfl⟩:=rx;obtain⟨t',rfl⟩:=ry;exact rule i j t t' s _ _ ⟨.int (g i j),H,I.tok _,⟨_,rfl⟩,q⟩
theorem JN {f:Value->Value->Sem Value}{g:Int->Int->Bool}
  (rule:∀ (i j:Int) (t u:Tok) (s:Shared) (Q:Value->Shared->Prop) (E:Value->Shared->Prop),Q (.bool (g i j)) s->wpAny (model X.prog X.w) X.A (f (.int i t) (.int j u)) Q E s) :
  lg X f (Hh fun i j=>.bl (g i j)):=by
 intro pins s σ H x y v u Q I rx ry h;obtain⟨i,j,rfl,rfl,q⟩:=h;obtain⟨t,rfl⟩:=rx;obtain⟨t',rfl⟩:=ry;exact rule i j t t' s _ _ ⟨.bl (g i j),H,I,rfl,q⟩
def K4 (i j:Int):Prop:=0<=j/\j<=1000000/\i.natAbs<2 ^ 64
def D1 (i j:Int):Prop:=(-(2 ^ 64)<i/\i<2 ^ 64)\/(-(2 ^ 64)<j/\j<2 ^ 64)
theorem D1.ok {i j:Int}(h:D1 i j):IntMulOk i j:=by
 rcases h with ⟨h1,h2⟩|⟨h1,h2⟩
 ·exact .of_left (intBits_le_64 h1 h2)
 ·exact .of_right (intBits_le_64 h1 h2)
theorem JO:lg X (binaryOp .Add) (Hh fun i j=>.int (i+j)):=Mv fun _ _ _ _ _ _ _ q=>add_int q
theorem JS:lg X (binaryOp .Sub) (Hh fun i j=>.int (i-j)):=Mv fun _ _ _ _ _ _ _ q=>sub_int q
theorem FU:lg X (binaryOp .Mod) (rI (fun _ j=>j≠0) fun i j=>.int (i.fmod j)):=Nn fun _ _ _ _ _ _ _ hc q=>mod_int' hc q
theorem JR:lg X (binaryOp .Pow) (rI K4 fun i j=>.int (i ^ j.toNat)):=Nn fun _ _ _ _ _ _ _ hc q=>pow_int_small hc.1 hc.2.1 hc.2.2 q
theorem O6 {f:Value->Sem Value}{g:Int->Int}
  (rule:∀ (i:Int) (t:Tok) (s:Shared) (Q:Value->Shared->Prop) (E:Value->Shared->Prop),Q (.int (g i) s.toks) {s with toks:=s.toks+1}->wpAny (model X.prog X.w) X.A (f (.int i t)) Q E s) :
  ND X f (rU fun i=>.int (g i)):=by
 intro pins s σ H x v Q I rx h;obtain⟨i,rfl,q⟩:=h;obtain⟨t,rfl⟩:=rx;exact rule i t s _ _ ⟨.int (g i),H,I.tok _,⟨_,rfl⟩,q⟩
theorem KG:ND X (unaryOp .USub) (rU fun i=>.int (-i)):=O6 fun _ _ _ _ _ q=>neg_int q
end
section
variable {X:Cx}{a b c:Expr}{ta tb tc:TE}{pos:Pos}
theorem Bq {pins:List (Addr × Obj)}{σ:St}{H:Hp}{s:Shared}{Q:VK}{k k':Bool}(I:aN X pins σ H s)(q:Q (.bl k) H)(e:k=k'):EP X pins σ Q (.bool k') s:=by
 subst e;exact⟨.bl k,H,I,rfl,q⟩
theorem Hb:lg X (compareOp .Lt) (Hh fun i j=>.bl (decide (i<j))):=JN fun _ _ _ _ _ _ _ q=>lt_int q
theorem Ha:lg X (compareOp .Gt) (Hh fun i j=>.bl (decide (j<i))):=JN fun _ _ _ _ _ _ _ q=>gt_int q
theorem Mw:lg X (compareOp .GtE) (Hh fun i j=>.bl (decide (j<=i))):=JN fun _ _ _ _ _ _ _ q=>ge_int q
theorem JP:lg X (compareOp .Is) (fun x y H Q=>y=.non/\Q (.bl (decide (x=.non))) H):=by
 intro pins s σ H x y v u Q I rx ry h;obtain⟨rfl,q⟩:=h
 cases ry
 refine is_none_gen (Bq I q ?_)
 cases x <;> first
  | (cases rx;rfl)
  | (obtain⟨t,rfl⟩:=rx;rfl)
theorem FW:lg X (compareOp .IsNot) (fun x y H Q=>y=.non/\Q (.bl (!decide (x=.non))) H):=by
 intro pins s σ H x y v u Q I rx ry h;obtain⟨rfl,q⟩:=h
 cases ry
 refine isnot_none_gen (Bq I q ?_)
 cases x <;> first
  | (cases rx;rfl)
  | (obtain⟨t,rfl⟩:=rx;rfl)
theorem lg.or {f:Value->Value->Sem Value}{r r':R2}(h:lg X f r)(h':lg X f r'):lg X f (fun x y H Q=>r x y H Q\/r' x y H Q):=by
 intro pins s σ H x y v u Q I rx ry q
 rcases q with q|q
 ·exact h pins s σ H x y v u Q I rx ry q
 ·exact h' pins s σ H x y v u Q I rx ry q
theorem gn (b:Expr){op:CmpOp}(h:op≠.In:=by decide)(h2:op≠.NotIn:=by decide):behindInMarks op b=false:=by
 have e1:(op == CmpOp.In)=false:=by cases op <;> first|rfl|exact absurd rfl h
 have e2:(op == CmpOp.NotIn)=false:=by cases op <;> first|rfl|exact absurd rfl h2
 cases b <;> simp[behindInMarks,e1,e2]
theorem rQ {op:CmpOp}{r:R2}(ho:lg X (compareOp op) r)(ha:PE X a ta)(hb:PE X b tb)(hm:behindInMarks op b=false):PE X (.Compare a [op] [b] pos) (Kx r ta tb):=by
 intro pins s σ H Q I h;exact wpAny_Compare1 (Iv ha hb I h fun v u s2 x y H2 I2 rx ry q=>ho pins s2 σ H2 x y v u Q I2 rx ry q) hm
def MY (t:TE):TT:=fun σ H Q=>t σ H fun x H'=>∃ k,x=.bl k/\Q k H'
theorem rT {op:CmpOp}{r:R2}(ho:lg X (compareOp op) r)(ha:PE X a ta)(hb:PE X b tb)(hm:behindInMarks op b=false):PT X (.Compare a [op] [b] pos) (MY (Kx r ta tb)):=by
 intro pins s σ H Q I h;refine wpAny_isTrue_Compare1 (cQ (ha pins s σ H _ I h) fun v s1 ⟨x,H1,I1,r1,q1⟩=>cQ (hb pins s1 σ H1 _ I1 q1) fun u s2 ⟨y,H2,I2,r2,q2⟩=>
  cQ (ho pins s2 σ H2 x y v u _ I2 r1 r2 q2) fun c s3 ⟨z,H3,I3,r3,k,e,q3⟩=>?_) hm
 subst e
 cases r3
 exact wpAny_truthy_bool ⟨H3,I3,q3⟩
theorem rJ:(sizeLine:Nat)<2 ^ 63:=by rw[sizeLine_eq];decide
theorem vals1 {x:V}{us:List Value}(r:aT [x] us):∃ u,us=[u]/\RelV x u:=by
 cases r with
 | cons r1 r2=>cases r2;exact⟨_,rfl,r1⟩
theorem vals2 {x y:V}{us:List Value}(r:aT [x,y] us):∃ u w',us=[u,w']/\RelV x u/\RelV y w':=by
 cases r with
 | cons r1 r2=>
  cases r2 with
  | cons r3 r4=>cases r4;exact⟨_,_,rfl,r1,r3⟩
theorem z8:eW X (.builtin "abs") (fun xs H Q=>∃ i,xs=[.int i]/\Q (.int (if i<0 then -i else i)) H):=by
 intro pins s σ H xs us Q I r h;obtain⟨i,rfl,q⟩:=h;obtain⟨u,rfl,t,rfl⟩:=vals1 r;exact call_abs_int fun u tk=>⟨.int (if i<0 then -i else i),H,I.tok _,⟨_,rfl⟩,q⟩
theorem x8 (hc:X.calm=true):eW X (.builtin "max") (fun xs H Q=>∃ i j,xs=[.int i,.int j]/\Q (.int (if j>i then j else i)) H):=by
 intro pins s σ H xs us Q I r h;obtain⟨i,j,rfl,q⟩:=h;obtain⟨u,w',rfl,⟨t,rfl⟩,⟨t',rfl⟩⟩:=vals2 r;refine max_two_ints (I.ok.hd hc) fun h' tk k=>⟨_,H,I.kept k,?_,q⟩
 by_cases hj:j>i
 ·rw[if_pos hj,if_pos hj];exact⟨_,rfl⟩
 ·rw[if_neg hj,if_neg hj];exact⟨_,rfl⟩
theorem x9 (hc:X.calm=true):eW X (.builtin "min") (fun xs H Q=>∃ i j,xs=[.int i,.int j]/\Q (.int (if j<i then j else i)) H):=by
 intro pins s σ H xs us Q I r h;obtain⟨i,j,rfl,q⟩:=h;obtain⟨u,w',rfl,⟨t,rfl⟩,⟨t',rfl⟩⟩:=vals2 r;refine min_two_ints (I.ok.hd hc) fun h' tk k=>⟨_,H,I.kept k,?_,q⟩
 by_cases hj:j<i
 ·rw[if_pos hj,if_pos hj];exact⟨_,rfl⟩
 ·rw[if_neg hj,if_neg hj];exact⟨_,rfl⟩
end
end L2
namespace L2
open PySem PySem.Spec PyProof.Rows
structure K8 (h:Heap) (x dx C:Addr) (mA:Str->Option Value):Prop where
 obj:h.get? x=some (PySem.W.instObj C dx)
 ns:h.Ns1 dx mA
 ne:dx≠x
theorem yL {h:Heap}{dx:Addr}{mA:Str->Option Value}(n:h.Ns1 dx mA):∃ od,h.get? dx=some od/\∀ name,PySem.W.lookIn name od=some (mA name):=by
 obtain⟨o,es,ep,ho,hd,hk,_,hm⟩:=n;refine⟨o,ho,fun name=>?_⟩;have e:=hm name;unfold nsFind findBy at e;rw[<-Array.find?_toList]at e;unfold PySem.W.lookIn;rw[hd];dsimp only
 split
 ·rename_i y q;rw[q]at e;exact congrArg some e
 ·rename_i q;rw[q]at e;have a:es.toList.any (·.refKey)=false:=by
   rw[List.any_eq_false];intro y hy;obtain⟨z,t,hkey⟩:=hk y (Array.mem_toList_iff.mp hy);simp[DictEntry.refKey,hkey]
  have a':¬ es.toList.any (·.refKey)=true:=by rw[a];exact Bool.false_ne_true
  rw[if_neg a'];exact congrArg some e
theorem K8.look {h:Heap}{x dx C:Addr}{mA:Str->Option Value}(I:K8 h x dx C mA):∃ od,PySem.W.InstAt h x (PySem.W.instObj C dx) C (some od)/\∀ name,PySem.W.lookIn name od=some (mA name):=
 let ⟨od,ho,hl⟩:=yL I.ns
 ⟨od,⟨I.obj,rfl,rfl,ho⟩,hl⟩
section
variable {prog:Program}{w:World}{A:Around}{E:Value->Shared->Prop}{s:Shared}{K:PySem.W.Frag}{x dx C f:Addr}{mA:Str->Option Value}{name:Str}{v:Value}
end
section
variable {P:Program}{w:World}{H H':Hp}{h h':Heap}{a C dx:Addr}{fs fs':List (Str × V)}
end
structure Nt (K:PySem.W.Frag) (C:Addr):Prop where
 pg:PySem.W.plainGet K C Str.empty=true
 hd:PySem.W.hasDictIn K C=true
 po:PySem.W.plainOver K C=true
 sa:PySem.W.findIn K (.ref C) "__setattr__"=some (some (.builtin "object.__setattr__"))
theorem Nt.get {K:PySem.W.Frag}{C:Addr}(c:Nt K C)(f:Str):PySem.W.plainGet K C f=true:=c.pg
structure O8 (K:PySem.W.Frag) (C:Addr) (f:Str) (v:V) (u:Value):Prop where
 at_:PySem.W.findIn K (.ref C) f=some (some u)
 rel:RelV v u
 get:PySem.W.specialIn K u "__get__"=some none
 cp:PySem.W.copiedNames.contains f=false
structure OS (K:PySem.W.Frag) (C:Addr) (m:Str) (f:Addr):Prop where
 at_:PySem.W.findIn K (.ref C) m=some (some (.ref f))
 fn:PySem.W.isFn K (.ref f)=true
 kp:PySem.W.keepIn K (.ref f)=true
section
variable {X:Cx}{pins:List (Addr × Obj)}{σ:St}{H:Hp}{s:Shared}{a C dx:Addr}{fs:List (Str × V)}{f:Str}{v:V}{A:Around}{E:Value->Shared->Prop}
theorem aN.made (I:aN X pins σ H s):aN X pins σ (cV (cV H s.heap.objs.size (.own (s.heap.objs.size+1))) (s.heap.objs.size+1) (.ins C s.heap.objs.size []))
  {s with heap:=(s.heap.push PySem.W.emptyDict).push (PySem.W.instObj C s.heap.objs.size)}:=by
 have e1:(s.heap.push PySem.W.emptyDict).get? s.heap.objs.size=some PySem.W.emptyDict:=Heap.get?_push_size s.heap rfl;have e2:((s.heap.push PySem.W.emptyDict).push (PySem.W.instObj C s.heap.objs.size)).get? (s.heap.objs.size+1)=some (PySem.W.instObj C s.heap.objs.size):=by
  have:=Heap.get?_push_size (s.heap.push PySem.W.emptyDict) (o:=PySem.W.instObj C s.heap.objs.size) rfl
  rwa [Heap.size_push]at this
 have e3:(s.heap.push PySem.W.emptyDict).Ns s.heap.objs.size (fun _=>none):=⟨PySem.W.emptyDict,#[],_,e1,rfl,(fun e he=>absurd he (by simp)),fun _=>rfl⟩
 have I1:=I.laid (a:=s.heap.objs.size) (o:=.own (s.heap.objs.size+1)) (h':=s.heap.push PySem.W.emptyDict) (t':=s.toks) (fun b u q=>Heap.get?_push_of_some _ q) (Nat.le_refl _) ⟨_,e1⟩;refine I1.laid (a:=s.heap.objs.size+1) (o:=.ins C s.heap.objs.size []) (t':=s.toks) (fun b u q=>Heap.get?_push_of_some _ q) (Nat.le_of_eq (Heap.size_push _ _)) ?_;have ne:s.heap.objs.size≠s.heap.objs.size+1:=Nat.ne_of_lt (Nat.lt_succ_self _);refine⟨by rw[bQ ne,bH],Nat.zero_le _,ne,e2,fun _=>none,(Heap.Ns1.of_empty e3).at fun o q=>Heap.get?_push_of_some _ q,fun _=>True.intro,fun y hy=>absurd rfl hy⟩
end
section
variable {X:Cx}{o e value:Expr}{f:Str}{pos pos' tpos:Pos}{ta tv:TE}
end
section
variable {X:Cx}{pins:List (Addr × Obj)}{σ:St}{H:Hp}{s:Shared}{A:Around}{E:Value->Shared->Prop}{Q:Value->Shared->Prop}{c:Value}{b:Bool}
inductive mT (K:PySem.W.Frag) (H:Hp):V->Value->Prop where
 | non:mT K H .non (.type "NoneType")
 | bl (x:Bool):mT K H (.bl x) (.type "bool")
 | int (i:Int):mT K H (.int i) (.type "int")
 | str (x:Str):mT K H (.str x) (.type "str")
 | flt (x:UInt64):mT K H (.flt x) (.type "float")
 | lst {a:Addr}{xs:List V} (e:H a=some (.lst xs)):mT K H (.ref a) (.type "list")
 | frz {a:Addr}{o:Obj}{xs:List V} (e:H a=some (.frz o (.lst xs))):mT K H (.ref a) (.type "list")
 | tup {a:Addr}{xs:List V} (e:H a=some (.tup xs)):mT K H (.ref a) (.type "tuple")
 | dK {a:Addr}{kvs:List (Key × V)} (e:H a=some (.dK kvs)):mT K H (.ref a) (.type "dict")
 | dT {a:Addr}{kvs:List (List Key × V)} (e:H a=some (.dT kvs)):mT K H (.ref a) (.type "dict")
 | ins {a C dx:Addr}{fs:List (Str × V)} (e:H a=some (.ins C dx fs)) (cl:Nt K C) (ha:PySem.W.findIn K (.ref C) "__class__"=some (some (.builtin "object.__class__")))
   (hn:PySem.W.specialIn K (.builtin "object.__class__") "__get__"=some (some (.builtin "getset_descriptor.__get__"))) (htk:PySem.W.takesIn K (.builtin "object.__class__")=some true)
   (hm:PySem.W.mroIn K C (.type "object")=some true):mT K H (.ref a) (.ref C)
end
end L2
namespace L2
open PySem PySem.Spec PyProof.Rows
structure b7 (k:Nat) (A:Around):Prop where
 hd:A.handled=none
 dp:A.depth+3*k+5<recursionLimit
 un:A.units+16*k+200<cLine
theorem b7.mono {j k:Nat}{A:Around}(r:b7 k A)(h:j<=k):b7 j A:=⟨r.hd,by have:=r.dp;omega,by have:=r.un;omega⟩
theorem b7.deeper {k:Nat}{A:Around}(r:b7 (k+1) A)(env:Env):b7 k (A.deeper env):=
 ⟨r.hd,by have:=r.dp;show A.depth+1+3*k+5<_;omega,by have:=r.un;show A.units+3+16*k+200<_;omega⟩
theorem b7.in1 {k:Nat}{A:Around}(r:b7 (k+1) A):b7 k A.in1:=
 ⟨r.hd,by have:=r.dp;show A.depth+3*k+5<_;omega,by have:=r.un;show A.units+1+16*k+200<_;omega⟩
theorem b7.depth {k:Nat}{A:Around}(r:b7 k A):A.depth<recursionLimit:=by have:=r.dp;omega
theorem b7.units {k:Nat}{A:Around}(r:b7 k A):A.units+64<cLine:=by have:=r.un;omega
def Ol:TA:=fun _ H Q=>Q [] H
def MR (ta:TE)(tr:TA):TA:=fun σ H Q=>ta σ H fun x H1=>tr σ H1 fun xs H2=>Q (x::xs) H2
section
variable {X:Cx}{e:Expr}{es:List Expr}{te:TE}{t:TA}{pos:Pos}
theorem jY:PA X [] Ol:=fun _ _ _ _ H Q I h=>Calls.spliced_nil ⟨[],H,I,.nil,h⟩
theorem cB (ha:PE X e te)(hr:PA X es t)(hs:starEach (e::es) X.env=(false,eval e X.env)::starEach es X.env:=by rfl):PA X (e::es) (MR te t):=by
 intro pos pins s σ H Q I h;rw[hs];show wpAny _ _ (spliced ((false,eval e X.env)::backTo pos (starEach es X.env))) _ _ s;refine Calls.spliced_cons (cQ (ha pins s σ H _ I h) fun u s1 ⟨x,H1,I1,r1,q1⟩=>?_);exact cQ (hr pos pins s1 σ H1 _ I1 q1) fun us s2 ⟨xs,H2,I2,r2,q2⟩=>⟨x::xs,H2,I2,.cons r1 r2,q2⟩
def Oq (t:TA):TE:=fun σ H Q=>t σ H fun xs H1=>xs.length<=sizeLine/\∀ p,H1 p=none->Q (.ref p) (cV H1 p (.tup xs))
def Oj (t:TA):TE:=fun σ H Q=>t σ H fun xs H1=>xs.length<=sizeLine/\∀ p,H1 p=none->Q (.ref p) (cV H1 p (.lst xs))
theorem Dg {x1}(h:PA X es t):PE X (.Tuple es x1 pos) (Oq t):=by
 intro pins s σ H Q I hq;refine wpAny_Tuple_spliced (cQ (h pos pins s σ H _ I hq) fun us s1 ⟨xs,H1,I1,r,z,q⟩=>⟨by rw[<-r.length];exact z,?_⟩)
 have hf:H1 s1.heap.objs.size=none:=I1.hok.fresh (Nat.le_refl _);refine⟨.ref s1.heap.objs.size,cV H1 s1.heap.objs.size (.tup xs),I1.laid (t':=s1.toks) (fun b u e=>Heap.get?_push_of_some _ e) (Nat.le_refl _) ?_,rfl,q _ hf⟩;exact⟨z,us,r,⟨_,Heap.get?_push_size _ rfl,rfl,_,rfl⟩⟩
theorem JY (h:PA X es t):PE X (.List es pos) (Oj t):=by
 intro pins s σ H Q I hq;refine wpAny_List_spliced (cQ (h pos pins s σ H _ I hq) fun us s1 ⟨xs,H1,I1,r,z,q⟩=>⟨by rw[<-r.length];exact z,?_⟩)
 have hf:H1 s1.heap.objs.size=none:=I1.hok.fresh (Nat.le_refl _);refine⟨.ref s1.heap.objs.size,cV H1 s1.heap.objs.size (.lst xs),I1.laid (t':=s1.toks) (fun b u e=>Heap.get?_push_of_some _ e) (Nat.le_refl _) ?_,rfl,q _ hf⟩;exact⟨z,us,0,r,Heap.get?_push_size _ rfl⟩
end
abbrev Sp:=List V->Hp->VK->XK->Prop
abbrev wu:=List Env->Hp->Shared->XK->Value->Shared->Prop
structure uO (P:Program) (w:World) (K:PySem.W.Frag) (mg:Str->Option Value) (base:Heap) (A:Around) (outer:List Env) (s:Shared) (H:Hp):Prop where
 frames:A.frames=some outer
 mod:Mod K mg base
 bs:∀ b o,base.get? b=some o->s.heap.get? b=some o/\H b=none
 bsz:base.objs.size<=s.heap.objs.size
 funs:s.heap.FunFrames base outer
 frf:∀ b∈uL outer,H b=none
 hok:lb P w H s.heap
 bare:AllBare s.gens
def CE (outer:List Env)(P:Program)(w:World)(H:Hp)(s:Shared)(Q:VK)(u:Value)(s':Shared):Prop:=
 ∃ v H',s'.os=s.os/\AllBare s'.gens/\Un (uL outer) [] H H' s.heap s'.heap/\lb P w H' s'.heap/\RelV v u/\Q v H'
def CR (CX:wu)(outer:List Env)(P:Program)(w:World)(H:Hp)(s:Shared)(Q:VK)(E:XK)(r:Result)(s':Shared):Prop:=
 match r with
 | .ok (.ret u)=>CE outer P w H s Q u s'
 | .ok _=>False
 | .error e=>CX outer H s E e s'
structure fY (P:Program) (w:World) (K:PySem.W.Frag) (mg:Str->Option Value) (base:Heap) (CX:wu) (k:Nat) (f:Addr) (fd:FuncData) (ps:List Str) (sp:Sp):Prop where
 len:∀ vs H Q E,sp vs H Q E->vs.length=ps.length
 run:∀ (A:Around) (outer:List Env) (s:Shared) (H:Hp) (args:Args) (us:List Value) (vs:List V) (Q:VK) (E:XK),b7 k A->uO P w K mg base A outer s H->BindsTo s fd args (ps.zip us)->aT vs us->sp vs H Q E →
  codeAny (model P w) A (.call (.ref f) args) (CR CX outer P w H s Q E) s
theorem fY.mono {P:Program}{w:World}{K:PySem.W.Frag}{mg:Str->Option Value}{base:Heap}{CX:wu}{j k:Nat}{f:Addr}{fd:FuncData}{ps:List Str}{sp:Sp}(F:fY P w K mg base CX j f fd ps sp)(h:j<=k) :
  fY P w K mg base CX k f fd ps sp:=⟨F.len,fun A outer s H args us vs Q E hr=>F.run A outer s H args us vs Q E (hr.mono h)⟩
theorem fY.imp {P:Program}{w:World}{K:PySem.W.Frag}{mg:Str->Option Value}{base:Heap}{CX:wu}{k:Nat}{f:Addr}{fd:FuncData}{ps:List Str}{sp sp':Sp}(F:fY P w K mg base CX k f fd ps sp)
  (h:∀ vs H Q E,sp' vs H Q E->sp vs H Q E):fY P w K mg base CX k f fd ps sp':=
 ⟨fun vs H Q E q=>F.len vs H Q E (h _ _ _ _ q),fun A outer s H args us vs Q E hr he hb hv hs=>F.run A outer s H args us vs Q E hr he hb hv (h _ _ _ _ hs)⟩
theorem uO.in1 {P:Program}{w:World}{K:PySem.W.Frag}{mg:Str->Option Value}{base:Heap}{A:Around}{outer:List Env}{s:Shared}{H:Hp}(e:uO P w K mg base A outer s H) :
  uO P w K mg base A.in1 outer s H:=⟨e.frames,e.mod,e.bs,e.bsz,e.funs,e.frf,e.hok,e.bare⟩
section
variable {X:Cx}{pins:List (Addr × Obj)}{σ:St}{H:Hp}{s s':Shared}
theorem aN.env0 (I:aN X pins σ H s):uO X.prog X.w X.K X.mg X.base X.A X.stack s H:=
 ⟨I.ok.frames,I.ok.mod,I.bs,Nat.le_trans I.ok.bsz I.sz,I.stack,I.stkFree,I.hok,I.bare⟩
theorem aN.after {Q:VK}{u:Value}(I:aN X pins σ H s)(h:CE X.stack X.prog X.w H s Q u s'):EP X pins σ Q u s':=by
 obtain⟨v,H',os,bare,un,hok,r,q⟩:=h;obtain⟨hh,g,d,t,os'⟩:=s';obtain rfl:os'=s.os:=os;exact⟨v,H',I.call (h':=hh) (g':=g) (d':=d) (t':=t) (ch:=[]) un hok bare (fun b z=>absurd z (by simp)),r,q⟩
end
def Hk (sp:Sp)(dvs:List V)(E:XK)(t:TA):TE:=fun σ H Q=>t σ H fun vs H1=>sp (vs++dvs) H1 Q E
def Binds (K:PySem.W.Frag)(fd:FuncData)(ps:List Str)(ds:List Value):Prop:=
 ∀ (s:Shared) (us:List Value),K.In s.heap->(us++ds).length=ps.length->BindsTo s fd ⟨us,[]⟩ (ps.zip (us++ds))
theorem Binds.all {K:PySem.W.Frag}{fd:FuncData}{ps:List Str}(h:∀ us:List Value,us.length=ps.length->bindArgs fd ⟨us,[]⟩=pure (ps.zip us)):Binds K fd ps []:=fun s us _ hl=>by
 rw[List.append_nil]at hl ⊢;exact .of_eq (h us hl)
def uR (CX:wu)(X:Cx)(E:XK):Prop:=∀ (pins:List (Addr × Obj)) (σ:St) (H:Hp) (s:Shared) (e:Value) (s':Shared),aN X pins σ H s->CX X.stack H s E e s'->X.xe e s'
section
variable {X:Cx}{CX:wu}{k:Nat}{f C:Addr}{fd:FuncData}{ps:List Str}{sp:Sp}{dvs:List V}{ds:List Value}{E:XK}{x m:Str}{p pos apos:Pos}{e o:Expr}{es:List Expr}{ta:TE}{t:TA}
theorem Ko {pins:List (Addr × Obj)}{σ:St}{H:Hp}{s:Shared}{Q:VK}{us:List Value}{vs:List V}(F:fY X.prog X.w X.K X.mg X.base CX k f fd ps sp)(hr:b7 k X.A)(hb:Binds X.K fd ps ds)(hd:aT dvs ds)(hx:uR CX X E)
  (I:aN X pins σ H s) (r:aT vs us) (h:sp (vs++dvs) H Q E):wpAny (model X.prog X.w) X.A (call (.ref f) us) (EP X pins σ Q) X.xe s:=by
 have r2:aT (vs++dvs) (us++ds):=r.append hd;have hl:(us++ds).length=ps.length:=by rw[<-r2.length];exact F.len _ _ _ _ h
 refine wpAny_call (codeAny_mono (F.run X.A X.stack s H ⟨us,[]⟩ (us++ds) (vs++dvs) Q E hr I.env0 (hb s us I.kIn hl) r2 h) fun r s' hq=>?_)
 cases r with
 | error e=>exact hx pins σ H s e s' I hq
 | ok fl=>
  cases fl with
  | ret u=>exact I.after hq
  | next=>exact False.elim hq
  | brk=>exact False.elim hq
  | cont=>exact False.elim hq
theorem rP (F:fY X.prog X.w X.K X.mg X.base CX k f fd ps sp)(hr:b7 k X.A)(hg:Gl X x)(hm:X.mg x=some (.ref f))(hk:PySem.W.keepIn X.K (.ref f)=true)(hb:Binds X.K fd ps ds)(hd:aT dvs ds)(hx:uR CX X E)
  (ha:PA X (e::es) t) (hdb:(x == ("__debug__":Str))=false:=by decide) (he:starEach (e::es) X.env=(false,eval e X.env)::starEach es X.env:=by rfl) (hpl:(backTo pos (starEach es X.env)).any (·.1)=false:=by rfl) :
  PE X (.Call (.Name x p) (e::es) [] pos) (Hk sp dvs E t):=by
 intro pins s σ H Q I h;refine wpAny_Call_Name_kw (Fs I hg hm ?_ hdb);refine PySem.W.callWith_K (h₀:=X.base) I.ok.mod.kin hk (cQ (ha pos pins s σ H _ I h) fun us s1 ⟨vs,H1,I1,r,q⟩=>⟨I1.kIn,?_⟩) he hpl;exact Ko F hr hb hd hx I1 r q
structure Mk (K:PySem.W.Frag) (C f:Addr):Prop where
 makes:PySem.W.makesIn K C=true
 init:PySem.W.findIn K (.ref C) "__init__"=some (some (.ref f))
 fn:PySem.W.isFn K (.ref f)=true
 kp:PySem.W.keepIn K (.ref C)=true
end
section
variable {X:Cx}{CX:wu}{k:Nat}{f C:Addr}{fd:FuncData}{ps ks:List Str}{sp:Sp}{E:XK}{x m:Str}{p pos apos kpos:Pos}{e o:Expr}{es:List Expr}{kws:List Keyword}{te ta:TE}{t tk:TA}{nm:Option Str}
structure Ny (K:PySem.W.Frag) (fd:FuncData) (ps ks:List Str) (g:List Value->List Value->List Value) (gV:List V->List V->List V):Prop where
 to:∀ (s:Shared) (us ws:List Value),K.In s.heap->(g us ws).length=ps.length->BindsTo s fd ⟨us,ks.zip ws⟩ (ps.zip (g us ws))
 rel:∀ {vs:List V}{us:List Value}{zs:List V}{ws:List Value},aT vs us->aT zs ws->aT (gV vs zs) (g us ws)
variable {g:List Value->List Value->List Value}{gV:List V->List V->List V}
end
structure aA (N P:List Str) (sc:Scope):Prop where
 kind:sc.kind=.function
 co:sc.isCoroutine=false
 gen:sc.isGenerator=false
 nd:N.Nodup
 pre:N.take P.length=P
 par:∀ x∈P,sc.names.lookup x=some .local\/sc.names.lookup x=some .cell
 nofree:∀ y∈sc.names,y.2≠.free
theorem pe {kindOf:Str->Option NameKind}{x:Str}:∀ {binds:List (Str × Value)}{m:Str->Option Value},(∀ v,(x,v)∉binds)->bindL kindOf binds m x=m x
 | [],_,_=>rfl
 | (n,v)::r,m,h=>by
  unfold bindL;rw[pe fun w hw=>h w (List.mem_cons_of_mem _ hw)]
  split
  ·have:x≠n:=by rintro rfl;exact h v List.mem_cons_self
   simp[this]
  ·rfl
theorem pc {kindOf:Str->Option NameKind}{x:Str}:∀ {binds:List (Str × Value)}{m:Str->Option Value},(∀ v,(x,v)∉binds)->bindC kindOf binds m x=m x
 | [],_,_=>rfl
 | (n,v)::r,m,h=>by
  unfold bindC;rw[pc fun w hw=>h w (List.mem_cons_of_mem _ hw)]
  split
  ·rfl
  ·have:x≠n:=by rintro rfl;exact h v List.mem_cons_self
   simp[this]
theorem pd {kindOf:Str->Option NameKind}{x:Str}{v:Value}:∀ {P:List Str}{vs:List Value}{i:Nat}{m:Str->Option Value},P.Nodup->P[i]?=some x->vs[i]?=some v->kindOf x=some .local →
  bindL kindOf (P.zip vs) m x=some v
 | [],_,_,_,_,h,_,_=>by simp at h
 | _::_,[],_,_,_,_,h,_=>by simp at h
 | p::P,w::vs,0,m,nd,h1,h2,hk=>by
  simp at h1 h2;subst h1;subst h2;show bindL kindOf ((p,w)::P.zip vs) m p=_;unfold bindL;rw[pe fun v hv=>(List.nodup_cons.mp nd).1 (List.of_mem_zip hv).1,if_pos hk];simp
 | p::P,w::vs,i+1,m,nd,h1,h2,hk=>by
  show bindL kindOf ((p,w)::P.zip vs) m x=_;unfold bindL;exact pd (i:=i) (List.nodup_cons.mp nd).2 (by simpa using h1) (by simpa using h2) hk
theorem pb {kindOf:Str->Option NameKind}{x:Str}{v:Value}:∀ {P:List Str}{vs:List Value}{i:Nat}{m:Str->Option Value},P.Nodup->P[i]?=some x->vs[i]?=some v->kindOf x≠some .local →
  bindC kindOf (P.zip vs) m x=some v
 | [],_,_,_,_,h,_,_=>by simp at h
 | _::_,[],_,_,_,_,h,_=>by simp at h
 | p::P,w::vs,0,m,nd,h1,h2,hk=>by
  simp at h1 h2;subst h1;subst h2;show bindC kindOf ((p,w)::P.zip vs) m p=_;unfold bindC;rw[pc fun v hv=>(List.nodup_cons.mp nd).1 (List.of_mem_zip hv).1,if_neg hk];simp
 | p::P,w::vs,i+1,m,nd,h1,h2,hk=>by
  show bindC kindOf ((p,w)::P.zip vs) m x=_;unfold bindC;exact pb (i:=i) (List.nodup_cons.mp nd).2 (by simpa using h1) (by simpa using h2) hk
def start (N:List Str)(vs:List V):St:=vs.map some++List.replicate (N.length-vs.length) none
def mi (CX:wu)(P:Program)(w:World)(K:PySem.W.Frag)(mg:Str->Option Value)(base:Heap)(N:List Str)(qual:Str)(scope:Scope)(f:Addr)(cd:Value)(A:Around)(outer:List Env)(s:Shared)(H:Hp)(E:XK):Cx where
 prog:=P
 w:=w
 K:=K
 mg:=mg
 base:=base
 A:=A.deeper (envOfC qual scope s.heap.objs.size f cd)
 N:=N
 s₀:=s
 H₀:=H
 env:=envOfC qual scope s.heap.objs.size f cd
 outer:=outer
 stack:=envOfC qual scope s.heap.objs.size f cd::outer
 ex:=[]
 calm:=true
 fn:=fun _=>true
 pn:=[]
 xe:=fun e s'=>wpAny (model P w) (A.deeper (envOfC qual scope s.heap.objs.size f cd)) (leaving (envOfC qual scope s.heap.objs.size f cd) e) (fun _ s''=>CX outer H s E e s'') (fun e' s''=>CX outer H s E e' s'') s'
theorem sU {sc:Scope}{n:Nat}{x:Str}(h:sc.names.lookup x=some .cell):∃ c,(cellsFrom n sc.names []).lookup x=some c:=by
 have q:=PySem.W.cellsFrom_some sc.names n [] (.inl h);exact Option.isSome_iff_exists.mp q
theorem yu {CX:wu}{P:Program}{w:World}{K:PySem.W.Frag}{mg:Str->Option Value}{base:Heap}{N ps:List Str}{qual:Str}{scope:Scope}{f:Addr}{cd:Value}{A:Around}{outer:List Env}{s s1:Shared}{H:Hp}{E:XK}{us:List Value}{vs:List V}
  (S:aA N ps scope) (hd:A.handled=none) (e0:uO P w K mg base A outer s H) (hl:vs.length=ps.length) (r:aT vs us)
  (x:InCallC s s.heap.objs.size (bindL (envOfC qual scope s.heap.objs.size f cd).kindOf (ps.zip us) fun _=>none) (cellsFrom (s.heap.objs.size+1) scope.names []) (bindC (envOfC qual scope s.heap.objs.size f cd).kindOf (ps.zip us) fun _=>none) s1) :
  aN (mi CX P w K mg base N qual scope f cd A outer s H E) [] (start N vs) H s1:=by
 have hpl:ps.length<=N.length:=by have:=congrArg List.length S.pre;rw[List.length_take]at this;omega
 obtain⟨h1,tk,rfl,hk⟩:=x.done;have noA:∀ b:Addr,b∉(mi CX P w K mg base N qual scope f cd A outer s H E).ex:=fun b z=>absurd (show b∈([]:List Addr) from z) (by simp)
 refine⟨⟨e0.mod,S.kind,rfl,rfl,Nat.le_refl _,fun y z c h1 h2=>?_,fun y hy=>?_,fun y c _ h=>?_,fun _=>hd,Around.frames_deeper e0.frames,.inr ⟨rfl,rfl⟩,fun b z=>absurd z (noA b),e0.bs,e0.bsz,fun b _ _=>noA b,fun b z=>absurd z (noA b),e0.funs,e0.frf⟩,
  rfl,e0.bare,Un.kept hk,⟨_,x.toInCall.ns,fun i y v h1 h2 h3=>?_⟩,fun y c h=>⟨_,x.cell y c h⟩,e0.hok.fresh (Nat.le_refl _),fun y c h=>?_,fun p hp=>absurd (show p∈([]:List (Addr × Obj)) from hp) (by simp),e0.hok.kept hk,?_⟩
 ·exact name_of_addr x.apart (PySem.mem_of_lookup h1) (PySem.mem_of_lookup h2)
 ·have hy:scope.names.lookup y=some .cell\/scope.names.lookup y=some .free:=hy
  rcases hy with hy|hy
  ·exact sU hy
  ·exact absurd rfl (S.nofree _ (PySem.mem_of_lookup hy))
 ·exact Nat.le_of_lt (x.above y c (PySem.mem_of_lookup h))
 ·have hi:i<vs.length:=by
   unfold start at h2
   by_cases hi:i<vs.length
   ·exact hi
   ·rw[List.getElem?_append_right (by simpa using hi)]at h2
    rw[List.getElem?_replicate]at h2
    split at h2 <;> cases h2
  have ha:vs[i]?=some v:=by
   unfold start at h2;rw[List.getElem?_append_left (by simpa using hi),List.getElem?_map]at h2
   cases e:vs[i]? with
   | none=>rw[e]at h2;cases h2
   | some a=>rw[e]at h2;cases h2;rfl
  obtain⟨u,hu,rv⟩:=r.get ha;have hp:ps[i]?=some y:=by
   rw[<-S.pre,List.getElem?_take_of_lt (by omega)];exact h1
  have ndP:ps.Nodup:=by rw[<-S.pre];exact S.nd.sublist (List.take_sublist _ _)
  refine⟨u,rv,?_⟩
  rcases S.par y (List.mem_of_getElem? hp) with k|k
  ·exact .inl ⟨k,pd ndP hp hu k⟩
  ·obtain⟨c,e⟩:=sU (n:=s.heap.objs.size+1) k;refine .inr ⟨.inl k,c,e,?_⟩;have q:=x.cell y c e;rw[pb ndP hp hu (by show scope.names.lookup y≠_;rw[k];decide)]at q
   exact q
 ·exact e0.hok.fresh (Nat.le_of_lt (x.above y c (PySem.mem_of_lookup h)))
 ·unfold start;show _=N.length;rw[List.length_append,List.length_map,List.length_replicate];omega
theorem Mb {CX:wu}{P:Program}{w:World}{K:PySem.W.Frag}{mg:Str->Option Value}{base:Heap}{k:Nat}{f:Addr}{name qual:Str}{params:Arguments}{body:List Stmt}{scope:Scope}{dV kV doc pm cdv ct oc:Value}{an od:Option Addr}
  {osl:Array (Option Value)}{N ps:List Str}{sp:Sp} (lk:K.lookup f=some ⟨oc,od,.func (PySem.W.fnOf name qual params body scope dV kV doc pm an cdv ct),osl⟩) (hcd:PySem.W.codeIn K cdv qual=true) (S:aA N ps scope)
  (len:∀ vs H Q E,sp vs H Q E->vs.length=ps.length)
  (hbody:∀ (A:Around) (outer:List Env) (s:Shared) (H:Hp) (vs:List V) (Q:VK) (E:XK),b7 k (A.deeper (envOfC qual scope s.heap.objs.size f cdv))->sp vs H Q E →
   ∃ t,gS (mi CX P w K mg base N qual scope f cdv A outer s H E) body t/\t {nx:=fun _ H'=>Q .non H',rt:=Q} (start N vs) H) :
  fY P w K mg base CX (k+1) f (PySem.W.fnOf name qual params body scope dV kV doc pm an cdv ct) ps sp:=by
 refine⟨len,fun A outer s H args us vs Q E hr e0 hb r hsp=>?_⟩;have hl:=len _ _ _ _ hsp;have KX:K.In s.heap:=e0.mod.kin.keeps fun b o e=>(e0.bs b o e).1;have lim:s.heap.NoLimit:=e0.mod.nolimit.keeps fun b o e=>(e0.bs b o e).1;have hkind:∀ y∈ps.zip us,scope.names.lookup y.1=some .local\/(scope.names.lookup y.1=some .cell/\((cellsFrom (s.heap.objs.size+1) scope.names []).lookup y.1).isSome=true):=fun ⟨n,v⟩ hy=>by
  rcases S.par n (List.of_mem_zip hy).1 with q|q
  ·exact .inl q
  ·exact .inr ⟨q,PySem.W.cellsFrom_some _ _ _ (.inl q)⟩
 refine codeAny_call_function hr.depth (KX _ _ lk) rfl S.co S.gen rfl (PySem.W.codeRec_of KX hcd) (hb _ _ _ _ ?_);refine wpAny_newFunctionEnv_cells S.kind hkind fun env he s1 x=>?_;subst he;refine⟨lim.keeps x.toInCall.keep,codeAny_func ?_⟩;obtain⟨t,ht,hq⟩:=hbody A outer s H vs Q E (hr.deeper _) hsp;have I:aN (mi CX P w K mg base N qual scope f cdv A outer s H E) [] (start N vs) H s1:=yu S hr.hd e0 hl r x;refine wpAny_mono (ht [] s1 (start N vs) H _ I hq) (fun fl s' hs=>?_) fun e s' hs=>hs;have fin:∀ {σ':St}{H':Hp}{v:V}{u:Value},aN (mi CX P w K mg base N qual scope f cdv A outer s H E) [] σ' H' s'->RelV v u->Q v H'->CE outer P w H s Q u s':=
  fun {σ' H' v u} J rv q=>⟨v,H',J.os,J.bare,J.base,J.hok,rv,q⟩
 cases fl with
 | ret u=>
  obtain⟨v,σ',H',J,rv,q⟩:=hs;exact fin J rv q
 | next=>
  obtain⟨σ',H',J,q⟩:=hs;exact fin (v:=V.non) (u:=Value.none) J rfl q
 | brk=>
  obtain⟨_,_,_,q⟩:=hs;exact False.elim q
 | cont=>
  obtain⟨_,_,_,q⟩:=hs;exact False.elim q
end L2
namespace L2
open PySem PySem.Spec PyProof.Rows
section
variable {X:Cx}{x:Str}{p pos:Pos}{e:Expr}{es:List Expr}{t:TA}{id T:String}{r:List V->Hp->VK->Prop}
def Og (r:List V->Hp->VK->Prop)(t:TA):TE:=fun σ H Q=>t σ H fun vs H1=>r vs H1 Q
theorem uv (hc:eW X (.builtin id) r) (hg:Gl X x) (hm:X.mg x=none) (hv:bootBuiltins x=some (.builtin id)) (ha:PA X (e::es) t) (hn:x≠"__name__":=by decide) (hdb:(x == ("__debug__":Str))=false:=by decide)
  (he:starEach (e::es) X.env=(false,eval e X.env)::starEach es X.env:=by rfl) (hpl:(backTo pos (starEach es X.env)).any (·.1)=false:=by rfl):PE X (.Call (.Name x p) (e::es) [] pos) (Og r t):=by
 intro pins s σ H Q I h;refine wpAny_Call_Name_kw (jV I hg hm hv ?_ hn hdb);exact PyProof.Rows.callWith_builtin1 (cQ (ha pos pins s σ H _ I h) fun us s1 ⟨vs,H1,I1,r1,q1⟩=>hc pins s1 σ H1 vs us Q I1 r1 q1) he hpl
theorem y9 (hc:eW X (.type T) r) (hg:Gl X x) (hm:X.mg x=none) (hv:bootBuiltins x=some (.type T)) (ha:PA X (e::es) t) (hn:x≠"__name__":=by decide) (hdb:(x == ("__debug__":Str))=false:=by decide)
  (he:starEach (e::es) X.env=(false,eval e X.env)::starEach es X.env:=by rfl) (hpl:(backTo pos (starEach es X.env)).any (·.1)=false:=by rfl):PE X (.Call (.Name x p) (e::es) [] pos) (Og r t):=by
 intro pins s σ H Q I h;refine wpAny_Call_Name_kw (jV I hg hm hv ?_ hn hdb);exact PyProof.Rows.callWith_type1 (cQ (ha pos pins s σ H _ I h) fun us s1 ⟨vs,H1,I1,r1,q1⟩=>hc pins s1 σ H1 vs us Q I1 r1 q1) he hpl
end
end L2
namespace HT
open PySem PyProof.Rows
section
open PySem.SeqAt
open PySem.AutoSeq1 (wpAny_loadPart')
open PySem.MeetsSeq PySem.MeetsSeq2 PySem.MeetsSeq3
end
section
variable {prog:Program}{w:World}{A:Around}{E:Value->Shared->Prop}{s:Shared}
def sIx (n d:Nat):Option Int->Nat
 | none=>d
 | some v=>if v<0 then (v+(n:Int)).toNat else min v.toNat n
theorem sIx_none (n d:Nat):sIx n d none=d:=rfl
theorem sIx_nat (n d k:Nat):sIx n d (some (k:Int))=min k n:=by
 show(if (k:Int)<0 then ((k:Int)+(n:Int)).toNat else min (k:Int).toNat n)=min k n
 rw[if_neg (by omega),Int.toNat_natCast]
end
end HT
namespace L2
open PySem PySem.Spec PyProof.Rows
abbrev TO:=St->Hp->(Option Int->Hp->Prop)->Prop
def PO (X:Cx)(e:Option Expr)(t:TO):Prop:=
 ∀ (pins:List (Addr × Obj)) (s:Shared) (σ:St) (H:Hp) (Q:Option Int->Hp->Prop),aN X pins σ H s->t σ H Q →
  wpAny (model X.prog X.w) X.A (evalPart e X.env) (fun u s'=>∃ o H',aN X pins σ H' s'/\IsPart u o/\Q o H') X.xe s
def GI:TO:=fun _ H Q=>Q none H
def MW (t:TE):TO:=fun σ H Q=>t σ H fun x H1=>∃ i,x=.int i/\Q (some i) H1
section
variable {X:Cx}{e:Expr}{te:TE}{lo hi:Option Expr}{tl th:TO}{pos p2:Pos}
theorem Ga:PO X none GI:=by
 intro pins s σ H Q I h;rw[evalPart_none];exact wpAny_pure ⟨none,H,I,.none,h⟩
theorem Gb (h:PE X e te):PO X (some e) (MW te):=by
 intro pins s σ H Q I hw;rw[evalPart_some];refine cQ (h pins s σ H _ I hw) fun u s1 ⟨x,H1,I1,r1,q1⟩=>?_;obtain⟨i,rfl,q⟩:=q1;obtain⟨t,rfl⟩:=r1;exact⟨some i,H1,I1,.int i t,q⟩
def KR (X:Cx)(r:V->Option Int->Option Int->Hp->VK->Prop):Prop:=
 ∀ (pins:List (Addr × Obj)) (s:Shared) (σ:St) (H:Hp) (x:V) (v vl vu:Value) (lo hi:Option Int) (sl:Addr) (Q:VK),aN X pins σ H s->RelV x v->s.heap.IsSliceOf sl vl vu .none->IsPart vl lo->IsPart vu hi->r x lo hi H Q →
  ∃ T id,typeLookup (.type T) "__getitem__"=pure (some (.builtin id))/\s.TypeIs v T/\wpAny (model X.prog X.w) X.A (getItem v (.ref sl)) (EP X pins σ Q) X.xe s
theorem KR.or {r r':V->Option Int->Option Int->Hp->VK->Prop}(h:KR X r)(h':KR X r'):KR X (fun x lo hi H Q=>r x lo hi H Q\/r' x lo hi H Q):=by
 intro pins s σ H x v vl vu lo hi sl Q I rx hs pl pu q
 rcases q with q|q
 ·exact h pins s σ H x v vl vu lo hi sl Q I rx hs pl pu q
 ·exact h' pins s σ H x v vl vu lo hi sl Q I rx hs pl pu q
def O4 (r:V->Option Int->Option Int->Hp->VK->Prop)(te:TE)(tl th:TO):TE:=fun σ H Q=>te σ H fun x H1=>tl σ H1 fun l H2=>th σ H2 fun u H3=>r x l u H3 Q
theorem Df {r:V->Option Int->Option Int->Hp->VK->Prop}(hr:KR X r)(he:PE X e te)(hl:PO X lo tl)(hu:PO X hi th):PE X (.Subscript e (.Slice lo hi none p2) pos) (O4 r te tl th):=by
 intro pins s σ H Q I h;refine Subscript_ (cQ (he pins s σ H _ I h) fun v s1 ⟨x,H1,I1,r1,q1⟩=>?_);refine wpAny_Slice (cQ (hl pins s1 σ H1 _ I1 q1) fun vl s2 ⟨l,H2,I2,pl,q2⟩=>cQ (hu pins s2 σ H2 _ I2 q2) fun vu s3 ⟨u,H3,I3,pu,q3⟩=>?_);rw[evalPart_none];refine wpAny_pure ?_;have I4:aN X pins σ H3 {s3 with heap:=s3.heap.push {cls:=.type "slice",data:=.fields #[vl,vu,.none]}}:=I3.kept (t':=s3.toks) fun b ob q=>Heap.get?_push_of_some _ q;obtain⟨T,id,hT,ht,hg⟩:=hr pins {s3 with heap:=s3.heap.push {cls:=.type "slice",data:=.fields #[vl,vu,.none]}} σ H3 x v vl vu l u s3.heap.objs.size Q I4 r1 (Heap.IsSliceOf.new ..) pl pu q3;show wpAny (model X.prog X.w) X.A (subscriptTail e (.Slice lo hi none p2) v (.ref s3.heap.objs.size)) (EP X pins σ Q) X.xe {s3 with heap:=s3.heap.push {cls:=.type "slice",data:=.fields #[vl,vu,.none]}};exact tail_any (ops:=[.ref s3.heap.objs.size,v]) ht hT hg (by with_unfolding_all rfl)
def yb (xs:List V)(lo hi:Option Int):List V:=(xs.drop (HT.sIx xs.length 0 lo)).take (HT.sIx xs.length xs.length hi-HT.sIx xs.length 0 lo)
theorem td (xs:List V)(lo hi:Option Int):(yb xs lo hi).length<=xs.length:=by
 unfold yb;rw[List.length_take,List.length_drop];omega
end
end L2
namespace L2
open PySem PySem.Spec PyProof.Rows
def yv (n:Nat)(i:Int):Option Nat:=if 0<=i then (if i<n then some i.toNat else none) else if -(n:Int)<=i then some (i+n).toNat else none
def atI {α:Type}(xs:List α)(i:Int):Option α:=(yv xs.length i).bind fun j=>xs[j]?
theorem w4 {n:Nat}{i:Int}{j:Nat}(h:yv n i=some j):seqIndex? i n=some j/\j<n/\-(n:Int)<=i/\i<n:=by
 unfold yv at h
 by_cases h0:0<=i
 ·rw[if_pos h0]at h
  by_cases h1:i<n
  ·rw[if_pos h1]at h;have e:i.toNat=j:=Option.some.inj h;exact⟨by rw[seqIndex_of h0 h1,e],by omega,by omega,h1⟩
  ·rw[if_neg h1]at h;cases h
 ·rw[if_neg h0]at h
  by_cases h1:-(n:Int)<=i
  ·rw[if_pos h1]at h;have e:(i+n).toNat=j:=Option.some.inj h;exact⟨by rw[seqIndex_neg (by omega) h1,e],by omega,h1,by omega⟩
  ·rw[if_neg h1]at h;cases h
theorem wF {α:Type}{xs:List α}{i:Int}{v:α}(h:atI xs i=some v):∃ j,seqIndex? i xs.length=some j/\xs[j]?=some v/\j<xs.length/\-(xs.length:Int)<=i/\i<xs.length:=by
 unfold atI at h
 cases e:yv xs.length i with
 | none=>rw[e]at h;cases h
 | some j=>
  rw[e]at h;obtain⟨h1,h2,h3,h4⟩:=w4 e;exact⟨j,h1,h,h2,h3,h4⟩
theorem EE {α:Type}{xs:List α}{j:Nat}{v:α}(h:xs[j]?=some v):atI xs (j:Int)=some v:=by
 have hj:j<xs.length:=(List.getElem?_eq_some_iff.mp h).1;have e:yv xs.length (j:Int)=some j:=by
  unfold yv;rw[if_pos (by omega),if_pos (by omega)];simp
 unfold atI;rw[e];exact h
def wy (b:Expr):Prop:=∀ o i,subscripted b false o i=operate [o,i] (getItem o i)
def Hr (X:Cx)(r:R2):Prop:=
 ∀ (value slice:Expr) (pins:List (Addr × Obj)) (s:Shared) (σ:St) (H:Hp) (x y:V) (v u:Value) (Q:VK),aN X pins σ H s->RelV x v->RelV y u->r x y H Q →
  subscripted slice false v u=operate [v,u] (getItem v u)->wpAny (model X.prog X.w) X.A (subscriptTail value slice v u) (EP X pins σ Q) X.xe s
def K7 (X:Cx)(id:String)(r:V->List V->Hp->VK->Prop):Prop:=
 ∀ (pins:List (Addr × Obj)) (s:Shared) (σ:St) (H:Hp) (x:V) (xs:List V) (v:Value) (us:List Value) (Q:VK),aN X pins σ H s->RelV x v->aT xs us->r x xs H Q →
  wpAny (model X.prog X.w) X.A (call (.builtin id) (v::us)) (EP X pins σ Q) X.xe s
section
variable {X:Cx}{a b:Expr}{ta tb:TE}{pos:Pos}
theorem Hr.or {r r':R2}(h:Hr X r)(h':Hr X r'):Hr X (fun x y H Q=>r x y H Q\/r' x y H Q):=by
 intro value slice pins s σ H x y v u Q I rx ry q hs
 rcases q with q|q
 ·exact h value slice pins s σ H x y v u Q I rx ry q hs
 ·exact h' value slice pins s σ H x y v u Q I rx ry q hs
theorem K7.or {id:String}{r r':V->List V->Hp->VK->Prop}(h:K7 X id r)(h':K7 X id r'):K7 X id (fun x xs H Q=>r x xs H Q\/r' x xs H Q):=by
 intro pins s σ H x xs v us Q I rx rs q
 rcases q with q|q
 ·exact h pins s σ H x xs v us Q I rx rs q
 ·exact h' pins s σ H x xs v us Q I rx rs q
theorem MA {r:R2}(hr:Hr X r)(ha:PE X a ta)(hb:PE X b tb)(hs:wy b):PE X (.Subscript a b pos) (Kx r ta tb):=by
 intro pins s σ H Q I h;exact Subscript_ (Iv ha hb I h fun v u s2 x y H2 I2 rx ry q=>hr a b pins s2 σ H2 x y v u Q I2 rx ry q (hs _ _))
def MH (K:PySem.W.Frag):R2:=fun x y H Q=>∃ p xs i v,x=.ref p/\y=.int i/\cD K H p xs/\atI xs i=some v/\Q v H
def MI (K:PySem.W.Frag):R2:=fun x y H Q=>∃ p xs i v,x=.ref p/\y=.int i/\iD K H p xs/\atI xs i=some v/\Q v H
theorem Fm:Hr X (MH X.K):=by
 intro value slice pins s σ H x y v u Q I rx ry h hs;obtain⟨p,xs,i,z,rfl,rfl,hq,he,q⟩:=h
 cases rx
 obtain⟨t,rfl⟩:=ry;obtain⟨its,r,pl,hz⟩:=I.list hq;obtain⟨j,h1,h2,h3,h4,h5⟩:=wF he;obtain⟨w,ew,rw'⟩:=r.get h2;have hl:=r.length;have hn:=rJ;have fin:EP X pins σ Q w s:=⟨z,H,I,rw',q⟩
 by_cases h0:0<=i
 ·have hj:i.toNat=j:=by
   rw[seqIndex_of h0 h5]at h1;exact Option.some.inj h1
  exact item_listR pl.isList h0 (by omega) (by rw[hj];simpa using ew) fin hs
 ·have hj:(i+(its.toArray.size:Int)).toNat=j:=by
   rw[seqIndex_neg (by omega) h4]at h1
   rw[List.size_toArray,<-hl];exact Option.some.inj h1
  exact subscriptTail_builtinR (x:=w) pl.isList.typeIs slot_list_getitem.lookup
   (wpAny_getItem_list_neg (Q:=fun r s'=>r=w/\EP X pins σ Q r s') pl.isList (by omega) (by rw[List.size_toArray] <;> omega) (by omega) (by rw[hj];simpa using ew) ⟨rfl,fin⟩) hs
theorem Jk:Hr X (MI X.K):=by
 intro value slice pins s σ H x y v u Q I rx ry h hs;obtain⟨p,xs,i,z,rfl,rfl,hq,he,q⟩:=h
 cases rx
 obtain⟨t,rfl⟩:=ry;obtain⟨its,r,pl,hz⟩:=I.tuple hq;obtain⟨j,h1,h2,h3,h4,h5⟩:=wF he;obtain⟨w,ew,rw'⟩:=r.get h2;have hl:=r.length;have hn:=rJ;have fin:EP X pins σ Q w s:=⟨z,H,I,rw',q⟩;exact subscriptTail_builtinR (x:=w) pl.typeIs slot_tuple_getitem.lookup
  (getItem_tuple (j:=j) (Q:=fun r s'=>r=w/\EP X pins σ Q r s') pl (by omega) (by omega) (by rw[List.size_toArray,<-hl];exact h1) (by simpa using ew) ⟨rfl,fin⟩) hs
theorem vx (its:List Value) (n j:Nat) (u:Value):Obj.mapSeq (·.setIfInBounds j u) {cls:=.type "list",data:=.seq its.toArray n}={cls:=.type "list",data:=.seq (its.set j u).toArray n}:=by
 simp[Obj.mapSeq]
theorem aN.lst {pins:List (Addr × Obj)}{σ:St}{H:Hp}{s:Shared}{p:Addr}{xs:List V}(I:aN X pins σ H s)(h:H p=some (.lst xs)) :
  ∃ (its:List Value) (n:Nat),aT xs its/\s.heap.get? p=some {cls:=.type "list",data:=.seq its.toArray n}/\xs.length<=sizeLine:=by
 obtain⟨z,its,n,r,e⟩:=I.hok p _ h;exact⟨its,n,r,e,z⟩
theorem aN.lstUpd {pins:List (Addr × Obj)}{σ:St}{H:Hp}{s:Shared}{p:Addr}{xs ys:List V}{its its':List Value}{n n':Nat}{f:Obj->Obj}(I:aN X pins σ H s)(h:H p=some (.lst xs))
  (ho:s.heap.get? p=some {cls:=.type "list",data:=.seq its.toArray n}) (hf:f {cls:=.type "list",data:=.seq its.toArray n}={cls:=.type "list",data:=.seq its'.toArray n'}) (r:aT ys its') (hz:ys.length<=sizeLine) (t:Nat) :
  aN X pins σ (cV H p (.lst ys)) {s with heap:=s.heap.update p f,toks:=t}:=by
 have e:(s.heap.update p f).get? p=some {cls:=.type "list",data:=.seq its'.toArray n'}:=by
  rw[Heap.get?_update_self f ho (by rw[hf] <;> rfl),hf]
 refine I.write (x:=p) (e:=p) (by rw[h];trivial) (.inl rfl) (fun b u hb q=>(Heap.get?_update_other _ _ (Ne.symm hb)).trans q) ⟨_,e⟩ ?_
 exact⟨hz,its',n',r,e⟩
def MJ:V->V->V->Hp->(Hp->Prop)->Prop:=fun o i v H Q=>∃ p xs k j,o=.ref p/\i=.int k/\H p=some (.lst xs)/\yv xs.length k=some j/\Q (cV H p (.lst (xs.set j v)))
theorem set_list:K9 X MJ:=by
 intro pins s σ H o i v ov iv u Q I ro ri rv h;obtain⟨p,xs,k,j,rfl,rfl,hp,hj,q⟩:=h
 cases ro
 obtain⟨t,rfl⟩:=ri;obtain⟨its,n,r,ho,hz⟩:=I.lst hp;obtain⟨h1,h2,h3,h4⟩:=w4 hj;have hl:=r.length;have hn:=rJ;have I':aN X pins σ (cV H p (.lst (xs.set j v))) {s with heap:=s.heap.update p (Obj.mapSeq (·.setIfInBounds j u))}:=
  I.lstUpd hp ho (vx its n j u) (r.set rv j) (by rw[List.length_set];exact hz) s.toks
 by_cases h0:0<=k
 ·have hk:k.toNat=j:=by
   rw[seqIndex_of h0 h4]at h1;exact Option.some.inj h1
  exact PySem.W.ki_setAt ho h0 (by omega) (by rw[List.size_toArray,<-hl];exact h4) (by rw[hk];exact⟨_,I',q⟩)
 ·have hk:(k+(its.toArray.size:Int)).toNat=j:=by
   rw[seqIndex_neg (by omega) h3]at h1
   rw[List.size_toArray,<-hl];exact Option.some.inj h1
  exact PySem.W.ki_setBack ho (by omega) (by rw[List.size_toArray,<-hl];exact h3) (by omega) (by rw[hk];exact⟨_,I',q⟩)
theorem rW (lo hi:Option Int)(n:Nat):(sliceBounds lo hi none n).1=((HT.sIx n 0 lo:Nat):Int)/\(sliceBounds lo hi none n).2.1=((HT.sIx n n hi:Nat):Int)/\(sliceBounds lo hi none n).2.2=1:=by
 refine⟨?_,?_,rfl⟩
 ·cases lo with
  | none=>simp[sliceBounds,HT.sIx]
  | some i=>
   simp only[sliceBounds,HT.sIx,Option.getD_none,show(1:Int)>0 by decide,if_true]
   by_cases h:i<0
   ·simp only[h,if_true] <;> omega
   ·simp only[h,if_false] <;> omega
 ·cases hi with
  | none=>simp[sliceBounds,HT.sIx]
  | some i=>
   simp only[sliceBounds,HT.sIx,Option.getD_none,show(1:Int)>0 by decide,if_true]
   by_cases h:i<0
   ·simp only[h,if_true] <;> omega
   ·simp only[h,if_false] <;> omega
theorem o4 (its:List Value)(lo hi:Option Int):slicePick its.toArray lo hi none=((its.drop (HT.sIx its.length 0 lo)).take (HT.sIx its.length its.length hi-HT.sIx its.length 0 lo)).toArray:=by
 obtain⟨h1,h2,h3⟩:=rW lo hi its.toArray.size;unfold slicePick;rw[h1,h2,h3];simp only[sliceRange_one,pick_run,List.size_toArray] <;> rfl
def Ob (K:PySem.W.Frag):V->Option Int->Option Int->Hp->VK->Prop:=fun x lo hi H Q=>∃ a xs,x=.ref a/\cD K H a xs/\∀ p,H p=none->Q (.ref p) (cV H p (.lst (yb xs lo hi)))
theorem GC:KR X (Ob X.K):=by
 intro pins s σ H x v vl vu lo hi sl Q I rx hs pl pu h;obtain⟨a,xs,rfl,hx,q⟩:=h
 cases rx
 obtain⟨its,r,ht,hz⟩:=I.list hx;have hlen:=r.length;refine⟨"list",_,slot_list_getitem.lookup,ht.isList.typeIs,?_⟩;refine wpAny_getItem_list_slice ht.isList hs pl pu .none (by simp) ?_ (by rw[List.size_toArray] <;> omega)
 rw[o4,<-hlen];refine⟨.ref s.heap.objs.size,_,I.laid (t':=s.toks) (o:=.lst (yb xs lo hi)) (fun b ob q=>Heap.get?_push_of_some _ q) (Nat.le_refl _) ?_,rfl,q _ (I.hok.fresh (Nat.le_refl _))⟩;exact⟨Nat.le_trans (td xs lo hi) hz,_,0,(r.drop (HT.sIx xs.length 0 lo)).take (HT.sIx xs.length xs.length hi-HT.sIx xs.length 0 lo),Heap.get?_push_size _ rfl⟩
theorem qi:eW X (.builtin "len") (fun xs H Q=>∃ p ys,xs=[.ref p]/\(cD X.K H p ys\/iD X.K H p ys)/\Q (.int ys.length) H):=by
 intro pins s σ H xs us Q I r h;obtain⟨p,ys,rfl,hq,q⟩:=h;obtain⟨u,rfl,rx⟩:=vals1 r
 cases rx
 have hn:=rJ
 rcases hq with hq|hq
 ·obtain⟨its,r',pl,hz⟩:=I.list hq;have hlen:=r'.length;exact Calls.call_len_list pl.isList (by simp only[List.size_toArray] <;> omega) ⟨.int ys.length,H,I.tok _,⟨s.toks+1,by rw[List.size_toArray,hlen]⟩,q⟩
 ·obtain⟨its,r',pl,hz⟩:=I.tuple hq;have hlen:=r'.length;exact len_tuple pl (by simp only[List.size_toArray] <;> omega) ⟨.int ys.length,H,I.tok _,⟨s.toks+1,by rw[List.size_toArray,hlen]⟩,q⟩
theorem eW.or {f:Value}{r r':List V->Hp->VK->Prop}(h:eW X f r)(h':eW X f r'):eW X f (fun xs H Q=>r xs H Q\/r' xs H Q):=by
 intro pins s σ H xs us Q I rs q
 rcases q with q|q
 ·exact h pins s σ H xs us Q I rs q
 ·exact h' pins s σ H xs us Q I rs q
theorem qj:eW X (.type "list") (fun xs H Q=>∃ p ys,xs=[.ref p]/\(cD X.K H p ys\/iD X.K H p ys)/\∀ l,H l=none->Q (.ref l) (cV H l (.lst ys))):=by
 intro pins s σ H xs us Q I r h;obtain⟨p,ys,rfl,hq,q⟩:=h;obtain⟨u,rfl,rx⟩:=vals1 r
 cases rx
 have fin:∀ (its:List Value),aT ys its->ys.length<=sizeLine->∀ (h':Heap) (c':Nat),(∀ b o',s.heap.get? b=some o'->h'.get? b=some o') →
   h'.get? s.heap.objs.size=some {cls:=.type "list",dict:=none,data:=.seq its.toArray c',slots:=#[]}->EP X pins σ Q (.ref s.heap.objs.size) {s with heap:=h'}:=fun its r' hz h' c' kp e=>
  ⟨.ref s.heap.objs.size,_,I.laid (t':=s.toks) kp (Nat.le_refl _) (show eX X.prog X.w _ h' _ (.lst ys) from⟨hz,its,c',r',e⟩),rfl,q _ (I.hok.fresh (Nat.le_refl _))⟩
 rcases hq with hq|hq
 ·obtain⟨its,r',pl,hz⟩:=I.list hq;have hlen:=r'.length;obtain⟨o,ho,hc,n,hd⟩:=pl.isList;exact call_list_seq p (.inl rfl) ho hc hd (fun h' c' kp e=>fin its r' hz h' c' kp e) (by simp only[List.size_toArray] <;> omega)
 ·obtain⟨its,r',pl,hz⟩:=I.tuple hq;have hlen:=r'.length;obtain⟨o,ho,hc,n,hd⟩:=pl;exact call_list_seq p (.inr rfl) ho hc hd (fun h' c' kp e=>fin its r' hz h' c' kp e) (by simp only[List.size_toArray] <;> omega)
def ON (K:PySem.W.Frag)(T:String)(x:V)(H:Hp):Prop:=match x with
 | .str _=>T="str"
 | .int _=>T="int"
 | .ref p=>(T="list"/\∃ xs,cD K H p xs)\/(T="tuple"/\∃ o,K.lookup p=some o/\o.cls=.type "tuple"/\o.dict=none) ∨
   (T="dict"/\((∃ kvs,H p=some (.dK kvs))\/∃ kvs,H p=some (.dT kvs)))\/(T="set"/\∃ S n,H p=some (.set S n))
 | _=>False
theorem KC {pins:List (Addr × Obj)}{σ:St}{H:Hp}{s:Shared}{T:String}{x:V}{v:Value}(I:aN X pins σ H s)(r:RelV x v)(ty:ON X.K T x H) :
  s.TypeIs v T/\∀ a,v=.ref a->∃ ob,s.heap.get? a=some ob/\ob.dict=none:=by
 cases x with
 | str z=>
  obtain⟨t,rfl⟩:=r
  cases (show T="str" from ty)
  exact⟨typeIs_str s z t,fun _ e=>nomatch e⟩
 | int i=>
  obtain⟨t,rfl⟩:=r
  cases (show T="int" from ty)
  exact⟨typeIs_int s i t,fun _ e=>nomatch e⟩
 | ref p=>
  cases r
  rcases ty with ⟨rfl,xs,hq⟩|⟨rfl,o,hk,hc,hd⟩|⟨rfl,hk⟩|⟨rfl,S,n,hk⟩
  ·obtain⟨its,_,pl,_⟩:=I.list hq;refine⟨pl.isList.typeIs,fun a e=>?_⟩
   cases e
   obtain⟨o,n,e,c,hd,_⟩:=pl;exact⟨o,e,hd⟩
  ·refine⟨⟨o,I.kIn p o hk,hc⟩,fun a e=>?_⟩
   cases e
   exact⟨o,I.kIn _ o hk,hd⟩
  ·have z:∃ o,s.heap.get? p=some o/\o.ExactDict:=by
    rcases hk with ⟨kvs,hk⟩|⟨kvs,hk⟩
    ·obtain⟨_,_,_,_,o,_,_,e,ex,_⟩:=I.hok p _ hk;exact⟨o,e,ex⟩
    ·obtain⟨_,_,_,_,o,_,_,e,ex,_⟩:=I.hok p _ hk;exact⟨o,e,ex⟩
   obtain⟨o,e,ex⟩:=z;refine⟨⟨o,e,ex.1⟩,fun a e2=>?_⟩
   cases e2
   exact⟨o,e,ex.2.1⟩
  ·obtain⟨o,_,_,_,e,ex,_⟩:=I.hok p _ hk;refine⟨⟨o,e,ex.1⟩,fun a e2=>?_⟩
   cases e2
   exact⟨o,e,ex.2.1⟩
 | _=>exact False.elim ty
def O2 (K:PySem.W.Frag)(T:String)(r:V->List V->Hp->VK->Prop)(to:TE)(t:TA):TE:=fun σ H Q=>to σ H fun x H1=>ON K T x H1/\t σ H1 fun xs H2=>r x xs H2 Q
variable {o e:Expr}{es:List Expr}{to:TE}{t:TA}{name:Str}{apos cpos:Pos}{T id:String}{r:V->List V->Hp->VK->Prop}
theorem Hd (pa:PlainAttrs T) (slot:Slot T name id) (hty:typeOf (.builtin id)=pure (.type "method_descriptor")) (hm:K7 X id r) (ho:PE X o to) (ha:PA X (e::es) t)
  (hbase:attributeBase o name X.env (eval o X.env)=eval o X.env:=by rfl)
  (hfew:((backTo cpos (starEach (e::es) X.env)).all (fun x=>!x.1) && (backToKw cpos (keywordEach [] X.env)).all (fun x=>x.1.isSome)
   && decide ((e::es).length+([]:List Keyword).length+(if ([]:List Keyword).isEmpty then 0 else 1)<30))=true:=by rfl)
  (hline:(apos.endLine == cpos.line)=true:=by rfl) (hs:starEach (e::es) X.env=(false,eval e X.env)::starEach es X.env:=by rfl) (hplain:(backTo cpos (starEach es X.env)).any (·.1)=false:=by rfl) :
  PE X (.Call (.Attribute o name apos) (e::es) [] cpos) (O2 X.K T r to t):=by
 intro pins s σ H Q I h;refine wpAny_Call_method_late hbase hfew hline rfl (cQ (ho pins s σ H _ I h) fun v s1 ⟨x,H1,I1,r1,ty,q1⟩=>?_);obtain⟨h1,h2⟩:=KC I1 r1 ty;refine⟨T,id,pa,slot,hty,h1,h2,?_⟩;have hA:=ha cpos pins s1 σ H1 _ I1 q1;rw[hs]at hA ⊢;refine Calls.callWith_builtin (by show(false || (backTo cpos (starEach es X.env)).any (·.1))=false;rw[hplain] <;> rfl) (Calls.evalArgs_plain ?_)
 exact cQ hA fun us s2 ⟨vs,H2,I2,r2,q2⟩=>hm pins s2 σ H2 x vs v us Q I2 r1 r2 q2
end
end L2
namespace L2
open PySem PySem.Spec PyProof.Rows
def OC (X:Cx)(id:String)(r:V->List V->Hp->VK->Prop):Prop:=
 ∀ (pins:List (Addr × Obj)) (s:Shared) (σ:St) (H:Hp) (x:V) (xs:List V) (v:Value) (us:List Value) (Q:VK),aN X pins σ H s->RelV x v->aT xs us->r x xs H Q →
  wpAny (model X.prog X.w) X.A (call (.builtin id) (v::us)) (EP X pins σ Q) X.xe s
theorem aT.one:∀ {x:V}{us:List Value},aT [x] us->∃ u,us=[u]/\RelV x u
 | _,_,.cons r .nil=>⟨_,rfl,r⟩
theorem aT.two:∀ {x y:V}{us:List Value},aT [x,y] us->∃ u v,us=[u,v]/\RelV x u/\RelV y v
 | _,_,_,.cons r (.cons q .nil)=>⟨_,_,rfl,r,q⟩
theorem aT.zero:∀ {us:List Value},aT [] us->us=[]
 | _,.nil=>rfl
theorem aT.dropLast {xs:List V}{us:List Value}(h:aT xs us):aT xs.dropLast us.dropLast:=by
 induction h with
 | nil=>exact .nil
 | cons r t ih=>
  cases t with
  | nil=>exact .nil
  | cons q t'=>exact .cons r ih
theorem aT.eraseIdx:∀ {xs:List V}{us:List Value} (i:Nat),aT xs us->aT (xs.eraseIdx i) (us.eraseIdx i)
 | _,_,_,.nil=>.nil
 | _,_,0,.cons _ t=>t
 | _,_,i+1,.cons r t=>.cons r (aT.eraseIdx i t)
theorem aT.reverse {xs:List V}{us:List Value}(h:aT xs us):aT xs.reverse us.reverse:=by
 induction h with
 | nil=>exact .nil
 | cons r t ih=>rw[List.reverse_cons,List.reverse_cons];exact aT.append ih (.cons r .nil)
section
variable {X:Cx}{pins:List (Addr × Obj)}{σ:St}{H:Hp}{s:Shared}{l b:Addr}{xs ys zs:List V}
theorem aN.lset {its its':List Value}{n:Nat}{f:Array Value->Array Value}{t':Nat}(I:aN X pins σ H s)(hH:H l=some (.lst xs))
  (e:s.heap.get? l=some {cls:=.type "list",data:=.seq its.toArray n}) (hf:f its.toArray=its'.toArray) (hv:aT ys its') (hz:ys.length<=sizeLine) :
  aN X pins σ (cV H l (.lst ys)) {s with heap:=s.heap.update l (Obj.mapSeq f),toks:=t'}:=by
 have q:=PySem.IsL.update e f;rw[hf]at q;refine I.write (x:=l) (e:=l) (by rw[hH];exact trivial) (.inl rfl) (fun b' u hb hu=>(Heap.get?_update_other s.heap (Obj.mapSeq f) (Ne.symm hb)).trans hu) ⟨_,q⟩ ?_
 exact⟨hz,its',_,hv,q⟩
theorem aN.lnew {its:List Value}{t':Nat}(I:aN X pins σ H s)(hv:aT ys its)(hz:ys.length<=sizeLine) :
  aN X pins σ (cV H s.heap.objs.size (.lst ys)) {s with heap:=s.heap.push {cls:=.type "list",data:=.seq its.toArray},toks:=t'}:=
 I.laid (fun _ _ q=>Heap.get?_push_of_some _ q) (Nat.le_refl _) ⟨hz,its,0,hv,Heap.get?_push_size _ rfl⟩
theorem aN.fresh (I:aN X pins σ H s):H s.heap.objs.size=none:=I.hok.fresh (Nat.le_refl _)
theorem aN.lstM (I:aN X pins σ H s) (hH:H l=some (.lst xs)):xs.length<=sizeLine/\∃ (its:List Value) (n:Nat),aT xs its/\xs.length=its.length/\s.heap.get? l=some {cls:=.type "list",data:=.seq its.toArray n}:=by
 obtain⟨z,its,n,r,e⟩:=I.hok l _ hH;exact⟨z,its,n,r,r.length,e⟩
theorem CZ {n:Nat}(h:n<=sizeLine):Builtin.List.listTooLong n=false:=by
 unfold Builtin.List.listTooLong;exact decide_eq_false (by omega)
end
section
variable {X:Cx}
def Gr:V->List V->Hp->VK->Prop:=fun x vs H Q=>∃ l xs y,x=.ref l/\vs=[y]/\H l=some (.lst xs)/\xs.length<sizeLine/\Q .non (cV H l (.lst (xs++[y])))
theorem pJ:OC X "list.append" Gr:=by
 intro pins s σ H x vs v us Q I rx rv h;obtain⟨l,xs,y,rfl,rfl,hH,hz,q⟩:=h
 cases rx
 obtain⟨u,rfl,ru⟩:=rv.one;obtain⟨z,its,n,r,hl,e⟩:=I.lstM hH;refine call_meets F.slot_list_append ⟨_,e,rfl⟩ F.entry_list_append (F.args_list_append_2 _ _) (PySem.list_append l its.toArray n u (by rw[List.size_toArray];omega)) ⟨e,?_⟩
 refine⟨.non,_,I.lset (its':=its++[u]) hH e (by simp) (r.append (.cons ru .nil)) ?_,rfl,q⟩
 rw[List.length_append,List.length_singleton];omega
def Gu:V->List V->Hp->VK->Prop:=fun x vs H Q=>∃ l b xs zs,x=.ref l/\vs=[.ref b]/\H l=some (.lst xs)/\H b=some (.lst zs)/\xs.length+zs.length<=sizeLine/\Q .non (cV H l (.lst (xs++zs)))
theorem yM:OC X "list.extend" Gu:=by
 intro pins s σ H x vs v us Q I rx rv h;obtain⟨l,b,xs,zs,rfl,rfl,hH,hB,hz,q⟩:=h
 cases rx
 obtain⟨u,rfl,ru⟩:=rv.one
 cases ru
 obtain⟨z,its,n,r,hl,e⟩:=I.lstM hH;obtain⟨z2,its2,n2,r2,hl2,e2⟩:=I.lstM hB;have hsz:its.toArray.size+its2.toArray.size<=sizeLine:=by rw[List.size_toArray,List.size_toArray];omega
 have hlong:¬ (!its.toArray.isEmpty && Builtin.List.listTooLong (its.toArray.size+its2.toArray.size))=true:=by
  rw[CZ hsz,Bool.and_false];exact Bool.false_ne_true
 refine call_meets F.slot_list_extend ⟨_,e,rfl⟩ F.entry_list_extend (F.args_list_extend_2 _ _)
  (AutoSeq1.list_extend_list_list_0 l its.toArray n b its2.toArray n2 hlong (by rw[List.size_toArray];omega) (by omega)) ⟨e,e2,?_⟩
 refine⟨.non,_,I.lset (its':=its++its2) hH e (by simp) (r.append r2) ?_,rfl,q⟩
 rw[List.length_append];omega
end
section
variable {prog:Program}{w:World}{A:Around}{E:Value->Shared->Prop}{s:Shared}
end
section
variable {X:Cx}
end
end L2
namespace Att
open PySem PySem.W PySem.Calls PyProof.Rows
theorem mm {P:Params}{h:Heap}:∀ (ns:List Int) (vs:List Value),WellAll P h vs (ns.map WData.int)->IntsAre vs ns:=by
 intro ns
 induction ns with
 | nil=>
  intro vs w;rw[List.map_nil]at w
  cases w
  exact .nil
 | cons n ns ih=>
  intro vs w;rw[List.map_cons]at w
  cases w with
  | cons a b=>
   cases a
   exact .cons _ _ (ih _ b)
theorem zl {l:OpenLaw}{n:Nat}(hn:l.most=some n){P:Params}{h:Heap}{args:List WData}{vals:List Value}
  (hpre:l.row.toRowW.claim.pre args=true) (hwl:WellAll P h vals args) :
  ∃ a vs ns,vals=[Value.ref a]/\args=[WData.list (ns.map WData.int)]/\h.get? a=some {cls:=.type "list",data:=.seq vs.toArray}/\IntsAre vs ns/\ns.length<=n:=by
 have hsh:WShape.hasAll [] args [.list .int]=true:=(pre_splitW hpre).1;have hc:l.pre.holds [] {args:=args}=true:=(pre_splitW hpre).2;obtain⟨d,r,rfl,h1,h2⟩:=hasAllW_cons hsh;obtain rfl:=hasAllW_nil h2;obtain⟨xs,rfl,h3⟩:=hasW_list h1;obtain⟨ns,rfl⟩:=items_int h3;have hlen:ns.length<=n:=by
  unfold OpenLaw.pre at hc;have h4:(WTm.not (.lt (.lit (.int (n:Int))) (.len (.arg 0)))).holds [] {args:=[.list (ns.map .int)]}=true:=by
   have h4:=(holds_andW hc).1;rw[hn]at h4;exact h4
  have h5:=condW_of h4 (w_not (w_lt w_lit (w_len_list (w_arg rfl))));rw[List.length_map]at h5;refine Nat.le_of_not_lt fun q=>?_;have q':(n:Int)<((ns.length:Nat):Int):=by omega
  first
   | (rw[decide_eq_true q']at h5;exact absurd h5 (by decide))
   | (simp at h5;omega)
 cases hwl with
 | cons w1 w2=>
  cases w2
  cases w1 with
  | list ho hall=>exact⟨_,_,ns,rfl,rfl,ho,mm ns _ hall,hlen⟩
theorem zg (l:OpenLaw)(args:List WData):l.row.toRowW.claim.post args (.bool true) args=true:=
 postW_of (r:=l.row.toRowW) (X:=(true == true))
  (show WShape.has [] (.bool true) .bool=true by first|rfl|decide|simp[WShape.has,WShape.arms,WShape.armsAll])
  (show(WTm.eq .res (.lit (.bool true))).value [] {args:=args,res:=some (.bool true),after:=args}=some (.bool (true == true)) from w_eq_bool (w_res rfl) w_lit) rfl
theorem attach_call {l:OpenLaw}{n:Nat}{q:Program}{loose:List Str}{XP:(Str->Option Value)->Heap->Prop}{YP:World->Heap->Prop}{d:DefRec}
  (hn:l.most=some n) (hdf:d.params.defaults=[])
  (call:∀ (w:World) (s₀ s₁:Shared) (mg mb:Str->Option Value) (fa:Addr) (o:Obj) (pm cd doc:Value) (a:Addr) (vs:List Value) (ns:List Int),
   Ground q loose [] XP w s₀ mg mb s₁.heap->YP w s₁.heap →
   s₁.heap.get? fa=some o->o.data=.func (docDef d.name d.params d.body d.scope pm cd doc)->s₁.heap.CodeRec cd d.name->mg d.name=some (.ref fa) →
   s₁.heap.get? a=some {cls:=.type "list",data:=.seq vs.toArray}->IntsAre vs ns->ns.length<=n->s₁.gens=#[] →
   codeAny (model l.prog w) callerA (.call (.ref fa) ⟨[.ref a],[]⟩) (fun r s'=>r=.ok (.ret (.bool true))/\OldK s₁.heap s'.heap/\s'.os=s₁.os/\AllBare s'.gens) s₁) :
  WalkO q loose XP YP l.row.toRowW d [] (fun f vs=>PySem.call f vs):=by
 intro w s₀ s₁ mg mb G Y fa o pm cd doc dV kV ho hd hcd hD hmg hg args vals as hpre hlay hrd hwl hlo;obtain rfl:dV=.none:=Dflts.none hD hdf;obtain rfl:kV=.none:=Dflts.noKw hD;obtain⟨a,vs,ns,rfl,rfl,hobj,hints,hlen⟩:=zl hn hpre hwl;refine enter_call (codeAny_mono (call w s₀ s₁ mg mb fa o pm cd doc a vs ns G Y ho (fd_plain hd) hcd hmg hobj hints hlen hg) fun r s' hq=>?_);obtain⟨rfl,h2,h3,h4⟩:=hq;exact⟨.inl ⟨.bool true,.bool true,[],rfl,fun _=>rfl,.bool true,zg l _,fun _=>⟨List.Pairwise.nil,fun _ hm=>(nomatch hm)⟩⟩,h2,h3,h4⟩
section
variable {prog:Program}{w:World}{A:Around}{E:Value->Shared->Prop}{s:Shared}{K:Frag}
end
end Att
namespace L2
open PySem PySem.Spec PyProof.Rows
theorem pW:∀ {vs:List Value}{ns:List Int},IntsAre vs ns->aT (ns.map V.int) vs
 | _,_,.nil=>.nil
 | _,_,.cons n t h=>.cons ⟨t,rfl⟩ (pW h)
def Hu (H:Hp):Prop:=∀ b,H b=none\/∃ o xs,H b=some (.frz o (.lst xs))
theorem BF {P:Program}{w:World}{K:PySem.W.Frag}{mg mb:Str->Option Value}{CX:wu}{k:Nat}{fa a:Addr}{fd:FuncData}{x:Str}{sp:Sp}{s₁:Shared}{vs:List Value}{ns:List Int}
  (KX:K.In s₁.heap) (hns:s₁.heap.Ns mainGlobals mg) (hb:s₁.heap.Ns builtinsNs mb) (hbb:∀ x:Str,x≠"__name__"->mb x=bootBuiltins x) (hlim:s₁.heap.NoLimit) (hg:s₁.gens=#[])
  (ha:s₁.heap.get? a=some {cls:=.type "list",data:=.seq vs.toArray}) (hi:IntsAre vs ns) (hl:ns.length<=sizeLine) (hr:b7 k callerA)
  (F:∀ base:Heap,K.In base->base.Ns mainGlobals mg->fY P w K mg base CX k fa fd [x] sp) (hbind:∀ (s:Shared) (u:Value),BindsTo s fd ⟨[u],[]⟩ [(x,u)])
  (hsp:∀ H:Hp,Hu H->cD K H a (ns.map V.int)->sp [.ref a] H (fun v _=>v=.bl true) fun _ _ _=>False)
  (hCX:∀ H e s',CX [] H s₁ (fun _ _ _=>False) e s'->False) :
  codeAny (model P w) callerA (.call (.ref fa) ⟨[.ref a],[]⟩) (fun r s'=>r=.ok (.ret (.bool true))/\OldK s₁.heap s'.heap/\s'.os=s₁.os/\AllBare s'.gens) s₁:=by
 have rv:=pW hi;have lenV:=hi.length;have core:∀ H:Hp,Hu H->cD K H a (ns.map V.int)->lb P w H s₁.heap->(∀ b,H b≠none->b=a)->(H a≠none->K.lookup a=none) →
   codeAny (model P w) callerA (.call (.ref fa) ⟨[.ref a],[]⟩) (fun r s'=>r=.ok (.ret (.bool true))/\OldK s₁.heap s'.heap/\s'.os=s₁.os/\AllBare s'.gens) s₁:=by
  intro H hO hS hok hA hK;have base_of:∀ {b:Addr}{o:Obj},s₁.heap.get? b=some o->H b=none->(qL s₁.heap H).get? b=some o:=fun e n=>Bv e n;have noA:∀ {b:Addr}{o:Obj}{es:Array DictEntry}{ep:Nat},s₁.heap.get? b=some o->o.data=.dict es ep->H b=none:=fun {b o es ep} e d=>by
   cases q:H b with
   | none=>rfl
   | some u=>
    have e':b=a:=hA b (by rw[q];simp)
    subst e';rw[ha]at e;cases e
    have d':Data.seq vs.toArray _=Data.dict es ep:=d
    cases d'
  have nsK:∀ {b:Addr}{m:Str->Option Value},s₁.heap.Ns b m->(qL s₁.heap H).Ns b m:=fun {b m} ⟨o,es,ep,e,d,r⟩=>⟨o,es,ep,base_of e (noA e d),d,r⟩;have hKb:K.In (qL s₁.heap H):=fun b o e=>base_of (KX b o e) (by
   cases q:H b with
   | none=>rfl
   | some u=>
    have e':b=a:=hA b (by rw[q];simp)
    subst e';rw[hK (by rw[q];simp)]at e;cases e)
  have hM:Mod K mg (qL s₁.heap H):=⟨hKb,nsK hns,⟨mb,nsK hb,hbb⟩,let ⟨mc,h1,h2⟩:=hlim;⟨mc,nsK h1,h2⟩⟩;have e0:uO P w K mg (qL s₁.heap H) callerA [] s₁ H:=⟨rfl,hM,fun b o e=>FJ e,Nat.le_of_eq (yt _ _),trivial,fun b hb=>absurd (show b∈([]:List Addr) from hb) (by simp),hok,.of_eq hg⟩
  refine codeAny_mono ((F _ hKb (nsK hns)).run callerA [] s₁ H ⟨[.ref a],[]⟩ [.ref a] [.ref a] _ _ hr e0 (hbind s₁ (.ref a)) (.cons rfl .nil) (hsp H hO hS)) fun r s' h=>?_
  cases r with
  | error e=>exact(hCX H e s' h).elim
  | ok fl=>
   cases fl with
   | next=>exact False.elim h
   | brk=>exact False.elim h
   | cont=>exact False.elim h
   | ret u=>
    obtain⟨v,H',os,bare,un,hok',r',q⟩:=h;have q':v=.bl true:=q;subst q';obtain rfl:u=Value.bool true:=r';refine⟨rfl,OldK.of_keep fun b o e=>?_,os,bare⟩
    cases q:H b with
    | none=>exact un.keep b o e q (by intro z;exact absurd (show b∈([]:List Addr) from z) (by simp)) (by simp)
    | some u=>
     rcases hO b with z|⟨ob,xs,z⟩
     ·rw[q]at z;cases z
     ·have z2:=un.frzs b ob _ z;obtain⟨e1,_⟩:=hok b _ z;obtain⟨e2,_⟩:=hok' b _ z2;rw[e]at e1;cases e1
      exact e2
 cases hk:K.lookup a with
 | some o=>
  have e:=KX a o hk;rw[ha]at e
  cases e
  refine core (fun _=>none) (fun _=>.inl rfl) (.inr ⟨_,vs.toArray,_,hk,rfl,rfl,rfl,by rw[List.size_toArray,lenV];exact hl,by simpa using rv⟩) (fun b u z=>by have z':(none:Option HO)=some u:=z;cases z') (fun b z=>absurd rfl z) fun z=>absurd rfl z
 | none=>
  refine core (fun b=>if b=a then some (.frz {cls:=.type "list",data:=.seq vs.toArray} (.lst (ns.map V.int))) else none) (fun b=>?_) (.inl (.inr ⟨{cls:=.type "list",data:=.seq vs.toArray},if_pos rfl⟩)) (fun b u z=>?_) (fun b z=>?_) fun _=>hk
  ·by_cases hb:b=a
   ·exact .inr ⟨_,_,if_pos hb⟩
   ·exact .inl (if_neg hb)
  ·by_cases hb:b=a
   ·have z':=(if_pos hb).symm.trans z
    cases z'
    subst hb;exact⟨ha,by rw[List.length_map];exact hl,vs,_,rv,ha⟩
   ·have z':=(if_neg hb).symm.trans z
    cases z'
  ·by_cases hb:b=a
   ·exact hb
   ·exact absurd (if_neg hb) z
end L2
namespace L2
open PySem PySem.Spec PyProof.Rows
theorem walk_of {l:PySem.W.OpenLaw}{n k:Nat}{q:Program}{loose:List Str}{XP:(Str->Option Value)->Heap->Prop}{YP:World->Heap->Prop}{d:DefRec}{K:Params->PySem.W.Frag}{CX:World->wu}{sp:World->Sp}{x:Str}
  (hn:l.most=some n) (hn2:n<=sizeLine) (hdf:d.params.defaults=[]) (hr:b7 k callerA)
  (hY:∀ (w:World) (h:Heap),YP w h->(K w.params).In h)
  (F:∀ (w:World) (mg:Str->Option Value) (fa:Addr) (h:Heap),(K w.params).In h->h.Ns mainGlobals mg->mg d.name=some (.ref fa) →
   ∃ fd:FuncData,(∀ (s:Shared) (u:Value),BindsTo s fd ⟨[u],[]⟩ [(x,u)]) ∧
    ∀ base:Heap,(K w.params).In base->base.Ns mainGlobals mg->fY l.prog w (K w.params) mg base (CX w) k fa fd [x] (sp w))
  (hsp:∀ (w:World) (H:Hp) (a:Addr) (ns:List Int),ns.length<=n->Hu H->cD (K w.params) H a (ns.map V.int)->sp w [.ref a] H (fun v _=>v=.bl true) fun _ _ _=>False)
  (hCX:∀ (w:World) (H:Hp) (s:Shared) (e:Value) (s':Shared),CX w [] H s (fun _ _ _=>False) e s'->False) :
  PySem.W.WalkO q loose XP YP l.row.toRowW d [] (fun f vs=>PySem.call f vs):=by
 refine Att.attach_call hn hdf fun w s₀ s₁ mg mb fa o pm cd doc a vs ns G Y ho hd hcd hmg hobj hints hlen hg=>?_;have KX:=hY w _ Y;obtain⟨fd,hb,hF⟩:=F w mg fa _ KX G.T.g hmg;exact BF KX G.T.g G.T.b G.T.builtins G.T.nolimit hg hobj hints (Nat.le_trans hlen hn2) hr hF hb (fun H hO hS=>hsp w H a ns hlen hO hS) fun H e s'=>hCX w H s₁ e s'
end L2
namespace L2
open PySem PySem.Spec PyProof.Rows
def gW (s:Stmt):Arguments:=match s with
 | .FunctionDef _ a _ _ _ _ _ _ _ _=>a
 | _=>{posonlyargs:=[],args:=[],vararg:=none,kwonlyargs:=[],kw_defaults:=[],kwarg:=none,defaults:=[]}
def cw (s:Stmt):List Stmt:=match s with
 | .FunctionDef _ _ b _ _ _ _ _ _ _=>b
 | _=>[]
def aj (s:Stmt):Scope:=match s with
 | .FunctionDef _ _ _ _ _ _ sc _ _ _=>sc
 | _=>{kind:=.function,names:=[],isGenerator:=false,isCoroutine:=false}
abbrev sE:wu:=fun _ _ _ _ _ _=>False
abbrev E0:XK:=fun _ _ _=>False
theorem Dd {X:Cx}:uR sE X E0:=fun _ _ _ _ _ _ _ h=>h.elim
structure D6 (K:PySem.W.Frag) (x qual:Str) (st:Stmt) (f:Addr) (fd:FuncData):Prop where
 ex:∃ (oc:Value) (od:Option Addr) (kV doc pm:Value) (an:Option Addr) (cdv ct:Value) (osl:Array (Option Value)),
  fd=PySem.W.fnOf x qual (gW st) (cw st) (aj st) .none kV doc pm an cdv ct/\K.lookup f=some ⟨oc,od,.func fd,osl⟩/\PySem.W.codeIn K cdv qual=true
 kp:PySem.W.keepIn K (.ref f)=true
section
variable {P:Program}{w:World}{K:PySem.W.Frag}{mg:Str->Option Value}{base:Heap}
theorem D6.ok {x qual:Str}{st:Stmt}{f:Addr}{fd:FuncData}{N ps:List Str}{k:Nat}{sp:Sp}(F:D6 K x qual st f fd)(S:aA N ps (aj st))(len:∀ vs H Q E,sp vs H Q E->vs.length=ps.length)
  (hbody:∀ (cdv:Value) (A:Around) (outer:List Env) (s:Shared) (H:Hp) (vs:List V) (Q:VK) (E:XK),b7 k (A.deeper (envOfC qual (aj st) s.heap.objs.size f cdv))->sp vs H Q E →
   ∃ t,gS (mi sE P w K mg base N qual (aj st) f cdv A outer s H E).nox (cw st) t/\t {nx:=fun _ H'=>Q .non H',rt:=Q} (start N vs) H):fY P w K mg base sE (k+1) f fd ps sp:=by
 obtain⟨oc,od,kV,doc,pm,an,cdv,ct,osl,rfl,lk,hcd⟩:=F.ex;refine Mb lk hcd S len fun A outer s H vs Q E hr hsp=>?_;obtain⟨t,h,q⟩:=hbody cdv A outer s H vs Q E hr hsp;exact⟨t,h.nox,q⟩
theorem D6.binds {x qual:Str}{st:Stmt}{f:Addr}{fd:FuncData}{ps:List Str}(F:D6 K x qual st f fd)
  (h:∀ (kV doc pm:Value) (an:Option Addr) (cdv ct:Value) (us:List Value),us.length=ps.length->bindArgs (PySem.W.fnOf x qual (gW st) (cw st) (aj st) .none kV doc pm an cdv ct) ⟨us,[]⟩=pure (ps.zip us)):Binds K fd ps []:=by
 obtain⟨oc,od,kV,doc,pm,an,cdv,ct,osl,rfl,lk,hcd⟩:=F.ex;exact .all (h kV doc pm an cdv ct)
theorem aU {x qual:Str}{st:Stmt}{f:Addr}{oc:Value}{od an:Option Addr}{osl:Array (Option Value)}{kV doc pm cdv ct:Value}(l:K.lookup f=some ⟨oc,od,.func (PySem.W.fnOf x qual (gW st) (cw st) (aj st) .none kV doc pm an cdv ct),osl⟩)
  (c:PySem.W.codeIn K cdv qual=true) (k:PySem.W.keepIn K (.ref f)=true):D6 K x qual st f (PySem.W.fnOf x qual (gW st) (cw st) (aj st) .none kV doc pm an cdv ct):=⟨⟨oc,od,kV,doc,pm,an,cdv,ct,osl,rfl,l,c⟩,k⟩
end
theorem zn {n:Nat}(h:n<=1000):n<sizeLine:=Nat.lt_of_le_of_lt h (by decide)
section
variable {X:Cx}
theorem pv (i:Nat) {x:Str}{pos:Pos} (hN:X.N[i]?=some x:=by rfl) (hv:Nh X.env.scope x:=by first | exact Or.inl rfl | exact Or.inr (Or.inl rfl) | exact Or.inr (Or.inr rfl)) (hd:(x == ("__debug__":Str))=false:=by decide)
  (hcd:(x == ("__classdict__":Str))=false:=by decide):PE X (.Name x pos) (j7 i):=Dh hN hv hd hcd
end
def aE (H H':Hp):Prop:=∀ b o,H b=some o->H' b=some o
theorem aE.refl (H:Hp):aE H H:=fun _ _ h=>h
theorem aE.trans {H H1 H2:Hp}(a:aE H H1)(b:aE H1 H2):aE H H2:=fun c o h=>b c o (a c o h)
theorem aE.free {H H':Hp}(e:aE H H'){l:Addr}(h:H' l=Option.none):H l=Option.none:=by
 cases q:H l with
 | none=>rfl
 | some o=>
  rw[e l o q]at h
  cases h
theorem aE.seq {K:PySem.W.Frag}{H H':Hp}{a:Addr}{xs:List V}(e:aE H H')(h:cD K H a xs):cD K H' a xs:=by
 rcases h with (h|⟨o,h⟩)|h
 ·exact .inl (.inl (e _ _ h))
 ·exact .inl (.inr ⟨o,e _ _ h⟩)
 ·exact .inr h
end L2
namespace L2
open PySem PySem.Spec PyProof.Rows
theorem jP {env:Env}:∀ (names:List (Str × NameKind)) (cs:List (Str × Addr)),(∀ y∈names,y.2=.free->∃ c,env.cells.lookup y.1=some c)->(∀ x c,cs.lookup x=some c->env.cells.lookup x=some c) →
  ∃ cl:List (Str × Addr),(forIn names cs (fun (y:Str × NameKind) (r:List (Str × Addr))=>(if (y.2 == NameKind.free)=true then (cellOf env y.1 >>= fun a=>pure (ForInStep.yield ((y.1,a)::r))) else pure (ForInStep.yield r):Sem (ForInStep (List (Str × Addr))))))=(pure cl:Sem (List (Str × Addr))) ∧
   (∀ x c,cl.lookup x=some c->env.cells.lookup x=some c)/\(∀ x,(cs.lookup x).isSome=true->(cl.lookup x).isSome=true)/\∀ y∈names,y.2=.free->(cl.lookup y.1).isSome=true
 | [],cs,_,hc=>⟨cs,by rw[List.forIn_nil],hc,fun _ h=>h,fun y hy=>by cases hy⟩
 | (n,k)::r,cs,h,hc=>by
  by_cases hk:(k == NameKind.free)=true
  ·have hk':k=.free:=by simpa using hk
   obtain⟨a,ha⟩:=h (n,k) List.mem_cons_self hk';obtain⟨cl,h1,h2,h3,h4⟩:=jP (env:=env) r ((n,a)::cs) (fun y hy=>h y (List.mem_cons_of_mem _ hy)) (fun x c e=>by
    rw[List.lookup_cons]at e
    split at e
    ·rename_i z;have:x=n:=by simpa using z
     subst this
     cases e
     exact ha
    ·exact hc x c e)
   have up:∀ x,(cs.lookup x).isSome=true->(((n,a)::cs).lookup x).isSome=true:=fun x z=>by
    rw[List.lookup_cons]
    split
    ·rfl
    ·exact z
   refine⟨cl,?_,h2,fun x z=>h3 x (up x z),fun y hy hf=>?_⟩
   ·rw[List.forIn_cons];simp only[hk,if_true];have:cellOf env n=pure a:=by unfold cellOf;rw[ha]
    rw[this];exact h1
   ·rcases List.mem_cons.mp hy with e|e
    ·subst e;exact h3 n (by rw[List.lookup_cons];simp)
    ·exact h4 y e hf
  ·obtain⟨cl,h1,h2,h3,h4⟩:=jP (env:=env) r cs (fun y hy=>h y (List.mem_cons_of_mem _ hy)) hc;refine⟨cl,?_,h2,h3,fun y hy hf=>?_⟩
   ·rw[List.forIn_cons];simp only[hk,if_false];exact h1
   ·rcases List.mem_cons.mp hy with e|e
    ·subst e;exact absurd (by simpa using hf) hk
    ·exact h4 y e hf
theorem u5 {scope:Scope}{env:Env}(h:∀ y∈scope.names,y.2=.free->∃ c,env.cells.lookup y.1=some c) :
  ∃ cl,closureFor scope env=pure cl/\(∀ x c,cl.lookup x=some c->env.cells.lookup x=some c)/\∀ y∈scope.names,y.2=.free->(cl.lookup y.1).isSome=true:=by
 obtain⟨cl,h1,h2,_,h4⟩:=jP (env:=env) scope.names [] h (fun x c e=>by cases e)
 refine⟨cl,?_,h2,h4⟩;unfold closureFor;exact(congrArg (fun z=>z >>= fun r=>pure r) h1)
structure iC (N:List Str) (no:Nat) (fr:List Nat) (NX:List Str) (sc around:Scope):Prop where
 kind:sc.kind=.function
 nocell:∀ y∈sc.names,y.2≠.cell
 nd:N.Nodup
 len:N.length=no+fr.length
 loc:∀ y∈sc.names,y.2=.local->sc.names.lookup y.1=some .local
 free:∀ y∈sc.names,y.2=.free->around.names.lookup y.1=some .cell
 own:∀ (i:Nat) (x:Str),N[i]?=some x->i<no->sc.names.lookup x=some .local
 out:∀ (j i:Nat) (x:Str),fr[j]?=some i->N[no+j]?=some x->NX[i]?=some x/\sc.names.lookup x=some .free
def DZ (own:Nat)(fr:List Nat)(σ:St):St:=List.replicate own none++fr.map fun i=>(σ[i]?).join
def cU (X:Cx)(N:List Str)(scope:Scope)(cl:List (Str × Addr))(s:Shared)(H:Hp)(fp:List Addr):Cx:=
 {X with N:=N,s₀:=s,H₀:=H,env:=compEnvC scope cl s.heap.objs.size X.env,outer:=X.stack,ex:=fp,fn:=fun _=>false,pn:=[],xe:=fun _ _=>False}
theorem j3 {env:Env}:∀ (names:List (Str × NameKind)) (x:Str),(names.map fun (n,k)=>if (k == NameKind.free && env.scope.kind == .function && env.kindOf n == some .cell) then (n,NameKind.cell) else (n,k)).lookup x =
  (names.lookup x).map fun k=>if (k == NameKind.free && env.scope.kind == .function && env.kindOf x == some .cell) then NameKind.cell else k
 | [],_=>rfl
 | (n,k)::r,x=>by
  rw[List.map_cons];show List.lookup x ((if (k == NameKind.free && env.scope.kind == .function && env.kindOf n == some .cell)=true then (n,NameKind.cell) else (n,k))::_)=_
  cases hx:x == n with
  | true=>
   have e:x=n:=by simpa using hx
   subst e
   by_cases hc:(k == NameKind.free && env.scope.kind == .function && env.kindOf x == some .cell)=true
   ·rw[if_pos hc];simp only[List.lookup_cons,hx];simp only[Option.map_some,hc,if_true]
   ·rw[if_neg hc];simp only[List.lookup_cons,hx];simp only[Option.map_some];rw[if_neg hc]
  | false=>
   by_cases hc:(k == NameKind.free && env.scope.kind == .function && env.kindOf n == some .cell)=true
   ·rw[if_pos hc];simp only[List.lookup_cons,hx];exact j3 r x
   ·rw[if_neg hc];simp only[List.lookup_cons,hx];exact j3 r x
theorem Du {scope:Scope}{env:Env}(x:Str):(relabel scope env).names.lookup x=(scope.names.lookup x).map fun k=>if (k == NameKind.free && env.scope.kind == .function && env.kindOf x == some .cell) then NameKind.cell else k:=j3 _ _
section
variable {X:Cx}{pins:List (Addr × Obj)}{σ:St}{H:Hp}{s:Shared}{N:List Str}{own:Nat}{fr:List Nat}{scope:Scope}{cl:List (Str × Addr)}{fp:List Addr}
theorem Fj (S:iC N own fr X.N scope X.env.scope)(I:aN X pins σ H s)(hcl:∀ x c,cl.lookup x=some c->X.env.cells.lookup x=some c)(hcf:∀ y∈scope.names,y.2=.free->(cl.lookup y.1).isSome=true)
  (hfp:∀ b∈fp,mR X pins H b/\b<s.heap.objs.size) {h':Heap}{t:Nat}{m:Str->Option Value} (hns:h'.Ns s.heap.objs.size m) (hk:∀ b o,s.heap.get? b=some o->h'.get? b=some o) :
  aN (cU X N scope cl s H fp) [] (DZ own fr σ) H {s with heap:=h',toks:=t}:=by
 have kd:∀ x,(cU X N scope cl s H fp).env.kindOf x=(scope.names.lookup x).map fun k=>if (k == NameKind.free && X.env.scope.kind == .function && X.env.kindOf x == some .cell) then NameKind.cell else k:=fun x=>Du x
 have memOf:∀ {l:List (Str × NameKind)}{x:Str}{k:NameKind},l.lookup x=some k->(x,k)∈l:=fun {l x k} e=>PySem.mem_of_lookup e;have isf:∀ x,((cU X N scope cl s H fp).env.kindOf x=some .cell\/(cU X N scope cl s H fp).env.kindOf x=some .free)->scope.names.lookup x=some .free:=fun x h=>by
  rw[kd]at h
  cases e:scope.names.lookup x with
  | none=>rw[e]at h;simp at h
  | some k=>
   rw[e]at h;simp only[Option.map_some,Option.some.injEq]at h
   by_cases hc:(k == NameKind.free && X.env.scope.kind == .function && X.env.kindOf x == some .cell)=true
   ·have:k=.free:=by
     rw[Bool.and_eq_true,Bool.and_eq_true]at hc;simpa using hc.1.1
    rw[this]
   ·rw[if_neg hc]at h
    rcases h with h|h
    ·exact absurd h (S.nocell _ (memOf e))
    ·rw[h]
 have cellX:∀ x c,cl.lookup x=some c->∃ v,s.heap.IsCell c v:=fun x c e=>I.cell x c (hcl x c e);have cellLt:∀ x c,cl.lookup x=some c->c<s.heap.objs.size:=fun x c e=>let ⟨v,q⟩:=cellX x c e;q.lt;refine⟨⟨I.ok.mod,S.kind,I.ok.glob,I.ok.blt,Nat.le_refl _,fun x y c h1 h2=>I.ok.inj x y c (hcl x c h1) (hcl y c h2),fun x hx=>?_,(fun x c h=>by cases h),I.ok.hd,I.ok.frames,.inl rfl,fun b hb=>⟨Nat.ne_of_lt (hfp b hb).2,fun x c e=>(hfp b hb).1.2.2.2.2.1 x c (hcl x c e)⟩,
   I.bs,Nat.le_trans I.ok.bsz I.sz,fun b o e hb=>?_,fun b hb z=>?_,I.stack,I.stkFree⟩,rfl,I.bare,Un.kept hk,⟨m,hns,fun i x v e1 e2 e3=>?_⟩,fun x c e=>?_,I.hok.fresh (Nat.le_refl _),fun x c e=>I.freeC x c (hcl x c e),fun p hp=>absurd (show p∈([]:List (Addr × Obj)) from hp) (by simp),I.hok.kept hk,?_⟩
 ·have:=hcf _ (memOf (isf x hx)) rfl;exact Option.isSome_iff_exists.mp this
 ·rcases(hfp b hb).1.2.2.2.1 with z|z
  ·exact I.ok.noex b o e z
  ·exact absurd (Nat.lt_of_lt_of_le (Heap.lt_size e) (Nat.le_trans I.ok.bsz z)) (Nat.lt_irrefl _)
 ·rcases List.mem_cons.mp (I.stkSub b z) with q|q
  ·exact(hfp b hb).1.2.1 q
  ·exact(hfp b hb).1.2.2.1 q
 ·
  have e2':(List.replicate own none++fr.map fun i=>(σ[i]?).join)[i]?=some (some v):=e2;have hi:own<=i:=by
   by_cases hi:i<own
   ·rw[List.getElem?_append_left (by simpa using hi),List.getElem?_replicate,if_pos hi]at e2'
    cases e2'
   ·omega
  rw[List.getElem?_append_right (by simpa using hi),List.length_replicate,List.getElem?_map]at e2'
  cases ef:fr[i-own]? with
  | none=>rw[ef]at e2';cases e2'
  | some k=>
   rw[ef]at e2';have ev:(σ[k]?).join=some v:=by simpa using e2'
   have ev':σ[k]?=some (some v):=by
    cases q:σ[k]? with
    | none=>rw[q]at ev;cases ev
    | some o=>rw[q]at ev;simpa using ev
   have eN:N[own+(i-own)]?=some x:=by
    rw[show own+(i-own)=i by omega];exact e1
   obtain⟨q1,q2⟩:=S.out (i-own) k x ef eN;have q3:X.env.scope.names.lookup x=some .cell:=S.free (x,.free) (memOf q2) rfl;obtain⟨mX,_,hl⟩:=I.loc;obtain⟨u,r,l⟩:=hl k x v q1 ev' (.inr (.inl q3));refine⟨u,r,?_⟩
   rcases l with ⟨l1,_⟩|⟨_,c,l2,l3⟩
   ·have:X.env.scope.names.lookup x=some .local:=l1;rw[q3]at this;cases this
   ·have hkd:(cU X N scope cl s H fp).env.kindOf x=some .cell:=by
     rw[kd,q2];simp only[Option.map_some];have e1:X.env.scope.kind=.function:=I.ok.kind;have e2:X.env.kindOf x=some .cell:=q3;rw[e1,e2]
     rfl
    have hc:=Option.isSome_iff_exists.mp (hcf (x,.free) (memOf q2) rfl);obtain⟨c',hc'⟩:=hc;have:c'=c:=by
     have:=hcl x c' hc';rw[l2]at this;exact(Option.some.inj this).symm
    subst this;exact .inr ⟨.inl hkd,c',hc',l3.keeps hk⟩
 ·obtain⟨v,q⟩:=cellX x c e;exact⟨v,q.keeps hk⟩
 ·show(DZ own fr σ).length=N.length;unfold DZ;rw[List.length_append,List.length_replicate,List.length_map,S.len]
end
abbrev GS:Value->Shared->Prop:=fun _ _=>False
section
variable {P:Program}{w:World}{A:Around}{R:Result->Shared->Prop}
def Nq (ifs:List Expr)(env:Env):Sem Bool:=
 forIn ifs true fun c r=>if r=true then do
                        let ok ← isTrue c env (eval c env)
                        pure (ForInStep.yield ok) else pure (ForInStep.yield r)
theorem Kz {env:Env}{s:Shared}{E:Value->Shared->Prop}{Q:Bool->Shared->Prop}(h:Q true s):wpAny (model P w) A (Nq [] env) Q E s:=wpAny_tests_nil h
theorem KA {env:Env}{c:Expr}{s:Shared}{E:Value->Shared->Prop}{Q:Bool->Shared->Prop}(h:wpAny (model P w) A (isTrue c env (eval c env)) Q E s):wpAny (model P w) A (Nq [c] env) Q E s:=wpAny_tests_one h
theorem u4 {elt tg iter:Expr}{ifs:List Expr}{sc:Scope}{pos:Pos}{it acc:Value}{env:Env}{s:Shared}(J:Nat->Shared->Prop)
  (go:∀ n s,J n s->wpAny (model P w) A (pyNext it) (fun r s1=>match r with
   | none=>R (.ok .next) s1
   | some v=>wpAny (model P w) A (letOwnedTupleGo tg it v) (fun _ s2=>wpAny (model P w) A (assign tg env v) (fun _ s3=>wpAny (model P w) A (Nq ifs env) (fun ok s4=>
     if ok=true then wpAny (model P w) A (eval elt env) (fun x s5=>wpAny (model P w) A (call (.builtin "list.append") [acc,x]) (fun _ s6=>∃ m,m<n/\J m s6) GS s5) GS s4
     else ∃ m,m<n/\J m s4) GS s3) GS s2) GS s1) GS s)
  (n:Nat) (h:J n s):codeAny (model P w) A (.compLoop (.ListComp elt [⟨tg,iter,ifs,0⟩] sc pos) 0 it acc env) R s:=by
 have ex:∀ {α:Type}{t:Sem α}{Q:α->Shared->Prop}{s:Shared}{E:Value->Shared->Prop},wpAny (model P w) A t Q GS s->wpAny (model P w) A t Q E s:=fun hh=>wpAny_mono hh (fun _ _ q=>q) fun _ _ z=>z.elim;refine codeAny_loop rfl J (fun n s hJ=>?_) n h;show wpAny _ _ ((compTurn _ 0 it acc env).onRaise (fun x=>do noteFrame x env;theTreesLotGoes x)) _ _ s
 refine wpAny_noted ?_;rw[compTurn_list];refine wpAny_bind (wpAny_standAt (wpAny_bind (cQ (ex (go n s hJ)) fun r s1 h1=>?_)))
 cases r with
 | none=>exact wpAny_pure h1
 | some v=>
  refine wpAny_bind (cQ (ex h1) fun _ s2 h2=>wpAny_bind (cQ (ex h2) fun _ s3 h3=>?_));refine wpAny_bind (cQ (ex h3) fun ok s4 h4=>?_)
  cases ok with
  | false=>exact wpAny_pure ⟨rfl,h4⟩
  | true=>
   exact wpAny_bind (wpAny_bind (cQ (ex h4) fun x s5 h5=>wpAny_bind (cQ (ex h5) fun _ s6 h6=>wpAny_pure (wpAny_pure ⟨rfl,h6⟩))))
end
def xB (own:Nat)(fr:List Nat)(wi:TI)(g:TG)(tc:TT)(te:TE):TE:=fun σ H Q=>wi σ H fun J H1=>∀ D,H1 D=none->∃ W:Nat->Nat->St->Hp->Prop,(∃ m,W 0 m (DZ own fr σ) (cV H1 D (.lst [])))/\∀ i m σ' H',W i m σ' H' →
 (J.stop i H'/\Q (.ref D) H')\/(J.go i H'/\∀ x H2,J.yld i H' x H2->g x σ' H2 fun σ2 H3=>tc σ2 H3 fun ok H4=>
  if ok=true then te σ2 H4 fun v H5=>∃ xs,H5 D=some (.lst xs)/\xs.length<sizeLine/\∃ m',m'<m/\W (i+1) m' σ2 (cV H5 D (.lst (xs++[v])))
  else ∃ m',m'<m/\W (i+1) m' σ2 H4)
def Ea (Y:Cx)(ifs:List Expr)(t:TT):Prop:=
 ∀ (pins:List (Addr × Obj)) (s:Shared) (σ:St) (H:Hp) (Q:Bool->Hp->Prop),aN Y pins σ H s->t σ H Q->wpAny (model Y.prog Y.w) Y.A (Nq ifs Y.env) (TP Y pins σ Q) Y.xe s
theorem Ge {Y:Cx}:Ea Y [] (fun σ H Q=>Q true H):=fun _ _ σ H _ I h=>Kz ⟨H,I,h⟩
theorem Gf {Y:Cx}{c:Expr}{t:TT}(h:PT Y c t):Ea Y [c] t:=fun pins s σ H Q I q=>KA (h pins s σ H Q I q)
section
variable {X:Cx}{N:List Str}{own:Nat}{fr:List Nat}{scope:Scope}{elt tg iter:Expr}{ifs:List Expr}{pos:Pos}{wi:TI}{g:TG}{tc:TT}{te:TE}
theorem Turn.fpLt {P:Program}{w:World}{K:PySem.W.Frag}{J:It}{fp:List Addr}{it:Addr}{tn:Nat->Heap->Prop}(T:Turn P w K tg J fp it tn){i:Nat}{h:Heap}(st:tn i h):∀ b∈fp,b<h.objs.size:=fun b hb=>by
 obtain⟨o,e,_⟩:=T.obj i h st b hb;exact Heap.lt_size e
def CompEnd (X:Cx)(pins:List (Addr × Obj))(σ:St)(Q:VK)(use:Option (Value->Sem Unit))(QQ:Value->Shared->Prop):Prop:=
 ∀ (D C:Addr) (H':Hp) (s5:Shared) (m5:Str->Option Value),(∀ h6,Heap.SameBut C s5.heap h6->aN X pins σ H' {s5 with heap:=h6})->s5.heap.Ns C m5->H' C=none->X.s₀.heap.objs.size<=C->X.env.locals≠C->(∀ x c,X.env.cells.lookup x=some c->c≠C)->(∀ p∈X.pn++pins,p.1≠C)->Q (.ref D) H' →
  compPost (model X.prog X.w) X.A X.xe use QQ (.ref D) C (.ok .next) s5
theorem pp {use:Option (Value->Sem Unit)}{QQ:Value->Shared->Prop}{ps:Pos}(S:iC N own fr X.N scope X.env.scope)(hc:X.calm=true)(hi:PI X tg iter wi)
  (hg:∀ cl s H fp,PG (cU X N scope cl s H fp) tg g) (ht:∀ cl s H fp,Ea (cU X N scope cl s H fp) ifs tc) (he:∀ cl s H fp,PE (cU X N scope cl s H fp) elt te)
  (hs:∀ x,foldedSetIterable iter X.env x=pure x) {pins:List (Addr × Obj)}{s:Shared}{σ:St}{H:Hp}{Q:VK} (I:aN X pins σ H s) (h:xB own fr wi g tc te σ H Q) (finish:CompEnd X pins σ Q use QQ) :
  wpAny (model X.prog X.w) X.A (comprehension (.ListComp elt [⟨tg,iter,ifs,0⟩] scope pos) scope X.env ps (newList []) false (eval iter X.env) use) QQ X.xe s:=by
 obtain⟨cl,hclos,hcl,hcf⟩:=u5 (scope:=scope) (env:=X.env) fun y hy hf=>I.ok.has y.1 (.inl (S.free y hy hf));refine wpAny_comprehension_free (use:=use) rfl hs hclos S.kind S.loc (cQ (hi pins s σ H _ I h) fun v s1 h1=>cQ h1 fun itv s2 h2=>?_);obtain⟨it,fp,tn,J,H2,e,I2,T,st2,f2,h2⟩:=h2;subst e;refine wpAny_newObj_type ?_ (Nat.zero_le _);have fr2:H2 s2.heap.objs.size=none:=I2.hok.fresh (Nat.le_refl _);obtain⟨W,⟨m0,w0⟩,turn⟩:=h2 s2.heap.objs.size fr2;have I3:aN X pins σ (cV H2 s2.heap.objs.size (.lst [])) {s2 with heap:=s2.heap.push {cls:=.type "list",data:=.seq ([]:List Value).toArray}}:=I2.lnew (t':=s2.toks) (its:=[]) .nil (Nat.zero_le _);have st3:tn 0 (s2.heap.push {cls:=.type "list",data:=.seq ([]:List Value).toArray}):=T.keep _ _ _ st2 fun b _ o e=>Heap.get?_push_of_some _ e;generalize KW:({s2 with heap:=s2.heap.push {cls:=.type "list",data:=.seq ([]:List Value).toArray}}:Shared)=s3 at I3;have st3':tn 0 s3.heap:=by rw[<-KW];exact st3
 have f3:∀ b∈fp,mR X pins (cV H2 s2.heap.objs.size (.lst [])) b:=fun b hb=>by
  obtain⟨q0,q⟩:=f2 b hb;refine⟨?_,q⟩;rw[bQ (Nat.ne_of_lt (T.fpLt st2 b hb))];exact q0
 refine wpAny_newFunctionEnv S.nocell (fun y hy=>by cases hy) (fun h4 hns4 hsb4=>?_) S.kind
 have hk4:∀ b o,s3.heap.get? b=some o->h4.get? b=some o:=fun b o e=>hsb4.extBut b o (Nat.ne_of_lt (Heap.lt_size e)) (Heap.get?_push_of_some _ e);have I4:aN (cU X N scope cl s3 (cV H2 s2.heap.objs.size (.lst [])) fp) [] (DZ own fr σ) (cV H2 s2.heap.objs.size (.lst [])) {s3 with heap:=h4,toks:=s3.toks+([]:List (Str × Value)).length}:=
  Fj S I3 hcl hcf (fun b hb=>⟨f3 b hb,T.fpLt st3' b hb⟩) hns4 hk4
 have st4:tn 0 h4:=T.keep _ _ _ st3' fun b _ o e=>hk4 b o e;generalize hY:cU X N scope cl s3 (cV H2 s2.heap.objs.size (.lst [])) fp=Y at I4;have hg':=hg cl s3 (cV H2 s2.heap.objs.size (.lst [])) fp;have ht':=ht cl s3 (cV H2 s2.heap.objs.size (.lst [])) fp;have he':=he cl s3 (cV H2 s2.heap.objs.size (.lst [])) fp;rw[hY]at hg' ht' he';have yp:Y.prog=X.prog:=by rw[<-hY];rfl
 have yw:Y.w=X.w:=by rw[<-hY];rfl
 have yK:Y.K=X.K:=by rw[<-hY];rfl
 have yA:Y.A=X.A:=by rw[<-hY];rfl
 have yc:Y.calm=true:=by rw[<-hY];exact hc
 have yx:Y.xe=GS:=by rw[<-hY];rfl
 have ye:Y.env=compEnvC scope cl s3.heap.objs.size X.env:=by rw[<-hY];rfl
 have fin:∀ {σ':St}{H':Hp}{s5:Shared},aN Y [] σ' H' s5->Q (.ref s2.heap.objs.size) H'->compPost (model X.prog X.w) X.A X.xe use QQ (.ref s2.heap.objs.size) s3.heap.objs.size (.ok .next) s5:=fun {σ' H' s5} I5 q=>by
  obtain⟨m5,hn5,_⟩:=I5.loc;have yl:Y.env.locals=s3.heap.objs.size:=by rw[ye];rfl
  rw[yl]at hn5;have un:=I5.base;have y1:Y.fs=uL X.stack:=by rw[<-hY];rfl
  have y2:Y.ex=fp:=by rw[<-hY];rfl
  have y3:Y.H₀=cV H2 s2.heap.objs.size (.lst []):=by rw[<-hY];rfl
  have y4:Y.s₀=s3:=by rw[<-hY];rfl
  rw[y1,y2,y3,y4]at un;have free6:H' s3.heap.objs.size=none:=by rw[<-yl];exact I5.free
  refine finish s2.heap.objs.size s3.heap.objs.size H' s5 m5 (fun h6 hs6=>?_) hn5 free6 I3.sz (Nat.ne_of_lt I3.lt) (fun x c e=>?_) (fun p hp=>?_) q
  ·have k6:∀ b o,b≠s3.heap.objs.size->s5.heap.get? b=some o->h6.get? b=some o:=fun b o hb e=>hs6.extBut b o hb e;have old:∀ b o,s3.heap.get? b=some o->b≠s3.heap.objs.size:=fun b o e=>Nat.ne_of_lt (Heap.lt_size e);have un6:Un (uL X.stack) fp (cV H2 s2.heap.objs.size (.lst [])) H' s3.heap h6:=
    ⟨fun b o e n hb hx=>k6 b o (old b o e) (un.keep b o e n hb hx),fun b o e n hb hx=>by obtain⟨sl,q⟩:=un.slot b o e n hb hx;exact⟨sl,k6 b _ (old b o e) q⟩,un.free,fun b o e hx=>by obtain⟨o',q⟩:=un.there b o e hx;exact⟨o',k6 b o' (old b o e) q⟩,un.tups,un.frzs,un.tbls⟩
   have hok6:lb X.prog X.w H' h6:=by
    have:=I5.hok;rw[yp,yw]at this;refine fun a o e=>(this a o e).stay (fun b u hb q=>k6 b u ?_ q) (fun _ z=>z) fun _ _ z=>z
    rcases hb with z|z
    ·subst z;intro z;rw[z,free6]at e;cases e
    ·intro y;rw[y,free6]at z;cases z
   obtain⟨hh,gg,dd,tt,os'⟩:=s5;have ho:os'=s3.os:=by have:=I5.os;rw[y4]at this;exact this
   subst ho;refine aN.call (s:=s3) I3 (h':=h6) (g':=gg) (d':=dd) (t':=tt) (ch:=fp) un6 hok6 I5.bare (fun b hb=>?_);obtain⟨_,q1,_,q3,q4,q5⟩:=f3 b hb;exact⟨q3,q1,q4,q5⟩
  ·obtain⟨v,oc,ho,_⟩:=I3.cell x c e;exact Nat.ne_of_lt (Heap.lt_size ho)
  ·obtain⟨e,_⟩:=I3.pin p hp;exact Nat.ne_of_lt (Heap.lt_size e)
 have loop:∀ s4:Shared,aN Y [] (DZ own fr σ) (cV H2 s2.heap.objs.size (.lst [])) s4->tn 0 s4.heap->codeAny (model X.prog X.w) X.A (.compLoop (.ListComp elt [⟨tg,iter,ifs,0⟩] scope pos) 0 (.ref it) (.ref s2.heap.objs.size) (compEnvC scope cl s3.heap.objs.size X.env))
   (compPost (model X.prog X.w) X.A X.xe use QQ (.ref s2.heap.objs.size) s3.heap.objs.size) s4:=by
  intro s4 I4 st4;have stat:∀ {H':Hp},(∀ b∈fp,H' b=none)->∀ b∈fp,mR Y [] H' b:=fun {H'} hn b hb=>by
   obtain⟨_,q1,q2,q3,q4,q5⟩:=f3 b hb;refine⟨hn b hb,?_,?_,?_,fun x c e=>?_,fun p hp=>?_⟩
   ·rw[ye];exact Nat.ne_of_lt (T.fpLt st3' b hb)
   ·have:Y.fs=uL X.stack:=by rw[<-hY];rfl
    rw[this];intro z
    rcases List.mem_cons.mp (I3.stkSub b z) with q|q
    ·exact q1 q
    ·exact q2 q
   ·left;rw[<-hY];exact hb
   ·rw[ye]at e;exact q4 x c (hcl x c e)
   ·rw[<-hY]at hp;cases hp
  refine u4 (fun n s'=>∃ i σ' H',aN Y [] σ' H' s'/\tn i s'.heap/\(∀ b∈fp,H' b=none)/\W i n σ' H') ?_ m0 ⟨0,_,_,I4,st4,fun b hb=>(f3 b hb).1,w0⟩;rintro n s5 ⟨i,σ5,H5,I5,st5,fr5,w5⟩;rw[<-yp,<-yw,<-yA,<-ye,<-yx];have T':Turn Y.prog Y.w Y.K tg J fp it tn:=by rw[yp,yw,yK];exact T
  rcases turn i n σ5 H5 w5 with ⟨stop,qn⟩|⟨go,step⟩
  ·refine cQ (T'.done Y rfl rfl rfl yc i [] s5 σ5 H5 Y.xe I5 (stat fr5) st5 stop) fun r s6 ⟨hr,I6⟩=>?_;subst hr;have q:=fin I6 qn;rw[<-yp,<-yw,<-yA]at q;exact q
  ·refine cQ (T'.item Y rfl rfl rfl yc i [] s5 σ5 H5 Y.xe I5 (stat fr5) st5 go) fun r s6 ⟨u,hr,h6⟩=>?_;subst hr;refine cQ h6 fun _ s7 ⟨x,H7,I7,r7,y7,st7,fr7⟩=>?_;have I7':=I7.pinned (stat fr7) (T.obj _ _ st7);have stay:∀ {σ8:St}{H8:Hp}{s8:Shared},aN Y ([]++nV fp s7.heap) σ8 H8 s8->tn (i+1) s8.heap/\∀ b∈fp,H8 b=none:=fun {σ8 H8 s8} I8=>by
    refine⟨T.keep _ _ _ st7 fun b hb o e=>(I8.pin (b,o) (List.mem_append_right _ (List.mem_append_right _ (hW hb e)))).1,fun b hb=>?_⟩;obtain⟨o,e,d⟩:=T.obj _ _ st7 b hb;exact(I8.pin (b,o) (List.mem_append_right _ (List.mem_append_right _ (hW hb e)))).2.1
   refine cQ (hg' _ s7 σ5 H7 x u _ I7' r7 (step x H7 y7)) fun _ s8 ⟨σ8,H8,I8,q8⟩=>?_;refine cQ (ht' _ s8 σ8 H8 _ I8 q8) fun ok s9 ⟨H9,I9,q9⟩=>?_
   cases ok with
   | false=>
    obtain⟨m',hm,w9⟩:=q9;obtain⟨t9,f9⟩:=stay I9;exact⟨m',hm,i+1,σ8,H9,I9.unpinned,t9,f9,w9⟩
   | true=>
    refine cQ (he' _ s9 σ8 H9 _ I9 q9) fun y s10 ⟨v,H10,I10,r10,xs,hD,hz,m',hm,w10⟩=>?_;refine cQ (pJ (X:=Y) _ s10 σ8 H10 (.ref s2.heap.objs.size) [v] (.ref s2.heap.objs.size) [y] (fun _ H'=>H'=cV H10 s2.heap.objs.size (.lst (xs++[v]))) I10 rfl (.cons r10 .nil) ⟨_,xs,v,rfl,rfl,hD,hz,rfl⟩) fun _ s11 ⟨_,H11,I11,_,q11⟩=>?_;subst q11;obtain⟨t11,f11⟩:=stay I11;exact⟨m',hm,i+1,σ8,_,I11.unpinned,t11,f11,w10⟩
 have Oe:codeAny (model X.prog X.w) X.A (.compLoop (.ListComp elt [⟨tg,iter,ifs,0⟩] scope pos) 0 (.ref it) (.ref s2.heap.objs.size) (compEnvC scope cl s3.heap.objs.size X.env)) (compPost (model X.prog X.w) X.A X.xe use QQ (.ref s2.heap.objs.size) s3.heap.objs.size) {s3 with heap:=h4,toks:=s3.toks+([]:List (Str × Value)).length}:=
  loop _ I4 st4
 exact codeAny_compStart_list Oe (T.self X.A 0 _ _ _ st4 Oe)
theorem F6 (S:iC N own fr X.N scope X.env.scope)(hc:X.calm=true)(hi:PI X tg iter wi)
  (hg:∀ cl s H fp,PG (cU X N scope cl s H fp) tg g) (ht:∀ cl s H fp,Ea (cU X N scope cl s H fp) ifs tc) (he:∀ cl s H fp,PE (cU X N scope cl s H fp) elt te)
  (hs:∀ x,foldedSetIterable iter X.env x=pure x:=by intro _;rfl):PE X (.ListComp elt [⟨tg,iter,ifs,0⟩] scope pos) (xB own fr wi g tc te):=by
 intro pins s σ H Q I h;rw[eval_ListComp];exact pp S hc hi hg ht he hs I h fun D C H' s5 m5 hI hn _ _ _ _ _ q=>⟨m5,hn,fun h6 hs6=>⟨.ref D,H',hI h6 hs6,rfl,q⟩⟩
theorem Gc {i:Nat}{x:Str}{pos1 pos':Pos}(hN:X.N.Nodup)(hi':X.N[i]?=some x)(hx:Loc X.env.scope x)(S:iC N own fr X.N scope X.env.scope)(hc:X.calm=true)(hi:PI X tg iter wi)
  (hg:∀ cl s H fp,PG (cU X N scope cl s H fp) tg g) (ht:∀ cl s H fp,Ea (cU X N scope cl s H fp) ifs tc) (he:∀ cl s H fp,PE (cU X N scope cl s H fp) elt te)
  (hs:∀ x,foldedSetIterable iter X.env x=pure x:=by intro _;rfl) (hw:swapsWith (.ListComp elt [⟨tg,iter,ifs,0⟩] scope pos) (some (.Name x pos')) pos1.line X.env=pure true:=by rfl) (hf:X.fn x=true\/X.env.scope.names.lookup x=some .local:=by first|exact .inl rfl|exact .inr rfl|assumption) :
  PS X (.Assign [.Name x pos'] (.ListComp elt [⟨tg,iter,ifs,0⟩] scope pos) pos1) (GH (xB own fr wi g tc te) (nD i)):=by
 intro pins s σ H D I h;rw[exec_Assign_Name_used x pos' _ pos1 hw];refine wpAny_bind (wpAny_standAt (wpAny_bind ?_));rw[arm_evalThenUse_ListComp];refine wpAny_bind (cQ (pp (use:=some (assign (.Name x pos') X.env)) (QQ:=fun _ s'=>SP X pins D .next s') S hc hi hg ht he hs I h fun D' C H' s5 m5 hI hn hfree hsz hL hcs hps q=>?_) fun _ s' h=>wpAny_pure (wpAny_pure h));show wpAny _ _ (assign (.Name x pos') X.env (.ref D')) _ _ s5;refine wpAny_assign_Name (pV (hI s5.heap (.refl ..)) hN hi' hx (show RelV (.ref D') (.ref D') from rfl) (fun s6 I6 ⟨a,hsb,ha⟩=>?_) hf);have nC:a≠C:=by
  rcases ha with z|z
  ·rw[z];exact hL
  ·exact hcs x a z
 refine⟨m5,hn.sameBut hsb (Ne.symm nC),fun h6 hs6=>?_⟩;exact⟨_,H',I6.turned (t':=s6.toks) (it:=C) (fun b o hb e=>hs6.extBut b o hb e) hfree (Ne.symm hL) (.inr hsz) hcs hps,q⟩
end
end L2
namespace ST
open PySem PySem.SetTable
def line (mask:Nat):Nat->Nat->Nat->List Nat
 | 0,_,_=>[]
 | n+1,i,p=>(List.range (runEnd mask i+1-i)).map (i + ·)++line mask n (leap mask i p).1 (leap mask i p).2
def rem (mask N:Nat)(p:Probe):List Nat:=
 (List.range (p.more+1)).map (p.j + ·)++line mask N (leap mask p.i p.perturb).1 (leap mask p.i p.perturb).2
def way (mask:Nat)(h:Int):List Nat:=line mask (mask+14) (bits h % (mask+1)) (bits h)
theorem lJ (mask i:Nat):i<=runEnd mask i:=by unfold runEnd;split <;> omega
theorem zi (mask i:Nat):runEnd mask i<=i+9:=by unfold runEnd;split <;> omega
theorem iU (mask:Nat):∀ n i p,(line mask n i p).length<=10*n
 | 0,_,_=>by simp[line]
 | n+1,i,p=>by
  have h1:=iU mask n (leap mask i p).1 (leap mask i p).2;have h2:=zi mask i;simp only[line,List.length_append,List.length_map,List.length_range];omega
theorem zh (t:SetTable)(h:Int)(N:Nat):rem t.mask N (t.probeStart h)=line t.mask (N+1) (bits h % (t.mask+1)) (bits h):=by
 have h1:=lJ t.mask (bits h % (t.mask+1));unfold rem probeStart;simp only[line];rw[show runEnd t.mask (bits h % (t.mask+1))-bits h % (t.mask+1)+1=runEnd t.mask (bits h % (t.mask+1))+1-bits h % (t.mask+1) by omega]
theorem xv (t:SetTable)(h:Int):rem t.mask (t.mask+13) (t.probeStart h)=way t.mask h:=zh t h _
theorem nY (m j:Nat):(List.range (m+1+1)).map (j + ·)=j::(List.range (m+1)).map (j+1 + ·):=by
 rw[List.range_succ_eq_map,List.map_cons,List.map_map]
 congr 1
 exact List.map_congr_left fun a _=>by simp only[Function.comp];omega
theorem Dw {t:SetTable}{N:Nat}{p:Probe}(h:0<p.more):rem t.mask N p=p.j::rem t.mask N (t.advance p):=by
 obtain⟨j,more,i,per,d⟩:=p
 cases more with
 | zero=>simp at h
 | succ m=>
  simp only[rem,advance,Nat.succ_pos,if_true,gt_iff_lt,Nat.zero_lt_succ];rw[nY]
  rfl
theorem Dv {t:SetTable}{N:Nat}{p:Probe}(h:p.more=0):rem t.mask (N+1) p=p.j::rem t.mask N (t.advance p):=by
 obtain⟨j,more,i,per,d⟩:=p;simp only at h;subst h;have h1:=lJ t.mask (leap t.mask i per).1;simp only[rem,advance,line,gt_iff_lt,Nat.lt_irrefl,if_false];rw[show runEnd t.mask (leap t.mask i per).1-(leap t.mask i per).1+1=runEnd t.mask (leap t.mask i per).1+1-(leap t.mask i per).1 by omega]
 simp
theorem jF {t:SetTable}{p:Probe}:(t.advance p).dummy=p.dummy:=by
 unfold advance;split <;> rfl
theorem Fc {t:SetTable}{hashAt:Nat->Int}{h:Int}(nd:∀ j,t.slot j≠.dummy):∀ (fuel N:Nat) (p:Probe),(rem t.mask N p).length<=fuel->p.dummy=none →
  (∃ j∈rem t.mask N p,t.slot j=.empty) →
  ∃ pre j post,rem t.mask N p=pre++j::post/\(∀ x∈pre,∃ i,t.slot x=.live i/\hashAt i≠h) ∧
   (
    (t.slot j=.empty/\probe.go t hashAt h fuel p=some (.empty j none)) ∨
    (∃ i N' p',t.slot j=.live i/\hashAt i=h/\probe.go t hashAt h fuel p=some (.candidate j i p')/\rem t.mask N' p'=post/\p'.dummy=none)):=by
 intro fuel
 induction fuel with
 | zero=>
  intro N p hl _ ⟨j,hj,_⟩;have:=List.length_pos_of_mem hj;omega
 | succ fuel ih=>
  intro N p hl hd ⟨j,hj,hje⟩;have key:(∃ N',rem t.mask N p=p.j::rem t.mask N' (t.advance p))\/rem t.mask N p=[p.j]:=by
   rcases Nat.eq_zero_or_pos p.more with h0|h0
   ·cases N with
    | zero=>right;simp[rem,h0,line]
    | succ N=>left;exact⟨N,Dv h0⟩
   ·left;exact⟨N,Dw h0⟩
  cases hs:t.slot p.j with
  | dummy=>exact absurd hs (nd _)
  | empty=>
   have hgo:probe.go t hashAt h (fuel+1) p=some (.empty p.j none):=by
    simp only[probe.go,hs,hd]
   rcases key with ⟨N',e⟩|e
   ·exact⟨[],p.j,_,e,by simp,.inl ⟨hs,hgo⟩⟩
   ·exact⟨[],p.j,[],e,by simp,.inl ⟨hs,hgo⟩⟩
  | live i=>
   rcases key with ⟨N',e⟩|e
   ·by_cases hh:hashAt i=h
    ·refine⟨[],p.j,_,e,by simp,.inr ⟨i,N',t.advance p,hs,hh,?_,rfl,jF.trans hd⟩⟩
     simp only[probe.go,hs,hh,beq_self_eq_true,if_true]
    ·have hgo:probe.go t hashAt h (fuel+1) p=probe.go t hashAt h fuel (t.advance p):=by
      simp only[probe.go,hs];rw[if_neg (by simpa using hh)]
     rw[e]at hj hl;have hj':j∈rem t.mask N' (t.advance p):=by
      rcases List.mem_cons.mp hj with rfl|hj
      ·rw[hje]at hs;exact nomatch hs
      ·exact hj
     simp only[List.length_cons]at hl;obtain⟨pre,j',post,e',hpre,hh'⟩:=ih N' (t.advance p) (by omega) (jF.trans hd) ⟨j,hj',hje⟩
     refine⟨p.j::pre,j',post,by rw[e,e'];rfl,?_,by rw[hgo];exact hh'⟩
     intro x hx
     rcases List.mem_cons.mp hx with rfl|hx
     ·exact⟨i,hs,hh⟩
     ·exact hpre x hx
   ·rw[e]at hj;obtain rfl:=List.mem_singleton.mp hj;rw[hje]at hs;exact nomatch hs
def N9 (mask:Nat):Nat->Nat->Nat->Nat
 | 0,_,acc=>acc
 | n+1,i,acc=>N9 mask n ((i*5+1) % (mask+1)) (acc ||| (1 <<< i))
theorem FB (mask i:Nat):i∈(List.range (runEnd mask i+1-i)).map (i + ·):=
 List.mem_map.mpr ⟨0,List.mem_range.mpr (by have:=lJ mask i;omega),by omega⟩
theorem xm (mask j:Nat):∀ n i acc,(N9 mask n i acc).testBit j=true->acc.testBit j=true\/j∈line mask n i 0
 | 0,i,acc,h=>.inl h
 | n+1,i,acc,h=>by
  rcases xm mask j n _ _ h with h|h
  ·rw[Nat.testBit_or,Bool.or_eq_true]at h
   rcases h with h|h
   ·exact .inl h
   ·right
    have:j=i:=by
     rw[Nat.one_shiftLeft,Nat.testBit_two_pow]at h;simpa using (of_decide_eq_true h).symm
    subst this;exact List.mem_append_left _ (FB mask j)
  ·right
   exact List.mem_append_right _ (by simpa [leap] using h)
def FL (mask:Nat):Prop:=mask=7\/mask=31\/mask=127
theorem FX {mask:Nat}(ok:FL mask):∀ i,i<mask+1->N9 mask (mask+1) i 0=2 ^ (mask+1)-1:=by
 rcases ok with rfl|rfl|rfl <;> decide +kernel
theorem yJ {mask i j:Nat}(ok:FL mask)(hi:i<mask+1)(hj:j<mask+1):j∈line mask (mask+1) i 0:=by
 rcases xm mask j (mask+1) i 0 (by rw[FX ok i hi,Nat.testBit_two_pow_sub_one];simpa using hj) with h|h
 ·simp at h
 ·exact h
theorem pF {mask n j:Nat}(hz:∀ i,i<mask+1->j∈line mask n i 0):∀ k i p,i<mask+1->p<32 ^ k->j∈line mask (k+n) i p
 | 0,i,p,hi,hp=>by
  have:p=0:=by simpa using hp
  subst this;rw[Nat.zero_add];exact hz i hi
 | k+1,i,p,hi,hp=>by
  rw[Nat.add_right_comm];refine List.mem_append_right _ (pF hz k _ _ (Nat.mod_lt _ (Nat.succ_pos _)) ?_);show p / 32<32 ^ k;rw[Nat.div_lt_iff_lt_mul (by decide)]
  rwa [Nat.pow_succ]at hp
theorem EL (h:Int):bits h<2 ^ 64:=by
 unfold bits;have h1:h % (2 ^ 64:Int)<2 ^ 64:=Int.emod_lt_of_pos _ (by decide)
 have h2:0<=h % (2 ^ 64:Int):=Int.emod_nonneg _ (by decide)
 omega
theorem xK {mask j:Nat}{h:Int}(ok:FL mask)(hj:j<=mask):j∈way mask h:=by
 unfold way;rw[show mask+14=13+(mask+1) by omega]
 exact pF (fun i hi=>yJ ok hi (by omega)) 13 _ _ (Nat.mod_lt _ (Nat.succ_pos _)) (Nat.lt_of_lt_of_le (EL h) (by decide))
theorem xi {mask x:Nat}:∀ n i p,i<=mask->x∈line mask n i p->x<=mask
 | 0,_,_,_,h=>by simp[line]at h
 | n+1,i,p,hi,h=>by
  rcases List.mem_append.mp h with h|h
  ·obtain⟨k,hk,rfl⟩:=List.mem_map.mp h;have hk:=List.mem_range.mp hk;unfold runEnd at hk
   split at hk <;> omega
  ·exact xi n _ _ (Nat.le_of_lt_succ (Nat.mod_lt _ (Nat.succ_pos _))) h
theorem wn {mask x:Nat}{h:Int}(hx:x∈way mask h):x<=mask:=xi _ _ _ (Nat.le_of_lt_succ (Nat.mod_lt _ (Nat.succ_pos _))) hx
theorem z5 {xs:Array Nat}{j:Nat}(ris:xs.toList.Pairwise (· < ·)):∀ fuel lo hi,hi-lo<=fuel->lo<=hi->hi<=xs.size →
  (∀ m (h:m<xs.size),m<lo->xs[m]<j)->(∀ m (h:m<xs.size),hi<=m->¬ xs[m]<j) →
  below.go xs j fuel lo hi<=xs.size/\∀ m (h:m<xs.size),m<below.go xs j fuel lo hi↔xs[m]<j:=by
 intro fuel;have mono:∀ a b (ha:a<xs.size) (hb:b<xs.size),a<b->xs[a]<xs[b]:=fun a b ha hb hab=>by
  have:=List.pairwise_iff_getElem.mp ris a b (by simpa using ha) (by simpa using hb) hab
  simpa using this
 induction fuel with
 | zero=>
  intro lo hi hf hl hs h1 h2;have:lo=hi:=by omega
  subst this;refine⟨hs,fun m h=>⟨h1 m h,fun hm=>?_⟩⟩
  rcases Nat.lt_or_ge m lo with hh|hh
  ·exact hh
  ·exact absurd hm (h2 m h hh)
 | succ fuel ih=>
  intro lo hi hf hl hs h1 h2;simp only[below.go]
  by_cases hlt:lo<hi
  ·rw[if_pos hlt];have hm:(lo+hi) / 2<xs.size:=by omega
   have hg:xs.getD ((lo+hi) / 2) j=xs[(lo+hi) / 2]:=by simp[Array.getD,hm]
   rw[hg]
   by_cases hc:xs[(lo+hi) / 2]<j
   ·rw[if_pos hc];refine ih _ _ (by omega) (by omega) hs (fun m h hm'=>?_) h2
    rcases Nat.lt_or_ge m ((lo+hi) / 2) with hh|hh
    ·exact Nat.lt_trans (mono m _ h hm hh) hc
    ·have:m=(lo+hi) / 2:=by omega
     subst this;exact hc
   ·rw[if_neg hc];refine ih _ _ (by omega) (by omega) (by omega) h1 (fun m h hm'=>?_)
    rcases Nat.lt_or_ge ((lo+hi) / 2) m with hh|hh
    ·exact fun hx=>hc (Nat.lt_trans (mono _ m hm h hh) hx)
    ·have:m=(lo+hi) / 2:=by omega
     subst this;exact hc
  ·rw[if_neg hlt];have:lo=hi:=by omega
   subst this;refine⟨hs,fun m h=>⟨h1 m h,fun hm=>?_⟩⟩
   rcases Nat.lt_or_ge m lo with hh|hh
   ·exact hh
   ·exact absurd hm (h2 m h hh)
theorem kh {xs:Array Nat}(j:Nat)(ris:xs.toList.Pairwise (· < ·)) :
  below xs j<=xs.size/\∀ m (h:m<xs.size),m<below xs j↔xs[m]<j:=
 z5 ris _ _ _ (by omega) (by omega) (Nat.le_refl _) (fun m _ h=>by omega) (fun m h h'=>by omega)
theorem below_at {xs:Array Nat}(ris:xs.toList.Pairwise (· < ·))(i:Nat)(hi:i<xs.size):below xs xs[i]=i:=by
 obtain⟨h1,h2⟩:=kh xs[i] ris;have mono:∀ a b (ha:a<xs.size) (hb:b<xs.size),a<b->xs[a]<xs[b]:=fun a b ha hb hab=>by
  have:=List.pairwise_iff_getElem.mp ris a b (by simpa using ha) (by simpa using hb) hab
  simpa using this
 rcases Nat.lt_trichotomy (below xs xs[i]) i with h|h|h
 ·have:=(h2 (below xs xs[i]) (by omega)).mpr (mono _ _ (by omega) hi h)
  omega
 ·exact h
 ·have:=(h2 i hi).mp h;omega
theorem wX (j:Nat):has #[] j=false:=by
 unfold has;simp
theorem zm {t:SetTable}(ris:t.place.toList.Pairwise (· < ·))(i:Nat)(hi:i<t.place.size):t.slot t.place[i]=.live i:=by
 unfold slot;simp only[below_at ris i hi];simp[hi]
theorem slot_of {t:SetTable}(ris:t.place.toList.Pairwise (· < ·))(nd:t.dummies=#[])(j:Nat) :
  (t.slot j=.empty/\j∉t.place.toList)\/∃ i,∃ hi:i<t.place.size,t.slot j=.live i/\t.place[i]=j:=by
 by_cases hj:j∈t.place.toList
 ·right
  obtain⟨i,hi,e⟩:=List.getElem_of_mem hj;have hi':i<t.place.size:=by simpa using hi
  have e':t.place[i]=j:=by simpa using e
  exact⟨i,hi',by rw[<-e'];exact zm ris i hi',e'⟩
 ·left
  refine⟨?_,hj⟩;unfold slot;have hne:(t.place[below t.place j]? == some j)=false:=by
   rw[beq_eq_false_iff_ne];intro e;obtain⟨hb,e⟩:=Array.getElem?_eq_some_iff.mp e;exact hj (by rw[<-e];simp)
  simp only[hne,nd,wX];simp
end ST
namespace ST
open PySem PySem.SetTable
structure Tab (t:SetTable) (es:Array (Int × Value)) (ps:List (Nat × (Int × Value))):Prop where
 pl:t.place.toList=ps.map (·.1)
 en:es.toList=ps.map (·.2)
 ris:(ps.map (·.1)).Pairwise (· < ·)
 top:∀ q∈ps,q.1<=t.mask
 dum:t.dummies=#[]
 ok:FL t.mask
 reach:∀ q∈ps,∃ pre post,way t.mask q.2.1=pre++q.1::post/\∀ x∈pre,x∈ps.map (·.1)
def b7 (mask n:Nat):Prop:=(mask=7/\n<=4)\/(mask=31/\n<=18)\/(mask=127/\n<=76)
namespace Tab
variable {t:SetTable}{es:Array (Int × Value)}{ps:List (Nat × (Int × Value))}
theorem psz (T:Tab t es ps):t.place.size=ps.length:=by rw[<-Array.length_toList,T.pl,List.length_map]
theorem esz (T:Tab t es ps):es.size=ps.length:=by rw[<-Array.length_toList,T.en,List.length_map]
theorem ris' (T:Tab t es ps):t.place.toList.Pairwise (· < ·):=by rw[T.pl];exact T.ris
theorem fits (T:Tab t es ps)(r:ps.length<=t.mask):t.fits es.size=true:=by
 simp only[SetTable.fits,SetTable.fill,T.dum,T.psz,T.esz];simpa using r
theorem put (T:Tab t es ps){j:Nat}{e:Int × Value}(hj:j<=t.mask)(hn:j∉ps.map (·.1))
  (hr:∃ pre post,way t.mask e.1=pre++j::post/\∀ x∈pre,x∈ps.map (·.1)) :
  Tab (t.put j).1 (insertAt es (t.put j).2 e) (ps.take (t.put j).2++(j,e)::ps.drop (t.put j).2):=by
 have hmem:∀ x,x∈ps.map (·.1)->x∈(ps.take (t.put j).2++(j,e)::ps.drop (t.put j).2).map (·.1):=fun x hx=>by
  obtain⟨q,hq,rfl⟩:=List.mem_map.mp hx;refine List.mem_map.mpr ⟨q,?_,rfl⟩;rw[<-List.take_append_drop (t.put j).2 ps]at hq
  rcases List.mem_append.mp hq with h|h
  ·exact List.mem_append_left _ h
  ·exact List.mem_append_right _ (List.mem_cons_of_mem _ h)
 have hmem':∀ q,q∈ps.take (t.put j).2++(j,e)::ps.drop (t.put j).2->q=(j,e)\/q∈ps:=fun q hq=>by
  rcases List.mem_append.mp hq with h|h
  ·exact .inr (List.mem_of_mem_take h)
  ·rcases List.mem_cons.mp h with h|h
   ·exact .inl h
   ·exact .inr (List.mem_of_mem_drop h)
 have hb:=kh j T.ris';have hp:(t.put j).2=below t.place j:=rfl;have hm:(t.put j).1.mask=t.mask:=rfl;have hg:∀ m (h:m<(ps.map (·.1)).length),(ps.map (·.1))[m]=t.place[m]'(by rw[T.psz];simpa using h):=fun m h=>by
  have:=T.pl;simp only[<-this];simp
 refine⟨?_,?_,?_,?_,?_,?_,?_⟩
 ·show(insertAt t.place (below t.place j) j).toList=_;rw[toList_insertAt,T.pl,List.map_append,List.map_cons,List.map_take,List.map_drop,hp]
 ·rw[toList_insertAt,T.en,List.map_append,List.map_cons,List.map_take,List.map_drop]
 ·rw[List.map_append,List.map_cons,List.map_take,List.map_drop,hp];rw[List.pairwise_append,List.pairwise_cons];have low:∀ a∈(ps.map (·.1)).take (below t.place j),a<j:=fun a ha=>by
   obtain⟨m,hm,rfl⟩:=List.getElem_of_mem ha;rw[List.length_take]at hm;rw[List.getElem_take,hg];exact(hb.2 m _).mp (by omega)
  have high:∀ a∈(ps.map (·.1)).drop (below t.place j),j<a:=fun a ha=>by
   have hin:=List.mem_of_mem_drop ha;obtain⟨m,hm,rfl⟩:=List.getElem_of_mem ha;rw[List.length_drop]at hm;rw[List.getElem_drop]at hin ⊢;have h1:¬ (ps.map (·.1))[below t.place j+m]<j:=by
    rw[hg];exact fun h=>by have:=(hb.2 _ _).mpr h;omega
   have h2:(ps.map (·.1))[below t.place j+m]≠j:=fun h=>hn (h ▸ hin);omega
  refine⟨T.ris.sublist (List.take_sublist _ _),⟨high,T.ris.sublist (List.drop_sublist _ _)⟩,fun a ha b hb'=>?_⟩
  rcases List.mem_cons.mp hb' with rfl|hb'
  ·exact low a ha
  ·exact Nat.lt_trans (low a ha) (high b hb')
 ·intro q hq
  rcases hmem' q hq with rfl|h
  ·exact hj
  ·exact T.top q h
 ·show(if has t.dummies j=true then _ else t.dummies)=#[]
  rw[T.dum,wX];rfl
 ·exact T.ok
 ·intro q hq
  rcases hmem' q hq with rfl|h
  ·obtain⟨pre,post,e1,h1⟩:=hr;exact⟨pre,post,e1,fun x hx=>hmem x (h1 x hx)⟩
  ·obtain⟨pre,post,e1,h1⟩:=T.reach q h;exact⟨pre,post,e1,fun x hx=>hmem x (h1 x hx)⟩
end Tab
theorem pG (mask:Nat):∀ n i p,∃ r,line mask (n+1) i p=line mask n i p++r
 | 0,i,p=>⟨line mask 1 i p,rfl⟩
 | n+1,i,p=>by
  obtain⟨r,e⟩:=pG mask n (leap mask i p).1 (leap mask i p).2;refine⟨r,?_⟩;show _++line mask (n+1) _ _=(_++line mask n _ _)++r;rw[e,List.append_assoc]
theorem free_eq (mask:Nat)(owner:Array (Option Nat)):∀ fuel i p,layClean.free mask owner fuel i p=(line mask fuel i p).find? (fun j=>(owner.getD j (some 0)).isNone)
 | 0,i,p=>rfl
 | fuel+1,i,p=>by
  simp only[layClean.free,line,List.find?_append,List.find?_map];have e:(fun k=>(owner.getD (i+k) (some 0)).isNone)=((fun j=>(owner.getD j (some 0)).isNone) ∘ fun x=>i+x):=rfl;rw[e]
  cases hf:List.find? ((fun j=>(owner.getD j (some 0)).isNone) ∘ fun x=>i+x) (List.range (runEnd mask i+1-i)) with
  | some k=>rfl
  | none=>
   simp only[Option.map_none,Option.none_or];exact free_eq mask owner fuel _ _
theorem uw:∀ (l:List (Option Nat)) (j k:Nat),l[j]?=some none->List.Perm ((l.set j (some k)).filterMap id) (k::l.filterMap id)
 | [],j,k,h=>by simp at h
 | a::l,0,k,h=>by
  simp only[List.getElem?_cons_zero,Option.some.injEq]at h;subst h;simp
 | a::l,j+1,k,h=>by
  simp only[List.getElem?_cons_succ]at h;have ih:=uw l j k h
  cases a with
  | none=>simpa using ih
  | some b=>
   simp only[List.set_cons_succ,List.filterMap_cons,id];exact(List.Perm.cons b ih).trans (List.Perm.swap k b _)
theorem sL:∀ l:List (Option Nat),(∀ x∈l,x.isSome=true)->(l.filterMap id).length=l.length
 | [],_=>rfl
 | none::l,h=>by have:=h none List.mem_cons_self;simp at this
 | some a::l,h=>by
  simp only[List.filterMap_cons,id,List.length_cons];rw[sL l fun x hx=>h x (List.mem_cons_of_mem _ hx)]
structure Own (mask:Nat) (hs:List Int) (owner:Array (Option Nat)):Prop where
 sz:owner.size=mask+1
 pm:List.Perm (owner.toList.filterMap id) (List.range hs.length)
 rc:∀ j k,owner[j]?=some (some k)->∃ h,hs[k]?=some h/\∃ pre post,way mask h=pre++j::post/\∀ x∈pre,∃ k',owner[x]?=some (some k')
theorem Own.step {mask:Nat}{hs:List Int}{owner:Array (Option Nat)}(O:Own mask hs owner)(ok:FL mask)(hl:hs.length<mask+1)(h:Int) :
  ∃ j,layClean.free mask owner (turns mask) (bits h % (mask+1)) (bits h)=some j/\Own mask (hs++[h]) (owner.setIfInBounds j (some hs.length)):=by
 have hex:∃ j,j<mask+1/\owner[j]?=some none:=by
  apply Classical.byContradiction;intro hc;have hall:∀ x∈owner.toList,x.isSome=true:=fun x hx=>by
   obtain⟨m,hm,rfl⟩:=List.getElem_of_mem hx;have hm':m<owner.size:=by simpa using hm
   cases hx:owner[m] with
   | some v=>simp[hx]
   | none=>exact absurd ⟨m,by rw[<-O.sz];exact hm',by rw[Array.getElem?_eq_getElem hm',hx]⟩ hc
  have h1:=sL _ hall;have h2:=O.pm.length_eq;rw[List.length_range]at h2;have h3:owner.toList.length=mask+1:=by simpa using O.sz
  have h4:=h1.symm.trans h2;rw[h3]at h4;omega
 obtain⟨j0,hj0,e0⟩:=hex;have hgd:∀ x,x<mask+1->owner.getD x (some 0)=owner[x]?.getD (some 0):=fun x hx=>by
  rw[Array.getD_eq_getD_getElem?]
 have hsome:((way mask h).find? (fun j=>(owner.getD j (some 0)).isNone)).isSome=true:=by
  rw[List.find?_isSome];exact⟨j0,xK ok (by omega),by rw[hgd j0 hj0,e0];rfl⟩
 obtain⟨j,hj⟩:=Option.isSome_iff_exists.mp hsome;have hfree:layClean.free mask owner (turns mask) (bits h % (mask+1)) (bits h)=some j:=by
  rw[free_eq];obtain⟨r,e⟩:=pG mask (mask+14) (bits h % (mask+1)) (bits h);show(line mask (mask+14+1) _ _).find? _=_;rw[e,List.find?_append];show Option.or ((way mask h).find? _) _=_;rw[hj];rfl
 obtain⟨hjn,pre,post,ew,hpre⟩:=List.find?_eq_some_iff_append.mp hj;have hjm:j<mask+1:=Nat.lt_succ_of_le (wn (h:=h) (by rw[ew];simp))
 have hjo:owner[j]?=some none:=by
  have hjs:j<owner.size:=by rw[O.sz];exact hjm
  have:=hjn;rw[hgd j hjm,Array.getElem?_eq_getElem hjs]at this;rw[Array.getElem?_eq_getElem hjs];simpa using this
 have hjs:j<owner.size:=by rw[O.sz];exact hjm
 have hset:∀ x,(owner.setIfInBounds j (some hs.length))[x]?=if j=x then some (some hs.length) else owner[x]?:=fun x=>by
  rw[Array.getElem?_setIfInBounds]
  split
  ·rename_i e;subst e;simp[hjs]
  ·rfl
 have hkeep:∀ (x k':Nat),owner[x]?=some (some k')->∃ k'',(owner.setIfInBounds j (some hs.length))[x]?=some (some k''):=fun x k' e=>by
  rw[hset]
  split
  ·exact⟨_,rfl⟩
  ·exact⟨k',e⟩
 refine⟨j,hfree,⟨by simpa using O.sz,?_,?_⟩⟩
 ·rw[Array.toList_setIfInBounds];refine(uw _ _ _ (by simpa using hjo)).trans ?_
  rw[List.length_append,List.length_singleton,List.range_succ];exact(List.Perm.cons _ O.pm).trans (List.perm_append_singleton _ _).symm
 ·intro j' k' e;rw[hset]at e
  split at e
  ·rename_i ej;subst ej;obtain rfl:hs.length=k':=by simpa using e
   refine⟨h,by simp,pre,post,ew,fun x hx=>?_⟩
   have hx1:=hpre x hx;have hxm:x<mask+1:=Nat.lt_succ_of_le (wn (h:=h) (by rw[ew];exact List.mem_append_left _ hx))
   have hxs:x<owner.size:=by rw[O.sz];exact hxm
   rw[hgd x hxm,Array.getElem?_eq_getElem hxs]at hx1
   cases ho:owner[x] with
   | none=>simp[ho]at hx1
   | some v=>exact hkeep x v (by rw[Array.getElem?_eq_getElem hxs,ho])
  ·obtain⟨h',eh,pre',post',ew',hp'⟩:=O.rc j' k' e;refine⟨h',?_,pre',post',ew',fun x hx=>?_⟩
   ·rw[List.getElem?_append_left (by
     rcases Nat.lt_or_ge k' hs.length with hh|hh
     ·exact hh
     ·rw[List.getElem?_eq_none hh]at eh;simp at eh)]
    exact eh
   ·obtain⟨v,hv⟩:=hp' x hx;exact hkeep x v hv
theorem ut {mask:Nat}(ok:FL mask):∀ (l hs:List Int) (owner:Array (Option Nat)),Own mask hs owner->hs.length+l.length<=mask+1 →
  ∃ owner',l.foldl (init:=some (owner,hs.length)) (fun acc h=>do
   let (owner,k) ← acc
   let j ← layClean.free mask owner (turns mask) (bits h % (mask+1)) (bits h)
   pure (owner.setIfInBounds j (some k),k+1))=some (owner',(hs++l).length)/\Own mask (hs++l) owner'
 | [],hs,owner,O,_=>⟨owner,by simp,by simpa using O⟩
 | h::l,hs,owner,O,hl=>by
  simp only[List.length_cons]at hl;obtain⟨j,hj,O'⟩:=O.step ok (by omega) h
  obtain⟨owner',e,O''⟩:=ut ok l (hs++[h]) _ O' (by simp;omega)
  refine⟨owner',?_,by simpa using O''⟩
  rw[List.foldl_cons];simp only[Option.bind_eq_bind,Option.bind_some,hj,Option.pure_def]at e ⊢;rw[List.append_assoc]at e;simp only[List.length_append,List.length_singleton,List.singleton_append]at e ⊢;exact e
theorem tV {mask:Nat}(ok:FL mask)(hashes:Array Int)(hl:hashes.size<=mask+1) :
  ∃ owner,layClean mask hashes=some owner/\Own mask hashes.toList owner:=by
 have O:Own mask [] (Array.replicate (mask+1) none):=⟨by simp,by simp,fun j k e=>by
  rw[Array.getElem?_replicate]at e
  split at e <;> simp at e⟩
 obtain⟨owner,e,O'⟩:=ut ok hashes.toList [] _ O (by simpa using hl)
 refine⟨owner,?_,by simpa using O'⟩
 unfold layClean;rw[<-Array.foldl_toList];simp only[List.length_nil]at e;rw[e];rfl
theorem uf (f:Nat->Option Nat):∀ l:List Nat,(l.filterMap fun j=>(f j).map (j,·)).map (·.1)=l.filter fun j=>(f j).isSome
 | []=>rfl
 | a::l=>by
  have ih:=uf f l
  cases h:f a <;> simp[h]at ih ⊢ <;> exact ih
theorem ug (f:Nat->Option Nat):∀ l:List Nat,(l.filterMap fun j=>(f j).map (j,·)).map (·.2)=l.filterMap f
 | []=>rfl
 | a::l=>by
  have ih:=ug f l
  cases h:f a <;> simp[h]at ih ⊢ <;> exact ih
theorem tE {α β:Type}{f g:α->Option β}:∀ l:List α,(∀ x∈l,f x=g x)->l.filterMap f=l.filterMap g
 | [],_=>rfl
 | a::l,h=>by
  rw[List.filterMap_cons,List.filterMap_cons,h a List.mem_cons_self,tE l fun x hx=>h x (List.mem_cons_of_mem _ hx)]
theorem range_getD (o:Array (Option Nat)):(List.range o.size).filterMap (fun j=>o.getD j none)=o.toList.filterMap id:=by
 have e:=filterMap_getElem?_range o;rw[<-e,List.filterMap_filterMap];refine tE _ fun x hx=>?_;have hx:=List.mem_range.mp hx;simp[Array.getD,hx]
theorem Fq {mask finger moves:Nat}{led plain:Bool}(ok:FL mask)(es:Array (Int × Value))(hl:es.size<=mask+1) :
  ∃ t order ps,laid mask finger moves led plain (es.map (·.1))=some (t,order)/\Tab t (order.filterMap (es[·]?)) ps/\t.mask=mask/\t.led=led/\t.plain=plain ∧
   List.Perm (order.filterMap (es[·]?)).toList es.toList:=by
 obtain⟨owner,e,O⟩:=tV ok (es.map (·.1)) (by simpa using hl)
 have hlen:((es.map (·.1)).toList).length=es.size:=by simp
 have hrc:∀ j k,owner[j]?=some (some k)->∃ q:k<es.size,∃ pre post,way mask es[k].1=pre++j::post/\∀ x∈pre,∃ k',owner[x]?=some (some k'):=fun j k ho=>by
  obtain⟨h,eh,r⟩:=O.rc j k ho;have hk:k<es.size:=by
   rcases Nat.lt_or_ge k es.size with hh|hh
   ·exact hh
   ·rw[List.getElem?_eq_none (by simpa using hh)]at eh;simp at eh
  refine⟨hk,?_⟩;have:h=es[k].1:=by simpa [hk] using eh.symm
  rw[<-this];exact r
 let live:=(List.range (mask+1)).filterMap fun j=>(owner.getD j none).map (j,·)
 have hlive:∀ q∈live,q.1<mask+1/\owner[q.1]?=some (some q.2):=fun q hq=>by
  obtain⟨j,hj,e⟩:=List.mem_filterMap.mp hq;have hj:=List.mem_range.mp hj;have hjs:j<owner.size:=by rw[O.sz];exact hj
  cases ho:owner[j] with
  | none=>simp[Array.getD,hjs,ho]at e
  | some k=>
   have:q=(j,k):=by simpa [Array.getD,hjs,ho] using e.symm
   subst this;exact⟨hj,by rw[Array.getElem?_eq_getElem hjs,ho]⟩
 have hfst:live.map (·.1)=(List.range (mask+1)).filter fun j=>(owner.getD j none).isSome:=uf _ _;have hsnd:live.map (·.2)=owner.toList.filterMap id:=by
  rw[<-range_getD,O.sz];exact ug _ _
 have hperm:List.Perm (live.map (·.2)) (List.range es.size):=by rw[hsnd,<-hlen];exact O.pm
 have hpm:List.Perm ((live.map (·.2)).filterMap (es[·]?)) es.toList:=by
  have:=hperm.filterMap (es[·]?)
  rwa [filterMap_getElem?_range]at this
 let d:Int × Value:=(0,.none)
 have hmapEq:(live.map (·.2)).filterMap (es[·]?)=live.map (fun q=>es.getD q.2 d):=by
  rw[List.filterMap_map];have:∀ (l:List (Nat × Nat)),(∀ q∈l,q.2<es.size)->l.filterMap ((es[·]?) ∘ (·.2))=l.map (fun q=>es.getD q.2 d):=by
   intro l
   induction l with
   | nil=>intro _;rfl
   | cons a l ih=>
    intro h;have ha:=h a List.mem_cons_self;rw[List.filterMap_cons_some (b:=es.getD a.2 d) (by simp[Array.getD,ha]),ih fun q hq=>h q (List.mem_cons_of_mem _ hq)]
    rfl
  exact this live fun q hq=>(hrc q.1 q.2 (hlive q hq).2).1
 refine⟨_,_,live.map (fun q=>(q.1,es.getD q.2 d)),by unfold laid;rw[e];rfl,?_,rfl,rfl,rfl,?_⟩
 ·have hin:∀ x k,owner[x]?=some (some k)->x∈(live.map (fun q=>(q.1,es.getD q.2 d))).map (·.1):=fun x k ho=>by
   have hxs:x<owner.size:=by
    rcases Nat.lt_or_ge x owner.size with hh|hh
    ·exact hh
    ·rw[Array.getElem?_eq_none hh]at ho;simp at ho
   rw[List.map_map];show x∈live.map (·.1);rw[hfst,List.mem_filter];refine⟨List.mem_range.mpr (by rw[<-O.sz];exact hxs),?_⟩
   rw[Array.getElem?_eq_getElem hxs]at ho;simp[Array.getD,hxs,Option.some.inj ho]
  refine⟨?_,?_,?_,?_,rfl,ok,?_⟩
  ·show(live.map (·.1))=_;rw[List.map_map];rfl
  ·rw[Array.toList_filterMap];show(live.map (·.2)).filterMap _=_;rw[hmapEq,List.map_map];rfl
  ·rw[List.map_map];show(live.map (·.1)).Pairwise _;rw[hfst];exact List.pairwise_lt_range.sublist List.filter_sublist
  ·intro q hq;obtain⟨q',hq',rfl⟩:=List.mem_map.mp hq;exact Nat.le_of_lt_succ (hlive q' hq').1
  ·intro q hq;obtain⟨q',hq',rfl⟩:=List.mem_map.mp hq;obtain⟨hk,pre,post,ew,hp⟩:=hrc q'.1 q'.2 (hlive q' hq').2;refine⟨pre,post,?_,fun x hx=>?_⟩
   ·show way mask (es.getD q'.2 d).1=_;simp only[Array.getD,hk,dif_pos];exact ew
   ·obtain⟨k',hk'⟩:=hp x hx;exact hin x k' hk'
 ·rw[Array.toList_filterMap];exact hpm
end ST
namespace ST
open PySem PySem.SetTable
abbrev ik (prog:Program)(w:World):=intKind prog w
structure Holds (prog:Program) (w:World) (h:Heap) (es:Array (Int × Value)) (ms:List (Addr × List Int)):Prop where
 pm:List.Perm es.toList (ms.map fun m=>(tupleKeyHash (ik prog w) m.2,Value.ref m.1))
 key:∀ m∈ms,IsTupleKey (ik prog w) h m.2 m.1
 nd:(ms.map (·.2)).Nodup
theorem uF {j k:Nat}:∀ {pre pre' post post':List Nat},pre++j::post=pre'++k::post'->k∈pre\/j=k\/j∈pre'
 | [],[],_,_,e=>by simp at e;exact .inr (.inl e.1)
 | [],a::pre',_,_,e=>by simp at e;exact .inr (.inr (by rw[e.1];exact List.mem_cons_self))
 | a::pre,[],_,_,e=>by simp at e;exact .inl (by rw[e.1];exact List.mem_cons_self)
 | a::pre,b::pre',_,_,e=>by
  simp only[List.cons_append,List.cons.injEq]at e
  rcases uF e.2 with h|h|h
  ·exact .inl (List.mem_cons_of_mem _ h)
  ·exact .inr (.inl h)
  ·exact .inr (.inr (List.mem_cons_of_mem _ h))
section
variable {prog:Program}{w:World}{A:Around}{E:Value->Shared->Prop}{s:Shared}
theorem me {ks:List Int}{b:Addr}{Q:Bool->Shared->Prop}(n:Nat)(hk:IsTupleKey (ik prog w) s.heap ks b)(h:Q false s) :
  wpAny (model prog w) A (ofAClassStatement (n+1) (.ref b)) Q E s:=by
 have hT:=hk.typeIs;obtain⟨o,items,m,ho,_,hd,hi⟩:=hk;unfold ofAClassStatement;refine wpAny_bind (wpAny_typeOf hT ?_);dsimp only;rw[if_pos (by decide)]
 refine wpAny_bind (wpAny_pure ?_);simp only[Bool.not_true,Bool.false_eq_true,if_false];refine wpAny_bind (wpAny_seqItems ho hd ?_);dsimp only;refine wpAny_bind ?_;rw[<-Array.forIn_toList];refine wpAny_forIn_list _ (fun rest r s'=>r.1=none/\s'=s/\∀ v∈rest,carriedByValue v=true) _ ?_ ?_ _ _ ⟨rfl,rfl,hi.byValue⟩
 ·rintro v rest r s' ⟨hr,rfl,hall⟩;have hv:=hall v List.mem_cons_self;have e:ofAClassStatement n v=pure false:=by
   cases v with
   | ref a=>simp[carriedByValue]at hv
   | _=>unfold ofAClassStatement;rfl
  rw[e];refine wpAny_bind (wpAny_pure ?_);simp only[Bool.false_eq_true,if_false];exact wpAny_pure ⟨rfl,rfl,fun u hu'=>hall u (List.mem_cons_of_mem _ hu')⟩
 ·rintro⟨r1,r2⟩ s' ⟨hr,rfl,_⟩;simp only at hr;subst hr;exact wpAny_pure h
theorem ox {ks:List Int}{b:Addr}{l:List Value}{Q:Bool->Shared->Prop}(hk:IsTupleKey (ik prog w) s.heap ks b)
  (hl:∀ v∈l,∃ c ks',v=.ref c/\IsTupleKey (ik prog w) s.heap ks' c) (h:Q false s) :
  wpAny (model prog w) A (searchCouldBeSeen (.ref b) l) Q E s:=by
 unfold searchCouldBeSeen;refine wpAny_bind ?_;refine wpAny_forIn_list _ (fun rest r s'=>r.1=none/\s'=s/\∀ v∈rest,∃ c ks',v=.ref c/\IsTupleKey (ik prog w) s.heap ks' c) _ ?_ ?_ _ _ ⟨rfl,rfl,hl⟩
 ·rintro v rest r s' ⟨hr,rfl,hall⟩;obtain⟨c,ks',rfl,hc⟩:=hall v List.mem_cons_self;have htl:∀ v∈rest,∃ c ks',v=.ref c/\IsTupleKey (ik prog w) s'.heap ks' c:=fun u hu'=>hall u (List.mem_cons_of_mem _ hu');dsimp only;refine wpAny_ite_split (fun _=>wpAny_pure ⟨rfl,rfl,htl⟩) (fun _=>?_);refine wpAny_bind (wpAny_eqIsQuiet_tuple hk ?_);simp only[Bool.not_true,Bool.false_eq_true,if_false];refine wpAny_bind (wpAny_eqIsQuiet_tuple hc ?_);simp only[Bool.not_true,Bool.false_eq_true,if_false];refine wpAny_bind (me 7 hk ?_);simp only[Bool.false_eq_true,if_false];refine wpAny_bind (me 7 hc ?_);simp only[Bool.false_eq_true,if_false];exact wpAny_pure ⟨rfl,rfl,htl⟩
 ·rintro⟨r1,r2⟩ s' ⟨hr,rfl,_⟩;simp only at hr;subst hr;exact wpAny_pure h
theorem oy {ks:List Int}{b:Addr}{Q:Bool->Shared->Prop}(n:Nat)(hk:IsTupleKey (ik prog w) s.heap ks b)(h:Q true s) :
  wpAny (model prog w) A (hashByValue (n+1) (.ref b)) Q E s:=by
 have hT:=hk.typeIs;obtain⟨o,items,m,ho,_,hd,hi⟩:=hk;unfold hashByValue;refine wpAny_bind (wpAny_specialOf hT F.slot_tuple_hash.lookup ?_);dsimp only;refine wpAny_bind (wpAny_seqItems ho hd ?_);simp only[Option.getD_some];refine wpAny_bind ?_;rw[<-Array.forIn_toList];refine wpAny_forIn_list _ (fun rest r s'=>r.1=none/\s'=s/\∃ ks',ItemsAre (ik prog w) ks' rest) _ ?_ ?_ _ _ ⟨rfl,rfl,ks,hi⟩
 ·rintro v rest r s' ⟨hr,rfl,ks',hall⟩
  cases hall with
  | @cons k _ ks'' _ h1 h2=>
   obtain⟨t,rfl⟩:=Value.isInt_shape h1;have e:hashByValue n (.int k t)=pure true:=by unfold hashByValue;rfl
   rw[e];refine wpAny_bind (wpAny_pure ?_);simp only[Bool.not_true,Bool.false_eq_true,if_false];exact wpAny_pure ⟨rfl,rfl,ks'',h2⟩
 ·rintro⟨r1,r2⟩ s' ⟨hr,rfl,_⟩;simp only at hr;subst hr;exact wpAny_pure h
theorem zB {a b:Addr}{o:Obj}{es:Array (Int × Value)}{ep:Nat}{t:SetTable}{ps:List (Nat × (Int × Value))}{ms:List (Addr × List Int)}{ks:List Int}{Q:SetFound->Shared->Prop}
  (hu:A.units<cLine) (ho:s.heap.get? a=some o) (hd:o.data=.set es ep t) (T:Tab t es ps) (hlen:ps.length<=t.mask) (H:Holds prog w s.heap es ms)
  (hk:IsTupleKey (ik prog w) s.heap ks b)
  (hin:ks∈ms.map (·.2)->Q (.there none) s)
  (hout:ks∉ms.map (·.2)->∀ j pre post,way t.mask (tupleKeyHash (ik prog w) ks)=pre++j::post->(∀ x∈pre,x∈ps.map (·.1))->j∉ps.map (·.1)->Q (.free j false) s) :
  ∀ (fuel N:Nat) (p:Probe) (stand:Option Probe) (done:List Nat),stand.getD (t.probeStart (tupleKeyHash (ik prog w) ks))=p->p.dummy=none →
   way t.mask (tupleKeyHash (ik prog w) ks)=done++rem t.mask N p->(rem t.mask N p).length<fuel →
   (∀ x∈done,∃ q∈ps,q.1=x/\∀ c,q.2.2=.ref c->¬ IsTupleKey (ik prog w) s.heap ks c) →
   wpAny (model prog w) A (setSearchFrom a (.ref b) (tupleKeyHash (ik prog w) ks) true fuel stand) Q E s:=by
 have hf:=T.fits hlen;have hnd:∀ j,t.slot j≠.dummy:=fun j=>by
  rcases slot_of T.ris' T.dum j with ⟨e,_⟩|⟨i,_,e,_⟩ <;> rw[e] <;> exact fun h=>nomatch h
 have hmemb:∀ q∈ps,∃ m∈ms,q.2=(tupleKeyHash (ik prog w) m.2,Value.ref m.1):=fun q hq=>by
  have h1:q.2∈es.toList:=by rw[T.en];exact List.mem_map.mpr ⟨q,hq,rfl⟩
  obtain⟨m,hm,e⟩:=List.mem_map.mp (H.pm.mem_iff.mp h1);exact⟨m,hm,e.symm⟩
 have hemp:∃ j,j<=t.mask/\t.slot j=.empty:=by
  apply Classical.byContradiction;intro hc;have hsub:∀ j,j∈List.range (t.mask+1)->j∈ps.map (·.1):=fun j hj=>by
   have hj:=List.mem_range.mp hj
   rcases slot_of T.ris' T.dum j with ⟨e,_⟩|⟨i,hi,_,e⟩
   ·exact absurd ⟨j,by omega,e⟩ hc
   ·rw[<-T.pl,<-e];simp
  have:=List.nodup_range.length_le_of_subset (l₂:=ps.map (·.1)) (fun j hj=>hsub j hj);simp at this;omega
 intro fuel
 induction fuel with
 | zero=>intro N p stand done _ _ _ hl;omega
 | succ fuel ih=>
  intro N p stand done hst hpd hway hl hdone;unfold setSearchFrom;refine wpAny_bind (wpAny_setState_of ho hd hf ?_);dsimp only;rw[if_neg (by rcases T.ok with e|e|e <;> simp[gaveWay,e])]
  obtain⟨j0,hj0,e0⟩:=hemp;have hj0w:j0∈rem t.mask N p:=by
   have h1:=xK (h:=tupleKeyHash (ik prog w) ks) T.ok hj0;rw[hway]at h1
   rcases List.mem_append.mp h1 with h1|h1
   ·obtain⟨q,hq,e,_⟩:=hdone _ h1
    rcases slot_of T.ris' T.dum j0 with ⟨_,hn⟩|⟨i,hi,e',_⟩
    ·exact absurd (by rw[T.pl,<-e];exact List.mem_map.mpr ⟨q,hq,rfl⟩) hn
    ·rw[e0]at e';exact nomatch e'
   ·exact h1
  have hlen2:(rem t.mask N p).length<=10*turns t.mask:=by
   have h1:=iU t.mask (t.mask+14) (bits (tupleKeyHash (ik prog w) ks) % (t.mask+1)) (bits (tupleKeyHash (ik prog w) ks));have h2:(way t.mask (tupleKeyHash (ik prog w) ks)).length=done.length+(rem t.mask N p).length:=by rw[hway,List.length_append]
   unfold way at h2;unfold turns;omega
  obtain⟨pre,j,post,erem,hpre,hcase⟩:=Fc (hashAt:=fun i=>(es[i]?.map (·.1)).getD 0) (h:=tupleKeyHash (ik prog w) ks) hnd (10*turns t.mask) N p hlen2 hpd ⟨j0,hj0w,e0⟩;have hpre':∀ x∈pre,∃ q∈ps,q.1=x/\∀ c,q.2.2=.ref c->¬ IsTupleKey (ik prog w) s.heap ks c:=fun x hx=>by
   obtain⟨i,hs,hne⟩:=hpre x hx
   rcases slot_of T.ris' T.dum x with ⟨e,_⟩|⟨i',hi',e,e'⟩
   ·rw[e]at hs;exact nomatch hs
   ·rw[e]at hs;obtain rfl:i'=i:=by injection hs
    have hi2:i'<ps.length:=by rw[<-T.psz];exact hi'
    have hpe:ps[i'].1=x:=by
     rw[<-e'];have:=T.pl;have h3:t.place.toList[i']?=(ps.map (·.1))[i']?:=by rw[this]
     simpa [hi',hi2] using h3.symm
    refine⟨ps[i'],List.getElem_mem hi2,hpe,fun c hc hkc=>hne ?_⟩;obtain⟨m,hm,em⟩:=hmemb ps[i'] (List.getElem_mem hi2);rw[em]at hc;obtain rfl:m.1=c:=by injection hc
    have hkm:=(H.key m hm).inj hkc;have h4:es[i']?=some ps[i'].2:=by
     have:es.toList[i']?=(ps.map (·.2))[i']?:=by rw[T.en]
     simpa [hi2] using this
    rw[h4,em,hkm];rfl
  generalize hpr:t.probe _ (tupleKeyHash (ik prog w) ks) (stand.getD _)=pr;rw[hst]at hpr
  rcases hcase with ⟨hs,hgo⟩|⟨i,N',p',hs,hh,hgo,erem',hpd'⟩
  ·obtain rfl:pr=some (.empty j none):=hpr.symm.trans hgo;have hjn:j∉ps.map (·.1):=by
    rcases slot_of T.ris' T.dum j with ⟨_,hn⟩|⟨i,hi,e',_⟩
    ·rw[<-T.pl];exact hn
    ·rw[hs]at e';exact nomatch e'
   have hall:∀ x∈done++pre,∃ q∈ps,q.1=x/\∀ c,q.2.2=.ref c->¬ IsTupleKey (ik prog w) s.heap ks c:=fun x hx=>by
    rcases List.mem_append.mp hx with hx|hx
    ·exact hdone x hx
    ·exact hpre' x hx
   have ecut:way t.mask (tupleKeyHash (ik prog w) ks)=(done++pre)++j::post:=by rw[hway,erem,List.append_assoc]
   refine wpAny_pure (hout (fun hin'=>?_) j (done++pre) post ecut (fun x hx=>?_) hjn)
   ·obtain⟨m,hm,ek⟩:=List.mem_map.mp hin';have he:(tupleKeyHash (ik prog w) m.2,Value.ref m.1)∈es.toList:=H.pm.mem_iff.mpr (List.mem_map.mpr ⟨m,hm,rfl⟩);rw[T.en]at he;obtain⟨q,hq,eq⟩:=List.mem_map.mp he;obtain⟨pre',post',ew,hp'⟩:=T.reach q hq;have eq1:q.2.1=tupleKeyHash (ik prog w) ks:=by rw[eq,ek]
    rw[eq1,ecut]at ew
    rcases uF ew with h|h|h
    ·obtain⟨q',hq',e1,h1⟩:=hall _ h;have:q'=q:=by
      have hnd:=T.ris.imp (fun h=>Nat.ne_of_lt h);obtain⟨i1,hi1,rfl⟩:=List.getElem_of_mem hq';obtain⟨i2,hi2,rfl⟩:=List.getElem_of_mem hq;have:i1=i2:=by
       have h5:=List.pairwise_iff_getElem.mp T.ris
       rcases Nat.lt_trichotomy i1 i2 with h6|h6|h6
       ·have:=h5 i1 i2 (by simpa using hi1) (by simpa using hi2) h6
        simp only[List.getElem_map]at this;omega
       ·exact h6
       ·have:=h5 i2 i1 (by simpa using hi2) (by simpa using hi1) h6
        simp only[List.getElem_map]at this;omega
      subst this;rfl
     subst this;exact h1 m.1 (by rw[eq]) (ek ▸ H.key m hm)
    ·exact hjn (h ▸ List.mem_map.mpr ⟨q,hq,rfl⟩)
    ·exact hjn (hp' j h)
   ·obtain⟨q,hq,e,_⟩:=hall x hx;exact List.mem_map.mpr ⟨q,hq,e⟩
  ·obtain rfl:pr=some (.candidate j i p'):=hpr.symm.trans hgo;dsimp only;obtain⟨i',hi',es1,ej⟩:∃ i',∃ hi:i'<t.place.size,t.slot j=.live i'/\t.place[i']=j:=by
    rcases slot_of T.ris' T.dum j with ⟨e,_⟩|r
    ·rw[e]at hs;exact nomatch hs
    ·exact r
   rw[hs]at es1;obtain rfl:i=i':=by injection es1
   have hi2:i<ps.length:=by rw[<-T.psz];exact hi'
   have hpe:ps[i].1=j:=by
    rw[<-ej];have h3:t.place.toList[i]?=(ps.map (·.1))[i]?:=by rw[T.pl]
    simpa [hi',hi2] using h3.symm
   have h4:es[i]?=some ps[i].2:=by
    have:es.toList[i]?=(ps.map (·.2))[i]?:=by rw[T.en]
    simpa [hi2] using this
   obtain⟨m,hm,em⟩:=hmemb ps[i] (List.getElem_mem hi2);rw[em]at h4;have hseen:∀ v∈(es.filter (·.1 == tupleKeyHash (ik prog w) ks)).toList.map (·.2),∃ c ks',v=.ref c/\IsTupleKey (ik prog w) s.heap ks' c:=fun v hv=>by
    obtain⟨e,he,rfl⟩:=List.mem_map.mp hv;have he2:e∈es.toList:=by
     have:=Array.mem_toList_iff.mp he;exact Array.mem_toList_iff.mpr (Array.mem_filter.mp this).1
    obtain⟨m',hm',em'⟩:=List.mem_map.mp (H.pm.mem_iff.mp he2);exact⟨m'.1,m'.2,by rw[<-em'],H.key m' hm'⟩
   refine wpAny_ite_split (fun _=>wpAny_bind (ox hk hseen ?_)) (fun _=>?_)
   all_goals try simp only[Bool.false_eq_true,if_false]
   all_goals rw[h4]
   all_goals dsimp only
   all_goals refine wpAny_bind (wpAny_holding (wpAny_eqBool_tuple hu (H.key m hm) hk ?_))
   all_goals refine wpAny_bind (wpAny_setState_of ho hd hf ?_)
   all_goals by_cases hkk:m.2=ks
   all_goals try (
    rw[decide_eq_true hkk];simp only[Bool.and_self,if_true];exact wpAny_pure (hin (List.mem_map.mpr ⟨m,hm,hkk⟩)))
   all_goals rw[decide_eq_false hkk]
   all_goals simp only[Bool.and_false,Bool.false_eq_true,if_false,sameMemory,beq_self_eq_true,if_true]
   all_goals rw[hs]
   all_goals dsimp only
   all_goals rw[h4]
   all_goals dsimp only
   all_goals refine wpAny_bind (wpAny_isSame_ref_self ?_)
   all_goals simp only[if_true]
   all_goals refine wpAny_bind (wpAny_pure ?_)
   all_goals dsimp only
   all_goals(
    refine ih N' p' (some p') (done++pre++[j]) rfl hpd' (by rw[erem',hway,erem];simp) ?_ ?_
    ·rw[erem'];have:(rem t.mask N p).length=pre.length+(post.length+1):=by rw[erem];simp
     omega
    ·intro x hx
     rcases List.mem_append.mp hx with hx|hx
     ·rcases List.mem_append.mp hx with hx|hx
      ·exact hdone x hx
      ·exact hpre' x hx
     ·obtain rfl:=List.mem_singleton.mp hx;refine⟨ps[i],List.getElem_mem hi2,hpe,fun c hc hkc=>?_⟩;rw[em]at hc;obtain rfl:m.1=c:=by injection hc
      exact hkk ((H.key m hm).inj hkc))
end
end ST
namespace ST
open PySem PySem.SetTable
def dQ (prog:Program)(w:World)(h:Heap)(a:Addr)(ms:List (Addr × List Int)):Prop:=
 ∃ o es ep t ps,h.get? a=some o/\o.ExactSet/\o.data=.set es ep t/\Tab t es ps/\b7 t.mask ps.length/\Holds prog w h es ms/\t.plain=true/\t.led=!(w.params.followText "set-order")
theorem b7.le {mask n:Nat}(r:b7 mask n):n<=mask:=by
 rcases r with ⟨e,h⟩|⟨e,h⟩|⟨e,h⟩ <;> omega
section
variable {prog:Program}{w:World}{A:Around}{E:Value->Shared->Prop}{s:Shared}
theorem tQ {h h':Heap}{a c:Addr}{ks:List Int}{o:Obj}{es:Array (Int × Value)}{ep:Nat}{t:SetTable}(x:IsTupleKey (ik prog w) h ks c)(ho:h.get? a=some o)(hd:o.data=.set es ep t)
  (hs:Heap.SameBut a h h'):IsTupleKey (ik prog w) h' ks c:=by
 obtain⟨o',items,n,ho',hc,hd',hi⟩:=x;have hne:c≠a:=by
  rintro rfl;obtain rfl:o'=o:=Option.some.inj (ho'.symm.trans ho);rw[hd]at hd';exact nomatch hd'
 exact⟨o',items,n,(hs.2 c hne).trans ho',hc,hd',hi⟩
theorem Holds.len {h:Heap}{es:Array (Int × Value)}{ms:List (Addr × List Int)}(H:Holds prog w h es ms):es.size=ms.length:=by
 rw[<-Array.length_toList,H.pm.length_eq,List.length_map]
def gA (ms:List (Addr × List Int))(b:Addr)(ks:List Int):List (Addr × List Int):=if ks∈ms.map (·.2) then ms else ms++[(b,ks)]
theorem KN {a b:Addr}{ks:List Int}{ms:List (Addr × List Int)}{Q:Bool->Shared->Prop}(hu:A.units<cLine)(hS:dQ prog w s.heap a ms)(hk:IsTupleKey (ik prog w) s.heap ks b)(hroom:ms.length<76)
  (h:∀ h' r,Heap.SameBut a s.heap h'->dQ prog w h' a (gA ms b ks)->Q r {s with heap:=h'}) :
  wpAny (model prog w) A (setAddHashed a (.ref b) (tupleKeyHash (ik prog w) ks)) Q E s:=by
 obtain⟨o,es,ep,t,ps,ho,hex,hd,T,R,H,hpl,hled⟩:=id hS;have hf:=T.fits R.le;have hlen:ps.length=ms.length:=by rw[<-T.esz,H.len]
 unfold setAddHashed setAddHashedIn;refine wpAny_holding (wpAny_bind (wpAny_setState_of ho hd hf ?_));dsimp only;rw[if_neg (by simp[byScan,Value.scannable])]
 refine wpAny_bind ?_;unfold setSearch;refine zB hu ho hd T R.le H hk (fun hin=>?_) (fun hout j pre post ew hpre hj=>?_) 100000 (t.mask+13) _ none [] rfl rfl (by rw[Option.getD_none,xv,List.nil_append]) ?_ (fun x hx=>absurd hx List.not_mem_nil)
 ·refine wpAny_pure ?_;have e:s={s with heap:=s.heap}:=by cases s;rfl
  rw[e];exact h s.heap false (Heap.SameBut.refl a s.heap) (by unfold gA;rw[if_pos hin];exact hS)
 ·dsimp only;refine wpAny_bind (wpAny_setState_of ho hd hf ?_);dsimp only;have hj':j<=t.mask:=wn (h:=tupleKeyHash (ik prog w) ks) (by rw[ew];simp)
  have T1:=T.put (e:=(tupleKeyHash (ik prog w) ks,Value.ref b)) hj' hj ⟨pre,post,ew,hpre⟩;have hpl1:(t.put j).1.plain=true:=hpl;rw[if_pos hpl1];refine wpAny_bind (oy 7 hk ?_);simp only[if_true];have hn1:ps.length+1<=(t.put j).1.mask:=by
   show ps.length+1<=t.mask
   rcases R with ⟨e,h⟩|⟨e,h⟩|⟨e,h⟩ <;> omega
  generalize hps1:ps.take (t.put j).2++(j,(tupleKeyHash (ik prog w) ks,Value.ref b))::ps.drop (t.put j).2=ps1 at T1;generalize hes1:insertAt es (t.put j).2 (tupleKeyHash (ik prog w) ks,Value.ref b)=es1 at T1 ⊢;have hl1:ps1.length=ps.length+1:=by
   rw[<-hps1];have:=congrArg List.length (List.take_append_drop (t.put j).2 ps);simp only[List.length_append,List.length_cons]at this ⊢;omega
  have hpm1:List.Perm es1.toList (gA ms b ks |>.map fun m=>(tupleKeyHash (ik prog w) m.2,Value.ref m.1)):=by
   unfold gA;rw[if_neg hout,<-hes1,List.map_append];refine(SetTable.insertAt_perm _ _ _).trans ?_;rw[Array.toList_push];exact H.pm.append_right _
  have hnd1:((gA ms b ks).map (·.2)).Nodup:=by
   unfold gA;rw[if_neg hout,List.map_append,List.nodup_append];refine⟨H.nd,by simp,fun x hx y hy=>?_⟩
   obtain rfl:y=ks:=by simpa using hy
   exact fun e=>hout (e ▸ hx)
  have hkey1:∀ m∈gA ms b ks,IsTupleKey (ik prog w) s.heap m.2 m.1:=by
   unfold gA;rw[if_neg hout];intro m hm
   rcases List.mem_append.mp hm with hm|hm
   ·exact H.key m hm
   ·obtain rfl:=List.mem_singleton.mp hm;exact hk
  have hfin1:(t.put j).1.fits es1.size=true:=T1.fits (by rw[hl1];exact hn1)
  have hes1z:es1.size<=sizeLine:=by
   rw[T1.esz,hl1];have:sizeLine=16777216:=sizeLine_eq;have h0:ps.length=ms.length:=hlen;omega
  refine wpAny_bind (wpAny_storeSet_of ho hd ?_ hes1z);have hsb1:=Heap.SameBut.update s.heap a (Obj.putSet es1 (t.put j).1);have hg1:(s.heap.update a (Obj.putSet es1 (t.put j).1)).get? a=some {o with data:=.set es1 (ep+1) (t.put j).1}:=by
   have:=Heap.get?_update_self (Obj.putSet es1 (t.put j).1) ho (by rw[putSet_of es1 (t.put j).1 hd];rfl)
   rw[putSet_of es1 (t.put j).1 hd]at this;exact this
  have hfill:(t.put j).1.fill=ps.length+1:=by
   show(t.put j).1.place.size+(t.put j).1.dummies.size=_;rw[T1.psz,T1.dum,hl1];rfl
  have hmask:(t.put j).1.mask=t.mask:=rfl;refine wpAny_ite_split (fun hfull=>?_) (fun hfull=>?_)
  ·simp only[Bool.not_false,Bool.true_and,tooFull,hfill,hmask,ge_iff_le,decide_eq_true_eq]at hfull;obtain⟨mk,hmk,okm,hroom'⟩:∃ mk,sizeAbove (grown (es.size+1))=mk+1/\FL mk/\b7 mk (ps.length+1):=by
    rw[T.esz]
    rcases R with ⟨e,h⟩|⟨e,h⟩|⟨e,h⟩
    ·have e4:ps.length=4:=by omega
     rw[e4];exact⟨31,by decide,.inr (.inl rfl),.inr (.inl ⟨rfl,by decide⟩)⟩
    ·have e4:ps.length=18:=by omega
     rw[e4];exact⟨127,by decide,.inr (.inr rfl),.inr (.inr ⟨rfl,by decide⟩)⟩
    ·omega
   refine wpAny_bind ?_;unfold setRelay;refine wpAny_bind (wpAny_setState_of hg1 rfl hfin1 ?_);dsimp only;have hm128:mk<=127:=by rcases okm with e|e|e <;> omega
   rw[hmk,if_neg (by rw[sizeLine_eq];omega)]
   obtain⟨t2,order,ps2,el,T2,em2,el2,epl2,hpm2⟩:=Fq (finger:=(t.put j).1.finger) (moves:=(t.put j).1.movedTo mk) (led:=(t.put j).1.led) (plain:=(t.put j).1.plain) okm es1 (by rw[T1.esz,hl1];have:=hroom'.le;omega)
   have erl:(t.put j).1.relaid (es1.map (·.1)) (grown (es.size+1))=some (t2,order):=by
    unfold relaid;rw[hmk,Nat.add_sub_cancel];exact el
   rw[erl];generalize hes2:order.filterMap (es1[·]?)=es2 at T2 hpm2;have hsz2:es2.size=es1.size:=by rw[<-Array.length_toList,hpm2.length_eq,Array.length_toList]
   have hl2:ps2.length=ps.length+1:=by rw[<-T2.esz,hsz2,T1.esz,hl1]
   refine wpAny_bind ?_;show wpAny (model prog w) A (if ((order.filterMap (es1[·]?)).size != es1.size)=true then _ else _) _ _ _
   rw[hes2,if_neg (by rw[hsz2];simp)]
   refine wpAny_pure ?_;dsimp only;refine wpAny_storeSet_of (s:={s with heap:=s.heap.update a (Obj.putSet es1 (t.put j).1)}) hg1 rfl ?_ (by rw[hsz2];exact hes1z)
   have hsb2:=hsb1.trans (Heap.SameBut.update (s.heap.update a (Obj.putSet es1 (t.put j).1)) a (Obj.putSet es2 t2));have hg2:((s.heap.update a (Obj.putSet es1 (t.put j).1)).update a (Obj.putSet es2 t2)).get? a=some {o with data:=.set es2 (ep+1+1) t2}:=by
    have:=Heap.get?_update_self (Obj.putSet es2 t2) hg1 (by rw[putSet_of es2 t2 rfl];rfl)
    rw[putSet_of es2 t2 rfl]at this;exact this
   refine wpAny_pure (h _ true hsb2 ⟨_,es2,ep+1+1,t2,ps2,hg2,hex,rfl,T2,by rw[em2,hl2];exact hroom',⟨hpm2.trans hpm1,fun m hm=>tQ (hkey1 m hm) ho hd hsb2,hnd1⟩,by rw[epl2];exact hpl,by rw[el2];exact hled⟩)
  ·refine wpAny_pure (h _ true hsb1 ⟨_,es1,ep+1,(t.put j).1,ps1,hg1,hex,rfl,T1,?_,⟨hpm1,fun m hm=>tQ (hkey1 m hm) ho hd hsb1,hnd1⟩,hpl,hled⟩);rw[hl1,hmask];simp only[Bool.not_false,Bool.true_and,tooFull,hfill,hmask,ge_iff_le,decide_eq_true_eq]at hfull
   rcases R with ⟨e,h⟩|⟨e,h⟩|⟨e,h⟩
   ·left;omega
   ·right;left;omega
   ·right;right;omega
 ·rw[Option.getD_none,xv];unfold way;have h1:=iU t.mask (t.mask+14) (bits (tupleKeyHash (ik prog w) ks) % (t.mask+1)) (bits (tupleKeyHash (ik prog w) ks))
  rcases T.ok with e|e|e <;> rw[e]at h1 ⊢ <;> omega
end
end ST
set_option maxHeartbeats 3200000
namespace ST
open PySem PySem.SetTable
def met (km:Nat->Addr × List Int)(i:Nat):List (Addr × List Int):=((List.range i).map km).foldl (fun ms m=>gA ms m.1 m.2) []
theorem kC (km:Nat->Addr × List Int)(i:Nat):met km (i+1)=gA (met km i) (km i).1 (km i).2:=by
 unfold met;rw[List.range_succ,List.map_append,List.foldl_append];rfl
theorem met_len (km:Nat->Addr × List Int):∀ i,(met km i).length<=i
 | 0=>by simp[met]
 | i+1=>by
  have:=met_len km i;rw[kC];unfold gA
  split
  ·omega
  ·simp;omega
theorem met_of (km:Nat->Addr × List Int):∀ i m,m∈met km i->∃ k,k<i/\m=km k
 | 0,m,h=>by simp[met]at h
 | i+1,m,h=>by
  rw[kC]at h;unfold gA at h
  split at h
  ·obtain⟨k,hk,e⟩:=met_of km i m h;exact⟨k,by omega,e⟩
  ·rcases List.mem_append.mp h with h|h
   ·obtain⟨k,hk,e⟩:=met_of km i m h;exact⟨k,by omega,e⟩
   ·exact⟨i,by omega,by simpa using h⟩
theorem met_has (km:Nat->Addr × List Int):∀ i k,k<i->(km k).2∈(met km i).map (·.2)
 | 0,k,h=>by omega
 | i+1,k,h=>by
  rw[kC];unfold gA
  rcases Nat.lt_or_ge k i with hk|hk
  ·have:=met_has km i k hk
   split
   ·exact this
   ·rw[List.map_append];exact List.mem_append_left _ this
  ·have:k=i:=by omega
   subst this
   split
   ·assumption
   ·simp
section
variable {prog:Program}{w:World}{A:Around}{E:Value->Shared->Prop}{s:Shared}
theorem dQ.kept {h h':Heap}{a:Addr}{ms:List (Addr × List Int)}(S:dQ prog w h a ms)(ka:∀ o,h.get? a=some o->h'.get? a=some o)
  (km:∀ m∈ms,∀ o,h.get? m.1=some o->h'.get? m.1=some o):dQ prog w h' a ms:=by
 obtain⟨o,es,ep,t,ps,ho,hex,hd,T,R,H,r⟩:=S;refine⟨o,es,ep,t,ps,ka o ho,hex,hd,T,R,⟨H.pm,fun m hm=>?_,H.nd⟩,r⟩;obtain⟨o',items,n,ho',x⟩:=H.key m hm;exact⟨o',items,n,km m hm o' ho',x⟩
theorem BR {R:Result->Shared->Prop}{I:Addr}{fp wr:List Addr}{G:Array GenState->Array GenState->Prop}{n:Nat}{P:Nat->Value->Prop}{St:Nat->Shared->Prop}
  (W:WalksS prog w A.in1 I fp wr G n P St) (S:Addr) (hSf:S∉fp) (km:Nat->Addr × List Int) (hval:∀ i v,P i v->v=.ref (km i).1) (hnw:∀ i,i<n->(km i).1∉S::wr) (hn:n<=76) (hu:A.in1.units<cLine) :
  ∀ (k i:Nat) (s:Shared),n-i=k->i<=n->St i s->(∀ i,i<n->IsTupleKey (ik prog w) s.heap (km i).2 (km i).1)->dQ prog w s.heap S (met km i) →
   (∀ s',Moved (S::wr) G s s'->dQ prog w s'.heap S (met km n)->R (.ok (.ret .none)) s') →
   codeAny (model prog w) A (.builtin "set.update.loop" ⟨[.ref S,.ref I],[]⟩) R s:=by
 have hSw:S∉wr:=fun h=>hSf (W.sub _ h);have hup:∀ b∈wr,b∈S::wr:=fun b hb=>List.mem_cons_of_mem _ hb;have mv:∀ {s s':Shared} (i:Nat),i<=n->Moved wr G s s'->dQ prog w s.heap S (met km i)->dQ prog w s'.heap S (met km i):=fun i hi hm hS=>
  hS.kept (fun o e=>hm.heap S o hSw e) fun m hmem o e=>by
   obtain⟨k,hk,rfl⟩:=met_of km i m hmem;exact hm.heap _ o (fun hw=>hnw k (by omega) (List.mem_cons_of_mem _ hw)) e
 intro k
 induction k with
 | zero=>
  intro i s hk hi hst hkey hS hR;obtain rfl:i=n:=by omega
  refine codeAny_builtin PyProof.Rows.F.entry_set_update_loop ?_;rw[Around.under_plainId PyProof.Rows.F.plain_set_update_loop _];show wpAny _ A.in1 (pyNext (.ref I) >>= _) _ _ s;refine wpAny_bind (W.done s _ _ hst fun s' hm=>?_);show wpAny _ A.in1 (ret Value.none) _ _ s';exact wpAny_pure (hR s' (hm.mono hup) (mv i (Nat.le_refl _) hm hS))
 | succ k ih=>
  intro i s hk hi hst hkey hS hR;have hlt:i<n:=by omega
  refine codeAny_builtin PyProof.Rows.F.entry_set_update_loop ?_;rw[Around.under_plainId PyProof.Rows.F.plain_set_update_loop _];show wpAny _ A.in1 (pyNext (.ref I) >>= _) _ _ s;refine wpAny_bind (W.item i s _ _ hlt hst fun v s1 hP hst1 hm=>?_);obtain rfl:=hval i v hP;have hS1:=mv i hi hm hS;have hkey1:∀ i,i<n->IsTupleKey (ik prog w) s1.heap (km i).2 (km i).1:=fun i hi=>by
   obtain⟨o',items,m',ho',x⟩:=hkey i hi;exact⟨o',items,m',hm.heap _ o' (fun hw=>hnw i hi (List.mem_cons_of_mem _ hw)) ho',x⟩
  show wpAny _ A.in1 (holding [Value.ref (km i).1] (setAdd S (.ref (km i).1)) >>= _) _ _ s1;refine wpAny_bind (wpAny_holding ?_);unfold setAdd;refine wpAny_holding (wpAny_bind (wpAny_pyHash_tuple hu (hkey1 i hlt) ?_));refine KN (s:={s1 with toks:=s1.toks+((km i).2.length+1)}) hu hS1 (hkey1 i hlt) (Nat.lt_of_le_of_lt (met_len km i) (by omega)) fun h' r hsb hS2=>?_
  rw[<-kC]at hS2;have hoff:∀ b o,b≠S->s1.heap.get? b=some o->h'.get? b=some o:=fun b o hb e=>(hsb.2 b hb).trans e;refine wpAny_pure ⟨plainId_quiet PyProof.Rows.F.plain_set_update_loop _,ih (i+1) _ (by omega) hlt (W.frame _ s1 h' _ hst1 (Nat.le_add_right _ _) fun b hb o e=>hoff b o (fun hh:b=S=>hSf (hh ▸ hb)) e) (fun i hi=>?_) hS2 fun s2 hm2 hS3=>?_⟩
  ·obtain⟨o',items,m',ho',x⟩:=hkey1 i hi;exact⟨o',items,m',hoff _ o' (fun hh=>hnw i hi (hh ▸ List.mem_cons_self)) ho',x⟩
  ·refine hR s2 (Moved.trans W.gtrans ((hm.mono hup).then_heap (Nat.le_add_right _ _) fun b o hb e=>?_) hm2) hS3;exact hoff b o (fun hh=>hb (hh ▸ List.mem_cons_self)) e
theorem qq (a:Value){Q1:Value->Shared->Prop}
  (h:Q1 (.ref s.heap.objs.size) {s with heap:=s.heap.push {cls:=.type "set",dict:=none,data:=.set #[] 0 (.fresh 0 0 (!(w.params.followText "set-order")))}}) :
  codeAny (model prog w) A (.call (.builtin "set.__new__") ⟨[.type "set",a],[]⟩) (wants Q1 E) s:=by
 refine codeAny_of_tree ?_;show wpAny _ A.in1 (checkBuiltinCall "set.__new__" ⟨[.type "set",a],[]⟩ >>= fun _=>again (.builtin "set.__new__" ⟨[.type "set",a],[]⟩)) _ _ s;refine wpAny_bind (wpAny_of_eq (F.newCall_set_1 a) (wpAny_pure ⟨plainId_quiet F.plain_set_new _,codeAny_builtin F.entry_set_new ?_⟩));rw[Around.under_plainId F.plain_set_new _];unfold Builtin.«set.__new__» Builtin.Frozenset.newClass;have hsub:=sub_set_self;obtain⟨hp,g,d,tk,os⟩:=s;dsimp only
 wp_walk
 refine wpAny_askSetting (wpAny_pure ?_);dsimp only;simp only[newObj];refine wpAny_bind (wpAny_alloc (wpAny_pure ?_));exact wpAny_pure h
theorem yn {h:Heap}{a:Addr} (ho:h.get? a=some {cls:=.type "set",dict:=none,data:=.set #[] 0 (.fresh 0 0 (!(w.params.followText "set-order")))}):dQ prog w h a []:=
 ⟨_,#[],0,_,[],ho,⟨rfl,rfl,rfl⟩,rfl,⟨rfl,rfl,.nil,fun q hq=>absurd hq List.not_mem_nil,rfl,.inl rfl,fun q hq=>absurd hq List.not_mem_nil⟩,.inl ⟨rfl,by decide⟩,
  ⟨.refl _,fun m hm=>absurd hm List.not_mem_nil,.nil⟩,rfl,rfl⟩
theorem call_set_tup {l:Addr}{items:Array Value}{km:Nat->Addr × List Int}{Q:Value->Shared->Prop}
  (hh:A.handled=none) (hu:A.units+10<cLine) (hl:s.heap.IsList l items) (hv:∀ (i:Nat) (v:Value),items[i]?=some v->v=.ref (km i).1) (hkey:∀ i,i<items.size->IsTupleKey (ik prog w) s.heap (km i).2 (km i).1) (hn:items.size<=76)
  (h:∀ (h':Heap) (tk:Nat),dQ prog w h' s.heap.objs.size (met km items.size)->(∀ b o,b<s.heap.objs.size->s.heap.get? b=some o->h'.get? b=some o)->Q (.ref s.heap.objs.size) {s with heap:=h',toks:=tk}) :
  wpAny (model prog w) A (call (.type "set") [.ref l]) Q E s:=by
 obtain⟨c,tl,hmro⟩:=F.called_set.mro;have hmade:=F.called_set.made;have hsub:=F.called_set.sub;refine wpAny_call (codeAny_of_tree ?_);show wpAny _ _ (callAny (.type "set") _) _ _ _;refine wpAny_pure ⟨Code.quiet_builtin _ (by decide +kernel),codeAny_builtin F.entry_type_call ?_⟩
 rw[Around.under_plain (weight_type_call_type "set" [.ref l] []) rfl];have h1:=F.called_set.notType;have h2:=F.called_set.canCreate;have hct:=F.typeCall_set_1 (.ref l)
 repeat (any_goals (first|assumption|wp_step))
 generalize hob:({cls:=.type "set",dict:=none,data:=.set #[] 0 (.fresh 0 0 (!(w.params.followText "set-order")))}:Obj)=ob;refine codeAny_mono (qq (.ref l) (E:=E) (Q1:=fun v s1=>v=.ref s.heap.objs.size/\s1={s with heap:=s.heap.push ob}) (hob ▸ ⟨rfl,rfl⟩)) fun r s1 hr=>?_
 cases r with
 | error e=>exact hr
 | ok fl=>
  cases fl with
  | ret v=>
   obtain⟨rfl,rfl⟩:=hr;have hS:(s.heap.push ob).get? s.heap.objs.size=some ob:=Heap.get?_push_size _ (by rw[<-hob];rfl)
   have hT:Shared.TypeIs {s with heap:=s.heap.push ob} (.ref s.heap.objs.size) "set":=⟨_,hS,by rw[<-hob]⟩
   have hli:=F.called_set.init.lookup;have hbi:=F.called_set.init.bind (.ref s.heap.objs.size)
   repeat (any_goals (first|assumption|wp_step))
   refine codeAny_mono (codeAny_call_builtin (R:=wants (fun r s2=>r=.none/\∃ h' tk,s2={s with heap:=h',toks:=tk}/\dQ prog w h' s.heap.objs.size (met km items.size) ∧
     (∀ b o,b<s.heap.objs.size->s.heap.get? b=some o->h'.get? b=some o)) E) F.called_set.init.plain F.entry_set_init (check_set_init_1 hT ?_)) fun r2 s2 hr2=>?_
   ·obtain⟨ol,hol,hcl,nl,hdl⟩:=id hl;obtain⟨ocls,odict,odata,oslots⟩:=ol;simp only at hcl hdl;subst hcl;subst hdl;have hol':(s.heap.push ob).get? l=some {cls:=.type "list",dict:=odict,data:=.seq items nl,slots:=oslots}:=Heap.get?_push_of_some _ hol;have hsls:=F.sub_list_set;have hslf:=F.sub_list_frozenset;have hne:(Value.type "list" == Value.type "dict")=false:=by decide
    have hl1:(s.heap.push ob).IsList l items:=⟨_,hol',rfl,nl,rfl⟩;subst hob;unfold Builtin.«set.__init__» noKeywords Builtin.Frozenset.updateFrom;generalize hPI:pyIter=PI
    wp_walk
    subst hPI;refine wpAny_pyIter_list hl1 ?_;refine wpAny_bind (wpAny_runValue ?_);generalize hob:({cls:=.type "set",dict:=none,data:=.set #[] 0 (.fresh 0 0 (!(w.params.followText "set-order")))}:Obj)=ob at *;have hlS:l<s.heap.objs.size:=Heap.lt_size hol;have hsz:(s.heap.push ob).objs.size=s.heap.objs.size+1:=by rw[Heap.size_push]
    have hneI:l≠(s.heap.push ob).objs.size:=by rw[hsz];exact Nat.ne_of_lt (Nat.lt_succ_of_lt hlS)
    have hSf:s.heap.objs.size∉[(s.heap.push ob).objs.size,l]:=by
     rw[hsz];intro hm
     rcases List.mem_cons.mp hm with e|hm
     ·exact Nat.ne_of_lt (Nat.lt_succ_self _) e
     ·exact Nat.ne_of_gt hlS (List.mem_singleton.mp hm)
    have off:∀ b:Nat,b<s.heap.objs.size->b∉s.heap.objs.size::[(s.heap.push ob).objs.size]:=fun b hb hm=>by
     rw[hsz]at hm
     rcases List.mem_cons.mp hm with e|hm
     ·exact Nat.ne_of_lt hb e
     ·exact Nat.ne_of_lt (Nat.lt_succ_of_lt hb) (List.mem_singleton.mp hm)
    have hnw:∀ i,i<items.size->(km i).1∉s.heap.objs.size::[(s.heap.push ob).objs.size]:=fun i hi=>off _ (by
     obtain⟨o',_,_,ho',_⟩:=hkey i hi;exact Heap.lt_size ho')
    refine BR ((Walks.list (by simp[hh]) _ l hneI items).toS) s.heap.objs.size hSf km hv hnw hn (by show A.units+1+1+1<cLine;omega) (items.size-0) 0 _ (by omega) (Nat.zero_le _)
     ⟨⟨_,Heap.get?_push_size _ rfl,rfl,rfl⟩,(hl1.push _)⟩ (fun i hi=>?_) ?_ ?_
    ·obtain⟨o',its',m',ho',x⟩:=hkey i hi;exact⟨o',its',m',Heap.get?_push_of_some _ (Heap.get?_push_of_some _ ho'),x⟩
    ·refine yn ?_;rw[hob];exact Heap.get?_push_of_some _ hS
    ·intro s' hm hS';obtain⟨h',g',d',tk',os'⟩:=s';have eg:g'=s.gens:=hm.gens;have ed:d'=s.drawn:=hm.drawn;have eo:os'=s.os:=hm.os;subst eg;subst ed;subst eo;show wpAny _ _ _ _ _ _;refine wpAny_pure ?_;show wpAny _ _ (ret Value.none) _ _ _;refine wpAny_pure ⟨rfl,h',tk',rfl,hS',fun b o hb e=>?_⟩;exact hm.heap b o (off b hb) (Heap.get?_push_of_some _ (Heap.get?_push_of_some _ e))
   ·cases r2 with
    | error e=>exact hr2
    | ok fl2=>
     cases fl2 with
     | ret r=>
      obtain⟨rfl,h',tk,rfl,hS',hk'⟩:=hr2
      repeat (any_goals (first|assumption|wp_step))
      exact h _ _ hS' hk'
     | _=>exact hr2.elim
  | _=>exact hr.elim
end
end ST
set_option maxHeartbeats 3200000
namespace ST
open PySem PySem.SetTable
theorem nv {α:Type}:∀ (l:List α) (i:Nat) (h:i<l.length),List.Perm (l[i]::l.eraseIdx i) l
 | [],i,h=>by simp at h
 | a::l,0,h=>by simp
 | a::l,i+1,h=>by
  simp only[List.getElem_cons_succ,List.eraseIdx_cons_succ];exact(List.Perm.swap _ _ _).trans (List.Perm.cons a (nv l i (by simpa using h)))
theorem xo {α:Type}(next:Nat->Nat):∀ (fuel k:Nat) (left:List α) (out:Array α),left.length=fuel->List.Perm (pickOrder.go next fuel k left out).toList (out.toList++left)
 | 0,k,left,out,h=>by
  have:left=[]:=List.length_eq_zero_iff.mp h;subst this;simp[pickOrder.go]
 | fuel+1,k,left,out,h=>by
  have hi:next k % left.length<left.length:=Nat.mod_lt _ (by omega)
  simp only[pickOrder.go,List.getElem?_eq_getElem hi];refine(xo next fuel (k+1) _ _ (by rw[List.length_eraseIdx_of_lt hi];omega)).trans ?_
  rw[Array.toList_push,List.append_assoc];exact List.Perm.append_left _ (nv _ _ hi)
theorem zf {α:Type}(next:Nat->Nat)(xs:Array α):List.Perm (pickOrder next xs).toList xs.toList:=by
 have:=xo next xs.size 0 xs.toList #[] (by simp)
 simpa [pickOrder] using this
def cY (w:World)(a:Addr)(ep:Nat)(es:Array (Int × Value)):List Value:=
 if w.params.followText "set-order"=true then (pickOrder (w.params.setOrder a ep) es).toList.map (·.2) else es.toList.map (·.2)
theorem p9 (w:World)(a:Addr)(ep:Nat)(es:Array (Int × Value)):List.Perm (cY w a ep es) (es.toList.map (·.2)):=by
 unfold cY
 split
 ·exact(zf _ es).map _
 ·exact .refl _
theorem uX {xs:Array Nat}(ris:xs.toList.Pairwise (· < ·)):below xs 0=0:=by
 obtain⟨h1,h2⟩:=kh 0 ris
 rcases Nat.eq_zero_or_pos (below xs 0) with h|h
 ·exact h
 ·have:=(h2 0 (by omega)).mp h
  omega
theorem uW {xs:Array Nat}(ris:xs.toList.Pairwise (· < ·)){i:Nat}(hi:i<xs.size):below xs (xs[i]+1)=i+1:=by
 obtain⟨h1,h2⟩:=kh (xs[i]+1) ris;have mono:∀ a b (ha:a<xs.size) (hb:b<xs.size),a<b->xs[a]<xs[b]:=fun a b ha hb hab=>by
  have:=List.pairwise_iff_getElem.mp ris a b (by simpa using ha) (by simpa using hb) hab
  simpa using this
 rcases Nat.lt_trichotomy (below xs (xs[i]+1)) (i+1) with h|h|h
 ·have:=(h2 i hi).mpr (by omega)
  omega
 ·exact h
 ·have h3:=(h2 (i+1) (by omega)).mp h
  have:=mono i (i+1) hi (by omega) (by omega)
  omega
theorem eA:Slot "set_iterator" "__next__" "set_iterator.__next__":=
 .of (owner:="set_iterator") (n:="__next__") (by rw[typeLookup_type,builtinLookup_eq_fast];kernel_rfl) (by decide +kernel) (by decide +kernel) (by decide +kernel)
  (by first|exact .inl (by decide +kernel)|exact .inr (by decide +kernel)) (by rw[isSubtype_type];kernel_rfl)
theorem nk:entryFor table "set_iterator.__next__"=some Builtin.«set_iterator.__next__»:=entryFor_of_tree (by kernel_rfl)
theorem pL:Manifest.owners.lookup (String.ofList ("set_iterator".toList.reverse).reverse)=some Manifest.sig_set_iterator:=by kernel_rfl
theorem oE (a:Value):argsOk "set_iterator.__next__" ⟨[a],[]⟩:=by
 unfold argsOk;rw[signature?_of (id:="set_iterator.__next__") (n:="__next__".toList.reverse) (o:="set_iterator".toList.reverse) (by kernel_rfl) pL];kernel_rfl
theorem jJ:Slot "set_iterator" "__iter__" "set_iterator.__iter__":=
 .of (owner:="set_iterator") (n:="__iter__") (by rw[typeLookup_type,builtinLookup_eq_fast];kernel_rfl) (by decide +kernel) (by decide +kernel) (by decide +kernel)
  (by first|exact .inl (by decide +kernel)|exact .inr (by decide +kernel)) (by rw[isSubtype_type];kernel_rfl)
theorem oD (a:Value):argsOk "set_iterator.__iter__" ⟨[a],[]⟩:=by
 unfold argsOk;rw[signature?_of (id:="set_iterator.__iter__") (n:="__iter__".toList.reverse) (o:="set_iterator".toList.reverse) (by kernel_rfl) pL];kernel_rfl
theorem nj:entryFor table "set_iterator.__iter__"=some Builtin.«dict_keyiterator.__iter__»:=
 entryFor_alias (id':="dict_keyiterator.__iter__") (by kernel_rfl) (by first | rfl | decide +kernel) (by decide +kernel) (by kernel_rfl)
theorem ni:entryFor table "set.__iter__"=some Builtin.«frozenset.__iter__»:=
 entryFor_alias (id':="frozenset.__iter__") (by kernel_rfl) rfl (by decide +kernel) (by kernel_rfl)
structure jM (w:World) (o:Obj) (es:Array (Int × Value)) (ep:Nat) (t:SetTable):Prop where
 ex:o.ExactSet
 dt:o.data=.set es ep t
 fit:t.fits es.size=true
 ris:t.place.toList.Pairwise (· < ·)
 pl:t.plain=true
 led:t.led=!(w.params.followText "set-order")
def kf (h:Heap) (I S:Addr) (sl i n ep:Nat):Prop:=∃ o,h.get? I=some o/\o.cls=.type "set_iterator"/\o.data=.fields #[rawInt sl,rawInt i,.ref S,rawInt n,rawInt ep]
section
variable {prog:Program}{w:World}{A:Around}{E:Value->Shared->Prop}{s:Shared}{o:Obj}{es:Array (Int × Value)}{ep:Nat}{t:SetTable}{S I:Addr}
theorem kf.typeIs {sl i n:Nat} (x:kf s.heap I S sl i n ep):s.TypeIs (.ref I) "set_iterator":=let ⟨o,ho,hc,_⟩:=x;⟨o,ho,hc⟩
theorem kf.at {h h':Heap}{sl i n:Nat}(x:kf h I S sl i n ep)(e:∀ o,h.get? I=some o->h'.get? I=some o):kf h' I S sl i n ep:=let ⟨o,ho,r⟩:=x;⟨o,e _ ho,r⟩
theorem wq {sl i:Nat}{Q:Option (Value × Nat)->Shared->Prop}(W:jM w o es ep t)(ho:s.heap.get? S=some o)
  (hsl:w.params.followText "set-order"=false->below t.place sl=i)
  (hsome:∀ v sl',(cY w S ep es)[i]?=some v->(w.params.followText "set-order"=false->below t.place sl'=i+1)->Q (some (v,sl')) s) (hnone:(cY w S ep es)[i]?=none->Q none s) :
  wpAny (model prog w) A (setNext S sl i ep) Q E s:=by
 unfold setNext;refine wpAny_bind (wpAny_setState_of ho W.dt W.fit ?_);dsimp only;unfold setsByText;refine wpAny_bind (wpAny_bind (wpAny_askSetting (wpAny_pure ?_)))
 by_cases hb:w.params.followText "set-order"=true
 ·show wpAny _ _ (if w.params.followText "set-order"=true then _ else _) _ _ _
  rw[if_pos hb];rw[if_neg (by simp)]
  unfold setWalk;refine wpAny_bind (wpAny_bind (wpAny_setState_of ho W.dt W.fit ?_));dsimp only;unfold setsByText;refine wpAny_bind (wpAny_bind (wpAny_askSetting (wpAny_pure ?_)));show wpAny _ _ (if w.params.followText "set-order"=true then _ else _) _ _ _
  rw[if_pos hb];refine wpAny_bind (wpAny_askSetting (wpAny_pure ?_));refine wpAny_pure ?_;have ew:cY w S ep es=(pickOrder (w.params.setOrder S ep) es).toList.map (·.2):=by unfold cY;rw[if_pos hb]
  show Q (((pickOrder (w.params.setOrder S ep) es)[i]?).map fun e=>(e.2,sl)) s
  cases hp:(pickOrder (w.params.setOrder S ep) es)[i]? with
  | none=>
   have:=hnone (by rw[ew,List.getElem?_map,Array.getElem?_toList,hp];rfl)
   exact this
  | some e=>
   have:=hsome e.2 sl (by rw[ew,List.getElem?_map,Array.getElem?_toList,hp];rfl) (fun h=>by rw[hb]at h;exact nomatch h)
   exact this
 ·have hb':w.params.followText "set-order"=false:=by simpa using hb
  show wpAny _ _ (if w.params.followText "set-order"=true then _ else _) _ _ _
  rw[if_neg hb];show wpAny _ _ (if (!t.plain && decide (es.size>1))=true then _ else _) _ _ _
  rw[if_neg (by simp[W.pl])]
  refine wpAny_bind ?_;show wpAny _ _ (if (!t.led && !es.isEmpty)=true then _ else _) _ _ _
  rw[if_neg (by simp[W.led,hb'])]
  refine wpAny_pure ?_;rw[hsl hb'];refine wpAny_pure ?_;have hps:t.place.size=es.size:=by
   have:=W.fit;simp only[SetTable.fits,Bool.and_eq_true,beq_iff_eq]at this;exact this.1
  have ew:cY w S ep es=es.toList.map (·.2):=by unfold cY;rw[if_neg hb]
  rcases Nat.lt_or_ge i es.size with hi|hi
  ·have hi':i<t.place.size:=by rw[hps];exact hi
   have:=hsome es[i].2 (t.place[i]+1) (by rw[ew];simp[hi]) (fun _=>uW W.ris hi')
   simpa [hi,hi'] using this
  ·have:=hnone (by rw[ew];simpa using hi)
   have hi':t.place.size<=i:=by rw[hps];exact hi
   simpa [Array.getElem?_eq_none hi,Array.getElem?_eq_none hi'] using this
theorem mf {sl i:Nat}{Q:Option Value->Shared->Prop}(hh:A.handled=none)(W:jM w o es ep t)(ho:s.heap.get? S=some o)(hne:S≠I)
  (hit:kf s.heap I S sl i es.size ep) (hsl:w.params.followText "set-order"=false->below t.place sl=i)
  (hsome:∀ v sl' h',(cY w S ep es)[i]?=some v->kf h' I S sl' (i+1) es.size ep->(w.params.followText "set-order"=false->below t.place sl'=i+1)->Heap.ExtBut I s.heap h'->Q (some v) {s with heap:=h'})
  (hnone:∀ h',(cY w S ep es)[i]?=none->Heap.ExtBut I s.heap h'->Q none {s with heap:=h'}) :
  wpAny (model prog w) A (pyNext (.ref I)) Q E s:=by
 obtain⟨oI,hoI,hcI,hdI⟩:=id hit;unfold pyNext;refine wpAny_bind (wpAny_attempt (wpAny_callSpecial?_slot (name:=Str.ofString "__next__") hit.typeIs eA
  (wpAny_call_entry eA hit.typeIs nk ?_ (oE _))))
 unfold Builtin.«set_iterator.__next__»;refine wpAny_bind (wpAny_of_eq (a:=(Value.ref I,[])) rfl ?_);refine wpAny_bind (wpAny_fieldsOf hoI hdI ?_);simp only[rawInt,List.toList_toArray];refine wpAny_bind (wpAny_setEntries_of ho W.dt W.fit ?_);rw[if_neg (by simp)]
 simp only[Int.toNat_natCast];have hlI:∀ {h':Heap},Heap.SameBut I s.heap h'->h'.get? S=some o:=fun hs=>(hs.2 S hne).trans ho;refine wpAny_bind (wq W ho hsl (fun v sl' hv hsl'=>?_) (fun hv=>?_))
 ·dsimp only;refine wpAny_bind (wpAny_setField hoI hdI (by simp) ?_)
  have g1:=Heap.get?_update_self (Obj.mapFields (·.setIfInBounds 0 (Value.int (sl':Int) 0))) hoI (Obj.isFreed_of_fields (Obj.data_mapFields hdI _));have d1:=Obj.data_mapFields hdI (·.setIfInBounds 0 (Value.int (sl':Int) 0));refine wpAny_bind (wpAny_setField (s:={s with heap:=s.heap.update I (Obj.mapFields (·.setIfInBounds 0 (Value.int (sl':Int) 0)))}) g1 d1 (by simp) ?_)
  refine wpAny_pure ⟨v,rfl,wpAny_pure (hsome v sl' _ hv ?_ hsl' ((Heap.SameBut.update ..).trans (Heap.SameBut.update ..)).extBut)⟩;refine⟨_,Heap.get?_update_self _ g1 (Obj.isFreed_of_fields (Obj.data_mapFields d1 _)),(Obj.cls_mapFields ..).trans ((Obj.cls_mapFields ..).trans hcI),?_⟩;rw[Obj.data_mapFields d1];simp[rawInt]
 ·dsimp only;refine wpAny_bind (wpAny_setField hoI hdI (by simp) ?_)
  show wpAny _ _ (newExc (.type "StopIteration") [] >>= _) _ _ _;refine wpAny_bind ?_;simp only[newExc,newTuple];refine wpAny_bind (wpAny_newObj_type ?_ (by size_fits))
  refine wpAny_bind (m:=firstArgMember _ _) (wpAny_of_eq (a:=Value.none) (by first|rfl|(simp only[firstArgMember];rfl)) ?_)
  refine wpAny_newObj_type ?_ (by size_fits)
  simp only[raiseNew];refine wpAny_bind (wpAny_handled ?_);rw[show A.in1.handled=none from hh];refine wpAny_bind (wpAny_pure (wpAny_throw ?_));refine wpAny_bind (wpAny_isInstance (T:="StopIteration") (b:=true) ⟨_,Heap.get?_push_size _ rfl,rfl⟩ isSubtype_stop ?_);exact wpAny_pure (hnone _ hv (((Heap.SameBut.update ..).extBut.push _).push _))
theorem uI {sl i n:Nat}{Q:Value->Shared->Prop}(hit:kf s.heap I S sl i n ep)(h:Q (.ref I) s):wpAny (model prog w) A (pyIter (.ref I)) Q E s:=by
 refine wpAny_pyIter_slot hit.typeIs jJ (wpAny_call_entry jJ hit.typeIs nj ?_ (oD _));show wpAny _ _ (ret (.ref I)) _ _ s;exact wpAny_pure ⟨_,rfl,"set_iterator",_,hit.typeIs,eA.lookup,h⟩
theorem ow (W:jM w o es ep t):(cY w S ep es).length=es.size:=by
 rw[(p9 w S ep es).length_eq,List.length_map,Array.length_toList]
theorem zA (hh:A.handled=none)(W:jM w o es ep t)(hne:S≠I) :
  Walks prog w A I [I,S] [I] es.size (fun i v=>(cY w S ep es)[i]?=some v)
   (fun i h=>∃ sl,kf h I S sl i es.size ep/\(w.params.followText "set-order"=false->below t.place sl=i)/\h.get? S=some o) where
 sub:=fun b hb=>by simp at hb;simp[hb]
 frame:=fun _ _ _ ⟨sl,x1,x2,x3⟩ hk=>⟨sl,x1.at fun o e=>hk I (by simp) o e,x2,hk S (by simp) _ x3⟩
 item:=fun i s Q E hi ⟨sl,x1,x2,x3⟩ hQ=>by
  refine mf hh W x3 hne x1 x2 (fun v sl' h' hv hit' hsl' he=>?_) (fun h' hv=>?_)
  ·exact hQ v h' s.toks hv ⟨sl',hit',hsl',he S o hne x3⟩ fun b o' hb e=>he b o' (fun h=>hb (by simp[h])) e
  ·rw[List.getElem?_eq_none_iff,ow W]at hv;omega
 done:=fun s Q E ⟨sl,x1,x2,x3⟩ hQ=>by
  refine mf hh W x3 hne x1 x2 (fun v sl' h' hv hit' hsl' he=>?_) (fun h' hv he=>?_)
  ·have:=List.getElem?_eq_some_iff.mp hv;obtain⟨h1,_⟩:=this;rw[ow W]at h1;omega
  ·exact hQ h' s.toks fun b o' hb e=>he b o' (fun h=>hb (by simp[h])) e
 self:=fun _ _ _ _ ⟨_,x1,_⟩ hQ=>uI x1 hQ
theorem uH {Q:Value->Shared->Prop}(W:jM w o es ep t)(ho:s.heap.get? S=some o)
  (hQ:Q (.ref s.heap.objs.size) {s with heap:=s.heap.push {cls:=.type "set_iterator",data:=.fields #[rawInt (0:Nat),rawInt (0:Nat),.ref S,rawInt es.size,rawInt ep]}}) :
  wpAny (model prog w) A (pyIter (.ref S)) Q E s:=by
 have hT:s.TypeIs (.ref S) "set":=⟨o,ho,W.ex.1⟩;refine wpAny_pyIter_slot hT F.slot_set_iter (wpAny_call_entry F.slot_set_iter hT ni ?_ (F.args_set_iter_1 _));unfold Builtin.«frozenset.__iter__» Builtin.Frozenset.slot0 slotArgs;simp only[List.isEmpty_nil,Bool.not_true,Bool.false_eq_true,↓reduceIte,bind_assoc,List.length_nil,bne_self_eq_false];unfold Builtin.Frozenset.addrOf Builtin.Frozenset.sizeOf;refine wpAny_bind (wpAny_pure ?_)
 try dsimp only
 refine wpAny_bind (wpAny_pure ?_);refine wpAny_bind (wpAny_bind (wpAny_setEntries_of ho W.dt W.fit (wpAny_pure ?_)));unfold setDrawn setsByText;refine wpAny_bind (wpAny_bind (wpAny_setState_of ho W.dt W.fit ?_));dsimp only;refine wpAny_bind (wpAny_bind (wpAny_askSetting (wpAny_pure ?_)));refine wpAny_pure ?_;show wpAny _ _ (if (!(w.params.followText "set-order") && (!t.plain && decide (es.size>1)))=true then _ else _) _ _ _
 rw[if_neg (by simp[W.pl])]
 refine wpAny_bind (wpAny_pure ?_);refine wpAny_bind (wpAny_setEpoch_of ho W.dt W.fit ?_);exact wpAny_bind (wpAny_newObj_type (wpAny_pure ⟨_,rfl,"set_iterator",_,⟨_,Heap.get?_push_size _ rfl,rfl⟩,eA.lookup,hQ⟩))
end
end ST
set_option maxHeartbeats 3200000
namespace SR
variable {α:Type}
theorem Oa {out A B1 B2 X:List α}(h:List.Perm (out++A++(B1++B2)) X):List.Perm (out++B1++A++B2) X:=by
 refine List.Perm.trans ?_ h;have:List.Perm (B1++A) (A++B1):=List.perm_append_comm;have h6:=(this.append_left out).append_right B2;simpa [List.append_assoc] using h6
theorem JU {out A B X:List α}(h:List.Perm (out++A++B) X):List.Perm (out++B++A) X:=by
 have:=Oa (B2:=[]) (by simpa using h)
 simpa using this
theorem OM {ro A1 A2 B X:List α}(h:List.Perm (A1++A2++B++ro) X):List.Perm (A1++B++(A2++ro)) X:=by
 refine List.Perm.trans ?_ h;have:List.Perm (B++A2) (A2++B):=List.perm_append_comm;have h6:=(this.append_left A1).append_right ro;simpa [List.append_assoc] using h6
theorem tW:∀ (l:List α) (i sa:Nat) (arr:Array α),sa+i+l.length<=arr.size →
  ((l.zipIdx i).foldl (fun a (q:α × Nat)=>a.setIfInBounds (sa+q.2) q.1) arr).toList=arr.toList.take (sa+i)++l++arr.toList.drop (sa+i+l.length)
 | [],i,sa,arr,_=>by simp
 | x::l,i,sa,arr,h=>by
  simp only[List.length_cons]at h;rw[List.zipIdx_cons,List.foldl_cons,tW l (i+1) sa _ (by simp;omega)]
  have hlt:sa+i<arr.toList.length:=by simp;omega
  have e1:((arr.setIfInBounds (sa+i) x).toList.take (sa+(i+1)))=arr.toList.take (sa+i)++[x]:=by
   rw[Array.toList_setIfInBounds,show sa+(i+1)=sa+i+1 by omega,List.take_succ]
   rw[List.take_set_of_le (by omega)]
   have hlt':sa+i<arr.size:=by omega
   simp[hlt']
  have e2:((arr.setIfInBounds (sa+i) x).toList.drop (sa+(i+1)+l.length))=arr.toList.drop (sa+i+(x::l).length):=by
   rw[Array.toList_setIfInBounds,List.drop_set_of_lt (by omega)]
   simp only[List.length_cons]
   congr 1;omega
  rw[e1,e2];simp
end SR
set_option maxHeartbeats 3200000
namespace SR
open PySem PyProof.Rows
def c9:Bool->Keyed->Array Keyed->Nat->Nat->Nat->StateT SortSt Sem (Option Nat):=sortPriv% PySem.Builtin.gallop
def bu:Nat->StateT SortSt Sem Unit:=sortPriv% PySem.Builtin.setMinGallop
def kB:Array Keyed->Array Keyed->StateT SortSt Sem (Array Keyed):=sortPriv% PySem.Builtin.mergeLo
def kA:Array Keyed->Array Keyed->StateT SortSt Sem (Array Keyed):=sortPriv% PySem.Builtin.mergeHi
def uZ (left:Bool)(key:Keyed)(arr:Array Keyed)(base i:Nat):StateT SortSt Sem (Option Bool):=do
 let x ← elem' arr (base+i)
 if left then lt' x key else return (← lt' key x).map (!·)
theorem vh (left:Bool)(key:Keyed)(arr:Array Keyed)(base n hint:Nat):c9 left key arr base n hint=(do
 let mut lastofs:=0
 let mut ofs:=1
 let mut lo:=0
 let mut hi:=0
 let some right ← uZ left key arr base hint|return none
 if right then
  let maxofs:=n-hint
  for _ in [0:n] do
   if ofs>=maxofs then break
   let some more ← uZ left key arr base (hint+ofs)|return none
   if !more then break
   lastofs:=ofs
   ofs:=2*ofs+1
  lo:=hint+lastofs+1
  hi:=hint+min ofs maxofs
 else
  let maxofs:=hint+1
  for _ in [0:n] do
   if ofs>=maxofs then break
   let some found ← uZ left key arr base (hint-ofs)|return none
   if found then break
   lastofs:=ofs
   ofs:=2*ofs+1
  lo:=hint+1-min ofs maxofs
  hi:=hint-lastofs
 for _ in [0:n] do
  if lo>=hi then break
  let m:=lo+(hi-lo) / 2
  let some more ← uZ left key arr base m|return none
  if more then lo:=m+1 else hi:=m
 return some hi):=rfl
theorem lL (g:Nat):bu g=modify fun s=>SortSt.mk' (kindOf s) (arrOf s) (pendingOf s) g (failedOf s):=rfl
def dN (a b out:Array Keyed)(ia ib:Nat):Array Keyed:=out++a.extract ia a.size++b.extract ib b.size
def jG (a b out:Array Keyed)(ia ib:Nat):Array Keyed:=out++b.extract ib b.size++a.extract ia a.size
theorem um (a b:Array Keyed):kB a b=(do
 rule "list.sort.merge-lo"
 let total:=a.size+b.size
 let mut out:Array Keyed:=#[<-elem' b 0]
 let mut ia:=0
 let mut ib:=1
 if ib == b.size then return dN a b out ia ib
 if ia+1 == a.size then return jG a b out ia ib
 let mut minGallop:=gallopOf (← get)
 for _ in [0:total] do
  let mut acount:=0
  let mut bcount:=0
  for _ in [0:total] do
   let some bWins ← lt' (← elem' b ib) (← elem' a ia)|return dN a b out ia ib
   if bWins then
    out:=out.push (← elem' b ib);ib:=ib+1;bcount:=bcount+1;acount:=0
    if ib == b.size then return dN a b out ia ib
    if bcount>=minGallop then break
   else
    out:=out.push (← elem' a ia);ia:=ia+1;acount:=acount+1;bcount:=0
    if ia+1 == a.size then return jG a b out ia ib
    if acount>=minGallop then break
  rule "list.sort.gallop"
  minGallop:=minGallop+1
  for _ in [0:total] do
   if minGallop>1 then minGallop:=minGallop-1
   bu minGallop
   let some k ← c9 false (← elem' b ib) a ia (a.size-ia) 0|return dN a b out ia ib
   acount:=k
   if k>0 then
    out:=out++a.extract ia (ia+k);ia:=ia+k
    if ia+1 == a.size then return jG a b out ia ib
    if ia == a.size then return dN a b out ia ib
   out:=out.push (← elem' b ib);ib:=ib+1
   if ib == b.size then return dN a b out ia ib
   let some k ← c9 true (← elem' a ia) b ib (b.size-ib) 0|return dN a b out ia ib
   bcount:=k
   if k>0 then
    out:=out++b.extract ib (ib+k);ib:=ib+k
    if ib == b.size then return dN a b out ia ib
   out:=out.push (← elem' a ia);ia:=ia+1
   if ia+1 == a.size then return jG a b out ia ib
   if acount<7 && bcount<7 then break
  minGallop:=minGallop+1
  bu minGallop
 unsupported "internal:list.sort.merge-bound"):=rfl
def dM (a b out:Array Keyed)(na nb:Nat):Array Keyed:=a.extract 0 na++b.extract 0 nb++out.reverse
def gk (a b out:Array Keyed)(na nb:Nat):Array Keyed:=b.extract 0 nb++a.extract 0 na++out.reverse
theorem ul (a b:Array Keyed):kA a b=(do
 rule "list.sort.merge-hi"
 let total:=a.size+b.size
 let mut na:=a.size-1
 let mut nb:=b.size
 let mut out:Array Keyed:=#[<-elem' a na]
 if na == 0 then return dM a b out na nb
 if nb == 1 then return gk a b out na nb
 let mut minGallop:=gallopOf (← get)
 for _ in [0:total] do
  let mut acount:=0
  let mut bcount:=0
  for _ in [0:total] do
   let some aWins ← lt' (← elem' b (nb-1)) (← elem' a (na-1))|return dM a b out na nb
   if aWins then
    na:=na-1;out:=out.push (← elem' a na);acount:=acount+1;bcount:=0
    if na == 0 then return dM a b out na nb
    if acount>=minGallop then break
   else
    nb:=nb-1;out:=out.push (← elem' b nb);bcount:=bcount+1;acount:=0
    if nb == 1 then return gk a b out na nb
    if bcount>=minGallop then break
  rule "list.sort.gallop"
  minGallop:=minGallop+1
  for _ in [0:total] do
   if minGallop>1 then minGallop:=minGallop-1
   bu minGallop
   let some at_ ← c9 false (← elem' b (nb-1)) a 0 na (na-1)|return dM a b out na nb
   let k:=na-at_
   acount:=k
   if k>0 then
    out:=out++(a.extract at_ na).reverse;na:=at_
    if na == 0 then return dM a b out na nb
   nb:=nb-1;out:=out.push (← elem' b nb)
   if nb == 1 then return gk a b out na nb
   let some at_ ← c9 true (← elem' a (na-1)) b 0 nb (nb-1)|return dM a b out na nb
   let k:=nb-at_
   bcount:=k
   if k>0 then
    out:=out++(b.extract at_ nb).reverse;nb:=at_
    if nb == 1 then return gk a b out na nb
    if nb == 0 then return dM a b out na nb
   na:=na-1;out:=out.push (← elem' a na)
   if na == 0 then return dM a b out na nb
   if acount<7 && bcount<7 then break
  minGallop:=minGallop+1
  bu minGallop
 unsupported "internal:list.sort.merge-bound"):=rfl
section
variable {prog:Program}{w:World}{A:Around}{E:Value->Shared->Prop}{s:Shared}{κ:SortKind}{rk:Keyed->Int}{Gd:Keyed->Prop}
def oB (prog:Program)(w:World)(A:Around)(s:Shared)(κ:SortKind)(rk:Keyed->Int)(Gd:Keyed->Prop):Prop:=
 ∀ x y,Gd x->Gd y->∀ Q:Bool->Shared->Prop,Q (decide (rk x<rk y)) s->wpAny (model prog w) A (keyLt' κ x.1 y.1) Q (fun _ _=>False) s
theorem w_lt (hc:oB prog w A s κ rk Gd){x y:Keyed}{a:Array Keyed}{p:Array (Nat × Nat × Nat)}{g:Nat}{Q:Option Bool->SortSt->Prop}(hx:Gd x)(hy:Gd y)(h:Q (some (decide (rk x<rk y))) (SortSt.mk' κ a p g none)) :
  wpS (model prog w) A E s (lt' x y) Q (SortSt.mk' κ a p g none):=by
 rw[lt'_eq];refine wpS_bind (wpS_get ?_);refine wpS_bind (wpS_lift (wpAny_attempt (wpAny_mono (hc x y hx hy (fun c s'=>s'=s/\Q (some c) (SortSt.mk' κ a p g none)) ⟨rfl,h⟩) (fun c s' hq=>?_) fun _ _ hF=>hF.elim)));exact⟨hq.1,wpS_pure hq.2⟩
theorem wk {arr:Array Keyed}{i:Nat}{x:Keyed}{st:SortSt}{Q:Keyed->SortSt->Prop}(he:arr[i]?=some x)(h:Q x st):wpS (model prog w) A E s (elem' arr i) Q st:=by
 rw[elem'_eq,he];exact wpS_pure h
theorem KL (hc:oB prog w A s κ rk Gd){i j:Nat}{x y:Keyed}{a:Array Keyed}{p:Array (Nat × Nat × Nat)}{g:Nat}{Q:Option Bool->SortSt->Prop}(ei:a[i]?=some x)(ej:a[j]?=some y)(hx:Gd x)(hy:Gd y)
  (h:Q (some (decide (rk x<rk y))) (SortSt.mk' κ a p g none)):wpS (model prog w) A E s (ltAt' i j) Q (SortSt.mk' κ a p g none):=by
 rw[ltAt'_eq];refine wpS_bind (wpS_get ?_);exact wpS_bind (wk ei (wpS_bind (wk ej (w_lt hc hx hy h))))
def G (prog:Program)(w:World)(A:Around)(E:Value->Shared->Prop)(s:Shared)(κ:SortKind)(arr:Array Keyed)(p:Array (Nat × Nat × Nat)){α:Type}(m:StateT SortSt Sem α)(Q:α->Prop):Prop:=
 ∀ g,wpS (model prog w) A E s m (fun a st'=>(∃ g',st'=SortSt.mk' κ arr p g' none)/\Q a) (SortSt.mk' κ arr p g none)
variable {arr:Array Keyed}{p:Array (Nat × Nat × Nat)}
theorem aF {α:Type}{a:α}{Q:α->Prop}(h:Q a):G prog w A E s κ arr p (pure a) Q:=fun g=>wpS_pure ⟨⟨g,rfl⟩,h⟩
theorem aK {α β:Type}{m:StateT SortSt Sem α}{f:α->StateT SortSt Sem β}{Q:β->Prop}(h:G prog w A E s κ arr p m fun a=>G prog w A E s κ arr p (f a) Q):G prog w A E s κ arr p (m >>= f) Q:=fun g=>
 wpS_bind (wpS_mono (h g) fun a st' hq=>by
  obtain⟨⟨g',rfl⟩,hq⟩:=hq;exact hq g')
theorem dC {α:Type}{m:StateT SortSt Sem α}{Q Q':α->Prop}(h:G prog w A E s κ arr p m Q)(hq:∀ a,Q a->Q' a):G prog w A E s κ arr p m Q':=fun g=>wpS_mono (h g) fun a st' hh=>⟨hh.1,hq a hh.2⟩
theorem D8 (hc:oB prog w A s κ rk Gd){x y:Keyed}{Q:Option Bool->Prop}(hx:Gd x)(hy:Gd y)(h:Q (some (decide (rk x<rk y)))):G prog w A E s κ arr p (lt' x y) Q:=fun g=>w_lt hc hx hy ⟨⟨g,rfl⟩,h⟩
theorem bW {a:Array Keyed}{i:Nat}{x:Keyed}{Q:Keyed->Prop}(he:a[i]?=some x)(h:Q x):G prog w A E s κ arr p (elem' a i) Q:=fun g=>wk he ⟨⟨g,rfl⟩,h⟩
theorem GR {Q:SortSt->Prop}(h:∀ st,Q st):G prog w A E s κ arr p get Q:=fun g=>wpS_get ⟨⟨g,rfl⟩,h _⟩
theorem wx {g:Nat}{Q:Unit->Prop}(h:Q ()):G prog w A E s κ arr p (bu g) Q:=fun g'=>by
 rw[lL];exact wpS_modify ⟨⟨g,rfl⟩,h⟩
theorem qb {r:String}{Q:PUnit->Prop}(h:Q ⟨⟩):G prog w A E s κ arr p (liftM (rule r)) Q:=fun g=>wpS_lift (wpAny_rule ⟨rfl,⟨g,rfl⟩,h⟩)
theorem ke {β:Type}{a b:Nat}{f:Nat->β->StateT SortSt Sem (ForInStep β)}(I:Nat->β->Prop){Q:β->Prop}
  (hstep:∀ i c,a<=i->i<b->I i c->G prog w A E s κ arr p (f i c) fun r=>match r with|.done c'=>Q c'|.yield c'=>I (i+1) c')
  (hend:∀ c,I (max a b) c->Q c) {c:β} (h:I a c):G prog w A E s κ arr p (forIn [a:b] c f) Q:=fun g=>by
 refine wpS_forRange (I:=fun x c st=>(∃ g',st=SortSt.mk' κ arr p g' none)/\I x c) (Q:=fun c st=>(∃ g',st=SortSt.mk' κ arr p g' none)/\Q c) ?_ (fun c st hh=>⟨hh.1,hend c hh.2⟩) ⟨⟨g,rfl⟩,h⟩;rintro i c st h1 h2 ⟨⟨g',rfl⟩,h3⟩;refine wpS_mono (hstep i c h1 h2 h3 g') fun r st' hh=>?_
 cases r with
 | done c'=>exact hh
 | yield c'=>exact hh
theorem K6 (hc:oB prog w A s κ rk Gd){left:Bool}{key x:Keyed}{a:Array Keyed}{base i:Nat}{Q:Option Bool->Prop}(hk:Gd key)(hx:Gd x)(he:a[base+i]?=some x)(h:∀ b,Q (some b)) :
  G prog w A E s κ arr p (uZ left key a base i) Q:=by
 unfold uZ;refine aK (bW he ?_)
 cases left with
 | true=>exact D8 hc hx hk (h _)
 | false=>exact aK (D8 hc hk hx (aF (h _)))
theorem pA (hc:oB prog w A s κ rk Gd){left:Bool}{key:Keyed}{a:Array Keyed}{base n hint:Nat}{Q:Option Nat->Prop}(hk:Gd key)(hG:∀ x∈a.toList,Gd x)(hn:base+n<=a.size)(hh:hint<n)(h:∀ k,k<=n->Q (some k)) :
  G prog w A E s κ arr p (c9 left key a base n hint) Q:=by
 have ask:∀ i,i<n->∀ {Q:Option Bool->Prop},(∀ b,Q (some b))->G prog w A E s κ arr p (uZ left key a base i) Q:=fun i hi Q hq=>
  K6 hc hk (hG _ (Array.getElem_mem_toList (by omega:base+i<a.size))) (Array.getElem?_eq_getElem _) hq
 have tail:∀ (f:Nat->Option (Option Nat) × Nat × Nat->StateT SortSt Sem (ForInStep (Option (Option Nat) × Nat × Nat))) (k:Option (Option Nat) × Nat × Nat->StateT SortSt Sem (Option Nat)),
   (∀ x lo hi (Q:ForInStep (Option (Option Nat) × Nat × Nat)->Prop),hi<=n->(lo>=hi->Q (.done (none,lo,hi)))->(lo<hi->Q (.yield (none,lo+(hi-lo) / 2+1,hi))/\Q (.yield (none,lo,lo+(hi-lo) / 2)))->G prog w A E s κ arr p (f x (none,lo,hi)) Q)->(∀ lo hi,k (none,lo,hi)=pure (some hi)) →
   ∀ lo hi,lo<=hi->hi<=n->G prog w A E s κ arr p (forIn [0:n] (none,lo,hi) f >>= k) Q:=fun f k hf hk' lo hi hlh hhn=>by
  refine aK (ke (I:=fun x c=>∃ lo hi,c=(none,lo,hi)/\lo<=hi/\hi<=n) ?_ ?_ ⟨lo,hi,rfl,hlh,hhn⟩)
  ·rintro x c _ hx ⟨lo,hi,rfl,g1,g2⟩;refine hf x lo hi _ g2 (fun hb=>?_) (fun hl=>⟨⟨_,_,rfl,by omega,g2⟩,_,_,rfl,by omega,by omega⟩)
   dsimp only;rw[hk'];exact aF (h _ g2)
  ·rintro c ⟨lo,hi,rfl,g1,g2⟩;rw[hk'];exact aF (h _ g2)
 rw[vh];refine aK (ask hint hh fun right=>?_);dsimp only
 cases right with
 | true=>
  simp only[if_true];refine aK (dC (ke (I:=fun x c=>∃ la ofs,c=(none,la,ofs)/\la<ofs/\hint+la<n)
   (Q:=fun c=>∃ la ofs,c=(none,la,ofs)/\la<ofs/\hint+la<n) ?_ (fun c h=>h) ⟨0,1,rfl,by omega,hh⟩) ?_)
  ·rintro x c _ hx ⟨la,ofs,rfl,g1,g2⟩;dsimp only
   by_cases hb:ofs>=n-hint
   ·rw[if_pos hb];exact aF ⟨la,ofs,rfl,g1,g2⟩
   ·rw[if_neg hb];refine aK (ask _ (by omega) fun b=>?_)
    cases b with
    | false=>exact aF ⟨la,ofs,rfl,g1,g2⟩
    | true=>exact aF ⟨_,_,rfl,by omega,by omega⟩
  ·rintro c ⟨la,ofs,rfl,g1,g2⟩;dsimp only;refine tail _ _ (fun x lo hi Q hn h1 h2=>?_) (fun lo hi=>rfl) _ _ (by omega) (by omega)
   dsimp only
   by_cases hb:lo>=hi
   ·rw[if_pos hb];exact aF (h1 hb)
   ·rw[if_neg hb];refine aK (ask _ (by omega) fun b=>?_)
    cases b with
    | true=>exact aF (h2 (by omega)).1
    | false=>exact aF (h2 (by omega)).2
 | false=>
  simp only[Bool.false_eq_true,if_false];refine aK (dC (ke (I:=fun x c=>∃ la ofs,c=(none,la,ofs)/\la<ofs/\la<=hint)
   (Q:=fun c=>∃ la ofs,c=(none,la,ofs)/\la<ofs/\la<=hint) ?_ (fun c h=>h) ⟨0,1,rfl,by omega,by omega⟩) ?_)
  ·rintro x c _ hx ⟨la,ofs,rfl,g1,g2⟩;dsimp only
   by_cases hb:ofs>=hint+1
   ·rw[if_pos hb];exact aF ⟨la,ofs,rfl,g1,g2⟩
   ·rw[if_neg hb];refine aK (ask _ (by omega) fun b=>?_)
    cases b with
    | true=>exact aF ⟨la,ofs,rfl,g1,g2⟩
    | false=>exact aF ⟨_,_,rfl,by omega,by omega⟩
  ·rintro c ⟨la,ofs,rfl,g1,g2⟩;dsimp only;refine tail _ _ (fun x lo hi Q hn h1 h2=>?_) (fun lo hi=>rfl) _ _ (by omega) (by omega)
   dsimp only
   by_cases hb:lo>=hi
   ·rw[if_pos hb];exact aF (h1 hb)
   ·rw[if_neg hb];refine aK (ask _ (by omega) fun b=>?_)
    cases b with
    | true=>exact aF (h2 (by omega)).1
    | false=>exact aF (h2 (by omega)).2
end
end SR
set_option maxHeartbeats 3200000
namespace SR
open PySem PyProof.Rows
abbrev LS:=Option (Array Keyed) × Array Keyed × Nat × Nat × Nat × Nat × Nat
abbrev MS:=Option (Array Keyed) × Array Keyed × Nat × Nat × Nat × Nat
section
variable (a b:Array Keyed)
def Nk (out:Array Keyed)(ia ib mg k k1:Nat):StateT SortSt Sem (ForInStep LS):=do
 let x ← elem' a ia
 if (ia+1+1 == a.size)=true then pure (.done (some (jG a b (out.push x) (ia+1) ib),out.push x,ia+1,ib,mg,k,k1))
 else if (decide (k<7) && decide (k1<7))=true then pure (.done (none,out.push x,ia+1,ib,mg,k,k1))
 else pure (.yield (none,out.push x,ia+1,ib,mg,k,k1))
def Nj (out:Array Keyed)(ia ib mg k bc:Nat):StateT SortSt Sem (ForInStep LS):=do
 let x ← elem' a ia
 let r ← c9 true x b ib (b.size-ib) 0
 match r with
 | some k1=>
  if k1>0 then
   if (ib+k1 == b.size)=true then pure (.done (some (dN a b (out++b.extract ib (ib+k1)) ia (ib+k1)),out++b.extract ib (ib+k1),ia,ib+k1,mg,k,k1))
   else Nk a b (out++b.extract ib (ib+k1)) ia (ib+k1) mg k k1
  else Nk a b out ia ib mg k k1
 | _=>pure (.done (some (dN a b out ia ib),out,ia,ib,mg,k,bc))
def Mi (out:Array Keyed)(ia ib mg k bc:Nat):StateT SortSt Sem (ForInStep LS):=do
 let y ← elem' b ib
 if (ib+1 == b.size)=true then pure (.done (some (dN a b (out.push y) ia (ib+1)),out.push y,ia,ib+1,mg,k,bc))
 else Nj a b (out.push y) ia (ib+1) mg k bc
def Mh (out:Array Keyed)(ia ib mg ac bc:Nat):StateT SortSt Sem (ForInStep LS):=do
 bu mg
 let y ← elem' b ib
 let r ← c9 false y a ia (a.size-ia) 0
 match r with
 | some k=>
  if k>0 then
   if (ia+k+1 == a.size)=true then pure (.done (some (jG a b (out++a.extract ia (ia+k)) (ia+k) ib),out++a.extract ia (ia+k),ia+k,ib,mg,k,bc))
   else if (ia+k == a.size)=true then pure (.done (some (dN a b (out++a.extract ia (ia+k)) (ia+k) ib),out++a.extract ia (ia+k),ia+k,ib,mg,k,bc))
   else Mi a b (out++a.extract ia (ia+k)) (ia+k) ib mg k bc
  else Mi a b out ia ib mg k bc
 | _=>pure (.done (some (dN a b out ia ib),out,ia,ib,mg,ac,bc))
def NV (c:LS):StateT SortSt Sem (ForInStep LS):=
 if c.2.2.2.2.1>1 then Mh a b c.2.1 c.2.2.1 c.2.2.2.1 (c.2.2.2.2.1-1) c.2.2.2.2.2.1 c.2.2.2.2.2.2
 else Mh a b c.2.1 c.2.2.1 c.2.2.2.1 c.2.2.2.2.1 c.2.2.2.2.2.1 c.2.2.2.2.2.2
def ms (mg:Nat)(c:MS):StateT SortSt Sem (ForInStep MS):=do
 let y ← elem' b c.2.2.2.1
 let x ← elem' a c.2.2.1
 let r ← lt' y x
 match r with
 | some bWins=>
  if bWins=true then do
   let y ← elem' b c.2.2.2.1
   if (c.2.2.2.1+1 == b.size)=true then pure (.done (some (dN a b (c.2.1.push y) c.2.2.1 (c.2.2.2.1+1)),c.2.1.push y,c.2.2.1,c.2.2.2.1+1,0,c.2.2.2.2.2+1))
   else if c.2.2.2.2.2+1>=mg then pure (.done (none,c.2.1.push y,c.2.2.1,c.2.2.2.1+1,0,c.2.2.2.2.2+1))
   else pure (.yield (none,c.2.1.push y,c.2.2.1,c.2.2.2.1+1,0,c.2.2.2.2.2+1))
  else do
   let x ← elem' a c.2.2.1
   if (c.2.2.1+1+1 == a.size)=true then pure (.done (some (jG a b (c.2.1.push x) (c.2.2.1+1) c.2.2.2.1),c.2.1.push x,c.2.2.1+1,c.2.2.2.1,c.2.2.2.2.1+1,0))
   else if c.2.2.2.2.1+1>=mg then pure (.done (none,c.2.1.push x,c.2.2.1+1,c.2.2.2.1,c.2.2.2.2.1+1,0))
   else pure (.yield (none,c.2.1.push x,c.2.2.1+1,c.2.2.2.1,c.2.2.2.2.1+1,0))
 | _=>pure (.done (some (dN a b c.2.1 c.2.2.1 c.2.2.2.1),c.2.1,c.2.2.1,c.2.2.2.1,c.2.2.2.2.1,c.2.2.2.2.2))
end
theorem ic {α:Type}{c:Prop}[Decidable c]{x y u v:α}(h1:x=u)(h2:y=v):(if c then x else y)=if c then u else v:=by rw[h1,h2]
theorem nP (a b:Array Keyed):kB a b=(do
 rule "list.sort.merge-lo"
 let x0 ← elem' b 0
 if (1 == b.size)=true then pure (dN a b #[x0] 0 1)
 else if (0+1 == a.size)=true then pure (jG a b #[x0] 0 1)
 else do
  let st ← get
  let c ← forIn [0:a.size+b.size] ((none,#[x0],0,1,gallopOf st):Option (Array Keyed) × Array Keyed × Nat × Nat × Nat) fun _ c=>do
   let d ← forIn [0:a.size+b.size] ((none,c.2.1,c.2.2.1,c.2.2.2.1,0,0):MS) fun _ d=>ms a b c.2.2.2.2 d
   match d.1 with
   | some r=>pure (.done (some r,d.2.1,d.2.2.1,d.2.2.2.1,c.2.2.2.2))
   | none=>do
    liftM (rule "list.sort.gallop")
    let e ← forIn [0:a.size+b.size] ((none,d.2.1,d.2.2.1,d.2.2.2.1,c.2.2.2.2+1,d.2.2.2.2.1,d.2.2.2.2.2):LS) fun _ e=>NV a b e
    match e.1 with
    | some r=>pure (.done (some r,e.2.1,e.2.2.1,e.2.2.2.1,e.2.2.2.2.1))
    | none=>do
     bu (e.2.2.2.2.1+1)
     pure (.yield (none,e.2.1,e.2.2.1,e.2.2.2.1,e.2.2.2.2.1+1))
  match c.1 with
  | some r=>pure r
  | none=>liftM (unsupported "internal:list.sort.merge-bound":Sem (Array Keyed))):=by
 rw[um];dsimp only;refine congrArg _ (funext fun _=>?_);refine congrArg _ (funext fun x0=>?_);refine ic rfl (ic rfl ?_);refine congrArg _ (funext fun st=>?_);refine congr (congrArg _ (congrArg _ (funext fun _=>funext fun c=>?_))) (funext fun c=>?_)
 rotate_left
 ·obtain⟨r,_⟩:=c
  cases r <;> rfl
 refine congr (congrArg _ (congrArg _ (funext fun _=>funext fun d=>?_))) (funext fun d=>?_)
 ·unfold ms;refine congrArg _ (funext fun _=>?_);refine congrArg _ (funext fun _=>?_);refine congrArg _ (funext fun r=>?_)
  cases r <;> rfl
 obtain⟨r,d⟩:=d
 cases r with
 | some r=>rfl
 | none=>
  dsimp only;refine congrArg _ (funext fun _=>?_);refine congr (congrArg _ (congrArg _ (funext fun _=>funext fun e=>?_))) (funext fun e=>?_)
  rotate_left
  ·obtain⟨r,_⟩:=e
   cases r <;> rfl
  unfold NV;refine ic ?_ ?_
  all_goals
   unfold Mh;refine congrArg _ (funext fun _=>?_);refine congrArg _ (funext fun _=>?_);refine congrArg _ (funext fun r=>?_)
   cases r with
   | none=>rfl
   | some k=>
    dsimp only;refine ic (ic rfl (ic rfl ?_)) ?_
    all_goals
     unfold Mi;refine congrArg _ (funext fun _=>?_);refine ic rfl ?_;unfold Nj;refine congrArg _ (funext fun _=>?_);refine congrArg _ (funext fun r=>?_)
     cases r <;> rfl
theorem gm {x:Array Keyed}{i:Nat}(h:i<x.size):x[i]∈x.toList:=Array.getElem_mem_toList h
section
variable {prog:Program}{w:World}{A:Around}{E:Value->Shared->Prop}{s:Shared}{κ:SortKind}{rk:Keyed->Int}{Gd:Keyed->Prop}{arr:Array Keyed}{p:Array (Nat × Nat × Nat)}
variable {a b:Array Keyed}{N:Nat}
def iz (a b r:Array Keyed):Prop:=List.Perm r.toList (a.toList++b.toList)
def JL (a b out:Array Keyed)(ia ib:Nat):Prop:=List.Perm (out.toList++a.toList.drop ia++b.toList.drop ib) (a.toList++b.toList)
structure DY (a b:Array Keyed) (N:Nat) (out:Array Keyed) (ia ib:Nat):Prop where
 j:JL a b out ia ib
 ha:ia+1<a.size
 hb:ib<b.size
 n:(a.size-ia)+(b.size-ib)<=N
theorem wN {x:Array Keyed}{i:Nat}(h:i<x.size):x.toList.drop i=[x[i]]++x.toList.drop (i+1):=by
 rw[List.drop_eq_getElem_cons (by simpa using h)];simp
theorem iN {out:Array Keyed}{ia ib:Nat}(j:JL a b out ia ib):iz a b (dN a b out ia ib):=by
 unfold iz dN;have e:(out++a.extract ia a.size++b.extract ib b.size).toList=out.toList++a.toList.drop ia++b.toList.drop ib:=by simp[List.take_of_length_le]
 rw[e];exact j
theorem kr {out:Array Keyed}{ia ib:Nat}(j:JL a b out ia ib):iz a b (jG a b out ia ib):=by
 unfold iz jG;have e:(out++b.extract ib b.size++a.extract ia a.size).toList=out.toList++b.toList.drop ib++a.toList.drop ia:=by simp[List.take_of_length_le]
 rw[e];exact JU j
theorem w6 {out:Array Keyed}{ia ib:Nat}(j:JL a b out ia ib)(ha:ia<a.size):JL a b (out.push a[ia]) (ia+1) ib:=by
 unfold JL at j ⊢;rw[wN ha]at j;rw[Array.toList_push];simpa [List.append_assoc] using j
theorem rD {out:Array Keyed}{ia ib:Nat}(j:JL a b out ia ib)(hb:ib<b.size):JL a b (out.push b[ib]) ia (ib+1):=by
 unfold JL at j ⊢;rw[wN hb]at j;rw[Array.toList_push];exact Oa j
theorem Jl {out:Array Keyed}{ia ib:Nat}(k:Nat)(j:JL a b out ia ib):JL a b (out++a.extract ia (ia+k)) (ia+k) ib:=by
 unfold JL at j ⊢;have e:(out++a.extract ia (ia+k)).toList=out.toList++(a.toList.drop ia).take k:=by simp
 rw[e,<-List.drop_drop,List.append_assoc out.toList,List.take_append_drop];exact j
theorem BE {out:Array Keyed}{ia ib:Nat}(k:Nat)(j:JL a b out ia ib):JL a b (out++b.extract ib (ib+k)) ia (ib+k):=by
 unfold JL at j ⊢;have e:(out++b.extract ib (ib+k)).toList=out.toList++(b.toList.drop ib).take k:=by simp
 rw[e];refine Oa ?_;rw[<-List.drop_drop,List.take_append_drop];exact j
def Nf (a b:Array Keyed)(N:Nat)(c:LS):Prop:=c.1=none/\DY a b N c.2.1 c.2.2.1 c.2.2.2.1
def OG (a b:Array Keyed)(N:Nat)(c:LS):Prop:=(∃ r,c.1=some r/\iz a b r)\/Nf a b N c
def wD (a b:Array Keyed)(N:Nat):ForInStep LS->Prop
 | .done c=>OG a b N c
 | .yield c=>Nf a b N c
theorem G2 {out:Array Keyed}{ia ib mg k k1:Nat}(I:DY a b N out ia ib):G prog w A E s κ arr p (Nk a b out ia ib mg k k1) (wD a b N):=by
 obtain⟨j,h1,h2,h3⟩:=I;have hia:ia<a.size:=by omega
 have j':=w6 j hia;unfold Nk;refine aK (bW (Array.getElem?_eq_getElem hia) ?_)
 split
 ·exact aF (.inl ⟨_,rfl,kr j'⟩)
 ·rename_i hl;have hl:¬ ia+1+1=a.size:=by simpa using hl
  have st:∀ mg k k1,Nf a b N (none,out.push a[ia],ia+1,ib,mg,k,k1):=fun mg k k1=>⟨rfl,j',by show ia+1+1<a.size;omega,h2,by show(a.size-(ia+1))+(b.size-ib)<=N;omega⟩
  split
  ·exact aF (.inr (st _ _ _))
  ·exact aF (st _ _ _)
theorem Mf (hc:oB prog w A s κ rk Gd)(hG:∀ x∈a.toList,Gd x)(hG2:∀ x∈b.toList,Gd x){out:Array Keyed}{ia ib mg k bc:Nat}(I:DY a b N out ia ib):G prog w A E s κ arr p (Nj a b out ia ib mg k bc) (wD a b N):=by
 obtain⟨j,h1,h2,h3⟩:=I;have hia:ia<a.size:=by omega
 unfold Nj;refine aK (bW (Array.getElem?_eq_getElem hia) ?_);refine aK (pA hc (hG _ (gm hia)) hG2 (by omega) (by omega) fun k1 hk1=>?_)
 dsimp only
 split
 ·split
  ·exact aF (.inl ⟨_,rfl,iN (BE k1 j)⟩)
  ·rename_i hl;have hl:¬ ib+k1=b.size:=by simpa using hl
   exact G2 ⟨BE k1 j,h1,by omega,by omega⟩
 ·exact G2 ⟨j,h1,h2,h3⟩
theorem G1 (hc:oB prog w A s κ rk Gd)(hG:∀ x∈a.toList,Gd x)(hG2:∀ x∈b.toList,Gd x){out:Array Keyed}{ia ib mg k bc:Nat}(I:DY a b N out ia ib):G prog w A E s κ arr p (Mi a b out ia ib mg k bc) (wD a b N):=by
 obtain⟨j,h1,h2,h3⟩:=I;unfold Mi;refine aK (bW (Array.getElem?_eq_getElem h2) ?_);have j':=rD j h2
 split
 ·exact aF (.inl ⟨_,rfl,iN j'⟩)
 ·rename_i hl;have hl:¬ ib+1=b.size:=by simpa using hl
  exact Mf hc hG hG2 ⟨j',h1,by omega,by omega⟩
theorem G0 (hc:oB prog w A s κ rk Gd)(hG:∀ x∈a.toList,Gd x)(hG2:∀ x∈b.toList,Gd x){out:Array Keyed}{ia ib mg ac bc:Nat}(I:DY a b N out ia ib):G prog w A E s κ arr p (Mh a b out ia ib mg ac bc) (wD a b N):=by
 obtain⟨j,h1,h2,h3⟩:=I;unfold Mh;refine aK (wx ?_);refine aK (bW (Array.getElem?_eq_getElem h2) ?_);refine aK (pA hc (hG2 _ (gm h2)) hG (by omega) (by omega) fun k hk1=>?_)
 dsimp only;have j':=Jl k j
 split
 ·split
  ·exact aF (.inl ⟨_,rfl,kr j'⟩)
  ·split
   ·exact aF (.inl ⟨_,rfl,iN j'⟩)
   ·rename_i hl hl2;have hl:¬ ia+k+1=a.size:=by simpa using hl
    have hl2:¬ ia+k=a.size:=by simpa using hl2
    exact G1 hc hG hG2 ⟨j',by omega,h2,by omega⟩
 ·exact G1 hc hG hG2 ⟨j,h1,h2,h3⟩
def Hx (a b:Array Keyed)(N:Nat)(c:MS):Prop:=c.1=none/\DY a b N c.2.1 c.2.2.1 c.2.2.2.1
def OH (a b:Array Keyed)(N:Nat)(c:MS):Prop:=(∃ r,c.1=some r/\iz a b r)\/Hx a b N c
theorem NU (hc:oB prog w A s κ rk Gd)(hG:∀ x∈a.toList,Gd x)(hG2:∀ x∈b.toList,Gd x){mg:Nat}{c:MS}(I:Hx a b (N+1) c) :
  G prog w A E s κ arr p (ms a b mg c) fun r=>match r with|.done c=>OH a b N c|.yield c=>Hx a b N c:=by
 obtain⟨r,out,ia,ib,ac,bc⟩:=c;obtain⟨hr,j,h1,h2,h3⟩:=I;dsimp only at j h1 h2 h3;have hia:ia<a.size:=by omega
 unfold ms;dsimp only;refine aK (bW (Array.getElem?_eq_getElem h2) ?_);refine aK (bW (Array.getElem?_eq_getElem hia) ?_);refine aK (D8 hc (hG2 _ (gm h2)) (hG _ (gm hia)) ?_);dsimp only
 split
 ·refine aK (bW (Array.getElem?_eq_getElem h2) ?_);have j':=rD j h2
  split
  ·exact aF (.inl ⟨_,rfl,iN j'⟩)
  ·rename_i hl;have hl:¬ ib+1=b.size:=by simpa using hl
   have st:∀ x y,Hx a b N (none,out.push b[ib],ia,ib+1,x,y):=fun x y=>⟨rfl,j',h1,by show ib+1<b.size;omega,by show(a.size-ia)+(b.size-(ib+1))<=N;omega⟩
   split
   ·exact aF (.inr (st _ _))
   ·exact aF (st _ _)
 ·refine aK (bW (Array.getElem?_eq_getElem hia) ?_);have j':=w6 j hia
  split
  ·exact aF (.inl ⟨_,rfl,kr j'⟩)
  ·rename_i hl;have hl:¬ ia+1+1=a.size:=by simpa using hl
   have st:∀ x y,Hx a b N (none,out.push a[ia],ia+1,ib,x,y):=fun x y=>⟨rfl,j',by show ia+1+1<a.size;omega,h2,by show(a.size-(ia+1))+(b.size-ib)<=N;omega⟩
   split
   ·exact aF (.inr (st _ _))
   ·exact aF (st _ _)
theorem DY.weak {out:Array Keyed}{ia ib N M:Nat}(h:DY a b N out ia ib)(hm:N<=M):DY a b M out ia ib:=⟨h.j,h.ha,h.hb,Nat.le_trans h.n hm⟩
theorem yr (hc:oB prog w A s κ rk Gd)(hG:∀ x∈a.toList,Gd x)(hG2:∀ x∈b.toList,Gd x)(hb0:0<b.size)(ha0:0<a.size):G prog w A E s κ arr p (kB a b) (iz a b):=by
 have J0:JL a b #[b[0]] 0 1:=by
  have:JL a b #[] 0 0:=by unfold JL;simp
  exact rD this hb0
 rw[nP];refine aK (qb ?_);refine aK (bW (Array.getElem?_eq_getElem hb0) ?_)
 split
 ·exact aF (iN J0)
 split
 ·exact aF (kr J0)
 rename_i hb1 ha1;have hb1:¬ 1=b.size:=by simpa using hb1
 have ha1:¬ 0+1=a.size:=by simpa using ha1
 refine aK (GR fun st=>?_);refine aK (dC (ke (I:=fun i c=>c.1=none/\DY a b (a.size+b.size-i) c.2.1 c.2.2.1 c.2.2.2.1) (Q:=fun c=>∃ r,c.1=some r/\iz a b r) ?step ?fin ⟨rfl,J0,by show 0+1<a.size;omega,by show 1<b.size;omega,by show(a.size-0)+(b.size-1)<=_;omega⟩) ?post)
 case fin=>
  rintro c ⟨_,_,g1,g2,g3⟩;rw[show max 0 (a.size+b.size)=a.size+b.size by omega]at g3
  omega
 case post=>
  rintro⟨r,c⟩ ⟨r',hr,hf⟩;dsimp only at hr;subst hr;exact aF hf
 case step=>
  rintro i ⟨r,out,ia,ib,mg⟩ _ hi ⟨_,I⟩;dsimp only at I ⊢;obtain⟨N,hN⟩:∃ N,a.size+b.size-i=N+1:=⟨a.size+b.size-i-1,by omega⟩
  rw[hN]at I;refine aK (dC (ke (I:=fun x d=>Hx a b (N+1) d/\(0<x->Hx a b N d)) (Q:=OH a b N) ?_ ?_ ⟨⟨rfl,I⟩,fun h=>absurd h (by omega)⟩) ?_)
  ·rintro x d _ hx ⟨g1,g2⟩;refine dC (NU hc hG hG2 g1) fun r hr=>?_
   cases r with
   | done c=>exact hr
   | yield c=>exact⟨⟨hr.1,hr.2.weak (by omega)⟩,fun _=>hr⟩
  ·rintro d ⟨_,g2⟩;exact .inr (g2 (by omega))
  ·rintro⟨r,out,ia,ib,ac,bc⟩ (⟨r',hr,hf⟩|⟨hr,I'⟩)
   ·dsimp only at hr;subst hr;exact aF ⟨r',rfl,hf⟩
   ·dsimp only at hr I';subst hr;dsimp only;refine aK (qb ?_);refine aK (dC (ke (I:=fun x e=>Nf a b N e) (Q:=OG a b N) ?_ ?_ ⟨rfl,I'⟩) ?_)
    ·rintro x e _ hx ⟨he,I2⟩;unfold NV
     split
     ·refine dC (G0 hc hG hG2 I2) fun r hr=>?_
      cases r with
      | done c=>exact hr
      | yield c=>exact hr
     ·refine dC (G0 hc hG hG2 I2) fun r hr=>?_
      cases r with
      | done c=>exact hr
      | yield c=>exact hr
    ·rintro e he;exact .inr he
    ·rintro⟨r,out,ia,ib,mg',ac,bc⟩ (⟨r',hr,hf⟩|⟨hr,I2⟩)
     ·dsimp only at hr;subst hr;exact aF ⟨r',rfl,hf⟩
     ·dsimp only at hr I2;subst hr;dsimp only;refine aK (wx (aF ⟨rfl,I2.weak (by omega)⟩))
end
end SR
set_option maxHeartbeats 3200000
namespace SR
open PySem PyProof.Rows
section
variable (a b:Array Keyed)
def Nl (na nb:Nat)(out:Array Keyed)(mg k k1:Nat):StateT SortSt Sem (ForInStep (Option (Array Keyed) × Nat × Nat × Array Keyed × Nat × Nat × Nat)):=do
 let x ← elem' a (na-1)
 if (na-1 == 0)=true then pure (.done (some (dM a b (out.push x) (na-1) nb),na-1,nb,out.push x,mg,k,k1))
 else if (decide (k<7) && decide (k1<7))=true then pure (.done (none,na-1,nb,out.push x,mg,k,k1))
 else pure (.yield (none,na-1,nb,out.push x,mg,k,k1))
def KW (na nb:Nat)(out:Array Keyed)(mg k bc:Nat):StateT SortSt Sem (ForInStep (Option (Array Keyed) × Nat × Nat × Array Keyed × Nat × Nat × Nat)):=do
 let x ← elem' a (na-1)
 let r ← c9 true x b 0 nb (nb-1)
 match r with
 | some t=>
  if nb-t>0 then
   if (t == 1)=true then pure (.done (some (gk a b (out++(b.extract t nb).reverse) na t),na,t,out++(b.extract t nb).reverse,mg,k,nb-t))
   else if (t == 0)=true then pure (.done (some (dM a b (out++(b.extract t nb).reverse) na t),na,t,out++(b.extract t nb).reverse,mg,k,nb-t))
   else Nl a b na t (out++(b.extract t nb).reverse) mg k (nb-t)
  else Nl a b na nb out mg k (nb-t)
 | _=>pure (.done (some (dM a b out na nb),na,nb,out,mg,k,bc))
def tL (na nb:Nat)(out:Array Keyed)(mg k bc:Nat):StateT SortSt Sem (ForInStep (Option (Array Keyed) × Nat × Nat × Array Keyed × Nat × Nat × Nat)):=do
 let y ← elem' b (nb-1)
 if (nb-1 == 1)=true then pure (.done (some (gk a b (out.push y) na (nb-1)),na,nb-1,out.push y,mg,k,bc))
 else KW a b na (nb-1) (out.push y) mg k bc
def wZ (na nb:Nat)(out:Array Keyed)(mg ac bc:Nat):StateT SortSt Sem (ForInStep (Option (Array Keyed) × Nat × Nat × Array Keyed × Nat × Nat × Nat)):=do
 bu mg
 let y ← elem' b (nb-1)
 let r ← c9 false y a 0 na (na-1)
 match r with
 | some t=>
  if na-t>0 then
   if (t == 0)=true then pure (.done (some (dM a b (out++(a.extract t na).reverse) t nb),t,nb,out++(a.extract t na).reverse,mg,na-t,bc))
   else tL a b t nb (out++(a.extract t na).reverse) mg (na-t) bc
  else tL a b na nb out mg (na-t) bc
 | _=>pure (.done (some (dM a b out na nb),na,nb,out,mg,ac,bc))
def Fh (c:Option (Array Keyed) × Nat × Nat × Array Keyed × Nat × Nat × Nat):StateT SortSt Sem (ForInStep (Option (Array Keyed) × Nat × Nat × Array Keyed × Nat × Nat × Nat)):=
 if c.2.2.2.2.1>1 then wZ a b c.2.1 c.2.2.1 c.2.2.2.1 (c.2.2.2.2.1-1) c.2.2.2.2.2.1 c.2.2.2.2.2.2
 else wZ a b c.2.1 c.2.2.1 c.2.2.2.1 c.2.2.2.2.1 c.2.2.2.2.2.1 c.2.2.2.2.2.2
def hm (mg:Nat)(c:Option (Array Keyed) × Nat × Nat × Array Keyed × Nat × Nat):StateT SortSt Sem (ForInStep (Option (Array Keyed) × Nat × Nat × Array Keyed × Nat × Nat)):=do
 let y ← elem' b (c.2.2.1-1)
 let x ← elem' a (c.2.1-1)
 let r ← lt' y x
 match r with
 | some aWins=>
  if aWins=true then do
   let x ← elem' a (c.2.1-1)
   if (c.2.1-1 == 0)=true then pure (.done (some (dM a b (c.2.2.2.1.push x) (c.2.1-1) c.2.2.1),c.2.1-1,c.2.2.1,c.2.2.2.1.push x,c.2.2.2.2.1+1,0))
   else if c.2.2.2.2.1+1>=mg then pure (.done (none,c.2.1-1,c.2.2.1,c.2.2.2.1.push x,c.2.2.2.2.1+1,0))
   else pure (.yield (none,c.2.1-1,c.2.2.1,c.2.2.2.1.push x,c.2.2.2.2.1+1,0))
  else do
   let y ← elem' b (c.2.2.1-1)
   if (c.2.2.1-1 == 1)=true then pure (.done (some (gk a b (c.2.2.2.1.push y) c.2.1 (c.2.2.1-1)),c.2.1,c.2.2.1-1,c.2.2.2.1.push y,0,c.2.2.2.2.2+1))
   else if c.2.2.2.2.2+1>=mg then pure (.done (none,c.2.1,c.2.2.1-1,c.2.2.2.1.push y,0,c.2.2.2.2.2+1))
   else pure (.yield (none,c.2.1,c.2.2.1-1,c.2.2.2.1.push y,0,c.2.2.2.2.2+1))
 | _=>pure (.done (some (dM a b c.2.2.2.1 c.2.1 c.2.2.1),c.2.1,c.2.2.1,c.2.2.2.1,c.2.2.2.2.1,c.2.2.2.2.2))
end
theorem nO (a b:Array Keyed):kA a b=(do
 rule "list.sort.merge-hi"
 let x0 ← elem' a (a.size-1)
 if (a.size-1 == 0)=true then pure (dM a b #[x0] (a.size-1) b.size)
 else if (b.size == 1)=true then pure (gk a b #[x0] (a.size-1) b.size)
 else do
  let st ← get
  let c ← forIn [0:a.size+b.size] ((none,a.size-1,b.size,#[x0],gallopOf st):Option (Array Keyed) × Nat × Nat × Array Keyed × Nat) fun _ c=>do
   let d ← forIn [0:a.size+b.size] ((none,c.2.1,c.2.2.1,c.2.2.2.1,0,0):Option (Array Keyed) × Nat × Nat × Array Keyed × Nat × Nat) fun _ d=>hm a b c.2.2.2.2 d
   match d.1 with
   | some r=>pure (.done (some r,d.2.1,d.2.2.1,d.2.2.2.1,c.2.2.2.2))
   | none=>do
    liftM (rule "list.sort.gallop")
    let e ← forIn [0:a.size+b.size] ((none,d.2.1,d.2.2.1,d.2.2.2.1,c.2.2.2.2+1,d.2.2.2.2.1,d.2.2.2.2.2):Option (Array Keyed) × Nat × Nat × Array Keyed × Nat × Nat × Nat) fun _ e=>Fh a b e
    match e.1 with
    | some r=>pure (.done (some r,e.2.1,e.2.2.1,e.2.2.2.1,e.2.2.2.2.1))
    | none=>do
     bu (e.2.2.2.2.1+1)
     pure (.yield (none,e.2.1,e.2.2.1,e.2.2.2.1,e.2.2.2.2.1+1))
  match c.1 with
  | some r=>pure r
  | none=>liftM (unsupported "internal:list.sort.merge-bound":Sem (Array Keyed))):=by
 rw[ul];dsimp only;refine congrArg _ (funext fun _=>?_);refine congrArg _ (funext fun x0=>?_);refine ic rfl (ic rfl ?_);refine congrArg _ (funext fun st=>?_);refine congr (congrArg _ (congrArg _ (funext fun _=>funext fun c=>?_))) (funext fun c=>?_)
 rotate_left
 ·obtain⟨r,_⟩:=c
  cases r <;> rfl
 refine congr (congrArg _ (congrArg _ (funext fun _=>funext fun d=>?_))) (funext fun d=>?_)
 ·unfold hm;refine congrArg _ (funext fun _=>?_);refine congrArg _ (funext fun _=>?_);refine congrArg _ (funext fun r=>?_)
  cases r <;> rfl
 obtain⟨r,d⟩:=d
 cases r with
 | some r=>rfl
 | none=>
  dsimp only;refine congrArg _ (funext fun _=>?_);refine congr (congrArg _ (congrArg _ (funext fun _=>funext fun e=>?_))) (funext fun e=>?_)
  rotate_left
  ·obtain⟨r,_⟩:=e
   cases r <;> rfl
  unfold Fh;refine ic ?_ ?_
  all_goals
   unfold wZ;refine congrArg _ (funext fun _=>?_);refine congrArg _ (funext fun _=>?_);refine congrArg _ (funext fun r=>?_)
   cases r with
   | none=>rfl
   | some k=>
    dsimp only;refine ic (ic rfl ?_) ?_
    all_goals
     unfold tL;refine congrArg _ (funext fun _=>?_);refine ic rfl ?_;unfold KW;refine congrArg _ (funext fun _=>?_);refine congrArg _ (funext fun r=>?_)
     cases r <;> rfl
abbrev HS:=Option (Array Keyed) × Nat × Nat × Array Keyed × Nat × Nat × Nat
abbrev HM:=Option (Array Keyed) × Nat × Nat × Array Keyed × Nat × Nat
section
variable {prog:Program}{w:World}{A:Around}{E:Value->Shared->Prop}{s:Shared}{κ:SortKind}{rk:Keyed->Int}{Gd:Keyed->Prop}{arr:Array Keyed}{p:Array (Nat × Nat × Nat)}
variable {a b:Array Keyed}{N:Nat}
def JH (a b out:Array Keyed)(na nb:Nat):Prop:=List.Perm (a.toList.take na++b.toList.take nb++out.toList.reverse) (a.toList++b.toList)
structure DX (a b:Array Keyed) (N:Nat) (out:Array Keyed) (na nb:Nat):Prop where
 j:JH a b out na nb
 ha:0<na
 ha':na<=a.size
 hb:1<nb
 hb':nb<=b.size
 n:na+nb<=N
theorem xC {x:Array Keyed}{n:Nat}(h0:0<n)(h:n<=x.size):x.toList.take n=x.toList.take (n-1)++[x[n-1]]:=by
 obtain⟨m,rfl⟩:∃ m,n=m+1:=⟨n-1,by omega⟩
 rw[List.take_succ];simp only[Nat.add_sub_cancel];have e:x.toList[m]?=some x[m]:=by rw[Array.getElem?_toList,Array.getElem?_eq_getElem (by omega)]
 rw[e]
 rfl
theorem gE {out:Array Keyed}{na nb:Nat}(j:JH a b out na nb):iz a b (dM a b out na nb):=by
 unfold iz dM;have e:(a.extract 0 na++b.extract 0 nb++out.reverse).toList=a.toList.take na++b.toList.take nb++out.toList.reverse:=by simp
 rw[e];exact j
theorem gY {out:Array Keyed}{na nb:Nat}(j:JH a b out na nb):iz a b (gk a b out na nb):=by
 unfold iz gk;have e:(b.extract 0 nb++a.extract 0 na++out.reverse).toList=b.toList.take nb++a.toList.take na++out.toList.reverse:=by simp
 rw[e];exact List.Perm.trans (List.perm_append_comm.append_right _) j
theorem Fn {out:Array Keyed}{na nb t:Nat}(j:JH a b out na nb)(ht:t<=na):JH a b (out++(a.extract t na).reverse) t nb:=by
 unfold JH at j ⊢;have e:(out++(a.extract t na).reverse).toList.reverse=(a.toList.take na).drop t++out.toList.reverse:=by simp[List.drop_take]
 rw[e];refine OM ?_;have e2:a.toList.take t=(a.toList.take na).take t:=by rw[List.take_take];congr 1;omega
 rw[e2,List.take_append_drop];exact j
theorem Fo {out:Array Keyed}{na nb t:Nat}(j:JH a b out na nb)(ht:t<=nb):JH a b (out++(b.extract t nb).reverse) na t:=by
 unfold JH at j ⊢;have e:(out++(b.extract t nb).reverse).toList.reverse=(b.toList.take nb).drop t++out.toList.reverse:=by simp[List.drop_take]
 have e2:b.toList.take t=(b.toList.take nb).take t:=by rw[List.take_take];congr 1;omega
 rw[e,e2,List.append_assoc,<-List.append_assoc (List.take t _),List.take_append_drop,<-List.append_assoc];exact j
theorem nJ {out:Array Keyed}{na nb:Nat}(j:JH a b out na nb)(h0:0<na)(ha:na<=a.size):JH a b (out.push a[na-1]) (na-1) nb:=by
 unfold JH at j ⊢;have e:(out.push a[na-1]).toList.reverse=[a[na-1]]++out.toList.reverse:=by simp
 rw[e];refine OM ?_;rw[<-xC h0 ha];exact j
theorem tP {out:Array Keyed}{na nb:Nat}(j:JH a b out na nb)(h0:0<nb)(hb:nb<=b.size):JH a b (out.push b[nb-1]) na (nb-1):=by
 unfold JH at j ⊢;have e:(out.push b[nb-1]).toList.reverse=[b[nb-1]]++out.toList.reverse:=by simp
 rw[e,List.append_assoc,<-List.append_assoc (List.take (nb-1) _),<-xC h0 hb,<-List.append_assoc];exact j
def Nd (a b:Array Keyed)(N:Nat)(c:HS):Prop:=c.1=none/\DX a b N c.2.2.2.1 c.2.1 c.2.2.1
def OE (a b:Array Keyed)(N:Nat)(c:HS):Prop:=(∃ r,c.1=some r/\iz a b r)\/Nd a b N c
def wA (a b:Array Keyed)(N:Nat):ForInStep HS->Prop
 | .done c=>OE a b N c
 | .yield c=>Nd a b N c
theorem G5 {out:Array Keyed}{na nb mg k k1:Nat}(I:DX a b N out na nb):G prog w A E s κ arr p (Nl a b na nb out mg k k1) (wA a b N):=by
 obtain⟨j,h1,h1',h2,h2',h3⟩:=I;have j':=nJ j h1 h1';unfold Nl;refine aK (bW (Array.getElem?_eq_getElem (by omega)) ?_)
 split
 ·exact aF (.inl ⟨_,rfl,gE j'⟩)
 ·rename_i hl;have hl:¬ na-1=0:=by simpa using hl
  have st:∀ mg k k1,Nd a b N (none,na-1,nb,out.push (a[na-1]'(by omega)),mg,k,k1):=fun mg k k1=>⟨rfl,j',by show 0<na-1;omega,by show na-1<=a.size;omega,h2,h2',by show na-1+nb<=N;omega⟩
  split
  ·exact aF (.inr (st _ _ _))
  ·exact aF (st _ _ _)
theorem Mg (hc:oB prog w A s κ rk Gd)(hG:∀ x∈a.toList,Gd x)(hG2:∀ x∈b.toList,Gd x){out:Array Keyed}{na nb mg k bc:Nat}(I:DX a b N out na nb):G prog w A E s κ arr p (KW a b na nb out mg k bc) (wA a b N):=by
 obtain⟨j,h1,h1',h2,h2',h3⟩:=I;have hna:na-1<a.size:=by omega
 unfold KW;refine aK (bW (Array.getElem?_eq_getElem hna) ?_);refine aK (pA hc (hG _ (gm hna)) hG2 (by omega) (by omega) fun t ht=>?_)
 dsimp only
 split
 ·have j':=Fo j ht
  split
  ·exact aF (.inl ⟨_,rfl,gY j'⟩)
  ·split
   ·exact aF (.inl ⟨_,rfl,gE j'⟩)
   ·rename_i hl hl2;have hl:¬ t=1:=by simpa using hl
    have hl2:¬ t=0:=by simpa using hl2
    exact G5 ⟨j',h1,h1',by omega,by omega,by omega⟩
 ·exact G5 ⟨j,h1,h1',h2,h2',h3⟩
theorem G4 (hc:oB prog w A s κ rk Gd)(hG:∀ x∈a.toList,Gd x)(hG2:∀ x∈b.toList,Gd x){out:Array Keyed}{na nb mg k bc:Nat}(I:DX a b N out na nb):G prog w A E s κ arr p (tL a b na nb out mg k bc) (wA a b N):=by
 obtain⟨j,h1,h1',h2,h2',h3⟩:=I;unfold tL;refine aK (bW (Array.getElem?_eq_getElem (by omega)) ?_)
 have j':=tP j (by omega) h2'
 split
 ·exact aF (.inl ⟨_,rfl,gY j'⟩)
 ·rename_i hl;have hl:¬ nb-1=1:=by simpa using hl
  exact Mg hc hG hG2 ⟨j',h1,h1',by omega,by omega,by omega⟩
theorem G3 (hc:oB prog w A s κ rk Gd)(hG:∀ x∈a.toList,Gd x)(hG2:∀ x∈b.toList,Gd x){out:Array Keyed}{na nb mg ac bc:Nat}(I:DX a b N out na nb):G prog w A E s κ arr p (wZ a b na nb out mg ac bc) (wA a b N):=by
 obtain⟨j,h1,h1',h2,h2',h3⟩:=I;have hnb:nb-1<b.size:=by omega
 unfold wZ;refine aK (wx ?_);refine aK (bW (Array.getElem?_eq_getElem hnb) ?_);refine aK (pA hc (hG2 _ (gm hnb)) hG (by omega) (by omega) fun t ht=>?_)
 dsimp only
 split
 ·have j':=Fn j ht
  split
  ·exact aF (.inl ⟨_,rfl,gE j'⟩)
  ·rename_i hl;have hl:¬ t=0:=by simpa using hl
   exact G4 hc hG hG2 ⟨j',by omega,by omega,h2,h2',by omega⟩
 ·exact G4 hc hG hG2 ⟨j,h1,h1',h2,h2',h3⟩
def Hy (a b:Array Keyed)(N:Nat)(c:HM):Prop:=c.1=none/\DX a b N c.2.2.2.1 c.2.1 c.2.2.1
def OI (a b:Array Keyed)(N:Nat)(c:HM):Prop:=(∃ r,c.1=some r/\iz a b r)\/Hy a b N c
theorem NT (hc:oB prog w A s κ rk Gd)(hG:∀ x∈a.toList,Gd x)(hG2:∀ x∈b.toList,Gd x){mg:Nat}{c:HM}(I:Hy a b (N+1) c) :
  G prog w A E s κ arr p (hm a b mg c) fun r=>match r with|.done c=>OI a b N c|.yield c=>Hy a b N c:=by
 obtain⟨r,na,nb,out,ac,bc⟩:=c;obtain⟨hr,j,h1,h1',h2,h2',h3⟩:=I;dsimp only at j h1 h1' h2 h2' h3;have hna:na-1<a.size:=by omega
 have hnb:nb-1<b.size:=by omega
 unfold hm;dsimp only;refine aK (bW (Array.getElem?_eq_getElem hnb) ?_);refine aK (bW (Array.getElem?_eq_getElem hna) ?_);refine aK (D8 hc (hG2 _ (gm hnb)) (hG _ (gm hna)) ?_);dsimp only
 split
 ·refine aK (bW (Array.getElem?_eq_getElem hna) ?_);have j':=nJ j h1 h1'
  split
  ·exact aF (.inl ⟨_,rfl,gE j'⟩)
  ·rename_i hl;have hl:¬ na-1=0:=by simpa using hl
   have st:∀ x y,Hy a b N (none,na-1,nb,out.push a[na-1],x,y):=fun x y=>⟨rfl,j',by show 0<na-1;omega,by show na-1<=a.size;omega,h2,h2',by show na-1+nb<=N;omega⟩
   split
   ·exact aF (.inr (st _ _))
   ·exact aF (st _ _)
 ·refine aK (bW (Array.getElem?_eq_getElem hnb) ?_);have j':=tP j (by omega) h2'
  split
  ·exact aF (.inl ⟨_,rfl,gY j'⟩)
  ·rename_i hl;have hl:¬ nb-1=1:=by simpa using hl
   have st:∀ x y,Hy a b N (none,na,nb-1,out.push b[nb-1],x,y):=fun x y=>⟨rfl,j',h1,h1',by show 1<nb-1;omega,by show nb-1<=b.size;omega,by show na+(nb-1)<=N;omega⟩
   split
   ·exact aF (.inr (st _ _))
   ·exact aF (st _ _)
theorem DX.weak {out:Array Keyed}{na nb N M:Nat}(h:DX a b N out na nb)(hm:N<=M):DX a b M out na nb:=⟨h.j,h.ha,h.ha',h.hb,h.hb',Nat.le_trans h.n hm⟩
theorem yq (hc:oB prog w A s κ rk Gd)(hG:∀ x∈a.toList,Gd x)(hG2:∀ x∈b.toList,Gd x)(ha0:0<a.size)(hb0:0<b.size):G prog w A E s κ arr p (kA a b) (iz a b):=by
 have J0:JH a b #[a[a.size-1]] (a.size-1) b.size:=by
  have:JH a b #[] a.size b.size:=by
   unfold JH;rw[List.take_of_length_le (by simp),List.take_of_length_le (by simp)]
   simp
  exact nJ this ha0 (Nat.le_refl _)
 rw[nO];refine aK (qb ?_);refine aK (bW (Array.getElem?_eq_getElem (by omega)) ?_)
 split
 ·exact aF (gE J0)
 split
 ·exact aF (gY J0)
 rename_i ha1 hb1;have ha1:¬ a.size-1=0:=by simpa using ha1
 have hb1:¬ b.size=1:=by simpa using hb1
 refine aK (GR fun st=>?_);refine aK (dC (ke (I:=fun i c=>c.1=none/\DX a b (a.size+b.size-i) c.2.2.2.1 c.2.1 c.2.2.1) (Q:=fun c=>∃ r,c.1=some r/\iz a b r) ?step ?fin ⟨rfl,J0,by show 0<a.size-1;omega,by show a.size-1<=a.size;omega,by show 1<b.size;omega,Nat.le_refl _,by show(a.size-1)+b.size<=_;omega⟩) ?post)
 case fin=>
  rintro c ⟨_,_,g1,g1',g2,g2',g3⟩;rw[show max 0 (a.size+b.size)=a.size+b.size by omega]at g3
  omega
 case post=>
  rintro⟨r,c⟩ ⟨r',hr,hf⟩;dsimp only at hr;subst hr;exact aF hf
 case step=>
  rintro i ⟨r,na,nb,out,mg⟩ _ hi ⟨_,I⟩;dsimp only at I ⊢;obtain⟨N,hN⟩:∃ N,a.size+b.size-i=N+1:=⟨a.size+b.size-i-1,by omega⟩
  rw[hN]at I;refine aK (dC (ke (I:=fun x d=>Hy a b (N+1) d/\(0<x->Hy a b N d)) (Q:=OI a b N) ?_ ?_ ⟨⟨rfl,I⟩,fun h=>absurd h (by omega)⟩) ?_)
  ·rintro x d _ hx ⟨g1,g2⟩;refine dC (NT hc hG hG2 g1) fun r hr=>?_
   cases r with
   | done c=>exact hr
   | yield c=>exact⟨⟨hr.1,hr.2.weak (by omega)⟩,fun _=>hr⟩
  ·rintro d ⟨_,g2⟩;exact .inr (g2 (by omega))
  ·rintro⟨r,na,nb,out,ac,bc⟩ (⟨r',hr,hf⟩|⟨hr,I'⟩)
   ·dsimp only at hr;subst hr;exact aF ⟨r',rfl,hf⟩
   ·dsimp only at hr I';subst hr;dsimp only;refine aK (qb ?_);refine aK (dC (ke (I:=fun x e=>Nd a b N e) (Q:=OE a b N) ?_ ?_ ⟨rfl,I'⟩) ?_)
    ·rintro x e _ hx ⟨he,I2⟩;unfold Fh
     split
     ·refine dC (G3 hc hG hG2 I2) fun r hr=>?_
      cases r with
      | done c=>exact hr
      | yield c=>exact hr
     ·refine dC (G3 hc hG hG2 I2) fun r hr=>?_
      cases r with
      | done c=>exact hr
      | yield c=>exact hr
    ·rintro e he;exact .inr he
    ·rintro⟨r,na,nb,out,mg',ac,bc⟩ (⟨r',hr,hf⟩|⟨hr,I2⟩)
     ·dsimp only at hr;subst hr;exact aF ⟨r',rfl,hf⟩
     ·dsimp only at hr I2;subst hr;dsimp only;refine aK (wx (aF ⟨rfl,I2.weak (by omega)⟩))
end
end SR
set_option maxHeartbeats 3200000
namespace SR
open PySem PyProof.Rows
def kk (rk:Keyed->Int)(xs:Array Keyed)(i:Nat):Int:=match xs[i]? with
 | some p=>rk p
 | none=>0
def Up (rk:Keyed->Int)(xs:Array Keyed)(lo hi:Nat):Prop:=∀ i j,lo<=i->i<=j->j<hi->kk rk xs i<=kk rk xs j
def Dn (rk:Keyed->Int)(xs:Array Keyed)(lo hi:Nat):Prop:=∀ i j,lo<=i->i<=j->j<hi->kk rk xs j<=kk rk xs i
section
variable {rk:Keyed->Int}{xs:Array Keyed}{lo hi:Nat}
theorem tS {i:Nat}(h:i<xs.size):kk rk xs i=rk xs[i]:=by unfold kk;rw[Array.getElem?_eq_getElem h]
theorem iS {ys:Array Keyed}{i j:Nat}(h:xs[i]?=ys[j]?):kk rk xs i=kk rk ys j:=by unfold kk;rw[h]
structure Ar (rk:Keyed->Int) (Gd:Keyed->Prop) (n:Nat) (xs:Array Keyed):Prop where
 sz:xs.size=n
 gd:∀ x∈xs.toList,Gd x
 nd:(xs.toList.map rk).Nodup
variable {Gd:Keyed->Prop}{n:Nat}
theorem Ar.perm {ys:Array Keyed}(h:Ar rk Gd n xs)(hp:ys.toList.Perm xs.toList):Ar rk Gd n ys:=
 ⟨by have:=hp.length_eq;simpa [h.sz] using this,fun x hx=>h.gd x (hp.mem_iff.mp hx),((hp.map rk).nodup_iff).mpr h.nd⟩
theorem Ar.ne (h:Ar rk Gd n xs){i j:Nat}(hi:i<n)(hj:j<n)(hij:i≠j):kk rk xs i≠kk rk xs j:=by
 have e1:=h.sz;rw[tS (by omega),tS (by omega)]
 have hnd:=List.pairwise_iff_getElem.mp h.nd
 rcases Nat.lt_or_gt_of_ne hij with q|q
 ·have:=hnd i j (by simp;omega) (by simp;omega) q
  simpa using this
 ·have:=hnd j i (by simp;omega) (by simp;omega) q
  simp only[List.getElem_map,Array.getElem_toList]at this;exact fun e=>this e.symm
end
section
variable {prog:Program}{w:World}{A:Around}{E:Value->Shared->Prop}{s:Shared}{κ:SortKind}{rk:Keyed->Int}{Gd:Keyed->Prop}{n:Nat}{xs:Array Keyed}{p:Array (Nat × Nat × Nat)}{g:Nat}
theorem zv (hc:oB prog w A s κ rk Gd)(hA:Ar rk Gd n xs){i j:Nat}{Q:Option Bool->SortSt->Prop}(hi:i<n)(hj:j<n)(h:Q (some (decide (kk rk xs i<kk rk xs j))) (SortSt.mk' κ xs p g none)) :
  wpS (model prog w) A E s (ltAt' i j) Q (SortSt.mk' κ xs p g none):=by
 have e:=hA.sz;rw[tS (by omega),tS (by omega)]at h
 exact KL hc (Array.getElem?_eq_getElem (by omega)) (Array.getElem?_eq_getElem (by omega)) (hA.gd _ (by simp)) (hA.gd _ (by simp)) h
theorem ou (hc:oB prog w A s κ rk Gd)(hA:Ar rk Gd n xs){lo nrem:Nat}{Q:Option Nat->SortSt->Prop}(h1:1<=nrem)(hn:lo+nrem<=n)
  (h:∀ m ys,1<=m->m<=nrem->ys.toList.Perm xs.toList->(∀ k:Nat,k<lo->ys[k]?=xs[k]?)->Up rk ys lo (lo+m)->Q (some m) (SortSt.mk' κ ys p g none)) :
  wpS (model prog w) A E s (countRun' lo nrem) Q (SortSt.mk' κ xs p g none):=by
 have u1:Up rk xs lo (lo+1):=fun i j a1 a2 a3=>by
  have:i=j:=by omega
  subst this;exact Int.le_refl _
 rw[countRun'_eq];dsimp only;refine wpS_bind (wpS_mono (wpS_forRange (I:=fun x c st=>st=SortSt.mk' κ xs p g none/\c=(none,x)/\Up rk xs lo (lo+x))
  (Q:=fun c st=>st=SortSt.mk' κ xs p g none/\∃ m,c=(none,m)/\1<=m/\m<=nrem/\Up rk xs lo (lo+m)/\(m=nrem\/kk rk xs (lo+m)<kk rk xs (lo+m-1))) ?step ?fin ⟨rfl,rfl,u1⟩) ?post)
 case fin=>
  rintro c st ⟨rfl,rfl,hu⟩;rw[show max 1 nrem=nrem by omega]at hu ⊢
  exact⟨rfl,nrem,rfl,h1,Nat.le_refl _,hu,.inl rfl⟩
 case step=>
  rintro x c st hx1 hx2 ⟨rfl,rfl,hu⟩;dsimp only;refine wpS_bind (zv hc hA (by omega) (by omega) ?_)
  dsimp only
  by_cases hlt:kk rk xs (lo+x)<kk rk xs (lo+x-1)
  ·rw[decide_eq_true hlt,if_pos rfl];exact wpS_pure ⟨rfl,x,rfl,hx1,by omega,hu,.inr hlt⟩
  ·rw[decide_eq_false hlt,if_neg (by simp)]
   refine wpS_pure ⟨rfl,rfl,fun i j a1 a2 a3=>?_⟩
   by_cases hj:j<lo+x
   ·exact hu i j a1 a2 hj
   ·have:j=lo+x:=by omega
    subst this
    by_cases hi:i=lo+x
    ·subst hi;exact Int.le_refl _
    ·have:=hu i (lo+x-1) a1 (by omega) (by omega)
     omega
 case post=>
  rintro c st ⟨rfl,m,rfl,hm1,hm2,hu,hor⟩;dsimp only
  by_cases he:m=nrem
  ·rw[if_pos (by simpa using he)]
   exact wpS_pure (h m xs hm1 hm2 (.refl _) (fun _ _=>rfl) hu)
  rw[if_neg (by simpa using he)]
  by_cases hm:m>1
  ·rw[if_pos hm];refine wpS_bind (zv hc hA (by omega) (by omega) ?_)
   dsimp only;have hlt:kk rk xs lo<kk rk xs (lo+m-1):=by
    have g1:=hu lo (lo+m-1) (Nat.le_refl _) (by omega) (by omega)
    have g2:=hA.ne (i:=lo) (j:=lo+m-1) (by omega) (by omega) (by omega)
    omega
   rw[decide_eq_true hlt,if_pos rfl];exact wpS_pure (h m xs hm1 hm2 (.refl _) (fun _ _=>rfl) hu)
  rw[if_neg hm];obtain rfl:m=1:=by omega
  have hlt:=hor.resolve_left he;refine wpS_bind (wpS_lift (wpAny_rule ⟨rfl,?_⟩));have d2:Dn rk xs lo (lo+2):=fun i j a1 a2 a3=>by
   by_cases hj:i=j
   ·subst hj;exact Int.le_refl _
   ·obtain rfl:i=lo:=by omega
    obtain rfl:j=i+1:=by omega
    rw[Nat.add_sub_cancel]at hlt;omega
  refine wpS_bind (wpS_mono (wpS_forRange (I:=fun x c st=>st=SortSt.mk' κ xs p g none/\c=(none,x,0)/\Dn rk xs lo (lo+x))
   (Q:=fun c st=>st=SortSt.mk' κ xs p g none/\∃ m,c=(none,m,0)/\2<=m/\m<=nrem/\Dn rk xs lo (lo+m)) ?step ?fin ⟨rfl,rfl,d2⟩) ?post)
  case fin=>
   rintro c st ⟨rfl,rfl,hd⟩;rw[show max (1+1) nrem=nrem by omega]at hd ⊢
   exact⟨rfl,nrem,rfl,by omega,Nat.le_refl _,hd⟩
  case step=>
   rintro x c st hx1 hx2 ⟨rfl,rfl,hd⟩;dsimp only;refine wpS_bind (zv hc hA (by omega) (by omega) ?_)
   dsimp only
   by_cases hlt2:kk rk xs (lo+x)<kk rk xs (lo+x-1)
   ·rw[decide_eq_true hlt2,if_pos rfl,if_neg (by omega)]
    refine wpS_pure ⟨rfl,rfl,fun i j a1 a2 a3=>?_⟩
    by_cases hj:j<lo+x
    ·exact hd i j a1 a2 hj
    ·have:j=lo+x:=by omega
     subst this
     by_cases hi:i=lo+x
     ·subst hi;exact Int.le_refl _
     ·have:=hd i (lo+x-1) a1 (by omega) (by omega)
      omega
   ·rw[decide_eq_false hlt2,if_neg (by simp)]
    refine wpS_bind (zv hc hA (by omega) (by omega) ?_)
    dsimp only;have hne:=hA.ne (i:=lo+x) (j:=lo+x-1) (by omega) (by omega) (by omega)
    rw[decide_eq_true (by omega:kk rk xs (lo+x-1)<kk rk xs (lo+x)),if_pos rfl]
    exact wpS_pure ⟨rfl,x,rfl,by omega,by omega,hd⟩
  case post=>
   rintro c st ⟨rfl,m,rfl,hm1,hm2,hd⟩;dsimp only;rw[if_neg (by omega),reverseSlice'_eq]
   refine wpS_bind (wpS_modify ?_);have hsz:lo+m<=xs.size:=by have:=hA.sz;omega
   generalize hys:mirror xs lo (lo+m) ((lo+m-lo) / 2)=ys;have hpm:ys.toList.Perm xs.toList:=by rw[<-hys];exact Array.perm_iff_toList_perm.mp (mirror_perm _ _ _ _)
   have hat:∀ k:Nat,ys[k]?=if lo<=k/\k<lo+m then xs[lo+(lo+m)-1-k]? else xs[k]?:=fun k=>by rw[<-hys];exact getElem?_mirror_all hsz k
   have hu':Up rk ys lo (lo+m):=fun i j a1 a2 a3=>by
    have e1:kk rk ys i=kk rk xs (lo+(lo+m)-1-i):=iS (by rw[hat,if_pos ⟨a1,by omega⟩])
    have e2:kk rk ys j=kk rk xs (lo+(lo+m)-1-j):=iS (by rw[hat,if_pos ⟨by omega,a3⟩])
    rw[e1,e2];exact hd _ _ (by omega) (by omega) (by omega)
   have hA':=hA.perm hpm;have hkeep:∀ k:Nat,k<lo->ys[k]?=xs[k]?:=fun k hk=>by rw[hat,if_neg (by omega)]
   show wpS _ _ _ _ _ Q (SortSt.mk' κ ys p g none);refine wpS_bind (wpS_mono (wpS_forRange (I:=fun x c st=>st=SortSt.mk' κ ys p g none/\c=(none,x)/\Up rk ys lo (lo+x))
    (Q:=fun c st=>st=SortSt.mk' κ ys p g none/\∃ m,c=(none,m)/\1<=m/\m<=nrem/\Up rk ys lo (lo+m)) ?_ ?_ ⟨rfl,rfl,hu'⟩) ?_)
   ·rintro x c st hx1 hx2 ⟨rfl,rfl,hu⟩;dsimp only;refine wpS_bind (zv hc hA' (by omega) (by omega) ?_)
    dsimp only
    by_cases hlt:kk rk ys (lo+x)<kk rk ys (lo+x-1)
    ·rw[decide_eq_true hlt,if_pos rfl];exact wpS_pure ⟨rfl,x,rfl,by omega,by omega,hu⟩
    ·rw[decide_eq_false hlt,if_neg (by simp)]
     refine wpS_pure ⟨rfl,rfl,fun i j a1 a2 a3=>?_⟩
     by_cases hj:j<lo+x
     ·exact hu i j a1 a2 hj
     ·have:j=lo+x:=by omega
      subst this
      by_cases hi:i=lo+x
      ·subst hi;exact Int.le_refl _
      ·have:=hu i (lo+x-1) a1 (by omega) (by omega)
       omega
   ·rintro c st ⟨rfl,rfl,hu⟩;rw[show max m nrem=nrem by omega]at hu ⊢
    exact⟨rfl,nrem,rfl,h1,Nat.le_refl _,hu⟩
   ·rintro c st ⟨rfl,m',rfl,g1,g2,hu⟩;exact wpS_pure (h m' ys g1 g2 hpm hkeep hu)
theorem kT (hc:oB prog w A s κ rk Gd)(hA:Ar rk Gd n xs){lo m ok:Nat}{Q:Bool->SortSt->Prop}(hn:lo+m<=n)(hok:ok<=m)(hu:Up rk xs lo (lo+ok))
  (h:∀ ys:Array Keyed,ys.toList.Perm xs.toList->(∀ k:Nat,k<lo->ys[k]?=xs[k]?)->Up rk ys lo (lo+m)->Q true (SortSt.mk' κ ys p g none)) :
  wpS (model prog w) A E s (binarySort' lo m ok) Q (SortSt.mk' κ xs p g none):=by
 rw[binarySort'_eq];refine wpS_bind (wpS_mono (wpS_forRange (I:=fun k c st=>c=(none,())/\∃ ys:Array Keyed,st=SortSt.mk' κ ys p g none/\ys.toList.Perm xs.toList/\(∀ k:Nat,k<lo->ys[k]?=xs[k]?)/\Up rk ys lo (lo+min k m))
  (Q:=fun c st=>c=(none,())/\∃ ys:Array Keyed,st=SortSt.mk' κ ys p g none/\ys.toList.Perm xs.toList/\(∀ k:Nat,k<lo->ys[k]?=xs[k]?)/\Up rk ys lo (lo+m)) ?step ?fin ?init) ?post)
 case post=>
  rintro c st ⟨rfl,ys,rfl,g1,g2,g3⟩;exact wpS_pure (h ys g1 g2 g3)
 case init=>
  refine⟨rfl,xs,rfl,.refl _,fun _ _=>rfl,fun i j a1 a2 a3=>?_⟩
  by_cases h1:ok=0
  ·have:i=j:=by omega
   subst this;exact Int.le_refl _
  ·exact hu i j a1 a2 (by omega)
 case fin=>
  rintro c st ⟨rfl,ys,rfl,g1,g2,g3⟩;rw[show min (max (max ok 1) m) m=m by omega]at g3
  exact⟨rfl,ys,rfl,g1,g2,g3⟩
 case step=>
  rintro k c st hk1 hk2 ⟨rfl,ys,rfl,g1,g2,g3⟩;rw[show min k m=k by omega]at g3
  have hA':=hA.perm g1;dsimp only;refine wpS_bind (wpS_mono (wpS_forRange (I:=fun x c st=>st=SortSt.mk' κ ys p g none/\∃ l r,c=(none,l,r)/\l<=r/\r<=k/\r-l<=k-x ∧
    (∀ i,lo<=i->i<lo+l->kk rk ys i<=kk rk ys (lo+k))/\(∀ i,lo+r<=i->i<lo+k->kk rk ys (lo+k)<=kk rk ys i))
   (Q:=fun c st=>st=SortSt.mk' κ ys p g none/\∃ l r,c=(none,l,r)/\l<=k ∧
    (∀ i,lo<=i->i<lo+l->kk rk ys i<=kk rk ys (lo+k))/\(∀ i,lo+l<=i->i<lo+k->kk rk ys (lo+k)<=kk rk ys i)) ?is ?ifn ?ii) ?ip)
  case ii=>exact⟨rfl,0,k,rfl,by omega,by omega,by omega,fun i a1 a2=>by omega,fun i a1 a2=>by omega⟩
  case ifn=>
   rintro c st ⟨rfl,l,r,rfl,b1,b2,b3,b4,b5⟩;have:l=r:=by omega
   subst this;exact⟨rfl,l,l,rfl,b2,b4,b5⟩
  case is=>
   rintro x c st _ hx ⟨rfl,l,r,rfl,b1,b2,b3,b4,b5⟩;dsimp only
   by_cases hb:l>=r
   ·rw[if_pos hb];have:l=r:=by omega
    subst this;exact wpS_pure ⟨rfl,l,l,rfl,b2,b4,b5⟩
   ·rw[if_neg hb];refine wpS_bind (zv hc hA' (by omega) (by omega) ?_)
    dsimp only
    by_cases hlt:kk rk ys (lo+k)<kk rk ys (lo+(l+r) / 2)
    ·rw[decide_eq_true hlt,if_pos rfl];refine wpS_pure ⟨rfl,_,_,rfl,by omega,by omega,by omega,b4,fun i a1 a2=>?_⟩
     have:=g3 (lo+(l+r) / 2) i (by omega) a1 a2
     omega
    ·rw[decide_eq_false hlt,if_neg (by simp)]
     refine wpS_pure ⟨rfl,_,_,rfl,by omega,by omega,by omega,fun i a1 a2=>?_,b5⟩
     have:=g3 i (lo+(l+r) / 2) a1 (by omega) (by omega)
     omega
  case ip=>
   rintro c st ⟨rfl,l,r,rfl,b1,b4,b5⟩;dsimp only;rw[moveDown'_eq];have hsz:lo+k<ys.size:=by have:=hA'.sz;omega
   generalize hzs:bubble ys (lo+k) (lo+k-(lo+l))=zs;have hpm:zs.toList.Perm ys.toList:=by rw[<-hzs];exact Array.perm_iff_toList_perm.mp (bubble_perm _ _ _)
   have hat:∀ i:Nat,zs[i]?=if i=lo+l then ys[lo+k]? else if lo+l<i/\i<=lo+k then ys[i-1]? else ys[i]?:=fun i=>by
    rw[<-hzs,getElem?_bubble hsz _ (by omega),show lo+k-(lo+k-(lo+l))=lo+l by omega]
   have hk':∀ i,kk rk zs i=if i=lo+l then kk rk ys (lo+k) else if lo+l<i/\i<=lo+k then kk rk ys (i-1) else kk rk ys i:=fun i=>by
    have e:=hat i
    by_cases q1:i=lo+l
    ·rw[if_pos q1]at e ⊢;exact iS e
    ·rw[if_neg q1]at e ⊢
     by_cases q2:lo+l<i/\i<=lo+k
     ·rw[if_pos q2]at e ⊢;exact iS e
     ·rw[if_neg q2]at e ⊢;exact iS e
   refine wpS_bind (wpS_modify ?_);show wpS _ _ _ _ _ _ (SortSt.mk' κ (bubble ys (lo+k) (lo+k-(lo+l))) p g none);rw[hzs];refine wpS_pure ⟨rfl,zs,rfl,hpm.trans g1,fun i hi=>?_,fun i j a1 a2 a3=>?_⟩
   ·rw[hat,if_neg (by omega),if_neg (by omega)];exact g2 i hi
   ·rw[show min (k+1) m=k+1 by omega]at a3
    rw[hk',hk']
    by_cases hi1:i=lo+l
    ·rw[if_pos hi1]
     by_cases hj1:j=lo+l
     ·rw[if_pos hj1];exact Int.le_refl _
     ·rw[if_neg hj1,if_pos (by omega)]
      exact b5 (j-1) (by omega) (by omega)
    ·rw[if_neg hi1]
     by_cases hi2:lo+l<i/\i<=lo+k
     ·rw[if_pos hi2,if_neg (by omega),if_pos (by omega)]
      exact g3 (i-1) (j-1) (by omega) (by omega) (by omega)
     ·rw[if_neg hi2]
      by_cases hj1:j=lo+l
      ·rw[if_pos hj1];exact b4 i a1 (by omega)
      ·rw[if_neg hj1]
       by_cases hj2:lo+l<j/\j<=lo+k
       ·rw[if_pos hj2]
        by_cases hij:i<=j-1
        ·exact g3 i (j-1) a1 hij (by omega)
        ·omega
       ·rw[if_neg hj2];exact g3 i j a1 a2 (by omega)
end
end SR
set_option maxHeartbeats 3200000
namespace SR
open PySem PyProof.Rows
theorem uk (i:Nat):mergeAt' i=(do
 let s ← get
 let (some (sa,na,power),some (sb,nb,_)):=((pendingOf s)[i]?,(pendingOf s)[i+1]?) | unsupported "internal:list.sort.pending"
 set (setPending s (((pendingOf s).setIfInBounds i (sa,na+nb,power)).eraseIdxIfInBounds (i+1)))
 let some k ← c9 false (← elem' (arrOf s) sb) (arrOf s) sa na 0|return false
 let (sa,na):=(sa+k,na-k)
 if na == 0 then return true
 let some nb ← c9 true (← elem' (arrOf s) (sa+na-1)) (arrOf s) sb nb (nb-1)|return false
 if nb == 0 then return true
 let x:=(arrOf s).extract sa sb
 let y:=(arrOf s).extract sb (sb+nb)
 let merged ← if na<=nb then kB x y else kA x y
 modify fun s=>setArr s (merged.toList.zipIdx.foldl (fun a (p,j)=>a.setIfInBounds (sa+j) p) (arrOf s))
 return (failedOf (← get)).isNone):=rfl
theorem GP {M:Model}{A:Around}{E:Value->Shared->Prop}{s:Shared}{σ:Type}{st':σ}{Q:PUnit->σ->Prop}{st:σ}(h:Q ⟨⟩ st'):wpS M A E s (set st':StateT σ Sem PUnit) Q st:=by
 unfold wpS;rw[StateT.run_set];exact wpAny_pure ⟨rfl,h⟩
section
variable {prog:Program}{w:World}{A:Around}{E:Value->Shared->Prop}{s:Shared}{κ:SortKind}{rk:Keyed->Int}{Gd:Keyed->Prop}{n:Nat}{xs:Array Keyed}{p:Array (Nat × Nat × Nat)}{g:Nat}
theorem K3 {α β:Type}{m:StateT SortSt Sem α}{f:α->StateT SortSt Sem β}{P:α->Prop}{Q:β->SortSt->Prop}(h:G prog w A E s κ xs p m P)(hq:∀ a g',P a->wpS (model prog w) A E s (f a) Q (SortSt.mk' κ xs p g' none)) :
  wpS (model prog w) A E s (m >>= f) Q (SortSt.mk' κ xs p g none):=
 wpS_bind (wpS_mono (h g) fun a st' hh=>by
  obtain⟨⟨g',rfl⟩,hp⟩:=hh;exact hq a g' hp)
theorem zz (hc:oB prog w A s κ rk Gd)(hA:Ar rk Gd n xs){n1 n2 pw:Nat}{Q:Bool->SortSt->Prop}(h1:1<=n1)(h2:1<=n2)(hn:n1+n2=n)
  (h:∀ (ys:Array Keyed) g',ys.toList.Perm xs.toList->Q true (SortSt.mk' κ ys #[(0,n1+n2,pw)] g' none)) :
  wpS (model prog w) A E s (mergeAt' 0) Q (SortSt.mk' κ xs #[(0,n1,pw),(n1,n2,0)] g none):=by
 have hsz:=hA.sz;rw[uk];refine wpS_bind (wpS_get ?_);dsimp only;refine wpS_bind (GP ?_);have ep:(((#[(0,n1,pw),(n1,n2,0)]:Array (Nat × Nat × Nat)).setIfInBounds 0 (0,n1+n2,pw)).eraseIdxIfInBounds (0+1))=#[(0,n1+n2,pw)]:=by simp[Array.eraseIdxIfInBounds]
 show wpS _ _ _ _ _ Q (SortSt.mk' κ xs (((#[(0,n1,pw),(n1,n2,0)]:Array (Nat × Nat × Nat)).setIfInBounds 0 (0,n1+n2,pw)).eraseIdxIfInBounds (0+1)) g none);rw[ep];simp only[show arrOf (SortSt.mk' κ xs #[(0,n1,pw),(n1,n2,0)] g none)=xs from rfl,Nat.zero_add];have hn1:n1<xs.size:=by omega
 refine K3 (P:=(·=xs[n1])) (bW (Array.getElem?_eq_getElem hn1) rfl) ?_;rintro _ g1 rfl;refine K3 (P:=fun r=>∃ k,r=some k/\k<=n1) (pA hc (hA.gd _ (gm hn1)) hA.gd (by omega) (by omega) fun k hk=>⟨k,rfl,hk⟩) ?_
 rintro _ g2 ⟨k,rfl,hk⟩;dsimp only
 split
 ·exact wpS_pure (h xs g2 (.refl _))
 rename_i hk0;have hk0:¬ n1-k=0:=by simpa using hk0
 have hkn:k+(n1-k)-1<xs.size:=by omega
 refine K3 (P:=(·=xs[k+(n1-k)-1])) (bW (Array.getElem?_eq_getElem hkn) rfl) ?_;rintro _ g3 rfl;refine K3 (P:=fun r=>∃ t,r=some t/\t<=n2) (pA hc (hA.gd _ (gm hkn)) hA.gd (by omega) (by omega) fun t ht=>⟨t,rfl,ht⟩) ?_
 rintro _ g4 ⟨t,rfl,ht⟩;dsimp only
 split
 ·exact wpS_pure (h xs g4 (.refl _))
 rename_i ht0;have ht0:¬ t=0:=by simpa using ht0
 have ex:(xs.extract k n1).toList=(xs.toList.take n1).drop k:=by simp[List.drop_take]
 have ey:(xs.extract n1 (n1+t)).toList=(xs.toList.drop n1).take t:=by simp
 have gx:∀ x∈(xs.extract k n1).toList,Gd x:=fun x hx=>hA.gd x (by rw[ex]at hx;exact List.mem_of_mem_take (List.mem_of_mem_drop hx))
 have gy:∀ x∈(xs.extract n1 (n1+t)).toList,Gd x:=fun x hx=>hA.gd x (by rw[ey]at hx;exact List.mem_of_mem_drop (List.mem_of_mem_take hx))
 have zx:(xs.extract k n1).size=n1-k:=by simp;omega
 have zy:(xs.extract n1 (n1+t)).size=t:=by simp;omega
 have fin:∀ (m:Array Keyed) g5,iz (xs.extract k n1) (xs.extract n1 (n1+t)) m->wpS (model prog w) A E s (do
   modify fun s=>setArr s (m.toList.zipIdx.foldl (fun a (q:Keyed × Nat)=>a.setIfInBounds (k+q.2) q.1) (arrOf s))
   let st ← get
   pure (failedOf st).isNone) Q (SortSt.mk' κ xs #[(0,n1+n2,pw)] g5 none):=fun m g5 hp=>by
  refine wpS_bind (wpS_modify (wpS_bind (wpS_get (wpS_pure ?_))));unfold iz at hp;rw[ex,ey]at hp;have hlen:m.toList.length=n1-k+t:=by
   have:=hp.length_eq;rw[List.length_append,List.length_drop,List.length_take,List.length_take,List.length_drop,Array.length_toList,Array.length_toList]at this;rw[Array.length_toList];omega
  have elay:=tW m.toList 0 k xs (by omega)
  rw[hlen,Nat.add_zero,show k+(n1-k+t)=n1+t by omega]at elay
  have eT:xs.toList=xs.toList.take k++((xs.toList.take n1).drop k++(xs.toList.drop n1).take t)++xs.toList.drop (n1+t):=by
   have c1:xs.toList.take k=(xs.toList.take n1).take k:=by rw[List.take_take];congr 1;omega
   rw[c1,<-List.append_assoc,List.take_append_drop,List.append_assoc,<-List.drop_drop,List.take_append_drop,List.take_append_drop]
  refine h _ g5 ?_;rw[elay];refine List.Perm.trans ((hp.append_left _).append_right _) ?_;rw[<-eT]
 split
 ·exact K3 (yr hc gx gy (by omega) (by omega)) fun m g5 hm=>fin m g5 hm
 ·exact K3 (yq hc gx gy (by omega) (by omega)) fun m g5 hm=>fin m g5 hm
end
end SR
set_option maxHeartbeats 3200000
namespace SR
open PySem PyProof.Rows
theorem FC {n:Nat}(h1:1<=n)(h2:n<128):n<=2*minRun' n n 0/\minRun' n n 0<=n/\1<=minRun' n n 0/\(n<64->minRun' n n 0=n):=by
 rcases Nat.lt_or_ge n 64 with h|h
 ·obtain⟨f,rfl⟩:∃ f,n=f+1:=⟨n-1,by omega⟩
  have e:minRun' (f+1) (f+1) 0=f+1:=by rw[minRun'_succ,if_pos h]
  rw[e];omega
 ·obtain⟨f,rfl⟩:∃ f,n=f+2:=⟨n-2,by omega⟩
  have e1:minRun' (f+1+1) (f+2) 0=minRun' (f+1) ((f+2) / 2) (max 0 ((f+2) % 2)):=by rw[minRun'_succ,if_neg (by omega)]
  have e2:minRun' (f+1) ((f+2) / 2) (max 0 ((f+2) % 2))=(f+2) / 2+max 0 ((f+2) % 2):=by rw[minRun'_succ,if_pos (by omega)]
  have e3:minRun' (f+2) (f+2) 0=(f+2) / 2+max 0 ((f+2) % 2):=e1.trans e2;rw[e3];omega
section
variable {prog:Program}{w:World}{A:Around}{E:Value->Shared->Prop}{s:Shared}{κ:SortKind}{rk:Keyed->Int}{Gd:Keyed->Prop}{n:Nat}{xs:Array Keyed}
theorem wm (hc:oB prog w A s κ rk Gd)(hA:Ar rk Gd n xs)(h64:1<=n)(h128:n<128){g:Nat}{Q:Unit->SortSt->Prop}
  (h:∀ (ys:Array Keyed) p g',ys.toList.Perm xs.toList->(n<64->Up rk ys 0 n)->Q () (SortSt.mk' κ ys p g' none)) :
  wpS (model prog w) A E s sortRuns' Q (SortSt.mk' κ xs #[] g none):=by
 rw[sortRuns'_eq];refine wpS_bind (wpS_get ?_);dsimp only;have hmr:=FC h64 h128;simp only[show(arrOf (SortSt.mk' κ xs #[] g none)).size=n from hA.sz];generalize minRun' n n 0=mr at hmr;refine wpS_bind (wpS_mono (wpS_forRange
  (I:=fun x c st=>(x=0/\c=(none,0)/\st=SortSt.mk' κ xs #[] g none)\/(1<=x/\∃ ys:Array Keyed,∃ n1,c=(none,n1)/\mr<=n1/\n1<n/\st=SortSt.mk' κ ys #[(0,n1,0)] g none/\ys.toList.Perm xs.toList/\Up rk ys 0 n1/\x=1) ∨
   (c=(none,n)/\∃ ys:Array Keyed,ys.toList.Perm xs.toList/\((st=SortSt.mk' κ ys #[(0,n,0)] g none/\Up rk ys 0 n)\/∃ n1 n2 pw,1<=n1/\1<=n2/\n1+n2=n/\st=SortSt.mk' κ ys #[(0,n1,pw),(n1,n2,0)] g none/\64<=n)))
  (Q:=fun c st=>c=(none,n)/\∃ ys:Array Keyed,ys.toList.Perm xs.toList/\((st=SortSt.mk' κ ys #[(0,n,0)] g none/\Up rk ys 0 n)\/∃ n1 n2 pw,1<=n1/\1<=n2/\n1+n2=n/\st=SortSt.mk' κ ys #[(0,n1,pw),(n1,n2,0)] g none/\64<=n))
  ?step ?fin (.inl ⟨rfl,rfl,rfl⟩)) ?post)
 case fin=>
  rintro c st (⟨hx,_⟩|⟨_,_,_,_,_,_,_,_,_,hx⟩|hh)
  ·omega
  ·omega
  ·exact hh
 case step=>
  rintro x c st _ hx (⟨rfl,rfl,rfl⟩|⟨hx1,ys,n1,rfl,hm,hl,rfl,hp,hu,rfl⟩|⟨rfl,hh⟩)
  ·dsimp only;rw[if_neg (by omega)]
   refine wpS_bind (ou hc hA (by omega) (by omega) fun m ys hm1 hm2 hp hk hu=>?_)
   dsimp only;rw[Nat.zero_add]at hu;have out:∀ (zs:Array Keyed) n1,mr<=n1->n1<=n->zs.toList.Perm xs.toList->Up rk zs 0 n1 →
     (0+1=0/\((none:Option Unit),0+n1)=(none,0)/\setPending (SortSt.mk' κ zs #[] g none) ((pendingOf (SortSt.mk' κ zs #[] g none)).push (0,n1,0))=SortSt.mk' κ xs #[] g none)\/(1<=0+1/\∃ ys:Array Keyed,∃ n1',((none:Option Unit),0+n1)=(none,n1')/\mr<=n1'/\n1'<n/\setPending (SortSt.mk' κ zs #[] g none) ((pendingOf (SortSt.mk' κ zs #[] g none)).push (0,n1,0))=SortSt.mk' κ ys #[(0,n1',0)] g none/\ys.toList.Perm xs.toList/\Up rk ys 0 n1'/\0+1=1) ∨
     (((none:Option Unit),0+n1)=(none,n)/\∃ ys:Array Keyed,ys.toList.Perm xs.toList/\((setPending (SortSt.mk' κ zs #[] g none) ((pendingOf (SortSt.mk' κ zs #[] g none)).push (0,n1,0))=SortSt.mk' κ ys #[(0,n,0)] g none/\Up rk ys 0 n)\/∃ n1' n2 pw,1<=n1'/\1<=n2/\n1'+n2=n/\setPending (SortSt.mk' κ zs #[] g none) ((pendingOf (SortSt.mk' κ zs #[] g none)).push (0,n1,0))=SortSt.mk' κ ys #[(0,n1',pw),(n1',n2,0)] g none/\64<=n)):=fun zs n1 a1 a2 a3 a4=>by
    rcases Nat.lt_or_ge n1 n with q|q
    ·exact .inr (.inl ⟨by omega,zs,n1,by rw[Nat.zero_add],a1,q,rfl,a3,a4,rfl⟩)
    ·obtain rfl:n1=n:=by omega
     exact .inr (.inr ⟨by rw[Nat.zero_add],zs,a3,.inl ⟨rfl,a4⟩⟩)
   by_cases hlt:m<mr
   ·rw[if_pos hlt];refine wpS_bind (wpS_lift (wpAny_rule ⟨rfl,?_⟩));refine wpS_bind (kT hc (hA.perm hp) (by omega) (by omega) (by rw[Nat.zero_add];exact hu) fun zs hp2 hk2 hu2=>?_)
    rw[if_neg (by simp)]
    refine wpS_bind (wpS_get ?_);rw[show(pendingOf (SortSt.mk' κ zs #[] g none)).back?=none from rfl];dsimp only;refine wpS_bind (wpS_modify (wpS_pure ?_));rw[Nat.zero_add]at hu2;exact out zs _ (by omega) (by omega) (hp2.trans hp) hu2
   ·rw[if_neg hlt];refine wpS_bind (wpS_get ?_);rw[show(pendingOf (SortSt.mk' κ ys #[] g none)).back?=none from rfl];dsimp only;refine wpS_bind (wpS_modify (wpS_pure ?_));exact out ys _ (by omega) (by omega) hp hu
  ·dsimp only;rw[if_neg (by omega)]
   have hA1:=hA.perm hp;refine wpS_bind (ou hc hA1 (by omega) (by omega) fun m zs hm1 hm2 hp2 hk2 hu2=>?_)
   dsimp only;have loop:∀ (zs:Array Keyed) (f:Nat->Option Unit × Unit->StateT SortSt Sem (ForInStep (Option Unit × Unit))) {R:Option Unit × Unit->SortSt->Prop},
     (∀ x (R':ForInStep (Option Unit × Unit)->SortSt->Prop),R' (.done (none,())) (SortSt.mk' κ zs #[(0,n1,0)] g none)->wpS (model prog w) A E s (f x (none,())) R' (SortSt.mk' κ zs #[(0,n1,0)] g none))->R (none,()) (SortSt.mk' κ zs #[(0,n1,0)] g none) →
     wpS (model prog w) A E s (forIn [0:n] ((none:Option Unit),()) f) R (SortSt.mk' κ zs #[(0,n1,0)] g none):=fun zs f R hf hR=>by
    refine wpS_forRange (I:=fun x c st=>c=(none,())/\st=SortSt.mk' κ zs #[(0,n1,0)] g none) ?_ ?_ ⟨rfl,rfl⟩
    ·rintro x c st _ _ ⟨rfl,rfl⟩;exact hf x _ hR
    ·rintro c st ⟨rfl,rfl⟩;exact hR
   have out:∀ (zs:Array Keyed) n2 pw,n1+n2=n →
     ∃ n1' n2' pw',1<=n1'/\1<=n2'/\n1'+n2'=n/\SortSt.mk' κ zs #[(0,n1,pw),(n1,n2,0)] g none=SortSt.mk' κ zs #[(0,n1',pw'),(n1',n2',0)] g none/\64<=n:=fun zs n2 pw a1=>
    ⟨n1,n2,pw,by omega,by omega,a1,rfl,by omega⟩
   by_cases hlt:m<mr
   ·rw[if_pos hlt];refine wpS_bind (wpS_lift (wpAny_rule ⟨rfl,?_⟩));refine wpS_bind (kT hc (hA1.perm hp2) (by omega) (by omega) hu2 fun vs hp3 hk3 hu3=>?_)
    rw[if_neg (by simp)]
    have en:min (n-n1) (mr)=n-n1:=by omega
    rw[en]at hu3 ⊢;rw[show n1+(n-n1)=n by omega]at hu3
    refine wpS_bind (wpS_get ?_);rw[show(pendingOf (SortSt.mk' κ vs #[(0,n1,0)] g none)).back?=some (0,n1,0) from rfl];dsimp only;refine wpS_bind (loop vs _ (fun x R' hR=>?_) ?_)
    ·refine wpS_bind (wpS_get ?_);rw[if_neg (by show ¬ (1>1);omega)]
     exact wpS_pure hR
    ·refine wpS_bind (wpS_modify (wpS_bind (wpS_modify (wpS_pure ?_))));exact .inr (.inr ⟨by rw[show n1+(n-n1)=n by omega],vs,hp3.trans (hp2.trans hp),.inr (out vs (n-n1) _ (by omega))⟩)
   ·rw[if_neg hlt];obtain rfl:m=n-n1:=by omega
    rw[show n1+(n-n1)=n by omega]at hu2
    refine wpS_bind (wpS_get ?_);rw[show(pendingOf (SortSt.mk' κ zs #[(0,n1,0)] g none)).back?=some (0,n1,0) from rfl];dsimp only;refine wpS_bind (loop zs _ (fun x R' hR=>?_) ?_)
    ·refine wpS_bind (wpS_get ?_);rw[if_neg (by show ¬ (1>1);omega)]
     exact wpS_pure hR
    ·refine wpS_bind (wpS_modify (wpS_bind (wpS_modify (wpS_pure ?_))));exact .inr (.inr ⟨by rw[show n1+(n-n1)=n by omega],zs,hp2.trans hp,.inr (out zs (n-n1) _ (by omega))⟩)
  ·dsimp only;rw[if_pos (Nat.le_refl _)];exact wpS_pure ⟨rfl,hh⟩
 case post=>
  rintro c st ⟨rfl,ys,hp,hh⟩;dsimp only;refine wpS_bind (wpS_mono (wpS_forRange
   (I:=fun x c st=>c=(none,())/\∃ ys:Array Keyed,ys.toList.Perm xs.toList/\((∃ p g',p.size<=1/\st=SortSt.mk' κ ys p g' none/\(n<64->Up rk ys 0 n))\/(x=0/\∃ n1 n2 pw,1<=n1/\1<=n2/\n1+n2=n/\st=SortSt.mk' κ ys #[(0,n1,pw),(n1,n2,0)] g none/\64<=n)))
   (Q:=fun c st=>c=(none,())/\∃ ys:Array Keyed,ys.toList.Perm xs.toList/\∃ p g',st=SortSt.mk' κ ys p g' none/\(n<64->Up rk ys 0 n)) ?s2 ?f2 ?i2) ?p2)
  case i2=>
   refine⟨rfl,ys,hp,?_⟩
   rcases hh with ⟨rfl,hu⟩|hh
   ·exact .inl ⟨#[(0,n,0)],g,by simp,rfl,fun _=>hu⟩
   ·exact .inr ⟨rfl,hh⟩
  case f2=>
   rintro c st ⟨rfl,zs,hp2,⟨p,g',_,rfl,hu⟩|⟨hx,_⟩⟩
   ·exact⟨rfl,zs,hp2,p,g',rfl,hu⟩
   ·omega
  case p2=>
   rintro c st ⟨rfl,zs,hp2,p,g',rfl,hu⟩;exact wpS_pure (h zs p g' hp2 hu)
  case s2=>
   rintro x c st _ hx ⟨rfl,zs,hp2,⟨p,g',hp1,rfl,hu⟩|⟨rfl,n1,n2,pw,a1,a2,a3,rfl,a4⟩⟩
   ·refine wpS_bind (wpS_get ?_);rw[if_pos (show(pendingOf (SortSt.mk' κ zs p g' none)).size<=1 from hp1)];exact wpS_pure ⟨rfl,zs,hp2,p,g',rfl,hu⟩
   ·refine wpS_bind (wpS_get ?_);rw[if_neg (show ¬ ((pendingOf (SortSt.mk' κ zs #[(0,n1,pw),(n1,n2,0)] g none)).size<=1) by show ¬ (2<=1);omega)]
    refine wpS_bind ?_;show wpS (model prog w) A E s (mergeAt' 0) _ _;refine zz hc (hA.perm hp2) a1 a2 a3 fun vs g' hp3=>?_;rw[if_neg (by simp)]
    exact wpS_pure ⟨rfl,vs,hp3.trans hp2,.inl ⟨#[(0,n1+n2,pw)],g',by simp,rfl,fun z=>by omega⟩⟩
end
end SR
set_option maxHeartbeats 3200000
namespace SR
open PySem PyProof.Rows
theorem perm_up {α β:Type}{f:α->β}:∀ (ms:List α) (l:List β),List.Perm l (ms.map f)->∃ ms1,List.Perm ms1 ms/\l=ms1.map f
 | [],l,h=>⟨[],.refl _,by simpa using h⟩
 | m::ms,l,h=>by
  rw[List.map_cons]at h;obtain⟨l1,l2,rfl⟩:=List.append_of_mem (h.mem_iff.mpr List.mem_cons_self);have h2:List.Perm (l1++l2) (ms.map f):=List.Perm.cons_inv (a:=f m) (List.perm_middle.symm.trans h);obtain⟨ms1,hp,e⟩:=perm_up ms _ h2;obtain⟨a,b,rfl,ea,eb⟩:=List.append_eq_map_iff.mp e;refine⟨a++m::b,List.perm_middle.trans (List.Perm.cons m hp),?_⟩;rw[List.map_append,List.map_cons,ea,eb]
theorem Ab {p q:Nat->Bool}:∀ l:List Nat,(∀ x∈l,p x=true->q x=true)->l.countP p<=l.countP q:=fun l h=>List.countP_mono_left h
theorem Ac {p q:Nat->Bool}:∀ l:List Nat,(∀ x∈l,p x=true->q x=true)->∀ y∈l,p y=false->q y=true->l.countP p<l.countP q
 | [],_,y,hy,_,_=>absurd hy List.not_mem_nil
 | x::l,h,y,hy,h1,h2=>by
  rw[List.countP_cons,List.countP_cons];have hl:=Ab l fun z hz=>h z (List.mem_cons_of_mem _ hz)
  rcases List.mem_cons.mp hy with rfl|hy
  ·rw[h1,h2];simp;omega
  ·have:=Ac l (fun z hz=>h z (List.mem_cons_of_mem _ hz)) y hy h1 h2;have hx:=h x List.mem_cons_self
   cases hp:p x with
   | false=>simp;split <;> omega
   | true=>rw[hx hp];simp;omega
section
variable {prog:Program}{w:World}{A:Around}{E:Value->Shared->Prop}{s:Shared}{κ:SortKind}
theorem w_run {vs:List Value}{lt:Nat->Nat->Bool}(h64:1<=vs.length)(h128:vs.length<128)
  (hinj:∀ i j,i<vs.length->j<vs.length->vs.getD i Value.none=vs.getD j Value.none->i=j)
  (hirr:∀ i,lt i i=false) (htr:∀ i j k,lt i j=true->lt j k=true->lt i k=true) (hneg:∀ i j k,lt i k=true->lt i j=true\/lt j k=true)
  (htot:∀ i j,i<vs.length->j<vs.length->lt i j=false->lt j i=false->i=j)
  (hcmp:∀ i j,i<vs.length->j<vs.length->∀ Q:Bool->Shared->Prop,Q (lt i j) s->wpAny (model prog w) A (keyLt' κ (vs.getD i Value.none) (vs.getD j Value.none)) Q (fun _ _=>False) s) :
  wpS (model prog w) A E s sortRuns' (fun _ st=>∃ p:Array Nat,arrOf st=p.map (fun i=>(vs.getD i Value.none,vs.getD i Value.none))/\failedOf st=none/\List.Perm p.toList (List.range vs.length) ∧
   (vs.length<64->∀ i j,i<=j->j<vs.length->lt (p.getD j 0) (p.getD i 0)=false)) (SortSt.mk' κ (vs.toArray.zip vs.toArray) #[] 7 none):=by
 generalize hn:vs.length=n at h64 h128 hinj htot hcmp
 classical
 let it:Nat->Keyed:=fun i=>(vs.getD i Value.none,vs.getD i Value.none)
 let ri:Nat->Int:=fun i=>((List.range n).countP fun j=>lt j i:Nat)
 let rk:Keyed->Int:=fun x=>if h:∃ i,i<n/\it i=x then ri (Classical.choose h) else 0
 have hit:∀ i j,i<n->j<n->it i=it j->i=j:=fun i j hi hj e=>hinj i j hi hj (congrArg Prod.fst e);have hrk:∀ i,i<n->rk (it i)=ri i:=fun i hi=>by
  have hx:∃ j,j<n/\it j=it i:=⟨i,hi,rfl⟩;show(if h:∃ j,j<n/\it j=it i then ri (Classical.choose h) else 0)=ri i
  rw[dif_pos hx];have hs:=Classical.choose_spec hx;rw[hit _ _ hs.1 hi hs.2]
 have hlt:∀ i j,i<n->lt i j=decide (ri i<ri j):=fun i j hi=>by
  cases hb:lt i j with
  | true=>
   have:=Ac (p:=fun k=>lt k i) (q:=fun k=>lt k j) (List.range n) (fun k _ hk=>htr k i j hk hb) i (by simpa using hi) (hirr i) hb
   exact(decide_eq_true (by show((_:Nat):Int)<((_:Nat):Int);omega)).symm
  | false=>
   have:=Ab (p:=fun k=>lt k j) (q:=fun k=>lt k i) (List.range n) (fun k _ hk=>(hneg k i j hk).resolve_right (by rw[hb];simp))
   exact(decide_eq_false (by show ¬ (((_:Nat):Int)<((_:Nat):Int));omega)).symm
 let Gd:Keyed->Prop:=fun x=>∃ i,i<n/\x=it i
 have hc:oB prog w A s κ rk Gd:=by
  rintro x y ⟨i,hi,rfl⟩ ⟨j,hj,rfl⟩ Q hq;rw[hrk i hi,hrk j hj,<-hlt i j hi]at hq;exact hcmp i j hi hj Q hq
 have hzip:(vs.toArray.zip vs.toArray).toList=(List.range n).map it:=by
  apply List.ext_getElem?;intro i
  rcases Nat.lt_or_ge i n with h|h
  ·have h1:i<vs.length:=by omega
   simp[h,it,h1]
  ·have h1:vs.length<=i:=by omega
   simp[h,h1]
 have hA:Ar rk Gd n (vs.toArray.zip vs.toArray):=by
  refine⟨by simp[hn],fun x hx=>?_,?_⟩
  ·rw[hzip]at hx;obtain⟨i,hi,rfl⟩:=List.mem_map.mp hx;exact⟨i,by simpa using hi,rfl⟩
  ·rw[hzip,List.map_map];have e:(List.range n).map (rk ∘ it)=(List.range n).map ri:=List.map_congr_left fun i hi=>hrk i (by simpa using hi)
   rw[e];refine List.pairwise_map.mpr (List.Pairwise.imp_of_mem (fun {i j} hi hj hij e=>?_) List.nodup_range);have hi':i<n:=by simpa using hi
   have hj':j<n:=by simpa using hj
   refine hij (htot i j hi' hj' ?_ ?_)
   ·rw[hlt i j hi'];exact decide_eq_false (by omega)
   ·rw[hlt j i hj'];exact decide_eq_false (by omega)
 refine wm hc hA h64 h128 fun ys p g' hp hu=>?_;rw[hzip]at hp;obtain⟨q,hq,e⟩:=perm_up _ _ hp;have hql:q.length=n:=by rw[hq.length_eq,List.length_range]
 refine⟨q.toArray,?_,rfl,by simpa using hq,fun h64' i j hij hj=>?_⟩
 ·show ys=_;apply Array.toList_inj.mp;rw[e];simp[it]
 ·have hi:i<n:=by omega
  have hys:ys.size=n:=by rw[<-Array.length_toList,e,List.length_map,hql]
  have h1:=hu h64' i j (Nat.zero_le _) hij hj;have at_:∀ k (hk:k<n),kk rk ys k=ri (q[k]'(by omega))/\q[k]'(by omega)<n:=fun k hk=>by
   have hm:q[k]'(by omega)<n:=by simpa using hq.mem_iff.mp (List.getElem_mem (by omega:k<q.length))
   refine⟨?_,hm⟩;rw[tS (by omega)]
   have e2:ys[k]'(by omega)=it (q[k]'(by omega)):=by
    have:ys.toList[k]'(by simp;omega)=(q.map it)[k]'(by simp;omega):=by simp only[e]
    simpa using this
   rw[e2,hrk _ hm]
  rw[(at_ i hi).1,(at_ j hj).1]at h1;have gi:q.toArray.getD i 0=q[i]'(by omega):=by simp[Array.getD,hql,hi]
  have gj:q.toArray.getD j 0=q[j]'(by omega):=by simp[Array.getD,hql,hj]
  rw[gi,gj,hlt _ _ (at_ j hj).2];exact decide_eq_false (by omega)
end
end SR
set_option maxHeartbeats 3200000
namespace ST
open PySem PySem.W PyProof.Rows
def lexB:List Int->List Int->Bool
 | [],[]=>false
 | [],_::_=>true
 | _::_,[]=>false
 | a::x,b::y=>if a=b then lexB x y else decide (a<b)
theorem g9:∀ a,lexB a a=false
 | []=>rfl
 | a::x=>by simp[lexB,g9 x]
theorem pD:∀ a b c,lexB a b=true->lexB b c=true->lexB a c=true
 | [],[],c,h1,h2=>h2
 | [],_::_,[],h1,h2=>by simp[lexB]at h2
 | [],_::_,_::_,h1,h2=>rfl
 | _::_,[],c,h1,h2=>by simp[lexB]at h1
 | _::_,_::_,[],h1,h2=>by simp[lexB]at h2
 | a::x,b::y,c::z,h1,h2=>by
  simp only[lexB]at h1 h2 ⊢
  by_cases e1:a=b
  ·subst e1
   by_cases e2:a=c
   ·subst e2;simp only[if_true]at h1 h2 ⊢;exact pD x y z h1 h2
   ·simp only[if_true,e2,if_false]at h1 h2 ⊢;exact h2
  ·by_cases e2:b=c
   ·subst e2;simp only[e1,if_false,if_true]at h1 h2 ⊢;exact h1
   ·simp only[e1,e2,if_false,decide_eq_true_eq]at h1 h2 ⊢;have:a≠c:=by omega
    simp only[this,if_false,decide_eq_true_eq];omega
theorem xc:∀ a b c,lexB a c=true->lexB a b=true\/lexB b c=true
 | [],[],c,h=>.inr h
 | [],_::_,c,h=>.inl rfl
 | _::_,b,[],h=>by simp[lexB]at h
 | _::_,[],_::_,h=>.inr rfl
 | a::x,b::y,c::z,h=>by
  simp only[lexB]at h ⊢
  by_cases e1:a=b
  ·subst e1
   by_cases e2:a=c
   ·subst e2;simp only[if_true]at h ⊢;exact xc x y z h
   ·simp only[e2,if_false]at h ⊢;exact .inr h
  ·by_cases e2:b=c
   ·subst e2;simp only[e1,if_false]at h ⊢;exact .inl h
   ·simp only[e1,e2,if_false,decide_eq_true_eq]at h ⊢
    by_cases e3:a=c
    ·subst e3;omega
    ·simp only[e3,if_false,decide_eq_true_eq]at h;omega
theorem lF:∀ a b,lexB a b=false->lexB b a=false->a=b
 | [],[],_,_=>rfl
 | [],_::_,h,_=>by simp[lexB]at h
 | _::_,[],_,h=>by simp[lexB]at h
 | a::x,b::y,h1,h2=>by
  simp only[lexB]at h1 h2
  by_cases e:a=b
  ·subst e;simp only[if_true]at h1 h2;rw[lF x y h1 h2]
  ·have e':b≠a:=fun h=>e h.symm;simp only[e,e',if_false,decide_eq_false_iff_not]at h1 h2;omega
def zL (key:Nat->List Int)(p:Array Nat)(n:Nat):Prop:=∀ i j,i<=j->j<n->lexB (key (p.getD j 0)) (key (p.getD i 0))=false
section
variable {prog:Program}{w:World}{A:Around}{E:Value->Shared->Prop}{s:Shared}
theorem BK {b:Bool}{Q:Bool->Shared->Prop}:∀ (ks ls:List Int) (xs ys:List Value) (i:Nat),ItemsAre (ik prog w) ks xs->ItemsAre (ik prog w) ls ys->ks.length=ls.length->Q (lexB ks ls) s →
  KatLex prog w A b false Q (xs.zip ys) i s
 | _,_,_,_,i,.nil,.nil,_,h=>h
 | _,_,_,_,i,.nil,.cons _ _,e,h=>by simp at e
 | _,_,_,_,i,.cons _ _,.nil,e,h=>by simp at e
 | _,_,_,_,i,.cons (k:=k) (v:=v) (ks:=ks) (vs:=vs) h1 h2,.cons (k:=k') (v:=v') (ks:=ks') (vs:=vs') h3 h4,e,h=>by
  obtain⟨t,rfl⟩:=Value.isInt_shape h1;obtain⟨t',rfl⟩:=Value.isInt_shape h3;refine kat_cons (wpAny_eqBool_int ?_)
  by_cases hk:k=k'
  ·subst hk;rw[beq_self_eq_true];refine kat_yes (BK ks ks' vs vs' (i+1) h2 h4 (by simpa using e) ?_)
   simpa [lexB] using h
  ·rw[beq_eq_false_iff_ne.mpr hk];refine kat_no ?_;have h':Q (decide (k<k')) s:=by simpa [lexB,hk] using h
   cases hb:(b && i == 0) with
   | true=>exact oneLt_int h'
   | false=>exact kat_one _ _ (wpAny_lt_int h')
theorem xE {h:Heap}:∀ (vs:List Value) (km:Nat->Addr × List Int),(∀ i,i<vs.length->vs.getD i Value.none=.ref (km i).1/\IsTupleKey (ik prog w) h (km i).2 (km i).1/\0<(km i).2.length) →
  ∃ fs,KatTups h vs fs/\fs.length=vs.length/\∀ v∈fs,∃ k t,v=Value.int k t
 | [],km,_=>⟨[],.nil,rfl,fun v hv=>absurd hv List.not_mem_nil⟩
 | v::vs,km,hk=>by
  obtain⟨fs,h1,h2,h3⟩:=xE vs (fun i=>km (i+1)) fun i hi=>by
   have:=hk (i+1) (by simpa using hi)
   simpa using this
  obtain⟨e,⟨o,items,m,ho,hc,hd,hi⟩,hpos⟩:=hk 0 (by simp)
  have ev:v=.ref (km 0).1:=by simpa using e
  subst ev;generalize (km 0).2=kk at hi hpos;obtain⟨k,t,rest,hit⟩:∃ k t rest,items.toList=Value.int k t::rest:=by
   generalize items.toList=il at hi
   cases hi with
   | nil=>simp at hpos
   | @cons k v _ vs' h1 _=>
    obtain⟨t,rfl⟩:=Value.isInt_shape h1;exact⟨k,t,vs',rfl⟩
  refine⟨Value.int k t::fs,.cons ho hc hd (f:=Value.int k t) ?_ h1,by simp[h2],fun u hu=>?_⟩
  ·rw[<-Array.getElem?_toList,hit];rfl
  ·rcases List.mem_cons.mp hu with rfl|hu
   ·exact⟨k,t,rfl⟩
   ·exact h3 u hu
theorem y6:∀ vs:List Value,vs.length<2->(vs.toArray.zip vs.toArray).map (·.2)=((List.range vs.length).toArray.toList.map fun i=>vs.getD i Value.none).toArray
 | [],_=>by simp
 | [v],_=>by simp[List.range_succ]
 | _::_::_,h=>absurd h (by simp only[List.length_cons];omega)
theorem pC {prog:Program}{w:World}:∀ {ks ls:List Int}{xs:List Value},ItemsAre (ik prog w) ks xs->ItemsAre (ik prog w) ls xs->ks=ls
 | _,_,_,.nil,.nil=>rfl
 | _,_,_,.cons (k:=k) (v:=v) (ks:=ks) (vs:=vs) h1 h2,.cons (k:=k') (ks:=ks') h3 h4=>by
  obtain⟨t',e'⟩:=Value.isInt_shape h3;obtain⟨t,e⟩:=Value.isInt_shape h1;rw[e]at e';rw[pC h2 h4,(Value.int.inj e').1]
theorem Fp {h:Heap}{ks ls:List Int}{a:Addr}(h1:IsTupleKey (ik prog w) h ks a)(h2:IsTupleKey (ik prog w) h ls a):ks=ls:=by
 obtain⟨o,its,m,ho,hc,hd,hi⟩:=h1;obtain⟨o',its',m',ho',hc',hd',hi'⟩:=h2;rw[ho]at ho';obtain rfl:=Option.some.inj ho';rw[hd]at hd';obtain⟨rfl,_⟩:=Data.seq.inj hd';exact pC hi hi'
theorem DG {a:Addr}{n d:Nat}{vs:List Value}{km:Nat->Addr × List Int}{P:PySem.Fin->Shared->Prop} (ho:s.heap.get? a=some (seqObj "list" vs.toArray n)) (h64:vs.length<128/\∀ i j,i<vs.length->j<vs.length->(km i).2=(km j).2->i=j) (hd0:0<d)
  (hk:∀ i,i<vs.length->vs.getD i Value.none=.ref (km i).1/\IsTupleKey (ik prog w) s.heap (km i).2 (km i).1/\(km i).2.length=d)
  (h:∀ h' (p:Array Nat) e,(∀ b o,b≠a->s.heap.get? b=some o->h'.get? b=some o)->h'.get? a=some (seqObj "list" (p.toList.map fun i=>vs.getD i Value.none).toArray e) →
   List.Perm p.toList (List.range vs.length)->(vs.length<64->zL (fun i=>(km i).2) p vs.length)->P (.done (.ret .none)) {s with heap:=h'}) :
  wpAny (model prog w) A (Builtin.«list.sort» ⟨[.ref a],[]⟩) P E s:=by
 have ha:a<s.heap.objs.size:=Heap.lt_size ho;have s1:=Heap.SameBut.update s.heap a (Obj.mapSeq fun _=>(#[]:Array Value));obtain⟨e1,ho1⟩:∃ e1,(s.heap.update a (Obj.mapSeq fun _=>(#[]:Array Value))).get? a=some (seqObj "list" #[] e1):=⟨_,get?_update_seq ho fun _=>#[]⟩;generalize hh3:((s.heap.update a (Obj.mapSeq fun _=>(#[]:Array Value))).push (seqObj "tuple" vs.toArray 0)).push (seqObj "list" #[] 0)=h3;have k3:∀ b o,b≠a->s.heap.get? b=some o->h3.get? b=some o:=fun b o hb e=>by
  rw[<-hh3];exact Heap.get?_push_of_some _ (Heap.get?_push_of_some _ ((s1.2 b hb).trans e))
 have a3:h3.get? a=some (seqObj "list" #[] e1):=by rw[<-hh3];exact Heap.get?_push_of_some _ (Heap.get?_push_of_some _ ho1)
 have hk3:∀ i,i<vs.length->vs.getD i Value.none=.ref (km i).1/\IsTupleKey (ik prog w) h3 (km i).2 (km i).1/\(km i).2.length=d:=fun i hi=>by
  obtain⟨x1,⟨o',items,m',ho',hc',hd',hi'⟩,x3⟩:=hk i hi;refine⟨x1,⟨o',items,m',k3 _ o' (fun e=>?_) ho',hc',hd',hi'⟩,x3⟩;rw[e,ho]at ho';obtain rfl:=Option.some.inj ho';exact absurd hc' (by simp[seqObj])
 have fin:∀ p:Array Nat,List.Perm p.toList (List.range vs.length)->(vs.length<64->zL (fun i=>(km i).2) p vs.length)->∃ e,
   (h3.update a (Obj.mapSeq fun _=>(p.toList.map fun i=>vs.getD i Value.none).toArray)).get? a=some (seqObj "list" (p.toList.map fun i=>vs.getD i Value.none).toArray e) ∧
   P (.done (.ret .none)) {s with heap:=h3.update a (Obj.mapSeq fun _=>(p.toList.map fun i=>vs.getD i Value.none).toArray)}:=fun p hp hs=>by
  have hg:=get?_update_seq a3 fun _=>(p.toList.map fun i=>vs.getD i Value.none).toArray;exact⟨_,hg,h _ p _ (fun b o hb e=>((Heap.SameBut.update h3 a _).2 b hb).trans (k3 b o hb e)) hg hp hs⟩
 rw[list_sort_plain];refine wpAny_bind (listItems_at ho rfl ?_);refine wpAny_bind (listUpdate_at ho rfl ?_ (by rw[List.size_toArray,sizeLine_eq];omega) (Nat.zero_le _))
 refine wpAny_bind (seqEpoch_at ho1 rfl ?_);refine wpAny_bind (wpAny_newTuple ?_ (by show vs.length<=_;rw[sizeLine_eq];omega))
 refine wpAny_bind (wpAny_newList ?_ (Nat.zero_le _));refine wpAny_holding ?_;show wpAny (model prog w) A _ P E {s with heap:=((s.heap.update a (Obj.mapSeq fun _=>(#[]:Array Value))).push (seqObj "tuple" vs.toArray 0)).push (seqObj "list" #[] 0)};rw[hh3];dsimp only
 by_cases h2:vs.toArray.size<2
 ·rw[if_pos h2,if_pos h2];refine wpAny_bind (wpAny_pure ?_);rw[StateT.run_pure];refine wpAny_bind (wpAny_pure ?_);dsimp only;have hout:(arrOf (SortSt.mk' general' (vs.toArray.zip vs.toArray) #[] 7 none)).map (·.2)=((List.range vs.length).toArray.toList.map fun i=>vs.getD i Value.none).toArray:=by
   exact y6 vs (by simpa using h2)
  obtain⟨e,hg,hP⟩:=fin (List.range vs.length).toArray (.refl _) (fun _ i j hij hj=>by
   have h2':vs.length<2:=by simpa using h2
   have:i=j:=by omega
   subst this;exact g9 _)
  rw[hout];refine wpAny_bind (seqEpoch_at a3 rfl ?_);refine wpAny_bind (listUpdate_at a3 rfl ?_ (Nat.zero_le _) (by simp[sizeLine_eq];omega))
  simp only[bne_self_eq_false,Bool.false_eq_true,if_false];exact wpAny_pure hP
 ·rw[if_neg h2,if_neg h2];have h2':2<=vs.length:=by simpa using h2
  obtain⟨fs,t1,t2,t3⟩:=xE (prog:=prog) (w:=w) (h:=h3) vs km fun i hi=>⟨(hk3 i hi).1,(hk3 i hi).2.1,by rw[(hk3 i hi).2.2];exact hd0⟩
  refine wpAny_bind (kat_kind (T:=.type "int") t1 (by omega) (fun v hv=>by
   obtain⟨k,t,rfl⟩:=t3 v hv;exact Looks.of_pure rfl) (by decide) ?_)
  have cmp:∀ i j,i<vs.length->j<vs.length->∀ C:Bool->Shared->Prop,C (lexB (km i).2 (km j).2) {s with heap:=h3} →
    wpAny (model prog w) A (keyLt' (tuples' (Value.type "int" != Value.type "tuple")) (vs.getD i Value.none) (vs.getD j Value.none)) C (fun _ _=>False) {s with heap:=h3}:=fun i j hi hj C hC=>by
   obtain⟨x1,⟨o1,it1,m1,ho1',hc1,hd1,hi1⟩,x3⟩:=hk3 i hi;obtain⟨y1,⟨o2,it2,m2,ho2',hc2,hd2,hi2⟩,y3⟩:=hk3 j hj;rw[x1,y1];have hsz:decide (it1.size<it2.size)=false:=by
    have e1:=hi1.length;have e2:=hi2.length;simp only[Array.length_toList]at e1 e2;simp only[decide_eq_false_iff_not];omega
   refine kat_lt ho1' hd1 ho2' hd2 ?_;rw[hsz];exact BK _ _ _ _ 0 hi1 hi2 (x3.trans y3.symm) hC
  have run:wpAny (model prog w) A (sortRuns'.run (SortSt.mk' (tuples' (Value.type "int" != Value.type "tuple")) (vs.toArray.zip vs.toArray) #[] 7 none))
    (fun r s'=>∃ p:Array Nat,arrOf r.2=p.map (kas_item (vs.toArray.zip vs.toArray))/\failedOf r.2=none/\s'={s with heap:=h3}/\List.Perm p.toList (List.range vs.length)/\(vs.length<64->zL (fun i=>(km i).2) p vs.length)) E {s with heap:=h3}:=by
   ·obtain⟨h128,hdist⟩:=h64;have hinj:∀ i j,i<vs.length->j<vs.length->vs.getD i Value.none=vs.getD j Value.none->i=j:=fun i j hi hj e=>by
     refine hdist i j hi hj ?_;obtain⟨x1,x2,_⟩:=hk3 i hi;obtain⟨y1,y2,_⟩:=hk3 j hj;rw[x1,y1]at e;rw[Value.ref.inj e]at x2;exact Fp x2 y2
    refine wpAny_mono (SR.w_run (s:={s with heap:=h3}) (lt:=fun i j=>lexB (km i).2 (km j).2) (by omega) h128 hinj (fun i=>g9 _) (fun i j k=>pD _ _ _) (fun i j k=>xc _ _ _) (fun i j hi hj h1 h2=>hdist i j hi hj (lF _ _ h1 h2)) cmp) ?_ fun _ _ e=>e
    rintro⟨u,st'⟩ s' ⟨rfl,p,h1,h2,h3,h4⟩;refine⟨p,?_,h2,rfl,h3,fun z i j hij hj=>h4 z i j hij hj⟩;rw[h1];apply Array.toList_inj.mp;rw[Array.toList_map,Array.toList_map];exact List.map_congr_left fun i _=>(kat_item rfl i).symm
  refine wpAny_bind (wpAny_mono run ?_ fun _ _ e=>e)
  ·rintro⟨⟨⟩,st'⟩ s' ⟨p,har,hf,rfl,hp,hs⟩;dsimp only;obtain⟨e,hg,hP⟩:=fin p hp hs;have hout:=kat_snds (ks:=vs) (vs:=vs) rfl har;rw[hout];refine wpAny_bind (seqEpoch_at a3 rfl ?_);refine wpAny_bind (listUpdate_at a3 rfl ?_ (Nat.zero_le _) (by
    rw[List.size_toArray,List.length_map,hp.length_eq,List.length_range,sizeLine_eq];omega))
   rw[hf];simp only[bne_self_eq_false,Bool.false_eq_true,if_false];exact wpAny_pure hP
end
end ST
set_option maxHeartbeats 3200000
namespace ST
open PySem PySem.W PyProof.Rows
section
variable {prog:Program}{w:World}{A:Around}{E:Value->Shared->Prop}{s:Shared}{o:Obj}{es:Array (Int × Value)}{ep:Nat}{t:SetTable}{S:Addr}
theorem Bw {Q:Bool->Shared->Prop} (hT:s.TypeIs (.ref S) "set") (h:Q false s):wpAny (model prog w) A (Builtin.List.listLengthHint (.ref S)) Q E s:=by
 unfold Builtin.List.listLengthHint;refine wpAny_bind (wpAny_specialOf hT F.slot_set_len.lookup ?_);generalize hid:("set.__len__":String)=id0
 wp_delta
 rw[show splitId id0=some ("set","__len__") from by subst hid;decide +kernel]
 subst hid;refine wpAny_bind (wpAny_isInstance (T:="set") (b:=true) hT sub_set_self ?_);refine wpAny_ite_split (fun hab=>absurd hab (by decide)) (fun _=>?_)
 refine wpAny_ite_split (fun _=>?_) (fun hab=>absurd (by decide +kernel) hab)
 refine wpAny_bind (wpAny_typeOf hT ?_);exact wpAny_pure h
theorem vk {ws:List Value}{acc:Array Value}(h:ItemsOf (fun i v=>ws[i]?=some v) acc ws.length):acc=ws.toArray:=by
 obtain⟨h1,h2⟩:=h;have e:acc.toList=ws:=by
  apply List.ext_getElem?;intro i
  by_cases hi:i<acc.size
  ·have h3:=h2 i acc[i] (Array.getElem?_eq_getElem hi);rw[Array.getElem?_toList,Array.getElem?_eq_getElem hi,h3]
  ·rw[List.getElem?_eq_none (by simpa using Nat.le_of_not_lt hi),List.getElem?_eq_none (by rw[<-h1];exact Nat.le_of_not_lt hi)]
 rw[<-e]
theorem sW {Q:List Value->Shared->Prop}(hh:A.handled=none)(W:jM w o es ep t)(ho:s.heap.get? S=some o)(hz:es.size<=76)
  (h:∀ h' tk,(∀ b o,s.heap.get? b=some o->h'.get? b=some o)->s.heap.objs.size<=h'.objs.size->Q (cY w S ep es) {s with heap:=h',toks:=tk}) :
  wpAny (model prog w) A (collect (.ref S)) Q E s:=by
 have hS0:S<s.heap.objs.size:=Heap.lt_size ho;unfold collect;refine wpAny_bind (wpAny_runValue (codeAny_builtin entry_proto_collect' ?_));show wpAny _ _ (newList [] >>= fun l=>again (.builtin "list.__iadd__" ⟨[l,.ref S],[]⟩)) _ _ s;refine wpAny_bind (wpAny_newList (wpAny_pure ⟨Code.quiet_builtin _ (by decide +kernel),codeAny_builtin entry_list_iadd' ?_⟩))
 show wpAny _ _ (Builtin.List.listExtendWith (.ref s.heap.objs.size) (.ref S) (.ref s.heap.objs.size)) _ _ {s with heap:=s.heap.push (seqObj "list" #[] 0)};have ho1:(s.heap.push (seqObj "list" #[] 0)).get? S=some o:=Heap.get?_push_of_some _ ho;have hT1:Shared.TypeIs {s with heap:=s.heap.push (seqObj "list" #[] 0)} (.ref S) "set":=⟨o,ho1,W.ex.1⟩;unfold Builtin.List.listExtendWith;refine wpAny_bind (wpAny_typeOf hT1 ?_);have b1:Builtin.List.listSameRef (.ref s.heap.objs.size) (.ref S)=false:=by
  have:s.heap.objs.size≠S:=Nat.ne_of_gt hS0;simp[Builtin.List.listSameRef,this]
 have b2:(Value.type "set" == Value.type "list")=false:=by decide
 have b3:(Value.type "set" == Value.type "tuple")=false:=by decide
 simp only[b1,b2,b3,Bool.or_false,Bool.false_eq_true,if_false];refine wpAny_bind (uH W ho1 ?_);generalize hio:({cls:=.type "set_iterator",data:=.fields #[rawInt (0:Nat),rawInt (0:Nat),.ref S,rawInt es.size,rawInt ep]}:Obj)=io;have hsz1:(s.heap.push (seqObj "list" #[] 0)).objs.size=s.heap.objs.size+1:=size_push' ..;dsimp only;rw[hsz1];have ho2:((s.heap.push (seqObj "list" #[] 0)).push io).get? S=some o:=Heap.get?_push_of_some _ ho1;refine wpAny_bind (wpAny_holding (Bw ⟨o,ho2,W.ex.1⟩ ?_));refine wpAny_ite_split (fun _=>?_) (fun hab=>absurd (by decide +kernel) hab)
 refine wpAny_bind (wpAny_rule ?_);have hL2:((s.heap.push (seqObj "list" #[] 0)).push io).get? s.heap.objs.size=some (seqObj "list" #[] 0):=Heap.get?_push_of_some _ (Heap.get?_push_size _ rfl);unfold Builtin.List.listTouch;refine wpAny_bind (wpAny_bind (listUpdate_at hL2 rfl ?_ (Nat.zero_le _) (by simp[sizeLine_eq])))
 have hL3:=get?_update_seq hL2 (·.push Value.none);refine listUpdate_at (s:={s with heap:=((s.heap.push (seqObj "list" #[] 0)).push io).update s.heap.objs.size (Obj.mapSeq (·.push Value.none))}) hL3 rfl ?_ (by simp[sizeLine_eq]) (by simp[sizeLine_eq])
 have hL4:=get?_update_seq hL3 (·.pop);generalize hh4:(((s.heap.push (seqObj "list" #[] 0)).push io).update s.heap.objs.size (Obj.mapSeq (·.push Value.none))).update s.heap.objs.size (Obj.mapSeq (·.pop))=h4 at hL4 ⊢;obtain⟨c4,hL4⟩:∃ c4,h4.get? s.heap.objs.size=some (seqObj "list" #[] c4):=⟨_,hL4⟩;have k4:∀ b o,b≠s.heap.objs.size->((s.heap.push (seqObj "list" #[] 0)).push io).get? b=some o->h4.get? b=some o:=fun b o hb e=>by
  rw[<-hh4];exact((Heap.SameBut.update _ _ _).2 b hb).trans (((Heap.SameBut.update _ _ _).2 b hb).trans e)
 have hI4:h4.get? (s.heap.objs.size+1)=some io:=k4 _ _ (Nat.succ_ne_self _) (by
  have:=Heap.get?_push_size (s.heap.push (seqObj "list" #[] 0)) (o:=io) (by rw[<-hio];rfl)
  rwa [hsz1]at this)
 have hne:S≠s.heap.objs.size+1:=Nat.ne_of_lt (Nat.lt_succ_of_lt hS0);have hSf:s.heap.objs.size∉[s.heap.objs.size+1,S]:=fun hm=>by
  rcases List.mem_cons.mp hm with e|hm
  ·exact Nat.ne_of_lt (Nat.lt_succ_self _) e
  ·exact Nat.ne_of_gt hS0 (List.mem_singleton.mp hm)
 refine wpAny_pure ⟨plainId_quiet F.plain_extend_loop _,?_⟩;refine codeAny_extend_loopS ((zA (by simp[hh]) W hne).toS) (by rw[sizeLine_eq];omega) s.heap.objs.size hSf _ es.size 0 _ #[] c4 rfl (Nat.zero_le _)
  ⟨0,⟨_,hI4,by rw[<-hio],by rw[<-hio]⟩,fun _=>uX W.ris,k4 S o (Nat.ne_of_lt hS0) ho2⟩ hL4 (ItemsOf.nil _) fun s' acc' c' hm hS' hacc=>?_
 have hacc':acc'=(cY w S ep es).toArray:=vk (by rw[ow W];exact hacc)
 subst hacc';have key:∀ b o,s.heap.get? b=some o->s'.heap.get? b=some o:=fun b o e=>by
  have hb:b<s.heap.objs.size:=Heap.lt_size e;refine hm.heap b o (fun hmem=>?_) (k4 b o (Nat.ne_of_lt hb) (Heap.get?_push_of_some _ (Heap.get?_push_of_some _ e)))
  rcases List.mem_cons.mp hmem with e'|hmem
  ·exact Nat.ne_of_lt hb e'
  ·exact Nat.ne_of_lt (Nat.lt_succ_of_lt hb) (List.mem_singleton.mp hmem)
 rw[Moved.eq_with hm];show wpAny (model prog w) A (load s.heap.objs.size >>= fun o=>match o.data with
   | .seq xs _=>pure xs.toList
   | _=>unsupported "internal:collect") Q E {s with heap:=s'.heap,toks:=s'.toks}
 refine wpAny_bind (wpAny_load hS' ?_);exact wpAny_pure (h s'.heap s'.toks key (Nat.le_of_lt (Heap.lt_size hS')))
theorem zd {α β:Type}{f:α->β}(ms:List α)(l:List β)(h:List.Perm l (ms.map f)):∃ ms1,List.Perm ms1 ms/\l=ms1.map f:=SR.perm_up ms l h
theorem uh {α:Type}(l:List α)(d:α):(List.range l.length).map (fun i=>l.getD i d)=l:=by
 apply List.ext_getElem?;intro i;rw[List.getElem?_map]
 rcases Nat.lt_or_ge i l.length with h|h
 ·simp[h]
 ·simp[h]
theorem call_sorted_set {Q:Value->Shared->Prop}{ms:List (Addr × List Int)}{d:Nat}(hh:A.handled=none)(hS:dQ prog w s.heap S ms)(h64:ms.length<=76)(hd0:0<d)(hd:∀ m∈ms,m.2.length=d)
  (h:∀ h' tk D e (ns:List (Addr × List Int)),List.Perm ns ms->(ns.map (·.2)).Nodup->(ms.length<64->ns.Pairwise (fun a b=>lexB a.2 b.2=true))->(∀ b o,s.heap.get? b=some o->h'.get? b=some o)->s.heap.objs.size<=D →
   h'.get? D=some (seqObj "list" (ns.map fun m=>Value.ref m.1).toArray e)->Q (.ref D) {s with heap:=h',toks:=tk}) :
  wpAny (model prog w) A (call (.builtin "sorted") [.ref S]) Q E s:=by
 obtain⟨o,es,ep,t,ps,ho,hex,hdt,T,R,H,hpl,hled⟩:=hS;have W:jM w o es ep t:=⟨hex,hdt,T.fits R.le,T.ris',hpl,hled⟩;have hes:es.size=ms.length:=H.len;refine Calls.call_function_entry kind_sorted plain_sorted entry_sorted (args_sorted1 _) ?_;unfold Builtin.«sorted»;refine wpAny_bind (m:=checkCount "sorted" 1 1 _) (wpAny_pure ?_);refine wpAny_bind (sW (by simp[hh]) W ho (by omega) fun h1 tk k1 le1=>?_)
 have hwp:List.Perm (cY w S ep es) (ms.map fun m=>Value.ref m.1):=by
  refine(p9 w S ep es).trans ?_;have:=H.pm.map (·.2);rw[List.map_map]at this;exact this
 obtain⟨ms1,hpm1,ews⟩:∃ ms1:List (Addr × List Int),List.Perm ms1 ms/\cY w S ep es=ms1.map fun m=>Value.ref m.1:=zd ms _ hwp;have hlen1:ms1.length=ms.length:=hpm1.length_eq;rw[ews];refine wpAny_bind (wpAny_newList ?_ (by rw[List.length_map,sizeLine_eq];omega))
 dsimp only;have hoL:(h1.push (seqObj "list" (ms1.map fun m=>Value.ref m.1).toArray 0)).get? h1.objs.size=some (seqObj "list" (ms1.map fun m=>Value.ref m.1).toArray 0):=Heap.get?_push_size _ rfl;refine wpAny_bind (wpAny_holding (wpAny_call_entry slot_list_sort ⟨_,hoL,rfl⟩ entry_list_sort ?_ (args_list_sort _)));refine DG (s:={s with heap:=h1.push (seqObj "list" (ms1.map fun m=>Value.ref m.1).toArray 0),toks:=tk}) (km:=fun i=>ms1.getD i (0,[])) hoL ⟨by rw[List.length_map];omega,fun i j hi hj e=>?_⟩ hd0 (fun i hi=>?_) fun h' p e hk hg hp hs=>?_
 ·have hi':i<ms1.length:=by simpa using hi
  have hj':j<ms1.length:=by simpa using hj
  have nd1:(ms1.map (·.2)).Nodup:=(hpm1.map (·.2)).nodup_iff.mpr H.nd;have e':(ms1.map (·.2))[i]'(by simpa using hi')=(ms1.map (·.2))[j]'(by simpa using hj'):=by
   simpa [hi',hj'] using e
  exact(List.getElem_inj nd1).mp e'
 ·have hi':i<ms1.length:=by simpa using hi
  have hm:ms1.getD i (0,[])=ms1[i]:=by simp[hi']
  have hmem:ms1[i]∈ms:=hpm1.mem_iff.mp (List.getElem_mem hi');dsimp only;rw[hm];refine⟨by simp[hi'],?_,hd _ hmem⟩
  obtain⟨o',its,m',ho',x⟩:=H.key _ hmem;exact⟨o',its,m',Heap.get?_push_of_some _ (k1 _ _ ho'),x⟩
 ·refine⟨_,rfl,wpAny_pure ⟨_,rfl,?_⟩⟩;rw[List.length_map]at hp hs;have hns:(p.toList.map fun i=>(ms1.map fun m=>Value.ref m.1).getD i Value.none)=(p.toList.map fun i=>ms1.getD i (0,[])).map fun m=>Value.ref m.1:=by
   rw[List.map_map];refine List.map_congr_left fun i hi=>?_;have hi':i<ms1.length:=by simpa using hp.mem_iff.mp hi
   simp[hi']
  have hpn:List.Perm (p.toList.map fun i=>ms1.getD i (0,[])) ms1:=by
   have:=hp.map fun i=>ms1.getD i ((0:Addr),([]:List Int))
   rwa [uh]at this
  rw[hns]at hg;have hnd:((p.toList.map fun i=>ms1.getD i ((0:Addr),([]:List Int))).map (·.2)).Nodup:=((hpn.trans hpm1).map (·.2)).nodup_iff.mpr H.nd;refine h h' tk _ e _ (hpn.trans hpm1) hnd (fun h63=>?_) (fun b o e=>hk b o (fun hb=>?_) (Heap.get?_push_of_some _ (k1 b o e))) ?_ hg
  ·have hpl:p.toList.length=ms1.length:=by rw[hp.length_eq,List.length_range]
   rw[List.pairwise_iff_getElem];intro i j hi hj hij;rw[List.length_map]at hi hj;have h1:=hs (by omega) i j (Nat.le_of_lt hij) (by omega)
   have ei:p.getD i 0=p.toList[i]:=by simp at hi;simp[Array.getD,hi]
   have ej:p.getD j 0=p.toList[j]:=by simp at hj;simp[Array.getD,hj]
   have hne:=List.pairwise_iff_getElem.mp hnd i j (by simpa using hi) (by simpa using hj) hij
   simp only[List.getElem_map]at hne ⊢;rw[ei,ej]at h1
   cases hb:lexB (ms1.getD p.toList[i] (0,[])).2 (ms1.getD p.toList[j] (0,[])).2 with
   | true=>rfl
   | false=>exact absurd (lF _ _ hb h1) hne
  ·exact Nat.ne_of_lt (Heap.lt_size (k1 b o e)) hb
  ·exact le1
end
end ST
namespace L2
open PySem PySem.Spec PySem.W PyProof.Rows
structure uP (K:Frag) (C:Addr):Prop where
 ga:findIn K (.ref C) "__getattribute__"=some (some (.builtin "BaseException.__getattribute__"))
 gt:findIn K (.ref C) "__getattr__"=some none
 cl:findIn K (.ref C) "__class__"=some (some (.builtin "object.__class__"))
 be:mroIn K C (.type "BaseException")=some true
 ob:mroIn K C (.type "object")=some true
section
variable {prog:Program}{w:World}{A:Around}{E:Value->Shared->Prop}{K:Frag}{h:Heap}{g:Array GenState}{d:Drawn}{t:Nat}{os:OsState}{a C:Addr}{o:Obj}
end
end L2
namespace L2
open PySem PySem.Spec PySem.W PyProof.Rows
theorem eX.there {P:Program}{w:World}{H:Hp}{h:Heap}{a:Addr}:∀ {o:HO},eX P w H h a o->∃ ob,h.get? a=some ob:=by
 intro o x
 cases o with
 | lst xs=>obtain⟨_,_,_,_,e⟩:=x;exact⟨_,e⟩
 | tup xs=>obtain⟨_,_,_,ob,e,_⟩:=x;exact⟨_,e⟩
 | dK kvs=>obtain⟨_,_,_,_,o,_,_,e,_⟩:=x;exact⟨_,e⟩
 | dT kvs=>obtain⟨_,_,_,_,o,_,_,e,_⟩:=x;exact⟨_,e⟩
 | set S n=>obtain⟨o,_,_,_,e,_⟩:=x;exact⟨_,e⟩
 | ins C dx fs=>obtain⟨_,_,_,e,_⟩:=x;exact⟨_,e⟩
 | own y=>obtain⟨_,e⟩:=x;exact⟨_,e⟩
 | xd fs=>obtain⟨_,⟨_,_,_,e,_⟩,_⟩:=x;exact⟨_,e⟩
 | rng lo hi=>obtain⟨_,_,_,e⟩:=x;exact⟨_,e⟩
 | frz ob u=>obtain⟨e,_⟩:=x;exact⟨_,e⟩
 | tbl ps=>exact⟨_,(show h.get? a=some _ from x)⟩
 | met f y=>exact⟨_,(show h.get? a=some _ from x)⟩
 | ext φ=>obtain⟨_,⟨_,e⟩,_⟩:=x;exact⟨_,e⟩
def OA (P:Program)(w:World):wu:=fun outer H s E e s'=>∃ (ea C:Addr) (B:Heap) (a0:Value) (H':Hp),e=.ref ea/\s'.os=s.os/\AllBare s'.gens/\Un (uL outer) [] H H' s.heap s'.heap/\lb P w H' s'.heap/\H' ea=none ∧
 Heap.FlyingW B outer ea (.ref C) a0 s'.heap/\(∀ b o,s.heap.get? b=some o->b∉uL outer->H b=none->B.get? b=some o)/\(∀ b o ob,H' b=some o->s'.heap.get? b=some ob->B.get? b=some ob)/\(∀ b o,s.heap.get? b=some o->b∉uL outer->∃ ob,B.get? b=some ob)/\E (.ref C) none H'
def Eb (X:Cx)(Ex:Addr->St->Hp->Prop):Prop:=∀ pins σ H s e s' E,aN X pins σ H s->OA X.prog X.w X.stack H s E e s'->(∀ C H',E (.ref C) none H'->Ex C σ H')->X.xe e s'
section
variable {P:Program}{w:World}{K:Frag}{mg:Str->Option Value}{base:Heap}{N:List Str}{qual:Str}{scope:Scope}{f:Addr}{cdv:Value}{A:Around}{outer:List Env}{s:Shared}{H:Hp}{E:XK}
end
end L2
namespace L2
open PySem PySem.Spec PySem.W PyProof.Rows
abbrev OZ:List Value:=[.type "ValueError",.type "Exception",.type "BaseException",.type "object"]
structure NC (K:Frag) (mg:Str->Option Value) (x:Str) (C:Addr):Prop where
 bound:mg x=some (.ref C)
 exc:excIn K C OZ "ValueError.__new__"=true
 cls:uP K C
section
variable {X:Cx}
end
end L2
namespace L2
open PySem PySem.Spec PySem.W PyProof.Rows
section
variable {M:Model}{A:Around}{E:Value->Shared->Prop}
end
section
variable {X:Cx}
end
end L2
namespace DL
open PySem L2
inductive T where
 | non|bl (b:Bool)|int (i:Int)|str (x:Str)|tup (xs:List T)|lst (xs:List T)|exc (x:Str)
inductive S where
 | t (x:T)|vt (x:T)|ol (xs:List T)
def ExcAt (H:Hp)(a c:Addr):Prop:=H a=some (.ext fun h=>∃ o,h.get? a=some o/\o.cls=.ref c)
mutual
def aw (K:PySem.W.Frag)(H:Hp):T->V->Prop
 | .non,v=>v=.non
 | .bl b,v=>v=.bl b
 | .int i,v=>v=.int i
 | .str x,v=>v=.str x
 | .tup ts,v=>∃ a xs,v=.ref a/\iD K H a xs/\am K H ts xs
 | .lst ts,v=>∃ a xs,v=.ref a/\cD K H a xs/\am K H ts xs
 | .exc x,v=>∃ a C,v=.ref a/\PySem.W.nsIn K mainGlobals x=some (some (.ref C))/\ExcAt H a C
def am (K:PySem.W.Frag)(H:Hp):List T->List V->Prop
 | [],xs=>xs=[]
 | t::ts,xs=>∃ x r,xs=x::r/\aw K H t x/\am K H ts r
end
mutual
def kb:T->Bool
 | .tup ts=>cK ts
 | .lst _=>false
 | _=>true
def cK:List T->Bool
 | []=>true
 | t::ts=>kb t && cK ts
end
mutual
theorem aw.mono {K:PySem.W.Frag}{H H':Hp}(h:∀ a xs,iD K H a xs->iD K H' a xs)(hl:∀ a xs,cD K H a xs->cD K H' a xs)(he:∀ a c,ExcAt H a c->ExcAt H' a c):∀ (t:T) (v:V),aw K H t v->aw K H' t v
 | .non,_,e=>e
 | .bl _,_,e=>e
 | .int _,_,e=>e
 | .str _,_,e=>e
 | .tup ts,_,⟨a,xs,e,q,r⟩=>⟨a,xs,e,h a xs q,am.mono h hl he ts xs r⟩
 | .lst ts,_,⟨a,xs,e,q,r⟩=>⟨a,xs,e,hl a xs q,am.mono h hl he ts xs r⟩
 | .exc c,_,⟨a,C,e,z,q⟩=>⟨a,C,e,z,he a C q⟩
theorem am.mono {K:PySem.W.Frag}{H H':Hp}(h:∀ a xs,iD K H a xs->iD K H' a xs)(hl:∀ a xs,cD K H a xs->cD K H' a xs)(he:∀ a c,ExcAt H a c->ExcAt H' a c):∀ (ts:List T) (xs:List V),am K H ts xs->am K H' ts xs
 | [],_,e=>e
 | t::ts,_,⟨x,r,e,p,q⟩=>⟨x,r,e,aw.mono h hl he t x p,am.mono h hl he ts r q⟩
end
theorem aE.sqT {K:PySem.W.Frag}{H H':Hp}(e:aE H H')(a:Addr)(xs:List V)(h:iD K H a xs):iD K H' a xs:=by
 rcases h with (h|⟨o,h⟩)|h
 ·exact .inl (.inl (e _ _ h))
 ·exact .inl (.inr ⟨o,e _ _ h⟩)
 ·exact .inr h
theorem aw.same {K:PySem.W.Frag}{H H':Hp}(e:aE H H'){t:T}{v:V}(h:aw K H t v):aw K H' t v:=aw.mono (fun a xs q=>aE.sqT e a xs q) (fun a xs q=>e.seq q) (fun a c q=>e _ _ q) t v h
theorem am.same {K:PySem.W.Frag}{H H':Hp}(e:aE H H'){ts:List T}{xs:List V}(h:am K H ts xs):am K H' ts xs:=am.mono (fun a xs q=>aE.sqT e a xs q) (fun a xs q=>e.seq q) (fun a c q=>e _ _ q) ts xs h
def gw (F H:Hp):Prop:=∀ b o,H b=some o->F b=some o\/∃ xs,o=.lst xs
theorem gw.sqT {K:PySem.W.Frag}{F H:Hp}(f:gw F H)(a:Addr)(xs:List V)(h:iD K H a xs):iD K F a xs:=by
 rcases h with (h|⟨o,h⟩)|h
 ·rcases f _ _ h with q|⟨ys,q⟩
  ·exact .inl (.inl q)
  ·cases q
 ·rcases f _ _ h with q|⟨ys,q⟩
  ·exact .inl (.inr ⟨o,q⟩)
  ·cases q
 ·exact .inr h
theorem gw.exc {F H:Hp}(f:gw F H){a c:Addr}(h:ExcAt H a c):ExcAt F a c:=by
 rcases f _ _ h with q|⟨ys,q⟩
 ·exact q
 ·cases q
mutual
theorem aw.fullM {K:PySem.W.Frag}{F H:Hp}(e:gw F H):∀ (t:T) (v:V),kb t=true->aw K H t v->aw K F t v
 | .non,_,_,h=>h
 | .bl _,_,_,h=>h
 | .int _,_,_,h=>h
 | .str _,_,_,h=>h
 | .tup ts,_,p,⟨a,xs,h1,h2,h3⟩=>⟨a,xs,h1,e.sqT a xs h2,am.fullM e ts xs (by simpa only [kb] using p) h3⟩
 | .lst _,_,p,_=>by simp[kb]at p
 | .exc _,_,_,⟨a,C,h1,z,h2⟩=>⟨a,C,h1,z,e.exc h2⟩
theorem am.fullM {K:PySem.W.Frag}{F H:Hp}(e:gw F H):∀ (ts:List T) (xs:List V),cK ts=true->am K H ts xs->am K F ts xs
 | [],_,_,h=>h
 | t::ts,_,p,⟨x,r,h1,h2,h3⟩=>by
  simp only[cK,Bool.and_eq_true]at p;exact⟨x,r,h1,aw.fullM e t x p.1 h2,am.fullM e ts r p.2 h3⟩
end
theorem aw.full {K:PySem.W.Frag}{F H:Hp}(e:gw F H){t:T}{v:V}(p:kb t=true)(h:aw K H t v):aw K F t v:=aw.fullM e t v p h
theorem am.full {K:PySem.W.Frag}{F H:Hp}(e:gw F H){ts:List T}{xs:List V}(p:cK ts=true)(h:am K H ts xs):am K F ts xs:=am.fullM e ts xs p h
def norm (x:T):S:=if kb x=true then .t x else .vt x
theorem am.length {K:PySem.W.Frag}{H:Hp}:∀ {ts:List T}{xs:List V},am K H ts xs->xs.length=ts.length
 | [],_,e=>by cases (show _=[] from e);rfl
 | t::ts,_,⟨x,r,e,_,q⟩=>by subst e;rw[List.length_cons,List.length_cons,am.length q]
theorem am.get {K:PySem.W.Frag}{H:Hp}:∀ {ts:List T}{xs:List V}{i:Nat}{t:T},am K H ts xs->ts[i]?=some t->∃ x,xs[i]?=some x/\aw K H t x
 | [],_,_,_,_,e=>by simp at e
 | t::ts,_,0,u,⟨x,r,e,p,q⟩,h=>by subst e;simp at h;subst h;exact⟨x,by simp,p⟩
 | t::ts,_,i+1,u,⟨x,r,e,p,q⟩,h=>by
  subst e;obtain⟨y,h1,h2⟩:=am.get (i:=i) q (by simpa using h)
  exact⟨y,by simpa using h1,h2⟩
theorem am.append {K:PySem.W.Frag}{H:Hp}:∀ {ts us:List T}{xs ys:List V},am K H ts xs->am K H us ys->am K H (ts++us) (xs++ys)
 | [],_,_,_,e,q=>by cases (show _=[] from e);exact q
 | t::ts,_,_,_,⟨x,r,e,p,q⟩,h=>by subst e;exact⟨x,r++_,rfl,p,am.append q h⟩
theorem am.one {K:PySem.W.Frag}{H:Hp}{t:T}{x:V}(h:aw K H t x):am K H [t] [x]:=⟨x,[],rfl,h,rfl⟩
theorem am.take {K:PySem.W.Frag}{H:Hp}:∀ {ts:List T}{xs:List V} (n:Nat),am K H ts xs->am K H (ts.take n) (xs.take n)
 | _,_,0,_=>by simp only[List.take_zero];rfl
 | [],_,_+1,e=>by cases (show _=[] from e);rfl
 | t::ts,_,n+1,⟨x,r,e,p,q⟩=>by subst e;exact⟨x,r.take n,rfl,p,am.take n q⟩
theorem am.drop {K:PySem.W.Frag}{H:Hp}:∀ {ts:List T}{xs:List V} (n:Nat),am K H ts xs->am K H (ts.drop n) (xs.drop n)
 | _,_,0,h=>by simp only[List.drop_zero];exact h
 | [],_,_+1,e=>by cases (show _=[] from e);rfl
 | t::ts,_,n+1,⟨x,r,e,p,q⟩=>by subst e;exact am.drop n q
theorem am.set {K:PySem.W.Frag}{H:Hp}{u:T}{y:V}(h:aw K H u y):∀ {ts:List T}{xs:List V} (n:Nat),am K H ts xs->am K H (ts.set n u) (xs.set n y)
 | [],_,_,e=>by cases (show _=[] from e);rfl
 | t::ts,_,0,⟨x,r,e,p,q⟩=>by subst e;exact⟨y,r,rfl,h,q⟩
 | t::ts,_,n+1,⟨x,r,e,p,q⟩=>by subst e;exact⟨x,r.set n y,rfl,p,am.set h n q⟩
theorem am.dropLast {K:PySem.W.Frag}{H:Hp}{ts:List T}{xs:List V}(h:am K H ts xs):am K H ts.dropLast xs.dropLast:=by
 rw[List.dropLast_eq_take,List.dropLast_eq_take,h.length];exact h.take _
theorem am.reverse {K:PySem.W.Frag}{H:Hp}:∀ {ts:List T}{xs:List V},am K H ts xs->am K H ts.reverse xs.reverse
 | [],_,e=>by cases (show _=[] from e);rfl
 | t::ts,_,⟨x,r,e,p,q⟩=>by subst e;rw[List.reverse_cons,List.reverse_cons];exact am.append (am.reverse q) (am.one p)
theorem am.ints {K:PySem.W.Frag}{H:Hp}:∀ (ns:List Int),am K H (ns.map T.int) (ns.map V.int)
 | []=>rfl
 | n::ns=>⟨.int n,ns.map V.int,rfl,rfl,am.ints ns⟩
abbrev aQ:=List (Option S)
abbrev WE:=aQ->(S->Prop)->Prop
abbrev WT:=aQ->(Bool->Prop)->Prop
abbrev WA:=aQ->(List S->Prop)->Prop
structure dh where
 nx:aQ->Prop
 rt:S->Prop
 bk:aQ->Prop:=fun _=>False
 ct:aQ->Prop:=fun _=>False
abbrev WS:=dh->aQ->Prop
def fZ (K:PySem.W.Frag)(F H:Hp):S->V->Prop
 | .t x,v=>aw K F x v
 | .vt _,_=>False
 | .ol ts,v=>∃ a xs,v=.ref a/\F a=none/\H a=some (.lst xs)/\am K F ts xs
structure Rel (K:PySem.W.Frag) (F H:Hp) (σ:St) (δ:aQ):Prop where
 sub:aE F H
 full:gw F H
 len:σ.length=δ.length
 slot:∀ (i:Nat) (s:S),δ[i]?=some (some s)->∃ v,σ[i]?=some (some v)/\fZ K F H s v
 dist:∀ (i j:Nat) (a:Addr) (ts us:List T),i≠j->δ[i]?=some (some (.ol ts))->δ[j]?=some (some (.ol us))->σ[i]?=some (some (.ref a))->σ[j]?≠some (some (.ref a))
structure di (F H F' H':Hp):Prop where
 hh:aE H H'
 ff:aE F F'
 sub:aE F' H'
 full:gw F' H'
 keep:∀ b,H b≠none->F b=none->F' b=none
theorem aJ {H H':Hp}(e:aE H H'){b:Addr}(h:H' b=none):H b=none:=e.free h
theorem di.refl {F H:Hp}(a:aE F H)(b:gw F H):di F H F H:=⟨aE.refl _,aE.refl _,a,b,fun _ _ h=>h⟩
theorem di.trans {F H F1 H1 F2 H2:Hp}(a:di F H F1 H1)(b:di F1 H1 F2 H2):di F H F2 H2:=
 ⟨a.hh.trans b.hh,a.ff.trans b.ff,b.sub,b.full,fun c h1 h2=>b.keep c (fun z=>h1 (aJ a.hh z)) (a.keep c h1 h2)⟩
theorem fZ.ext {K:PySem.W.Frag}{F H F' H':Hp}(e:di F H F' H'):∀ {s:S}{v:V},fZ K F H s v->fZ K F' H' s v
 | .t _,_,h=>aw.same e.ff h
 | .vt _,_,h=>h
 | .ol _,_,⟨a,xs,h1,h2,h3,h4⟩=>⟨a,xs,h1,e.keep a (by rw[h3];simp) h2,e.hh _ _ h3,am.same e.ff h4⟩
theorem Rel.ext {K:PySem.W.Frag}{F H F' H':Hp}{σ:St}{δ:aQ}(r:Rel K F H σ δ)(e:di F H F' H'):Rel K F' H' σ δ:=
 ⟨e.sub,e.full,r.len,fun i s h=>let ⟨v,h1,h2⟩:=r.slot i s h;⟨v,h1,h2.ext e⟩,r.dist⟩
theorem Rel.refl {K:PySem.W.Frag}{F H:Hp}{σ:St}{δ:aQ}(r:Rel K F H σ δ):di F H F H:=di.refl r.sub r.full
def dA (K:PySem.W.Frag)(H F' H':Hp):S->V->Prop
 | .t x,v=>aw K F' x v
 | .vt x,v=>aw K H' x v
 | .ol ts,v=>∃ a xs,v=.ref a/\H a=none/\F' a=none/\H' a=some (.lst xs)/\am K F' ts xs
theorem dA.ext {K:PySem.W.Frag}{H F1 H1 F2 H2:Hp}(e:di F1 H1 F2 H2):∀ {s:S}{v:V},dA K H F1 H1 s v->dA K H F2 H2 s v
 | .t _,_,h=>aw.same e.ff h
 | .vt _,_,h=>aw.same e.hh h
 | .ol _,_,⟨a,xs,h1,h2,h3,h4⟩=>⟨a,xs,h1,h2,e.keep a (by rw[h4.1];simp) h3,e.hh _ _ h4.1,am.same e.ff h4.2⟩
theorem dA.start {K:PySem.W.Frag}{H0 H F' H':Hp}(e:aE H0 H):∀ {s:S}{v:V},dA K H F' H' s v->dA K H0 F' H' s v
 | .t _,_,h=>h
 | .vt _,_,h=>h
 | .ol _,_,⟨a,xs,h1,h2,h3⟩=>⟨a,xs,h1,aJ e h2,h3⟩
theorem dA.norm {K:PySem.W.Frag}{H F H':Hp}(f:gw F H'){x:T}{v:V}(h:aw K H' x v):dA K H F H' (norm x) v:=by
 unfold DL.norm
 split
 ·rename_i p;exact aw.full f p h
 ·exact h
def gz (K:PySem.W.Frag)(F H:Hp):S->V->Prop
 | .t x,v=>aw K F x v
 | .vt x,v=>aw K H x v
 | .ol ts,v=>∃ a xs,v=.ref a/\cD K H a xs/\am K F ts xs
theorem dA.val {K:PySem.W.Frag}{H0 F H:Hp}(e:aE F H):∀ {s:S}{v:V},dA K H0 F H s v->gz K F H s v
 | .t _,_,h=>h
 | .vt _,_,h=>h
 | .ol _,_,⟨a,xs,h1,_,_,h2,h3⟩=>⟨a,xs,h1,cD.of h2,h3⟩
def tr:S->T
 | .t x=>x
 | .vt x=>x
 | .ol ts=>.lst ts
theorem gz.tree {K:PySem.W.Frag}{F H:Hp}(e:aE F H):∀ {s:S}{v:V},gz K F H s v->aw K H (tr s) v
 | .t _,_,h=>aw.same e h
 | .vt _,_,h=>h
 | .ol _,_,⟨a,xs,h1,h2,h3⟩=>⟨a,xs,h1,h2,am.same e h3⟩
def items:S->Option (List T)
 | .t (.lst ts)=>some ts
 | .vt (.lst ts)=>some ts
 | .ol ts=>some ts
 | _=>none
theorem gz.list {K:PySem.W.Frag}{F H:Hp}(e:aE F H){s:S}{v:V}{ts:List T}(h:gz K F H s v)(q:items s=some ts):∃ a xs,v=.ref a/\cD K H a xs/\am K H ts xs:=by
 cases s with
 | t x=>
  cases x with
  | lst us=>
   have e1:us=ts:=Option.some.inj q;subst e1;unfold gz aw at h;obtain⟨a,xs,h1,h2,h3⟩:=h;exact⟨a,xs,h1,e.seq h2,am.same e h3⟩
  | _=>cases q
 | vt x=>
  cases x with
  | lst us=>
   have e1:us=ts:=Option.some.inj q;subst e1;unfold gz aw at h;exact h
  | _=>cases q
 | ol us=>
  have e1:us=ts:=Option.some.inj q;subst e1;unfold gz at h;obtain⟨a,xs,h1,h2,h3⟩:=h;exact⟨a,xs,h1,h2,am.same e h3⟩
def ap (K:PySem.W.Frag)(w:WE):TE:=fun σ H Q=>∃ δ R F,Rel K F H σ δ/\w δ R/\∀ v F' H' s,di F H F' H'->dA K H F' H' s v->R s->Q v H'
def liftT (K:PySem.W.Frag)(w:WT):TT:=fun σ H Q=>∃ δ R F,Rel K F H σ δ/\w δ R/\∀ F' H' b,di F H F' H'->R b->Q b H'
def fO (K:PySem.W.Frag)(H F' H':Hp):List S->List V->Prop
 | [],vs=>vs=[]
 | s::ss,vs=>∃ v r,vs=v::r/\dA K H F' H' s v/\fO K H F' H' ss r
theorem fO.start {K:PySem.W.Frag}{H0 H F' H':Hp}(e:aE H0 H):∀ {ss:List S}{vs:List V},fO K H F' H' ss vs->fO K H0 F' H' ss vs
 | [],_,h=>h
 | _::_,_,⟨v,r,h1,h2,h3⟩=>⟨v,r,h1,h2.start e,fO.start e h3⟩
def cZ (K:PySem.W.Frag)(w:WA):TA:=fun σ H Q=>∃ δ R F,Rel K F H σ δ/\w δ R/\∀ vs F' H' ss,di F H F' H'->fO K H F' H' ss vs->R ss->Q vs H'
def xM (K:PySem.W.Frag)(H₀ H':Hp):S->V->Prop
 | .t x,v=>aw K H' x v
 | .vt _,_=>False
 | .ol ts,v=>∃ a xs,v=.ref a/\H₀ a=none/\H' a=some (.lst xs)/\am K H' ts xs
structure qa (K:PySem.W.Frag) (H₀ F:Hp) (D':dh) (D:Ends):Prop where
 nx:∀ σ' F' H' δ',aE F F'->Rel K F' H' σ' δ'->D'.nx δ'->D.nx σ' H'
 rt:∀ v H' s,aE H₀ H'->xM K H₀ H' s v->D'.rt s->D.rt v H'
 bk:∀ σ' F' H' δ',aE F F'->Rel K F' H' σ' δ'->D'.bk δ'->D.bk σ' H'
 ct:∀ σ' F' H' δ',aE F F'->Rel K F' H' σ' δ'->D'.ct δ'->D.ct σ' H'
theorem qa.mono {K:PySem.W.Frag}{H₀ F F1:Hp}{D':dh}{D:Ends}(e:qa K H₀ F D' D)(s:aE F F1):qa K H₀ F1 D' D:=
 ⟨fun _ _ _ _ h=>e.nx _ _ _ _ (s.trans h),e.rt,fun _ _ _ _ h=>e.bk _ _ _ _ (s.trans h),fun _ _ _ _ h=>e.ct _ _ _ _ (s.trans h)⟩
def bC (K:PySem.W.Frag)(H₀:Hp)(w:WS):TS:=fun D σ H=>∃ δ D' F,aE H₀ F/\Rel K F H σ δ/\w D' δ/\qa K H₀ F D' D
end DL
namespace L2
open PySem
section
variable {X:Cx}{e:Expr}{t t':TE}
theorem PE.imp (h:PE X e t)(i:∀ σ H Q,t' σ H Q->t σ H Q):PE X e t':=fun pins s σ H Q I q=>h pins s σ H Q I (i σ H Q q)
theorem PT.imp {t t':TT}(h:PT X e t)(i:∀ σ H Q,t' σ H Q->t σ H Q):PT X e t':=fun pins s σ H Q I q=>h pins s σ H Q I (i σ H Q q)
theorem PW.imp {t t':TT}(h:PW X e t)(i:∀ σ H Q,t' σ H Q->t σ H Q):PW X e t':=fun wh pins s σ H Q I q=>h wh pins s σ H Q I (i σ H Q q)
theorem PA.imp {es:List Expr}{t t':TA}(h:PA X es t)(i:∀ σ H Q,t' σ H Q->t σ H Q):PA X es t':=fun pos pins s σ H Q I q=>h pos pins s σ H Q I (i σ H Q q)
theorem PS.imp {st:Stmt}{t t':TS}(h:PS X st t)(i:∀ D σ H,t' D σ H->t D σ H):PS X st t':=fun pins s σ H D I q=>h pins s σ H D I (i D σ H q)
theorem gS.imp {st:List Stmt}{t t':TS}(h:gS X st t)(i:∀ D σ H,t' D σ H->t D σ H):gS X st t':=fun pins s σ H D I q=>h pins s σ H D I (i D σ H q)
theorem PG.imp {tg:Expr}{t t':TG}(h:PG X tg t)(i:∀ v σ H Q,t' v σ H Q->t v σ H Q):PG X tg t':=fun pins s σ H v u Q I r q=>h pins s σ H v u Q I r (i v σ H Q q)
theorem zJ.imp {tg:List Expr}{t t':Ec}(h:zJ X tg t)(i:∀ v σ H Q,t' v σ H Q->t v σ H Q):zJ X tg t':=fun pins s σ H v u Q I r q=>h pins s σ H v u Q I r (i v σ H Q q)
theorem PI.imp {tg iter:Expr}{t t':TI}(h:PI X tg iter t)(i:∀ σ H Q,t' σ H Q->t σ H Q):PI X tg iter t':=fun pins s σ H R I q=>h pins s σ H R I (i σ H R q)
end
end L2
namespace DL
open PySem L2
def wC (x:T):WE:=fun _ R=>R (.t x)
def seen:S->S
 | .ol ts=>.vt (.lst ts)
 | .t x=>.t x
 | .vt x=>.vt x
def ae (i:Nat):WE:=fun δ R=>match δ[i]? with
 | some (some s)=>R (seen s)
 | _=>False
section
variable {X:Cx}{a b c:Expr}{wa wb wc:WE}{pos:Pos}
theorem ab {i j pos}:PE X (.Constant (.int i) j pos) (ap X.K (wC (.int i))):=JX.imp fun _ _ _ ⟨_,_,_,r,h,k⟩=>k _ _ _ (.t (.int i)) r.refl rfl h
theorem gB {i j pos}:PE X (.Constant (.bool i) j pos) (ap X.K (wC (.bl i))):=Hc.imp fun _ _ _ ⟨_,_,_,r,h,k⟩=>k _ _ _ (.t (.bl i)) r.refl rfl h
theorem qv {j pos}:PE X (.Constant .none j pos) (ap X.K (wC .non)):=JZ.imp fun _ _ _ ⟨_,_,_,r,h,k⟩=>k _ _ _ (.t .non) r.refl rfl h
theorem vb {i j pos}:PE X (.Constant (.str i) j pos) (ap X.K (wC (.str i))):=J3.imp fun _ _ _ ⟨_,_,_,r,h,k⟩=>k _ _ _ (.t (.str i)) r.refl rfl h
theorem GA {K:PySem.W.Frag}{F H:Hp}(e:aE F H):∀ {s:S}{v:V},fZ K F H s v->dA K H F H (seen s) v
 | .t _,_,h=>h
 | .vt _,_,h=>False.elim h
 | .ol _,_,⟨a,xs,h1,_,h3,h4⟩=>⟨a,xs,h1,cD.of h3,am.same e h4⟩
theorem yh {e:Expr}{i:Nat}(h:PE X e (j7 i)):PE X e (ap X.K (ae i)):=h.imp fun σ H Q ⟨δ,R,F,r,h,k⟩=>by
 unfold ae at h
 split at h
 ·rename_i s hs;obtain⟨v,h1,h2⟩:=r.slot i s hs;exact⟨v,h1,k _ _ _ _ r.refl (GA r.sub h2) h⟩
 ·exact h.elim
theorem dv (i:Nat) {x:Str}{pos:Pos} (hN:X.N[i]?=some x:=by rfl) (hv:Nh X.env.scope x:=by first | exact Or.inl rfl | exact Or.inr (Or.inl rfl) | exact Or.inr (Or.inr rfl)) (hd:(x == ("__debug__":Str))=false:=by decide)
  (hcd:(x == ("__classdict__":Str))=false:=by decide):PE X (.Name x pos) (ap X.K (ae i)):=yh (Dh hN hv hd hcd)
def au (f:S->S->(S->Prop)->Prop)(wa wb:WE):WE:=fun δ R=>wa δ fun x=>wb δ fun y=>f x y R
def D9 (K:PySem.W.Frag)(r:R2)(f:S->S->(S->Prop)->Prop):Prop:=
 ∀ F H s1 s2 v1 v2 R Q,aE F H->gw F H->gz K F H s1 v1->gz K F H s2 v2->f s1 s2 R->(∀ v F' H' s,di F H F' H'->dA K H F' H' s v->R s->Q v H')->r v1 v2 H Q
theorem ce {K:PySem.W.Frag}{r:R2}{f:S->S->(S->Prop)->Prop}(ho:D9 K r f):∀ σ H Q,ap K (au f wa wb) σ H Q->Kx r (ap K wa) (ap K wb) σ H Q:=by
 rintro σ H Q ⟨δ,R,F,rl,h,k⟩;refine⟨δ,_,F,rl,h,fun v1 F1 H1 s1 e1 p1 h1=>?_⟩;refine⟨δ,_,F1,rl.ext e1,h1,fun v2 F2 H2 s2 e2 p2 h2=>?_⟩;refine ho F2 H2 s1 s2 v1 v2 R Q e2.sub e2.full ((p1.ext e2).val e2.sub) (p2.val e2.sub) h2 fun v F' H' s e p q=>?_;exact k v F' H' s ((e1.trans e2).trans e) (p.start (e1.trans e2).hh) q
def fI (C:Int->Int->Prop)(g:Int->Int->T):S->S->(S->Prop)->Prop
 | .t (.int i),.t (.int j),R=>C i j/\R (.t (g i j))
 | _,_,_=>False
def GZ (g:Int->Int->T):S->S->(S->Prop)->Prop
 | .t (.int i),.t (.int j),R=>R (.t (g i j))
 | _,_,_=>False
theorem Fa {C:Int->Int->Prop}{g:Int->Int->T}:∀ {s1 s2:S}{R:S->Prop},fI C g s1 s2 R->∃ i j,s1=.t (.int i)/\s2=.t (.int j)/\C i j/\R (.t (g i j))
 | .t (.int i),.t (.int j),_,h=>⟨i,j,rfl,rfl,h.1,h.2⟩
theorem Bp {g:Int->Int->T}:∀ {s1 s2:S}{R:S->Prop},GZ g s1 s2 R->∃ i j,s1=.t (.int i)/\s2=.t (.int j)/\R (.t (g i j))
 | .t (.int i),.t (.int j),_,h=>⟨i,j,rfl,rfl,h⟩
def toV:T->V
 | .bl b=>.bl b
 | .int i=>.int i
 | .str x=>.str x
 | _=>.non
def flat:T->Bool
 | .tup _=>false
 | .lst _=>false
 | .exc _=>false
 | _=>true
theorem tD {K:PySem.W.Frag}{F:Hp}:∀ {x:T},flat x=true->aw K F x (toV x)
 | .non,_=>rfl
 | .bl _,_=>rfl
 | .int _,_=>rfl
 | .str _,_=>rfl
theorem xl {K:PySem.W.Frag}{C:Int->Int->Prop}{g:Int->Int->T}(hg:∀ i j,flat (g i j)=true):D9 K (rI C fun i j=>toV (g i j)) (fI C g):=by
 intro F H s1 s2 v1 v2 R Q sb fu p1 p2 h k;obtain⟨i,j,rfl,rfl,hc,hr⟩:=Fa h;exact⟨i,j,p1,p2,hc,k _ F H (.t (g i j)) (di.refl sb fu) (tD (hg i j)) hr⟩
theorem jX {K:PySem.W.Frag}{g:Int->Int->T}(hg:∀ i j,flat (g i j)=true):D9 K (Hh fun i j=>toV (g i j)) (GZ g):=by
 intro F H s1 s2 v1 v2 R Q sb fu p1 p2 h k;obtain⟨i,j,rfl,rfl,hr⟩:=Bp h;exact⟨i,j,p1,p2,k _ F H (.t (g i j)) (di.refl sb fu) (tD (hg i j)) hr⟩
abbrev cm:=au (GZ fun i j=>.int (i+j))
abbrev eR:=au (GZ fun i j=>.int (i-j))
structure MulOk (i j:Int):Prop where
 ok:IntMulOk i j
structure zK (i j:Int):Prop where
 ok:K4 i j
abbrev bA:=au (fI MulOk fun i j=>.int (i*j))
structure mQ (i j:Int):Prop where
 ne:j≠0
 short:Builtin.divisionGoesByPylong i j=false
abbrev dI:=au (fI mQ fun i j=>.int (i.fdiv j))
abbrev ee:=au (fI (fun _ j=>j≠0) fun i j=>.int (i.fmod j))
abbrev su:=au (fI zK fun i j=>.int (i ^ j.toNat))
theorem FV:lg X (binaryOp .Mult) (rI MulOk fun i j=>.int (i*j)):=Nn fun _ _ _ _ _ _ _ hc q=>PyProof.Rows.mul_int q hc.ok
theorem Dc:lg X (binaryOp .FloorDiv) (rI mQ fun i j=>.int (i.fdiv j)):=Nn fun _ _ _ _ _ _ _ hc q=>PyProof.Rows.floordiv_int hc.ne q (.inl hc.short)
theorem bb (ha:PE X a (ap X.K wa))(hb:PE X b (ap X.K wb)):PE X (.BinOp a .Add b pos) (ap X.K (cm wa wb)):=(nU JO ha hb).imp (ce (jX fun _ _=>rfl))
theorem bI (ha:PE X a (ap X.K wa))(hb:PE X b (ap X.K wb)):PE X (.BinOp a .Sub b pos) (ap X.K (eR wa wb)):=(nU JS ha hb).imp (ce (jX fun _ _=>rfl))
theorem aM (ha:PE X a (ap X.K wa))(hb:PE X b (ap X.K wb)):PE X (.BinOp a .Mult b pos) (ap X.K (bA wa wb)):=(nU FV ha hb).imp (ce (xl fun _ _=>rfl))
theorem bR (ha:PE X a (ap X.K wa))(hb:PE X b (ap X.K wb)):PE X (.BinOp a .FloorDiv b pos) (ap X.K (dI wa wb)):=(nU Dc ha hb).imp (ce (xl fun _ _=>rfl))
theorem bF (ha:PE X a (ap X.K wa))(hb:PE X b (ap X.K wb)):PE X (.BinOp a .Mod b pos) (ap X.K (ee wa wb)):=(nU FU ha hb).imp (ce (xl fun _ _=>rfl))
theorem jQ (ha:PE X a (ap X.K wa))(hb:PE X b (ap X.K wb)):PE X (.BinOp a .Pow b pos) (ap X.K (su wa wb)):=(nU (show lg X (binaryOp .Pow) (rI zK fun i j=>.int (i ^ j.toNat)) from fun pins s σ H x y v u Q I rx ry ⟨i,j,e1,e2,hc,q⟩=>JR pins s σ H x y v u Q I rx ry ⟨i,j,e1,e2,hc.ok,q⟩) ha hb).imp (ce (xl fun _ _=>rfl))
abbrev sG:=au (GZ fun i j=>.bl (decide (i<j)))
abbrev wg:=au (GZ fun i j=>.bl (decide (j<i)))
abbrev K2:=au (GZ fun i j=>.bl (decide (j<=i)))
theorem LZ (ha:PE X a (ap X.K wa))(hb:PE X b (ap X.K wb)):PE X (.Compare a [.Lt] [b] pos) (ap X.K (sG wa wb)):=(rQ Hb ha hb (gn _)).imp (ce (jX fun _ _=>rfl))
theorem LY (ha:PE X a (ap X.K wa))(hb:PE X b (ap X.K wb)):PE X (.Compare a [.Gt] [b] pos) (ap X.K (wg wa wb)):=(rQ Ha ha hb (gn _)).imp (ce (jX fun _ _=>rfl))
def wB (w:WE):WT:=fun δ R=>w δ fun s=>match s with
 | .t (.bl k)=>R k
 | _=>False
theorem lw {op:CmpOp}{r:R2}{f:S->S->(S->Prop)->Prop}(ho:lg X (compareOp op) r)(hf:D9 X.K r f)(ha:PE X a (ap X.K wa))(hb:PE X b (ap X.K wb))(hm:behindInMarks op b=false):PT X (.Compare a [op] [b] pos) (liftT X.K (wB (au f wa wb))):=
 (rT ho ha hb hm).imp fun σ H Q h=>by
  obtain⟨δ,R,F,rl,h,k⟩:=h;refine ce hf σ H _ ⟨δ,_,F,rl,h,fun v F1 H1 s e p q=>?_⟩
  split at q
  ·exact⟨_,p,k F1 H1 _ e q⟩
  ·exact q.elim
theorem iq (ha:PE X a (ap X.K wa))(hb:PE X b (ap X.K wb)):PT X (.Compare a [.Lt] [b] pos) (liftT X.K (wB (sG wa wb))):=lw Hb (jX fun _ _=>rfl) ha hb (gn _)
theorem iL (ha:PE X a (ap X.K wa))(hb:PE X b (ap X.K wb)):PT X (.Compare a [.Gt] [b] pos) (liftT X.K (wB (wg wa wb))):=lw Ha (jX fun _ _=>rfl) ha hb (gn _)
theorem Ao (ha:PE X a (ap X.K wa))(hb:PE X b (ap X.K wb)):PT X (.Compare a [.GtE] [b] pos) (liftT X.K (wB (K2 wa wb))):=lw Mw (jX fun _ _=>rfl) ha hb (gn _)
theorem cX {e:Expr}{w:WE}(h:PE X e (ap X.K w))(he:∀ whole,isTrue e X.env whole=(do let v ← whole;standAt e.pos;holding [v] (truthy v)):=by intro _;rfl):PT X e (liftT X.K (wB w)):=
 (Kb h he).imp fun σ H Q h=>by
  obtain⟨δ,R,F,rl,h,k⟩:=h;refine⟨δ,_,F,rl,h,fun v F1 H1 s e p q=>?_⟩
  split at q
  ·exact⟨_,p,k F1 H1 _ e q⟩
  ·exact q.elim
def iw (t u:WT):WT:=fun δ R=>t δ fun k=>if k=true then u δ R else R false
def fc (t u:WT):WT:=fun δ R=>t δ fun k=>if k=true then R true else u δ R
def dP (t:WT):WT:=fun δ R=>t δ fun k=>R (!k)
theorem eZ {t:WT}(ha:PT X a (liftT X.K t)):PW X (.BoolOp .And [a] pos) (liftT X.K t):=Gq ha
theorem gf {t:WT}(ha:PT X a (liftT X.K t)):PW X (.BoolOp .Or [a] pos) (liftT X.K t):=Kf ha
theorem f7 {rest:List Expr}{t u:WT}(ha:PT X a (liftT X.K t))(hb:PW X (.BoolOp .And (b::rest) pos) (liftT X.K u)):PW X (.BoolOp .And (a::b::rest) pos) (liftT X.K (iw t u)):=
 (Ke ha hb).imp fun σ H Q ⟨δ,R,F,rl,h,k⟩=>⟨δ,_,F,rl,h,fun F1 H1 c e q=>by
  cases c with
  | true=>exact⟨δ,R,F1,rl.ext e,by simpa using q,fun F2 H2 c e2 q=>k F2 H2 c (e.trans e2) q⟩
  | false=>exact k F1 H1 false e (by simpa using q)⟩
theorem eG {rest:List Expr}{t u:WT}(ha:PT X a (liftT X.K t))(hb:PW X (.BoolOp .Or (b::rest) pos) (liftT X.K u)):PW X (.BoolOp .Or (a::b::rest) pos) (liftT X.K (fc t u)):=
 (MF ha hb).imp fun σ H Q ⟨δ,R,F,rl,h,k⟩=>⟨δ,_,F,rl,h,fun F1 H1 c e q=>by
  cases c with
  | false=>exact⟨δ,R,F1,rl.ext e,by simpa using q,fun F2 H2 c e2 q=>k F2 H2 c (e.trans e2) q⟩
  | true=>exact k F1 H1 true e (by simpa using q)⟩
theorem eU {t:WT}(ha:PT X a (liftT X.K t)):PT X (.UnaryOp .Not a pos) (liftT X.K (dP t)):=
 (Ka ha).imp fun σ H Q ⟨δ,R,F,rl,h,k⟩=>⟨δ,_,F,rl,h,fun F1 H1 c e q=>k F1 H1 (!c) e q⟩
def sv (t:WT):WT:=fun δ R=>∃ P:Bool->Prop,t δ P/\∀ k,P k->R k
theorem jC {t:WT}(ha:PT X a (liftT X.K t)):PT X a (liftT X.K (sv t)):=ha.imp fun σ H Q ⟨δ,R,F,rl,⟨P,h,k1⟩,k⟩=>⟨δ,P,F,rl,h,fun F1 H1 c e q=>k F1 H1 c e (k1 c q)⟩
def pX (wa wb:WE):WE:=fun δ R=>wa δ fun s=>match s with
 | .t (.bl k)=>if k=true then wb δ R else R (.t (.bl false))
 | _=>False
def Oy (wa wb:WE):WE:=fun δ R=>wa δ fun s=>match s with
 | .t (.bl k)=>if k=true then R (.t (.bl true)) else wb δ R
 | _=>False
def DT (wa:WE):WE:=fun δ R=>wa δ fun s=>match s with
 | .t (.bl k)=>R (.t (.bl (!k)))
 | _=>False
def Ox (c:WT)(wa wb:WE):WE:=fun δ R=>c δ fun k=>if k=true then wa δ R else wb δ R
theorem u9 {op}(h:PE X a (ap X.K wa)):PE X (.BoolOp op [a] pos) (ap X.K wa):=J2 h
theorem qu {rest:List Expr}(ha:PE X a (ap X.K wa))(hb:PE X (.BoolOp .And (b::rest) pos) (ap X.K wb)):PE X (.BoolOp .And (a::b::rest) pos) (ap X.K (pX wa wb)):=
 (JW ha hb).imp fun σ H Q ⟨δ,R,F,rl,h,k⟩=>⟨δ,_,F,rl,h,fun v F1 H1 s e p q=>by
  split at q
  ·rename_i c;refine⟨c,p,?_⟩
   cases c with
   | true=>exact⟨δ,R,F1,rl.ext e,by simpa using q,fun v F2 H2 s e2 p q=>k v F2 H2 s (e.trans e2) (p.start e.hh) q⟩
   | false=>exact k _ F1 H1 (.t (.bl false)) e rfl (by simpa using q)
  ·exact q.elim⟩
theorem II (ha:PE X a (ap X.K wa)):PE X (.UnaryOp .Not a pos) (ap X.K (DT wa)):=
 (J1 ha).imp fun σ H Q ⟨δ,R,F,rl,h,k⟩=>⟨δ,_,F,rl,h,fun v F1 H1 s e p q=>by
  split at q
  ·exact⟨_,p,k _ F1 H1 (.t (.bl _)) e rfl q⟩
  ·exact q.elim⟩
def D0 (f:S->(S->Prop)->Prop)(wa:WE):WE:=fun δ R=>wa δ fun x=>f x R
def nw:S->(S->Prop)->Prop
 | .t (.int i),R=>R (.t (.int (-i)))
 | _,_=>False
theorem iJ (ha:PE X a (ap X.K wa)):PE X (.UnaryOp .USub a pos) (ap X.K (D0 nw wa)):=
 (MB KG ha).imp fun σ H Q ⟨δ,R,F,rl,h,k⟩=>⟨δ,_,F,rl,h,fun v F1 H1 s e p q=>by
  unfold nw at q
  split at q
  ·exact⟨_,p,k _ F1 H1 (.t (.int _)) e rfl q⟩
  ·exact q.elim⟩
def atT (ts:List T)(i:Int)(R:S->Prop):Prop:=match atI ts i with
 | some x=>R (.t x)
 | none=>False
def wH (ts:List T)(i:Int)(R:S->Prop):Prop:=match atI ts i with
 | some x=>R (norm x)
 | none=>False
def aV:S->S->(S->Prop)->Prop
 | .t (.tup ts),.t (.int i),R=>atT ts i R
 | .t (.lst ts),.t (.int i),R=>atT ts i R
 | .vt (.tup ts),.t (.int i),R=>wH ts i R
 | .vt (.lst ts),.t (.int i),R=>wH ts i R
 | .ol ts,.t (.int i),R=>atT ts i R
 | _,_,_=>False
theorem am.atI {K:PySem.W.Frag}{H:Hp}{ts:List T}{xs:List V}{i:Int}{t:T}(h:am K H ts xs)(e:atI ts i=some t):∃ x,atI xs i=some x/\aw K H t x:=by
 unfold L2.atI at e ⊢;rw[h.length]
 cases q:yv ts.length i with
 | none=>rw[q]at e;cases e
 | some j=>
  rw[q]at e;obtain⟨x,h1,h2⟩:=h.get (i:=j) (by simpa using e)
  exact⟨x,by simpa using h1,h2⟩
theorem lm {ts:List T}{i:Int}{R:S->Prop}(h:atT ts i R):∃ x,atI ts i=some x/\R (.t x):=by
 unfold atT at h
 cases e:atI ts i with
 | none=>simp only[e]at h
 | some x=>simp only[e]at h;exact⟨x,rfl,h⟩
theorem o8 {ts:List T}{i:Int}{R:S->Prop}(h:wH ts i R):∃ x,atI ts i=some x/\R (norm x):=by
 unfold wH at h
 cases e:atI ts i with
 | none=>simp only[e]at h
 | some x=>simp only[e]at h;exact⟨x,rfl,h⟩
theorem JK {K:PySem.W.Frag}:D9 K (fun x y H Q=>MH K x y H Q\/MI K x y H Q) aV:=by
 intro F H s1 s2 v1 v2 R Q sb fu p1 p2 h k;unfold aV at h
 split at h
 ·obtain⟨x,hx,hr⟩:=lm h;obtain⟨a,xs,e1,h1,h2⟩:=p1;obtain⟨y,h3,h4⟩:=h2.atI hx;exact .inr ⟨a,xs,_,y,e1,p2,aE.sqT sb a xs h1,h3,k _ F H (.t x) (di.refl sb fu) h4 hr⟩
 ·obtain⟨x,hx,hr⟩:=lm h;obtain⟨a,xs,e1,h1,h2⟩:=p1;obtain⟨y,h3,h4⟩:=h2.atI hx;exact .inl ⟨a,xs,_,y,e1,p2,sb.seq h1,h3,k _ F H (.t x) (di.refl sb fu) h4 hr⟩
 ·obtain⟨x,hx,hr⟩:=o8 h;obtain⟨a,xs,e1,h1,h2⟩:=p1;obtain⟨y,h3,h4⟩:=h2.atI hx;exact .inr ⟨a,xs,_,y,e1,p2,h1,h3,k _ F H _ (di.refl sb fu) (dA.norm fu h4) hr⟩
 ·obtain⟨x,hx,hr⟩:=o8 h;obtain⟨a,xs,e1,h1,h2⟩:=p1;obtain⟨y,h3,h4⟩:=h2.atI hx;exact .inl ⟨a,xs,_,y,e1,p2,h1,h3,k _ F H _ (di.refl sb fu) (dA.norm fu h4) hr⟩
 ·obtain⟨x,hx,hr⟩:=lm h;obtain⟨a,xs,e1,h1,h2⟩:=p1;obtain⟨y,h3,h4⟩:=h2.atI hx;exact .inl ⟨a,xs,_,y,e1,p2,h1,h3,k _ F H (.t x) (di.refl sb fu) h4 hr⟩
 ·exact h.elim
theorem al (ha:PE X a (ap X.K wa))(hb:PE X b (ap X.K wb))(hs:wy b:=by exact fun _ _=>rfl):PE X (.Subscript a b pos) (ap X.K (au aV wa wb)):=
 (MA (Fm.or Jk) ha hb hs).imp (ce JK)
end
end DL
namespace DL
open PySem L2
theorem kR {H:Hp}{p:Addr}{o:HO}(hp:H p=none):aE H (cV H p o):=fun b u q=>by rw[bQ (de q hp)];exact q
theorem di.new {F H:Hp}{p:Addr}(o:HO)(sb:aE F H)(fu:gw F H)(hp:H p=none):di F H (cV F p o) (cV H p o):=by
 have fp:F p=none:=aJ sb hp;refine⟨kR hp,kR fp,fun b u q=>?_,fun b u q=>?_,fun b h1 h2=>?_⟩
 ·unfold cV at q ⊢
  split
  ·rename_i e;rw[if_pos e]at q;exact q
  ·rename_i e;rw[if_neg e]at q;exact sb _ _ q
 ·unfold cV at q ⊢
  by_cases e:b=p
  ·rw[if_pos e]at q;exact .inl (by rw[if_pos e];exact q)
  ·rw[if_neg e]at q;rw[if_neg e];exact fu _ _ q
 ·have:b≠p:=fun e=>h1 (by rw[e];exact hp)
  rw[bQ this];exact h2
theorem di.newL {F H:Hp}{p:Addr}(xs:List V)(sb:aE F H)(fu:gw F H)(hp:H p=none):di F H F (cV H p (.lst xs)):=by
 have fp:F p=none:=aJ sb hp;refine⟨kR hp,aE.refl _,sb.trans (kR hp),fun b u q=>?_,fun b _ h2=>h2⟩;unfold cV at q
 by_cases e:b=p
 ·rw[if_pos e]at q;cases q;exact .inr ⟨xs,rfl⟩
 ·rw[if_neg e]at q;exact fu _ _ q
def ao:WA:=fun _ R=>R []
def af (wa:WE)(wr:WA):WA:=fun δ R=>wa δ fun x=>wr δ fun xs=>R (x::xs)
def grow (F H H':Hp)(x:Option Addr):Hp:=fun b=>if (H b).isNone=true then (if x=some b then none else H' b) else F b
theorem iO {F H H':Hp}{x:Option Addr}(sb:aE F H)(fu:gw F H)(s:aE H H')(hx:∀ a,x=some a->∃ xs,H' a=some (.lst xs)):di F H (grow F H H' x) H':=by
 have hs:∀ {b:Addr}{o:HO},H b=some o->(H b).isNone=true->False:=fun {b o} e h=>by rw[e]at h;cases h
 refine⟨s,fun b o q=>?_,fun b o q=>?_,fun b o q=>?_,fun b h1 h2=>?_⟩
 ·unfold grow;rw[if_neg (fun z=>hs (sb _ _ q) z)];exact q
 ·unfold grow at q
  split at q
  ·split at q
   ·cases q
   ·exact q
  ·exact s _ _ (sb _ _ q)
 ·unfold grow
  cases e:H b with
  | none=>
   rw[if_pos (show(none:Option HO).isNone=true from rfl)]
   by_cases z:x=some b
   ·obtain⟨xs,q'⟩:=hx b z;rw[q]at q';cases q'
    exact .inr ⟨xs,rfl⟩
   ·rw[if_neg z];exact .inl q
  | some o'=>
   rw[if_neg (by simp)]
   have:=s _ _ e;rw[q]at this;cases this
   exact fu _ _ e
 ·unfold grow;rw[if_neg (fun z=>h1 (Option.isNone_iff_eq_none.mp z))];exact h2
theorem di.frozen {F H F1 H1:Hp}(sb:aE F H)(e:di F H F1 H1):di F H (grow F1 H H1 none) H1/\aE F1 (grow F1 H H1 none):=by
 have hs:∀ {b:Addr}{o:HO},H b=some o->(H b).isNone=true->False:=fun {b o} e h=>by rw[e]at h;cases h
 refine⟨⟨e.hh,fun b o q=>?_,fun b o q=>?_,fun b o q=>?_,fun b h1 h2=>?_⟩,fun b o q=>?_⟩
 ·unfold grow;rw[if_neg (fun z=>hs (sb _ _ q) z)];exact e.ff _ _ q
 ·unfold grow at q
  split at q
  ·split at q
   ·cases q
   ·exact q
  ·exact e.sub _ _ q
 ·unfold grow
  cases z:H b with
  | none=>exact .inl (by rw[if_pos (show(none:Option HO).isNone=true from rfl),if_neg (by simp)];exact q)
  | some o'=>rw[if_neg (by simp)];exact e.full _ _ q
 ·unfold grow;rw[if_neg (fun z=>h1 (Option.isNone_iff_eq_none.mp z))];exact e.keep b h1 h2
 ·unfold grow
  split
  ·rw[if_neg (by simp)];exact e.sub _ _ q
  ·exact q
def kQ:List S->Option (List T)
 | []=>some []
 | .t x::r=>match kQ r with
  | some ts=>some (x::ts)
  | none=>none
 | .ol us::r=>match kQ r with
  | some ts=>some (.lst us::ts)
  | none=>none
 | .vt _::_=>none
def dB (wa:WA):WE:=fun δ R=>wa δ fun ss=>match kQ ss with
 | some ts=>if ts.length<=1000 then R (.t (.tup ts)) else False
 | none=>False
def gR (wa:WA):WE:=fun δ R=>wa δ fun ss=>match kQ ss with
 | some ts=>if ts.length<=1000 then R (.ol ts) else False
 | none=>False
theorem jo {K:PySem.W.Frag}{H F' H':Hp}(sm:aE F' (grow F' H H' none)):∀ {ss:List S}{vs:List V}{ts:List T},fO K H F' H' ss vs->kQ ss=some ts->am K (grow F' H H' none) ts vs
 | [],_,_,h,e=>by cases e;exact h
 | .t x::r,_,ts,⟨v,vr,e1,h1,h2⟩,e=>by
  subst e1;unfold kQ at e
  split at e
  ·rename_i us hu
   cases e
   exact⟨v,vr,rfl,aw.same sm h1,jo sm h2 hu⟩
  ·cases e
 | .vt _::_,_,_,_,e=>by cases e
 | .ol zs::r,_,_,⟨v,vr,e1,h1,h2⟩,e=>by
  subst e1;unfold kQ at e
  split at e
  ·rename_i us hu
   cases e
   refine⟨v,vr,rfl,?_,jo sm h2 hu⟩;unfold dA at h1;obtain⟨a,xs,q1,q2,q3,q4,q5⟩:=h1;unfold aw;refine⟨a,xs,q1,cD.of ?_,am.same sm q5⟩;unfold grow;rw[if_pos (by rw[q2];rfl),if_neg (by simp)]
   exact q4
  ·cases e
theorem xb {n:Nat}(h:n<=1000):n<=sizeLine:=Nat.le_of_lt (zn h)
def df (f:List S->(S->Prop)->Prop)(wa:WA):WE:=fun δ R=>wa δ fun ss=>f ss R
def jD (K:PySem.W.Frag)(F H:Hp):List S->List V->Prop
 | [],vs=>vs=[]
 | s::ss,vs=>∃ v r,vs=v::r/\gz K F H s v/\jD K F H ss r
theorem fO.val {K:PySem.W.Frag}{H0 F H:Hp}(e:aE F H):∀ {ss:List S}{vs:List V},fO K H0 F H ss vs->jD K F H ss vs
 | [],_,h=>h
 | _::_,_,⟨v,r,h1,h2,h3⟩=>⟨v,r,h1,h2.val e,fO.val e h3⟩
def fX (K:PySem.W.Frag)(r:List V->Hp->VK->Prop)(f:List S->(S->Prop)->Prop):Prop:=
 ∀ F H ss vs R Q,aE F H->gw F H->jD K F H ss vs->f ss R->(∀ v F' H' s,di F H F' H'->dA K H F' H' s v->R s->Q v H')->r vs H Q
theorem xh {K:PySem.W.Frag}{r:List V->Hp->VK->Prop}{f:List S->(S->Prop)->Prop}{wa:WA}(ho:fX K r f):∀ σ H Q,ap K (df f wa) σ H Q->Og r (cZ K wa) σ H Q:=by
 rintro σ H Q ⟨δ,R,F,rl,h,k⟩;refine⟨δ,_,F,rl,h,fun vs F1 H1 ss e p q=>?_⟩;exact ho F1 H1 ss vs R Q e.sub e.full (p.val e.sub) q fun v F' H' s e2 p2 q2=>k v F' H' s (e.trans e2) (p2.start e.hh) q2
abbrev aR:=List S->(S->Prop)->Prop
def iF:S->S
 | .vt x=>.t x
 | .ol ts=>.t (.lst ts)
 | .t x=>.t x
def got:S->S
 | .t x=>norm x
 | .vt x=>.vt x
 | .ol ts=>if cK ts=true then .ol ts else .vt (.lst ts)
def sN:S->Prop
 | .t _=>True
 | _=>False
def sk (K:PySem.W.Frag)(sp:aR):Sp:=fun vs H Q _=>∃ ss R,(∀ s∈ss,sN s)/\jD K H H ss vs/\sp ss R/\∀ v H' s,aE H H'->xM K H H' s v->R s->Q v H'
def aB (sp:aR)(wa:WA):WE:=fun δ R=>wa δ fun ss=>sp (ss.map iF) fun s=>R (got s)
theorem qc {K:PySem.W.Frag}{H0 F H:Hp}(sb:aE F H):∀ {ss:List S}{vs:List V},fO K H0 F H ss vs->(∀ s∈ss.map iF,sN s)/\jD K H H (ss.map iF) vs
 | [],_,h=>⟨fun s hs=>by simp at hs,h⟩
 | s::ss,_,⟨v,r,h1,h2,h3⟩=>by
  obtain⟨a1,a2⟩:=qc sb h3;refine⟨fun u hu=>?_,v,r,h1,?_,a2⟩
  ·rw[List.map_cons]at hu
   rcases List.mem_cons.mp hu with e|e
   ·subst e
    cases s <;> exact True.intro
   ·exact a1 u e
  ·cases s with
   | t x=>exact aw.same sb h2
   | vt x=>exact h2
   | ol ts=>
    unfold dA at h2;obtain⟨a,xs,q1,_,_,q2,q3⟩:=h2;show aw K H (.lst ts) v;unfold aw;exact⟨a,xs,q1,cD.of q2,am.same sb q3⟩
theorem yF {K:PySem.W.Frag}{sp:aR}{wa:WA}{E:XK}:∀ σ H Q,ap K (aB sp wa) σ H Q->Hk (sk K sp) [] E (cZ K wa) σ H Q:=by
 rintro σ H Q ⟨δ,R,F,rl,h,k⟩;refine⟨δ,_,F,rl,h,fun vs F1 H1 ss e p q=>?_⟩;show sk K sp (vs++[]) H1 Q E;rw[List.append_nil];obtain⟨a1,a2⟩:=qc e.sub p;refine⟨_,_,a1,a2,q,fun v H' s sm rc hr=>?_⟩
 cases s with
 | t x=>
  have ex:=iO (x:=none) e.sub e.full sm (fun _ z=>by cases z)
  exact k v _ H' (norm x) (e.trans ex) (dA.norm ex.full rc) hr
 | vt x=>exact False.elim rc
 | ol ts=>
  unfold xM at rc;obtain⟨a,xs,q1,q2,q3,q4⟩:=rc;have ex:=iO (x:=some a) e.sub e.full sm (fun b z=>by cases z;exact⟨xs,q3⟩)
  have hr':R (if cK ts=true then .ol ts else .vt (.lst ts)):=hr
  split at hr'
  ·rename_i hp;refine k v _ H' (.ol ts) (e.trans ex) ⟨a,xs,q1,aJ e.hh q2,?_,q3,am.full ex.full hp q4⟩ hr';unfold grow;rw[if_pos (by rw[q2];rfl),if_pos rfl]
  ·refine k v _ H' (.vt (.lst ts)) (e.trans ex) ?_ hr';unfold dA aw;exact⟨a,xs,q1,cD.of q3,q4⟩
section
variable {X:Cx}{e:Expr}{es:List Expr}{we:WE}{wr wa:WA}{pos:Pos}
theorem ag:PA X [] (cZ X.K ao):=jY.imp fun σ H Q ⟨δ,R,F,rl,h,k⟩=>k [] F H [] rl.refl rfl h
theorem aa (ha:PE X e (ap X.K we))(hr:PA X es (cZ X.K wr))(hs:starEach (e::es) X.env=(false,eval e X.env)::starEach es X.env:=by rfl):PA X (e::es) (cZ X.K (af we wr)):=
 (cB ha hr hs).imp fun σ H Q ⟨δ,R,F,rl,h,k⟩=>⟨δ,_,F,rl,h,fun v F1 H1 s e p q=>⟨δ,_,F1,rl.ext e,q,fun vs F2 H2 ss e2 ps q2=>k (v::vs) F2 H2 (s::ss) (e.trans e2) ⟨v,vs,rfl,p.ext e2,ps.start e.hh⟩ q2⟩⟩
theorem bx {x1}(h:PA X es (cZ X.K wa)):PE X (.Tuple es x1 pos) (ap X.K (dB wa)):=
 (Dg h).imp fun σ H Q ⟨δ,R,F,rl,h,k⟩=>⟨δ,_,F,rl,h,fun vs F1 H1 ss e p q=>by
  split at q
  ·rename_i ts ht;obtain⟨ez,sz⟩:=e.frozen rl.sub;have r:=jo sz p ht
   split at q
   ·rename_i hl;refine⟨by rw[r.length];exact xb hl,fun a ha=>?_⟩
    have ex:=di.new (.tup vs) ez.sub ez.full ha;refine k _ _ _ (.t (.tup ts)) (ez.trans ex) ?_ q;unfold dA aw;exact⟨a,vs,rfl,iD.of bH,am.same ex.ff r⟩
   ·exact q.elim
  ·exact q.elim⟩
theorem cE (h:PA X es (cZ X.K wa)):PE X (.List es pos) (ap X.K (gR wa)):=
 (JY h).imp fun σ H Q ⟨δ,R,F,rl,h,k⟩=>⟨δ,_,F,rl,h,fun vs F1 H1 ss e p q=>by
  split at q
  ·rename_i ts ht;obtain⟨ez,sz⟩:=e.frozen rl.sub;have r:=jo sz p ht
   split at q
   ·rename_i hl;refine⟨by rw[r.length];exact xb hl,fun a ha=>?_⟩
    have ex:=di.newL vs ez.sub ez.full ha;exact k _ _ _ (.ol ts) (ez.trans ex) ⟨a,vs,rfl,aJ e.hh ha,aJ ez.sub ha,bH,r⟩ q
   ·exact q.elim
  ·exact q.elim⟩
structure Callee (P:Program) (w:World) (K:PySem.W.Frag) (mg:Str->Option Value) (base:Heap) (k:Nat) (x:Str) (sp:aR):Prop where
 ex:∃ (f:Addr) (fd:FuncData) (ps:List Str),mg x=some (.ref f)/\fY P w K mg base sE k f fd ps (sk K sp)/\Binds K fd ps []/\PySem.W.keepIn K (.ref f)=true
theorem av {k:Nat}{x:Str}{sp:aR}{p:Pos} (C:Callee X.prog X.w X.K X.mg X.base k x sp) (hr:b7 k X.A) (hg:Gl X x) (ha:PA X (e::es) (cZ X.K wa)) (hdb:(x == ("__debug__":Str))=false:=by decide)
  (he:starEach (e::es) X.env=(false,eval e X.env)::starEach es X.env:=by rfl) (hpl:(backTo pos (starEach es X.env)).any (·.1)=false:=by rfl):PE X (.Call (.Name x p) (e::es) [] pos) (ap X.K (aB sp wa)):=by
 obtain⟨f,fd,ps,hm,F,hb,hk⟩:=C.ex;exact(rP F hr hg hm hk hb .nil (E:=E0) Dd ha hdb he hpl).imp yF
theorem gC {x:Str}{p:Pos}{id:String}{r:List V->Hp->VK->Prop}{f:List S->(S->Prop)->Prop} (hc:eW X (.builtin id) r) (hf:fX X.K r f) (hm:X.mg x=none) (hv:bootBuiltins x=some (.builtin id)) (ha:PA X (e::es) (cZ X.K wa)) (hg:Gl X x:=by rfl) (hn:x≠"__name__":=by decide) (hdb:(x == ("__debug__":Str))=false:=by decide)
  (he:starEach (e::es) X.env=(false,eval e X.env)::starEach es X.env:=by rfl) (hpl:(backTo pos (starEach es X.env)).any (·.1)=false:=by rfl):PE X (.Call (.Name x p) (e::es) [] pos) (ap X.K (df f wa)):=
 (uv hc hg hm hv ha hn hdb he hpl).imp (xh hf)
theorem yd {x:Str}{p:Pos}{id:String}{r:List V->Hp->VK->Prop}{f:List S->(S->Prop)->Prop} (hc:eW X (.type id) r) (hf:fX X.K r f) (hm:X.mg x=none) (hv:bootBuiltins x=some (.type id)) (ha:PA X (e::es) (cZ X.K wa)) (hg:Gl X x:=by rfl) (hn:x≠"__name__":=by decide) (hdb:(x == ("__debug__":Str))=false:=by decide)
  (he:starEach (e::es) X.env=(false,eval e X.env)::starEach es X.env:=by rfl) (hpl:(backTo pos (starEach es X.env)).any (·.1)=false:=by rfl):PE X (.Call (.Name x p) (e::es) [] pos) (ap X.K (df f wa)):=
 (y9 hc hg hm hv ha hn hdb he hpl).imp (xh hf)
end
def b9:List S->(S->Prop)->Prop
 | [.t (.tup ts)],R=>R (.t (.int ts.length))
 | [.t (.lst ts)],R=>R (.t (.int ts.length))
 | [.vt (.tup ts)],R=>R (.t (.int ts.length))
 | [.vt (.lst ts)],R=>R (.t (.int ts.length))
 | [.ol ts],R=>R (.t (.int ts.length))
 | _,_=>False
theorem JI {K:PySem.W.Frag}:fX K (fun xs H Q=>∃ p ys,xs=[.ref p]/\(cD K H p ys\/iD K H p ys)/\Q (.int ys.length) H) b9:=by
 intro F H ss vs R Q sb fu rp h k;unfold b9 at h
 split at h
 ·obtain⟨v,r,rfl,⟨a,xs,rfl,h1,h2⟩,h3⟩:=rp
  cases (show r=[] from h3)
  exact⟨a,xs,rfl,.inr (aE.sqT sb a xs h1),k _ F H (.t (.int _)) (di.refl sb fu) (by show _=_;rw[h2.length]) h⟩
 ·obtain⟨v,r,rfl,⟨a,xs,rfl,h1,h2⟩,h3⟩:=rp
  cases (show r=[] from h3)
  exact⟨a,xs,rfl,.inl (sb.seq h1),k _ F H (.t (.int _)) (di.refl sb fu) (by show _=_;rw[h2.length]) h⟩
 ·obtain⟨v,r,rfl,⟨a,xs,rfl,h1,h2⟩,h3⟩:=rp
  cases (show r=[] from h3)
  exact⟨a,xs,rfl,.inr h1,k _ F H (.t (.int _)) (di.refl sb fu) (by show _=_;rw[h2.length]) h⟩
 ·obtain⟨v,r,rfl,⟨a,xs,rfl,h1,h2⟩,h3⟩:=rp
  cases (show r=[] from h3)
  exact⟨a,xs,rfl,.inl h1,k _ F H (.t (.int _)) (di.refl sb fu) (by show _=_;rw[h2.length]) h⟩
 ·obtain⟨v,r,rfl,⟨a,xs,rfl,h1,h2⟩,h3⟩:=rp
  cases (show r=[] from h3)
  exact⟨a,xs,rfl,.inl h1,k _ F H (.t (.int _)) (di.refl sb fu) (by show _=_;rw[h2.length]) h⟩
 ·exact h.elim
def jR:List S->(S->Prop)->Prop
 | [.t (.int i)],R=>R (.t (.int (if i<0 then -i else i)))
 | _,_=>False
theorem JF {K:PySem.W.Frag}:fX K (fun xs H Q=>∃ i,xs=[.int i]/\Q (.int (if i<0 then -i else i)) H) jR:=by
 intro F H ss vs R Q sb fu rp h k;unfold jR at h
 split at h
 ·obtain⟨v,r,rfl,rfl,h3⟩:=rp
  cases (show r=[] from h3)
  exact⟨_,rfl,k _ F H (.t (.int _)) (di.refl sb fu) rfl h⟩
 ·exact h.elim
def tz:List S->(S->Prop)->Prop
 | [.t (.int i),.t (.int j)],R=>R (.t (.int (if j>i then j else i)))
 | _,_=>False
def kq:List S->(S->Prop)->Prop
 | [.t (.int i),.t (.int j)],R=>R (.t (.int (if j<i then j else i)))
 | _,_=>False
theorem FN {K:PySem.W.Frag}:fX K (fun xs H Q=>∃ i j,xs=[.int i,.int j]/\Q (.int (if j>i then j else i)) H) tz:=by
 intro F H ss vs R Q sb fu rp h k;unfold tz at h
 split at h
 ·obtain⟨v,r,rfl,rfl,v2,r2,rfl,rfl,h3⟩:=rp
  cases (show r2=[] from h3)
  exact⟨_,_,rfl,k _ F H (.t (.int _)) (di.refl sb fu) rfl h⟩
 ·exact h.elim
theorem FO {K:PySem.W.Frag}:fX K (fun xs H Q=>∃ i j,xs=[.int i,.int j]/\Q (.int (if j<i then j else i)) H) kq:=by
 intro F H ss vs R Q sb fu rp h k;unfold kq at h
 split at h
 ·obtain⟨v,r,rfl,rfl,v2,r2,rfl,rfl,h3⟩:=rp
  cases (show r2=[] from h3)
  exact⟨_,_,rfl,k _ F H (.t (.int _)) (di.refl sb fu) rfl h⟩
 ·exact h.elim
def Ma:List S->(S->Prop)->Prop
 | [.t (.int i)],R=>R (.t (.int i))
 | [.t (.bl b)],R=>R (.t (.int (if b then 1 else 0)))
 | _,_=>False
def gX:List S->(S->Prop)->Prop
 | [.t (.tup ts)],R=>R (.ol ts)
 | [.t (.lst ts)],R=>R (.ol ts)
 | [.vt (.lst ts)],R=>cK ts=true/\R (.ol ts)
 | [.ol ts],R=>R (.ol ts)
 | _,_=>False
theorem yU {K:PySem.W.Frag}:fX K (fun xs H Q=>∃ p ys,xs=[.ref p]/\(cD K H p ys\/iD K H p ys)/\∀ l,H l=none->Q (.ref l) (cV H l (.lst ys))) gX:=by
 intro F H ss vs R Q sb fu rp h k;have fin:∀ {ts:List T}{xs:List V},am K F ts xs->R (.ol ts)->∀ l,H l=none->Q (.ref l) (cV H l (.lst xs)):=fun {ts xs} r q l hl=>
  k _ F _ (.ol ts) (di.newL xs sb fu hl) ⟨l,xs,rfl,hl,aJ sb hl,bH,r⟩ q
 unfold gX at h
 split at h
 ·obtain⟨v,r,rfl,⟨a,xs,rfl,h1,h2⟩,h3⟩:=rp
  cases (show r=[] from h3)
  exact⟨a,xs,rfl,.inr (aE.sqT sb a xs h1),fin h2 h⟩
 ·obtain⟨v,r,rfl,⟨a,xs,rfl,h1,h2⟩,h3⟩:=rp
  cases (show r=[] from h3)
  exact⟨a,xs,rfl,.inl (sb.seq h1),fin h2 h⟩
 ·obtain⟨v,r,rfl,⟨a,xs,rfl,h1,h2⟩,h3⟩:=rp
  cases (show r=[] from h3)
  exact⟨a,xs,rfl,.inl h1,fin (am.full fu h.1 h2) h.2⟩
 ·obtain⟨v,r,rfl,⟨a,xs,rfl,h1,h2⟩,h3⟩:=rp
  cases (show r=[] from h3)
  exact⟨a,xs,rfl,.inl h1,fin h2 h⟩
 ·exact h.elim
section
variable {X:Cx}{e:Expr}{es:List Expr}{we:WE}{wr wa:WA}{pos p:Pos}
theorem bv (hm:X.mg "len"=none) (ha:PA X [e] (cZ X.K wa)) (hg:Gl X "len":=by rfl) (he:starEach [e] X.env=(false,eval e X.env)::starEach [] X.env:=by rfl):PE X (.Call (.Name "len" p) [e] [] pos) (ap X.K (df b9 wa)):=
 gC qi JI hm PySem.boot_len ha hg (he:=he) (hpl:=rfl)
theorem fw (hm:X.mg "abs"=none) (ha:PA X [e] (cZ X.K wa)) (hg:Gl X "abs":=by rfl) (he:starEach [e] X.env=(false,eval e X.env)::starEach [] X.env:=by rfl):PE X (.Call (.Name "abs" p) [e] [] pos) (ap X.K (df jR wa)):=
 gC z8 JF hm PyProof.Rows.boot_abs ha hg (he:=he) (hpl:=rfl)
theorem EV {e2:Expr} (hm:X.mg "max"=none) (ha:PA X [e,e2] (cZ X.K wa)) (hg:Gl X "max":=by rfl) (hc:X.calm=true:=by rfl) (he:starEach [e,e2] X.env=(false,eval e X.env)::starEach [e2] X.env:=by rfl) (hpl:(backTo pos (starEach [e2] X.env)).any (·.1)=false:=by rfl):PE X (.Call (.Name "max" p) [e,e2] [] pos) (ap X.K (df tz wa)):=
 gC (x8 hc) FN hm PyProof.Rows.boot_max ha hg (he:=he) (hpl:=hpl)
theorem kl {e2:Expr} (hm:X.mg "min"=none) (ha:PA X [e,e2] (cZ X.K wa)) (hg:Gl X "min":=by rfl) (hc:X.calm=true:=by rfl) (he:starEach [e,e2] X.env=(false,eval e X.env)::starEach [e2] X.env:=by rfl) (hpl:(backTo pos (starEach [e2] X.env)).any (·.1)=false:=by rfl):PE X (.Call (.Name "min" p) [e,e2] [] pos) (ap X.K (df kq wa)):=
 gC (x9 hc) FO hm PyProof.Rows.boot_min ha hg (he:=he) (hpl:=hpl)
theorem yg (hm:X.mg "list"=none) (ha:PA X [e] (cZ X.K wa)) (hg:Gl X "list":=by rfl) (he:starEach [e] X.env=(false,eval e X.env)::starEach [] X.env:=by rfl):PE X (.Call (.Name "list" p) [e] [] pos) (ap X.K (df gX wa)):=
 yd qj yU hm PyProof.Rows.boot_list ha hg (he:=he) (hpl:=rfl)
end
end DL
namespace DL
open PySem L2
def lN:aQ->(Option Int->Prop)->Prop:=fun _ R=>R none
def pZ (we:WE):aQ->(Option Int->Prop)->Prop:=fun δ R=>we δ fun s=>match s with
 | .t (.int i)=>R (some i)
 | _=>False
def xg (K:PySem.W.Frag)(w:aQ->(Option Int->Prop)->Prop):TO:=fun σ H Q=>∃ δ R F,Rel K F H σ δ/\w δ R/\∀ F' H' o,di F H F' H'->R o->Q o H'
def lr (ts:List T)(lo hi:Option Int):List T:=(ts.drop (HT.sIx ts.length 0 lo)).take (HT.sIx ts.length ts.length hi-HT.sIx ts.length 0 lo)
def vY (lo hi:Option Int)(R:S->Prop):S->Prop
 | .t (.lst ts)=>R (.ol (lr ts lo hi))
 | .vt (.lst ts)=>cK ts=true/\R (.ol (lr ts lo hi))
 | .ol ts=>R (.ol (lr ts lo hi))
 | _=>False
def lO (we:WE)(wl wh:aQ->(Option Int->Prop)->Prop):WE:=fun δ R=>we δ fun s=>wl δ fun lo=>wh δ fun hi=>vY lo hi R s
theorem vZ {K:PySem.W.Frag}{F H:Hp}{lo hi:Option Int}{R:S->Prop}{s:S}{v:V}(sb:aE F H)(fu:gw F H)(h:vY lo hi R s)(p:gz K F H s v):∃ ts a xs,v=.ref a/\cD K H a xs/\am K F ts xs/\R (.ol (lr ts lo hi)):=by
 unfold vY at h
 split at h
 ·unfold gz aw at p;obtain⟨a,xs,h1,h2,h3⟩:=p;exact⟨_,a,xs,h1,sb.seq h2,h3,h⟩
 ·unfold gz aw at p;obtain⟨a,xs,h1,h2,h3⟩:=p;exact⟨_,a,xs,h1,h2,am.full fu h.1 h3,h.2⟩
 ·unfold gz at p;obtain⟨a,xs,h1,h2,h3⟩:=p;exact⟨_,a,xs,h1,h2,h3,h⟩
 ·exact h.elim
theorem EU {K:PySem.W.Frag}{F:Hp}{ts:List T}{xs:List V}(h:am K F ts xs)(lo hi:Option Int):am K F (lr ts lo hi) (yb xs lo hi):=by
 unfold lr yb;rw[h.length];exact(h.drop _).take _
section
variable {X:Cx}{e:Expr}{we:WE}{lo hi:Option Expr}{wl wh:aQ->(Option Int->Prop)->Prop}{pos p2:Pos}
theorem qz:PO X none (xg X.K lN):=fun pins s σ H Q I ⟨δ,R,F,rl,h,k⟩=>Ga pins s σ H Q I (k F H none rl.refl h)
theorem qA (h:PE X e (ap X.K we)):PO X (some e) (xg X.K (pZ we)):=fun pins s σ H Q I ⟨δ,R,F,rl,hw,k⟩=>
 Gb h pins s σ H Q I ⟨δ,_,F,rl,hw,fun v F1 H1 s e p q=>by
  split at q
  ·exact⟨_,p,k F1 H1 _ e q⟩
  ·exact q.elim⟩
theorem m8 (he:PE X e (ap X.K we))(hl:PO X lo (xg X.K wl))(hu:PO X hi (xg X.K wh)):PE X (.Subscript e (.Slice lo hi none p2) pos) (ap X.K (lO we wl wh)):=
 (Df GC he hl hu).imp fun σ H Q ⟨δ,R,F,rl,h,k⟩=>⟨δ,_,F,rl,h,fun v F1 H1 s e1 p1 q=>⟨δ,_,F1,rl.ext e1,q,fun F2 H2 o e2 q2=>⟨δ,_,F2,(rl.ext e1).ext e2,q2,fun F3 H3 o3 e3 q3=>by
  have e12:=e1.trans (e2.trans e3);obtain⟨ts,a,xs,rfl,h1,h2,h4⟩:=vZ e3.sub e3.full q3 ((p1.ext (e2.trans e3)).val e3.sub);refine⟨a,xs,rfl,h1,fun l hl=>?_⟩;exact k _ F3 _ (.ol _) (e12.trans (di.newL _ e3.sub e3.full hl)) ⟨l,_,rfl,aJ e12.hh hl,aJ e3.sub hl,bH,EU h2 _ _⟩ h4⟩⟩⟩
end
def er:S->S
 | .ol ts=>.t (.lst ts)
 | .t x=>.t x
 | .vt x=>.vt x
def freeze (δ:aQ):aQ:=δ.map (Option.map er)
def setS (i:Nat)(s:S)(δ:aQ):aQ:=match s with
 | .vt x=>(freeze δ).set i (some (.t x))
 | .t x=>δ.set i (some (.t x))
 | .ol ts=>δ.set i (some (.ol ts))
theorem jT {δ:aQ}{i:Nat}{s:S}(h:(freeze δ)[i]?=some (some s)):∃ u,δ[i]?=some (some u)/\s=er u:=by
 unfold freeze at h;rw[List.getElem?_map]at h
 cases e:δ[i]? with
 | none=>rw[e]at h;cases h
 | some o=>
  rw[e]at h
  cases o with
  | none=>cases h
  | some u=>exact⟨u,rfl,by simpa using h.symm⟩
theorem yo {K:PySem.W.Frag}{F H:Hp}(sb:aE F H):∀ {s:S}{v:V},fZ K F H s v->fZ K H H (er s) v
 | .t _,_,h=>aw.same sb h
 | .vt _,_,h=>False.elim h
 | .ol _,_,⟨a,xs,h1,_,h3,h4⟩=>by
  show aw K H (.lst _) _;unfold aw;exact⟨a,xs,h1,cD.of h3,am.same sb h4⟩
theorem jH (s:S)(ts:List T):er s≠.ol ts:=by cases s <;> simp[er]
theorem Rel.freeze {K:PySem.W.Frag}{F H:Hp}{σ:St}{δ:aQ}(r:Rel K F H σ δ):Rel K H H σ (freeze δ):=by
 refine⟨aE.refl _,fun b o h=>.inl h,?_,fun i s h=>?_,fun i j a ts us _ h1=>?_⟩
 ·unfold DL.freeze;rw[List.length_map];exact r.len
 ·obtain⟨u,h1,rfl⟩:=jT h;obtain⟨v,h2,h3⟩:=r.slot i u h1;exact⟨v,h2,yo r.sub h3⟩
 ·obtain⟨u,_,e⟩:=jT h1;exact absurd e.symm (jH u ts)
theorem Rel.put {K:PySem.W.Frag}{F H:Hp}{σ:St}{δ:aQ}{i:Nat}{s:S}{v:V}(r:Rel K F H σ δ)(h:fZ K F H s v)(hs:∀ ts,s≠.ol ts):Rel K F H (σ.set i (some v)) (δ.set i (some s)):=by
 refine⟨r.sub,r.full,by rw[List.length_set,List.length_set];exact r.len,fun j u hu=>?_,fun j l a ts us hn h1 h2 h3=>?_⟩
 ·by_cases e:i=j
  ·subst e;have hi:i<δ.length:=by
    rw[List.getElem?_set]at hu;simp at hu;exact hu.1
   rw[List.getElem?_set_self hi]at hu
   cases hu
   exact⟨v,List.getElem?_set_self (by rw[r.len];exact hi),h⟩
  ·rw[List.getElem?_set_ne e]at hu;obtain⟨w,h1,h2⟩:=r.slot j u hu;exact⟨w,by rw[List.getElem?_set_ne e];exact h1,h2⟩
 ·have n1:i≠j:=fun e=>by
   subst e;have hi:i<δ.length:=by
    rw[List.getElem?_set]at h1;simp at h1;exact h1.1
   rw[List.getElem?_set_self hi]at h1
   cases h1
   exact hs ts rfl
  have n2:i≠l:=fun e=>by
   subst e;have hi:i<δ.length:=by
    rw[List.getElem?_set]at h2;simp at h2;exact h2.1
   rw[List.getElem?_set_self hi]at h2
   cases h2
   exact hs us rfl
  rw[List.getElem?_set_ne n1]at h1 h3;rw[List.getElem?_set_ne n2]at h2 ⊢;exact r.dist j l a ts us hn h1 h2 h3
theorem Rel.putOl {K:PySem.W.Frag}{F H F' H':Hp}{σ:St}{δ:aQ}{i:Nat}{ts:List T}{a:Addr}{xs:List V}(r:Rel K F H σ δ)(e:di F H F' H')(h0:H a=none)(h1:F' a=none)(h2:H' a=some (.lst xs))(h3:am K F' ts xs) :
  Rel K F' H' (σ.set i (some (.ref a))) (δ.set i (some (.ol ts))):=by
 have r':=r.ext e;have old:∀ (j:Nat) (us:List T) (b:Addr),δ[j]?=some (some (.ol us))->σ[j]?=some (some (.ref b))->b≠a:=fun j us b q1 q2 z=>by
  obtain⟨v,p1,c,ys,p2,p3,p4,_⟩:=r.slot j _ q1;rw[q2]at p1
  cases p1
  cases p2
  rw[z,h0]at p4
  cases p4
 refine⟨r'.sub,r'.full,by rw[List.length_set,List.length_set];exact r.len,fun j u hu=>?_,fun j l b us ws hn q1 q2 q3=>?_⟩
 ·by_cases z:i=j
  ·subst z;have hi:i<δ.length:=by
    rw[List.getElem?_set]at hu;simp at hu;exact hu.1
   rw[List.getElem?_set_self hi]at hu
   cases hu
   exact⟨_,List.getElem?_set_self (by rw[r.len];exact hi),a,xs,rfl,h1,h2,h3⟩
  ·rw[List.getElem?_set_ne z]at hu;obtain⟨w,p1,p2⟩:=r'.slot j u hu;exact⟨w,by rw[List.getElem?_set_ne z];exact p1,p2⟩
 ·by_cases z:i=j
  ·subst z;have hi:i<δ.length:=by
    rw[List.getElem?_set]at q1;simp at q1;exact q1.1
   rw[List.getElem?_set_self (by rw[r.len];exact hi)]at q3
   cases q3
   rw[List.getElem?_set_ne hn]at q2 ⊢;exact fun q=>old l ws a q2 q rfl
  ·rw[List.getElem?_set_ne z]at q1 q3
   by_cases z2:i=l
   ·subst z2;have hi:i<δ.length:=by
     rw[List.getElem?_set]at q2;simp at q2;exact q2.1
    rw[List.getElem?_set_self (by rw[r.len];exact hi)]
    intro q
    cases q
    exact old j us a q1 q3 rfl
   ·rw[List.getElem?_set_ne z2]at q2 ⊢;exact r.dist j l b us ws hn q1 q2 q3
theorem Rel.setS {K:PySem.W.Frag}{F H F' H':Hp}{σ:St}{δ:aQ}{s:S}{v:V}(i:Nat)(r:Rel K F H σ δ)(e:di F H F' H')(p:dA K H F' H' s v):∃ F2,aE F F2/\Rel K F2 H' (σ.set i (some v)) (setS i s δ):=by
 cases s with
 | t x=>exact⟨F',e.ff,(r.ext e).put (s:=.t x) p (fun _ z=>by cases z)⟩
 | vt x=>exact⟨H',e.ff.trans e.sub,(r.ext e).freeze.put (s:=.t x) p (fun _ z=>by cases z)⟩
 | ol ts=>
  obtain⟨a,xs,rfl,h0,h1,h2,h3⟩:=p;exact⟨F',e.ff,r.putOl e h0 h1 h2 h3⟩
theorem Rel.thaw {K:PySem.W.Frag}{F H F1 H1:Hp}{σ:St}{δ:aQ}{ts:List T}{v:V}(rl:Rel K F H σ δ)(ex:di F H F1 H1)(p:dA K H F1 H1 (.ol ts) v) :
  Rel K (grow F1 H H1 none) H1 σ δ/\aE F (grow F1 H H1 none)/\∃ a xs,v=.ref a/\cD K (grow F1 H H1 none) a xs/\am K (grow F1 H H1 none) ts xs:=by
 obtain⟨ez,sz⟩:=ex.frozen rl.sub;refine⟨rl.ext ez,ez.ff,?_⟩;obtain⟨a,xs,rfl,h0,h1,h2,h3⟩:=p;refine⟨a,xs,rfl,cD.of ?_,am.same sz h3⟩;unfold grow;rw[if_pos (by rw[h0];rfl),if_neg (by simp)]
 exact h2
def aY:WS:=fun D δ=>D.nx δ
def aG (w u:WS):WS:=fun D δ=>w {D with nx:=u D} δ
def bL (w u:WS):WS:=fun D δ=>∃ M:aQ->Prop,w {D with nx:=M} δ/\∀ δ',M δ'->u D δ'
def aP (i:Nat)(we:WE):WS:=fun D δ=>we δ fun s=>D.nx (setS i s δ)
def ft (c:WT)(w u:WS):WS:=fun D δ=>c δ fun k=>if k=true then w D δ else u D δ
def out:S->S
 | .vt x=>.t x
 | .t x=>.t x
 | .ol ts=>.ol ts
def bi (we:WE):WS:=fun D δ=>we δ fun s=>D.rt (out s)
def oq (i:Nat):WS:=fun D δ=>match δ[i]? with
 | some (some s)=>D.rt s
 | _=>False
def M8:WS:=fun D _=>D.rt (.t .non)
def KJ:WS:=fun D δ=>D.bk δ
def M7:WS:=fun D δ=>D.ct δ
def xG (we:WE):WS:=fun D δ=>we δ fun _=>D.nx δ
def sn:WS:=fun _ _=>False
def sA (c:WT)(wb:WS):WS:=fun D δ=>∃ I:Nat->aQ->Prop,(∃ n,I n δ)/\∀ n δ,I n δ->c δ fun k=>if k=true then wb {nx:=fun δ'=>∃ m,m<n/\I m δ',rt:=D.rt,bk:=D.nx,ct:=fun δ'=>∃ m,m<n/\I m δ'} δ else D.nx δ
abbrev WG:=T->aQ->(aQ->Prop)->Prop
def jS (g:WG)(wb:WS):List T->dh->aQ->Prop
 | [],D,δ=>D.nx δ
 | x::r,D,δ=>g x δ fun δ1=>wb {nx:=fun δ2=>jS g wb r D δ2,rt:=D.rt,bk:=D.nx,ct:=fun δ2=>jS g wb r D δ2} δ1
abbrev WI:=aQ->(List T->aQ->Prop)->Prop
def yk (g:WG)(wb:WS)(ts:List T)(D:dh)(δ:aQ):Prop:=∃ I:List T->aQ->Prop,I ts δ/\(∀ δ,I [] δ->D.nx δ)/\∀ x r δ,I (x::r) δ->g x δ fun δ1=>wb {nx:=I r,rt:=D.rt,bk:=D.nx,ct:=I r} δ1
theorem ku {g:WG}{wb:WS}{ts:List T}{D:dh}{δ:aQ}(h:jS g wb ts D δ):yk g wb ts D δ:=⟨fun r δ=>jS g wb r D δ,h,fun _ h=>h,fun _ _ _ h=>h⟩
def gQ (wi:WI)(g:WG)(wb:WS):WS:=fun D δ=>wi δ fun ts δ'=>yk g wb ts D δ'
def aS (i:Nat):WG:=fun t δ R=>R (δ.set i (some (.t t)))
def jL (g:List T->aQ->(aQ->Prop)->Prop):WG:=fun t δ R=>match t with
 | .tup ts=>g ts δ R
 | _=>False
def iy:List T->aQ->(aQ->Prop)->Prop:=fun ts δ R=>match ts with
 | []=>R δ
 | _=>False
def cq (g:WG)(gr:List T->aQ->(aQ->Prop)->Prop):List T->aQ->(aQ->Prop)->Prop:=fun ts δ R=>match ts with
 | t::r=>g t δ fun δ1=>gr r δ1 R
 | []=>False
def GM (g:WG)(δ:aQ)(N:aQ->Prop):S->Prop
 | .t t=>g t δ N
 | .vt t=>g t (freeze δ) N
 | .ol ts=>g (.lst ts) δ N
def GO (we:WE)(g:WG):WS:=fun D δ=>we δ fun s=>GM g δ D.nx s
def GN (i j:Nat)(wa:WA):WS:=fun D δ=>wa δ fun ss=>match ss with
 | [.t x,.t y]=>D.nx ((δ.set i (some (.t x))).set j (some (.t y)))
 | _=>False
def h9 (i:Nat)(we:WE):WS:=fun D δ=>match δ[i]? with
 | some (some (.ol ts))=>we δ fun s=>match s with
  | .t x=>ts.length<100000/\D.nx (δ.set i (some (.ol (ts++[x]))))
  | _=>False
 | _=>False
def Oz (i:Nat):WS:=fun D δ=>match δ[i]? with
 | some (some (.ol ts))=>ts≠[]/\D.nx (δ.set i (some (.ol ts.dropLast)))
 | _=>False
def jd (i:Nat)(we wv:WE):WS:=fun D δ=>match δ[i]? with
 | some (some (.ol ts))=>wv δ fun v=>we δ fun s=>match v,s with
  | .t x,.t (.int k)=>match yv ts.length k with
   | some j=>D.nx (δ.set i (some (.ol (ts.set j x))))
   | none=>False
  | _,_=>False
 | _=>False
section
variable {X:Cx}{st:Stmt}{rest:List Stmt}{w u:WS}{e:Expr}{we:WE}{pos:Pos}{H₀:Hp}
theorem aH:gS X [] (bC X.K H₀ aY):=xp.imp fun D σ H ⟨δ,D',F,_,rl,h,ok⟩=>ok.nx σ F H δ (aE.refl _) rl h
theorem ah (h1:PS X st (bC X.K H₀ w))(h2:gS X rest (bC X.K H₀ u)):gS X (st::rest) (bC X.K H₀ (aG w u)):=
 (fx h1 h2).imp fun D σ H ⟨δ,D',F,s0,rl,h,ok⟩=>⟨δ,_,F,s0,rl,h,⟨fun σ' F' H' δ' ff rl' h'=>⟨δ',D',F',s0.trans ff,rl',h',ok.mono ff⟩,ok.rt,ok.bk,ok.ct⟩⟩
theorem aL (h1:PS X st (bC X.K H₀ w))(h2:gS X rest (bC X.K H₀ u)):gS X (st::rest) (bC X.K H₀ (bL w u)):=
 (fx h1 h2).imp fun D σ H ⟨δ,D',F,s0,rl,⟨M,h,hk⟩,ok⟩=>⟨δ,_,F,s0,rl,h,⟨fun σ' F' H' δ' ff rl' h'=>⟨δ',D',F',s0.trans ff,rl',hk δ' h',ok.mono ff⟩,ok.rt,ok.bk,ok.ct⟩⟩
theorem ai (h1:PS X st (bC X.K H₀ w)):gS X [st] (bC X.K H₀ w):=rS h1
theorem m9:PS X st (bC X.K H₀ sn):=Dl.imp fun D σ H ⟨δ,D',F,_,rl,h,ok⟩=>h
theorem aq {i:Nat}{x:Str}{pos':Pos}(hN:X.N.Nodup)(he:PE X e (ap X.K we))(hi:X.N[i]?=some x:=by rfl)(hx:Loc X.env.scope x:=by first|exact Or.inl rfl|exact Or.inr rfl)(hs:swapsWith e (some (.Name x pos')) pos.line X.env=pure false:=by rfl)(hf:X.fn x=true\/X.env.scope.names.lookup x=some .local:=by first|exact .inl rfl|exact .inr rfl|assumption) :
  PS X (.Assign [.Name x pos'] e pos) (bC X.K H₀ (aP i we)):=
 (Dm hN hi hx he hs hf).imp fun D σ H ⟨δ,D',F,s0,rl,h,ok⟩=>⟨δ,_,F,rl,h,fun v F1 H1 s e p q=>by
  obtain⟨F2,ff,r2⟩:=rl.setS i e p;exact ok.nx _ F2 H1 _ ff r2 q⟩
theorem bf {c:Expr}{a b:List Stmt}{t:WT}(hc:PT X c (liftT X.K t))(ha:gS X a (bC X.K H₀ w))(hb:gS X b (bC X.K H₀ u)):PS X (.If c a b pos) (bC X.K H₀ (ft t w u)):=
 (He hc ha hb).imp fun D σ H ⟨δ,D',F,s0,rl,h,ok⟩=>⟨δ,_,F,rl,h,fun F1 H1 k e q=>by
  cases k with
  | true=>exact⟨δ,D',F1,s0.trans e.ff,rl.ext e,by simpa using q,ok.mono e.ff⟩
  | false=>exact⟨δ,D',F1,s0.trans e.ff,rl.ext e,by simpa using q,ok.mono e.ff⟩⟩
theorem Ki {K:PySem.W.Frag}{F H F1 H1:Hp}(s0:aE H₀ H)(e:di F H F1 H1):∀ {s:S}{v:V},dA K H F1 H1 s v->xM K H₀ H1 (out s) v
 | .t _,_,h=>aw.same e.sub h
 | .vt _,_,h=>h
 | .ol _,_,⟨a,xs,h1,h2,_,h3,h4⟩=>⟨a,xs,h1,aJ s0 h2,h3,am.same e.sub h4⟩
theorem aC (he:PE X e (ap X.K we)):PS X (.Return (some e) pos) (bC X.K H₀ (bi we)):=
 (nW he).imp fun D σ H ⟨δ,D',F,s0,rl,h,ok⟩=>⟨δ,_,F,rl,h,fun v F1 H1 s e p q=>ok.rt v H1 _ ((s0.trans rl.sub).trans e.hh) (Ki (s0.trans rl.sub) e p) q⟩
theorem DF {K:PySem.W.Frag}{F H:Hp}(s0:aE H₀ F)(sb:aE F H):∀ {s:S}{v:V},fZ K F H s v->xM K H₀ H s v
 | .t _,_,h=>aw.same sb h
 | .vt _,_,h=>False.elim h
 | .ol _,_,⟨a,xs,h1,h2,h3,h4⟩=>⟨a,xs,h1,aJ s0 h2,h3,am.same sb h4⟩
def M9 (we:WE):WS:=fun D δ=>we (freeze δ) fun s=>D.rt (out s)
theorem mD {i:Nat}(he:PE X e (j7 i)):PS X (.Return (some e) pos) (bC X.K H₀ (oq i)):=
 (nW he).imp fun D σ H ⟨δ,D',F,s0,rl,h,ok⟩=>by
  unfold oq at h
  split at h
  ·rename_i s hs;obtain⟨v,h1,h2⟩:=rl.slot i s hs;exact⟨v,h1,ok.rt v H s (s0.trans rl.sub) (DF s0 rl.sub h2) h⟩
  ·exact h.elim
theorem wO (he:PE X e (ap X.K we))(hs:swapsWith e none pos.line X.env=pure false:=by rfl):PS X (.Expr e pos) (bC X.K H₀ (xG we)):=
 (rR he hs).imp fun D σ H ⟨δ,D',F,s0,rl,h,ok⟩=>⟨δ,_,F,rl,h,fun v F1 H1 s e p q=>ok.nx σ F1 H1 δ e.ff (rl.ext e) q⟩
theorem nh {c:Expr}{body:List Stmt}{t:WT}{wb:WS}(hp:PassesOwn (model X.prog X.w) X.A X.env X.xe)(hc:PT X c (liftT X.K t))(hb:gS X body (bC X.K H₀ wb)):PS X (.While c body [] pos) (bC X.K H₀ (sA t wb)):=
 (Do hp hc hb).imp fun D σ H ⟨δ,D',F,s0,rl,⟨I,⟨n,h⟩,step⟩,ok⟩=>by
  refine⟨fun m σ H=>∃ δ F1,aE F F1/\Rel X.K F1 H σ δ/\I m δ,⟨n,δ,F,aE.refl _,rl,h⟩,?_⟩;rintro m σ H ⟨δ,F1,f1,rl,h⟩;refine⟨δ,_,F1,rl,step m δ h,fun F2 H2 k e q=>?_⟩
  cases k with
  | true=>
   refine⟨fun σ' H'=>∃ δ F1 j,j<m/\aE F F1/\Rel X.K F1 H' σ' δ/\I j δ,fun σ' H' ⟨δ',F',j,hj,a1,a2,a3⟩=>⟨j,hj,δ',F',a1,a2,a3⟩,?_⟩;refine⟨δ,{nx:=fun δ'=>∃ j,j<m/\I j δ',rt:=D'.rt,bk:=D'.nx,ct:=fun δ'=>∃ j,j<m/\I j δ'},F2,(s0.trans f1).trans e.ff,rl.ext e,by simpa using q,⟨fun σ' F' H' δ' ff r' ⟨j,hj,h'⟩=>⟨δ',F',j,hj,(f1.trans e.ff).trans ff,r',h'⟩,ok.rt,fun σ' F' H' δ' ff r' h'=>ok.nx σ' F' H' δ' ((f1.trans e.ff).trans ff) r' h',fun σ' F' H' δ' ff r' ⟨j,hj,h'⟩=>⟨δ',F',j,hj,(f1.trans e.ff).trans ff,r',h'⟩⟩⟩
  | false=>exact ok.nx σ F2 H2 δ (f1.trans e.ff) (rl.ext e) (by simpa using q)
end
def lW (K:PySem.W.Frag)(g:WG):TG:=fun v σ H Q=>∃ t δ R F,aw K F t v/\Rel K F H σ δ/\g t δ R/\∀ σ' δ',Rel K F H σ' δ'->R δ'->Q σ' H
def rG (K:PySem.W.Frag)(g:List T->aQ->(aQ->Prop)->Prop):Ec:=fun vs σ H Q=>∃ ts δ R F,am K F ts vs/\Rel K F H σ δ/\g ts δ R/\∀ σ' δ',Rel K F H σ' δ'->R δ'->Q σ' H
section
variable {X:Cx}{pos:Pos}{H₀:Hp}
theorem aW {i:Nat}{x:Str}(hN:X.N.Nodup)(hi:X.N[i]?=some x:=by rfl)(hx:Loc X.env.scope x:=by first|exact Or.inl rfl|exact Or.inr rfl)(hf:X.fn x=true\/X.env.scope.names.lookup x=some .local:=by first|exact .inl rfl|exact .inr rfl|assumption):PG X (.Name x pos) (lW X.K (aS i)):=
 (kE hN hi hx hf).imp fun v σ H Q ⟨t,δ,R,F,p,rl,h,k⟩=>k _ _ (rl.put (s:=.t t) p (fun _ z=>by cases z)) h
theorem mC:zJ X [] (rG X.K iy):=xn.imp fun v σ H Q ⟨ts,δ,R,F,p,rl,h,k⟩=>by
 unfold iy at h
 split at h
 ·cases (show v=[] from p)
  exact⟨rfl,k σ δ rl h⟩
 ·exact h.elim
theorem eE {e:Expr}{es:List Expr}{g:WG}{gr:List T->aQ->(aQ->Prop)->Prop}(h1:PG X e (lW X.K g))(h2:zJ X es (rG X.K gr))
  (hs:(assignEach (e::es) X.env).map (·.2)=assign e X.env::(assignEach es X.env).map (·.2):=by rfl):zJ X (e::es) (rG X.K (cq g gr)):=
 (iY h1 h2 hs).imp fun v σ H Q ⟨ts,δ,R,F,p,rl,h,k⟩=>by
  unfold cq at h
  split at h
  ·rename_i t r;obtain⟨x,vr,e1,p1,p2⟩:=p;exact⟨x,vr,e1,t,δ,_,F,p1,rl,h,fun σ' δ' rl' h'=>⟨r,δ',R,F,p2,rl',h',k⟩⟩
  ·exact h.elim
theorem qw {es:List Expr}{k:Nat}{g:List T->aQ->(aQ->Prop)->Prop}{n:Nat}(h:zJ X es (rG X.K g))(hl:∀ ts δ R,g ts δ R->ts.length=n)(hc:X.calm=true:=by rfl)
  (hn:(assignEach es X.env).length=n:=by rfl) (hst:(assignEach es X.env).findIdx? (·.1)=none:=by rfl):PG X (.Tuple es k pos) (lW X.K (jL g)):=
 (Di hc h hn hst).imp fun v σ H Q ⟨t,δ,R,F,p,rl,h,k⟩=>by
  unfold jL at h
  split at h
  ·rename_i ts;obtain⟨a,xs,e1,p1,p2⟩:=p;exact⟨a,xs,e1,aE.sqT rl.sub a xs p1,by rw[p2.length];exact hl ts δ R h,ts,δ,R,F,p2,rl,h,k⟩
  ·exact h.elim
theorem mF:∀ ts δ R,iy ts δ R->ts.length=0:=fun ts δ R h=>by
 unfold iy at h
 split at h
 ·rfl
 ·exact h.elim
theorem eI {n:Nat}{i:Nat}{gr:List T->aQ->(aQ->Prop)->Prop}(hr:∀ ts δ R,gr ts δ R->ts.length=n):∀ ts δ R,cq (aS i) gr ts δ R->ts.length=n+1:=fun ts δ R h=>by
 unfold cq at h
 split at h
 ·rw[List.length_cons,hr _ _ _ h]
 ·exact h.elim
theorem Aj {tg e:Expr}{we:WE}{g:WG}(he:PE X e (ap X.K we))(hg:PG X tg (lW X.K g))(hs:swapsWithSole [tg] e pos.line X.env=pure false:=by rfl)(hw:swappedStores [tg] e X.env=pure none:=by rfl)
  (h1:(assignEach [tg] X.env).map (·.2)=[assign tg X.env]:=by rfl):PS X (.Assign [tg] e pos) (bC X.K H₀ (GO we g)):=
 (vR he hg hs hw h1).imp fun D σ H ⟨δ,D',F,s0,rl,h,ok⟩=>⟨δ,_,F,rl,h,fun v F1 H1 s e p q=>by
  cases s with
  | t t=>exact⟨t,δ,_,F1,p,rl.ext e,q,fun σ' δ' rl' h'=>ok.nx σ' F1 H1 δ' e.ff rl' h'⟩
  | vt t=>exact⟨t,freeze δ,_,H1,p,(rl.ext e).freeze,q,fun σ' δ' rl' h'=>ok.nx σ' H1 H1 δ' (e.ff.trans e.sub) rl' h'⟩
  | ol ts=>
   obtain⟨rl2,r2⟩:=rl.thaw e p;refine⟨.lst ts,δ,_,_,?_,rl2,q,fun σ' δ' rl' h'=>ok.nx σ' _ H1 δ' r2.1 rl' h'⟩;unfold aw;exact r2.2⟩
theorem Ah {i j:Nat}{x y:Str}{a b:Expr}{wa:WA}{px py pt:Pos}{kt k2 pt2}(hN:X.N.Nodup)(ha:PA X [a,b] (cZ X.K wa))(hi:X.N[i]?=some x:=by rfl)(hj:X.N[j]?=some y:=by rfl)(hij:i≠j:=by decide)
  (hx:X.env.scope.names.lookup x=some .local:=by rfl) (hy:X.env.scope.names.lookup y=some .local:=by rfl)
  (hw:swappedStores [.Tuple [.Name x px,.Name y py] kt pt] (.Tuple [a,b] k2 pt2) X.env=pure (some [x,y]):=by rfl) (hc:X.calm=true:=by rfl)
  (hs:swapsWithSole [.Tuple [.Name x px,.Name y py] kt pt] (.Tuple [a,b] k2 pt2) pos.line X.env=pure false:=by rfl) :
  PS X (.Assign [.Tuple [.Name x px,.Name y py] kt pt] (.Tuple [a,b] k2 pt2) pos) (bC X.K H₀ (GN i j wa)):=
 (J9 hc hN hi hj hij hx hy ha hw hs).imp fun D σ H ⟨δ,D',F,s0,rl,h,ok⟩=>⟨δ,_,F,rl,h,fun vs F1 H1 ss e p q=>by
  split at q
  ·rename_i t u;obtain⟨v1,r1,e1,p1,v2,r2,e2,p2,p3⟩:=p
   cases (show r2=[] from p3)
   exact⟨v1,v2,by rw[e1,e2],ok.nx _ F1 H1 _ e.ff (((rl.ext e).put (i:=i) (s:=.t t) p1 (fun _ z=>by cases z)).put (i:=j) (s:=.t u) p2 (fun _ z=>by cases z)) q⟩
  ·exact q.elim⟩
end
def zI (K:PySem.W.Frag)(F:Hp)(J:It)(ts:List T):Prop:=
 ∀ F1 H1 i,aE F F1->aE F1 H1->gw F1 H1->(∀ t,ts[i]?=some t->J.go i H1/\∀ x H2,J.yld i H1 x H2->∃ F2,di F1 H1 F2 H2/\aw K F2 t x)/\(ts.length<=i->J.stop i H1)
def lX (K:PySem.W.Frag)(w:WI):TI:=fun σ H R=>∃ δ W F,Rel K F H σ δ/\w δ W/\∀ J F0 F' H' ts δ',di F H F0 H'->aE F0 F'->Rel K F' H' σ δ'->zI K F' J ts->W ts δ'->R J H'
theorem tm {α:Type}{l:List α}{i:Nat}{x:α}{r:List α}(h:l.drop i=x::r):l[i]?=some x/\l.drop (i+1)=r:=by
 constructor
 ·rw[<-List.head?_drop,h];rfl
 ·rw[<-List.tail_drop,h];rfl
section
variable {X:Cx}{pos:Pos}{H₀:Hp}{tg:Expr}
theorem cW {iter:Expr}{body:List Stmt}{wi:WI}{g:WG}{wb:WS}(hp:PassesOwn (model X.prog X.w) X.A X.env X.xe)(hi:PI X tg iter (lX X.K wi))(hg:PG X tg (lW X.K g))(hb:gS X body (bC X.K H₀ wb))(hc:X.calm=true:=by rfl)
  (hs:∀ x,foldedSetIterable iter X.env x=pure x:=by intro _;rfl):PS X (.For tg iter body [] pos) (bC X.K H₀ (gQ wi g wb)):=
 (J8 hp hc hi hg hb hs).imp fun D σ H ⟨δ,D',F,s0,rl,h,ok⟩=>⟨δ,_,F,rl,h,fun J F0 F1 H1 ts δ1 e0 f01 rl1 it q=>by
  have f1:aE F F1:=e0.ff.trans f01;obtain⟨W,w0,wend,wstep⟩:=q;refine⟨fun i m σ H=>m=ts.length-i/\i<=ts.length/\∃ δ F2,aE F1 F2/\Rel X.K F2 H σ δ/\W (ts.drop i) δ,⟨ts.length,by simp,Nat.zero_le _,δ1,F1,aE.refl _,rl1,by simpa using w0⟩,?_⟩
  rintro i m σ H ⟨rfl,hi,δ,F2,f2,rl,h⟩;obtain⟨hgo,hstop⟩:=it F2 H i f2 rl.sub rl.full
  cases hd:ts.drop i with
  | nil=>
   rw[hd]at h;have:ts.length<=i:=by simpa using hd
   exact .inl ⟨hstop this,ok.nx σ F2 H δ (f1.trans f2) rl (wend δ h)⟩
  | cons x r=>
   rw[hd]at h;obtain⟨h1,h2⟩:=tm hd;obtain⟨go,yld⟩:=hgo x h1;have hlt:i<ts.length:=by
    have:=congrArg List.length hd;simp at this;omega
   have nexts:∀ σ' F' H' δ',aE F1 F'->Rel X.K F' H' σ' δ'->W r δ'->∃ m',m'<ts.length-i/\(m'=ts.length-(i+1)/\i+1<=ts.length/\∃ δ F2,aE F1 F2/\Rel X.K F2 H' σ' δ/\W (ts.drop (i+1)) δ):=
    fun σ' F' H' δ' ff rl' h'=>⟨ts.length-(i+1),by omega,rfl,hlt,δ',F',ff,rl',by rw[h2];exact h'⟩
   refine .inr ⟨go,fun σ' H'=>∃ δ F2,aE F1 F2/\Rel X.K F2 H' σ' δ/\W r δ,fun σ' H' ⟨δ',F',ff,rl',h'⟩=>nexts σ' F' H' δ' ff rl' h',fun v H2 y=>?_⟩;obtain⟨F3,e3,p3⟩:=yld v H2 y;refine⟨x,δ,_,F3,p3,rl.ext e3,wstep x r δ h,fun σ' δ' rl' h'=>?_⟩;exact⟨δ',_,F3,((s0.trans f1).trans f2).trans e3.ff,rl',h',⟨fun σ'' F'' H'' δ'' ff rl'' h''=>⟨δ'',F'',(f2.trans e3.ff).trans ff,rl'',h''⟩,ok.rt,fun σ'' F'' H'' δ'' ff rl'' h''=>ok.nx σ'' F'' H'' δ'' (((f1.trans f2).trans e3.ff).trans ff) rl'' h'',fun σ'' F'' H'' δ'' ff rl'' h''=>⟨δ'',F'',(f2.trans e3.ff).trans ff,rl'',h''⟩⟩⟩⟩
def pH (δ:aQ)(W:List T->aQ->Prop):S->Prop
 | .t (.lst ts)=>W ts δ
 | .vt (.lst ts)=>W ts (freeze δ)
 | .ol ts=>W ts δ
 | _=>False
def cu (we:WE):WI:=fun δ W=>we δ fun s=>pH δ W s
theorem rC {K:PySem.W.Frag}{F:Hp}{a:Addr}{xs:List V}{ts:List T}(h:cD K F a xs)(r:am K F ts xs):zI K F (Nv K a) ts:=by
 intro F1 H1 i f1 sb fu;have q:cD K H1 a xs:=sb.seq (f1.seq h);refine⟨fun t ht=>?_,fun hl=>⟨xs,q,by rw[r.length];exact hl⟩⟩
 obtain⟨x,h1,h2⟩:=r.get ht;refine⟨⟨xs,x,q,h1⟩,fun y H2 hy=>?_⟩;obtain⟨e,hy⟩:=hy;subst e;have:=hy xs q;rw[h1]at this
 cases this
 exact⟨F1,di.refl sb fu,aw.same f1 h2⟩
end
end DL
namespace DL
open PySem L2
mutual
def eqT:T->T->Bool
 | .non,.non=>true
 | .bl a,.bl b=>a == b
 | .bl a,.int b=>(if a then 1 else 0) == b
 | .int a,.bl b=>a == (if b then 1 else 0)
 | .int a,.int b=>a == b
 | .str a,.str b=>a == b
 | .tup a,.tup b=>cC a b
 | .lst a,.lst b=>cC a b
 | _,_=>false
def cC:List T->List T->Bool
 | [],[]=>true
 | a::r,b::s=>eqT a b && cC r s
 | _,_=>false
end
mutual
def dep:T->Nat
 | .tup ts=>gD ts+1
 | .lst ts=>gD ts+1
 | .exc _=>1000
 | _=>0
def gD:List T->Nat
 | []=>0
 | t::r=>max (dep t) (gD r)
end
mutual
theorem nr:∀ t:T,dep t<1000->eqT t t=true
 | .non,_=>rfl
 | .bl b,_=>by simp[eqT]
 | .int i,_=>by simp[eqT]
 | .str x,_=>by simp[eqT]
 | .tup ts,h=>by simp only[eqT];exact ly ts (by simp only[dep]at h;omega)
 | .lst ts,h=>by simp only[eqT];exact ly ts (by simp only[dep]at h;omega)
 | .exc _,h=>by simp[dep]at h
theorem ly:∀ ts:List T,gD ts<1000->cC ts ts=true
 | [],_=>by simp[cC]
 | t::r,h=>by
  simp only[gD]at h;simp only[cC,nr t (by omega),ly r (by omega)];rfl
end
section
variable {X:Cx}{pins:List (Addr × Obj)}{σ:St}{H:Hp}{s:Shared}
theorem tR (I:aN X pins σ H s){a:Addr}{xs ys:List V}(h:iD X.K H a xs)(g:cD X.K H a ys):False:=by
 obtain⟨its,_,p1,_⟩:=I.tuple h;obtain⟨its2,_,p2,_⟩:=I.list g;exact SeqAt.ne_of_list_tuple p2.isList p1 rfl
mutual
theorem aw.inj (I:aN X pins σ H s):∀ (t u:T) (v:V),dep t<1000->dep u<1000->aw X.K H t v->aw X.K H u v->t=u
 | .non,u,v,_,_,h,g=>by cases (show v=_ from h);cases u with
  | non=>rfl
  | tup ts=>unfold aw at g;obtain⟨_,_,e,_⟩:=g;cases e
  | lst ts=>unfold aw at g;obtain⟨_,_,e,_⟩:=g;cases e
  | exc c=>unfold aw at g;obtain⟨_,_,e,_⟩:=g;cases e
  | _=>cases g
 | .bl b,u,v,_,_,h,g=>by cases (show v=_ from h);cases u with
  | bl c=>cases g;rfl
  | tup ts=>unfold aw at g;obtain⟨_,_,e,_⟩:=g;cases e
  | lst ts=>unfold aw at g;obtain⟨_,_,e,_⟩:=g;cases e
  | exc c=>unfold aw at g;obtain⟨_,_,e,_⟩:=g;cases e
  | _=>cases g
 | .int b,u,v,_,_,h,g=>by cases (show v=_ from h);cases u with
  | int c=>cases g;rfl
  | tup ts=>unfold aw at g;obtain⟨_,_,e,_⟩:=g;cases e
  | lst ts=>unfold aw at g;obtain⟨_,_,e,_⟩:=g;cases e
  | exc c=>unfold aw at g;obtain⟨_,_,e,_⟩:=g;cases e
  | _=>cases g
 | .str b,u,v,_,_,h,g=>by cases (show v=_ from h);cases u with
  | str c=>cases g;rfl
  | tup ts=>unfold aw at g;obtain⟨_,_,e,_⟩:=g;cases e
  | lst ts=>unfold aw at g;obtain⟨_,_,e,_⟩:=g;cases e
  | exc c=>unfold aw at g;obtain⟨_,_,e,_⟩:=g;cases e
  | _=>cases g
 | .tup ts,u,v,d1,d2,h,g=>by
  unfold aw at h;obtain⟨a,xs,e,h1,h2⟩:=h;subst e
  cases u with
  | tup us=>
   unfold aw at g;obtain⟨b,ys,e,g1,g2⟩:=g
   cases e
   have:=I.tuple_inj h1 g1;subst this;rw[am.inj I ts us xs (by simp only[dep]at d1;omega) (by simp only[dep]at d2;omega) h2 g2]
  | lst us=>
   unfold aw at g;obtain⟨b,ys,e,g1,g2⟩:=g
   cases e
   exact(tR I h1 g1).elim
  | exc c=>simp[dep]at d2
  | _=>cases g
 | .lst ts,u,v,d1,d2,h,g=>by
  unfold aw at h;obtain⟨a,xs,e,h1,h2⟩:=h;subst e
  cases u with
  | lst us=>
   unfold aw at g;obtain⟨b,ys,e,g1,g2⟩:=g
   cases e
   have:=I.list_inj h1 g1;subst this;rw[am.inj I ts us xs (by simp only[dep]at d1;omega) (by simp only[dep]at d2;omega) h2 g2]
  | tup us=>
   unfold aw at g;obtain⟨b,ys,e,g1,g2⟩:=g
   cases e
   exact(tR I g1 h1).elim
  | exc c=>simp[dep]at d2
  | _=>cases g
 | .exc _,_,_,d1,_,_,_=>by simp[dep]at d1
theorem am.inj (I:aN X pins σ H s):∀ (ts us:List T) (xs:List V),gD ts<1000->gD us<1000->am X.K H ts xs->am X.K H us xs->ts=us
 | [],us,xs,_,_,h,g=>by
  cases (show xs=[] from h)
  cases us with
  | nil=>rfl
  | cons u us=>obtain⟨_,_,e,_⟩:=g;cases e
 | t::ts,us,xs,d1,d2,⟨x,r,e,h1,h2⟩,g=>by
  subst e
  cases us with
  | nil=>cases (show _=[] from g)
  | cons u us=>
   obtain⟨y,r',e,g1,g2⟩:=g
   cases e
   simp only[gD]at d1 d2;rw[aw.inj I t u x (by omega) (by omega) h1 g1,am.inj I ts us r (by omega) (by omega) h2 g2]
end
def mj (ts us:List T)(j:Nat):Bool:=match ts[j]?,us[j]? with
 | some a,some b=>eqT a b
 | _,_=>true
theorem nX (n:Nat)(e:Nat->Bool):(List.range (n+1)).all e=(e 0 && (List.range n).all fun j=>e (j+1)):=by
 rw[List.range_succ_eq_map,List.all_cons,List.all_map];rfl
theorem nt:∀ (ts us:List T),((List.range (min ts.length us.length)).all (mj ts us) && ts.length == us.length)=cC ts us
 | [],[]=>by simp[cC]
 | [],u::us=>by simp[cC]
 | t::ts,[]=>by simp[cC]
 | t::ts,u::us=>by
  have ih:=nt ts us;have e1:min (t::ts).length (u::us).length=min ts.length us.length+1:=by simp only[List.length_cons];omega
  rw[e1,nX];have e2:mj (t::ts) (u::us) 0=eqT t u:=by simp[mj]
  have e3:(fun j=>mj (t::ts) (u::us) (j+1))=mj ts us:=by funext j;simp[mj]
  have e4:((t::ts).length == (u::us).length)=(ts.length == us.length):=by simp
  rw[e2,e3,e4];simp only[cC];rw[<-ih,Bool.and_assoc]
theorem units_in1 (A:Around):A.in1.units=A.units+1:=rfl
theorem tj:∀ {ts:List T}{j:Nat}{t:T},ts[j]?=some t->dep t<=gD ts
 | [],_,_,h=>by simp at h
 | t::ts,0,u,h=>by simp at h;subst h;simp only[gD];omega
 | t::ts,j+1,u,h=>by
  have:=tj (ts:=ts) (j:=j) (t:=u) (by simpa using h)
  simp only[gD];omega
theorem rO {A:Around}{ts us:List T}{xs ys:List V}{its its2:List Value}(h1:am X.K H ts xs)(h2:am X.K H us ys)(r1:aT xs its)(r2:aT ys its2)
  (ih:∀ t u v1 v2 u1 u2,t∈ts->u∈us->aw X.K H t v1->aw X.K H u v2->RelV v1 u1->RelV v2 u2->SeqAt.EqAt A s u1 u2 (eqT t u)) :
  ∀ j (h1:j<its.toArray.size) (h2:j<its2.toArray.size),SeqAt.EqAt A s its.toArray[j] its2.toArray[j] (mj ts us j):=by
 intro j q1 q2;have l1:=h1.length;have l2:=h2.length;have l3:=r1.length;have l4:=r2.length;rw[List.size_toArray]at q1 q2;have g1:j<ts.length:=by omega
 have g2:j<us.length:=by omega
 obtain⟨x,p1,p2⟩:=h1.get (List.getElem?_eq_getElem g1);obtain⟨y,p3,p4⟩:=h2.get (List.getElem?_eq_getElem g2);obtain⟨w1,p5,p6⟩:=r1.get p1;obtain⟨w2,p7,p8⟩:=r2.get p3;have e1:its.toArray[j]=w1:=by
  have:=List.getElem?_eq_getElem q1;rw[p5]at this;simpa using (Option.some.inj this).symm
 have e2:its2.toArray[j]=w2:=by
  have:=List.getElem?_eq_getElem q2;rw[p7]at this;simpa using (Option.some.inj this).symm
 have e3:mj ts us j=eqT ts[j] us[j]:=by
  unfold mj;rw[List.getElem?_eq_getElem g1,List.getElem?_eq_getElem g2]
 rw[e1,e2,e3];exact ih _ _ x y w1 w2 (List.getElem_mem g1) (List.getElem_mem g2) p2 p4 p6 p8
theorem hV {ts:List T}{t:T}(h:t∈ts):dep t<=gD ts:=by
 obtain⟨j,hj,rfl⟩:=List.mem_iff_getElem.mp h;exact tj (List.getElem?_eq_getElem hj)
theorem ve {ts us:List T}(h:ts.length=us.length):(List.range ts.length).all (mj ts us)=cC ts us:=by
 have:=nt ts us;rw[<-h]at this;simpa using this
theorem tw:∀ {ts us:List T},ts.length≠us.length->cC ts us=false
 | [],[],h=>absurd rfl h
 | [],_::_,_=>by simp[cC]
 | _::_,[],_=>by simp[cC]
 | t::ts,u::us,h=>by
  simp only[cC];rw[tw (ts:=ts) (us:=us) (by simpa using h),Bool.and_false]
theorem MP {A:Around}{a b:Addr}{ts us:List T}{xs ys:List V}{its its2:List Value}(p2:am X.K H ts xs)(g2:am X.K H us ys)(q1:aT xs its)(q2:aT ys its2)(pl:PyProof.Rows.IsTup s.heap a its.toArray)(pl2:PyProof.Rows.IsTup s.heap b its2.toArray)(hu':A.units<cLine)
  (ih:∀ t u v1 v2 u1 u2,t∈ts->u∈us->aw X.K H t v1->aw X.K H u v2->RelV v1 u1->RelV v2 u2->SeqAt.EqAt A.in1 s u1 u2 (eqT t u)) :
  SeqAt.RcAt A s (.ref a) (.ref b) (cC ts us)/\SeqAt.RcNeAt A s (.ref a) (.ref b) (!cC ts us):=by
 have h1:=SeqAt.RcAt.tuples (A:=A) (e:=mj ts us) pl pl2 hu' (rO p2 g2 q1 q2 ih);have h2:=SeqAt.RcNeAt.tuples (A:=A) (e:=mj ts us) pl pl2 hu' (rO p2 g2 q1 q2 ih);rw[List.size_toArray,List.size_toArray,<-q1.length,<-q2.length,p2.length,g2.length,nt]at h1 h2;exact⟨h1,h2⟩
theorem MO {A:Around}{a b:Addr}{ts us:List T}{xs ys:List V}{its its2:List Value}(p2:am X.K H ts xs)(g2:am X.K H us ys)(q1:aT xs its)(q2:aT ys its2)(pl:PlainL s.heap a its.toArray)(pl2:PlainL s.heap b its2.toArray)(hu':A.units<cLine)
  (ih:∀ t u v1 v2 u1 u2,t∈ts->u∈us->aw X.K H t v1->aw X.K H u v2->RelV v1 u1->RelV v2 u2->SeqAt.EqAt A.in1 s u1 u2 (eqT t u)) :
  SeqAt.RcAt A s (.ref a) (.ref b) (cC ts us)/\SeqAt.RcNeAt A s (.ref a) (.ref b) (!cC ts us):=by
 have e1:its.toArray.size=ts.length:=by rw[List.size_toArray,<-q1.length,p2.length]
 have e2:its2.toArray.size=us.length:=by rw[List.size_toArray,<-q2.length,g2.length]
 by_cases hl:ts.length=us.length
 ·have hp:=rO (A:=A.in1) p2 g2 q1 q2 ih;have g1:=SeqAt.RcAt.lists pl.isList pl2.isList (by rw[e1,e2,hl]) hu' hp
  have g2:=SeqAt.RcNeAt.lists pl.isList pl2.isList (by rw[e1,e2,hl]) hu' hp
  rw[e1,ve hl]at g1 g2;exact⟨g1,g2⟩
 ·have ne:(its.toArray.size != its2.toArray.size)=true:=by rw[e1,e2];simpa using hl
  rw[tw hl];exact⟨SeqAt.RcAt.lists_lengths pl.isList pl2.isList ne hu',SeqAt.RcNeAt.lists_lengths pl.isList pl2.isList ne hu'⟩
theorem nZ (I:aN X pins σ H s):∀ (n:Nat) (A:Around) (t u:T) (v1 v2:V) (u1 u2:Value),dep t<=n->dep u<1000->n<1000->A.units+n<cLine->aw X.K H t v1->aw X.K H u v2->RelV v1 u1->RelV v2 u2 →
  SeqAt.RcAt A s u1 u2 (eqT t u)/\SeqAt.RcNeAt A s u1 u2 (!eqT t u)/\SeqAt.EqAt A s u1 u2 (eqT t u):=by
 intro n
 induction n with
 | zero=>
  intro A t u v1 v2 u1 u2 hd hd2 hn hu h1 h2 r1 r2;have hu':A.units<cLine:=by omega
  cases t with
  | tup ts=>simp only[dep]at hd;omega
  | lst ts=>simp only[dep]at hd;omega
  | exc c=>simp[dep]at hd
  | non=>
   cases h1;cases r1
   cases u with
   | non=>cases h2;cases r2;exact⟨SeqAt.RcAt.none_none,SeqAt.RcNeAt.none_none,SeqAt.EqAt.same _⟩
   | bl b=>cases h2;cases r2;exact⟨SeqAt.RcAt.none_bool b,SeqAt.RcNeAt.none_bool b,SeqAt.EqAt.none_bool b⟩
   | int b=>cases h2;obtain⟨tk,rfl⟩:=r2;exact⟨SeqAt.RcAt.none_int b tk,SeqAt.RcNeAt.none_int b tk,SeqAt.EqAt.none_int b tk⟩
   | str b=>cases h2;obtain⟨tk,rfl⟩:=r2;exact⟨SeqAt.RcAt.none_str b tk,SeqAt.RcNeAt.none_str b tk,SeqAt.EqAt.none_str b tk⟩
   | tup us=>
    unfold aw at h2;obtain⟨a,xs,rfl,g1,g2⟩:=h2
    cases r2
    obtain⟨its,_,pl,_⟩:=I.tuple g1;exact⟨SeqAt.RcAt.none_tuple pl hu',SeqAt.RcNeAt.none_tuple pl hu',SeqAt.EqAt.none_tuple pl hu'⟩
   | lst us=>
    unfold aw at h2;obtain⟨a,xs,rfl,g1,g2⟩:=h2
    cases r2
    obtain⟨its,_,pl,_⟩:=I.list g1;exact⟨SeqAt.RcAt.none_list pl.isList hu',SeqAt.RcNeAt.none_list pl.isList hu',SeqAt.EqAt.none_list pl.isList hu'⟩
   | exc c=>simp[dep]at hd2
  | bl c=>
   cases h1;cases r1
   cases u with
   | non=>cases h2;cases r2;exact⟨SeqAt.RcAt.bool_none c,SeqAt.RcNeAt.bool_none c,SeqAt.EqAt.bool_none c⟩
   | bl b=>cases h2;cases r2;exact⟨SeqAt.RcAt.bool_bool c b,SeqAt.RcNeAt.bool_bool c b,SeqAt.EqAt.bool_bool c b⟩
   | int b=>cases h2;obtain⟨tk,rfl⟩:=r2;exact⟨SeqAt.RcAt.bool_int c b tk,SeqAt.RcNeAt.bool_int c b tk,SeqAt.EqAt.bool_int c b tk⟩
   | str b=>cases h2;obtain⟨tk,rfl⟩:=r2;exact⟨SeqAt.RcAt.bool_str c b tk,SeqAt.RcNeAt.bool_str c b tk,SeqAt.EqAt.bool_str c b tk⟩
   | tup us=>
    unfold aw at h2;obtain⟨a,xs,rfl,g1,g2⟩:=h2
    cases r2
    obtain⟨its,_,pl,_⟩:=I.tuple g1;exact⟨SeqAt.RcAt.bool_tuple c pl hu',SeqAt.RcNeAt.bool_tuple c pl hu',SeqAt.EqAt.bool_tuple c pl hu'⟩
   | lst us=>
    unfold aw at h2;obtain⟨a,xs,rfl,g1,g2⟩:=h2
    cases r2
    obtain⟨its,_,pl,_⟩:=I.list g1;exact⟨SeqAt.RcAt.bool_list c pl.isList hu',SeqAt.RcNeAt.bool_list c pl.isList hu',SeqAt.EqAt.bool_list c pl.isList hu'⟩
   | exc c=>simp[dep]at hd2
  | int c=>
   cases h1;obtain⟨tk1,rfl⟩:=r1
   cases u with
   | non=>cases h2;cases r2;exact⟨SeqAt.RcAt.int_none c tk1,SeqAt.RcNeAt.int_none c tk1,SeqAt.EqAt.int_none c tk1⟩
   | bl b=>cases h2;cases r2;exact⟨SeqAt.RcAt.int_bool c tk1 b,SeqAt.RcNeAt.int_bool c tk1 b,SeqAt.EqAt.int_bool c tk1 b⟩
   | int b=>cases h2;obtain⟨tk,rfl⟩:=r2;exact⟨SeqAt.RcAt.int_int c tk1 b tk,SeqAt.RcNeAt.int_int c tk1 b tk,SeqAt.EqAt.int_int c tk1 b tk⟩
   | str b=>cases h2;obtain⟨tk,rfl⟩:=r2;exact⟨SeqAt.RcAt.int_str c tk1 b tk,SeqAt.RcNeAt.int_str c tk1 b tk,SeqAt.EqAt.int_str c tk1 b tk⟩
   | tup us=>
    unfold aw at h2;obtain⟨a,xs,rfl,g1,g2⟩:=h2
    cases r2
    obtain⟨its,_,pl,_⟩:=I.tuple g1;exact⟨SeqAt.RcAt.int_tuple c tk1 pl hu',SeqAt.RcNeAt.int_tuple c tk1 pl hu',SeqAt.EqAt.int_tuple c tk1 pl hu'⟩
   | lst us=>
    unfold aw at h2;obtain⟨a,xs,rfl,g1,g2⟩:=h2
    cases r2
    obtain⟨its,_,pl,_⟩:=I.list g1;exact⟨SeqAt.RcAt.int_list c tk1 pl.isList hu',SeqAt.RcNeAt.int_list c tk1 pl.isList hu',SeqAt.EqAt.int_list c tk1 pl.isList hu'⟩
   | exc c=>simp[dep]at hd2
  | str c=>
   cases h1;obtain⟨tk1,rfl⟩:=r1
   cases u with
   | non=>cases h2;cases r2;exact⟨SeqAt.RcAt.str_none c tk1,SeqAt.RcNeAt.str_none c tk1,SeqAt.EqAt.str_none c tk1⟩
   | bl b=>cases h2;cases r2;exact⟨SeqAt.RcAt.str_bool c tk1 b,SeqAt.RcNeAt.str_bool c tk1 b,SeqAt.EqAt.str_bool c tk1 b⟩
   | int b=>cases h2;obtain⟨tk,rfl⟩:=r2;exact⟨SeqAt.RcAt.str_int c tk1 b tk,SeqAt.RcNeAt.str_int c tk1 b tk,SeqAt.EqAt.str_int c tk1 b tk⟩
   | str b=>cases h2;obtain⟨tk,rfl⟩:=r2;exact⟨SeqAt.RcAt.str_str c tk1 b tk,SeqAt.RcNeAt.str_str c tk1 b tk,SeqAt.EqAt.str_str c tk1 b tk⟩
   | tup us=>
    unfold aw at h2;obtain⟨a,xs,rfl,g1,g2⟩:=h2
    cases r2
    obtain⟨its,_,pl,_⟩:=I.tuple g1;exact⟨SeqAt.RcAt.str_tuple c tk1 pl hu',SeqAt.RcNeAt.str_tuple c tk1 pl hu',SeqAt.EqAt.str_tuple c tk1 pl hu'⟩
   | lst us=>
    unfold aw at h2;obtain⟨a,xs,rfl,g1,g2⟩:=h2
    cases r2
    obtain⟨its,_,pl,_⟩:=I.list g1;exact⟨SeqAt.RcAt.str_list c tk1 pl.isList hu',SeqAt.RcNeAt.str_list c tk1 pl.isList hu',SeqAt.EqAt.str_list c tk1 pl.isList hu'⟩
   | exc c=>simp[dep]at hd2
 | succ n ih=>
  intro A t u v1 v2 u1 u2 hd hd2 hn hu h1 h2 r1 r2;have hu':A.units<cLine:=by omega
  have ih:=fun A t u v1 v2 u1 u2 a b=>ih A t u v1 v2 u1 u2 a b (by omega)
  cases t with
  | tup ts=>
   unfold aw at h1;obtain⟨a,xs,rfl,p1,p2⟩:=h1
   cases r1
   obtain⟨its,q1,pl,_⟩:=I.tuple p1
   cases u with
   | tup us=>
    unfold aw at h2;obtain⟨b,ys,rfl,g1,g2⟩:=h2
    cases r2
    obtain⟨its2,q2,pl2,_⟩:=I.tuple g1;simp only[dep]at hd hd2;have rr:SeqAt.RcAt A s (.ref a) (.ref b) (cC ts us)/\SeqAt.RcNeAt A s (.ref a) (.ref b) (!cC ts us):=
     MP p2 g2 q1 q2 pl pl2 hu' fun t u v1 v2 u1 u2 ht hu2 k1 k2 k3 k4=>
      (ih A.in1 t u v1 v2 u1 u2 (by have:=hV ht;omega) (by have:=hV hu2;omega) (by rw[units_in1];omega) k1 k2 k3 k4).2.2
    refine⟨by simpa only [eqT] using rr.1,by simpa only [eqT] using rr.2,?_⟩
    by_cases hab:a=b
    ·subst hab;have:=I.tuple_inj p1 g1;subst this;have:=am.inj I ts us xs (by omega) (by omega) p2 g2
     subst this;rw[nr _ (by simp only[dep];omega)]
     exact SeqAt.EqAt.same _
    ·simp only[eqT];exact SeqAt.EqAt.of_refs hab rr.1
   | lst us=>
    unfold aw at h2;obtain⟨b,ys,rfl,g1,g2⟩:=h2
    cases r2
    obtain⟨its2,q2,pl2,_⟩:=I.list g1;exact⟨SeqAt.RcAt.tuple_list pl pl2.isList hu',SeqAt.RcNeAt.tuple_list pl pl2.isList hu',SeqAt.EqAt.tuple_list pl pl2.isList hu'⟩
   | non=>cases h2;cases r2;exact⟨SeqAt.RcAt.tuple_none pl hu',SeqAt.RcNeAt.tuple_none pl hu',SeqAt.EqAt.tuple_none pl hu'⟩
   | bl b=>cases h2;cases r2;exact⟨SeqAt.RcAt.tuple_bool b pl hu',SeqAt.RcNeAt.tuple_bool b pl hu',SeqAt.EqAt.tuple_bool b pl hu'⟩
   | int b=>cases h2;obtain⟨tk,rfl⟩:=r2;exact⟨SeqAt.RcAt.tuple_int b tk pl hu',SeqAt.RcNeAt.tuple_int b tk pl hu',SeqAt.EqAt.tuple_int b tk pl hu'⟩
   | str b=>cases h2;obtain⟨tk,rfl⟩:=r2;exact⟨SeqAt.RcAt.tuple_str b tk pl hu',SeqAt.RcNeAt.tuple_str b tk pl hu',SeqAt.EqAt.tuple_str b tk pl hu'⟩
   | exc c=>simp[dep]at hd2
  | lst ts=>
   unfold aw at h1;obtain⟨a,xs,rfl,p1,p2⟩:=h1
   cases r1
   obtain⟨its,q1,pl,_⟩:=I.list p1
   cases u with
   | lst us=>
    unfold aw at h2;obtain⟨b,ys,rfl,g1,g2⟩:=h2
    cases r2
    obtain⟨its2,q2,pl2,_⟩:=I.list g1;simp only[dep]at hd hd2;have rr:SeqAt.RcAt A s (.ref a) (.ref b) (cC ts us)/\SeqAt.RcNeAt A s (.ref a) (.ref b) (!cC ts us):=
     MO p2 g2 q1 q2 pl pl2 hu' fun t u v1 v2 u1 u2 ht hu2 k1 k2 k3 k4=>
      (ih A.in1 t u v1 v2 u1 u2 (by have:=hV ht;omega) (by have:=hV hu2;omega) (by rw[units_in1];omega) k1 k2 k3 k4).2.2
    refine⟨by simpa only [eqT] using rr.1,by simpa only [eqT] using rr.2,?_⟩
    by_cases hab:a=b
    ·subst hab;have:=I.list_inj p1 g1;subst this;have:=am.inj I ts us xs (by omega) (by omega) p2 g2
     subst this;rw[nr _ (by simp only[dep];omega)]
     exact SeqAt.EqAt.same _
    ·simp only[eqT];exact SeqAt.EqAt.of_refs hab rr.1
   | tup us=>
    unfold aw at h2;obtain⟨b,ys,rfl,g1,g2⟩:=h2
    cases r2
    obtain⟨its2,q2,pl2,_⟩:=I.tuple g1;exact⟨SeqAt.RcAt.list_tuple pl.isList pl2 hu',SeqAt.RcNeAt.list_tuple pl.isList pl2 hu',SeqAt.EqAt.list_tuple pl.isList pl2 hu'⟩
   | non=>cases h2;cases r2;exact⟨SeqAt.RcAt.list_none pl.isList hu',SeqAt.RcNeAt.list_none pl.isList hu',SeqAt.EqAt.list_none pl.isList hu'⟩
   | bl b=>cases h2;cases r2;exact⟨SeqAt.RcAt.list_bool b pl.isList hu',SeqAt.RcNeAt.list_bool b pl.isList hu',SeqAt.EqAt.list_bool b pl.isList hu'⟩
   | int b=>cases h2;obtain⟨tk,rfl⟩:=r2;exact⟨SeqAt.RcAt.list_int b tk pl.isList hu',SeqAt.RcNeAt.list_int b tk pl.isList hu',SeqAt.EqAt.list_int b tk pl.isList hu'⟩
   | str b=>cases h2;obtain⟨tk,rfl⟩:=r2;exact⟨SeqAt.RcAt.list_str b tk pl.isList hu',SeqAt.RcNeAt.list_str b tk pl.isList hu',SeqAt.EqAt.list_str b tk pl.isList hu'⟩
   | exc c=>simp[dep]at hd2
  | exc c=>simp only[dep]at hd;omega
  | non=>exact ih A _ u v1 v2 u1 u2 (by simp only[dep];omega) hd2 (by omega) h1 h2 r1 r2
  | bl c=>exact ih A _ u v1 v2 u1 u2 (by simp only[dep];omega) hd2 (by omega) h1 h2 r1 r2
  | int c=>exact ih A _ u v1 v2 u1 u2 (by simp only[dep];omega) hd2 (by omega) h1 h2 r1 r2
  | str c=>exact ih A _ u v1 v2 u1 u2 (by simp only[dep];omega) hd2 (by omega) h1 h2 r1 r2
end
end DL
namespace DL
open PySem L2
def sh (s:S):Prop:=dep (tr s)<=20
def L6 (a b:S):Bool:=eqT (tr a) (tr b)
def dL:S->S->(S->Prop)->Prop:=fun a b R=>sh a/\sh b/\R (.t (.bl (L6 a b)))
def dO:S->S->(S->Prop)->Prop:=fun a b R=>sh a/\sh b/\R (.t (.bl (!L6 a b)))
abbrev lM:=au dL
abbrev zu:=au dO
def Gs (K:PySem.W.Frag)(neg:Bool):R2:=fun x y H Q=>∃ a b,dep a<=20/\dep b<=20/\aw K H a x/\aw K H b y/\Q (.bl (if neg then !eqT a b else eqT a b)) H
def Mn (x:T)(ts:List T):Bool:=ts.any fun t=>eqT t x
def ny:S->S->(S->Prop)->Prop:=fun a b R=>match tr b with
 | .lst ts=>sh a/\gD ts<=20/\R (.t (.bl (!Mn (tr a) ts)))
 | .tup ts=>sh a/\gD ts<=20/\R (.t (.bl (!Mn (tr a) ts)))
 | _=>False
abbrev DS:=au ny
def MG (K:PySem.W.Frag)(neg:Bool):R2:=fun x y H Q=>∃ a p xs ts,dep a<=20/\gD ts<=20/\aw K H a x/\y=.ref p/\(cD K H p xs\/iD K H p xs)/\am K H ts xs/\Q (.bl (if neg then !Mn a ts else Mn a ts)) H
def G7:T->Bool
 | .non=>true
 | _=>false
def DQ (wa:WE):WE:=fun δ R=>wa δ fun s=>R (.t (.bl (G7 (tr s))))
def pY (wa:WE):WE:=fun δ R=>wa δ fun s=>R (.t (.bl (!G7 (tr s))))
section
variable {X:Cx}
theorem Da (hu:X.A.units+64<cLine):lg X (compareOp .Eq) (Gs X.K false):=by
 intro pins s σ H x y v u Q I rx ry h;obtain⟨a,b,h1,h2,p1,p2,q⟩:=h;exact(nZ I 20 X.A a b x y v u h1 (by omega) (by omega) (by omega) p1 p2 rx ry).1 X.prog X.w X.xe _ ⟨.bl _,H,I,rfl,q⟩
theorem JQ (hu:X.A.units+64<cLine):lg X (compareOp .NotEq) (Gs X.K true):=by
 intro pins s σ H x y v u Q I rx ry h;obtain⟨a,b,h1,h2,p1,p2,q⟩:=h;exact(nZ I 20 X.A a b x y v u h1 (by omega) (by omega) (by omega) p1 p2 rx ry).2.1 X.prog X.w X.xe _ ⟨.bl _,H,I,rfl,q⟩
theorem C9 {K:PySem.W.Frag}:D9 K (Gs K false) dL:=fun F H s1 s2 v1 v2 R Q sb fu p1 p2 h k=>⟨tr s1,tr s2,h.1,h.2.1,p1.tree sb,p2.tree sb,k _ F H (.t (.bl _)) (di.refl sb fu) rfl h.2.2⟩
theorem JM {K:PySem.W.Frag}:D9 K (Gs K true) dO:=fun F H s1 s2 v1 v2 R Q sb fu p1 p2 h k=>⟨tr s1,tr s2,h.1,h.2.1,p1.tree sb,p2.tree sb,k _ F H (.t (.bl _)) (di.refl sb fu) rfl h.2.2⟩
noncomputable def E9 (X:Cx) (H:Hp) (a:T) (ts:List T) (u:Value):Bool:=open Classical in decide (∃ t v,t∈ts/\aw X.K H t v/\RelV v u/\eqT t a=true)
theorem Dt {v w:V}{u:Value}(h:RelV v u)(g:RelV w u):v=w:=RelV.inj h g
theorem Au {pins:List (Addr × Obj)}{σ:St}{H:Hp}{s:Shared}(I:aN X pins σ H s){a:T}{ts:List T}(hd:gD ts<1000){t:T}{v:V}{u:Value}(ht:t∈ts)(h:aw X.K H t v)(r:RelV v u):E9 X H a ts u=eqT t a:=by
 unfold E9
 cases e:eqT t a with
 | true=>exact @decide_eq_true _ (Classical.propDecidable _) ⟨t,v,ht,h,r,e⟩
 | false=>
  refine @decide_eq_false _ (Classical.propDecidable _) ?_;rintro⟨t',v',ht',h',r',e'⟩;have:=Dt r r';subst this;have d1:=hV ht;have d2:=hV ht';have:=aw.inj I t t' v (by omega) (by omega) h h'
  subst this;rw[e]at e';cases e'
theorem wR {pins:List (Addr × Obj)}{σ:St}{H:Hp}{s:Shared}(I:aN X pins σ H s){a:T}{us:List T}(hd:gD us<1000):∀ {ts:List T}{xs:List V}{its:List Value},(∀ t∈ts,t∈us)->am X.K H ts xs->aT xs its->its.any (E9 X H a us)=ts.any fun t=>eqT t a
 | [],_,_,_,h,r=>by cases (show _=[] from h);cases r;rfl
 | t::ts,_,_,hm,⟨x,r,e,p,q⟩,rv=>by
  subst e
  cases rv with
  | cons r1 r2=>
   rw[List.any_cons,List.any_cons,Au I hd (hm t List.mem_cons_self) p r1,wR I hd (fun z hz=>hm z (List.mem_cons_of_mem _ hz)) q r2]
theorem uj {K:PySem.W.Frag}{H:Hp}:∀ {ts:List T}{xs:List V}{its:List Value}{u:Value},am K H ts xs->aT xs its->u∈its->∃ t v,t∈ts/\aw K H t v/\RelV v u
 | [],_,_,_,h,r,m=>by cases (show _=[] from h);cases r;cases m
 | t::ts,_,_,_,⟨x,r,e,p,q⟩,rv,m=>by
  subst e
  cases rv with
  | cons r1 r2=>
   rcases List.mem_cons.mp m with rfl|m
   ·exact⟨t,x,List.mem_cons_self,p,r1⟩
   ·obtain⟨t',v',h1,h2,h3⟩:=uj q r2 m;exact⟨t',v',List.mem_cons_of_mem _ h1,h2,h3⟩
theorem tN {pins:List (Addr × Obj)}{σ:St}{H:Hp}{s:Shared}(I:aN X pins σ H s)(hu:X.A.units+64<cLine){a:T}{ts:List T}{x:V}{v:Value}{xs:List V}{its:List Value}(h1:dep a<=20)(h2:gD ts<=20)(p1:aw X.K H a x)(rx:RelV x v)(p2:am X.K H ts xs)(r:aT xs its) :
  (∀ y,y∈its.toArray->SeqAt.EqAt X.A.in1 s y v (E9 X H a ts y))/\its.toArray.any (E9 X H a ts)=Mn a ts:=by
 refine⟨fun y hy=>?_,?_⟩
 ·obtain⟨t,w,m1,m2,m3⟩:=uj p2 r (by simpa using hy)
  have d:=hV m1;rw[Au I (by omega) m1 m2 m3]
  exact(nZ I 20 X.A.in1 t a w x y v (by omega) (by omega) (by omega) (by rw[units_in1];omega) m2 p1 m3 rx).2.2
 ·rw[show its.toArray.any (E9 X H a ts)=its.any (E9 X H a ts) by simp,wR I (by omega) (fun _ h=>h) p2 r]
  rfl
theorem yZ (hu:X.A.units+64<cLine):lg X (compareOp .NotIn) (MG X.K true):=by
 intro pins s σ H x y v u Q I rx ry h;obtain⟨a,p,xs,ts,h1,h2,p1,rfl,hq,p2,q⟩:=h
 cases ry
 rcases hq with hq|hq
 ·obtain⟨its,r,pl,hz⟩:=I.list hq;obtain⟨g1,g2⟩:=tN I hu h1 h2 p1 rx p2 r;refine SeqAt.notIn_listAt (E9 X H a ts) pl.isList g1 ⟨.bl _,H,I,rfl,?_⟩;rw[g2];exact q
 ·obtain⟨its,r,pl,hz⟩:=I.tuple hq;obtain⟨g1,g2⟩:=tN I hu h1 h2 p1 rx p2 r;refine SeqAt.notIn_tupleAt (E9 X H a ts) pl g1 ⟨.bl _,H,I,rfl,?_⟩;rw[g2];exact q
theorem yY {K:PySem.W.Frag}:D9 K (MG K true) ny:=fun F H s1 s2 v1 v2 R Q sb fu p1 p2 h k=>by
 have t2:=p2.tree sb;unfold ny at h
 split at h
 ·rename_i ts e;rw[e]at t2;unfold aw at t2;obtain⟨p,xs,q1,q2,q3⟩:=t2;exact⟨tr s1,p,xs,ts,h.1,h.2.1,p1.tree sb,q1,.inl q2,q3,k _ F H (.t (.bl _)) (di.refl sb fu) rfl h.2.2⟩
 ·rename_i ts e;rw[e]at t2;unfold aw at t2;obtain⟨p,xs,q1,q2,q3⟩:=t2;exact⟨tr s1,p,xs,ts,h.1,h.2.1,p1.tree sb,q1,.inr q2,q3,k _ F H (.t (.bl _)) (di.refl sb fu) rfl h.2.2⟩
 ·exact h.elim
variable {a b:Expr}{wa wb:WE}{pos:Pos}
theorem tf {k:Nat}(hr:b7 k X.A)(ha:PE X a (ap X.K wa))(hb:PE X b (ap X.K wb)):PE X (.Compare a [.Eq] [b] pos) (ap X.K (lM wa wb)):=(rQ (Da hr.units) ha hb (gn _)).imp (ce C9)
theorem dm {k:Nat}(hr:b7 k X.A)(ha:PE X a (ap X.K wa))(hb:PE X b (ap X.K wb)):PT X (.Compare a [.Eq] [b] pos) (liftT X.K (wB (lM wa wb))):=lw (Da hr.units) C9 ha hb (gn _)
theorem iM {k:Nat}(hr:b7 k X.A)(ha:PE X a (ap X.K wa))(hb:PE X b (ap X.K wb)):PT X (.Compare a [.NotEq] [b] pos) (liftT X.K (wB (zu wa wb))):=lw (JQ hr.units) JM ha hb (gn _)
theorem Ap {k:Nat}(hr:b7 k X.A)(ha:PE X a (ap X.K wa))(hb:PE X b (ap X.K wb))(hm:behindInMarks .NotIn b=false:=by rfl):PT X (.Compare a [.NotIn] [b] pos) (liftT X.K (wB (DS wa wb))):=lw (yZ hr.units) yY ha hb hm
theorem BC {K:PySem.W.Frag}{H:Hp}{t:T}{v:V}(h:aw K H t v):decide (v=.non)=G7 t:=by
 cases t <;> first
  | (cases h;rfl)
  | (unfold aw at h;obtain⟨_,_,rfl,_⟩:=h;rfl)
  | (unfold aw at h;obtain⟨_,rfl,_⟩:=h;rfl)
theorem BM {K:PySem.W.Frag}:∀ σ H Q,ap K (DQ wa) σ H Q->Kx (fun x y H Q=>y=.non/\Q (.bl (decide (x=.non))) H) (ap K wa) (ap K (wC .non)) σ H Q:=by
 rintro σ H Q ⟨δ,R,F,rl,h,k⟩;refine⟨δ,_,F,rl,h,fun v1 F1 H1 s1 e1 p1 h1=>?_⟩;refine⟨δ,fun s=>s=.t .non,F1,rl.ext e1,rfl,fun v2 F2 H2 s2 e2 p2 h2=>?_⟩;subst h2;refine⟨p2,k _ F2 H2 (.t (.bl (G7 (tr s1)))) (e1.trans e2) ?_ h1⟩;show _=_;rw[BC (((p1.ext e2).val e2.sub).tree e2.sub)]
theorem yG {K:PySem.W.Frag}:∀ σ H Q,ap K (pY wa) σ H Q->Kx (fun x y H Q=>y=.non/\Q (.bl (!decide (x=.non))) H) (ap K wa) (ap K (wC .non)) σ H Q:=by
 rintro σ H Q ⟨δ,R,F,rl,h,k⟩;refine⟨δ,_,F,rl,h,fun v1 F1 H1 s1 e1 p1 h1=>?_⟩;refine⟨δ,fun s=>s=.t .non,F1,rl.ext e1,rfl,fun v2 F2 H2 s2 e2 p2 h2=>?_⟩;subst h2;refine⟨p2,k _ F2 H2 (.t (.bl (!G7 (tr s1)))) (e1.trans e2) ?_ h1⟩;show _=_;rw[BC (((p1.ext e2).val e2.sub).tree e2.sub)]
theorem Am {j:Nat}{p:Pos}(ha:PE X a (ap X.K wa)):PT X (.Compare a [.Is] [.Constant .none j p] pos) (liftT X.K (wB (DQ wa))):=
 (rT JP ha qv (gn _)).imp fun σ H Q ⟨δ,R,F,rl,h,k⟩=>by
  refine BM σ H _ ⟨δ,_,F,rl,h,fun v F1 H1 s e p q=>?_⟩
  split at q
  ·exact⟨_,p,k F1 H1 _ e q⟩
  ·exact q.elim
theorem qB {j:Nat}{p:Pos}(ha:PE X a (ap X.K wa)):PT X (.Compare a [.IsNot] [.Constant .none j p] pos) (liftT X.K (wB (pY wa))):=
 (rT FW ha qv (gn _)).imp fun σ H Q ⟨δ,R,F,rl,h,k⟩=>by
  refine yG σ H _ ⟨δ,_,F,rl,h,fun v F1 H1 s e p q=>?_⟩
  split at q
  ·exact⟨_,p,k F1 H1 _ e q⟩
  ·exact q.elim
end
inductive Ty where
 | non|bool|int|str|tup|lst|exc
def Ty.nm:Ty->String
 | .non=>"NoneType" | .bool=>"bool" | .int=>"int" | .str=>"str" | .tup=>"tuple" | .lst=>"list" | .exc=>""
def Hn:T->Ty
 | .non=>.non
 | .bl _=>.bool
 | .int _=>.int
 | .str _=>.str
 | .tup _=>.tup
 | .lst _=>.lst
 | .exc _=>.exc
def zt (s:S):Ty:=Hn (tr s)
def bX:Ty->Ty->Bool
 | .non,.non=>true
 | .bool,.bool=>true
 | .bool,.int=>true
 | .int,.int=>true
 | .str,.str=>true
 | .tup,.tup=>true
 | .lst,.lst=>true
 | _,_=>false
theorem lD (K:PySem.W.Frag)(a b:Ty)(ha:a≠.exc)(hb:b≠.exc):PySem.W.kitOne K (.type a.nm) (.type b.nm)=some (bX a b):=by
 cases a <;> first|exact absurd rfl ha|(cases b <;> first|exact absurd rfl hb|with_unfolding_all rfl)
def xH (ty:Ty)(we:WE):WE:=fun δ R=>we δ fun s=>zt s≠.exc/\R (.t (.bl (bX (zt s) ty)))
def O0 (K:PySem.W.Frag)(ty:Ty):List V->Hp->VK->Prop:=fun xs H Q=>∃ x a,xs=[x,.ty ty.nm]/\Hn a≠.exc/\aw K H a x/\Q (.bl (bX (Hn a) ty)) H
section
variable {X:Cx}
theorem EN {ty:Ty} (ht:ty≠.exc):eW X (.builtin "isinstance") (O0 X.K ty):=by
 intro pins s σ H xs us Q I r h;obtain⟨x,a,rfl,hne,p,q⟩:=h;obtain⟨u,w',rfl,r1,r2⟩:=vals2 r
 cases r2
 have fin:∀ tk,EP X pins σ Q (.bool (bX (Hn a) ty)) {s with toks:=tk}:=fun tk=>⟨.bl _,H,I.tok _,rfl,q⟩
 cases a with
 | non=>cases p;cases r1;exact PySem.W.kia_one PySem.W.kitx_none I.kIn True.intro (lD X.K .non ty (by simp) ht) (fun z=>nomatch z) fin
 | bl c=>cases p;cases r1;exact PySem.W.kia_one PySem.W.kitx_bool I.kIn True.intro (lD X.K .bool ty (by simp) ht) (fun z=>nomatch z) fin
 | int c=>cases p;obtain⟨t,rfl⟩:=r1;exact PySem.W.kia_one PySem.W.kitx_int I.kIn True.intro (lD X.K .int ty (by simp) ht) (fun z=>nomatch z) fin
 | str c=>cases p;obtain⟨t,rfl⟩:=r1;exact PySem.W.kia_one PySem.W.kitx_str I.kIn True.intro (lD X.K .str ty (by simp) ht) (fun z=>nomatch z) fin
 | tup ts=>
  unfold aw at p;obtain⟨b,zs,rfl,p3,p4⟩:=p
  cases r1
  obtain⟨its,_,⟨o,e,c,_⟩,_⟩:=I.tuple p3;exact PySem.W.kia_one PySem.W.kitx_tuple I.kIn ⟨o,e,c⟩ (lD X.K .tup ty (by simp) ht) (fun z=>nomatch z) fin
 | lst ts=>
  unfold aw at p;obtain⟨b,zs,rfl,p3,p4⟩:=p
  cases r1
  obtain⟨its,_,⟨o,n,e,c,hd,d⟩,_⟩:=I.list p3;exact PySem.W.kia_one PySem.W.kitx_list I.kIn ⟨o,e,c⟩ (lD X.K .lst ty (by simp) ht) (fun z=>nomatch z) fin
 | exc c=>exact absurd rfl hne
variable {e:Expr}{we:WE}{pos p p2:Pos}
theorem wK {x:Str} (ty:Ty) (ht:ty≠.exc) (hv:bootBuiltins x=some (.type ty.nm)) (hm:X.mg "isinstance"=none) (hm2:X.mg x=none) (he:PE X e (ap X.K we)) (hg:Gl X "isinstance") (hg2:Gl X x) (hn:x≠"__name__") (hdb:(x == ("__debug__":Str))=false)
  (h1:starEach [e,.Name x p2] X.env=(false,eval e X.env)::starEach [.Name x p2] X.env) (h2:starEach [.Name x p2] X.env=(false,eval (.Name x p2) X.env)::starEach [] X.env) (h3:(backTo pos (starEach [.Name x p2] X.env)).any (·.1)=false) :
  PE X (.Call (.Name "isinstance" p) [e,.Name x p2] [] pos) (ap X.K (xH ty we)):=
 (uv (EN (ty:=ty) ht) hg hm PyProof.Rows.boot_isinstance (cB he (cB (FZ (v:=.ty ty.nm) hg2 hm2 hv rfl hn hdb) jY h2) h1) (by decide) (by decide) h1 h3).imp fun σ H Q ⟨δ,R,F,rl,h,k⟩=>⟨δ,_,F,rl,h,fun v F1 H1 s e p q=>
  ⟨v,tr s,rfl,q.1,(p.val e.sub).tree e.sub,k _ F1 H1 (.t (.bl _)) e rfl q.2⟩⟩
theorem yf (hm:X.mg "isinstance"=none) (hm2:X.mg "int"=none) (he:PE X e (ap X.K we)) (hg:Gl X "isinstance":=by rfl) (hg2:Gl X "int":=by rfl) (h1:starEach [e,.Name "int" p2] X.env=(false,eval e X.env)::starEach [.Name "int" p2] X.env:=by rfl) (h2:starEach [.Name "int" p2] X.env=(false,eval (.Name "int" p2) X.env)::starEach [] X.env:=by rfl) (h3:(backTo pos (starEach [.Name "int" p2] X.env)).any (·.1)=false:=by rfl) :
  PE X (.Call (.Name "isinstance" p) [e,.Name "int" p2] [] pos) (ap X.K (xH .int we)):=wK .int (by simp) PyProof.Rows.boot_int hm hm2 he hg hg2 (by decide) (by decide) h1 h2 h3
theorem u7 (hm:X.mg "isinstance"=none) (hm2:X.mg "bool"=none) (he:PE X e (ap X.K we)) (hg:Gl X "isinstance":=by rfl) (hg2:Gl X "bool":=by rfl) (h1:starEach [e,.Name "bool" p2] X.env=(false,eval e X.env)::starEach [.Name "bool" p2] X.env:=by rfl) (h2:starEach [.Name "bool" p2] X.env=(false,eval (.Name "bool" p2) X.env)::starEach [] X.env:=by rfl) (h3:(backTo pos (starEach [.Name "bool" p2] X.env)).any (·.1)=false:=by rfl) :
  PE X (.Call (.Name "isinstance" p) [e,.Name "bool" p2] [] pos) (ap X.K (xH .bool we)):=wK .bool (by simp) PyProof.Rows.boot_bool hm hm2 he hg hg2 (by decide) (by decide) h1 h2 h3
theorem fQ (hm:X.mg "isinstance"=none) (hm2:X.mg "tuple"=none) (he:PE X e (ap X.K we)) (hg:Gl X "isinstance":=by rfl) (hg2:Gl X "tuple":=by rfl) (h1:starEach [e,.Name "tuple" p2] X.env=(false,eval e X.env)::starEach [.Name "tuple" p2] X.env:=by rfl) (h2:starEach [.Name "tuple" p2] X.env=(false,eval (.Name "tuple" p2) X.env)::starEach [] X.env:=by rfl) (h3:(backTo pos (starEach [.Name "tuple" p2] X.env)).any (·.1)=false:=by rfl) :
  PE X (.Call (.Name "isinstance" p) [e,.Name "tuple" p2] [] pos) (ap X.K (xH .tup we)):=wK .tup (by simp) PyProof.Rows.boot_tuple hm hm2 he hg hg2 (by decide) (by decide) h1 h2 h3
theorem m6 (hm:X.mg "isinstance"=none) (hm2:X.mg "list"=none) (he:PE X e (ap X.K we)) (hg:Gl X "isinstance":=by rfl) (hg2:Gl X "list":=by rfl) (h1:starEach [e,.Name "list" p2] X.env=(false,eval e X.env)::starEach [.Name "list" p2] X.env:=by rfl) (h2:starEach [.Name "list" p2] X.env=(false,eval (.Name "list" p2) X.env)::starEach [] X.env:=by rfl) (h3:(backTo pos (starEach [.Name "list" p2] X.env)).any (·.1)=false:=by rfl) :
  PE X (.Call (.Name "isinstance" p) [e,.Name "list" p2] [] pos) (ap X.K (xH .lst we)):=wK .lst (by simp) PyProof.Rows.boot_list hm hm2 he hg hg2 (by decide) (by decide) h1 h2 h3
end
theorem BD {K:PySem.W.Frag}{F:Hp}{a:Addr}{xs:List V}{ts:List T}(h:iD K F a xs)(r:am K F ts xs):zI K F (Nw K a) ts:=by
 intro F1 H1 i f1 sb fu;have q:iD K H1 a xs:=aE.sqT sb _ _ (aE.sqT f1 _ _ h);refine⟨fun t ht=>?_,fun hl=>⟨xs,q,by rw[r.length];exact hl⟩⟩
 obtain⟨x,h1,h2⟩:=r.get ht;refine⟨⟨xs,x,q,h1⟩,fun y H2 hy=>?_⟩;obtain⟨e,hy⟩:=hy;subst e;have:=hy xs q;rw[h1]at this
 cases this
 exact⟨F1,di.refl sb fu,aw.same f1 h2⟩
def cL (lo:Int)(n:Nat):List T:=(List.range n).map fun (k:Nat)=>.int (lo+(k:Int))
theorem Ji {K:PySem.W.Frag}{F:Hp}(lo:Int)(n:Nat):zI K F (Na lo n) (cL lo n):=by
 intro F1 H1 i f1 sb fu;refine⟨fun t ht=>?_,fun hl=>(by simpa [cL] using hl:n<=i)⟩
 unfold cL at ht;rw[List.getElem?_map]at ht
 cases e:(List.range n)[i]? with
 | none=>rw[e]at ht;cases ht
 | some k=>
  rw[e]at ht;have hk:k=i/\i<n:=by
   rw[List.getElem?_eq_some_iff]at e;obtain⟨h1,h2⟩:=e;simp at h1 h2;exact⟨h2.symm,h1⟩
  obtain⟨rfl,hn⟩:=hk;have et:t=.int (lo+k):=by simpa using ht.symm
  refine⟨hn,fun x H2 hy=>?_⟩;obtain⟨e1,e2⟩:=hy;subst e1;subst e2;exact⟨F1,di.refl sb fu,by rw[et];rfl⟩
def M0 (δ:aQ)(W:List T->aQ->Prop):S->Prop
 | .t (.tup ts)=>W ts δ
 | .vt (.tup ts)=>W ts (freeze δ)
 | _=>False
def uG (we:WE):WI:=fun δ W=>we δ fun s=>M0 δ W s
def jE (i:Int):Prop:=-(2 ^ 62)<=i/\i<2 ^ 62
def fN (wa:WA):WI:=fun δ W=>wa δ fun ss=>match ss with
 | [.t (.int j)]=>jE j/\W (cL 0 j.toNat) δ
 | _=>False
def KM (wa:WA):WI:=fun δ W=>wa δ fun ss=>match ss with
 | [.t (.int i),.t (.int j)]=>jE i/\jE j/\W (cL i (j-i).toNat) δ
 | _=>False
section
variable {X:Cx}{e e2 tg:Expr}{we:WE}{wa:WA}{p pos:Pos}
theorem cz (he:PE X e (ap X.K we)):PI X tg e (lX X.K (cu we)):=
 (F7 he).imp fun σ H R ⟨δ,W,F,rl,h,k⟩=>⟨δ,_,F,rl,h,fun v F1 H1 s ex p q=>by
  unfold pH at q
  split at q
  ·unfold dA aw at p;obtain⟨a,xs,rfl,h1,h2⟩:=p;exact⟨a,rfl,⟨xs,ex.sub.seq h1⟩,k _ F1 F1 H1 _ δ ex (aE.refl _) (rl.ext ex) (rC h1 h2) q⟩
  ·unfold dA aw at p;obtain⟨a,xs,rfl,h1,h2⟩:=p;exact⟨a,rfl,⟨xs,h1⟩,k _ F1 H1 H1 _ (freeze δ) ex ex.sub (rl.ext ex).freeze (rC h1 h2) q⟩
  ·obtain⟨rl2,sm,a,xs,rfl,g1,g2⟩:=rl.thaw ex p;exact⟨a,rfl,⟨xs,rl2.sub.seq g1⟩,k _ _ _ H1 _ δ (ex.frozen rl.sub).1 (aE.refl _) rl2 (rC g1 g2) q⟩
  ·exact q.elim⟩
theorem vc (he:PE X e (ap X.K we)):PI X tg e (lX X.K (uG we)):=
 (J5 he).imp fun σ H R ⟨δ,W,F,rl,h,k⟩=>⟨δ,_,F,rl,h,fun v F1 H1 s ex p q=>by
  unfold M0 at q
  split at q
  ·unfold dA aw at p;obtain⟨a,xs,rfl,h1,h2⟩:=p;exact⟨a,rfl,⟨xs,aE.sqT ex.sub _ _ h1⟩,k _ F1 F1 H1 _ δ ex (aE.refl _) (rl.ext ex) (BD h1 h2) q⟩
  ·unfold dA aw at p;obtain⟨a,xs,rfl,h1,h2⟩:=p;exact⟨a,rfl,⟨xs,h1⟩,k _ F1 H1 H1 _ (freeze δ) ex ex.sub (rl.ext ex).freeze (BD h1 h2) q⟩
  ·exact q.elim⟩
theorem dk (hm:X.mg "range"=none) (ha:PA X [e] (cZ X.K wa)) (hg:Gl X "range":=by rfl) (hs:starEach [e] X.env=[(false,eval e X.env)]:=by rfl):PI X tg (.Call (.Name "range" p) [e] [] pos) (lX X.K (fN wa)):=
 (ze hg hm ha hs).imp fun σ H R ⟨δ,W,F,rl,h,k⟩=>⟨δ,_,F,rl,h,fun vs F1 H1 ss ex p q=>by
  split at q
  ·obtain⟨v,r,rfl,p1,p2⟩:=p
   cases (show r=[] from p2)
   cases (show v=_ from p1)
   obtain⟨⟨q1,q2⟩,q3⟩:=q;exact⟨_,rfl,q1,q2,k _ F1 F1 H1 _ δ ex (aE.refl _) (rl.ext ex) (Ji 0 _) q3⟩
  ·exact q.elim⟩
end
end DL
namespace DL
open PySem L2
theorem Rel.mutate {K:PySem.W.Frag}{F H:Hp}{σ:St}{δ:aQ}{i:Nat}{ts us:List T}{a:Addr}{ys:List V}(r:Rel K F H σ δ)(hi:δ[i]?=some (some (.ol ts)))(ha:σ[i]?=some (some (.ref a)))(hF:F a=none)(hH:∃ xs,H a=some (.lst xs))(hy:am K F us ys) :
  Rel K F (cV H a (.lst ys)) σ (δ.set i (some (.ol us))):=by
 obtain⟨xs,hH⟩:=hH;have ne:∀ b o,F b=some o->b≠a:=fun b o e z=>by rw[z,hF]at e;cases e
 have lt:i<δ.length:=by
  rw[List.getElem?_eq_some_iff]at hi;exact hi.1
 refine⟨fun b o e=>by rw[bQ (ne b o e)];exact r.sub _ _ e,fun b o e=>?_,by rw[List.length_set];exact r.len,fun j s hj=>?_,fun j l b ts1 ts2 hn h1 h2 h3=>?_⟩
 ·unfold cV at e
  split at e
  ·cases e;exact .inr ⟨ys,rfl⟩
  ·exact r.full _ _ e
 ·by_cases z:i=j
  ·subst z;rw[List.getElem?_set_self lt]at hj
   cases hj
   exact⟨_,ha,a,ys,rfl,hF,bH,hy⟩
  ·rw[List.getElem?_set_ne z]at hj;obtain⟨v,q1,q2⟩:=r.slot j s hj;refine⟨v,q1,?_⟩
   cases s with
   | t x=>exact q2
   | vt zs=>exact q2
   | ol zs=>
    obtain⟨b,bs,e1,e2,e3,e4⟩:=q2;have nb:b≠a:=fun y=>by
     subst y;subst e1;exact r.dist i j b ts zs z hi hj ha q1
    exact⟨b,bs,e1,e2,by rw[bQ nb];exact e3,e4⟩
 ·have own:∀ (j:Nat) (ts1:List T),(δ.set i (some (.ol us)))[j]?=some (some (.ol ts1))->∃ ts0:List T,δ[j]?=some (some (.ol ts0)):=fun j ts1 h=>by
   by_cases z:i=j
   ·subst z;exact⟨ts,hi⟩
   ·rw[List.getElem?_set_ne z]at h;exact⟨ts1,h⟩
  obtain⟨t1,g1⟩:=own j ts1 h1;obtain⟨t2,g2⟩:=own l ts2 h2;exact r.dist j l b t1 t2 hn g1 g2 h3
section
variable {X:Cx}{e:Expr}{we wv:WE}{pos:Pos}{H₀:Hp}{i:Nat}{x:Str}{p1 p2:Pos}
theorem mG {n:Nat}(h:n<100000):n<sizeLine:=Nat.lt_trans h (by decide)
theorem jh (he:PE X e (ap X.K we)) (hv:PE X (.Name x p1) (j7 i):=by exact pv _) (hbase:attributeBase (.Name x p1) "append" X.env (eval (.Name x p1) X.env)=eval (.Name x p1) X.env:=by rfl)
  (hfew:((backTo pos (starEach [e] X.env)).all (fun x=>!x.1) && (backToKw pos (keywordEach [] X.env)).all (fun x=>x.1.isSome) && decide ([e].length+([]:List Keyword).length+(if ([]:List Keyword).isEmpty then 0 else 1)<30))=true:=by rfl)
  (hline:(p2.endLine == pos.line)=true:=by rfl) (hs:starEach [e] X.env=(false,eval e X.env)::starEach [] X.env:=by rfl) (hplain:(backTo pos (starEach [] X.env)).any (·.1)=false:=by rfl) {pos':Pos}
  (hsw:swapsWith (.Call (.Attribute (.Name x p1) "append" p2) [e] [] pos) none pos'.line X.env=pure false:=by rfl) :
  PS X (.Expr (.Call (.Attribute (.Name x p1) "append" p2) [e] [] pos) pos') (bC X.K H₀ (h9 i we)):=
 (rR (Hd PySem.F.plainAttrs_list PySem.F.slot_list_append PySem.F.type_list_append pJ hv (cB he jY hs) hbase hfew hline hs hplain) hsw).imp fun D σ H ⟨δ,D',F,s0,rl,h,ok⟩=>by
  unfold h9 at h
  split at h
  ·rename_i ts hi;obtain⟨v,ha,a,xs,rfl,hF,hH,hr⟩:=rl.slot i _ hi;refine⟨_,ha,.inl ⟨rfl,xs,cD.of hH⟩,δ,_,F,rl,h,fun v F1 H1 s e p q=>?_⟩
   cases s with
   | t y=>
    obtain⟨hl,q⟩:=q;have h1:=e.hh _ _ hH;refine⟨a,xs,v,rfl,rfl,h1,by rw[hr.length];exact mG hl,?_⟩
    exact ok.nx σ F1 _ _ e.ff ((rl.ext e).mutate hi ha (e.keep a (by rw[hH];simp) hF) ⟨xs,h1⟩ ((am.same e.ff hr).append (am.one p))) q
   | _=>exact q.elim
  ·exact h.elim
theorem ko {v:Expr}(he:PE X e (ap X.K we))(hw:PE X v (ap X.K wv))(hv:PE X (.Name x p1) (j7 i):=by exact pv _)
  (ha:∀ z,assign (.Subscript (.Name x p1) e p2) X.env z=(do
   let ov ← holding [z] (eval (.Name x p1) X.env)
   let iv ← holding [z,ov] (eval e X.env)
   standAt p2
   holding [z,ov,iv] (setItem ov iv z)
   release [z,ov,iv] []):=by intro _;rfl)
  (hs:swapsWithSole [.Subscript (.Name x p1) e p2] v pos.line X.env=pure false:=by rfl) (hsw:swappedStores [.Subscript (.Name x p1) e p2] v X.env=pure none:=by rfl)
  (h1:(assignEach [.Subscript (.Name x p1) e p2] X.env).map (·.2)=[assign (.Subscript (.Name x p1) e p2) X.env]:=by rfl) :
  PS X (.Assign [.Subscript (.Name x p1) e p2] v pos) (bC X.K H₀ (jd i we wv)):=
 (vR hw (J4 hv he set_list ha) hs hsw h1).imp fun D σ H ⟨δ,D',F,s0,rl,h,ok⟩=>by
  unfold jd at h
  split at h
  ·rename_i ts hi;obtain⟨v,ha,a,xs,rfl,hF,hH,hr⟩:=rl.slot i _ hi;refine⟨δ,_,F,rl,h,fun v1 F1 H1 s1 e1 p1 q1=>⟨_,ha,δ,_,F1,rl.ext e1,q1,fun v2 F2 H2 s2 e2 p2 q2=>?_⟩⟩;have e12:=e1.trans e2
   split at q2
   ·rename_i y k
    split at q2
    ·rename_i j hj;have h2:=e12.hh _ _ hH;refine⟨a,xs,k,j,rfl,p2,h2,by rw[hr.length];exact hj,?_⟩
     exact ok.nx σ F2 _ _ e12.ff ((rl.ext e12).mutate hi ha (e12.keep a (by rw[hH];simp) hF) ⟨xs,h2⟩ ((am.same e12.ff hr).set (aw.same e2.ff p1) j)) q2
    ·exact q2.elim
   ·exact q2.elim
  ·exact h.elim
end
def qo (R:List T->Prop):S->Prop
 | .t (.lst ts)=>R ts
 | .vt (.lst ts)=>cK ts=true/\R ts
 | .ol ts=>R ts
 | _=>False
def yj:S->S->(S->Prop)->Prop:=fun a b R=>qo (fun ts=>qo (fun us=>ts.length+us.length<=100000/\R (.ol (ts++us))) b) a
def Hg (K:PySem.W.Frag):R2:=fun x y H Q=>∃ l b xs zs,x=.ref l/\y=.ref b/\cD K H l xs/\cD K H b zs/\xs.length+zs.length<=sizeLine/\∀ p,H p=none->Q (.ref p) (cV H p (.lst (xs++zs)))
theorem FT {X:Cx}:lg X (binaryOp .Add) (Hg X.K):=by
 intro pins s σ H x y v u Q I rx ry h;obtain⟨l,b,xs,zs,rfl,rfl,h1,h2,hz,q⟩:=h
 cases rx
 cases ry
 obtain⟨its,r,pl,z⟩:=I.list h1;obtain⟨its2,r2,pl2,z2⟩:=I.list h2;obtain⟨⟨cls,dd,data,sl⟩,ho,hc,n,hd⟩:=pl.isList;obtain⟨⟨cls2,dd2,data2,sl2⟩,ho2,hc2,n2,hd2⟩:=pl2.isList;simp only at hc hd hc2 hd2;subst hc hd hc2 hd2;have l1:=r.length;have l2:=r2.length;refine PySem.concat_meets ⟨_,ho,rfl⟩ ⟨_,ho2,rfl⟩ PySem.noFill_list_add PySem.seq_list_add PySem.F.slot_list_add PySem.F.entry_list_add (PySem.F.args_list_add_2 _ _) (PyProof.Rows.list_addW l b its.toArray its2.toArray n n2 dd dd2 sl sl2 (by rw[List.size_toArray,List.size_toArray];omega)) ⟨ho,ho2,?_⟩
 have ea:its.toArray++its2.toArray=(its++its2).toArray:=by simp
 rw[ea];exact⟨.ref _,_,I.lnew (t':=s.toks) (r.append r2) (by rw[List.length_append];omega),rfl,q _ I.fresh⟩
theorem m4 {K:PySem.W.Frag}{F H:Hp}{R:List T->Prop}{s:S}{v:V}(sb:aE F H)(fu:gw F H)(h:qo R s)(p:gz K F H s v):∃ ts a xs,v=.ref a/\cD K H a xs/\am K F ts xs/\R ts:=by
 unfold qo at h
 split at h
 ·unfold gz aw at p;obtain⟨a,xs,h1,h2,h3⟩:=p;exact⟨_,a,xs,h1,sb.seq h2,h3,h⟩
 ·unfold gz aw at p;obtain⟨a,xs,h1,h2,h3⟩:=p;exact⟨_,a,xs,h1,h2,am.full fu h.1 h3,h.2⟩
 ·unfold gz at p;obtain⟨a,xs,h1,h2,h3⟩:=p;exact⟨_,a,xs,h1,h2,h3,h⟩
 ·exact h.elim
theorem FS {K:PySem.W.Frag}:D9 K (Hg K) yj:=fun F H s1 s2 v1 v2 R Q sb fu p1 p2 h k=>by
 obtain⟨ts,a,xs,rfl,h1,h2,h⟩:=m4 sb fu h p1;obtain⟨us,b,ys,rfl,h3,h4,hl,h⟩:=m4 sb fu h p2;refine⟨a,b,xs,ys,rfl,rfl,h1,h3,by rw[h2.length,h4.length];exact Nat.le_trans hl (by decide),fun p hp=>?_⟩
 exact k _ F _ (.ol _) (di.newL _ sb fu hp) ⟨p,_,rfl,hp,aJ sb hp,bH,h2.append h4⟩ h
theorem Ae {X:Cx}{a b:Expr}{wa wb:WE}{pos:Pos}(ha:PE X a (ap X.K wa))(hb:PE X b (ap X.K wb)):PE X (.BinOp a .Add b pos) (ap X.K (au yj wa wb)):=(nU FT ha hb).imp (ce FS)
def aD (N:List Str)(ss:List S):aQ:=ss.map some++List.replicate (N.length-ss.length) none
theorem pR {K:PySem.W.Frag}{F H:Hp}:∀ {ss:List S}{vs:List V}{i:Nat}{s:S},jD K F H ss vs->ss[i]?=some s->∃ v,vs[i]?=some v/\gz K F H s v
 | [],_,_,_,_,h=>by simp at h
 | s::ss,_,0,u,⟨v,r,e,p,q⟩,h=>by subst e;simp at h;subst h;exact⟨v,by simp,p⟩
 | s::ss,_,i+1,u,⟨v,r,e,p,q⟩,h=>by
  subst e;obtain⟨y,h1,h2⟩:=pR (i:=i) q (by simpa using h)
  exact⟨y,by simpa using h1,h2⟩
theorem jm {K:PySem.W.Frag}{F H:Hp}:∀ {ss:List S}{vs:List V},jD K F H ss vs->vs.length=ss.length
 | [],_,e=>by cases (show _=[] from e);rfl
 | s::ss,_,⟨v,r,e,p,q⟩=>by subst e;rw[List.length_cons,List.length_cons,jm q]
theorem fm {N:List Str}{ss:List S}{i:Nat}{s:S}(h:(aD N ss)[i]?=some (some s)):ss[i]?=some s:=by
 unfold aD at h
 by_cases hi:i<ss.length
 ·rw[List.getElem?_append_left (by simpa using hi),List.getElem?_map]at h
  cases e:ss[i]? with
  | none=>rw[e]at h;cases h
  | some u=>rw[e]at h;simpa using h
 ·rw[List.getElem?_append_right (by simpa using hi),List.getElem?_replicate]at h
  split at h <;> cases h
theorem pQ {K:PySem.W.Frag}{H:Hp}{N:List Str}{ss:List S}{vs:List V}(hn:ss.length<=N.length)(ha:∀ s∈ss,sN s)(r:jD K H H ss vs):Rel K H H (L2.start N vs) (aD N ss):=by
 have hl:=jm r;refine⟨aE.refl _,fun _ _ h=>.inl h,?_,fun i s h=>?_,fun i j a ts us _ h1=>?_⟩
 ·unfold L2.start aD;rw[List.length_append,List.length_append,List.length_map,List.length_map,List.length_replicate,List.length_replicate];omega
 ·have h1:=fm h;obtain⟨v,h2,h3⟩:=pR r h1;refine⟨v,?_,?_⟩
  ·unfold L2.start;have hi:i<vs.length:=by rw[List.getElem?_eq_some_iff]at h2;exact h2.1
   rw[List.getElem?_append_left (by simpa using hi),List.getElem?_map,h2]
   rfl
  ·have:=ha s (List.mem_of_getElem? h1)
   cases s with
   | t x=>exact h3
   | vt ts=>exact this.elim
   | ol ts=>exact this.elim
 ·have:=ha _ (List.mem_of_getElem? (fm h1));exact this.elim
section
variable {P:Program}{wd:World}{K:PySem.W.Frag}{mg:Str->Option Value}{base:Heap}
theorem aX {x qual:Str}{st:Stmt}{f:Addr}{fd:FuncData}{N ps:List Str}{k:Nat}{sp:aR}{w:WS}(F:D6 K x qual st f fd)(S:aA N ps (aj st))
  (hlen:∀ ss R,sp ss R->ss.length=ps.length)
  (hbody:∀ (cdv:Value) (A:Around) (outer:List Env) (s:Shared) (H:Hp) (E:XK),b7 k (A.deeper (PyProof.Rows.envOfC qual (aj st) s.heap.objs.size f cdv))->gS (mi sE P wd K mg base N qual (aj st) f cdv A outer s H E).nox (cw st) (bC K H w))
  (h:∀ ss R,sp ss R->w {nx:=fun _=>R (.t .non),rt:=R} (aD N ss)):fY P wd K mg base sE (k+1) f fd ps (sk K sp):=by
 have pl:ps.length<=N.length:=by
  have:=congrArg List.length S.pre;rw[List.length_take]at this;omega
 refine F.ok S (fun vs H Q E hs=>?_) (fun cdv A outer s H vs Q E hr hs=>?_)
 ·obtain⟨ss,R,_,r,hs,_⟩:=hs;rw[jm r,hlen ss R hs]
 ·obtain⟨ss,R,ha,r,hs,k⟩:=hs;refine⟨_,hbody cdv A outer s H E hr,aD N ss,_,H,aE.refl _,pQ (by rw[hlen ss R hs];exact pl) ha r,h ss R hs,⟨fun σ' F' H' δ' ff rl q=>?_,fun v H' s' sm rc q=>k v H' s' sm rc q,fun _ _ _ _ _ _ z=>z.elim,fun _ _ _ _ _ _ z=>z.elim⟩⟩
  exact k .non H' (.t .non) (ff.trans rl.sub) rfl q
theorem az {x qual:Str}{st:Stmt}{f:Addr}{fd:FuncData}{ps:List Str}{k:Nat}{sp:aR}(F:D6 K x qual st f fd)(hm:mg x=some (.ref f))(b:Binds K fd ps [])(h:fY P wd K mg base sE k f fd ps (sk K sp)):Callee P wd K mg base k x sp:=
 ⟨f,fd,ps,hm,h,b,F.kp⟩
def pU:aR:=fun ss R=>∃ ns:List Int,ss=[.t (.lst (ns.map .int))]/\ns.length<=63/\R (.t (.bl true))
theorem Jq {K:PySem.W.Frag}{H:Hp}{a:Addr}{ns:List Int}(hl:ns.length<=63)(hS:cD K H a (ns.map V.int)):sk K pU [.ref a] H (fun v _=>v=.bl true) fun _ _ _=>False:=
 ⟨[.t (.lst (ns.map .int))],fun s=>s=.t (.bl true),fun s hs=>by simp at hs;subst hs;exact True.intro,⟨.ref a,[],rfl,by show aw K H (.lst _) _;unfold aw;exact⟨a,_,rfl,hS,am.ints ns⟩,rfl⟩,⟨ns,rfl,hl,rfl⟩,fun v H' s _ rc e=>by subst e;exact rc⟩
end
end DL
namespace DL
open PySem L2
def oH (own:Nat)(fr:List Nat)(δ:aQ):aQ:=List.replicate own none++fr.map fun i=>(δ[i]?).join
def tO (k:T->Prop):S->Prop
 | .t y=>kb y=true/\k y
 | .ol ts=>cK ts=true/\k (.lst ts)
 | .vt _=>False
def lR (g:WG)(tc:WT)(te:WE)(ts:List T)(δ:aQ)(R:List T->Prop):Prop:=∃ I:List T->aQ->List T->Prop,I ts δ []/\(∀ δ acc,I [] δ acc->R acc)/\∀ x r δ acc,I (x::r) δ acc →
 g x δ fun δ1=>tc δ1 fun ok=>if ok=true then te δ1 fun s=>tO (fun y=>acc.length<100000/\I r δ1 (acc++[y])) s else I r δ1 acc
def fM (own:Nat)(fr:List Nat)(wi:WI)(g:WG)(tc:WT)(te:WE):WE:=fun δ R=>wi δ fun ts δ'=>lR g tc te ts (oH own fr (freeze δ')) fun acc=>R (.ol acc)
def wj:WT:=fun _ R=>R true
def lc (δ:aQ):Prop:=∀ (i:Nat) (ts:List T),δ[i]?≠some (some (S.ol ts))
def KP (g:WG):Prop:=∀ t δ R,lc δ->g t δ R->g t δ fun δ'=>lc δ'/\R δ'
def D7 (g:List T->aQ->(aQ->Prop)->Prop):Prop:=∀ t δ R,lc δ->g t δ R->g t δ fun δ'=>lc δ'/\R δ'
theorem lc.set {δ:aQ}(h:lc δ)(i:Nat)(t:T):lc (δ.set i (some (.t t))):=fun j ts e=>by
 by_cases z:i=j
 ·subst z;rw[List.getElem?_set]at e;simp at e
 ·rw[List.getElem?_set_ne z]at e;exact h j ts e
theorem cF {i:Nat}:KP (aS i):=fun t δ R h q=>⟨h.set i t,q⟩
theorem Bu:D7 iy:=fun ts δ R h q=>by
 cases ts with
 | nil=>exact⟨h,q⟩
 | cons t r=>exact q
theorem pB {g:WG}{gr:List T->aQ->(aQ->Prop)->Prop}(hg:KP g)(hr:D7 gr)(mg:∀ t δ (R R':aQ->Prop),g t δ R->(∀ δ',R δ'->R' δ')->g t δ R'):D7 (cq g gr):=fun ts δ R h q=>by
 cases ts with
 | nil=>exact q
 | cons t r=>exact mg _ _ _ _ (hg t δ _ h q) fun δ' ⟨h1,q1⟩=>hr r δ' R h1 q1
theorem pI {i:Nat}:∀ t δ (R R':aQ->Prop),aS i t δ R->(∀ δ',R δ'->R' δ')->aS i t δ R':=fun _ _ _ _ q k=>k _ q
theorem Fe {g:List T->aQ->(aQ->Prop)->Prop}(hg:D7 g):KP (jL g):=fun t δ R h q=>by
 cases t with
 | tup ts=>exact hg ts δ R h q
 | _=>exact q
def sJ (K:PySem.W.Frag)(H F:Hp)(t:T)(v:V):Prop:=(kb t=true/\aw K F t v)\/∃ ts a xs,t=.lst ts/\cK ts=true/\v=.ref a/\H a=none/\F a=some (.lst xs)/\am K F ts xs
def dD (K:PySem.W.Frag)(H F:Hp):List T->List V->Prop
 | [],xs=>xs=[]
 | t::ts,xs=>∃ x r,xs=x::r/\sJ K H F t x/\dD K H F ts r
theorem sJ.same {K:PySem.W.Frag}{H F F':Hp}(e:aE F F'){t:T}{v:V}(h:sJ K H F t v):sJ K H F' t v:=by
 rcases h with ⟨p,h⟩|⟨ts,a,xs,h1,h2,h3,h4,h5,h6⟩
 ·exact .inl ⟨p,aw.same e h⟩
 ·exact .inr ⟨ts,a,xs,h1,h2,h3,h4,e _ _ h5,am.same e h6⟩
theorem dD.same {K:PySem.W.Frag}{H F F':Hp}(e:aE F F'):∀ {ts:List T}{xs:List V},dD K H F ts xs->dD K H F' ts xs
 | [],_,h=>h
 | _::_,_,⟨x,r,h1,h2,h3⟩=>⟨x,r,h1,h2.same e,dD.same e h3⟩
theorem dD.snoc {K:PySem.W.Frag}{H F:Hp}{t:T}{v:V}(h:sJ K H F t v):∀ {ts:List T}{xs:List V},dD K H F ts xs->dD K H F (ts++[t]) (xs++[v])
 | [],_,e=>by cases (show _=[] from e);exact⟨v,[],rfl,h,rfl⟩
 | _::_,_,⟨x,r,h1,h2,h3⟩=>by subst h1;exact⟨x,r++[v],rfl,h2,dD.snoc h h3⟩
theorem dD.length {K:PySem.W.Frag}{H F:Hp}:∀ {ts:List T}{xs:List V},dD K H F ts xs->xs.length=ts.length
 | [],_,e=>by cases (show _=[] from e);rfl
 | _::_,_,⟨x,r,h1,_,h3⟩=>by subst h1;rw[List.length_cons,List.length_cons,dD.length h3]
theorem Rel.other {K:PySem.W.Frag}{F H:Hp}{σ:St}{δ:aQ}{a:Addr}{ys:List V}(r:Rel K F H σ δ)(hF:F a=none)(no:lc δ):Rel K F (cV H a (.lst ys)) σ δ:=by
 refine⟨fun b o e=>?_,fun b o e=>?_,r.len,fun j s hj=>?_,fun i j b ts us _ h1=>absurd h1 (no i ts)⟩
 ·have:b≠a:=fun z=>by rw[z,hF]at e;cases e
  rw[bQ this];exact r.sub _ _ e
 ·unfold cV at e
  split at e
  ·cases e;exact .inr ⟨ys,rfl⟩
  ·exact r.full _ _ e
 ·obtain⟨v,q1,q2⟩:=r.slot j s hj;refine⟨v,q1,?_⟩
  cases s with
  | t x=>exact q2
  | vt x=>exact q2
  | ol ts=>exact absurd hj (no j ts)
theorem lT (δ:aQ):lc (freeze δ):=fun i ts e=>by
 obtain⟨u,_,h⟩:=jT e;exact jH u ts h.symm
theorem sS {own:Nat}{fr:List Nat}{δ:aQ}{i:Nat}{s:S}(h:(oH own fr δ)[i]?=some (some s)):own<=i/\∃ k,fr[i-own]?=some k/\δ[k]?=some (some s):=by
 unfold oH at h
 by_cases hi:i<own
 ·rw[List.getElem?_append_left (by simpa using hi),List.getElem?_replicate,if_pos hi]at h
  cases h
 ·have hi:own<=i:=by omega
  refine⟨hi,?_⟩;rw[List.getElem?_append_right (by simpa using hi),List.length_replicate,List.getElem?_map]at h
  cases ef:fr[i-own]? with
  | none=>rw[ef]at h;cases h
  | some k=>
   rw[ef]at h;refine⟨k,rfl,?_⟩;have ev:(δ[k]?).join=some s:=by simpa using h
   cases q:δ[k]? with
   | none=>rw[q]at ev;cases ev
   | some o=>rw[q]at ev;simpa using ev
theorem lq {own:Nat}{fr:List Nat}{δ:aQ}(h:lc δ):lc (oH own fr δ):=fun i ts e=>by
 obtain⟨_,k,_,h2⟩:=sS e;exact h k ts h2
theorem Gv {K:PySem.W.Frag}{H:Hp}{σ:St}{δ:aQ}{own:Nat}{fr:List Nat}{D:Addr}(r:Rel K H H σ δ)(no:lc δ)(hD:H D=none):Rel K H (cV H D (.lst [])) (DZ own fr σ) (oH own fr δ):=by
 have:Rel K H H (DZ own fr σ) (oH own fr δ):=by
  refine⟨r.sub,r.full,?_,fun i s h=>?_,fun i j a ts us _ h1=>absurd h1 (lq no i ts)⟩
  ·unfold DZ oH;rw[List.length_append,List.length_append,List.length_replicate,List.length_replicate,List.length_map,List.length_map]
  ·obtain⟨hi,k,h1,h2⟩:=sS h;obtain⟨v,q1,q2⟩:=r.slot k s h2;refine⟨v,?_,q2⟩;unfold DZ;rw[List.getElem?_append_right (by simpa using hi),List.length_replicate,List.getElem?_map,h1]
   simp[q1]
 exact this.other hD (lq no)
def my (N:List Str)(no:Nat)(fr:List Nat)(NX:List Str)(sc around:Scope):Bool:=
 decide (sc.kind=.function) && sc.names.all (fun y=>decide (y.2≠.cell)) && decide N.Nodup && decide (N.length=no+fr.length) &&
 sc.names.all (fun y=>decide (y.2=.local->sc.names.lookup y.1=some .local)) && sc.names.all (fun y=>decide (y.2=.free->around.names.lookup y.1=some .cell)) &&
 (List.range no).all (fun i=>match N[i]? with|some x=>decide (sc.names.lookup x=some .local)|none=>true) &&
 (List.range fr.length).all (fun j=>match fr[j]?,N[no+j]? with|some i,some x=>decide (NX[i]?=some x/\sc.names.lookup x=some .free)|_,_=>true)
theorem z6 {N:List Str}{no:Nat}{fr:List Nat}{NX:List Str}{sc around:Scope}(h:my N no fr NX sc around=true):iC N no fr NX sc around:=by
 unfold my at h;simp only[Bool.and_eq_true,decide_eq_true_eq,List.all_eq_true,List.mem_range]at h;obtain⟨⟨⟨⟨⟨⟨⟨h1,h2⟩,h3⟩,h4⟩,h5⟩,h6⟩,h7⟩,h8⟩:=h;refine⟨h1,h2,h3,h4,h5,h6,fun i x e hi=>?_,fun j i x e1 e2=>?_⟩
 ·have:=h7 i hi;rw[e]at this;simpa using this
 ·have hj:j<fr.length:=(List.getElem?_eq_some_iff.mp e1).1;have:=h8 j hj;rw[e1,e2]at this;simpa using this
section
variable {X:Cx}{N:List Str}{own:Nat}{fr:List Nat}{scope:Scope}{elt tg iter:Expr}{ifs:List Expr}{pos:Pos}{wi:WI}{g:WG}{tc:WT}{te:WE}
theorem mE {Y:Cx}:Ea Y [] (liftT Y.K wj):=fun pins s σ H Q I ⟨δ,R,F,rl,h,k⟩=>Ge pins s σ H Q I (k F H true rl.refl h)
theorem ji {Y:Cx}{c:Expr}{t:WT}(h:PT Y c (liftT Y.K t)):Ea Y [c] (liftT Y.K t):=Gf h
theorem pE (go:KP g):∀ σ H Q,ap X.K (fM own fr wi g tc te) σ H Q->xB own fr (lX X.K wi) (lW X.K g) (liftT X.K tc) (ap X.K te) σ H Q:=
 fun σ H Q ⟨δ,R,F,rl,h,k⟩=>⟨δ,_,F,rl,h,fun J F0 F1 H1 ts δ1 e0 f01 rl1 it q D hD=>by
  have sH:aE H H1:=e0.hh;obtain⟨W,w0,wend,wstep⟩:=q;refine⟨fun i m σ' H'=>m=ts.length-i/\i<=ts.length/\∃ δ' F' acc xs,aE H1 F'/\F' D=none/\H' D=some (.lst xs)/\Rel X.K F' H' σ' δ'/\lc δ'/\dD X.K H F' acc xs/\W (ts.drop i) δ' acc,
   ⟨ts.length,by simp,Nat.zero_le _,oH own fr (freeze δ1),H1,[],[],aE.refl _,hD,bH,Gv rl1.freeze (lT _) hD,lq (lT _),rfl,by simpa using w0⟩,?_⟩
  rintro i m σ' H' ⟨rfl,hi,δ',F',acc,xs,s1,fD,hH,rl',no,ra,h⟩;obtain⟨hgo,hstop⟩:=it F' H' i (rl1.sub.trans s1) rl'.sub rl'.full
  cases hd:ts.drop i with
  | nil=>
   rw[hd]at h;have:ts.length<=i:=by simpa using hd
   refine .inl ⟨hstop this,?_⟩;have sm:aE H H':=(sH.trans s1).trans rl'.sub;have ex:=iO (x:=some D) rl.sub rl.full sm (fun b z=>by cases z;exact⟨xs,hH⟩)
   have hDn:H D=none:=aJ sH hD;refine k _ _ H' (.ol acc) ex ⟨D,xs,rfl,hDn,?_,hH,?_⟩ (wend δ' acc h)
   ·unfold grow;rw[if_pos (by rw[hDn];rfl),if_pos rfl]
   ·have all:∀ {acc:List T}{xs:List V},dD X.K H F' acc xs->am X.K (grow F H H' (some D)) acc xs:=by
     intro acc
     induction acc with
     | nil=>intro xs z;exact z
     | cons t r ih=>
      rintro xs ⟨x,r',z1,z2,z3⟩;refine⟨x,r',z1,?_,ih z3⟩
      rcases z2 with ⟨p,z⟩|⟨us,a,ys,rfl,p,rfl,y1,y2,y3⟩
      ·exact aw.full ex.full p (aw.same rl'.sub z)
      ·unfold aw;refine⟨a,ys,rfl,cD.of ?_,am.full ex.full p (am.same rl'.sub y3)⟩;have:a≠D:=fun z=>by rw[z,fD]at y2;cases y2
       unfold grow;rw[if_pos (by rw[y1];rfl),if_neg (fun z=>this (Option.some.inj z).symm)]
       exact rl'.sub _ _ y2
    exact all ra
  | cons x r=>
   rw[hd]at h;obtain⟨h1,h2⟩:=tm hd;obtain⟨goes,yld⟩:=hgo x h1;have hlt:i<ts.length:=by
    have:=congrArg List.length hd;simp at this;omega
   refine .inr ⟨goes,fun v H2 y=>?_⟩;obtain⟨F3,e3,p3⟩:=yld v H2 y;have h:=wstep x r δ' acc h;refine⟨x,δ',_,F3,p3,rl'.ext e3,go x δ' _ no h,fun σ2 δ2 rl2 ⟨no2,h⟩=>?_⟩;have D3:F3 D=none:=e3.keep D (by rw[hH];simp) fD
   have H3:=e3.hh _ _ hH;refine⟨δ2,_,F3,rl2,h,fun F4 H4 ok e4 h=>?_⟩;have D4:F4 D=none:=e4.keep D (by rw[H3];simp) D3
   have H4D:=e4.hh _ _ H3;have f4:aE F' F4:=e3.ff.trans e4.ff
   cases ok with
   | false=>
    refine⟨ts.length-(i+1),by omega,rfl,hlt,δ2,F4,acc,xs,s1.trans f4,D4,H4D,rl2.ext e4,no2,ra.same f4,?_⟩
    rw[h2];simpa using h
   | true=>
    simp only[if_true]at h;refine⟨δ2,_,F4,rl2.ext e4,h,fun w F5 H5 s e5 p5 h=>?_⟩;have H5D:=e5.hh _ _ H4D;refine⟨xs,H5D,?_,ts.length-(i+1),by omega,rfl,hlt,?_⟩
    ·rw[ra.length]
     cases s with
     | t y=>exact mG h.2.1
     | ol us=>exact mG h.2.1
     | vt y=>exact h.elim
    ·cases s with
     | t y=>
      have D5:F5 D=none:=e5.keep D (by rw[H4D];simp) D4
      refine⟨δ2,F5,acc++[y],xs++[w],(s1.trans f4).trans e5.ff,D5,bH,((rl2.ext e4).ext e5).other D5 no2,no2,(ra.same (f4.trans e5.ff)).snoc (.inl ⟨h.1,p5⟩),?_⟩;rw[h2];exact h.2.2
     | ol us=>
      obtain⟨ez,sz⟩:=e5.frozen (rl2.ext e4).sub;have D5:grow F5 H4 H5 none D=none:=ez.keep D (by rw[H4D];simp) D4
      obtain⟨a,ys,rfl,q0,q1,q2,q3⟩:=p5;refine⟨δ2,grow F5 H4 H5 none,acc++[.lst us],xs++[.ref a],(s1.trans f4).trans ez.ff,D5,bH,((rl2.ext e4).ext ez).other D5 no2,no2,(ra.same (f4.trans ez.ff)).snoc (.inr ⟨us,a,ys,rfl,h.1,rfl,?_,?_,am.same sz q3⟩),?_⟩
      ·have s4:aE H H4:=((sH.trans s1).trans f4).trans e4.sub;exact aJ s4 q0
      ·unfold grow;rw[if_pos (by rw[q0];rfl),if_neg (by simp)]
       exact q2
      ·rw[h2];exact h.2.2
     | vt y=>exact h.elim⟩
theorem fP {NX:List Str}{ar:Scope}(look:my N own fr NX scope ar=true)(hi:PI X tg iter (lX X.K wi))(go:KP g)
  (hg:∀ cl s H fp,PG (cU X N scope cl s H fp) tg (lW X.K g)) (ht:∀ cl s H fp,Ea (cU X N scope cl s H fp) ifs (liftT X.K tc)) (he:∀ cl s H fp,PE (cU X N scope cl s H fp) elt (ap X.K te)) (eN:X.N=NX:=by rfl) (eS:X.env.scope=ar:=by rfl) (hc:X.calm=true:=by rfl)
  (hs:∀ x,foldedSetIterable iter X.env x=pure x:=by intro _;rfl):PE X (.ListComp elt [⟨tg,iter,ifs,0⟩] scope pos) (ap X.K (fM own fr wi g tc te)):=
 (F6 (by subst eN;subst eS;exact z6 look) hc hi hg ht he hs).imp (pE go)
theorem ng {H₀:Hp}{NX:List Str}{ar:Scope}{i:Nat}{x:Str}{pos1 pos':Pos}(hN:X.N.Nodup)(look:my N own fr NX scope ar=true)(hi:PI X tg iter (lX X.K wi))(go:KP g)
  (hg:∀ cl s H fp,PG (cU X N scope cl s H fp) tg (lW X.K g)) (ht:∀ cl s H fp,Ea (cU X N scope cl s H fp) ifs (liftT X.K tc)) (he:∀ cl s H fp,PE (cU X N scope cl s H fp) elt (ap X.K te)) (eN:X.N=NX:=by rfl) (eS:X.env.scope=ar:=by rfl)
  (hi':X.N[i]?=some x:=by rfl) (hx:Loc X.env.scope x:=by first|exact Or.inl rfl|exact Or.inr rfl) (hw:swapsWith (.ListComp elt [⟨tg,iter,ifs,0⟩] scope pos) (some (.Name x pos')) pos1.line X.env=pure true:=by rfl) (hf:X.fn x=true\/X.env.scope.names.lookup x=some .local:=by first|exact .inl rfl|exact .inr rfl|assumption) (hc:X.calm=true:=by rfl)
  (hs:∀ x,foldedSetIterable iter X.env x=pure x:=by intro _;rfl):PS X (.Assign [.Name x pos'] (.ListComp elt [⟨tg,iter,ifs,0⟩] scope pos) pos1) (bC X.K H₀ (aP i (fM own fr wi g tc te))):=
 (Gc (i:=i) hN hi' hx (by subst eN;subst eS;exact z6 look) hc hi hg ht he hs hw hf).imp fun D σ H ⟨δ,D',F,s0,rl,h,ok⟩=>pE go σ H _ ⟨δ,_,F,rl,h,fun v F1 H1 s e p q=>by
  obtain⟨F2,ff,r2⟩:=rl.setS i e p;exact ok.nx _ F2 H1 _ ff r2 q⟩
end
end DL
namespace DL
open L2
def look (i:Nat)(δ:aQ)(k:S->Prop):Prop:=match δ[i]? with
 | some (some s)=>k s
 | _=>False
theorem Ju (s:S)(r:aQ)(k:S->Prop):look 0 (some s::r) k=k s:=rfl
theorem Jv (i:Nat)(x:Option S)(r:aQ)(k:S->Prop):look (i+1) (x::r) k=look i r k:=rfl
def nN (i:Nat)(δ:aQ)(k:List T->Prop):Prop:=match δ[i]? with
 | some (some (.ol ts))=>k ts
 | _=>False
theorem Fz (ts:List T)(r:aQ)(k:List T->Prop):nN 0 (some (.ol ts)::r) k=k ts:=rfl
theorem FA (i:Nat)(x:Option S)(r:aQ)(k:List T->Prop):nN (i+1) (x::r) k=nN i r k:=rfl
section
variable (D:dh) (δ:aQ) (R:S->Prop) (w u:WS) (we wa wb wv:WE) (ws:WA) (i j:Nat) (x y:T) (s:S) (t c:WT)
theorem LB:aG w u D δ=w {D with nx:=u D} δ:=rfl
theorem LC:aP i we D δ=we δ fun s=>D.nx (setS i s δ):=rfl
theorem NL:ft c w u D δ=c δ fun k=>if k=true then w D δ else u D δ:=rfl
theorem LA:bi we D δ=we δ fun s=>D.rt (out s):=rfl
theorem Ig:oq i D δ=look i δ D.rt:=rfl
theorem Ie:M8 D δ=D.rt (.t .non):=rfl
theorem HY:aY D δ=D.nx δ:=rfl
theorem Eg:KJ D δ=D.bk δ:=rfl
theorem HH:M7 D δ=D.ct δ:=rfl
theorem HJ:xG we D δ=we δ fun _=>D.nx δ:=rfl
theorem LG:ae i δ R=look i δ fun s=>R (seen s):=rfl
theorem OY:wC x δ R=R (.t x):=rfl
theorem Lv (f:S->S->(S->Prop)->Prop):au f wa wb δ R=wa δ fun x=>wb δ fun y=>f x y R:=rfl
theorem NN (f:S->(S->Prop)->Prop):D0 f wa δ R=wa δ fun x=>f x R:=rfl
theorem OX (C:Int->Int->Prop)(g:Int->Int->T)(i j:Int):fI C g (.t (.int i)) (.t (.int j)) R=(C i j/\R (.t (g i j))):=rfl
theorem NJ (g:Int->Int->T)(i j:Int):GZ g (.t (.int i)) (.t (.int j)) R=R (.t (g i j)):=rfl
theorem Lr (i:Int):nw (.t (.int i)) R=R (.t (.int (-i))):=rfl
theorem Ln (ts:List T)(i:Int):aV (.t (.tup ts)) (.t (.int i)) R=atT ts i R:=rfl
theorem Ll (ts:List T)(i:Int):aV (.t (.lst ts)) (.t (.int i)) R=atT ts i R:=rfl
theorem Lp (ts:List T)(i:Int):aV (.vt (.tup ts)) (.t (.int i)) R=wH ts i R:=rfl
theorem Lo (ts:List T)(i:Int):aV (.vt (.lst ts)) (.t (.int i)) R=wH ts i R:=rfl
theorem Lm (ts:List T)(i:Int):aV (.ol ts) (.t (.int i)) R=atT ts i R:=rfl
theorem jN {ts:List T}{i:Int}{x:T}{R:S->Prop}(h:atI ts i=some x):atT ts i R=R (.t x):=by unfold atT;rw[h]
theorem dE {α:Type}{ts:List α}{n:Nat}{x:α}(h:ts[n]?=some x):atI ts (n:Int)=some x:=EE h
theorem LK (r:List T):atT (x::r) 0 R=R (.t x):=jN (dE (n:=0) rfl)
theorem LL (r:List T):atT (x::y::r) 1 R=R (.t y):=jN (dE (n:=1) rfl)
theorem LM (z:T)(r:List T):atT (x::y::z::r) 2 R=R (.t z):=jN (dE (n:=2) rfl)
theorem LN (z z':T)(r:List T):atT (x::y::z::z'::r) 3 R=R (.t z'):=jN (dE (n:=3) rfl)
theorem jO {ts:List T}{i:Int}{x:T}{R:S->Prop}(h:atI ts i=some x):wH ts i R=R (norm x):=by unfold wH;rw[h]
theorem LO (r:List T):wH (x::r) 0 R=R (norm x):=jO (dE (n:=0) rfl)
theorem LP (r:List T):wH (x::y::r) 1 R=R (norm y):=jO (dE (n:=1) rfl)
theorem LQ (z:T)(r:List T):wH (x::y::z::r) 2 R=R (norm z):=jO (dE (n:=2) rfl)
theorem LR (z z':T)(r:List T):wH (x::y::z::z'::r) 3 R=R (norm z'):=jO (dE (n:=3) rfl)
theorem FE {x:T}(h:kb x=true):norm x=.t x:=if_pos h
theorem CV:norm .non=.t .non:=rfl
theorem FD (b:Bool):norm (.bl b)=.t (.bl b):=rfl
theorem CT (i:Int):norm (.int i)=.t (.int i):=rfl
theorem CY (i:PySem.Str):norm (.str i)=.t (.str i):=rfl
theorem CS (i:PySem.Str):norm (.exc i)=.t (.exc i):=rfl
theorem CU (ts:List T):norm (.lst ts)=.vt (.lst ts):=rfl
theorem FF (a b:Int):norm (.tup [.int a,.int b])=.t (.tup [.int a,.int b]):=rfl
theorem CW (a b c:Int):norm (.tup [.int a,.int b,.int c])=.t (.tup [.int a,.int b,.int c]):=rfl
theorem FG (a b c d:Int):norm (.tup [.tup [.int a,.int b],.tup [.int c,.int d]])=.t (.tup [.tup [.int a,.int b],.tup [.int c,.int d]]):=rfl
theorem Ja:setS i (.t x) δ=δ.set i (some (.t x)):=rfl
theorem I0 (ts:List T):setS i (.ol ts) δ=δ.set i (some (.ol ts)):=rfl
theorem Jb:setS i (.vt x) δ=(freeze δ).set i (some (.t x)):=rfl
theorem E6:seen (.t x)=.t x:=rfl
theorem E7:seen (.vt x)=.vt x:=rfl
theorem E5 (ts:List T):seen (.ol ts)=.vt (.lst ts):=rfl
theorem IY:out (.t x)=.t x:=rfl
theorem IZ:out (.vt x)=.t x:=rfl
theorem IX (ts:List T):out (.ol ts)=.ol ts:=rfl
theorem IQ:iF (.t x)=.t x:=rfl
theorem IR:iF (.vt x)=.t x:=rfl
theorem IP (ts:List T):iF (.ol ts)=.t (.lst ts):=rfl
theorem IW:got (.t x)=norm x:=rfl
theorem lx (ts:List T)(h:cK ts=true):got (.ol ts)=.ol ts:=if_pos h
theorem IV:er (.t x)=.t x:=rfl
theorem IT (ts:List T):er (.ol ts)=.t (.lst ts):=rfl
theorem L1:freeze []=[]:=rfl
theorem IS (r:aQ):freeze (none::r)=none::freeze r:=rfl
theorem IU (s:S)(r:aQ):freeze (some s::r)=some (er s)::freeze r:=rfl
theorem L4:tr (.t x)=x:=rfl
theorem L5:tr (.vt x)=x:=rfl
theorem L3 (ts:List T):tr (.ol ts)=.lst ts:=rfl
def OJ (R:Bool->Prop):S->Prop
 | .t (.bl k)=>R k
 | _=>False
theorem OW (R:Bool->Prop):wB we δ R=we δ (OJ R):=rfl
theorem Im (R:Bool->Prop)(k:Bool):OJ R (.t (.bl k))=R k:=rfl
theorem HC (R:Bool->Prop):iw t c δ R=t δ fun k=>if k=true then c δ R else R false:=rfl
theorem Lw (R:Bool->Prop):fc t c δ R=t δ fun k=>if k=true then R true else c δ R:=rfl
theorem Ia (R:Bool->Prop):dP t δ R=t δ fun k=>R (!k):=rfl
def LI (B:Prop)(R:S->Prop):S->Prop
 | .t (.bl k)=>if k=true then B else R (.t (.bl false))
 | _=>False
def OL (B:Prop)(R:S->Prop):S->Prop
 | .t (.bl k)=>if k=true then R (.t (.bl true)) else B
 | _=>False
def Mt (R:S->Prop):S->Prop
 | .t (.bl k)=>R (.t (.bl (!k)))
 | _=>False
theorem HD:pX wa wb δ R=wa δ (LI (wb δ R) R):=rfl
theorem Lx:Oy wa wb δ R=wa δ (OL (wb δ R) R):=rfl
theorem Ib:DT wa δ R=wa δ (Mt R):=rfl
theorem EA (B:Prop)(k:Bool):LI B R (.t (.bl k))=if k=true then B else R (.t (.bl false)):=rfl
theorem JT (B:Prop)(k:Bool):OL B R (.t (.bl k))=if k=true then R (.t (.bl true)) else B:=rfl
theorem FI (k:Bool):Mt R (.t (.bl k))=R (.t (.bl (!k))):=rfl
theorem Li:Ox c wa wb δ R=c δ fun k=>if k=true then wa δ R else wb δ R:=rfl
theorem NK (f:List S->(S->Prop)->Prop):df f ws δ R=ws δ fun ss=>f ss R:=rfl
theorem Lu (R:List S->Prop):ao δ R=R []:=rfl
theorem HG (R:List S->Prop):af wa ws δ R=wa δ fun x=>ws δ fun xs=>R (x::xs):=rfl
def tupK (R:S->Prop)(ss:List S):Prop:=match kQ ss with
 | some ts=>if ts.length<=1000 then R (.t (.tup ts)) else False
 | none=>False
def lstK (R:S->Prop)(ss:List S):Prop:=match kQ ss with
 | some ts=>if ts.length<=1000 then R (.ol ts) else False
 | none=>False
theorem LD:dB ws δ R=ws δ (tupK R):=rfl
theorem Lq:gR ws δ R=ws δ (lstK R):=rfl
theorem Ot:tupK R [.t x]=R (.t (.tup [x])):=rfl
theorem Ou:tupK R [.t x,.t y]=R (.t (.tup [x,y])):=rfl
theorem Ov (z:T):tupK R [.t x,.t y,.t z]=R (.t (.tup [x,y,z])):=rfl
theorem N4:lstK R []=R (.ol []):=rfl
theorem N5:lstK R [.t x]=R (.ol [x]):=rfl
theorem N6:lstK R [.t x,.t y]=R (.ol [x,y]):=rfl
theorem N7 (z:T):lstK R [.t x,.t y,.t z]=R (.ol [x,y,z]):=rfl
theorem N8 (z z':T):lstK R [.t x,.t y,.t z,.t z']=R (.ol [x,y,z,z']):=rfl
theorem Ow (z z':T):tupK R [.t x,.t y,.t z,.t z']=R (.t (.tup [x,y,z,z'])):=rfl
theorem HE (sp:aR):aB sp ws δ R=ws δ fun ss=>sp (ss.map iF) fun s=>R (got s):=rfl
theorem HQ (ts:List T):b9 [.t (.tup ts)] R=R (.t (.int ts.length)):=rfl
theorem HN (ts:List T):b9 [.t (.lst ts)] R=R (.t (.int ts.length)):=rfl
theorem HU (ts:List T):b9 [.vt (.tup ts)] R=R (.t (.int ts.length)):=rfl
theorem HR (ts:List T):b9 [.vt (.lst ts)] R=R (.t (.int ts.length)):=rfl
theorem HP (ts:List T):b9 [.ol ts] R=R (.t (.int ts.length)):=rfl
theorem Le (i:Int):jR [.t (.int i)] R=R (.t (.int (if i<0 then -i else i))):=rfl
theorem HV (i j:Int):tz [.t (.int i),.t (.int j)] R=R (.t (.int (if j>i then j else i))):=rfl
theorem HX (i j:Int):kq [.t (.int i),.t (.int j)] R=R (.t (.int (if j<i then j else i))):=rfl
theorem HL (i:Int):Ma [.t (.int i)] R=R (.t (.int i)):=rfl
theorem HK (b:Bool):Ma [.t (.bl b)] R=R (.t (.int (if b then 1 else 0))):=rfl
theorem Ej (ts:List T):gX [.t (.lst ts)] R=R (.ol ts):=rfl
theorem El (ts:List T):gX [.vt (.lst ts)] R=(cK ts=true/\R (.ol ts)):=rfl
theorem Ek (ts:List T):gX [.ol ts] R=R (.ol ts):=rfl
theorem L8 (i j:Int):dL (.t (.int i)) (.t (.int j)) R=R (.t (.bl (decide (i=j)))):=by
 have e:(i == j)=decide (i=j):=by cases h:(i == j) <;> simp_all
 show(dep (.int i)<=20/\dep (.int j)<=20/\R (.t (.bl (i == j))))=_;rw[e];exact propext ⟨fun h=>h.2.2,fun h=>⟨Nat.zero_le _,Nat.zero_le _,h⟩⟩
theorem Mr (i j:Int):dO (.t (.int i)) (.t (.int j)) R=R (.t (.bl (!decide (i=j)))):=by
 have e:(i == j)=decide (i=j):=by cases h:(i == j) <;> simp_all
 show(dep (.int i)<=20/\dep (.int j)<=20/\R (.t (.bl (!(i == j)))))=_;rw[e];exact propext ⟨fun h=>h.2.2,fun h=>⟨Nat.zero_le _,Nat.zero_le _,h⟩⟩
theorem NM (ty:Ty):xH ty we δ R=we δ fun s=>zt s≠.exc/\R (.t (.bl (bX (zt s) ty))):=rfl
theorem KD:zt (.t .non)=.non:=rfl
theorem M3 (b:Bool):zt (.t (.bl b))=.bool:=rfl
theorem ty_int (i:Int):zt (.t (.int i))=.int:=rfl
theorem ty_str (i:PySem.Str):zt (.t (.str i))=.str:=rfl
theorem KF (ts:List T):zt (.t (.tup ts))=.tup:=rfl
theorem GL (ts:List T):zt (.vt (.tup ts))=.tup:=rfl
theorem M4 (ts:List T):zt (.t (.lst ts))=.lst:=rfl
theorem M6 (ts:List T):zt (.vt (.lst ts))=.lst:=rfl
theorem M5 (ts:List T):zt (.ol ts)=.lst:=rfl
theorem Lj:DQ wa δ R=wa δ fun s=>R (.t (.bl (G7 (tr s)))):=rfl
theorem HZ:pY wa δ R=wa δ fun s=>R (.t (.bl (!G7 (tr s)))):=rfl
theorem Jy:(Ty.non≠Ty.exc)=True:=by simp
theorem Jz:(Ty.bool≠Ty.exc)=True:=by simp
theorem JA:(Ty.int≠Ty.exc)=True:=by simp
theorem JB:(Ty.str≠Ty.exc)=True:=by simp
theorem JC:(Ty.tup≠Ty.exc)=True:=by simp
theorem JD:(Ty.lst≠Ty.exc)=True:=by simp
theorem Lh (wi:WI)(g:WG):gQ wi g w D δ=wi δ fun ts δ'=>yk g w ts D δ':=rfl
theorem zQ (W:List T->aQ->Prop):cu we δ W=we δ (pH δ W):=rfl
theorem Fw (W:List T->aQ->Prop)(ts:List T):pH δ W (.t (.lst ts))=W ts δ:=rfl
theorem Fy (W:List T->aQ->Prop)(ts:List T):pH δ W (.vt (.lst ts))=W ts (freeze δ):=rfl
theorem Fx (W:List T->aQ->Prop)(ts:List T):pH δ W (.ol ts)=W ts δ:=rfl
theorem Ew (W:List T->aQ->Prop):uG we δ W=we δ (M0 δ W):=rfl
theorem M1 (W:List T->aQ->Prop)(ts:List T):M0 δ W (.t (.tup ts))=W ts δ:=rfl
theorem M2 (W:List T->aQ->Prop)(ts:List T):M0 δ W (.vt (.tup ts))=W ts (freeze δ):=rfl
def MK (δ:aQ)(W:List T->aQ->Prop):List S->Prop
 | [.t (.int j)]=>jE j/\W (cL 0 j.toNat) δ
 | _=>False
theorem zR (W:List T->aQ->Prop):fN ws δ W=ws δ (MK δ W):=rfl
theorem Km (W:List T->aQ->Prop)(j:Int):MK δ W [.t (.int j)]=(jE j/\W (cL 0 j.toNat) δ):=rfl
def Hi (δ:aQ)(W:List T->aQ->Prop):List S->Prop
 | [.t (.int i),.t (.int j)]=>jE i/\jE j/\W (cL i (j-i).toNat) δ
 | _=>False
theorem zS (W:List T->aQ->Prop):KM ws δ W=ws δ (Hi δ W):=rfl
theorem Kn (W:List T->aQ->Prop)(i j:Int):Hi δ W [.t (.int i),.t (.int j)]=(jE i/\jE j/\W (cL i (j-i).toNat) δ):=rfl
theorem jg (R:aQ->Prop):aS i x δ R=R (δ.set i (some (.t x))):=rfl
theorem lj (g:List T->aQ->(aQ->Prop)->Prop)(R:aQ->Prop)(ts:List T):jL g (.tup ts) δ R=g ts δ R:=rfl
theorem li (R:aQ->Prop):iy [] δ R=R δ:=rfl
theorem jf (g:WG)(gr:List T->aQ->(aQ->Prop)->Prop)(R:aQ->Prop)(r:List T):cq g gr (x::r) δ R=g x δ fun δ1=>gr r δ1 R:=rfl
theorem LF (g:WG):GO we g D δ=we δ (GM g δ D.nx):=rfl
theorem KH (g:WG)(N:aQ->Prop):GM g δ N (.t x)=g x δ N:=rfl
theorem KI (g:WG)(N:aQ->Prop):GM g δ N (.vt x)=g x (freeze δ) N:=rfl
def Mz (i j:Nat)(δ:aQ)(N:aQ->Prop):List S->Prop
 | [.t x,.t y]=>N ((δ.set i (some (.t x))).set j (some (.t y)))
 | _=>False
theorem Ly:GN i j ws D δ=ws δ (Mz i j δ D.nx):=rfl
theorem JV (N:aQ->Prop):Mz i j δ N [.t x,.t y]=N ((δ.set i (some (.t x))).set j (some (.t y))):=rfl
theorem Er (wl wh:aQ->(Option Int->Prop)->Prop):lO we wl wh δ R=we δ fun s=>wl δ fun lo=>wh δ fun hi=>vY lo hi R s:=rfl
theorem Ks (lo hi:Option Int)(ts:List T):vY lo hi R (.t (.lst ts))=R (.ol (lr ts lo hi)):=rfl
theorem Ku (lo hi:Option Int)(ts:List T):vY lo hi R (.vt (.lst ts))=(cK ts=true/\R (.ol (lr ts lo hi))):=rfl
theorem Kt (lo hi:Option Int)(ts:List T):vY lo hi R (.ol ts)=R (.ol (lr ts lo hi)):=rfl
theorem Ih:M9 we D δ=we (freeze δ) fun s=>D.rt (out s):=rfl
theorem Lg (a b:S):yj a b R=qo (fun ts=>qo (fun us=>ts.length+us.length<=100000/\R (.ol (ts++us))) b) a:=rfl
theorem Iw (R:List T->Prop)(ts:List T):qo R (.t (.lst ts))=R ts:=rfl
theorem Iz (R:List T->Prop)(ts:List T):qo R (.vt (.lst ts))=(cK ts=true/\R ts):=rfl
theorem Iy (R:List T->Prop)(ts:List T):qo R (.ol ts)=R ts:=rfl
theorem HF (own:Nat)(fr:List Nat)(wi:WI)(g:WG)(te:WE):fM own fr wi g t te δ R=wi δ fun ts δ'=>lR g t te ts (oH own fr (freeze δ')) fun acc=>R (.ol acc):=rfl
theorem LH (R:Bool->Prop):wj δ R=R true:=rfl
theorem Fl (k:T->Prop):tO k (.t x)=(kb x=true/\k x):=rfl
theorem Fk (k:T->Prop)(ts:List T):tO k (.ol ts)=(cK ts=true/\k (.lst ts)):=rfl
theorem Gi:kb .non=true:=rfl
theorem Kc (b:Bool):kb (.bl b)=true:=rfl
theorem Gg (b:Int):kb (.int b)=true:=rfl
theorem Gj (b:PySem.Str):kb (.str b)=true:=rfl
theorem Gk (ts:List T):kb (.tup ts)=cK ts:=rfl
theorem Gh (ts:List T):kb (.lst ts)=false:=rfl
theorem Dp:cK []=true:=rfl
theorem pM (ts:List T):cK (x::ts)=(kb x && cK ts):=rfl
theorem Em (R:Option Int->Prop):lN δ R=R none:=rfl
def MC (R:Option Int->Prop):S->Prop
 | .t (.int i)=>R (some i)
 | _=>False
theorem Ic (R:Option Int->Prop):pZ we δ R=we δ (MC R):=rfl
theorem J7 (R:Option Int->Prop)(i:Int):MC R (.t (.int i))=R (some i):=rfl
def LJ (i:Nat)(δ:aQ)(N:aQ->Prop)(ts:List T):S->Prop
 | .t x=>ts.length<100000/\N (δ.set i (some (.ol (ts++[x]))))
 | _=>False
theorem zO:h9 i we D δ=nN i δ fun ts=>we δ (LJ i δ D.nx ts):=rfl
theorem Il (N:aQ->Prop)(ts:List T):LJ i δ N ts (.t x)=(ts.length<100000/\N (δ.set i (some (.ol (ts++[x]))))):=rfl
theorem Lz:Oz i D δ=nN i δ fun ts=>ts≠[]/\D.nx (δ.set i (some (.ol ts.dropLast))):=rfl
def DE (i:Nat)(δ:aQ)(N:aQ->Prop)(ts:List T):S->S->Prop
 | .t x,.t (.int k)=>match yv ts.length k with
  | some j=>N (δ.set i (some (.ol (ts.set j x))))
  | none=>False
 | _,_=>False
theorem Ep:jd i we wv D δ=nN i δ fun ts=>wv δ fun v=>we δ fun s=>DE i δ D.nx ts v s:=rfl
end
theorem wG {ts:List T}{i:Int}{R:S->Prop}(h0:0<=i)(h1:i<ts.length)(h:∀ x∈ts,R (.t x)):atT ts i R:=by
 have hl:i.toNat<ts.length:=by omega
 have e:i=((i.toNat:Nat):Int):=by omega
 rw[e,jN (dE (x:=ts[i.toNat]) (by simp[hl]))]
 exact h _ (List.getElem_mem hl)
theorem zT {ns:List Int}{i:Int}{R:S->Prop}(h0:0<=i)(h1:i<ns.length)(h:∀ v∈ns,R (.t (.int v))):atT (ns.map .int) i R:=
 wG h0 (by rw[List.length_map];exact h1) fun x hx=>by
  obtain⟨v,hv,rfl⟩:=List.mem_map.mp hx;exact h v hv
theorem Ag {i j:Int}(h:j≠0)(h2:j.natAbs.log2<9000):mQ i j:=⟨h,PyProof.noPylong_of_log2 h2⟩
theorem Jx {i j:Int}(h1:-18446744073709551616<i)(h2:i<18446744073709551616):MulOk i j:=⟨D1.ok (.inl ⟨by omega,by omega⟩)⟩
theorem Mp {i j:Int}(h1:-18446744073709551616<j)(h2:j<18446744073709551616):MulOk i j:=⟨D1.ok (.inr ⟨by omega,by omega⟩)⟩
theorem ll (i:Int):(if i<0 then -i else i)=(i.natAbs:Int):=by split <;> omega
theorem nB (g l:Nat):(g:Int).fmod (l:Int)=((g % l:Nat):Int):=by
 rw[Int.fmod_eq_emod_of_nonneg _ (Int.natCast_nonneg l)];rfl
theorem fmod_lo (c:Int){n:Int}(h:0<n):0<=c.fmod n:=Int.fmod_nonneg_of_pos c h
theorem fmod_hi (c:Int){n:Int}(h:0<n):c.fmod n<n:=Int.fmod_lt_of_pos c h
end DL
namespace DL
open L2
structure Sz (n:Nat) (i:Int):Prop where
 lt:i.natAbs<2 ^ n
theorem Sz.mono {m n:Nat}{i:Int}(h:Sz m i)(l:m<=n):Sz n i:=⟨Nat.lt_of_lt_of_le h.lt (Nat.pow_le_pow_right (by decide) l)⟩
theorem Sz.mul {m n:Nat}{a b:Int}(ha:Sz m a)(hb:Sz n b):Sz (m+n) (a*b):=by
 have ha:=ha.lt;have hb:=hb.lt;refine⟨?_⟩;rw[Int.natAbs_mul,Nat.pow_add];exact Nat.mul_lt_mul_of_lt_of_le ha (Nat.le_of_lt hb) (Nat.pos_of_ne_zero (by have:=Nat.two_pow_pos n;omega))
theorem xF {m n:Nat}{x y:Nat}(ha:x<2 ^ m)(hb:y<2 ^ n):x+y<2 ^ (max m n+1):=by
 have h1:2 ^ m<=2 ^ max m n:=Nat.pow_le_pow_right (by decide) (Nat.le_max_left _ _)
 have h2:2 ^ n<=2 ^ max m n:=Nat.pow_le_pow_right (by decide) (Nat.le_max_right _ _)
 rw[Nat.pow_succ];omega
theorem Sz.add {m n:Nat}{a b:Int}(ha:Sz m a)(hb:Sz n b):Sz (max m n+1) (a+b):=by
 have:=xF ha.lt hb.lt;refine⟨?_⟩;omega
theorem Sz.sub {m n:Nat}{a b:Int}(ha:Sz m a)(hb:Sz n b):Sz (max m n+1) (a-b):=by
 have:=xF ha.lt hb.lt;refine⟨?_⟩;omega
theorem Sz.neg {m:Nat}{a:Int}(ha:Sz m a):Sz m (-a):=by
 refine⟨?_⟩;rw[Int.natAbs_neg];exact ha.lt
theorem natAbs_fdiv_le (a b:Int):(a.fdiv b).natAbs<=a.natAbs:=by
 cases a with
 | ofNat m=>
  cases b with
  | ofNat n=>
   cases m with
   | zero=>show(0:Int).natAbs<=_;simp
   | succ m=>show(Int.ofNat ((m+1) / n)).natAbs<=m+1;exact Nat.div_le_self (m+1) n
  | negSucc n=>
   cases m with
   | zero=>show(0:Int).natAbs<=_;simp
   | succ m=>
    show(Int.negSucc (m / (n+1))).natAbs<=m+1;have:(Int.negSucc (m / (n+1))).natAbs=m / (n+1)+1:=rfl;rw[this];have:=Nat.div_le_self m (n+1);omega
 | negSucc m=>
  cases b with
  | ofNat n=>
   cases n with
   | zero=>show(0:Int).natAbs<=_;simp
   | succ n=>
    show(Int.negSucc (m / (n+1))).natAbs<=m+1;have:(Int.negSucc (m / (n+1))).natAbs=m / (n+1)+1:=rfl;rw[this];have:=Nat.div_le_self m (n+1);omega
  | negSucc n=>
   show(Int.ofNat ((m+1) / (n+1))).natAbs<=m+1;exact Nat.div_le_self (m+1) (n+1)
theorem Sz.fdiv {m:Nat}{a:Int}(ha:Sz m a)(b:Int):Sz m (a.fdiv b):=⟨Nat.lt_of_le_of_lt (natAbs_fdiv_le a b) ha.lt⟩
theorem Sz.fmod {m:Nat}{b:Int}(hb:Sz m b)(h:0<b)(a:Int):Sz m (a.fmod b):=by
 have h1:=Int.fmod_nonneg_of_pos a h;have h2:=Int.fmod_lt_of_pos a h;have:=hb.lt;exact⟨by omega⟩
theorem Sz.of {m:Nat}{a:Int}(h1:-(2 ^ m:Nat)<a)(h2:a<(2 ^ m:Nat)):Sz m a:=⟨by omega⟩
theorem Sz.gcdL {m:Nat}{a b:Int}(ha:Sz m a)(h:a≠0):Sz m (Int.gcd a b):=by
 have:Int.gcd a b<=a.natAbs:=Nat.le_of_dvd (by omega) (Int.gcd_dvd_natAbs_left a b)
 have:=ha.lt;have e:((Int.gcd a b:Nat):Int).natAbs=Int.gcd a b:=rfl;refine⟨?_⟩;rw[e];omega
theorem Sz.gcd {m n:Nat}{a b:Int}(ha:Sz m a)(hb:Sz n b):Sz (max m n) (Int.gcd a b):=by
 by_cases h:a=0
 ·subst h;have e:Int.gcd 0 b=b.natAbs:=Int.gcd_zero_left b;rw[e];exact Sz.mono (show Sz n (b.natAbs:Int) from⟨hb.lt⟩) (Nat.le_max_right _ _)
 ·exact(Sz.gcdL ha h).mono (Nat.le_max_left _ _)
theorem mZ {n:Nat}{a:Int}(h:Sz n a)(hn:n<=1048576):PySem.Builtin.Int.intBits a<=2 ^ 20:=by
 unfold PySem.Builtin.Int.intBits;have e:(2:Nat) ^ 20=1048576:=by decide
 rw[e]
 by_cases h0:a.natAbs=0
 ·simp only[h0];split <;> first|omega|simp
 ·have:=(Nat.log2_lt h0).mpr h.lt
  first
   | omega
   | (simp only[h0];omega)
   | (split <;> omega)
theorem cA {m n:Nat}{a b:Int}(ha:Sz m a)(hb:Sz n b)(h1:m<=1048576)(h2:n<=1048576):MulOk a b:=⟨PySem.IntMulOk.of_bits (mZ ha h1) (mZ hb h2)⟩
theorem wM {n:Nat}{i j:Int}(h:j≠0)(hs:Sz n j)(hn:n<=9000):mQ i j:=by
 refine Ag h ?_;have h0:j.natAbs≠0:=by omega
 have:=(Nat.log2_lt h0).mpr hs.lt;omega
theorem IN {n:Nat}{i j:Int}(h:j≠0)(hs:Sz n i)(hn:n<=13500):mQ i j:=by
 refine⟨h,?_⟩;unfold PySem.Builtin.divisionGoesByPylong;simp only[Bool.and_eq_false_iff,decide_eq_false_iff_not]
 by_cases h1:(if (j == 0)=true then 0 else j.natAbs.log2 / 30+1)>300
 ·right
  by_cases h0:(i == 0)=true
  ·rw[if_pos h0];omega
  ·rw[if_neg h0];have h0':i.natAbs≠0:=by simpa using h0
   have:=(Nat.log2_lt h0').mpr hs.lt;omega
 ·left;exact h1
theorem lZ {i:Int}(h1:-(2 ^ 62)<=i)(h2:i<2 ^ 62):jE i:=⟨h1,h2⟩
theorem Dk {i j:Int}(h1:0<=j)(h2:j<=1000000)(h3:i.natAbs<2 ^ 64):zK i j:=⟨⟨h1,h2,h3⟩⟩
end DL
namespace DL
open L2
abbrev Fr:=Int × Int
abbrev Pt:=Int × Int
abbrev bJ:=Fr × Fr
abbrev Hf:=Int × Int × Int
def bt (p:Pt):T:=.tup [.int p.1,.int p.2]
def ym (p:Fr):T:=.tup [.int p.1,.int p.2]
def spT (s:bJ):T:=.tup [ym s.1,ym s.2]
def aZ (h:Hf):T:=.tup [.int h.1,.int h.2.1,.int h.2.2]
theorem xr (p:Pt):kb (bt p)=true:=rfl
theorem c6 {α:Type}{f:α->T}(h:∀ a,kb (f a)=true):∀ l:List α,cK (l.map f)=true
 | []=>rfl
 | a::r=>by rw[List.map_cons,pM,h a,c6 h r];rfl
theorem iK {α:Type}{f:α->T}{n:Nat}(h:∀ a,dep (f a)<=n):∀ l:List α,gD (l.map f)<=n
 | []=>Nat.zero_le _
 | a::r=>by
  rw[List.map_cons];have:=iK h r;have:=h a;simp only[gD];omega
theorem nu {α:Type}{f:α->T}(h:∀ a b,eqT (f a) (f b)=true↔a=b):∀ l m:List α,cC (l.map f) (m.map f)=true↔l=m
 | [],[]=>by simp[cC]
 | [],_::_=>by simp[cC]
 | _::_,[]=>by simp[cC]
 | a::r,b::s=>by
  simp only[List.map_cons,cC,Bool.and_eq_true,h a b,nu h r s,List.cons.injEq]
theorem bp (a b:Int):eqT (.int a) (.int b)=true↔a=b:=by simp[eqT]
theorem bq (a b:Pt):eqT (bt a) (bt b)=true↔a=b:=by
 simp only[bt,eqT,cC,Bool.and_eq_true,beq_iff_eq,Bool.and_true,Prod.ext_iff]
theorem br (a b:bJ):eqT (spT a) (spT b)=true↔a=b:=by
 obtain⟨⟨a1,a2⟩,a3,a4⟩:=a;obtain⟨⟨b1,b2⟩,b3,b4⟩:=b;simp only[spT,ym,eqT,cC,Bool.and_eq_true,beq_iff_eq,Bool.and_true,Prod.mk.injEq]
theorem bo (a b:Hf):eqT (aZ a) (aZ b)=true↔a=b:=by
 obtain⟨a1,a2,a3⟩:=a;obtain⟨b1,b2,b3⟩:=b;simp only[aZ,eqT,cC,Bool.and_eq_true,beq_iff_eq,Bool.and_true,Prod.mk.injEq]
theorem bm (a:Pt):dep (bt a)<=2:=by show 1<=2;decide
theorem bn (a:bJ):dep (spT a)<=2:=by show 2<=2;decide
theorem bj (a:Hf):dep (aZ a)<=2:=by show 1<=2;decide
theorem sT {b:Bool}{P:Prop}[Decidable P](h:b=true↔P):b=decide P:=by
 cases b with
 | true=>exact(decide_eq_true (h.mp rfl)).symm
 | false=>exact(decide_eq_false fun p=>by cases h.mpr p).symm
section
variable (R:S->Prop)
theorem AU {a b:S}{P:Prop}[Decidable P](h1:dep (tr a)<=20)(h2:dep (tr b)<=20)(h:eqT (tr a) (tr b)=true↔P):dL a b R=R (.t (.bl (decide P))):=by
 unfold dL L6;rw[sT h];exact propext ⟨fun z=>z.2.2,fun z=>⟨h1,h2,z⟩⟩
theorem vA {a b:S}{P:Prop}[Decidable P](h1:dep (tr a)<=20)(h2:dep (tr b)<=20)(h:eqT (tr a) (tr b)=true↔P):dO a b R=R (.t (.bl (!decide P))):=by
 unfold dO L6;rw[sT h];exact propext ⟨fun z=>z.2.2,fun z=>⟨h1,h2,z⟩⟩
theorem L9 (a b c d:Int):dL (.t (.tup [.int a,.int b])) (.t (.tup [.int c,.int d])) R=R (.t (.bl (decide (a=c/\b=d)))):=AU R (by show 1<=20;decide) (by show 1<=20;decide) (by simp[tr,eqT,cC])
theorem Ms (a b c d:Int):dO (.t (.tup [.int a,.int b])) (.t (.tup [.int c,.int d])) R=R (.t (.bl (!decide (a=c/\b=d)))):=vA R (by show 1<=20;decide) (by show 1<=20;decide) (by simp[tr,eqT,cC])
theorem L7 (a b c d e f:Int):dL (.t (.tup [.int a,.int b,.int c])) (.t (.tup [.int d,.int e,.int f])) R=R (.t (.bl (decide (a=d/\b=e/\c=f)))):=AU R (by show 1<=20;decide) (by show 1<=20;decide) (by simp[tr,eqT,cC])
theorem Mq (a b c d e f:Int):dO (.t (.tup [.int a,.int b,.int c])) (.t (.tup [.int d,.int e,.int f])) R=R (.t (.bl (!decide (a=d/\b=e/\c=f)))):=vA R (by show 1<=20;decide) (by show 1<=20;decide) (by simp[tr,eqT,cC])
theorem ax {α:Type}[DecidableEq α]{f:α->T}{a b:S}{l m:List α}(hf:∀ a b,eqT (f a) (f b)=true↔a=b)(hd:∀ a,dep (f a)<=2)(ha:tr a=.lst (l.map f))(hb:tr b=.lst (m.map f)):dL a b R=R (.t (.bl (decide (l=m)))):=
 AU R (by rw[ha];have:=iK hd l;simp only[dep];omega) (by rw[hb];have:=iK hd m;simp only[dep];omega) (by rw[ha,hb];simp only[eqT];exact nu hf l m)
theorem ay {α:Type}[DecidableEq α]{f:α->T}{a b:S}{l m:List α}(hf:∀ a b,eqT (f a) (f b)=true↔a=b)(hd:∀ a,dep (f a)<=2)(ha:tr a=.lst (l.map f))(hb:tr b=.lst (m.map f)):dO a b R=R (.t (.bl (!decide (l=m)))):=
 vA R (by rw[ha];have:=iK hd l;simp only[dep];omega) (by rw[hb];have:=iK hd m;simp only[dep];omega) (by rw[ha,hb];simp only[eqT];exact nu hf l m)
end
def eC (n:Nat)(h:Hf):Prop:=Sz n h.1/\Sz n h.2.1/\Sz n h.2.2
def SzF (n:Nat)(s:Fr):Prop:=Sz n s.1/\Sz n s.2
def uS (n:Nat)(s:bJ):Prop:=SzF n s.1/\SzF n s.2
theorem qY:bX .non .non=true:=rfl
theorem oR:bX .non .bool=false:=rfl
theorem qW:bX .non .int=false:=rfl
theorem qZ:bX .non .str=false:=rfl
theorem rb:bX .non .tup=false:=rfl
theorem qX:bX .non .lst=false:=rfl
theorem oM:bX .bool .non=false:=rfl
theorem nH:bX .bool .bool=true:=rfl
theorem oJ:bX .bool .int=true:=rfl
theorem oN:bX .bool .str=false:=rfl
theorem oO:bX .bool .tup=false:=rfl
theorem oK:bX .bool .lst=false:=rfl
theorem qO:bX .int .non=false:=rfl
theorem oP:bX .int .bool=false:=rfl
theorem qM:bX .int .int=true:=rfl
theorem qP:bX .int .str=false:=rfl
theorem qQ:bX .int .tup=false:=rfl
theorem qN:bX .int .lst=false:=rfl
theorem rh:bX .str .non=false:=rfl
theorem oS:bX .str .bool=false:=rfl
theorem rd:bX .str .int=false:=rfl
theorem rj:bX .str .str=true:=rfl
theorem rm:bX .str .tup=false:=rfl
theorem re:bX .str .lst=false:=rfl
theorem rz:bX .tup .non=false:=rfl
theorem oT:bX .tup .bool=false:=rfl
theorem rn:bX .tup .int=false:=rfl
theorem rA:bX .tup .str=false:=rfl
theorem rB:bX .tup .tup=true:=rfl
theorem rq:bX .tup .lst=false:=rfl
theorem qT:bX .lst .non=false:=rfl
theorem oQ:bX .lst .bool=false:=rfl
theorem qR:bX .lst .int=false:=rfl
theorem qU:bX .lst .str=false:=rfl
theorem qV:bX .lst .tup=false:=rfl
theorem qS:bX .lst .lst=true:=rfl
theorem xt (l:List Pt):cK (l.map bt)=true:=c6 (fun _=>rfl) l
theorem A4 (R:S->Prop)(l m:List Pt):dL (.t (.lst (l.map bt))) (.t (.lst (m.map bt))) R=R (.t (.bl (decide (l=m)))):=ax R bq bm rfl rfl
theorem Cw (R:S->Prop)(l m:List Pt):dO (.t (.lst (l.map bt))) (.t (.lst (m.map bt))) R=R (.t (.bl (!decide (l=m)))):=ay R bq bm rfl rfl
theorem A5 (R:S->Prop)(l m:List Pt):dL (.t (.lst (l.map bt))) (.vt (.lst (m.map bt))) R=R (.t (.bl (decide (l=m)))):=ax R bq bm rfl rfl
theorem Cy (R:S->Prop)(l m:List Pt):dO (.t (.lst (l.map bt))) (.vt (.lst (m.map bt))) R=R (.t (.bl (!decide (l=m)))):=ay R bq bm rfl rfl
theorem A3 (R:S->Prop)(l m:List Pt):dL (.t (.lst (l.map bt))) (.ol (m.map bt)) R=R (.t (.bl (decide (l=m)))):=ax R bq bm rfl rfl
theorem Cu (R:S->Prop)(l m:List Pt):dO (.t (.lst (l.map bt))) (.ol (m.map bt)) R=R (.t (.bl (!decide (l=m)))):=ay R bq bm rfl rfl
theorem A8 (R:S->Prop)(l m:List Pt):dL (.vt (.lst (l.map bt))) (.t (.lst (m.map bt))) R=R (.t (.bl (decide (l=m)))):=ax R bq bm rfl rfl
theorem CB (R:S->Prop)(l m:List Pt):dO (.vt (.lst (l.map bt))) (.t (.lst (m.map bt))) R=R (.t (.bl (!decide (l=m)))):=ay R bq bm rfl rfl
theorem A9 (R:S->Prop)(l m:List Pt):dL (.vt (.lst (l.map bt))) (.vt (.lst (m.map bt))) R=R (.t (.bl (decide (l=m)))):=ax R bq bm rfl rfl
theorem CC (R:S->Prop)(l m:List Pt):dO (.vt (.lst (l.map bt))) (.vt (.lst (m.map bt))) R=R (.t (.bl (!decide (l=m)))):=ay R bq bm rfl rfl
theorem A7 (R:S->Prop)(l m:List Pt):dL (.vt (.lst (l.map bt))) (.ol (m.map bt)) R=R (.t (.bl (decide (l=m)))):=ax R bq bm rfl rfl
theorem CA (R:S->Prop)(l m:List Pt):dO (.vt (.lst (l.map bt))) (.ol (m.map bt)) R=R (.t (.bl (!decide (l=m)))):=ay R bq bm rfl rfl
theorem AX (R:S->Prop)(l m:List Pt):dL (.ol (l.map bt)) (.t (.lst (m.map bt))) R=R (.t (.bl (decide (l=m)))):=ax R bq bm rfl rfl
theorem Cr (R:S->Prop)(l m:List Pt):dO (.ol (l.map bt)) (.t (.lst (m.map bt))) R=R (.t (.bl (!decide (l=m)))):=ay R bq bm rfl rfl
theorem AY (R:S->Prop)(l m:List Pt):dL (.ol (l.map bt)) (.vt (.lst (m.map bt))) R=R (.t (.bl (decide (l=m)))):=ax R bq bm rfl rfl
theorem Cs (R:S->Prop)(l m:List Pt):dO (.ol (l.map bt)) (.vt (.lst (m.map bt))) R=R (.t (.bl (!decide (l=m)))):=ay R bq bm rfl rfl
theorem AW (R:S->Prop)(l m:List Pt):dL (.ol (l.map bt)) (.ol (m.map bt)) R=R (.t (.bl (decide (l=m)))):=ax R bq bm rfl rfl
theorem Cq (R:S->Prop)(l m:List Pt):dO (.ol (l.map bt)) (.ol (m.map bt)) R=R (.t (.bl (!decide (l=m)))):=ay R bq bm rfl rfl
theorem AZ (R:S->Prop)(l:List Pt):dL (.t (.lst (l.map bt))) (.ol []) R=R (.t (.bl (decide (l=[])))):=ax (m:=[]) R bq bm rfl rfl
theorem Ct (R:S->Prop)(l:List Pt):dO (.t (.lst (l.map bt))) (.ol []) R=R (.t (.bl (!decide (l=[])))):=ay (m:=[]) R bq bm rfl rfl
theorem A6 (R:S->Prop)(l:List Pt):dL (.vt (.lst (l.map bt))) (.ol []) R=R (.t (.bl (decide (l=[])))):=ax (m:=[]) R bq bm rfl rfl
theorem Cz (R:S->Prop)(l:List Pt):dO (.vt (.lst (l.map bt))) (.ol []) R=R (.t (.bl (!decide (l=[])))):=ay (m:=[]) R bq bm rfl rfl
theorem AV (R:S->Prop)(l:List Pt):dL (.ol (l.map bt)) (.ol []) R=R (.t (.bl (decide (l=[])))):=ax (m:=[]) R bq bm rfl rfl
theorem Cp (R:S->Prop)(l:List Pt):dO (.ol (l.map bt)) (.ol []) R=R (.t (.bl (!decide (l=[])))):=ay (m:=[]) R bq bm rfl rfl
theorem Gm (l:List Hf):cK (l.map aZ)=true:=c6 (fun _=>rfl) l
theorem AB (R:S->Prop)(l m:List Hf):dL (.t (.lst (l.map aZ))) (.t (.lst (m.map aZ))) R=R (.t (.bl (decide (l=m)))):=ax R bo bj rfl rfl
theorem B4 (R:S->Prop)(l m:List Hf):dO (.t (.lst (l.map aZ))) (.t (.lst (m.map aZ))) R=R (.t (.bl (!decide (l=m)))):=ay R bo bj rfl rfl
theorem AC (R:S->Prop)(l m:List Hf):dL (.t (.lst (l.map aZ))) (.vt (.lst (m.map aZ))) R=R (.t (.bl (decide (l=m)))):=ax R bo bj rfl rfl
theorem B5 (R:S->Prop)(l m:List Hf):dO (.t (.lst (l.map aZ))) (.vt (.lst (m.map aZ))) R=R (.t (.bl (!decide (l=m)))):=ay R bo bj rfl rfl
theorem AA (R:S->Prop)(l m:List Hf):dL (.t (.lst (l.map aZ))) (.ol (m.map aZ)) R=R (.t (.bl (decide (l=m)))):=ax R bo bj rfl rfl
theorem B3 (R:S->Prop)(l m:List Hf):dO (.t (.lst (l.map aZ))) (.ol (m.map aZ)) R=R (.t (.bl (!decide (l=m)))):=ay R bo bj rfl rfl
theorem AF (R:S->Prop)(l m:List Hf):dL (.vt (.lst (l.map aZ))) (.t (.lst (m.map aZ))) R=R (.t (.bl (decide (l=m)))):=ax R bo bj rfl rfl
theorem B8 (R:S->Prop)(l m:List Hf):dO (.vt (.lst (l.map aZ))) (.t (.lst (m.map aZ))) R=R (.t (.bl (!decide (l=m)))):=ay R bo bj rfl rfl
theorem AG (R:S->Prop)(l m:List Hf):dL (.vt (.lst (l.map aZ))) (.vt (.lst (m.map aZ))) R=R (.t (.bl (decide (l=m)))):=ax R bo bj rfl rfl
theorem B9 (R:S->Prop)(l m:List Hf):dO (.vt (.lst (l.map aZ))) (.vt (.lst (m.map aZ))) R=R (.t (.bl (!decide (l=m)))):=ay R bo bj rfl rfl
theorem AE (R:S->Prop)(l m:List Hf):dL (.vt (.lst (l.map aZ))) (.ol (m.map aZ)) R=R (.t (.bl (decide (l=m)))):=ax R bo bj rfl rfl
theorem B7 (R:S->Prop)(l m:List Hf):dO (.vt (.lst (l.map aZ))) (.ol (m.map aZ)) R=R (.t (.bl (!decide (l=m)))):=ay R bo bj rfl rfl
theorem Ax (R:S->Prop)(l m:List Hf):dL (.ol (l.map aZ)) (.t (.lst (m.map aZ))) R=R (.t (.bl (decide (l=m)))):=ax R bo bj rfl rfl
theorem BX (R:S->Prop)(l m:List Hf):dO (.ol (l.map aZ)) (.t (.lst (m.map aZ))) R=R (.t (.bl (!decide (l=m)))):=ay R bo bj rfl rfl
theorem Ay (R:S->Prop)(l m:List Hf):dL (.ol (l.map aZ)) (.vt (.lst (m.map aZ))) R=R (.t (.bl (decide (l=m)))):=ax R bo bj rfl rfl
theorem BY (R:S->Prop)(l m:List Hf):dO (.ol (l.map aZ)) (.vt (.lst (m.map aZ))) R=R (.t (.bl (!decide (l=m)))):=ay R bo bj rfl rfl
theorem Aw (R:S->Prop)(l m:List Hf):dL (.ol (l.map aZ)) (.ol (m.map aZ)) R=R (.t (.bl (decide (l=m)))):=ax R bo bj rfl rfl
theorem BW (R:S->Prop)(l m:List Hf):dO (.ol (l.map aZ)) (.ol (m.map aZ)) R=R (.t (.bl (!decide (l=m)))):=ay R bo bj rfl rfl
theorem Az (R:S->Prop)(l:List Hf):dL (.t (.lst (l.map aZ))) (.ol []) R=R (.t (.bl (decide (l=[])))):=ax (m:=[]) R bo bj rfl rfl
theorem BZ (R:S->Prop)(l:List Hf):dO (.t (.lst (l.map aZ))) (.ol []) R=R (.t (.bl (!decide (l=[])))):=ay (m:=[]) R bo bj rfl rfl
theorem AD (R:S->Prop)(l:List Hf):dL (.vt (.lst (l.map aZ))) (.ol []) R=R (.t (.bl (decide (l=[])))):=ax (m:=[]) R bo bj rfl rfl
theorem B6 (R:S->Prop)(l:List Hf):dO (.vt (.lst (l.map aZ))) (.ol []) R=R (.t (.bl (!decide (l=[])))):=ay (m:=[]) R bo bj rfl rfl
theorem Av (R:S->Prop)(l:List Hf):dL (.ol (l.map aZ)) (.ol []) R=R (.t (.bl (decide (l=[])))):=ax (m:=[]) R bo bj rfl rfl
theorem BV (R:S->Prop)(l:List Hf):dO (.ol (l.map aZ)) (.ol []) R=R (.t (.bl (!decide (l=[])))):=ay (m:=[]) R bo bj rfl rfl
theorem Gp (l:List bJ):cK (l.map spT)=true:=c6 (fun _=>rfl) l
theorem Bi (R:S->Prop)(l m:List bJ):dL (.t (.lst (l.map spT))) (.t (.lst (m.map spT))) R=R (.t (.bl (decide (l=m)))):=ax R br bn rfl rfl
theorem CK (R:S->Prop)(l m:List bJ):dO (.t (.lst (l.map spT))) (.t (.lst (m.map spT))) R=R (.t (.bl (!decide (l=m)))):=ay R br bn rfl rfl
theorem Bj (R:S->Prop)(l m:List bJ):dL (.t (.lst (l.map spT))) (.vt (.lst (m.map spT))) R=R (.t (.bl (decide (l=m)))):=ax R br bn rfl rfl
theorem CL (R:S->Prop)(l m:List bJ):dO (.t (.lst (l.map spT))) (.vt (.lst (m.map spT))) R=R (.t (.bl (!decide (l=m)))):=ay R br bn rfl rfl
theorem Bh (R:S->Prop)(l m:List bJ):dL (.t (.lst (l.map spT))) (.ol (m.map spT)) R=R (.t (.bl (decide (l=m)))):=ax R br bn rfl rfl
theorem CJ (R:S->Prop)(l m:List bJ):dO (.t (.lst (l.map spT))) (.ol (m.map spT)) R=R (.t (.bl (!decide (l=m)))):=ay R br bn rfl rfl
theorem Bm (R:S->Prop)(l m:List bJ):dL (.vt (.lst (l.map spT))) (.t (.lst (m.map spT))) R=R (.t (.bl (decide (l=m)))):=ax R br bn rfl rfl
theorem CO (R:S->Prop)(l m:List bJ):dO (.vt (.lst (l.map spT))) (.t (.lst (m.map spT))) R=R (.t (.bl (!decide (l=m)))):=ay R br bn rfl rfl
theorem Bn (R:S->Prop)(l m:List bJ):dL (.vt (.lst (l.map spT))) (.vt (.lst (m.map spT))) R=R (.t (.bl (decide (l=m)))):=ax R br bn rfl rfl
theorem CP (R:S->Prop)(l m:List bJ):dO (.vt (.lst (l.map spT))) (.vt (.lst (m.map spT))) R=R (.t (.bl (!decide (l=m)))):=ay R br bn rfl rfl
theorem Bl (R:S->Prop)(l m:List bJ):dL (.vt (.lst (l.map spT))) (.ol (m.map spT)) R=R (.t (.bl (decide (l=m)))):=ax R br bn rfl rfl
theorem CN (R:S->Prop)(l m:List bJ):dO (.vt (.lst (l.map spT))) (.ol (m.map spT)) R=R (.t (.bl (!decide (l=m)))):=ay R br bn rfl rfl
theorem Bc (R:S->Prop)(l m:List bJ):dL (.ol (l.map spT)) (.t (.lst (m.map spT))) R=R (.t (.bl (decide (l=m)))):=ax R br bn rfl rfl
theorem CG (R:S->Prop)(l m:List bJ):dO (.ol (l.map spT)) (.t (.lst (m.map spT))) R=R (.t (.bl (!decide (l=m)))):=ay R br bn rfl rfl
theorem Be (R:S->Prop)(l m:List bJ):dL (.ol (l.map spT)) (.vt (.lst (m.map spT))) R=R (.t (.bl (decide (l=m)))):=ax R br bn rfl rfl
theorem CH (R:S->Prop)(l m:List bJ):dO (.ol (l.map spT)) (.vt (.lst (m.map spT))) R=R (.t (.bl (!decide (l=m)))):=ay R br bn rfl rfl
theorem Bb (R:S->Prop)(l m:List bJ):dL (.ol (l.map spT)) (.ol (m.map spT)) R=R (.t (.bl (decide (l=m)))):=ax R br bn rfl rfl
theorem CF (R:S->Prop)(l m:List bJ):dO (.ol (l.map spT)) (.ol (m.map spT)) R=R (.t (.bl (!decide (l=m)))):=ay R br bn rfl rfl
theorem Bg (R:S->Prop)(l:List bJ):dL (.t (.lst (l.map spT))) (.ol []) R=R (.t (.bl (decide (l=[])))):=ax (m:=[]) R br bn rfl rfl
theorem CI (R:S->Prop)(l:List bJ):dO (.t (.lst (l.map spT))) (.ol []) R=R (.t (.bl (!decide (l=[])))):=ay (m:=[]) R br bn rfl rfl
theorem Bk (R:S->Prop)(l:List bJ):dL (.vt (.lst (l.map spT))) (.ol []) R=R (.t (.bl (decide (l=[])))):=ax (m:=[]) R br bn rfl rfl
theorem CM (R:S->Prop)(l:List bJ):dO (.vt (.lst (l.map spT))) (.ol []) R=R (.t (.bl (!decide (l=[])))):=ay (m:=[]) R br bn rfl rfl
theorem Ba (R:S->Prop)(l:List bJ):dL (.ol (l.map spT)) (.ol []) R=R (.t (.bl (decide (l=[])))):=ax (m:=[]) R br bn rfl rfl
theorem CD (R:S->Prop)(l:List bJ):dO (.ol (l.map spT)) (.ol []) R=R (.t (.bl (!decide (l=[])))):=ay (m:=[]) R br bn rfl rfl
theorem Gn (l:List Int):cK (l.map T.int)=true:=c6 (fun _=>rfl) l
theorem AN (R:S->Prop)(l m:List Int):dL (.t (.lst (l.map T.int))) (.t (.lst (m.map T.int))) R=R (.t (.bl (decide (l=m)))):=ax R bp (fun _=>by show 0<=2;decide) rfl rfl
theorem Cg (R:S->Prop)(l m:List Int):dO (.t (.lst (l.map T.int))) (.t (.lst (m.map T.int))) R=R (.t (.bl (!decide (l=m)))):=ay R bp (fun _=>by show 0<=2;decide) rfl rfl
theorem AO (R:S->Prop)(l m:List Int):dL (.t (.lst (l.map T.int))) (.vt (.lst (m.map T.int))) R=R (.t (.bl (decide (l=m)))):=ax R bp (fun _=>by show 0<=2;decide) rfl rfl
theorem Ci (R:S->Prop)(l m:List Int):dO (.t (.lst (l.map T.int))) (.vt (.lst (m.map T.int))) R=R (.t (.bl (!decide (l=m)))):=ay R bp (fun _=>by show 0<=2;decide) rfl rfl
theorem AM (R:S->Prop)(l m:List Int):dL (.t (.lst (l.map T.int))) (.ol (m.map T.int)) R=R (.t (.bl (decide (l=m)))):=ax R bp (fun _=>by show 0<=2;decide) rfl rfl
theorem Cf (R:S->Prop)(l m:List Int):dO (.t (.lst (l.map T.int))) (.ol (m.map T.int)) R=R (.t (.bl (!decide (l=m)))):=ay R bp (fun _=>by show 0<=2;decide) rfl rfl
theorem AS (R:S->Prop)(l m:List Int):dL (.vt (.lst (l.map T.int))) (.t (.lst (m.map T.int))) R=R (.t (.bl (decide (l=m)))):=ax R bp (fun _=>by show 0<=2;decide) rfl rfl
theorem Cm (R:S->Prop)(l m:List Int):dO (.vt (.lst (l.map T.int))) (.t (.lst (m.map T.int))) R=R (.t (.bl (!decide (l=m)))):=ay R bp (fun _=>by show 0<=2;decide) rfl rfl
theorem AT (R:S->Prop)(l m:List Int):dL (.vt (.lst (l.map T.int))) (.vt (.lst (m.map T.int))) R=R (.t (.bl (decide (l=m)))):=ax R bp (fun _=>by show 0<=2;decide) rfl rfl
theorem Co (R:S->Prop)(l m:List Int):dO (.vt (.lst (l.map T.int))) (.vt (.lst (m.map T.int))) R=R (.t (.bl (!decide (l=m)))):=ay R bp (fun _=>by show 0<=2;decide) rfl rfl
theorem AR (R:S->Prop)(l m:List Int):dL (.vt (.lst (l.map T.int))) (.ol (m.map T.int)) R=R (.t (.bl (decide (l=m)))):=ax R bp (fun _=>by show 0<=2;decide) rfl rfl
theorem Ck (R:S->Prop)(l m:List Int):dO (.vt (.lst (l.map T.int))) (.ol (m.map T.int)) R=R (.t (.bl (!decide (l=m)))):=ay R bp (fun _=>by show 0<=2;decide) rfl rfl
theorem AJ (R:S->Prop)(l m:List Int):dL (.ol (l.map T.int)) (.t (.lst (m.map T.int))) R=R (.t (.bl (decide (l=m)))):=ax R bp (fun _=>by show 0<=2;decide) rfl rfl
theorem Cc (R:S->Prop)(l m:List Int):dO (.ol (l.map T.int)) (.t (.lst (m.map T.int))) R=R (.t (.bl (!decide (l=m)))):=ay R bp (fun _=>by show 0<=2;decide) rfl rfl
theorem AK (R:S->Prop)(l m:List Int):dL (.ol (l.map T.int)) (.vt (.lst (m.map T.int))) R=R (.t (.bl (decide (l=m)))):=ax R bp (fun _=>by show 0<=2;decide) rfl rfl
theorem Cd (R:S->Prop)(l m:List Int):dO (.ol (l.map T.int)) (.vt (.lst (m.map T.int))) R=R (.t (.bl (!decide (l=m)))):=ay R bp (fun _=>by show 0<=2;decide) rfl rfl
theorem AI (R:S->Prop)(l m:List Int):dL (.ol (l.map T.int)) (.ol (m.map T.int)) R=R (.t (.bl (decide (l=m)))):=ax R bp (fun _=>by show 0<=2;decide) rfl rfl
theorem Cb (R:S->Prop)(l m:List Int):dO (.ol (l.map T.int)) (.ol (m.map T.int)) R=R (.t (.bl (!decide (l=m)))):=ay R bp (fun _=>by show 0<=2;decide) rfl rfl
theorem AL (R:S->Prop)(l:List Int):dL (.t (.lst (l.map T.int))) (.ol []) R=R (.t (.bl (decide (l=[])))):=ax (m:=[]) R bp (fun _=>by show 0<=2;decide) rfl rfl
theorem Ce (R:S->Prop)(l:List Int):dO (.t (.lst (l.map T.int))) (.ol []) R=R (.t (.bl (!decide (l=[])))):=ay (m:=[]) R bp (fun _=>by show 0<=2;decide) rfl rfl
theorem AQ (R:S->Prop)(l:List Int):dL (.vt (.lst (l.map T.int))) (.ol []) R=R (.t (.bl (decide (l=[])))):=ax (m:=[]) R bp (fun _=>by show 0<=2;decide) rfl rfl
theorem Cj (R:S->Prop)(l:List Int):dO (.vt (.lst (l.map T.int))) (.ol []) R=R (.t (.bl (!decide (l=[])))):=ay (m:=[]) R bp (fun _=>by show 0<=2;decide) rfl rfl
theorem AH (R:S->Prop)(l:List Int):dL (.ol (l.map T.int)) (.ol []) R=R (.t (.bl (decide (l=[])))):=ax (m:=[]) R bp (fun _=>by show 0<=2;decide) rfl rfl
theorem Ca (R:S->Prop)(l:List Int):dO (.ol (l.map T.int)) (.ol []) R=R (.t (.bl (!decide (l=[])))):=ay (m:=[]) R bp (fun _=>by show 0<=2;decide) rfl rfl
end DL
namespace DL
open PySem L2
section
variable {X:Cx}
variable {o e:Expr}{wo we:WE}{apos cpos:Pos}
section
variable (δ:aQ) (R:S->Prop) (we wo:WE)
theorem countP_map {α:Type}[DecidableEq α]{f:α->T}(hf:∀ a b,eqT (f a) (f b)=true↔a=b)(a:α):∀ l:List α,(l.map f).countP (fun t=>eqT t (f a))=l.count a
 | []=>rfl
 | b::r=>by
  rw[List.map_cons,List.countP_cons,List.count_cons,countP_map hf a r]
  congr 1
  by_cases e:b=a
  ·subst e;simp[(hf b b).mpr rfl]
  ·have:eqT (f b) (f a)=false:=by
    cases z:eqT (f b) (f a) with
    | false=>rfl
    | true=>exact absurd ((hf b a).mp z) e
   simp[this,e]
end
end
theorem dj {α:Type}{f h:α->T}{p:α->Bool}{g:WG}{tc:WT}{te:WE}{l:List α}{δ0:aQ}{R:List T->Prop}(P:aQ->Prop)(hp:∀ a∈l,kb (h a)=true)(hl:l.length<100000)(h0:P δ0)
  (step:∀ a∈l,∀ δ,P δ->∀ (Y:aQ->S->Prop) (N:aQ->Prop),(∀ δ1,P δ1->p a=true->Y δ1 (.t (h a)))->(∀ δ1,P δ1->p a=false->N δ1)->g (f a) δ fun δ1=>tc δ1 fun ok=>if ok=true then te δ1 (fun s=>Y δ1 s) else N δ1)
  (fin:R ((l.filter p).map h)):lR g tc te (l.map f) δ0 R:=by
 refine⟨fun ts δ acc=>∃ pre post,l=pre++post/\ts=post.map f/\P δ/\acc=(pre.filter p).map h,⟨[],l,rfl,rfl,h0,rfl⟩,?_,?_⟩
 ·rintro δ acc ⟨pre,post,e,e2,_,rfl⟩;have:post=[]:=by simpa using e2.symm
  subst this;rw[List.append_nil]at e;subst e;exact fin
 ·rintro x r δ acc ⟨pre,post,e,e2,hP,rfl⟩
  cases post with
  | nil=>cases e2
  | cons a post=>
   rw[List.map_cons]at e2
   cases e2
   have ha:a∈l:=by rw[e];simp
   have hlen:((pre.filter p).map h).length<100000:=by
    rw[List.length_map];have h1:=List.length_filter_le p pre;have h2:l.length=pre.length+(post.length+1):=by rw[e];simp
    omega
   refine step a ha δ hP _ _ (fun δ1 h1 pa=>⟨hp a ha,hlen,pre++[a],post,by rw[e];simp,rfl,h1,?_⟩) (fun δ1 h1 pa=>⟨pre++[a],post,by rw[e];simp,rfl,h1,?_⟩)
   ·rw[List.filter_append,List.map_append];simp[List.filter,pa]
   ·rw[List.filter_append,List.map_append];simp[List.filter,pa]
theorem sX {α:Type}{f h:α->T}{g:WG}{te:WE}{l:List α}{δ0:aQ}{R:List T->Prop}(P:aQ->Prop)(hp:∀ a∈l,kb (h a)=true)(hl:l.length<100000)(h0:P δ0)
  (step:∀ a∈l,∀ δ,P δ->∀ (Y:aQ->S->Prop),(∀ δ1,P δ1->Y δ1 (.t (h a)))->g (f a) δ fun δ1=>te δ1 (fun s=>Y δ1 s))
  (fin:R (l.map h)):lR g wj te (l.map f) δ0 R:=by
 refine dj (p:=fun _=>true) P hp hl h0 (fun a ha δ hP Y N h1 h2=>?_) (by rw[List.filter_eq_self.mpr (fun _ _=>rfl)];exact fin)
 show g (f a) δ fun δ1=>if true=true then te δ1 (fun s=>Y δ1 s) else N δ1
 simp only[if_true];exact step a ha δ hP Y fun δ1 q=>h1 δ1 q rfl
theorem ky (lo:Int)(n:Nat):(cL lo n).length=n:=by unfold cL;simp
end DL
namespace PyProof.Rows
open PySem
section
variable {prog:Program}{w:World}{A:Around}{E:Value->Shared->Prop}{s:Shared}
end
end PyProof.Rows
namespace L2
open PySem PyProof.Rows
section
variable {X:Cx}{pos:Pos}
end
end L2
namespace DL
open PySem L2
end DL
namespace DL
open PySem L2 PySem.W
abbrev WX:=(Str->aQ->Prop)->WS
def o5 (K:Frag)(x:Str)(C:Addr):Prop:=nsIn K mainGlobals x=some (some (.ref C))
def NG (K:Frag)(F:Hp)(EX:Str->aQ->Prop)(Ex:Addr->St->Hp->Prop):Prop:=∀ x C δ' F' σ' H',aE F F'->Rel K F' H' σ' δ'->o5 K x C->EX x δ'->Ex C σ' H'
theorem NG.mono {K:Frag}{F F1:Hp}{EX:Str->aQ->Prop}{Ex:Addr->St->Hp->Prop}(h:NG K F EX Ex)(s:aE F F1):NG K F1 EX Ex:=fun x C δ' F' σ' H' q=>h x C δ' F' σ' H' (s.trans q)
abbrev zN:=List S->Str->Prop
def MZ (K:Frag)(spx:zN):Sp:=fun vs H _ E=>∃ ss x,(∀ s∈ss,sN s)/\jD K H H ss vs/\spx ss x/\∀ C H',aE H H'->o5 K x C->E (.ref C) none H'
structure D2 (P:Program) (w:World) (K:Frag) (mg:Str->Option Value) (base:Heap) (k:Nat) (x:Str) (spx:zN):Prop where
 ex:∃ (f:Addr) (fd:FuncData) (ps:List Str),mg x=some (.ref f)/\fY P w K mg base (OA P w) k f fd ps (MZ K spx)/\Binds K fd ps []/\keepIn K (.ref f)=true
structure NE (K:Frag) (mg:Str->Option Value) (x:Str):Prop where
 ex:∃ C,o5 K x C/\NC K mg x C
structure NH (K:Frag) (mg:Str->Option Value) (x y:Str):Prop where
 ex:∃ C S,o5 K x C/\mg y=some (.ref S)/\mroIn K C (.ref S)=some true
structure NF (K:Frag) (mg:Str->Option Value) (x y:Str) (b:Bool):Prop where
 ex:∃ C S,o5 K x C/\mg y=some (.ref S)/\uP K C/\kitOne K (.ref C) (.ref S)=some b
structure NI (K:Frag) (x:Str):Prop where
 ex:∃ C,o5 K x C/\uP K C/\kitOne K (.ref C) (.type "ValueError")=some true
theorem fO.len {K:Frag}{H F' H':Hp}:∀ {ss:List S}{vs:List V},fO K H F' H' ss vs->vs.length=ss.length
 | [],_,h=>by cases (show _=[] from h);rfl
 | _::_,_,⟨v,r,h1,_,h3⟩=>by subst h1;rw[List.length_cons,List.length_cons,fO.len h3]
section
variable {X:Cx}{H₀:Hp}{Ex:Addr->St->Hp->Prop}{st:Stmt}{rest:List Stmt}{w a b:WX}{pos:Pos}
section
variable {k:Nat}{f:Str}{spx:zN}{p:Pos}{e:Expr}{es:List Expr}{wa:WA} (C:D2 X.prog X.w X.K X.mg X.base k f spx) (hr:b7 k X.A) (hx:Eb X Ex) (ha:PA X (e::es) (cZ X.K wa))
include C hr hx ha
end
end
section
variable {P:Program}{wd:World}{K:Frag}{mg:Str->Option Value}{base:Heap}
end
def N0 (x y:Str):Bool:=x == y || y == "SpotError"
section
variable {X:Cx}
structure OV (mg:Str->Option Value) (y:Str):Prop where
 ex:∃ S,mg y=some (.ref S)
inductive Hv (mg:Str->Option Value):List Str->List Addr->Prop
 | nil:Hv mg [] []
 | cons {y:Str}{S:Addr}{ys:List Str}{Ss:List Addr} (h:mg y=some (.ref S)) (r:Hv mg ys Ss):Hv mg (y::ys) (S::Ss)
variable {e:Expr}{we:WE}{pos p p2:Pos}
end
structure Ld (K:Frag) (mg:Str->Option Value) (rs ys:List Str):Prop where
 cls:∀ y∈ys,NE K mg y
 sub:∀ x∈rs,NH K mg x "SpotError"
 isa:∀ x∈rs,∀ y∈ys,NF K mg x y (N0 x y)
 val:∀ x∈rs,NI K x
theorem Ld.at {K:Frag}{mg:Str->Option Value}{rs ys:List Str}(e:Ld K mg rs ys){y:Str}(h:y∈ys):OV mg y:=by
 obtain⟨C,_,o⟩:=(e.cls y h).ex;exact⟨C,o.bound⟩
end DL
namespace L2
open PySem PyProof.Rows
theorem nF:∀ {ns:List Int}{its:List Value},aT (ns.map V.int) its->IntsAre its ns
 | [],_,.nil=>.nil
 | n::ns,_,.cons h r=>by
  obtain⟨t,rfl⟩:=h;exact .cons n t (nF r)
section
variable {X:Cx}
theorem ya (hc:X.calm=true):eW X (.builtin "sum") (fun xs H Q=>∃ (p:Addr) (ns:List Int),xs=[.ref p]/\cD X.K H p (ns.map V.int)/\Q (.int ns.sum) H):=by
 rintro pins s σ H xs us Q I r ⟨p,ns,rfl,hq,q⟩;obtain⟨u,rfl,rx⟩:=vals1 r
 cases rx
 obtain⟨its,rv,⟨o,n,e,c,d,da⟩,_⟩:=I.list hq;have hl:s.heap.IsList p its.toArray:=⟨o,e,c,n,da⟩;have hi:=nF rv;obtain⟨xs,hx⟩:=hi.allInts.items;have hl':s.heap.IsList p (intItems xs):=hx ▸ hl;refine sum_intListG (I.ok.hd hc) hl' fun h' tk t' hk=>?_;have e1:ns=xs.toList.map (·.1):=by
  rw[<-nums_intItems,<-hx];exact(show numsOf its.toArray.toList=ns from hi.numsOf).symm
 have e2:preSum (numAt xs) xs.size=ns.sum:=by
  rw[preSum_eq,List.take_of_length_le (by simp),e1]
 rw[e2];exact⟨.int ns.sum,H,I.kept (t':=tk) hk,⟨t',rfl⟩,q⟩
end
end L2
namespace DL
open PySem L2
def lU:List T->Option (List Int)
 | []=>some []
 | .int i::r=>match lU r with
  | some l=>some (i::l)
  | none=>none
 | _::_=>none
theorem lC:∀ l:List Int,lU (l.map T.int)=some l
 | []=>rfl
 | a::r=>by rw[List.map_cons];unfold lU;rw[lC r]
theorem jU:∀ {ts:List T}{l:List Int},lU ts=some l->ts=l.map T.int
 | [],l,h=>by cases h;rfl
 | t::r,l,h=>by
  cases t <;> try (simp[lU]at h)
  rename_i i
  split at h
  ·rename_i m hm;simp at h;subst h;rw[List.map_cons,jU hm]
  ·simp at h
def sumK (R:S->Prop)(ts:List T):Prop:=match lU ts with
 | some l=>R (.t (.int l.sum))
 | none=>False
theorem DJ (R:S->Prop)(l:List Int):sumK R (l.map T.int)=R (.t (.int l.sum)):=by unfold sumK;rw[lC]
def vf:List S->(S->Prop)->Prop
 | [.t (.lst ts)],R=>sumK R ts
 | [.vt (.lst ts)],R=>sumK R ts
 | [.ol ts],R=>sumK R ts
 | _,_=>False
theorem j8 {K:PySem.W.Frag}{F:Hp}:∀ {l:List Int}{xs:List V},am K F (l.map T.int) xs->xs=l.map V.int
 | [],_,h=>h
 | a::r,_,⟨x,ys,e,h1,h2⟩=>by
  subst e;rw[j8 h2];exact congrArg (·::_) h1
theorem JJ {K:PySem.W.Frag}:fX K (fun xs H Q=>∃ (p:Addr) (ns:List Int),xs=[.ref p]/\cD K H p (ns.map V.int)/\Q (.int ns.sum) H) vf:=by
 intro F H ss vs R Q sb fu rp h k;have fin:∀ {ts:List T}{a:Addr}{xs:List V}{G:Hp},sumK R ts->cD K H a xs->am K G ts xs->∃ (p:Addr) (ns:List Int),[V.ref a]=[.ref p]/\cD K H p (ns.map V.int)/\Q (.int ns.sum) H:=fun {ts a xs G} h1 h2 h3=>by
  unfold sumK at h1
  split at h1
  ·rename_i l hl;rw[jU hl]at h3;have e:=j8 h3;subst e;exact⟨a,l,rfl,h2,k _ F H (.t (.int _)) (di.refl sb fu) rfl h1⟩
  ·exact h1.elim
 unfold vf at h
 split at h
 ·obtain⟨v,r,rfl,⟨a,xs,rfl,h1,h2⟩,h3⟩:=rp
  cases (show r=[] from h3)
  exact fin h (sb.seq h1) h2
 ·obtain⟨v,r,rfl,⟨a,xs,rfl,h1,h2⟩,h3⟩:=rp
  cases (show r=[] from h3)
  exact fin h h1 h2
 ·obtain⟨v,r,rfl,⟨a,xs,rfl,h1,h2⟩,h3⟩:=rp
  cases (show r=[] from h3)
  exact fin h h1 h2
 ·exact h.elim
theorem boot_sum:bootBuiltins "sum"=some (.builtin "sum"):=by decide +kernel
section
variable {X:Cx}{e:Expr}{wa:WA}{pos p:Pos}
theorem IJ (hm:X.mg "sum"=none) (ha:PA X [e] (cZ X.K wa)) (hg:Gl X "sum":=by rfl) (hc:X.calm=true:=by rfl) (he:starEach [e] X.env=(false,eval e X.env)::starEach [] X.env:=by rfl):PE X (.Call (.Name "sum" p) [e] [] pos) (ap X.K (df vf wa)):=
 gC (ya hc) JJ hm boot_sum ha hg (he:=he) (hpl:=rfl)
end
theorem Ii (ts:List T)(R:S->Prop):vf [.t (.lst ts)] R=sumK R ts:=rfl
theorem Ik (ts:List T)(R:S->Prop):vf [.vt (.lst ts)] R=sumK R ts:=rfl
theorem Ij (ts:List T)(R:S->Prop):vf [.ol ts] R=sumK R ts:=rfl
def o9 (le:Int->Int->Prop)(R:S->Prop)(ts:List T):Prop:=match lU ts with
 | some l=>l≠[]/\∀ m∈l,(∀ x∈l,le x m)->R (.t (.int m))
 | none=>False
def Bo (le:Int->Int->Prop):List S->(S->Prop)->Prop
 | [.t (.lst ts)],R=>o9 le R ts
 | [.vt (.lst ts)],R=>o9 le R ts
 | [.ol ts],R=>o9 le R ts
 | _,_=>False
section
variable {X:Cx}{e:Expr}{wa:WA}{pos p:Pos}
end
theorem Ed (le:Int->Int->Prop)(ts:List T)(R:S->Prop):Bo le [.t (.lst ts)] R=o9 le R ts:=rfl
theorem Ef (le:Int->Int->Prop)(ts:List T)(R:S->Prop):Bo le [.vt (.lst ts)] R=o9 le R ts:=rfl
theorem Ee (le:Int->Int->Prop)(ts:List T)(R:S->Prop):Bo le [.ol ts] R=o9 le R ts:=rfl
def lS (g:WG)(tc:WT)(te:WE):List T->aQ->List T->(List T->Prop)->Prop
 | [],_,acc,R=>R acc
 | x::r,δ,acc,R=>g x δ fun δ1=>tc δ1 fun ok=>if ok=true then te δ1 fun s=>tO (fun y=>acc.length<100000/\lS g tc te r δ1 (acc++[y]) R) s else lS g tc te r δ1 acc R
theorem iG {g:WG}{tc:WT}{te:WE}{ts:List T}{δ:aQ}{R:List T->Prop}(h:lS g tc te ts δ [] R):lR g tc te ts δ R:=⟨fun ts δ acc=>lS g tc te ts δ acc R,h,fun _ _ h=>h,fun _ _ _ _ h=>h⟩
theorem Ei (g:WG)(tc:WT)(te:WE)(δ:aQ)(acc:List T)(R:List T->Prop):lS g tc te [] δ acc R=R acc:=rfl
theorem Eh (g:WG)(tc:WT)(te:WE)(x:T)(r:List T)(δ:aQ)(acc:List T)(R:List T->Prop):lS g tc te (x::r) δ acc R=g x δ fun δ1=>tc δ1 fun ok=>if ok=true then te δ1 fun s=>tO (fun y=>acc.length<100000/\lS g tc te r δ1 (acc++[y]) R) s else lS g tc te r δ1 acc R:=rfl
end DL
namespace L2
open PySem PySem.Spec PyProof.Rows
section
variable {X:Cx}{pins:List (Addr × Obj)}{σ:St}{H:Hp}{s:Shared}
theorem aN.turnedS {h':Heap}{t':Nat}{fp:List Addr}(I:aN X pins σ H s)(k:∀ b o,b∉fp->s.heap.get? b=some o->h'.get? b=some o)(hf:∀ b∈fp,mR X pins H b):aN X pins σ H {s with heap:=h',toks:=t'}:=by
 have nit:∀ b u,H b=some u->b∉fp:=fun b u e z=>by rw[(hf b z).1]at e;cases e
 refine I.step (g':=s.gens) (d':=s.drawn) (ch:=fp) (fun b hb=>?_) (fun b o _ _ hc e _=>k b o hc e) (fun b o _ _ hc e _=>⟨o.slots,k b o hc e⟩) (fun _ _ _ _ n=>n)
  (fun b o hc e=>⟨o,k b o hc e⟩) (fun _ _ e=>e) (fun _ _ _ e=>e) (fun b ps e=>⟨#[],by rw[e];simp⟩) (fun m hm=>?_) (fun b u e=>?_) I.bare
 ·obtain⟨f0,f1,f2,f3,f4,f5⟩:=hf b hb;exact⟨f3,f1,f4,f5⟩
 ·obtain⟨o,es,ep,ho,r⟩:=hm;exact⟨o,es,ep,k _ o (fun z=>(hf _ z).2.1 rfl) ho,r⟩
 ·refine(I.hok b u e).stay (fun c v hc q=>k c v ?_ q) (fun _ q=>q) fun _ _ q=>q
  rcases hc with z|z
  ·rw[z];exact nit b u e
  ·exact nit c _ z
theorem aN.turnedT {h':Heap}{t':Nat}{fp:List Addr}{xs:List V}{its:List Value} (I:aN X pins σ H s) (hv:aT xs its) (hz:xs.length<=sizeLine) (ht:h'.get? s.heap.objs.size=some {cls:=.type "tuple",data:=.seq its.toArray})
  (k:∀ b o,b∉fp->s.heap.get? b=some o->h'.get? b=some o) (hf:∀ b∈fp,mR X pins H b) (hlt:∀ b∈fp,b<s.heap.objs.size) :
  aN X pins σ (cV H s.heap.objs.size (.tup xs)) {s with heap:=h',toks:=t'}/\∀ b∈fp,cV H s.heap.objs.size (.tup xs) b=none:=by
 have fr:∀ b∈fp,cV H s.heap.objs.size (.tup xs) b=none:=fun b hb=>by
  rw[bQ (Nat.ne_of_lt (hlt b hb))];exact(hf b hb).1
 have I1:aN X pins σ (cV H s.heap.objs.size (.tup xs)) {s with heap:=s.heap.push {cls:=.type "tuple",data:=.seq its.toArray}}:=
  I.laid (t':=s.toks) (fun b ob q=>Heap.get?_push_of_some _ q) (Nat.le_refl _) ⟨hz,its,hv,IsTup.new _ _⟩
 refine⟨aN.turnedS (s:={s with heap:=s.heap.push {cls:=.type "tuple",data:=.seq its.toArray}}) (t':=t') (fp:=fp) I1 (fun b o hb e=>?_) fun b hb=>⟨fr b hb,(hf b hb).2⟩,fr⟩
 rcases Heap.get?_push_cases e with ⟨rfl,rfl⟩|e
 ·exact ht
 ·exact k b o hb e
end
def Nx (K:PySem.W.Frag)(l1 l2:Addr):It:=
 ⟨fun i H=>∃ xs x ys y,cD K H l1 xs/\xs[i]?=some x/\cD K H l2 ys/\ys[i]?=some y,
  fun i H v H'=>∃ p x y,H p=none/\v=.ref p/\H'=cV H p (.tup [x,y])/\(∀ xs,cD K H l1 xs->xs[i]?=some x)/\∀ ys,cD K H l2 ys->ys[i]?=some y,
  fun i H=>∃ xs ys,cD K H l1 xs/\cD K H l2 ys/\(xs.length<=i\/ys.length<=i)⟩
structure uM (z TI TO i1 i2:Addr):Prop where
 TIz:TI≠z
 TOz:TO≠z
 i1z:i1≠z
 i2z:i2≠z
 TITO:TI≠TO
 TIi1:TI≠i1
 TIi2:TI≠i2
 TOi1:TO≠i1
 TOi2:TO≠i2
 i12:i1≠i2
def GV (z TI TO i1 i2 l1 l2:Addr)(i:Nat)(h:Heap):Prop:=
 IsZip h z TI TO .none/\IsPair h TI (.ref i1) (.ref i2)/\(∃ a b,IsPair h TO a b)/\h.IsListIter i1 l1 i/\h.IsListIter i2 l2 i
theorem sM {h:Heap}{z TI TO i1 i2 l1 l2:Addr}{i:Nat}{xs ys:Array Value}(D:uM z TI TO i1 i2)(st:GV z TI TO i1 i2 l1 l2 i h)(h1:h.IsList l1 xs)(h2:h.IsList l2 ys):ZipApart z TI TO i1 i2 l1 l2:=by
 obtain⟨a1,a2,⟨a,b,a3⟩,⟨o1,b1,b2,b3⟩,⟨o2,c1,c2,c3⟩⟩:=st;obtain⟨p1,d1,d2,d3⟩:=h1;obtain⟨p2,e1,e2,e3⟩:=h2;have ne:∀ {u v:Addr}{o p:Obj}{m n:String},h.get? u=some o->h.get? v=some p->o.cls=.type m->p.cls=.type n->m≠n->u≠v:=fun x y c d n z=>by
  subst z;rw[x]at y
  cases y
  rw[c]at d
  cases d
  exact n rfl
 exact⟨D.TIz,D.TOz,D.i1z,D.i2z,D.TITO,D.TIi1,D.TIi2,D.TOi1,D.TOi2,D.i12,
  ne d1 a1 d2 rfl (by decide),ne d1 a3 d2 rfl (by decide),ne d1 b1 d2 b2 (by decide),ne d1 c1 d2 c2 (by decide),
  ne e1 a1 e2 rfl (by decide),ne e1 a3 e2 rfl (by decide),ne e1 b1 e2 b2 (by decide),ne e1 c1 e2 c2 (by decide)⟩
theorem DO {P:Program}{w:World}{K:PySem.W.Frag}{elts:List Expr}{x1}{tp:Pos}(z TI TO i1 i2 l1 l2:Addr)(D:uM z TI TO i1 i2) :
  Turn P w K (.Tuple elts x1 tp) (Nx K l1 l2) [z,TI,TO,i1,i2] z (GV z TI TO i1 i2 l1 l2) where
 mem:=by simp
 obj:=fun i h st b hb=>by
  obtain⟨a1,a2,⟨a,b',a3⟩,⟨o1,b1,b2,b3⟩,⟨o2,c1,c2,c3⟩⟩:=st;simp at hb
  rcases hb with rfl|rfl|rfl|rfl|rfl
  ·exact⟨_,a1,fun v q=>by cases q⟩
  ·exact⟨_,a2,fun v q=>by cases q⟩
  ·exact⟨_,a3,fun v q=>by cases q⟩
  ·exact⟨_,b1,fun v q=>by rw[b3]at q;cases q⟩
  ·exact⟨_,c1,fun v q=>by rw[c3]at q;cases q⟩
 keep:=fun i h h' st k=>by
  obtain⟨a1,a2,⟨a,b',a3⟩,b1,c1⟩:=st;exact⟨k z (by simp) _ a1,k TI (by simp) _ a2,⟨a,b',k TO (by simp) _ a3⟩,b1.at fun o e=>k i1 (by simp) o e,c1.at fun o e=>k i2 (by simp) o e⟩
 item:=by
  intro X hP hw hK hc i pins s σ H E I hf st hg;subst hP hw hK;obtain⟨xs,x,ys,y,hq,hx,hq2,hy⟩:=hg;obtain⟨its,rv,p,hz⟩:=I.list hq;obtain⟨its2,rv2,p2,hz2⟩:=I.list hq2;obtain⟨u,hu,ru⟩:=rv.get hx;obtain⟨v,hv,rv'⟩:=rv2.get hy;have A:=sM D st p.isList p2.isList;have hlt:∀ b∈[z,TI,TO,i1,i2],b<s.heap.objs.size:=fun b hb=>by
   obtain⟨a1,a2,⟨a,b',a3⟩,⟨o1,b1,b2,b3⟩,⟨o2,c1,c2,c3⟩⟩:=st;simp at hb
   rcases hb with rfl|rfl|rfl|rfl|rfl
   ·exact Heap.lt_size a1
   ·exact Heap.lt_size a2
   ·exact Heap.lt_size a3
   ·exact Heap.lt_size b1
   ·exact Heap.lt_size c1
  obtain⟨a1,a2,⟨a,b',a3⟩,b1,c1⟩:=st;refine wpAny_pyNext_zip_item A a1 a2 a3 b1 c1 p.isList p2.isList (x:=u) (y:=v) (by simpa using hu) (by simpa using hv) fun h' q1 q2 q3 q4 q5 q6 q7=>?_
  refine⟨_,rfl,wpAny_letOwnedTupleGo_zip (s:={s with heap:=h'}) q1 fun h2 g1 g2=>?_⟩;have kk:∀ b o,b∉[z,TI,TO,i1,i2]->s.heap.get? b=some o->h2.get? b=some o:=fun b o hb e=>by
   simp at hb;obtain⟨n1,n2,n3,n4,n5⟩:=hb;exact g2.extBut _ _ n1 (q7 b o n1 n3 n4 n5 e)
  have szz:z≠s.heap.objs.size:=Nat.ne_of_lt (hlt z (by simp))
  have I2:=I.turnedT (t':=s.toks) (h':=h2) (fp:=[z,TI,TO,i1,i2]) (xs:=[x,y]) (its:=[u,v]) (.cons ru (.cons rv' .nil)) (show 2<=sizeLine by decide) (g2.extBut _ _ szz.symm q5) kk hf hlt
  refine⟨.ref s.heap.objs.size,_,I2.1,rfl,⟨_,x,y,I.hok.fresh (Nat.le_refl _),rfl,rfl,fun zs hz=>by rw[I.list_inj hz hq];exact hx,fun zs hz=>by rw[I.list_inj hz hq2];exact hy⟩,?_,I2.2⟩
  refine⟨g1,g2.extBut _ _ D.TIz (q7 _ _ D.TIz D.TITO D.TIi1 D.TIi2 a2),⟨u,v,g2.extBut _ _ D.TOz q2⟩,q3.extBut g2.extBut D.i1z,q4.extBut g2.extBut D.i2z⟩
 done:=by
  intro X hP hw hK hc i pins s σ H E I hf st hg;subst hP hw hK;obtain⟨xs,ys,hq,hq2,hx⟩:=hg;obtain⟨its,rv,p,hz⟩:=I.list hq;obtain⟨its2,rv2,p2,hz2⟩:=I.list hq2;have A:=sM D st p.isList p2.isList;obtain⟨a1,a2,⟨a,b',a3⟩,b1,c1⟩:=st;have hl:=rv.length;have hl2:=rv2.length;refine wpAny_pyNext_zip_end (I.ok.hd hc) A a1 a2 a3 b1 c1 p.isList p2.isList ?_ fun h' k=>⟨rfl,I.turnedS (t':=s.toks) (fp:=[z,TI,TO,i1,i2]) (fun b o hb e=>?_) hf⟩
  ·rcases hx with q|q
   ·exact .inl (by simp;omega)
   ·exact .inr (by simp;omega)
  ·simp at hb;obtain⟨n1,n2,n3,n4,n5⟩:=hb;exact k b o n1 n3 n4 n5 e
 self:=fun _ _ _ _ _ st h=>wpAny_pyIter_zip st.1 h
section
variable {X:Cx}{elts:List Expr}{x1:Nat}{tp:Pos}
theorem xP (n:Nat):uM (n+4) (n+2) (n+3) n (n+1):=by constructor <;> (intro h;have h':(_:Nat)=_:=h;omega)
def NZ (K:PySem.W.Frag)(ta:TA):TI:=fun σ H R=>ta σ H fun vs H1=>∃ a b,vs=[.ref a,.ref b]/\(∃ xs,cD K H1 a xs)/\(∃ ys,cD K H1 b ys)/\R (Nx K a b) H1
theorem J6 {a b:Expr}{ta:TA}{p pos:Pos} (hg:Gl X "zip") (hm:X.mg "zip"=none) (ha:PA X [a,b] ta) (hs:starEach [a,b] X.env=[(false,eval a X.env),(false,eval b X.env)]:=by rfl) (tL:starEach [b] X.env=[(false,eval b X.env)]:=by rfl) :
  PI X (.Tuple elts x1 tp) (.Call (.Name "zip" p) [a,b] [] pos) (NZ X.K ta):=by
 intro pins s σ H R I h;refine Call_ (jV I hg hm boot_zip (PyProof.Rows.callWith_type1 (cQ (ha pos pins s σ H _ I h) fun us s1 ⟨vs,H1,I1,r1,q1⟩=>?_) (by rw[hs,tL]) (by rw[tL];rfl)))
 obtain⟨l1,l2,e,⟨xs,hq⟩,⟨ys,hq2⟩,q⟩:=q1;subst e
 cases r1 with
 | cons r rr=>
  cases rr with
  | cons r' rr=>
   cases rr
   cases r
   cases r'
   obtain⟨its,rv,p,hz⟩:=I1.list hq;obtain⟨its2,rv2,p2,hz2⟩:=I1.list hq2;refine call_zip_2 p.isList p2.isList fun h' a1 a2 a3 a4 a5 a6 a7=>?_;refine wpAny_pyIter_zip (s:={s1 with heap:=h'}) a1 ?_;refine⟨_,[s1.heap.objs.size+4,s1.heap.objs.size+2,s1.heap.objs.size+3,s1.heap.objs.size,s1.heap.objs.size+1],_,_,H1,rfl,I1.kept (t':=s1.toks) a7,DO _ _ _ _ _ l1 l2 (xP s1.heap.objs.size),⟨a1,a2,⟨_,_,a3⟩,a4,a5⟩,fun b hb=>?_,q⟩;have hb':s1.heap.objs.size<=b:=by
    simp at hb
    rcases hb with rfl|rfl|rfl|rfl|rfl <;> first|exact Nat.le_refl _|exact Nat.le_add_right _ _
   exact I1.fpOk hb' (I1.hok.fresh hb')
theorem ql:eW X (.builtin "sorted") (fun xs H Q=>∃ (p:Addr) (ns:List Int),xs=[.ref p]/\cD X.K H p (ns.map V.int)/\ns.length<64/\∀ ms:List Int,ms.Perm ns->ms.Pairwise (·<=·)->∀ l,H l=none->Q (.ref l) (cV H l (.lst (ms.map V.int)))):=by
 rintro pins s σ H xs us Q I r ⟨p,ns,rfl,hq,hl64,q⟩;obtain⟨u,rfl,rx⟩:=vals1 r
 cases rx
 obtain⟨its,rv,pl,_⟩:=I.list hq;have hi:=nF rv;have hlen:its.length<64:=by have:=rv.length;rw[List.length_map]at this;omega
 refine sorted_ints pl.isList hi hlen fun out ns' a1 a2 a3=>?_;obtain⟨e,he⟩:=sortedAll_at s.heap its out;have hv:∀ {ms:List Int}{us:List Value},IntsAre us ms->aT (ms.map V.int) us:=fun {ms us} h=>by
  induction h with
  | nil=>exact .nil
  | cons n t _ ih=>exact .cons ⟨t,rfl⟩ ih
 refine⟨.ref _,_,I.laid (t':=s.toks) (a:=s.heap.objs.size+1) (o:=.lst (ns'.map V.int)) (fun b u=>sortedAll_old) (by omega) ⟨?_,out.toList,e,hv a1,?_⟩,rfl,q ns' a2 a3 _ (I.hok.fresh (by omega))⟩
 ·rw[List.length_map,a2.length_eq];exact Nat.le_trans (Nat.le_of_lt hl64) (by decide)
 ·rw[Array.toArray_toList];exact he
end
end L2
namespace DL
open PySem L2
def j9:List T->List T->List T
 | t::ts,u::us=>.tup [t,u]::j9 ts us
 | _,_=>[]
theorem uJ:∀ {ts us:List T}{i:Nat}{x:T},(j9 ts us)[i]?=some x->∃ t u,ts[i]?=some t/\us[i]?=some u/\x=.tup [t,u]
 | t::ts,u::us,0,x,h=>by simp[j9]at h;exact⟨t,u,by simp,by simp,h.symm⟩
 | t::ts,u::us,i+1,x,h=>by
  simp only[j9,List.getElem?_cons_succ]at h;obtain⟨a,b,h1,h2,h3⟩:=uJ h;exact⟨a,b,by simpa using h1,by simpa using h2,h3⟩
 | [],us,i,x,h=>by simp[j9]at h
 | t::ts,[],i,x,h=>by simp[j9]at h
theorem uK:∀ {ts us:List T},(j9 ts us).length=min ts.length us.length
 | t::ts,u::us=>by simp[j9,uK]
 | [],us=>by simp[j9]
 | t::ts,[]=>by simp[j9]
theorem Jj {K:PySem.W.Frag}{F:Hp}{a b:Addr}{xs ys:List V}{ts us:List T}(h:cD K F a xs)(r:am K F ts xs)(h2:cD K F b ys)(r2:am K F us ys):zI K F (Nx K a b) (j9 ts us):=by
 intro F1 H1 i f1 sb fu;have q:cD K H1 a xs:=sb.seq (f1.seq h);have q2:cD K H1 b ys:=sb.seq (f1.seq h2);refine⟨fun t ht=>?_,fun hl=>⟨xs,ys,q,q2,?_⟩⟩
 ·obtain⟨t1,t2,g1,g2,rfl⟩:=uJ ht;obtain⟨x,e1,p1⟩:=r.get g1;obtain⟨y,e2,p2⟩:=r2.get g2;refine⟨⟨xs,x,ys,y,q,e1,q2,e2⟩,fun v H2 hv=>?_⟩;obtain⟨p,x',y',hp,rfl,rfl,k1,k2⟩:=hv;have:=k1 xs q;rw[e1]at this
  cases this
  have:=k2 ys q2;rw[e2]at this
  cases this
  have ex:=di.new (.tup [x,y]) sb fu hp;refine⟨_,ex,?_⟩;unfold aw;exact⟨p,_,rfl,iD.of bH,x,_,rfl,aw.same (f1.trans ex.ff) p1,y,_,rfl,aw.same (f1.trans ex.ff) p2,rfl⟩
 ·rw[uK]at hl;rw[r.length,r2.length];omega
def GQ (δ:aQ)(W:List T->aQ->Prop):List S->Prop
 | [.t (.lst ts),.t (.lst us)]=>W (j9 ts us) δ
 | _=>False
def DW (wa:WA):WI:=fun δ W=>wa δ (GQ δ W)
section
variable {X:Cx}{e e2:Expr}{we:WE}{wa:WA}{p pos tp:Pos}{elts:List Expr}{x1:Nat}
theorem IM (hm:X.mg "zip"=none) (ha:PA X [e,e2] (cZ X.K wa)) (hg:Gl X "zip":=by rfl) (hs:starEach [e,e2] X.env=[(false,eval e X.env),(false,eval e2 X.env)]:=by rfl) (tL:starEach [e2] X.env=[(false,eval e2 X.env)]:=by rfl):PI X (.Tuple elts x1 tp) (.Call (.Name "zip" p) [e,e2] [] pos) (lX X.K (DW wa)):=
 (J6 hg hm ha hs tL).imp fun σ H R ⟨δ,W,F,rl,h,k⟩=>⟨δ,_,F,rl,h,fun vs F1 H1 ss ex p q=>by
  unfold GQ at q
  split at q
  ·obtain⟨v,r,rfl,p1,v2,r2,rfl,p2,p3⟩:=p
   cases (show r2=[] from p3)
   unfold dA aw at p1 p2;obtain⟨a,xs,rfl,h1,h2⟩:=p1;obtain⟨b,ys,rfl,h3,h4⟩:=p2;exact⟨a,b,rfl,⟨xs,ex.sub.seq h1⟩,⟨ys,ex.sub.seq h3⟩,k _ F1 F1 H1 _ δ ex (aE.refl _) (rl.ext ex) (Jj h1 h2 h3 h4) q⟩
  ·exact q.elim⟩
end
theorem Ey (wa:WA)(δ:aQ)(W:List T->aQ->Prop):DW wa δ W=wa δ (GQ δ W):=rfl
theorem KO (δ:aQ)(W:List T->aQ->Prop)(ts us:List T):GQ δ W [.t (.lst ts),.t (.lst us)]=W (j9 ts us) δ:=rfl
def iu (R:S->Prop)(ts:List T):Prop:=match lU ts with
 | some l=>l.length<64/\∀ ms:List Int,ms.Perm l->ms.Pairwise (·<=·)->R (.ol (ms.map T.int))
 | none=>False
theorem pT (R:S->Prop)(l:List Int):iu R (l.map T.int)=(l.length<64/\∀ ms:List Int,ms.Perm l->ms.Pairwise (·<=·)->R (.ol (ms.map T.int))):=by unfold iu;rw[lC]
def nA:List S->(S->Prop)->Prop
 | [.t (.lst ts)],R=>iu R ts
 | [.vt (.lst ts)],R=>iu R ts
 | [.ol ts],R=>iu R ts
 | _,_=>False
theorem nG {K:PySem.W.Frag}{F:Hp}:∀ l:List Int,am K F (l.map T.int) (l.map V.int)
 | []=>rfl
 | a::r=>⟨.int a,_,rfl,rfl,nG r⟩
theorem FR {K:PySem.W.Frag}:fX K (fun xs H Q=>∃ (p:Addr) (ns:List Int),xs=[.ref p]/\cD K H p (ns.map V.int)/\ns.length<64/\∀ ms:List Int,ms.Perm ns->ms.Pairwise (·<=·)->∀ l,H l=none->Q (.ref l) (cV H l (.lst (ms.map V.int)))) nA:=by
 intro F H ss vs R Q sb fu rp h k;have fin:∀ {ts:List T}{a:Addr}{xs:List V}{G:Hp},iu R ts->cD K H a xs->am K G ts xs->∃ (p:Addr) (ns:List Int),[V.ref a]=[.ref p]/\cD K H p (ns.map V.int)/\ns.length<64/\∀ ms:List Int,ms.Perm ns->ms.Pairwise (·<=·)->∀ l,H l=none->Q (.ref l) (cV H l (.lst (ms.map V.int))):=fun {ts a xs G} h1 h2 h3=>by
  unfold iu at h1
  split at h1
  ·rename_i l hl;rw[jU hl]at h3;have e:=j8 h3;subst e;refine⟨a,l,rfl,h2,h1.1,fun ms hm hp q hq=>?_⟩;exact k _ F _ (.ol _) (di.newL _ sb fu hq) ⟨q,_,rfl,hq,aJ sb hq,bH,nG ms⟩ (h1.2 ms hm hp)
  ·exact h1.elim
 unfold nA at h
 split at h
 ·obtain⟨v,r,rfl,⟨a,xs,rfl,h1,h2⟩,h3⟩:=rp
  cases (show r=[] from h3)
  exact fin h (sb.seq h1) h2
 ·obtain⟨v,r,rfl,⟨a,xs,rfl,h1,h2⟩,h3⟩:=rp
  cases (show r=[] from h3)
  exact fin h h1 h2
 ·obtain⟨v,r,rfl,⟨a,xs,rfl,h1,h2⟩,h3⟩:=rp
  cases (show r=[] from h3)
  exact fin h h1 h2
 ·exact h.elim
section
variable {X:Cx}{e:Expr}{wa:WA}{pos p:Pos}
theorem EW (hm:X.mg "sorted"=none) (ha:PA X [e] (cZ X.K wa)) (hg:Gl X "sorted":=by rfl) (he:starEach [e] X.env=(false,eval e X.env)::starEach [] X.env:=by rfl):PE X (.Call (.Name "sorted" p) [e] [] pos) (ap X.K (df nA wa)):=
 gC ql FR hm PyProof.Rows.boot_sorted ha hg (he:=he) (hpl:=rfl)
end
theorem Es (ts:List T)(R:S->Prop):nA [.t (.lst ts)] R=iu R ts:=rfl
theorem Eu (ts:List T)(R:S->Prop):nA [.vt (.lst ts)] R=iu R ts:=rfl
theorem Et (ts:List T)(R:S->Prop):nA [.ol ts] R=iu R ts:=rfl
section
variable {X:Cx}{e:Expr}{we:WE}{lo hi:Option Expr}{wl wh:aQ->(Option Int->Prop)->Prop}{pos p2:Pos}
end
end DL
set_option maxHeartbeats 4000000
namespace DL
open PySem PySem.Spec L2 PyProof.Rows
def F9:Expr->Bool
 | .Starred ..=>false
 | _=>true
theorem oi {e:Expr}{es:List Expr}{env:Env}(h:F9 e=true):starEach (e::es) env=(false,eval e env)::starEach es env:=by
 cases e <;> first|rfl|cases h
section
variable {prog:Program}{w:World}{A:Around}{E:Value->Shared->Prop}{s:Shared}
end
section
variable {X:Cx}{e:Expr}{te:TE}{p1 p2 pos1 pos2:Pos}
def Dx (R:S->Prop)(s:S):Prop:=match items s with
 | some ts=>cK ts=true/\R (.ol ts.reverse)
 | none=>False
def DR (we:WE):WE:=fun δ R=>we δ (Dx R)
end
theorem xN (we:WE)(δ:aQ)(R:S->Prop):DR we δ R=we δ (Dx R):=rfl
theorem Kj (R:S->Prop)(ts:List T):Dx R (.t (.lst ts))=(cK ts=true/\R (.ol ts.reverse)):=rfl
theorem Kl (R:S->Prop)(ts:List T):Dx R (.vt (.lst ts))=(cK ts=true/\R (.ol ts.reverse)):=rfl
theorem Kk (R:S->Prop)(ts:List T):Dx R (.ol ts)=(cK ts=true/\R (.ol ts.reverse)):=rfl
def refs (km:List (Addr × List Int)):List V:=km.map fun m=>V.ref m.1
def DK (K:PySem.W.Frag)(te:TE):TE:=fun σ H Q=>te σ H fun x H1=>∃ p d,∃ km:List (Addr × List Int),x=.ref p/\cD K H1 p (refs km)/\km.length<=76/\0<d ∧
 (∀ m∈km,iD K H1 m.1 (m.2.map V.int)/\m.2.length=d) ∧
 ∀ ns:List (Addr × List Int),(∀ m∈ns,m∈km)->(∀ m∈km,m.2∈ns.map (·.2))->(ns.map (·.2)).Nodup->(km.length<=63->ns.Pairwise (fun a b=>ST.lexB a.2 b.2=true))->∀ l,H1 l=none->Q (.ref l) (cV H1 l (.lst (refs ns)))
theorem pP:∀ {km:List (Addr × List Int)}{us:List Value},aT (refs km) us->us=km.map fun m=>Value.ref m.1
 | [],_,.nil=>rfl
 | m::km,_,.cons r t=>by cases r;rw[pP t];rfl
theorem w8:∀ km:List (Addr × List Int),aT (refs km) (km.map fun m=>Value.ref m.1)
 | []=>.nil
 | m::km=>.cons rfl (w8 km)
section
variable {X:Cx}{e:Expr}{te:TE}{p1 p2 pos1 pos2:Pos}
theorem nI {prog:Program}{w:World}:∀ {ks:List Int}{us:List Value},aT (ks.map V.int) us->ItemsAre (intKind prog w) ks us
 | [],_,.nil=>.nil
 | k::ks,_,.cons r t=>by obtain⟨tk,rfl⟩:=r;exact .cons (intKind_is _ _ _ _) (nI t)
theorem GK {pins:List (Addr × Obj)}{σ:L2.St}{H:Hp}{s:Shared}(I:aN X pins σ H s){a:Addr}{ks:List Int}(h:iD X.K H a (ks.map V.int)):IsTupleKey (ST.ik X.prog X.w) s.heap ks a:=by
 obtain⟨its,r,⟨o,ho,hc,n,hd⟩,_⟩:=I.tuple h;exact⟨o,its.toArray,n,ho,hc,hd,by simpa using nI r⟩
theorem vP {k:Nat} (hr:b7 k X.A) (hm1:X.mg "sorted"=none) (hm2:X.mg "set"=none) (hd:X.A.handled=none) (he:PE X e te) (hg1:Gl X "sorted":=by rfl) (hg2:Gl X "set":=by rfl)
  (tL:starEach [e] X.env=(false,eval e X.env)::starEach [] X.env:=by exact oi rfl) (wZ:starEach [.Call (.Name "set" p2) [e] [] pos2] X.env=(false,eval (.Call (.Name "set" p2) [e] [] pos2) X.env)::starEach [] X.env:=by rfl) :
  PE X (.Call (.Name "sorted" p1) [.Call (.Name "set" p2) [e] [] pos2] [] pos1) (DK X.K te):=by
 intro pins s σ H Q I h;refine wpAny_Call_Name_kw (jV I hg1 hm1 PyProof.Rows.boot_sorted ?_);refine PyProof.Rows.callWith_builtin1 ?_ wZ;rw[wZ];show wpAny _ _ (spliced ((false,eval (.Call (.Name "set" p2) [e] [] pos2) X.env)::backTo pos1 (starEach [] X.env))) _ _ s;refine Calls.spliced_cons ?_;refine wpAny_Call_Name_kw (jV I hg2 hm2 PyProof.Rows.boot_set ?_);refine PyProof.Rows.callWith_type1 ?_ tL;rw[tL];show wpAny _ _ (spliced ((false,eval e X.env)::backTo pos2 (starEach [] X.env))) _ _ s;refine Calls.spliced_cons (cQ (he pins s σ H _ I h) fun u s1 ⟨x,H1,I1,r1,q1⟩=>?_);obtain⟨p,d,km,rfl,hq,hlen,hd0,hkm,fin⟩:=q1
 cases r1
 refine Calls.spliced_nil ?_;obtain⟨its,r,pl,hz⟩:=I1.list hq;have eits:=pP r;subst eits;have hsz:((km.map fun m=>Value.ref m.1).toArray).size=km.length:=by simp
 refine ST.call_set_tup (km:=fun i=>km.getD i (0,[])) hd (by have:=hr.units;omega) pl.isList (fun i v hv=>?_) (fun i hi=>?_) (by rw[hsz];omega) fun h2 tk2 hS k2=>?_
 ·rw[List.getElem?_toArray,List.getElem?_map]at hv
  cases hk:km[i]? with
  | none=>rw[hk]at hv;simp at hv
  | some m=>
   rw[hk]at hv;simp only[List.getD_eq_getElem?_getD,hk,Option.getD_some];simpa using hv.symm
 ·rw[hsz]at hi;have e1:km.getD i (0,[])=km[i]:=by simp[hi]
  rw[e1];exact GK I1 (hkm _ (List.getElem_mem hi)).1
 refine Calls.spliced_nil ?_;rw[hsz]at hS;have hmet:∀ m∈ST.met (fun i=>km.getD i (0,[])) km.length,m∈km:=fun m hm=>by
  obtain⟨i,hi,rfl⟩:=ST.met_of _ _ m hm;have e1:km.getD i (0,[])=km[i]:=by simp[hi]
  rw[e1];exact List.getElem_mem hi
 refine ST.call_sorted_set (s:={s1 with heap:=h2,toks:=tk2}) hd hS (Nat.le_trans (ST.met_len _ _) hlen) hd0 (fun m hm=>(hkm m (hmet m hm)).2) fun h3 tk3 D c3 ns hpm hnd hpw k3 le3 hD=>?_;have keep:∀ b o,s1.heap.get? b=some o->h3.get? b=some o:=fun b o e=>k3 b o (k2 b o (Heap.lt_size e) e);have le:s1.heap.objs.size<=D:=by
  obtain⟨o2,_,_,_,_,ho2,_⟩:=hS;exact Nat.le_trans (Nat.le_of_lt (Heap.lt_size ho2)) le3
 have hnl:ns.length<=76:=by rw[hpm.length_eq];exact Nat.le_trans (ST.met_len _ _) hlen
 refine⟨.ref D,_,I1.laid (t':=tk3) keep le (show eX X.prog X.w _ h3 _ (.lst (refs ns)) from⟨?_,_,c3,w8 ns,hD⟩),rfl,fin ns (fun m hm=>hmet m (hpm.mem_iff.mp hm)) (fun m hm=>?_) hnd (fun h=>hpw (Nat.lt_succ_of_le (Nat.le_trans (ST.met_len _ _) h))) _ (I1.hok.fresh le)⟩
 ·unfold refs;rw[List.length_map];exact Nat.le_trans hnl (by decide)
 ·obtain⟨i,hi,rfl⟩:=List.getElem_of_mem hm;have h1:=ST.met_has (fun i=>km.getD i (0,[])) km.length i hi;have e1:km.getD i (0,[])=km[i]:=by simp[hi]
  rw[e1]at h1;exact(hpm.map (·.2)).mem_iff.mpr h1
end
def oo (ks:List Int):T:=.tup (ks.map T.int)
def Od (R:S->Prop)(s:S):Prop:=match items s with
 | some ts=>∃ (d:Nat) (kss:List (List Int)),0<d/\ts=kss.map oo/\(∀ ks∈kss,ks.length=d)/\kss.length<=76 ∧
   ∀ ns:List (List Int),(∀ k∈ns,k∈kss)->(∀ k∈kss,k∈ns)->ns.Nodup->(kss.length<=63->ns.Pairwise (fun a b=>ST.lexB a b=true))->R (.ol (ns.map oo))
 | none=>False
def ot (we:WE):WE:=fun δ R=>we δ (Od R)
theorem pN:∀ ks:List Int,cK (ks.map T.int)=true
 | []=>rfl
 | k::ks=>by simp only[List.map_cons,cK,kb,Bool.true_and];exact pN ks
theorem pO:∀ kss:List (List Int),cK (kss.map oo)=true
 | []=>rfl
 | k::kss=>by
  simp only[List.map_cons,cK,Bool.and_eq_true];exact⟨by unfold oo;simp only[kb];exact pN k,pO kss⟩
theorem md {K:PySem.W.Frag}{H:Hp}:∀ {ks:List Int}{xs:List V},am K H (ks.map T.int) xs->xs=ks.map V.int
 | [],_,h=>h
 | k::ks,_,⟨x,r,e,p,q⟩=>by subst e;cases p;rw[md q];rfl
theorem uE {K:PySem.W.Frag}{H:Hp}:∀ {kss:List (List Int)}{xs:List V},am K H (kss.map oo) xs →
  ∃ km:List (Addr × List Int),km.map (·.2)=kss/\xs=refs km/\∀ m∈km,iD K H m.1 (m.2.map V.int)/\aw K H (oo m.2) (.ref m.1)
 | [],_,h=>⟨[],rfl,h,fun m hm=>absurd hm List.not_mem_nil⟩
 | k::kss,_,⟨x,r,e,p,q⟩=>by
  subst e;obtain⟨km,e1,e2,h1⟩:=uE q;obtain⟨a,ys,e3,sq,ty⟩:=id p;subst e3;have e4:=md ty;subst e4;refine⟨(a,k)::km,by rw[List.map_cons,e1],by rw[e2];rfl,fun m hm=>?_⟩
  rcases List.mem_cons.mp hm with rfl|hm
  ·exact⟨sq,p⟩
  ·exact h1 m hm
theorem tT {K:PySem.W.Frag}{H:Hp}:∀ ns:List (Addr × List Int),(∀ m∈ns,aw K H (oo m.2) (.ref m.1))->am K H ((ns.map (·.2)).map oo) (refs ns)
 | [],_=>rfl
 | m::ns,h=>⟨.ref m.1,refs ns,rfl,h m List.mem_cons_self,tT ns fun m' hm=>h m' (List.mem_cons_of_mem _ hm)⟩
section
variable {X:Cx}{e:Expr}{p1 p2 pos1 pos2:Pos}
theorem va {k:Nat}{we:WE} (hr:b7 k X.A) (hm1:X.mg "sorted"=none) (hm2:X.mg "set"=none) (hd:X.A.handled=none) (he:PE X e (ap X.K we)) (hg1:Gl X "sorted":=by rfl) (hg2:Gl X "set":=by rfl)
  (tL:starEach [e] X.env=(false,eval e X.env)::starEach [] X.env:=by exact oi rfl) (wZ:starEach [.Call (.Name "set" p2) [e] [] pos2] X.env=(false,eval (.Call (.Name "set" p2) [e] [] pos2) X.env)::starEach [] X.env:=by rfl) :
  PE X (.Call (.Name "sorted" p1) [.Call (.Name "set" p2) [e] [] pos2] [] pos1) (ap X.K (ot we)):=
 (vP hr hm1 hm2 hd he hg1 hg2 tL wZ).imp fun σ H Q ⟨δ,R,F,rl,h,k⟩=>⟨δ,_,F,rl,h,fun v F1 H1 s ex p q=>by
  unfold Od at q
  split at q
  ·rename_i ts hi;obtain⟨a,xs,rfl,sq,tp⟩:=(p.val ex.sub).list ex.sub hi;obtain⟨d,kss,hd0,rfl,hlen,h63,fin⟩:=q;obtain⟨km,e1,e2,h1⟩:=uE tp;subst e2;have hkm:∀ m∈km,m.2∈kss:=fun m hm=>by rw[<-e1];exact List.mem_map.mpr ⟨m,hm,rfl⟩
   refine⟨a,d,km,rfl,sq,by rw[<-e1,List.length_map]at h63;exact h63,hd0,fun m hm=>⟨(h1 m hm).1,hlen _ (hkm m hm)⟩,fun ns n1 n2 n4 n3 l hl=>?_⟩
   have e2:=di.newL (refs ns) ex.sub ex.full hl;have hp:am X.K F1 ((ns.map (·.2)).map oo) (refs ns):=am.full ex.full (pO _) (tT ns fun m hm=>(h1 m (n1 m hm)).2);exact k _ F1 _ (.ol ((ns.map (·.2)).map oo)) (ex.trans e2) ⟨l,refs ns,rfl,aJ ex.hh hl,aJ ex.sub hl,bH,hp⟩
    (fin _ (fun k hk=>by obtain⟨m,hm,rfl⟩:=List.mem_map.mp hk;exact hkm m (n1 m hm)) (fun k hk=>by
     rw[<-e1]at hk;obtain⟨m,hm,rfl⟩:=List.mem_map.mp hk;exact n2 m hm) n4 (fun h=>List.pairwise_map.mpr (n3 (by rwa [<-e1,List.length_map]at h))))
  ·exact q.elim⟩
end
theorem xO (we:WE)(δ:aQ)(R:S->Prop):ot we δ R=we δ (Od R):=rfl
end DL
set_option maxHeartbeats 4000000
namespace DL
open PySem PySem.Spec L2 PyProof.Rows
def Jc (i:Nat)(δ:aQ)(N:aQ->Prop)(ts:List T):S->Prop
 | .ol us=>ts.length+us.length<100000/\N (δ.set i (some (.ol (ts++us))))
 | _=>False
def mJ (i:Nat)(we:WE):WS:=fun D δ=>match δ[i]? with
 | some (some (.ol ts))=>we δ (Jc i δ D.nx ts)
 | _=>False
theorem zP {i:Nat}{we:WE}{D:dh}{δ:aQ}:mJ i we D δ=nN i δ fun ts=>we δ (Jc i δ D.nx ts):=rfl
theorem Jd {i:Nat}{δ:aQ}(N:aQ->Prop)(ts us:List T):Jc i δ N ts (.ol us)=(ts.length+us.length<100000/\N (δ.set i (some (.ol (ts++us))))):=rfl
section
variable {X:Cx}{e:Expr}{we:WE}{pos:Pos}{H₀:Hp}{i:Nat}{x:Str}{p1 p2:Pos}
theorem yi (he:PE X e (ap X.K we)) (hv:PE X (.Name x p1) (j7 i):=by exact pv _) (hbase:attributeBase (.Name x p1) "extend" X.env (eval (.Name x p1) X.env)=eval (.Name x p1) X.env:=by rfl)
  (hfew:((backTo pos (starEach [e] X.env)).all (fun x=>!x.1) && (backToKw pos (keywordEach [] X.env)).all (fun x=>x.1.isSome) && decide ([e].length+([]:List Keyword).length+(if ([]:List Keyword).isEmpty then 0 else 1)<30))=true:=by rfl)
  (hline:(p2.endLine == pos.line)=true:=by rfl) (hs:starEach [e] X.env=(false,eval e X.env)::starEach [] X.env:=by rfl) (hplain:(backTo pos (starEach [] X.env)).any (·.1)=false:=by rfl) {pos':Pos}
  (hsw:swapsWith (.Call (.Attribute (.Name x p1) "extend" p2) [e] [] pos) none pos'.line X.env=pure false:=by rfl) :
  PS X (.Expr (.Call (.Attribute (.Name x p1) "extend" p2) [e] [] pos) pos') (bC X.K H₀ (mJ i we)):=
 (rR (Hd PySem.F.plainAttrs_list PySem.F.slot_list_extend PySem.F.type_list_extend yM hv (cB he jY hs) hbase hfew hline hs hplain) hsw).imp fun D σ H ⟨δ,D',F,s0,rl,h,ok⟩=>by
  unfold mJ at h
  split at h
  ·rename_i ts hi;obtain⟨v,ha,a,xs,rfl,hF,hH,hr⟩:=rl.slot i _ hi;refine⟨_,ha,.inl ⟨rfl,xs,cD.of hH⟩,δ,_,F,rl,h,fun v F1 H1 s e p q=>?_⟩
   cases s with
   | ol us=>
    obtain⟨hl,q⟩:=q;obtain⟨b,zs,rfl,_,hFb,hHb,hr2⟩:=p;have h1:=e.hh _ _ hH;refine⟨a,b,xs,zs,rfl,rfl,h1,hHb,by rw[hr.length,hr2.length];exact Nat.le_of_lt (mG hl),?_⟩
    exact ok.nx σ F1 _ _ e.ff ((rl.ext e).mutate hi ha (e.keep a (by rw[hH];simp) hF) ⟨xs,h1⟩ ((am.same e.ff hr).append hr2)) q
   | _=>exact q.elim
  ·exact h.elim
end
end DL
namespace DL
open PySem PySem.Spec L2 PyProof.Rows
section
variable {X:Cx}{H₀:Hp}{Ex:Addr->L2.St->Hp->Prop}{st:Stmt}{a b:WX}{pos:Pos}
end
end DL
open L2 DL
def Ho:List String:=("zP Jd xN Kj Kl Kk xO Ju Jv Fz FA LB LC NL LA Ig Ie HY Eg HH HJ LG OY Lv NN OX NJ Lr Ln Ll Lo Lm LK LL LM LN Ja I0 Jb E6 E7 E5 IY IZ IX IQ IR IP IW lx IV IT L1 IS IU OW Im HC Lw Ia HD Lx Ib EA JT FI Li NK Lu HG LD Lq Ot Ou Ov N4 N5 N6 N7 N8 HE HQ HN HR HP Le HV HX HL HK Ej El Ek L8 Mr NM KD M3 ty_int KF M4 M6 M5 qY oR qW qZ rb qX oM nH oJ oN oO oK qO oP qM qP qQ qN rh oS rd rj rm re rz oT rn rA rB rq qT oQ qR qU qV qS Lh zQ Fw Fy Fx Ew M1 zR Km zS Kn jg lj li jf LF KH Ly JV Er Ks Ku Kt Em Ic J7 zO Il Lz Ep List.set_cons_zero List.set_cons_succ List.map_cons List.map_nil if_true if_false true_and and_true Bool.not_true Bool.not_false Bool.not_eq_true decide_eq_true_eq decide_eq_false_iff_not Bool.not_not Bool.false_eq_true Bool.true_eq_false ite_true ite_false Int.reducePow Int.reduceToNat Int.reduceNeg Int.reduceMul Int.reduceAdd Int.reduceSub List.length_cons List.length_nil Nat.zero_add Nat.reduceAdd ite_not LO LP LQ LR CV FD CT CY CS CU FF CW FG L4 L5 L3 Lp HU Ow ty_str GL Lj HZ G7 Jy Jz JA JB JC JD M2 KI Ih Lg Iw Iz Iy HF LH Fl Fk Gi Kc Gg Gj Gk Gh Dp pM Bool.and_true Bool.true_and Bool.and_self xt A4 Cw A5 Cy A3 Cu A8 CB A9 CC A7 CA AX Cr AY Cs AW Cq AZ Ct A6 Cz AV Cp Gm AB B4 AC B5 AA B3 AF B8 AG B9 AE B7 Ax BX Ay BY Aw BW Az BZ AD B6 Av BV Gp Bi CK Bj CL Bh CJ Bm CO Bn CP Bl CN Bc CG Be CH Bb CF Bg CI Bk CM Ba CD Gn AN Cg AO Ci AM Cf AS Cm AT Co AR Ck AJ Cc AK Cd AI Cb AL Ce AQ Cj AH Ca aZ bt ym spT L9 Ms L7 Mq oH List.replicate_succ List.replicate_zero List.cons_append List.nil_append List.getElem?_cons_succ List.getElem?_cons_zero Option.join_some Option.join_none Ii Ik Ij Ed Ef Ee Ei Eh Ey KO Es Eu Et".splitOn " ")
local macro_rules | `(tactic| walk_at "dl")=>do {let ids:Array (Lean.TSyntax `ident):=Ho.toArray.map (fun x=>Lean.mkIdent x.toName);`(tactic| try simp only[$[$ids:ident],*])}
local macro_rules | `(tactic| walk_at "db")=>do {let ids:Array (Lean.TSyntax `ident):=Ho.toArray.map (fun x=>Lean.mkIdent x.toName);`(tactic| try simp (config:={implicitDefEqProofs:=false}) only [$[$ids:ident],*])}
local macro_rules | `(tactic| walk_at "sz")=>`(tactic| first | assumption | with_reducible exact Sz.of (m:=250) (by omega) (by omega) | with_reducible exact Sz.mul (by walk_at "sz") (by walk_at "sz") | with_reducible exact Sz.add (by walk_at "sz") (by walk_at "sz") | with_reducible exact Sz.sub (by walk_at "sz") (by walk_at "sz") | with_reducible exact Sz.neg (by walk_at "sz"))
local macro_rules | `(tactic| walk_at "szk")=>`(tactic| first | assumption | exact Sz.mono (by walk_at "sz") (by decide))
local macro_rules | `(tactic| walk_at "mul")=>`(tactic| first | with_reducible exact Jx (by decide) (by decide) | with_reducible exact cA (by walk_at "sz") (by walk_at "sz") (by decide) (by decide) | with_reducible exact Jx (by omega) (by omega) | with_reducible exact Mp (by omega) (by omega))
local macro_rules | `(tactic| walk_at "side")=>`(tactic| first | decide | with_reducible exact Dk (by decide) (by decide) (by decide) | with_reducible exact Ag (by decide) (by decide +kernel) | walk_at "mul" | omega | assumption)
local macro_rules | `(tactic| walk_at "pre")=>`(tactic| repeat ((with_reducible apply And.intro);(case left=>walk_at "side")))
local macro_rules | `(tactic| walk_at "go")=>`(tactic| (walk_at "dl";walk_at "pre"))
local macro_rules | `(tactic| walk_at "gb")=>`(tactic| (walk_at "db";walk_at "pre"))
namespace Law
open L2 DL
def bP:aR:=fun ss R=>∃ a b:Int,ss=[.t (.int a),.t (.int b)]/\R (.t (.int (Int.gcd a b)))
def bB:aR:=bP
def bg:aR:=fun ss R=>∃ s,ss=[.t s]/\Hn s≠.exc/\R (.t (.bl (bX (Hn s) .int && !bX (Hn s) .bool)))
theorem t0:∀ ss R,bP ss R->ss.length=2:=by rintro ss R ⟨a,b,rfl,_⟩;rfl
theorem oU:∀ ss R,bB ss R->ss.length=2:=by rintro ss R ⟨a,b,rfl,_⟩;rfl
theorem t8:∀ ss R,bg ss R->ss.length=1:=by rintro ss R ⟨a,rfl,_⟩;rfl
theorem Ft:∀ ss R,pU ss R->ss.length=1:=by rintro ss R ⟨a,rfl,_⟩;rfl
def js:WS:=
 (aG (aP 2 (df jR (af (ae 0) ao)))
 (aG (aP 3 (df jR (af (ae 1) ao)))
 (bL (sA (wB (zu (ae 3) (wC (.int 0)))) (aG (aP 4 (ee (ae 2) (ae 3)))
 (aG (aP 2 (ae 3))
 (aP 3 (ae 4)))))
 (oq 2))))
def jv:WS:=
 (bi (pX (xH .int (ae 0)) (DT (xH .bool (ae 0)))))
def fT:WS:=
 (aG (aP 0 (df jR (af (ae 0) ao)))
 (aG (aP 1 (df jR (af (ae 1) ao)))
 (bL (sA (wB (wg (ae 1) (wC (.int 0)))) (GN 0 1 (af (ae 1) (af (ee (ae 0) (ae 1)) ao))))
 (oq 0))))
theorem tI (g l:Nat):Nat.gcd l (g % l)=Nat.gcd g l:=by
 rw[Nat.gcd_comm l (g % l),<-Nat.gcd_rec,Nat.gcd_comm]
theorem vF:∀ ss R,bP ss R->js {nx:=fun _=>R (.t .non),rt:=R} (aD ["one","other","greater","lesser","rest"] ss):=by
 rintro ss R ⟨a,b,rfl,h⟩;show js _ [some (.t (.int a)),some (.t (.int b)),none,none,none];unfold js;walk_at "dl";rw[ll,ll];refine⟨fun δ=>∃ r,δ=[some (.t (.int a)),some (.t (.int b)),some (.t (.int (Int.gcd a b))),some (.t (.int 0)),r],?_,fun δ ⟨r,e⟩=>by subst e;walk_at "dl";exact h⟩
 refine⟨fun n δ=>∃ (g l:Nat) (r:Option S),δ=[some (.t (.int a)),some (.t (.int b)),some (.t (.int g)),some (.t (.int l)),r]/\l=n/\Nat.gcd g l=Int.gcd a b,⟨_,_,_,none,rfl,rfl,rfl⟩,?_⟩;rintro n δ ⟨g,l,r,rfl,rfl,hg⟩;walk_at "dl"
 cases l with
 | zero=>rw[if_neg (by simp)];exact⟨r,by rw[<-hg];simp⟩
 | succ l=>
  rw[if_pos (by simp;omega)]
  refine⟨by omega,?_⟩
  rw[nB];exact⟨_,Nat.mod_lt g (by omega),_,_,_,rfl,rfl,by rw[tI];exact hg⟩
theorem rK:∀ ss R,bB ss R->fT {nx:=fun _=>R (.t .non),rt:=R} (aD ["_law_one","_law_other"] ss):=by
 rintro ss R ⟨a,b,rfl,h⟩;show fT _ [some (.t (.int a)),some (.t (.int b))];unfold fT;walk_at "dl";rw[ll,ll];refine⟨fun δ=>δ=[some (.t (.int (Int.gcd a b))),some (.t (.int 0))],?_,fun δ e=>by subst e;walk_at "dl";exact h⟩
 refine⟨fun n δ=>∃ (g l:Nat),δ=[some (.t (.int g)),some (.t (.int l))]/\l=n/\Nat.gcd g l=Int.gcd a b,⟨_,_,_,rfl,rfl,rfl⟩,?_⟩;rintro n δ ⟨g,l,rfl,rfl,hg⟩;walk_at "dl"
 cases l with
 | zero=>rw[if_neg (by simp)];rw[<-hg];simp
 | succ l=>
  rw[if_pos (by omega)]
  refine⟨by omega,?_⟩
  rw[nB];exact⟨_,Nat.mod_lt g (by omega),_,_,rfl,rfl,by rw[tI];exact hg⟩
theorem vJ:∀ ss R,bg ss R->jv {nx:=fun _=>R (.t .non),rt:=R} (aD ["_law_found"] ss):=by
 rintro ss R ⟨s,rfl,hx,h⟩;show jv _ [some (.t s)];unfold jv
 cases s with
 | exc c=>exact absurd rfl hx
 | _=>walk_at "dl";exact h
theorem cT (v:Int)(R:S->Prop)(h:R (.t (.bl true))):bg [.t (.int v)] R:=⟨_,rfl,by simp[Hn],h⟩
end Law
namespace Law
open L2 DL
def eY (h:Hf)(s:bJ):Int:=h.1*s.1.1*s.2.2+h.2.1*s.2.1*s.1.2-h.2.2*(s.1.2*s.2.2)
def sgn (i:Int):Int:=if i>0 then 1 else if i<0 then -1 else 0
def fF:aR:=fun ss R=>∃ s:bJ,ss=[.t (spT s)]/\uS 60000 s/\R (.t (.int (s.1.2*s.2.2)))
def gN:aR:=fun ss R=>∃ (h:Hf) (s:bJ),ss=[.t (aZ h),.t (spT s)]/\eC 300000 h/\uS 60000 s/\R (.t (.int (eY h s)))
def kO:aR:=fun ss R=>∃ i:Int,ss=[.t (.int i)]/\R (.t (.int (sgn i)))
def kN:aR:=fun ss R=>∃ (h:Hf) (s:bJ),ss=[.t (aZ h),.t (spT s)]/\eC 300000 h/\uS 60000 s/\R (.t (.int (sgn (eY h s))))
def jq:WS:=
 (bi (bA (au aV (au aV (ae 0) (wC (.int 0))) (wC (.int 1))) (au aV (au aV (ae 0) (wC (.int 1))) (wC (.int 1)))))
def kU:WS:=
 (aG (aP 2 (au aV (ae 1) (wC (.int 0))))
 (aG (aP 3 (au aV (ae 1) (wC (.int 1))))
 (bi (eR (cm (bA (bA (au aV (ae 0) (wC (.int 0))) (au aV (ae 2) (wC (.int 0)))) (au aV (ae 3) (wC (.int 1)))) (bA (bA (au aV (ae 0) (wC (.int 1))) (au aV (ae 3) (wC (.int 0)))) (au aV (ae 2) (wC (.int 1))))) (bA (au aV (ae 0) (wC (.int 2))) (aB fF (af (ae 1) ao)))))))
def sC:WS:=
 (aG (ft (wB (wg (ae 0) (wC (.int 0)))) (bi (wC (.int 1))) aY)
 (aG (ft (wB (sG (ae 0) (wC (.int 0)))) (bi (D0 nw (wC (.int 1)))) aY)
 (bi (wC (.int 0)))))
def w_side:WS:=
 (bi (aB kO (af (aB gN (af (ae 0) (af (ae 1) ao))) ao)))
theorem tY:∀ ss R,fF ss R->ss.length=1:=by rintro ss R ⟨a,rfl,_⟩;rfl
theorem vn:∀ ss R,gN ss R->ss.length=2:=by rintro ss R ⟨a,b,rfl,_⟩;rfl
theorem BI:∀ ss R,kO ss R->ss.length=1:=by rintro ss R ⟨a,rfl,_⟩;rfl
theorem BH:∀ ss R,kN ss R->ss.length=2:=by rintro ss R ⟨a,b,rfl,_⟩;rfl
theorem vD:∀ ss R,fF ss R->jq {nx:=fun _=>R (.t .non),rt:=R} (aD ["spot"] ss):=by
 rintro ss R ⟨⟨⟨x,p⟩,y,q⟩,rfl,⟨⟨z1,z2⟩,z3,z4⟩,h⟩;dsimp only at z1 z2 z3 z4;show jq _ [some (.t (.tup [.tup [.int x,.int p],.tup [.int y,.int q]]))]
 delta jq
 walk_at "dl";exact⟨cA z2 z4 (by decide) (by decide),h⟩
theorem yR:∀ ss R,gN ss R->kU {nx:=fun _=>R (.t .non),rt:=R} (aD ["half","spot","x","y"] ss):=by
 rintro ss R ⟨⟨a,b,c⟩,⟨⟨x,p⟩,y,q⟩,rfl,⟨y1,y2,y3⟩,⟨⟨z1,z2⟩,z3,z4⟩,h⟩;dsimp only at y1 y2 y3 z1 z2 z3 z4;show kU _ [some (.t (.tup [.int a,.int b,.int c])),some (.t (.tup [.tup [.int x,.int p],.tup [.int y,.int q]])),none,none]
 delta kU
 walk_at "dl";refine⟨by walk_at "mul",by walk_at "mul",by walk_at "mul",by walk_at "mul",⟨(x,p),(y,q)⟩,rfl,⟨⟨z1,z2⟩,z3,z4⟩,?_⟩
 walk_at "dl";exact⟨by walk_at "mul",h⟩
theorem FQ:∀ ss R,kO ss R->sC {nx:=fun _=>R (.t .non),rt:=R} (aD ["number"] ss):=by
 rintro ss R ⟨i,rfl,h⟩;show sC _ [some (.t (.int i))]
 delta sC
 unfold sgn at h;walk_at "dl"
 split
 ·rename_i hi;rw[if_pos hi]at h;exact h
 ·rename_i hi;rw[if_neg hi]at h
  split
  ·rename_i hj;rw[if_pos hj]at h;exact h
  ·rename_i hj;rw[if_neg hj]at h;exact h
theorem FP:∀ ss R,kN ss R->w_side {nx:=fun _=>R (.t .non),rt:=R} (aD ["half","spot"] ss):=by
 rintro ss R ⟨a,s,rfl,y,z,h⟩;show w_side _ [some (.t (aZ a)),some (.t (spT s))]
 delta w_side
 walk_at "dl";refine⟨a,s,rfl,y,z,?_⟩;walk_at "dl";refine⟨_,rfl,?_⟩;walk_at "dl";exact h
end Law
namespace Law
open L2 DL
def iP (h:Hf)(p:Pt):Bool:=decide (h.2.2<=h.1*p.1+h.2.1*p.2)
def fR (h:Hf)(ps:List Pt):Nat:=ps.countP (iP h)
def fJ:aR:=fun ss R=>∃ (h:Hf) (ps:List Pt),ss=[.t (aZ h),.t (.lst (ps.map bt))]/\eC 60000 h/\(∀ p∈ps,SzF 60000 p)/\ps.length<10000/\R (.t (.int (fR h ps)))
def jx:WS:=
 (bi (df b9 (af (fM 1 [0] (cu (ae 1)) (aS 0) (wB (K2 (cm (bA (au aV (ae 1) (wC (.int 0))) (au aV (ae 0) (wC (.int 0)))) (bA (au aV (ae 1) (wC (.int 1))) (au aV (ae 0) (wC (.int 1))))) (au aV (ae 1) (wC (.int 2))))) (ae 0)) ao)))
theorem ub:∀ ss R,fJ ss R->ss.length=2:=by rintro ss R ⟨a,b,rfl,_⟩;rfl
theorem vL:∀ ss R,fJ ss R->jx {nx:=fun _=>R (.t .non),rt:=R} (aD ["half","points"] ss):=by
 rintro ss R ⟨⟨a,b,c⟩,ps,rfl,⟨y1,y2,y3⟩,hs,hl,h⟩;dsimp only at y1 y2 y3;show jx _ [some (.t (.tup [.int a,.int b,.int c])),some (.t (.lst (ps.map bt)))]
 delta jx
 walk_at "dl";refine dj (f:=bt) (h:=bt) (p:=iP (a,b,c)) (fun δ=>∃ r,δ=[r,some (.t (.tup [.int a,.int b,.int c]))]) (fun p _=>xr p) (by omega) ⟨_,rfl⟩ ?_ ?_
 ·rintro⟨x,y⟩ hp δ ⟨r,rfl⟩ Y N h1 h2;obtain⟨z1,z2⟩:=hs _ hp;dsimp only at z1 z2;walk_at "go"
  split
  ·rename_i hc;exact h1 _ ⟨_,rfl⟩ (by simp[iP];exact hc)
  ·rename_i hc;exact h2 _ ⟨_,rfl⟩ (by simp[iP];omega)
 ·walk_at "dl";rw[List.length_map,<-List.countP_eq_length_filter];exact h
end Law
namespace Law
open L2 DL
theorem bT {a d:Int}(h:d ∣ a):a.fdiv d*d=a:=by
 obtain⟨k,rfl⟩:=h
 by_cases hd:d=0
 ·subst hd;simp
 ·rw[Int.mul_fdiv_cancel_left _ hd,Int.mul_comm]
theorem wV {a d:Int}(h:d ∣ a)(ha:a≠0):a.fdiv d≠0:=fun e=>by
 have:=bT h;rw[e]at this;omega
def cb (a b c:Int):Nat:=Int.gcd (Int.gcd a b) c
theorem vi (a b c:Int):(cb a b c:Int) ∣ a:=Int.dvd_trans (Int.gcd_dvd_left _ _) (Int.gcd_dvd_left _ _)
theorem vj (a b c:Int):(cb a b c:Int) ∣ b:=Int.dvd_trans (Int.gcd_dvd_left _ _) (Int.gcd_dvd_right _ _)
theorem Br (a b c:Int):(cb a b c:Int) ∣ c:=Int.gcd_dvd_right _ _
theorem gZ {a b:Int}(h:a≠0\/b≠0):(Int.gcd a b:Int)≠0:=fun e=>by
 have e':Int.gcd a b=0:=by omega
 rw[Int.gcd_eq_zero_iff]at e';omega
theorem qJ {a b c:Int}(h:a≠0\/b≠0):(cb a b c:Int)≠0:=gZ (.inl (gZ h))
def Je (a b c:Int):Hf:=(a.fdiv (cb a b c),b.fdiv (cb a b c),c.fdiv (cb a b c))
def lQ (a b:Int):Int:=if b<0 then -(Int.gcd a b:Int) else (Int.gcd a b:Int)
def ml (a b:Int):Int × Int:=(a.fdiv (lQ a b),b.fdiv (lQ a b))
def zD (p q:Pt):Hf:=Je (p.2-q.2) (q.1-p.1) ((p.2-q.2)*p.1+(q.1-p.1)*p.2)
def kM:aR:=fun ss R=>∃ a b c:Int,ss=[.t (.int a),.t (.int b),.t (.int c)]/\(a≠0\/b≠0)/\eC 9000 (a,b,c)/\R (.t (aZ (Je a b c)))
def fE:aR:=fun ss R=>∃ p q:Pt,ss=[.t (bt p),.t (bt q)]/\p≠q/\SzF 4000 p/\SzF 4000 q/\R (.t (aZ (zD p q)))
def gP:aR:=fun ss R=>∃ a b:Int,ss=[.t (.int a),.t (.int b)]/\b≠0/\Sz 9000 b/\R (.t (ym (ml a b)))
def eM:aR:=fun ss R=>∃ p q:Int × Int,ss=[.t (ym p),.t (ym q)]/\SzF 60000 p/\SzF 60000 q/\R (.t (.bl (decide (p.1*q.2<q.1*p.2))))
def sB:WS:=
 (aG (ft (sv (iw (wB (lM (ae 0) (wC (.int 0)))) (wB (lM (ae 1) (wC (.int 0)))))) sn aY)
 (aG (aP 3 (aB bP (af (aB bP (af (ae 0) (af (ae 1) ao))) (af (ae 2) ao))))
 (bi (dB (af (dI (ae 0) (ae 3)) (af (dI (ae 1) (ae 3)) (af (dI (ae 2) (ae 3)) ao)))))))
def jp:WS:=
 (aG (aP 2 (eR (au aV (ae 0) (wC (.int 1))) (au aV (ae 1) (wC (.int 1)))))
 (aG (aP 3 (eR (au aV (ae 1) (wC (.int 0))) (au aV (ae 0) (wC (.int 0)))))
 (bi (aB kM (af (ae 2) (af (ae 3) (af (cm (bA (ae 2) (au aV (ae 0) (wC (.int 0)))) (bA (ae 3) (au aV (ae 0) (wC (.int 1))))) ao)))))))
def mP:WS:=
 (aG (ft (wB (lM (ae 1) (wC (.int 0)))) sn aY)
 (aG (aP 2 (aB bP (af (ae 0) (af (ae 1) ao))))
 (bL (ft (wB (sG (ae 1) (wC (.int 0)))) (aP 2 (D0 nw (ae 2))) aY)
 (bi (dB (af (dI (ae 0) (ae 2)) (af (dI (ae 1) (ae 2)) ao)))))))
def mN:WS:=
 (bi (sG (bA (au aV (ae 0) (wC (.int 0))) (au aV (ae 1) (wC (.int 1)))) (bA (au aV (ae 1) (wC (.int 0))) (au aV (ae 0) (wC (.int 1))))))
theorem BG:∀ ss R,kM ss R->ss.length=3:=by rintro ss R ⟨a,b,c,rfl,_⟩;rfl
theorem tX:∀ ss R,fE ss R->ss.length=2:=by rintro ss R ⟨a,b,rfl,_⟩;rfl
theorem yE:∀ ss R,gP ss R->ss.length=2:=by rintro ss R ⟨a,b,rfl,_⟩;rfl
theorem yC:∀ ss R,eM ss R->ss.length=2:=by rintro ss R ⟨a,b,rfl,_⟩;rfl
theorem FM:∀ ss R,kM ss R->sB {nx:=fun _=>R (.t .non),rt:=R} (aD ["a","b","c","common"] ss):=by
 rintro ss R ⟨a,b,c,rfl,hne,⟨sa,sb,sc⟩,h⟩;dsimp only at sa sb sc;show sB _ [some (.t (.int a)),some (.t (.int b)),some (.t (.int c)),none]
 delta sB
 walk_at "db";refine⟨fun k=>k=false,?_,?_⟩
 ·walk_at "db"
  split
  ·rename_i e;omega
  ·trivial
 rintro k rfl;walk_at "db";refine⟨_,_,rfl,?_⟩;walk_at "db";refine⟨_,_,rfl,?_⟩;walk_at "db";have hg:(cb a b c:Int)≠0:=qJ hne;have sg:Sz 9000 (cb a b c:Int):=(Sz.gcd (Sz.gcd sa sb) sc).mono (by decide)
 have dv:∀ z,mQ z (cb a b c:Int):=fun z=>wM hg sg (by decide)
 exact⟨dv _,dv _,dv _,h⟩
theorem vC:∀ ss R,fE ss R->jp {nx:=fun _=>R (.t .non),rt:=R} (aD ["one","other","a","b"] ss):=by
 rintro ss R ⟨⟨u,v⟩,⟨x,y⟩,rfl,hne,⟨s1,s2⟩,⟨s3,s4⟩,h⟩;dsimp only at s1 s2 s3 s4;show jp _ [some (.t (.tup [.int u,.int v])),some (.t (.tup [.int x,.int y])),none,none]
 delta jp
 walk_at "db";have sa:Sz 4001 (v-y):=by walk_at "szk"
 have sb:Sz 4001 (x-u):=by walk_at "szk"
 have sc:Sz 9000 ((v-y)*u+(x-u)*v):=by walk_at "szk"
 refine⟨cA sa s1 (by decide) (by decide),cA sb s2 (by decide) (by decide),_,_,_,rfl,?_,⟨sa.mono (by decide),sb.mono (by decide),sc⟩,h⟩
 by_cases e:v-y=0
 ·right
  intro e2;exact hne (by rw[show u=x by omega,show v=y by omega])
 ·exact .inl e
theorem C7:∀ ss R,gP ss R->mP {nx:=fun _=>R (.t .non),rt:=R} (aD ["top","bottom","common"] ss):=by
 rintro ss R ⟨a,b,rfl,hne,sb,h⟩;show mP _ [some (.t (.int a)),some (.t (.int b)),none]
 delta mP
 walk_at "db";rw[if_neg (by simpa using hne)]
 refine⟨_,_,rfl,?_⟩;walk_at "db";refine⟨fun δ=>δ=[some (.t (.int a)),some (.t (.int b)),some (.t (.int (lQ a b)))],?_,?_⟩
 ·walk_at "db";unfold lQ
  split <;> rfl
 rintro δ rfl;walk_at "db";have hg:lQ a b≠0:=by
  have:=gZ (a:=a) (.inr hne);unfold lQ;split <;> omega
 have sg:Sz 9000 (lQ a b):=by
  have q:Sz 9000 (Int.gcd a b:Int):=by rw[Int.gcd_comm];exact Sz.gcdL sb hne
  unfold lQ
  split
  ·exact Sz.neg q
  ·exact q
 have dv:∀ z,mQ z (lQ a b):=fun z=>wM hg sg (by decide)
 exact⟨dv _,dv _,h⟩
theorem C5:∀ ss R,eM ss R->mN {nx:=fun _=>R (.t .non),rt:=R} (aD ["one","other"] ss):=by
 rintro ss R ⟨⟨a,b⟩,⟨c,d⟩,rfl,⟨s1,s2⟩,⟨s3,s4⟩,h⟩;dsimp only at s1 s2 s3 s4;show mN _ [some (.t (.tup [.int a,.int b])),some (.t (.tup [.int c,.int d]))]
 delta mN
 walk_at "db";exact⟨cA s1 s4 (by decide) (by decide),cA s3 s2 (by decide) (by decide),h⟩
end Law
namespace Law
open L2 DL
def qd (p:Pt):bJ:=((p.1,1),(p.2,1))
def aI (s:bJ):Hf:=(s.1.1*s.2.2,s.2.1*s.1.2,s.1.2*s.2.2)
end Law
namespace Law
open L2 DL
def cr (p q r:Pt):Int:=(q.1-p.1)*(r.2-p.2)-(q.2-p.2)*(r.1-p.1)
def fn (m p:Pt):Int:=m.1*p.1+m.2*p.2
theorem Jg (a b p q:Pt):cr a p q=cr a b q-cr a b p+cr b p q:=by unfold cr;grind
theorem Jh (m a b p q:Pt):(fn m b-fn m a)*cr a p q=(fn m p-fn m a)*cr a b q-(fn m q-fn m a)*cr a b p:=by unfold cr fn;grind
theorem BA (m z t p q:Pt):(fn m t-fn m z)*cr t p q=(fn m p-fn m t)*cr z t q-(fn m q-fn m t)*cr z t p:=by unfold cr fn;grind
theorem Bz (m a b c p:Pt):(fn m c-fn m b)*cr a b p=(fn m p-fn m b)*cr a b c+(fn m b-fn m a)*cr b c p:=by unfold cr fn;grind
theorem By (m a b v u w:Pt):(fn m b-fn m v)*cr u w a+(fn m v-fn m a)*cr u w b=(fn m b-fn m a)*cr u w v-fn m (w.1-u.1,w.2-u.2)*cr a b v:=by unfold cr fn;grind
theorem qr (a b:Pt):cr a b b=0:=by unfold cr;grind
theorem sZ (a b:Pt):cr a b a=0:=by unfold cr;grind
theorem ET (a b q:Pt):cr b a q=-cr a b q:=by unfold cr;grind
theorem lH {f x:Int}(hf:0<f)(h:0<=f*x):0<=x:=by
 rcases Int.lt_or_le x 0 with hx|hx
 ·have:=Int.mul_neg_of_pos_of_neg hf hx;omega
 ·exact hx
theorem vB {a b:Int}(ha:a<=0)(hb:0<=b):a*b<=0:=Int.mul_nonpos_of_nonpos_of_nonneg ha hb
def uN:List Pt->Prop
 | c::b::a::r=>0<cr a b c/\uN (b::a::r)
 | _=>True
def Lf (q:Pt):List Pt->Prop
 | b::a::r=>0<=cr a b q/\Lf q (a::r)
 | _=>True
def Dn (m:Pt)(k:List Pt):Prop:=k.Pairwise fun b a=>fn m a<fn m b
def popTo (p:Pt):List Pt->List Pt
 | b::a::r=>if cr a b p<=0 then popTo p (a::r) else b::a::r
 | k=>k
def NQ (ps:List Pt):List Pt:=ps.foldl (fun k p=>p::popTo p k) []
theorem pq:∀ {b:Pt}{k:List Pt},uN (b::k)->uN k
 | _,[],_=>trivial
 | _,[_],_=>trivial
 | _,_::_::_,h=>h.2
theorem Fv:∀ {q b:Pt}{k:List Pt},Lf q (b::k)->Lf q k
 | _,_,[],_=>trivial
 | _,_,_::_,h=>h.2
structure Off (m:Pt) (D:List Pt) (p p0:Pt) (t:Pt) (k:List Pt):Prop where
 dn:Dn m (t::k)
 cv:uN (t::k)
 lf:∀ q∈D,Lf q (t::k)
 sb:∀ x∈t::k,x∈D
 ls:(t::k).getLast?=some p0
 ne:∀ q∈D,fn m t<=fn m q->0<=cr t p q
theorem FK {m p p0 b a:Pt}{D r:List Pt}(hp:∀ q∈D,fn m q<fn m p)(O:Off m D p p0 b (a::r))(hle:cr a b p<=0):Off m D p p0 a r:=by
 have hab:fn m a<fn m b:=(List.pairwise_cons.mp O.dn).1 a List.mem_cons_self;refine⟨(List.pairwise_cons.mp O.dn).2,pq O.cv,fun q hq=>Fv (O.lf q hq),fun x hx=>O.sb x (List.mem_cons_of_mem _ hx),by simpa using O.ls,fun q hq hqa=>?_⟩
 have h1:0<=cr a b q:=(O.lf q hq).1
 rcases Int.lt_or_le (fn m q) (fn m b) with hqb|hqb
 ·have hap:fn m a<fn m p:=hp a (O.sb a (by simp))
  have i:=Jh m a b p q;have g1:0<=(fn m p-fn m a)*cr a b q:=Int.mul_nonneg (by omega) h1
  have g2:(fn m q-fn m a)*cr a b p<=0:=Int.mul_nonpos_of_nonneg_of_nonpos (by omega) hle
  exact lH (f:=fn m b-fn m a) (by omega) (by omega)
 ·have h2:=O.ne q hq hqb;have i:=Jg a b p q;omega
theorem Dj {m p p0:Pt}{D:List Pt}(hp:∀ q∈D,fn m q<fn m p):∀ (k:List Pt) (t:Pt),Off m D p p0 t k →
  ∃ t' k',popTo p (t::k)=t'::k'/\Off m D p p0 t' k'/\∀ z r,k'=z::r->0<cr z t' p
 | [],t,O=>⟨t,[],rfl,O,fun z r e=>nomatch e⟩
 | a::r,t,O=>by
  by_cases h:cr a t p<=0
  ·obtain⟨t',k',e,O',h'⟩:=Dj hp r a (FK hp O h);exact⟨t',k',by simp only[popTo,if_pos h];exact e,O',h'⟩
  ·refine⟨t,a::r,by simp only[popTo,if_neg h],O,fun z r' e=>?_⟩
   cases e;omega
theorem xu {m p:Pt}:∀ (k:List Pt) (t:Pt),Dn m (t::k)->uN (t::k)->(∀ x∈t::k,fn m x<fn m p)->(∀ z r,k=z::r->0<=cr z t p)->Lf p (t::k)
 | [],t,_,_,_,_=>trivial
 | z::r,t,hd,hc,hx,h=>by
  refine⟨h z r rfl,xu r z (List.pairwise_cons.mp hd).2 (pq hc) (fun x hx'=>hx x (List.mem_cons_of_mem _ hx')) fun y r' e=>?_⟩;subst e;have h1:0<cr y z t:=hc.1;have hzt:fn m z<fn m t:=(List.pairwise_cons.mp hd).1 z List.mem_cons_self;have hyz:fn m y<fn m z:=(List.pairwise_cons.mp (List.pairwise_cons.mp hd).2).1 y List.mem_cons_self;have hzp:=hx z (by simp)
  have i:=Bz m y z t p;have g1:0<=(fn m p-fn m z)*cr y z t:=Int.mul_nonneg (by omega) (by omega)
  have g2:0<=(fn m z-fn m y)*cr z t p:=Int.mul_nonneg (by omega) (h z (y::r') rfl)
  exact lH (f:=fn m t-fn m z) (by omega) (by omega)
structure Ch (m:Pt) (D:List Pt) (p0 t:Pt) (k:List Pt):Prop where
 dn:Dn m (t::k)
 cv:uN (t::k)
 lf:∀ q∈D,Lf q (t::k)
 sb:∀ x∈t::k,x∈D
 ls:(t::k).getLast?=some p0
 hi:∀ q∈D,q≠t->fn m q<fn m t
 lo:∀ q∈D,fn m p0<=fn m q
theorem EQ {m p p0 t:Pt}{D k:List Pt}(C:Ch m D p0 t k)(hp:∀ q∈D,fn m q<fn m p):∃ k',popTo p (t::k)=k'/\Ch m (D++[p]) p0 p k':=by
 have O:Off m D p p0 t k:=⟨C.dn,C.cv,C.lf,C.sb,C.ls,fun q hq h=>by
  by_cases e:q=t
  ·subst e;rw[sZ];exact Int.le_refl _
  ·have:=C.hi q hq e;omega⟩
 obtain⟨t',k',e,O',h'⟩:=Dj hp k t O;have hall:∀ q∈D,0<=cr t' p q:=fun q hq=>by
  rcases Int.lt_or_le (fn m q) (fn m t') with h|h
  ·cases k' with
   | nil=>
    have:t'=p0:=by simpa using O'.ls
    subst this;have:=C.lo q hq;omega
   | cons z r=>
    have hz:=h' z r rfl;have hzt:fn m z<fn m t':=(List.pairwise_cons.mp O'.dn).1 z List.mem_cons_self;have h1:0<=cr z t' q:=(O'.lf q hq).1;have htp:=hp t' (O'.sb t' (by simp))
    have i:=BA m z t' p q;have g1:0<=(fn m p-fn m t')*cr z t' q:=Int.mul_nonneg (by omega) h1
    have g2:(fn m q-fn m t')*cr z t' p<=0:=vB (by omega) (by omega)
    exact lH (f:=fn m t'-fn m z) (by omega) (by omega)
  ·exact O'.ne q hq h
 refine⟨_,e,List.pairwise_cons.mpr ⟨fun x hx=>hp x (O'.sb x hx),O'.dn⟩,?_,fun q hq=>?_,fun x hx=>?_,?_,fun q hq hne=>?_,fun q hq=>?_⟩
 ·cases k' with
  | nil=>trivial
  | cons z r=>exact⟨h' z r rfl,O'.cv⟩
 ·rcases List.mem_append.mp hq with hq|hq
  ·exact⟨hall q hq,O'.lf q hq⟩
  ·obtain rfl:=List.mem_singleton.mp hq;refine⟨by rw[qr];exact Int.le_refl _,xu (m:=m) k' t' O'.dn O'.cv (fun x hx=>hp x (O'.sb x hx)) fun z r e=>Int.le_of_lt (h' z r e)⟩
 ·rcases List.mem_cons.mp hx with rfl|hx
  ·simp
  ·exact List.mem_append_left _ (O'.sb x hx)
 ·have:=O'.ls;simpa using this
 ·rcases List.mem_append.mp hq with hq|hq
  ·exact hp q hq
  ·exact absurd (List.mem_singleton.mp hq) hne
 ·rcases List.mem_append.mp hq with hq|hq
  ·exact C.lo q hq
  ·obtain rfl:=List.mem_singleton.mp hq;have hh:p0∈D:=O'.sb p0 (List.mem_of_getLast? O'.ls);exact Int.le_of_lt (hp p0 hh)
theorem wJ {m p0:Pt}:∀ (l D:List Pt) (t:Pt) (k:List Pt),Ch m D p0 t k->(D++l).Pairwise (fun a b=>fn m a<fn m b) →
  ∃ t' k',l.foldl (fun k p=>p::popTo p k) (t::k)=t'::k'/\Ch m (D++l) p0 t' k'/\(l≠[]->l.getLast?=some t')/\(l=[]->t'=t)
 | [],D,t,k,C,_=>⟨t,k,rfl,by simpa using C,fun h=>absurd rfl h,fun _=>rfl⟩
 | p::l,D,t,k,C,hs=>by
  have hp:∀ q∈D,fn m q<fn m p:=fun q hq=>(List.pairwise_append.mp hs).2.2 q hq p List.mem_cons_self;obtain⟨k',e,C'⟩:=EQ C hp;obtain⟨t',k2,e2,C2,h1,h2⟩:=wJ l (D++[p]) p k' C' (by simpa using hs)
  refine⟨t',k2,by rw[List.foldl_cons,e];exact e2,by simpa using C2,fun _=>?_,fun h=>nomatch h⟩
  cases l with
  | nil=>rw[h2 rfl];rfl
  | cons x l=>simpa using h1 (by simp)
theorem z9 {m p0:Pt}{l:List Pt}(hs:(p0::l).Pairwise (fun a b=>fn m a<fn m b)):∃ t k,NQ (p0::l)=t::k/\Ch m (p0::l) p0 t k/\(p0::l).getLast?=some t:=by
 have C0:Ch m [p0] p0 p0 []:=⟨List.pairwise_singleton _ _,trivial,fun q hq=>trivial,fun x hx=>hx,rfl,fun q hq hne=>absurd (List.mem_singleton.mp hq) hne,fun q hq=>by rw[List.mem_singleton.mp hq];exact Int.le_refl _⟩
 obtain⟨t,k,e,C,h1,h2⟩:=wJ l [p0] p0 [] C0 hs;refine⟨t,k,e,C,?_⟩
 cases l with
 | nil=>rw[h2 rfl];rfl
 | cons x l=>simpa using h1 (by simp)
end Law
namespace Law
open L2 DL
theorem Jf (m a v u w:Pt):(fn m a-fn m v)*cr u v w=(fn m w-fn m v)*cr u v a-(fn m v-fn m u)*cr v w a:=by unfold cr fn;grind
structure ww (m:Pt) (S C:List Pt):Prop where
 left:∀ i (h:i+1<C.length),∀ q∈S,0<=cr C[i] C[i+1] q
 conv:∀ i (h:i+2<C.length),0<cr C[i] C[i+1] C[i+2]
 up:∀ i j (hi:i<C.length) (hj:j<C.length),i<j->fn m C[i]<fn m C[j]
 sub:∀ x∈C,x∈S
 lo:∀ q∈S,∀ h:0<C.length,fn m C[0]<=fn m q
 hi:∀ q∈S,∀ h:C.length-1<C.length,fn m q<=fn m C[C.length-1]
theorem BL {q:Pt}:∀ (k:List Pt),Lf q k->∀ i (h:i+1<k.length),0<=cr k[i+1] k[i] q
 | [],_,i,h=>by simp at h
 | [a],_,i,h=>by simp at h
 | b::a::r,hl,0,h=>hl.1
 | b::a::r,hl,i+1,h=>BL (a::r) hl.2 i (by simpa using h)
theorem sY:∀ (k:List Pt),uN k->∀ i (h:i+2<k.length),0<cr k[i+2] k[i+1] k[i]
 | [],_,i,h=>by simp at h
 | [a],_,i,h=>by simp at h
 | [a,b],_,i,h=>absurd h (by simp only[List.length_cons,List.length_nil];omega)
 | c::b::a::r,hl,0,h=>hl.1
 | c::b::a::r,hl,i+1,h=>sY (b::a::r) hl.2 i (by simpa using h)
theorem sV {m p0 t:Pt}{S k:List Pt}(C:Ch m S p0 t k):ww m S (t::k).reverse:=by
 have hr:∀ i (h:i<(t::k).reverse.length),(t::k).reverse[i]=(t::k)[(t::k).length-1-i]'(by simp at h ⊢;omega):=fun i h=>List.getElem_reverse h
 have hdn:=List.pairwise_iff_getElem.mp C.dn;refine⟨fun i h q hq=>?_,fun i h=>?_,fun i j hi hj hij=>?_,fun x hx=>C.sb x (List.mem_reverse.mp hx),fun q hq h=>?_,fun q hq h=>?_⟩
 ·rw[hr,hr];simp only[List.length_reverse]at h;have:=BL _ (C.lf q hq) ((t::k).length-1-(i+1)) (by omega)
  have e:(t::k).length-1-(i+1)+1=(t::k).length-1-i:=by omega
  simpa only [e] using this
 ·rw[hr,hr,hr];simp only[List.length_reverse]at h;have:=sY _ C.cv ((t::k).length-1-(i+2)) (by omega)
  have e:(t::k).length-1-(i+2)+1=(t::k).length-1-(i+1):=by omega
  have e2:(t::k).length-1-(i+2)+2=(t::k).length-1-i:=by omega
  simpa only [e,e2] using this
 ·rw[hr,hr];simp only[List.length_reverse]at hi hj;exact hdn _ _ (by omega) (by omega) (by omega)
 ·have e:(t::k).reverse[0]=p0:=by
   have h1:=C.ls;rw[<-List.head?_reverse]at h1;rw[List.head?_eq_getElem?,List.getElem?_eq_getElem h]at h1;exact Option.some.inj h1
  rw[e];exact C.lo q hq
 ·have e:(t::k).reverse[(t::k).reverse.length-1]=t:=by
   rw[hr];simp
  rw[e]
  by_cases hqt:q=t
  ·rw[hqt];exact Int.le_refl _
  ·exact Int.le_of_lt (C.hi q hq hqt)
theorem strict {m m':Pt}{S C C':List Pt}(A:ww m S C)(A':ww m' S C')(hc:1<C.length)(hc':1<C'.length)(e1:C'[0]=C[C.length-1])(e2:C'[C'.length-1]=C[0])
  (inj:∀ a∈S,∀ b∈S,fn m a=fn m b->a=b) {i:Nat} (hi:i+1<C.length) {v:Pt} (hv:v∈C\/v∈C') (h1:v≠C[i]) (h2:v≠C[i+1]):0<cr C[i] C[i+1] v:=by
 have hvS:v∈S:=by
  rcases hv with h|h
  ·exact A.sub v h
  ·exact A'.sub v h
 have haS:C[i]∈S:=A.sub _ (List.getElem_mem _);have hbS:C[i+1]∈S:=A.sub _ (List.getElem_mem _);have hge:=A.left i hi v hvS;have hab:=A.up i (i+1) (by omega) hi (by omega)
 rcases Int.lt_or_eq_of_le hge with h|h
 ·exact h
 exfalso;have h0:cr C[i] C[i+1] v=0:=h.symm;have na:fn m v≠fn m C[i]:=fun e=>h1 (inj _ hvS _ haS e);have nb:fn m v≠fn m C[i+1]:=fun e=>h2 (inj _ hvS _ hbS e)
 rcases Int.lt_or_le (fn m C[i+1]) (fn m v) with hgt|hle
 ·rcases Nat.lt_or_ge (i+2) C.length with hl|hl
  ·have c1:=A.conv i hl
   have c2:=A.left (i+1) hl v hvS;have id:=Bz m C[i] C[i+1] C[i+2] v;rw[h0,Int.mul_zero]at id;have g1:0<(fn m v-fn m C[i+1])*cr C[i] C[i+1] C[i+2]:=Int.mul_pos (by omega) c1
   have g2:0<=(fn m C[i+1]-fn m C[i])*cr C[i+1] C[i+2] v:=Int.mul_nonneg (by omega) c2
   omega
  ·have:=A.hi v hvS (by omega)
   have e:C.length-1=i+1:=by omega
   simp only[e]at this;omega
 rcases Int.lt_or_le (fn m v) (fn m C[i]) with hlt|hge2
 ·cases i with
  | zero=>have:=A.lo v hvS (by omega);omega
  | succ i=>
   have c1:=A.conv i (by omega)
   have c2:=A.left i (by omega) v hvS
   have hzt:=A.up i (i+1) (by omega) (by omega) (by omega)
   have id:=BA m C[i] C[i+1] C[i+1+1] v;rw[h0,Int.mul_zero]at id;have g1:0<=(fn m C[i+1+1]-fn m C[i+1])*cr C[i] C[i+1] v:=Int.mul_nonneg (by omega) c2
   have g2:(fn m v-fn m C[i+1])*cr C[i] C[i+1] C[i+1+1]<0:=Int.mul_neg_of_neg_of_pos (by omega) c1
   omega
 have hav:fn m C[i]<fn m v:=by omega
 have hvb:fn m v<fn m C[i+1]:=by omega
 rcases hv with hv|hv
 ·obtain⟨j,hj,rfl⟩:=List.getElem_of_mem hv
  rcases Nat.lt_trichotomy j i with h|h|h
  ·have:=A.up j i hj (by omega) h;omega
  ·subst h;omega
  ·rcases Nat.lt_or_ge (i+1) j with h'|h'
   ·have:=A.up (i+1) j hi hj h';omega
   ·have:j=i+1:=by omega
    subst this;omega
 ·obtain⟨j,hj,rfl⟩:=List.getElem_of_mem hv;have hj0:j≠0:=fun e=>by
   subst e;rw[e1]at hvb;have:=A.hi C[i+1] hbS (by omega)
   omega
  have hjl:j≠C'.length-1:=fun e=>by
   subst e;rw[e2]at hav;have:=A.lo C[i] haS (by omega)
   omega
  obtain⟨j,rfl⟩:∃ j',j=j'+1:=⟨j-1,by omega⟩
  have hl:j+2<C'.length:=by omega
  have cv:=A'.conv j hl
  have l1:=A'.left j (by omega) C[i] haS
  have l2:=A'.left j (by omega) C[i+1] hbS
  have l3:=A'.left (j+1) hl C[i] haS;have l4:=A'.left (j+1) hl C[i+1] hbS;have i1:=By m C[i] C[i+1] C'[j+1] C'[j] C'[j+1];have i2:=By m C[i] C[i+1] C'[j+1] C'[j+1] C'[j+2];rw[h0,qr,Int.mul_zero,Int.mul_zero]at i1;rw[h0,sZ,Int.mul_zero,Int.mul_zero]at i2;have g1:0<=(fn m C[i+1]-fn m C'[j+1])*cr C'[j] C'[j+1] C[i]:=Int.mul_nonneg (by omega) l1
  have g2:0<=(fn m C'[j+1]-fn m C[i])*cr C'[j] C'[j+1] C[i+1]:=Int.mul_nonneg (by omega) l2
  have g3:0<=(fn m C[i+1]-fn m C'[j+1])*cr C'[j+1] C'[j+2] C[i]:=Int.mul_nonneg (by omega) l3
  have g4:0<=(fn m C'[j+1]-fn m C[i])*cr C'[j+1] C'[j+2] C[i+1]:=Int.mul_nonneg (by omega) l4
  have z1:cr C'[j] C'[j+1] C[i]=0:=by
   have:(fn m C[i+1]-fn m C'[j+1])*cr C'[j] C'[j+1] C[i]=0:=by omega
   rcases Int.mul_eq_zero.mp this with h|h
   ·omega
   ·exact h
  have z2:cr C'[j+1] C'[j+2] C[i]=0:=by
   have:(fn m C[i+1]-fn m C'[j+1])*cr C'[j+1] C'[j+2] C[i]=0:=by omega
   rcases Int.mul_eq_zero.mp this with h|h
   ·omega
   ·exact h
  have i3:=Jf m C[i] C'[j+1] C'[j] C'[j+2];rw[z1,z2,Int.mul_zero,Int.mul_zero]at i3
  rcases Int.mul_eq_zero.mp (show(fn m C[i]-fn m C'[j+1])*cr C'[j] C'[j+1] C'[j+2]=0 by omega) with h|h
  ·omega
  ·omega
def KZ (H:List Pt)(k:Nat)(hk:k<H.length):Pt:=if h:k=0 then H[H.length-1] else H[k-1]
structure Lb (S H:List Pt):Prop where
 left:∀ k (hk:k<H.length),∀ q∈S,0<=cr (KZ H k hk) H[k] q
 strict:∀ k (hk:k<H.length),∀ v∈H,v≠KZ H k hk->v≠H[k]->0<cr (KZ H k hk) H[k] v
 sub:∀ x∈H,x∈S
 fst:∀ k (hk:k<H.length),0<k->H[k]≠H[0]
 two:∀ h:H.length=2,∀ q∈S,cr H[0] H[1] q=0/\∃ m:Pt,fn m H[0]<=fn m q/\fn m q<=fn m H[1]/\S.Pairwise fun a b=>fn m a<fn m b
 len:2<=H.length
def nE (S:List Pt):List Pt:=(NQ S).reverse.dropLast++(NQ S.reverse).reverse.dropLast
def neg (m:Pt):Pt:=(-m.1,-m.2)
theorem qE (m p:Pt):fn (neg m) p=-fn m p:=by unfold fn neg;grind
theorem Dy {m p0 p1:Pt}{l:List Pt}(hs:(p0::p1::l).Pairwise (fun a b=>fn m a<fn m b)):Lb (p0::p1::l) (nE (p0::p1::l))/\∀ h:0<(nE (p0::p1::l)).length,(nE (p0::p1::l))[0]=p0:=by
 obtain⟨t,k,e,C,hl⟩:=z9 hs;generalize hS:p0::p1::l=S at *;have hrev:S.reverse.Pairwise (fun a b=>fn (neg m) a<fn (neg m) b):=by
  rw[List.pairwise_reverse];exact hs.imp fun h=>by rw[qE,qE];omega
 obtain⟨z,r,hr⟩:∃ z r,S.reverse=z::r:=by
  cases h:S.reverse with
  | nil=>rw[List.reverse_eq_nil_iff]at h;rw[h]at hS;exact nomatch hS
  | cons z r=>exact⟨z,r,rfl⟩
 have hz:z=t:=by
  have h1:S.reverse.head?=some z:=by rw[hr];rfl
  rw[List.head?_reverse,hl]at h1;exact(Option.some.inj h1).symm
 subst hz;rw[hr]at hrev;obtain⟨t',k',e',C',hl'⟩:=z9 hrev;have ht':t'=p0:=by
  rw[<-hr,List.getLast?_reverse,<-hS]at hl';exact(Option.some.inj hl').symm
 subst ht';have A:=sV C;have A':ww (neg m) S (t'::k').reverse:=by
  have B:=sV C';have hm:∀ q,q∈z::r↔q∈S:=fun q=>by rw[<-hr];exact List.mem_reverse
  exact⟨fun i h q hq=>B.left i h q ((hm q).mpr hq),B.conv,B.up,fun x hx=>(hm x).mp (B.sub x hx),fun q hq h=>B.lo q ((hm q).mpr hq) h,fun q hq h=>B.hi q ((hm q).mpr hq) h⟩
 have eL0:(z::k).reverse.head?=some t':=by rw[List.head?_reverse];exact C.ls
 have eU0:(t'::k').reverse.head?=some z:=by rw[List.head?_reverse];exact C'.ls
 have eL1:(z::k).reverse.getLast?=some z:=by rw[List.getLast?_reverse];rfl
 have eU1:(t'::k').reverse.getLast?=some t':=by rw[List.getLast?_reverse];rfl
 have hzS:z∈S:=C.sb z List.mem_cons_self;have htS:t'∈S:=by rw[<-hS];exact List.mem_cons_self
 have inj:∀ a∈S,∀ b∈S,fn m a=fn m b->a=b:=fun a ha b hb hab=>by
  obtain⟨i,hi,rfl⟩:=List.getElem_of_mem ha;obtain⟨j,hj,rfl⟩:=List.getElem_of_mem hb;have hp:=List.pairwise_iff_getElem.mp hs
  rcases Nat.lt_trichotomy i j with h|h|h
  ·have:=hp i j hi hj h;omega
  ·subst h;rfl
  ·have:=hp j i hj hi h;omega
 have hne:t'≠z:=fun h=>by
  have h1:p1∈S:=by rw[<-hS];simp
  have h2:fn m t'<fn m p1:=by rw[<-hS]at hs;exact(List.pairwise_cons.mp hs).1 p1 List.mem_cons_self
  by_cases h3:p1=z
  ·rw[h3,<-h]at h2;omega
  ·have:=C.hi p1 h1 h3;rw[<-h]at this;omega
 have eH:nE S=(z::k).reverse.dropLast++(t'::k').reverse.dropLast:=by unfold nE;rw[e,hr,e']
 rw[eH];generalize (z::k).reverse=L at *;generalize (t'::k').reverse=U at *;have lenOf:∀ {l:List Pt}{a b:Pt},l.head?=some a->l.getLast?=some b->a≠b->1<l.length:=fun {l a b} h1 h2 h3=>by
  match l with
  | []=>simp at h1
  | [x]=>simp at h1 h2;exact absurd (h1.symm.trans h2) h3
  | _::_::_=>simp
 have hL:=lenOf eL0 eL1 hne;have hU:=lenOf eU0 eU1 (Ne.symm hne);have gL0:L[0]=t':=by rw[List.head?_eq_getElem?,List.getElem?_eq_getElem (by omega)]at eL0;exact Option.some.inj eL0
 have gU0:U[0]=z:=by rw[List.head?_eq_getElem?,List.getElem?_eq_getElem (by omega)]at eU0;exact Option.some.inj eU0
 have gL1:L[L.length-1]=z:=by rw[List.getLast?_eq_getElem?,List.getElem?_eq_getElem (by omega)]at eL1;exact Option.some.inj eL1
 have gU1:U[U.length-1]=t':=by rw[List.getLast?_eq_getElem?,List.getElem?_eq_getElem (by omega)]at eU1;exact Option.some.inj eU1
 have inj':∀ a∈S,∀ b∈S,fn (neg m) a=fn (neg m) b->a=b:=fun a ha b hb hab=>inj a ha b hb (by rw[qE,qE]at hab;omega)
 have hlen:(L.dropLast++U.dropLast).length=L.length-1+(U.length-1):=by simp
 have at1:∀ i (h:i<(L.dropLast++U.dropLast).length) (h':i<L.length-1),(L.dropLast++U.dropLast)[i]=L[i]:=fun i h h'=>by
  rw[List.getElem_append_left (by simpa using h'),List.getElem_dropLast]
 have at2:∀ i (h:i<(L.dropLast++U.dropLast).length) (h':L.length-1<=i),(L.dropLast++U.dropLast)[i]=U[i-(L.length-1)]'(by rw[hlen]at h;omega):=fun i h h'=>by
  rw[List.getElem_append_right (by simpa using h'),List.getElem_dropLast]
  simp
 have hvm:∀ v∈L.dropLast++U.dropLast,v∈L\/v∈U:=fun v hv=>by
  rcases List.mem_append.mp hv with h|h
  ·exact .inl ((List.dropLast_sublist _).subset h)
  ·exact .inr ((List.dropLast_sublist _).subset h)
 have side:∀ k (hk:k<(L.dropLast++U.dropLast).length),(∃ i,∃ hi:i+1<L.length,KZ (L.dropLast++U.dropLast) k hk=L[i]/\(L.dropLast++U.dropLast)[k]=L[i+1]) ∨
   (∃ i,∃ hi:i+1<U.length,KZ (L.dropLast++U.dropLast) k hk=U[i]/\(L.dropLast++U.dropLast)[k]=U[i+1]):=fun k hk=>by
  unfold KZ
  by_cases h0:k=0
  ·subst h0
   right
   refine⟨U.length-2,by omega,?_,?_⟩
   ·rw[dif_pos rfl];simp only[hlen];rw[at2 _ _ (by omega)]
    congr 1;omega
   ·rw[at1 _ _ (by omega),gL0,<-gU1]
    congr 1;omega
  ·rw[dif_neg h0]
   rcases Nat.lt_or_ge (L.length-1) k with h|h
   ·right
    refine⟨k-1-(L.length-1),by omega,?_,?_⟩
    ·rw[at2 _ _ (by omega)]
    ·rw[at2 _ _ (by omega)]
     congr 1;omega
   ·left
    refine⟨k-1,by omega,?_,?_⟩
    ·rw[at1 _ _ (by omega)]
    ·rcases Nat.lt_or_ge k (L.length-1) with h'|h'
     ·rw[at1 _ _ h']
      congr 1;omega
     ·have:k=L.length-1:=by omega
      subst this;rw[at2 _ _ (by omega)]
      have e1:L.length-1-(L.length-1)=0:=by omega
      have e2:L.length-1-1+1=L.length-1:=by omega
      simp only[e1,e2];rw[gU0,gL1]
 refine⟨⟨fun k hk q hq=>?_,fun k hk v hv h1 h2=>?_,fun x hx=>?_,fun k hk h0=>?_,fun h2 q hq=>?_,by rw[hlen];omega⟩,fun h=>by rw[at1 _ _ (by omega),gL0]⟩
 ·rcases side k hk with ⟨i,hi,ea,eb⟩|⟨i,hi,ea,eb⟩
  ·rw[ea,eb];exact A.left i hi q hq
  ·rw[ea,eb];exact A'.left i hi q hq
 ·rcases side k hk with ⟨i,hi,ea,eb⟩|⟨i,hi,ea,eb⟩
  ·rw[ea,eb];exact strict A A' hL hU (by rw[gU0,gL1]) (by rw[gU1,gL0]) inj hi (hvm v hv) (by rw[<-ea];exact h1) (by rw[<-eb];exact h2)
  ·rw[ea,eb];exact strict A' A hU hL (by rw[gL0,gU1]) (by rw[gL1,gU0]) inj' hi ((hvm v hv).symm) (by rw[<-ea];exact h1) (by rw[<-eb];exact h2)
 ·rcases hvm x hx with h|h
  ·exact A.sub x h
  ·exact A'.sub x h
 ·rw[at1 0 (by omega) (by omega),gL0]
  rcases Nat.lt_or_ge k (L.length-1) with h'|h'
  ·rw[at1 _ _ h'];intro h3;have:=A.up 0 k (by omega) (by omega) h0
   rw[gL0,h3]at this;omega
  ·rw[at2 _ _ h'];intro h3;have:=A'.up (k-(L.length-1)) (U.length-1) (by rw[hlen]at hk;omega) (by omega) (by rw[hlen]at hk;omega)
   rw[gU1,h3]at this;omega
 ·have hL2:L.length=2:=by omega
  have hU2:U.length=2:=by omega
  have x0:(L.dropLast++U.dropLast)[0]=t':=by rw[at1 _ _ (by omega),gL0]
  have x1:(L.dropLast++U.dropLast)[1]=z:=by
   rw[at2 _ _ (by omega)]
   simp only[hL2];exact gU0
  have y0:=A.left 0 (by omega) q hq
  have y1:=A'.left 0 (by omega) q hq
  have gl1:L[1]=z:=by simpa only [hL2] using gL1
  have gu1:U[1]=t':=by simpa only [hU2] using gU1
  simp only[Nat.zero_add]at y0 y1;rw[gL0,gl1]at y0;rw[gU0,gu1,ET]at y1;rw[x0,x1];refine⟨by omega,m,?_,?_,hs⟩
  ·have:=A.lo q hq (by omega);rwa [gL0]at this
  ·have:=A.hi q hq (by omega);rwa [gL1]at this
end Law
namespace Law
open L2 DL
theorem _root_.DL.SzF.mono3 {n m:Nat}{p:Pt}(h:SzF n p)(l:n<=m):SzF m p:=⟨h.1.mono l,h.2.mono l⟩
end Law
namespace Law
open L2 DL
def dz (a b:Pt):Prop:=a.1<b.1\/(a.1=b.1/\a.2<b.2)
def iR (S:List Pt):List Pt:=if S.length<2 then S else nE S
def SetOf (ps S:List Pt):Prop:=(∀ p∈S,p∈ps)/\(∀ p∈ps,p∈S)/\S.Pairwise dz
end Law
namespace Law
open L2 DL
def bS (a b c:Hf):Int:=a.1*(b.2.1*c.2.2-c.2.1*b.2.2)-a.2.1*(b.1*c.2.2-c.1*b.2.2)+a.2.2*(b.1*c.2.1-c.1*b.2.1)
def mw (a b:Hf):Bool:=if a.1*b.2.2≠b.1*a.2.2 then decide (a.1*b.2.2<b.1*a.2.2) else decide (a.2.1*b.2.2<b.2.1*a.2.2)
def zF (s:Fr):Prop:=0<s.2/\Int.gcd s.1 s.2=1
def oC (s:bJ):Prop:=zF s.1/\zF s.2
def cP:aR:=fun ss R=>∃ s:bJ,ss=[.t (spT s)]/\oC s/\R (.t (.bl true))
def fV:WS:=
 (aG (ft (sv (fc (dP (wB (xH .tup (ae 0)))) (wB (zu (df b9 (af (ae 0) ao)) (wC (.int 2)))))) (bi (wC (.bl false))) aY)
 (bL (gQ (uG (ae 0)) (aS 1) (aG (ft (sv (fc (dP (wB (xH .tup (ae 1)))) (fc (wB (zu (df b9 (af (ae 1) ao)) (wC (.int 2)))) (fc (dP (wB (aB bg (af (au aV (ae 1) (wC (.int 0))) ao)))) (dP (wB (aB bg (af (au aV (ae 1) (wC (.int 1))) ao)))))))) (bi (wC (.bl false))) aY)
 (ft (sv (fc (wB (sG (au aV (ae 1) (wC (.int 1))) (wC (.int 1)))) (wB (zu (aB bB (af (au aV (ae 1) (wC (.int 0))) (af (au aV (ae 1) (wC (.int 1))) ao))) (wC (.int 1)))))) (bi (wC (.bl false))) aY)))
 (bi (wC (.bl true)))))
theorem oW:∀ ss R,cP ss R->ss.length=1:=by rintro ss R ⟨a,rfl,_⟩;rfl
theorem Kh {g:WG}{wb:WS}{D:dh}{δ:aQ}:jS g wb [] D δ=D.nx δ:=rfl
theorem Kg {g:WG}{wb:WS}{D:dh}{δ:aQ}{x:T}{r:List T}:jS g wb (x::r) D δ=g x δ fun δ1=>wb {nx:=fun δ2=>jS g wb r D δ2,rt:=D.rt,bk:=D.nx,ct:=fun δ2=>jS g wb r D δ2} δ1:=rfl
theorem rM:∀ ss R,cP ss R->fV {nx:=fun _=>R (.t .non),rt:=R} (aD ["_law_found","_law_one"] ss):=by
 rintro ss R ⟨⟨⟨x,p⟩,⟨y,q⟩⟩,rfl,⟨⟨l1,l2⟩,⟨l3,l4⟩⟩,h⟩;dsimp only at l1 l2 l3 l4;show fV _ [some (.t (.tup [.tup [.int x,.int p],.tup [.int y,.int q]])),none]
 delta fV
 walk_at "dl";refine⟨fun k=>k=false,by walk_at "dl";simp,?_⟩
 rintro k rfl;walk_at "dl";refine⟨fun _=>True,ku ?_,?_⟩
 ·simp only[Kh,Kg];walk_at "dl";refine⟨fun k=>k=false,?_,?_⟩
  ·walk_at "dl";rw[if_neg (by decide)]
   refine cT _ _ ?_;walk_at "dl";refine cT _ _ ?_;walk_at "dl"
  rintro k rfl;walk_at "dl";refine⟨fun k=>k=false,?_,?_⟩
  ·walk_at "dl";rw[if_neg (by omega)]
   refine⟨_,_,rfl,?_⟩;walk_at "dl";simp[l2]
  rintro k rfl;walk_at "dl";refine⟨fun k=>k=false,?_,?_⟩
  ·walk_at "dl";rw[if_neg (by decide)]
   refine cT _ _ ?_;walk_at "dl";refine cT _ _ ?_;walk_at "dl"
  rintro k rfl;walk_at "dl";refine⟨fun k=>k=false,?_,?_⟩
  ·walk_at "dl";rw[if_neg (by omega)]
   refine⟨_,_,rfl,?_⟩;walk_at "dl";simp[l4]
  rintro k rfl;walk_at "dl"
 ·intro δ _;walk_at "dl";exact h
end Law
namespace Law
open L2 DL
def mH {α:Type}(H:List α)(k:Nat)(hk:k<H.length):α:=if h:k=0 then H[H.length-1] else H[k-1]
structure Hw (F:List Hf):Prop where
 fst:∀ k (hk:k<F.length),0<k->mw F[0] F[k]=true
 trn:2<F.length->∀ k (hk:k<F.length),∀ v∈F,v≠F[k]->v≠mH F k hk->0<bS (mH F k hk) F[k] v
structure im (F:List Hf) (q:Hf):Prop where
 ne:0<F.length
 few:F.length<3->bS F[0] F[F.length-1] q=0/\mw q F[0]=false/\mw F[F.length-1] q=false
 all:3<=F.length->∀ k (hk:k<F.length),0<=bS (mH F k hk) F[k] q
theorem uA {n m:Nat}{s:Hf}(h:eC n s)(l:n<=m):eC m s:=⟨h.1.mono l,h.2.1.mono l,h.2.2.mono l⟩
theorem Dq {α:Type}{F:List α}{k:Nat}(hk:k<F.length):mH F k hk∈F:=by
 unfold mH
 split <;> exact List.getElem_mem _
theorem Fb {α:Type}{f:α->T}{l:List α}{g:WG}{wb:WS}{D:dh}{δ:aQ}(M:aQ->Prop)(h0:M δ)(hend:∀ δ,M δ->D.nx δ)
  (step:∀ a∈l,∀ δ,M δ->∀ N:aQ->Prop,(∀ δ1,M δ1->N δ1)->g (f a) δ fun δ1=>wb {nx:=N,rt:=D.rt,bk:=D.nx,ct:=N} δ1):yk g wb (l.map f) D δ:=by
 refine⟨fun ts δ=>(∀ t∈ts,∃ a∈l,t=f a)/\M δ,⟨fun t ht=>?_,h0⟩,fun δ h=>hend δ h.2,?_⟩
 ·obtain⟨a,ha,rfl⟩:=List.mem_map.mp ht;exact⟨a,ha,rfl⟩
 ·rintro x r δ ⟨ht,hM⟩;obtain⟨a,ha,rfl⟩:=ht x List.mem_cons_self;exact step a ha δ hM _ fun δ1 h1=>⟨fun t ht'=>ht t (List.mem_cons_of_mem _ ht'),h1⟩
end Law
namespace Law
open L2 DL
def fl (p:Pt):Hf:=(p.1,p.2,1)
theorem oj (p:Pt):aI (qd p)=fl p:=by unfold aI qd fl;simp
theorem wQ (a b c:Pt):bS (fl a) (fl b) (fl c)=cr a b c:=by unfold bS fl cr;grind
theorem qh (a b:Pt):mw (fl a) (fl b)=true↔dz a b:=by
 unfold mw fl dz;simp only[Int.mul_one]
 by_cases h:a.1=b.1
 ·rw[if_neg (by simpa using h),decide_eq_true_eq];omega
 ·rw[if_pos h,decide_eq_true_eq];omega
theorem wI {a b:Pt}(h:¬ dz a b):mw (fl a) (fl b)=false:=by
 cases e:mw (fl a) (fl b) with
 | false=>rfl
 | true=>exact absurd ((qh a b).mp e) h
theorem g9 (a:Pt):¬ dz a a:=by unfold dz;omega
theorem BJ {a b:Pt}(h:dz a b):¬ dz b a:=by unfold dz at *;omega
theorem Jr {S:List Pt}(h:S.Pairwise dz):∃ m:Pt,S.Pairwise fun a b=>fn m a<fn m b:=by
 obtain⟨B,hB0,hB⟩:∃ B:Int,0<=B/\∀ p∈S,-B<=p.2/\p.2<=B:=by
  clear h
  induction S with
  | nil=>exact⟨0,Int.le_refl _,fun p hp=>by cases hp⟩
  | cons a S ih=>
   obtain⟨B,h0,h1⟩:=ih;refine⟨B+(a.2.natAbs:Int),by omega,fun p hp=>?_⟩
   rcases List.mem_cons.mp hp with rfl|hp
   ·omega
   ·have:=h1 p hp;omega
 refine⟨(2*B+1,1),?_⟩;rw[List.pairwise_iff_getElem]at h ⊢;intro i j hi hj hij;have h1:=h i j hi hj hij;have b1:=hB _ (List.getElem_mem hi);have b2:=hB _ (List.getElem_mem hj);unfold fn;dsimp only
 rcases h1 with h1|⟨h1,h2⟩
 ·have h3:(2*B+1)*(S[i].1+1)<=(2*B+1)*S[j].1:=Int.mul_le_mul_of_nonneg_left (by omega) (by omega)
  rw[Int.mul_add]at h3;omega
 ·rw[h1];omega
theorem jZ {α β:Type}(f:α->β)(H:List α)(k:Nat)(hk:k<(H.map f).length):mH (H.map f) k hk=f (mH H k (by simpa using hk)):=by
 unfold mH
 split
 ·simp
 ·simp
theorem ue {S:List Pt}{m:Pt}(hl:S.Pairwise dz)(hf:S.Pairwise fun a b=>fn m a<fn m b){a b:Pt}(ha:a∈S)(hb:b∈S)(h:dz a b):fn m a<fn m b:=by
 obtain⟨i,hi,rfl⟩:=List.getElem_of_mem ha;obtain⟨j,hj,rfl⟩:=List.getElem_of_mem hb
 rcases Nat.lt_trichotomy i j with hij|hij|hij
 ·exact List.pairwise_iff_getElem.mp hf i j hi hj hij
 ·subst hij;exact absurd h (g9 _)
 ·exact absurd (List.pairwise_iff_getElem.mp hl j i hj hi hij) (BJ h)
structure uQ (S H:List Pt):Prop where
 reg:Hw (H.map fl)
 hold:∀ p∈S,im (H.map fl) (fl p)
 sub:∀ p∈H,p∈S
 ne:H≠[]
theorem Fi {S:List Pt}(hs:S.Pairwise dz)(hne:S≠[]):uQ S (iR S):=by
 unfold iR
 match S,hne,hs with
 | [p],_,_=>
  rw[if_pos (by simp)]
  refine⟨⟨fun k hk h0=>by simp at hk;omega,fun h=>by simp at h⟩,fun q hq=>?_,fun q hq=>hq,by simp⟩
  obtain rfl:=List.mem_singleton.mp hq;refine⟨by simp,fun _=>?_,fun h=>by simp at h⟩
  show bS (fl q) (fl q) (fl q)=0/\mw (fl q) (fl q)=false/\mw (fl q) (fl q)=false;exact⟨by rw[wQ,qr],wI (g9 q),wI (g9 q)⟩
 | p0::p1::l,_,hs=>
  rw[if_neg (by simp only[List.length_cons];omega)]
  obtain⟨m,hm⟩:=Jr hs;obtain⟨R,h0⟩:=Dy hm;generalize nE (p0::p1::l)=H at R h0;have hlen:=R.len;have hH0:=h0 (by omega)
  have hml:(H.map fl).length=H.length:=List.length_map ..;refine⟨⟨fun k hk hk0=>?_,fun h2 k hk v hv h1 h3=>?_⟩,fun p hp=>⟨by omega,fun h=>?_,fun h3 k hk=>?_⟩,R.sub,fun e=>by rw[e]at hlen;simp at hlen⟩
  ·rw[List.getElem_map,List.getElem_map,qh,hH0];have h1:=R.sub _ (List.getElem_mem (show k<H.length by omega))
   have h2:=R.fst k (by omega) hk0
   rw[hH0]at h2
   rcases List.mem_cons.mp h1 with h|h
   ·exact absurd h h2
   ·exact(List.pairwise_cons.mp hs).1 _ h
  ·obtain⟨x,hx,rfl⟩:=List.mem_map.mp hv;rw[jZ]at h3 ⊢;rw[List.getElem_map]at h1 ⊢;rw[wQ];exact R.strict k (by omega) x hx (fun e=>h3 (by rw[e];rfl)) (fun e=>h1 (by rw[e]))
  ·have e2:H.length=2:=by omega
   obtain⟨c,m',f1,f2,hm'⟩:=R.two e2 p hp;have x0:=R.sub _ (List.getElem_mem (show 0<H.length by omega))
   have x1:=R.sub _ (List.getElem_mem (show 1<H.length by omega))
   have el:(H.map fl)[(H.map fl).length-1]'(by omega)=fl H[1]:=by
    rw[List.getElem_map]
    congr 2;omega
   rw[el,List.getElem_map,wQ];refine⟨c,wI fun h=>?_,wI fun h=>?_⟩
   ·have:=ue hs hm' hp x0 h;omega
   ·have:=ue hs hm' x1 hp h;omega
  ·rw[jZ,List.getElem_map,wQ];exact R.left k (by omega) p hp
end Law
namespace Law
open L2 DL
set_option maxHeartbeats 4000000
theorem IC {a b:Int}(hb:b≠0):lQ a b≠0:=by
 have:=gZ (a:=a) (.inr hb);unfold lQ
 split <;> omega
theorem ES (a b:Int):lQ a b ∣ a/\lQ a b ∣ b:=by
 unfold lQ
 split
 ·exact⟨Int.neg_dvd.mpr (Int.gcd_dvd_left _ _),Int.neg_dvd.mpr (Int.gcd_dvd_right _ _)⟩
 ·exact⟨Int.gcd_dvd_left _ _,Int.gcd_dvd_right _ _⟩
theorem Mc {a b:Int}(hb:b≠0):zF (ml a b):=by
 have hc:=IC (a:=a) hb;obtain⟨d1,d2⟩:=ES a b;have e1:=bT d1;have e2:=bT d2;unfold ml zF;dsimp only;generalize a.fdiv (lQ a b)=x at e1 ⊢;generalize b.fdiv (lQ a b)=y at e2 ⊢;constructor
 ·have hs:(b<0/\lQ a b<0)\/(0<b/\0<lQ a b):=by
   have:=gZ (a:=a) (.inr hb);unfold lQ at hc ⊢
   split <;> rename_i h <;> first|(left;omega)|(right;omega)
  rcases hs with ⟨h1,h2⟩|⟨h1,h2⟩
  ·rcases Int.lt_or_le 0 y with z|z
   ·exact z
   ·have:=Int.mul_nonneg_of_nonpos_of_nonpos z (Int.le_of_lt h2);omega
  ·rcases Int.lt_or_le 0 y with z|z
   ·exact z
   ·have:=Int.mul_nonpos_of_nonpos_of_nonneg z (Int.le_of_lt h2);omega
 ·have eg:Int.gcd a b=Int.gcd x y*(lQ a b).natAbs:=by
   have:=Int.gcd_mul_right x (lQ a b) y;rw[e1,e2]at this;exact this
  have en:(lQ a b).natAbs=Int.gcd a b:=by
   unfold lQ
   split
   ·rw[Int.natAbs_neg,Int.natAbs_natCast]
   ·rw[Int.natAbs_natCast]
  rw[en]at eg;have hg:0<Int.gcd a b:=by have:=gZ (a:=a) (.inr hb);omega
  exact(Nat.eq_of_mul_eq_mul_right hg (by rw[Nat.one_mul];exact eg)).symm
end Law
namespace Law
open L2 DL
set_option maxHeartbeats 1000000
theorem qD (a b c:Hf):bS a b c=bS b c a:=by unfold bS;grind
theorem An (a b:Hf):bS a a b=0:=by unfold bS;grind
theorem qC (a b:Hf):bS a b a=0:=by unfold bS;grind
theorem lv (a b:Hf):bS a b b=0:=by unfold bS;grind
theorem E4 (a b c:Hf):bS a c b=-bS a b c:=by unfold bS;grind
theorem L0 (a e b c d:Hf):bS a e c*bS a b d=bS a e b*bS a c d+bS a e d*bS a b c:=by unfold bS;grind
theorem vQ {κ x:Int}(hk:0<κ)(h:0<κ*x):0<x:=by
 rcases Int.lt_or_le 0 x with z|z
 ·exact z
 ·have:=Int.mul_nonpos_of_nonneg_of_nonpos (Int.le_of_lt hk) z;omega
theorem pK {κ x:Int}(hk:0<κ)(h:0<=κ*x):0<=x:=by
 rcases Int.lt_or_le x 0 with z|z
 ·have:=Int.mul_neg_of_pos_of_neg hk z;omega
 ·exact z
def zM (P:Nat->Hf)(n:Nat):Prop:=∀ a b c,a<b->b<c->c<n->0<bS (P a) (P b) (P c)
def mI (n i:Nat):Nat:=if i=0 then n-1 else i-1
def lo (n:Nat)(s:Bool)(i:Nat):Nat:=if s=true then mI n i else i
theorem As {P:Nat->Hf}{n:Nat}(hT:zM P n){k j:Nat}(hk:k<n)(hj:j<n)(h1:j≠k)(h2:j≠mI n k):0<bS (P (mI n k)) (P k) (P j):=by
 unfold mI at *
 split at h2
 ·rename_i k0;rw[if_pos k0,qD];exact hT k j (n-1) (by omega) (by omega) (by omega)
 ·rename_i k0;rw[if_neg k0]
  rcases Nat.lt_or_ge j k with l|l
  ·rw[<-qD];exact hT j (k-1) k (by omega) (by omega) hk
  ·exact hT (k-1) k j (by omega) (by omega) hj
theorem E8 {P:Nat->Hf}{n:Nat}(hT:zM P n){k j:Nat}(hk:k<n)(hj:j<n):0<=bS (P (mI n k)) (P k) (P j):=by
 by_cases h1:j=k
 ·rw[h1,lv];exact Int.le_refl _
 ·by_cases h2:j=mI n k
  ·rw[h2,qC];exact Int.le_refl _
  ·exact Int.le_of_lt (As hT hk hj h1 h2)
theorem MD {P:Nat->Hf}{n:Nat}(hn:3<=n)(hT:zM P n){i j:Nat}(hi:i<n)(hj:j<n)(h:i≠j):P i≠P j:=fun e=>by
 obtain⟨m,hm,h1,h2⟩:∃ m,m<n/\m≠i/\m≠j:=by
  by_cases a:0≠i/\0≠j
  ·exact⟨0,by omega,a⟩
  ·by_cases b:1≠i/\1≠j
   ·exact⟨1,by omega,b⟩
   ·exact⟨2,by omega,by omega,by omega⟩
 have sorted:∀ a b c,a<b->b<c->c<n->P a=P b\/P b=P c\/P a=P c->False:=fun a b c h1 h2 h3 e=>by
  have:=hT a b c h1 h2 h3
  rcases e with e|e|e
  ·rw[e,An]at this;omega
  ·rw[e,lv]at this;omega
  ·rw[e,qC]at this;omega
 rcases Nat.lt_trichotomy i j with l|l|l
 ·rcases Nat.lt_or_ge m i with q|q
  ·exact sorted m i j q l hj (.inr (.inl e))
  ·rcases Nat.lt_or_ge m j with q'|q'
   ·exact sorted i m j (by omega) q' hj (.inr (.inr e))
   ·exact sorted i j m l (by omega) hm (.inl e)
 ·exact h l
 ·rcases Nat.lt_or_ge m j with q|q
  ·exact sorted m j i q l hi (.inr (.inl e.symm))
  ·rcases Nat.lt_or_ge m i with q'|q'
   ·exact sorted j m i (by omega) q' hi (.inr (.inr e.symm))
   ·exact sorted j i m l (by omega) hm (.inl e.symm)
theorem Dr {n k:Nat}(h:k<n):mI n k<n:=by unfold mI;split <;> omega
theorem Kd {n k:Nat}(h:3<=n)(hk:k<n):mI n k≠k/\mI n (mI n k)≠k/\mI n (mI n k)≠mI n k:=by
 unfold mI;refine⟨?_,?_,?_⟩
 ·split <;> omega
 ·split
  ·split <;> omega
  ·split <;> omega
 ·split
  ·split <;> omega
  ·split <;> omega
def Lc (F:List Hf):Prop:=∀ a b c (_:a<b) (_:b<c) (h3:c<F.length),0<bS F[a] F[b] F[c]
theorem v6 {F:List Hf}(R:Hw F):Lc F:=by
 by_cases hn:F.length<3
 ·intro a b c h1 h2 h3;omega
 have hn:3<=F.length:=by omega
 have trn:=R.trn (by omega)
 have ne0:∀ k (hk:k<F.length),0<k->F[0]≠F[k]:=fun k hk h0 e=>by
  have:=R.fst k hk h0;rw[<-e]at this;unfold mw at this;simp at this
 have ed:∀ k (hk:k<F.length) (h0:0<k) v,v∈F->v≠F[k]->v≠F[k-1]->0<bS F[k-1] F[k] v:=fun k hk h0 v hv h1 h2=>by
  have:=trn k hk v hv h1 (by unfold mH;rw[dif_neg (by omega)];exact h2)
  unfold mH at this;rw[dif_neg (by omega)]at this
  exact this
 have fan:∀ (a:Nat) (ha:a+1<F.length),(∀ c (hc:c<F.length),a+1<c->0<bS F[a] F[a+1] F[c])->(∀ c (hc:c+1<F.length),a<c->0<bS F[a] F[c] F[c+1])->∀ b c (_:a<b) (_:b<c) (hc:c<F.length),0<bS F[a] F[b] F[c]:=by
  intro a ha hA hB b c hab hbc
  induction c with
  | zero=>omega
  | succ c ih=>
   intro hc
   by_cases e:b=c
   ·subst e;exact hB b hc hab
   ·have i1:=ih (by omega) (by omega)
    by_cases eb:b=a+1
    ·subst eb;exact hA (c+1) hc (by omega)
    ·have q1:=hA b (by omega) (by omega)
     have q2:=hA c (by omega) (by omega)
     have q3:=hA (c+1) hc (by omega)
     have q4:=hB c hc (by omega)
     have pl:=L0 F[a] F[a+1] F[b] F[c] F[c+1];have m1:=Int.mul_pos q1 q4;have m2:=Int.mul_pos q3 i1;exact vQ q2 (by omega)
 have B0:∀ c (hc:c+1<F.length),0<c->0<bS F[0] F[c] F[c+1]:=fun c hc h0=>by
  have:=ed (c+1) hc (by omega) F[0] (List.getElem_mem _) (ne0 _ hc (by omega)) (ne0 c (by omega) h0)
  rw[<-qD]at this;exact this
 have A0:∀ c (hc:c<F.length),1<c->0<bS F[0] F[1] F[c]:=fun c hc h1=>by
  have nn:∀ c (hc:c<F.length),1<=c->0<=bS F[0] F[1] F[c]:=fun c hc h1=>by
   by_cases e:F[c]=F[1]
   ·rw[e,lv];exact Int.le_refl _
   ·exact Int.le_of_lt (ed 1 (by omega) (by omega) F[c] (List.getElem_mem _) e (fun e'=>ne0 c hc (by omega) e'.symm))
  by_cases e:F[c]=F[1]
  ·exfalso;obtain⟨d,rfl⟩:∃ d,c=d+1:=⟨c-1,by omega⟩
   have b:=B0 d hc (by omega)
   rw[e,E4]at b;have:=nn d (by omega) (by omega)
   omega
  ·exact ed 1 (by omega) (by omega) F[c] (List.getElem_mem _) e (fun e'=>ne0 c hc (by omega) e'.symm)
 have T0:=fan 0 (by omega) A0 B0
 have ne:∀ b c (hb:b<F.length) (hc:c<F.length),b<c->F[b]≠F[c]:=fun b c hb hc h e=>by
  by_cases b0:b=0
  ·subst b0;exact ne0 c hc h e
  ·have:=T0 b c (by omega) h hc
   rw[e,lv]at this;omega
 intro a b c h1 h2 h3;refine fan a (by omega) (fun c hc h=>?_) (fun c hc h=>?_) b c h1 h2 h3
 ·exact ed (a+1) (by omega) (by omega) F[c] (List.getElem_mem _) (fun e=>ne (a+1) c (by omega) hc h e.symm) (fun e=>ne a c (by omega) hc (by omega) e.symm)
 ·have:=ed (c+1) hc (by omega) F[a] (List.getElem_mem _) (ne a (c+1) (by omega) hc (by omega)) (ne a c (by omega) (by omega) h)
  rw[<-qD]at this;exact this
end Law
namespace Law
open L2 DL
set_option maxHeartbeats 1000000
def Ni (x:Int):Int:=if x<0 then -x else x
def OK (p q:Fr)(a b:Int):Fr:=ml (p.1*q.2*a+q.1*p.2*b) (p.2*q.2*(a+b))
def IE (h:Hf)(p q:bJ):bJ:=(OK p.1 q.1 (Ni (eY h q)*(p.1.2*p.2.2)) (Ni (eY h p)*(q.1.2*q.2.2)),OK p.2 q.2 (Ni (eY h q)*(p.1.2*p.2.2)) (Ni (eY h p)*(q.1.2*q.2.2)))
def KY (h:Hf)(p q:bJ):Prop:=sgn (eY h p)*sgn (eY h q)<0
def N2 (h:Hf)(q:bJ):Prop:=sgn (eY h q)>=0
instance (h:Hf) (p q:bJ):Decidable (KY h p q):=inferInstanceAs (Decidable (_<_))
instance (h:Hf) (q:bJ):Decidable (N2 h q):=inferInstanceAs (Decidable (_>=_))
theorem kF {x a y b z c:Int}(hb:0<b)(ha:0<a)(hc:0<c)(h1:x*b<=y*a)(h2:y*c<=z*b):x*c<=z*a/\((x*b<y*a\/y*c<z*b)->x*c<z*a):=by
 have m1:=Int.mul_le_mul_of_nonneg_right h1 (Int.le_of_lt hc);have m2:=Int.mul_le_mul_of_nonneg_right h2 (Int.le_of_lt ha);have t1:x*b*c=x*c*b:=by grind
 have t2:z*b*a=z*a*b:=by grind
 have t3:y*a*c=y*c*a:=by grind
 refine⟨Int.le_of_mul_le_mul_right (show x*c*b<=z*a*b by omega) hb,fun h=>Int.lt_of_mul_lt_mul_right (a:=b) ?_ (Int.le_of_lt hb)⟩
 rcases h with h|h
 ·have:=Int.mul_lt_mul_of_pos_right h hc;omega
 ·have:=Int.mul_lt_mul_of_pos_right h ha;omega
def Bf (a b:Hf):Prop:=a.1*b.2.2<b.1*a.2.2\/(a.1*b.2.2=b.1*a.2.2/\a.2.1*b.2.2<b.2.1*a.2.2)
theorem qg {a b:Hf}:mw a b=true↔Bf a b:=by
 unfold mw Bf
 split
 ·rw[decide_eq_true_eq];omega
 ·rw[decide_eq_true_eq];omega
theorem eD {a b:Hf}:mw a b=false↔¬ Bf a b:=by
 rw[<-qg]
 cases mw a b <;> simp
theorem Bf.trans {a b c:Hf}(ha:0<a.2.2)(hb:0<b.2.2)(hc:0<c.2.2)(h1:Bf a b)(h2:Bf b c):Bf a c:=by
 unfold Bf at *
 rcases h1 with h1|⟨h1,h1'⟩
 ·left
  refine(kF hb ha hc (Int.le_of_lt h1) ?_).2 (.inl h1);omega
 ·rcases h2 with h2|⟨h2,h2'⟩
  ·left
   exact(kF hb ha hc (by omega) (Int.le_of_lt h2)).2 (.inr h2)
  ·right
   have k1:=(kF (x:=a.1) (y:=b.1) (z:=c.1) hb ha hc (by omega) (by omega)).1
   have k2:=(kF (x:=-a.1) (y:=-b.1) (z:=-c.1) hb ha hc (by rw[Int.neg_mul,Int.neg_mul];omega) (by rw[Int.neg_mul,Int.neg_mul];omega)).1
   rw[Int.neg_mul,Int.neg_mul]at k2;exact⟨by omega,(kF hb ha hc (Int.le_of_lt h1') (Int.le_of_lt h2')).2 (.inl h1')⟩
theorem Bf.irr (a:Hf):¬ Bf a a:=by unfold Bf;omega
theorem oz {s:bJ}(h:oC s):0<(aI s).2.2:=Int.mul_pos h.1.1 h.2.1
def NB (Q:Hf->Prop)(l:Hf)(s:bJ):Prop:=Q l/\(l.1≠0\/l.2.1≠0)/\eY l s=0
abbrev Nc (l:Hf)(s:bJ):Prop:=NB (eC 300) l s
def Cn (s:bJ):Prop:=∃ l m:Hf,Nc l s/\Nc m s/\l.1*m.2.1-l.2.1*m.1≠0
def NA (Q:Hf->Prop)(p q:bJ):Prop:=∃ l:Hf,NB Q l p/\NB Q l q
abbrev Lk (p q:bJ):Prop:=NA (eC 300) p q
end Law
namespace Law
open L2 DL
set_option maxHeartbeats 1000000
def s0:bJ:=((0,1),(0,1))
def Oe (h:Hf)(ks:List bJ)(x:bJ × bJ):List bJ:=
 if N2 h x.2 then (if KY h x.1 x.2/\¬ IE h x.1 x.2∈ks then ks++[IE h x.1 x.2] else ks)++[x.2] else (if KY h x.1 x.2/\¬ IE h x.1 x.2∈ks then ks++[IE h x.1 x.2] else ks)
def gt (L:List bJ)(i:Nat):bJ:=L.getD i s0
theorem kx {L:List bJ}{i:Nat}(h:i<L.length):gt L i=L[i]:=by unfold gt;simp[List.getD_eq_getElem?_getD,List.getElem?_eq_getElem h]
theorem vS {L:List bJ}{k:Nat}(hk:k<L.length):mH L k hk=gt L (mI L.length k):=by
 rw[kx (Dr hk)];unfold mH mI
 split <;> rename_i e
 ·simp[e]
 ·simp[e]
abbrev Itm:=Nat × Bool × bJ
def Is (h:Hf)(G:Nat->bJ)(n:Nat)(x:Itm):Prop:=(x.2.1=true/\KY h (G (mI n x.1)) (G x.1)/\x.2.2=IE h (G (mI n x.1)) (G x.1))\/(x.2.1=false/\N2 h (G x.1)/\x.2.2=G x.1)
section
variable {h:Hf}{G:Nat->bJ}{n:Nat} (hn:3<=n) (ok:∀ i,i<n->oC (G i)) (hT:zM (fun i=>aI (G i)) n)
include hn ok hT
end
end Law
namespace Law
open L2 DL
set_option maxHeartbeats 1000000
def Nu (Q:Hf->Prop)(h:Hf):Prop:=Q h/\(h.1≠0\/h.2.1≠0)
abbrev lb (h:Hf):Prop:=Nu (eC 300) h
def Nr (Q:Hf->Prop)(A:List bJ):Prop:=∀ k (h:k+1<A.length),NA Q A[k] A[k+1]
structure OQ (Q:Hf->Prop) (h:Hf) (q0 qm:bJ) (A:List bJ):Prop where
 adj:Nr Q A
 inn:0<=eY h qm->A.getLast?=some qm
 out:eY h qm<0->∀ x,A.getLast?=some x->eY h x=0
 hd:eY h q0<0->∀ y,A.head?=some y->eY h y=0
structure GU (L:List bJ):Prop where
 ok:∀ s∈L,oC s
 reg:Hw (L.map aI)
 cn:∀ s∈L,Cn s
 lk:∀ k (hk:k<L.length),Lk (mH L k hk) L[k]
structure OO (h:Hf) (L K:List bJ):Prop where
 ok:∀ u∈K,oC u
 nd:K.Nodup
 tri:Lc (K.map aI)
 cn:∀ u∈K,Cn u
 lk:∀ k (hk:k<K.length),Lk (mH K k hk) K[k]
 len:K.length<=L.length+2
 hold:∀ u∈K,im (L.map aI) (aI u)/\0<=eY h u
 kept:∀ s∈L,0<=eY h s->s∈K
 cross:∀ k (hk:k<L.length),KY h (mH L k hk) L[k]->IE h (mH L k hk) L[k]∈K
end Law
namespace Law
open L2 DL
set_option maxHeartbeats 1000000
structure O7 (h:Hf) (L K:List bJ):Prop where
 reg:GU K
 len:K.length<=L.length+2
 hold:∀ u∈K,im (L.map aI) (aI u)/\0<=eY h u
 kept:∀ s∈L,0<=eY h s->s∈K
 cross:∀ k (hk:k<L.length),KY h (mH L k hk) L[k]->IE h (mH L k hk) L[k]∈K
def c5 (h u:Hf):Int:=h.1*u.1+h.2.1*u.2.1-h.2.2*u.2.2
theorem DH (p:Pt):oC (qd p):=⟨⟨by show(0:Int)<1;decide,by show Int.gcd p.1 1=1;simp⟩,by show(0:Int)<1;decide,by show Int.gcd p.2 1=1;simp⟩
theorem si {n:Nat}(h:1<=n):Sz n 1:=⟨by show 1<2 ^ n;exact Nat.one_lt_two_pow (by omega)⟩
theorem sj {n:Nat}:Sz n 0:=⟨Nat.two_pow_pos n⟩
end Law
namespace Law
open L2 DL
set_option maxHeartbeats 4000000
theorem uB {n m:Nat}{s:bJ}(h:uS n s)(l:n<=m):uS m s:=⟨⟨h.1.1.mono l,h.1.2.mono l⟩,h.2.1.mono l,h.2.2.mono l⟩
end Law
namespace Law
open L2 DL
set_option maxHeartbeats 1000000
def OB (L:List bJ)(q:Hf):Prop:=∃ a b c:bJ,a∈L/\b∈L/\c∈L/\∃ κ α β γ:Int,0<κ/\0<=α/\0<=β/\0<=γ/\κ*q.1=α*(aI a).1+β*(aI b).1+γ*(aI c).1/\κ*q.2.1=α*(aI a).2.1+β*(aI b).2.1+γ*(aI c).2.1/\κ*q.2.2=α*(aI a).2.2+β*(aI b).2.2+γ*(aI c).2.2
theorem FY {l q a b c:Hf}{κ α β γ:Int}(e1:κ*q.1=α*a.1+β*b.1+γ*c.1)(e2:κ*q.2.1=α*a.2.1+β*b.2.1+γ*c.2.1)(e3:κ*q.2.2=α*a.2.2+β*b.2.2+γ*c.2.2):κ*c5 l q=α*c5 l a+β*c5 l b+γ*c5 l c:=by
 unfold c5;have t:κ*(l.1*q.1+l.2.1*q.2.1-l.2.2*q.2.2)=l.1*(κ*q.1)+l.2.1*(κ*q.2.1)-l.2.2*(κ*q.2.2):=by grind
 rw[t,e1,e2,e3];grind
def Cv (L:List bJ)(q:Hf):Prop:=∀ l:Hf,(∀ s∈L,0<=c5 l (aI s))->0<=c5 l q
theorem IG {L:List bJ}{q:Hf}(h:OB L q):Cv L q:=by
 obtain⟨a,b,c,ha,hb,hc,κ,α,β,γ,k0,a0,b0,c0,e1,e2,e3⟩:=h;intro l hl;have e:=FY (l:=l) e1 e2 e3;have x1:=Int.mul_nonneg a0 (hl a ha);have x2:=Int.mul_nonneg b0 (hl b hb);have x3:=Int.mul_nonneg c0 (hl c hc);exact pK k0 (by omega)
theorem change (f:Nat->Int):∀ m,2<=m->0<=f 1->f m<=0->∃ i,1<=i/\i<m/\0<=f i/\f (i+1)<=0
 | 0,h,_,_=>by omega
 | 1,h,_,_=>by omega
 | m+2,_,h1,h2=>by
  by_cases h:0<=f (m+1)
  ·exact⟨m+1,by omega,by omega,h,h2⟩
  ·by_cases hm:m=0
   ·subst hm;exact absurd h1 h
   ·obtain⟨i,i1,i2,i3,i4⟩:=change f (m+1) (by omega) h1 (by omega)
    exact⟨i,i1,by omega,i3,i4⟩
theorem IF (a b c q:Hf):bS a b c*q.1=bS b c q*a.1+bS c a q*b.1+bS a b q*c.1/\bS a b c*q.2.1=bS b c q*a.2.1+bS c a q*b.2.1+bS a b q*c.2.1/\bS a b c*q.2.2=bS b c q*a.2.2+bS c a q*b.2.2+bS a b q*c.2.2:=by
 unfold bS;refine⟨?_,?_,?_⟩ <;> grind
theorem n0 {L:List bJ}(R:GU L):zM (fun i=>aI (gt L i)) L.length:=fun a b c h1 h2 h3=>by
 have:=v6 R.reg a b c h1 h2 (by rw[List.length_map];exact h3)
 rw[List.getElem_map,List.getElem_map,List.getElem_map]at this;dsimp only;rw[kx (show a<L.length by omega),kx (show b<L.length by omega),kx h3]
 exact this
theorem lB {L:List bJ}{q:Hf}(h:im (L.map aI) q)(h3:3<=L.length)(k:Nat)(hk:k<L.length):0<=bS (aI (gt L (mI L.length k))) (aI (gt L k)) q:=by
 have:=h.all (by rw[List.length_map];exact h3) k (by rw[List.length_map];exact hk)
 rw[jZ,List.getElem_map,vS hk,<-kx hk]at this;exact this
theorem ER {p r q:Hf}(hd:bS p r q=0)(hb:Bf p r)(h1:¬ Bf q p)(h2:¬ Bf r q)(zp:0<p.2.2)(zr:0<r.2.2)(zq:0<q.2.2):∃ κ α β:Int,0<κ/\0<=α/\0<=β/\κ*q.1=α*p.1+β*r.1/\κ*q.2.1=α*p.2.1+β*r.2.1/\κ*q.2.2=α*p.2.2+β*r.2.2:=by
 unfold Bf at hb h1 h2;unfold bS at hd
 rcases hb with hb|⟨hb,hb'⟩
 ·refine⟨r.1*p.2.2-p.1*r.2.2,r.1*q.2.2-q.1*r.2.2,q.1*p.2.2-p.1*q.2.2,by omega,by omega,by omega,?_,?_,?_⟩
  ·grind
  ·grind
  ·grind
 ·have x1:q.1*p.2.2-p.1*q.2.2=0:=by
   have:(q.1*p.2.2-p.1*q.2.2)*(r.2.1*p.2.2-p.2.1*r.2.2)=0:=by grind
   rcases Int.mul_eq_zero.mp this with z|z
   ·exact z
   ·omega
  have x2:r.1*q.2.2-q.1*r.2.2=0:=by
   have:p.2.2*(r.1*q.2.2-q.1*r.2.2)=0:=by grind
   rcases Int.mul_eq_zero.mp this with z|z
   ·omega
   ·exact z
  refine⟨r.2.1*p.2.2-p.2.1*r.2.2,r.2.1*q.2.2-q.2.1*r.2.2,q.2.1*p.2.2-p.2.1*q.2.2,by omega,by omega,by omega,?_,?_,?_⟩
  ·grind
  ·grind
  ·grind
theorem Aa {L:List bJ}{q:Hf}(R:GU L)(zq:0<q.2.2)(h:im (L.map aI) q):OB L q:=by
 match L,R,h with
 | [],_,h=>exact absurd h.ne (by simp)
 | [p],R,h=>
  obtain⟨_,h1,h2⟩:=h.few (by simp)
  have h1:¬ Bf q (aI p):=eD.mp h1;have h2:¬ Bf (aI p) q:=eD.mp h2;have zp:=oz (R.ok p (by simp))
  unfold Bf at h1 h2;refine⟨p,p,p,by simp,by simp,by simp,(aI p).2.2,q.2.2,0,0,zp,by omega,by omega,by omega,?_,?_,?_⟩
  ·have:q.1*(aI p).2.2=(aI p).1*q.2.2:=by omega
   grind
  ·have:q.2.1*(aI p).2.2=(aI p).2.1*q.2.2:=by omega
   grind
  ·grind
 | [p,r],R,h=>
  obtain⟨h0,h1,h2⟩:=h.few (by simp)
  have h0:bS (aI p) (aI r) q=0:=h0;have h1:¬ Bf q (aI p):=eD.mp h1;have h2:¬ Bf (aI r) q:=eD.mp h2;have hb:Bf (aI p) (aI r):=qg.mp (R.reg.fst 1 (by simp) (by decide))
  obtain⟨κ,α,β,k0,a0,b0,e1,e2,e3⟩:=ER h0 hb h1 h2 (oz (R.ok p (by simp))) (oz (R.ok r (by simp))) zq
  exact⟨p,r,p,by simp,by simp,by simp,κ,α,β,0,k0,a0,b0,by omega,by rw[e1];omega,by rw[e2];omega,by rw[e3];omega⟩
 | p::r::s::t,R,h=>
  have h3:3<=(p::r::s::t).length:=by simp
  generalize p::r::s::t=L at R h h3;have hT:=n0 R;have f1:=lB h h3 1 (by omega)
  have f2:=lB h h3 0 (by omega)
  have e1:mI L.length 1=0:=rfl;have e2:mI L.length 0=L.length-1:=rfl;rw[e1]at f1;rw[e2]at f2;obtain⟨i,i1,i2,i3,i4⟩:=change (fun i=>bS (aI (gt L 0)) (aI (gt L i)) q) (L.length-1) (by omega) f1 (by
   have:bS (aI (gt L 0)) (aI (gt L (L.length-1))) q=-bS (aI (gt L (L.length-1))) (aI (gt L 0)) q:=by unfold bS;grind
   show bS (aI (gt L 0)) (aI (gt L (L.length-1))) q<=0;omega)
  have f3:=lB h h3 (i+1) (by omega)
  have e3:mI L.length (i+1)=i:=by unfold mI;rw[if_neg (by omega)];rfl
  rw[e3]at f3;have i3:0<=bS (aI (gt L 0)) (aI (gt L i)) q:=i3;have i4:bS (aI (gt L 0)) (aI (gt L (i+1))) q<=0:=i4;have D:=hT 0 i (i+1) (by omega) (by omega) (by omega)
  obtain⟨c1,c2,c3⟩:=IF (aI (gt L 0)) (aI (gt L i)) (aI (gt L (i+1))) q;have i5:0<=bS (aI (gt L (i+1))) (aI (gt L 0)) q:=by
   have:bS (aI (gt L (i+1))) (aI (gt L 0)) q=-bS (aI (gt L 0)) (aI (gt L (i+1))) q:=by unfold bS;grind
   omega
  have mem:∀ j,j<L.length->gt L j∈L:=fun j hj=>by rw[kx hj];exact List.getElem_mem _
  exact⟨gt L 0,gt L i,gt L (i+1),mem _ (by omega),mem _ (by omega),mem _ (by omega),_,_,_,_,D,f3,i5,i3,c1,c2,c3⟩
def Nm (a b:Hf):Hf:=(a.2.1*b.2.2-b.2.1*a.2.2,b.1*a.2.2-a.1*b.2.2,b.1*a.2.1-a.1*b.2.1)
theorem nT (a b q:Hf):c5 (Nm a b) q=bS a b q:=by unfold c5 Nm bS;grind
theorem Fg {L:List bJ}{q:Hf}(R:GU L)(zq:0<q.2.2)(h:Cv L q):im (L.map aI) q:=by
 match L,R,h with
 | [],_,h=>
  have:=h (0,0,1) (fun s hs=>by cases hs)
  unfold c5 at this;dsimp only at this;omega
 | [p],R,h=>
  have zp:=oz (R.ok p (by simp))
  have all:∀ l:Hf,0<=c5 l (aI p)->0<=c5 l q:=fun l hl=>h l (fun s hs=>by rw[List.mem_singleton.mp hs];exact hl)
  have a1:=all ((aI p).2.2,0,(aI p).1) (by unfold c5;grind)
  have a2:=all (-(aI p).2.2,0,-(aI p).1) (by unfold c5;grind)
  have a3:=all (0,(aI p).2.2,(aI p).2.1) (by unfold c5;grind)
  have a4:=all (0,-(aI p).2.2,-(aI p).2.1) (by unfold c5;grind)
  unfold c5 at a1 a2 a3 a4;dsimp only at a1 a2 a3 a4;rw[Int.zero_mul]at a1 a2 a3 a4;simp only[Int.neg_mul]at a1 a2 a3 a4;rw[Int.mul_comm (aI p).2.2 q.1]at a1 a2;rw[Int.mul_comm (aI p).2.2 q.2.1]at a3 a4;refine⟨by simp,fun _=>⟨An _ _,eD.mpr (fun z=>?_),eD.mpr (fun z=>?_)⟩,fun z=>by simp at z⟩
  ·have z:Bf q (aI p):=z;unfold Bf at z;omega
  ·have z:Bf (aI p) q:=z;unfold Bf at z;omega
 | [p,r],R,h=>
  have zp:=oz (R.ok p (by simp))
  have zr:=oz (R.ok r (by simp))
  have hb:Bf (aI p) (aI r):=qg.mp (R.reg.fst 1 (by simp) (by decide))
  have all:∀ l:Hf,0<=c5 l (aI p)->0<=c5 l (aI r)->0<=c5 l q:=fun l hl hl'=>h l (fun s hs=>by
   rcases List.mem_cons.mp hs with e|e
   ·rw[e];exact hl
   ·rw[List.mem_singleton.mp e];exact hl')
  refine⟨by simp,fun _=>?_,fun z=>by simp at z⟩
  show bS (aI p) (aI r) q=0/\mw q (aI p)=false/\mw (aI r) q=false;generalize aI p=u at *;generalize aI r=v at *;have d1:=all (Nm u v) (by rw[nT,qC];exact Int.le_refl _) (by rw[nT,lv];exact Int.le_refl _)
  have d2:=all (Nm v u) (by rw[nT,lv];exact Int.le_refl _) (by rw[nT,qC];exact Int.le_refl _)
  rw[nT]at d1 d2;have d3:bS v u q=-bS u v q:=by unfold bS;grind
  have hd:bS u v q=0:=by omega
  have hdd:=hd;unfold bS at hdd;have ends:¬ Bf q u/\¬ Bf v q:=by
   unfold Bf at hb ⊢
   rcases hb with hb|⟨hb,hb'⟩
   ·have a1:=all (u.2.2,0,u.1) (by unfold c5;grind) (by unfold c5;dsimp only;rw[Int.zero_mul,Int.mul_comm u.2.2];omega)
    have a2:=all (-v.2.2,0,-v.1) (by unfold c5;dsimp only;rw[Int.zero_mul,Int.neg_mul,Int.neg_mul,Int.mul_comm v.2.2];omega) (by unfold c5;grind)
    unfold c5 at a1 a2;dsimp only at a1 a2;rw[Int.zero_mul]at a1 a2;simp only[Int.neg_mul]at a1 a2;rw[Int.mul_comm u.2.2]at a1;rw[Int.mul_comm v.2.2]at a2;have k1:q.1*u.2.2=u.1*q.2.2->q.2.1*u.2.2=u.2.1*q.2.2:=fun e=>by
     have:(q.2.1*u.2.2-u.2.1*q.2.2)*(v.1*u.2.2-u.1*v.2.2)=0:=by grind
     rcases Int.mul_eq_zero.mp this with z|z
     ·omega
     ·omega
    have k2:v.1*q.2.2=q.1*v.2.2->v.2.1*q.2.2=q.2.1*v.2.2:=fun e=>by
     have:(v.2.1*q.2.2-q.2.1*v.2.2)*(v.1*u.2.2-u.1*v.2.2)=0:=by grind
     rcases Int.mul_eq_zero.mp this with z|z
     ·omega
     ·omega
    constructor
    ·rintro(z|⟨z,z'⟩)
     ·omega
     ·have:=k1 z;omega
    ·rintro(z|⟨z,z'⟩)
     ·omega
     ·have:=k2 z;omega
   ·have x1:q.1*u.2.2-u.1*q.2.2=0:=by
     have:(q.1*u.2.2-u.1*q.2.2)*(v.2.1*u.2.2-u.2.1*v.2.2)=0:=by grind
     rcases Int.mul_eq_zero.mp this with z|z
     ·exact z
     ·omega
    have x2:v.1*q.2.2-q.1*v.2.2=0:=by
     have:u.2.2*(v.1*q.2.2-q.1*v.2.2)=0:=by grind
     rcases Int.mul_eq_zero.mp this with z|z
     ·omega
     ·exact z
    have a1:=all (0,u.2.2,u.2.1) (by unfold c5;grind) (by unfold c5;dsimp only;rw[Int.zero_mul,Int.mul_comm u.2.2];omega)
    have a2:=all (0,-v.2.2,-v.2.1) (by unfold c5;dsimp only;rw[Int.zero_mul,Int.neg_mul,Int.neg_mul,Int.mul_comm v.2.2];omega) (by unfold c5;grind)
    unfold c5 at a1 a2;dsimp only at a1 a2;rw[Int.zero_mul]at a1 a2;simp only[Int.neg_mul]at a1 a2;rw[Int.mul_comm u.2.2]at a1;rw[Int.mul_comm v.2.2]at a2;constructor
    ·rintro(z|⟨z,z'⟩) <;> omega
    ·rintro(z|⟨z,z'⟩) <;> omega
  exact⟨hd,eD.mpr ends.1,eD.mpr ends.2⟩
 | p::r::s::t,R,h=>
  have h3:3<=(p::r::s::t).length:=by simp
  generalize p::r::s::t=L at R h h3;have hT:=n0 R;refine⟨by rw[List.length_map];omega,fun z=>by rw[List.length_map]at z;omega,fun _ k hk=>?_⟩
  rw[List.length_map]at hk;rw[jZ,List.getElem_map,vS hk,<-kx hk,<-nT];refine h _ fun s hs=>?_;obtain⟨j,hj,rfl⟩:=List.getElem_of_mem hs;rw[nT,<-kx hj];exact E8 (P:=fun i=>aI (gt L i)) hT hk hj
theorem tK {L:List bJ}{q:Hf}(R:GU L)(zq:0<q.2.2):im (L.map aI) q↔Cv L q:=⟨fun h=>IG (Aa R zq h),Fg R zq⟩
end Law
namespace Law
open L2 DL
set_option maxHeartbeats 1000000
end Law
namespace Law
open L2 DL
set_option maxHeartbeats 1000000
end Law
namespace Law
open L2 DL
set_option maxHeartbeats 1000000
theorem Mx {a b c:Int}(hne:a≠0\/b≠0)(q:Hf):0<=c5 (Je a b c) q↔0<=c5 (a,b,c) q:=by
 have g0:0<(cb a b c:Int):=by have:=qJ (c:=c) hne;omega
 have e1:=bT (vi a b c);have e2:=bT (vj a b c);have e3:=bT (Br a b c);have k:(cb a b c:Int)*c5 (Je a b c) q=c5 (a,b,c) q:=by
  unfold Je c5;dsimp only;generalize a.fdiv (cb a b c)=x at *;generalize b.fdiv (cb a b c)=y at *;generalize c.fdiv (cb a b c)=z at *;generalize (cb a b c:Int)=g at *;rw[<-e1,<-e2,<-e3];grind
 rw[<-k];exact⟨fun h=>Int.mul_nonneg (Int.le_of_lt g0) h,fun h=>pK g0 h⟩
theorem Mj {a b c:Int}(hne:a≠0\/b≠0)(hz:eC 300 (a,b,c)):lb (Je a b c):=by
 refine⟨⟨hz.1.fdiv _,hz.2.1.fdiv _,hz.2.2.fdiv _⟩,?_⟩
 rcases hne with h|h
 ·exact .inl (wV (vi a b c) h)
 ·exact .inr (wV (vj a b c) h)
theorem pj {p q:Pt}(hne:p≠q)(x:Hf):0<=c5 (zD p q) x↔0<=bS (fl p) (fl q) x:=by
 have n:p.2-q.2≠0\/q.1-p.1≠0:=by
  by_cases a:p.2-q.2=0
  ·exact .inr fun b=>hne (Prod.ext (by omega) (by omega))
  ·exact .inl a
 unfold zD;rw[Mx n];have:c5 (p.2-q.2,q.1-p.1,(p.2-q.2)*p.1+(q.1-p.1)*p.2) x=bS (fl p) (fl q) x:=by
  unfold c5 bS fl;grind
 rw[this]
theorem LV {p q:Pt}(hne:p≠q)(zp:SzF 110 p)(zq:SzF 110 q):lb (zD p q):=by
 have n:p.2-q.2≠0\/q.1-p.1≠0:=by
  by_cases a:p.2-q.2=0
  ·exact .inr fun b=>hne (Prod.ext (by omega) (by omega))
  ·exact .inl a
 have za:Sz 120 (p.2-q.2):=(Sz.sub zp.2 zq.2).mono (by decide)
 have zb:Sz 120 (q.1-p.1):=(Sz.sub zq.1 zp.1).mono (by decide)
 have zc:Sz 300 ((p.2-q.2)*p.1+(q.1-p.1)*p.2):=(Sz.add (Sz.mul za zp.1) (Sz.mul zb zp.2)).mono (by decide)
 exact Mj n ⟨za.mono (by decide),zb.mono (by decide),zc⟩
theorem C8 {p:Pt}(z:SzF 115 p):Nc (1,0,p.1) (qd p):=⟨⟨si (by decide),sj,z.1.mono (by decide)⟩,.inl (show(1:Int)≠0 by decide),by unfold eY qd;simp⟩
theorem Mu {p:Pt}(z:SzF 115 p):Nc (0,1,p.2) (qd p):=⟨⟨sj,si (by decide),z.2.mono (by decide)⟩,.inr (show(1:Int)≠0 by decide),by unfold eY qd;simp⟩
theorem Jt {p q:Pt}(zp:SzF 115 p)(zq:SzF 115 q):Lk (qd p) (qd q):=by
 by_cases e:p=q
 ·subst e;exact⟨_,C8 zp,C8 zp⟩
 ·have za:Sz 120 (p.2-q.2):=(Sz.sub zp.2 zq.2).mono (by decide)
  have zb:Sz 120 (q.1-p.1):=(Sz.sub zq.1 zp.1).mono (by decide)
  have zc:Sz 300 ((p.2-q.2)*p.1+(q.1-p.1)*p.2):=(Sz.add (Sz.mul za zp.1) (Sz.mul zb zp.2)).mono (by decide)
  have n:p.2-q.2≠0\/q.1-p.1≠0:=by
   by_cases a:p.2-q.2=0
   ·exact .inr fun b=>e (Prod.ext (by omega) (by omega))
   ·exact .inl a
  have s:eC 300 (p.2-q.2,q.1-p.1,(p.2-q.2)*p.1+(q.1-p.1)*p.2):=⟨za.mono (by decide),zb.mono (by decide),zc⟩
  refine⟨(p.2-q.2,q.1-p.1,(p.2-q.2)*p.1+(q.1-p.1)*p.2),⟨s,n,?_⟩,⟨s,n,?_⟩⟩
  ·unfold eY qd;dsimp only;grind
  ·unfold eY qd;dsimp only;grind
theorem lI {S H:List Pt}(O:uQ S H)(z:∀ p∈H,SzF 115 p):GU (H.map qd):=by
 have eF:(H.map qd).map aI=H.map fl:=by rw[List.map_map];exact List.map_congr_left fun p _=>oj p
 refine⟨fun s hs=>?_,by rw[eF];exact O.reg,fun s hs=>?_,fun k hk=>?_⟩
 ·obtain⟨p,_,rfl⟩:=List.mem_map.mp hs;exact DH p
 ·obtain⟨p,hp,rfl⟩:=List.mem_map.mp hs;exact⟨_,_,C8 (z p hp),Mu (z p hp),show(1:Int)*1-0*0≠0 by decide⟩
 ·obtain⟨p,hp,e1⟩:=List.mem_map.mp (Dq hk);obtain⟨q,hq,e2⟩:=List.mem_map.mp (List.getElem_mem hk);rw[<-e1,<-e2];exact Jt (z p hp) (z q hq)
theorem vX {ps S1:List Pt}(hS:SetOf ps S1)(hne:ps≠[]):uQ S1 (iR S1):=by
 have hn1:S1≠[]:=fun e=>by
  cases ps with
  | nil=>exact hne rfl
  | cons p ps=>have:=hS.2.1 p List.mem_cons_self;rw[e]at this;cases this
 exact Fi hS.2.2 hn1
theorem BS (H:List Pt):(H.map qd).map aI=H.map fl:=by rw[List.map_map];exact List.map_congr_left fun p _=>oj p
end Law
namespace Law
open L2 DL
set_option maxHeartbeats 4000000
theorem IH {ps S1:List Pt}(hS:SetOf ps S1)(hz:∀ p∈ps,SzF 115 p)(l:Hf):(∀ p∈iR S1,0<=c5 l (fl p))↔∀ p∈ps,0<=c5 l (fl p):=by
 cases ps with
 | nil=>
  have e:S1=[]:=by
   cases S1 with
   | nil=>rfl
   | cons p r=>have:=hS.1 p List.mem_cons_self;cases this
  subst e;simp[iR]
 | cons p0 r=>
  have O:=vX hS (by simp)
  have R:=lI O fun p hp=>hz p (hS.1 p (O.sub p hp));constructor
  ·intro h p hp;have h1:=O.hold p (hS.2.1 p hp);rw[<-BS]at h1;refine(tK R (show(0:Int)<1 by decide)).mp h1 l fun s hs=>?_
   obtain⟨p',hp',rfl⟩:=List.mem_map.mp hs;rw[oj];exact h p' hp'
  ·intro h p hp;exact h p (hS.1 p (O.sub p hp))
theorem Bx {ps S1:List Pt}(hS:SetOf ps S1)(hne:ps≠[])(hz:∀ p∈ps,SzF 115 p){q:Hf}(zq:0<q.2.2):im (((iR S1).map qd).map aI) q↔∀ l:Hf,(∀ p∈ps,0<=c5 l (fl p))->0<=c5 l q:=by
 have O:=vX hS hne;have R:=lI O fun p hp=>hz p (hS.1 p (O.sub p hp));rw[tK R zq];unfold Cv;refine forall_congr' fun l=>?_;rw[<-IH hS hz l];refine imp_congr ⟨fun h p hp=>?_,fun h s hs=>?_⟩ Iff.rfl
 ·have:=h (qd p) (List.mem_map.mpr ⟨p,hp,rfl⟩)
  rwa [oj]at this
 ·obtain⟨p',hp',rfl⟩:=List.mem_map.mp hs;rw[oj];exact h p' hp'
end Law
namespace Law
open L2 DL
def bz (v f:Pt):Int:=v.1*f.1+v.2*f.2
def gv (u v:Pt):Int:=u.1*v.2-u.2*v.1
def ahead (vs:List Pt)(f:Pt):Nat:=vs.countP fun v=>decide (0<=bz v f)
def De (w v:Pt):Bool:=decide (0<gv w v\/(gv w v=0/\bz w v<=0))
theorem vz {t x:Int}(ht:0<t)(hx:x<=-1):t*x<=-t:=by
 have:=Int.mul_le_mul_of_nonneg_left hx (Int.le_of_lt ht);omega
theorem vy {t x:Int}(ht:0<t)(hx:1<=x):t<=t*x:=by
 have:=Int.mul_le_mul_of_nonneg_left hx (Int.le_of_lt ht);omega
theorem NW {t c d:Int}(h1:d<t)(h2:-t<d):0<=t*c+d↔0<c\/(c=0/\0<=d):=by
 have ht:0<t:=by omega
 constructor
 ·intro h
  by_cases h0:c=0
  ·subst h0;rw[Int.mul_zero]at h;exact .inr ⟨rfl,by omega⟩
  ·refine .inl ?_
   by_cases hp:0<c
   ·exact hp
   ·have:=vz ht (show c<=-1 by omega)
    omega
 ·rintro(h|⟨rfl,h⟩)
  ·have:=vy ht (show 1<=c by omega)
   omega
  ·rw[Int.mul_zero];omega
theorem uy (x:Int):0<=x*x:=by
 rcases Int.le_total 0 x with h|h
 ·exact Int.mul_nonneg h h
 ·exact Int.mul_nonneg_of_nonpos_of_nonpos h h
theorem GD {x:Int}(h:x≠0):0<x*x:=by
 have:=uy x;have:x*x≠0:=fun z=>by
  rcases Int.mul_eq_zero.mp z with e|e <;> exact h e
 omega
theorem Kv {w g:Pt}(h:bz w g<0):0<w.1*w.1+w.2*w.2:=by
 have a:=uy w.1 ;have b:=uy w.2
 by_cases e1:w.1=0
 ·by_cases e2:w.2=0
  ·unfold bz at h;rw[e1,e2]at h;omega
  ·have:=GD e2;omega
 ·have:=GD e1;omega
theorem u6 (u v w g:Pt):gv u w*bz v g=gv u v*bz w g+gv v w*bz u g:=by
 unfold gv bz;grind
theorem uT (w v g:Pt):bz v g*(w.1*w.1+w.2*w.2)=bz w v*bz w g+gv w v*gv w g:=by
 unfold gv bz;grind
theorem lV (g:Pt):∀ vs:List Pt,(∀ v∈vs,0<=bz v g)\/∃ w∈vs,bz w g<0/\∀ v∈vs,bz v g<0->gv w v<=0
 | []=>.inl fun v h=>by cases h
 | u::vs=>by
  rcases lV g vs with h|⟨w,hw,hg,hl⟩
  ·by_cases hu:0<=bz u g
   ·refine .inl fun v hv=>?_
    rcases List.mem_cons.mp hv with z|z
    ·subst z;exact hu
    ·exact h v z
   ·refine .inr ⟨u,List.mem_cons_self,by omega,fun v hv hn=>?_⟩
    rcases List.mem_cons.mp hv with z|z
    ·subst z;have:gv v v=0:=by unfold gv;grind
     omega
    ·have:=h v z;omega
  ·by_cases hu:0<=bz u g
   ·refine .inr ⟨w,List.mem_cons_of_mem _ hw,hg,fun v hv hn=>?_⟩
    rcases List.mem_cons.mp hv with z|z
    ·subst z;omega
    ·exact hl v z hn
   ·by_cases hc:gv w u<=0
    ·refine .inr ⟨w,List.mem_cons_of_mem _ hw,hg,fun v hv hn=>?_⟩
     rcases List.mem_cons.mp hv with z|z
     ·subst z;exact hc
     ·exact hl v z hn
    ·refine .inr ⟨u,List.mem_cons_self,by omega,fun v hv hn=>?_⟩
     rcases List.mem_cons.mp hv with z|z
     ·subst z;have:gv v v=0:=by unfold gv;grind
      omega
     ·have c1:=hl v z hn;have anti:gv u w=-gv w u:=by unfold gv;grind
      have key:=u6 u w v g;have p1:0<=gv u w*bz v g:=Int.mul_nonneg_of_nonpos_of_nonpos (by omega) (by omega)
      have p2:0<=gv w v*bz u g:=Int.mul_nonneg_of_nonpos_of_nonpos (by omega) (by omega)
      by_cases hp:gv u v<=0
      ·exact hp
      ·have:=Int.mul_neg_of_pos_of_neg (a:=gv u v) (b:=bz w g) (by omega) hg
       omega
theorem uu {w v g:Pt}(hw:bz w g<0)(hv:bz v g<0)(hc:gv w v<=0):De w v=false:=by
 unfold De;rw[decide_eq_false_iff_not];rintro(h|⟨h0,hd⟩)
 ·omega
 ·have key:=uT w v g;rw[h0,Int.zero_mul,Int.add_zero]at key;have p1:=Int.mul_neg_of_neg_of_pos hv (Kv hw);have p2:=Int.mul_nonneg_of_nonpos_of_nonpos hd (by omega:bz w g<=0)
  omega
theorem sK (vs:List Pt)(g:Pt):vs.length<=ahead vs g\/∃ w∈vs,w≠(0,0)/\vs.countP (De w)<=ahead vs g:=by
 rcases lV g vs with h|⟨w,hw,hg,hl⟩
 ·refine .inl ?_;have:ahead vs g=vs.length:=by
   unfold ahead;rw[List.countP_eq_length];exact fun v hv=>decide_eq_true (h v hv)
  omega
 ·refine .inr ⟨w,hw,fun z=>?_,?_⟩
  ·subst z;unfold bz at hg;simp at hg
  ·unfold ahead;refine List.countP_mono_left fun v hv hp=>?_;rw[decide_eq_true_eq]
   by_cases hn:0<=bz v g
   ·exact hn
   ·rw[uu hg (by omega) (hl v hv (by omega))]at hp
    cases hp
theorem mU (vs:List Pt)(g:Pt):ahead vs g<=vs.length:=List.countP_le_length
def zH (vs:List Pt)(n:Nat):Prop:=(∃ f:Pt,f≠(0,0)/\ahead vs f=n)/\∀ g:Pt,g≠(0,0)->n<=ahead vs g
theorem Af (vs:List Pt):∃ n,zH vs n:=by
 have key:∀ (n:Nat) (f:Pt),f≠(0,0)->ahead vs f<=n->∃ m,zH vs m:=by
  intro n
  induction n with
  | zero=>exact fun f hf h=>⟨0,⟨f,hf,by omega⟩,fun g _=>Nat.zero_le _⟩
  | succ n ih=>
   intro f hf h
   by_cases hx:∃ g:Pt,g≠(0,0)/\ahead vs g<=n
   ·obtain⟨g,h1,h2⟩:=hx;exact ih g h1 h2
   ·refine⟨n+1,⟨f,hf,?_⟩,fun g hg=>?_⟩
    ·have:¬ ahead vs f<=n:=fun z=>hx ⟨f,hf,z⟩;omega
    ·have:¬ ahead vs g<=n:=fun z=>hx ⟨g,hg,z⟩;omega
 exact key vs.length (1,0) (by decide) (mU _ _)
noncomputable def pz (vs:List Pt):Nat:=Classical.choose (Af vs)
theorem lu (vs:List Pt):zH vs (pz vs):=Classical.choose_spec (Af vs)
theorem oA {u v:Pt}(hu:u≠(0,0))(hc:gv u v=0)(hd:bz u v=0):v=(0,0):=by
 have k1:v.1*(u.1*u.1+u.2*u.2)=0:=by
  have:v.1*(u.1*u.1+u.2*u.2)=u.1*bz u v-u.2*gv u v:=by unfold bz gv;grind
  rw[this,hc,hd];omega
 have k2:v.2*(u.1*u.1+u.2*u.2)=0:=by
  have:v.2*(u.1*u.1+u.2*u.2)=u.2*bz u v+u.1*gv u v:=by unfold bz gv;grind
  rw[this,hc,hd];omega
 have hp:u.1*u.1+u.2*u.2≠0:=fun z=>by
  have a:=uy u.1;have b:=uy u.2;apply hu;have e1:u.1=0:=by
   by_cases z:u.1=0
   ·exact z
   ·have:=GD z;omega
  have e2:u.2=0:=by
   by_cases z:u.2=0
   ·exact z
   ·have:=GD z;omega
  exact Prod.ext e1 e2
 refine Prod.ext ?_ ?_
 ·rcases Int.mul_eq_zero.mp k1 with z|z
  ·exact z
  ·exact absurd z hp
 ·rcases Int.mul_eq_zero.mp k2 with z|z
  ·exact z
  ·exact absurd z hp
def lf (u v:Pt):Bool:=decide (0<gv u v)
def rg (u v:Pt):Bool:=decide (gv u v<0)
def fo (u v:Pt):Bool:=decide (gv u v=0/\0<bz u v)
def ba (u v:Pt):Bool:=decide (gv u v=0/\bz u v<0)
def nul (v:Pt):Bool:=decide (v=(0,0))
def bound (u:Pt):List Pt->Int
 | []=>1
 | v::r=>1+(bz u v).natAbs+bound u r
theorem ph (u:Pt):∀ vs:List Pt,0<bound u vs
 | []=>by unfold bound;decide
 | v::r=>by have:=ph u r;unfold bound;omega
theorem pf {u v:Pt}:∀ {vs:List Pt},v∈vs->bz u v<bound u vs/\-bound u vs<bz u v
 | [],h=>by cases h
 | x::r,h=>by
  unfold bound
  rcases List.mem_cons.mp h with z|z
  ·subst z;have:=ph u r;omega
  ·have:=pf (u:=u) z;omega
theorem iH {p q r s:Pt->Bool}:∀ {vs:List Pt},(∀ v∈vs,(s v=true↔p v=true\/q v=true\/r v=true)/\¬ (p v=true/\q v=true)/\¬ (p v=true/\r v=true)/\¬ (q v=true/\r v=true))->vs.countP s=vs.countP p+vs.countP q+vs.countP r
 | [],_=>rfl
 | v::vs,h=>by
  have ih:=iH (vs:=vs) fun x hx=>h x (List.mem_cons_of_mem _ hx);obtain⟨h1,h2,h3,h4⟩:=h v List.mem_cons_self;rw[List.countP_cons,List.countP_cons,List.countP_cons,List.countP_cons,ih]
  revert h1 h2 h3 h4
  cases s v <;> cases p v <;> cases q v <;> cases r v <;> simp <;> omega
theorem four {u:Pt}(hu:u≠(0,0))(vs:List Pt)(a b:Int)(ha:a=1\/a=-1)(hb:b=1\/b=-1) :
  ∃ g:Pt,g≠(0,0)/\ahead vs g=vs.countP (if a=1 then lf u else rg u)+vs.countP (if b=1 then fo u else ba u)+vs.countP nul:=by
 have dg:∀ v:Pt,bz v (-(a*u.2)*bound u vs+b*u.1,a*u.1*bound u vs+b*u.2)=bound u vs*(a*gv u v)+b*bz u v:=fun v=>by
  unfold bz gv;grind
 refine⟨(-(a*u.2)*bound u vs+b*u.1,a*u.1*bound u vs+b*u.2),fun z=>?_,?_⟩
 ·have:=dg u;rw[z]at this;have c0:gv u u=0:=by unfold gv;grind
  rw[c0]at this;have hd:bz u u=0:=by
   unfold bz at this ⊢
   rcases hb with rfl|rfl <;> simp at this <;> omega
  exact hu (oA hu c0 hd)
 ·unfold ahead;refine iH fun v hv=>?_;obtain⟨b1,b2⟩:=pf (u:=u) hv;rw[decide_eq_true_eq,dg v];have hh:=NW (t:=bound u vs) (c:=a*gv u v) (d:=b*bz u v) (by rcases hb with rfl|rfl <;> omega) (by rcases hb with rfl|rfl <;> omega)
  rw[hh];have zw:=oA (v:=v) hu;have nz:v=(0,0)->gv u v=0/\bz u v=0:=fun z=>by subst z;unfold gv bz;simp
  rcases ha with rfl|rfl <;> rcases hb with rfl|rfl <;> simp only[if_true,show ¬ ((-1:Int)=1) by decide,if_false,lf,rg,fo,ba,nul,decide_eq_true_eq] <;> (refine⟨⟨?_,?_⟩,?_,?_,?_⟩) <;> grind
def ck (vs:List Pt)(u:Pt):Nat:=min (vs.countP (lf u)) (vs.countP (rg u))+min (vs.countP (fo u)) (vs.countP (ba u))
theorem x6 (vs:List Pt){u:Pt}(hu:u≠(0,0)):pz vs<=vs.countP nul+ck vs u:=by
 have h:=(lu vs).2;obtain⟨g1,n1,e1⟩:=four hu vs 1 1 (.inl rfl) (.inl rfl);obtain⟨g2,n2,e2⟩:=four hu vs 1 (-1) (.inl rfl) (.inr rfl);obtain⟨g3,n3,e3⟩:=four hu vs (-1) 1 (.inr rfl) (.inl rfl);obtain⟨g4,n4,e4⟩:=four hu vs (-1) (-1) (.inr rfl) (.inr rfl);have:=h g1 n1;have:=h g2 n2;have:=h g3 n3;have:=h g4 n4;simp only[if_true,show ¬ ((-1:Int)=1) by decide,if_false]at e1 e2 e3 e4
 unfold ck;omega
theorem vO {u:Pt}(hu:u≠(0,0))(vs:List Pt):vs.countP (De u)=vs.countP (lf u)+vs.countP (ba u)+vs.countP nul:=by
 refine iH fun v hv=>?_;have zw:=oA (v:=v) hu;have nz:v=(0,0)->gv u v=0/\bz u v=0:=fun z=>by subst z;unfold gv bz;simp
 simp only[De,lf,ba,nul,decide_eq_true_eq];refine⟨⟨?_,?_⟩,?_,?_,?_⟩ <;> grind
theorem xk (vs:List Pt):vs.countP nul<=vs.length:=List.countP_le_length
theorem count_is {vs:List Pt}{n:Nat}(hle:n<=vs.length-vs.countP nul)(h1:∀ u∈vs,u≠(0,0)->n<=ck vs u)(h2:n=vs.length-vs.countP nul\/∃ u∈vs,u≠(0,0)/\n=ck vs u):pz vs=vs.countP nul+n:=by
 have hl:=xk vs;have ge:pz vs<=vs.countP nul+n:=by
  rcases h2 with z|⟨u,hu,hn,z⟩
  ·have h:=(lu vs).2 (1,0) (by decide)
   have:=mU vs (1,0);omega
  ·have:=x6 vs hn;omega
 obtain⟨f,hf,e⟩:=(lu vs).1;have le:vs.countP nul+n<=pz vs:=by
  rcases sK vs f with z|⟨w,hw,hn,z⟩
  ·omega
  ·rw[vO hn]at z;have:=h1 w hw hn;unfold ck at this;omega
 omega
end Law
namespace Law
open L2 DL
set_option maxHeartbeats 1000000
def zE (p:Pt):List Hf:=[(1,0,p.1),(-1,0,-p.1),(0,1,p.2),(0,-1,-p.2)]
def kc (ps:List Pt)(h:Hf):Prop:=(∃ p∈ps,h∈zE p)\/∃ p∈ps,∃ q∈ps,p≠q/\h=zD p q
theorem kc.sub {B ps:List Pt}(hs:∀ p∈B,p∈ps){h:Hf}(hb:kc B h):kc ps h:=by
 rcases hb with ⟨p,hp,hh⟩|⟨p,hp,q,hq,hne,e⟩
 ·exact .inl ⟨p,hs p hp,hh⟩
 ·exact .inr ⟨p,hs p hp,q,hs q hq,hne,e⟩
instance N3 (a b:Pt):Decidable (dz a b):=inferInstanceAs (Decidable (_\/_))
def ins (p:Pt):List Pt->List Pt
 | []=>[p]
 | q::l=>if dz p q then p::q::l else if p=q then q::l else q::ins p l
theorem Js {a b c:Pt}(h1:dz a b)(h2:dz b c):dz a c:=by unfold dz at *;omega
theorem Fu {a b:Pt}(h1:¬ dz a b)(h2:a≠b):dz b a:=by
 unfold dz at *;have:a.1≠b.1\/a.2≠b.2:=by
  by_cases e:a.1=b.1
  ·right;intro e2;exact h2 (Prod.ext e e2)
  ·exact .inl e
 omega
theorem kz (p x:Pt):∀ l:List Pt,x∈ins p l↔x=p\/x∈l
 | []=>by simp[ins]
 | q::l=>by
  unfold ins
  split
  ·simp
  ·split
   ·rename_i e;subst e;simp
   ·simp only[List.mem_cons,kz p x l];exact⟨fun h=>by rcases h with h|h|h <;> simp[h],fun h=>by rcases h with h|h|h <;> simp[h]⟩
theorem BB (p:Pt):∀ l:List Pt,l.Pairwise dz->(ins p l).Pairwise dz
 | [],_=>by simp[ins]
 | q::l,h=>by
  unfold ins;have h':=List.pairwise_cons.mp h
  split
  ·rename_i e;exact List.pairwise_cons.mpr ⟨fun x hx=>by
    rcases List.mem_cons.mp hx with rfl|hx
    ·exact e
    ·exact Js e (h'.1 x hx),h⟩
  ·split
   ·exact h
   ·rename_i e1 e2;refine List.pairwise_cons.mpr ⟨fun x hx=>?_,BB p l h'.2⟩
    rcases(kz p x l).mp hx with rfl|hx
    ·exact Fu e1 e2
    ·exact h'.1 x hx
theorem Kq (B:List Pt):∃ S:List Pt,SetOf B S:=by
 induction B with
 | nil=>exact⟨[],by simp[SetOf]⟩
 | cons p B ih=>
  obtain⟨S,h1,h2,h3⟩:=ih;refine⟨ins p S,fun x hx=>?_,fun x hx=>?_,BB p S h3⟩
  ·rcases(kz p x S).mp hx with rfl|hx
   ·exact List.mem_cons_self
   ·exact List.mem_cons_of_mem _ (h1 x hx)
  ·rcases List.mem_cons.mp hx with rfl|hx
   ·exact(kz _ _ S).mpr (.inl rfl)
   ·exact(kz _ _ S).mpr (.inr (h2 x hx))
theorem nS (l:Hf)(p:Pt):c5 l (fl p)=l.1*p.1+l.2.1*p.2-l.2.2:=by unfold c5 fl;simp
theorem iQ (h:Hf)(p:Pt):iP h p=true↔0<=c5 h (fl p):=by
 rw[nS];unfold iP;rw[decide_eq_true_eq];omega
theorem GX (a b c:Hf):bS b a c=-bS a b c:=by unfold bS;grind
theorem E3 (a c:Hf):bS a a c=0:=by unfold bS;grind
theorem ME {L:List bJ}(R:GU L)(h1:1<L.length)(k:Nat)(hk:k<L.length):mH L k hk≠L[k]:=by
 by_cases h3:3<=L.length
 ·rw[vS hk,<-kx hk];exact fun e=>MD (P:=fun i=>aI (gt L i)) h3 (n0 R) (Dr hk) hk (Kd h3 hk).1 (congrArg aI e)
 ·have e2:L.length=2:=by omega
  match L,e2,R with
  | [a,b],_,R=>
   have hb:Bf (aI a) (aI b):=qg.mp (R.reg.fst 1 (by simp) (by decide))
   have ne:a≠b:=fun e=>by rw[e]at hb;exact Bf.irr _ hb
   have:k=0\/k=1:=by simp at hk;omega
   rcases this with rfl|rfl
   ·exact fun e=>ne e.symm
   ·exact ne
theorem O1 {B S1:List Pt}(hS:SetOf B S1)(hne:B≠[])(hz:∀ p∈B,SzF 110 p){c:Hf}(zc:0<c.2.2)(hc:¬ im (((iR S1).map qd).map aI) c) :
  ∃ h,kc B h/\(∀ p∈B,0<=c5 h (fl p))/\c5 h c<0:=by
 have O:=vX hS hne;have R:=lI O fun p hp=>(hz p (hS.1 p (O.sub p hp))).mono3 (by decide)
 rw[BS]at hc;have inB:∀ p∈iR S1,p∈B:=fun p hp=>hS.1 p (O.sub p hp);have hold:∀ p∈B,im ((iR S1).map fl) (fl p):=fun p hp=>O.hold p (hS.2.1 p hp);have hne':=O.ne;generalize iR S1=H at *;have hp:0<H.length:=List.length_pos_iff.mpr hne';have hml:(H.map fl).length=H.length:=List.length_map ..
 rcases Nat.lt_or_ge H.length 3 with h3|h3
 ·have g0:(H.map fl)[0]'(by omega)=fl H[0]:=List.getElem_map ..
  have g1:(H.map fl)[(H.map fl).length-1]'(by omega)=fl H[H.length-1]:=by
   rw[List.getElem_map];congr 2;omega
  have few:∀ p∈B,bS (fl H[0]) (fl H[H.length-1]) (fl p)=0/\¬ dz p H[0]/\¬ dz H[H.length-1] p:=fun p hp=>by
   have:=(hold p hp).few (by omega)
   rw[g0,g1]at this;exact⟨this.1,fun z=>by rw[(qh _ _).mpr z]at this;exact absurd this.2.1 (by decide),fun z=>by rw[(qh _ _).mpr z]at this;exact absurd this.2.2 (by decide)⟩
  have b0:=inB _ (List.getElem_mem hp);have b1:=inB _ (List.getElem_mem (show H.length-1<H.length by omega))
  have hc':¬ (bS (fl H[0]) (fl H[H.length-1]) c=0/\mw c (fl H[0])=false/\mw (fl H[H.length-1]) c=false):=fun z=>hc ⟨by omega,fun _=>by rw[g0,g1];exact z,fun z=>by omega⟩
  generalize H[0]=p0 at *;generalize H[H.length-1]=p1 at *
  by_cases hd:bS (fl p0) (fl p1) c=0
  ·
   have hv:p1.1≠p0.1\/p1.1=p0.1:=by omega
   have line:c.1=p0.1*c.2.2->c.2.1≠p0.2*c.2.2->p1.1=p0.1:=fun e1 e2=>by
    have e3:(p1.1-p0.1)*(c.2.1-p0.2*c.2.2)=0:=by
     have:(p1.1-p0.1)*(c.2.1-p0.2*c.2.2)=bS (fl p0) (fl p1) c+(p1.2-p0.2)*(c.1-p0.1*c.2.2):=by unfold bS fl;grind
     rw[this,hd,e1];simp
    rcases Int.mul_eq_zero.mp e3 with h|h
    ·omega
    ·exact absurd (by omega) e2
   have line1:c.1=p1.1*c.2.2->c.2.1≠p1.2*c.2.2->p1.1=p0.1:=fun e1 e2=>by
    have e3:(p1.1-p0.1)*(c.2.1-p1.2*c.2.2)=0:=by
     have:(p1.1-p0.1)*(c.2.1-p1.2*c.2.2)=bS (fl p0) (fl p1) c+(p1.2-p0.2)*(c.1-p1.1*c.2.2):=by unfold bS fl;grind
     rw[this,hd,e1];simp
    rcases Int.mul_eq_zero.mp e3 with h|h
    ·omega
    ·exact absurd (by omega) e2
   by_cases hb:mw c (fl p0)=false
   ·have hb1:mw (fl p1) c=true:=by
     cases hx:mw (fl p1) c with
     | true=>rfl
     | false=>exact absurd ⟨hd,hb,hx⟩ hc'
    unfold mw fl at hb1;simp only[Int.mul_one,ne_eq]at hb1
    split at hb1
    ·rename_i e;have:=of_decide_eq_true hb1;refine⟨(-1,0,-p1.1),.inl ⟨p1,b1,by simp[zE]⟩,fun p hp=>?_,?_⟩
     ·have:=(few p hp).2.2;rw[nS];unfold dz at this;simp only;omega
     ·unfold c5;simp only;have e5:=Int.neg_mul p1.1 c.2.2;omega
    ·rename_i e;have:=of_decide_eq_true hb1;have ex:=line1 (by omega) (by omega)
     refine⟨(0,-1,-p1.2),.inl ⟨p1,b1,by simp[zE]⟩,fun p hp=>?_,?_⟩
     ·have f:=(few p hp).2;rw[nS];unfold dz at f;simp only;omega
     ·unfold c5;simp only;have e5:=Int.neg_mul p1.2 c.2.2;omega
   ·have hb:mw c (fl p0)=true:=by simpa using hb
    unfold mw fl at hb;simp only[Int.mul_one,ne_eq]at hb
    split at hb
    ·rename_i e;have:=of_decide_eq_true hb;refine⟨(1,0,p0.1),.inl ⟨p0,b0,by simp[zE]⟩,fun p hp=>?_,?_⟩
     ·have:=(few p hp).2.1;rw[nS];unfold dz at this;simp only;omega
     ·unfold c5;simp only;omega
    ·rename_i e;have:=of_decide_eq_true hb;have ex:=line (by omega) (by omega)
     refine⟨(0,1,p0.2),.inl ⟨p0,b0,by simp[zE]⟩,fun p hp=>?_,?_⟩
     ·have f:=(few p hp).2;rw[nS];unfold dz at f;simp only;omega
     ·unfold c5;simp only;omega
  ·have hne2:p0≠p1:=fun e=>hd (by rw[e];exact E3 _ _)
   rcases Int.lt_or_gt_of_ne hd with hl|hg
   ·refine⟨zD p0 p1,.inr ⟨p0,b0,p1,b1,hne2,rfl⟩,fun p hp=>(pj hne2 _).mpr (by rw[(few p hp).1];decide),?_⟩
    have:=mt (pj hne2 c).mp (by omega)
    omega
   ·refine⟨zD p1 p0,.inr ⟨p1,b1,p0,b0,hne2.symm,rfl⟩,fun p hp=>(pj hne2.symm _).mpr (by rw[GX,(few p hp).1];decide),?_⟩
    have:=mt (pj hne2.symm c).mp (by rw[GX];omega)
    omega
 ·have:∃ k,∃ hk:k<H.length,bS (fl (mH H k hk)) (fl H[k]) c<0:=by
   apply Classical.byContradiction;intro hx;refine hc ⟨by omega,fun z=>by omega,fun _ k hk=>?_⟩
   rw[jZ,List.getElem_map];have:¬ bS (fl (mH H k (by omega))) (fl (H[k]'(by omega))) c<0:=fun z=>hx ⟨k,by omega,z⟩
   omega
  obtain⟨k,hk,hlt⟩:=this;have hne2:mH H k hk≠H[k]:=fun e=>by
   have:=ME R (by rw[List.length_map];omega) k (by rw[List.length_map];exact hk)
   rw[jZ,List.getElem_map]at this;exact this (congrArg qd e)
  refine⟨zD (mH H k hk) H[k],.inr ⟨_,inB _ (Dq hk),_,inB _ (List.getElem_mem hk),hne2,rfl⟩,fun p hp=>(pj hne2 _).mpr ?_,?_⟩
  ·have:=(hold p hp).all (by omega) k (by omega)
   rwa [jZ,List.getElem_map]at this
  ·have:=mt (pj hne2 c).mp (by omega)
   omega
def jA (h:Hf)(p:Pt):Pt:=(p.1*h.2.2-h.1,p.2*h.2.2-h.2.1)
theorem o7 (c:Hf)(ps:List Pt)(f:Pt):ahead (ps.map (jA c)) f=ps.countP fun p=>decide (0<=bz (jA c p) f):=by
 unfold ahead;rw[List.countP_map];rfl
theorem qp {α:Type}(p:α->Bool)(l:List α):l.countP p+l.countP (fun x=>!p x)=l.length:=by
 induction l with
 | nil=>rfl
 | cons x l ih=>
  rw[List.countP_cons,List.countP_cons,List.length_cons]
  cases p x <;> simp <;> omega
theorem IL {ps:List Pt}{c h:Hf}(zc:0<c.2.2)(hn:h.1≠0\/h.2.1≠0)(ho:c5 h c<0):pz (ps.map (jA c))+fR h ps<=ps.length:=by
 have hf:((-h.1,-h.2.1):Pt)≠(0,0):=fun e=>by
  have:=Prod.mk.inj e;omega
 have h1:=(lu (ps.map (jA c))).2 _ hf;rw[o7]at h1;have h2:ps.countP (fun p=>decide (0<=bz (jA c p) (-h.1,-h.2.1)))<=ps.countP fun p=>!iP h p:=by
  refine List.countP_mono_left fun p _ hp=>?_;have hp:=of_decide_eq_true hp
  cases hb:iP h p with
  | false=>rfl
  | true=>
   exfalso;rw[iQ,nS]at hb;unfold bz jA at hp;unfold c5 at ho;dsimp only at hp;have e:(p.1*c.2.2-c.1)*-h.1+(p.2*c.2.2-c.2.1)*-h.2.1=-(c.2.2*(h.1*p.1+h.2.1*p.2-h.2.2))+(h.1*c.1+h.2.1*c.2.1-h.2.2*c.2.2):=by grind
   rw[e]at hp;have:=Int.mul_nonneg (Int.le_of_lt zc) hb;omega
 have h3:=qp (iP h) ps;unfold fR;omega
theorem IK {ps:List Pt}(hz:∀ p∈ps,SzF 110 p){c:Hf}(zc:0<c.2.2){k:Nat}(hk:k<=ps.length)(hk1:1<=k)(hall:∀ h,kc ps h->ps.length+1<=fR h ps+k->0<=c5 h c):k<=pz (ps.map (jA c)):=by
 apply Classical.byContradiction;intro hlt;obtain⟨⟨f,hf,hd⟩,_⟩:=lu (ps.map (jA c));rw[o7]at hd
 let B:=ps.filter fun p=>!decide (0<=bz (jA c p) f)
 have hBm:∀ p,p∈B↔p∈ps/\bz (jA c p) f<0:=fun p=>by
  simp only[B,List.mem_filter,Bool.not_eq_true',decide_eq_false_iff_not];constructor
  ·rintro⟨a,b⟩;exact⟨a,by omega⟩
  ·rintro⟨a,b⟩;exact⟨a,by omega⟩
 have hBl:ps.countP (fun p=>decide (0<=bz (jA c p) f))+B.length=ps.length:=by
  have:=qp (fun p=>decide (0<=bz (jA c p) f)) ps;rw[List.countP_eq_length_filter (p:=fun p=>!decide (0<=bz (jA c p) f))]at this;exact this
 have hBne:B≠[]:=fun e=>by rw[e,List.length_nil]at hBl;omega
 obtain⟨S1,hS⟩:=Kq B;have hzB:∀ p∈B,SzF 110 p:=fun p hp=>hz p ((hBm p).mp hp).1;have hno:¬ im (((iR S1).map qd).map aI) c:=fun hh=>by
  have:=(Bx hS hBne (fun p hp=>(hzB p hp).mono3 (by decide)) zc).mp hh (-(c.2.2*f.1),-(c.2.2*f.2),1-(c.1*f.1+c.2.1*f.2)) fun p hp=>?_
  ·unfold c5 at this;dsimp only at this;have e:-(c.2.2*f.1)*c.1 + -(c.2.2*f.2)*c.2.1-(1-(c.1*f.1+c.2.1*f.2))*c.2.2=-c.2.2:=by grind
   rw[e]at this;omega
  ·have h1:=((hBm p).mp hp).2;rw[nS];unfold bz jA at h1;dsimp only at h1 ⊢;have e:-(c.2.2*f.1)*p.1 + -(c.2.2*f.2)*p.2-(1-(c.1*f.1+c.2.1*f.2))=-((p.1*c.2.2-c.1)*f.1+(p.2*c.2.2-c.2.1)*f.2)-1:=by grind
   rw[e];omega
 obtain⟨h,hb,hall',ho⟩:=O1 hS hBne hzB zc hno;have hm:B.length<=fR h ps:=by
  have:B.length=ps.countP fun p=>!decide (0<=bz (jA c p) f):=(List.countP_eq_length_filter ..).symm;rw[this];refine List.countP_mono_left fun p hp hq=>(iQ h p).mpr (hall' p ((hBm p).mpr ⟨hp,?_⟩));simp only[Bool.not_eq_true',decide_eq_false_iff_not]at hq;omega
 have:=hall h (hb.sub fun p hp=>((hBm p).mp hp).1) (by omega)
 omega
theorem mB {ps:List Pt}(hz:∀ p∈ps,SzF 110 p){h:Hf}(hb:kc ps h):lb h:=by
 rcases hb with ⟨p,hp,hh⟩|⟨p,hp,q,hq,hne,rfl⟩
 ·have z:=hz p hp;have o0:Sz 300 (0:Int):=sj;have o1:Sz 300 (1:Int):=si (by decide)
  have o2:Sz 300 (-1:Int):=(si (n:=300) (by decide)).neg
  simp only[zE,List.mem_cons,List.not_mem_nil,or_false]at hh
  rcases hh with rfl|rfl|rfl|rfl
  ·exact⟨⟨o1,o0,z.1.mono (by decide)⟩,.inl (show(1:Int)≠0 by decide)⟩
  ·exact⟨⟨o2,o0,z.1.neg.mono (by decide)⟩,.inl (show(-1:Int)≠0 by decide)⟩
  ·exact⟨⟨o0,o1,z.2.mono (by decide)⟩,.inr (show(1:Int)≠0 by decide)⟩
  ·exact⟨⟨o0,o2,z.2.neg.mono (by decide)⟩,.inr (show(-1:Int)≠0 by decide)⟩
 ·exact LV hne (hz p hp) (hz q hq)
theorem wL {ps:List Pt}(hz:∀ p∈ps,SzF 110 p){c:Hf}(zc:0<c.2.2){k:Nat}(hk:k<=ps.length)(hk1:1<=k):k<=pz (ps.map (jA c))↔∀ h,kc ps h->ps.length+1<=fR h ps+k->0<=c5 h c:=by
 refine⟨fun hd h hb hm=>?_,IK hz zc hk hk1⟩
 rcases Int.lt_or_le (c5 h c) 0 with ho|ho
 ·have:=IL (ps:=ps) zc (mB hz hb).2 ho;omega
 ·exact ho
end Law
namespace Law
open L2 DL
set_option maxHeartbeats 1000000
def OP (G:Hf->Prop)(L:List bJ):Prop:=3<=L.length->∀ k (hk:k<L.length),NA G (mH L k hk) L[k]
end Law
namespace Law
open L2 DL
set_option maxHeartbeats 4000000
def lP (ps:List Pt)(hs:List Hf):Prop:=(∀ h,h∈hs↔kc ps h)/\hs.length<=70
def se (m:Int)(ps:List Pt)(hs:List Hf):List Hf:=hs.filter fun g=>decide (m<=fR g ps)
def bD:aR:=fun ss R=>∃ p:Pt,ss=[.t (bt p)]/\R (.ol ((zE p).map aZ))
def eO:aR:=fun ss R=>∃ ps:List Pt,ss=[.t (.lst (ps.map bt))]/\ps.length<=7/\(∀ p∈ps,SzF 100 p)/\∀ hs:List Hf,lP ps hs->R (.ol (hs.map aZ))
def bw:aR:=fun ss R=>∃ (t:T) (ts:List T),ss=[.t (.lst (t::ts))]/\R (.t .non)
def dZ:aR:=fun ss R=>∃ (ps:List Pt) (m:Int),ss=[.t (.lst (ps.map bt)),.t (.int m)]/\ps≠[]/\ps.length<=7/\(∀ p∈ps,SzF 100 p)/\∀ hs:List Hf,lP ps hs->R (.ol ((se m ps hs).map aZ))
def bZ:WS:=
 (aG (aP 1 (au aV (ae 0) (wC (.int 0))))
 (aG (aP 2 (au aV (ae 0) (wC (.int 1))))
 (bi (gR (af (dB (af (wC (.int 1)) (af (wC (.int 0)) (af (ae 1) ao)))) (af (dB (af (D0 nw (wC (.int 1))) (af (wC (.int 0)) (af (D0 nw (ae 1)) ao)))) (af (dB (af (wC (.int 0)) (af (wC (.int 1)) (af (ae 2) ao)))) (af (dB (af (wC (.int 0)) (af (D0 nw (wC (.int 1))) (af (D0 nw (ae 2)) ao)))) ao))))))))
def ie:WS:=
 (aG (aP 1 (gR ao))
 (bL (gQ (cu (ae 0)) (aS 2) (aG (mJ 1 (aB bD (af (ae 2) ao)))
 (gQ (cu (ae 0)) (aS 3) (ft (wB (zu (ae 2) (ae 3))) (h9 1 (aB fE (af (ae 2) (af (ae 3) ao)))) aY))))
 (bi (ot (ae 1)))))
def eB:WS:=
 (ft (wB (lM (df b9 (af (ae 0) ao)) (wC (.int 0)))) sn aY)
def kZ:WS:=
 (aG (xG (aB bw (af (ae 0) ao)))
 (bi (fM 1 [0,1] (cu (aB eO (af (ae 0) ao))) (aS 0) (wB (K2 (aB fJ (af (ae 0) (af (ae 1) ao))) (ae 2))) (ae 0))))
theorem iA:∀ ss R,bD ss R->ss.length=1:=by rintro ss R ⟨a,rfl,_⟩;rfl
theorem rE:∀ ss R,eO ss R->ss.length=1:=by rintro ss R ⟨a,rfl,_⟩;rfl
theorem mn:∀ ss R,bw ss R->ss.length=1:=by rintro ss R ⟨a,b,rfl,_⟩;rfl
theorem vv:∀ ss R,dZ ss R->ss.length=2:=by rintro ss R ⟨a,b,rfl,_⟩;rfl
theorem iW:∀ ss R,bD ss R->bZ {nx:=fun _=>R (.t .non),rt:=R} (aD ["point","x","y"] ss):=by
 rintro ss R ⟨⟨x,y⟩,rfl,h⟩;show bZ _ [some (.t (.tup [.int x,.int y])),none,none]
 delta bZ
 walk_at "dl";exact h
theorem nQ:∀ ss R,bw ss R->eB {nx:=fun _=>R (.t .non),rt:=R} (aD ["points"] ss):=by
 rintro ss R ⟨t,ts,rfl,h⟩;show eB _ [some (.t (.lst (t::ts)))]
 delta eB
 walk_at "dl";rw[if_neg (by omega)]
 exact h
def G6 (h:Hf):List Int:=[h.1,h.2.1,h.2.2]
theorem tJ {hs:List Hf}:∀ ns:List (List Int),(∀ k∈ns,k∈hs.map G6)->∃ gs:List Hf,ns=gs.map G6/\∀ g∈gs,g∈hs
 | [],_=>⟨[],rfl,fun p hp=>by cases hp⟩
 | k::ns,h=>by
  obtain⟨gs,e,hg⟩:=tJ ns fun k hk=>h k (List.mem_cons_of_mem _ hk);obtain⟨p,hp,rfl⟩:=List.mem_map.mp (h k List.mem_cons_self);exact⟨p::gs,by rw[e];rfl,fun q hq=>by
   rcases List.mem_cons.mp hq with rfl|hq
   ·exact hp
   ·exact hg q hq⟩
theorem Ff {a b:Hf}(h:G6 a=G6 b):a=b:=by
 unfold G6 at h;simp only[List.cons.injEq,and_true]at h;exact Prod.ext h.1 (Prod.ext h.2.1 h.2.2)
theorem ID {p:Pt}:∀ {ps:List Pt},p∈ps->ps.countP (fun q=>decide (q≠p))+1<=ps.length:=fun {ps} h=>by
 have h1:=qp (fun q=>decide (q≠p)) ps;have h2:0<ps.countP fun q=>!decide (q≠p):=List.countP_pos_iff.mpr ⟨p,h,by simp⟩
 omega
theorem uq:∀ ss R,eO ss R->ie {nx:=fun _=>R (.t .non),rt:=R} (aD ["points","found","one","other"] ss):=by
 rintro ss R ⟨ps,rfl,hl,hz,h⟩;show ie _ [some (.t (.lst (ps.map bt))),none,none,none]
 delta ie
 walk_at "dl"
 let M:List Pt->List Hf->Prop:=fun pre hs=>hs.length<=pre.length*10/\(∀ h∈hs,kc ps h)/\∀ p∈pre,(∀ h∈zE p,h∈hs)/\∀ q∈ps,p≠q->zD p q∈hs
 refine⟨fun δ=>∃ (hs:List Hf) (r2 r3:Option S),δ=[some (.t (.lst (ps.map bt))),some (.ol (hs.map aZ)),r2,r3]/\M ps hs,?_,?_⟩
 ·refine⟨fun ts δ=>∃ (pre post:List Pt) (hs:List Hf) (r2 r3:Option S),ps=pre++post/\ts=post.map bt/\δ=[some (.t (.lst (ps.map bt))),some (.ol (hs.map aZ)),r2,r3]/\M pre hs,⟨[],ps,[],_,_,rfl,rfl,rfl,by simp,fun h hh=>(nomatch hh),fun p hp=>(nomatch hp)⟩,?_,?_⟩
  ·rintro δ ⟨pre,post,hs,r2,r3,e1,e2,rfl,hM⟩;have:post=[]:=by simpa using e2.symm
   subst this;rw[List.append_nil]at e1;subst e1;exact⟨hs,r2,r3,rfl,hM⟩
  ·rintro x ts δ ⟨pre,post,hs,r2,r3,e1,e2,rfl,h1,h2,h3⟩
   cases post with
   | nil=>cases e2
   | cons p post=>
    rw[List.map_cons]at e2
    cases e2
    have hpm:p∈ps:=by rw[e1];simp
    have hpz:SzF 100 p:=hz p hpm;have hln:ps.length=pre.length+(post.length+1):=by rw[e1];simp
    walk_at "dl";refine⟨p,rfl,?_⟩;dsimp only;rw[lx _ (c6 (fun _=>rfl) _)];walk_at "dl";refine⟨by simp only[List.length_map];show hs.length+4<100000;omega,?_⟩
    rw[<-List.map_append]
    let N:List Pt->List Hf->Prop:=fun p2 gs=>gs.length<=hs.length+4+p2.countP (fun q=>decide (q≠p))/\(∀ h∈gs,kc ps h)/\(∀ h∈hs,h∈gs)/\(∀ h∈zE p,h∈gs)/\∀ q∈p2,p≠q->zD p q∈gs
    refine⟨fun ts δ=>∃ (p2 q2:List Pt) (gs:List Hf) (r3:Option S),ps=p2++q2/\ts=q2.map bt/\δ=[some (.t (.lst (ps.map bt))),some (.ol (gs.map aZ)),some (.t (bt p)),r3]/\N p2 gs,⟨[],ps,hs++zE p,_,rfl,rfl,rfl,by simp[zE],fun h hh=>?_,fun h hh=>List.mem_append_left _ hh,fun h hh=>List.mem_append_right _ hh,fun q hq=>(nomatch hq)⟩,?_,?_⟩
    ·rcases List.mem_append.mp hh with hh|hh
     ·exact h2 h hh
     ·exact .inl ⟨p,hpm,hh⟩
    ·rintro δ ⟨p2,q2,gs,r3,e3,e4,rfl,g1,g2,g3,g4,g5⟩;have:q2=[]:=by simpa using e4.symm
     subst this;rw[List.append_nil]at e3;subst e3;have hc:=ID hpm;refine⟨pre++[p],post,gs,_,_,by rw[List.append_assoc];exact e1,rfl,rfl,by rw[List.length_append,List.length_singleton];omega,g2,fun p' hp'=>?_⟩
     rcases List.mem_append.mp hp' with hp'|hp'
     ·exact⟨fun h hh=>g3 h ((h3 p' hp').1 h hh),fun q hq hne=>g3 _ ((h3 p' hp').2 q hq hne)⟩
     ·rw[List.mem_singleton.mp hp'];exact⟨g4,g5⟩
    ·rintro x ts δ ⟨p2,q2,gs,r3,e3,e4,rfl,g1,g2,g3,g4,g5⟩
     cases q2 with
     | nil=>cases e4
     | cons q q2=>
      rw[List.map_cons]at e4
      cases e4
      have hqm:q∈ps:=by rw[e3];simp
      have hqz:SzF 100 q:=hz q hqm;have hln2:ps.length=p2.length+(q2.length+1):=by rw[e3];simp
      have hcl:p2.countP (fun q=>decide (q≠p))<=p2.length:=List.countP_le_length;walk_at "dl"
      by_cases hpq:p.1=q.1/\p.2=q.2
      ·rw[decide_eq_true hpq,if_neg (by decide)]
       have epq:q=p:=(Prod.ext hpq.1 hpq.2).symm;refine⟨p2++[q],q2,gs,_,by rw[List.append_assoc];exact e3,rfl,rfl,?_,g2,g3,g4,fun q' hq' hne=>?_⟩
       ·rw[List.countP_append];omega
       ·rcases List.mem_append.mp hq' with hq'|hq'
        ·exact g5 q' hq' hne
        ·rw[List.mem_singleton.mp hq',epq]at hne;exact absurd rfl hne
      ·rw[decide_eq_false hpq,if_pos (by decide)]
       have hne:p≠q:=fun e=>hpq ⟨by rw[e],by rw[e]⟩
       refine⟨p,q,rfl,hne,hpz.mono3 (by decide),hqz.mono3 (by decide),?_⟩
       walk_at "dl";refine⟨by rw[List.length_map];omega,p2++[q],q2,gs++[zD p q],_,by rw[List.append_assoc];exact e3,rfl,by rw[List.map_append];rfl,?_,fun g hg=>?_,fun g hg=>List.mem_append_left _ (g3 g hg),fun g hg=>List.mem_append_left _ (g4 g hg),fun q' hq' hne'=>?_⟩
       ·rw[List.length_append,List.length_singleton,List.countP_append,List.countP_singleton,if_pos (by simpa using hne.symm)];omega
       ·rcases List.mem_append.mp hg with hg|hg
        ·exact g2 g hg
        ·rw[List.mem_singleton.mp hg];exact .inr ⟨p,hpm,q,hqm,hne,rfl⟩
       ·rcases List.mem_append.mp hq' with hq'|hq'
        ·exact List.mem_append_left _ (g5 q' hq' hne')
        ·rw[List.mem_singleton.mp hq'];exact List.mem_append_right _ (List.mem_singleton.mpr rfl)
 ·rintro δ ⟨hs,r2,r3,rfl,h1,h2,h3⟩;walk_at "dl";refine⟨3,hs.map G6,by decide,by rw[List.map_map];rfl,fun ks hk=>by obtain⟨p,_,rfl⟩:=List.mem_map.mp hk;rfl,by rw[List.length_map];omega,fun ns n1 n2 n3 _=>?_⟩
  obtain⟨gs,rfl,hg⟩:=tJ ns n1;have hgl:gs.length<=hs.length:=by
   have:=List.Nodup.length_le_of_subset n3 n1;simpa using this
  have e:(gs.map G6).map oo=gs.map aZ:=by rw[List.map_map];rfl
  rw[e];walk_at "dl";refine h gs ⟨fun g=>⟨fun hg'=>h2 g (hg g hg'),fun hb=>?_⟩,by omega⟩
  have hin:g∈hs:=by
   rcases hb with ⟨p,hp,hh⟩|⟨p,hp,q,hq,hne,rfl⟩
   ·exact(h3 p hp).1 g hh
   ·exact(h3 p hp).2 q hq hne
  obtain⟨g',hg',e'⟩:=List.mem_map.mp (n2 (G6 g) (List.mem_map.mpr ⟨g,hin,rfl⟩));rw[<-Ff e'];exact hg'
theorem EM {ps:List Pt}(hz:∀ p∈ps,SzF 100 p){h:Hf}(hb:kc ps h):eC 300 h:=(mB (fun p hp=>(hz p hp).mono3 (by decide)) hb).1
theorem yW:∀ ss R,dZ ss R->kZ {nx:=fun _=>R (.t .non),rt:=R} (aD ["points","many"] ss):=by
 rintro ss R ⟨ps,m,rfl,hne,hl,hz,h⟩;obtain⟨p0,pr,rfl⟩:∃ p0 pr,ps=p0::pr:=by
  cases ps with
  | nil=>exact absurd rfl hne
  | cons a b=>exact⟨a,b,rfl⟩
 show kZ _ [some (.t (.lst ((p0::pr).map bt))),some (.t (.int m))]
 delta kZ
 generalize hps:p0::pr=ps at *;have hnp:∀ R:S->Prop,R (.t .non)->bw [.t (.lst (ps.map bt))] R:=fun R hR=>⟨bt p0,pr.map bt,by rw[<-hps];rfl,hR⟩
 walk_at "dl";refine hnp _ ?_;walk_at "dl";refine⟨ps,rfl,hl,hz,fun hs hsB=>?_⟩;dsimp only;rw[lx _ (c6 (fun _=>rfl) _)];walk_at "dl";have wZ:=hsB.2;refine dj (f:=aZ) (h:=aZ) (p:=fun g=>decide (m<=fR g ps)) (fun δ=>∃ r,δ=[r,some (.t (.lst (ps.map bt))),some (.t (.int m))]) (fun _ _=>rfl) (by omega) ⟨_,rfl⟩ ?_ ?_
 ·rintro g hg δ ⟨r,rfl⟩ Y N h1 h2;walk_at "dl";refine⟨g,ps,rfl,uA (EM hz ((hsB.1 g).mp hg)) (by decide),fun p hp=>(hz p hp).mono3 (by decide),by omega,?_⟩
  walk_at "dl"
  split
  ·rename_i hc;exact h1 _ ⟨_,rfl⟩ (by simpa using hc)
  ·rename_i hc;exact h2 _ ⟨_,rfl⟩ (by simpa using hc)
 ·walk_at "dl";exact h hs hsB
end Law
namespace Law
open L2 DL
set_option maxHeartbeats 4000000
structure OU (ps:List Pt) (k:Nat) (L:List bJ):Prop where
 reg:GU L
 hold:∀ q:Hf,0<q.2.2->(im (L.map aI) q↔k<=pz (ps.map (jA q)))
 len:L.length<=160
 few:3<=L.length->L.length<=70
 lk:OP (kc ps) L
theorem E1 (ps:List Pt)(q:Hf):pz (ps.map (jA q))<=ps.length:=by
 have h:=(lu (ps.map (jA q))).2 (1,0) (by decide)
 have:=mU (ps.map (jA q)) (1,0);rw[List.length_map]at this;omega
end Law
namespace Law
open L2 DL
set_option maxHeartbeats 4000000
theorem Io {α:Type}{f:α->T}{l:List α}{k:Nat}{x:α}{R:S->Prop}(e:l[k]?=some x):atT (l.map f) (k:Int) R=R (.t (f x)):=
 jN (dE (by rw[List.getElem?_map,e];rfl))
theorem pS (k n:Nat):cL (k:Int) (n+1)=.int k::cL ((k+1:Nat):Int) n:=by
 unfold cL;rw[List.range_succ_eq_map,List.map_cons,List.map_map]
 congr 1
 ·simp;intro a _;omega
theorem tG {g:WG}{wb:WS}{D:dh}{δ:aQ}{n m:Nat}(e:m=n)(I:Nat->aQ->Prop)(h0:I 0 δ)(hend:∀ δ,I n δ->D.nx δ)
  (hstep:∀ k δ,k<n->I k δ->g (.int (k:Int)) δ fun δ1=>wb {nx:=I (k+1),rt:=D.rt,bk:=D.nx,ct:=I (k+1)} δ1):yk g wb (cL 0 m) D δ:=by
 subst e;refine⟨fun ts δ=>∃ k j:Nat,ts=cL (k:Int) j/\k+j=m/\I k δ,⟨0,m,rfl,by omega,h0⟩,?_,?_⟩
 ·rintro δ ⟨k,j,e,hk,h⟩
  cases j with
  | zero=>exact hend δ (by rw[Nat.add_zero]at hk;rw[<-hk];exact h)
  | succ j=>rw[pS]at e;cases e
 ·rintro x r δ ⟨k,j,e,hk,h⟩
  cases j with
  | zero=>cases e
  | succ j=>
   rw[pS]at e;obtain⟨rfl,rfl⟩:=List.cons.inj e;have q:=hstep k δ (by omega) h
   have z:I (k+1)=fun δ=>∃ k' j':Nat,cL ((k+1:Nat):Int) j=cL (k':Int) j'/\k'+j'=m/\I k' δ:=by
    funext δ'
    refine propext ⟨fun hi=>⟨k+1,j,rfl,by omega,hi⟩,?_⟩
    rintro⟨k',j',e',hk',hi⟩;have:=congrArg List.length e';rw[ky,ky]at this;have:k'=k+1:=by omega
    rw[<-this];exact hi
   show g _ δ fun δ1=>wb {nx:=fun δ=>∃ k' j':Nat,cL ((k+1:Nat):Int) j=cL (k':Int) j'/\k'+j'=m/\I k' δ,rt:=D.rt,bk:=D.nx,ct:=fun δ=>∃ k' j':Nat,cL ((k+1:Nat):Int) j=cL (k':Int) j'/\k'+j'=m/\I k' δ} δ1;rw[<-z];exact q
theorem Kr {i:Nat}{δ:aQ}{N:aQ->Prop}{vs:List Int}{x:Int}{j:Nat}(h:j<vs.length):DE i δ N (vs.map .int) (.t (.int x)) (.t (.int (j:Int)))=N (δ.set i (some (.ol ((vs.set j x).map .int)))):=by
 have:yv (vs.map T.int).length (j:Int)=some j:=by unfold yv;rw[if_pos (by omega),if_pos (by rw[List.length_map];omega)];rfl
 show(match yv _ _ with|some j=>_|none=>False)=_
 rw[this,List.map_set]
abbrev big:Int:=1000000000000000000000000000000000000000000000000000000000007
theorem mx:(0:Int)<big:=by decide
def sI (x:Int):Prop:=-1000000000000000000<=x/\x<=1000000000000000000
theorem Aq {x:Int}(h:sI x):Sz 60 x:=by unfold sI at h;exact Sz.of (by omega) (by omega)
def dH:aR:=fun ss R=>∃ (ns:List Int) (m:Nat),ss=[.t (.lst (ns.map .int)),.t (.int (m:Int))]/\ns.length<=63/\0<m/\m<=100/\∀ vs:List Int,vs.length=m->(∀ v∈vs,0<=v/\v<big)->R (.ol (vs.map .int))
def fH:aR:=fun ss R=>∃ n b k:Int,ss=[.t (.int n),.t (.int b),.t (.int k)]/\b=5/\0<=k/\k<1000/\∀ v:Int,R (.t (.int v))
def eP:aR:=fun ss R=>∃ (hd:List Int) (m:Int),ss=[.t (.lst (hd.map .int)),.t (.int m)]/\4+m<=hd.length/\(∀ v∈hd,0<=v/\v<big)/\1<=m/\m<=8/\∀ ps:List Pt,ps.length=m.toNat->(∀ p∈ps,sI p.1/\sI p.2)->R (.ol (ps.map bt))
def bK:aR:=fun ss R=>∃ a b:Int,ss=[.t (.int a),.t (.int b)]/\0<b/\Sz 900000 a/\Sz 9000 b/\R (.t (ym (ml a b)))
def bV:aR:=fun ss R=>∃ (vs:List Pt) (w:Pt),ss=[.t (.lst (vs.map bt)),.t (bt w)]/\vs.length<=1000/\(∀ v∈vs,SzF 500000 v)/\SzF 500000 w/\R (.t (.int (ck vs w)))
def jK (s:bJ)(ps:List Pt):List Pt:=ps.map (jA (aI s))
def cI:aR:=fun ss R=>∃ (ps:List Pt) (s:bJ),ss=[.t (.lst (ps.map bt)),.t (spT s)]/\ps.length<=1000/\(∀ p∈ps,SzF 120 p)/\uS 200000 s/\R (.t (.int (pz (ps.map (jA (aI s))))))
def fk:aR:=fun ss R=>∃ (ps:List Pt) (n:Int),ss=[.t (.lst (ps.map bt)),.t (.int n)]/\ps≠[]/\ps.length<=1000/\(∀ p∈ps,SzF 100 p)/\∀ s:bJ,oC s->uS 119 s->R (.t (spT s))
def fW:WS:=
 (aG (aP 2 (fM 1 [] (fN (af (ae 1) ao)) (aS 0) wj (wC (.int 0))))
 (bL (gQ (fN (af (df tz (af (ae 1) (af (df kq (af (df b9 (af (ae 0) ao)) (af (wC (.int 63)) ao))) ao))) ao)) (aS 3) (aG (aP 4 (wC (.int 0)))
 (bL (ft (wB (wg (df b9 (af (ae 0) ao)) (wC (.int 0)))) (aP 4 (ee (au aV (ae 0) (ee (ae 3) (df kq (af (df b9 (af (ae 0) ao)) (af (wC (.int 63)) ao))))) (cm (su (wC (.int 10)) (wC (.int 60))) (wC (.int 7))))) aY)
 (aG (aP 5 (ee (ae 3) (ae 1)))
 (jd 2 (ae 5) (ee (cm (cm (bA (au aV (ae 2) (ae 5)) (wC (.int 48271))) (ae 4)) (bA (ae 3) (ae 3))) (cm (su (wC (.int 10)) (wC (.int 60))) (wC (.int 7)))))))))
 (oq 2)))
def ju:WS:=
 (bL (gQ (fN (af (ae 2) ao)) (aS 3) (aP 0 (dI (ae 0) (ae 1))))
 (bi (ee (ae 0) (ae 1))))
def ig:WS:=
 (aG (aP 2 (gR ao))
 (aG (aP 3 (ee (au aV (ae 0) (wC (.int 0))) (wC (.int 8))))
 (bL (gQ (fN (af (ae 1) ao)) (aS 4) (aG (aP 5 (au aV (ae 0) (cm (wC (.int 4)) (ae 4))))
 (aG (aP 6 (eR (ee (ae 5) (wC (.int 7))) (wC (.int 3))))
 (aG (aP 7 (eR (ee (dI (ae 5) (wC (.int 7))) (wC (.int 7))) (wC (.int 3))))
 (bL (ft (wB (lM (ae 3) (wC (.int 1)))) (aP 7 (eR (bA (wC (.int 2)) (ae 6)) (wC (.int 1)))) aY)
 (bL (ft (wB (lM (ae 3) (wC (.int 2)))) (aP 6 (wC (.int 1))) aY)
 (bL (ft (wB (lM (ae 3) (wC (.int 3)))) (GN 6 7 (af (eR (ee (ae 5) (wC (.int 3))) (wC (.int 1))) (af (eR (ee (dI (ae 5) (wC (.int 3))) (wC (.int 3))) (wC (.int 1))) ao))) aY)
 (bL (ft (wB (wg (ae 3) (wC (.int 5)))) (aG (aP 6 (eR (ee (ae 5) (cm (bA (wC (.int 2)) (su (wC (.int 10)) (wC (.int 18)))) (wC (.int 1)))) (su (wC (.int 10)) (wC (.int 18)))))
 (aP 7 (eR (ee (bA (ae 5) (wC (.int 69621))) (cm (bA (wC (.int 2)) (su (wC (.int 10)) (wC (.int 18)))) (wC (.int 1)))) (su (wC (.int 10)) (wC (.int 18)))))) aY)
 (bL (ft (sv (iw (wB (wg (ae 4) (wC (.int 0)))) (wB (lM (aB fH (af (au aV (ae 0) (wC (.int 1))) (af (wC (.int 5)) (af (ae 4) ao)))) (wC (.int 1)))))) (GO (au aV (ae 2) (eR (ae 4) (wC (.int 1)))) (jL (cq (aS 6) (cq (aS 7) iy)))) aY)
 (h9 2 (dB (af (ae 6) (af (ae 7) ao)))))))))))))
 (oq 2))))
def fe:WS:=
 (aG (aP 2 (aB bB (af (ae 0) (af (ae 1) ao))))
 (bi (dB (af (dI (ae 0) (ae 2)) (af (dI (ae 1) (ae 2)) ao)))))
def cR:WS:=
 (aG (aP 2 (wC (.int 0)))
 (aG (aP 3 (wC (.int 0)))
 (aG (aP 4 (wC (.int 0)))
 (aG (aP 5 (wC (.int 0)))
 (bL (gQ (cu (ae 0)) (aS 6) (aG (aP 7 (eR (bA (au aV (ae 1) (wC (.int 0))) (au aV (ae 6) (wC (.int 1)))) (bA (au aV (ae 1) (wC (.int 1))) (au aV (ae 6) (wC (.int 0))))))
 (aG (aP 8 (cm (bA (au aV (ae 1) (wC (.int 0))) (au aV (ae 6) (wC (.int 0)))) (bA (au aV (ae 1) (wC (.int 1))) (au aV (ae 6) (wC (.int 1))))))
 (bL (ft (wB (wg (ae 7) (wC (.int 0)))) (aP 2 (cm (ae 2) (wC (.int 1)))) aY)
 (bL (ft (wB (sG (ae 7) (wC (.int 0)))) (aP 3 (cm (ae 3) (wC (.int 1)))) aY)
 (bL (ft (sv (iw (wB (lM (ae 7) (wC (.int 0)))) (wB (wg (ae 8) (wC (.int 0)))))) (aP 4 (cm (ae 4) (wC (.int 1)))) aY)
 (ft (sv (iw (wB (lM (ae 7) (wC (.int 0)))) (wB (sG (ae 8) (wC (.int 0)))))) (aP 5 (cm (ae 5) (wC (.int 1)))) aY)))))))
 (bi (cm (df kq (af (ae 2) (af (ae 3) ao))) (df kq (af (ae 4) (af (ae 5) ao))))))))))
def jt:WS:=
 (aG (GO (ae 1) (jL (cq (aS 2) (cq (aS 3) iy))))
 (aG (aP 4 (gR ao))
 (bL (gQ (cu (ae 0)) (aS 5) (aG (aP 6 (bA (eR (bA (au aV (ae 5) (wC (.int 0))) (au aV (ae 2) (wC (.int 1)))) (au aV (ae 2) (wC (.int 0)))) (au aV (ae 3) (wC (.int 1)))))
 (h9 4 (dB (af (ae 6) (af (bA (eR (bA (au aV (ae 5) (wC (.int 1))) (au aV (ae 3) (wC (.int 1)))) (au aV (ae 3) (wC (.int 0)))) (au aV (ae 2) (wC (.int 1)))) ao))))))
 (aG (aP 7 (df b9 (af (fM 1 [] (cu (ae 4)) (aS 0) (wB (lM (ae 0) (dB (af (wC (.int 0)) (af (wC (.int 0)) ao))))) (ae 0)) ao)))
 (aG (aP 8 (eR (df b9 (af (ae 0) ao)) (ae 7)))
 (bL (gQ (cu (ae 4)) (aS 9) (ft (wB (zu (ae 9) (dB (af (wC (.int 0)) (af (wC (.int 0)) ao))))) (aP 8 (df kq (af (ae 8) (af (aB bV (af (ae 4) (af (ae 9) ao))) ao)))) aY))
 (bi (cm (ae 7) (ae 8)))))))))
def kW:WS:=
 (aG (aP 2 (ee (ae 1) (wC (.int 5))))
 (aG (aP 3 (au aV (ae 0) (ee (dI (ae 1) (wC (.int 5))) (df b9 (af (ae 0) ao)))))
 (aG (aP 4 (au aV (ae 0) (ee (dI (ae 1) (wC (.int 60))) (df b9 (af (ae 0) ao)))))
 (aG (aP 5 (au aV (ae 0) (ee (dI (ae 1) (wC (.int 720))) (df b9 (af (ae 0) ao)))))
 (aG (ft (wB (lM (ae 2) (wC (.int 0)))) (bi (dB (af (dB (af (au aV (ae 3) (wC (.int 0))) (af (wC (.int 1)) ao))) (af (dB (af (au aV (ae 3) (wC (.int 1))) (af (wC (.int 1)) ao))) ao)))) aY)
 (aG (ft (wB (lM (ae 2) (wC (.int 1)))) (bi (dB (af (aB bK (af (cm (au aV (ae 3) (wC (.int 0))) (au aV (ae 4) (wC (.int 0)))) (af (wC (.int 2)) ao))) (af (aB bK (af (cm (au aV (ae 3) (wC (.int 1))) (au aV (ae 4) (wC (.int 1)))) (af (wC (.int 2)) ao))) ao)))) aY)
 (aG (aP 6 (gR (af (eR (ee (dI (ae 1) (wC (.int 8640))) (wC (.int 7))) (wC (.int 1))) (af (eR (ee (dI (ae 1) (wC (.int 60480))) (wC (.int 7))) (wC (.int 1))) (af (cm (ee (dI (ae 1) (wC (.int 423360))) (wC (.int 7))) (wC (.int 3))) ao)))))
 (bL (ft (wB (lM (ae 2) (wC (.int 2)))) (aG (jd 6 (wC (.int 2)) (wC (.int 0)))
 (jd 6 (wC (.int 1)) (eR (wC (.int 7)) (au aV (ae 6) (wC (.int 0)))))) aY)
 (aG (aP 7 (df vf (af (ae 6) ao)))
 (aG (aP 8 (cm (cm (bA (au aV (ae 6) (wC (.int 0))) (au aV (ae 3) (wC (.int 0)))) (bA (au aV (ae 6) (wC (.int 1))) (au aV (ae 4) (wC (.int 0))))) (bA (au aV (ae 6) (wC (.int 2))) (au aV (ae 5) (wC (.int 0))))))
 (aG (aP 9 (cm (cm (bA (au aV (ae 6) (wC (.int 0))) (au aV (ae 3) (wC (.int 1)))) (bA (au aV (ae 6) (wC (.int 1))) (au aV (ae 4) (wC (.int 1))))) (bA (au aV (ae 6) (wC (.int 2))) (au aV (ae 5) (wC (.int 1))))))
 (bi (dB (af (aB bK (af (ae 8) (af (ae 7) ao))) (af (aB bK (af (ae 9) (af (ae 7) ao))) ao)))))))))))))))
theorem nK:∀ ss R,bK ss R->ss.length=2:=by rintro ss R ⟨a,b,rfl,_⟩;rfl
theorem jW:∀ ss R,bV ss R->ss.length=2:=by rintro ss R ⟨a,b,rfl,_⟩;rfl
theorem t5:∀ ss R,cI ss R->ss.length=2:=by rintro ss R ⟨a,b,rfl,_⟩;rfl
theorem vo:∀ ss R,fk ss R->ss.length=2:=by rintro ss R ⟨a,b,rfl,_⟩;rfl
theorem oX:∀ ss R,dH ss R->ss.length=2:=by rintro ss R ⟨_,_,rfl,_⟩;rfl
theorem t6:∀ ss R,fH ss R->ss.length=3:=by rintro ss R ⟨a,b,c,rfl,_⟩;rfl
theorem rF:∀ ss R,eP ss R->ss.length=2:=by rintro ss R ⟨a,b,rfl,_⟩;rfl
theorem GB {vs:List Int}{P:Int->Prop}{j:Nat}{x:Int}(h:∀ v∈vs,P v)(hx:P x):∀ v∈vs.set j x,P v:=fun v hv=>by
 rcases List.mem_or_eq_of_mem_set hv with z|z
 ·exact h v z
 ·rw[z];exact hx
theorem Gw (m:Nat):(List.range m).map (fun _=>T.int 0)=(List.replicate m (0:Int)).map T.int:=by
 rw[List.map_replicate];exact List.eq_replicate_iff.mpr ⟨by simp,fun b hb=>by simp at hb;exact hb.2.symm⟩
theorem rN:∀ ss R,dH ss R->fW {nx:=fun _=>R (.t .non),rt:=R} (aD ["_law_script","_law_many","_law_found","_law_k","_law_cell","_law_at"] ss):=by
 rintro ss R ⟨ns,m,rfl,hl,m0,m1,h⟩;show fW _ [some (.t (.lst (ns.map .int))),some (.t (.int (m:Int))),none,none,none,none]
 delta fW
 walk_at "db";refine⟨lZ (by omega) (by omega),?_⟩
 rw[Int.toNat_natCast];refine sX (f:=fun k:Nat=>.int (0+(k:Int))) (h:=fun _=>.int 0) (l:=List.range m) (fun δ=>∃ r,δ=[r]) (fun _ _=>rfl) (by rw[List.length_range];omega) ⟨_,rfl⟩ ?_ ?_
 ·rintro k hk δ ⟨r,rfl⟩ Y hY;walk_at "db";exact hY _ ⟨_,rfl⟩
 rw[Gw]
 let I:aQ->Prop:=fun δ=>∃ (vs:List Int) (r3 r4 r5:Option S),δ=[some (.t (.lst (ns.map .int))),some (.t (.int (m:Int))),some (.ol (vs.map .int)),r3,r4,r5]/\vs.length=m/\∀ v∈vs,0<=v/\v<big
 have i0:∀ v∈List.replicate m (0:Int),0<=v/\v<big:=fun v hv=>by
  rw[List.eq_of_mem_replicate hv];decide
 refine⟨I,?_,?_⟩
 ·walk_at "db";simp only[List.length_map];refine⟨lZ (by(repeat' split) <;> omega) (by(repeat' split) <;> omega),tG rfl (fun _=>I) ⟨_,_,_,_,rfl,by simp,i0⟩ (fun _ z=>z) ?_⟩
  rintro k δ hk ⟨vs,r3,r4,r5,rfl,vl,hv⟩;have hk:k<1000:=by revert hk;(repeat' split) <;> omega
  walk_at "db"
  try simp only[List.length_map]
  refine⟨fun δ=>∃ c:Int,δ=[some (.t (.lst (ns.map .int))),some (.t (.int (m:Int))),some (.ol (vs.map .int)),some (.t (.int k)),some (.t (.int c)),r5]/\0<=c/\c<big,?_,?_⟩
  ·walk_at "db"
   try simp only[List.length_map]
   split
   ·rename_i c;have hq:∃ q:Int,(if 63<(ns.length:Int) then (63:Int) else ns.length)=q/\0<q/\q<=ns.length:=⟨_,rfl,by split <;> omega,by split <;> omega⟩
    obtain⟨q,eq,q0,q1⟩:=hq;rw[eq];have f1:=fmod_lo (k:Int) q0;have f2:=fmod_hi (k:Int) q0;walk_at "db";refine⟨by omega,zT f1 (by omega) fun v _=>?_⟩
    walk_at "db";refine⟨Dk (by decide) (by decide) (by decide),by decide,?_⟩
    exact⟨v.fmod big,rfl,fmod_lo v mx,fmod_hi v mx⟩
   ·exact⟨0,rfl,by decide,by decide⟩
  rintro δ ⟨c,rfl,c0,c1⟩;have ea:(k:Int).fmod (m:Int)=((k % m:Nat):Int):=nB k m;have hj:k % m<vs.length:=by rw[vl];exact Nat.mod_lt _ m0
  have ev:vs[k % m]?=some (vs[k % m]'hj):=List.getElem?_eq_getElem _;generalize vs[k % m]'hj=v at ev;walk_at "db";refine⟨by omega,?_⟩
  rw[ea];rw[jO (dE (show(vs.map T.int)[k % m]?=some (.int v) by rw[List.getElem?_map,ev];rfl))]
  walk_at "db";refine⟨Mp (by decide) (by decide),Jx (by omega) (by omega),Dk (by decide) (by decide) (by decide),by decide,?_⟩
  rw[Kr hj];exact⟨_,_,_,_,rfl,by rw[List.length_set];exact vl,GB hv ⟨fmod_lo (n:=big) _ mx,fmod_hi (n:=big) _ mx⟩⟩
 ·rintro δ ⟨vs,r3,r4,r5,rfl,vl,hv⟩;walk_at "db";exact h vs vl hv
theorem vH:∀ ss R,fH ss R->ju {nx:=fun _=>R (.t .non),rt:=R} (aD ["_law_number","_law_base","_law_place","_law_k"] ss):=by
 rintro ss R ⟨n,b,k,rfl,rfl,k0,k1,h⟩;show ju _ [some (.t (.int n)),some (.t (.int 5)),some (.t (.int k)),none]
 delta ju
 walk_at "dl";refine⟨fun δ=>∃ (v:Int) (r:Option S),δ=[some (.t (.int v)),some (.t (.int 5)),some (.t (.int k)),r],?_,?_⟩
 ·walk_at "dl";refine⟨lZ (by omega) (by omega),fun ts δ=>∃ (v:Int) (r:Option S),δ=[some (.t (.int v)),some (.t (.int 5)),some (.t (.int k)),r],⟨_,_,rfl⟩,fun _ q=>q,?_⟩
  rintro t ts δ ⟨v,r,rfl⟩;walk_at "dl";exact⟨Ag (by decide) (by decide +kernel),_,_,rfl⟩
 rintro δ ⟨v,r,rfl⟩;walk_at "dl";exact⟨by decide,h _⟩
theorem wY {hd:List Int}{i:Nat}{R:S->Prop}(hi:i<hd.length)(hb:∀ v∈hd,0<=v/\v<big)(h:∀ v,0<=v->v<big->R (.t (.int v))):atT (hd.map T.int) (i:Int) R:=by
 have e:hd[i]?=some (hd[i]'(by omega)):=List.getElem?_eq_getElem _
 rw[Io e];have:=hb _ (List.mem_of_getElem? e);exact h _ this.1 this.2
theorem qK {hd:List Int}{i:Nat}{R:S->Prop}(hi:i<hd.length)(hb:∀ v∈hd,0<=v/\v<big)(h:∀ v,0<=v->v<big->R (.t (.int v))):wH (hd.map T.int) (i:Int) R:=by
 have e:hd[i]?=some (hd[i]'(by omega)):=List.getElem?_eq_getElem _
 rw[jO (dE (show(hd.map T.int)[i]?=some (.int _) by rw[List.getElem?_map,e];rfl))]
 have:=hb _ (List.mem_of_getElem? e);exact h _ this.1 this.2
theorem Ip {l:List Pt}{k:Nat}{x:Pt}{R:S->Prop}(e:l[k]?=some x):wH (l.map bt) (k:Int) R=R (.t (bt x)):=by
 rw[jO (dE (x:=bt x) (by rw[List.getElem?_map,e];rfl))];rfl
theorem ur:∀ ss R,eP ss R->ig {nx:=fun _=>R (.t .non),rt:=R} (aD ["_law_head","_law_many","_law_found","_law_way","_law_k","_law_number","_law_x","_law_y"] ss):=by
 rintro ss R ⟨hd,m,rfl,hl,hb,m0,m1,h⟩;have dummy:Sz 1 0:=⟨by decide⟩
 show ig _ [some (.t (.lst (hd.map .int))),some (.t (.int m)),none,none,none,none,none,none]
 delta ig
 walk_at "db";refine wY (i:=0) (by omega) hb fun v0 _ _=>?_
 walk_at "gb";generalize v0.fmod 8=way
 let M (n:Nat):aQ->Prop:=fun δ=>∃ (ps:List Pt) (r4 r5 r6 r7:Option S),δ=[some (.t (.lst (hd.map .int))),some (.t (.int m)),some (.ol (ps.map bt)),some (.t (.int way)),r4,r5,r6,r7]/\ps.length=n/\∀ p∈ps,sI p.1/\sI p.2
 refine⟨M m.toNat,?_,?_⟩
 ·walk_at "db";refine⟨lZ (by omega) (by omega),tG rfl M ⟨[],_,_,_,_,rfl,rfl,fun p hp=>by cases hp⟩ (fun _ z=>z) ?_⟩
  rintro k δ hk ⟨ps,r4,r5,r6,r7,rfl,pl,hs⟩;have hk8:k<8:=by omega
  walk_at "db";rw[show(4+(k:Int))=((4+k:Nat):Int) by omega]
  refine wY (i:=4+k) (by omega) hb fun v v0 v1=>?_
  have a1:=fmod_lo v (n:=7) (by decide)
  have a2:=fmod_hi v (n:=7) (by decide)
  have a3:=fmod_lo (v.fdiv 7) (n:=7) (by decide)
  have a4:=fmod_hi (v.fdiv 7) (n:=7) (by decide)
  have b1:=fmod_lo v (n:=3) (by decide)
  have b2:=fmod_hi v (n:=3) (by decide)
  have b3:=fmod_lo (v.fdiv 3) (n:=3) (by decide)
  have b4:=fmod_hi (v.fdiv 3) (n:=3) (by decide)
  have c1:=fmod_lo v (n:=2000000000000000001) (by decide)
  have c2:=fmod_hi v (n:=2000000000000000001) (by decide)
  have c3:=fmod_lo (v*69621) (n:=2000000000000000001) (by decide)
  have c4:=fmod_hi (v*69621) (n:=2000000000000000001) (by decide)
  let N:aQ->Prop:=fun δ=>∃ x y:Int,δ=[some (.t (.lst (hd.map .int))),some (.t (.int m)),some (.ol (ps.map bt)),some (.t (.int way)),some (.t (.int k)),some (.t (.int v)),some (.t (.int x)),some (.t (.int y))]/\sI x/\sI y
  walk_at "gb";refine⟨N,?_,?_⟩
  ·walk_at "gb"
   split
   ·walk_at "gb";exact⟨_,_,rfl,(by unfold sI;omega),(by unfold sI;omega)⟩
   ·exact⟨_,_,rfl,(by unfold sI;omega),(by unfold sI;omega)⟩
  rintro δ ⟨x,y,rfl,sx,sy⟩;walk_at "db";refine⟨N,?_,?_⟩
  ·walk_at "gb"
   split
   ·exact⟨_,_,rfl,(by unfold sI;omega),sy⟩
   ·exact⟨_,_,rfl,sx,sy⟩
  clear sx sy x y;rintro δ ⟨x,y,rfl,sx,sy⟩;walk_at "db";refine⟨N,?_,?_⟩
  ·walk_at "gb"
   split
   ·walk_at "gb";exact⟨_,_,rfl,(by unfold sI;omega),(by unfold sI;omega)⟩
   ·exact⟨_,_,rfl,sx,sy⟩
  clear sx sy x y;rintro δ ⟨x,y,rfl,sx,sy⟩;walk_at "db";refine⟨N,?_,?_⟩
  ·walk_at "gb"
   split
   ·walk_at "gb";exact⟨_,_,rfl,(by unfold sI;omega),(by unfold sI;omega)⟩
   ·exact⟨_,_,rfl,sx,sy⟩
  clear sx sy x y;rintro δ ⟨x,y,rfl,sx,sy⟩;walk_at "db";refine⟨N,?_,?_⟩
  ·walk_at "db";refine⟨fun b=>b=true->0<k,?_,?_⟩
   ·walk_at "db"
    split
    ·refine wY (i:=1) (by omega) hb fun d0 _ _=>?_
     walk_at "db";refine⟨_,5,k,rfl,rfl,by omega,by omega,fun d=>?_⟩
     walk_at "db";intro _;omega
    ·exact fun z=>z.elim
   ·rintro b hb1;walk_at "db"
    split
    ·rename_i hb2;have k0:=hb1 hb2;have e:ps[k-1]?=some (ps[k-1]'(by omega)):=List.getElem?_eq_getElem _
     have hm:=hs _ (List.mem_of_getElem? e);generalize ps[k-1]'(by omega)=q at e hm
     rw[show((k:Int)-1)=((k-1:Nat):Int) by omega,Ip e]
     walk_at "db";exact⟨_,_,rfl,hm.1,hm.2⟩
    ·exact⟨_,_,rfl,sx,sy⟩
  clear sx sy x y;rintro δ ⟨x,y,rfl,sx,sy⟩;walk_at "db";refine⟨by rw[List.length_map,pl];omega,ps++[(x,y)],_,_,_,_,by rw[List.map_append];rfl,by simp[pl],fun q hq=>?_⟩
  rcases List.mem_append.mp hq with z|z
  ·exact hs q z
  ·have z:=List.mem_singleton.mp z;subst z;exact⟨sx,sy⟩
 rintro δ ⟨ps,r4,r5,r6,r7,rfl,pl,hs⟩;walk_at "db";exact h ps pl hs
theorem vg {a b:Int}(hb:0<b):ml a b=(a.fdiv (Int.gcd a b),b.fdiv (Int.gcd a b)):=by
 unfold ml lQ;rw[if_neg (by omega)]
theorem oY:∀ ss R,bK ss R->fe {nx:=fun _=>R (.t .non),rt:=R} (aD ["_law_top","_law_bottom","_law_most"] ss):=by
 rintro ss R ⟨a,b,rfl,hb,sa,sb,h⟩;show fe _ [some (.t (.int a)),some (.t (.int b)),none]
 delta fe
 rw[vg hb]at h;walk_at "dl";refine⟨a,b,rfl,?_⟩;walk_at "dl";have hg:(Int.gcd a b:Int)≠0:=gZ (.inr (by omega))
 have sg:Sz 9000 (Int.gcd a b:Int):=by
  have:=Sz.gcdL (b:=a) sb (by omega)
  rwa [Int.gcd_comm]at this
 exact⟨wM hg sg (by decide),wM hg sg (by decide),h⟩
theorem qI {a b:Int}(hb:0<b):zF (ml a b)/\(ml a b).1*b=a*(ml a b).2:=by
 refine⟨Mc (by omega),?_⟩
 rw[vg hb];have e1:=bT (Int.gcd_dvd_left a b);have e2:=bT (Int.gcd_dvd_right a b);show a.fdiv (Int.gcd a b)*b=a*b.fdiv (Int.gcd a b);generalize (Int.gcd a b:Int)=g at *;generalize hx:a.fdiv g=x at *;generalize hy:b.fdiv g=y at *;rw[<-e1,<-e2];grind
theorem qH {a b:Int}{n:Nat}(hb:0<b)(sa:Sz n a)(sb:Sz n b):SzF n (ml a b):=by
 rw[vg hb];exact⟨sa.fdiv _,sb.fdiv _⟩
theorem kj (p:Pt->Bool)(l:List Pt)(v:Pt):((l++[v]).countP p:Int)=(l.countP p:Int)+(if p v=true then 1 else 0):=by
 rw[List.countP_append,List.countP_cons,List.countP_nil]
 by_cases h:p v=true <;> simp[h]
theorem kD:∀ ss R,bV ss R->cR {nx:=fun _=>R (.t .non),rt:=R} (aD ["_law_ways","_law_way","_law_left","_law_right","_law_forth","_law_back","_law_one","_law_turn_here","_law_same"] ss):=by
 rintro ss R ⟨vs,⟨a,b⟩,rfl,hl,hv,⟨sa,sb⟩,h⟩;dsimp only at sa sb;show cR _ [some (.t (.lst (vs.map bt))),some (.t (.tup [.int a,.int b])),none,none,none,none,none,none,none]
 delta cR
 walk_at "dl"
 let M (pre:List Pt):aQ->Prop:=fun δ=>∃ (r6 r7 r8:Option S),δ=[some (.t (.lst (vs.map bt))),some (.t (.tup [.int a,.int b])),some (.t (.int (pre.countP (lf (a,b))))),some (.t (.int (pre.countP (rg (a,b))))),some (.t (.int (pre.countP (fo (a,b))))),some (.t (.int (pre.countP (ba (a,b))))),r6,r7,r8]
 refine⟨M vs,?_,?_⟩
 ·walk_at "dl";refine⟨fun ts δ=>∃ pre post,vs=pre++post/\ts=post.map bt/\M pre δ,⟨[],vs,rfl,rfl,_,_,_,rfl⟩,?_,?_⟩
  ·rintro δ ⟨pre,post,e1,e2,hM⟩;have:post=[]:=by simpa using e2.symm
   subst this;rw[List.append_nil]at e1;subst e1;exact hM
  ·rintro x r δ ⟨pre,post,e1,e2,r6,r7,r8,rfl⟩
   cases post with
   | nil=>cases e2
   | cons v post=>
    rw[List.map_cons]at e2
    cases e2
    obtain⟨x,y⟩:=v;obtain⟨z1,z2⟩:=hv (x,y) (by rw[e1];simp)
    dsimp only at z1 z2;walk_at "go";have k0:=kj (lf (a,b)) pre (x,y);have k1:=kj (rg (a,b)) pre (x,y);have k2:=kj (fo (a,b)) pre (x,y);have k3:=kj (ba (a,b)) pre (x,y);simp only[lf,rg,fo,ba,decide_eq_true_eq]at k0 k1 k2 k3;have et:gv (a,b) (x,y)=a*y-b*x:=rfl;have ed:bz (a,b) (x,y)=a*x+b*y:=rfl;rw[et]at k0 k1 k2 k3;rw[ed]at k2 k3;generalize a*y-b*x=tu at *;generalize a*x+b*y=sm at *
    let N (c0 c1 c2 c3:Int):aQ->Prop:=fun δ=>δ=[some (.t (.lst (vs.map bt))),some (.t (.tup [.int a,.int b])),some (.t (.int c0)),some (.t (.int c1)),some (.t (.int c2)),some (.t (.int c3)),some (.t (.tup [.int x,.int y])),some (.t (.int tu)),some (.t (.int sm))]
    refine⟨N ((pre++[(x,y)]).countP (lf (a,b))) (pre.countP (rg (a,b))) (pre.countP (fo (a,b))) (pre.countP (ba (a,b))),?_,?_⟩
    ·walk_at "dl"
     split
     ·rename_i hc;show _=_;rw[k0,if_pos hc]
     ·rename_i hc;show _=_;rw[k0,if_neg hc,Int.add_zero]
    rintro δ rfl;walk_at "dl";refine⟨N ((pre++[(x,y)]).countP (lf (a,b))) ((pre++[(x,y)]).countP (rg (a,b))) (pre.countP (fo (a,b))) (pre.countP (ba (a,b))),?_,?_⟩
    ·walk_at "dl"
     split
     ·rename_i hc;show _=_;rw[k1,if_pos hc]
     ·rename_i hc;show _=_;rw[k1,if_neg hc,Int.add_zero]
    rintro δ rfl;walk_at "dl";refine⟨N ((pre++[(x,y)]).countP (lf (a,b))) ((pre++[(x,y)]).countP (rg (a,b))) ((pre++[(x,y)]).countP (fo (a,b))) (pre.countP (ba (a,b))),?_,?_⟩
    ·walk_at "dl";refine⟨fun k=>k=decide (tu=0/\0<sm),?_,?_⟩
     ·walk_at "dl"
      by_cases h1:tu=0 <;> by_cases h2:0<sm <;> simp[h1,h2]
     rintro k rfl;walk_at "dl"
     split
     ·rename_i hc;show _=_;rw[k2,if_pos hc]
     ·rename_i hc;show _=_;rw[k2,if_neg hc,Int.add_zero]
    rintro δ rfl;walk_at "dl";refine⟨fun k=>k=decide (tu=0/\sm<0),?_,?_⟩
    ·walk_at "dl"
     by_cases h1:tu=0 <;> by_cases h2:sm<0 <;> simp[h1,h2]
    rintro k rfl;walk_at "dl"
    split
    ·rename_i hc;refine⟨pre++[(x,y)],post,by rw[e1];simp,rfl,some (.t (.tup [.int x,.int y])),some (.t (.int tu)),some (.t (.int sm)),?_⟩
     rw[k3,if_pos hc]
    ·rename_i hc;refine⟨pre++[(x,y)],post,by rw[e1];simp,rfl,some (.t (.tup [.int x,.int y])),some (.t (.int tu)),some (.t (.int sm)),?_⟩
     rw[k3,if_neg hc,Int.add_zero]
 ·rintro δ ⟨r6,r7,r8,rfl⟩;walk_at "dl";have e:(if (vs.countP (rg (a,b)):Int)<(vs.countP (lf (a,b)):Int) then (vs.countP (rg (a,b)):Int) else (vs.countP (lf (a,b)):Int))+(if (vs.countP (ba (a,b)):Int)<(vs.countP (fo (a,b)):Int) then (vs.countP (ba (a,b)):Int) else (vs.countP (fo (a,b)):Int))=((ck vs (a,b):Nat):Int):=by
   unfold ck;generalize vs.countP (rg (a,b))=k1;generalize vs.countP (lf (a,b))=k2;generalize vs.countP (ba (a,b))=k3;generalize vs.countP (fo (a,b))=k4
   split <;> split <;> omega
  rw[e];exact h
theorem xa (s:bJ)(p:Pt):jA (aI s) p=((p.1*s.1.2-s.1.1)*s.2.2,(p.2*s.2.2-s.2.1)*s.1.2):=by
 unfold jA aI;apply Prod.ext
 ·show p.1*(s.1.2*s.2.2)-s.1.1*s.2.2=(p.1*s.1.2-s.1.1)*s.2.2;grind
 ·show p.2*(s.1.2*s.2.2)-s.2.1*s.1.2=(p.2*s.2.2-s.2.1)*s.1.2;grind
def Hs (vs pre:List Pt)(n:Nat):Prop:=n<=vs.length-vs.countP nul/\(∀ u∈pre,u≠(0,0)->n<=ck vs u)/\(n=vs.length-vs.countP nul\/∃ u∈vs,u≠(0,0)/\n=ck vs u)
theorem DV {s:bJ}{ps:List Pt}(h:uS 200000 s)(hp:∀ p∈ps,SzF 120 p):∀ v∈jK s ps,SzF 500000 v:=fun v hv=>by
 obtain⟨p,hpm,rfl⟩:=List.mem_map.mp hv;rw[xa];have z:=hp p hpm;exact⟨(Sz.mul (Sz.sub (Sz.mul z.1 h.1.2) h.1.1) h.2.2).mono (by decide),(Sz.mul (Sz.sub (Sz.mul z.2 h.2.2) h.2.1) h.1.2).mono (by decide)⟩
theorem vG:∀ ss R,cI ss R->jt {nx:=fun _=>R (.t .non),rt:=R} (aD ["_law_points_here","_law_spot_here","_law_x","_law_y","_law_ways","_law_point","_law_right","_law_there","_law_least","_law_way"] ss):=by
 rintro ss R ⟨ps,s,rfl,hl,hp,hs,h⟩;have hw:=DV hs hp;change R (.t (.int (pz (jK s ps)))) at h;have hwl:(jK s ps).length=ps.length:=by unfold jK;rw[List.length_map]
 have hlw:=xa s;obtain⟨⟨tx,qx⟩,ty,qy⟩:=s;obtain⟨⟨t1,t2⟩,t3,t4⟩:=id hs;dsimp only at t1 t2 t3 t4 hlw;show jt _ [some (.t (.lst (ps.map bt))),some (.t (.tup [.tup [.int tx,.int qx],.tup [.int ty,.int qy]])),none,none,none,none,none,none,none,none]
 delta jt
 walk_at "dl"
 let M (pre:List Pt):aQ->Prop:=fun δ=>∃ (r5 r6:Option S),δ=[some (.t (.lst (ps.map bt))),some (.t (.tup [.tup [.int tx,.int qx],.tup [.int ty,.int qy]])),some (.t (.tup [.int tx,.int qx])),some (.t (.tup [.int ty,.int qy])),some (.ol ((jK ((tx,qx),ty,qy) pre).map bt)),r5,r6,none,none,none]
 refine⟨M ps,?_,?_⟩
 ·walk_at "dl";refine⟨fun ts δ=>∃ pre post,ps=pre++post/\ts=post.map bt/\M pre δ,⟨[],ps,rfl,rfl,_,_,rfl⟩,?_,?_⟩
  ·rintro δ ⟨pre,post,e1,e2,hM⟩;have:post=[]:=by simpa using e2.symm
   subst this;rw[List.append_nil]at e1;subst e1;exact hM
  ·rintro x r δ ⟨pre,post,e1,e2,r5,r6,rfl⟩
   cases post with
   | nil=>cases e2
   | cons v post=>
    rw[List.map_cons]at e2
    cases e2
    obtain⟨x,y⟩:=v;obtain⟨z1,z2⟩:=hp (x,y) (by rw[e1];simp)
    dsimp only at z1 z2;have hpl:pre.length<=1000:=by rw[e1]at hl;simp at hl;omega
    walk_at "go";refine⟨by unfold jK;rw[List.length_map,List.length_map];omega,pre++[(x,y)],post,by rw[e1];simp,rfl,some (.t (.tup [.int x,.int y])),some (.t (.int ((x*qx-tx)*qy))),?_⟩
    have e:(jK ((tx,qx),ty,qy) (pre++[(x,y)])).map bt=(jK ((tx,qx),ty,qy) pre).map bt++[T.tup [.int ((x*qx-tx)*qy),.int ((y*qy-ty)*qx)]]:=by
     unfold jK;rw[List.map_append,List.map_append,show List.map (jA (aI ((tx,qx),ty,qy))) [(x,y)]=[jA (aI ((tx,qx),ty,qy)) (x,y)] from rfl,hlw (x,y)]
     rfl
    rw[e]
 rintro δ ⟨r5,r6,rfl⟩;generalize jK ((tx,qx),ty,qy) ps=vs at *;walk_at "dl";refine dj (f:=bt) (h:=bt) (p:=nul) (l:=vs) (fun δ=>∃ r,δ=[r]) (fun p _=>xr p) (by omega) ⟨_,rfl⟩ ?_ ?_
 ·rintro⟨x,y⟩ hm δ ⟨r,rfl⟩ Y N h1 h2;walk_at "dl"
  split
  ·rename_i hc;exact h1 _ ⟨_,rfl⟩ (by unfold nul;rw[decide_eq_true_eq];exact Prod.ext hc.1 hc.2)
  ·rename_i hc;exact h2 _ ⟨_,rfl⟩ (by unfold nul;rw[decide_eq_false_iff_not];exact fun z=>hc ⟨congrArg Prod.fst z,congrArg Prod.snd z⟩)
 walk_at "dl";rw[List.length_map,List.length_map,<-List.countP_eq_length_filter];have hn:=xk vs;have e0:(ps.length:Int)-(vs.countP nul:Int)=((vs.length-vs.countP nul:Nat):Int):=by omega
 rw[e0]
 let L (pre:List Pt):aQ->Prop:=fun δ=>∃ (n:Nat) (r5 r6 r9:Option S),δ=[some (.t (.lst (ps.map bt))),some (.t (.tup [.tup [.int tx,.int qx],.tup [.int ty,.int qy]])),some (.t (.tup [.int tx,.int qx])),some (.t (.tup [.int ty,.int qy])),some (.t (.lst (vs.map bt))),r5,r6,some (.t (.int (vs.countP nul))),some (.t (.int n)),r9]/\Hs vs pre n
 refine⟨L vs,?_,?_⟩
 ·walk_at "dl";refine⟨fun ts δ=>∃ pre post,vs=pre++post/\ts=post.map bt/\L pre δ,⟨[],vs,rfl,rfl,_,_,_,_,rfl,Nat.le_refl _,fun o ho=>(by cases ho),.inl rfl⟩,?_,?_⟩
  ·rintro δ ⟨pre,post,e1,e2,hM⟩;have:post=[]:=by simpa using e2.symm
   subst this;rw[List.append_nil]at e1;subst e1;exact hM
  ·rintro x r δ ⟨pre,post,e1,e2,n,r5,r6,r9,rfl,l1,l2,l3⟩
   cases post with
   | nil=>cases e2
   | cons v post=>
    rw[List.map_cons]at e2
    cases e2
    have hm:v∈vs:=by rw[e1];simp
    obtain⟨x,y⟩:=v;have hpre:∀ n',(∀ o∈pre++[(x,y)],o≠(0,0)->n'<=ck vs o)↔(∀ o∈pre,o≠(0,0)->n'<=ck vs o)/\((x,y)≠((0,0):Pt)->n'<=ck vs (x,y)):=fun n'=>by
     constructor
     ·exact fun h=>⟨fun o ho=>h o (List.mem_append_left _ ho),h (x,y) (by simp)⟩
     ·rintro⟨h1,h2⟩ o ho
      rcases List.mem_append.mp ho with z|z
      ·exact h1 o z
      ·have z:=List.mem_singleton.mp z;subst z;exact h2
    walk_at "dl"
    split
    ·rename_i hc;have hne:((x,y):Pt)≠(0,0):=fun z=>by
      cases z
      simp at hc
     refine⟨vs,(x,y),rfl,by omega,hw,hw _ hm,?_⟩
     walk_at "dl";refine⟨pre++[(x,y)],post,by rw[e1];simp,rfl,min n (ck vs (x,y)),r5,r6,some (.t (.tup [.int x,.int y])),?_,?_,?_,?_⟩
     ·have e:(if (ck vs (x,y):Int)<(n:Int) then (ck vs (x,y):Int) else (n:Int))=((min n (ck vs (x,y)):Nat):Int):=by split <;> omega
      rw[e]
     ·omega
     ·rw[hpre];exact⟨fun o ho h=>Nat.le_trans (Nat.min_le_left _ _) (l2 o ho h),fun _=>Nat.min_le_right _ _⟩
     ·rcases Nat.le_total n (ck vs (x,y)) with z|z
      ·rw[Nat.min_eq_left z];exact l3
      ·rw[Nat.min_eq_right z];exact .inr ⟨(x,y),hm,hne,rfl⟩
    ·rename_i hc;have hz:x=0/\y=0:=by simpa using hc
     exact⟨pre++[(x,y)],post,by rw[e1];simp,rfl,n,_,_,_,rfl,l1,by rw[hpre];exact⟨l2,fun h=>absurd (Prod.ext hz.1 hz.2) h⟩,l3⟩
 rintro δ ⟨n,r5,r6,r9,rfl,l1,l2,l3⟩;walk_at "dl";have e:=count_is l1 l2 l3;rw[e]at h;have e2:((vs.countP nul+n:Nat):Int)=(vs.countP nul:Int)+(n:Int):=by omega
 rw[e2]at h;exact h
theorem ML (i:Nat)(δ:aQ)(N:aQ->Prop)(a b c x:T):DE i δ N [a,b,c] (.t x) (.t (.int 1))=N (δ.set i (some (.ol [a,x,c]))):=rfl
theorem MM (i:Nat)(δ:aQ)(N:aQ->Prop)(a b c x:T):DE i δ N [a,b,c] (.t x) (.t (.int 2))=N (δ.set i (some (.ol [a,b,x]))):=rfl
theorem rX {ps:List Pt}{i:Int}{R:S->Prop}(h0:0<=i)(h1:i<ps.length)(h:∀ p∈ps,R (.t (bt p))):atT (ps.map bt) i R:=wG h0 (by rw[List.length_map];exact h1) fun x hx=>by
 obtain⟨p,hp,rfl⟩:=List.mem_map.mp hx;exact h p hp
theorem yS:∀ ss R,fk ss R->kW {nx:=fun _=>R (.t .non),rt:=R} (aD ["_law_points_here","_law_number","_law_way","_law_one","_law_other","_law_third","_law_by","_law_total","_law_x","_law_y"] ss):=by
 rintro ss R ⟨ps,n,rfl,hne,hl,hp,h⟩;have dummy:Sz 1 0:=⟨by decide⟩
 have hlen:0<ps.length:=List.length_pos_iff.mpr hne;show kW _ [some (.t (.lst (ps.map bt))),some (.t (.int n)),none,none,none,none,none,none,none,none]
 delta kW
 have hq:0<(ps.length:Int):=by omega
 have f1:=fmod_lo (n.fdiv 5) hq;have f2:=fmod_hi (n.fdiv 5) hq;have f3:=fmod_lo (n.fdiv 60) hq;have f4:=fmod_hi (n.fdiv 60) hq;have f5:=fmod_lo (n.fdiv 720) hq;have f6:=fmod_hi (n.fdiv 720) hq;have g1:=fmod_lo (n.fdiv 8640) (n:=7) (by decide)
 have g2:=fmod_hi (n.fdiv 8640) (n:=7) (by decide)
 have g3:=fmod_lo (n.fdiv 60480) (n:=7) (by decide)
 have g4:=fmod_hi (n.fdiv 60480) (n:=7) (by decide)
 have g5:=fmod_lo (n.fdiv 423360) (n:=7) (by decide)
 have g6:=fmod_hi (n.fdiv 423360) (n:=7) (by decide)
 have el:((ps.map bt).length:Int)=(ps.length:Int):=by rw[List.length_map]
 walk_at "gb";rw[el];refine rX f1 f2 fun p1 h1=>?_;obtain⟨x1,y1⟩:=p1;obtain⟨u1,v1⟩:=hp _ h1;dsimp only at u1 v1;walk_at "gb";rw[el];refine rX f3 f4 fun p2 h2=>?_;obtain⟨x2,y2⟩:=p2;obtain⟨u2,v2⟩:=hp _ h2;dsimp only at u2 v2;walk_at "gb";rw[el];refine rX f5 f6 fun p3 h3=>?_;obtain⟨x3,y3⟩:=p3;obtain⟨u3,v3⟩:=hp _ h3;dsimp only at u3 v3;have one:Sz 119 (1:Int):=⟨by decide⟩
 have two:Sz 119 (2:Int):=⟨by decide⟩
 walk_at "gb"
 split
 ·exact h ((x1,1),(y1,1)) (DH (x1,y1)) ⟨⟨u1.mono (by decide),one⟩,v1.mono (by decide),one⟩
 split
 ·have sx:=qH (a:=x1+x2) (b:=2) (n:=119) (by decide) ((Sz.add u1 u2).mono (by decide)) two
  have sy:=qH (a:=y1+y2) (b:=2) (n:=119) (by decide) ((Sz.add v1 v2).mono (by decide)) two
  refine⟨x1+x2,2,rfl,by decide,(Sz.add u1 u2).mono (by decide),two.mono (by decide),?_⟩
  walk_at "db";refine⟨y1+y2,2,rfl,by decide,(Sz.add v1 v2).mono (by decide),two.mono (by decide),?_⟩
  walk_at "db";exact h (ml (x1+x2) 2,ml (y1+y2) 2) ⟨(qI (by decide)).1,(qI (by decide)).1⟩ ⟨sx,sy⟩
 generalize (n.fdiv 8640).fmod 7=c0 at *;generalize (n.fdiv 60480).fmod 7=c1 at *;generalize (n.fdiv 423360).fmod 7=c2 at *;walk_at "gb";refine⟨fun δ=>∃ b0 b1 b2:Int,δ=[some (.t (.lst (ps.map bt))),some (.t (.int n)),some (.t (.int (n.fmod 5))),some (.t (.tup [.int x1,.int y1])),some (.t (.tup [.int x2,.int y2])),some (.t (.tup [.int x3,.int y3])),some (.ol [.int b0,.int b1,.int b2]),none,none,none]/\0<b0+b1+b2/\-20<b0/\b0<20/\-20<b1/\b1<20/\-20<b2/\b2<20,?_,?_⟩
 ·walk_at "db"
  split
  ·rw[MM];walk_at "db";rw[ML];exact⟨_,_,_,rfl,by omega,by omega,by omega,by omega,by omega,by omega,by omega⟩
  ·exact⟨_,_,_,rfl,by omega,by omega,by omega,by omega,by omega,by omega,by omega⟩
 rintro δ ⟨b0,b1,b2,rfl,hb,l0,h0,l1,h1',l2,h2'⟩;walk_at "db";show sumK _ ([b0,b1,b2].map T.int);rw[DJ];have es:[b0,b1,b2].sum=b0+b1+b2:=by simp[List.sum];omega
 rw[es];have sb0:Sz 5 b0:=Sz.of (by omega) (by omega)
 have sb1:Sz 5 b1:=Sz.of (by omega) (by omega)
 have sb2:Sz 5 b2:=Sz.of (by omega) (by omega)
 have st:Sz 119 (b0+b1+b2):=Sz.of (by omega) (by omega)
 generalize ht:b0+b1+b2=t at *;walk_at "gb";have tx:Sz 119 (b0*x1+b1*x2+b2*x3):=(Sz.add (Sz.add (Sz.mul sb0 u1) (Sz.mul sb1 u2)) (Sz.mul sb2 u3)).mono (by decide)
 have ty:Sz 119 (b0*y1+b1*y2+b2*y3):=(Sz.add (Sz.add (Sz.mul sb0 v1) (Sz.mul sb1 v2)) (Sz.mul sb2 v3)).mono (by decide)
 refine⟨_,t,rfl,by omega,tx.mono (by decide),st.mono (by decide),?_⟩
 walk_at "db";refine⟨_,t,rfl,by omega,ty.mono (by decide),st.mono (by decide),?_⟩
 walk_at "db";exact h (ml (b0*x1+b1*x2+b2*x3) t,ml (b0*y1+b1*y2+b2*y3) t) ⟨(qI hb).1,(qI hb).1⟩ ⟨qH hb tx st,qH hb ty st⟩
end Law
namespace Law
open L2 DL
def gU (p q:Hf):Int:=p.1*q.1+p.2.1*q.2.1
def bE (p q:Hf):Int:=p.1*q.2.1-p.2.1*q.1
def kg (b o:Hf):Int:=o.2.2*gU b b-gU b o*b.2.2
def jj (b o:Hf):Fr:=if bE b o<0 then (-kg b o,-bE b o) else (kg b o,bE b o)
def Nz (h:Hf):Prop:=h.1≠0\/h.2.1≠0
def K0 (b:Hf)(s:Fr):Int:=b.1*b.2.2*s.2-b.2.1*s.1
def K1 (b:Hf)(s:Fr):Int:=b.2.1*b.2.2*s.2+b.1*s.1
def xy (b:Hf)(s:Fr):Int:=gU b b*s.2
def Gx (b:Hf)(s:Fr):bJ:=(ml (K0 b s) (xy b s),ml (K1 b s) (xy b s))
def Ht (s:Fr):Prop:=0<s.2/\Int.gcd s.1 s.2=1
def KQ (s:bJ):Prop:=Ht s.1/\Ht s.2
theorem rZ {a:Int}(h:a≠0):0<a*a:=by
 rcases Int.lt_or_gt_of_ne h with z|z
 ·exact Int.mul_pos_of_neg_of_neg z z
 ·exact Int.mul_pos z z
theorem DI (a:Int):0<=a*a:=by
 by_cases h:a=0
 ·subst h;decide
 ·exact Int.le_of_lt (rZ h)
theorem mV {b:Hf}(h:Nz b):0<gU b b:=by
 unfold gU
 rcases h with z|z
 ·have:=rZ z;have:=DI b.2.1;omega
 ·have:=rZ z;have:=DI b.1;omega
theorem CQ {c t:Int}(hc:0<c)(h:0<=c*t):0<=t:=by
 rcases Int.lt_or_le t 0 with z|z
 ·have:=Int.mul_neg_of_pos_of_neg hc z;omega
 ·exact z
theorem bN {c t:Int}(hc:0<c)(h:0<c*t):0<t:=by
 rcases Int.lt_or_le 0 t with z|z
 ·exact z
 ·have:=Int.mul_nonpos_of_nonneg_of_nonpos (Int.le_of_lt hc) z;omega
theorem qF {a b:Int}(hb:0<b):Ht (ml a b)/\(ml a b).1*b=a*(ml a b).2:=by
 have hg:(Int.gcd a b:Int)≠0:=gZ (.inr (by omega))
 have hp:0<(Int.gcd a b:Int):=by omega
 have ec:lQ a b=(Int.gcd a b:Int):=by unfold lQ;rw[if_neg (by omega)]
 unfold ml;rw[ec];have e1:=bT (Int.gcd_dvd_left a b);have e2:=bT (Int.gcd_dvd_right a b);have d1:a.fdiv (Int.gcd a b:Int)=a / (Int.gcd a b:Int):=Int.fdiv_eq_ediv_of_nonneg _ (by omega)
 have d2:b.fdiv (Int.gcd a b:Int)=b / (Int.gcd a b:Int):=Int.fdiv_eq_ediv_of_nonneg _ (by omega)
 refine⟨⟨?_,?_⟩,?_⟩
 ·refine bN hp ?_;rw[Int.mul_comm,e2];exact hb
 ·dsimp only;rw[d1,d2,Int.gcd_ediv_gcd_ediv_gcd (by omega)]
 ·dsimp only;have f1:a.fdiv (Int.gcd a b:Int)*b=a.fdiv (Int.gcd a b:Int)*(b.fdiv (Int.gcd a b:Int)*(Int.gcd a b:Int)):=by rw[e2]
  have f2:a*b.fdiv (Int.gcd a b:Int)=a.fdiv (Int.gcd a b:Int)*(Int.gcd a b:Int)*b.fdiv (Int.gcd a b:Int):=by rw[e1]
  rw[f1,f2,Int.mul_comm (b.fdiv _),<-Int.mul_assoc]
theorem Kp {b:Hf}{s:Fr}(hb:Nz b)(hs:0<s.2):KQ (Gx b s):=by
 have:0<xy b s:=Int.mul_pos (mV hb) hs;exact⟨(qF this).1,(qF this).1⟩
theorem GY {b:Hf}{s:Fr}(o:Hf)(hb:Nz b)(hs:0<s.2)(h:kg b o*s.2<=bE b o*s.1):0<=eY o (Gx b s):=by
 have hD:0<xy b s:=Int.mul_pos (mV hb) hs;obtain⟨⟨a1,_⟩,a2⟩:=qF (a:=K0 b s) hD;obtain⟨⟨b1,_⟩,b2⟩:=qF (a:=K1 b s) hD;unfold eY Gx;generalize ml (K0 b s) (xy b s)=X at *;generalize ml (K1 b s) (xy b s)=Y at *;dsimp only;refine CQ hD ?_;have e:xy b s*(o.1*X.1*Y.2+o.2.1*Y.1*X.2-o.2.2*(X.2*Y.2))=(X.2*Y.2)*(bE b o*s.1-kg b o*s.2):=by
  have e1:bE b o*s.1-kg b o*s.2=o.1*K0 b s+o.2.1*K1 b s-o.2.2*xy b s:=by
   unfold bE kg K0 K1 xy gU;grind
  rw[e1];grind
 rw[e];exact Int.mul_nonneg (Int.le_of_lt (Int.mul_pos a1 b1)) (by omega)
theorem lA (h:Hf)(p:bJ):eY h p=h.1*(p.1.1*p.2.2)+h.2.1*(p.2.1*p.1.2)-h.2.2*(p.1.2*p.2.2):=by unfold eY;grind
theorem IB {b f l:Hf}{p:bJ}(hb:Nz b)(hp1:0<p.1.2)(hp2:0<p.2.2)(e1:0<=eY f p)(e2:0<=eY l p)(e3:eY b p<0)(c1:0<bE b f)(c2:bE b l<0)
  (hm:(jj b l).1*(jj b f).2<(jj b f).1*(jj b l).2) :
  0<bE f l/\0<bE l b/\0<f.2.2*bE l b+l.2.2*bE b f+b.2.2*bE f l:=by
 have hn:=mV hb;unfold jj at hm;rw[if_pos c2,if_neg (by omega)]at hm
 dsimp only at hm;have k1:bE l b=-bE b l:=by unfold bE;grind
 have k2:gU b b*(f.2.2*bE l b+l.2.2*bE b f+b.2.2*bE f l)=kg b f*-bE b l+kg b l*bE b f:=by unfold kg bE gU;grind
 have k3:0<f.2.2*bE l b+l.2.2*bE b f+b.2.2*bE f l:=by
  refine bN hn ?_;rw[k2];have:-kg b l*bE b f=-(kg b l*bE b f):=by grind
  omega
 refine⟨?_,by omega,k3⟩
 rcases Int.lt_or_le 0 (bE f l) with z|z
 ·exact z
 exfalso;have hz:0<p.1.2*p.2.2:=Int.mul_pos hp1 hp2;have k4:bE l b*eY f p+bE b f*eY l p+bE f l*eY b p=-((f.2.2*bE l b+l.2.2*bE b f+b.2.2*bE f l)*(p.1.2*p.2.2)):=by
  rw[lA,lA,lA];unfold bE;grind
 have q1:0<=bE l b*eY f p:=Int.mul_nonneg (by omega) e1
 have q2:0<=bE b f*eY l p:=Int.mul_nonneg (by omega) e2
 have q3:0<=bE f l*eY b p:=Int.mul_nonneg_of_nonpos_of_nonpos z (Int.le_of_lt e3);have q4:0<(f.2.2*bE l b+l.2.2*bE b f+b.2.2*bE f l)*(p.1.2*p.2.2):=Int.mul_pos k3 hz;omega
def iT (h:Hf):Int:=(h.1.natAbs:Int)+(h.2.1.natAbs:Int)
theorem nM {h:Hf}(hn:Nz h):0<iT h:=by
 unfold iT
 rcases hn with z|z <;> omega
theorem o6 {n a x y:Int}(hn:0<n)(ha:a<0)(h:n*x=a*y):n*(x.natAbs:Int)=-a*(y.natAbs:Int):=by
 rcases Int.lt_or_le y 0 with z|z
 ·have:0<n*x:=by rw[h];exact Int.mul_pos_of_neg_of_neg ha z
  have:=bN hn this;rw[show(x.natAbs:Int)=x by omega,show(y.natAbs:Int)=-y by omega,h];grind
 ·have:0<=n*-x:=by
   have:n*-x=-a*y:=by rw[Int.mul_neg,h];grind
   rw[this];exact Int.mul_nonneg (by omega) z
  have:=CQ hn this;rw[show(x.natAbs:Int)=-x by omega,show(y.natAbs:Int)=y by omega,Int.mul_neg,h];grind
theorem IA {b o:Hf}{p:bJ}(hb:Nz b)(ho:Nz o)(hp1:0<p.1.2)(hp2:0<p.2.2)(e2:0<=eY o p)(e3:eY b p<0)(c:bE b o=0)(hk:0<kg b o) :
  iT b*o.1+iT o*b.1=0/\iT b*o.2.1+iT o*b.2.1=0/\0<iT b*o.2.2+iT o*b.2.2:=by
 have hn:=mV hb;have hz:0<p.1.2*p.2.2:=Int.mul_pos hp1 hp2;have i1:gU b b*o.1=gU b o*b.1:=by unfold gU;unfold bE at c;grind
 have i2:gU b b*o.2.1=gU b o*b.2.1:=by unfold gU;unfold bE at c;grind
 have neg:gU b o<0:=by
  rcases Int.lt_or_le (gU b o) 0 with z|z
  ·exact z
  exfalso;have k:gU b b*eY o p=gU b o*eY b p-(p.1.2*p.2.2)*kg b o:=by
   rw[lA,lA];have:gU b b*(o.1*(p.1.1*p.2.2)+o.2.1*(p.2.1*p.1.2)-o.2.2*(p.1.2*p.2.2))=(gU b b*o.1)*(p.1.1*p.2.2)+(gU b b*o.2.1)*(p.2.1*p.1.2)-gU b b*o.2.2*(p.1.2*p.2.2):=by grind
   rw[this,i1,i2];unfold kg;grind
  have q1:0<=gU b b*eY o p:=Int.mul_nonneg (by omega) e2
  have q2:gU b o*eY b p<=0:=Int.mul_nonpos_of_nonneg_of_nonpos z (Int.le_of_lt e3);have q3:0<(p.1.2*p.2.2)*kg b o:=Int.mul_pos hz hk;omega
 have j1:=o6 hn neg i1;have j2:=o6 hn neg i2;have jl:gU b b*iT o=-gU b o*iT b:=by unfold iT;rw[Int.mul_add,j1,j2,Int.mul_add]
 have z0:∀ {t:Int},gU b b*t=0->t=0:=fun {t} h=>by
  rcases Int.mul_eq_zero.mp h with z|z
  ·omega
  ·exact z
 refine⟨z0 ?_,z0 ?_,bN hn ?_⟩
 ·have:gU b b*(iT b*o.1+iT o*b.1)=iT b*(gU b b*o.1)+(gU b b*iT o)*b.1:=by grind
  rw[this,i1,jl];grind
 ·have:gU b b*(iT b*o.2.1+iT o*b.2.1)=iT b*(gU b b*o.2.1)+(gU b b*iT o)*b.2.1:=by grind
  rw[this,i2,jl];grind
 ·have:gU b b*(iT b*o.2.2+iT o*b.2.2)=iT b*(gU b b*o.2.2)+(gU b b*iT o)*b.2.2:=by grind
  rw[this,jl];have:iT b*(gU b b*o.2.2) + -gU b o*iT b*b.2.2=iT b*kg b o:=by unfold kg;grind
  rw[this];exact Int.mul_pos (nM hb) hk
def iV (s t:Fr):Prop:=s.1*t.2<=t.1*s.2
theorem lG {s t u:Fr}(ht:0<t.2)(hs:0<s.2)(hu:0<u.2)(h1:iV s t)(h2:iV t u):iV s u:=by
 unfold iV at *;have q1:=Int.mul_le_mul_of_nonneg_right h1 (Int.le_of_lt hu);have q2:=Int.mul_le_mul_of_nonneg_right h2 (Int.le_of_lt hs);have:t.2*(s.1*u.2)<=t.2*(u.1*s.2):=by
  have z1:t.2*(s.1*u.2)=s.1*t.2*u.2:=by grind
  have z2:t.2*(u.1*s.2)=u.1*t.2*s.2:=by grind
  have z3:t.1*s.2*u.2=t.1*u.2*s.2:=by grind
  omega
 exact Int.le_of_mul_le_mul_left this ht
theorem gl {b h:Hf}(c:bE b h≠0):0<(jj b h).2:=by
 unfold jj;split <;> dsimp only <;> omega
abbrev En:=Option (Fr × Nat)
def iB:En->T
 | none=>.non
 | some (s,p)=>.tup [ym s,.int (p:Int)]
structure mh (b:Hf) (hs:List Hf) (f:En):Prop where
 non:f=none->∀ h∈hs,¬ 0<bE b h
 som:∀ s p,f=some (s,p)->(∃ h,hs[p]?=some h/\0<bE b h/\s=jj b h)/\∀ h∈hs,0<bE b h->iV (jj b h) s
structure mS (b:Hf) (hs:List Hf) (f:En):Prop where
 non:f=none->∀ h∈hs,¬ bE b h<0
 som:∀ s p,f=some (s,p)->(∃ h,hs[p]?=some h/\bE b h<0/\s=jj b h)/\∀ h∈hs,bE b h<0->iV s (jj b h)
def fL (f l:En):Fr:=match f,l with
 | some (s,_),_=>s
 | none,some (s,_)=>s
 | none,none=>(0,1)
theorem uz {b:Hf}{hs:List Hf}{f l:En}(F:mh b hs f)(L:mS b hs l):0<(fL f l).2:=by
 unfold fL
 split
 ·obtain⟨⟨h,_,c,rfl⟩,_⟩:=F.som _ _ rfl;exact gl (by omega)
 ·obtain⟨⟨h,_,c,rfl⟩,_⟩:=L.som _ _ rfl;exact gl (by omega)
 ·decide
theorem uY {b:Hf}{hs:List Hf}{f l:En}(hb:Nz b)(F:mh b hs f)(L:mS b hs l)(hm:∀ s p t q,f=some (s,p)->l=some (t,q)->iV s t)(hz:∀ h∈hs,bE b h=0->kg b h<=0) :
  ∀ h∈hs,0<=eY h (Gx b (fL f l)):=by
 intro h hh;have sp:=uz F L;refine GY h hb sp ?_
 rcases Int.lt_trichotomy (bE b h) 0 with c|c|c
 ·
  have key:iV (fL f l) (jj b h):=by
   cases l with
   | none=>exact absurd c (L.non rfl h hh)
   | some tq=>
    obtain⟨t,q⟩:=tq;obtain⟨⟨h',_,c',rfl⟩,g⟩:=L.som _ _ rfl;have g':=g h hh c
    cases f with
    | none=>exact g'
    | some u=>
     obtain⟨s,p⟩:=u;have g2:=hm s p _ q rfl rfl;exact lG (gl (by omega)) sp (gl (by omega)) g2 g'
  unfold iV jj at key;rw[if_pos c]at key;dsimp only at key;grind
 ·rw[c];have:=Int.mul_nonpos_of_nonpos_of_nonneg (hz h hh c) (Int.le_of_lt sp);omega
 ·have key:iV (jj b h) (fL f l):=by
   cases f with
   | none=>exact absurd c (F.non rfl h hh)
   | some u=>
    obtain⟨s,p⟩:=u;exact(F.som _ _ rfl).2 h hh c
  unfold iV jj at key;rw[if_neg (by omega)]at key
  dsimp only at key;grind
theorem yX {b:Hf}{s:Fr}(hb:Nz b)(hs:0<s.2):0<=eY b (Gx b s):=by
 refine GY b hb hs ?_;have:bE b b=0:=by unfold bE;grind
 have e:kg b b=0:=by unfold kg;grind
 rw[this,e];omega
end Law
namespace Law
open L2 DL
theorem ca {α:Type}{f:α->T}{l:List α}{k:Nat}{x:α}{R:S->Prop}(e:l[k]?=some x):atT (l.map f) (k:Int) R=R (.t (f x)):=
 jN (dE (by rw[List.getElem?_map,e];rfl))
theorem n6 (k n:Nat):cL (k:Int) (n+1)=.int k::cL ((k+1:Nat):Int) n:=by
 unfold cL;rw[List.range_succ_eq_map,List.map_cons,List.map_map]
 congr 1
 ·simp;intro a _;omega
theorem tF {g:WG}{wb:WS}{D:dh}{δ:aQ}{n m:Nat}(e:m=n)(I:Nat->aQ->Prop)(h0:I 0 δ)(hend:∀ δ,I n δ->D.nx δ)
  (hstep:∀ k δ,k<n->I k δ->g (.int (k:Int)) δ fun δ1=>wb {nx:=I (k+1),rt:=D.rt,bk:=D.nx,ct:=I (k+1)} δ1):yk g wb (cL 0 m) D δ:=by
 subst e;refine⟨fun ts δ=>∃ k j:Nat,ts=cL (k:Int) j/\k+j=m/\I k δ,⟨0,m,rfl,by omega,h0⟩,?_,?_⟩
 ·rintro δ ⟨k,j,e,hk,h⟩
  cases j with
  | zero=>exact hend δ (by rw[Nat.add_zero]at hk;rw[<-hk];exact h)
  | succ j=>rw[n6]at e;cases e
 ·rintro x r δ ⟨k,j,e,hk,h⟩
  cases j with
  | zero=>cases e
  | succ j=>
   rw[n6]at e;obtain⟨rfl,rfl⟩:=List.cons.inj e;have q:=hstep k δ (by omega) h
   have z:I (k+1)=fun δ=>∃ k' j':Nat,cL ((k+1:Nat):Int) j=cL (k':Int) j'/\k'+j'=m/\I k' δ:=by
    funext δ'
    refine propext ⟨fun hi=>⟨k+1,j,rfl,by omega,hi⟩,?_⟩
    rintro⟨k',j',e',hk',hi⟩;have:=congrArg List.length e';rw[ky,ky]at this;have:k'=k+1:=by omega
    rw[<-this];exact hi
   show g _ δ fun δ1=>wb {nx:=fun δ=>∃ k' j':Nat,cL ((k+1:Nat):Int) j=cL (k':Int) j'/\k'+j'=m/\I k' δ,rt:=D.rt,bk:=D.nx,ct:=fun δ=>∃ k' j':Nat,cL ((k+1:Nat):Int) j=cL (k':Int) j'/\k'+j'=m/\I k' δ} δ1;rw[<-z];exact q
structure KS (A B:Prop) (x:Bool):Prop where
 yes:x=true->A
 no:x=false->B
theorem Hl {A B:Prop}(h:A):KS A B true:=⟨fun _=>h,fun z=>(by cases z)⟩
theorem xD {A B:Prop}(h:B):KS A B false:=⟨fun z=>(by cases z),fun _=>h⟩
theorem DN {A B p:Prop}[Decidable p](h:p->A)(g:¬p->B):KS A B (decide p):=⟨fun z=>h (of_decide_eq_true z),fun z=>g (of_decide_eq_false z)⟩
def eL:aR:=fun ss R=>∃ (a b c d:Int) (r1 r2:List T),ss=[.t (.tup (.int a::.int b::r1)),.t (.tup (.int c::.int d::r2))]/\Sz 60000 a/\Sz 60000 b/\Sz 60000 c/\Sz 60000 d/\R (.t (.int (a*c+b*d)))
def bM:aR:=fun ss R=>∃ p q:Hf,ss=[.t (aZ p),.t (aZ q)]/\eC 60000 p/\eC 60000 q/\R (.t (.int (bE p q)))
def fC:aR:=fun ss R=>∃ b o:Hf,ss=[.t (aZ b),.t (aZ o)]/\eC 20000 b/\eC 20000 o/\R (.t (.int (kg b o)))
def fK:aR:=fun ss R=>∃ b o:Hf,ss=[.t (aZ b),.t (aZ o)]/\eC 20000 b/\eC 20000 o/\R (.t (ym (jj b o)))
def dY:aR:=fun ss R=>∃ (b:Hf) (s:Fr),ss=[.t (aZ b),.t (ym s)]/\Nz b/\0<s.2/\eC 400 b/\SzF 1500 s/\R (.t (spT (Gx b s)))
def gO:aR:=fun ss R=>∃ (b:Hf) (hs:List Hf),ss=[.t (aZ b),.t (.lst (hs.map aZ))]/\eC 400 b/\(∀ h∈hs,eC 400 h)/\hs.length<=1000/\∀ f l,mh b hs f->mS b hs l->R (.t (.tup [iB f,iB l]))
def KU (b:Hf)(hs:List Hf)(k:Nat):Bool:=match hs[k]? with
 | some h=>decide (bE b h=0) && decide (0<kg b h)
 | none=>false
def EB (b:Hf)(hs:List Hf):List Nat:=(List.range hs.length).filter (KU b hs)
def tM (k:Nat):T:=.int (k:Int)
def ja:aR:=fun ss R=>∃ (b:Hf) (hs:List Hf),ss=[.t (aZ b),.t (.lst (hs.map aZ))]/\eC 400 b/\(∀ h∈hs,eC 400 h)/\hs.length<=1000/\R (.ol ((EB b hs).map tM))
def G9 (s t:Fr):Prop:=s.1*t.2<t.1*s.2
def Ng (n:Nat)(f:En):Prop:=∀ s p,f=some (s,p)->SzF n s
def jb:aR:=fun ss R=>∃ (b:Hf) (hs:List Hf) (f l:En),ss=[.t (aZ b),.t (.lst (hs.map aZ)),.t (.tup [iB f,iB l])]/\eC 400 b/\(∀ h∈hs,eC 400 h)/\hs.length<=1000/\Ng 1500 f/\Ng 1500 l ∧
 (∀ s (p:Nat) t (q:Nat),f=some (s,p)->l=some (t,q)->G9 t s->R (.ol [.int (p:Int),.int (q:Int)])) ∧
 ((∀ s (p:Nat) t (q:Nat),f=some (s,p)->l=some (t,q)->¬ G9 t s)->(∀ (i:Nat) h,hs[i]?=some h->bE b h=0->0<kg b h->R (.ol [.int (i:Int)]))/\((∀ h∈hs,bE b h=0->kg b h<=0)->R (.ol [])))
def cf:aR:=fun ss R=>∃ (b:Hf) (f l:En),ss=[.t (aZ b),.t (.tup [iB f,iB l])]/\Nz b/\eC 400 b/\0<(fL f l).2/\SzF 1500 (fL f l)/\R (.t (spT (Gx b (fL f l))))
def dX:aR:=fun ss R=>∃ ws:List Int,ss=[.t (.lst (ws.map .int))]/\ws≠[]/\ws.length<=1000/\(∀ w∈ws,0<w/\Sz 5000 w)/\∀ (g:Int) (vs:List Int),0<g->vs.map (·*g)=ws->R (.ol (vs.map .int))
def c8:aR:=fun ss R=>(∃ p q:Hf,ss=[.t (.lst ([p,q].map aZ))]/\Nz p/\Nz q/\eC 400 p/\eC 400 q/\∀ g u v:Int,0<g->u*g=iT q->v*g=iT p->R (.ol [.int u,.int v])) ∨
 (∃ p q r:Hf,ss=[.t (.lst ([p,q,r].map aZ))]/\eC 400 p/\eC 400 q/\eC 400 r/\bE q r≠0/\bE r p≠0/\bE p q≠0/\∀ g u v w:Int,0<g->u*g=(bE q r).natAbs->v*g=(bE r p).natAbs->w*g=(bE p q).natAbs->R (.ol [.int u,.int v,.int w]))
def Hz (p q:Hf)(u v:Int):Prop:=u*p.1+v*q.1=0/\u*p.2.1+v*q.2.1=0/\0<u*p.2.2+v*q.2.2
def HA (p q r:Hf)(u v w:Int):Prop:=u*p.1+v*q.1+w*r.1=0/\u*p.2.1+v*q.2.1+w*r.2.1=0/\0<u*p.2.2+v*q.2.2+w*r.2.2
inductive xL (hs:List Hf):List Nat->List Int->Prop
 | two (i j:Nat) (p q:Hf) (u v:Int):i<j->hs[i]?=some p->hs[j]?=some q->0<u->0<v->Hz p q u v->xL hs [i,j] [u,v]
 | three (i j k:Nat) (p q r:Hf) (u v w:Int):i<j->j<k->hs[i]?=some p->hs[j]?=some q->hs[k]?=some r->0<u->0<v->0<w->HA p q r u v w->xL hs [i,j,k] [u,v,w]
def lY (pl:List Nat) (ws:List Int):T:=.tup [.str "none",.lst (pl.map tM),.lst (ws.map .int)]
def cJ:aR:=fun ss R=>∃ (hs:List Hf) (pl:List Nat),ss=[.t (.lst (hs.map aZ)),.t (.lst (pl.map tM))]/\(∀ h∈hs,eC 400 h/\Nz h) ∧
 ((∃ (i j:Nat) (p q:Hf),pl=[i,j]/\hs[i]?=some p/\hs[j]?=some q/\∀ g u v:Int,0<g->u*g=iT q->v*g=iT p->R (.t (lY [i,j] [u,v]))) ∨
 (∃ (i j k:Nat) (p q r:Hf),pl=[i,j,k]/\hs[i]?=some p/\hs[j]?=some q/\hs[k]?=some r/\bE q r≠0/\bE r p≠0/\bE p q≠0/\∀ g u v w:Int,0<g->u*g=(bE q r).natAbs->v*g=(bE r p).natAbs->w*g=(bE p q).natAbs->R (.t (lY [i,j,k] [u,v,w]))))
def dy:aR:=fun ss R=>∃ hs:List Hf,ss=[.t (.lst (hs.map aZ))]/\(∀ h∈hs,eC 400 h/\Nz h)/\hs.length<=1000 ∧
 (∀ s:bJ,KQ s->uS 5000 s->(∀ h∈hs,0<=eY h s)->R (.t (.tup [.str "spot",spT s])))/\∀ pl ws,xL hs pl ws->(∀ w∈ws,Sz 5000 w)->R (.t (lY pl ws))
def mK:WS:=
 (bi (cm (bA (au aV (ae 0) (wC (.int 0))) (au aV (ae 1) (wC (.int 0)))) (bA (au aV (ae 0) (wC (.int 1))) (au aV (ae 1) (wC (.int 1))))))
def kS:WS:=
 (bi (eR (bA (au aV (ae 0) (wC (.int 0))) (au aV (ae 1) (wC (.int 1)))) (bA (au aV (ae 0) (wC (.int 1))) (au aV (ae 1) (wC (.int 0))))))
def mM:WS:=
 (bi (eR (bA (au aV (ae 1) (wC (.int 2))) (aB eL (af (ae 0) (af (ae 0) ao)))) (bA (aB eL (af (ae 0) (af (ae 1) ao))) (au aV (ae 0) (wC (.int 2))))))
def jy:WS:=
 (aG (aP 2 (aB fC (af (ae 0) (af (ae 1) ao))))
 (aG (aP 3 (aB bM (af (ae 0) (af (ae 1) ao))))
 (aG (ft (wB (sG (ae 3) (wC (.int 0)))) (bi (dB (af (D0 nw (ae 2)) (af (D0 nw (ae 3)) ao)))) aY)
 (bi (dB (af (ae 2) (af (ae 3) ao)))))))
def jz:WS:=
 (aG (aP 2 (bA (aB eL (af (ae 0) (af (ae 0) ao))) (au aV (ae 1) (wC (.int 1)))))
 (aG (aP 3 (eR (bA (bA (au aV (ae 0) (wC (.int 0))) (au aV (ae 0) (wC (.int 2)))) (au aV (ae 1) (wC (.int 1)))) (bA (au aV (ae 0) (wC (.int 1))) (au aV (ae 1) (wC (.int 0))))))
 (aG (aP 4 (cm (bA (bA (au aV (ae 0) (wC (.int 1))) (au aV (ae 0) (wC (.int 2)))) (au aV (ae 1) (wC (.int 1)))) (bA (au aV (ae 0) (wC (.int 0))) (au aV (ae 1) (wC (.int 0))))))
 (bi (dB (af (aB gP (af (ae 3) (af (ae 2) ao))) (af (aB gP (af (ae 4) (af (ae 2) ao))) ao)))))))
def kX:WS:=
 (aG (aP 2 (wC .non))
 (aG (aP 3 (wC .non))
 (bL (gQ (fN (af (df b9 (af (ae 1) ao)) ao)) (aS 4) (aG (aP 5 (aB bM (af (ae 0) (af (au aV (ae 1) (ae 4)) ao))))
 (aG (aP 6 (aB fK (af (ae 0) (af (au aV (ae 1) (ae 4)) ao))))
 (bL (ft (sv (iw (wB (wg (ae 5) (wC (.int 0)))) (fc (wB (DQ (ae 2))) (wB (aB eM (af (au aV (ae 2) (wC (.int 0))) (af (ae 6) ao))))))) (aP 2 (dB (af (ae 6) (af (ae 4) ao)))) aY)
 (ft (sv (iw (wB (sG (ae 5) (wC (.int 0)))) (fc (wB (DQ (ae 3))) (wB (aB eM (af (ae 6) (af (au aV (ae 3) (wC (.int 0))) ao))))))) (aP 3 (dB (af (ae 6) (af (ae 4) ao)))) aY)))))
 (bi (dB (af (ae 2) (af (ae 3) ao)))))))
def mL:WS:=
 (bi (fM 1 [0,1] (fN (af (df b9 (af (ae 1) ao)) ao)) (aS 0) (iw (wB (lM (aB bM (af (ae 1) (af (au aV (ae 2) (ae 0)) ao))) (wC (.int 0)))) (wB (wg (aB fC (af (ae 1) (af (au aV (ae 2) (ae 0)) ao))) (wC (.int 0))))) (ae 0)))
def mO:WS:=
 (aG (ft (sv (iw (wB (pY (au aV (ae 2) (wC (.int 0))))) (iw (wB (pY (au aV (ae 2) (wC (.int 1))))) (wB (aB eM (af (au aV (au aV (ae 2) (wC (.int 1))) (wC (.int 0))) (af (au aV (au aV (ae 2) (wC (.int 0))) (wC (.int 0))) ao))))))) (bi (gR (af (au aV (au aV (ae 2) (wC (.int 0))) (wC (.int 1))) (af (au aV (au aV (ae 2) (wC (.int 1))) (wC (.int 1))) ao)))) aY)
 (bi (lO (aB ja (af (ae 0) (af (ae 1) ao))) lN (pZ (wC (.int 1))))))
def dJ:WS:=
 (bL (gQ (uG (ae 1)) (aS 2) (ft (wB (pY (ae 2))) (bi (aB dY (af (ae 0) (af (au aV (ae 2) (wC (.int 0))) ao)))) aY))
 (bi (aB dY (af (ae 0) (af (dB (af (wC (.int 0)) (af (wC (.int 1)) ao))) ao)))))
def jw:WS:=
 (aG (aP 1 (wC (.int 0)))
 (bL (gQ (cu (ae 0)) (aS 2) (aP 1 (aB bP (af (ae 1) (af (ae 2) ao)))))
 (bi (fM 1 [1] (cu (ae 0)) (aS 0) wj (dI (ae 0) (ae 1))))))
def cS:WS:=
 (aG (aP 1 (au aV (ae 0) (wC (.int 0))))
 (aG (aP 2 (au aV (ae 0) (wC (.int 1))))
 (aG (ft (wB (lM (df b9 (af (ae 0) ao)) (wC (.int 2)))) (bi (aB dX (af (gR (af (cm (df jR (af (au aV (ae 2) (wC (.int 0))) ao)) (df jR (af (au aV (ae 2) (wC (.int 1))) ao))) (af (cm (df jR (af (au aV (ae 1) (wC (.int 0))) ao)) (df jR (af (au aV (ae 1) (wC (.int 1))) ao))) ao))) ao))) aY)
 (aG (aP 3 (au aV (ae 0) (wC (.int 2))))
 (bi (aB dX (af (gR (af (df jR (af (aB bM (af (ae 2) (af (ae 3) ao))) ao)) (af (df jR (af (aB bM (af (ae 3) (af (ae 1) ao))) ao)) (af (df jR (af (aB bM (af (ae 1) (af (ae 2) ao))) ao)) ao)))) ao)))))))
def cj:WS:=
 (bi (dB (af (wC (.str "none")) (af (ae 1) (af (aB c8 (af (fM 1 [0] (cu (ae 1)) (aS 0) wj (au aV (ae 1) (ae 0))) ao)) ao)))))
def kY:WS:=
 (aG (aP 1 (dB (af (dB (af (wC (.int 0)) (af (wC (.int 1)) ao))) (af (dB (af (wC (.int 0)) (af (wC (.int 1)) ao))) ao))))
 (bL (gQ (fN (af (df b9 (af (ae 0) ao)) ao)) (aS 2) (aG (aP 3 (au aV (ae 0) (ae 2)))
 (ft (wB (sG (aB kN (af (ae 3) (af (ae 1) ao))) (wC (.int 0)))) (aG (aP 4 (lO (ae 0) lN (pZ (ae 2))))
 (aG (aP 5 (aB gO (af (ae 3) (af (ae 4) ao))))
 (aG (aP 6 (aB jb (af (ae 3) (af (ae 4) (af (ae 5) ao)))))
 (aG (ft (wB (wg (df b9 (af (ae 6) ao)) (wC (.int 0)))) (bi (aB cJ (af (ae 0) (af (df nA (af (au yj (ae 6) (gR (af (ae 2) ao))) ao)) ao)))) aY)
 (aP 1 (aB cf (af (ae 3) (af (ae 5) ao)))))))) aY)))
 (bi (dB (af (wC (.str "spot")) (af (ae 1) ao))))))
theorem yy:∀ ss R,eL ss R->ss.length=2:=by rintro ss R ⟨_,_,_,_,_,_,rfl,_⟩;rfl
theorem vm:∀ ss R,bM ss R->ss.length=2:=by rintro ss R ⟨_,_,rfl,_⟩;rfl
theorem yB:∀ ss R,fC ss R->ss.length=2:=by rintro ss R ⟨_,_,rfl,_⟩;rfl
theorem uc:∀ ss R,fK ss R->ss.length=2:=by rintro ss R ⟨_,_,rfl,_⟩;rfl
theorem ud:∀ ss R,dY ss R->ss.length=2:=by rintro ss R ⟨_,_,rfl,_⟩;rfl
theorem vp:∀ ss R,gO ss R->ss.length=2:=by rintro ss R ⟨_,_,rfl,_⟩;rfl
theorem yz:∀ ss R,ja ss R->ss.length=2:=by rintro ss R ⟨_,_,rfl,_⟩;rfl
theorem yD:∀ ss R,jb ss R->ss.length=3:=by rintro ss R ⟨_,_,_,_,rfl,_⟩;rfl
theorem lE:∀ ss R,cf ss R->ss.length=2:=by rintro ss R ⟨_,_,_,rfl,_⟩;rfl
theorem ua:∀ ss R,dX ss R->ss.length=1:=by rintro ss R ⟨_,rfl,_⟩;rfl
theorem mo:∀ ss R,cJ ss R->ss.length=2:=by rintro ss R ⟨_,_,rfl,_⟩;rfl
theorem vq:∀ ss R,dy ss R->ss.length=1:=by rintro ss R ⟨_,rfl,_⟩;rfl
theorem nL:∀ ss R,c8 ss R->ss.length=1:=by
 rintro ss R (⟨_,_,rfl,_⟩|⟨_,_,_,rfl,_⟩) <;> rfl
theorem C1:∀ ss R,eL ss R->mK {nx:=fun _=>R (.t .non),rt:=R} (aD ["one","other"] ss):=by
 rintro ss R ⟨a,b,c,d,r1,r2,rfl,sa,sb,sc,sd,h⟩;show mK _ [some (.t (.tup (.int a::.int b::r1))),some (.t (.tup (.int c::.int d::r2)))]
 delta mK
 walk_at "dl";exact⟨cA sa sc (by decide) (by decide),cA sb sd (by decide) (by decide),h⟩
theorem yQ:∀ ss R,bM ss R->kS {nx:=fun _=>R (.t .non),rt:=R} (aD ["one","other"] ss):=by
 rintro ss R ⟨p,q,rfl,⟨a1,a2,a3⟩,⟨b1,b2,b3⟩,h⟩;show kS _ [some (.t (aZ p)),some (.t (aZ q))]
 delta kS
 walk_at "dl";exact⟨cA a1 b2 (by decide) (by decide),cA a2 b1 (by decide) (by decide),h⟩
theorem mW {n:Nat}{p q:Hf}(hp:eC n p)(hq:eC n q):Sz (n+n+1) (gU p q):=by
 have:=Sz.add (Sz.mul hp.1 hq.1) (Sz.mul hp.2.1 hq.2.1);exact this.mono (by omega)
theorem iI {n:Nat}{p q:Hf}(hp:eC n p)(hq:eC n q):Sz (n+n+1) (bE p q):=by
 have:=Sz.sub (Sz.mul hp.1 hq.2.1) (Sz.mul hp.2.1 hq.1);exact this.mono (by omega)
theorem GW {n:Nat}{p q:Hf}(hp:eC n p)(hq:eC n q):Sz (n+n+n+2) (kg p q):=by
 have:=Sz.sub (Sz.mul hq.2.2 (mW hp hp)) (Sz.mul (mW hp hq) hp.2.2);exact this.mono (by omega)
theorem BU {n:Nat}{p q:Hf}(hp:eC n p)(hq:eC n q):SzF (n+n+n+2) (jj p q):=by
 unfold jj
 split
 ·exact⟨(GW hp hq).neg,(iI hp hq).neg.mono (by omega)⟩
 ·exact⟨GW hp hq,(iI hp hq).mono (by omega)⟩
theorem bh {m n:Nat}{p:Hf}(h:eC m p)(l:m<=n):eC n p:=⟨h.1.mono l,h.2.1.mono l,h.2.2.mono l⟩
theorem eQ {m n:Nat}{p:Fr}(h:SzF m p)(l:m<=n):SzF n p:=⟨h.1.mono l,h.2.mono l⟩
theorem C4:∀ ss R,fC ss R->mM {nx:=fun _=>R (.t .non),rt:=R} (aD ["border","other"] ss):=by
 rintro ss R ⟨b,o,rfl,sb,so,h⟩;have sb':=bh (n:=60000) sb (by decide)
 have so':=bh (n:=60000) so (by decide)
 show mM _ [some (.t (aZ b)),some (.t (aZ o))]
 delta mM
 walk_at "dl";refine⟨_,_,_,_,_,_,rfl,sb'.1,sb'.2.1,sb'.1,sb'.2.1,?_⟩;walk_at "dl";refine⟨cA so.2.2 (mW sb sb) (by decide) (by decide),_,_,_,_,_,_,rfl,sb'.1,sb'.2.1,so'.1,so'.2.1,?_⟩
 walk_at "dl";exact⟨cA (mW sb so) sb.2.2 (by decide) (by decide),h⟩
theorem vM:∀ ss R,fK ss R->jy {nx:=fun _=>R (.t .non),rt:=R} (aD ["border","other","top","bottom"] ss):=by
 rintro ss R ⟨b,o,rfl,sb,so,h⟩;have sb':=bh (n:=60000) sb (by decide)
 have so':=bh (n:=60000) so (by decide)
 show jy _ [some (.t (aZ b)),some (.t (aZ o)),none,none]
 delta jy
 walk_at "dl";refine⟨b,o,rfl,sb,so,?_⟩;walk_at "dl";refine⟨b,o,rfl,sb',so',?_⟩;walk_at "dl";unfold jj at h
 split
 ·rename_i c;rw[if_pos c]at h;exact h
 ·rename_i c;rw[if_neg c]at h;exact h
theorem vN:∀ ss R,dY ss R->jz {nx:=fun _=>R (.t .non),rt:=R} (aD ["border","step","bottom","x","y"] ss):=by
 rintro ss R ⟨b,s,rfl,hb,hs,sb,⟨s1,s2⟩,h⟩;have sb':=bh (n:=60000) sb (by decide)
 have hD:0<xy b s:=Int.mul_pos (mV hb) hs;have sD:Sz 9000 (xy b s):=(Sz.mul (mW sb sb) s2).mono (by decide)
 show jz _ [some (.t (aZ b)),some (.t (ym s)),none,none,none]
 delta jz
 walk_at "dl";refine⟨_,_,_,_,_,_,rfl,sb'.1,sb'.2.1,sb'.1,sb'.2.1,?_⟩;walk_at "dl";refine⟨cA (mW sb sb) s2 (by decide) (by decide),cA sb.1 sb.2.2 (by decide) (by decide),cA (Sz.mul sb.1 sb.2.2) s2 (by decide) (by decide),cA sb.2.1 s1 (by decide) (by decide),cA sb.2.1 sb.2.2 (by decide) (by decide),cA (Sz.mul sb.2.1 sb.2.2) s2 (by decide) (by decide),cA sb.1 s1 (by decide) (by decide),_,_,rfl,by show xy b s≠0;omega,sD,?_⟩
 walk_at "dl";refine⟨_,_,rfl,by show xy b s≠0;omega,sD,?_⟩
 walk_at "dl";exact h
theorem ui (s:Fr):iV s s:=Int.le_refl _
theorem BO (b:Hf):mh b [] none:=⟨fun _ h hh=>(by cases hh),fun s p e=>(by cases e)⟩
theorem BQ (b:Hf):mS b [] none:=⟨fun _ h hh=>(by cases hh),fun s p e=>(by cases e)⟩
theorem wW {α:Type}{l:List α}{x y:α}{p:Nat}(h:l[p]?=some y):(l++[x])[p]?=some y:=by
 have:p<l.length:=by rw[List.getElem?_eq_some_iff]at h;exact h.1
 rw[List.getElem?_append_left this];exact h
theorem yH {b h:Hf}{pre:List Hf}{f:En}(F:mh b pre f)(c:0<bE b h->∃ s p,f=some (s,p)/\iV (jj b h) s):mh b (pre++[h]) f:=by
 refine⟨fun e x hx=>?_,fun s p e=>?_⟩
 ·rcases List.mem_append.mp hx with z|z
  ·exact F.non e x z
  ·simp at z;subst z;intro cc;obtain⟨s,p,e',_⟩:=c cc;rw[e]at e';cases e'
 ·obtain⟨⟨x,h1,h2⟩,g⟩:=F.som s p e;refine⟨⟨x,wW h1,h2⟩,fun y hy cy=>?_⟩
  rcases List.mem_append.mp hy with z|z
  ·exact g y z cy
  ·simp at z;subst z;obtain⟨s',p',e',q⟩:=c cy;rw[e]at e';cases e'
   exact q
theorem BN {b h:Hf}{pre:List Hf}{f:En}(F:mh b pre f)(c:0<bE b h)(lt:∀ s p,f=some (s,p)->iV s (jj b h)):mh b (pre++[h]) (some (jj b h,pre.length)):=by
 refine⟨fun e=>(by cases e),fun s p e=>?_⟩
 cases e
 refine⟨⟨h,by simp,c,rfl⟩,fun y hy cy=>?_⟩
 rcases List.mem_append.mp hy with z|z
 ·cases f with
  | none=>exact absurd cy (F.non rfl y z)
  | some u=>
   obtain⟨s,p⟩:=u;obtain⟨⟨x,_,cx,rfl⟩,g⟩:=F.som _ _ rfl;exact lG (gl (by omega)) (gl (by omega)) (gl (by omega)) (g y z cy) (lt _ _ rfl)
 ·simp at z;subst z;exact ui _
theorem yI {b h:Hf}{pre:List Hf}{f:En}(F:mS b pre f)(c:bE b h<0->∃ s p,f=some (s,p)/\iV s (jj b h)):mS b (pre++[h]) f:=by
 refine⟨fun e x hx=>?_,fun s p e=>?_⟩
 ·rcases List.mem_append.mp hx with z|z
  ·exact F.non e x z
  ·simp at z;subst z;intro cc;obtain⟨s,p,e',_⟩:=c cc;rw[e]at e';cases e'
 ·obtain⟨⟨x,h1,h2⟩,g⟩:=F.som s p e;refine⟨⟨x,wW h1,h2⟩,fun y hy cy=>?_⟩
  rcases List.mem_append.mp hy with z|z
  ·exact g y z cy
  ·simp at z;subst z;obtain⟨s',p',e',q⟩:=c cy;rw[e]at e';cases e'
   exact q
theorem BP {b h:Hf}{pre:List Hf}{f:En}(F:mS b pre f)(c:bE b h<0)(lt:∀ s p,f=some (s,p)->iV (jj b h) s):mS b (pre++[h]) (some (jj b h,pre.length)):=by
 refine⟨fun e=>(by cases e),fun s p e=>?_⟩
 cases e
 refine⟨⟨h,by simp,c,rfl⟩,fun y hy cy=>?_⟩
 rcases List.mem_append.mp hy with z|z
 ·cases f with
  | none=>exact absurd cy (F.non rfl y z)
  | some u=>
   obtain⟨s,p⟩:=u;obtain⟨⟨x,_,cx,rfl⟩,g⟩:=F.som _ _ rfl;exact lG (gl (by omega)) (gl (by omega)) (gl (by omega)) (lt _ _ rfl) (g y z cy)
 ·simp at z;subst z;exact ui _
theorem vw {b:Hf}{hs:List Hf}(sb:eC 400 b)(sh:∀ h∈hs,eC 400 h){f:En}(F:mh b hs f):Ng 1500 f:=fun s p e=>by
 obtain⟨⟨x,h1,_,rfl⟩,_⟩:=F.som s p e;exact eQ (BU sb (sh x (List.mem_of_getElem? h1))) (by decide)
theorem rH {b:Hf}{hs:List Hf}(sb:eC 400 b)(sh:∀ h∈hs,eC 400 h){f:En}(F:mS b hs f):Ng 1500 f:=fun s p e=>by
 obtain⟨⟨x,h1,_,rfl⟩,_⟩:=F.som s p e;exact eQ (BU sb (sh x (List.mem_of_getElem? h1))) (by decide)
theorem fq {α:Type}{l:List α}{k:Nat}{x:α}(e:l[k]?=some x):l.take (k+1)=l.take k++[x]:=by
 rw[List.take_succ,e];rfl
theorem yT:∀ ss R,gO ss R->kX {nx:=fun _=>R (.t .non),rt:=R} (aD ["border","halves","first","last","place","facing","step"] ss):=by
 rintro ss R ⟨b,hs,rfl,sb,sh,hl,h⟩;have sb6:=bh (n:=60000) sb (by decide)
 have sb2:=bh (n:=20000) sb (by decide)
 show kX _ [some (.t (aZ b)),some (.t (.lst (hs.map aZ))),none,none,none,none,none]
 delta kX
 walk_at "dl"
 let I (k:Nat):aQ->Prop:=fun δ=>∃ (f l:En) (r4 r5 r6:Option S),δ=[some (.t (aZ b)),some (.t (.lst (hs.map aZ))),some (.t (iB f)),some (.t (iB l)),r4,r5,r6]/\mh b (hs.take k) f/\mS b (hs.take k) l
 refine⟨I hs.length,⟨lZ (by omega) (by rw[List.length_map];omega),tF (n:=hs.length) (by rw[List.length_map,Int.toNat_natCast]) I ⟨none,none,_,_,_,rfl,BO b,BQ b⟩ (fun _ z=>z) ?_⟩,?_⟩
 ·rintro k δ hk ⟨f,l,r4,r5,r6,rfl,F,L⟩;have e:hs[k]?=some hs[k]:=List.getElem?_eq_getElem hk;have tk:(hs.take k).length=k:=by rw[List.length_take];omega
  generalize hs[k]=h at e;have s4:=sh h (List.mem_of_getElem? e);have mz:=BU sb s4;have fz:=vw sb (fun x hx=>sh x (List.mem_of_mem_take hx)) F;have lz:=rH sb (fun x hx=>sh x (List.mem_of_mem_take hx)) L;walk_at "dl";rw[ca e];walk_at "dl";refine⟨b,h,rfl,sb6,bh s4 (by decide),?_⟩
  walk_at "dl";rw[ca e];walk_at "dl";refine⟨b,h,rfl,sb2,bh s4 (by decide),?_⟩
  walk_at "dl";refine⟨fun δ=>∃ f':En,δ=[some (.t (aZ b)),some (.t (.lst (hs.map aZ))),some (.t (iB f')),some (.t (iB l)),some (.t (.int k)),some (.t (.int (bE b h))),some (.t (ym (jj b h)))]/\mh b (hs.take (k+1)) f',?_,?_⟩
  ·walk_at "dl";refine⟨KS (0<bE b h/\∀ s p,f=some (s,p)->G9 s (jj b h)) (0<bE b h->∃ s p,f=some (s,p)/\¬ G9 s (jj b h)),?_,?_⟩
   ·walk_at "dl"
    split
    ·rename_i c
     rcases f with _|⟨s,p⟩
     ·unfold iB;walk_at "dl";exact Hl ⟨c,fun _ _ z=>by cases z⟩
     ·unfold iB;walk_at "dl";refine⟨s,jj b h,rfl,eQ (fz s p rfl) (by decide),eQ mz (by decide),?_⟩
      walk_at "dl";exact DN (fun z=>⟨c,fun s' p' q=>by cases q;exact z⟩) fun z _=>⟨s,p,rfl,z⟩
    ·rename_i c;exact xD fun z=>absurd z c
   rintro x ⟨x1,x2⟩
   cases x with
   | true=>
    obtain⟨c,g⟩:=x1 rfl;walk_at "dl";refine⟨some (jj b h,k),rfl,?_⟩;rw[fq e];have:=BN (h:=h) F c fun s p q=>Int.le_of_lt (g s p q);rw[tk]at this;exact this
   | false=>
    walk_at "dl";refine⟨f,rfl,?_⟩;rw[fq e];refine yH F fun c=>?_;obtain⟨s,p,q1,q2⟩:=x2 rfl c;exact⟨s,p,q1,Int.not_lt.mp q2⟩
  ·rintro δ ⟨f',rfl,F'⟩;walk_at "dl";refine⟨KS (bE b h<0/\∀ s p,l=some (s,p)->G9 (jj b h) s) (bE b h<0->∃ s p,l=some (s,p)/\¬ G9 (jj b h) s),?_,?_⟩
   ·walk_at "dl"
    split
    ·rename_i c
     rcases l with _|⟨s,p⟩
     ·unfold iB;walk_at "dl";exact Hl ⟨c,fun _ _ z=>by cases z⟩
     ·unfold iB;walk_at "dl";refine⟨jj b h,s,rfl,eQ mz (by decide),eQ (lz s p rfl) (by decide),?_⟩
      walk_at "dl";exact DN (fun z=>⟨c,fun s' p' q=>by cases q;exact z⟩) fun z _=>⟨s,p,rfl,z⟩
    ·rename_i c;exact xD fun z=>absurd z c
   rintro x ⟨x1,x2⟩
   cases x with
   | true=>
    obtain⟨c,g⟩:=x1 rfl;walk_at "dl";refine⟨f',some (jj b h,k),_,_,_,rfl,F',?_⟩;rw[fq e];have:=BP (h:=h) L c fun s p q=>Int.le_of_lt (g s p q);rw[tk]at this;exact this
   | false=>
    walk_at "dl";refine⟨f',l,_,_,_,rfl,F',?_⟩;rw[fq e];refine yI L fun c=>?_;obtain⟨s,p,q1,q2⟩:=x2 rfl c;exact⟨s,p,q1,Int.not_lt.mp q2⟩
 ·rintro δ ⟨f,l,r4,r5,r6,rfl,F,L⟩;rw[List.take_length]at F L;walk_at "dl";exact h f l F L
theorem EC {b:Hf}{hs:List Hf}{k:Nat}(h:k∈EB b hs):∃ x,hs[k]?=some x/\bE b x=0/\0<kg b x:=by
 unfold EB at h;have:=(List.mem_filter.mp h).2;unfold KU at this
 split at this
 ·rename_i x hx;simp at this;exact⟨x,hx,this.1,this.2⟩
 ·cases this
theorem ED {b:Hf}{hs:List Hf}(h:EB b hs=[]):∀ x∈hs,bE b x=0->kg b x<=0:=by
 intro x hx c;obtain⟨k,hk,rfl⟩:=List.getElem_of_mem hx
 rcases Int.lt_or_le 0 (kg b hs[k]) with z|z
 ·exfalso;have:k∈EB b hs:=by
   unfold EB;refine List.mem_filter.mpr ⟨List.mem_range.mpr hk,?_⟩;unfold KU;rw[List.getElem?_eq_getElem hk];simp[c,z]
  rw[h]at this;cases this
 ·exact z
theorem C3:∀ ss R,ja ss R->mL {nx:=fun _=>R (.t .non),rt:=R} (aD ["border","halves"] ss):=by
 rintro ss R ⟨b,hs,rfl,sb,sh,hl,h⟩;show mL _ [some (.t (aZ b)),some (.t (.lst (hs.map aZ)))]
 delta mL
 walk_at "dl";refine⟨lZ (by omega) (by rw[List.length_map];omega),?_⟩
 rw[List.length_map,Int.toNat_natCast];refine dj (f:=fun k:Nat=>.int (0+(k:Int))) (h:=tM) (p:=KU b hs) (l:=List.range hs.length) (fun δ=>∃ r,δ=[r,some (.t (aZ b)),some (.t (.lst (hs.map aZ)))]) (fun _ _=>rfl) (by rw[List.length_range];omega) ⟨_,rfl⟩ ?_ ?_
 ·rintro k hk δ ⟨r,rfl⟩ Y N hY hN;have e:hs[k]?=some (hs[k]'(List.mem_range.mp hk)):=List.getElem?_eq_getElem _;generalize hs[k]'(List.mem_range.mp hk)=x at e;have s4:=sh x (List.mem_of_getElem? e);have ep:KU b hs k=(decide (bE b x=0) && decide (0<kg b x)):=by unfold KU;rw[e]
  rw[Int.zero_add];walk_at "dl";rw[ca e];walk_at "dl";refine⟨b,x,rfl,bh sb (by decide),bh s4 (by decide),?_⟩
  walk_at "dl"
  split
  ·rename_i c;rw[ca e];walk_at "dl";refine⟨b,x,rfl,bh sb (by decide),bh s4 (by decide),?_⟩
   walk_at "dl"
   split
   ·rename_i c2;exact hY _ ⟨_,rfl⟩ (by rw[ep];simp[c,c2])
   ·rename_i c2;exact hN _ ⟨_,rfl⟩ (by rw[ep];simp[c2])
  ·rename_i c;exact hN _ ⟨_,rfl⟩ (by rw[ep];simp[c])
 ·exact h
theorem Ad {α:Type}{f:α->T}(l:List α)(k:Nat):lr (l.map f) none (some (k:Int))=(l.take k).map f:=by
 unfold lr;rw[HT.sIx_nat,HT.sIx_none,List.drop_zero,Nat.sub_zero,List.length_map,List.map_take]
 rcases Nat.le_total k l.length with z|z
 ·rw[Nat.min_eq_left z]
 ·rw[Nat.min_eq_right z,List.take_of_length_le (by simp),List.take_of_length_le (by simpa using z)]
theorem C6:∀ ss R,jb ss R->mO {nx:=fun _=>R (.t .non),rt:=R} (aD ["border","halves","ends"] ss):=by
 rintro ss R ⟨b,hs,f,l,rfl,sb,sh,hl,sf,sl,hA,hB⟩;show mO _ [some (.t (aZ b)),some (.t (.lst (hs.map aZ))),some (.t (.tup [iB f,iB l]))]
 delta mO
 walk_at "dl";refine⟨KS (∃ s p t q,f=some (s,p)/\l=some (t,q)/\G9 t s) (∀ s p t q,f=some (s,p)->l=some (t,q)->¬ G9 t s),?_,?_⟩
 ·rcases f with _|⟨s,p⟩
  ·unfold iB;walk_at "dl";exact xD fun s p t q z=>by cases z
  ·rcases l with _|⟨t,q⟩
   ·unfold iB;walk_at "dl";exact xD fun s p t q _ z=>by cases z
   ·unfold iB;walk_at "dl";refine⟨t,s,rfl,eQ (sl t q rfl) (by decide),eQ (sf s p rfl) (by decide),?_⟩
    walk_at "dl";refine DN (fun z=>⟨s,p,t,q,rfl,rfl,z⟩) fun z s' p' t' q' e1 e2=>?_
    cases e1;cases e2
    exact z
 ·rintro x ⟨x1,x2⟩
  cases x with
  | true=>
   obtain⟨s,p,t,q,rfl,rfl,lt⟩:=x1 rfl;unfold iB;walk_at "dl";exact hA s p t q rfl rfl lt
  | false=>
   have nc:=x2 rfl;obtain⟨h1,h2⟩:=hB nc;walk_at "dl";refine⟨b,hs,rfl,sb,sh,hl,?_⟩;dsimp only;rw[show got (.ol ((EB b hs).map tM))=.ol ((EB b hs).map tM) from if_pos (c6 (fun _=>rfl) _)];walk_at "dl";rw[show(1:Int)=((1:Nat):Int) from rfl,Ad]
   cases e:EB b hs with
   | nil=>
    exact h2 (ED e)
   | cons k r=>
    obtain⟨x,e1,e2,e3⟩:=EC (b:=b) (hs:=hs) (k:=k) (by rw[e];simp)
    exact h1 k x e1 e2 e3
theorem mq:∀ ss R,cf ss R->dJ {nx:=fun _=>R (.t .non),rt:=R} (aD ["border","ends","end"] ss):=by
 rintro ss R ⟨b,f,l,rfl,hb,sb,hp,sp,h⟩;show dJ _ [some (.t (aZ b)),some (.t (.tup [iB f,iB l])),none]
 delta dJ
 walk_at "dl";refine⟨fun δ=>δ=[some (.t (aZ b)),some (.t (.tup [.non,.non])),some (.t .non)]/\f=none/\l=none,ku ?_,?_⟩
 ·unfold jS jS jS
  rcases f with _|⟨s,p⟩
  ·rcases l with _|⟨t,q⟩
   ·unfold iB;walk_at "dl"
   ·unfold iB;walk_at "dl";refine⟨b,t,rfl,hb,hp,sb,sp,?_⟩;walk_at "dl";exact h
  ·unfold iB;walk_at "dl";refine⟨b,s,rfl,hb,hp,sb,sp,?_⟩;walk_at "dl";exact h
 ·rintro δ ⟨rfl,rfl,rfl⟩;walk_at "dl";refine⟨b,(0,1),rfl,hb,hp,sb,sp,?_⟩;walk_at "dl";exact h
theorem vK:∀ ss R,dX ss R->jw {nx:=fun _=>R (.t .non),rt:=R} (aD ["weights","common","weight"] ss):=by
 rintro ss R ⟨ws,rfl,hne,hl,hw,h⟩;show jw _ [some (.t (.lst (ws.map .int))),none,none]
 delta jw
 walk_at "dl";refine⟨fun δ=>∃ (c:Int) (r:Option S),δ=[some (.t (.lst (ws.map .int))),some (.t (.int c)),r]/\0<c/\∀ w∈ws,c ∣ w,⟨fun ts δ=>∃ (pre post:List Int) (c:Int) (r:Option S),ws=pre++post/\ts=post.map .int/\δ=[some (.t (.lst (ws.map .int))),some (.t (.int c)),r]/\(pre≠[]->0<c)/\∀ w∈pre,c ∣ w,⟨[],ws,0,none,rfl,rfl,rfl,fun z=>absurd rfl z,fun w hw=>(by cases hw)⟩,?_,?_⟩,?_⟩
 ·rintro δ ⟨pre,post,c,r,e,e2,rfl,h1,h2⟩
  cases post with
  | cons a b=>cases e2
  | nil=>
   rw[List.append_nil]at e;subst e;exact⟨c,r,rfl,h1 hne,h2⟩
 ·rintro x r δ ⟨pre,post,c,q,e,e2,rfl,h1,h2⟩
  cases post with
  | nil=>cases e2
  | cons a b=>
   obtain⟨rfl,rfl⟩:=List.cons.inj e2;walk_at "dl";refine⟨_,_,rfl,?_⟩;walk_at "dl";have ha:a∈ws:=by rw[e];simp
   refine⟨pre++[a],b,_,_,by rw[e];simp,rfl,rfl,fun _=>?_,fun w hm=>?_⟩
   ·have:=gZ (a:=c) (b:=a) (.inr (by have:=(hw a ha).1;omega))
    omega
   ·rcases List.mem_append.mp hm with z|z
    ·exact Int.dvd_trans (Int.gcd_dvd_left _ _) (h2 w z)
    ·simp at z;subst z;exact Int.gcd_dvd_right _ _
 ·rintro δ ⟨c,r,rfl,hc,hd⟩;walk_at "dl";refine sX (f:=T.int) (h:=fun w=>.int (w.fdiv c)) (l:=ws) (fun δ=>∃ r,δ=[r,some (.t (.int c))]) (fun _ _=>rfl) (by omega) ⟨_,rfl⟩ ?_ ?_
  ·rintro w hm δ ⟨r,rfl⟩ Y hY;walk_at "dl";exact⟨IN (by omega) (hw w hm).2 (by decide),hY _ ⟨_,rfl⟩⟩
  ·have e:ws.map (fun w=>T.int (w.fdiv c))=(ws.map fun w=>w.fdiv c).map .int:=by rw[List.map_map];rfl
   rw[e];refine h c _ hc ?_;rw[List.map_map]
   conv=>rhs;rw[<-List.map_id ws]
   exact List.map_congr_left fun w hm=>bT (hd w hm)
theorem xf {h:Hf}(s:eC 400 h):Sz 5000 (iT h):=by
 have a:Sz 400 (h.1.natAbs:Int):=⟨by have:=s.1.lt;omega⟩
 have b:Sz 400 (h.2.1.natAbs:Int):=⟨by have:=s.2.1.lt;omega⟩
 exact(Sz.add a b).mono (by decide)
theorem gT {n:Nat}{i:Int}(s:Sz n i):Sz n (i.natAbs:Int):=⟨by have:=s.lt;omega⟩
theorem KB {vs:List Int}{g a b:Int}(h:vs.map (·*g)=[a,b]):∃ u v,vs=[u,v]/\u*g=a/\v*g=b:=by
 match vs,h with
 | [u,v],h=>simp at h;exact⟨u,v,rfl,h.1,h.2⟩
theorem DM {vs:List Int}{g a b c:Int}(h:vs.map (·*g)=[a,b,c]):∃ u v w,vs=[u,v,w]/\u*g=a/\v*g=b/\w*g=c:=by
 match vs,h with
 | [u,v,w],h=>simp at h;exact⟨u,v,w,rfl,h.1,h.2.1,h.2.2⟩
theorem oZ:∀ ss R,c8 ss R->cS {nx:=fun _=>R (.t .non),rt:=R} (aD ["chosen","one","other","third"] ss):=by
 rintro ss R (⟨p,q,rfl,np,nq,sp,sq,h⟩|⟨p,q,r,rfl,sp,sq,sr,n1,n2,n3,h⟩)
 ·show cS _ [some (.t (.lst [aZ p,aZ q])),none,none,none]
  delta cS
  walk_at "dl";rw[if_pos (by decide)]
  simp only[ll];refine⟨[iT q,iT p],rfl,by simp,by simp,fun w hw=>?_,fun g vs hg e=>?_⟩
  ·simp at hw
   rcases hw with rfl|rfl
   ·exact⟨nM nq,xf sq⟩
   ·exact⟨nM np,xf sp⟩
  ·obtain⟨u,v,rfl,e1,e2⟩:=KB e;walk_at "dl";exact h g u v hg e1 e2
 ·show cS _ [some (.t (.lst [aZ p,aZ q,aZ r])),none,none,none]
  delta cS
  walk_at "dl";rw[if_neg (by decide)]
  walk_at "dl";refine⟨q,r,rfl,bh sq (by decide),bh sr (by decide),?_⟩
  walk_at "dl";refine⟨r,p,rfl,bh sr (by decide),bh sp (by decide),?_⟩
  walk_at "dl";refine⟨p,q,rfl,bh sp (by decide),bh sq (by decide),?_⟩
  walk_at "dl";simp only[ll];refine⟨[((bE q r).natAbs:Int),((bE r p).natAbs:Int),((bE p q).natAbs:Int)],rfl,by simp,by simp,fun w hw=>?_,fun g vs hg e=>?_⟩
  ·simp only[List.mem_cons,List.not_mem_nil,or_false]at hw
   rcases hw with rfl|rfl|rfl
   ·exact⟨by omega,(gT (iI sq sr)).mono (by decide)⟩
   ·exact⟨by omega,(gT (iI sr sp)).mono (by decide)⟩
   ·exact⟨by omega,(gT (iI sp sq)).mono (by decide)⟩
  ·obtain⟨u,v,w,rfl,e1,e2,e3⟩:=DM e;walk_at "dl";exact h g u v w hg e1 e2 e3
theorem Hm {R:S->Prop}(x y:T)(ts:List T):tupK R [.t x,.t y,.ol ts]=R (.t (.tup [x,y,.lst ts])):=rfl
theorem nR:∀ ss R,cJ ss R->cj {nx:=fun _=>R (.t .non),rt:=R} (aD ["halves","places"] ss):=by
 rintro ss R ⟨hs,pl,rfl,hh,⟨i,j,p,q,rfl,e1,e2,h⟩|⟨i,j,k,p,q,r,rfl,e1,e2,e3,n1,n2,n3,h⟩⟩
 ·have h1:=hh p (List.mem_of_getElem? e1);have h2:=hh q (List.mem_of_getElem? e2);show cj _ [some (.t (.lst (hs.map aZ))),some (.t (.lst [.int (i:Int),.int (j:Int)]))]
  delta cj
  walk_at "dl";refine iG ?_;walk_at "dl";rw[ca e1];walk_at "dl";refine⟨by simp,?_⟩
  rw[ca e2];walk_at "dl";refine⟨by simp,?_⟩
  refine .inl ⟨p,q,rfl,h1.2,h2.2,h1.1,h2.1,fun g u v hg a b=>?_⟩;walk_at "dl";rw[Hm];exact h g u v hg a b
 ·have h1:=hh p (List.mem_of_getElem? e1);have h2:=hh q (List.mem_of_getElem? e2);have h3:=hh r (List.mem_of_getElem? e3);show cj _ [some (.t (.lst (hs.map aZ))),some (.t (.lst [.int (i:Int),.int (j:Int),.int (k:Int)]))]
  delta cj
  walk_at "dl";refine iG ?_;walk_at "dl";rw[ca e1];walk_at "dl";refine⟨by simp,?_⟩
  rw[ca e2];walk_at "dl";refine⟨by simp,?_⟩
  rw[ca e3];walk_at "dl";refine⟨by simp,?_⟩
  refine .inr ⟨p,q,r,rfl,h1.1,h2.1,h3.1,n1,n2,n3,fun g u v w hg a b c=>?_⟩;walk_at "dl";rw[Hm];exact h g u v w hg a b c
end Law
namespace Law
open L2 DL
theorem xx {i:Int}:sgn i<0↔i<0:=by
 unfold sgn
 split
 ·omega
 ·split <;> omega
theorem om {α:Type}{l:List α}{k p:Nat}{x:α}(h:(l.take k)[p]?=some x):p<k/\l[p]?=some x:=by
 rw[List.getElem?_take]at h
 split at h
 ·exact⟨by assumption,h⟩
 ·cases h
theorem xq (f:En):kb (iB f)=true:=by
 rcases f with _|⟨s,p⟩ <;> rfl
theorem yO (f l:En):norm (.tup [iB f,iB l])=.t (.tup [iB f,iB l]):=by
 unfold norm;rw[if_pos];show(kb (iB f) && (kb (iB l) && true))=true;rw[xq,xq];rfl
theorem rY {ms t:List Int}(h:ms.Perm t)(h1:ms.Pairwise (·<=·))(h2:t.Pairwise (·<=·)):ms=t:=
 List.Perm.eq_of_pairwise (fun _ _ _ _ a b=>Int.le_antisymm a b) h1 h2 h
theorem xA {p q r:Hf}{g u v w A B C:Int}(hg:0<g)(e1:u*g=A)(e2:v*g=B)(e3:w*g=C)(hA:0<A)(hB:0<B)(hC:0<C)
  (s1:A*p.1+B*q.1+C*r.1=0) (s2:A*p.2.1+B*q.2.1+C*r.2.1=0) (s3:0<A*p.2.2+B*q.2.2+C*r.2.2):0<u/\0<v/\0<w/\HA p q r u v w:=by
 have z:∀ {t:Int},g*t=0->t=0:=fun {t} h=>by
  rcases Int.mul_eq_zero.mp h with y|y
  ·omega
  ·exact y
 refine⟨bN hg (by rw[Int.mul_comm,e1];exact hA),bN hg (by rw[Int.mul_comm,e2];exact hB),bN hg (by rw[Int.mul_comm,e3];exact hC),z ?_,z ?_,bN hg ?_⟩
 ·rw[<-s1,<-e1,<-e2,<-e3];grind
 ·rw[<-s2,<-e1,<-e2,<-e3];grind
 ·have:g*(u*p.2.2+v*q.2.2+w*r.2.2)=A*p.2.2+B*q.2.2+C*r.2.2:=by rw[<-e1,<-e2,<-e3];grind
  rw[this];exact s3
theorem GG {p q:Hf}{g u v A B:Int}(hg:0<g)(e1:u*g=A)(e2:v*g=B)(hA:0<A)(hB:0<B)
  (s1:A*p.1+B*q.1=0) (s2:A*p.2.1+B*q.2.1=0) (s3:0<A*p.2.2+B*q.2.2):0<u/\0<v/\Hz p q u v:=by
 have z:∀ {t:Int},g*t=0->t=0:=fun {t} h=>by
  rcases Int.mul_eq_zero.mp h with y|y
  ·omega
  ·exact y
 refine⟨bN hg (by rw[Int.mul_comm,e1];exact hA),bN hg (by rw[Int.mul_comm,e2];exact hB),z ?_,z ?_,bN hg ?_⟩
 ·rw[<-s1,<-e1,<-e2];grind
 ·rw[<-s2,<-e1,<-e2];grind
 ·have:g*(u*p.2.2+v*q.2.2)=A*p.2.2+B*q.2.2:=by rw[<-e1,<-e2];grind
  rw[this];exact s3
theorem qt (p q r:Hf):bE q r*p.1+bE r p*q.1+bE p q*r.1=0/\bE q r*p.2.1+bE r p*q.2.1+bE p q*r.2.1=0:=by
 constructor <;> unfold bE <;> grind
theorem qs (p q:Hf):bE p q=-bE q p:=by unfold bE;grind
theorem qG {m n:Nat}{a b:Int}(ha:Sz m a)(hb:Sz n b):Sz m (ml a b).1/\Sz n (ml a b).2:=⟨ha.fdiv _,hb.fdiv _⟩
theorem MN {b:Hf}{s:Fr}(sb:eC 400 b)(ss:SzF 1500 s):uS 5000 (Gx b s):=by
 have x:Sz 2400 (K0 b s):=(Sz.sub (Sz.mul (Sz.mul sb.1 sb.2.2) ss.2) (Sz.mul sb.2.1 ss.1)).mono (by decide)
 have y:Sz 2400 (K1 b s):=(Sz.add (Sz.mul (Sz.mul sb.2.1 sb.2.2) ss.2) (Sz.mul sb.1 ss.1)).mono (by decide)
 have d:Sz 2400 (xy b s):=(Sz.mul (mW sb sb) ss.2).mono (by decide)
 exact⟨⟨(qG x d).1.mono (by decide),(qG x d).2.mono (by decide)⟩,⟨(qG y d).1.mono (by decide),(qG y d).2.mono (by decide)⟩⟩
theorem GF {b:Hf}{hs:List Hf}(sb:eC 400 b)(sh:∀ h∈hs,eC 400 h){f l:En}(F:mh b hs f)(L:mS b hs l):SzF 1500 (fL f l):=by
 unfold fL
 split
 ·exact vw sb sh F _ _ rfl
 ·exact rH sb sh L _ _ rfl
 ·exact⟨Sz.of (by decide) (by decide),Sz.of (by decide) (by decide)⟩
theorem jc {n:Nat}{u g A:Int}(hg:0<g)(e:u*g=A)(s:Sz n A):Sz n u:=by
 have h:=s.lt;have e2:u.natAbs*g.natAbs=A.natAbs:=by rw[<-Int.natAbs_mul,e]
 have:u.natAbs<=u.natAbs*g.natAbs:=Nat.le_mul_of_pos_right _ (by omega)
 exact⟨by omega⟩
theorem yV:∀ ss R,dy ss R->kY {nx:=fun _=>R (.t .non),rt:=R} (aD ["halves","spot","place","border","before","ends","places"] ss):=by
 rintro ss R ⟨hs,rfl,hh,hl,hS,hC⟩;show kY _ [some (.t (.lst (hs.map aZ))),none,none,none,none,none,none]
 delta kY
 walk_at "db"
 let I (k:Nat):aQ->Prop:=fun δ=>∃ (s:bJ) (r2 r3 r4 r5 r6:Option S),δ=[some (.t (.lst (hs.map aZ))),some (.t (spT s)),r2,r3,r4,r5,r6]/\KQ s/\uS 5000 s/\∀ h∈hs.take k,0<=eY h s
 have z1:Sz 5000 0:=Sz.of (by decide) (by decide)
 have z2:Sz 5000 1:=Sz.of (by decide) (by decide)
 refine⟨I hs.length,⟨lZ (by omega) (by rw[List.length_map];omega),tF (n:=hs.length) (by rw[List.length_map,Int.toNat_natCast]) I ⟨((0,1),(0,1)),_,_,_,_,_,rfl,⟨⟨by decide,by decide⟩,⟨by decide,by decide⟩⟩,⟨⟨z1,z2⟩,⟨z1,z2⟩⟩,fun h hm=>(by cases hm)⟩ (fun _ z=>z) ?_⟩,?_⟩
 ·rintro k δ hk ⟨s,r2,r3,r4,r5,r6,rfl,lo,sz,hold⟩;have e:hs[k]?=some hs[k]:=List.getElem?_eq_getElem hk;generalize hs[k]=b at e;obtain⟨sb,nb⟩:=hh b (List.mem_of_getElem? e);have th:∀ h∈hs.take k,eC 400 h:=fun h hm=>(hh h (List.mem_of_mem_take hm)).1;walk_at "db";rw[ca e];walk_at "db";refine⟨b,s,rfl,bh sb (by decide),⟨⟨sz.1.1.mono (by decide),sz.1.2.mono (by decide)⟩,⟨sz.2.1.mono (by decide),sz.2.2.mono (by decide)⟩⟩,?_⟩
  walk_at "db"
  split
  ·rename_i neg;have neg:=xx.mp neg;rw[Ad];refine⟨b,hs.take k,rfl,sb,th,by rw[List.length_take];omega,fun f l F L=>?_⟩
   dsimp only;rw[show got (.t (.tup [iB f,iB l]))=norm (.tup [iB f,iB l]) from rfl,yO];walk_at "db";refine⟨b,hs.take k,f,l,rfl,sb,th,by rw[List.length_take];omega,vw sb th F,rH sb th L,?_,fun nc=>⟨?_,?_⟩⟩
   ·
    rintro s1 p t q rfl rfl lt;obtain⟨⟨hf,g1,c1,rfl⟩,_⟩:=F.som _ _ rfl;obtain⟨⟨hl',g2,c2,rfl⟩,_⟩:=L.som _ _ rfl;obtain⟨pk,g1'⟩:=om g1;obtain⟨qk,g2'⟩:=om g2;have s1':=(hh hf (List.mem_of_getElem? g1')).1;have s2':=(hh hl' (List.mem_of_getElem? g2')).1;have npq:p≠q:=fun z=>by
     subst z;rw[g1]at g2;cases g2;omega
    obtain⟨w1,w2,w3⟩:=IB nb lo.1.1 lo.2.1 (hold hf (List.mem_of_getElem? g1)) (hold hl' (List.mem_of_getElem? g2)) neg c1 c2 lt;have sw1:=qs hf b;have sw2:=qs b hl';have sw3:=qs hl' hf;walk_at "db";rw[if_pos (by decide)]
    refine⟨by decide,?_⟩
    show iu _ ([(p:Int),(q:Int),(k:Int)].map T.int);rw[pT];refine⟨by simp,fun ms pm ps=>?_⟩
    rcases Nat.lt_or_ge p q with o|o
    ·rw[rY (t:=[(p:Int),(q:Int),(k:Int)]) pm ps (by simp;omega)]
     refine⟨hs,[p,q,k],rfl,hh,.inr ⟨p,q,k,hf,hl',b,rfl,g1',g2',e,by omega,by omega,by omega,fun g u v w hg a b' c=>?_⟩⟩
     obtain⟨p1,p2,p3,p4⟩:=xA (p:=hf) (q:=hl') (r:=b) (A:=bE hl' b) (B:=bE b hf) (C:=bE hf hl') (u:=u) (v:=v) (w:=w) hg (by omega) (by omega) (by omega) (by omega) (by omega) (by omega) (qt hf hl' b).1 (qt hf hl' b).2 (by have:=w3;grind)
     refine hC _ _ (.three p q k hf hl' b u v w o (by omega) g1' g2' e p1 p2 p3 p4) fun x hx=>?_
     simp only[List.mem_cons,List.not_mem_nil,or_false]at hx
     rcases hx with rfl|rfl|rfl
     ·exact jc hg a ((gT (iI s2' sb)).mono (by decide))
     ·exact jc hg b' ((gT (iI sb s1')).mono (by decide))
     ·exact jc hg c ((gT (iI s1' s2')).mono (by decide))
    ·rw[rY (t:=[(q:Int),(p:Int),(k:Int)]) (pm.trans (List.Perm.swap _ _ _)) ps (by simp;omega)]
     refine⟨hs,[q,p,k],rfl,hh,.inr ⟨q,p,k,hl',hf,b,rfl,g2',g1',e,by omega,by omega,by omega,fun g u v w hg a b' c=>?_⟩⟩
     obtain⟨p1,p2,p3,p4⟩:=xA (p:=hl') (q:=hf) (r:=b) (A:=bE b hf) (B:=bE hl' b) (C:=bE hf hl') (u:=u) (v:=v) (w:=w) hg (by omega) (by omega) (by omega) (by omega) (by omega) (by omega) (by have:=(qt hf hl' b).1;grind) (by have:=(qt hf hl' b).2;grind) (by have:=w3;grind)
     refine hC _ _ (.three q p k hl' hf b u v w (by omega) (by omega) g2' g1' e p1 p2 p3 p4) fun x hx=>?_
     simp only[List.mem_cons,List.not_mem_nil,or_false]at hx
     rcases hx with rfl|rfl|rfl
     ·exact jc hg a ((gT (iI s1' sb)).mono (by decide))
     ·exact jc hg b' ((gT (iI sb s2')).mono (by decide))
     ·exact jc hg c ((gT (iI s2' s1')).mono (by decide))
   ·
    intro i o g1 c ak;obtain⟨ik,g1'⟩:=om g1;have no:=(hh o (List.mem_of_getElem? g1')).2;obtain⟨w1,w2,w3⟩:=IA nb no lo.1.1 lo.2.1 (hold o (List.mem_of_getElem? g1)) neg c ak;walk_at "db";rw[if_pos (by decide)]
    refine⟨by decide,?_⟩
    show iu _ ([(i:Int),(k:Int)].map T.int);rw[pT];refine⟨by simp,fun ms pm ps=>?_⟩
    rw[rY (t:=[(i:Int),(k:Int)]) pm ps (by simp;omega)]
    refine⟨hs,[i,k],rfl,hh,.inl ⟨i,k,o,b,rfl,g1',e,fun g u v hg a b'=>?_⟩⟩;obtain⟨p1,p2,p4⟩:=GG (p:=o) (q:=b) (A:=iT b) (B:=iT o) hg a b' (nM nb) (nM no) w1 w2 w3;refine hC _ _ (.two i k o b u v ik g1' e p1 p2 p4) fun x hx=>?_;simp only[List.mem_cons,List.not_mem_nil,or_false]at hx
    rcases hx with rfl|rfl
    ·exact jc hg a (xf sb)
    ·exact jc hg b' (xf (hh o (List.mem_of_getElem? g1')).1)
   ·
    intro nz;have hm:∀ s p t q,f=some (s,p)->l=some (t,q)->iV s t:=fun s p t q e1 e2=>Int.not_lt.mp (nc s p t q e1 e2);have sp:=uz F L;have st:=GF sb th F L;walk_at "db";rw[if_neg (by decide)]
    refine⟨b,f,l,rfl,nb,sb,sp,st,?_⟩;walk_at "db";refine⟨Gx b (fL f l),_,_,_,_,_,rfl,Kp nb sp,MN sb st,fun h hm'=>?_⟩;rw[fq e]at hm'
    rcases List.mem_append.mp hm' with z|z
    ·exact uY nb F L hm nz h z
    ·simp at z;subst z;exact yX nb sp
  ·rename_i nn;have nn:0<=eY b s:=by
    have:¬ eY b s<0:=fun z=>nn (xx.mpr z);omega
   refine⟨s,_,_,_,_,_,rfl,lo,sz,fun h hm=>?_⟩;rw[fq e]at hm
   rcases List.mem_append.mp hm with z|z
   ·exact hold h z
   ·simp at z;subst z;exact nn
 ·rintro δ ⟨s,r2,r3,r4,r5,r6,rfl,lo,sz,hold⟩;rw[List.take_length]at hold;walk_at "db";exact hS s lo sz hold
end Law
namespace DL
open PySem L2
def Ls (v:S)(ts:List T):Prop:=v=.ol ts\/v=.t (.lst ts)
theorem ux {K:PySem.W.Frag}{F H:Hp}{u:S}{v:V}{ts:List T}(sb:aE F H)(l:Ls u ts)(k:fZ K F H u v):aw K H (.lst ts) v:=by
 rcases l with rfl|rfl
 ·obtain⟨a,xs,rfl,_,h,r⟩:=k;unfold aw;exact⟨a,xs,rfl,cD.of h,am.same sb r⟩
 ·exact aw.same sb k
structure zG (K:PySem.W.Frag) (H₀ H:Hp) (v:V) (x0 x1:T) (t2 t3:List T):Prop where
 ex:∃ (t:Addr) (v0 v1 v2 v3:V),v=.ref t/\H t=some (.tup [v0,v1,v2,v3])/\aw K H x0 v0/\aw K H x1 v1/\aw K H (.lst t2) v2/\aw K H (.lst t3) v3 ∧
  (t2=[]->t3=[]/\∃ a2 a3,v2=.ref a2/\v3=.ref a3/\H a2=some (.lst [])/\H a3=some (.lst [])/\H₀ a2=none/\H₀ a3=none/\a2≠a3)
structure K5 (K:PySem.W.Frag) (H₀ F:Hp) (D':dh) (D:Ends):Prop where
 nx:∀ σ' F' H' δ',aE F F'->Rel K F' H' σ' δ'->D'.nx δ'->D.nx σ' H'
 rt:∀ v H' x0 x1 t2 t3,aE H₀ H'->zG K H₀ H' v x0 x1 t2 t3->D'.rt (.t (.tup [x0,x1,.lst t2,.lst t3]))->D.rt v H'
def eV (K:PySem.W.Frag)(H₀:Hp)(w:WS):TS:=fun D σ H=>∃ δ D' F,aE H₀ F/\Rel K F H σ δ/\w D' δ/\K5 K H₀ F D' D
def DU (w0 w1:WE):WS:=fun D δ=>w0 δ fun s0=>w1 δ fun s1=>∃ x0 x1 u2 u3 t2 t3,s0=.t x0/\s1=.t x1/\δ[2]?=some (some u2)/\δ[3]?=some (some u3)/\Ls u2 t2/\Ls u3 t3/\(t2=[]->t3=[]/\u2=.ol []/\u3=.ol [])/\D.rt (.t (.tup [x0,x1,.lst t2,.lst t3]))
def uC (K:PySem.W.Frag)(sp:aR):Sp:=fun vs H Q _=>∃ ss R,(∀ s∈ss,sN s)/\jD K H H ss vs/\sp ss R/\∀ v H' x0 x1 t2 t3,aE H H'->zG K H H' v x0 x1 t2 t3->R (.t (.tup [x0,x1,.lst t2,.lst t3]))->Q v H'
section
variable {X:Cx}{st:Stmt}{rest:List Stmt}{w u:WS}{pos:Pos}{H₀:Hp}
theorem JE (h:PS X st (bC X.K H₀ w))(hw:∀ D δ,w D δ->w {nx:=D.nx,rt:=fun _=>False} δ):PS X st (eV X.K H₀ w):=
 h.imp fun D σ H ⟨δ,D',F,s0,rl,h,ok⟩=>⟨δ,_,F,s0,rl,hw D' δ h,⟨ok.nx,fun _ _ _ _ _ z=>z.elim,fun _ _ _ _ _ _ z=>z.elim,fun _ _ _ _ _ _ z=>z.elim⟩⟩
theorem fg (h1:PS X st (eV X.K H₀ w))(h2:gS X rest (eV X.K H₀ u)):gS X (st::rest) (eV X.K H₀ (aG w u)):=
 (fx h1 h2).imp fun D σ H ⟨δ,D',F,s0,rl,h,ok⟩=>⟨δ,_,F,s0,rl,h,⟨fun σ' F' H' δ' ff rl' h'=>⟨δ',D',F',s0.trans ff,rl',h',⟨fun a b c d q=>ok.nx a b c d (ff.trans q),ok.rt⟩⟩,ok.rt⟩⟩
theorem vd (h1:PS X st (eV X.K H₀ w))(h2:gS X rest (eV X.K H₀ u)):gS X (st::rest) (eV X.K H₀ (bL w u)):=
 (fx h1 h2).imp fun D σ H ⟨δ,D',F,s0,rl,⟨M,h,hk⟩,ok⟩=>⟨δ,_,F,s0,rl,h,⟨fun σ' F' H' δ' ff rl' h'=>⟨δ',D',F',s0.trans ff,rl',hk δ' h',⟨fun a b c d q=>ok.nx a b c d (ff.trans q),ok.rt⟩⟩,ok.rt⟩⟩
theorem Ak (h1:PS X st (eV X.K H₀ w)):gS X [st] (eV X.K H₀ w):=rS h1
theorem E2 {e0 e1 e2 e3:Expr}{w0 w1:WE}{x1:Nat}{p1:Pos}(h0:PE X e0 (ap X.K w0))(h1:PE X e1 (ap X.K w1))(h2:PE X e2 (j7 2))(h3:PE X e3 (j7 3))
  (z0:starEach [e0,e1,e2,e3] X.env=(false,eval e0 X.env)::starEach [e1,e2,e3] X.env:=by rfl) (z1:starEach [e1,e2,e3] X.env=(false,eval e1 X.env)::starEach [e2,e3] X.env:=by rfl) (z2:starEach [e2,e3] X.env=(false,eval e2 X.env)::starEach [e3] X.env:=by rfl)
  (z3:starEach [e3] X.env=(false,eval e3 X.env)::starEach [] X.env:=by rfl) :
  PS X (.Return (some (.Tuple [e0,e1,e2,e3] x1 p1)) pos) (eV X.K H₀ (DU w0 w1)):=
 (nW (Dg (cB h0 (cB h1 (cB h2 (cB h3 jY z3) z2) z1) z0))).imp fun D σ H ⟨δ,D',F,s0,rl,h,ok⟩=>
  ⟨δ,_,F,rl,h,fun v0 F1 H1 s0' e0 p0 q0=>⟨δ,_,F1,rl.ext e0,q0,fun v1 F2 H2 s1 e1 p1 q1=>by
   obtain⟨x0,x1,u2,u3,t2,t3,rfl,rfl,g2,g3,l2,l3,hf,hr⟩:=q1;have r2:=(rl.ext e0).ext e1;obtain⟨v2,y2,k2⟩:=r2.slot 2 u2 g2;obtain⟨v3,y3,k3⟩:=r2.slot 3 u3 g3;refine⟨v2,y2,v3,y3,(by decide:4<=sizeLine),fun t ht=>?_⟩
   have up:aE H2 (cV H2 t (.tup [v0,v1,v2,v3])):=fun b o q=>by rw[bQ (de q ht)];exact q
   have sF:aE H₀ F2:=(s0.trans e0.ff).trans e1.ff;refine ok.rt _ _ x0 x1 t2 t3 ((sF.trans r2.sub).trans up) ⟨t,v0,v1,v2,v3,rfl,bH,aw.same ((e1.ff.trans r2.sub).trans up) p0,aw.same (r2.sub.trans up) p1,aw.same up (ux r2.sub l2 k2),aw.same up (ux r2.sub l3 k3),fun z=>?_⟩ hr;obtain⟨z3,rfl,rfl⟩:=hf z;obtain⟨a2,xs2,rfl,n2,m2,q2⟩:=k2;obtain⟨a3,xs3,rfl,n3,m3,q3⟩:=k3
   cases (show xs2=[] from q2)
   cases (show xs3=[] from q3)
   exact⟨z3,a2,a3,rfl,rfl,up _ _ m2,up _ _ m3,aJ sF n2,aJ sF n3,fun e=>r2.dist 2 3 a2 [] [] (by decide) g2 g3 y2 (by rw[y3,e])⟩⟩⟩
end
structure je (P:Program) (w:World) (K:PySem.W.Frag) (mg:Str->Option Value) (base:Heap) (k:Nat) (x:Str) (sp:Sp):Prop where
 ex:∃ (f:Addr) (fd:FuncData) (ps:List Str),mg x=some (.ref f)/\fY P w K mg base sE k f fd ps sp/\Binds K fd ps []/\PySem.W.keepIn K (.ref f)=true
def uD (K:PySem.W.Frag)(sp:aR):Sp:=fun vs H Q _=>∃ F ss R,Rel K F H (vs.map some) (ss.map some)/\sp ss R/\∀ v H' s,aE F H'->xM K F H' s v->R s->Q v H'
theorem vT {K:PySem.W.Frag}{F H:Hp}{N:List Str}{ss:List S}{vs:List V}(hn:ss.length<=N.length)(r:Rel K F H (vs.map some) (ss.map some)):Rel K F H (L2.start N vs) (aD N ss):=by
 have hl:vs.length=ss.length:=by have:=r.len;rw[List.length_map,List.length_map]at this;exact this
 have up:∀ {i:Nat}{s:S},ss[i]?=some s->(L2.start N vs)[i]?=(vs.map some)[i]?:=fun {i s} h=>by
  have hi:i<ss.length:=by rw[List.getElem?_eq_some_iff]at h;exact h.1
  unfold L2.start;rw[List.getElem?_append_left (by rw[List.length_map];omega)]
 have dn:∀ {i:Nat}{s:S},(aD N ss)[i]?=some (some s)->(ss.map some)[i]?=some (some s):=fun {i s} h=>by rw[List.getElem?_map,fm h];rfl
 refine⟨r.sub,r.full,?_,fun i s h=>?_,fun i j a ts us hn h1 h2 h3=>?_⟩
 ·unfold L2.start aD;rw[List.length_append,List.length_append,List.length_map,List.length_map,List.length_replicate,List.length_replicate];omega
 ·rw[up (fm h)];exact r.slot i s (dn h)
 ·rw[up (fm h1)]at h3;rw[up (fm h2)];exact r.dist i j a ts us hn (dn h1) (dn h2) h3
section
variable {P:Program}{wd:World}{K:PySem.W.Frag}{mg:Str->Option Value}{base:Heap}
theorem EY {x qual:Str}{st:Stmt}{f:Addr}{fd:FuncData}{N ps:List Str}{k:Nat}{sp:aR}{w:WS}(F:D6 K x qual st f fd)(S:aA N ps (aj st))
  (hlen:∀ ss R,sp ss R->ss.length=ps.length)
  (hbody:∀ (cdv:Value) (A:Around) (outer:List Env) (s:Shared) (H:Hp) (E:XK),b7 k (A.deeper (PyProof.Rows.envOfC qual (aj st) s.heap.objs.size f cdv))->gS (mi sE P wd K mg base N qual (aj st) f cdv A outer s H E).nox (cw st) (eV K H w))
  (h:∀ ss R,sp ss R->w {nx:=fun _=>False,rt:=R} (aD N ss)):fY P wd K mg base sE (k+1) f fd ps (uC K sp):=by
 have pl:ps.length<=N.length:=by
  have:=congrArg List.length S.pre;rw[List.length_take]at this;omega
 refine F.ok S (fun vs H Q E hs=>?_) (fun cdv A outer s H vs Q E hr hs=>?_)
 ·obtain⟨ss,R,_,r,hs,_⟩:=hs;rw[jm r,hlen ss R hs]
 ·obtain⟨ss,R,ha,r,hs,k⟩:=hs;exact⟨_,hbody cdv A outer s H E hr,aD N ss,_,H,aE.refl _,pQ (by rw[hlen ss R hs];exact pl) ha r,h ss R hs,⟨fun σ' F' H' δ' ff rl q=>q.elim,fun v H' x0 x1 t2 t3 sm f q=>k v H' x0 x1 t2 t3 sm f q⟩⟩
theorem EZ {x qual:Str}{st:Stmt}{f:Addr}{fd:FuncData}{N ps:List Str}{k:Nat}{sp:aR}{w:WS}(F:D6 K x qual st f fd)(S:aA N ps (aj st))
  (hlen:∀ ss R,sp ss R->ss.length=ps.length)
  (hbody:∀ (cdv:Value) (A:Around) (outer:List Env) (s:Shared) (H:Hp) (E:XK) (G:Hp),b7 k (A.deeper (PyProof.Rows.envOfC qual (aj st) s.heap.objs.size f cdv))->gS (mi sE P wd K mg base N qual (aj st) f cdv A outer s H E).nox (cw st) (bC K G w))
  (h:∀ ss R,sp ss R->w {nx:=fun _=>R (.t .non),rt:=R} (aD N ss)):fY P wd K mg base sE (k+1) f fd ps (uD K sp):=by
 have pl:ps.length<=N.length:=by
  have:=congrArg List.length S.pre;rw[List.length_take]at this;omega
 refine F.ok S (fun vs H Q E hs=>?_) (fun cdv A outer s H vs Q E hr hs=>?_)
 ·obtain⟨G,ss,R,r,hs,_⟩:=hs;have:=r.len;rw[List.length_map,List.length_map]at this;rw[this,hlen ss R hs]
 ·obtain⟨G,ss,R,r,hs,k⟩:=hs;refine⟨_,hbody cdv A outer s H E G hr,aD N ss,_,G,aE.refl _,vT (by rw[hlen ss R hs];exact pl) r,h ss R hs,⟨fun σ' F' H' δ' ff rl q=>?_,fun v H' s' sm rc q=>k v H' s' sm rc q,fun _ _ _ _ _ _ z=>z.elim,fun _ _ _ _ _ _ z=>z.elim⟩⟩
  exact k .non H' (.t .non) (ff.trans rl.sub) rfl q
end
theorem Rel.lose {K:PySem.W.Frag}{F H:Hp}{σ:St}{δ:aQ}{i:Nat}{v:V}(r:Rel K F H σ δ):Rel K F H (σ.set i (some v)) (δ.set i none):=by
 have ne:∀ {j:Nat}{s:S},(δ.set i none)[j]?=some (some s)->i≠j/\δ[j]?=some (some s):=fun {j s} h=>by
  by_cases e:i=j
  ·subst e;rw[List.getElem?_set_self']at h
   cases q:δ[i]? with
   | none=>rw[q]at h;cases h
   | some u=>rw[q]at h;cases h
  ·rw[List.getElem?_set_ne e]at h;exact⟨e,h⟩
 refine⟨r.sub,r.full,by rw[List.length_set,List.length_set];exact r.len,fun j s h=>?_,fun j l a ts us hn h1 h2 h3=>?_⟩
 ·obtain⟨e,h⟩:=ne h;rw[List.getElem?_set_ne e];exact r.slot j s h
 ·obtain⟨e1,h1⟩:=ne h1;obtain⟨e2,h2⟩:=ne h2;rw[List.getElem?_set_ne e1]at h3;rw[List.getElem?_set_ne e2];exact r.dist j l a ts us hn h1 h2 h3
theorem Hj {α:Type}(l:List α)(a b c d e:α):((((l.set 4 a).set 5 b).set 6 c).set 7 d).set 8 e=((((l.set 7 d).set 4 a).set 5 b).set 6 c).set 8 e:=by
 rw[List.set_comm (l:=(l.set 4 a).set 5 b) c d (by decide),List.set_comm (l:=l.set 4 a) b d (by decide),List.set_comm (l:=l) a d (by decide)]
def DP (sp:aR)(wa:WE)(wt:WT)(u:WS):WS:=fun D δ=>wa δ fun s1=>sp [iF s1] fun s=>∃ x0 x1 t2 t3,s=.t (.tup [x0,x1,.lst t2,.lst t3])/\4<δ.length/\kb x0=true/\kb x1=true ∧
 wt ((freeze δ).set 4 (some (.t (.tup [x0,x1,.lst t2,.lst t3])))) fun b=>b=false ∧
  (t2≠[]->u D ((((((freeze δ).set 4 (some (.t (.tup [x0,x1,.lst t2,.lst t3])))).set 5 (some (.t x0))).set 6 (some (.t x1))).set 7 (some (.t (.lst t2)))).set 8 (some (.t (.lst t3))))) ∧
  (t2=[]->u D (((((δ.set 4 none).set 5 (some (.t x0))).set 6 (some (.t x1))).set 7 (some (.ol []))).set 8 (some (.t (.lst [])))))
section
variable {X:Cx}{e1 c tg:Expr}{wa:WE}{wt:WT}{u:WS}{a rest:List Stmt}{pos pos1 pos2 pos3 p1 p2 p3:Pos}{H₀:Hp}{x y:Str}{k:Nat}{sp:aR}{ta:TS}
theorem Al (hN:X.N.Nodup)(C:je X.prog X.w X.K X.mg X.base k x (uC X.K sp))(hr:b7 k X.A)(hg:Gl X x)(h1:PE X e1 (ap X.K wa))(ht:PT X c (liftT X.K wt))(ha:gS X a ta)
  (hgt:PG X tg (Me X.K 4 (tH (nD 5) (tH (nD 6) (tH (nD 7) (tH (nD 8) Md)))))) (rst:gS X rest (bC X.K H₀ u))
  (hi:X.N[4]?=some y:=by rfl) (hx:Loc X.env.scope y:=by first|exact Or.inl rfl|exact Or.inr rfl) (hs:swapsWith (.Call (.Name x p1) [e1] [] p2) (some (.Name y p3)) pos.line X.env=pure false:=by rfl) (hf:X.fn y=true\/X.env.scope.names.lookup y=some .local:=by first|exact .inl rfl|exact .inr rfl|assumption)
  (hd:(x == ("__debug__":Str))=false:=by decide) (z2:starEach [e1] X.env=(false,eval e1 X.env)::starEach [] X.env:=by rfl)
  (hv:PE X (.Name y pos3) (j7 4):=by exact pv _) (tL:swapsWithSole [tg] (.Name y pos3) pos2.line X.env=pure false:=by rfl) (hw:swappedStores [tg] (.Name y pos3) X.env=pure none:=by rfl) (hq:(assignEach [tg] X.env).map (·.2)=[assign tg X.env]:=by rfl) :
  gS X (.Assign [.Name y p3] (.Call (.Name x p1) [e1] [] p2) pos::.If c a [] pos1::.Assign [tg] (.Name y pos3) pos2::rest) (bC X.K H₀ (DP sp wa wt u)):=by
 obtain⟨f1,fd1,ps1,m1,F1,b1,kp1⟩:=C.ex;refine(fx (Dm (i:=4) hN hi hx (rP F1 hr hg m1 kp1 b1 .nil (E:=E0) Dd (cB h1 jY z2) hd z2 rfl) hs hf) (fx (He ht ha xp) (fx (vR hv hgt tL hw hq) rst))).imp fun D σ H ⟨δ,D',F,s0,rl,h,ok⟩=>?_;refine⟨δ,_,F,rl,h,fun z F0 H0 s1 ex0 q0 hs=>?_⟩;show uC X.K sp ([z]++[]) H0 _ E0;rw[List.append_nil];obtain⟨a1,a2⟩:=qc (ss:=[s1]) (vs:=[z]) ex0.sub ⟨z,[],rfl,q0,rfl⟩;refine⟨[iF s1],_,a1,a2,hs,fun v H1 x0 x1 t2 t3 sm fr hR=>?_⟩;obtain⟨x0',x1',t2',t3',e,hl,p0,p1,hw⟩:=hR
 cases e
 obtain⟨t,v0,v1,v2,v3,rfl,ht,r0,r1,r2,r3,fz⟩:=fr.ex;have rl0:=rl.ext ex0;have exg:=iO (x:=none) ex0.sub ex0.full sm (fun _ z=>by cases z)
 have tt:aw X.K H1 (.tup [x0,x1,.lst t2,.lst t3]) (.ref t):=by
  unfold aw;exact⟨t,_,rfl,iD.of ht,_,_,rfl,r0,_,_,rfl,r1,_,_,rfl,r2,_,_,rfl,r3,rfl⟩
 have rf:=(rl0.ext exg).freeze.put (i:=4) (s:=.t (.tup [x0,x1,.lst t2,.lst t3])) tt (fun _ z=>by cases z)
 refine⟨_,_,H1,rf,hw,fun F2 H2 b ex2 hb=>?_⟩;obtain⟨rfl,hA,hB⟩:=hb;rw[if_neg Bool.false_ne_true];show(MX (GH (j7 4) _) _) D (σ.set 4 (some (.ref t))) H2;refine⟨.ref t,by rw[List.getElem?_set_self (by rw[rl.len];exact hl)],t,[v0,v1,v2,v3],rfl,iD.of (ex2.hh _ _ ht),rfl,?_⟩
 refine⟨v0,_,rfl,v1,_,rfl,v2,_,rfl,v3,_,rfl,rfl,?_⟩
 by_cases et:t2=[]
 ·obtain⟨e3,b2,b3,rfl,rfl,m2,m3,n2,n3,d23⟩:=fz et;subst et;subst e3;have ex3:=iO (x:=some b2) ex0.sub ex0.full (sm.trans ex2.hh) (fun b z=>by cases z;exact⟨[],ex2.hh _ _ m2⟩)
  have F3b:grow F0 H0 H2 (some b2) b2=none:=by unfold grow;rw[n2];simp
  have F3c:grow F0 H0 H2 (some b2) b3=some (.lst []):=by
   unfold grow;rw[if_pos (by rw[n3];rfl),if_neg (by simpa using d23)]
   exact ex2.hh _ _ m3
  have q:=rl0.putOl (i:=7) ex3 n2 F3b (ex2.hh _ _ m2) (ts:=[]) rfl;have q4:=q.lose (i:=4) (v:=.ref t);have q5:=q4.put (i:=5) (s:=.t x0) (aw.full ex3.full p0 (aw.same ex2.hh r0)) (fun _ z=>by cases z)
  have q6:=q5.put (i:=6) (s:=.t x1) (aw.full ex3.full p1 (aw.same ex2.hh r1)) (fun _ z=>by cases z)
  have q8:=q6.put (i:=8) (s:=.t (.lst [])) (v:=.ref b3) (by show aw _ _ _ _;unfold aw;exact⟨b3,[],rfl,cD.of F3c,rfl⟩) (fun _ z=>by cases z)
  rw[<-Hj,<-Hj]at q8;exact⟨_,D',_,(s0.trans ex0.ff).trans ex3.ff,q8,hB rfl,ok.mono (ex0.ff.trans ex3.ff)⟩
 ·have ff:aE F F2:=(((ex0.ff.trans ex0.sub).trans sm).trans ex2.ff);have q4:=rf.ext ex2;have q5:=q4.put (i:=5) (s:=.t x0) (aw.same ex2.ff r0) (fun _ z=>by cases z)
  have q6:=q5.put (i:=6) (s:=.t x1) (aw.same ex2.ff r1) (fun _ z=>by cases z)
  have q7:=q6.put (i:=7) (s:=.t (.lst t2)) (aw.same ex2.ff r2) (fun _ z=>by cases z)
  have q8:=q7.put (i:=8) (s:=.t (.lst t3)) (aw.same ex2.ff r3) (fun _ z=>by cases z)
  exact⟨_,D',F2,s0.trans ff,q8,hA et,ok.mono ff⟩
end
def xI (sp:aR):WS:=fun D δ=>∃ s7 s8 s2 s5,δ[7]?=some (some s7)/\δ[8]?=some (some s8)/\δ[2]?=some (some s2)/\δ[5]?=some (some s5)/\sp [s7,s8,s2,s5] fun s=>∃ x,s=.t x/\D.rt (.t x)
def pick (i:Nat):Nat:=if i=0 then 7 else if i=1 then 8 else if i=2 then 2 else 5
theorem jk {α:Type}{l:List (Option α)}{a b c d:α}(h7:l[7]?=some (some a))(h8:l[8]?=some (some b))(h2:l[2]?=some (some c))(h5:l[5]?=some (some d)){i:Nat}(hi:i<4):[some a,some b,some c,some d][i]?=l[pick i]?:=by
 have:i=0\/i=1\/i=2\/i=3:=by omega
 rcases this with rfl|rfl|rfl|rfl
 ·exact h7.symm
 ·exact h8.symm
 ·exact h2.symm
 ·exact h5.symm
theorem F8 {i j:Nat}(hi:i<4)(hj:j<4)(h:i≠j):pick i≠pick j:=by
 unfold pick
 (repeat' split) <;> omega
section
variable {X:Cx}{e7 e8 e2 e5:Expr}{pos p p2:Pos}{H₀:Hp}{x:Str}{k:Nat}{sp:aR}
theorem Ai (C:je X.prog X.w X.K X.mg X.base k x (uD X.K sp)) (hr:b7 k X.A) (hg:Gl X x) (h7:PE X e7 (j7 7)) (h8:PE X e8 (j7 8)) (h2:PE X e2 (j7 2)) (h5:PE X e5 (j7 5)) (hd:(x == ("__debug__":Str))=false:=by decide)
  (z0:starEach [e7,e8,e2,e5] X.env=(false,eval e7 X.env)::starEach [e8,e2,e5] X.env:=by rfl) (z1:starEach [e8,e2,e5] X.env=(false,eval e8 X.env)::starEach [e2,e5] X.env:=by rfl) (z2:starEach [e2,e5] X.env=(false,eval e2 X.env)::starEach [e5] X.env:=by rfl)
  (z3:starEach [e5] X.env=(false,eval e5 X.env)::starEach [] X.env:=by rfl) (y0:(backTo p2 (starEach [e8,e2,e5] X.env)).any (·.1)=false:=by rfl) :
  PS X (.Return (some (.Call (.Name x p) [e7,e8,e2,e5] [] p2)) pos) (bC X.K H₀ (xI sp)):=by
 obtain⟨f1,fd1,ps1,m1,F1,b1,kp1⟩:=C.ex;refine(nW (rP F1 hr hg m1 kp1 b1 .nil (E:=E0) Dd (cB h7 (cB h8 (cB h2 (cB h5 jY z3) z2) z1) z0) hd z0 y0)).imp fun D σ H ⟨δ,D',F,s0,rl,h,ok⟩=>?_;obtain⟨s7,s8,s2,s5,g7,g8,g2,g5,hs⟩:=h;obtain⟨v7,y7,k7⟩:=rl.slot 7 s7 g7;obtain⟨v8,y8,k8⟩:=rl.slot 8 s8 g8;obtain⟨v2,y2,k2⟩:=rl.slot 2 s2 g2;obtain⟨v5,y5,k5⟩:=rl.slot 5 s5 g5;refine⟨v7,y7,v8,y8,v2,y2,v5,y5,?_⟩;show uD X.K sp ([v7,v8,v2,v5]++[]) H _ E0;rw[List.append_nil];have lt:∀ {i:Nat}{o:Option S},[some s7,some s8,some s2,some s5][i]?=some o->i<4:=fun {i o} h=>by
  rw[List.getElem?_eq_some_iff]at h;exact h.1
 refine⟨F,[s7,s8,s2,s5],_,⟨rl.sub,rl.full,rfl,fun i s h=>?_,fun i j a ts us hn q1 q2 q3=>?_⟩,hs,fun v H' s sm rc q=>?_⟩
 ·have hi:=lt h;change [some s7,some s8,some s2,some s5][i]?=_ at h;rw[jk g7 g8 g2 g5 hi]at h;obtain⟨v,q1,q2⟩:=rl.slot _ s h;refine⟨v,?_,q2⟩;show [some v7,some v8,some v2,some v5][i]?=_;rw[jk y7 y8 y2 y5 hi];exact q1
 ·have hi:=lt q1;have hj:=lt q2;change [some s7,some s8,some s2,some s5][i]?=_ at q1;change [some s7,some s8,some s2,some s5][j]?=_ at q2;change [some v7,some v8,some v2,some v5][i]?=_ at q3;show [some v7,some v8,some v2,some v5][j]?≠_;rw[jk g7 g8 g2 g5 hi]at q1;rw[jk g7 g8 g2 g5 hj]at q2;rw[jk y7 y8 y2 y5 hi]at q3;rw[jk y7 y8 y2 y5 hj];exact rl.dist _ _ a ts us (F8 hi hj hn) q1 q2 q3
 ·obtain⟨x,rfl,hx⟩:=q;exact ok.rt v H' (.t x) (s0.trans sm) rc hx
end
theorem HI (sp:aR)(wa:WE)(wt:WT)(u:WS)(D:dh)(δ:aQ):DP sp wa wt u D δ=wa δ fun s1=>sp [iF s1] fun s=>∃ x0 x1 t2 t3,s=.t (.tup [x0,x1,.lst t2,.lst t3])/\4<δ.length/\kb x0=true/\kb x1=true ∧
 wt ((freeze δ).set 4 (some (.t (.tup [x0,x1,.lst t2,.lst t3])))) fun b=>b=false ∧
  (t2≠[]->u D ((((((freeze δ).set 4 (some (.t (.tup [x0,x1,.lst t2,.lst t3])))).set 5 (some (.t x0))).set 6 (some (.t x1))).set 7 (some (.t (.lst t2)))).set 8 (some (.t (.lst t3))))) ∧
  (t2=[]->u D (((((δ.set 4 none).set 5 (some (.t x0))).set 6 (some (.t x1))).set 7 (some (.ol []))).set 8 (some (.t (.lst []))))):=rfl
theorem Eo (sp:aR)(D:dh)(δ:aQ):xI sp D δ=∃ s7 s8 s2 s5,δ[7]?=some (some s7)/\δ[8]?=some (some s8)/\δ[2]?=some (some s2)/\δ[5]?=some (some s5)/\sp [s7,s8,s2,s5] fun s=>∃ x,s=.t x/\D.rt (.t x):=rfl
theorem Idq (w0 w1:WE)(D:dh)(δ:aQ):DU w0 w1 D δ=w0 δ fun s0=>w1 δ fun s1=>∃ x0 x1 u2 u3 t2 t3,s0=.t x0/\s1=.t x1/\δ[2]?=some (some u2)/\δ[3]?=some (some u3)/\Ls u2 t2/\Ls u3 t3/\(t2=[]->t3=[]/\u2=.ol []/\u3=.ol [])/\D.rt (.t (.tup [x0,x1,.lst t2,.lst t3])):=rfl
end DL
namespace Law
open L2 DL
set_option maxHeartbeats 4000000
inductive ij (G:Hf->Prop):List Hf->List Int->Prop
 | two (p q:Hf) (u v:Int):G p->G q->0<u->0<v->Hz p q u v->ij G [p,q] [u,v]
 | three (p q r:Hf) (u v w:Int):G p->G q->G r->0<u->0<v->0<w->HA p q r u v w->ij G [p,q,r] [u,v,w]
def zC (ps:List Pt)(k:Nat)(h:Hf):Prop:=kc ps h/\ps.length+1<=fR h ps+k
theorem ki {G:Hf->Prop}{hs:List Hf}{ws:List Int}(C:ij G hs ws){c:Hf}(zc:0<c.2.2)(h:∀ l,G l->0<=c5 l c):False:=by
 cases C with
 | two p q u v gp gq u0 v0 s=>
  obtain⟨s1,s2,s3⟩:=s;have a:=Int.mul_nonneg (Int.le_of_lt u0) (h p gp);have b:=Int.mul_nonneg (Int.le_of_lt v0) (h q gq);have e:u*c5 p c+v*c5 q c=(u*p.1+v*q.1)*c.1+(u*p.2.1+v*q.2.1)*c.2.1-(u*p.2.2+v*q.2.2)*c.2.2:=by unfold c5;grind
  rw[s1,s2]at e;have:=Int.mul_pos s3 zc;omega
 | three p q r u v w gp gq gr u0 v0 w0 s=>
  obtain⟨s1,s2,s3⟩:=s;have a:=Int.mul_nonneg (Int.le_of_lt u0) (h p gp);have b:=Int.mul_nonneg (Int.le_of_lt v0) (h q gq);have d:=Int.mul_nonneg (Int.le_of_lt w0) (h r gr);have e:u*c5 p c+v*c5 q c+w*c5 r c=(u*p.1+v*q.1+w*r.1)*c.1+(u*p.2.1+v*q.2.1+w*r.2.1)*c.2.1-(u*p.2.2+v*q.2.2+w*r.2.2)*c.2.2:=by unfold c5;grind
  rw[s1,s2]at e;have:=Int.mul_pos s3 zc;omega
theorem EO {hs:List Hf}{G:Hf->Prop}(hG:∀ h∈hs,G h){pl:List Nat}{ws:List Int}(C:xL hs pl ws):∃ gs:List Hf,ij G gs ws/\pl.map (fun i=>hs[i]?)=gs.map some:=by
 cases C with
 | two i j p q u v hij ei ej u0 v0 s=>exact⟨[p,q],.two p q u v (hG p (List.mem_of_getElem? ei)) (hG q (List.mem_of_getElem? ej)) u0 v0 s,by simp[ei,ej]⟩
 | three i j k p q r u v w hij hjk ei ej ek u0 v0 w0 s=>exact⟨[p,q,r],.three p q r u v w (hG p (List.mem_of_getElem? ei)) (hG q (List.mem_of_getElem? ej)) (hG r (List.mem_of_getElem? ek)) u0 v0 w0 s,by simp[ei,ej,ek]⟩
structure Hq (ps:List Pt) (k:Nat) (s:bJ) (hs:List Hf) (ws:List Int):Prop where
 k1:1<=k
 kn:k<=ps.length
 ok:oC s
 sz:uS 5000 s
 dep:pz (ps.map (jA (aI s)))=k
 top:∀ c:Hf,0<c.2.2->pz (ps.map (jA c))<=k
 wz:∀ w∈ws,Sz 5000 w
 cert:(k=ps.length/\hs=[]/\ws=[])\/(k<ps.length/\ij (zC ps (k+1)) hs ws)
def fG:aR:=fun ss R=>∃ ps:List Pt,ss=[.t (.lst (ps.map bt))]/\ps≠[]/\ps.length<=7/\(∀ p∈ps,SzF 100 p)/\∀ k s hs ws,Hq ps k s hs ws->R (.t (.tup [.int (k:Int),spT s,.lst (hs.map aZ),.lst (ws.map .int)]))
def jr:WS:=
 (aG (xG (aB bw (af (ae 0) ao)))
 (aG (aP 1 (df b9 (af (ae 0) ao)))
 (aG (aP 2 (gR ao))
 (aG (aP 3 (gR ao))
 (aG (aP 4 (aB dZ (af (ae 0) (af (wC (.int 1)) ao))))
 (aG (aP 5 (aB dy (af (ae 4) ao)))
 (bL (sA (wB (lM (au aV (ae 5) (wC (.int 0))) (wC (.str "none")))) (aG (aP 2 (fM 1 [4] (cu (au aV (ae 5) (wC (.int 1)))) (aS 0) wj (au aV (ae 1) (ae 0))))
 (aG (aP 3 (au aV (ae 5) (wC (.int 2))))
 (aG (aP 1 (eR (ae 1) (wC (.int 1))))
 (aG (aP 4 (aB dZ (af (ae 0) (af (cm (eR (df b9 (af (ae 0) ao)) (ae 1)) (wC (.int 1))) ao))))
 (aP 5 (aB dy (af (ae 4) ao))))))))
 (DU (ae 1) (au aV (ae 5) (wC (.int 1)))))))))))
theorem tZ:∀ ss R,fG ss R->ss.length=1:=by rintro ss R ⟨a,rfl,_⟩;rfl
theorem yN {ps:List Pt}(hz:∀ p∈ps,SzF 110 p){k:Nat}{hs:List Hf}{ws:List Int}(hk1:1<=k)(hk:k<=ps.length)(C:ij (zC ps k) hs ws):∀ c:Hf,0<c.2.2->pz (ps.map (jA c))<k:=fun c zc=>by
 rcases Nat.lt_or_ge (pz (ps.map (jA c))) k with z|z
 ·exact z
 ·exact(ki C zc fun l hl=>(wL hz zc hk hk1).mp z l hl.1 hl.2).elim
theorem wU (a b:PySem.Str)(R:S->Prop):dL (.t (.str a)) (.t (.str b)) R=R (.t (.bl (a == b))):=by
 show(dep (.str a)<=20/\dep (.str b)<=20/\R (.t (.bl (a == b))))=_;exact propext ⟨fun h=>h.2.2,fun h=>⟨Nat.zero_le _,Nat.zero_le _,h⟩⟩
theorem Jw {s:bJ}(h:KQ s):oC s:=⟨⟨h.1.1,h.1.2⟩,⟨h.2.1,h.2.2⟩⟩
theorem vE:∀ ss R,fG ss R->jr {nx:=fun _=>False,rt:=R} (aD ["points","k","halves","weights","asked","told"] ss):=by
 rintro ss R ⟨ps,rfl,hne,hl,hz,h⟩;obtain⟨p0,pr,rfl⟩:∃ p0 pr,ps=p0::pr:=by
  cases ps with
  | nil=>exact absurd rfl hne
  | cons a b=>exact⟨a,b,rfl⟩
 show jr _ [some (.t (.lst ((p0::pr).map bt))),none,none,none,none,none]
 delta jr
 have hp0:p0∈p0::pr:=List.mem_cons_self;generalize hps:p0::pr=ps at *;have hlen:1<=ps.length:=by rw[<-hps];simp
 have hnp:∀ R:S->Prop,R (.t .non)->bw [.t (.lst (ps.map bt))] R:=fun R hR=>⟨bt p0,pr.map bt,by rw[<-hps];rfl,hR⟩
 have hz':∀ p∈ps,SzF 110 p:=fun p hp=>(hz p hp).mono3 (by decide)
 have dummy:Sz 1 0:=⟨by decide⟩
 walk_at "dl";refine hnp _ ?_;walk_at "dl";refine⟨ps,1,rfl,hne,hl,hz,fun Fh hB0=>?_⟩;have gh:∀ l:List Hf,got (.ol (l.map aZ))=.ol (l.map aZ):=fun l=>lx _ (c6 (fun _=>rfl) l);dsimp only;rw[gh];have mem:∀ (k:Nat) (hs:List Hf),lP ps hs->∀ l∈se ((ps.length:Int)-k+1) ps hs,zC ps k l:=fun k hs hB l hl=>by
  unfold se at hl;rw[List.mem_filter,hB.1,decide_eq_true_eq]at hl;exact⟨hl.1,by omega⟩
 have all:∀ (k:Nat) (hs:List Hf),lP ps hs->∀ l,zC ps k l->l∈se ((ps.length:Int)-k+1) ps hs:=fun k hs hB l hl=>by
  unfold se;rw[List.mem_filter,hB.1,decide_eq_true_eq];exact⟨hl.1,by have:=hl.2;omega⟩
 have oks:∀ (k:Nat) (hs:List Hf),lP ps hs->(∀ l∈se ((ps.length:Int)-k+1) ps hs,eC 400 l/\Nz l)/\(se ((ps.length:Int)-k+1) ps hs).length<=1000:=fun k hs hB=>by
  refine⟨fun l hl=>?_,Nat.le_trans (Nat.le_trans (List.length_filter_le ..) hB.2) (by decide)⟩
  have:=mB hz' (mem k hs hB l hl).1;exact⟨uA this.1 (by decide),this.2⟩
 let Td:Nat->List Hf->T->Prop:=fun k st t=>(∃ s:bJ,t=.tup [.str "spot",spT s]/\KQ s/\uS 5000 s/\∀ h∈st,0<=eY h s)\/∃ pl ws,t=lY pl ws/\xL st pl ws/\∀ w∈ws,Sz 5000 w
 let HW:Nat->S->S->Prop:=fun k v2 v3=>∃ (gs:List Hf) (ws:List Int),Ls v2 (gs.map aZ)/\Ls v3 (ws.map .int)/\(∀ w∈ws,Sz 5000 w)/\((k=ps.length/\gs=[]/\ws=[]/\v2=.ol []/\v3=.ol [])\/(k<ps.length/\ij (zC ps (k+1)) gs ws))
 let SP:Nat->aQ->Prop:=fun k δ=>∃ (s:bJ) (v2 v3 v4:S),δ=[some (.t (.lst (ps.map bt))),some (.t (.int (k:Int))),some v2,some v3,some v4,some (.t (.tup [.str "spot",spT s]))]/\KQ s/\uS 5000 s/\(∀ l,zC ps k l->0<=eY l s)/\HW k v2 v3/\1<=k/\k<=ps.length
 let NO:Nat->aQ->Prop:=fun k δ=>∃ (hs:List Hf) (pl:List Nat) (ws:List Int) (v2 v3:S),δ=[some (.t (.lst (ps.map bt))),some (.t (.int (k:Int))),some v2,some v3,some (.t (.lst ((se ((ps.length:Int)-k+1) ps hs).map aZ))),some (.t (lY pl ws))]/\lP ps hs/\xL (se ((ps.length:Int)-k+1) ps hs) pl ws/\(∀ w∈ws,Sz 5000 w)/\1<=k/\k<=ps.length
 let I:Nat->aQ->Prop:=fun k δ=>SP k δ\/NO k δ
 have inI:∀ (k:Nat) (hs:List Hf) (t:T) (v2 v3 v4:S) (o:Option S),lP ps hs->Td k (se ((ps.length:Int)-k+1) ps hs) t->HW k v2 v3->1<=k->k<=ps.length->(v4=.ol ((se ((ps.length:Int)-k+1) ps hs).map aZ)\/v4=.t (.lst ((se ((ps.length:Int)-k+1) ps hs).map aZ)))->I k (setS 5 (norm t) [some (.t (.lst (ps.map bt))),some (.t (.int (k:Int))),some v2,some v3,some v4,o]):=by
  rintro k hs t v2 v3 v4 o hB ht ⟨gs,ws',l2,l3,zw',hc⟩ hk1 hkn h4
  rcases ht with ⟨s,rfl,lo,sz,hh⟩|⟨pl,ws,rfl,C,zw⟩
  ·rw[FE (x:=.tup [.str "spot",spT s]) rfl];exact .inl ⟨s,v2,v3,v4,rfl,lo,sz,fun l hl=>hh l (all k hs hB l hl),⟨gs,ws',l2,l3,zw',hc⟩,hk1,hkn⟩
  ·have en:norm (lY pl ws)=.vt (lY pl ws):=rfl;rw[en];refine .inr ⟨hs,pl,ws,er v2,er v3,?_,hB,C,zw,hk1,hkn⟩
   rcases h4 with rfl|rfl <;> rfl
 have one:∀ hs ws,¬ ij (zC ps 1) hs ws:=fun hs ws C=>ki C (c:=fl p0) (show(0:Int)<1 by decide) fun l hl=>by
  have hm:=hl.2;have hle:fR l ps<=ps.length:=List.countP_le_length;have he:fR l ps=ps.length:=by omega
  exact(iQ l p0).mp (List.countP_eq_length.mp he p0 hp0)
 have shd:∀ (k:Nat) (hs:List Hf),lP ps hs->∀ R':S->Prop,(∀ t,Td k (se ((ps.length:Int)-k+1) ps hs) t->R' (.t t))->dy [.t (.lst ((se ((ps.length:Int)-k+1) ps hs).map aZ))] R':=fun k hs hB R' hR=>by
  obtain⟨o1,o2⟩:=oks k hs hB;exact⟨_,rfl,o1,o2,fun s lo sz hh=>hR _ (.inl ⟨s,rfl,lo,sz,hh⟩),fun pl ws C zw=>hR _ (.inr ⟨pl,ws,rfl,C,zw⟩)⟩
 have e1:(1:Int)=(ps.length:Int)-(ps.length:Nat)+1:=by omega
 have e0:se 1 ps Fh=se ((ps.length:Int)-(ps.length:Nat)+1) ps Fh:=congrArg (fun i=>se i ps Fh) e1;rw[e0];walk_at "dl";refine shd ps.length Fh hB0 _ fun t ht=>?_;rw[show got (.t t)=norm t from rfl];walk_at "dl";rw[List.length_map]
 let M:aQ->Prop:=fun δ=>∃ k,SP k δ
 refine⟨M,⟨I,⟨ps.length,inI ps.length Fh t _ _ _ _ hB0 ht ⟨[],[],.inl rfl,.inl rfl,fun w hw=>(by cases hw),.inl ⟨rfl,rfl,rfl,rfl,rfl⟩⟩ hlen (Nat.le_refl _) (by first|exact .inl rfl|exact .inr rfl)⟩,?_⟩,?_⟩
 ·rintro k δ (⟨s,v2,v3,v4,rfl,lo,sz,hh,hw,hk1,hkn⟩|⟨hs,pl,ws,v2,v3,rfl,hB,C,zw,hk1,hkn⟩)
  ·walk_at "dl";rw[wU];walk_at "dl";exact⟨k,s,v2,v3,v4,rfl,lo,sz,hh,hw,hk1,hkn⟩
  ·obtain⟨gs,cg,_⟩:=EO (mem k hs hB) C;have k2:2<=k:=by
    rcases Nat.lt_or_ge 1 k with z|z
    ·exact z
    ·have:k=1:=by omega
     subst this;exact(one _ _ cg).elim
   have ek:((List.map bt ps).length:Int)-((k:Int)-1)+1=(ps.length:Int)-((k-1:Nat):Int)+1:=by rw[List.length_map];omega
   have ek2:(k:Int)-1=((k-1:Nat):Int):=by omega
   have go:∀ gs':List Hf,ij (zC ps k) gs' ws->dZ [S.t (T.lst (List.map bt ps)),S.t (T.int (((List.map bt ps).length:Int)-((k:Int)-1)+1))] fun s=>
    look 4 (setS 4 (got s) [some (S.t (T.lst (List.map bt ps))),some (S.t (T.int ((k:Int)-1))),some (S.ol (gs'.map aZ)),some (S.t (T.lst (List.map T.int ws))),some (S.t (T.lst (List.map aZ (se ((ps.length:Int)-k+1) ps hs)))),some (S.t (T.tup [T.str (PySem.Str.ofString "none"),T.lst (List.map tM pl),T.lst (List.map T.int ws)]))]) fun s_1=>
     dy [iF (seen s_1)] fun s_2=>∃ m,m<k/\I m (setS 5 (got s_2) (setS 4 (got s) [some (S.t (T.lst (List.map bt ps))),some (S.t (T.int ((k:Int)-1))),some (S.ol (gs'.map aZ)),some (S.t (T.lst (List.map T.int ws))),some (S.t (T.lst (List.map aZ (se ((ps.length:Int)-k+1) ps hs)))),some (S.t (T.tup [T.str (PySem.Str.ofString "none"),T.lst (List.map tM pl),T.lst (List.map T.int ws)]))])):=fun gs' cg'=>by
    rw[ek,ek2];refine⟨ps,_,rfl,hne,hl,hz,fun wZ hB1=>?_⟩;dsimp only;rw[gh];walk_at "dl";refine shd (k-1) wZ hB1 _ fun t ht=>?_;rw[show got (.t t)=norm t from rfl];exact⟨k-1,by omega,inI (k-1) wZ t _ _ _ _ hB1 ht ⟨gs',ws,.inl rfl,.inr rfl,zw,.inr ⟨by omega,by rw[show k-1+1=k by omega];exact cg'⟩⟩ (by omega) (by omega) (.inl rfl)⟩
   unfold lY;walk_at "dl";rw[wU];walk_at "dl";rw[if_pos (by decide)]
   cases C with
   | two i j p q u v hij e1 e2 u0 v0 sm=>
    show lR _ _ _ [.int (i:Int),.int (j:Int)] _ _;refine iG ?_;walk_at "dl";rw[ca e1];walk_at "dl";refine⟨by simp,?_⟩
    rw[ca e2];walk_at "dl";refine⟨by simp,?_⟩
    exact go [p,q] (.two p q u v (mem k hs hB p (List.mem_of_getElem? e1)) (mem k hs hB q (List.mem_of_getElem? e2)) u0 v0 sm)
   | three i j l p q r u v w hij hjk e1 e2 e3 u0 v0 w0 sm=>
    show lR _ _ _ [.int (i:Int),.int (j:Int),.int (l:Int)] _ _;refine iG ?_;walk_at "dl";rw[ca e1];walk_at "dl";refine⟨by simp,?_⟩
    rw[ca e2];walk_at "dl";refine⟨by simp,?_⟩
    rw[ca e3];walk_at "dl";refine⟨by simp,?_⟩
    exact go [p,q,r] (.three p q r u v w (mem k hs hB p (List.mem_of_getElem? e1)) (mem k hs hB q (List.mem_of_getElem? e2)) (mem k hs hB r (List.mem_of_getElem? e3)) u0 v0 w0 sm)
 ·rintro δ ⟨k,s,v2,v3,v4,rfl,lo,sz,hh,⟨gs,ws,l2,l3,zw,hc⟩,hk1,hkn⟩
  try rw[Idq]
  walk_at "dl";have zc:0<(aI s).2.2:=Int.mul_pos lo.1.1 lo.2.1;have ge:k<=pz (ps.map (jA (aI s))):=(wL hz' zc hkn hk1).mpr fun l b m=>by
   have:=hh l ⟨b,m⟩;rw[lA]at this;exact this
  have top:∀ c:Hf,0<c.2.2->pz (ps.map (jA c))<=k:=fun c zc=>by
   rcases hc with ⟨rfl,_⟩|⟨lt,C⟩
   ·exact E1 ps c
   ·exact Nat.le_of_lt_succ (yN hz' (by omega) (by omega) C c zc)
  refine⟨_,_,v2,v3,_,_,rfl,rfl,rfl,rfl,l2,l3,fun z=>?_,h k s gs ws ⟨hk1,hkn,Jw lo,sz,Nat.le_antisymm (top _ zc) ge,top,zw,?_⟩⟩
  ·rcases hc with ⟨_,rfl,rfl,e2,e3⟩|⟨_,C⟩
   ·exact⟨rfl,e2,e3⟩
   ·cases C <;> cases z
  ·rcases hc with ⟨a,b,c,_⟩|c
   ·exact .inl ⟨a,b,c⟩
   ·exact .inr c
end Law
namespace Law
open L2 DL
set_option maxHeartbeats 4000000
theorem Bs {a b c:Int}(h:a≠0\/b≠0):cb (a.fdiv (cb a b c)) (b.fdiv (cb a b c)) (c.fdiv (cb a b c))=1:=by
 have hg:=qJ (c:=c) h;have ga:=bT (vi a b c);have gb:=bT (vj a b c);have gc:=bT (Br a b c);generalize hx:a.fdiv (cb a b c:Int)=x at ga ⊢;generalize hy:b.fdiv (cb a b c:Int)=y at gb ⊢;generalize hz:c.fdiv (cb a b c:Int)=z at gc ⊢;have e:cb a b c=cb a b c*cb x y z:=by
  have e1:cb (x*(cb a b c:Int)) (y*(cb a b c:Int)) (z*(cb a b c:Int))=cb x y z*cb a b c:=by
   show Int.gcd (Int.gcd (x*(cb a b c:Int)) (y*(cb a b c:Int)):Int) (z*(cb a b c:Int))=_;rw[Int.gcd_mul_right,Int.natAbs_natCast,Int.natCast_mul,Int.gcd_mul_right,Int.natAbs_natCast]
   rfl
  rw[ga,gb,gc]at e1;rw[Nat.mul_comm];exact e1
 have g0:0<cb a b c:=by omega
 exact(Nat.eq_of_mul_eq_mul_left g0 (by rw[Nat.mul_one];exact e.symm))
theorem LW {α:Type}{a b:α->Bool}:∀ {l:List α},(∀ x∈l,¬ (a x=true/\b x=true))->l.countP a+l.countP b<=l.length
 | [],_=>by simp
 | x::l,h=>by
  have:=LW (l:=l) fun y hy=>h y (List.mem_cons_of_mem _ hy);have hx:=h x List.mem_cons_self;rw[List.countP_cons,List.countP_cons,List.length_cons]
  by_cases p:a x=true <;> by_cases q:b x=true <;> simp only[p,q,if_true,if_false,Bool.false_eq_true]at hx ⊢ <;> first|omega|(simp at hx)
theorem LX {α:Type}{a b c:α->Bool}:∀ {l:List α},(∀ x∈l,¬ (a x=true/\b x=true/\c x=true))->l.countP a+l.countP b+l.countP c<=2*l.length
 | [],_=>by simp
 | x::l,h=>by
  have:=LX (l:=l) fun y hy=>h y (List.mem_cons_of_mem _ hy);have hx:=h x List.mem_cons_self;rw[List.countP_cons,List.countP_cons,List.countP_cons,List.length_cons]
  by_cases p:a x=true <;> by_cases q:b x=true <;> by_cases r:c x=true <;> simp only[p,q,r,if_true,if_false,Bool.false_eq_true]at hx ⊢ <;> first|omega|(simp at hx)
theorem GJ {ps:List Pt}{k:Nat}{gs:List Hf}{ws:List Int}(C:ij (zC ps (k+1)) gs ws):ps.length<=3*k:=by
 cases C with
 | two p q u v gp gq u0 v0 s=>
  have:=LW (l:=ps) (a:=iP p) (b:=iP q) fun x _ hx=>ki (G:=fun l=>l=p\/l=q) (.two p q u v (.inl rfl) (.inr rfl) u0 v0 s) (c:=fl x) (show(0:Int)<1 by decide) fun l hl=>by
   rcases hl with rfl|rfl
   ·exact(iQ _ x).mp hx.1
   ·exact(iQ _ x).mp hx.2
  have a:=gp.2;have b:=gq.2;unfold fR at a b;omega
 | three p q r u v w gp gq gr u0 v0 w0 s=>
  have:=LX (l:=ps) (a:=iP p) (b:=iP q) (c:=iP r) fun x _ hx=>ki (G:=fun l=>l=p\/l=q\/l=r) (.three p q r u v w (.inl rfl) (.inr (.inl rfl)) (.inr (.inr rfl)) u0 v0 w0 s) (c:=fl x) (show(0:Int)<1 by decide) fun l hl=>by
   rcases hl with rfl|rfl|rfl
   ·exact(iQ _ x).mp hx.1
   ·exact(iQ _ x).mp hx.2.1
   ·exact(iQ _ x).mp hx.2.2
  have a:=gp.2;have b:=gq.2;have c:=gr.2;unfold fR at a b c;omega
theorem z7 {ps:List Pt}{h:Hf}(hb:kc ps h):cb h.1 h.2.1 h.2.2=1:=by
 rcases hb with ⟨p,hp,hh⟩|⟨p,hp,q,hq,hne,rfl⟩
 ·simp only[zE,List.mem_cons,List.not_mem_nil,or_false]at hh
  rcases hh with rfl|rfl|rfl|rfl <;> (unfold cb;simp)
 ·unfold zD Je;refine Bs ?_
  rcases Decidable.em (p.2=q.2) with e|e
  ·exact .inr fun z=>hne (Prod.ext (by omega) e)
  ·exact .inl (by omega)
def cO:aR:=fun ss R=>∃ h:Hf,ss=[.t (aZ h)]/\Nz h/\cb h.1 h.2.1 h.2.2=1/\R (.t (.bl true))
def dW:aR:=fun ss R=>∃ ps:List Pt,(∀ p∈ps,SzF 100 p)/\ps.length<=7/\R (.t (.bl true)) ∧
 (
  (∃ v2,ss=[.ol [],.t (.lst []),v2,.t (.int (ps.length:Int))]/\Ls v2 (ps.map bt)) ∨
  ∃ (gs:List Hf) (ws:List Int) (k:Nat) (v2:S),ss=[.t (.lst (gs.map aZ)),.t (.lst (ws.map .int)),v2,.t (.int (k:Int))]/\Ls v2 (ps.map bt)/\k<ps.length/\ij (zC ps (k+1)) gs ws/\∀ w∈ws,Sz 5000 w)
def fU:WS:=
 (aG (ft (sv (fc (dP (wB (xH .tup (ae 0)))) (wB (zu (df b9 (af (ae 0) ao)) (wC (.int 3)))))) (bi (wC (.bl false))) aY)
 (aG (ft (wB (sG (df b9 (af (fM 1 [] (uG (ae 0)) (aS 0) (wB (aB bg (af (ae 0) ao))) (ae 0)) ao)) (wC (.int 3)))) (bi (wC (.bl false))) aY)
 (aG (ft (sv (iw (wB (lM (au aV (ae 0) (wC (.int 0))) (wC (.int 0)))) (wB (lM (au aV (ae 0) (wC (.int 1))) (wC (.int 0)))))) (bi (wC (.bl false))) aY)
 (bi (lM (aB bB (af (aB bB (af (au aV (ae 0) (wC (.int 0))) (af (au aV (ae 0) (wC (.int 1))) ao))) (af (au aV (ae 0) (wC (.int 2))) ao))) (wC (.int 1)))))))
def fv:WS:=
 (aG (ft (sv (fc (dP (wB (xH .lst (ae 0)))) (fc (dP (wB (xH .lst (ae 1)))) (wB (zu (df b9 (af (ae 0) ao)) (df b9 (af (ae 1) ao))))))) (bi (wC (.bl false))) aY)
 (aG (ft (wB (lM (ae 3) (df b9 (af (ae 2) ao)))) (aG (h9 0 (wC (.int 0)))
 (bi (pX (lM (ae 0) (gR (af (wC (.int 0)) ao))) (lM (ae 1) (gR ao))))) aY)
 (aG (ft (wB (DS (df b9 (af (ae 0) ao)) (gR (af (wC (.int 2)) (af (wC (.int 3)) ao))))) (bi (wC (.bl false))) aY)
 (aG (aP 4 (gR (af (wC (.int 0)) (af (wC (.int 0)) (af (wC (.int 0)) ao)))))
 (bL (gQ (DW (af (ae 0) (af (ae 1) ao))) (jL (cq (aS 5) (cq (aS 6) iy))) (aG (ft (sv (fc (dP (wB (aB cO (af (ae 5) ao)))) (fc (dP (wB (aB bg (af (ae 6) ao)))) (wB (sG (ae 6) (wC (.int 1))))))) (bi (wC (.bl false))) aY)
 (aG (ft (wB (sG (df b9 (af (fM 2 [5] (cu (ae 2)) (jL (cq (aS 0) (cq (aS 1) iy))) (wB (K2 (cm (bA (au aV (ae 2) (wC (.int 0))) (ae 0)) (bA (au aV (ae 2) (wC (.int 1))) (ae 1))) (au aV (ae 2) (wC (.int 2))))) (ae 0)) ao)) (eR (df b9 (af (ae 2) ao)) (ae 3)))) (bi (wC (.bl false))) aY)
 (gQ (fN (af (wC (.int 3)) ao)) (aS 7) (jd 4 (ae 7) (cm (au aV (ae 4) (ae 7)) (bA (ae 6) (au aV (ae 5) (ae 7)))))))))
 (bi (pX (lM (au aV (ae 4) (wC (.int 0))) (wC (.int 0))) (pX (lM (au aV (ae 4) (wC (.int 1))) (wC (.int 0))) (wg (au aV (ae 4) (wC (.int 2))) (wC (.int 0)))))))))))
def xJ:WS:=
 (aG (aP 1 (aB dH (af (ae 0) (af (wC (.int 13)) ao))))
 (aG (aP 2 (aB eP (af (ae 1) (af (au aV (gR (af (cm (wC (.int 1)) (ee (au aV (ae 1) (wC (.int 2))) (wC (.int 5)))) (af (cm (wC (.int 6)) (ee (au aV (ae 1) (wC (.int 2))) (wC (.int 2)))) ao))) (dI (ee (au aV (ae 1) (wC (.int 3))) (wC (.int 6))) (wC (.int 5)))) ao))))
 (aG (aP 3 (df gX (af (ae 2) ao)))
 (DP fG (ae 3) (sv (fc (dP (wB (xH .tup (ae 4)))) (fc (wB (zu (df b9 (af (ae 4) ao)) (wC (.int 4)))) (wB (zu (ae 3) (ae 2))))))
 (aG (ft (sv (fc (dP (wB (aB bg (af (ae 5) ao)))) (fc (dP (wB (aB cP (af (ae 6) ao)))) (fc (wB (zu (aB cI (af (ae 2) (af (ae 6) ao))) (ae 5))) (wB (sG (bA (wC (.int 3)) (ae 5)) (df b9 (af (ae 2) ao)))))))) (bi (wC (.bl false))) aY)
 (bL (gQ (cu (au yj (lO (ae 0) lN (pZ (wC (.int 4)))) (gR (af (au aV (ae 1) (wC (.int 12))) ao)))) (aS 9) (ft (wB (wg (aB cI (af (ae 2) (af (aB fk (af (ae 2) (af (ee (ae 9) (su (wC (.int 10)) (wC (.int 18)))) ao))) ao))) (ae 5))) (bi (wC (.bl false))) aY))
 (xI dW)))))))
theorem oV:∀ ss R,cO ss R->ss.length=1:=by rintro ss R ⟨a,rfl,_⟩;rfl
theorem t7:∀ ss R,dW ss R->ss.length=4:=by rintro ss R ⟨ps,_,_,_,⟨v2,rfl,_⟩|⟨gs,ws,k,v2,rfl,_⟩⟩ <;> rfl
theorem rL:∀ ss R,cO ss R->fU {nx:=fun _=>R (.t .non),rt:=R} (aD ["_law_found"] ss):=by
 rintro ss R ⟨⟨x,y,z⟩,rfl,hne,h1,h⟩;show fU _ [some (.t (.tup [.int x,.int y,.int z]))]
 delta fU
 walk_at "dl";refine⟨fun k=>k=false,?_,?_⟩
 ·walk_at "dl";simp
 rintro k rfl;walk_at "dl";refine iG ?_;walk_at "dl";refine cT x _ ?_;walk_at "dl"
 try refine⟨by simp,?_⟩
 refine cT y _ ?_;walk_at "dl"
 try refine⟨by simp,?_⟩
 refine cT z _ ?_;walk_at "dl"
 try refine⟨by simp,?_⟩
 rw[if_neg (by decide)]
 refine⟨fun k=>k=false,?_,?_⟩
 ·walk_at "dl";have hne:x≠0\/y≠0:=hne
  split
  ·rename_i e;omega
  ·trivial
 rintro k rfl;walk_at "dl";refine⟨_,_,rfl,?_⟩;walk_at "dl";refine⟨_,_,rfl,?_⟩;walk_at "dl";rw[show(Int.gcd (Int.gcd x y:Int) z)=1 from h1];exact h
theorem FH {k:Int}(R:S->Prop)(h:k=2\/k=3)(hR:R (.t (.bl false))):ny (.t (.int k)) (.ol [.int 2,.int 3]) R:=by
 unfold ny;show _/\_/\_;refine⟨Nat.zero_le _,by decide,?_⟩
 rcases h with rfl|rfl <;> exact hR
theorem iE (g:WG)(wb:WS)(D:dh)(δ:aQ):jS g wb [] D δ=D.nx δ:=rfl
theorem lh (g:WG)(wb:WS)(x:T)(r:List T)(D:dh)(δ:aQ):jS g wb (x::r) D δ=g x δ fun δ1=>wb {nx:=fun δ2=>jS g wb r D δ2,rt:=D.rt,bk:=D.nx,ct:=fun δ2=>jS g wb r D δ2} δ1:=rfl
theorem Oc (i:Nat)(δ:aQ)(N:aQ->Prop)(a b c x:T):DE i δ N [a,b,c] (.t x) (.t (.int 0))=N (δ.set i (some (.ol [x,b,c]))):=rfl
def My:WS:=
 (aG (ft (sv (fc (dP (wB (aB cO (af (ae 5) ao)))) (fc (dP (wB (aB bg (af (ae 6) ao)))) (wB (sG (ae 6) (wC (.int 1))))))) (bi (wC (.bl false))) aY)
 (aG (ft (wB (sG (df b9 (af (fM 2 [5] (cu (ae 2)) (jL (cq (aS 0) (cq (aS 1) iy))) (wB (K2 (cm (bA (au aV (ae 2) (wC (.int 0))) (ae 0)) (bA (au aV (ae 2) (wC (.int 1))) (ae 1))) (au aV (ae 2) (wC (.int 2))))) (ae 0)) ao)) (eR (df b9 (af (ae 2) ao)) (ae 3)))) (bi (wC (.bl false))) aY)
 (gQ (fN (af (wC (.int 3)) ao)) (aS 7) (jd 4 (ae 7) (cm (au aV (ae 4) (ae 7)) (bA (ae 6) (au aV (ae 5) (ae 7))))))))
theorem iX {ps:List Pt}{k:Nat}{h:Hf}{w a b c:Int}{v2:S}{gs:List Hf}{ws:List Int}{r7:Option S}{D:dh}(h7:r7=none\/r7=some (.t (.int 2)))(hz:∀ p∈ps,SzF 100 p)(hl:ps.length<=7)(l2:Ls v2 (ps.map bt))(g:zC ps (k+1) h)(w0:0<w)(sw:Sz 5000 w)
  (N:∀ v2':S,Ls v2' (ps.map bt)->D.nx [some (.t (.lst (gs.map aZ))),some (.t (.lst (ws.map .int))),some v2',some (.t (.int (k:Int))),some (.ol [.int (a+w*h.1),.int (b+w*h.2.1),.int (c+w*h.2.2)]),some (.t (aZ h)),some (.t (.int w)),some (.t (.int 2))]) :
  My D [some (.t (.lst (gs.map aZ))),some (.t (.lst (ws.map .int))),some v2,some (.t (.int (k:Int))),some (.ol [.int a,.int b,.int c]),some (.t (aZ h)),some (.t (.int w)),r7]:=by
 have hz':∀ p∈ps,SzF 110 p:=fun p hp=>(hz p hp).mono3 (by decide)
 have ok:=mB hz' g.1;unfold My;have many:∀ R:List T->Prop,(∀ acc:List T,(ps.length:Int)-k<=(acc.length:Int)->R acc)->lR (jL (cq (aS 0) (cq (aS 1) iy))) (wB (K2 (cm (bA (au aV (ae 2) (wC (T.int 0))) (ae 0)) (bA (au aV (ae 2) (wC (T.int 1))) (ae 1))) (au aV (ae 2) (wC (T.int 2))))) (ae 0) (List.map bt ps) [none,none,some (.t (aZ h))] R:=fun R hR=>by
  refine dj (f:=bt) (h:=fun p=>.int p.1) (p:=iP h) (l:=ps) (fun δ=>∃ r0 r1,δ=[r0,r1,some (.t (aZ h))]) (fun _ _=>rfl) (by omega) ⟨_,_,rfl⟩ ?_ ?_
  ·rintro⟨x,y⟩ hm δ ⟨r0,r1,rfl⟩ Y M hY hN;obtain⟨sx,sy⟩:=hz _ hm;walk_at "dl";refine⟨cA ok.1.1 sx (by decide) (by decide),cA ok.1.2.1 sy (by decide) (by decide),?_⟩
   split
   ·rename_i c;exact hY _ ⟨_,_,rfl⟩ (by unfold iP;simp;omega)
   ·rename_i c;exact hN _ ⟨_,_,rfl⟩ (by unfold iP;simp;omega)
  ·refine hR _ ?_;rw[List.length_map,<-List.countP_eq_length_filter];have:=g.2;unfold fR at this;omega
 rcases l2 with rfl|rfl <;> rcases h7 with rfl|rfl
 all_goals(
  walk_at "dl";refine⟨fun b=>b=false,?_,?_⟩
  ·walk_at "dl";refine⟨h,rfl,ok.2,z7 g.1,?_⟩;walk_at "dl";refine cT w _ ?_;walk_at "dl";omega
  rintro b rfl;walk_at "dl";refine many _ fun acc hacc=>?_;rw[List.length_map,if_neg (by omega)]
  refine⟨lZ (by decide) (by decide),ku ?_⟩
  rw[show cL 0 3=[.int 0,.int 1,.int 2] from rfl];simp only[iE,lh];walk_at "dl";refine⟨cA sw ok.1.1 (by decide) (by decide),?_⟩
  rw[Oc];walk_at "dl";refine⟨cA sw ok.1.2.1 (by decide) (by decide),?_⟩
  rw[ML];walk_at "dl";refine⟨cA sw ok.1.2.2 (by decide) (by decide),?_⟩
  rw[MM];exact N _ (by first|exact .inl rfl|exact .inr rfl))
theorem vI:∀ ss R,dW ss R->fv {nx:=fun _=>R (.t .non),rt:=R} (aD ["_law_halves","_law_weights","_law_points_here","_law_k","_law_sums","_law_one","_law_weight","_law_j"] ss):=by
 rintro ss R ⟨ps,hz,hl,h,⟨v2,rfl,l2⟩|⟨gs,ws,k,v2,rfl,l2,kn,C,zw⟩⟩
 ·show fv _ [some (.ol []),some (.t (.lst [])),some v2,some (.t (.int (ps.length:Int))),none,none,none,none]
  delta fv
  rcases l2 with rfl|rfl
  all_goals(
   walk_at "dl";refine⟨fun k=>k=false,?_,?_⟩
   ·walk_at "dl";simp
   rintro k rfl;walk_at "dl";rw[List.length_map,if_pos rfl];refine⟨by decide,by show(_:Nat)<=20;decide,by show(_:Nat)<=20;decide,?_⟩
   rw[show L6 (S.vt (T.lst [T.int 0])) (S.ol [T.int 0])=true from rfl];walk_at "dl";refine⟨by show(_:Nat)<=20;decide,by show(_:Nat)<=20;decide,?_⟩
   exact h)
 ·show fv _ [some (.t (.lst (gs.map aZ))),some (.t (.lst (ws.map .int))),some v2,some (.t (.int (k:Int))),none,none,none,none]
  delta fv
  rcases l2 with rfl|rfl
  all_goals(
   walk_at "dl";refine⟨fun k=>k=false,?_,?_⟩
   ·walk_at "dl"
    cases C <;> simp
   rintro b rfl;walk_at "dl";rw[List.length_map,if_neg (by omega)]
   refine FH _ (by cases C <;> simp) ?_
   walk_at "dl";refine⟨fun δ=>∃ (E:Int) (v2:S) (r5 r6 r7:Option S),δ=[some (.t (.lst (gs.map aZ))),some (.t (.lst (ws.map .int))),some v2,some (.t (.int (k:Int))),some (.ol [.int 0,.int 0,.int E]),r5,r6,r7]/\0<E,?_,?_⟩
   ·walk_at "dl"
    cases C with
    | two p q u v gp gq u0 v0 sm=>
     obtain⟨s1,s2,s3⟩:=sm;rw[show j9 (List.map aZ [p,q]) (List.map T.int [u,v])=[.tup [aZ p,.int u],.tup [aZ q,.int v]] from rfl];refine ku ?_;simp only[iE,lh,lj,jf,li,jg,List.set_cons_zero,List.set_cons_succ];refine iX (gs:=[p,q]) (ws:=[u,v]) (.inl rfl) hz hl (by first|exact .inl rfl|exact .inr rfl) gp u0 (zw u (by simp)) fun v2 l2=>?_
     simp only[iE,lh,lj,jf,li,jg,List.set_cons_zero,List.set_cons_succ];refine iX (gs:=[p,q]) (ws:=[u,v]) (.inr rfl) hz hl l2 gq v0 (zw v (by simp)) fun v2 l2=>?_
     simp only[iE];refine⟨_,_,_,_,_,by rw[show(0:Int)+u*p.1+v*q.1=0 by omega,show(0:Int)+u*p.2.1+v*q.2.1=0 by omega],by omega⟩
    | three p q r u v w gp gq gr u0 v0 w0 sm=>
     obtain⟨s1,s2,s3⟩:=sm;rw[show j9 (List.map aZ [p,q,r]) (List.map T.int [u,v,w])=[.tup [aZ p,.int u],.tup [aZ q,.int v],.tup [aZ r,.int w]] from rfl];refine ku ?_;simp only[iE,lh,lj,jf,li,jg,List.set_cons_zero,List.set_cons_succ];refine iX (gs:=[p,q,r]) (ws:=[u,v,w]) (.inl rfl) hz hl (by first|exact .inl rfl|exact .inr rfl) gp u0 (zw u (by simp)) fun v2 l2=>?_
     simp only[iE,lh,lj,jf,li,jg,List.set_cons_zero,List.set_cons_succ];refine iX (gs:=[p,q,r]) (ws:=[u,v,w]) (.inr rfl) hz hl l2 gq v0 (zw v (by simp)) fun v2 l2=>?_
     simp only[iE,lh,lj,jf,li,jg,List.set_cons_zero,List.set_cons_succ];refine iX (gs:=[p,q,r]) (ws:=[u,v,w]) (.inr rfl) hz hl l2 gr w0 (zw w (by simp)) fun v2 l2=>?_
     simp only[iE];refine⟨_,_,_,_,_,by rw[show(0:Int)+u*p.1+v*q.1+w*r.1=0 by omega,show(0:Int)+u*p.2.1+v*q.2.1+w*r.2.1=0 by omega],by omega⟩
   rintro δ ⟨E,v2,r5,r6,r7,rfl,hE⟩;walk_at "dl";rw[decide_eq_true hE];exact h)
theorem NR (ns:List Int):lr (ns.map .int) none (some 4)=(ns.take 4).map .int:=by
 unfold lr;rw[show(some (4:Int))=some ((4:Nat):Int) from rfl,HT.sIx_nat,HT.sIx_none,List.length_map,List.drop_zero,Nat.sub_zero,<-List.map_take]
 rcases Nat.le_total 4 ns.length with h|h
 ·rw[Nat.min_eq_left h]
 ·rw[Nat.min_eq_right h,List.take_of_length_le (Nat.le_refl _),List.take_of_length_le h]
def Mo:WS:=
 (aG (ft (sv (fc (dP (wB (aB bg (af (ae 5) ao)))) (fc (dP (wB (aB cP (af (ae 6) ao)))) (fc (wB (zu (aB cI (af (ae 2) (af (ae 6) ao))) (ae 5))) (wB (sG (bA (wC (.int 3)) (ae 5)) (df b9 (af (ae 2) ao)))))))) (bi (wC (.bl false))) aY)
 (bL (gQ (cu (au yj (lO (ae 0) lN (pZ (wC (.int 4)))) (gR (af (au aV (ae 1) (wC (.int 12))) ao)))) (aS 9) (ft (wB (wg (aB cI (af (ae 2) (af (aB fk (af (ae 2) (af (ee (ae 9) (su (wC (.int 10)) (wC (.int 18)))) ao))) ao))) (ae 5))) (bi (wC (.bl false))) aY))
 (xI dW)))
def OT (ps:List Pt)(k:Nat)(v7 v8:S):Prop:=(v7=.ol []/\v8=.t (.lst [])/\k=ps.length)\/∃ (gs:List Hf) (ws:List Int),v7=.t (.lst (gs.map aZ))/\v8=.t (.lst (ws.map .int))/\k<ps.length/\ij (zC ps (k+1)) gs ws/\∀ w∈ws,Sz 5000 w
theorem tU {ns hd:List Int}{ps:List Pt}{k:Nat}{s:bJ}{v1 v2 v3 v7 v8:S}{r4:Option S}{R:S->Prop}(hn:ns.length<=63)(hdl:hd.length=13)(hdb:∀ v∈hd,0<=v/\v<big)(hps:ps≠[])(hl7:ps.length<=7)(hz:∀ p∈ps,SzF 100 p)
  (ok:oC s) (sz:uS 5000 s) (dep:pz (ps.map (jA (aI s)))=k) (top:∀ c:Hf,0<c.2.2->pz (ps.map (jA c))<=k) (k3:ps.length<=3*k) (h1:Ls v1 (hd.map .int)) (h2:Ls v2 (ps.map bt)) (P:OT ps k v7 v8) (h:R (.t (.bl true))) :
  Mo {nx:=fun _=>R (.t .non),rt:=R} [some (.t (.lst (ns.map .int))),some v1,some v2,some v3,r4,some (.t (.int (k:Int))),some (.t (spT s)),some v7,some v8,none]:=by
 have dummy:Sz 1 0:=⟨by decide⟩
 have hz12:∀ p∈ps,SzF 120 p:=fun p hp=>(hz p hp).mono3 (by decide)
 unfold Mo;walk_at "dl";refine⟨fun b=>b=false,?_,?_⟩
 ·rcases h2 with rfl|rfl
  all_goals(
   walk_at "dl";refine cT _ _ ?_;walk_at "dl";refine⟨s,rfl,ok,?_⟩;walk_at "dl";refine⟨ps,s,rfl,by omega,hz12,uB sz (by decide),?_⟩
   rw[dep];walk_at "dl";rw[if_neg (by simp)]
   exact⟨by walk_at "mul",by rw[List.length_map];omega⟩)
 rintro b rfl;rw[if_neg (by decide)]
 walk_at "dl"
 let M:aQ->Prop:=fun δ=>∃ (v1 v2 v3:S) (r4 r6 r9:Option S),δ=[some (.t (.lst (ns.map .int))),some v1,some v2,some v3,r4,some (.t (.int (k:Int))),r6,some v7,some v8,r9]/\Ls v1 (hd.map .int)/\Ls v2 (ps.map bt)
 refine⟨M,?_,?_⟩
 ·rcases h1 with rfl|rfl
  all_goals(
   walk_at "dl"
   first
   | (refine qK (i:=12) (by omega) hdb fun v12 _ _=>?_)
   | (refine wY (i:=12) (by omega) hdb fun v12 _ _=>?_)
   walk_at "dl";rw[NR,show [T.int v12]=[v12].map T.int from rfl,<-List.map_append];refine⟨by rw[List.length_map,List.length_take];omega,?_⟩
   refine Fb (f:=T.int) M ⟨_,_,_,_,_,_,rfl,by first|exact .inl rfl|exact .inr rfl,h2⟩ (fun δ z=>z) ?_
   rintro c hc δ ⟨v1',v2',v3',r4',r6',r9',rfl,h1',h2'⟩ N hN
   rcases h2' with rfl|rfl
   all_goals(
    walk_at "go";refine⟨ps,_,rfl,hps,by omega,hz,fun s' ok' zs=>?_⟩
    walk_at "dl";refine⟨ps,s',rfl,by omega,hz12,uB zs (by decide),?_⟩
    walk_at "dl";rw[if_neg (by have:=top _ (oz ok');omega)]
    exact hN _ ⟨_,_,_,_,_,_,rfl,h1',by first|exact .inl rfl|exact .inr rfl⟩))
 ·rintro δ ⟨v1,v2,v3,r4,r6,r9,rfl,h1,h2⟩;rw[Eo];refine⟨v7,v8,v2,_,rfl,rfl,rfl,rfl,ps,hz,hl7,⟨_,rfl,h⟩,?_⟩
  rcases P with ⟨rfl,rfl,e⟩|⟨gs,ws,rfl,rfl,kn,C,zw⟩
  ·exact .inl ⟨v2,by rw[e],h2⟩
  ·exact .inr ⟨gs,ws,k,v2,rfl,h2,kn,C,zw⟩
theorem JG:∀ ss R,pU ss R->xJ {nx:=fun _=>R (.t .non),rt:=R} (aD ["_law_script","_law_head","_law_points_here","_law_handed","_law_found","_law_k","_law_spot_here","_law_halves","_law_weights","_law_cell"] ss):=by
 rintro ss R ⟨ns,rfl,hn,h⟩;have dummy:Sz 1 0:=⟨by decide⟩
 show xJ _ [some (.t (.lst (ns.map .int))),none,none,none,none,none,none,none,none,none]
 delta xJ
 walk_at "dl";refine⟨ns,13,rfl,hn,by decide,by decide,fun hd hdl hdb=>?_⟩
 walk_at "dl";refine qK (i:=2) (by omega) hdb fun v2 _ _=>?_
 have b1:=fmod_lo v2 (n:=5) (by decide)
 have b2:=fmod_hi v2 (n:=5) (by decide)
 walk_at "go";refine qK (i:=2) (by omega) hdb fun w2 _ _=>?_
 have b3:=fmod_lo w2 (n:=2) (by decide)
 have b4:=fmod_hi w2 (n:=2) (by decide)
 walk_at "go";refine qK (i:=3) (by omega) hdb fun v3 _ _=>?_
 have b5:=fmod_lo v3 (n:=6) (by decide)
 have b6:=fmod_hi v3 (n:=6) (by decide)
 walk_at "go";have ix:(v3.fmod 6).fdiv 5=0\/(v3.fmod 6).fdiv 5=1:=by
  generalize v3.fmod 6=x at *;have:x=0\/x=1\/x=2\/x=3\/x=4\/x=5:=by omega
  rcases this with rfl|rfl|rfl|rfl|rfl|rfl <;> decide
 obtain⟨m,m1,m7,em⟩:∃ m:Int,1<=m/\m<=7/\∀ R:S->Prop,atT [T.int (1+v2.fmod 5),T.int (6+w2.fmod 2)] ((v3.fmod 6).fdiv 5) R=R (.t (.int m)):=by
  rcases ix with e|e
  ·exact⟨1+v2.fmod 5,by omega,by omega,fun R=>by rw[e];rfl⟩
  ·exact⟨6+w2.fmod 2,by omega,by omega,fun R=>by rw[e];rfl⟩
 rw[em];refine⟨hd,m,rfl,by omega,hdb,m1,by omega,fun ps hl hE=>?_⟩
 have g:∀ l:List Pt,got (.ol (l.map bt))=.ol (l.map bt):=fun l=>lx _ (xt l);have g2:∀ l:List bJ,got (.ol (l.map spT))=.ol (l.map spT):=fun l=>lx _ (c6 (fun _=>rfl) l);dsimp only;rw[g];walk_at "dl";have hps:ps≠[]:=fun e=>by rw[e]at hl;simp at hl;omega
 have hl7:ps.length<=7:=by omega
 have hz:∀ p∈ps,SzF 100 p:=fun p hp=>⟨(Aq (hE p hp).1).mono (by decide),(Aq (hE p hp).2).mono (by decide)⟩
 have hz12:∀ p∈ps,SzF 120 p:=fun p hp=>(hz p hp).mono3 (by decide)
 rw[HI];walk_at "dl";refine⟨ps,rfl,hps,hl7,hz,fun k s gs ws K=>⟨_,_,_,_,rfl,by decide,rfl,rfl,fun b=>b=false,?_,?_⟩⟩
 ·walk_at "dl";simp
 rintro b rfl;refine⟨rfl,fun ne=>?_,fun e=>?_⟩
 ·rcases K.cert with ⟨_,rfl,_⟩|⟨kn,C⟩
  ·exact absurd rfl ne
  ·exact tU hn hdl hdb hps hl7 hz K.ok K.sz K.dep K.top (GJ C) (.inr rfl) (.inr rfl) (.inr ⟨gs,ws,rfl,rfl,kn,C,K.wz⟩) h
 ·rcases K.cert with ⟨kn,rfl,rfl⟩|⟨_,C⟩
  ·exact tU hn hdl hdb hps hl7 hz K.ok K.sz K.dep K.top (by omega) (.inl rfl) (.inl rfl) (.inl ⟨rfl,rfl,kn⟩) h
  ·cases C <;> cases e
end Law
namespace PySem.W.Fast
def tw13789155844662614503:Nat:=0
def tw4294219996707947289:Nat:=0
def tw5437655663998147691:Nat:=0
def tw10796795926739709745:Nat:=0
def tw17666564001143252237:Nat:=0
def tw11372009891974363714:Nat:=0
def tw16577040780191859824:Nat:=0
def tw459392111125170150:Nat:=0
def tw16626703469686993301:Nat:=0
def tw6866401387927323085:Nat:=0
def tw9531210422537466838:Nat:=0
def tw9817569717420682001:Nat:=0
def tw9934816317202440258:Nat:=0
def tw9450739130555221911:Nat:=0
def tw838273223390641772:Nat:=0
def tw13302273767205878783:Nat:=0
def tw10079788045322368970:Nat:=0
def tw15454882340106361759:Nat:=0
def tw10584999200541692798:Nat:=0
def tw750924029254034374:Nat:=0
def tw13531049318052907310:Nat:=0
def tw10498384258871178196:Nat:=0
def tw8676395988146569532:Nat:=0
def tw2579098513213528135:Nat:=0
def tw17157304476535959638:Nat:=0
def tw154643988678293108:Nat:=0
def tw16452435331694108992:Nat:=0
def tw7896985966216023841:Nat:=0
def tw5090496430526881262:Nat:=0
def tw16687360363618797814:Nat:=0
def tw3719192528948341620:Nat:=0
def tw2329494972869860339:Nat:=0
def tw3133414268341925408:Nat:=0
def tw3859384227358922278:Nat:=0
def tw16445478627727977927:Nat:=0
def tw12235409684845364968:Nat:=0
def tw8618753288016017709:Nat:=0
def tw12786470033679737508:Nat:=0
def tw2335891118820102493:Nat:=0
def tw8770345446737340159:Nat:=0
def tw4563734245644798638:Nat:=0
def tw6174084109987417837:Nat:=0
def tw14382761172910416168:Nat:=0
def tw8314760344034693153:Nat:=0
def tw7557146506304315007:Nat:=0
def tw2064506442067636451:Nat:=0
def tw10695310629895957814:Nat:=0
def tw15573694804688270833:Nat:=0
def tw12041839855573391350:Nat:=0
def tw11192600893180643059:Nat:=0
def tw10719288512443937482:Nat:=0
def tw7530249742397302082:Nat:=0
def tw5298506022651106990:Nat:=0
def tw10687926704483491685:Nat:=0
def tw12916227664900032894:Nat:=0
def tw3743093220327329291:Nat:=0
def tw3909830549501935487:Nat:=0
def tw6420510417497702182:Nat:=0
def tw9148261408991278294:Nat:=0
def tw13708122632037760200:Nat:=0
def tw3503897936141273444:Nat:=0
def tw12582583537973331471:Nat:=0
def tw5968088559640171003:Nat:=0
def tw8778903825951540040:Nat:=0
def tw15344434782922376623:Nat:=0
def tw8338553714309700604:Nat:=0
def tw12627567019030470471:Nat:=0
def tw15075464247578529426:Nat:=0
def tw12891485342847331240:Nat:=0
def tw13291544379112988186:Nat:=0
def tw6084989531587585483:Nat:=0
def tw11487350214045413623:Nat:=0
def tw12794346455010457666:Nat:=0
def tw1444097032112945479:Nat:=0
def tw5287443480201186047:Nat:=0
def tw6666681789872303275:Nat:=0
def tw11859020959421015063:Nat:=0
def tw9441760496401553244:Nat:=0
def tw18410392212616664833:Nat:=0
def tw3472873714673819528:Nat:=0
def tw16511675332042524482:Nat:=0
def tw16154064794040538485:Nat:=0
def tw1894202968860116869:Nat:=0
def tw7904672612415202038:Nat:=0
def tw15710530277249796746:Nat:=0
def tw5827253952259633668:Nat:=0
def tw12514137883160821481:Nat:=0
def tw8913303026780630216:Nat:=0
def tw18042670346378828535:Nat:=0
def tw15116343749979318868:Nat:=0
def tw14767700665657793429:Nat:=0
def tw15627708142635118572:Nat:=0
def tw5875152290547913340:Nat:=0
def tw12389721276289178413:Nat:=0
def tw458862361943355693:Nat:=0
def tw11079114795067312051:Nat:=0
def tw18382684902007550902:Nat:=0
def tw5343685938937715460:Nat:=0
def tw16955992365983397511:Nat:=0
def tw154853692812469312:Nat:=0
def tw3344043953652472711:Nat:=0
def tw16295432446835349344:Nat:=0
def tw9287289545227022190:Nat:=0
def tw5636489428094760087:Nat:=0
def tw6926073028201303611:Nat:=0
def tw4752388472610620163:Nat:=0
def tw8257066286016700085:Nat:=0
def tw6768067529173846398:Nat:=0
def tw15461384150524567534:Nat:=0
def tw16828557771261485302:Nat:=0
def tw3840866230469388204:Nat:=0
def tw18204337025749223297:Nat:=0
def tw2556873986265460150:Nat:=0
def tw13744160304024461768:Nat:=0
def tw8520500151152121071:Nat:=0
def tw4938118834363334280:Nat:=0
def tw405429082871011674:Nat:=0
def tw4786896843878372938:Nat:=0
def tw14946986424434517042:Nat:=0
def tw9613882264982630299:Nat:=0
def tw1505337071372626310:Nat:=0
def tw11858996932404313007:Nat:=0
def tw11666134622482928920:Nat:=0
end PySem.W.Fast
namespace Law
open PySem PyProof.Rows L2 DL
set_option maxHeartbeats 4000000
def top (i:Nat):Stmt:=PySem.Challenge.pw_deepspot_k43_whole_deepest.main.body.getD i (.Pass ⟨0,0,0,0⟩)
abbrev Rm (A:Around)(s:Shared)(f:Addr)(cdv:Value)(k:Nat)(n:Str)(st:Stmt):Prop:=b7 k (A.deeper (envOfC n (aj st) s.heap.objs.size f cdv))
abbrev Bd (P:Program)(w:World)(K:PySem.W.Frag)(mg:Str->Option Value)(base:Heap)(f:Addr)(cdv:Value)(A:Around)(outer:List Env)(s:Shared)(H:Hp)(E:XK)(N:List Str)(n:Str)(st:Stmt)(u:WS):Prop:=gS (mi sE P w K mg base N n (aj st) f cdv A outer s H E).nox (cw st) (bC K H u)
section
variable {P:Program}{w:World}{K:PySem.W.Frag}{mg:Str->Option Value}{base:Heap}{f:Addr}{cdv:Value}{A:Around}{outer:List Env}{s:Shared}{H:Hp}{E:XK}
abbrev gH:Stmt:=top 6
theorem dU:aA ["one","other","greater","lesser","rest"] ["one","other"] (aj gH):=⟨rfl,rfl,rfl,by decide +kernel,rfl,by decide +kernel,by decide +kernel⟩
theorem xT (m_abs:mg "abs"=none) (hr:Rm A s f cdv 0 "divisor" gH):Bd P w K mg base f cdv A outer s H E ["one","other","greater","lesser","rest"] "divisor" gH js:=
 (ah (aq (i:=2) dU.nd (fw m_abs (aa (dv 0) ag)))
 (ah (aq (i:=3) dU.nd (fw m_abs (aa (dv 1) ag)))
 (aL (nh PassesOwn.never (iM hr (dv 3) ab) (ah (aq (i:=4) dU.nd (bF (dv 2) (dv 3)))
 (ah (aq (i:=2) dU.nd (dv 3))
 (ai (aq (i:=3) dU.nd (dv 4))))))
 (ai (mD (pv 2))))))
abbrev kK:Stmt:=top 7
theorem oh:aA ["top","bottom","common"] ["top","bottom"] (aj kK):=⟨rfl,rfl,rfl,by decide +kernel,rfl,by decide +kernel,by decide +kernel⟩
theorem EK (c_divisor:Callee P w K mg base 1 "divisor" bP) (hr:Rm A s f cdv 1 "ratio" kK):Bd P w K mg base f cdv A outer s H E ["top","bottom","common"] "ratio" kK mP:=
 (ah (bf (dm hr (dv 1) ab) (ai m9) aH)
 (ah (aq (i:=2) oh.nd (av c_divisor (hr.mono (by decide)) rfl (aa (dv 0) (aa (dv 1) ag))))
 (aL (bf (iq (dv 1) ab) (ai (aq (i:=2) oh.nd (iJ (dv 2)))) aH)
 (ai (aC (bx (aa (bR (dv 0) (dv 2)) (aa (bR (dv 1) (dv 2)) ag))))))))
abbrev kI:Stmt:=top 8
theorem DC:aA ["one","other"] ["one","other"] (aj kI):=⟨rfl,rfl,rfl,by decide +kernel,rfl,by decide +kernel,by decide +kernel⟩
theorem EI (hr:Rm A s f cdv 0 "below" kI):Bd P w K mg base f cdv A outer s H E ["one","other"] "below" kI mN:=
 (ai (aC (LZ (aM (al (dv 0) ab) (al (dv 1) ab)) (aM (al (dv 1) ab) (al (dv 0) ab)))))
abbrev n8:Stmt:=top 10
theorem xw:aA ["a","b","c","common"] ["a","b","c"] (aj n8):=⟨rfl,rfl,rfl,by decide +kernel,rfl,by decide +kernel,by decide +kernel⟩
theorem Iq (c_divisor:Callee P w K mg base 1 "divisor" bP) (hr:Rm A s f cdv 1 "half" n8):Bd P w K mg base f cdv A outer s H E ["a","b","c","common"] "half" n8 sB:=
 (ah (bf (jC (PW.pt (f7 (dm hr (dv 0) ab) (eZ (dm hr (dv 1) ab))))) (ai m9) aH)
 (ah (aq (i:=3) xw.nd (av c_divisor (hr.mono (by decide)) rfl (aa (av c_divisor (hr.mono (by decide)) rfl (aa (dv 0) (aa (dv 1) ag))) (aa (dv 2) ag))))
 (ai (aC (bx (aa (bR (dv 0) (dv 3)) (aa (bR (dv 1) (dv 3)) (aa (bR (dv 2) (dv 3)) ag))))))))
abbrev gF:Stmt:=top 11
theorem j4:aA ["one","other","a","b"] ["one","other"] (aj gF):=⟨rfl,rfl,rfl,by decide +kernel,rfl,by decide +kernel,by decide +kernel⟩
theorem xQ (c_half:Callee P w K mg base 2 "half" kM) (hr:Rm A s f cdv 2 "between" gF):Bd P w K mg base f cdv A outer s H E ["one","other","a","b"] "between" gF jp:=
 (ah (aq (i:=2) j4.nd (bI (al (dv 0) ab) (al (dv 1) ab)))
 (ah (aq (i:=3) j4.nd (bI (al (dv 1) ab) (al (dv 0) ab)))
 (ai (aC (av c_half (hr.mono (by decide)) rfl (aa (dv 2) (aa (dv 3) (aa (bb (aM (dv 2) (al (dv 0) ab)) (aM (dv 3) (al (dv 0) ab))) ag))))))))
abbrev kG:Stmt:=top 12
theorem Dz:aA ["one","other"] ["one","other"] (aj kG):=⟨rfl,rfl,rfl,by decide +kernel,rfl,by decide +kernel,by decide +kernel⟩
theorem EF (hr:Rm A s f cdv 0 "along" kG):Bd P w K mg base f cdv A outer s H E ["one","other"] "along" kG mK:=
 (ai (aC (bb (aM (al (dv 0) ab) (al (dv 1) ab)) (aM (al (dv 0) ab) (al (dv 1) ab)))))
abbrev gG:Stmt:=top 13
theorem vU:aA ["spot"] ["spot"] (aj gG):=⟨rfl,rfl,rfl,by decide +kernel,rfl,by decide +kernel,by decide +kernel⟩
theorem xR (hr:Rm A s f cdv 0 "bottoms" gG):Bd P w K mg base f cdv A outer s H E ["spot"] "bottoms" gG jq:=
 (ai (aC (aM (al (al (dv 0) ab) ab) (al (al (dv 0) ab) ab))))
abbrev i6:Stmt:=top 14
theorem lK:aA ["half","spot","x","y"] ["half","spot"] (aj i6):=⟨rfl,rfl,rfl,by decide +kernel,rfl,by decide +kernel,by decide +kernel⟩
theorem zV (c_bottoms:Callee P w K mg base 1 "bottoms" fF) (hr:Rm A s f cdv 1 "excess" i6):Bd P w K mg base f cdv A outer s H E ["half","spot","x","y"] "excess" i6 kU:=
 (ah (aq (i:=2) lK.nd (al (dv 1) ab))
 (ah (aq (i:=3) lK.nd (al (dv 1) ab))
 (ai (aC (bI (bb (aM (aM (al (dv 0) ab) (al (dv 2) ab)) (al (dv 3) ab)) (aM (aM (al (dv 0) ab) (al (dv 3) ab)) (al (dv 2) ab))) (aM (al (dv 0) ab) (av c_bottoms (hr.mono (by decide)) rfl (aa (dv 1) ag))))))))
abbrev oa:Stmt:=top 15
theorem Gz:aA ["number"] ["number"] (aj oa):=⟨rfl,rfl,rfl,by decide +kernel,rfl,by decide +kernel,by decide +kernel⟩
theorem Iu (hr:Rm A s f cdv 0 "sign" oa):Bd P w K mg base f cdv A outer s H E ["number"] "sign" oa sC:=
 (ah (bf (iL (dv 0) ab) (ai (aC ab)) aH)
 (ah (bf (iq (dv 0) ab) (ai (aC (iJ ab))) aH)
 (ai (aC ab))))
abbrev n9:Stmt:=top 16
theorem Gy:aA ["half","spot"] ["half","spot"] (aj n9):=⟨rfl,rfl,rfl,by decide +kernel,rfl,by decide +kernel,by decide +kernel⟩
theorem Ir (c_sign:Callee P w K mg base 1 "sign" kO) (c_excess:Callee P w K mg base 2 "excess" gN) (hr:Rm A s f cdv 2 "side" n9):Bd P w K mg base f cdv A outer s H E ["half","spot"] "side" n9 w_side:=
 (ai (aC (av c_sign (hr.mono (by decide)) rfl (aa (av c_excess (hr.mono (by decide)) rfl (aa (dv 0) (aa (dv 1) ag))) ag))))
abbrev fj:Stmt:=top 17
theorem vW:aA ["half","points"] ["half","points"] (aj fj):=⟨rfl,rfl,rfl,by decide +kernel,rfl,by decide +kernel,by decide +kernel⟩
theorem xZ (m_len:mg "len"=none) (hr:Rm A s f cdv 0 "many_in" fj):Bd P w K mg base f cdv A outer s H E ["half","points"] "many_in" fj jx:=
 (ai (aC (bv m_len (aa (fP (N:=["point","half"]) (own:=1) (fr:=[0]) (NX:=["half","points"]) (ar:=aj fj) (by decide +kernel) (cz (dv 1)) cF (fun _ _ _ _=>(aW (i:=0) (show List.Nodup (["point","half"]:List Str) by decide))) (fun _ _ _ _=>(ji (Ao (bb (aM (al (dv 1) ab) (al (dv 0) ab)) (aM (al (dv 1) ab) (al (dv 0) ab))) (al (dv 1) ab)))) (fun _ _ _ _=>(dv 0))) ag))))
abbrev iZ:Stmt:=top 19
theorem zj:aA ["one","other"] ["one","other"] (aj iZ):=⟨rfl,rfl,rfl,by decide +kernel,rfl,by decide +kernel,by decide +kernel⟩
theorem zU (hr:Rm A s f cdv 0 "across" iZ):Bd P w K mg base f cdv A outer s H E ["one","other"] "across" iZ kS:=
 (ai (aC (bI (aM (al (dv 0) ab) (al (dv 1) ab)) (aM (al (dv 0) ab) (al (dv 1) ab)))))
abbrev gL:Stmt:=top 20
theorem hZ:aA ["border","step","bottom","x","y"] ["border","step"] (aj gL):=⟨rfl,rfl,rfl,by decide +kernel,rfl,by decide +kernel,by decide +kernel⟩
theorem x5 (c_along:Callee P w K mg base 1 "along" eL) (c_ratio:Callee P w K mg base 2 "ratio" gP) (hr:Rm A s f cdv 2 "spot_at" gL):Bd P w K mg base f cdv A outer s H E ["border","step","bottom","x","y"] "spot_at" gL jz:=
 (ah (aq (i:=2) hZ.nd (aM (av c_along (hr.mono (by decide)) rfl (aa (dv 0) (aa (dv 0) ag))) (al (dv 1) ab)))
 (ah (aq (i:=3) hZ.nd (bI (aM (aM (al (dv 0) ab) (al (dv 0) ab)) (al (dv 1) ab)) (aM (al (dv 0) ab) (al (dv 1) ab))))
 (ah (aq (i:=4) hZ.nd (bb (aM (aM (al (dv 0) ab) (al (dv 0) ab)) (al (dv 1) ab)) (aM (al (dv 0) ab) (al (dv 1) ab))))
 (ai (aC (bx (aa (av c_ratio (hr.mono (by decide)) rfl (aa (dv 3) (aa (dv 2) ag))) (aa (av c_ratio (hr.mono (by decide)) rfl (aa (dv 4) (aa (dv 2) ag))) ag))))))))
abbrev kH:Stmt:=top 21
theorem DB:aA ["border","other"] ["border","other"] (aj kH):=⟨rfl,rfl,rfl,by decide +kernel,rfl,by decide +kernel,by decide +kernel⟩
theorem EH (c_along:Callee P w K mg base 1 "along" eL) (hr:Rm A s f cdv 1 "asked" kH):Bd P w K mg base f cdv A outer s H E ["border","other"] "asked" kH mM:=
 (ai (aC (bI (aM (al (dv 1) ab) (av c_along (hr.mono (by decide)) rfl (aa (dv 0) (aa (dv 0) ag)))) (aM (av c_along (hr.mono (by decide)) rfl (aa (dv 0) (aa (dv 1) ag))) (al (dv 0) ab)))))
abbrev gK:Stmt:=top 22
theorem j6:aA ["border","other","top","bottom"] ["border","other"] (aj gK):=⟨rfl,rfl,rfl,by decide +kernel,rfl,by decide +kernel,by decide +kernel⟩
theorem x4 (c_asked:Callee P w K mg base 2 "asked" fC) (c_across:Callee P w K mg base 1 "across" bM) (hr:Rm A s f cdv 2 "meeting" gK):Bd P w K mg base f cdv A outer s H E ["border","other","top","bottom"] "meeting" gK jy:=
 (ah (aq (i:=2) j6.nd (av c_asked (hr.mono (by decide)) rfl (aa (dv 0) (aa (dv 1) ag))))
 (ah (aq (i:=3) j6.nd (av c_across (hr.mono (by decide)) rfl (aa (dv 0) (aa (dv 1) ag))))
 (ah (bf (iq (dv 3) ab) (ai (aC (bx (aa (iJ (dv 2)) (aa (iJ (dv 3)) ag))))) aH)
 (ai (aC (bx (aa (dv 2) (aa (dv 3) ag))))))))
abbrev i8:Stmt:=top 23
theorem du:aA ["border","halves","first","last","place","facing","step"] ["border","halves"] (aj i8):=⟨rfl,rfl,rfl,by decide +kernel,rfl,by decide +kernel,by decide +kernel⟩
theorem zX (m_range:mg "range"=none) (m_len:mg "len"=none) (c_across:Callee P w K mg base 1 "across" bM) (c_meeting:Callee P w K mg base 3 "meeting" fK) (c_below:Callee P w K mg base 1 "below" eM) (hr:Rm A s f cdv 3 "limits" i8):Bd P w K mg base f cdv A outer s H E ["border","halves","first","last","place","facing","step"] "limits" i8 kX:=
 (ah (aq (i:=2) du.nd qv)
 (ah (aq (i:=3) du.nd qv)
 (aL (cW PassesOwn.never (dk m_range (aa (bv m_len (aa (dv 1) ag)) ag)) (aW (i:=4) du.nd) (ah (aq (i:=5) du.nd (av c_across (hr.mono (by decide)) rfl (aa (dv 0) (aa (al (dv 1) (dv 4)) ag))))
 (ah (aq (i:=6) du.nd (av c_meeting (hr.mono (by decide)) rfl (aa (dv 0) (aa (al (dv 1) (dv 4)) ag))))
 (aL (bf (jC (PW.pt (f7 (iL (dv 5) ab) (eZ (PW.pt (eG (Am (dv 2)) (gf (cX (av c_below (hr.mono (by decide)) rfl (aa (al (dv 2) ab) (aa (dv 6) ag))))))))))) (ai (aq (i:=2) du.nd (bx (aa (dv 6) (aa (dv 4) ag))))) aH)
 (ai (bf (jC (PW.pt (f7 (iq (dv 5) ab) (eZ (PW.pt (eG (Am (dv 3)) (gf (cX (av c_below (hr.mono (by decide)) rfl (aa (dv 6) (aa (al (dv 3) ab) ag))))))))))) (ai (aq (i:=3) du.nd (bx (aa (dv 6) (aa (dv 4) ag))))) aH))))))
 (ai (aC (bx (aa (dv 2) (aa (dv 3) ag))))))))
abbrev jn:Stmt:=top 24
theorem DA:aA ["border","halves"] ["border","halves"] (aj jn):=⟨rfl,rfl,rfl,by decide +kernel,rfl,by decide +kernel,by decide +kernel⟩
theorem EG (m_range:mg "range"=none) (m_len:mg "len"=none) (c_across:Callee P w K mg base 1 "across" bM) (c_asked:Callee P w K mg base 2 "asked" fC) (hr:Rm A s f cdv 2 "apart" jn):Bd P w K mg base f cdv A outer s H E ["border","halves"] "apart" jn mL:=
 (ai (aC (fP (N:=["place","border","halves"]) (own:=1) (fr:=[0,1]) (NX:=["border","halves"]) (ar:=aj jn) (by decide +kernel) (dk m_range (aa (bv m_len (aa (dv 1) ag)) ag)) cF (fun _ _ _ _=>(aW (i:=0) (show List.Nodup (["place","border","halves"]:List Str) by decide))) (fun _ _ _ _=>(ji (PW.pt (f7 (dm hr (av c_across (hr.mono (by decide)) rfl (aa (dv 1) (aa (al (dv 2) (dv 0)) ag))) ab) (eZ (iL (av c_asked (hr.mono (by decide)) rfl (aa (dv 1) (aa (al (dv 2) (dv 0)) ag))) ab)))))) (fun _ _ _ _=>(dv 0)))))
abbrev kJ:Stmt:=top 25
theorem DD:aA ["border","halves","ends"] ["border","halves","ends"] (aj kJ):=⟨rfl,rfl,rfl,by decide +kernel,rfl,by decide +kernel,by decide +kernel⟩
theorem EJ (c_below:Callee P w K mg base 1 "below" eM) (c_apart:Callee P w K mg base 3 "apart" ja) (hr:Rm A s f cdv 3 "clash" kJ):Bd P w K mg base f cdv A outer s H E ["border","halves","ends"] "clash" kJ mO:=
 (ah (bf (jC (PW.pt (f7 (qB (al (dv 2) ab)) (f7 (qB (al (dv 2) ab)) (eZ (cX (av c_below (hr.mono (by decide)) rfl (aa (al (al (dv 2) ab) ab) (aa (al (al (dv 2) ab) ab) ag))))))))) (ai (aC (cE (aa (al (al (dv 2) ab) ab) (aa (al (al (dv 2) ab) ab) ag))))) aH)
 (ai (aC (m8 (av c_apart (hr.mono (by decide)) rfl (aa (dv 0) (aa (dv 1) ag))) qz (qA ab)))))
abbrev cG:Stmt:=top 26
theorem ir:aA ["border","ends","end"] ["border","ends"] (aj cG):=⟨rfl,rfl,rfl,by decide +kernel,rfl,by decide +kernel,by decide +kernel⟩
theorem mY (c_spot_at:Callee P w K mg base 3 "spot_at" dY) (hr:Rm A s f cdv 3 "spot_between" cG):Bd P w K mg base f cdv A outer s H E ["border","ends","end"] "spot_between" cG dJ:=
 (aL (cW PassesOwn.never (vc (dv 1)) (aW (i:=2) ir.nd) (ai (bf (qB (dv 2)) (ai (aC (av c_spot_at (hr.mono (by decide)) rfl (aa (dv 0) (aa (al (dv 2) ab) ag))))) aH)))
 (ai (aC (av c_spot_at (hr.mono (by decide)) rfl (aa (dv 0) (aa (bx (aa ab (aa ab ag))) ag))))))
abbrev fi:Stmt:=top 27
theorem hX:aA ["weights","common","weight"] ["weights"] (aj fi):=⟨rfl,rfl,rfl,by decide +kernel,rfl,by decide +kernel,by decide +kernel⟩
theorem xY (c_divisor:Callee P w K mg base 1 "divisor" bP) (hr:Rm A s f cdv 1 "lowered" fi):Bd P w K mg base f cdv A outer s H E ["weights","common","weight"] "lowered" fi jw:=
 (ah (aq (i:=1) hX.nd ab)
 (aL (cW PassesOwn.never (cz (dv 0)) (aW (i:=2) hX.nd) (ai (aq (i:=1) hX.nd (av c_divisor (hr.mono (by decide)) rfl (aa (dv 1) (aa (dv 2) ag))))))
 (ai (aC (fP (N:=["weight","common"]) (own:=1) (fr:=[1]) (NX:=["weights","common","weight"]) (ar:=aj fi) (by decide +kernel) (cz (dv 0)) cF (fun _ _ _ _=>(aW (i:=0) (show List.Nodup (["weight","common"]:List Str) by decide))) (fun _ _ _ _=>mE) (fun _ _ _ _=>(bR (dv 0) (dv 1))))))))
abbrev dG:Stmt:=top 28
theorem eu:aA ["chosen","one","other","third"] ["chosen"] (aj dG):=⟨rfl,rfl,rfl,by decide +kernel,rfl,by decide +kernel,by decide +kernel⟩
theorem qf (m_len:mg "len"=none) (m_abs:mg "abs"=none) (c_lowered:Callee P w K mg base 2 "lowered" dX) (c_across:Callee P w K mg base 1 "across" bM) (hr:Rm A s f cdv 2 "weights_of" dG):Bd P w K mg base f cdv A outer s H E ["chosen","one","other","third"] "weights_of" dG cS:=
 (ah (aq (i:=1) eu.nd (al (dv 0) ab))
 (ah (aq (i:=2) eu.nd (al (dv 0) ab))
 (ah (bf (dm hr (bv m_len (aa (dv 0) ag)) ab) (ai (aC (av c_lowered (hr.mono (by decide)) rfl (aa (cE (aa (bb (fw m_abs (aa (al (dv 2) ab) ag)) (fw m_abs (aa (al (dv 2) ab) ag))) (aa (bb (fw m_abs (aa (al (dv 1) ab) ag)) (fw m_abs (aa (al (dv 1) ab) ag))) ag))) ag)))) aH)
 (ah (aq (i:=3) eu.nd (al (dv 0) ab))
 (ai (aC (av c_lowered (hr.mono (by decide)) rfl (aa (cE (aa (fw m_abs (aa (av c_across (hr.mono (by decide)) rfl (aa (dv 2) (aa (dv 3) ag))) ag)) (aa (fw m_abs (aa (av c_across (hr.mono (by decide)) rfl (aa (dv 3) (aa (dv 1) ag))) ag)) (aa (fw m_abs (aa (av c_across (hr.mono (by decide)) rfl (aa (dv 1) (aa (dv 2) ag))) ag)) ag)))) ag))))))))
abbrev ci:Stmt:=top 29
theorem og:aA ["halves","places"] ["halves","places"] (aj ci):=⟨rfl,rfl,rfl,by decide +kernel,rfl,by decide +kernel,by decide +kernel⟩
theorem oG (c_weights_of:Callee P w K mg base 3 "weights_of" c8) (hr:Rm A s f cdv 3 "none_shared" ci):Bd P w K mg base f cdv A outer s H E ["halves","places"] "none_shared" ci cj:=
 (ai (aC (bx (aa vb (aa (dv 1) (aa (av c_weights_of (hr.mono (by decide)) rfl (aa (fP (N:=["place","halves"]) (own:=1) (fr:=[0]) (NX:=["halves","places"]) (ar:=aj ci) (by decide +kernel) (cz (dv 1)) cF (fun _ _ _ _=>(aW (i:=0) (show List.Nodup (["place","halves"]:List Str) by decide))) (fun _ _ _ _=>mE) (fun _ _ _ _=>(al (dv 1) (dv 0)))) ag)) ag))))))
abbrev i9:Stmt:=top 30
theorem dw:aA ["halves","spot","place","border","before","ends","places"] ["halves"] (aj i9):=⟨rfl,rfl,rfl,by decide +kernel,rfl,by decide +kernel,by decide +kernel⟩
theorem zY (m_range:mg "range"=none) (m_len:mg "len"=none) (m_sorted:mg "sorted"=none) (c_side:Callee P w K mg base 3 "side" kN) (c_limits:Callee P w K mg base 4 "limits" gO) (c_clash:Callee P w K mg base 4 "clash" jb) (c_none_shared:Callee P w K mg base 4 "none_shared" cJ) (c_spot_between:Callee P w K mg base 4 "spot_between" cf) (hr:Rm A s f cdv 4 "shared" i9):Bd P w K mg base f cdv A outer s H E ["halves","spot","place","border","before","ends","places"] "shared" i9 kY:=
 (ah (aq (i:=1) dw.nd (bx (aa (bx (aa ab (aa ab ag))) (aa (bx (aa ab (aa ab ag))) ag))))
 (aL (cW PassesOwn.never (dk m_range (aa (bv m_len (aa (dv 0) ag)) ag)) (aW (i:=2) dw.nd) (ah (aq (i:=3) dw.nd (al (dv 0) (dv 2)))
 (ai (bf (iq (av c_side (hr.mono (by decide)) rfl (aa (dv 3) (aa (dv 1) ag))) ab) (ah (aq (i:=4) dw.nd (m8 (dv 0) qz (qA (dv 2))))
 (ah (aq (i:=5) dw.nd (av c_limits (hr.mono (by decide)) rfl (aa (dv 3) (aa (dv 4) ag))))
 (ah (aq (i:=6) dw.nd (av c_clash (hr.mono (by decide)) rfl (aa (dv 3) (aa (dv 4) (aa (dv 5) ag)))))
 (ah (bf (iL (bv m_len (aa (dv 6) ag)) ab) (ai (aC (av c_none_shared (hr.mono (by decide)) rfl (aa (dv 0) (aa (EW m_sorted (aa (Ae (dv 6) (cE (aa (dv 2) ag))) ag)) ag))))) aH)
 (ai (aq (i:=1) dw.nd (av c_spot_between (hr.mono (by decide)) rfl (aa (dv 3) (aa (dv 5) ag))))))))) aH))))
 (ai (aC (bx (aa vb (aa (dv 1) ag)))))))
abbrev bG:Stmt:=top 32
theorem cH:aA ["point","x","y"] ["point"] (aj bG):=⟨rfl,rfl,rfl,by decide +kernel,rfl,by decide +kernel,by decide +kernel⟩
theorem jB (hr:Rm A s f cdv 0 "upright_and_level" bG):Bd P w K mg base f cdv A outer s H E ["point","x","y"] "upright_and_level" bG bZ:=
 (ah (aq (i:=1) cH.nd (al (dv 0) ab))
 (ah (aq (i:=2) cH.nd (al (dv 0) ab))
 (ai (aC (cE (aa (bx (aa ab (aa ab (aa (dv 1) ag)))) (aa (bx (aa (iJ ab) (aa ab (aa (iJ (dv 1)) ag)))) (aa (bx (aa ab (aa ab (aa (dv 2) ag)))) (aa (bx (aa ab (aa (iJ ab) (aa (iJ (dv 2)) ag)))) ag)))))))))
abbrev fy:Stmt:=top 33
theorem fS:aA ["points","found","one","other"] ["points"] (aj fy):=⟨rfl,rfl,rfl,by decide +kernel,rfl,by decide +kernel,by decide +kernel⟩
theorem uU (m_sorted:mg "sorted"=none) (m_set:mg "set"=none) (c_upright_and_level:Callee P w K mg base 1 "upright_and_level" bD) (c_between:Callee P w K mg base 3 "between" fE) (hr:Rm A s f cdv 3 "bordered" fy):Bd P w K mg base f cdv A outer s H E ["points","found","one","other"] "bordered" fy ie:=
 (ah (aq (i:=1) fS.nd (cE ag))
 (aL (cW PassesOwn.never (cz (dv 0)) (aW (i:=2) fS.nd) (ah (yi (i:=1) (av c_upright_and_level (hr.mono (by decide)) (by rfl) (aa (dv 2) ag)))
 (ai (cW PassesOwn.never (cz (dv 0)) (aW (i:=3) fS.nd) (ai (bf (iM hr (dv 2) (dv 3)) (ai (jh (i:=1) (av c_between (hr.mono (by decide)) (by rfl) (aa (dv 2) (aa (dv 3) ag))))) aH))))))
 (ai (aC (va hr m_sorted m_set hr.hd (dv 1))))))
abbrev c7:Stmt:=top 34
theorem oe:aA ["points"] ["points"] (aj c7):=⟨rfl,rfl,rfl,by decide +kernel,rfl,by decide +kernel,by decide +kernel⟩
theorem oF (m_len:mg "len"=none) (hr:Rm A s f cdv 0 "need_points" c7):Bd P w K mg base f cdv A outer s H E ["points"] "need_points" c7 eB:=
 (ai (bf (dm hr (bv m_len (aa (dv 0) ag)) ab) (ai m9) aH))
abbrev gM:Stmt:=top 35
theorem zk:aA ["points","many"] ["points","many"] (aj gM):=⟨rfl,rfl,rfl,by decide +kernel,rfl,by decide +kernel,by decide +kernel⟩
theorem zZ (c_need_points:Callee P w K mg base 1 "need_points" bw) (c_bordered:Callee P w K mg base 4 "bordered" eO) (c_many_in:Callee P w K mg base 1 "many_in" fJ) (hr:Rm A s f cdv 4 "strong" gM):Bd P w K mg base f cdv A outer s H E ["points","many"] "strong" gM kZ:=
 (ah (wO (av c_need_points (hr.mono (by decide)) rfl (aa (dv 0) ag)))
 (ai (aC (fP (N:=["found","points","many"]) (own:=1) (fr:=[0,1]) (NX:=["points","many"]) (ar:=aj gM) (by decide +kernel) (cz (av c_bordered (hr.mono (by decide)) rfl (aa (dv 0) ag))) cF (fun _ _ _ _=>(aW (i:=0) (show List.Nodup (["found","points","many"]:List Str) by decide))) (fun _ _ _ _=>(ji (Ao (av c_many_in (hr.mono (by decide)) rfl (aa (dv 0) (aa (dv 1) ag))) (dv 2)))) (fun _ _ _ _=>(dv 0))))))
abbrev dR:Stmt:=top 36
theorem bO:aA ["points","k","halves","weights","asked","told"] ["points"] (aj dR):=⟨rfl,rfl,rfl,by decide +kernel,rfl,by decide +kernel,by decide +kernel⟩
theorem xS (m_len:mg "len"=none) (c_strong:Callee P w K mg base 5 "strong" dZ) (c_shared:Callee P w K mg base 5 "shared" dy) (c_need_points:Callee P w K mg base 1 "need_points" bw) (hr:b7 5 (A.deeper (envOfC "deepest" (aj dR) s.heap.objs.size f cdv))) :
  gS (mi sE P w K mg base ["points","k","halves","weights","asked","told"] "deepest" (aj dR) f cdv A outer s H E).nox (cw dR) (eV K H jr):=
 (fg (JE (wO (av c_need_points (hr.mono (by decide)) rfl (aa (dv 0) ag))) (fun _ _ h=>h))
 (fg (JE (aq (i:=1) bO.nd (bv m_len (aa (dv 0) ag))) (fun _ _ h=>h))
 (fg (JE (aq (i:=2) bO.nd (cE ag)) (fun _ _ h=>h))
 (fg (JE (aq (i:=3) bO.nd (cE ag)) (fun _ _ h=>h))
 (fg (JE (aq (i:=4) bO.nd (av c_strong (hr.mono (by decide)) rfl (aa (dv 0) (aa ab ag)))) (fun _ _ h=>h))
 (fg (JE (aq (i:=5) bO.nd (av c_shared (hr.mono (by decide)) rfl (aa (dv 4) ag))) (fun _ _ h=>h))
 (vd (JE (nh PassesOwn.never (dm hr (al (dv 5) ab) vb) (ah (ng (i:=2) bO.nd (N:=["place","asked"]) (own:=1) (fr:=[4]) (NX:=["points","k","halves","weights","asked","told"]) (ar:=aj dR) (by decide +kernel) (cz (al (dv 5) ab)) cF (fun _ _ _ _=>(aW (i:=0) (show List.Nodup (["place","asked"]:List Str) by decide))) (fun _ _ _ _=>mE) (fun _ _ _ _=>(al (dv 1) (dv 0))))
 (ah (aq (i:=3) bO.nd (al (dv 5) ab))
 (ah (aq (i:=1) bO.nd (bI (dv 1) ab))
 (ah (aq (i:=4) bO.nd (av c_strong (hr.mono (by decide)) rfl (aa (dv 0) (aa (bb (bI (bv m_len (aa (dv 0) ag)) (dv 1)) ab) ag))))
 (ai (aq (i:=5) bO.nd (av c_shared (hr.mono (by decide)) rfl (aa (dv 4) ag))))))))) (fun _ _ h=>h))
 (Ak (E2 (dv 1) (al (dv 5) ab) (pv 2) (pv 3))))))))))
abbrev gJ:Stmt:=top 38
theorem vV:aA ["_law_found"] ["_law_found"] (aj gJ):=⟨rfl,rfl,rfl,by decide +kernel,rfl,by decide +kernel,by decide +kernel⟩
theorem xX (m_isinstance:mg "isinstance"=none) (m_int:mg "int"=none) (m_bool:mg "bool"=none) (hr:Rm A s f cdv 0 "_law_whole" gJ):Bd P w K mg base f cdv A outer s H E ["_law_found"] "_law_whole" gJ jv:=
 (ai (aC (qu (yf m_isinstance m_int (dv 0)) (u9 (II (u7 m_isinstance m_bool (dv 0)))))))
abbrev dr:Stmt:=top 39
theorem cM:aA ["_law_script","_law_many","_law_found","_law_k","_law_cell","_law_at"] ["_law_script","_law_many"] (aj dr):=⟨rfl,rfl,rfl,by decide +kernel,rfl,by decide +kernel,by decide +kernel⟩
theorem sR (m_range:mg "range"=none) (m_max:mg "max"=none) (m_min:mg "min"=none) (m_len:mg "len"=none) (hr:Rm A s f cdv 0 "_law_numbers" dr):Bd P w K mg base f cdv A outer s H E ["_law_script","_law_many","_law_found","_law_k","_law_cell","_law_at"] "_law_numbers" dr fW:=
 (ah (ng (i:=2) cM.nd (N:=["_law_k"]) (own:=1) (fr:=[]) (NX:=["_law_script","_law_many","_law_found","_law_k","_law_cell","_law_at"]) (ar:=aj dr) (by decide +kernel) (dk m_range (aa (dv 1) ag)) cF (fun _ _ _ _=>(aW (i:=0) (show List.Nodup (["_law_k"]:List Str) by decide))) (fun _ _ _ _=>mE) (fun _ _ _ _=>ab))
 (aL (cW PassesOwn.never (dk m_range (aa (EV m_max (aa (dv 1) (aa (kl m_min (aa (bv m_len (aa (dv 0) ag)) (aa ab ag))) ag))) ag)) (aW (i:=3) cM.nd) (ah (aq (i:=4) cM.nd ab)
 (aL (bf (iL (bv m_len (aa (dv 0) ag)) ab) (ai (aq (i:=4) cM.nd (bF (al (dv 0) (bF (dv 3) (kl m_min (aa (bv m_len (aa (dv 0) ag)) (aa ab ag))))) (bb (jQ ab ab) ab)))) aH)
 (ah (aq (i:=5) cM.nd (bF (dv 3) (dv 1)))
 (ai (ko (i:=2) (dv 5) (bF (bb (bb (aM (al (dv 2) (dv 5)) ab) (dv 4)) (aM (dv 3) (dv 3))) (bb (jQ ab ab) ab))))))))
 (ai (mD (pv 2)))))
abbrev eJ:Stmt:=top 40
theorem fb:aA ["_law_one","_law_other"] ["_law_one","_law_other"] (aj eJ):=⟨rfl,rfl,rfl,by decide +kernel,rfl,by decide +kernel,by decide +kernel⟩
theorem sO (m_abs:mg "abs"=none) (hr:Rm A s f cdv 0 "_law_divisor" eJ):Bd P w K mg base f cdv A outer s H E ["_law_one","_law_other"] "_law_divisor" eJ fT:=
 (ah (aq (i:=0) fb.nd (fw m_abs (aa (dv 0) ag)))
 (ah (aq (i:=1) fb.nd (fw m_abs (aa (dv 1) ag)))
 (aL (nh PassesOwn.never (iL (dv 1) ab) (ai (Ah (i:=0) (j:=1) fb.nd (aa (dv 1) (aa (bF (dv 0) (dv 1)) ag)))))
 (ai (mD (pv 0))))))
abbrev dF:Stmt:=top 41
theorem jI:aA ["_law_top","_law_bottom","_law_most"] ["_law_top","_law_bottom"] (aj dF):=⟨rfl,rfl,rfl,by decide +kernel,rfl,by decide +kernel,by decide +kernel⟩
theorem qe (c_l_divisor:Callee P w K mg base 1 "_law_divisor" bB) (hr:Rm A s f cdv 1 "_law_fraction" dF):Bd P w K mg base f cdv A outer s H E ["_law_top","_law_bottom","_law_most"] "_law_fraction" dF fe:=
 (ah (aq (i:=2) jI.nd (av c_l_divisor (hr.mono (by decide)) rfl (aa (dv 0) (aa (dv 1) ag))))
 (ai (aC (bx (aa (bR (dv 0) (dv 2)) (aa (bR (dv 1) (dv 2)) ag))))))
abbrev gI:Stmt:=top 42
theorem j5:aA ["_law_number","_law_base","_law_place","_law_k"] ["_law_number","_law_base","_law_place"] (aj gI):=⟨rfl,rfl,rfl,by decide +kernel,rfl,by decide +kernel,by decide +kernel⟩
theorem xV (m_range:mg "range"=none) (hr:Rm A s f cdv 0 "_law_digit" gI):Bd P w K mg base f cdv A outer s H E ["_law_number","_law_base","_law_place","_law_k"] "_law_digit" gI ju:=
 (aL (cW PassesOwn.never (dk m_range (aa (dv 2) ag)) (aW (i:=3) j5.nd) (ai (aq (i:=0) j5.nd (bR (dv 0) (dv 1)))))
 (ai (aC (bF (dv 0) (dv 1)))))
abbrev dq:Stmt:=top 43
theorem rV:aA ["_law_found"] ["_law_found"] (aj dq):=⟨rfl,rfl,rfl,by decide +kernel,rfl,by decide +kernel,by decide +kernel⟩
theorem sP (m_isinstance:mg "isinstance"=none) (m_tuple:mg "tuple"=none) (m_len:mg "len"=none) (c_l_whole:Callee P w K mg base 1 "_law_whole" bg) (c_l_divisor:Callee P w K mg base 1 "_law_divisor" bB) (hr:Rm A s f cdv 1 "_law_is_half" dq):Bd P w K mg base f cdv A outer s H E ["_law_found"] "_law_is_half" dq fU:=
 (ah (bf (jC (PW.pt (eG (eU (cX (fQ m_isinstance m_tuple (dv 0)))) (gf (iM hr (bv m_len (aa (dv 0) ag)) ab))))) (ai (aC gB)) aH)
 (ah (bf (iq (bv m_len (aa (fP (N:=["_law_number"]) (own:=1) (fr:=[]) (NX:=["_law_found"]) (ar:=aj dq) (by decide +kernel) (vc (dv 0)) cF (fun _ _ _ _=>(aW (i:=0) (show List.Nodup (["_law_number"]:List Str) by decide))) (fun _ _ _ _=>(ji (cX (av c_l_whole (hr.mono (by decide)) rfl (aa (dv 0) ag))))) (fun _ _ _ _=>(dv 0))) ag)) ab) (ai (aC gB)) aH)
 (ah (bf (jC (PW.pt (f7 (dm hr (al (dv 0) ab) ab) (eZ (dm hr (al (dv 0) ab) ab))))) (ai (aC gB)) aH)
 (ai (aC (tf hr (av c_l_divisor (hr.mono (by decide)) rfl (aa (av c_l_divisor (hr.mono (by decide)) rfl (aa (al (dv 0) ab) (aa (al (dv 0) ab) ag))) (aa (al (dv 0) ab) ag))) ab))))))
abbrev eK:Stmt:=top 44
theorem kL:aA ["_law_found","_law_one"] ["_law_found"] (aj eK):=⟨rfl,rfl,rfl,by decide +kernel,rfl,by decide +kernel,by decide +kernel⟩
theorem sQ (m_isinstance:mg "isinstance"=none) (m_tuple:mg "tuple"=none) (m_len:mg "len"=none) (c_l_whole:Callee P w K mg base 1 "_law_whole" bg) (c_l_divisor:Callee P w K mg base 1 "_law_divisor" bB) (hr:Rm A s f cdv 1 "_law_is_spot" eK):Bd P w K mg base f cdv A outer s H E ["_law_found","_law_one"] "_law_is_spot" eK fV:=
 (ah (bf (jC (PW.pt (eG (eU (cX (fQ m_isinstance m_tuple (dv 0)))) (gf (iM hr (bv m_len (aa (dv 0) ag)) ab))))) (ai (aC gB)) aH)
 (aL (cW PassesOwn.never (vc (dv 0)) (aW (i:=1) kL.nd) (ah (bf (jC (PW.pt (eG (eU (cX (fQ m_isinstance m_tuple (dv 1)))) (eG (iM hr (bv m_len (aa (dv 1) ag)) ab) (eG (eU (cX (av c_l_whole (hr.mono (by decide)) rfl (aa (al (dv 1) ab) ag)))) (gf (eU (cX (av c_l_whole (hr.mono (by decide)) rfl (aa (al (dv 1) ab) ag)))))))))) (ai (aC gB)) aH)
 (ai (bf (jC (PW.pt (eG (iq (al (dv 1) ab) ab) (gf (iM hr (av c_l_divisor (hr.mono (by decide)) rfl (aa (al (dv 1) ab) (aa (al (dv 1) ab) ag))) ab))))) (ai (aC gB)) aH))))
 (ai (aC gB))))
abbrev fA:Stmt:=top 45
theorem bd:aA ["_law_head","_law_many","_law_found","_law_way","_law_k","_law_number","_law_x","_law_y"] ["_law_head","_law_many"] (aj fA):=⟨rfl,rfl,rfl,by decide +kernel,rfl,by decide +kernel,by decide +kernel⟩
theorem uV (m_range:mg "range"=none) (c_l_digit:Callee P w K mg base 1 "_law_digit" fH) (hr:Rm A s f cdv 1 "_law_points" fA):Bd P w K mg base f cdv A outer s H E ["_law_head","_law_many","_law_found","_law_way","_law_k","_law_number","_law_x","_law_y"] "_law_points" fA ig:=
 (ah (aq (i:=2) bd.nd (cE ag))
 (ah (aq (i:=3) bd.nd (bF (al (dv 0) ab) ab))
 (aL (cW PassesOwn.never (dk m_range (aa (dv 1) ag)) (aW (i:=4) bd.nd) (ah (aq (i:=5) bd.nd (al (dv 0) (bb ab (dv 4))))
 (ah (aq (i:=6) bd.nd (bI (bF (dv 5) ab) ab))
 (ah (aq (i:=7) bd.nd (bI (bF (bR (dv 5) ab) ab) ab))
 (aL (bf (dm hr (dv 3) ab) (ai (aq (i:=7) bd.nd (bI (aM ab (dv 6)) ab))) aH)
 (aL (bf (dm hr (dv 3) ab) (ai (aq (i:=6) bd.nd ab)) aH)
 (aL (bf (dm hr (dv 3) ab) (ai (Ah (i:=6) (j:=7) bd.nd (aa (bI (bF (dv 5) ab) ab) (aa (bI (bF (bR (dv 5) ab) ab) ab) ag)))) aH)
 (aL (bf (iL (dv 3) ab) (ah (aq (i:=6) bd.nd (bI (bF (dv 5) (bb (aM ab (jQ ab ab)) ab)) (jQ ab ab)))
 (ai (aq (i:=7) bd.nd (bI (bF (aM (dv 5) ab) (bb (aM ab (jQ ab ab)) ab)) (jQ ab ab))))) aH)
 (aL (bf (jC (PW.pt (f7 (iL (dv 4) ab) (eZ (dm hr (av c_l_digit (hr.mono (by decide)) rfl (aa (al (dv 0) ab) (aa ab (aa (dv 4) ag)))) ab))))) (ai (Aj (al (dv 2) (bI (dv 4) ab)) (qw (eE (aW (i:=6) bd.nd) (eE (aW (i:=7) bd.nd) mC)) (eI (eI mF))))) aH)
 (ai (jh (i:=2) (bx (aa (dv 6) (aa (dv 7) ag))))))))))))))
 (ai (mD (pv 2))))))
abbrev fh:Stmt:=top 46
theorem bY:aA ["_law_points_here","_law_spot_here","_law_x","_law_y","_law_ways","_law_point","_law_right","_law_there","_law_least","_law_way"] ["_law_points_here","_law_spot_here"] (aj fh):=⟨rfl,rfl,rfl,by decide +kernel,rfl,by decide +kernel,by decide +kernel⟩
theorem xU (m_len:mg "len"=none) (m_min:mg "min"=none) (c_l_least_beside:Callee P w K mg base 1 "_law_least_beside" bV) (hr:Rm A s f cdv 1 "_law_depth" fh):Bd P w K mg base f cdv A outer s H E ["_law_points_here","_law_spot_here","_law_x","_law_y","_law_ways","_law_point","_law_right","_law_there","_law_least","_law_way"] "_law_depth" fh jt:=
 (ah (Aj (dv 1) (qw (eE (aW (i:=2) bY.nd) (eE (aW (i:=3) bY.nd) mC)) (eI (eI mF))))
 (ah (aq (i:=4) bY.nd (cE ag))
 (aL (cW PassesOwn.never (cz (dv 0)) (aW (i:=5) bY.nd) (ah (aq (i:=6) bY.nd (aM (bI (aM (al (dv 5) ab) (al (dv 2) ab)) (al (dv 2) ab)) (al (dv 3) ab)))
 (ai (jh (i:=4) (bx (aa (dv 6) (aa (aM (bI (aM (al (dv 5) ab) (al (dv 3) ab)) (al (dv 3) ab)) (al (dv 2) ab)) ag)))))))
 (ah (aq (i:=7) bY.nd (bv m_len (aa (fP (N:=["_law_way"]) (own:=1) (fr:=[]) (NX:=["_law_points_here","_law_spot_here","_law_x","_law_y","_law_ways","_law_point","_law_right","_law_there","_law_least","_law_way"]) (ar:=aj fh) (by decide +kernel) (cz (dv 4)) cF (fun _ _ _ _=>(aW (i:=0) (show List.Nodup (["_law_way"]:List Str) by decide))) (fun _ _ _ _=>(ji (dm hr (dv 0) (bx (aa ab (aa ab ag)))))) (fun _ _ _ _=>(dv 0))) ag)))
 (ah (aq (i:=8) bY.nd (bI (bv m_len (aa (dv 0) ag)) (dv 7)))
 (aL (cW PassesOwn.never (cz (dv 4)) (aW (i:=9) bY.nd) (ai (bf (iM hr (dv 9) (bx (aa ab (aa ab ag)))) (ai (aq (i:=8) bY.nd (kl m_min (aa (dv 8) (aa (av c_l_least_beside (hr.mono (by decide)) rfl (aa (dv 4) (aa (dv 9) ag))) ag))))) aH)))
 (ai (aC (bb (dv 7) (dv 8))))))))))
abbrev b8:Stmt:=top 47
theorem aO:aA ["_law_ways","_law_way","_law_left","_law_right","_law_forth","_law_back","_law_one","_law_turn","_law_same"] ["_law_ways","_law_way"] (aj b8):=⟨rfl,rfl,rfl,by decide +kernel,rfl,by decide +kernel,by decide +kernel⟩
theorem lp (m_min:mg "min"=none) (hr:Rm A s f cdv 0 "_law_least_beside" b8):Bd P w K mg base f cdv A outer s H E ["_law_ways","_law_way","_law_left","_law_right","_law_forth","_law_back","_law_one","_law_turn","_law_same"] "_law_least_beside" b8 cR:=
 (ah (aq (i:=2) aO.nd ab)
 (ah (aq (i:=3) aO.nd ab)
 (ah (aq (i:=4) aO.nd ab)
 (ah (aq (i:=5) aO.nd ab)
 (aL (cW PassesOwn.never (cz (dv 0)) (aW (i:=6) aO.nd) (ah (aq (i:=7) aO.nd (bI (aM (al (dv 1) ab) (al (dv 6) ab)) (aM (al (dv 1) ab) (al (dv 6) ab))))
 (ah (aq (i:=8) aO.nd (bb (aM (al (dv 1) ab) (al (dv 6) ab)) (aM (al (dv 1) ab) (al (dv 6) ab))))
 (aL (bf (iL (dv 7) ab) (ai (aq (i:=2) aO.nd (bb (dv 2) ab))) aH)
 (aL (bf (iq (dv 7) ab) (ai (aq (i:=3) aO.nd (bb (dv 3) ab))) aH)
 (aL (bf (jC (PW.pt (f7 (dm hr (dv 7) ab) (eZ (iL (dv 8) ab))))) (ai (aq (i:=4) aO.nd (bb (dv 4) ab))) aH)
 (ai (bf (jC (PW.pt (f7 (dm hr (dv 7) ab) (eZ (iq (dv 8) ab))))) (ai (aq (i:=5) aO.nd (bb (dv 5) ab))) aH))))))))
 (ai (aC (bb (kl m_min (aa (dv 2) (aa (dv 3) ag))) (kl m_min (aa (dv 4) (aa (dv 5) ag)))))))))))
abbrev i7:Stmt:=top 48
theorem cN:aA ["_law_points_here","_law_number","_law_way","_law_one","_law_other","_law_third","_law_by","_law_total","_law_x","_law_y"] ["_law_points_here","_law_number"] (aj i7):=⟨rfl,rfl,rfl,by decide +kernel,rfl,by decide +kernel,by decide +kernel⟩
theorem zW (m_len:mg "len"=none) (m_sum:mg "sum"=none) (c_l_fraction:Callee P w K mg base 2 "_law_fraction" bK) (hr:Rm A s f cdv 2 "_law_spot" i7):Bd P w K mg base f cdv A outer s H E ["_law_points_here","_law_number","_law_way","_law_one","_law_other","_law_third","_law_by","_law_total","_law_x","_law_y"] "_law_spot" i7 kW:=
 (ah (aq (i:=2) cN.nd (bF (dv 1) ab))
 (ah (aq (i:=3) cN.nd (al (dv 0) (bF (bR (dv 1) ab) (bv m_len (aa (dv 0) ag)))))
 (ah (aq (i:=4) cN.nd (al (dv 0) (bF (bR (dv 1) ab) (bv m_len (aa (dv 0) ag)))))
 (ah (aq (i:=5) cN.nd (al (dv 0) (bF (bR (dv 1) ab) (bv m_len (aa (dv 0) ag)))))
 (ah (bf (dm hr (dv 2) ab) (ai (aC (bx (aa (bx (aa (al (dv 3) ab) (aa ab ag))) (aa (bx (aa (al (dv 3) ab) (aa ab ag))) ag))))) aH)
 (ah (bf (dm hr (dv 2) ab) (ai (aC (bx (aa (av c_l_fraction (hr.mono (by decide)) rfl (aa (bb (al (dv 3) ab) (al (dv 4) ab)) (aa ab ag))) (aa (av c_l_fraction (hr.mono (by decide)) rfl (aa (bb (al (dv 3) ab) (al (dv 4) ab)) (aa ab ag))) ag))))) aH)
 (ah (aq (i:=6) cN.nd (cE (aa (bI (bF (bR (dv 1) ab) ab) ab) (aa (bI (bF (bR (dv 1) ab) ab) ab) (aa (bb (bF (bR (dv 1) ab) ab) ab) ag)))))
 (aL (bf (dm hr (dv 2) ab) (ah (ko (i:=6) ab ab)
 (ai (ko (i:=6) ab (bI ab (al (dv 6) ab))))) aH)
 (ah (aq (i:=7) cN.nd (IJ m_sum (aa (dv 6) ag)))
 (ah (aq (i:=8) cN.nd (bb (bb (aM (al (dv 6) ab) (al (dv 3) ab)) (aM (al (dv 6) ab) (al (dv 4) ab))) (aM (al (dv 6) ab) (al (dv 5) ab))))
 (ah (aq (i:=9) cN.nd (bb (bb (aM (al (dv 6) ab) (al (dv 3) ab)) (aM (al (dv 6) ab) (al (dv 4) ab))) (aM (al (dv 6) ab) (al (dv 5) ab))))
 (ai (aC (bx (aa (av c_l_fraction (hr.mono (by decide)) rfl (aa (dv 8) (aa (dv 7) ag))) (aa (av c_l_fraction (hr.mono (by decide)) rfl (aa (dv 9) (aa (dv 7) ag))) ag))))))))))))))))
abbrev dS:Stmt:=top 49
theorem fB:aA ["_law_halves","_law_weights","_law_points_here","_law_k","_law_sums","_law_one","_law_weight","_law_j"] ["_law_halves","_law_weights","_law_points_here","_law_k"] (aj dS):=⟨rfl,rfl,rfl,by decide +kernel,rfl,by decide +kernel,by decide +kernel⟩
theorem xW {G:Hp} (m_isinstance:mg "isinstance"=none) (m_list:mg "list"=none) (m_len:mg "len"=none) (m_zip:mg "zip"=none) (m_range:mg "range"=none) (c_l_is_half:Callee P w K mg base 2 "_law_is_half" cO) (c_l_whole:Callee P w K mg base 1 "_law_whole" bg) (hr:b7 2 (A.deeper (envOfC "_law_paper" (aj dS) s.heap.objs.size f cdv))) :
  gS (mi sE P w K mg base ["_law_halves","_law_weights","_law_points_here","_law_k","_law_sums","_law_one","_law_weight","_law_j"] "_law_paper" (aj dS) f cdv A outer s H E).nox (cw dS) (bC K G fv):=
 (ah (bf (jC (PW.pt (eG (eU (cX (m6 m_isinstance m_list (dv 0)))) (eG (eU (cX (m6 m_isinstance m_list (dv 1)))) (gf (iM hr (bv m_len (aa (dv 0) ag)) (bv m_len (aa (dv 1) ag)))))))) (ai (aC gB)) aH)
 (ah (bf (dm hr (dv 3) (bv m_len (aa (dv 2) ag))) (ah (jh (i:=0) ab)
 (ai (aC (qu (tf hr (dv 0) (cE (aa ab ag))) (u9 (tf hr (dv 1) (cE ag))))))) aH)
 (ah (bf (Ap hr (bv m_len (aa (dv 0) ag)) (cE (aa ab (aa ab ag)))) (ai (aC gB)) aH)
 (ah (aq (i:=4) fB.nd (cE (aa ab (aa ab (aa ab ag)))))
 (aL (cW PassesOwn.never (IM m_zip (aa (dv 0) (aa (dv 1) ag))) (qw (eE (aW (i:=5) fB.nd) (eE (aW (i:=6) fB.nd) mC)) (eI (eI mF))) (ah (bf (jC (PW.pt (eG (eU (cX (av c_l_is_half (hr.mono (by decide)) rfl (aa (dv 5) ag)))) (eG (eU (cX (av c_l_whole (hr.mono (by decide)) rfl (aa (dv 6) ag)))) (gf (iq (dv 6) ab)))))) (ai (aC gB)) aH)
 (ah (bf (iq (bv m_len (aa (fP (N:=["_law_x","_law_y","_law_one"]) (own:=2) (fr:=[5]) (NX:=["_law_halves","_law_weights","_law_points_here","_law_k","_law_sums","_law_one","_law_weight","_law_j"]) (ar:=aj dS) (by decide +kernel) (cz (dv 2)) (Fe (pB cF (pB cF Bu pI) pI)) (fun _ _ _ _=>(qw (eE (aW (i:=0) (show List.Nodup (["_law_x","_law_y","_law_one"]:List Str) by decide)) (eE (aW (i:=1) (show List.Nodup (["_law_x","_law_y","_law_one"]:List Str) by decide)) mC)) (eI (eI mF)))) (fun _ _ _ _=>(ji (Ao (bb (aM (al (dv 2) ab) (dv 0)) (aM (al (dv 2) ab) (dv 1))) (al (dv 2) ab)))) (fun _ _ _ _=>(dv 0))) ag)) (bI (bv m_len (aa (dv 2) ag)) (dv 3))) (ai (aC gB)) aH)
 (ai (cW PassesOwn.never (dk m_range (aa ab ag)) (aW (i:=7) fB.nd) (ai (ko (i:=4) (dv 7) (bb (al (dv 4) (dv 7)) (aM (dv 6) (al (dv 5) (dv 7)))))))))))
 (ai (aC (qu (tf hr (al (dv 4) ab) ab) (qu (tf hr (al (dv 4) ab) ab) (u9 (LY (al (dv 4) ab) ab)))))))))))
abbrev ma:Stmt:=top 50
theorem gu:aA ["_law_script","_law_head","_law_points_here","_law_handed","_law_found","_law_k","_law_spot_here","_law_halves","_law_weights","_law_cell"] ["_law_script"] (aj ma):=⟨rfl,rfl,rfl,by decide +kernel,rfl,by decide +kernel,by decide +kernel⟩
theorem LU (m_len:mg "len"=none) (m_isinstance:mg "isinstance"=none) (m_tuple:mg "tuple"=none) (m_list:mg "list"=none) (c_deepest:je P w K mg base 6 "deepest" (uC K fG)) (c_l_paper:je P w K mg base 3 "_law_paper" (uD K dW)) (c_l_depth:Callee P w K mg base 2 "_law_depth" cI) (c_l_spot:Callee P w K mg base 3 "_law_spot" fk) (c_l_whole:Callee P w K mg base 1 "_law_whole" bg) (c_l_is_spot:Callee P w K mg base 2 "_law_is_spot" cP) (c_l_points:Callee P w K mg base 2 "_law_points" eP) (c_l_numbers:Callee P w K mg base 1 "_law_numbers" dH) (hr:Rm A s f cdv 6 "law" ma):Bd P w K mg base f cdv A outer s H E ["_law_script","_law_head","_law_points_here","_law_handed","_law_found","_law_k","_law_spot_here","_law_halves","_law_weights","_law_cell"] "law" ma xJ:=
 (ah (aq (i:=1) gu.nd (av c_l_numbers (hr.mono (by decide)) rfl (aa (dv 0) (aa ab ag))))
 (ah (aq (i:=2) gu.nd (av c_l_points (hr.mono (by decide)) rfl (aa (dv 1) (aa (al (cE (aa (bb ab (bF (al (dv 1) ab) ab)) (aa (bb ab (bF (al (dv 1) ab) ab)) ag))) (bR (bF (al (dv 1) ab) ab) ab)) ag))))
 (ah (aq (i:=3) gu.nd (yg m_list (aa (dv 2) ag)))
 (Al gu.nd c_deepest (hr.mono (by decide)) rfl (dv 3) (jC (PW.pt (eG (eU (cX (fQ m_isinstance m_tuple (dv 4)))) (eG (iM hr (bv m_len (aa (dv 4) ag)) ab) (gf (iM hr (dv 3) (dv 2))))))) (rS (nW Hc)) (Di rfl (iY (kE (i:=5) gu.nd rfl (by first|exact Or.inl rfl|exact Or.inr rfl)) (iY (kE (i:=6) gu.nd rfl (by first|exact Or.inl rfl|exact Or.inr rfl)) (iY (kE (i:=7) gu.nd rfl (by first|exact Or.inl rfl|exact Or.inr rfl)) (iY (kE (i:=8) gu.nd rfl (by first|exact Or.inl rfl|exact Or.inr rfl)) xn)))))
 (ah (bf (jC (PW.pt (eG (eU (cX (av c_l_whole (hr.mono (by decide)) rfl (aa (dv 5) ag)))) (eG (eU (cX (av c_l_is_spot (hr.mono (by decide)) rfl (aa (dv 6) ag)))) (eG (iM hr (av c_l_depth (hr.mono (by decide)) rfl (aa (dv 2) (aa (dv 6) ag))) (dv 5)) (gf (iq (aM ab (dv 5)) (bv m_len (aa (dv 2) ag))))))))) (ai (aC gB)) aH)
 (aL (cW PassesOwn.never (cz (Ae (m8 (dv 0) qz (qA ab)) (cE (aa (al (dv 1) ab) ag)))) (aW (i:=9) gu.nd) (ai (bf (iL (av c_l_depth (hr.mono (by decide)) rfl (aa (dv 2) (aa (av c_l_spot (hr.mono (by decide)) rfl (aa (dv 2) (aa (bF (dv 9) (jQ ab ab)) ag))) ag))) (dv 5)) (ai (aC gB)) aH)))
 (ai (Ai c_l_paper (hr.mono (by decide)) rfl (pv 7) (pv 8) (pv 2) (pv 5)))))))))
end
def Fd (K:PySem.W.Frag)(n:Str)(st:Stmt)(f:Addr):Prop:=∃ (oc:Value) (od:Option Addr) (sl:Array (Option Value)) (kV dc pm:Value) (an:Option Addr) (cd ct:Value),PySem.W.nsIn K mainGlobals n=some (some (.ref f))/\K.lookup f=some ⟨oc,od,.func (PySem.W.fnOf n n (gW st) (cw st) (aj st) .none kV dc pm an cd ct),sl⟩/\PySem.W.codeIn K cd n=true/\PySem.W.keepIn K (.ref f)=true
theorem fd_mk {K:PySem.W.Frag}{n:Str}{st:Stmt}{f:Addr}{oc:Value}{od:Option Addr}{sl:Array (Option Value)}{kV dc pm:Value}{an:Option Addr}{cd ct:Value}(a:PySem.W.nsIn K mainGlobals n=some (some (.ref f)))(l:K.lookup f=some ⟨oc,od,.func (PySem.W.fnOf n n (gW st) (cw st) (aj st) .none kV dc pm an cd ct),sl⟩)(e:PySem.W.codeIn K cd n=true)(k:PySem.W.keepIn K (.ref f)=true):Fd K n st f:=⟨_,_,_,_,_,_,_,_,_,a,l,e,k⟩
theorem all_mk {l:PySem.W.OpenLaw}{w:World}{K:PySem.W.Frag}{h:Heap}{mg:Str->Option Value}{fa f_0 f_1 f_2 f_3 f_4 f_5 f_6 f_7 f_8 f_9 f_10 f_11 f_12 f_13 f_14 f_15 f_16 f_17 f_18 f_19 f_20 f_21 f_22 f_23 f_24 f_25 f_26 f_27 f_28 f_29 f_30 f_31 f_32 f_33 f_34 f_35 f_36 f_37 f_38 f_39 f_40:Addr} (X:K.In h) (G:h.Ns mainGlobals mg) (hfa:mg "law"=some (.ref fa))
  (d0:Fd K "divisor" gH f_0)
  (d1:Fd K "ratio" kK f_1)
  (d2:Fd K "below" kI f_2)
  (d3:Fd K "half" n8 f_3)
  (d4:Fd K "between" gF f_4)
  (d5:Fd K "along" kG f_5)
  (d6:Fd K "bottoms" gG f_6)
  (d7:Fd K "excess" i6 f_7)
  (d8:Fd K "sign" oa f_8)
  (d9:Fd K "side" n9 f_9)
  (d10:Fd K "many_in" fj f_10)
  (d11:Fd K "across" iZ f_11)
  (d12:Fd K "spot_at" gL f_12)
  (d13:Fd K "asked" kH f_13)
  (d14:Fd K "meeting" gK f_14)
  (d15:Fd K "limits" i8 f_15)
  (d16:Fd K "apart" jn f_16)
  (d17:Fd K "clash" kJ f_17)
  (d18:Fd K "spot_between" cG f_18)
  (d19:Fd K "lowered" fi f_19)
  (d20:Fd K "weights_of" dG f_20)
  (d21:Fd K "none_shared" ci f_21)
  (d22:Fd K "shared" i9 f_22)
  (d23:Fd K "upright_and_level" bG f_23)
  (d24:Fd K "bordered" fy f_24)
  (d25:Fd K "need_points" c7 f_25)
  (d26:Fd K "strong" gM f_26)
  (d27:Fd K "deepest" dR f_27)
  (d28:Fd K "_law_whole" gJ f_28)
  (d29:Fd K "_law_numbers" dr f_29)
  (d30:Fd K "_law_divisor" eJ f_30)
  (d31:Fd K "_law_fraction" dF f_31)
  (d32:Fd K "_law_digit" gI f_32)
  (d33:Fd K "_law_is_half" dq f_33)
  (d34:Fd K "_law_is_spot" eK f_34)
  (d35:Fd K "_law_points" fA f_35)
  (d36:Fd K "_law_depth" fh f_36)
  (d37:Fd K "_law_least_beside" b8 f_37)
  (d38:Fd K "_law_spot" i7 f_38)
  (d39:Fd K "_law_paper" dS f_39)
  (d40:Fd K "law" ma f_40)
  (z_abs:PySem.W.nsIn K mainGlobals "abs"=some none)
  (z_len:PySem.W.nsIn K mainGlobals "len"=some none)
  (z_range:PySem.W.nsIn K mainGlobals "range"=some none)
  (z_sorted:PySem.W.nsIn K mainGlobals "sorted"=some none)
  (z_set:PySem.W.nsIn K mainGlobals "set"=some none)
  (z_isinstance:PySem.W.nsIn K mainGlobals "isinstance"=some none)
  (z_int:PySem.W.nsIn K mainGlobals "int"=some none)
  (z_bool:PySem.W.nsIn K mainGlobals "bool"=some none)
  (z_max:PySem.W.nsIn K mainGlobals "max"=some none)
  (z_min:PySem.W.nsIn K mainGlobals "min"=some none)
  (z_tuple:PySem.W.nsIn K mainGlobals "tuple"=some none)
  (z_sum:PySem.W.nsIn K mainGlobals "sum"=some none)
  (z_list:PySem.W.nsIn K mainGlobals "list"=some none)
  (z_zip:PySem.W.nsIn K mainGlobals "zip"=some none)
 :∃ fd:FuncData,(∀ (s:Shared) (v:Value),BindsTo s fd ⟨[v],[]⟩ [("_law_script",v)])/\∀ base:Heap,K.In base->base.Ns mainGlobals mg->fY l.prog w K mg base sE 7 fa fd ["_law_script"] (sk K pU):=by
 obtain⟨oc0,od0,sl0,kV0,dc0,pm0,an0,cd0,ct0,a0,l0,e0,k0⟩:=d0;obtain⟨oc1,od1,sl1,kV1,dc1,pm1,an1,cd1,ct1,a1,l1,e1,k1⟩:=d1;obtain⟨oc2,od2,sl2,kV2,dc2,pm2,an2,cd2,ct2,a2,l2,e2,k2⟩:=d2;obtain⟨oc3,od3,sl3,kV3,dc3,pm3,an3,cd3,ct3,a3,l3,e3,k3⟩:=d3;obtain⟨oc4,od4,sl4,kV4,dc4,pm4,an4,cd4,ct4,a4,l4,e4,k4⟩:=d4;obtain⟨oc5,od5,sl5,kV5,dc5,pm5,an5,cd5,ct5,a5,l5,e5,k5⟩:=d5;obtain⟨oc6,od6,sl6,kV6,dc6,pm6,an6,cd6,ct6,a6,l6,e6,k6⟩:=d6;obtain⟨oc7,od7,sl7,kV7,dc7,pm7,an7,cd7,ct7,a7,l7,e7,k7⟩:=d7;obtain⟨oc8,od8,sl8,kV8,dc8,pm8,an8,cd8,ct8,a8,l8,e8,k8⟩:=d8;obtain⟨oc9,od9,sl9,kV9,dc9,pm9,an9,cd9,ct9,a9,l9,e9,k9⟩:=d9;obtain⟨oc10,od10,sl10,kV10,dc10,pm10,an10,cd10,ct10,a10,l10,e10,k10⟩:=d10;obtain⟨oc11,od11,sl11,kV11,dc11,pm11,an11,cd11,ct11,a11,l11,e11,k11⟩:=d11;obtain⟨oc12,od12,sl12,kV12,dc12,pm12,an12,cd12,ct12,a12,l12,e12,k12⟩:=d12;obtain⟨oc13,od13,sl13,kV13,dc13,pm13,an13,cd13,ct13,a13,l13,e13,k13⟩:=d13;obtain⟨oc14,od14,sl14,kV14,dc14,pm14,an14,cd14,ct14,a14,l14,e14,k14⟩:=d14;obtain⟨oc15,od15,sl15,kV15,dc15,pm15,an15,cd15,ct15,a15,l15,e15,k15⟩:=d15;obtain⟨oc16,od16,sl16,kV16,dc16,pm16,an16,cd16,ct16,a16,l16,e16,k16⟩:=d16;obtain⟨oc17,od17,sl17,kV17,dc17,pm17,an17,cd17,ct17,a17,l17,e17,k17⟩:=d17;obtain⟨oc18,od18,sl18,kV18,dc18,pm18,an18,cd18,ct18,a18,l18,e18,k18⟩:=d18;obtain⟨oc19,od19,sl19,kV19,dc19,pm19,an19,cd19,ct19,a19,l19,e19,k19⟩:=d19;obtain⟨oc20,od20,sl20,kV20,dc20,pm20,an20,cd20,ct20,a20,l20,e20,k20⟩:=d20;obtain⟨oc21,od21,sl21,kV21,dc21,pm21,an21,cd21,ct21,a21,l21,e21,k21⟩:=d21;obtain⟨oc22,od22,sl22,kV22,dc22,pm22,an22,cd22,ct22,a22,l22,e22,k22⟩:=d22;obtain⟨oc23,od23,sl23,kV23,dc23,pm23,an23,cd23,ct23,a23,l23,e23,k23⟩:=d23;obtain⟨oc24,od24,sl24,kV24,dc24,pm24,an24,cd24,ct24,a24,l24,e24,k24⟩:=d24;obtain⟨oc25,od25,sl25,kV25,dc25,pm25,an25,cd25,ct25,a25,l25,e25,k25⟩:=d25;obtain⟨oc26,od26,sl26,kV26,dc26,pm26,an26,cd26,ct26,a26,l26,e26,k26⟩:=d26;obtain⟨oc27,od27,sl27,kV27,dc27,pm27,an27,cd27,ct27,a27,l27,e27,k27⟩:=d27;obtain⟨oc28,od28,sl28,kV28,dc28,pm28,an28,cd28,ct28,a28,l28,e28,k28⟩:=d28
 obtain⟨oc29,od29,sl29,kV29,dc29,pm29,an29,cd29,ct29,a29,l29,e29,k29⟩:=d29;obtain⟨oc30,od30,sl30,kV30,dc30,pm30,an30,cd30,ct30,a30,l30,e30,k30⟩:=d30;obtain⟨oc31,od31,sl31,kV31,dc31,pm31,an31,cd31,ct31,a31,l31,e31,k31⟩:=d31;obtain⟨oc32,od32,sl32,kV32,dc32,pm32,an32,cd32,ct32,a32,l32,e32,k32⟩:=d32;obtain⟨oc33,od33,sl33,kV33,dc33,pm33,an33,cd33,ct33,a33,l33,e33,k33⟩:=d33;obtain⟨oc34,od34,sl34,kV34,dc34,pm34,an34,cd34,ct34,a34,l34,e34,k34⟩:=d34;obtain⟨oc35,od35,sl35,kV35,dc35,pm35,an35,cd35,ct35,a35,l35,e35,k35⟩:=d35;obtain⟨oc36,od36,sl36,kV36,dc36,pm36,an36,cd36,ct36,a36,l36,e36,k36⟩:=d36;obtain⟨oc37,od37,sl37,kV37,dc37,pm37,an37,cd37,ct37,a37,l37,e37,k37⟩:=d37;obtain⟨oc38,od38,sl38,kV38,dc38,pm38,an38,cd38,ct38,a38,l38,e38,k38⟩:=d38;obtain⟨oc39,od39,sl39,kV39,dc39,pm39,an39,cd39,ct39,a39,l39,e39,k39⟩:=d39;obtain⟨oc40,od40,sl40,kV40,dc40,pm40,an40,cd40,ct40,a40,l40,e40,k40⟩:=d40;have e:=hfa.symm.trans (PySem.W.mg_of X G a40)
 cases e
 have F_divisor:=aU (st:=gH) l0 e0 k0;have B_divisor:=F_divisor.binds (ps:=["one","other"]) fun _ _ _ _ _ _ us hl=>match us,hl with | [_,_],_=>rfl
 have F_ratio:=aU (st:=kK) l1 e1 k1;have B_ratio:=F_ratio.binds (ps:=["top","bottom"]) fun _ _ _ _ _ _ us hl=>match us,hl with | [_,_],_=>rfl
 have F_below:=aU (st:=kI) l2 e2 k2;have B_below:=F_below.binds (ps:=["one","other"]) fun _ _ _ _ _ _ us hl=>match us,hl with | [_,_],_=>rfl
 have F_half:=aU (st:=n8) l3 e3 k3;have B_half:=F_half.binds (ps:=["a","b","c"]) fun _ _ _ _ _ _ us hl=>match us,hl with | [_,_,_],_=>rfl
 have F_between:=aU (st:=gF) l4 e4 k4;have B_between:=F_between.binds (ps:=["one","other"]) fun _ _ _ _ _ _ us hl=>match us,hl with | [_,_],_=>rfl
 have F_along:=aU (st:=kG) l5 e5 k5;have B_along:=F_along.binds (ps:=["one","other"]) fun _ _ _ _ _ _ us hl=>match us,hl with | [_,_],_=>rfl
 have F_bottoms:=aU (st:=gG) l6 e6 k6;have B_bottoms:=F_bottoms.binds (ps:=["spot"]) fun _ _ _ _ _ _ us hl=>match us,hl with | [_],_=>rfl
 have F_excess:=aU (st:=i6) l7 e7 k7;have B_excess:=F_excess.binds (ps:=["half","spot"]) fun _ _ _ _ _ _ us hl=>match us,hl with | [_,_],_=>rfl
 have F_sign:=aU (st:=oa) l8 e8 k8;have B_sign:=F_sign.binds (ps:=["number"]) fun _ _ _ _ _ _ us hl=>match us,hl with | [_],_=>rfl
 have F_side:=aU (st:=n9) l9 e9 k9;have B_side:=F_side.binds (ps:=["half","spot"]) fun _ _ _ _ _ _ us hl=>match us,hl with | [_,_],_=>rfl
 have F_many_in:=aU (st:=fj) l10 e10 k10;have B_many_in:=F_many_in.binds (ps:=["half","points"]) fun _ _ _ _ _ _ us hl=>match us,hl with | [_,_],_=>rfl
 have F_across:=aU (st:=iZ) l11 e11 k11;have B_across:=F_across.binds (ps:=["one","other"]) fun _ _ _ _ _ _ us hl=>match us,hl with | [_,_],_=>rfl
 have F_spot_at:=aU (st:=gL) l12 e12 k12;have B_spot_at:=F_spot_at.binds (ps:=["border","step"]) fun _ _ _ _ _ _ us hl=>match us,hl with | [_,_],_=>rfl
 have F_asked:=aU (st:=kH) l13 e13 k13;have B_asked:=F_asked.binds (ps:=["border","other"]) fun _ _ _ _ _ _ us hl=>match us,hl with | [_,_],_=>rfl
 have F_meeting:=aU (st:=gK) l14 e14 k14;have B_meeting:=F_meeting.binds (ps:=["border","other"]) fun _ _ _ _ _ _ us hl=>match us,hl with | [_,_],_=>rfl
 have F_limits:=aU (st:=i8) l15 e15 k15;have B_limits:=F_limits.binds (ps:=["border","halves"]) fun _ _ _ _ _ _ us hl=>match us,hl with | [_,_],_=>rfl
 have F_apart:=aU (st:=jn) l16 e16 k16;have B_apart:=F_apart.binds (ps:=["border","halves"]) fun _ _ _ _ _ _ us hl=>match us,hl with | [_,_],_=>rfl
 have F_clash:=aU (st:=kJ) l17 e17 k17;have B_clash:=F_clash.binds (ps:=["border","halves","ends"]) fun _ _ _ _ _ _ us hl=>match us,hl with | [_,_,_],_=>rfl
 have F_spot_between:=aU (st:=cG) l18 e18 k18;have B_spot_between:=F_spot_between.binds (ps:=["border","ends"]) fun _ _ _ _ _ _ us hl=>match us,hl with | [_,_],_=>rfl
 have F_lowered:=aU (st:=fi) l19 e19 k19;have B_lowered:=F_lowered.binds (ps:=["weights"]) fun _ _ _ _ _ _ us hl=>match us,hl with | [_],_=>rfl
 have F_weights_of:=aU (st:=dG) l20 e20 k20;have B_weights_of:=F_weights_of.binds (ps:=["chosen"]) fun _ _ _ _ _ _ us hl=>match us,hl with | [_],_=>rfl
 have F_none_shared:=aU (st:=ci) l21 e21 k21;have B_none_shared:=F_none_shared.binds (ps:=["halves","places"]) fun _ _ _ _ _ _ us hl=>match us,hl with | [_,_],_=>rfl
 have F_shared:=aU (st:=i9) l22 e22 k22;have B_shared:=F_shared.binds (ps:=["halves"]) fun _ _ _ _ _ _ us hl=>match us,hl with | [_],_=>rfl
 have F_upright_and_level:=aU (st:=bG) l23 e23 k23;have B_upright_and_level:=F_upright_and_level.binds (ps:=["point"]) fun _ _ _ _ _ _ us hl=>match us,hl with | [_],_=>rfl
 have F_bordered:=aU (st:=fy) l24 e24 k24;have B_bordered:=F_bordered.binds (ps:=["points"]) fun _ _ _ _ _ _ us hl=>match us,hl with | [_],_=>rfl
 have F_need_points:=aU (st:=c7) l25 e25 k25;have B_need_points:=F_need_points.binds (ps:=["points"]) fun _ _ _ _ _ _ us hl=>match us,hl with | [_],_=>rfl
 have F_strong:=aU (st:=gM) l26 e26 k26;have B_strong:=F_strong.binds (ps:=["points","many"]) fun _ _ _ _ _ _ us hl=>match us,hl with | [_,_],_=>rfl
 have F_deepest:=aU (st:=dR) l27 e27 k27;have B_deepest:=F_deepest.binds (ps:=["points"]) fun _ _ _ _ _ _ us hl=>match us,hl with | [_],_=>rfl
 have F_l_whole:=aU (st:=gJ) l28 e28 k28;have B_l_whole:=F_l_whole.binds (ps:=["_law_found"]) fun _ _ _ _ _ _ us hl=>match us,hl with | [_],_=>rfl
 have F_l_numbers:=aU (st:=dr) l29 e29 k29;have B_l_numbers:=F_l_numbers.binds (ps:=["_law_script","_law_many"]) fun _ _ _ _ _ _ us hl=>match us,hl with | [_,_],_=>rfl
 have F_l_divisor:=aU (st:=eJ) l30 e30 k30;have B_l_divisor:=F_l_divisor.binds (ps:=["_law_one","_law_other"]) fun _ _ _ _ _ _ us hl=>match us,hl with | [_,_],_=>rfl
 have F_l_fraction:=aU (st:=dF) l31 e31 k31;have B_l_fraction:=F_l_fraction.binds (ps:=["_law_top","_law_bottom"]) fun _ _ _ _ _ _ us hl=>match us,hl with | [_,_],_=>rfl
 have F_l_digit:=aU (st:=gI) l32 e32 k32;have B_l_digit:=F_l_digit.binds (ps:=["_law_number","_law_base","_law_place"]) fun _ _ _ _ _ _ us hl=>match us,hl with | [_,_,_],_=>rfl
 have F_l_is_half:=aU (st:=dq) l33 e33 k33;have B_l_is_half:=F_l_is_half.binds (ps:=["_law_found"]) fun _ _ _ _ _ _ us hl=>match us,hl with | [_],_=>rfl
 have F_l_is_spot:=aU (st:=eK) l34 e34 k34;have B_l_is_spot:=F_l_is_spot.binds (ps:=["_law_found"]) fun _ _ _ _ _ _ us hl=>match us,hl with | [_],_=>rfl
 have F_l_points:=aU (st:=fA) l35 e35 k35;have B_l_points:=F_l_points.binds (ps:=["_law_head","_law_many"]) fun _ _ _ _ _ _ us hl=>match us,hl with | [_,_],_=>rfl
 have F_l_depth:=aU (st:=fh) l36 e36 k36;have B_l_depth:=F_l_depth.binds (ps:=["_law_points_here","_law_spot_here"]) fun _ _ _ _ _ _ us hl=>match us,hl with | [_,_],_=>rfl
 have F_l_least_beside:=aU (st:=b8) l37 e37 k37;have B_l_least_beside:=F_l_least_beside.binds (ps:=["_law_ways","_law_way"]) fun _ _ _ _ _ _ us hl=>match us,hl with | [_,_],_=>rfl
 have F_l_spot:=aU (st:=i7) l38 e38 k38;have B_l_spot:=F_l_spot.binds (ps:=["_law_points_here","_law_number"]) fun _ _ _ _ _ _ us hl=>match us,hl with | [_,_],_=>rfl
 have F_l_paper:=aU (st:=dS) l39 e39 k39;have B_l_paper:=F_l_paper.binds (ps:=["_law_halves","_law_weights","_law_points_here","_law_k"]) fun _ _ _ _ _ _ us hl=>match us,hl with | [_,_,_,_],_=>rfl
 have F_law:=aU (st:=ma) l40 e40 k40;have m_abs:=PySem.W.mg_none_of X G z_abs;have m_len:=PySem.W.mg_none_of X G z_len;have m_range:=PySem.W.mg_none_of X G z_range;have m_sorted:=PySem.W.mg_none_of X G z_sorted;have m_set:=PySem.W.mg_none_of X G z_set;have m_isinstance:=PySem.W.mg_none_of X G z_isinstance;have m_int:=PySem.W.mg_none_of X G z_int;have m_bool:=PySem.W.mg_none_of X G z_bool;have m_max:=PySem.W.mg_none_of X G z_max;have m_min:=PySem.W.mg_none_of X G z_min;have m_tuple:=PySem.W.mg_none_of X G z_tuple;have m_sum:=PySem.W.mg_none_of X G z_sum;have m_list:=PySem.W.mg_none_of X G z_list;have m_zip:=PySem.W.mg_none_of X G z_zip;refine⟨PySem.W.fnOf "law" "law" (gW ma) (cw ma) (aj ma) .none kV40 dc40 pm40 an40 cd40 ct40,fun s v=>.of_eq rfl,fun base _ _=>?_⟩;have c_need_points:Callee l.prog w K mg base 1 "need_points" bw:=az F_need_points (PySem.W.mg_of X G a25) B_need_points (aX F_need_points oe mn (fun cdv A outer s H E hr=>oF m_len hr) nQ);have c_upright_and_level:Callee l.prog w K mg base 1 "upright_and_level" bD:=az F_upright_and_level (PySem.W.mg_of X G a23) B_upright_and_level (aX F_upright_and_level cH iA (fun cdv A outer s H E hr=>jB hr) iW);have c_divisor:Callee l.prog w K mg base 1 "divisor" bP:=az F_divisor (PySem.W.mg_of X G a0) B_divisor (aX F_divisor dU t0 (fun cdv A outer s H E hr=>xT m_abs hr) vF);have c_half:Callee l.prog w K mg base 2 "half" kM:=az F_half (PySem.W.mg_of X G a3) B_half (aX F_half xw BG (fun cdv A outer s H E hr=>Iq c_divisor hr) FM);have c_between:Callee l.prog w K mg base 3 "between" fE:=az F_between (PySem.W.mg_of X G a4) B_between (aX F_between j4 tX (fun cdv A outer s H E hr=>xQ c_half hr) vC)
 have c_bordered:Callee l.prog w K mg base 4 "bordered" eO:=az F_bordered (PySem.W.mg_of X G a24) B_bordered (aX F_bordered fS rE (fun cdv A outer s H E hr=>uU m_sorted m_set c_upright_and_level c_between hr) uq);have c_many_in:Callee l.prog w K mg base 1 "many_in" fJ:=az F_many_in (PySem.W.mg_of X G a10) B_many_in (aX F_many_in vW ub (fun cdv A outer s H E hr=>xZ m_len hr) vL);have c_strong:Callee l.prog w K mg base 5 "strong" dZ:=az F_strong (PySem.W.mg_of X G a26) B_strong (aX F_strong zk vv (fun cdv A outer s H E hr=>zZ c_need_points c_bordered c_many_in hr) yW);have c_sign:Callee l.prog w K mg base 1 "sign" kO:=az F_sign (PySem.W.mg_of X G a8) B_sign (aX F_sign Gz BI (fun cdv A outer s H E hr=>Iu hr) FQ);have c_bottoms:Callee l.prog w K mg base 1 "bottoms" fF:=az F_bottoms (PySem.W.mg_of X G a6) B_bottoms (aX F_bottoms vU tY (fun cdv A outer s H E hr=>xR hr) vD);have c_excess:Callee l.prog w K mg base 2 "excess" gN:=az F_excess (PySem.W.mg_of X G a7) B_excess (aX F_excess lK vn (fun cdv A outer s H E hr=>zV c_bottoms hr) yR);have c_side:Callee l.prog w K mg base 3 "side" kN:=az F_side (PySem.W.mg_of X G a9) B_side (aX F_side Gy BH (fun cdv A outer s H E hr=>Ir c_sign c_excess hr) FP);have c_across:Callee l.prog w K mg base 1 "across" bM:=az F_across (PySem.W.mg_of X G a11) B_across (aX F_across zj vm (fun cdv A outer s H E hr=>zU hr) yQ);have c_along:Callee l.prog w K mg base 1 "along" eL:=az F_along (PySem.W.mg_of X G a5) B_along (aX F_along Dz yy (fun cdv A outer s H E hr=>EF hr) C1);have c_asked:Callee l.prog w K mg base 2 "asked" fC:=az F_asked (PySem.W.mg_of X G a13) B_asked (aX F_asked DB yB (fun cdv A outer s H E hr=>EH c_along hr) C4)
 have c_meeting:Callee l.prog w K mg base 3 "meeting" fK:=az F_meeting (PySem.W.mg_of X G a14) B_meeting (aX F_meeting j6 uc (fun cdv A outer s H E hr=>x4 c_asked c_across hr) vM);have c_below:Callee l.prog w K mg base 1 "below" eM:=az F_below (PySem.W.mg_of X G a2) B_below (aX F_below DC yC (fun cdv A outer s H E hr=>EI hr) C5);have c_limits:Callee l.prog w K mg base 4 "limits" gO:=az F_limits (PySem.W.mg_of X G a15) B_limits (aX F_limits du vp (fun cdv A outer s H E hr=>zX m_range m_len c_across c_meeting c_below hr) yT);have c_apart:Callee l.prog w K mg base 3 "apart" ja:=az F_apart (PySem.W.mg_of X G a16) B_apart (aX F_apart DA yz (fun cdv A outer s H E hr=>EG m_range m_len c_across c_asked hr) C3);have c_clash:Callee l.prog w K mg base 4 "clash" jb:=az F_clash (PySem.W.mg_of X G a17) B_clash (aX F_clash DD yD (fun cdv A outer s H E hr=>EJ c_below c_apart hr) C6);have c_lowered:Callee l.prog w K mg base 2 "lowered" dX:=az F_lowered (PySem.W.mg_of X G a19) B_lowered (aX F_lowered hX ua (fun cdv A outer s H E hr=>xY c_divisor hr) vK);have c_weights_of:Callee l.prog w K mg base 3 "weights_of" c8:=az F_weights_of (PySem.W.mg_of X G a20) B_weights_of (aX F_weights_of eu nL (fun cdv A outer s H E hr=>qf m_len m_abs c_lowered c_across hr) oZ);have c_none_shared:Callee l.prog w K mg base 4 "none_shared" cJ:=az F_none_shared (PySem.W.mg_of X G a21) B_none_shared (aX F_none_shared og mo (fun cdv A outer s H E hr=>oG c_weights_of hr) nR);have c_ratio:Callee l.prog w K mg base 2 "ratio" gP:=az F_ratio (PySem.W.mg_of X G a1) B_ratio (aX F_ratio oh yE (fun cdv A outer s H E hr=>EK c_divisor hr) C7)
 have c_spot_at:Callee l.prog w K mg base 3 "spot_at" dY:=az F_spot_at (PySem.W.mg_of X G a12) B_spot_at (aX F_spot_at hZ ud (fun cdv A outer s H E hr=>x5 c_along c_ratio hr) vN);have c_spot_between:Callee l.prog w K mg base 4 "spot_between" cf:=az F_spot_between (PySem.W.mg_of X G a18) B_spot_between (aX F_spot_between ir lE (fun cdv A outer s H E hr=>mY c_spot_at hr) mq);have c_shared:Callee l.prog w K mg base 5 "shared" dy:=az F_shared (PySem.W.mg_of X G a22) B_shared (aX F_shared dw vq (fun cdv A outer s H E hr=>zY m_range m_len m_sorted c_side c_limits c_clash c_none_shared c_spot_between hr) yV);have c_deepest:je l.prog w K mg base 6 "deepest" (uC K fG):=⟨_,_,_,PySem.W.mg_of X G a27,EY F_deepest bO tZ (fun cdv A outer s H E hr=>xS m_len c_strong c_shared c_need_points hr) vE,B_deepest,F_deepest.kp⟩;have c_l_whole:Callee l.prog w K mg base 1 "_law_whole" bg:=az F_l_whole (PySem.W.mg_of X G a28) B_l_whole (aX F_l_whole vV t8 (fun cdv A outer s H E hr=>xX m_isinstance m_int m_bool hr) vJ);have c_l_divisor:Callee l.prog w K mg base 1 "_law_divisor" bB:=az F_l_divisor (PySem.W.mg_of X G a30) B_l_divisor (aX F_l_divisor fb oU (fun cdv A outer s H E hr=>sO m_abs hr) rK);have c_l_is_half:Callee l.prog w K mg base 2 "_law_is_half" cO:=az F_l_is_half (PySem.W.mg_of X G a33) B_l_is_half (aX F_l_is_half rV oV (fun cdv A outer s H E hr=>sP m_isinstance m_tuple m_len c_l_whole c_l_divisor hr) rL);have c_l_paper:je l.prog w K mg base 3 "_law_paper" (uD K dW):=⟨_,_,_,PySem.W.mg_of X G a39,EZ F_l_paper fB t7 (fun cdv A outer s H E G hr=>xW (G:=G) m_isinstance m_list m_len m_zip m_range c_l_is_half c_l_whole hr) vI,B_l_paper,F_l_paper.kp⟩
 have c_l_least_beside:Callee l.prog w K mg base 1 "_law_least_beside" bV:=az F_l_least_beside (PySem.W.mg_of X G a37) B_l_least_beside (aX F_l_least_beside aO jW (fun cdv A outer s H E hr=>lp m_min hr) kD);have c_l_depth:Callee l.prog w K mg base 2 "_law_depth" cI:=az F_l_depth (PySem.W.mg_of X G a36) B_l_depth (aX F_l_depth bY t5 (fun cdv A outer s H E hr=>xU m_len m_min c_l_least_beside hr) vG);have c_l_fraction:Callee l.prog w K mg base 2 "_law_fraction" bK:=az F_l_fraction (PySem.W.mg_of X G a31) B_l_fraction (aX F_l_fraction jI nK (fun cdv A outer s H E hr=>qe c_l_divisor hr) oY);have c_l_spot:Callee l.prog w K mg base 3 "_law_spot" fk:=az F_l_spot (PySem.W.mg_of X G a38) B_l_spot (aX F_l_spot cN vo (fun cdv A outer s H E hr=>zW m_len m_sum c_l_fraction hr) yS);have c_l_is_spot:Callee l.prog w K mg base 2 "_law_is_spot" cP:=az F_l_is_spot (PySem.W.mg_of X G a34) B_l_is_spot (aX F_l_is_spot kL oW (fun cdv A outer s H E hr=>sQ m_isinstance m_tuple m_len c_l_whole c_l_divisor hr) rM);have c_l_digit:Callee l.prog w K mg base 1 "_law_digit" fH:=az F_l_digit (PySem.W.mg_of X G a32) B_l_digit (aX F_l_digit j5 t6 (fun cdv A outer s H E hr=>xV m_range hr) vH);have c_l_points:Callee l.prog w K mg base 2 "_law_points" eP:=az F_l_points (PySem.W.mg_of X G a35) B_l_points (aX F_l_points bd rF (fun cdv A outer s H E hr=>uV m_range c_l_digit hr) ur);have c_l_numbers:Callee l.prog w K mg base 1 "_law_numbers" dH:=az F_l_numbers (PySem.W.mg_of X G a29) B_l_numbers (aX F_l_numbers cM oX (fun cdv A outer s H E hr=>sR m_range m_max m_min m_len hr) rN)
 exact aX F_law gu Ft (fun cdv A outer s H E hr=>LU m_len m_isinstance m_tuple m_list c_deepest c_l_paper c_l_depth c_l_spot c_l_whole c_l_is_spot c_l_points c_l_numbers hr) JG
theorem walk {l:PySem.W.OpenLaw}{q:Program}{loose:List Str}{XP:(Str->Option Value)->Heap->Prop}{YP:World->Heap->Prop}{d:DefRec}{K:Params->PySem.W.Frag}(hn:l.most=some 63)(hdf:d.params.defaults=[])
  (hY:∀ (w:World) (h:Heap),YP w h->(K w.params).In h)
  (F:∀ (w:World) (mg:Str->Option Value) (fa:Addr) (h:Heap),(K w.params).In h->h.Ns mainGlobals mg->mg d.name=some (.ref fa) →
   ∃ fd:FuncData,(∀ (s:Shared) (u:Value),BindsTo s fd ⟨[u],[]⟩ [("_law_script",u)])/\∀ base:Heap,(K w.params).In base->base.Ns mainGlobals mg->fY l.prog w (K w.params) mg base sE 7 fa fd ["_law_script"] (sk (K w.params) pU)) :
  PySem.W.WalkO q loose XP YP l.row.toRowW d [] (fun f vs=>PySem.call f vs):=
 L2.walk_of (n:=63) (k:=7) (x:="_law_script") (CX:=fun _=>sE) (sp:=fun w=>sk (K w.params) pU) hn (by decide) hdf ⟨rfl,by decide,by decide⟩ hY F (fun _ _ a ns hl _ hS=>Jq hl hS) fun _ _ _ _ _ z=>z
end Law
open PySem PySem.W PyProof.Rows
set_option maxRecDepth 100000 in
set_option maxHeartbeats 0 in
theorem PySem.Challenge.cw_deepspot_k43_whole_deepest_holds : PySem.Challenge.rw_deepspot_k43_whole_deepest.Holds := by
 w_on;o_law;k_head;(case hw=>w_witness2)
 k_fill
 refine Law.walk (l:=PySem.Challenge.rw_deepspot_k43_whole_deepest) rfl rfl (fun w h Y=>by first|exact PySem.W.kIn_of Y|exact PySem.W.km_in_of Y) ?F
 case F=>
  intro w mg fa h KX G hmg;refine' Law.all_mk KX G hmg (Law.fd_mk ?_ ?_ ?_ ?_) (Law.fd_mk ?_ ?_ ?_ ?_) (Law.fd_mk ?_ ?_ ?_ ?_) (Law.fd_mk ?_ ?_ ?_ ?_) (Law.fd_mk ?_ ?_ ?_ ?_) (Law.fd_mk ?_ ?_ ?_ ?_) (Law.fd_mk ?_ ?_ ?_ ?_) (Law.fd_mk ?_ ?_ ?_ ?_) (Law.fd_mk ?_ ?_ ?_ ?_) (Law.fd_mk ?_ ?_ ?_ ?_) (Law.fd_mk ?_ ?_ ?_ ?_) (Law.fd_mk ?_ ?_ ?_ ?_) (Law.fd_mk ?_ ?_ ?_ ?_) (Law.fd_mk ?_ ?_ ?_ ?_) (Law.fd_mk ?_ ?_ ?_ ?_) (Law.fd_mk ?_ ?_ ?_ ?_) (Law.fd_mk ?_ ?_ ?_ ?_) (Law.fd_mk ?_ ?_ ?_ ?_) (Law.fd_mk ?_ ?_ ?_ ?_) (Law.fd_mk ?_ ?_ ?_ ?_) (Law.fd_mk ?_ ?_ ?_ ?_) (Law.fd_mk ?_ ?_ ?_ ?_) (Law.fd_mk ?_ ?_ ?_ ?_) (Law.fd_mk ?_ ?_ ?_ ?_) (Law.fd_mk ?_ ?_ ?_ ?_) (Law.fd_mk ?_ ?_ ?_ ?_) (Law.fd_mk ?_ ?_ ?_ ?_) (Law.fd_mk ?_ ?_ ?_ ?_) (Law.fd_mk ?_ ?_ ?_ ?_) (Law.fd_mk ?_ ?_ ?_ ?_) (Law.fd_mk ?_ ?_ ?_ ?_) (Law.fd_mk ?_ ?_ ?_ ?_) (Law.fd_mk ?_ ?_ ?_ ?_) (Law.fd_mk ?_ ?_ ?_ ?_) (Law.fd_mk ?_ ?_ ?_ ?_) (Law.fd_mk ?_ ?_ ?_ ?_) (Law.fd_mk ?_ ?_ ?_ ?_) (Law.fd_mk ?_ ?_ ?_ ?_) (Law.fd_mk ?_ ?_ ?_ ?_) (Law.fd_mk ?_ ?_ ?_ ?_) (Law.fd_mk ?_ ?_ ?_ ?_) ?_ ?_ ?_ ?_ ?_ ?_ ?_ ?_ ?_ ?_ ?_ ?_ ?_ ?_
  all_goals(try k_is)

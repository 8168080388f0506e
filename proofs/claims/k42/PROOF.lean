import PyProof.Rows.All
import Wide.All
import OpenK.AllK
import Wide.FinOn
import Lean
import PyProof.EqAt
import PyProof.EqKinds
import PyProof.TupleCall
import PyProof.CompFree
import PyProof.SetScanFacts
import PyProof.TupleKey
import PyProof.SetKind
import PyProof.DictStraight
import PyProof.IsRules
import PyProof.WalkLemmas
import PyProof.Rows.SetFrom
import KE.KRevIter
import PyProof.Rows.SortRuns
import KE.KSortTup
import PyProof.ListNew
import PyProof.ExcArgsOwn
import KE.KIsAll
import PyProof.NsDelKeeps
import PyProof.NeKinds
import PyProof.FitsBits
import KE.LcSums
import PyProof.ZipIter
import PyProof.EnumFor
import PyProof.EnumStmt
import PyProof.Rows.EnumRows
import PyProof.Rows.FactsT2
import PyProof.Rows.SortWalk
import PyProof.Rows.FactsT3
import PyProof.LayNew
import KE.RegKIsAll
import PySem.Challenge.RW_deepspot_k42_whole_regions_of_depth
local macro_rules | `(tactic| walk_at "o")=>`(tactic| first | lia | omega)
set_option Elab.async false
set_option linter.all false
set_option maxRecDepth 100000
namespace L2
open PySem PySem.Spec PyProof.Rows
abbrev Key:=Sum Int Str
def IM:Key->Value->Bool
 | .inl k,v=>Value.isInt k v
 | .inr x,v=>Value.isStrOf x v
def Pq (w:World):Key->Int
 | .inl k=>hashInt k
 | .inr x=>hashStr w x
theorem bR:∀ {k:Key}{v:Value},IM k v=true->(∃ i t,k=Sum.inl i/\v=Value.int i t)\/(∃ x t,k=Sum.inr x/\v=Value.str x t)
 | .inl i,v,h=>by
  obtain⟨t,e⟩:=Value.isInt_shape (k:=i) (v:=v) h;exact .inl ⟨i,t,rfl,e⟩
 | .inr x,v,h=>by
  obtain⟨t,e⟩:=Value.isStrOf_shape (x:=x) (v:=v) h;exact .inr ⟨x,t,rfl,e⟩
theorem KG (a b:Int):decide ((Sum.inl a:Key)=Sum.inl b)=(a == b):=by
 by_cases e:a=b
 ·subst e;simp
 ·have h:¬ (Sum.inl a:Key)=Sum.inl b:=fun q=>e (Sum.inl.inj q);rw[decide_eq_false h];exact(beq_eq_false_iff_ne.mpr e).symm
theorem KL (a b:Str):decide ((Sum.inr a:Key)=Sum.inr b)=decide (a=b):=by
 by_cases e:a=b
 ·subst e;simp
 ·have h:¬ (Sum.inr a:Key)=Sum.inr b:=fun q=>e (Sum.inr.inj q);rw[decide_eq_false h,decide_eq_false e]
theorem KH (a:Int)(b:Str):decide ((Sum.inl a:Key)=Sum.inr b)=false:=decide_eq_false (fun q=>nomatch q)
theorem KJ (a:Str)(b:Int):decide ((Sum.inr a:Key)=Sum.inl b)=false:=decide_eq_false (fun q=>nomatch q)
def yq (prog:Program)(w:World):PySem.KeyKind prog w Key where
 is:=IM
 hash:=Pq w
 inj:=fun v a b ha hb=>by
  rcases bR ha with ⟨i,t,rfl,rfl⟩|⟨x,t,rfl,rfl⟩
  ·rcases bR hb with ⟨j,u,rfl,e⟩|⟨y,u,rfl,e⟩
   ·injection e with e1 _;rw[e1]
   ·exact nomatch e
  ·rcases bR hb with ⟨j,u,rfl,e⟩|⟨y,u,rfl,e⟩
   ·exact nomatch e
   ·injection e with e1 _;rw[e1]
 byValue:=fun k v h=>by
  rcases bR h with ⟨i,t,rfl,rfl⟩|⟨x,t,rfl,rfl⟩ <;> rfl
 pyHash:=fun hv h=>by
  rcases bR hv with ⟨i,t,rfl,rfl⟩|⟨x,t,rfl,rfl⟩
  ·exact wpAny_pyHash_int h
  ·exact wpAny_pyHash_str h
 eqBool:=fun hu hv h=>by
  rcases bR hu with ⟨i,t,rfl,rfl⟩|⟨x,t,rfl,rfl⟩
  ·rcases bR hv with ⟨j,u,rfl,rfl⟩|⟨y,u,rfl,rfl⟩
   ·rw[KG]at h;exact wpAny_eqBool_int h
   ·rw[KH]at h;exact SeqAt.EqAt.int_str i t y u _ _ _ _ h
  ·rcases bR hv with ⟨j,u,rfl,rfl⟩|⟨y,u,rfl,rfl⟩
   ·rw[KJ]at h;exact SeqAt.EqAt.str_int x t j u _ _ _ _ h
   ·rw[KL]at h;exact wpAny_eqBool_str h
 «strs»:=fun k x t v h=>by
  rcases bR h with ⟨i,u,rfl,e⟩|⟨y,u,rfl,e⟩
  ·exact nomatch e
  ·injection e with e1 _
   subst e1
   cases v <;> rfl
end L2
namespace L2
open PySem PySem.Spec PyProof.Rows
inductive V where
 | non|bl (b:Bool)|int (i:Int)|str (x:Str)|byt (b:Array UInt8)|flt (b:UInt64)|ref (a:Addr)|ty (n:String)
 deriving DecidableEq
def RelV:V->Value->Prop
 | .non,u=>u=Value.none
 | .bl b,u=>u=Value.bool b
 | .int i,u=>∃ t,u=Value.int i t
 | .str x,u=>∃ t,u=Value.str x t
 | .byt b,u=>∃ t,u=Value.bytes b t
 | .flt b,u=>∃ t,u=Value.float b t
 | .ref a,u=>u=Value.ref a
 | .ty n,u=>u=Value.type n
abbrev aQ:List V->List Value->Prop:=Paired RelV
theorem aQ.length {xs:List V}{us:List Value}(r:aQ xs us):xs.length=us.length:=Paired.length r
theorem aQ.get:∀ {xs:List V}{us:List Value}{i:Nat}{x:V},aQ xs us->xs[i]?=some x->∃ u,us[i]?=some u/\RelV x u
 | _,_,_,_,.nil,e=>by simp at e
 | _,_,0,_,.cons r _,e=>by simp at e;subst e;exact⟨_,rfl,r⟩
 | _,_,i+1,x,.cons _ t,e=>by
  obtain⟨u,h1,h2⟩:=aQ.get (i:=i) (x:=x) t (by simpa using e)
  exact⟨u,by simpa using h1,h2⟩
theorem aQ.set {x:V}{u:Value}(r:RelV x u):∀ {xs:List V}{us:List Value} (i:Nat),aQ xs us->aQ (xs.set i x) (us.set i u)
 | _,_,_,.nil=>.nil
 | _,_,0,.cons _ t=>.cons r t
 | _,_,i+1,.cons q t=>.cons q (aQ.set r i t)
theorem aQ.append:∀ {xs ys:List V}{us ws:List Value},aQ xs us->aQ ys ws->aQ (xs++ys) (us++ws)
 | _,_,_,_,.nil,s=>s
 | _,_,_,_,.cons r t,s=>.cons r (aQ.append t s)
theorem aQ.take:∀ {xs:List V}{us:List Value} (n:Nat),aQ xs us->aQ (xs.take n) (us.take n)
 | _,_,0,_=>.nil
 | _,_,_+1,.nil=>.nil
 | _,_,n+1,.cons r t=>.cons r (aQ.take n t)
theorem aQ.drop:∀ {xs:List V}{us:List Value} (n:Nat),aQ xs us->aQ (xs.drop n) (us.drop n)
 | _,_,0,r=>r
 | _,_,_+1,.nil=>.nil
 | _,_,n+1,.cons _ t=>aQ.drop n t
def Mv:Option V->Option Value->Prop
 | some v,some u=>RelV v u
 | none,none=>True
 | _,_=>False
def KV {κ:Type}:List (κ × V)->List (κ × Value)->Prop:=Paired fun (p:κ × V) (q:κ × Value)=>p.1=q.1/\RelV p.2 q.2
def kV:Key->V
 | .inl i=>.int i
 | .inr x=>.str x
inductive HO where
  | lst (xs:List V)
  | tup (xs:List V)
  | dK (kvs:List (Key × V))|dT (kvs:List (List Key × V))
  | set (S:Int->Bool) (n:Nat)
  | ins (C dx:Addr) (fs:List (Str × V))
  | own (x:Addr)
  | xd (fs:List (Str × V))
  | met (f x:Addr)
  | rng (lo hi:Int)
  | frz (o:Obj) (u:HO)
  | tbl (ps:Array Value)
  | ext (φ:Heap->Prop)
abbrev Hp:=Addr->Option HO
def dy (H:Hp)(a:Addr)(o:HO):Hp:=fun b=>if b=a then some o else H b
theorem bT {H:Hp}{a:Addr}{o:HO}:dy H a o a=some o:=by unfold dy;rw[if_pos rfl]
theorem b8 {H:Hp}{a b:Addr}{o:HO}(h:b≠a):dy H a o b=H b:=by unfold dy;rw[if_neg h]
theorem dS {H:Hp}{a b:Addr}{o:HO}(h:H a=some o)(h':H b=none):a≠b:=by
 intro e;subst e;rw[h]at h';cases h'
section
variable (P:Program) (w:World)
def eB (H:Hp)(h:Heap)(a:Addr):HO->Prop
 | .lst xs=>xs.length<=sizeLine/\∃ (its:List Value) (n:Nat),aQ xs its/\h.get? a=some {cls:=.type "list",data:=.seq its.toArray n}
 | .tup xs=>xs.length<=sizeLine/\∃ its:List Value,aQ xs its/\IsTup h a its.toArray
 | .dK kvs=>kvs.length<=sizeLine/\(a == sysModules)=false/\∃ vs,KV kvs vs/\h.DictOf (yq P w) a vs
 | .dT kvs=>kvs.length<=sizeLine/\(a == sysModules)=false/\∃ xs:List (List Key × Addr × Value),
   Paired (fun (p:List Key × V) (q:List Key × Addr × Value)=>p.1=q.1/\H q.2.1=some (.tup (p.1.map kV))/\RelV p.2 q.2.2) kvs xs ∧
   ∃ o es ep,h.get? a=some o/\o.ExactDict/\o.data=.dict es ep/\es.toList=xs.map (entryOfKey (tupleKind (yq P w)))/\(xs.map (·.1)).Nodup
 | .set S n=>h.SetOf (intKind P w) a S n
 | .ins C dx fs=>H dx=some (.own a)/\fs.length<=1000/\dx≠a/\h.get? a=some (PySem.W.instObj C dx) ∧
   ∃ mA,h.Ns1 dx mA/\(∀ f,Mv (fs.lookup f) (mA f))/\PySem.Within mA (fs.map (·.1))
 | .own _=>∃ o,h.get? a=some o
 | .xd fs=>∃ mA,h.Ns1 a mA/\∀ f,Mv (fs.lookup f) (mA f)
 | .rng lo hi=>∃ t u v,h.get? a=some {cls:=.type "range",data:=.fields #[.int lo t,.int hi u,.int 1 v]}
 | .frz o u=>h.get? a=some o/\eB H h a u
 | .tbl ps=>h.get? a=some {cls:=.none,data:=.fields ps}
 | .met f x=>h.get? a=some (PySem.W.methodObj (.ref f) (.ref x))
 | .ext φ=>φ h/\(∃ o,h.get? a=some o)/\∀ h1 h2:Heap,φ h1->(∀ o,h1.get? a=some o->h2.get? a=some o)->φ h2
def g7 (H:Hp)(h:Heap):Prop:=∀ a o,H a=some o->eB P w H h a o
end
section
variable {P:Program}{w:World}{H H':Hp}{h h':Heap}{a:Addr}{o:HO}
theorem eB.lt (x:eB P w H h a o):a<h.objs.size:=by
 cases o with
 | lst xs=>obtain⟨_,_,_,_,e⟩:=x;exact Heap.lt_size e
 | tup xs=>obtain⟨_,_,_,p⟩:=x;exact p.lt
 | dK kvs=>obtain⟨_,_,_,_,o,_,_,e,_⟩:=x;exact Heap.lt_size e
 | dT kvs=>obtain⟨_,_,_,_,o,_,_,e,_⟩:=x;exact Heap.lt_size e
 | set S n=>obtain⟨o,_,_,_,e,_⟩:=x;exact Heap.lt_size e
 | ins C dx fs=>obtain⟨_,_,_,e,_⟩:=x;exact Heap.lt_size e
 | own y=>obtain⟨_,e⟩:=x;exact Heap.lt_size e
 | xd fs=>obtain⟨_,⟨_,_,_,e,_⟩,_⟩:=x;exact Heap.lt_size e
 | rng lo hi=>obtain⟨_,_,_,e⟩:=x;exact Heap.lt_size e
 | frz ob u=>obtain⟨e,_⟩:=x;exact Heap.lt_size e
 | tbl ps=>exact Heap.lt_size (show h.get? a=some _ from x)
 | met f y=>exact Heap.lt_size (show h.get? a=some _ from x)
 | ext φ=>obtain⟨_,⟨_,e⟩,_⟩:=x;exact Heap.lt_size e
theorem Paired.mapP {α β:Type}{F G:α->β->Prop}:∀ {l₁:List α}{l₂:List β},Paired F l₁ l₂->(∀ a b,F a b->G a b)->Paired G l₁ l₂
 | _,_,.nil,_=>.nil
 | _,_,.cons r t,f=>.cons (f _ _ r) (Paired.mapP t f)
theorem eB.stay (x:eB P w H h a o)(k:∀ b u,(b=a\/H b=some (.own a))->h.get? b=some u->h'.get? b=some u)
  (ho:∀ b,H b=some (.own a)->H' b=some (.own a)) (ht:∀ b xs,H b=some (.tup xs)->H' b=some (.tup xs)):eB P w H' h' a o:=by
 induction o with
 | lst xs=>obtain⟨z,its,n,r,e⟩:=x;exact⟨z,its,n,r,k _ _ (.inl rfl) e⟩
 | tup xs=>obtain⟨z,its,r,ob,e,c⟩:=x;exact⟨z,its,r,ob,k _ _ (.inl rfl) e,c⟩
 | dK kvs=>obtain⟨z,y,vs,r,ob,es,ep,e,c⟩:=x;exact⟨z,y,vs,r,ob,es,ep,k _ _ (.inl rfl) e,c⟩
 | dT kvs=>
  obtain⟨z,y,xs,r,ob,es,ep,e,c⟩:=x;exact⟨z,y,xs,Paired.mapP r fun p q z=>⟨z.1,ht _ _ z.2.1,z.2.2⟩,ob,es,ep,k _ _ (.inl rfl) e,c⟩
 | set S n=>obtain⟨ob,es,ep,t,e,c⟩:=x;exact⟨ob,es,ep,t,k _ _ (.inl rfl) e,c⟩
 | ins C dx fs=>
  obtain⟨d,z,ne,e,mA,⟨od,es,ep,e2,c⟩,r⟩:=x;exact⟨ho _ d,z,ne,k _ _ (.inl rfl) e,mA,⟨od,es,ep,k _ _ (.inr d) e2,c⟩,r⟩
 | own y=>obtain⟨ob,e⟩:=x;exact⟨ob,k _ _ (.inl rfl) e⟩
 | xd fs=>obtain⟨mA,⟨od,es,ep,e,c⟩,r⟩:=x;exact⟨mA,⟨od,es,ep,k _ _ (.inl rfl) e,c⟩,r⟩
 | rng lo hi=>obtain⟨t,u,v,e⟩:=x;exact⟨t,u,v,k _ _ (.inl rfl) e⟩
 | frz ob u ih=>obtain⟨e,q⟩:=x;exact⟨k _ _ (.inl rfl) e,ih q⟩
 | tbl ps=>
  have e:h.get? a=some {cls:=.none,data:=.fields ps}:=x;show h'.get? a=some {cls:=.none,data:=.fields ps};exact k a _ (.inl rfl) e
 | met f y=>
  have e:h.get? a=some (PySem.W.methodObj (.ref f) (.ref y)):=x;show h'.get? a=some (PySem.W.methodObj (.ref f) (.ref y));exact k a _ (.inl rfl) e
 | ext φ=>obtain⟨p,⟨o,e⟩,st⟩:=x;exact⟨st _ _ p fun o q=>k _ _ (.inl rfl) q,⟨o,k _ _ (.inl rfl) e⟩,st⟩
theorem g7.lt (x:g7 P w H h)(e:H a=some o):a<h.objs.size:=(x a o e).lt
theorem g7.fresh (x:g7 P w H h)(e:h.objs.size<=a):H a=none:=by
 cases q:H a with
 | none=>rfl
 | some u=>exact absurd (Nat.lt_of_lt_of_le (x.lt q) e) (Nat.lt_irrefl _)
theorem g7.kept (x:g7 P w H h)(k:∀ b u,h.get? b=some u->h'.get? b=some u):g7 P w H h':=fun a o e=>
 (x a o e).stay (fun b u _ q=>k b u q) (fun _ q=>q) fun _ _ q=>q
theorem g7.laid (x:g7 P w H h)(k:∀ b u,h.get? b=some u->h'.get? b=some u)(hp:h.objs.size<=a)(new:eB P w (dy H a o) h' a o):g7 P w (dy H a o) h':=fun b u e=>by
 have hn:=x.fresh hp
 by_cases hb:b=a
 ·subst hb;rw[bT]at e;cases e;exact new
 ·rw[b8 hb]at e;exact(x b u e).stay (fun c v _ q=>k c v q) (fun c q=>by rw[b8 (dS q hn)];exact q) fun c xs q=>by rw[b8 (dS q hn)];exact q
end
def Rd (H:Hp)(a:Addr)(u:HO):Prop:=H a=some u\/∃ o,H a=some (.frz o u)
theorem Rd.of {H:Hp}{a:Addr}{u:HO}(h:H a=some u):Rd H a u:=.inl h
theorem Rd.ok {P:Program}{w:World}{H:Hp}{h:Heap}{a:Addr}{u:HO}(r:Rd H a u)(x:g7 P w H h):eB P w H h a u:=by
 rcases r with r|⟨o,r⟩
 ·exact x a u r
 ·obtain⟨_,q⟩:=x a _ r;exact q
def OI:Option HO->Prop
 | some (.lst _)=>True
 | some (.dK _)=>True
 | some (.dT _)=>True
 | some (.set _ _)=>True
 | some (.ins _ _ _)=>True
 | some (.ext _)=>True
 | _=>False
section
variable {P:Program}{w:World}{H:Hp}{h h':Heap}{x e:Addr}{o':HO}
theorem g7.write (ok:g7 P w H h)(mu:OI (H x))(he:e=x\/H e=some (.own x))(k:∀ b u,b≠e->h.get? b=some u->h'.get? b=some u)(heo:∃ u,h'.get? e=some u)
  (new:eB P w (dy H x o') h' x o'):g7 P w (dy H x o') h':=fun b u q=>by
 have nown:∀ c y,H c=some (.own y)->c≠x:=fun c y r z=>by subst z;rw[r]at mu;exact mu
 have ntup:∀ c xs,H c=some (.tup xs)->c≠x:=fun c xs r z=>by subst z;rw[r]at mu;exact mu
 by_cases hb:b=x
 ·subst hb;rw[bT]at q;cases q;exact new
 ·rw[b8 hb]at q
  by_cases hbe:b=e
  ·have q':H b=some (.own x):=by
    rcases he with z|z
    ·exact absurd (hbe.trans z) hb
    ·rw[hbe];exact z
   rw[q]at q';cases q'
   obtain⟨v,hv⟩:=heo;exact⟨v,by rw[hbe];exact hv⟩
  ·refine(ok b u q).stay (fun c v hc r=>k c v ?_ r) (fun c r=>by rw[b8 (nown c b r)];exact r) fun c xs r=>by rw[b8 (ntup c xs r)];exact r
   rcases hc with rfl|hc
   ·exact hbe
   ·rintro rfl
    rcases he with z|z
    ·exact nown c b hc z
    ·rw[hc]at z;cases z;exact hb rfl
end
structure Un (fs ex:List Addr) (H H':Hp) (h h':Heap):Prop where
 keep:∀ b o,h.get? b=some o->H b=none->b∉fs->b∉ex->h'.get? b=some o
 slot:∀ b o,h.get? b=some o->H b=none->b∈fs->b∉ex->∃ sl,h'.get? b=some {o with slots:=sl}
 free:∀ b o,h.get? b=some o->H b=none->b∉ex->H' b=none
 there:∀ b o,h.get? b=some o->b∉ex->∃ o',h'.get? b=some o'
 tups:∀ b xs,H b=some (.tup xs)->H' b=some (.tup xs)
 frzs:∀ b o u,H b=some (.frz o u)->H' b=some (.frz o u)
 tbls:∀ b ps,H b=some (.tbl ps)->∃ more,H' b=some (.tbl (ps++more))
section
variable {fs fs' ex ex':List Addr}{H H1 H2:Hp}{h h1 h2 h':Heap}{a x e:Addr}{o:HO}
theorem Un.any (u:Un fs ex H H1 h h1){b:Addr}{ob:Obj}(q:h.get? b=some ob)(n:H b=none)(hx:b∉ex):∃ sl,h1.get? b=some {ob with slots:=sl}:=by
 by_cases hb:b∈fs
 ·exact u.slot b ob q n hb hx
 ·exact⟨ob.slots,u.keep b ob q n hb hx⟩
theorem Un.trans (a:Un fs ex H H1 h h1)(b:Un fs ex H1 H2 h1 h2):Un fs ex H H2 h h2 where
 keep:=fun c ob q n hc hx=>b.keep c ob (a.keep c ob q n hc hx) (a.free c ob q n hx) hc hx
 slot:=fun c ob q n hc hx=>by
  obtain⟨sl,e1⟩:=a.slot c ob q n hc hx;obtain⟨sl',e2⟩:=b.slot c _ e1 (a.free c ob q n hx) hc hx;exact⟨sl',e2⟩
 free:=fun c ob q n hx=>by
  obtain⟨o',e1⟩:=a.there c ob q hx;exact b.free c o' e1 (a.free c ob q n hx) hx
 there:=fun c ob q hx=>by
  obtain⟨o',e1⟩:=a.there c ob q hx;exact b.there c o' e1 hx
 tups:=fun c xs q=>b.tups c xs (a.tups c xs q)
 frzs:=fun c ob xs q=>b.frzs c ob xs (a.frzs c ob xs q)
 tbls:=fun c ps q=>by
  obtain⟨m1,e1⟩:=a.tbls c ps q;obtain⟨m2,e2⟩:=b.tbls c _ e1;exact⟨m1++m2,by rw[e2,Array.append_assoc]⟩
theorem Un.kept (k:∀ b u,h.get? b=some u->h'.get? b=some u):Un fs ex H H h h':=
 ⟨fun b ob q _ _ _=>k b ob q,fun b ob q _ _ _=>⟨ob.slots,k b ob q⟩,fun _ _ _ n _=>n,fun b ob q _=>⟨ob,k b ob q⟩,fun _ _ q=>q,fun _ _ _ q=>q,fun _ ps q=>⟨#[],by rw[q];simp⟩⟩
theorem Un.refl:Un fs ex H H h h:=Un.kept fun _ _ q=>q
theorem Un.laid (k:∀ b u,h.get? b=some u->h'.get? b=some u)(hp:h.objs.size<=a)(hn:H a=none):Un fs ex H (dy H a o) h h' where
 keep:=fun b u q _ _ _=>k b u q
 slot:=fun b u q _ _ _=>⟨u.slots,k b u q⟩
 free:=fun b u q n _=>by rw[b8 (Nat.ne_of_lt (Nat.lt_of_lt_of_le (Heap.lt_size q) hp))];exact n
 there:=fun b u q _=>⟨u,k b u q⟩
 tups:=fun b xs q=>by rw[b8 (dS q hn)];exact q
 frzs:=fun b u xs q=>by rw[b8 (dS q hn)];exact q
 tbls:=fun b ps q=>⟨#[],by rw[b8 (dS q hn),q];simp⟩
theorem Un.write (mu:OI (H x))(he:e=x\/H e=some (.own x))(k:∀ b u,b≠e->h.get? b=some u->h'.get? b=some u)(heo:∃ u,h'.get? e=some u):Un fs ex H (dy H x o) h h':=by
 have hx:∀ b,H b=none->b≠x:=fun b n z=>by subst z;rw[n]at mu;exact mu
 have hb:∀ b,H b=none->b≠e:=fun b n z=>by
  subst z
  rcases he with r|r
  ·exact hx b n r
  ·rw[n]at r;cases r
 have hm:∀ b u,H b=some u->¬ OI (some u)->b≠x:=fun b u q nm z=>by subst z;rw[q]at mu;exact nm mu
 refine⟨fun b u q n _ _=>k b u (hb b n) q,fun b u q n _ _=>⟨u.slots,k b u (hb b n) q⟩,fun b u q n _=>by rw[b8 (hx b n)];exact n,fun b u q _=>?_,
  fun b xs q=>by rw[b8 (hm b _ q fun z=>z)];exact q,fun b u xs q=>by rw[b8 (hm b _ q fun z=>z)];exact q,fun b ps q=>⟨#[],by rw[b8 (hm b _ q fun z=>z),q];simp⟩⟩
 by_cases hbe:b=e
 ·subst hbe;exact heo
 ·exact⟨u,k b u hbe q⟩
theorem Un.mono (u:Un fs ex H H1 h h1)(hs:∀ b∈fs,b∈fs')(hx:∀ b∈ex,b∈ex'):Un fs' ex' H H1 h h1:=
 ⟨fun b ob q n hb he=>u.keep b ob q n (fun z=>hb (hs b z)) fun z=>he (hx b z),fun _ _ q n _ he=>u.any q n fun z=>he (hx _ z),fun b ob q n he=>u.free b ob q n fun z=>he (hx b z),fun b ob q he=>u.there b ob q fun z=>he (hx b z),u.tups,u.frzs,u.tbls⟩
end
def OS (h:Heap)(H:Hp):List Addr:=(List.range h.objs.size).filter fun a=>(H a).isSome
def rj (h:Heap)(H:Hp):Heap:=PySem.W.hideAll h (OS h H)
theorem zZ (h:Heap)(H:Hp):(rj h H).objs.size=h.objs.size:=PySem.W.hideAll_size _ _
theorem C7 {h:Heap}{H:Hp}{b:Addr}{o:Obj}(e:h.get? b=some o)(n:H b=none):(rj h H).get? b=some o:=
 PySem.W.hideAll_get _ e fun hm=>by
  have q:(H b).isSome=true:=(List.mem_filter.mp hm).2;rw[n]at q;simp at q
theorem G7 {h:Heap}{H:Hp}{b:Addr}{o:Obj}(e:(rj h H).get? b=some o):h.get? b=some o/\H b=none:=by
 have e':h.get? b=some o:=PySem.W.of_hideAll (OS h H) e;refine⟨e',?_⟩
 cases q:H b with
 | none=>rfl
 | some x=>
  have hm:b∈OS h H:=List.mem_filter.mpr ⟨List.mem_range.mpr (Heap.lt_size e'),by simp[q]⟩
  have z:(rj h H).get? b=none:=PySem.W.hideAll_none (OS h H) hm;rw[z]at e;cases e
def FY (g h:Heap)(L:Addr):List (Addr × Obj):=(List.range h.objs.size).filterMap fun a=>if a=L\/(g.get? a).isSome=true then none else (h.get? a).map fun o=>(a,o)
def rest (g h:Heap)(L d:Addr):List (Addr × Obj):=(FY g h L).filter fun p=>decide (p.1≠d)
end L2
namespace L2
open PySem PySem.Spec PyProof.Rows
structure Mod (K:PySem.W.Frag) (mg:Str->Option Value) (base:Heap):Prop where
 kin:K.In base
 glob:base.Ns mainGlobals mg
 blt:∃ mb,base.Ns builtinsNs mb/\∀ x:Str,x≠"__name__"->mb x=bootBuiltins x
 nolimit:base.NoLimit
structure Cx where
 prog:Program
 w:World
 K:PySem.W.Frag
 mg:Str->Option Value
 base:Heap
 A:Around
 N:List Str
 s₀:Shared
 H₀:Hp
 env:Env
 outer:List Env
 stack:List Env
 ex:List Addr
 fn:Str->Bool
 calm:Bool
 pn:List (Addr × Obj)
 xe:Value->Shared->Prop
def vn (l:List Env):List Addr:=l.filterMap (·.frame)
abbrev Cx.fs (X:Cx):List Addr:=vn X.outer
def OL (sc:Scope)(x:Str):Prop:=sc.names.lookup x=some .local\/sc.names.lookup x=some .cell\/sc.names.lookup x=some .free
def Loc (sc:Scope)(x:Str):Prop:=sc.names.lookup x=some .local\/sc.names.lookup x=some .cell
def Look (env:Env)(h:Heap)(m:Str->Option Value)(x:Str)(u:Value):Prop:=
 (env.kindOf x=some .local/\m x=some u)\/((env.kindOf x=some .cell\/env.kindOf x=some .free)/\∃ c,env.cells.lookup x=some c/\h.IsCell c (some u))
structure Cx.Ok (X:Cx):Prop where
 mod:Mod X.K X.mg X.base
 kind:X.env.scope.kind=.function
 glob:X.env.globals=mainGlobals
 blt:X.env.builtins=builtinsNs
 above:X.s₀.heap.objs.size<=X.env.locals
 inj:∀ x y c,X.env.cells.lookup x=some c->X.env.cells.lookup y=some c->x=y
 has:∀ x,(X.env.kindOf x=some .cell\/X.env.kindOf x=some .free)->∃ c,X.env.cells.lookup x=some c
 cab:∀ x c,X.fn x=true->X.env.cells.lookup x=some c->X.s₀.heap.objs.size<=c
 hd:X.calm=true->X.A.handled=none
 frames:X.A.frames=some X.stack
 stk:X.stack=X.outer\/(X.stack=X.env::X.outer/\X.env.frame=some X.env.locals)
 exf:∀ b∈X.ex,b≠X.env.locals/\∀ x c,X.env.cells.lookup x=some c->c≠b
 bs:∀ b o,X.base.get? b=some o->X.s₀.heap.get? b=some o/\X.H₀ b=none
 bsz:X.base.objs.size<=X.s₀.heap.objs.size
 noex:∀ b o,X.base.get? b=some o->b∉X.ex
 exfs:∀ b∈X.ex,b∉X.fs
 funs:X.s₀.heap.FunFrames X.base X.outer
 frf:∀ b∈X.fs,X.H₀ b=none
structure aP (X:Cx) (pins:List (Addr × Obj)) (σ:List (Option V)) (H:Hp) (s:Shared):Prop where
 ok:X.Ok
 os:s.os=X.s₀.os
 bare:AllBare s.gens
 base:Un X.fs X.ex X.H₀ H X.s₀.heap s.heap
 loc:∃ m,s.heap.Ns X.env.locals m/\∀ (i:Nat) (x:Str) (v:V),X.N[i]?=some x->σ[i]?=some (some v)->OL X.env.scope x->∃ u,RelV v u/\Look X.env s.heap m x u
 cell:∀ x c,X.env.cells.lookup x=some c->∃ v,s.heap.IsCell c v
 free:H X.env.locals=none
 freeC:∀ x c,X.env.cells.lookup x=some c->H c=none
 pin:∀ p∈X.pn++pins,s.heap.get? p.1=some p.2/\H p.1=none/\p.1≠X.env.locals/\p.1∉X.fs/\∀ v,p.2.data≠.cell v
 hok:g7 X.prog X.w H s.heap
 len:σ.length=X.N.length
section
variable {X:Cx}{pins:List (Addr × Obj)}{σ:List (Option V)}{H H':Hp}{s:Shared}{h':Heap}
theorem Cx.Ok.nofr (ok:X.Ok){b:Addr}{o:Obj}(e:X.base.get? b=some o):b∉X.fs:=fun hb=>by
 have:=(ok.funs.mem hb).1;rw[e]at this;cases this
theorem aP.bs (I:aP X pins σ H s):∀ b o,X.base.get? b=some o->s.heap.get? b=some o/\H b=none:=fun b o e=>
 ⟨I.base.keep b o (I.ok.bs b o e).1 (I.ok.bs b o e).2 (I.ok.nofr e) (I.ok.noex b o e),I.base.free b o (I.ok.bs b o e).1 (I.ok.bs b o e).2 (I.ok.noex b o e)⟩
theorem aP.bk (I:aP X pins σ H s):∀ b o,X.base.get? b=some o->s.heap.get? b=some o:=fun b o e=>(I.bs b o e).1
theorem aP.mod (I:aP X pins σ H s):Mod X.K X.mg X.base:=I.ok.mod
theorem aP.kIn (I:aP X pins σ H s):X.K.In s.heap:=I.ok.mod.kin.keeps I.bk
theorem aP.nolimit (I:aP X pins σ H s):s.heap.NoLimit:=I.ok.mod.nolimit.keeps I.bk
theorem aP.fr (I:aP X pins σ H s):∃ m,Fr X.base X.env.locals s.heap m:=
 let ⟨m,hn,_⟩:=I.loc
 ⟨m,hn,I.bk,Nat.le_trans I.ok.bsz I.ok.above⟩
theorem aP.lt (I:aP X pins σ H s):X.env.locals<s.heap.objs.size:=let ⟨_,hn,_⟩:=I.loc;hn.lt
theorem aP.sz (I:aP X pins σ H s):X.s₀.heap.objs.size<=s.heap.objs.size:=Nat.le_trans I.ok.above (Nat.le_of_lt I.lt)
theorem aP.nofs (I:aP X pins σ H s){a:Addr}(h:s.heap.objs.size<=a):a∉X.fs:=fun hb=>by
 obtain⟨_,o,ho,_⟩:=I.ok.funs.mem hb;exact absurd (Nat.lt_of_lt_of_le (Heap.lt_size ho) (Nat.le_trans I.sz h)) (Nat.lt_irrefl _)
theorem aP.cne (I:aP X pins σ H s):∀ x c,X.env.cells.lookup x=some c->c≠X.env.locals:=fun x c e z=>by
 obtain⟨v,o,ho,hd⟩:=I.cell x c e;obtain⟨m,⟨o',es,ep,ho',hd',_⟩,_⟩:=I.loc;rw[z,ho']at ho;cases ho;rw[hd']at hd;cases hd
theorem aP.funs (I:aP X pins σ H s):s.heap.FunFrames X.base X.outer:=by
 have all:∀ (l:List Env),(∀ b∈vn l,b∈X.fs)->X.s₀.heap.FunFrames X.base l->s.heap.FunFrames X.base l:=by
  intro l
  induction l with
  | nil=>intro _ _;trivial
  | cons env r ih=>
   intro hs hl;obtain⟨hk,⟨L,o,hf,hn,ho,hd⟩,hr⟩:=hl;have hL:L∈X.fs:=hs L (by unfold vn;rw[List.filterMap_cons,hf];exact List.mem_cons_self)
   obtain⟨sl,e⟩:=I.base.slot L o ho (I.ok.frf L hL) hL fun z=>I.ok.exfs L z hL;exact⟨hk,⟨L,_,hf,hn,e,hd⟩,ih (fun b hb=>hs b (by unfold vn;rw[List.filterMap_cons,hf];exact List.mem_cons_of_mem _ hb)) hr⟩
 exact all X.outer (fun _ hb=>hb) I.ok.funs
theorem aP.stack (I:aP X pins σ H s):s.heap.FunFrames X.base X.stack:=by
 rcases I.ok.stk with e|⟨e,hf⟩
 ·rw[e];exact I.funs
 ·rw[e];obtain⟨m,hn,_⟩:=I.loc;refine .cons (by rw[I.ok.kind];decide) hf hn ?_ I.funs
  exact Heap.get?_none_of_le (Nat.le_trans I.ok.bsz I.ok.above)
theorem aP.stkSub (I:aP X pins σ H s):∀ b∈vn X.stack,b∈X.env.locals::X.fs:=fun b hb=>by
 rcases I.ok.stk with e|⟨e,hf⟩
 ·rw[e]at hb;exact List.mem_cons_of_mem _ hb
 ·rw[e]at hb;unfold vn at hb;rw[List.filterMap_cons,hf]at hb;exact hb
theorem aP.stkFree (I:aP X pins σ H s):∀ b∈vn X.stack,H b=none:=fun b hb=>by
 rcases List.mem_cons.mp (I.stkSub b hb) with e|hb
 ·rw[e];exact I.free
 ·obtain⟨_,o,ho,_⟩:=I.ok.funs.mem hb;exact I.base.free b o ho (I.ok.frf b hb) fun z=>I.ok.exfs b z hb
theorem aP.step {g':Array GenState}{t':Nat}{d':Drawn}{ch:List Addr}(I:aP X pins σ H s)
  (hch:∀ b∈ch,(b∈X.ex\/X.s₀.heap.objs.size<=b)/\b≠X.env.locals/\(∀ x c,X.env.cells.lookup x=some c->c≠b)/\∀ p∈X.pn++pins,p.1≠b)
  (keep:∀ b o,b≠X.env.locals->b∉X.fs->b∉ch->s.heap.get? b=some o->H b=none->h'.get? b=some o)
  (slot:∀ b o,b≠X.env.locals->b∈X.fs->b∉ch->s.heap.get? b=some o->H b=none->∃ sl,h'.get? b=some {o with slots:=sl}) (free:∀ b o,b∉ch->s.heap.get? b=some o->H b=none->H' b=none)
  (there:∀ b o,b∉ch->s.heap.get? b=some o->∃ o',h'.get? b=some o')
  (tups:∀ b xs,H b=some (.tup xs)->H' b=some (.tup xs)) (frzs:∀ b o u,H b=some (.frz o u)->H' b=some (.frz o u)) (tbls:∀ b ps,H b=some (.tbl ps)->∃ more,H' b=some (.tbl (ps++more)))
  (ns:∀ m,s.heap.Ns X.env.locals m->h'.Ns X.env.locals m) (hok:g7 X.prog X.w H' h') (hg:AllBare g') :
  aP X pins σ H' {s with heap:=h',gens:=g',drawn:=d',toks:=t'}:=by
 have neL:∀ b o,X.s₀.heap.get? b=some o->b≠X.env.locals:=fun b o e=>Nat.ne_of_lt (Nat.lt_of_lt_of_le (Heap.lt_size e) I.ok.above);have neC:∀ b o,X.s₀.heap.get? b=some o->b∉X.ex->b∉ch:=fun b o e hx hb=>by
  rcases(hch b hb).1 with z|z
  ·exact hx z
  ·exact absurd (Nat.lt_of_lt_of_le (Heap.lt_size e) z) (Nat.lt_irrefl _)
 have cellK:∀ x c,X.env.cells.lookup x=some c->∀ v,s.heap.IsCell c v->h'.IsCell c v:=fun x c e v ⟨o,ho,hd⟩=>by
  have nch:c∉ch:=fun z=>(hch c z).2.2.1 x c e rfl
  by_cases hc:c∈X.fs
  ·obtain⟨sl,q⟩:=slot c o (I.cne x c e) hc nch ho (I.freeC x c e);exact⟨_,q,hd⟩
  ·exact⟨o,keep c o (I.cne x c e) hc nch ho (I.freeC x c e),hd⟩
 refine⟨I.ok,I.os,hg,⟨fun b o e n hb hx=>?_,fun b o e n hb hx=>?_,fun b o e n hx=>?_,fun b o e hx=>?_,fun b xs e=>tups b xs (I.base.tups b xs e),fun b o xs e=>frzs b o xs (I.base.frzs b o xs e),fun b ps e=>?_⟩,?_,fun x c e=>?_,?_,fun x c e=>?_,fun p hp=>?_,hok,I.len⟩
 ·exact keep b o (neL b o e) hb (neC b o e hx) (I.base.keep b o e n hb hx) (I.base.free b o e n hx)
 ·obtain⟨sl,e1⟩:=I.base.slot b o e n hb hx;obtain⟨sl',e2⟩:=slot b _ (neL b o e) hb (neC b o e hx) e1 (I.base.free b o e n hx);exact⟨sl',e2⟩
 ·obtain⟨o',e1⟩:=I.base.there b o e hx;exact free b o' (neC b o e hx) e1 (I.base.free b o e n hx)
 ·obtain⟨o',e1⟩:=I.base.there b o e hx;exact there b o' (neC b o e hx) e1
 ·obtain⟨m1,e1⟩:=I.base.tbls b ps e;obtain⟨m2,e2⟩:=tbls b _ e1;exact⟨m1++m2,by rw[e2,Array.append_assoc]⟩
 ·obtain⟨m,hn,hl⟩:=I.loc;refine⟨m,ns m hn,fun i x v e1 e2 e3=>?_⟩;obtain⟨u,r,l⟩:=hl i x v e1 e2 e3;refine⟨u,r,?_⟩
  rcases l with l|⟨k,c,e,z⟩
  ·exact .inl l
  ·exact .inr ⟨k,c,e,cellK x c e _ z⟩
 ·obtain⟨v,z⟩:=I.cell x c e;exact⟨v,cellK x c e v z⟩
 ·obtain⟨m,⟨o,_,_,ho,_⟩,_⟩:=I.loc;exact free _ o (fun z=>(hch _ z).2.1 rfl) ho I.free
 ·obtain⟨v,o,ho,hd⟩:=I.cell x c e;exact free c o (fun z=>(hch c z).2.2.1 x c e rfl) ho (I.freeC x c e)
 ·obtain⟨e,n,ne,nf,d⟩:=I.pin p hp;have nch:p.1∉ch:=fun z=>(hch p.1 z).2.2.2 p hp rfl;exact⟨keep p.1 p.2 ne nf nch e n,free p.1 p.2 nch e n,ne,nf,d⟩
theorem aP.un {t':Nat}(I:aP X pins σ H s)(u:Un X.fs [] H H' s.heap h')(hok:g7 X.prog X.w H' h'):aP X pins σ H' {s with heap:=h',toks:=t'}:=by
 obtain⟨m,⟨o,es,ep,ho,r⟩,_⟩:=id I.loc;obtain⟨sl,hL⟩:=u.any ho I.free (by simp)
 exact I.step (g':=s.gens) (d':=s.drawn) (ch:=[]) (fun _ z=>nomatch z) (fun b o _ hb _ e n=>u.keep b o e n hb (by simp)) (fun b o _ hb _ e n=>u.slot b o e n hb (by simp)) (fun b o _ e n=>u.free b o e n (by simp)) (fun b o _ e=>u.there b o e (by simp)) u.tups u.frzs u.tbls (fun m' hm=>by
  obtain⟨o',es',ep',ho',r'⟩:=hm;rw[ho]at ho';cases ho'
  exact⟨_,es',ep',hL,r'⟩) hok I.bare
theorem aP.call {g':Array GenState}{t':Nat}{d':Drawn}{ch:List Addr}(I:aP X pins σ H s)(u:Un (vn X.stack) ch H H' s.heap h')(hok:g7 X.prog X.w H' h')(hg:AllBare g')
  (hch:∀ b∈ch,(b∈X.ex\/X.s₀.heap.objs.size<=b)/\b≠X.env.locals/\(∀ x c,X.env.cells.lookup x=some c->c≠b)/\∀ p∈X.pn++pins,p.1≠b) :
  aP X pins σ H' {s with heap:=h',gens:=g',drawn:=d',toks:=t'}:=by
 obtain⟨m,⟨o,es,ep,ho,r⟩,_⟩:=id I.loc;obtain⟨sl,hL⟩:=u.any ho I.free fun z=>(hch _ z).2.1 rfl;exact I.step (ch:=ch) hch (fun b o hL hb hc e n=>u.keep b o e n (fun z=>(List.mem_cons.mp (I.stkSub b z)).elim hL hb) hc) (fun b o _ _ hc e n=>u.any e n hc) (fun b o hc e n=>u.free b o e n hc) (fun b o hc e=>u.there b o e hc) u.tups u.frzs u.tbls (fun m' hm=>by
  obtain⟨o',es',ep',ho',r'⟩:=hm;rw[ho]at ho';cases ho'
  exact⟨_,es',ep',hL,r'⟩) hok hg
theorem aP.turned {t':Nat}{it:Addr}(I:aP X pins σ H s)(k:∀ b o,b≠it->s.heap.get? b=some o->h'.get? b=some o)(hn:H it=none)(hL:it≠X.env.locals)
  (h1:it∈X.ex\/X.s₀.heap.objs.size<=it) (h2:∀ x c,X.env.cells.lookup x=some c->c≠it) (h3:∀ p∈X.pn++pins,p.1≠it):aP X pins σ H {s with heap:=h',toks:=t'}:=by
 have nit:∀ b u,H b=some u->b≠it:=fun b u e z=>by rw[z,hn]at e;cases e
 refine I.step (g':=s.gens) (d':=s.drawn) (ch:=[it]) (fun b hb=>?_) (fun b o _ _ hc e _=>k b o (fun z=>hc (by simp[z])) e) (fun b o _ _ hc e _=>⟨o.slots,k b o (fun z=>hc (by simp[z])) e⟩) (fun _ _ _ _ n=>n)
  (fun b o hc e=>⟨o,k b o (fun z=>hc (by simp[z])) e⟩) (fun _ _ e=>e) (fun _ _ _ e=>e) (fun b ps e=>⟨#[],by rw[e];simp⟩) (fun m hm=>?_) (fun b u e=>?_) I.bare
 ·have e:b=it:=by simpa using hb
  subst e;exact⟨h1,hL,h2,h3⟩
 ·obtain⟨o,es,ep,ho,r⟩:=hm;exact⟨o,es,ep,k _ o (Ne.symm hL) ho,r⟩
 ·refine(I.hok b u e).stay (fun c v hc q=>k c v ?_ q) (fun _ q=>q) fun _ _ q=>q
  rcases hc with z|z
  ·rw[z];exact nit b u e
  ·exact nit c _ z
theorem aP.tok (I:aP X pins σ H s)(t:Nat):aP X pins σ H {s with toks:=t}:=I.un (h':=s.heap) (t':=t) Un.refl I.hok
theorem aP.kept {t':Nat}(I:aP X pins σ H s)(k:∀ b u,s.heap.get? b=some u->h'.get? b=some u):aP X pins σ H {s with heap:=h',toks:=t'}:=I.un (Un.kept k) (I.hok.kept k)
theorem aP.laid {a:Addr}{o:HO}{t':Nat}(I:aP X pins σ H s)(k:∀ b u,s.heap.get? b=some u->h'.get? b=some u)(hp:s.heap.objs.size<=a)(new:eB X.prog X.w (dy H a o) h' a o) :
  aP X pins σ (dy H a o) {s with heap:=h',toks:=t'}:=I.un (Un.laid k hp (I.hok.fresh hp)) (I.hok.laid k hp new)
theorem aP.write {x e:Addr}{o:HO}{t':Nat}(I:aP X pins σ H s)(mu:OI (H x))(he:e=x\/H e=some (.own x))(k:∀ b u,b≠e->s.heap.get? b=some u->h'.get? b=some u)(heo:∃ u,h'.get? e=some u)
  (new:eB X.prog X.w (dy H x o) h' x o):aP X pins σ (dy H x o) {s with heap:=h',toks:=t'}:=I.un (Un.write mu he k heo) (I.hok.write mu he k heo new)
theorem aP.weak {σ':List (Option V)}(I:aP X pins σ H s)(hl:σ'.length=σ.length)(w:∀ (i:Nat) v,σ'[i]?=some (some v)->σ[i]?=some (some v)):aP X pins σ' H s:=
 ⟨I.ok,I.os,I.bare,I.base,let ⟨m,hn,hl'⟩:=I.loc;⟨m,hn,fun i x v e1 e2 e3=>hl' i x v e1 (w i v e2) e3⟩,I.cell,I.free,I.freeC,I.pin,I.hok,hl.trans I.len⟩
theorem aP.pins_of {pins':List (Addr × Obj)}(I:aP X pins σ H s)(h:∀ p∈pins',s.heap.get? p.1=some p.2/\H p.1=none/\p.1≠X.env.locals/\p.1∉X.fs/\∀ v,p.2.data≠.cell v):aP X pins' σ H s:=
 ⟨I.ok,I.os,I.bare,I.base,I.loc,I.cell,I.free,I.freeC,fun p hp=>(List.mem_append.mp hp).elim (fun z=>I.pin p (List.mem_append_left _ z)) (h p),I.hok,I.len⟩
theorem uR {N:List Str}(hN:N.Nodup){i j:Nat}{x:Str}(a:N[i]?=some x)(b:N[j]?=some x):i=j:=by
 obtain⟨h1,e1⟩:=List.getElem?_eq_some_iff.mp a;obtain⟨h2,e2⟩:=List.getElem?_eq_some_iff.mp b;exact(List.getElem_inj hN).mp (e1.trans e2.symm)
theorem qr {M:Model}{A:Around}{E:Value->Shared->Prop}{i:Nat}{x:Str}{v:V}{u:Value}{Q:Unit->Shared->Prop}(I:aP X pins σ H s)(hN:X.N.Nodup)(hi:X.N[i]?=some x)(hx:Loc X.env.scope x)(r:RelV v u)
  (h:∀ s',aP X pins (σ.set i (some v)) H s'->(∃ a,Heap.SameBut a s.heap s'.heap/\(a=X.env.locals\/X.env.cells.lookup x=some a))->Q () s') (hf:X.fn x=true\/X.env.scope.names.lookup x=some .local:=by first|exact .inl rfl|exact .inr rfl|assumption):wpAny M A (storeName X.env x u) Q E s:=by
 obtain⟨m,hn,hl⟩:=id I.loc;have hcls:(X.env.scope.kind == .class || (X.env.scope.kind == .module && X.env.locals != X.env.globals))=false:=by rw[I.ok.kind];rfl
 have hiσ:i<σ.length:=by rw[I.len];exact(List.getElem?_eq_some_iff.mp hi).1
 have cne:=I.cne;have tracked:∀ {a:Addr}{h':Heap},(∃ o,s.heap.get? a=some o/\H a=none)->Heap.SameBut a s.heap h'->g7 X.prog X.w H h':=fun {a h'} ha hs b ob e=>by
  obtain⟨_,_,hfree⟩:=ha;refine(I.hok b ob e).stay (fun c w' hc q=>(hs.2 c ?_).trans q) (fun _ q=>q) fun _ _ q=>q;rintro rfl
  rcases hc with rfl|hc
  ·rw[hfree]at e;cases e
  ·rw[hfree]at hc;cases hc
 rcases hx with hk|hk
 ·refine wpAny_storeName_local hk hn (fun h' hn' hs=>?_) hcls;obtain⟨oL,_,_,hoL,_⟩:=id hn;refine h _ ⟨I.ok,I.os,I.bare,⟨fun b o e n hb hx=>?_,fun b o e n hb hx=>?_,I.base.free,fun b o e hx=>?_,I.base.tups,I.base.frzs,I.base.tbls⟩,⟨_,hn',fun j y v' e1 e2 e3=>?_⟩,fun y c e=>?_,I.free,I.freeC,fun p hp=>?_,tracked ⟨oL,hoL,I.free⟩ hs,by simpa using I.len⟩ ⟨_,hs,.inl rfl⟩
  ·exact(hs.2 b (Nat.ne_of_lt (Nat.lt_of_lt_of_le (Heap.lt_size e) I.ok.above))).trans (I.base.keep b o e n hb hx)
  ·obtain⟨sl,e1⟩:=I.base.slot b o e n hb hx;exact⟨sl,(hs.2 b (Nat.ne_of_lt (Nat.lt_of_lt_of_le (Heap.lt_size e) I.ok.above))).trans e1⟩
  ·obtain⟨o',e1⟩:=I.base.there b o e hx;exact⟨o',(hs.2 b (Nat.ne_of_lt (Nat.lt_of_lt_of_le (Heap.lt_size e) I.ok.above))).trans e1⟩
  ·by_cases hj:j=i
   ·subst hj;rw[hi]at e1;cases e1
    rw[List.getElem?_set_self hiσ]at e2
    cases e2
    exact⟨u,r,.inl ⟨hk,by simp⟩⟩
   ·rw[List.getElem?_set_ne (Ne.symm hj)]at e2;obtain⟨u',r',q⟩:=hl j y v' e1 e2 e3;refine⟨u',r',?_⟩
    rcases q with ⟨k,e⟩|⟨k,c,e,z⟩
    ·refine .inl ⟨k,?_⟩;have:y≠x:=fun e=>hj (uR hN e1 (e ▸ hi));simp[this,e]
    ·exact .inr ⟨k,c,e,z.sameBut hs (cne y c e)⟩
  ·obtain⟨w',z⟩:=I.cell y c e;exact⟨w',z.sameBut hs (cne y c e)⟩
  ·obtain⟨e,n,ne,nf,d⟩:=I.pin p hp;exact⟨(hs.2 p.1 ne).trans e,n,ne,nf,d⟩
 ·have hfn:X.fn x=true:=by
   rcases hf with z|z
   ·exact z
   ·rw[z]at hk;cases hk
  obtain⟨c,hc⟩:=I.ok.has x (.inl hk);obtain⟨w',z⟩:=I.cell x c hc;refine wpAny_storeName_cell I.ok.kind hk hc z (fun h' hc' hs=>?_);obtain⟨oc,hoc,hocd⟩:=id z;refine h {s with heap:=h'} ⟨I.ok,I.os,I.bare,⟨fun b o e n hb hx=>?_,fun b o e n hb hx=>?_,I.base.free,fun b o e hx=>?_,I.base.tups,I.base.frzs,I.base.tbls⟩,⟨m,hn.sameBut hs (Ne.symm (cne x c hc)),fun j y v' e1 e2 e3=>?_⟩,fun y c' e=>?_,I.free,I.freeC,fun p hp=>?_,tracked ⟨oc,hoc,I.freeC x c hc⟩ hs,by simpa using I.len⟩ ⟨c,hs,.inr hc⟩
  ·exact(hs.2 b (Nat.ne_of_lt (Nat.lt_of_lt_of_le (Heap.lt_size e) (I.ok.cab x c hfn hc)))).trans (I.base.keep b o e n hb hx)
  ·obtain⟨sl,e1⟩:=I.base.slot b o e n hb hx;exact⟨sl,(hs.2 b (Nat.ne_of_lt (Nat.lt_of_lt_of_le (Heap.lt_size e) (I.ok.cab x c hfn hc)))).trans e1⟩
  ·obtain⟨o',e1⟩:=I.base.there b o e hx;exact⟨o',(hs.2 b (Nat.ne_of_lt (Nat.lt_of_lt_of_le (Heap.lt_size e) (I.ok.cab x c hfn hc)))).trans e1⟩
  ·by_cases hj:j=i
   ·subst hj;rw[hi]at e1;cases e1
    rw[List.getElem?_set_self hiσ]at e2
    cases e2
    exact⟨u,r,.inr ⟨.inl hk,c,hc,hc'⟩⟩
   ·rw[List.getElem?_set_ne (Ne.symm hj)]at e2;obtain⟨u',r',q⟩:=hl j y v' e1 e2 e3;refine⟨u',r',?_⟩
    rcases q with q|⟨k,c',e,z'⟩
    ·exact .inl q
    ·refine .inr ⟨k,c',e,z'.sameBut hs ?_⟩;rintro rfl;exact hj (uR hN e1 (I.ok.inj _ _ _ e hc ▸ hi))
  ·by_cases hcc:c'=c
   ·subst hcc;exact⟨_,hc'⟩
   ·obtain⟨w2,z2⟩:=I.cell y c' e;exact⟨w2,z2.sameBut hs hcc⟩
  ·obtain⟨e,n,ne,nf,d⟩:=I.pin p hp;refine⟨(hs.2 p.1 ?_).trans e,n,ne,nf,d⟩;intro q;rw[q,hoc]at e;have q':oc=p.2:=Option.some.inj e;exact d w' (by rw[<-q'];exact hocd)
theorem kZ {M:Model}{A:Around}{E:Value->Shared->Prop}{i:Nat}{x:Str}{v:V}{u:Value}{Q:Unit->Shared->Prop}(I:aP X pins σ H s)(hN:X.N.Nodup)(hi:X.N[i]?=some x)(hx:Loc X.env.scope x)(r:RelV v u)
  (h:∀ s',aP X pins (σ.set i (some v)) H s'->Q () s') (hf:X.fn x=true\/X.env.scope.names.lookup x=some .local:=by first|exact .inl rfl|exact .inr rfl|assumption):wpAny M A (storeName X.env x u) Q E s:=
 qr I hN hi hx r (fun s' I' _=>h s' I') hf
end
abbrev XK:=Value->Option Addr->Hp->Prop
abbrev St:=List (Option V)
abbrev VK:=V->Hp->Prop
abbrev TE:=St->Hp->VK->Prop
abbrev TT:=St->Hp->(Bool->Hp->Prop)->Prop
abbrev TA:=St->Hp->(List V->Hp->Prop)->Prop
structure Ends where
 nx:St->Hp->Prop
 rt:VK
 bk:St->Hp->Prop:=fun _ _=>False
 ct:St->Hp->Prop:=fun _ _=>False
abbrev TS:=Ends->St->Hp->Prop
def EP (X:Cx)(pins:List (Addr × Obj))(σ:St)(Q:VK)(u:Value)(s':Shared):Prop:=∃ v H',aP X pins σ H' s'/\RelV v u/\Q v H'
def TP (X:Cx)(pins:List (Addr × Obj))(σ:St)(Q:Bool->Hp->Prop)(b:Bool)(s':Shared):Prop:=∃ H',aP X pins σ H' s'/\Q b H'
def AP (X:Cx)(pins:List (Addr × Obj))(σ:St)(Q:List V->Hp->Prop)(us:List Value)(s':Shared):Prop:=∃ vs H',aP X pins σ H' s'/\aQ vs us/\Q vs H'
def SP (X:Cx)(pins:List (Addr × Obj))(D:Ends)(f:Flow)(s':Shared):Prop:=
 match f with
 | .next=>∃ σ' H',aP X pins σ' H' s'/\D.nx σ' H'
 | .brk=>∃ σ' H',aP X pins σ' H' s'/\D.bk σ' H'
 | .cont=>∃ σ' H',aP X pins σ' H' s'/\D.ct σ' H'
 | .ret u=>∃ v σ' H',aP X pins σ' H' s'/\RelV v u/\D.rt v H'
def PE (X:Cx)(e:Expr)(t:TE):Prop:=
 ∀ (pins:List (Addr × Obj)) (s:Shared) (σ:St) (H:Hp) (Q:VK),aP X pins σ H s->t σ H Q->wpAny (model X.prog X.w) X.A (eval e X.env) (EP X pins σ Q) X.xe s
def PT (X:Cx)(e:Expr)(t:TT):Prop:=
 ∀ (pins:List (Addr × Obj)) (s:Shared) (σ:St) (H:Hp) (Q:Bool->Hp->Prop),aP X pins σ H s->t σ H Q->wpAny (model X.prog X.w) X.A (isTrue e X.env (eval e X.env)) (TP X pins σ Q) X.xe s
def PW (X:Cx)(e:Expr)(t:TT):Prop:=
 ∀ (whole:Sem Value) (pins:List (Addr × Obj)) (s:Shared) (σ:St) (H:Hp) (Q:Bool->Hp->Prop),aP X pins σ H s->t σ H Q->wpAny (model X.prog X.w) X.A (isTrue e X.env whole) (TP X pins σ Q) X.xe s
theorem PW.pt {X:Cx}{e:Expr}{t:TT}(h:PW X e t):PT X e t:=h _
def PA (X:Cx)(es:List Expr)(t:TA):Prop:=
 ∀ (pos:Pos) (pins:List (Addr × Obj)) (s:Shared) (σ:St) (H:Hp) (Q:List V->Hp->Prop),aP X pins σ H s->t σ H Q->wpAny (model X.prog X.w) X.A (spliced (backTo pos (starEach es X.env))) (AP X pins σ Q) X.xe s
def PS (X:Cx)(st:Stmt)(t:TS):Prop:=
 ∀ (pins:List (Addr × Obj)) (s:Shared) (σ:St) (H:Hp) (D:Ends),aP X pins σ H s->t D σ H->wpAny (model X.prog X.w) X.A (exec st X.env) (SP X pins D) X.xe s
def j8 (X:Cx)(st:List Stmt)(t:TS):Prop:=
 ∀ (pins:List (Addr × Obj)) (s:Shared) (σ:St) (H:Hp) (D:Ends),aP X pins σ H s->t D σ H->wpAny (model X.prog X.w) X.A (execs st X.env) (SP X pins D) X.xe s
theorem cM {α:Type}{t:Sem α}{Q Q':α->Shared->Prop}{M:Model}{A:Around}{E:Value->Shared->Prop}{s:Shared}(h:wpAny M A t Q E s)(hQ:∀ a s,Q a s->Q' a s):wpAny M A t Q' E s:=wpAny_mono h hQ fun _ _ x=>x
end L2
namespace L2
open PySem PySem.Spec PyProof.Rows
section
variable {X:Cx}
def va (i:Nat):TE:=fun σ H Q=>∃ v,σ[i]?=some (some v)/\Q v H
def tC (v:V):TE:=fun _ H Q=>Q v H
theorem EN {i:Nat}{x:Str}{pos:Pos} (hN:X.N[i]?=some x) (hv:OL X.env.scope x) (hd:(x == ("__debug__":Str))=false:=by decide) (hcd:(x == ("__classdict__":Str))=false:=by decide):PE X (.Name x pos) (va i):=by
 intro pins s σ H Q I h;obtain⟨v,e,h⟩:=h;obtain⟨m,hn,hl⟩:=I.loc;obtain⟨u,r,l⟩:=hl i x v hN e hv;have fin:EP X pins σ Q u s:=⟨v,H,I,r,h⟩
 rcases l with ⟨hk,hm⟩|⟨hk,c,hc,hcell⟩
 ·exact wpAny_Name (wpAny_loadName_local I.ok.kind hk hn hm fin) hd
 ·rcases hk with hk|hk
  ·exact wpAny_Name (wpAny_loadName_cell I.ok.kind hk hc hcell fin) hd
  ·exact wpAny_Name (wpAny_loadName_free I.ok.kind hk hc hcell fin hcd) hd
theorem Lp {i j pos}:PE X (.Constant (.int i) j pos) (tC (.int i)):=fun _ _ _ H _ I h=>wpAny_Constant_int ⟨.int i,H,I.tok _,⟨_,rfl⟩,h⟩
theorem N0 {b j pos}:PE X (.Constant (.bool b) j pos) (tC (.bl b)):=fun _ _ _ H _ I h=>Constant_bool ⟨.bl b,H,I,rfl,h⟩
def Gl (X:Cx)(x:Str):Prop:=X.env.kindOf x=some .globalImplicit
theorem GP {E:Value->Shared->Prop}{pins:List (Addr × Obj)}{s:Shared}{σ:St}{H:Hp}{x:Str}{u:Value}{pos:Pos}{Q:Value->Shared->Prop}(I:aP X pins σ H s)(hg:Gl X x)(hm:X.mg x=some u)(h:Q u s)
  (hd:(x == ("__debug__":Str))=false:=by decide):wpAny (model X.prog X.w) X.A (eval (.Name x pos) X.env) Q E s:=
 Calls.Name_function_global I.ok.kind hg (Calls.loadGlobal_global (by rw[I.ok.glob];exact I.mod.glob.keeps I.bk) hm h) hd
theorem i6 {E:Value->Shared->Prop}{pins:List (Addr × Obj)}{s:Shared}{σ:St}{H:Hp}{x:Str}{u:Value}{pos:Pos}{Q:Value->Shared->Prop}(I:aP X pins σ H s)(hg:Gl X x)(hm:X.mg x=none)(hv:bootBuiltins x=some u)(h:Q u s)
  (hn:x≠"__name__":=by decide) (hd:(x == ("__debug__":Str))=false:=by decide):wpAny (model X.prog X.w) X.A (eval (.Name x pos) X.env) Q E s:=by
 obtain⟨mb,h1,h2⟩:=I.mod.blt;exact Calls.Name_function_global I.ok.kind hg (Calls.loadGlobal_builtin (by rw[I.ok.glob];exact I.mod.glob.keeps I.bk) hm (by rw[I.ok.blt];exact h1.keeps I.bk) ((h2 x hn).trans hv) h) hd
theorem Ho {x:Str}{v:V}{u:Value}{pos:Pos} (hg:Gl X x) (hm:X.mg x=none) (hv:bootBuiltins x=some u) (r:RelV v u) (hn:x≠"__name__":=by decide) (hd:(x == ("__debug__":Str))=false:=by decide):PE X (.Name x pos) (tC v):=
 fun _ _ _ H _ I h=>i6 I hg hm hv ⟨v,H,I,r,h⟩ hn hd
variable {a b:Expr}{ta tb:TE}{pos:Pos}
def tB (t:TE):TT:=fun σ H Q=>t σ H fun x H1=>∃ c,x=.bl c/\Q c H1
theorem LF {e:Expr}{t:TE}(h:PE X e t)(he:∀ whole,isTrue e X.env whole=(do let v ← whole;standAt e.pos;holding [v] (truthy v)):=by intro _;rfl):PT X e (tB t):=by
 intro pins s σ H Q I hw;refine isTrue_plain (cM (h pins s σ H _ I hw) fun v s1 ⟨x,H1,I1,r1,q1⟩=>?_) (he _);obtain⟨d,rfl,q⟩:=q1
 cases r1
 exact wpAny_truthy_bool ⟨H1,I1,q⟩
variable {tA tB':TT}{rest:List Expr}
def PL (t u:TT):TT:=fun σ H Q=>t σ H fun c H1=>if c=true then u σ H1 Q else Q false H1
def QE (t u:TT):TT:=fun σ H Q=>t σ H fun c H1=>if c=true then Q true H1 else u σ H1 Q
def PV (t:TT):TT:=fun σ H Q=>t σ H fun c H1=>Q (!c) H1
theorem HP (ha:PT X a tA):PW X (.BoolOp .And [a] pos) tA:=by
 intro wh pins s σ H Q I h;refine isTrue_and (cM (ha pins s σ H Q I h) fun c s1 e=>?_)
 cases c with
 | true=>exact isTrue_and_nil e
 | false=>exact e
theorem LI (ha:PT X a tA):PW X (.BoolOp .Or [a] pos) tA:=by
 intro wh pins s σ H Q I h;refine isTrue_or (cM (ha pins s σ H Q I h) fun c s1 e=>?_)
 cases c with
 | false=>exact isTrue_or_nil e
 | true=>exact e
theorem LH (ha:PT X a tA)(hb:PW X (.BoolOp .And (b::rest) pos) tB'):PW X (.BoolOp .And (a::b::rest) pos) (PL tA tB'):=by
 intro wh pins s σ H Q I h;refine isTrue_and (cM (ha pins s σ H _ I h) fun c s1 ⟨H1,I1,q1⟩=>?_)
 cases c with
 | true=>exact hb wh pins s1 σ H1 Q I1 q1
 | false=>exact⟨H1,I1,q1⟩
theorem N7 (ha:PT X a tA)(hb:PW X (.BoolOp .Or (b::rest) pos) tB'):PW X (.BoolOp .Or (a::b::rest) pos) (QE tA tB'):=by
 intro wh pins s σ H Q I h;refine isTrue_or (cM (ha pins s σ H _ I h) fun c s1 ⟨H1,I1,q1⟩=>?_)
 cases c with
 | true=>exact⟨H1,I1,q1⟩
 | false=>exact hb wh pins s1 σ H1 Q I1 q1
theorem LD (ha:PT X a tA):PT X (.UnaryOp .Not a pos) (PV tA):=by
 intro pins s σ H Q I h;exact isTrue_not (ha pins s σ H (fun c H1=>Q (!c) H1) I h)
def Og (ta tb:TE):TE:=fun σ H Q=>ta σ H fun x H1=>∃ c,x=.bl c/\if c=true then tb σ H1 Q else Q (.bl false) H1
def PX (ta tb:TE):TE:=fun σ H Q=>ta σ H fun x H1=>∃ c,x=.bl c/\if c=true then Q (.bl true) H1 else tb σ H1 Q
def Ol (ta:TE):TE:=fun σ H Q=>ta σ H fun x H1=>∃ c,x=.bl c/\Q (.bl (!c)) H1
theorem Ls {op}{t:TE}(h:PE X a t):PE X (.BoolOp op [a] pos) t:=fun pins s σ H Q I hw=>BoolOp_one (h pins s σ H Q I hw)
theorem Ln (ha:PE X a ta)(hb:PE X (.BoolOp .And (b::rest) pos) tb):PE X (.BoolOp .And (a::b::rest) pos) (Og ta tb):=by
 intro pins s σ H Q I h;refine BoolOp_and (cM (ha pins s σ H _ I h) fun v s1 ⟨x,H1,I1,r1,q1⟩=>?_);obtain⟨c,rfl,q1⟩:=q1
 cases r1
 refine wpAny_truthy_bool ?_
 cases c with
 | true=>exact hb pins s1 σ H1 Q I1 q1
 | false=>exact⟨.bl false,H1,I1,rfl,q1⟩
theorem N2 (ha:PE X a ta)(hb:PE X (.BoolOp .Or (b::rest) pos) tb):PE X (.BoolOp .Or (a::b::rest) pos) (PX ta tb):=by
 intro pins s σ H Q I h;refine BoolOp_or (cM (ha pins s σ H _ I h) fun v s1 ⟨x,H1,I1,r1,q1⟩=>?_);obtain⟨c,rfl,q1⟩:=q1
 cases r1
 refine wpAny_truthy_bool ?_
 cases c with
 | false=>exact hb pins s1 σ H1 Q I1 q1
 | true=>exact⟨.bl true,H1,I1,rfl,q1⟩
theorem Lr (ha:PE X a ta):PE X (.UnaryOp .Not a pos) (Ol ta):=by
 intro pins s σ H Q I h;refine UnaryOp_ (cM (ha pins s σ H _ I h) fun v s1 ⟨x,H1,I1,r1,q1⟩=>?_);obtain⟨c,rfl,q1⟩:=q1
 cases r1
 exact not_of (wpAny_truthy_bool ⟨.bl (!c),H1,I1,rfl,q1⟩)
end
end L2
namespace L2
open PySem PySem.Spec PyProof.Rows
def dR (K:PySem.W.Frag)(H:Hp)(a:Addr)(xs:List V):Prop:=
 Rd H a (.lst xs) ∨
  ∃ (o:Obj) (its:Array Value) (n:Nat),K.lookup a=some o/\o.cls=.type "list"/\o.dict=none/\o.data=.seq its n/\its.size<=sizeLine/\aQ xs its.toList
def jH (K:PySem.W.Frag)(H:Hp)(a:Addr)(xs:List V):Prop:=
 Rd H a (.tup xs) ∨
  ∃ (o:Obj) (its:Array Value) (n:Nat),K.lookup a=some o/\o.cls=.type "tuple"/\o.data=.seq its n/\its.size<=sizeLine/\aQ xs its.toList
def Pd:Value->Option V
 | .none=>some .non
 | .bool b=>some (.bl b)
 | .int i _=>some (.int i)
 | .str x _=>some (.str x)
 | .bytes b _=>some (.byt b)
 | .float b _=>some (.flt b)
 | .ref a=>some (.ref a)
 | .type n=>some (.ty n)
 | _=>none
theorem RelV.abs {x:V}{u:Value}(r:RelV x u):Pd u=some x:=by
 cases x with
 | non=>cases r;rfl
 | bl _=>cases r;rfl
 | int _=>obtain⟨t,rfl⟩:=r;rfl
 | str _=>obtain⟨t,rfl⟩:=r;rfl
 | byt _=>obtain⟨t,rfl⟩:=r;rfl
 | flt _=>obtain⟨t,rfl⟩:=r;rfl
 | ref _=>cases r;rfl
 | ty _=>cases r;rfl
theorem RelV.inj {x y:V}{u:Value}(r:RelV x u)(q:RelV y u):x=y:=Option.some.inj (r.abs.symm.trans q.abs)
theorem aQ.inj:∀ {xs ys:List V}{us:List Value},aQ xs us->aQ ys us->xs=ys
 | _,_,_,.nil,.nil=>rfl
 | _,_,_,.cons r t,.cons r' t'=>by rw[r.inj r',aQ.inj t t']
section
variable {X:Cx}{pins:List (Addr × Obj)}{σ:St}{H:Hp}{s:Shared}{a:Addr}{xs ys:List V}
theorem dR.of {K:PySem.W.Frag}(h:H a=some (.lst xs)):dR K H a xs:=.inl (.inl h)
theorem jH.of {K:PySem.W.Frag}(h:H a=some (.tup xs)):jH K H a xs:=.inl (.inl h)
theorem aP.list (I:aP X pins σ H s)(h:dR X.K H a xs):∃ its:List Value,aQ xs its/\PlainL s.heap a its.toArray/\xs.length<=sizeLine:=by
 rcases h with h|⟨o,its,n,hk,hc,hd,hs,hz,r⟩
 ·obtain⟨z,its,n,r,e⟩:=h.ok I.hok;exact⟨its,r,⟨_,n,e,rfl,rfl,rfl⟩,z⟩
 ·refine⟨its.toList,r,⟨o,n,I.kIn a o hk,hc,hd,by simpa using hs⟩,?_⟩
  have e:=r.length;simp only[Array.length_toList]at e;omega
theorem aP.tuple (I:aP X pins σ H s)(h:jH X.K H a xs):∃ its:List Value,aQ xs its/\IsTup s.heap a its.toArray/\xs.length<=sizeLine:=by
 rcases h with h|⟨o,its,n,hk,hc,hs,hz,r⟩
 ·obtain⟨z,its,r,p⟩:=h.ok I.hok;exact⟨its,r,p,z⟩
 ·refine⟨its.toList,r,⟨o,I.kIn a o hk,hc,n,by simpa using hs⟩,?_⟩
  have e:=r.length;simp only[Array.length_toList]at e;omega
theorem aP.list_inj (I:aP X pins σ H s)(h:dR X.K H a xs)(h':dR X.K H a ys):xs=ys:=by
 obtain⟨its,r,⟨o,n,e,_,_,d⟩,_⟩:=I.list h;obtain⟨its',r',⟨o',n',e',_,_,d'⟩,_⟩:=I.list h';rw[e]at e';cases e'
 rw[d]at d'
 injection d' with d1 _
 have:its=its':=by simpa using congrArg Array.toList d1
 subst this;exact r.inj r'
theorem aP.tuple_inj (I:aP X pins σ H s)(h:jH X.K H a xs)(h':jH X.K H a ys):xs=ys:=by
 obtain⟨its,r,⟨o,e,_,n,d⟩,_⟩:=I.tuple h;obtain⟨its',r',⟨o',e',_,n',d'⟩,_⟩:=I.tuple h';rw[e]at e';cases e'
 rw[d]at d'
 injection d' with d1 _
 have:its=its':=by simpa using congrArg Array.toList d1
 subst this;exact r.inj r'
end
abbrev Cx.wish (X:Cx)(E:Value->Shared->Prop):Cx:={X with xe:=E}
abbrev Cx.nox (X:Cx):Cx:=X.wish fun _ _=>False
theorem Cx.Ok.wish {X:Cx}(ok:X.Ok)(E:Value->Shared->Prop):(X.wish E).Ok:=
 ⟨ok.mod,ok.kind,ok.glob,ok.blt,ok.above,ok.inj,ok.has,ok.cab,ok.hd,ok.frames,ok.stk,ok.exf,ok.bs,ok.bsz,ok.noex,ok.exfs,ok.funs,ok.frf⟩
theorem Cx.Ok.unwish {X:Cx}{E:Value->Shared->Prop}(ok:(X.wish E).Ok):X.Ok:=
 ⟨ok.mod,ok.kind,ok.glob,ok.blt,ok.above,ok.inj,ok.has,ok.cab,ok.hd,ok.frames,ok.stk,ok.exf,ok.bs,ok.bsz,ok.noex,ok.exfs,ok.funs,ok.frf⟩
section
variable {X:Cx}{pins:List (Addr × Obj)}{σ:St}{H:Hp}{s:Shared}{E:Value->Shared->Prop}
theorem aP.wish (I:aP X pins σ H s)(E:Value->Shared->Prop):aP (X.wish E) pins σ H s:=⟨I.ok.wish E,I.os,I.bare,I.base,I.loc,I.cell,I.free,I.freeC,I.pin,I.hok,I.len⟩
theorem aP.unwish (I:aP (X.wish E) pins σ H s):aP X pins σ H s:=⟨I.ok.unwish,I.os,I.bare,I.base,I.loc,I.cell,I.free,I.freeC,I.pin,I.hok,I.len⟩
theorem SP.unwish {D:Ends}{f:Flow}{s':Shared}(h:SP (X.wish E) pins D f s'):SP X pins D f s':=by
 cases f with
 | next=>obtain⟨σ',H',I,q⟩:=h;exact⟨σ',H',I.unwish,q⟩
 | brk=>obtain⟨σ',H',I,q⟩:=h;exact⟨σ',H',I.unwish,q⟩
 | cont=>obtain⟨σ',H',I,q⟩:=h;exact⟨σ',H',I.unwish,q⟩
 | ret u=>obtain⟨v,σ',H',I,r,q⟩:=h;exact⟨v,σ',H',I.unwish,r,q⟩
theorem PE.nox {e:Expr}{t:TE}(h:PE X.nox e t):PE X e t:=fun pins s σ H Q I hw=>
 wpAny_mono (h pins s σ H Q (I.wish _) hw) (fun _ _ ⟨v,H',I',r,q⟩=>⟨v,H',I'.unwish,r,q⟩) fun _ _ z=>False.elim z
theorem PT.nox {e:Expr}{t:TT}(h:PT X.nox e t):PT X e t:=fun pins s σ H Q I hw=>
 wpAny_mono (h pins s σ H Q (I.wish _) hw) (fun _ _ ⟨H',I',q⟩=>⟨H',I'.unwish,q⟩) fun _ _ z=>False.elim z
theorem j8.nox {st:List Stmt}{t:TS}(h:j8 X.nox st t):j8 X st t:=fun pins s σ H D I hw=>
 wpAny_mono (h pins s σ H D (I.wish _) hw) (fun _ _ q=>q.unwish) fun _ _ z=>False.elim z
end
section
variable {X:Cx}{st:Stmt}{rest:List Stmt}{t u:TS}{e:Expr}{te:TE}{pos:Pos}
def Oj:TS:=fun D σ H=>D.nx σ H
def P0 (t u:TS):TS:=fun D σ H=>t {D with nx:=u D} σ H
theorem HA:j8 X [] Oj:=fun _ _ σ H _ I h=>wpAny_execs_nil ⟨σ,H,I,h⟩
theorem uZ (h1:PS X st t)(h2:j8 X rest u):j8 X (st::rest) (P0 t u):=by
 intro pins s σ H D I h;refine wpAny_execs_cons (cM (h1 pins s σ H {D with nx:=u D} I h) fun f s1 q=>?_)
 cases f with
 | next=>
  obtain⟨σ',H',I',q⟩:=q;exact h2 pins s1 σ' H' D I' q
 | ret v=>exact q
 | brk=>exact q
 | cont=>exact q
theorem HB (h1:PS X st t):j8 X [st] t:=by
 intro pins s σ H D I h;refine wpAny_execs_cons (cM (h1 pins s σ H D I h) fun f s1 q=>?_)
 cases f with
 | next=>exact wpAny_execs_nil q
 | ret v=>exact q
 | brk=>exact q
 | cont=>exact q
theorem aP.quiet {pins:List (Addr × Obj)}{σ:St}{H:Hp}{s:Shared}(I:aP X pins σ H s):interactive X.env=false:=by simp[interactive,I.ok.kind]
def Oi (te:TE):TS:=fun D σ H=>te σ H fun _ H1=>D.nx σ H1
theorem mK (he:PE X e te)(hs:swapsWith e none pos.line X.env=pure false:=by rfl):PS X (.Expr e pos) (Oi te):=by
 intro pins s σ H D I h;exact wpAny_Expr_any (cM (he pins s σ H _ I h) fun v s1 ⟨x,H1,I1,r1,q1⟩=>⟨σ,H1,I1,q1⟩) I.quiet hs
def PZ (te:TE):TS:=fun D σ H=>te σ H D.rt
theorem EV (he:PE X e te):PS X (.Return (some e) pos) (PZ te):=by
 intro pins s σ H D I h;exact wpAny_Return_some (cM (he pins s σ H _ I h) fun v s1 ⟨x,H1,I1,r1,q1⟩=>⟨x,σ,H1,I1,r1,q1⟩)
def PQ (c:TT)(t u:TS):TS:=fun D σ H=>c σ H fun b H1=>if b=true then t D σ H1 else u D σ H1
theorem N6 {c:Expr}{a b:List Stmt}{tc:TT}(hc:PT X c tc)(ha:j8 X a t)(hb:j8 X b u):PS X (.If c a b pos) (PQ tc t u):=by
 intro pins s σ H D I h;refine wpAny_If (cM (hc pins s σ H _ I h) fun d s1 ⟨H1,I1,q1⟩=>?_)
 cases d with
 | true=>exact ha pins s1 σ H1 D I1 q1
 | false=>exact hb pins s1 σ H1 D I1 q1
def L1:TS:=fun _ _ _=>False
theorem EU:PS X st L1:=fun _ _ _ _ _ _ h=>h.elim
end
abbrev TG:=V->St->Hp->(St->Hp->Prop)->Prop
abbrev FI:=List V->St->Hp->(St->Hp->Prop)->Prop
def PG (X:Cx)(target:Expr)(t:TG):Prop:=
 ∀ (pins:List (Addr × Obj)) (s:Shared) (σ:St) (H:Hp) (v:V) (u:Value) (Q:St->Hp->Prop),aP X pins σ H s->RelV v u->t v σ H Q →
  wpAny (model X.prog X.w) X.A (assign target X.env u) (fun _ s'=>∃ σ' H',aP X pins σ' H' s'/\Q σ' H') X.xe s
def A9 (X:Cx)(ts:List Expr)(t:FI):Prop:=
 ∀ (pins:List (Addr × Obj)) (s:Shared) (σ:St) (H:Hp) (vs:List V) (us:List Value) (Q:St->Hp->Prop),aP X pins σ H s->aQ vs us->t vs σ H Q →
  wpAny (model X.prog X.w) X.A (assignInOrder ((assignEach ts X.env).map (·.2)) us) (fun _ s'=>∃ σ' H',aP X pins σ' H' s'/\Q σ' H') X.xe s
abbrev Jh:=V->V->V->Hp->(Hp->Prop)->Prop
def Mu (X:Cx)(t:Jh):Prop:=
 ∀ (pins:List (Addr × Obj)) (s:Shared) (σ:St) (H:Hp) (o i v:V) (ov iv u:Value) (Q:Hp->Prop),aP X pins σ H s->RelV o ov->RelV i iv->RelV v u->t o i v H Q →
  wpAny (model X.prog X.w) X.A (setItem ov iv u) (fun _ s'=>∃ H',aP X pins σ H' s'/\Q H') X.xe s
section
variable {X:Cx}{pos:Pos}
def C3 (i:Nat):TG:=fun v σ H Q=>Q (σ.set i (some v)) H
theorem Hs {i:Nat}{x:Str}(hN:X.N.Nodup)(hi:X.N[i]?=some x)(hx:Loc X.env.scope x)(hf:X.fn x=true\/X.env.scope.names.lookup x=some .local:=by first|exact .inl rfl|exact .inr rfl|assumption):PG X (.Name x pos) (C3 i):=by
 intro pins s σ H v u Q I r h;exact wpAny_assign_Name (kZ I hN hi hx r (fun s' I'=>⟨_,H,I',h⟩) hf)
def Pf:FI:=fun vs σ H Q=>vs=[]/\Q σ H
def Nz (t:TG)(u:FI):FI:=fun vs σ H Q=>∃ v r,vs=v::r/\t v σ H fun σ' H'=>u r σ' H' Q
theorem Ht:A9 X [] Pf:=by
 intro pins s σ H vs us Q I r h;obtain⟨e,h⟩:=h;subst e
 cases r
 exact assignInOrder_nil ⟨σ,H,I,h⟩
theorem EO {e:Expr}{es:List Expr}{t:TG}{u:FI}(h1:PG X e t)(h2:A9 X es u)
  (hs:(assignEach (e::es) X.env).map (·.2)=assign e X.env::(assignEach es X.env).map (·.2):=by rfl):A9 X (e::es) (Nz t u):=by
 intro pins s σ H vs us Q I r h;obtain⟨v,vr,e1,h⟩:=h;subst e1
 cases r with
 | cons r rr=>
  rw[hs];refine assignInOrder_cons (cM (h1 pins s σ H _ _ _ I r h) fun _ s1 ⟨σ1,H1,I1,q1⟩=>?_);exact h2 pins s1 σ1 H1 _ _ Q I1 rr q1
def Ph (K:PySem.W.Frag)(n:Nat)(t:FI):TG:=fun v σ H Q=>∃ a xs,v=.ref a/\jH K H a xs/\xs.length=n/\t xs σ H Q
theorem Lw {es:List Expr}{k:Nat}{t:FI}{n:Nat}(hc:X.calm=true)(h:A9 X es t)
  (hn:(assignEach es X.env).length=n:=by rfl) (hst:(assignEach es X.env).findIdx? (·.1)=none:=by rfl):PG X (.Tuple es k pos) (Ph X.K n t):=by
 intro pins s σ H v u Q I r hw;obtain⟨a,xs,e1,hq,hl,hw⟩:=hw;subst e1
 cases r
 obtain⟨its,rv,ht,hz⟩:=I.tuple hq;refine assign_Tuple_tuple (I.ok.hd hc) ht (by simp[hn,<-hl,rv.length]) hst fun h' hx=>?_
 have I1:aP X pins σ H {s with heap:=h'}:=I.kept (t':=s.toks) fun b o e=>hx b o (Nat.ne_of_lt (Heap.lt_size e)) e;exact h pins _ σ H xs _ Q I1 (by simpa using rv) hw
def Pg (to ti:TE)(t:Jh):TG:=fun v σ H Q=>to σ H fun o H1=>ti σ H1 fun i H2=>t o i v H2 fun H3=>Q σ H3
theorem Lv {o i:Expr}{to ti:TE}{t:Jh}(ho:PE X o to)(hi:PE X i ti)(hs:Mu X t)
  (ha:∀ v,assign (.Subscript o i pos) X.env v=(do
   let ov ← holding [v] (eval o X.env)
   let iv ← holding [v,ov] (eval i X.env)
   standAt pos
   holding [v,ov,iv] (setItem ov iv v)
   release [v,ov,iv] []):=by intro _;rfl):PG X (.Subscript o i pos) (Pg to ti t):=by
 intro pins s σ H v u Q I r h;rw[ha];refine wpAny_bind (wpAny_holding (cM (ho pins s σ H _ I h) fun ov s1 ⟨x,H1,I1,r1,q1⟩=>?_));refine wpAny_bind (wpAny_holding (cM (hi pins s1 σ H1 _ I1 q1) fun iv s2 ⟨y,H2,I2,r2,q2⟩=>?_));refine wpAny_bind (wpAny_standAt (wpAny_bind (wpAny_holding (cM (hs pins s2 σ H2 x y v ov iv u _ I2 r1 r2 r q2) fun _ s3 ⟨H3,I3,q3⟩=>?_))));exact wpAny_release ⟨σ,H3,I3,q3⟩
def LZ (te:TE)(g:TG):TS:=fun D σ H=>te σ H fun x H1=>g x σ H1 D.nx
theorem ET {tg e:Expr}{te:TE}{g:TG}(he:PE X e te)(hg:PG X tg g)(hs:swapsWithSole [tg] e pos.line X.env=pure false:=by rfl)(hw:swappedStores [tg] e X.env=pure none:=by rfl)
  (h1:(assignEach [tg] X.env).map (·.2)=[assign tg X.env]:=by rfl):PS X (.Assign [tg] e pos) (LZ te g):=by
 intro pins s σ H D I h;refine wpAny_Assign_stores (cM (he pins s σ H _ I h) fun v s1 ⟨x,H1,I1,r1,q1⟩=>?_) hs hw;rw[h1];exact cM (hg pins s1 σ H1 x v _ I1 r1 q1) fun _ s2 q=>q
theorem LC {i:Nat}{x:Str}{e:Expr}{te:TE}{pos':Pos}(hN:X.N.Nodup)(hi:X.N[i]?=some x)(hx:Loc X.env.scope x)(he:PE X e te)(hs:swapsWith e (some (.Name x pos')) pos.line X.env=pure false:=by rfl)(hf:X.fn x=true\/X.env.scope.names.lookup x=some .local:=by first|exact .inl rfl|exact .inr rfl|assumption) :
  PS X (.Assign [.Name x pos'] e pos) (LZ te (C3 i)):=by
 intro pins s σ H D I h;refine wpAny_Assign_Name (cM (he pins s σ H _ I h) fun v s1 ⟨y,H1,I1,r1,q1⟩=>?_) hs;exact kZ I1 hN hi hx r1 (fun s2 I2=>⟨_,H1,I2,q1⟩) hf
def PY (i j:Nat)(ta:TA):TS:=fun D σ H=>ta σ H fun vs H1=>∃ v w,vs=[v,w]/\D.nx ((σ.set i (some v)).set j (some w)) H1
theorem LB {i j:Nat}{x y:Str}{a b:Expr}{ta:TA}{px py pt:Pos}{kt k2 pt2}(hc:X.calm=true)(hN:X.N.Nodup)(hi:X.N[i]?=some x)(hj:X.N[j]?=some y)(hij:i≠j)
  (hx:X.env.scope.names.lookup x=some .local) (hy:X.env.scope.names.lookup y=some .local) (ha:PA X [a,b] ta)
  (hw:swappedStores [.Tuple [.Name x px,.Name y py] kt pt] (.Tuple [a,b] k2 pt2) X.env=pure (some [x,y]))
  (hs:swapsWithSole [.Tuple [.Name x px,.Name y py] kt pt] (.Tuple [a,b] k2 pt2) pos.line X.env=pure false:=by rfl) :
  PS X (.Assign [.Tuple [.Name x px,.Name y py] kt pt] (.Tuple [a,b] k2 pt2) pos) (PY i j ta):=by
 intro pins s σ H D I h;rw[exec_Assign_arm];refine wpAny_bind (wpAny_standAt ?_);rw[hs];refine wpAny_bind (wpAny_pure ?_);rw[if_neg (by decide)]
 refine wpAny_bind (Tuple_ (cM (ha _ pins s σ H _ I h) fun us s1 ⟨vs,H1,I1,r1,q1⟩=>?_));obtain⟨v,w,e1,q1⟩:=q1;subst e1;obtain⟨u1,u2,rfl,rv,rw'⟩:∃ u1 u2,us=[u1,u2]/\RelV v u1/\RelV w u2:=by
  cases r1 with
  | cons p q=>
   cases q with
   | cons p' q'=>
    cases q'
    exact⟨_,_,rfl,p,p'⟩
 refine wpAny_newObj_type ?_ (by show 2<=sizeLine;decide)
 have I2:aP X pins σ H1 {s1 with heap:=s1.heap.push {cls:=.type "tuple",data:=.seq [u1,u2].toArray}}:=I1.kept (t':=s1.toks) fun b o e=>Heap.get?_push_of_some _ e;rw[hw];refine wpAny_bind (wpAny_pure ?_);show wpAny (model X.prog X.w) X.A (do rule "assign.swapped-stores";let items ← unpackItems (.ref s1.heap.objs.size) 2 none;assignInOrder [fun v=>bindName X.env y v,fun v=>bindName X.env x v] items.reverse;pure Flow.next) _ _ _
 refine wpAny_bind (wpAny_rule (wpAny_bind (unpackItems_tuple (items:=#[u1,u2]) (I.ok.hd hc) (IsTup.new s1.heap _) fun h' hx'=>?_)));have I3:=I2.kept (h':=h') (t':=s1.toks) fun b o e=>hx' b o (Nat.ne_of_lt (Heap.lt_size e)) e;show wpAny _ _ (assignInOrder [fun v=>bindName X.env y v,fun v=>bindName X.env x v] [u2,u1] >>= fun _=>pure Flow.next) _ _ _;refine wpAny_bind (assignInOrder_cons (wpAny_bindName (kZ I3 hN hj (.inl hy) rw' (fun s2 I4=>?_) (.inr hy))));refine assignInOrder_cons (wpAny_bindName (kZ I4 hN hi (.inl hx) rv (fun s3 I5=>assignInOrder_nil (wpAny_pure ?_)) (.inr hx)));rw[List.set_comm _ _ (Ne.symm hij)]at I5;exact⟨_,H1,I5,q1⟩
end
section
variable {X:Cx}{pos:Pos}
def L3 (c:TT)(tb:TS):TS:=fun D σ H=>∃ W:Nat->St->Hp->Prop,(∃ m,W m σ H)/\∀ m σ H,W m σ H →
 c σ H fun b H1=>if b=true then ∃ N:St->Hp->Prop,(∀ σ' H',N σ' H'->∃ m',m'<m/\W m' σ' H')/\tb {D with nx:=N,ct:=N,bk:=D.nx} σ H1 else D.nx σ H1
theorem EW {c:Expr}{body:List Stmt}{tc:TT}{tb:TS}(hp:PassesOwn (model X.prog X.w) X.A X.env X.xe)(hc:PT X c tc)(hb:j8 X body tb):PS X (.While c body [] pos) (L3 tc tb):=by
 intro pins s σ H D I h;obtain⟨W,⟨m0,w0⟩,turn⟩:=h;refine wpAny_While (codeAny_whileLoop (fun n s'=>∃ σ' H',aP X pins σ' H' s'/\W n σ' H') ?_ m0 ⟨σ,H,I,w0⟩);rintro n s1 ⟨σ1,H1,I1,w1⟩;refine wpAny_passesOwn hp (cM (hc pins s1 σ1 H1 _ I1 (turn n σ1 H1 w1)) fun b s2 ⟨H2,I2,q2⟩=>?_)
 cases b with
 | true=>
  obtain⟨N,hN,q2⟩:=q2;rw[if_pos rfl];refine wpAny_passesOwn hp (cM (hb pins s2 σ1 H2 _ I2 q2) fun f s3 q3=>?_)
  cases f with
  | next=>
   obtain⟨σ3,H3,I3,n3⟩:=q3;obtain⟨m',hm,w3⟩:=hN σ3 H3 n3;exact⟨m',hm,σ3,H3,I3,w3⟩
  | cont=>
   obtain⟨σ3,H3,I3,n3⟩:=q3;obtain⟨m',hm,w3⟩:=hN σ3 H3 n3;exact⟨m',hm,σ3,H3,I3,w3⟩
  | brk=>exact q3
  | ret v=>exact q3
 | false=>
  rw[if_neg Bool.false_ne_true];exact wpAny_execs_nil ⟨σ1,H2,I2,q2⟩
end
structure It where
 go:Nat->Hp->Prop
 yld:Nat->Hp->V->Hp->Prop
 stop:Nat->Hp->Prop
def qB (X:Cx)(pins:List (Addr × Obj))(H:Hp)(b:Addr):Prop:=
 H b=none/\b≠X.env.locals/\b∉X.fs/\(b∈X.ex\/X.s₀.heap.objs.size<=b)/\(∀ x c,X.env.cells.lookup x=some c->c≠b)/\∀ p∈X.pn++pins,p.1≠b
theorem aP.fpOk {X:Cx}{pins:List (Addr × Obj)}{σ:St}{H H':Hp}{s:Shared}{b:Addr}(I:aP X pins σ H s)(hb:s.heap.objs.size<=b)(hn:H' b=none):qB X pins H' b:=by
 refine⟨hn,Nat.ne_of_gt (Nat.lt_of_lt_of_le I.lt hb),I.nofs hb,.inr (Nat.le_trans I.sz hb),fun x c e z=>?_,fun p hp z=>?_⟩
 ·obtain⟨v,q⟩:=I.cell x c e;exact absurd (Nat.lt_of_lt_of_le q.lt (by rw[z];exact hb)) (Nat.lt_irrefl _)
 ·exact absurd (Nat.lt_of_lt_of_le (Heap.lt_size (I.pin p hp).1) (by rw[z];exact hb)) (Nat.lt_irrefl _)
structure Turn (P:Program) (w:World) (K:PySem.W.Frag) (tg:Expr) (J:It) (fp:List Addr) (it:Addr) (tn:Nat->Heap->Prop):Prop where
 mem:it∈fp
 obj:∀ i h,tn i h->∀ b∈fp,∃ o,h.get? b=some o/\∀ v,o.data≠.cell v
 keep:∀ i h h',tn i h->(∀ b∈fp,∀ o,h.get? b=some o->h'.get? b=some o)->tn i h'
 item:∀ (X:Cx),X.prog=P->X.w=w->X.K=K->X.calm=true->∀ (i:Nat) (pins:List (Addr × Obj)) (s:Shared) (σ:St) (H:Hp) (E:Value->Shared->Prop),aP X pins σ H s->(∀ b∈fp,qB X pins H b)->tn i s.heap->J.go i H →
  wpAny (model P w) X.A (pyNext (.ref it)) (fun r s1=>∃ u,r=some u ∧
   wpAny (model P w) X.A (letOwnedTupleGo tg (.ref it) u) (fun _ s2=>∃ x H',aP X pins σ H' s2/\RelV x u/\J.yld i H x H'/\tn (i+1) s2.heap/\∀ b∈fp,H' b=none) E s1) E s
 done:∀ (X:Cx),X.prog=P->X.w=w->X.K=K->X.calm=true->∀ (i:Nat) (pins:List (Addr × Obj)) (s:Shared) (σ:St) (H:Hp) (E:Value->Shared->Prop),aP X pins σ H s->(∀ b∈fp,qB X pins H b)->tn i s.heap->J.stop i H →
  wpAny (model P w) X.A (pyNext (.ref it)) (fun r s1=>r=none/\aP X pins σ H s1) E s
 self:∀ (A:Around) (i:Nat) (s:Shared) (Q:Value->Shared->Prop) (E:Value->Shared->Prop),tn i s.heap->Q (.ref it) s->wpAny (model P w) A (pyIter (.ref it)) Q E s
abbrev TI:=St->Hp->(It->Hp->Prop)->Prop
def Qe (X:Cx)(pins:List (Addr × Obj))(σ:St)(tg:Expr)(R:It->Hp->Prop)(itv:Value)(s2:Shared):Prop:=
 ∃ (it:Addr) (fp:List Addr) (tn:Nat->Heap->Prop) (J:It) (H':Hp),itv=.ref it/\aP X pins σ H' s2/\Turn X.prog X.w X.K tg J fp it tn/\tn 0 s2.heap/\(∀ b∈fp,qB X pins H' b)/\R J H'
def PI (X:Cx)(tg iter:Expr)(wi:TI):Prop:=
 ∀ (pins:List (Addr × Obj)) (s:Shared) (σ:St) (H:Hp) (R:It->Hp->Prop),aP X pins σ H s->wi σ H R →
  wpAny (model X.prog X.w) X.A (eval iter X.env) (fun v s1=>wpAny (model X.prog X.w) X.A (pyIter v) (Qe X pins σ tg R) X.xe s1) X.xe s
theorem C6 {M:Model}{A:Around}{E:Value->Shared->Prop}{s:Shared}{tg:Expr}{it:Addr}{u:Value}{o:Obj}{n:String}{vs:Array Value}{Q:Unit->Shared->Prop}(ho:s.heap.get? it=some o)(hc:o.cls=.type n)(hd:o.data=.fields vs)
  (hn:["enumerate","zip","dict_itemiterator","dict_reverseitemiterator","odict_iterator","itertools.zip_longest","itertools.pairwise"].contains n=false) (hQ:Q () s):wpAny M A (letOwnedTupleGo tg (.ref it) u) Q E s:=by
 unfold letOwnedTupleGo
 cases tg <;> first
  | exact wpAny_pure hQ
  | (cases u <;> first
    | exact wpAny_pure hQ
    | (
      refine wpAny_bind (wpAny_load ho ?_);rw[hc,hd];show wpAny M A (if (["enumerate","zip","dict_itemiterator","dict_reverseitemiterator","odict_iterator","itertools.zip_longest","itertools.pairwise"].contains n && vs[0]? == some (rawInt _))=true then _ else _) Q E s
      rw[if_neg (by intro h;rw[hn,Bool.false_and]at h;cases h)]
      exact wpAny_pure hQ))
def OX (K:PySem.W.Frag)(a:Addr):It:=
 ⟨fun i H=>∃ xs x,dR K H a xs/\xs[i]?=some x,fun i H x H'=>H'=H/\∀ xs,dR K H a xs->xs[i]?=some x,fun i H=>∃ xs,dR K H a xs/\xs.length<=i⟩
def OY (K:PySem.W.Frag)(a:Addr):It:=
 ⟨fun i H=>∃ xs x,jH K H a xs/\xs[i]?=some x,fun i H x H'=>H'=H/\∀ xs,jH K H a xs->xs[i]?=some x,fun i H=>∃ xs,jH K H a xs/\xs.length<=i⟩
def OH (lo:Int)(n:Nat):It:=⟨fun i _=>i<n,fun i H x H'=>H'=H/\x=.int (lo+i),fun i _=>n<=i⟩
theorem AO {P:Program}{w:World}{K:PySem.W.Frag}{tg:Expr}(a it:Addr):Turn P w K tg (OX K a) [it] it (fun i h=>h.IsListIter it a i) where
 mem:=by simp
 obj:=fun i h st b hb=>by
  have e:b=it:=by simpa using hb
  subst e;obtain⟨o,e,c,d⟩:=st;exact⟨o,e,fun v z=>by rw[d]at z;cases z⟩
 keep:=fun i h h' st k=>st.at fun o e=>k it (by simp) o e
 item:=by
  intro X hP hw hK hc i pins s σ H E I hf st hg;subst hP hw hK;obtain⟨xs,x,hq,hx⟩:=hg;obtain⟨its,rv,p,hz⟩:=I.list hq;obtain⟨u,hu,ru⟩:=rv.get hx;obtain⟨f0,f1,f2,f3,f4,f5⟩:=hf it (by simp)
  refine wpAny_pyNext_list_item st p.isList (x:=u) (by simpa using hu) fun h' st' sb=>?_
  have I1:aP X pins σ H {s with heap:=h'}:=I.turned (t':=s.toks) (fun b o hb e=>(sb.2 b hb).trans e) f0 f1 f3 f4 f5;obtain⟨o,e,c,d⟩:=id st';exact⟨u,rfl,C6 (s:={s with heap:=h'}) e c d (by decide) ⟨x,H,I1,ru,⟨rfl,fun ys hy=>by rw[I.list_inj hy hq];exact hx⟩,st',fun b hb=>(hf b hb).1⟩⟩
 done:=by
  intro X hP hw hK hc i pins s σ H E I hf st hg;subst hP hw hK;obtain⟨xs,hq,hx⟩:=hg;obtain⟨its,rv,p,hz⟩:=I.list hq;obtain⟨f0,f1,f2,f3,f4,f5⟩:=hf it (by simp)
  have hl:=rv.length;exact wpAny_pyNext_list_end (I.ok.hd hc) st p.isList (by simp;omega) fun h' eb=>⟨rfl,I.turned (t':=s.toks) (fun b o hb e=>eb b o hb e) f0 f1 f3 f4 f5⟩
 self:=fun _ _ _ _ _ st h=>wpAny_pyIter_listiter st h
theorem xr {P:Program}{w:World}{K:PySem.W.Frag}{tg:Expr}(a it:Addr):Turn P w K tg (OY K a) [it] it (fun i h=>h.IsTupleIter it a i) where
 mem:=by simp
 obj:=fun i h st b hb=>by
  have e:b=it:=by simpa using hb
  subst e;obtain⟨o,e,c,d⟩:=st;exact⟨o,e,fun v z=>by rw[d]at z;cases z⟩
 keep:=fun i h h' st k=>st.at fun o e=>k it (by simp) o e
 item:=by
  intro X hP hw hK hc i pins s σ H E I hf st hg;subst hP hw hK;obtain⟨xs,x,hq,hx⟩:=hg;obtain⟨its,rv,p,hz⟩:=I.tuple hq;obtain⟨u,hu,ru⟩:=rv.get hx;obtain⟨f0,f1,f2,f3,f4,f5⟩:=hf it (by simp)
  refine wpAny_pyNext_tuple_item st (show s.heap.IsTuple a its.toArray from p) (x:=u) (by simpa using hu) fun h' st' sb=>?_
  have I1:aP X pins σ H {s with heap:=h'}:=I.turned (t':=s.toks) (fun b o hb e=>(sb.2 b hb).trans e) f0 f1 f3 f4 f5;obtain⟨o,e,c,d⟩:=id st';exact⟨u,rfl,C6 (s:={s with heap:=h'}) e c d (by decide) ⟨x,H,I1,ru,⟨rfl,fun ys hy=>by rw[I.tuple_inj hy hq];exact hx⟩,st',fun b hb=>(hf b hb).1⟩⟩
 done:=by
  intro X hP hw hK hc i pins s σ H E I hf st hg;subst hP hw hK;obtain⟨xs,hq,hx⟩:=hg;obtain⟨its,rv,p,hz⟩:=I.tuple hq;obtain⟨f0,f1,f2,f3,f4,f5⟩:=hf it (by simp)
  have hl:=rv.length;exact wpAny_pyNext_tuple_end (I.ok.hd hc) st (show s.heap.IsTuple a its.toArray from p) (by simp;omega) fun h' eb=>⟨rfl,I.turned (t':=s.toks) (fun b o hb e=>eb b o hb e) f0 f1 f3 f4 f5⟩
 self:=fun _ _ _ _ _ st h=>wpAny_pyIter_tupleiter st h
theorem xq {P:Program}{w:World}{K:PySem.W.Frag}{tg:Expr}(it:Addr)(lo:Int)(n:Nat):Turn P w K tg (OH lo n) [it] it (fun i h=>IsRangeIter h it (lo+(i:Nat)*1) ((n:Int)-(i:Nat)) 1) where
 mem:=by simp
 obj:=fun i h st b hb=>by
  have e:b=it:=by simpa using hb
  subst e;exact⟨_,st,fun v z=>by
   have z':Data.fields _=Data.cell v:=z
   cases z'⟩
 keep:=fun i h h' st k=>k it (by simp) _ st
 item:=by
  intro X hP hw hK hc i pins s σ H E I hf st hg;subst hP hw hK;obtain⟨f0,f1,f2,f3,f4,f5⟩:=hf it (by simp)
  have W:=Walks.range (prog:=X.prog) (w:=X.w) (I.ok.hd hc) it lo 1 n;refine W.item i s _ _ hg st fun v h' tk hv st' kk=>?_;obtain⟨t,rfl⟩:=hv;have I1:aP X pins σ H {s with heap:=h',toks:=tk}:=I.turned (fun b o hb e=>kk b o (by simpa using hb) e) f0 f1 f3 f4 f5
  refine⟨_,rfl,C6 (s:={s with heap:=h',toks:=tk}) (n:="range_iterator") st' rfl rfl (by decide) ⟨.int (lo+i),H,I1,⟨t,?_⟩,⟨rfl,rfl⟩,st',fun b hb=>(hf b hb).1⟩⟩
  rw[Int.mul_one]
 done:=by
  intro X hP hw hK hc i pins s σ H E I hf st hg;subst hP hw hK;obtain⟨f0,f1,f2,f3,f4,f5⟩:=hf it (by simp)
  exact wpAny_pyNext_range_end (I.ok.hd hc) st (by have:n<=i:=hg;omega) fun h' eb=>⟨rfl,I.turned (t':=s.toks) (fun b o hb e=>eb b o hb e) f0 f1 f3 f4 f5⟩
 self:=fun _ _ _ _ _ st h=>wpAny_pyIter_rangeiter st h
end L2
namespace L2
open PySem PySem.Spec PyProof.Rows
section
variable {X:Cx}{tg:Expr}
def NF (K:PySem.W.Frag)(tl:TE):TI:=fun σ H R=>tl σ H fun x H1=>∃ a,x=.ref a/\(∃ xs,dR K H1 a xs)/\R (OX K a) H1
def Pn (K:PySem.W.Frag)(tl:TE):TI:=fun σ H R=>tl σ H fun x H1=>∃ a,x=.ref a/\(∃ xs,jH K H1 a xs)/\R (OY K a) H1
theorem Hu {l:Expr}{tl:TE}(hl:PE X l tl):PI X tg l (NF X.K tl):=by
 intro pins s σ H R I h;refine cM (hl pins s σ H _ I h) fun v s1 ⟨x,H1,I1,r1,q1⟩=>?_;obtain⟨a,e,⟨xs,hq⟩,q⟩:=q1;subst e
 cases r1
 obtain⟨its,rv,p,hz⟩:=I1.list hq;refine wpAny_pyIter_list p.isList ?_;refine⟨s1.heap.objs.size,[s1.heap.objs.size],_,_,H1,rfl,I1.kept (t':=s1.toks) fun b o e=>Heap.get?_push_of_some _ e,AO a _,⟨_,Heap.get?_push_size _ rfl,rfl,rfl⟩,fun b hb=>?_,q⟩;have e:b=s1.heap.objs.size:=by simpa using hb
 subst e;exact I1.fpOk (Nat.le_refl _) (I1.hok.fresh (Nat.le_refl _))
theorem Lx {l:Expr}{tl:TE}(hl:PE X l tl):PI X tg l (Pn X.K tl):=by
 intro pins s σ H R I h;refine cM (hl pins s σ H _ I h) fun v s1 ⟨x,H1,I1,r1,q1⟩=>?_;obtain⟨a,e,⟨xs,hq⟩,q⟩:=q1;subst e
 cases r1
 obtain⟨its,rv,p,hz⟩:=I1.tuple hq;refine wpAny_pyIter_tuple (show s1.heap.IsTuple a its.toArray from p) ?_;refine⟨s1.heap.objs.size,[s1.heap.objs.size],_,_,H1,rfl,I1.kept (t':=s1.toks) fun b o e=>Heap.get?_push_of_some _ e,xr a _,⟨_,Heap.get?_push_size _ rfl,rfl,rfl⟩,fun b hb=>?_,q⟩;have e:b=s1.heap.objs.size:=by simpa using hb
 subst e;exact I1.fpOk (Nat.le_refl _) (I1.hok.fresh (Nat.le_refl _))
theorem E2 {pins:List (Addr × Obj)}{σ:St}{H:Hp}{s:Shared}{R:It->Hp->Prop}{E:Value->Shared->Prop}{lo hi:Int}{t u v:Tok}{tk:Nat}(I:aP X pins σ H s)(h1:-(2 ^ 62)<=lo)(h2:lo<2 ^ 62)(h3:-(2 ^ 62)<=hi)(h4:hi<2 ^ 62)
  (q:R (OH lo (hi-lo).toNat) H):wpAny (model X.prog X.w) X.A (pyIter (.ref s.heap.objs.size)) (Qe X pins σ tg R) E {s with heap:=s.heap.push {cls:=.type "range",data:=.fields #[.int lo t,.int hi u,.int 1 v]},toks:=tk}:=by
 refine wpAny_pyIter_range (IsRange.new ..) (small_one h1 h2 h3 h4) ?_;have I1:aP X pins σ H {s with heap:=s.heap.push {cls:=.type "range",data:=.fields #[.int lo t,.int hi u,.int 1 v]},toks:=tk}:=I.kept fun b o e=>Heap.get?_push_of_some _ e;refine⟨(s.heap.push {cls:=.type "range",data:=.fields #[.int lo t,.int hi u,.int 1 v]}).objs.size,[(s.heap.push {cls:=.type "range",data:=.fields #[.int lo t,.int hi u,.int 1 v]}).objs.size],_,_,H,rfl,
  I1.kept (t':=tk) fun b o e=>Heap.get?_push_of_some _ e,xq _ lo (hi-lo).toNat,?_,fun b hb=>?_,q⟩
 ·have e1:lo+((0:Nat):Int)*1=lo:=by simp
  have e2:(((hi-lo).toNat:Nat):Int)-((0:Nat):Int)=Builtin.Range.rangeSize lo hi 1:=by rw[rangeSize_one];split <;> omega
  show IsRangeIter _ _ (lo+((0:Nat):Int)*1) ((((hi-lo).toNat:Nat):Int)-((0:Nat):Int)) 1;rw[e1,e2];exact Heap.get?_push_size _ rfl
 ·have e:b=(s.heap.push {cls:=.type "range",data:=.fields #[.int lo t,.int hi u,.int 1 v]}).objs.size:=by simpa using hb
  subst e;exact I1.fpOk (Nat.le_refl _) (I1.hok.fresh (Nat.le_refl _))
def NG (ta:TA):TI:=fun σ H R=>ta σ H fun vs H1=>∃ j:Int,vs=[.int j]/\-(2 ^ 62)<=j/\j<2 ^ 62/\R (OH 0 j.toNat) H1
theorem Az {a:Expr}{ta:TA}{p pos:Pos} (hg:Gl X "range") (hm:X.mg "range"=none) (ha:PA X [a] ta) (hs:starEach [a] X.env=[(false,eval a X.env)]:=by rfl):PI X tg (.Call (.Name "range" p) [a] [] pos) (NG ta):=by
 intro pins s σ H R I h;refine Call_ (i6 I hg hm boot_range (PyProof.Rows.callWith_type1 (cM (ha pos pins s σ H _ I h) fun us s1 ⟨vs,H1,I1,r1,q1⟩=>?_) hs rfl));obtain⟨j,e,q1,q2,q⟩:=q1;subst e
 cases r1 with
 | cons r rr=>
  cases rr
  obtain⟨t,rfl⟩:=r;exact call_range_1 (E2 I1 (by omega) (by omega) q1 q2 (by simpa using q))
def PP (wi:TI)(g:TG)(tb:TS):TS:=fun D σ H=>wi σ H fun J H1=>∃ W:Nat->Nat->St->Hp->Prop,(∃ m,W 0 m σ H1)/\∀ i m σ H,W i m σ H →
 (J.stop i H/\D.nx σ H)\/(J.go i H/\∃ N:St->Hp->Prop,(∀ σ' H',N σ' H'->∃ m',m'<m/\W (i+1) m' σ' H')/\∀ x H',J.yld i H x H'->g x σ H' fun σ2 H2=>tb {D with nx:=N,ct:=N,bk:=D.nx} σ2 H2)
def nZ (fp:List Addr)(h:Heap):List (Addr × Obj):=fp.filterMap fun b=>(h.get? b).map fun o=>(b,o)
theorem iw {fp:List Addr}{h:Heap}{b:Addr}{o:Obj}(hb:b∈fp)(e:h.get? b=some o):(b,o)∈nZ fp h:=List.mem_filterMap.mpr ⟨b,hb,by rw[e];rfl⟩
theorem Aj {fp:List Addr}{h:Heap}{p:Addr × Obj}(hp:p∈nZ fp h):p.1∈fp/\h.get? p.1=some p.2:=by
 obtain⟨b,hb,e⟩:=List.mem_filterMap.mp hp
 cases q:h.get? b with
 | none=>rw[q]at e;cases e
 | some o=>
  rw[q]at e;have e':(b,o)=p:=Option.some.inj e;subst e';exact⟨hb,q⟩
theorem aP.pinned {pins:List (Addr × Obj)}{σ:St}{H:Hp}{s:Shared}{fp:List Addr}(I:aP X pins σ H s)(hf:∀ b∈fp,qB X pins H b)(ho:∀ b∈fp,∃ o,s.heap.get? b=some o/\∀ v,o.data≠.cell v):aP X (pins++nZ fp s.heap) σ H s:=
 I.pins_of fun p hp=>(List.mem_append.mp hp).elim (fun z=>I.pin p (List.mem_append_right _ z)) fun z=>by
  obtain⟨hb,e⟩:=Aj z;obtain⟨f0,f1,f2,_⟩:=hf p.1 hb;obtain⟨o,e',d⟩:=ho p.1 hb;rw[e]at e';cases e'
  exact⟨e,f0,f1,f2,d⟩
theorem aP.unpinned {pins pl:List (Addr × Obj)}{σ:St}{H:Hp}{s:Shared}(I:aP X (pins++pl) σ H s):aP X pins σ H s:=I.pins_of fun p hp=>I.pin p (List.mem_append_right _ (List.mem_append_left _ hp))
theorem LA {iter:Expr}{body:List Stmt}{wi:TI}{g:TG}{tb:TS}{pos:Pos}(hp:PassesOwn (model X.prog X.w) X.A X.env X.xe)(hc:X.calm=true)(hi:PI X tg iter wi)(hg:PG X tg g)(hb:j8 X body tb)
  (hs:∀ x,foldedSetIterable iter X.env x=pure x:=by intro _;rfl):PS X (.For tg iter body [] pos) (PP wi g tb):=by
 intro pins s σ H D I h;refine wpAny_For (cM (hi pins s σ H _ I h) fun v s1 h1=>cM h1 fun itv s2 h2=>?_) hs;obtain⟨it,fp,tn,J,H2,e,I2,T,st2,f2,W,⟨m0,w0⟩,turn⟩:=h2;subst e;have stat:∀ {H':Hp},(∀ b∈fp,H' b=none)->∀ b∈fp,qB X pins H' b:=fun hn b hb=>⟨hn b hb,(f2 b hb).2⟩;refine codeAny_forLoop_any (fun n s'=>∃ i σ' H',aP X pins σ' H' s'/\tn i s'.heap/\(∀ b∈fp,H' b=none)/\W i n σ' H') ?_ m0 ⟨0,σ,H2,I2,st2,fun b hb=>(f2 b hb).1,w0⟩;rintro n s3 ⟨i,σ3,H3,I3,st3,fr3,w3⟩
 rcases turn i n σ3 H3 w3 with ⟨stop,qn⟩|⟨go,N,hN,step⟩
 ·refine wpAny_passesOwn hp (cM (T.done X rfl rfl rfl hc i pins s3 σ3 H3 X.xe I3 (stat fr3) st3 stop) fun r s4 ⟨hr,I4⟩=>?_);subst hr;exact wpAny_execs_nil ⟨σ3,H3,I4,qn⟩
 ·refine wpAny_passesOwn hp (cM (T.item X rfl rfl rfl hc i pins s3 σ3 H3 X.xe I3 (stat fr3) st3 go) fun r s4 ⟨u,hr,h4⟩=>?_);subst hr;refine wpAny_passesOwn hp (cM h4 fun _ s5 ⟨x,H5,I5,r5,y5,st5,fr5⟩=>?_);have I5':=I5.pinned (stat fr5) (T.obj _ _ st5);refine wpAny_passesOwn hp (cM (hg _ s5 σ3 H5 x u _ I5' r5 (step x H5 y5)) fun _ s6 ⟨σ6,H6,I6,q6⟩=>?_);refine wpAny_passesOwn hp (cM (hb _ s6 σ6 H6 _ I6 q6) fun f s7 q7=>?_);have again:∀ {σ7:St}{H7:Hp},aP X (pins++nZ fp s5.heap) σ7 H7 s7->N σ7 H7->∃ m,m<n/\∃ i σ' H',aP X pins σ' H' s7/\tn i s7.heap/\(∀ b∈fp,H' b=none)/\W i m σ' H':=fun {σ7 H7} I7 n7=>by
   obtain⟨m',hm,w7⟩:=hN σ7 H7 n7;refine⟨m',hm,i+1,σ7,H7,I7.unpinned,T.keep _ _ _ st5 fun b hb o e=>(I7.pin (b,o) (List.mem_append_right _ (List.mem_append_right _ (iw hb e)))).1,fun b hb=>?_,w7⟩;obtain⟨o,e,d⟩:=T.obj _ _ st5 b hb;exact(I7.pin (b,o) (List.mem_append_right _ (List.mem_append_right _ (iw hb e)))).2.1
  cases f with
  | next=>obtain⟨σ7,H7,I7,n7⟩:=q7;exact again I7 n7
  | cont=>obtain⟨σ7,H7,I7,n7⟩:=q7;exact again I7 n7
  | brk=>obtain⟨σ7,H7,I7,q7⟩:=q7;exact⟨σ7,H7,I7.unpinned,q7⟩
  | ret v=>obtain⟨x7,σ7,H7,I7,r7,q7⟩:=q7;exact⟨x7,σ7,H7,I7.unpinned,r7,q7⟩
end
end L2
namespace L2
open PySem PySem.Spec PyProof.Rows
abbrev R2:=V->V->Hp->VK->Prop
def ly (X:Cx)(f:Value->Value->Sem Value)(r:R2):Prop:=
 ∀ (pins:List (Addr × Obj)) (s:Shared) (σ:St) (H:Hp) (x y:V) (v u:Value) (Q:VK),aP X pins σ H s->RelV x v->RelV y u->r x y H Q →
  wpAny (model X.prog X.w) X.A (f v u) (EP X pins σ Q) X.xe s
def O2 (X:Cx)(f:Value->Sem Value)(r:V->Hp->VK->Prop):Prop:=
 ∀ (pins:List (Addr × Obj)) (s:Shared) (σ:St) (H:Hp) (x:V) (v:Value) (Q:VK),aP X pins σ H s->RelV x v->r x H Q →
  wpAny (model X.prog X.w) X.A (f v) (EP X pins σ Q) X.xe s
def fk (X:Cx)(f:Value)(r:List V->Hp->VK->Prop):Prop:=
 ∀ (pins:List (Addr × Obj)) (s:Shared) (σ:St) (H:Hp) (xs:List V) (us:List Value) (Q:VK),aP X pins σ H s->aQ xs us->r xs H Q →
  wpAny (model X.prog X.w) X.A (call f us) (EP X pins σ Q) X.xe s
def Om (r:R2)(ta tb:TE):TE:=fun σ H Q=>ta σ H fun x H1=>tb σ H1 fun y H2=>r x y H2 Q
def QG (r:V->Hp->VK->Prop)(ta:TE):TE:=fun σ H Q=>ta σ H fun x H1=>r x H1 Q
def rI (C:Int->Int->Prop)(g:Int->Int->V):R2:=fun x y H Q=>∃ i j,x=.int i/\y=.int j/\C i j/\Q (g i j) H
def HV (g:Int->Int->V):R2:=fun x y H Q=>∃ i j,x=.int i/\y=.int j/\Q (g i j) H
def rU (g:Int->V):V->Hp->VK->Prop:=fun x H Q=>∃ i,x=.int i/\Q (g i) H
section
variable {X:Cx}{a b c:Expr}{ta tb tc:TE}{pos:Pos}
theorem JX (ha:PE X a ta)(hb:PE X b tb){pins:List (Addr × Obj)}{s:Shared}{σ:St}{H:Hp}{R:V->V->Hp->Prop}(I:aP X pins σ H s)
  (h:ta σ H fun x H1=>tb σ H1 fun y H2=>R x y H2) {Q:Value->Shared->Prop}{f:Value->Value->Sem Value}
  (hf:∀ v u s2 x y H2,aP X pins σ H2 s2->RelV x v->RelV y u->R x y H2->wpAny (model X.prog X.w) X.A (f v u) Q X.xe s2) :
  wpAny (model X.prog X.w) X.A (eval a X.env) (fun v s₁=>wpAny (model X.prog X.w) X.A (eval b X.env) (fun u s₂=>wpAny (model X.prog X.w) X.A (f v u) Q X.xe s₂) X.xe s₁) X.xe s:=by
 refine cM (ha pins s σ H _ I h) fun v s1 ⟨x,H1,I1,r1,q1⟩=>?_;refine cM (hb pins s1 σ H1 _ I1 q1) fun u s2 ⟨y,H2,I2,r2,q2⟩=>?_;exact hf v u s2 x y H2 I2 r1 r2 q2
theorem nY {op:Operator}{r:R2}(ho:ly X (binaryOp op) r)(ha:PE X a ta)(hb:PE X b tb):PE X (.BinOp a op b pos) (Om r ta tb):=by
 intro pins s σ H Q I h;exact wpAny_BinOp (JX ha hb I h fun v u s2 x y H2 I2 rx ry q=>ho pins s2 σ H2 x y v u Q I2 rx ry q)
theorem N3 {op:UnaryOp}{r:V->Hp->VK->Prop}(ho:O2 X (unaryOp op) r)(ha:PE X a ta):PE X (.UnaryOp op a pos) (QG r ta):=by
 intro pins s σ H Q I h;exact UnaryOp_ (cM (ha pins s σ H _ I h) fun v s1 ⟨x,H1,I1,r1,q1⟩=>ho pins s1 σ H1 x v Q I1 r1 q1)
theorem OQ {f:Value->Value->Sem Value}{C:Int->Int->Prop}{g:Int->Int->Int}
  (rule:∀ (i j:Int) (t u:Tok) (s:Shared) (Q:Value->Shared->Prop) (E:Value->Shared->Prop),C i j->Q (.int (g i j) s.toks) {s with toks:=s.toks+1}->wpAny (model X.prog X.w) X.A (f (.int i t) (.int j u)) Q E s) :
  ly X f (rI C fun i j=>.int (g i j)):=by
 intro pins s σ H x y v u Q I rx ry h;obtain⟨i,j,rfl,rfl,hc,q⟩:=h;obtain⟨t,rfl⟩:=rx;obtain⟨t',rfl⟩:=ry;exact rule i j t t' s _ _ hc ⟨.int (g i j),H,I.tok _,⟨_,rfl⟩,q⟩
theorem NT {f:Value->Value->Sem Value}{g:Int->Int->Int}
  (rule:∀ (i j:Int) (t u:Tok) (s:Shared) (Q:Value->Shared->Prop) (E:Value->Shared->Prop),Q (.int (g i j) s.toks) {s with toks:=s.toks+1}->wpAny (model X.prog X.w) X.A (f (.int i t) (.int j u)) Q E s) :
  ly X f (HV fun i j=>.int (g i j)):=by
 intro pins s σ H x y v u Q I rx ry h;obtain⟨i,j,rfl,rfl,q⟩:=h;obtain⟨t,rfl⟩:=rx;obtain⟨t',rfl⟩:=ry;exact rule i j t t' s _ _ ⟨.int (g i j),H,I.tok _,⟨_,rfl⟩,q⟩
theorem Hj {f:Value->Value->Sem Value}{g:Int->Int->Bool}
  (rule:∀ (i j:Int) (t u:Tok) (s:Shared) (Q:Value->Shared->Prop) (E:Value->Shared->Prop),Q (.bool (g i j)) s->wpAny (model X.prog X.w) X.A (f (.int i t) (.int j u)) Q E s) :
  ly X f (HV fun i j=>.bl (g i j)):=by
 intro pins s σ H x y v u Q I rx ry h;obtain⟨i,j,rfl,rfl,q⟩:=h;obtain⟨t,rfl⟩:=rx;obtain⟨t',rfl⟩:=ry;exact rule i j t t' s _ _ ⟨.bl (g i j),H,I,rfl,q⟩
def Mr (i j:Int):Prop:=0<=j/\j<=1000000/\i.natAbs<2 ^ 64
def FA (i j:Int):Prop:=(-(2 ^ 64)<i/\i<2 ^ 64)\/(-(2 ^ 64)<j/\j<2 ^ 64)
theorem FA.ok {i j:Int}(h:FA i j):IntMulOk i j:=by
 rcases h with ⟨h1,h2⟩|⟨h1,h2⟩
 ·exact .of_left (intBits_le_64 h1 h2)
 ·exact .of_right (intBits_le_64 h1 h2)
theorem Lc:ly X (binaryOp .Add) (HV fun i j=>.int (i+j)):=NT fun _ _ _ _ _ _ _ q=>add_int q
theorem Lh:ly X (binaryOp .Sub) (HV fun i j=>.int (i-j)):=NT fun _ _ _ _ _ _ _ q=>sub_int q
theorem Hl:ly X (binaryOp .Mod) (rI (fun _ j=>j≠0) fun i j=>.int (i.fmod j)):=OQ fun _ _ _ _ _ _ _ hc q=>mod_int' hc q
theorem Lg:ly X (binaryOp .Pow) (rI Mr fun i j=>.int (i ^ j.toNat)):=OQ fun _ _ _ _ _ _ _ hc q=>pow_int_small hc.1 hc.2.1 hc.2.2 q
theorem QH {f:Value->Sem Value}{g:Int->Int}
  (rule:∀ (i:Int) (t:Tok) (s:Shared) (Q:Value->Shared->Prop) (E:Value->Shared->Prop),Q (.int (g i) s.toks) {s with toks:=s.toks+1}->wpAny (model X.prog X.w) X.A (f (.int i t)) Q E s) :
  O2 X f (rU fun i=>.int (g i)):=by
 intro pins s σ H x v Q I rx h;obtain⟨i,rfl,q⟩:=h;obtain⟨t,rfl⟩:=rx;exact rule i t s _ _ ⟨.int (g i),H,I.tok _,⟨_,rfl⟩,q⟩
theorem Ma:O2 X (unaryOp .USub) (rU fun i=>.int (-i)):=QH fun _ _ _ _ _ q=>neg_int q
end
section
variable {X:Cx}{a b c:Expr}{ta tb tc:TE}{pos:Pos}
theorem IQ:ly X (compareOp .Lt) (HV fun i j=>.bl (decide (i<j))):=Hj fun _ _ _ _ _ _ _ q=>lt_int q
theorem NV:ly X (compareOp .LtE) (HV fun i j=>.bl (decide (i<=j))):=Hj fun _ _ _ _ _ _ _ q=>le_int q
theorem NU:ly X (compareOp .Gt) (HV fun i j=>.bl (decide (j<i))):=Hj fun _ _ _ _ _ _ _ q=>gt_int q
theorem IP:ly X (compareOp .GtE) (HV fun i j=>.bl (decide (j<=i))):=Hj fun _ _ _ _ _ _ _ q=>ge_int q
theorem ly.or {f:Value->Value->Sem Value}{r r':R2}(h:ly X f r)(h':ly X f r'):ly X f (fun x y H Q=>r x y H Q\/r' x y H Q):=by
 intro pins s σ H x y v u Q I rx ry q
 rcases q with q|q
 ·exact h pins s σ H x y v u Q I rx ry q
 ·exact h' pins s σ H x y v u Q I rx ry q
theorem iy (b:Expr){op:CmpOp}(h:op≠.In:=by decide)(h2:op≠.NotIn:=by decide):behindInMarks op b=false:=by
 have e1:(op == CmpOp.In)=false:=by cases op <;> first|rfl|exact absurd rfl h
 have e2:(op == CmpOp.NotIn)=false:=by cases op <;> first|rfl|exact absurd rfl h2
 cases b <;> simp[behindInMarks,e1,e2]
theorem mJ {op:CmpOp}{r:R2}(ho:ly X (compareOp op) r)(ha:PE X a ta)(hb:PE X b tb)(hm:behindInMarks op b=false):PE X (.Compare a [op] [b] pos) (Om r ta tb):=by
 intro pins s σ H Q I h;exact wpAny_Compare1 (JX ha hb I h fun v u s2 x y H2 I2 rx ry q=>ho pins s2 σ H2 x y v u Q I2 rx ry q) hm
def Oo (t:TE):TT:=fun σ H Q=>t σ H fun x H'=>∃ k,x=.bl k/\Q k H'
theorem HC {op:CmpOp}{r:R2}(ho:ly X (compareOp op) r)(ha:PE X a ta)(hb:PE X b tb)(hm:behindInMarks op b=false):PT X (.Compare a [op] [b] pos) (Oo (Om r ta tb)):=by
 intro pins s σ H Q I h;refine wpAny_isTrue_Compare1 (cM (ha pins s σ H _ I h) fun v s1 ⟨x,H1,I1,r1,q1⟩=>cM (hb pins s1 σ H1 _ I1 q1) fun u s2 ⟨y,H2,I2,r2,q2⟩=>
  cM (ho pins s2 σ H2 x y v u _ I2 r1 r2 q2) fun c s3 ⟨z,H3,I3,r3,k,e,q3⟩=>?_) hm
 subst e
 cases r3
 exact wpAny_truthy_bool ⟨H3,I3,q3⟩
theorem sC:(sizeLine:Nat)<2 ^ 63:=by rw[sizeLine_eq];decide
theorem vals1 {x:V}{us:List Value}(r:aQ [x] us):∃ u,us=[u]/\RelV x u:=by
 cases r with
 | cons r1 r2=>cases r2;exact⟨_,rfl,r1⟩
theorem vals2 {x y:V}{us:List Value}(r:aQ [x,y] us):∃ u w',us=[u,w']/\RelV x u/\RelV y w':=by
 cases r with
 | cons r1 r2=>
  cases r2 with
  | cons r3 r4=>cases r4;exact⟨_,_,rfl,r1,r3⟩
theorem BE:fk X (.builtin "abs") (fun xs H Q=>∃ i,xs=[.int i]/\Q (.int (if i<0 then -i else i)) H):=by
 intro pins s σ H xs us Q I r h;obtain⟨i,rfl,q⟩:=h;obtain⟨u,rfl,t,rfl⟩:=vals1 r;exact call_abs_int fun u tk=>⟨.int (if i<0 then -i else i),H,I.tok _,⟨_,rfl⟩,q⟩
theorem zE (hc:X.calm=true):fk X (.builtin "max") (fun xs H Q=>∃ i j,xs=[.int i,.int j]/\Q (.int (if j>i then j else i)) H):=by
 intro pins s σ H xs us Q I r h;obtain⟨i,j,rfl,q⟩:=h;obtain⟨u,w',rfl,⟨t,rfl⟩,⟨t',rfl⟩⟩:=vals2 r;refine max_two_ints (I.ok.hd hc) fun h' tk k=>⟨_,H,I.kept k,?_,q⟩
 by_cases hj:j>i
 ·rw[if_pos hj,if_pos hj];exact⟨_,rfl⟩
 ·rw[if_neg hj,if_neg hj];exact⟨_,rfl⟩
theorem zF (hc:X.calm=true):fk X (.builtin "min") (fun xs H Q=>∃ i j,xs=[.int i,.int j]/\Q (.int (if j<i then j else i)) H):=by
 intro pins s σ H xs us Q I r h;obtain⟨i,j,rfl,q⟩:=h;obtain⟨u,w',rfl,⟨t,rfl⟩,⟨t',rfl⟩⟩:=vals2 r;refine min_two_ints (I.ok.hd hc) fun h' tk k=>⟨_,H,I.kept k,?_,q⟩
 by_cases hj:j<i
 ·rw[if_pos hj,if_pos hj];exact⟨_,rfl⟩
 ·rw[if_neg hj,if_neg hj];exact⟨_,rfl⟩
end
end L2
namespace L2
open PySem PySem.Spec PyProof.Rows
structure Mt (h:Heap) (x dx C:Addr) (mA:Str->Option Value):Prop where
 obj:h.get? x=some (PySem.W.instObj C dx)
 ns:h.Ns1 dx mA
 ne:dx≠x
theorem Ah {h:Heap}{dx:Addr}{mA:Str->Option Value}(n:h.Ns1 dx mA):∃ od,h.get? dx=some od/\∀ name,PySem.W.lookIn name od=some (mA name):=by
 obtain⟨o,es,ep,ho,hd,hk,_,hm⟩:=n;refine⟨o,ho,fun name=>?_⟩;have e:=hm name;unfold nsFind findBy at e;rw[<-Array.find?_toList]at e;unfold PySem.W.lookIn;rw[hd];dsimp only
 split
 ·rename_i y q;rw[q]at e;exact congrArg some e
 ·rename_i q;rw[q]at e;have a:es.toList.any (·.refKey)=false:=by
   rw[List.any_eq_false];intro y hy;obtain⟨z,t,hkey⟩:=hk y (Array.mem_toList_iff.mp hy);simp[DictEntry.refKey,hkey]
  have a':¬ es.toList.any (·.refKey)=true:=by rw[a];exact Bool.false_ne_true
  rw[if_neg a'];exact congrArg some e
theorem Mt.look {h:Heap}{x dx C:Addr}{mA:Str->Option Value}(I:Mt h x dx C mA):∃ od,PySem.W.InstAt h x (PySem.W.instObj C dx) C (some od)/\∀ name,PySem.W.lookIn name od=some (mA name):=
 let ⟨od,ho,hl⟩:=Ah I.ns
 ⟨od,⟨I.obj,rfl,rfl,ho⟩,hl⟩
section
variable {prog:Program}{w:World}{A:Around}{E:Value->Shared->Prop}{s:Shared}{K:PySem.W.Frag}{x dx C f:Addr}{mA:Str->Option Value}{name:Str}{v:Value}
end
section
variable {P:Program}{w:World}{H H':Hp}{h h':Heap}{a C dx:Addr}{fs fs':List (Str × V)}
end
structure OV (K:PySem.W.Frag) (C:Addr):Prop where
 pg:PySem.W.plainGet K C Str.empty=true
 hd:PySem.W.hasDictIn K C=true
 po:PySem.W.plainOver K C=true
 sa:PySem.W.findIn K (.ref C) "__setattr__"=some (some (.builtin "object.__setattr__"))
theorem OV.get {K:PySem.W.Frag}{C:Addr}(c:OV K C)(f:Str):PySem.W.plainGet K C f=true:=c.pg
structure QJ (K:PySem.W.Frag) (C:Addr) (f:Str) (v:V) (u:Value):Prop where
 at_:PySem.W.findIn K (.ref C) f=some (some u)
 rel:RelV v u
 get:PySem.W.specialIn K u "__get__"=some none
 cp:PySem.W.copiedNames.contains f=false
structure Qp (K:PySem.W.Frag) (C:Addr) (m:Str) (f:Addr):Prop where
 at_:PySem.W.findIn K (.ref C) m=some (some (.ref f))
 fn:PySem.W.isFn K (.ref f)=true
 kp:PySem.W.keepIn K (.ref f)=true
section
variable {X:Cx}{pins:List (Addr × Obj)}{σ:St}{H:Hp}{s:Shared}{a C dx:Addr}{fs:List (Str × V)}{f:Str}{v:V}{A:Around}{E:Value->Shared->Prop}
theorem aP.made (I:aP X pins σ H s):aP X pins σ (dy (dy H s.heap.objs.size (.own (s.heap.objs.size+1))) (s.heap.objs.size+1) (.ins C s.heap.objs.size []))
  {s with heap:=(s.heap.push PySem.W.emptyDict).push (PySem.W.instObj C s.heap.objs.size)}:=by
 have e1:(s.heap.push PySem.W.emptyDict).get? s.heap.objs.size=some PySem.W.emptyDict:=Heap.get?_push_size s.heap rfl;have e2:((s.heap.push PySem.W.emptyDict).push (PySem.W.instObj C s.heap.objs.size)).get? (s.heap.objs.size+1)=some (PySem.W.instObj C s.heap.objs.size):=by
  have:=Heap.get?_push_size (s.heap.push PySem.W.emptyDict) (o:=PySem.W.instObj C s.heap.objs.size) rfl
  rwa [Heap.size_push]at this
 have e3:(s.heap.push PySem.W.emptyDict).Ns s.heap.objs.size (fun _=>none):=⟨PySem.W.emptyDict,#[],_,e1,rfl,(fun e he=>absurd he (by simp)),fun _=>rfl⟩
 have I1:=I.laid (a:=s.heap.objs.size) (o:=.own (s.heap.objs.size+1)) (h':=s.heap.push PySem.W.emptyDict) (t':=s.toks) (fun b u q=>Heap.get?_push_of_some _ q) (Nat.le_refl _) ⟨_,e1⟩;refine I1.laid (a:=s.heap.objs.size+1) (o:=.ins C s.heap.objs.size []) (t':=s.toks) (fun b u q=>Heap.get?_push_of_some _ q) (Nat.le_of_eq (Heap.size_push _ _)) ?_;have ne:s.heap.objs.size≠s.heap.objs.size+1:=Nat.ne_of_lt (Nat.lt_succ_self _);refine⟨by rw[b8 ne,bT],Nat.zero_le _,ne,e2,fun _=>none,(Heap.Ns1.of_empty e3).at fun o q=>Heap.get?_push_of_some _ q,fun _=>True.intro,fun y hy=>absurd rfl hy⟩
end
section
variable {X:Cx}{o e value:Expr}{f:Str}{pos pos' tpos:Pos}{ta tv:TE}
end
section
variable {X:Cx}{pins:List (Addr × Obj)}{σ:St}{H:Hp}{s:Shared}{A:Around}{E:Value->Shared->Prop}{Q:Value->Shared->Prop}{c:Value}{b:Bool}
inductive mV (K:PySem.W.Frag) (H:Hp):V->Value->Prop where
 | non:mV K H .non (.type "NoneType")
 | bl (x:Bool):mV K H (.bl x) (.type "bool")
 | int (i:Int):mV K H (.int i) (.type "int")
 | str (x:Str):mV K H (.str x) (.type "str")
 | flt (x:UInt64):mV K H (.flt x) (.type "float")
 | lst {a:Addr}{xs:List V} (e:H a=some (.lst xs)):mV K H (.ref a) (.type "list")
 | frz {a:Addr}{o:Obj}{xs:List V} (e:H a=some (.frz o (.lst xs))):mV K H (.ref a) (.type "list")
 | tup {a:Addr}{xs:List V} (e:H a=some (.tup xs)):mV K H (.ref a) (.type "tuple")
 | dK {a:Addr}{kvs:List (Key × V)} (e:H a=some (.dK kvs)):mV K H (.ref a) (.type "dict")
 | dT {a:Addr}{kvs:List (List Key × V)} (e:H a=some (.dT kvs)):mV K H (.ref a) (.type "dict")
 | ins {a C dx:Addr}{fs:List (Str × V)} (e:H a=some (.ins C dx fs)) (cl:OV K C) (ha:PySem.W.findIn K (.ref C) "__class__"=some (some (.builtin "object.__class__")))
   (hn:PySem.W.specialIn K (.builtin "object.__class__") "__get__"=some (some (.builtin "getset_descriptor.__get__"))) (htk:PySem.W.takesIn K (.builtin "object.__class__")=some true)
   (hm:PySem.W.mroIn K C (.type "object")=some true):mV K H (.ref a) (.ref C)
end
end L2
namespace L2
open PySem PySem.Spec PyProof.Rows
structure cz (k:Nat) (A:Around):Prop where
 hd:A.handled=none
 dp:A.depth+3*k+5<recursionLimit
 un:A.units+16*k+200<cLine
theorem cz.mono {j k:Nat}{A:Around}(r:cz k A)(h:j<=k):cz j A:=⟨r.hd,by have:=r.dp;omega,by have:=r.un;omega⟩
theorem cz.deeper {k:Nat}{A:Around}(r:cz (k+1) A)(env:Env):cz k (A.deeper env):=
 ⟨r.hd,by have:=r.dp;show A.depth+1+3*k+5<_;omega,by have:=r.un;show A.units+3+16*k+200<_;omega⟩
theorem cz.in1 {k:Nat}{A:Around}(r:cz (k+1) A):cz k A.in1:=
 ⟨r.hd,by have:=r.dp;show A.depth+3*k+5<_;omega,by have:=r.un;show A.units+1+16*k+200<_;omega⟩
theorem cz.depth {k:Nat}{A:Around}(r:cz k A):A.depth<recursionLimit:=by have:=r.dp;omega
theorem cz.units {k:Nat}{A:Around}(r:cz k A):A.units+64<cLine:=by have:=r.un;omega
def PU:TA:=fun _ H Q=>Q [] H
def Oh (ta:TE)(tr:TA):TA:=fun σ H Q=>ta σ H fun x H1=>tr σ H1 fun xs H2=>Q (x::xs) H2
section
variable {X:Cx}{e:Expr}{es:List Expr}{te:TE}{t:TA}{pos:Pos}
theorem sN:PA X [] PU:=fun _ _ _ _ H Q I h=>Calls.spliced_nil ⟨[],H,I,.nil,h⟩
theorem kK (ha:PE X e te)(hr:PA X es t)(hs:starEach (e::es) X.env=(false,eval e X.env)::starEach es X.env:=by rfl):PA X (e::es) (Oh te t):=by
 intro pos pins s σ H Q I h;rw[hs];show wpAny _ _ (spliced ((false,eval e X.env)::backTo pos (starEach es X.env))) _ _ s;refine Calls.spliced_cons (cM (ha pins s σ H _ I h) fun u s1 ⟨x,H1,I1,r1,q1⟩=>?_);exact cM (hr pos pins s1 σ H1 _ I1 q1) fun us s2 ⟨xs,H2,I2,r2,q2⟩=>⟨x::xs,H2,I2,.cons r1 r2,q2⟩
def P1 (t:TA):TE:=fun σ H Q=>t σ H fun xs H1=>xs.length<=sizeLine/\∀ p,H1 p=none->Q (.ref p) (dy H1 p (.tup xs))
def PR (t:TA):TE:=fun σ H Q=>t σ H fun xs H1=>xs.length<=sizeLine/\∀ p,H1 p=none->Q (.ref p) (dy H1 p (.lst xs))
theorem Lu {x1}(h:PA X es t):PE X (.Tuple es x1 pos) (P1 t):=by
 intro pins s σ H Q I hq;refine wpAny_Tuple_spliced (cM (h pos pins s σ H _ I hq) fun us s1 ⟨xs,H1,I1,r,z,q⟩=>⟨by rw[<-r.length];exact z,?_⟩)
 have hf:H1 s1.heap.objs.size=none:=I1.hok.fresh (Nat.le_refl _);refine⟨.ref s1.heap.objs.size,dy H1 s1.heap.objs.size (.tup xs),I1.laid (t':=s1.toks) (fun b u e=>Heap.get?_push_of_some _ e) (Nat.le_refl _) ?_,rfl,q _ hf⟩;exact⟨z,us,r,⟨_,Heap.get?_push_size _ rfl,rfl,_,rfl⟩⟩
theorem Lq (h:PA X es t):PE X (.List es pos) (PR t):=by
 intro pins s σ H Q I hq;refine wpAny_List_spliced (cM (h pos pins s σ H _ I hq) fun us s1 ⟨xs,H1,I1,r,z,q⟩=>⟨by rw[<-r.length];exact z,?_⟩)
 have hf:H1 s1.heap.objs.size=none:=I1.hok.fresh (Nat.le_refl _);refine⟨.ref s1.heap.objs.size,dy H1 s1.heap.objs.size (.lst xs),I1.laid (t':=s1.toks) (fun b u e=>Heap.get?_push_of_some _ e) (Nat.le_refl _) ?_,rfl,q _ hf⟩;exact⟨z,us,0,r,Heap.get?_push_size _ rfl⟩
end
abbrev Sp:=List V->Hp->VK->XK->Prop
abbrev xy:=List Env->Hp->Shared->XK->Value->Shared->Prop
structure vq (P:Program) (w:World) (K:PySem.W.Frag) (mg:Str->Option Value) (base:Heap) (A:Around) (outer:List Env) (s:Shared) (H:Hp):Prop where
 frames:A.frames=some outer
 mod:Mod K mg base
 bs:∀ b o,base.get? b=some o->s.heap.get? b=some o/\H b=none
 bsz:base.objs.size<=s.heap.objs.size
 funs:s.heap.FunFrames base outer
 frf:∀ b∈vn outer,H b=none
 hok:g7 P w H s.heap
 bare:AllBare s.gens
def CE (outer:List Env)(P:Program)(w:World)(H:Hp)(s:Shared)(Q:VK)(u:Value)(s':Shared):Prop:=
 ∃ v H',s'.os=s.os/\AllBare s'.gens/\Un (vn outer) [] H H' s.heap s'.heap/\g7 P w H' s'.heap/\RelV v u/\Q v H'
def CR (CX:xy)(outer:List Env)(P:Program)(w:World)(H:Hp)(s:Shared)(Q:VK)(E:XK)(r:Result)(s':Shared):Prop:=
 match r with
 | .ok (.ret u)=>CE outer P w H s Q u s'
 | .ok _=>False
 | .error e=>CX outer H s E e s'
structure iL (P:Program) (w:World) (K:PySem.W.Frag) (mg:Str->Option Value) (base:Heap) (CX:xy) (k:Nat) (f:Addr) (fd:FuncData) (ps:List Str) (sp:Sp):Prop where
 len:∀ vs H Q E,sp vs H Q E->vs.length=ps.length
 run:∀ (A:Around) (outer:List Env) (s:Shared) (H:Hp) (args:Args) (us:List Value) (vs:List V) (Q:VK) (E:XK),cz k A->vq P w K mg base A outer s H->BindsTo s fd args (ps.zip us)->aQ vs us->sp vs H Q E →
  codeAny (model P w) A (.call (.ref f) args) (CR CX outer P w H s Q E) s
theorem iL.mono {P:Program}{w:World}{K:PySem.W.Frag}{mg:Str->Option Value}{base:Heap}{CX:xy}{j k:Nat}{f:Addr}{fd:FuncData}{ps:List Str}{sp:Sp}(F:iL P w K mg base CX j f fd ps sp)(h:j<=k) :
  iL P w K mg base CX k f fd ps sp:=⟨F.len,fun A outer s H args us vs Q E hr=>F.run A outer s H args us vs Q E (hr.mono h)⟩
theorem iL.imp {P:Program}{w:World}{K:PySem.W.Frag}{mg:Str->Option Value}{base:Heap}{CX:xy}{k:Nat}{f:Addr}{fd:FuncData}{ps:List Str}{sp sp':Sp}(F:iL P w K mg base CX k f fd ps sp)
  (h:∀ vs H Q E,sp' vs H Q E->sp vs H Q E):iL P w K mg base CX k f fd ps sp':=
 ⟨fun vs H Q E q=>F.len vs H Q E (h _ _ _ _ q),fun A outer s H args us vs Q E hr he hb hv hs=>F.run A outer s H args us vs Q E hr he hb hv (h _ _ _ _ hs)⟩
theorem vq.in1 {P:Program}{w:World}{K:PySem.W.Frag}{mg:Str->Option Value}{base:Heap}{A:Around}{outer:List Env}{s:Shared}{H:Hp}(e:vq P w K mg base A outer s H) :
  vq P w K mg base A.in1 outer s H:=⟨e.frames,e.mod,e.bs,e.bsz,e.funs,e.frf,e.hok,e.bare⟩
section
variable {X:Cx}{pins:List (Addr × Obj)}{σ:St}{H:Hp}{s s':Shared}
theorem aP.env0 (I:aP X pins σ H s):vq X.prog X.w X.K X.mg X.base X.A X.stack s H:=
 ⟨I.ok.frames,I.ok.mod,I.bs,Nat.le_trans I.ok.bsz I.sz,I.stack,I.stkFree,I.hok,I.bare⟩
theorem aP.after {Q:VK}{u:Value}(I:aP X pins σ H s)(h:CE X.stack X.prog X.w H s Q u s'):EP X pins σ Q u s':=by
 obtain⟨v,H',os,bare,un,hok,r,q⟩:=h;obtain⟨hh,g,d,t,os'⟩:=s';obtain rfl:os'=s.os:=os;exact⟨v,H',I.call (h':=hh) (g':=g) (d':=d) (t':=t) (ch:=[]) un hok bare (fun b z=>absurd z (by simp)),r,q⟩
end
def IW (sp:Sp)(dvs:List V)(E:XK)(t:TA):TE:=fun σ H Q=>t σ H fun vs H1=>sp (vs++dvs) H1 Q E
def Binds (K:PySem.W.Frag)(fd:FuncData)(ps:List Str)(ds:List Value):Prop:=
 ∀ (s:Shared) (us:List Value),K.In s.heap->(us++ds).length=ps.length->BindsTo s fd ⟨us,[]⟩ (ps.zip (us++ds))
theorem Binds.all {K:PySem.W.Frag}{fd:FuncData}{ps:List Str}(h:∀ us:List Value,us.length=ps.length->bindArgs fd ⟨us,[]⟩=pure (ps.zip us)):Binds K fd ps []:=fun s us _ hl=>by
 rw[List.append_nil]at hl ⊢;exact .of_eq (h us hl)
def vz (CX:xy)(X:Cx)(E:XK):Prop:=∀ (pins:List (Addr × Obj)) (σ:St) (H:Hp) (s:Shared) (e:Value) (s':Shared),aP X pins σ H s->CX X.stack H s E e s'->X.xe e s'
section
variable {X:Cx}{CX:xy}{k:Nat}{f C:Addr}{fd:FuncData}{ps:List Str}{sp:Sp}{dvs:List V}{ds:List Value}{E:XK}{x m:Str}{p pos apos:Pos}{e o:Expr}{es:List Expr}{ta:TE}{t:TA}
theorem LP {pins:List (Addr × Obj)}{σ:St}{H:Hp}{s:Shared}{Q:VK}{us:List Value}{vs:List V}(F:iL X.prog X.w X.K X.mg X.base CX k f fd ps sp)(hr:cz k X.A)(hb:Binds X.K fd ps ds)(hd:aQ dvs ds)(hx:vz CX X E)
  (I:aP X pins σ H s) (r:aQ vs us) (h:sp (vs++dvs) H Q E):wpAny (model X.prog X.w) X.A (call (.ref f) us) (EP X pins σ Q) X.xe s:=by
 have r2:aQ (vs++dvs) (us++ds):=r.append hd;have hl:(us++ds).length=ps.length:=by rw[<-r2.length];exact F.len _ _ _ _ h
 refine wpAny_call (codeAny_mono (F.run X.A X.stack s H ⟨us,[]⟩ (us++ds) (vs++dvs) Q E hr I.env0 (hb s us I.kIn hl) r2 h) fun r s' hq=>?_)
 cases r with
 | error e=>exact hx pins σ H s e s' I hq
 | ok fl=>
  cases fl with
  | ret u=>exact I.after hq
  | next=>exact False.elim hq
  | brk=>exact False.elim hq
  | cont=>exact False.elim hq
theorem Hq (F:iL X.prog X.w X.K X.mg X.base CX k f fd ps sp)(hr:cz k X.A)(hg:Gl X x)(hm:X.mg x=some (.ref f))(hk:PySem.W.keepIn X.K (.ref f)=true)(hb:Binds X.K fd ps ds)(hd:aQ dvs ds)(hx:vz CX X E)
  (ha:PA X (e::es) t) (hdb:(x == ("__debug__":Str))=false:=by decide) (he:starEach (e::es) X.env=(false,eval e X.env)::starEach es X.env:=by rfl) (hpl:(backTo pos (starEach es X.env)).any (·.1)=false:=by rfl) :
  PE X (.Call (.Name x p) (e::es) [] pos) (IW sp dvs E t):=by
 intro pins s σ H Q I h;refine wpAny_Call_Name_kw (GP I hg hm ?_ hdb);refine PySem.W.callWith_K (h₀:=X.base) I.ok.mod.kin hk (cM (ha pos pins s σ H _ I h) fun us s1 ⟨vs,H1,I1,r,q⟩=>⟨I1.kIn,?_⟩) he hpl;exact LP F hr hb hd hx I1 r q
structure Mk (K:PySem.W.Frag) (C f:Addr):Prop where
 makes:PySem.W.makesIn K C=true
 init:PySem.W.findIn K (.ref C) "__init__"=some (some (.ref f))
 fn:PySem.W.isFn K (.ref f)=true
 kp:PySem.W.keepIn K (.ref C)=true
end
section
variable {X:Cx}{CX:xy}{k:Nat}{f C:Addr}{fd:FuncData}{ps ks:List Str}{sp:Sp}{E:XK}{x m:Str}{p pos apos kpos:Pos}{e o:Expr}{es:List Expr}{kws:List Keyword}{te ta:TE}{t tk:TA}{nm:Option Str}
structure OZ (K:PySem.W.Frag) (fd:FuncData) (ps ks:List Str) (g:List Value->List Value->List Value) (gV:List V->List V->List V):Prop where
 to:∀ (s:Shared) (us ws:List Value),K.In s.heap->(g us ws).length=ps.length->BindsTo s fd ⟨us,ks.zip ws⟩ (ps.zip (g us ws))
 rel:∀ {vs:List V}{us:List Value}{zs:List V}{ws:List Value},aQ vs us->aQ zs ws->aQ (gV vs zs) (g us ws)
variable {g:List Value->List Value->List Value}{gV:List V->List V->List V}
end
structure aA (N P:List Str) (sc:Scope):Prop where
 kind:sc.kind=.function
 co:sc.isCoroutine=false
 gen:sc.isGenerator=false
 nd:N.Nodup
 pre:N.take P.length=P
 par:∀ x∈P,sc.names.lookup x=some .local\/sc.names.lookup x=some .cell
 nofree:∀ y∈sc.names,y.2≠.free
theorem pP {kindOf:Str->Option NameKind}{x:Str}:∀ {binds:List (Str × Value)}{m:Str->Option Value},(∀ v,(x,v)∉binds)->bindL kindOf binds m x=m x
 | [],_,_=>rfl
 | (n,v)::r,m,h=>by
  unfold bindL;rw[pP fun w hw=>h w (List.mem_cons_of_mem _ hw)]
  split
  ·have:x≠n:=by rintro rfl;exact h v List.mem_cons_self
   simp[this]
  ·rfl
theorem pN {kindOf:Str->Option NameKind}{x:Str}:∀ {binds:List (Str × Value)}{m:Str->Option Value},(∀ v,(x,v)∉binds)->bindC kindOf binds m x=m x
 | [],_,_=>rfl
 | (n,v)::r,m,h=>by
  unfold bindC;rw[pN fun w hw=>h w (List.mem_cons_of_mem _ hw)]
  split
  ·rfl
  ·have:x≠n:=by rintro rfl;exact h v List.mem_cons_self
   simp[this]
theorem pO {kindOf:Str->Option NameKind}{x:Str}{v:Value}:∀ {P:List Str}{vs:List Value}{i:Nat}{m:Str->Option Value},P.Nodup->P[i]?=some x->vs[i]?=some v->kindOf x=some .local →
  bindL kindOf (P.zip vs) m x=some v
 | [],_,_,_,_,h,_,_=>by simp at h
 | _::_,[],_,_,_,_,h,_=>by simp at h
 | p::P,w::vs,0,m,nd,h1,h2,hk=>by
  simp at h1 h2;subst h1;subst h2;show bindL kindOf ((p,w)::P.zip vs) m p=_;unfold bindL;rw[pP fun v hv=>(List.nodup_cons.mp nd).1 (List.of_mem_zip hv).1,if_pos hk];simp
 | p::P,w::vs,i+1,m,nd,h1,h2,hk=>by
  show bindL kindOf ((p,w)::P.zip vs) m x=_;unfold bindL;exact pO (i:=i) (List.nodup_cons.mp nd).2 (by simpa using h1) (by simpa using h2) hk
theorem pM {kindOf:Str->Option NameKind}{x:Str}{v:Value}:∀ {P:List Str}{vs:List Value}{i:Nat}{m:Str->Option Value},P.Nodup->P[i]?=some x->vs[i]?=some v->kindOf x≠some .local →
  bindC kindOf (P.zip vs) m x=some v
 | [],_,_,_,_,h,_,_=>by simp at h
 | _::_,[],_,_,_,_,h,_=>by simp at h
 | p::P,w::vs,0,m,nd,h1,h2,hk=>by
  simp at h1 h2;subst h1;subst h2;show bindC kindOf ((p,w)::P.zip vs) m p=_;unfold bindC;rw[pN fun v hv=>(List.nodup_cons.mp nd).1 (List.of_mem_zip hv).1,if_neg hk];simp
 | p::P,w::vs,i+1,m,nd,h1,h2,hk=>by
  show bindC kindOf ((p,w)::P.zip vs) m x=_;unfold bindC;exact pM (i:=i) (List.nodup_cons.mp nd).2 (by simpa using h1) (by simpa using h2) hk
def start (N:List Str)(vs:List V):St:=vs.map some++List.replicate (N.length-vs.length) none
def qU (CX:xy)(P:Program)(w:World)(K:PySem.W.Frag)(mg:Str->Option Value)(base:Heap)(N:List Str)(qual:Str)(scope:Scope)(f:Addr)(cd:Value)(A:Around)(outer:List Env)(s:Shared)(H:Hp)(E:XK):Cx where
 prog:=P
 w:=w
 K:=K
 mg:=mg
 base:=base
 A:=A.deeper (envOfC qual scope s.heap.objs.size f cd)
 N:=N
 s₀:=s
 H₀:=H
 env:=envOfC qual scope s.heap.objs.size f cd
 outer:=outer
 stack:=envOfC qual scope s.heap.objs.size f cd::outer
 ex:=[]
 calm:=true
 fn:=fun _=>true
 pn:=[]
 xe:=fun e s'=>wpAny (model P w) (A.deeper (envOfC qual scope s.heap.objs.size f cd)) (leaving (envOfC qual scope s.heap.objs.size f cd) e) (fun _ s''=>CX outer H s E e s'') (fun e' s''=>CX outer H s E e' s'') s'
theorem tQ {sc:Scope}{n:Nat}{x:Str}(h:sc.names.lookup x=some .cell):∃ c,(cellsFrom n sc.names []).lookup x=some c:=by
 have q:=PySem.W.cellsFrom_some sc.names n [] (.inl h);exact Option.isSome_iff_exists.mp q
theorem z7 {CX:xy}{P:Program}{w:World}{K:PySem.W.Frag}{mg:Str->Option Value}{base:Heap}{N ps:List Str}{qual:Str}{scope:Scope}{f:Addr}{cd:Value}{A:Around}{outer:List Env}{s s1:Shared}{H:Hp}{E:XK}{us:List Value}{vs:List V}
  (S:aA N ps scope) (hd:A.handled=none) (e0:vq P w K mg base A outer s H) (hl:vs.length=ps.length) (r:aQ vs us)
  (x:InCallC s s.heap.objs.size (bindL (envOfC qual scope s.heap.objs.size f cd).kindOf (ps.zip us) fun _=>none) (cellsFrom (s.heap.objs.size+1) scope.names []) (bindC (envOfC qual scope s.heap.objs.size f cd).kindOf (ps.zip us) fun _=>none) s1) :
  aP (qU CX P w K mg base N qual scope f cd A outer s H E) [] (start N vs) H s1:=by
 have hpl:ps.length<=N.length:=by have:=congrArg List.length S.pre;rw[List.length_take]at this;omega
 obtain⟨h1,tk,rfl,hk⟩:=x.done;have noA:∀ b:Addr,b∉(qU CX P w K mg base N qual scope f cd A outer s H E).ex:=fun b z=>absurd (show b∈([]:List Addr) from z) (by simp)
 refine⟨⟨e0.mod,S.kind,rfl,rfl,Nat.le_refl _,fun y z c h1 h2=>?_,fun y hy=>?_,fun y c _ h=>?_,fun _=>hd,Around.frames_deeper e0.frames,.inr ⟨rfl,rfl⟩,fun b z=>absurd z (noA b),e0.bs,e0.bsz,fun b _ _=>noA b,fun b z=>absurd z (noA b),e0.funs,e0.frf⟩,
  rfl,e0.bare,Un.kept hk,⟨_,x.toInCall.ns,fun i y v h1 h2 h3=>?_⟩,fun y c h=>⟨_,x.cell y c h⟩,e0.hok.fresh (Nat.le_refl _),fun y c h=>?_,fun p hp=>absurd (show p∈([]:List (Addr × Obj)) from hp) (by simp),e0.hok.kept hk,?_⟩
 ·exact name_of_addr x.apart (PySem.mem_of_lookup h1) (PySem.mem_of_lookup h2)
 ·have hy:scope.names.lookup y=some .cell\/scope.names.lookup y=some .free:=hy
  rcases hy with hy|hy
  ·exact tQ hy
  ·exact absurd rfl (S.nofree _ (PySem.mem_of_lookup hy))
 ·exact Nat.le_of_lt (x.above y c (PySem.mem_of_lookup h))
 ·have hi:i<vs.length:=by
   unfold start at h2
   by_cases hi:i<vs.length
   ·exact hi
   ·rw[List.getElem?_append_right (by simpa using hi)]at h2
    rw[List.getElem?_replicate]at h2
    split at h2 <;> cases h2
  have ha:vs[i]?=some v:=by
   unfold start at h2;rw[List.getElem?_append_left (by simpa using hi),List.getElem?_map]at h2
   cases e:vs[i]? with
   | none=>rw[e]at h2;cases h2
   | some a=>rw[e]at h2;cases h2;rfl
  obtain⟨u,hu,rv⟩:=r.get ha;have hp:ps[i]?=some y:=by
   rw[<-S.pre,List.getElem?_take_of_lt (by omega)];exact h1
  have ndP:ps.Nodup:=by rw[<-S.pre];exact S.nd.sublist (List.take_sublist _ _)
  refine⟨u,rv,?_⟩
  rcases S.par y (List.mem_of_getElem? hp) with k|k
  ·exact .inl ⟨k,pO ndP hp hu k⟩
  ·obtain⟨c,e⟩:=tQ (n:=s.heap.objs.size+1) k;refine .inr ⟨.inl k,c,e,?_⟩;have q:=x.cell y c e;rw[pM ndP hp hu (by show scope.names.lookup y≠_;rw[k];decide)]at q
   exact q
 ·exact e0.hok.fresh (Nat.le_of_lt (x.above y c (PySem.mem_of_lookup h)))
 ·unfold start;show _=N.length;rw[List.length_append,List.length_map,List.length_replicate];omega
theorem Ny {CX:xy}{P:Program}{w:World}{K:PySem.W.Frag}{mg:Str->Option Value}{base:Heap}{k:Nat}{f:Addr}{name qual:Str}{params:Arguments}{body:List Stmt}{scope:Scope}{dV kV doc pm cdv ct oc:Value}{an od:Option Addr}
  {osl:Array (Option Value)}{N ps:List Str}{sp:Sp} (lk:K.lookup f=some ⟨oc,od,.func (PySem.W.fnOf name qual params body scope dV kV doc pm an cdv ct),osl⟩) (hcd:PySem.W.codeIn K cdv qual=true) (S:aA N ps scope)
  (len:∀ vs H Q E,sp vs H Q E->vs.length=ps.length)
  (hbody:∀ (A:Around) (outer:List Env) (s:Shared) (H:Hp) (vs:List V) (Q:VK) (E:XK),cz k (A.deeper (envOfC qual scope s.heap.objs.size f cdv))->sp vs H Q E →
   ∃ t,j8 (qU CX P w K mg base N qual scope f cdv A outer s H E) body t/\t {nx:=fun _ H'=>Q .non H',rt:=Q} (start N vs) H) :
  iL P w K mg base CX (k+1) f (PySem.W.fnOf name qual params body scope dV kV doc pm an cdv ct) ps sp:=by
 refine⟨len,fun A outer s H args us vs Q E hr e0 hb r hsp=>?_⟩;have hl:=len _ _ _ _ hsp;have KX:K.In s.heap:=e0.mod.kin.keeps fun b o e=>(e0.bs b o e).1;have lim:s.heap.NoLimit:=e0.mod.nolimit.keeps fun b o e=>(e0.bs b o e).1;have hkind:∀ y∈ps.zip us,scope.names.lookup y.1=some .local\/(scope.names.lookup y.1=some .cell/\((cellsFrom (s.heap.objs.size+1) scope.names []).lookup y.1).isSome=true):=fun ⟨n,v⟩ hy=>by
  rcases S.par n (List.of_mem_zip hy).1 with q|q
  ·exact .inl q
  ·exact .inr ⟨q,PySem.W.cellsFrom_some _ _ _ (.inl q)⟩
 refine codeAny_call_function hr.depth (KX _ _ lk) rfl S.co S.gen rfl (PySem.W.codeRec_of KX hcd) (hb _ _ _ _ ?_);refine wpAny_newFunctionEnv_cells S.kind hkind fun env he s1 x=>?_;subst he;refine⟨lim.keeps x.toInCall.keep,codeAny_func ?_⟩;obtain⟨t,ht,hq⟩:=hbody A outer s H vs Q E (hr.deeper _) hsp;have I:aP (qU CX P w K mg base N qual scope f cdv A outer s H E) [] (start N vs) H s1:=z7 S hr.hd e0 hl r x;refine wpAny_mono (ht [] s1 (start N vs) H _ I hq) (fun fl s' hs=>?_) fun e s' hs=>hs;have fin:∀ {σ':St}{H':Hp}{v:V}{u:Value},aP (qU CX P w K mg base N qual scope f cdv A outer s H E) [] σ' H' s'->RelV v u->Q v H'->CE outer P w H s Q u s':=
  fun {σ' H' v u} J rv q=>⟨v,H',J.os,J.bare,J.base,J.hok,rv,q⟩
 cases fl with
 | ret u=>
  obtain⟨v,σ',H',J,rv,q⟩:=hs;exact fin J rv q
 | next=>
  obtain⟨σ',H',J,q⟩:=hs;exact fin (v:=V.non) (u:=Value.none) J rfl q
 | brk=>
  obtain⟨_,_,_,q⟩:=hs;exact False.elim q
 | cont=>
  obtain⟨_,_,_,q⟩:=hs;exact False.elim q
end L2
namespace L2
open PySem PySem.Spec PyProof.Rows
section
variable {X:Cx}{x:Str}{p pos:Pos}{e:Expr}{es:List Expr}{t:TA}{id T:String}{r:List V->Hp->VK->Prop}
def PN (r:List V->Hp->VK->Prop)(t:TA):TE:=fun σ H Q=>t σ H fun vs H1=>r vs H1 Q
theorem uY (hc:fk X (.builtin id) r) (hg:Gl X x) (hm:X.mg x=none) (hv:bootBuiltins x=some (.builtin id)) (ha:PA X (e::es) t) (hn:x≠"__name__":=by decide) (hdb:(x == ("__debug__":Str))=false:=by decide)
  (he:starEach (e::es) X.env=(false,eval e X.env)::starEach es X.env:=by rfl) (hpl:(backTo pos (starEach es X.env)).any (·.1)=false:=by rfl):PE X (.Call (.Name x p) (e::es) [] pos) (PN r t):=by
 intro pins s σ H Q I h;refine wpAny_Call_Name_kw (i6 I hg hm hv ?_ hn hdb);exact PyProof.Rows.callWith_builtin1 (cM (ha pos pins s σ H _ I h) fun us s1 ⟨vs,H1,I1,r1,q1⟩=>hc pins s1 σ H1 vs us Q I1 r1 q1) he hpl
theorem Ax (hc:fk X (.type T) r) (hg:Gl X x) (hm:X.mg x=none) (hv:bootBuiltins x=some (.type T)) (ha:PA X (e::es) t) (hn:x≠"__name__":=by decide) (hdb:(x == ("__debug__":Str))=false:=by decide)
  (he:starEach (e::es) X.env=(false,eval e X.env)::starEach es X.env:=by rfl) (hpl:(backTo pos (starEach es X.env)).any (·.1)=false:=by rfl):PE X (.Call (.Name x p) (e::es) [] pos) (PN r t):=by
 intro pins s σ H Q I h;refine wpAny_Call_Name_kw (i6 I hg hm hv ?_ hn hdb);exact PyProof.Rows.callWith_type1 (cM (ha pos pins s σ H _ I h) fun us s1 ⟨vs,H1,I1,r1,q1⟩=>hc pins s1 σ H1 vs us Q I1 r1 q1) he hpl
end
end L2
namespace HT
open PySem PyProof.Rows
section
open PySem.SeqAt
open PySem.AutoSeq1 (wpAny_loadPart')
open PySem.MeetsSeq PySem.MeetsSeq2 PySem.MeetsSeq3
end
section
variable {prog:Program}{w:World}{A:Around}{E:Value->Shared->Prop}{s:Shared}
def sIx (n d:Nat):Option Int->Nat
 | none=>d
 | some v=>if v<0 then (v+(n:Int)).toNat else min v.toNat n
theorem sIx_none (n d:Nat):sIx n d none=d:=rfl
theorem sIx_nat (n d k:Nat):sIx n d (some (k:Int))=min k n:=by
 show(if (k:Int)<0 then ((k:Int)+(n:Int)).toNat else min (k:Int).toNat n)=min k n
 rw[if_neg (by omega),Int.toNat_natCast]
end
end HT
namespace L2
open PySem PySem.Spec PyProof.Rows
abbrev TO:=St->Hp->(Option Int->Hp->Prop)->Prop
def PO (X:Cx)(e:Option Expr)(t:TO):Prop:=
 ∀ (pins:List (Addr × Obj)) (s:Shared) (σ:St) (H:Hp) (Q:Option Int->Hp->Prop),aP X pins σ H s->t σ H Q →
  wpAny (model X.prog X.w) X.A (evalPart e X.env) (fun u s'=>∃ o H',aP X pins σ H' s'/\IsPart u o/\Q o H') X.xe s
def Ii:TO:=fun _ H Q=>Q none H
def On (t:TE):TO:=fun σ H Q=>t σ H fun x H1=>∃ i,x=.int i/\Q (some i) H1
section
variable {X:Cx}{e:Expr}{te:TE}{lo hi:Option Expr}{tl th:TO}{pos p2:Pos}
theorem Hw:PO X none Ii:=by
 intro pins s σ H Q I h;rw[evalPart_none];exact wpAny_pure ⟨none,H,I,.none,h⟩
theorem Hx (h:PE X e te):PO X (some e) (On te):=by
 intro pins s σ H Q I hw;rw[evalPart_some];refine cM (h pins s σ H _ I hw) fun u s1 ⟨x,H1,I1,r1,q1⟩=>?_;obtain⟨i,rfl,q⟩:=q1;obtain⟨t,rfl⟩:=r1;exact⟨some i,H1,I1,.int i t,q⟩
def Mm (X:Cx)(r:V->Option Int->Option Int->Hp->VK->Prop):Prop:=
 ∀ (pins:List (Addr × Obj)) (s:Shared) (σ:St) (H:Hp) (x:V) (v vl vu:Value) (lo hi:Option Int) (sl:Addr) (Q:VK),aP X pins σ H s->RelV x v->s.heap.IsSliceOf sl vl vu .none->IsPart vl lo->IsPart vu hi->r x lo hi H Q →
  ∃ T id,typeLookup (.type T) "__getitem__"=pure (some (.builtin id))/\s.TypeIs v T/\wpAny (model X.prog X.w) X.A (getItem v (.ref sl)) (EP X pins σ Q) X.xe s
theorem Mm.or {r r':V->Option Int->Option Int->Hp->VK->Prop}(h:Mm X r)(h':Mm X r'):Mm X (fun x lo hi H Q=>r x lo hi H Q\/r' x lo hi H Q):=by
 intro pins s σ H x v vl vu lo hi sl Q I rx hs pl pu q
 rcases q with q|q
 ·exact h pins s σ H x v vl vu lo hi sl Q I rx hs pl pu q
 ·exact h' pins s σ H x v vl vu lo hi sl Q I rx hs pl pu q
def QF (r:V->Option Int->Option Int->Hp->VK->Prop)(te:TE)(tl th:TO):TE:=fun σ H Q=>te σ H fun x H1=>tl σ H1 fun l H2=>th σ H2 fun u H3=>r x l u H3 Q
theorem EM {r:V->Option Int->Option Int->Hp->VK->Prop}(hr:Mm X r)(he:PE X e te)(hl:PO X lo tl)(hu:PO X hi th):PE X (.Subscript e (.Slice lo hi none p2) pos) (QF r te tl th):=by
 intro pins s σ H Q I h;refine Subscript_ (cM (he pins s σ H _ I h) fun v s1 ⟨x,H1,I1,r1,q1⟩=>?_);refine wpAny_Slice (cM (hl pins s1 σ H1 _ I1 q1) fun vl s2 ⟨l,H2,I2,pl,q2⟩=>cM (hu pins s2 σ H2 _ I2 q2) fun vu s3 ⟨u,H3,I3,pu,q3⟩=>?_);rw[evalPart_none];refine wpAny_pure ?_;have I4:aP X pins σ H3 {s3 with heap:=s3.heap.push {cls:=.type "slice",data:=.fields #[vl,vu,.none]}}:=I3.kept (t':=s3.toks) fun b ob q=>Heap.get?_push_of_some _ q;obtain⟨T,id,hT,ht,hg⟩:=hr pins {s3 with heap:=s3.heap.push {cls:=.type "slice",data:=.fields #[vl,vu,.none]}} σ H3 x v vl vu l u s3.heap.objs.size Q I4 r1 (Heap.IsSliceOf.new ..) pl pu q3;show wpAny (model X.prog X.w) X.A (subscriptTail e (.Slice lo hi none p2) v (.ref s3.heap.objs.size)) (EP X pins σ Q) X.xe {s3 with heap:=s3.heap.push {cls:=.type "slice",data:=.fields #[vl,vu,.none]}};exact tail_any (ops:=[.ref s3.heap.objs.size,v]) ht hT hg (by with_unfolding_all rfl)
def zJ (xs:List V)(lo hi:Option Int):List V:=(xs.drop (HT.sIx xs.length 0 lo)).take (HT.sIx xs.length xs.length hi-HT.sIx xs.length 0 lo)
theorem tY (xs:List V)(lo hi:Option Int):(zJ xs lo hi).length<=xs.length:=by
 unfold zJ;rw[List.length_take,List.length_drop];omega
end
end L2
namespace L2
open PySem PySem.Spec PyProof.Rows
def pz (n:Nat)(i:Int):Option Nat:=if 0<=i then (if i<n then some i.toNat else none) else if -(n:Int)<=i then some (i+n).toNat else none
def atI {α:Type}(xs:List α)(i:Int):Option α:=(pz xs.length i).bind fun j=>xs[j]?
theorem yb {n:Nat}{i:Int}{j:Nat}(h:pz n i=some j):seqIndex? i n=some j/\j<n/\-(n:Int)<=i/\i<n:=by
 unfold pz at h
 by_cases h0:0<=i
 ·rw[if_pos h0]at h
  by_cases h1:i<n
  ·rw[if_pos h1]at h;have e:i.toNat=j:=Option.some.inj h;exact⟨by rw[seqIndex_of h0 h1,e],by omega,by omega,h1⟩
  ·rw[if_neg h1]at h;cases h
 ·rw[if_neg h0]at h
  by_cases h1:-(n:Int)<=i
  ·rw[if_pos h1]at h;have e:(i+n).toNat=j:=Option.some.inj h;exact⟨by rw[seqIndex_neg (by omega) h1,e],by omega,h1,by omega⟩
  ·rw[if_neg h1]at h;cases h
theorem xI {α:Type}{xs:List α}{i:Int}{v:α}(h:atI xs i=some v):∃ j,seqIndex? i xs.length=some j/\xs[j]?=some v/\j<xs.length/\-(xs.length:Int)<=i/\i<xs.length:=by
 unfold atI at h
 cases e:pz xs.length i with
 | none=>rw[e]at h;cases h
 | some j=>
  rw[e]at h;obtain⟨h1,h2,h3,h4⟩:=yb e;exact⟨j,h1,h,h2,h3,h4⟩
theorem F6 {α:Type}{xs:List α}{j:Nat}{v:α}(h:xs[j]?=some v):atI xs (j:Int)=some v:=by
 have hj:j<xs.length:=(List.getElem?_eq_some_iff.mp h).1;have e:pz xs.length (j:Int)=some j:=by
  unfold pz;rw[if_pos (by omega),if_pos (by omega)];simp
 unfold atI;rw[e];exact h
theorem Bm {α:Type}(xs:List α)(v:α):atI (xs++[v]) (-1)=some v:=by
 have hl:(xs++[v]).length=xs.length+1:=by simp
 have e:pz (xs++[v]).length (-1)=some xs.length:=by
  unfold pz;rw[hl,if_neg (by decide),if_pos (by omega)]
  congr 1
  omega
 unfold atI;rw[e];show(xs++[v])[xs.length]?=some v;simp
def xD (b:Expr):Prop:=∀ o i,subscripted b false o i=operate [o,i] (getItem o i)
def Ja (X:Cx)(r:R2):Prop:=
 ∀ (value slice:Expr) (pins:List (Addr × Obj)) (s:Shared) (σ:St) (H:Hp) (x y:V) (v u:Value) (Q:VK),aP X pins σ H s->RelV x v->RelV y u->r x y H Q →
  subscripted slice false v u=operate [v,u] (getItem v u)->wpAny (model X.prog X.w) X.A (subscriptTail value slice v u) (EP X pins σ Q) X.xe s
def Mj (X:Cx)(id:String)(r:V->List V->Hp->VK->Prop):Prop:=
 ∀ (pins:List (Addr × Obj)) (s:Shared) (σ:St) (H:Hp) (x:V) (xs:List V) (v:Value) (us:List Value) (Q:VK),aP X pins σ H s->RelV x v->aQ xs us->r x xs H Q →
  wpAny (model X.prog X.w) X.A (call (.builtin id) (v::us)) (EP X pins σ Q) X.xe s
section
variable {X:Cx}{a b:Expr}{ta tb:TE}{pos:Pos}
theorem Ja.or {r r':R2}(h:Ja X r)(h':Ja X r'):Ja X (fun x y H Q=>r x y H Q\/r' x y H Q):=by
 intro value slice pins s σ H x y v u Q I rx ry q hs
 rcases q with q|q
 ·exact h value slice pins s σ H x y v u Q I rx ry q hs
 ·exact h' value slice pins s σ H x y v u Q I rx ry q hs
theorem Mj.or {id:String}{r r':V->List V->Hp->VK->Prop}(h:Mj X id r)(h':Mj X id r'):Mj X id (fun x xs H Q=>r x xs H Q\/r' x xs H Q):=by
 intro pins s σ H x xs v us Q I rx rs q
 rcases q with q|q
 ·exact h pins s σ H x xs v us Q I rx rs q
 ·exact h' pins s σ H x xs v us Q I rx rs q
theorem N1 {r:R2}(hr:Ja X r)(ha:PE X a ta)(hb:PE X b tb)(hs:xD b):PE X (.Subscript a b pos) (Om r ta tb):=by
 intro pins s σ H Q I h;exact Subscript_ (JX ha hb I h fun v u s2 x y H2 I2 rx ry q=>hr a b pins s2 σ H2 x y v u Q I2 rx ry q (hs _ _))
def N8 (K:PySem.W.Frag):R2:=fun x y H Q=>∃ p xs i v,x=.ref p/\y=.int i/\dR K H p xs/\atI xs i=some v/\Q v H
def N9 (K:PySem.W.Frag):R2:=fun x y H Q=>∃ p xs i v,x=.ref p/\y=.int i/\jH K H p xs/\atI xs i=some v/\Q v H
theorem GK:Ja X (N8 X.K):=by
 intro value slice pins s σ H x y v u Q I rx ry h hs;obtain⟨p,xs,i,z,rfl,rfl,hq,he,q⟩:=h
 cases rx
 obtain⟨t,rfl⟩:=ry;obtain⟨its,r,pl,hz⟩:=I.list hq;obtain⟨j,h1,h2,h3,h4,h5⟩:=xI he;obtain⟨w,ew,rw'⟩:=r.get h2;have hl:=r.length;have hn:=sC;have fin:EP X pins σ Q w s:=⟨z,H,I,rw',q⟩
 by_cases h0:0<=i
 ·have hj:i.toNat=j:=by
   rw[seqIndex_of h0 h5]at h1;exact Option.some.inj h1
  exact item_listR pl.isList h0 (by omega) (by rw[hj];simpa using ew) fin hs
 ·have hj:(i+(its.toArray.size:Int)).toNat=j:=by
   rw[seqIndex_neg (by omega) h4]at h1
   rw[List.size_toArray,<-hl];exact Option.some.inj h1
  exact subscriptTail_builtinR (x:=w) pl.isList.typeIs slot_list_getitem.lookup
   (wpAny_getItem_list_neg (Q:=fun r s'=>r=w/\EP X pins σ Q r s') pl.isList (by omega) (by rw[List.size_toArray] <;> omega) (by omega) (by rw[hj];simpa using ew) ⟨rfl,fin⟩) hs
theorem KD:Ja X (N9 X.K):=by
 intro value slice pins s σ H x y v u Q I rx ry h hs;obtain⟨p,xs,i,z,rfl,rfl,hq,he,q⟩:=h
 cases rx
 obtain⟨t,rfl⟩:=ry;obtain⟨its,r,pl,hz⟩:=I.tuple hq;obtain⟨j,h1,h2,h3,h4,h5⟩:=xI he;obtain⟨w,ew,rw'⟩:=r.get h2;have hl:=r.length;have hn:=sC;have fin:EP X pins σ Q w s:=⟨z,H,I,rw',q⟩;exact subscriptTail_builtinR (x:=w) pl.typeIs slot_tuple_getitem.lookup
  (getItem_tuple (j:=j) (Q:=fun r s'=>r=w/\EP X pins σ Q r s') pl (by omega) (by omega) (by rw[List.size_toArray,<-hl];exact h1) (by simpa using ew) ⟨rfl,fin⟩) hs
theorem wJ (its:List Value) (n j:Nat) (u:Value):Obj.mapSeq (·.setIfInBounds j u) {cls:=.type "list",data:=.seq its.toArray n}={cls:=.type "list",data:=.seq (its.set j u).toArray n}:=by
 simp[Obj.mapSeq]
theorem aP.lst {pins:List (Addr × Obj)}{σ:St}{H:Hp}{s:Shared}{p:Addr}{xs:List V}(I:aP X pins σ H s)(h:H p=some (.lst xs)) :
  ∃ (its:List Value) (n:Nat),aQ xs its/\s.heap.get? p=some {cls:=.type "list",data:=.seq its.toArray n}/\xs.length<=sizeLine:=by
 obtain⟨z,its,n,r,e⟩:=I.hok p _ h;exact⟨its,n,r,e,z⟩
theorem aP.lstUpd {pins:List (Addr × Obj)}{σ:St}{H:Hp}{s:Shared}{p:Addr}{xs ys:List V}{its its':List Value}{n n':Nat}{f:Obj->Obj}(I:aP X pins σ H s)(h:H p=some (.lst xs))
  (ho:s.heap.get? p=some {cls:=.type "list",data:=.seq its.toArray n}) (hf:f {cls:=.type "list",data:=.seq its.toArray n}={cls:=.type "list",data:=.seq its'.toArray n'}) (r:aQ ys its') (hz:ys.length<=sizeLine) (t:Nat) :
  aP X pins σ (dy H p (.lst ys)) {s with heap:=s.heap.update p f,toks:=t}:=by
 have e:(s.heap.update p f).get? p=some {cls:=.type "list",data:=.seq its'.toArray n'}:=by
  rw[Heap.get?_update_self f ho (by rw[hf] <;> rfl),hf]
 refine I.write (x:=p) (e:=p) (by rw[h];trivial) (.inl rfl) (fun b u hb q=>(Heap.get?_update_other _ _ (Ne.symm hb)).trans q) ⟨_,e⟩ ?_
 exact⟨hz,its',n',r,e⟩
def Oa:V->V->V->Hp->(Hp->Prop)->Prop:=fun o i v H Q=>∃ p xs k j,o=.ref p/\i=.int k/\H p=some (.lst xs)/\pz xs.length k=some j/\Q (dy H p (.lst (xs.set j v)))
theorem set_list:Mu X Oa:=by
 intro pins s σ H o i v ov iv u Q I ro ri rv h;obtain⟨p,xs,k,j,rfl,rfl,hp,hj,q⟩:=h
 cases ro
 obtain⟨t,rfl⟩:=ri;obtain⟨its,n,r,ho,hz⟩:=I.lst hp;obtain⟨h1,h2,h3,h4⟩:=yb hj;have hl:=r.length;have hn:=sC;have I':aP X pins σ (dy H p (.lst (xs.set j v))) {s with heap:=s.heap.update p (Obj.mapSeq (·.setIfInBounds j u))}:=
  I.lstUpd hp ho (wJ its n j u) (r.set rv j) (by rw[List.length_set];exact hz) s.toks
 by_cases h0:0<=k
 ·have hk:k.toNat=j:=by
   rw[seqIndex_of h0 h4]at h1;exact Option.some.inj h1
  exact PySem.W.ki_setAt ho h0 (by omega) (by rw[List.size_toArray,<-hl];exact h4) (by rw[hk];exact⟨_,I',q⟩)
 ·have hk:(k+(its.toArray.size:Int)).toNat=j:=by
   rw[seqIndex_neg (by omega) h3]at h1
   rw[List.size_toArray,<-hl];exact Option.some.inj h1
  exact PySem.W.ki_setBack ho (by omega) (by rw[List.size_toArray,<-hl];exact h3) (by omega) (by rw[hk];exact⟨_,I',q⟩)
theorem sS (lo hi:Option Int)(n:Nat):(sliceBounds lo hi none n).1=((HT.sIx n 0 lo:Nat):Int)/\(sliceBounds lo hi none n).2.1=((HT.sIx n n hi:Nat):Int)/\(sliceBounds lo hi none n).2.2=1:=by
 refine⟨?_,?_,rfl⟩
 ·cases lo with
  | none=>simp[sliceBounds,HT.sIx]
  | some i=>
   simp only[sliceBounds,HT.sIx,Option.getD_none,show(1:Int)>0 by decide,if_true]
   by_cases h:i<0
   ·simp only[h,if_true] <;> omega
   ·simp only[h,if_false] <;> omega
 ·cases hi with
  | none=>simp[sliceBounds,HT.sIx]
  | some i=>
   simp only[sliceBounds,HT.sIx,Option.getD_none,show(1:Int)>0 by decide,if_true]
   by_cases h:i<0
   ·simp only[h,if_true] <;> omega
   ·simp only[h,if_false] <;> omega
theorem pG (its:List Value)(lo hi:Option Int):slicePick its.toArray lo hi none=((its.drop (HT.sIx its.length 0 lo)).take (HT.sIx its.length its.length hi-HT.sIx its.length 0 lo)).toArray:=by
 obtain⟨h1,h2,h3⟩:=sS lo hi its.toArray.size;unfold slicePick;rw[h1,h2,h3];simp only[sliceRange_one,pick_run,List.size_toArray] <;> rfl
def PF (K:PySem.W.Frag):V->Option Int->Option Int->Hp->VK->Prop:=fun x lo hi H Q=>∃ a xs,x=.ref a/\dR K H a xs/\∀ p,H p=none->Q (.ref p) (dy H p (.lst (zJ xs lo hi)))
theorem Ig:Mm X (PF X.K):=by
 intro pins s σ H x v vl vu lo hi sl Q I rx hs pl pu h;obtain⟨a,xs,rfl,hx,q⟩:=h
 cases rx
 obtain⟨its,r,ht,hz⟩:=I.list hx;have hlen:=r.length;refine⟨"list",_,slot_list_getitem.lookup,ht.isList.typeIs,?_⟩;refine wpAny_getItem_list_slice ht.isList hs pl pu .none (by simp) ?_ (by rw[List.size_toArray] <;> omega)
 rw[pG,<-hlen];refine⟨.ref s.heap.objs.size,_,I.laid (t':=s.toks) (o:=.lst (zJ xs lo hi)) (fun b ob q=>Heap.get?_push_of_some _ q) (Nat.le_refl _) ?_,rfl,q _ (I.hok.fresh (Nat.le_refl _))⟩;exact⟨Nat.le_trans (tY xs lo hi) hz,_,0,(r.drop (HT.sIx xs.length 0 lo)).take (HT.sIx xs.length xs.length hi-HT.sIx xs.length 0 lo),Heap.get?_push_size _ rfl⟩
theorem qM:fk X (.builtin "len") (fun xs H Q=>∃ p ys,xs=[.ref p]/\(dR X.K H p ys\/jH X.K H p ys)/\Q (.int ys.length) H):=by
 intro pins s σ H xs us Q I r h;obtain⟨p,ys,rfl,hq,q⟩:=h;obtain⟨u,rfl,rx⟩:=vals1 r
 cases rx
 have hn:=sC
 rcases hq with hq|hq
 ·obtain⟨its,r',pl,hz⟩:=I.list hq;have hlen:=r'.length;exact Calls.call_len_list pl.isList (by simp only[List.size_toArray] <;> omega) ⟨.int ys.length,H,I.tok _,⟨s.toks+1,by rw[List.size_toArray,hlen]⟩,q⟩
 ·obtain⟨its,r',pl,hz⟩:=I.tuple hq;have hlen:=r'.length;exact len_tuple pl (by simp only[List.size_toArray] <;> omega) ⟨.int ys.length,H,I.tok _,⟨s.toks+1,by rw[List.size_toArray,hlen]⟩,q⟩
theorem fk.or {f:Value}{r r':List V->Hp->VK->Prop}(h:fk X f r)(h':fk X f r'):fk X f (fun xs H Q=>r xs H Q\/r' xs H Q):=by
 intro pins s σ H xs us Q I rs q
 rcases q with q|q
 ·exact h pins s σ H xs us Q I rs q
 ·exact h' pins s σ H xs us Q I rs q
theorem qN:fk X (.type "list") (fun xs H Q=>∃ p ys,xs=[.ref p]/\(dR X.K H p ys\/jH X.K H p ys)/\∀ l,H l=none->Q (.ref l) (dy H l (.lst ys))):=by
 intro pins s σ H xs us Q I r h;obtain⟨p,ys,rfl,hq,q⟩:=h;obtain⟨u,rfl,rx⟩:=vals1 r
 cases rx
 have fin:∀ (its:List Value),aQ ys its->ys.length<=sizeLine->∀ (h':Heap) (c':Nat),(∀ b o',s.heap.get? b=some o'->h'.get? b=some o') →
   h'.get? s.heap.objs.size=some {cls:=.type "list",dict:=none,data:=.seq its.toArray c',slots:=#[]}->EP X pins σ Q (.ref s.heap.objs.size) {s with heap:=h'}:=fun its r' hz h' c' kp e=>
  ⟨.ref s.heap.objs.size,_,I.laid (t':=s.toks) kp (Nat.le_refl _) (show eB X.prog X.w _ h' _ (.lst ys) from⟨hz,its,c',r',e⟩),rfl,q _ (I.hok.fresh (Nat.le_refl _))⟩
 rcases hq with hq|hq
 ·obtain⟨its,r',pl,hz⟩:=I.list hq;have hlen:=r'.length;obtain⟨o,ho,hc,n,hd⟩:=pl.isList;exact call_list_seq p (.inl rfl) ho hc hd (fun h' c' kp e=>fin its r' hz h' c' kp e) (by simp only[List.size_toArray] <;> omega)
 ·obtain⟨its,r',pl,hz⟩:=I.tuple hq;have hlen:=r'.length;obtain⟨o,ho,hc,n,hd⟩:=pl;exact call_list_seq p (.inr rfl) ho hc hd (fun h' c' kp e=>fin its r' hz h' c' kp e) (by simp only[List.size_toArray] <;> omega)
def P8 (K:PySem.W.Frag)(T:String)(x:V)(H:Hp):Prop:=match x with
 | .str _=>T="str"
 | .int _=>T="int"
 | .ref p=>(T="list"/\∃ xs,dR K H p xs)\/(T="tuple"/\∃ o,K.lookup p=some o/\o.cls=.type "tuple"/\o.dict=none) ∨
   (T="dict"/\((∃ kvs,H p=some (.dK kvs))\/∃ kvs,H p=some (.dT kvs)))\/(T="set"/\∃ S n,H p=some (.set S n))
 | _=>False
theorem Fn {pins:List (Addr × Obj)}{σ:St}{H:Hp}{s:Shared}{T:String}{x:V}{v:Value}(I:aP X pins σ H s)(r:RelV x v)(ty:P8 X.K T x H) :
  s.TypeIs v T/\∀ a,v=.ref a->∃ ob,s.heap.get? a=some ob/\ob.dict=none:=by
 cases x with
 | str z=>
  obtain⟨t,rfl⟩:=r
  cases (show T="str" from ty)
  exact⟨typeIs_str s z t,fun _ e=>nomatch e⟩
 | int i=>
  obtain⟨t,rfl⟩:=r
  cases (show T="int" from ty)
  exact⟨typeIs_int s i t,fun _ e=>nomatch e⟩
 | ref p=>
  cases r
  rcases ty with ⟨rfl,xs,hq⟩|⟨rfl,o,hk,hc,hd⟩|⟨rfl,hk⟩|⟨rfl,S,n,hk⟩
  ·obtain⟨its,_,pl,_⟩:=I.list hq;refine⟨pl.isList.typeIs,fun a e=>?_⟩
   cases e
   obtain⟨o,n,e,c,hd,_⟩:=pl;exact⟨o,e,hd⟩
  ·refine⟨⟨o,I.kIn p o hk,hc⟩,fun a e=>?_⟩
   cases e
   exact⟨o,I.kIn _ o hk,hd⟩
  ·have z:∃ o,s.heap.get? p=some o/\o.ExactDict:=by
    rcases hk with ⟨kvs,hk⟩|⟨kvs,hk⟩
    ·obtain⟨_,_,_,_,o,_,_,e,ex,_⟩:=I.hok p _ hk;exact⟨o,e,ex⟩
    ·obtain⟨_,_,_,_,o,_,_,e,ex,_⟩:=I.hok p _ hk;exact⟨o,e,ex⟩
   obtain⟨o,e,ex⟩:=z;refine⟨⟨o,e,ex.1⟩,fun a e2=>?_⟩
   cases e2
   exact⟨o,e,ex.2.1⟩
  ·obtain⟨o,_,_,_,e,ex,_⟩:=I.hok p _ hk;refine⟨⟨o,e,ex.1⟩,fun a e2=>?_⟩
   cases e2
   exact⟨o,e,ex.2.1⟩
 | _=>exact False.elim ty
def PM (K:PySem.W.Frag)(T:String)(r:V->List V->Hp->VK->Prop)(to:TE):TE:=fun σ H Q=>to σ H fun x H1=>P8 K T x H1/\r x [] H1 Q
def QD (K:PySem.W.Frag)(T:String)(r:V->List V->Hp->VK->Prop)(to:TE)(t:TA):TE:=fun σ H Q=>to σ H fun x H1=>P8 K T x H1/\t σ H1 fun xs H2=>r x xs H2 Q
variable {o e:Expr}{es:List Expr}{to:TE}{t:TA}{name:Str}{apos cpos:Pos}{T id:String}{r:V->List V->Hp->VK->Prop}
theorem Lo (pa:PlainAttrs T) (slot:Slot T name id) (hty:typeOf (.builtin id)=pure (.type "method_descriptor")) (hm:Mj X id r) (ho:PE X o to)
  (hbase:attributeBase o name X.env (eval o X.env)=eval o X.env:=by rfl) (hline:(apos.endLine == cpos.line)=true:=by rfl):PE X (.Call (.Attribute o name apos) [] [] cpos) (PM X.K T r to):=by
 intro pins s σ H Q I h;refine wpAny_Call_method0_late hbase hline (cM (ho pins s σ H _ I h) fun v s1 ⟨x,H1,I1,r1,ty,q1⟩=>?_);obtain⟨h1,h2⟩:=Fn I1 r1 ty;exact⟨T,id,pa,slot,hty,h1,h2,Calls.callWith_builtin rfl (PySem.evalArgs_none (hm pins s1 σ H1 x [] v [] Q I1 r1 .nil q1))⟩
theorem IR (pa:PlainAttrs T) (slot:Slot T name id) (hty:typeOf (.builtin id)=pure (.type "method_descriptor")) (hm:Mj X id r) (ho:PE X o to) (ha:PA X (e::es) t)
  (hbase:attributeBase o name X.env (eval o X.env)=eval o X.env:=by rfl)
  (hfew:((backTo cpos (starEach (e::es) X.env)).all (fun x=>!x.1) && (backToKw cpos (keywordEach [] X.env)).all (fun x=>x.1.isSome)
   && decide ((e::es).length+([]:List Keyword).length+(if ([]:List Keyword).isEmpty then 0 else 1)<30))=true:=by rfl)
  (hline:(apos.endLine == cpos.line)=true:=by rfl) (hs:starEach (e::es) X.env=(false,eval e X.env)::starEach es X.env:=by rfl) (hplain:(backTo cpos (starEach es X.env)).any (·.1)=false:=by rfl) :
  PE X (.Call (.Attribute o name apos) (e::es) [] cpos) (QD X.K T r to t):=by
 intro pins s σ H Q I h;refine wpAny_Call_method_late hbase hfew hline rfl (cM (ho pins s σ H _ I h) fun v s1 ⟨x,H1,I1,r1,ty,q1⟩=>?_);obtain⟨h1,h2⟩:=Fn I1 r1 ty;refine⟨T,id,pa,slot,hty,h1,h2,?_⟩;have hA:=ha cpos pins s1 σ H1 _ I1 q1;rw[hs]at hA ⊢;refine Calls.callWith_builtin (by show(false || (backTo cpos (starEach es X.env)).any (·.1))=false;rw[hplain] <;> rfl) (Calls.evalArgs_plain ?_)
 exact cM hA fun us s2 ⟨vs,H2,I2,r2,q2⟩=>hm pins s2 σ H2 x vs v us Q I2 r1 r2 q2
end
end L2
namespace L2
open PySem PySem.Spec PyProof.Rows
def O0 (X:Cx)(id:String)(r:V->List V->Hp->VK->Prop):Prop:=
 ∀ (pins:List (Addr × Obj)) (s:Shared) (σ:St) (H:Hp) (x:V) (xs:List V) (v:Value) (us:List Value) (Q:VK),aP X pins σ H s->RelV x v->aQ xs us->r x xs H Q →
  wpAny (model X.prog X.w) X.A (call (.builtin id) (v::us)) (EP X pins σ Q) X.xe s
theorem aQ.one:∀ {x:V}{us:List Value},aQ [x] us->∃ u,us=[u]/\RelV x u
 | _,_,.cons r .nil=>⟨_,rfl,r⟩
theorem aQ.two:∀ {x y:V}{us:List Value},aQ [x,y] us->∃ u v,us=[u,v]/\RelV x u/\RelV y v
 | _,_,_,.cons r (.cons q .nil)=>⟨_,_,rfl,r,q⟩
theorem aQ.zero:∀ {us:List Value},aQ [] us->us=[]
 | _,.nil=>rfl
theorem aQ.dropLast {xs:List V}{us:List Value}(h:aQ xs us):aQ xs.dropLast us.dropLast:=by
 induction h with
 | nil=>exact .nil
 | cons r t ih=>
  cases t with
  | nil=>exact .nil
  | cons q t'=>exact .cons r ih
theorem aQ.eraseIdx:∀ {xs:List V}{us:List Value} (i:Nat),aQ xs us->aQ (xs.eraseIdx i) (us.eraseIdx i)
 | _,_,_,.nil=>.nil
 | _,_,0,.cons _ t=>t
 | _,_,i+1,.cons r t=>.cons r (aQ.eraseIdx i t)
theorem aQ.reverse {xs:List V}{us:List Value}(h:aQ xs us):aQ xs.reverse us.reverse:=by
 induction h with
 | nil=>exact .nil
 | cons r t ih=>rw[List.reverse_cons,List.reverse_cons];exact aQ.append ih (.cons r .nil)
theorem wg {α:Type}(l:List α):l.eraseIdx (l.length-1)=l.dropLast:=by
 induction l with
 | nil=>rfl
 | cons a r ih=>
  cases r with
  | nil=>rfl
  | cons b r=>
   have e:(a::b::r).length-1=((b::r).length-1)+1:=by
    have h1:(a::b::r).length=r.length+2:=rfl;have h2:(b::r).length=r.length+1:=rfl;omega
   rw[e,List.eraseIdx_cons_succ,ih]
   all_goals rfl
section
variable {X:Cx}{pins:List (Addr × Obj)}{σ:St}{H:Hp}{s:Shared}{l b:Addr}{xs ys zs:List V}
theorem aP.lset {its its':List Value}{n:Nat}{f:Array Value->Array Value}{t':Nat}(I:aP X pins σ H s)(hH:H l=some (.lst xs))
  (e:s.heap.get? l=some {cls:=.type "list",data:=.seq its.toArray n}) (hf:f its.toArray=its'.toArray) (hv:aQ ys its') (hz:ys.length<=sizeLine) :
  aP X pins σ (dy H l (.lst ys)) {s with heap:=s.heap.update l (Obj.mapSeq f),toks:=t'}:=by
 have q:=PySem.IsL.update e f;rw[hf]at q;refine I.write (x:=l) (e:=l) (by rw[hH];exact trivial) (.inl rfl) (fun b' u hb hu=>(Heap.get?_update_other s.heap (Obj.mapSeq f) (Ne.symm hb)).trans hu) ⟨_,q⟩ ?_
 exact⟨hz,its',_,hv,q⟩
theorem aP.lnew {its:List Value}{t':Nat}(I:aP X pins σ H s)(hv:aQ ys its)(hz:ys.length<=sizeLine) :
  aP X pins σ (dy H s.heap.objs.size (.lst ys)) {s with heap:=s.heap.push {cls:=.type "list",data:=.seq its.toArray},toks:=t'}:=
 I.laid (fun _ _ q=>Heap.get?_push_of_some _ q) (Nat.le_refl _) ⟨hz,its,0,hv,Heap.get?_push_size _ rfl⟩
theorem aP.fresh (I:aP X pins σ H s):H s.heap.objs.size=none:=I.hok.fresh (Nat.le_refl _)
theorem aP.lstM (I:aP X pins σ H s) (hH:H l=some (.lst xs)):xs.length<=sizeLine/\∃ (its:List Value) (n:Nat),aQ xs its/\xs.length=its.length/\s.heap.get? l=some {cls:=.type "list",data:=.seq its.toArray n}:=by
 obtain⟨z,its,n,r,e⟩:=I.hok l _ hH;exact⟨z,its,n,r,r.length,e⟩
theorem EB {n:Nat}(h:n<=sizeLine):Builtin.List.listTooLong n=false:=by
 unfold Builtin.List.listTooLong;exact decide_eq_false (by omega)
end
section
variable {X:Cx}
def HQ:V->List V->Hp->VK->Prop:=fun x vs H Q=>∃ l xs y,x=.ref l/\vs=[y]/\H l=some (.lst xs)/\xs.length<sizeLine/\Q .non (dy H l (.lst (xs++[y])))
theorem qe:O0 X "list.append" HQ:=by
 intro pins s σ H x vs v us Q I rx rv h;obtain⟨l,xs,y,rfl,rfl,hH,hz,q⟩:=h
 cases rx
 obtain⟨u,rfl,ru⟩:=rv.one;obtain⟨z,its,n,r,hl,e⟩:=I.lstM hH;refine call_meets F.slot_list_append ⟨_,e,rfl⟩ F.entry_list_append (F.args_list_append_2 _ _) (PySem.list_append l its.toArray n u (by rw[List.size_toArray];omega)) ⟨e,?_⟩
 refine⟨.non,_,I.lset (its':=its++[u]) hH e (by simp) (r.append (.cons ru .nil)) ?_,rfl,q⟩
 rw[List.length_append,List.length_singleton];omega
def HU:V->List V->Hp->VK->Prop:=fun x vs H Q=>∃ l b xs zs,x=.ref l/\vs=[.ref b]/\H l=some (.lst xs)/\H b=some (.lst zs)/\xs.length+zs.length<=sizeLine/\Q .non (dy H l (.lst (xs++zs)))
theorem Ai:O0 X "list.extend" HU:=by
 intro pins s σ H x vs v us Q I rx rv h;obtain⟨l,b,xs,zs,rfl,rfl,hH,hB,hz,q⟩:=h
 cases rx
 obtain⟨u,rfl,ru⟩:=rv.one
 cases ru
 obtain⟨z,its,n,r,hl,e⟩:=I.lstM hH;obtain⟨z2,its2,n2,r2,hl2,e2⟩:=I.lstM hB;have hsz:its.toArray.size+its2.toArray.size<=sizeLine:=by rw[List.size_toArray,List.size_toArray];omega
 have hlong:¬ (!its.toArray.isEmpty && Builtin.List.listTooLong (its.toArray.size+its2.toArray.size))=true:=by
  rw[EB hsz,Bool.and_false];exact Bool.false_ne_true
 refine call_meets F.slot_list_extend ⟨_,e,rfl⟩ F.entry_list_extend (F.args_list_extend_2 _ _)
  (AutoSeq1.list_extend_list_list_0 l its.toArray n b its2.toArray n2 hlong (by rw[List.size_toArray];omega) (by omega)) ⟨e,e2,?_⟩
 refine⟨.non,_,I.lset (its':=its++its2) hH e (by simp) (r.append r2) ?_,rfl,q⟩
 rw[List.length_append];omega
def PD:V->List V->Hp->VK->Prop:=fun x vs H Q=>∃ l xs y,x=.ref l/\vs=[]/\H l=some (.lst xs)/\xs[xs.length-1]?=some y/\Q y (dy H l (.lst xs.dropLast))
theorem KY:O0 X "list.pop" PD:=by
 intro pins s σ H x vs v us Q I rx rv h;obtain⟨l,xs,y,rfl,rfl,hH,hy,q⟩:=h
 cases rx
 have hus:=rv.zero;subst hus;obtain⟨z,its,n,r,hl,e⟩:=I.lstM hH;obtain⟨u,hu,ru⟩:=r.get hy;have hy':its.toArray[its.toArray.size-1]?=some u:=by
  show its.toArray[its.length-1]?=some u;rw[<-Array.getElem?_toList,<-hl];exact hu
 refine call_meets F.slot_list_pop ⟨_,e,rfl⟩ F.entry_list_pop (F.args_list_pop_1 _) (MeetsSeq.list_pop_last l its.toArray n u hy' (by rw[List.size_toArray];omega)) ⟨e,?_⟩
 refine⟨y,_,I.lset (its':=its.dropLast) hH e ?_ r.dropLast ?_,ru,q⟩
 ·show its.toArray.eraseIdxIfInBounds (its.toArray.size-1)=its.dropLast.toArray;rw[List.size_toArray,List.eraseIdxIfInBounds_toArray,wg]
 ·rw[List.length_dropLast];omega
end
section
variable {prog:Program}{w:World}{A:Around}{E:Value->Shared->Prop}{s:Shared}
end
section
variable {X:Cx}
end
end L2
namespace Att
open PySem PySem.W PySem.Calls PyProof.Rows
theorem ml {P:Params}{h:Heap}:∀ (ns:List Int) (vs:List Value),WellAll P h vs (ns.map WData.int)->IntsAre vs ns:=by
 intro ns
 induction ns with
 | nil=>
  intro vs w;rw[List.map_nil]at w
  cases w
  exact .nil
 | cons n ns ih=>
  intro vs w;rw[List.map_cons]at w
  cases w with
  | cons a b=>
   cases a
   exact .cons _ _ (ih _ b)
theorem AJ {l:OpenLaw}{n:Nat}(hn:l.most=some n){P:Params}{h:Heap}{args:List WData}{vals:List Value}
  (hpre:l.row.toRowW.claim.pre args=true) (hwl:WellAll P h vals args) :
  ∃ a vs ns,vals=[Value.ref a]/\args=[WData.list (ns.map WData.int)]/\h.get? a=some {cls:=.type "list",data:=.seq vs.toArray}/\IntsAre vs ns/\ns.length<=n:=by
 have hsh:WShape.hasAll [] args [.list .int]=true:=(pre_splitW hpre).1;have hc:l.pre.holds [] {args:=args}=true:=(pre_splitW hpre).2;obtain⟨d,r,rfl,h1,h2⟩:=hasAllW_cons hsh;obtain rfl:=hasAllW_nil h2;obtain⟨xs,rfl,h3⟩:=hasW_list h1;obtain⟨ns,rfl⟩:=items_int h3;have hlen:ns.length<=n:=by
  unfold OpenLaw.pre at hc;have h4:(WTm.not (.lt (.lit (.int (n:Int))) (.len (.arg 0)))).holds [] {args:=[.list (ns.map .int)]}=true:=by
   have h4:=(holds_andW hc).1;rw[hn]at h4;exact h4
  have h5:=condW_of h4 (w_not (w_lt w_lit (w_len_list (w_arg rfl))));rw[List.length_map]at h5;refine Nat.le_of_not_lt fun q=>?_;have q':(n:Int)<((ns.length:Nat):Int):=by omega
  first
   | (rw[decide_eq_true q']at h5;exact absurd h5 (by decide))
   | (simp at h5;omega)
 cases hwl with
 | cons w1 w2=>
  cases w2
  cases w1 with
  | list ho hall=>exact⟨_,_,ns,rfl,rfl,ho,ml ns _ hall,hlen⟩
theorem AB (l:OpenLaw)(args:List WData):l.row.toRowW.claim.post args (.bool true) args=true:=
 postW_of (r:=l.row.toRowW) (X:=(true == true))
  (show WShape.has [] (.bool true) .bool=true by first|rfl|decide|simp[WShape.has,WShape.arms,WShape.armsAll])
  (show(WTm.eq .res (.lit (.bool true))).value [] {args:=args,res:=some (.bool true),after:=args}=some (.bool (true == true)) from w_eq_bool (w_res rfl) w_lit) rfl
theorem attach_call {l:OpenLaw}{n:Nat}{q:Program}{loose:List Str}{XP:(Str->Option Value)->Heap->Prop}{YP:World->Heap->Prop}{d:DefRec}
  (hn:l.most=some n) (hdf:d.params.defaults=[])
  (call:∀ (w:World) (s₀ s₁:Shared) (mg mb:Str->Option Value) (fa:Addr) (o:Obj) (pm cd doc:Value) (a:Addr) (vs:List Value) (ns:List Int),
   Ground q loose [] XP w s₀ mg mb s₁.heap->YP w s₁.heap →
   s₁.heap.get? fa=some o->o.data=.func (docDef d.name d.params d.body d.scope pm cd doc)->s₁.heap.CodeRec cd d.name->mg d.name=some (.ref fa) →
   s₁.heap.get? a=some {cls:=.type "list",data:=.seq vs.toArray}->IntsAre vs ns->ns.length<=n->s₁.gens=#[] →
   codeAny (model l.prog w) callerA (.call (.ref fa) ⟨[.ref a],[]⟩) (fun r s'=>r=.ok (.ret (.bool true))/\OldK s₁.heap s'.heap/\s'.os=s₁.os/\AllBare s'.gens) s₁) :
  WalkO q loose XP YP l.row.toRowW d [] (fun f vs=>PySem.call f vs):=by
 intro w s₀ s₁ mg mb G Y fa o pm cd doc dV kV ho hd hcd hD hmg hg args vals as hpre hlay hrd hwl hlo;obtain rfl:dV=.none:=Dflts.none hD hdf;obtain rfl:kV=.none:=Dflts.noKw hD;obtain⟨a,vs,ns,rfl,rfl,hobj,hints,hlen⟩:=AJ hn hpre hwl;refine enter_call (codeAny_mono (call w s₀ s₁ mg mb fa o pm cd doc a vs ns G Y ho (fd_plain hd) hcd hmg hobj hints hlen hg) fun r s' hq=>?_);obtain⟨rfl,h2,h3,h4⟩:=hq;exact⟨.inl ⟨.bool true,.bool true,[],rfl,fun _=>rfl,.bool true,AB l _,fun _=>⟨List.Pairwise.nil,fun _ hm=>(nomatch hm)⟩⟩,h2,h3,h4⟩
section
variable {prog:Program}{w:World}{A:Around}{E:Value->Shared->Prop}{s:Shared}{K:Frag}
end
end Att
namespace L2
open PySem PySem.Spec PyProof.Rows
theorem qt:∀ {vs:List Value}{ns:List Int},IntsAre vs ns->aQ (ns.map V.int) vs
 | _,_,.nil=>.nil
 | _,_,.cons n t h=>.cons ⟨t,rfl⟩ (qt h)
def Jc (H:Hp):Prop:=∀ b,H b=none\/∃ o xs,H b=some (.frz o (.lst xs))
theorem Dk {P:Program}{w:World}{K:PySem.W.Frag}{mg mb:Str->Option Value}{CX:xy}{k:Nat}{fa a:Addr}{fd:FuncData}{x:Str}{sp:Sp}{s₁:Shared}{vs:List Value}{ns:List Int}
  (KX:K.In s₁.heap) (hns:s₁.heap.Ns mainGlobals mg) (hb:s₁.heap.Ns builtinsNs mb) (hbb:∀ x:Str,x≠"__name__"->mb x=bootBuiltins x) (hlim:s₁.heap.NoLimit) (hg:s₁.gens=#[])
  (ha:s₁.heap.get? a=some {cls:=.type "list",data:=.seq vs.toArray}) (hi:IntsAre vs ns) (hl:ns.length<=sizeLine) (hr:cz k callerA)
  (F:∀ base:Heap,K.In base->base.Ns mainGlobals mg->iL P w K mg base CX k fa fd [x] sp) (hbind:∀ (s:Shared) (u:Value),BindsTo s fd ⟨[u],[]⟩ [(x,u)])
  (hsp:∀ H:Hp,Jc H->dR K H a (ns.map V.int)->sp [.ref a] H (fun v _=>v=.bl true) fun _ _ _=>False)
  (hCX:∀ H e s',CX [] H s₁ (fun _ _ _=>False) e s'->False) :
  codeAny (model P w) callerA (.call (.ref fa) ⟨[.ref a],[]⟩) (fun r s'=>r=.ok (.ret (.bool true))/\OldK s₁.heap s'.heap/\s'.os=s₁.os/\AllBare s'.gens) s₁:=by
 have rv:=qt hi;have lenV:=hi.length;have core:∀ H:Hp,Jc H->dR K H a (ns.map V.int)->g7 P w H s₁.heap->(∀ b,H b≠none->b=a)->(H a≠none->K.lookup a=none) →
   codeAny (model P w) callerA (.call (.ref fa) ⟨[.ref a],[]⟩) (fun r s'=>r=.ok (.ret (.bool true))/\OldK s₁.heap s'.heap/\s'.os=s₁.os/\AllBare s'.gens) s₁:=by
  intro H hO hS hok hA hK;have base_of:∀ {b:Addr}{o:Obj},s₁.heap.get? b=some o->H b=none->(rj s₁.heap H).get? b=some o:=fun e n=>C7 e n;have noA:∀ {b:Addr}{o:Obj}{es:Array DictEntry}{ep:Nat},s₁.heap.get? b=some o->o.data=.dict es ep->H b=none:=fun {b o es ep} e d=>by
   cases q:H b with
   | none=>rfl
   | some u=>
    have e':b=a:=hA b (by rw[q];simp)
    subst e';rw[ha]at e;cases e
    have d':Data.seq vs.toArray _=Data.dict es ep:=d
    cases d'
  have nsK:∀ {b:Addr}{m:Str->Option Value},s₁.heap.Ns b m->(rj s₁.heap H).Ns b m:=fun {b m} ⟨o,es,ep,e,d,r⟩=>⟨o,es,ep,base_of e (noA e d),d,r⟩;have hKb:K.In (rj s₁.heap H):=fun b o e=>base_of (KX b o e) (by
   cases q:H b with
   | none=>rfl
   | some u=>
    have e':b=a:=hA b (by rw[q];simp)
    subst e';rw[hK (by rw[q];simp)]at e;cases e)
  have hM:Mod K mg (rj s₁.heap H):=⟨hKb,nsK hns,⟨mb,nsK hb,hbb⟩,let ⟨mc,h1,h2⟩:=hlim;⟨mc,nsK h1,h2⟩⟩;have e0:vq P w K mg (rj s₁.heap H) callerA [] s₁ H:=⟨rfl,hM,fun b o e=>G7 e,Nat.le_of_eq (zZ _ _),trivial,fun b hb=>absurd (show b∈([]:List Addr) from hb) (by simp),hok,.of_eq hg⟩
  refine codeAny_mono ((F _ hKb (nsK hns)).run callerA [] s₁ H ⟨[.ref a],[]⟩ [.ref a] [.ref a] _ _ hr e0 (hbind s₁ (.ref a)) (.cons rfl .nil) (hsp H hO hS)) fun r s' h=>?_
  cases r with
  | error e=>exact(hCX H e s' h).elim
  | ok fl=>
   cases fl with
   | next=>exact False.elim h
   | brk=>exact False.elim h
   | cont=>exact False.elim h
   | ret u=>
    obtain⟨v,H',os,bare,un,hok',r',q⟩:=h;have q':v=.bl true:=q;subst q';obtain rfl:u=Value.bool true:=r';refine⟨rfl,OldK.of_keep fun b o e=>?_,os,bare⟩
    cases q:H b with
    | none=>exact un.keep b o e q (by intro z;exact absurd (show b∈([]:List Addr) from z) (by simp)) (by simp)
    | some u=>
     rcases hO b with z|⟨ob,xs,z⟩
     ·rw[q]at z;cases z
     ·have z2:=un.frzs b ob _ z;obtain⟨e1,_⟩:=hok b _ z;obtain⟨e2,_⟩:=hok' b _ z2;rw[e]at e1;cases e1
      exact e2
 cases hk:K.lookup a with
 | some o=>
  have e:=KX a o hk;rw[ha]at e
  cases e
  refine core (fun _=>none) (fun _=>.inl rfl) (.inr ⟨_,vs.toArray,_,hk,rfl,rfl,rfl,by rw[List.size_toArray,lenV];exact hl,by simpa using rv⟩) (fun b u z=>by have z':(none:Option HO)=some u:=z;cases z') (fun b z=>absurd rfl z) fun z=>absurd rfl z
 | none=>
  refine core (fun b=>if b=a then some (.frz {cls:=.type "list",data:=.seq vs.toArray} (.lst (ns.map V.int))) else none) (fun b=>?_) (.inl (.inr ⟨{cls:=.type "list",data:=.seq vs.toArray},if_pos rfl⟩)) (fun b u z=>?_) (fun b z=>?_) fun _=>hk
  ·by_cases hb:b=a
   ·exact .inr ⟨_,_,if_pos hb⟩
   ·exact .inl (if_neg hb)
  ·by_cases hb:b=a
   ·have z':=(if_pos hb).symm.trans z
    cases z'
    subst hb;exact⟨ha,by rw[List.length_map];exact hl,vs,_,rv,ha⟩
   ·have z':=(if_neg hb).symm.trans z
    cases z'
  ·by_cases hb:b=a
   ·exact hb
   ·exact absurd (if_neg hb) z
end L2
namespace L2
open PySem PySem.Spec PyProof.Rows
theorem walk_of {l:PySem.W.OpenLaw}{n k:Nat}{q:Program}{loose:List Str}{XP:(Str->Option Value)->Heap->Prop}{YP:World->Heap->Prop}{d:DefRec}{K:Params->PySem.W.Frag}{CX:World->xy}{sp:World->Sp}{x:Str}
  (hn:l.most=some n) (hn2:n<=sizeLine) (hdf:d.params.defaults=[]) (hr:cz k callerA)
  (hY:∀ (w:World) (h:Heap),YP w h->(K w.params).In h)
  (F:∀ (w:World) (mg:Str->Option Value) (fa:Addr) (h:Heap),(K w.params).In h->h.Ns mainGlobals mg->mg d.name=some (.ref fa) →
   ∃ fd:FuncData,(∀ (s:Shared) (u:Value),BindsTo s fd ⟨[u],[]⟩ [(x,u)]) ∧
    ∀ base:Heap,(K w.params).In base->base.Ns mainGlobals mg->iL l.prog w (K w.params) mg base (CX w) k fa fd [x] (sp w))
  (hsp:∀ (w:World) (H:Hp) (a:Addr) (ns:List Int),ns.length<=n->Jc H->dR (K w.params) H a (ns.map V.int)->sp w [.ref a] H (fun v _=>v=.bl true) fun _ _ _=>False)
  (hCX:∀ (w:World) (H:Hp) (s:Shared) (e:Value) (s':Shared),CX w [] H s (fun _ _ _=>False) e s'->False) :
  PySem.W.WalkO q loose XP YP l.row.toRowW d [] (fun f vs=>PySem.call f vs):=by
 refine Att.attach_call hn hdf fun w s₀ s₁ mg mb fa o pm cd doc a vs ns G Y ho hd hcd hmg hobj hints hlen hg=>?_;have KX:=hY w _ Y;obtain⟨fd,hb,hF⟩:=F w mg fa _ KX G.T.g hmg;exact Dk KX G.T.g G.T.b G.T.builtins G.T.nolimit hg hobj hints (Nat.le_trans hlen hn2) hr hF hb (fun H hO hS=>hsp w H a ns hlen hO hS) fun H e s'=>hCX w H s₁ e s'
end L2
namespace L2
open PySem PySem.Spec PyProof.Rows
def fS (s:Stmt):Arguments:=match s with
 | .FunctionDef _ a _ _ _ _ _ _ _ _=>a
 | _=>{posonlyargs:=[],args:=[],vararg:=none,kwonlyargs:=[],kw_defaults:=[],kwarg:=none,defaults:=[]}
def de (s:Stmt):List Stmt:=match s with
 | .FunctionDef _ _ b _ _ _ _ _ _ _=>b
 | _=>[]
def al (s:Stmt):Scope:=match s with
 | .FunctionDef _ _ _ _ _ _ sc _ _ _=>sc
 | _=>{kind:=.function,names:=[],isGenerator:=false,isCoroutine:=false}
abbrev AW:xy:=fun _ _ _ _ _ _=>False
abbrev E0:XK:=fun _ _ _=>False
theorem NZ {X:Cx}:vz AW X E0:=fun _ _ _ _ _ _ _ h=>h.elim
structure IZ (K:PySem.W.Frag) (x qual:Str) (st:Stmt) (f:Addr) (fd:FuncData):Prop where
 ex:∃ (oc:Value) (od:Option Addr) (kV doc pm:Value) (an:Option Addr) (cdv ct:Value) (osl:Array (Option Value)),
  fd=PySem.W.fnOf x qual (fS st) (de st) (al st) .none kV doc pm an cdv ct/\K.lookup f=some ⟨oc,od,.func fd,osl⟩/\PySem.W.codeIn K cdv qual=true
 kp:PySem.W.keepIn K (.ref f)=true
section
variable {P:Program}{w:World}{K:PySem.W.Frag}{mg:Str->Option Value}{base:Heap}
theorem IZ.ok {x qual:Str}{st:Stmt}{f:Addr}{fd:FuncData}{N ps:List Str}{k:Nat}{sp:Sp}(F:IZ K x qual st f fd)(S:aA N ps (al st))(len:∀ vs H Q E,sp vs H Q E->vs.length=ps.length)
  (hbody:∀ (cdv:Value) (A:Around) (outer:List Env) (s:Shared) (H:Hp) (vs:List V) (Q:VK) (E:XK),cz k (A.deeper (envOfC qual (al st) s.heap.objs.size f cdv))->sp vs H Q E →
   ∃ t,j8 (qU AW P w K mg base N qual (al st) f cdv A outer s H E).nox (de st) t/\t {nx:=fun _ H'=>Q .non H',rt:=Q} (start N vs) H):iL P w K mg base AW (k+1) f fd ps sp:=by
 obtain⟨oc,od,kV,doc,pm,an,cdv,ct,osl,rfl,lk,hcd⟩:=F.ex;refine Ny lk hcd S len fun A outer s H vs Q E hr hsp=>?_;obtain⟨t,h,q⟩:=hbody cdv A outer s H vs Q E hr hsp;exact⟨t,h.nox,q⟩
theorem IZ.binds {x qual:Str}{st:Stmt}{f:Addr}{fd:FuncData}{ps:List Str}(F:IZ K x qual st f fd)
  (h:∀ (kV doc pm:Value) (an:Option Addr) (cdv ct:Value) (us:List Value),us.length=ps.length->bindArgs (PySem.W.fnOf x qual (fS st) (de st) (al st) .none kV doc pm an cdv ct) ⟨us,[]⟩=pure (ps.zip us)):Binds K fd ps []:=by
 obtain⟨oc,od,kV,doc,pm,an,cdv,ct,osl,rfl,lk,hcd⟩:=F.ex;exact .all (h kV doc pm an cdv ct)
theorem rf {x qual:Str}{st:Stmt}{f:Addr}{oc:Value}{od an:Option Addr}{osl:Array (Option Value)}{kV doc pm cdv ct:Value}(l:K.lookup f=some ⟨oc,od,.func (PySem.W.fnOf x qual (fS st) (de st) (al st) .none kV doc pm an cdv ct),osl⟩)
  (c:PySem.W.codeIn K cdv qual=true) (k:PySem.W.keepIn K (.ref f)=true):IZ K x qual st f (PySem.W.fnOf x qual (fS st) (de st) (al st) .none kV doc pm an cdv ct):=⟨⟨oc,od,kV,doc,pm,an,cdv,ct,osl,rfl,l,c⟩,k⟩
end
theorem AM {n:Nat}(h:n<=1000):n<sizeLine:=Nat.lt_of_le_of_lt h (by decide)
section
variable {X:Cx}
theorem pv (i:Nat) {x:Str}{pos:Pos} (hN:X.N[i]?=some x:=by rfl) (hv:OL X.env.scope x:=by first | exact Or.inl rfl | exact Or.inr (Or.inl rfl) | exact Or.inr (Or.inr rfl)) (hd:(x == ("__debug__":Str))=false:=by decide)
  (hcd:(x == ("__classdict__":Str))=false:=by decide):PE X (.Name x pos) (va i):=EN hN hv hd hcd
end
def aM (H H':Hp):Prop:=∀ b o,H b=some o->H' b=some o
theorem aM.refl (H:Hp):aM H H:=fun _ _ h=>h
theorem aM.trans {H H1 H2:Hp}(a:aM H H1)(b:aM H1 H2):aM H H2:=fun c o h=>b c o (a c o h)
theorem aM.free {H H':Hp}(e:aM H H'){l:Addr}(h:H' l=Option.none):H l=Option.none:=by
 cases q:H l with
 | none=>rfl
 | some o=>
  rw[e l o q]at h
  cases h
theorem aM.seq {K:PySem.W.Frag}{H H':Hp}{a:Addr}{xs:List V}(e:aM H H')(h:dR K H a xs):dR K H' a xs:=by
 rcases h with (h|⟨o,h⟩)|h
 ·exact .inl (.inl (e _ _ h))
 ·exact .inl (.inr ⟨o,e _ _ h⟩)
 ·exact .inr h
end L2
namespace L2
open PySem PySem.Spec PyProof.Rows
theorem jT {env:Env}:∀ (names:List (Str × NameKind)) (cs:List (Str × Addr)),(∀ y∈names,y.2=.free->∃ c,env.cells.lookup y.1=some c)->(∀ x c,cs.lookup x=some c->env.cells.lookup x=some c) →
  ∃ cl:List (Str × Addr),(forIn names cs (fun (y:Str × NameKind) (r:List (Str × Addr))=>(if (y.2 == NameKind.free)=true then (cellOf env y.1 >>= fun a=>pure (ForInStep.yield ((y.1,a)::r))) else pure (ForInStep.yield r):Sem (ForInStep (List (Str × Addr))))))=(pure cl:Sem (List (Str × Addr))) ∧
   (∀ x c,cl.lookup x=some c->env.cells.lookup x=some c)/\(∀ x,(cs.lookup x).isSome=true->(cl.lookup x).isSome=true)/\∀ y∈names,y.2=.free->(cl.lookup y.1).isSome=true
 | [],cs,_,hc=>⟨cs,by rw[List.forIn_nil],hc,fun _ h=>h,fun y hy=>by cases hy⟩
 | (n,k)::r,cs,h,hc=>by
  by_cases hk:(k == NameKind.free)=true
  ·have hk':k=.free:=by simpa using hk
   obtain⟨a,ha⟩:=h (n,k) List.mem_cons_self hk';obtain⟨cl,h1,h2,h3,h4⟩:=jT (env:=env) r ((n,a)::cs) (fun y hy=>h y (List.mem_cons_of_mem _ hy)) (fun x c e=>by
    rw[List.lookup_cons]at e
    split at e
    ·rename_i z;have:x=n:=by simpa using z
     subst this
     cases e
     exact ha
    ·exact hc x c e)
   have up:∀ x,(cs.lookup x).isSome=true->(((n,a)::cs).lookup x).isSome=true:=fun x z=>by
    rw[List.lookup_cons]
    split
    ·rfl
    ·exact z
   refine⟨cl,?_,h2,fun x z=>h3 x (up x z),fun y hy hf=>?_⟩
   ·rw[List.forIn_cons];simp only[hk,if_true];have:cellOf env n=pure a:=by unfold cellOf;rw[ha]
    rw[this];exact h1
   ·rcases List.mem_cons.mp hy with e|e
    ·subst e;exact h3 n (by rw[List.lookup_cons];simp)
    ·exact h4 y e hf
  ·obtain⟨cl,h1,h2,h3,h4⟩:=jT (env:=env) r cs (fun y hy=>h y (List.mem_cons_of_mem _ hy)) hc;refine⟨cl,?_,h2,h3,fun y hy hf=>?_⟩
   ·rw[List.forIn_cons];simp only[hk,if_false];exact h1
   ·rcases List.mem_cons.mp hy with e|e
    ·subst e;exact absurd (by simpa using hf) hk
    ·exact h4 y e hf
theorem vU {scope:Scope}{env:Env}(h:∀ y∈scope.names,y.2=.free->∃ c,env.cells.lookup y.1=some c) :
  ∃ cl,closureFor scope env=pure cl/\(∀ x c,cl.lookup x=some c->env.cells.lookup x=some c)/\∀ y∈scope.names,y.2=.free->(cl.lookup y.1).isSome=true:=by
 obtain⟨cl,h1,h2,_,h4⟩:=jT (env:=env) scope.names [] h (fun x c e=>by cases e)
 refine⟨cl,?_,h2,h4⟩;unfold closureFor;exact(congrArg (fun z=>z >>= fun r=>pure r) h1)
structure iP (N:List Str) (no:Nat) (fr:List Nat) (NX:List Str) (sc around:Scope):Prop where
 kind:sc.kind=.function
 nocell:∀ y∈sc.names,y.2≠.cell
 nd:N.Nodup
 len:N.length=no+fr.length
 loc:∀ y∈sc.names,y.2=.local->sc.names.lookup y.1=some .local
 free:∀ y∈sc.names,y.2=.free->around.names.lookup y.1=some .cell
 own:∀ (i:Nat) (x:Str),N[i]?=some x->i<no->sc.names.lookup x=some .local
 out:∀ (j i:Nat) (x:Str),fr[j]?=some i->N[no+j]?=some x->NX[i]?=some x/\sc.names.lookup x=some .free
def Fx (own:Nat)(fr:List Nat)(σ:St):St:=List.replicate own none++fr.map fun i=>(σ[i]?).join
def cX (X:Cx)(N:List Str)(scope:Scope)(cl:List (Str × Addr))(s:Shared)(H:Hp)(fp:List Addr):Cx:=
 {X with N:=N,s₀:=s,H₀:=H,env:=compEnvC scope cl s.heap.objs.size X.env,outer:=X.stack,ex:=fp,fn:=fun _=>false,pn:=[],xe:=fun _ _=>False}
theorem jY {env:Env}:∀ (names:List (Str × NameKind)) (x:Str),(names.map fun (n,k)=>if (k == NameKind.free && env.scope.kind == .function && env.kindOf n == some .cell) then (n,NameKind.cell) else (n,k)).lookup x =
  (names.lookup x).map fun k=>if (k == NameKind.free && env.scope.kind == .function && env.kindOf x == some .cell) then NameKind.cell else k
 | [],_=>rfl
 | (n,k)::r,x=>by
  rw[List.map_cons];show List.lookup x ((if (k == NameKind.free && env.scope.kind == .function && env.kindOf n == some .cell)=true then (n,NameKind.cell) else (n,k))::_)=_
  cases hx:x == n with
  | true=>
   have e:x=n:=by simpa using hx
   subst e
   by_cases hc:(k == NameKind.free && env.scope.kind == .function && env.kindOf x == some .cell)=true
   ·rw[if_pos hc];simp only[List.lookup_cons,hx];simp only[Option.map_some,hc,if_true]
   ·rw[if_neg hc];simp only[List.lookup_cons,hx];simp only[Option.map_some];rw[if_neg hc]
  | false=>
   by_cases hc:(k == NameKind.free && env.scope.kind == .function && env.kindOf n == some .cell)=true
   ·rw[if_pos hc];simp only[List.lookup_cons,hx];exact jY r x
   ·rw[if_neg hc];simp only[List.lookup_cons,hx];exact jY r x
theorem E6 {scope:Scope}{env:Env}(x:Str):(relabel scope env).names.lookup x=(scope.names.lookup x).map fun k=>if (k == NameKind.free && env.scope.kind == .function && env.kindOf x == some .cell) then NameKind.cell else k:=jY _ _
section
variable {X:Cx}{pins:List (Addr × Obj)}{σ:St}{H:Hp}{s:Shared}{N:List Str}{own:Nat}{fr:List Nat}{scope:Scope}{cl:List (Str × Addr)}{fp:List Addr}
theorem GH (S:iP N own fr X.N scope X.env.scope)(I:aP X pins σ H s)(hcl:∀ x c,cl.lookup x=some c->X.env.cells.lookup x=some c)(hcf:∀ y∈scope.names,y.2=.free->(cl.lookup y.1).isSome=true)
  (hfp:∀ b∈fp,qB X pins H b/\b<s.heap.objs.size) {h':Heap}{t:Nat}{m:Str->Option Value} (hns:h'.Ns s.heap.objs.size m) (hk:∀ b o,s.heap.get? b=some o->h'.get? b=some o) :
  aP (cX X N scope cl s H fp) [] (Fx own fr σ) H {s with heap:=h',toks:=t}:=by
 have kd:∀ x,(cX X N scope cl s H fp).env.kindOf x=(scope.names.lookup x).map fun k=>if (k == NameKind.free && X.env.scope.kind == .function && X.env.kindOf x == some .cell) then NameKind.cell else k:=fun x=>E6 x
 have memOf:∀ {l:List (Str × NameKind)}{x:Str}{k:NameKind},l.lookup x=some k->(x,k)∈l:=fun {l x k} e=>PySem.mem_of_lookup e;have isf:∀ x,((cX X N scope cl s H fp).env.kindOf x=some .cell\/(cX X N scope cl s H fp).env.kindOf x=some .free)->scope.names.lookup x=some .free:=fun x h=>by
  rw[kd]at h
  cases e:scope.names.lookup x with
  | none=>rw[e]at h;simp at h
  | some k=>
   rw[e]at h;simp only[Option.map_some,Option.some.injEq]at h
   by_cases hc:(k == NameKind.free && X.env.scope.kind == .function && X.env.kindOf x == some .cell)=true
   ·have:k=.free:=by
     rw[Bool.and_eq_true,Bool.and_eq_true]at hc;simpa using hc.1.1
    rw[this]
   ·rw[if_neg hc]at h
    rcases h with h|h
    ·exact absurd h (S.nocell _ (memOf e))
    ·rw[h]
 have cellX:∀ x c,cl.lookup x=some c->∃ v,s.heap.IsCell c v:=fun x c e=>I.cell x c (hcl x c e);have cellLt:∀ x c,cl.lookup x=some c->c<s.heap.objs.size:=fun x c e=>let ⟨v,q⟩:=cellX x c e;q.lt;refine⟨⟨I.ok.mod,S.kind,I.ok.glob,I.ok.blt,Nat.le_refl _,fun x y c h1 h2=>I.ok.inj x y c (hcl x c h1) (hcl y c h2),fun x hx=>?_,(fun x c h=>by cases h),I.ok.hd,I.ok.frames,.inl rfl,fun b hb=>⟨Nat.ne_of_lt (hfp b hb).2,fun x c e=>(hfp b hb).1.2.2.2.2.1 x c (hcl x c e)⟩,
   I.bs,Nat.le_trans I.ok.bsz I.sz,fun b o e hb=>?_,fun b hb z=>?_,I.stack,I.stkFree⟩,rfl,I.bare,Un.kept hk,⟨m,hns,fun i x v e1 e2 e3=>?_⟩,fun x c e=>?_,I.hok.fresh (Nat.le_refl _),fun x c e=>I.freeC x c (hcl x c e),fun p hp=>absurd (show p∈([]:List (Addr × Obj)) from hp) (by simp),I.hok.kept hk,?_⟩
 ·have:=hcf _ (memOf (isf x hx)) rfl;exact Option.isSome_iff_exists.mp this
 ·rcases(hfp b hb).1.2.2.2.1 with z|z
  ·exact I.ok.noex b o e z
  ·exact absurd (Nat.lt_of_lt_of_le (Heap.lt_size e) (Nat.le_trans I.ok.bsz z)) (Nat.lt_irrefl _)
 ·rcases List.mem_cons.mp (I.stkSub b z) with q|q
  ·exact(hfp b hb).1.2.1 q
  ·exact(hfp b hb).1.2.2.1 q
 ·
  have e2':(List.replicate own none++fr.map fun i=>(σ[i]?).join)[i]?=some (some v):=e2;have hi:own<=i:=by
   by_cases hi:i<own
   ·rw[List.getElem?_append_left (by simpa using hi),List.getElem?_replicate,if_pos hi]at e2'
    cases e2'
   ·omega
  rw[List.getElem?_append_right (by simpa using hi),List.length_replicate,List.getElem?_map]at e2'
  cases ef:fr[i-own]? with
  | none=>rw[ef]at e2';cases e2'
  | some k=>
   rw[ef]at e2';have ev:(σ[k]?).join=some v:=by simpa using e2'
   have ev':σ[k]?=some (some v):=by
    cases q:σ[k]? with
    | none=>rw[q]at ev;cases ev
    | some o=>rw[q]at ev;simpa using ev
   have eN:N[own+(i-own)]?=some x:=by
    rw[show own+(i-own)=i by omega];exact e1
   obtain⟨q1,q2⟩:=S.out (i-own) k x ef eN;have q3:X.env.scope.names.lookup x=some .cell:=S.free (x,.free) (memOf q2) rfl;obtain⟨mX,_,hl⟩:=I.loc;obtain⟨u,r,l⟩:=hl k x v q1 ev' (.inr (.inl q3));refine⟨u,r,?_⟩
   rcases l with ⟨l1,_⟩|⟨_,c,l2,l3⟩
   ·have:X.env.scope.names.lookup x=some .local:=l1;rw[q3]at this;cases this
   ·have hkd:(cX X N scope cl s H fp).env.kindOf x=some .cell:=by
     rw[kd,q2];simp only[Option.map_some];have e1:X.env.scope.kind=.function:=I.ok.kind;have e2:X.env.kindOf x=some .cell:=q3;rw[e1,e2]
     rfl
    have hc:=Option.isSome_iff_exists.mp (hcf (x,.free) (memOf q2) rfl);obtain⟨c',hc'⟩:=hc;have:c'=c:=by
     have:=hcl x c' hc';rw[l2]at this;exact(Option.some.inj this).symm
    subst this;exact .inr ⟨.inl hkd,c',hc',l3.keeps hk⟩
 ·obtain⟨v,q⟩:=cellX x c e;exact⟨v,q.keeps hk⟩
 ·show(Fx own fr σ).length=N.length;unfold Fx;rw[List.length_append,List.length_replicate,List.length_map,S.len]
end
abbrev Iw:Value->Shared->Prop:=fun _ _=>False
section
variable {P:Program}{w:World}{A:Around}{R:Result->Shared->Prop}
def OT (ifs:List Expr)(env:Env):Sem Bool:=
 forIn ifs true fun c r=>if r=true then do
                        let ok ← isTrue c env (eval c env)
                        pure (ForInStep.yield ok) else pure (ForInStep.yield r)
theorem L4 {env:Env}{s:Shared}{E:Value->Shared->Prop}{Q:Bool->Shared->Prop}(h:Q true s):wpAny (model P w) A (OT [] env) Q E s:=wpAny_tests_nil h
theorem L5 {env:Env}{c:Expr}{s:Shared}{E:Value->Shared->Prop}{Q:Bool->Shared->Prop}(h:wpAny (model P w) A (isTrue c env (eval c env)) Q E s):wpAny (model P w) A (OT [c] env) Q E s:=wpAny_tests_one h
theorem vI {elt tg iter:Expr}{ifs:List Expr}{sc:Scope}{pos:Pos}{it acc:Value}{env:Env}{s:Shared}(J:Nat->Shared->Prop)
  (go:∀ n s,J n s->wpAny (model P w) A (pyNext it) (fun r s1=>match r with
   | none=>R (.ok .next) s1
   | some v=>wpAny (model P w) A (letOwnedTupleGo tg it v) (fun _ s2=>wpAny (model P w) A (assign tg env v) (fun _ s3=>wpAny (model P w) A (OT ifs env) (fun ok s4=>
     if ok=true then wpAny (model P w) A (eval elt env) (fun x s5=>wpAny (model P w) A (call (.builtin "list.append") [acc,x]) (fun _ s6=>∃ m,m<n/\J m s6) Iw s5) Iw s4
     else ∃ m,m<n/\J m s4) Iw s3) Iw s2) Iw s1) Iw s)
  (n:Nat) (h:J n s):codeAny (model P w) A (.compLoop (.ListComp elt [⟨tg,iter,ifs,0⟩] sc pos) 0 it acc env) R s:=by
 have ex:∀ {α:Type}{t:Sem α}{Q:α->Shared->Prop}{s:Shared}{E:Value->Shared->Prop},wpAny (model P w) A t Q Iw s->wpAny (model P w) A t Q E s:=fun hh=>wpAny_mono hh (fun _ _ q=>q) fun _ _ z=>z.elim;refine codeAny_loop rfl J (fun n s hJ=>?_) n h;show wpAny _ _ ((compTurn _ 0 it acc env).onRaise (fun x=>do noteFrame x env;theTreesLotGoes x)) _ _ s
 refine wpAny_noted ?_;rw[compTurn_list];refine wpAny_bind (wpAny_standAt (wpAny_bind (cM (ex (go n s hJ)) fun r s1 h1=>?_)))
 cases r with
 | none=>exact wpAny_pure h1
 | some v=>
  refine wpAny_bind (cM (ex h1) fun _ s2 h2=>wpAny_bind (cM (ex h2) fun _ s3 h3=>?_));refine wpAny_bind (cM (ex h3) fun ok s4 h4=>?_)
  cases ok with
  | false=>exact wpAny_pure ⟨rfl,h4⟩
  | true=>
   exact wpAny_bind (wpAny_bind (cM (ex h4) fun x s5 h5=>wpAny_bind (cM (ex h5) fun _ s6 h6=>wpAny_pure (wpAny_pure ⟨rfl,h6⟩))))
end
def yM (own:Nat)(fr:List Nat)(wi:TI)(g:TG)(tc:TT)(te:TE):TE:=fun σ H Q=>wi σ H fun J H1=>∀ D,H1 D=none->∃ W:Nat->Nat->St->Hp->Prop,(∃ m,W 0 m (Fx own fr σ) (dy H1 D (.lst [])))/\∀ i m σ' H',W i m σ' H' →
 (J.stop i H'/\Q (.ref D) H')\/(J.go i H'/\∀ x H2,J.yld i H' x H2->g x σ' H2 fun σ2 H3=>tc σ2 H3 fun ok H4=>
  if ok=true then te σ2 H4 fun v H5=>∃ xs,H5 D=some (.lst xs)/\xs.length<sizeLine/\∃ m',m'<m/\W (i+1) m' σ2 (dy H5 D (.lst (xs++[v])))
  else ∃ m',m'<m/\W (i+1) m' σ2 H4)
def FF (Y:Cx)(ifs:List Expr)(t:TT):Prop:=
 ∀ (pins:List (Addr × Obj)) (s:Shared) (σ:St) (H:Hp) (Q:Bool->Hp->Prop),aP Y pins σ H s->t σ H Q->wpAny (model Y.prog Y.w) Y.A (OT ifs Y.env) (TP Y pins σ Q) Y.xe s
theorem HD {Y:Cx}:FF Y [] (fun σ H Q=>Q true H):=fun _ _ σ H _ I h=>L4 ⟨H,I,h⟩
theorem HE {Y:Cx}{c:Expr}{t:TT}(h:PT Y c t):FF Y [c] t:=fun pins s σ H Q I q=>L5 (h pins s σ H Q I q)
section
variable {X:Cx}{N:List Str}{own:Nat}{fr:List Nat}{scope:Scope}{elt tg iter:Expr}{ifs:List Expr}{pos:Pos}{wi:TI}{g:TG}{tc:TT}{te:TE}
theorem Turn.fpLt {P:Program}{w:World}{K:PySem.W.Frag}{J:It}{fp:List Addr}{it:Addr}{tn:Nat->Heap->Prop}(T:Turn P w K tg J fp it tn){i:Nat}{h:Heap}(st:tn i h):∀ b∈fp,b<h.objs.size:=fun b hb=>by
 obtain⟨o,e,_⟩:=T.obj i h st b hb;exact Heap.lt_size e
def CompEnd (X:Cx)(pins:List (Addr × Obj))(σ:St)(Q:VK)(use:Option (Value->Sem Unit))(QQ:Value->Shared->Prop):Prop:=
 ∀ (D C:Addr) (H':Hp) (s5:Shared) (m5:Str->Option Value),(∀ h6,Heap.SameBut C s5.heap h6->aP X pins σ H' {s5 with heap:=h6})->s5.heap.Ns C m5->H' C=none->X.s₀.heap.objs.size<=C->X.env.locals≠C->(∀ x c,X.env.cells.lookup x=some c->c≠C)->(∀ p∈X.pn++pins,p.1≠C)->Q (.ref D) H' →
  compPost (model X.prog X.w) X.A X.xe use QQ (.ref D) C (.ok .next) s5
theorem pS {use:Option (Value->Sem Unit)}{QQ:Value->Shared->Prop}{ps:Pos}(S:iP N own fr X.N scope X.env.scope)(hc:X.calm=true)(hi:PI X tg iter wi)
  (hg:∀ cl s H fp,PG (cX X N scope cl s H fp) tg g) (ht:∀ cl s H fp,FF (cX X N scope cl s H fp) ifs tc) (he:∀ cl s H fp,PE (cX X N scope cl s H fp) elt te)
  (hs:∀ x,foldedSetIterable iter X.env x=pure x) {pins:List (Addr × Obj)}{s:Shared}{σ:St}{H:Hp}{Q:VK} (I:aP X pins σ H s) (h:yM own fr wi g tc te σ H Q) (finish:CompEnd X pins σ Q use QQ) :
  wpAny (model X.prog X.w) X.A (comprehension (.ListComp elt [⟨tg,iter,ifs,0⟩] scope pos) scope X.env ps (newList []) false (eval iter X.env) use) QQ X.xe s:=by
 obtain⟨cl,hclos,hcl,hcf⟩:=vU (scope:=scope) (env:=X.env) fun y hy hf=>I.ok.has y.1 (.inl (S.free y hy hf));refine wpAny_comprehension_free (use:=use) rfl hs hclos S.kind S.loc (cM (hi pins s σ H _ I h) fun v s1 h1=>cM h1 fun itv s2 h2=>?_);obtain⟨it,fp,tn,J,H2,e,I2,T,st2,f2,h2⟩:=h2;subst e;refine wpAny_newObj_type ?_ (Nat.zero_le _);have fr2:H2 s2.heap.objs.size=none:=I2.hok.fresh (Nat.le_refl _);obtain⟨W,⟨m0,w0⟩,turn⟩:=h2 s2.heap.objs.size fr2;have I3:aP X pins σ (dy H2 s2.heap.objs.size (.lst [])) {s2 with heap:=s2.heap.push {cls:=.type "list",data:=.seq ([]:List Value).toArray}}:=I2.lnew (t':=s2.toks) (its:=[]) .nil (Nat.zero_le _);have st3:tn 0 (s2.heap.push {cls:=.type "list",data:=.seq ([]:List Value).toArray}):=T.keep _ _ _ st2 fun b _ o e=>Heap.get?_push_of_some _ e;generalize Mn:({s2 with heap:=s2.heap.push {cls:=.type "list",data:=.seq ([]:List Value).toArray}}:Shared)=s3 at I3;have st3':tn 0 s3.heap:=by rw[<-Mn];exact st3
 have f3:∀ b∈fp,qB X pins (dy H2 s2.heap.objs.size (.lst [])) b:=fun b hb=>by
  obtain⟨q0,q⟩:=f2 b hb;refine⟨?_,q⟩;rw[b8 (Nat.ne_of_lt (T.fpLt st2 b hb))];exact q0
 refine wpAny_newFunctionEnv S.nocell (fun y hy=>by cases hy) (fun h4 hns4 hsb4=>?_) S.kind
 have hk4:∀ b o,s3.heap.get? b=some o->h4.get? b=some o:=fun b o e=>hsb4.extBut b o (Nat.ne_of_lt (Heap.lt_size e)) (Heap.get?_push_of_some _ e);have I4:aP (cX X N scope cl s3 (dy H2 s2.heap.objs.size (.lst [])) fp) [] (Fx own fr σ) (dy H2 s2.heap.objs.size (.lst [])) {s3 with heap:=h4,toks:=s3.toks+([]:List (Str × Value)).length}:=
  GH S I3 hcl hcf (fun b hb=>⟨f3 b hb,T.fpLt st3' b hb⟩) hns4 hk4
 have st4:tn 0 h4:=T.keep _ _ _ st3' fun b _ o e=>hk4 b o e;generalize hY:cX X N scope cl s3 (dy H2 s2.heap.objs.size (.lst [])) fp=Y at I4;have hg':=hg cl s3 (dy H2 s2.heap.objs.size (.lst [])) fp;have ht':=ht cl s3 (dy H2 s2.heap.objs.size (.lst [])) fp;have he':=he cl s3 (dy H2 s2.heap.objs.size (.lst [])) fp;rw[hY]at hg' ht' he';have yp:Y.prog=X.prog:=by rw[<-hY];rfl
 have yw:Y.w=X.w:=by rw[<-hY];rfl
 have yK:Y.K=X.K:=by rw[<-hY];rfl
 have yA:Y.A=X.A:=by rw[<-hY];rfl
 have yc:Y.calm=true:=by rw[<-hY];exact hc
 have yx:Y.xe=Iw:=by rw[<-hY];rfl
 have ye:Y.env=compEnvC scope cl s3.heap.objs.size X.env:=by rw[<-hY];rfl
 have fin:∀ {σ':St}{H':Hp}{s5:Shared},aP Y [] σ' H' s5->Q (.ref s2.heap.objs.size) H'->compPost (model X.prog X.w) X.A X.xe use QQ (.ref s2.heap.objs.size) s3.heap.objs.size (.ok .next) s5:=fun {σ' H' s5} I5 q=>by
  obtain⟨m5,hn5,_⟩:=I5.loc;have yl:Y.env.locals=s3.heap.objs.size:=by rw[ye];rfl
  rw[yl]at hn5;have un:=I5.base;have y1:Y.fs=vn X.stack:=by rw[<-hY];rfl
  have y2:Y.ex=fp:=by rw[<-hY];rfl
  have y3:Y.H₀=dy H2 s2.heap.objs.size (.lst []):=by rw[<-hY];rfl
  have y4:Y.s₀=s3:=by rw[<-hY];rfl
  rw[y1,y2,y3,y4]at un;have free6:H' s3.heap.objs.size=none:=by rw[<-yl];exact I5.free
  refine finish s2.heap.objs.size s3.heap.objs.size H' s5 m5 (fun h6 hs6=>?_) hn5 free6 I3.sz (Nat.ne_of_lt I3.lt) (fun x c e=>?_) (fun p hp=>?_) q
  ·have k6:∀ b o,b≠s3.heap.objs.size->s5.heap.get? b=some o->h6.get? b=some o:=fun b o hb e=>hs6.extBut b o hb e;have old:∀ b o,s3.heap.get? b=some o->b≠s3.heap.objs.size:=fun b o e=>Nat.ne_of_lt (Heap.lt_size e);have un6:Un (vn X.stack) fp (dy H2 s2.heap.objs.size (.lst [])) H' s3.heap h6:=
    ⟨fun b o e n hb hx=>k6 b o (old b o e) (un.keep b o e n hb hx),fun b o e n hb hx=>by obtain⟨sl,q⟩:=un.slot b o e n hb hx;exact⟨sl,k6 b _ (old b o e) q⟩,un.free,fun b o e hx=>by obtain⟨o',q⟩:=un.there b o e hx;exact⟨o',k6 b o' (old b o e) q⟩,un.tups,un.frzs,un.tbls⟩
   have hok6:g7 X.prog X.w H' h6:=by
    have:=I5.hok;rw[yp,yw]at this;refine fun a o e=>(this a o e).stay (fun b u hb q=>k6 b u ?_ q) (fun _ z=>z) fun _ _ z=>z
    rcases hb with z|z
    ·subst z;intro z;rw[z,free6]at e;cases e
    ·intro y;rw[y,free6]at z;cases z
   obtain⟨hh,gg,dd,tt,os'⟩:=s5;have ho:os'=s3.os:=by have:=I5.os;rw[y4]at this;exact this
   subst ho;refine aP.call (s:=s3) I3 (h':=h6) (g':=gg) (d':=dd) (t':=tt) (ch:=fp) un6 hok6 I5.bare (fun b hb=>?_);obtain⟨_,q1,_,q3,q4,q5⟩:=f3 b hb;exact⟨q3,q1,q4,q5⟩
  ·obtain⟨v,oc,ho,_⟩:=I3.cell x c e;exact Nat.ne_of_lt (Heap.lt_size ho)
  ·obtain⟨e,_⟩:=I3.pin p hp;exact Nat.ne_of_lt (Heap.lt_size e)
 have loop:∀ s4:Shared,aP Y [] (Fx own fr σ) (dy H2 s2.heap.objs.size (.lst [])) s4->tn 0 s4.heap->codeAny (model X.prog X.w) X.A (.compLoop (.ListComp elt [⟨tg,iter,ifs,0⟩] scope pos) 0 (.ref it) (.ref s2.heap.objs.size) (compEnvC scope cl s3.heap.objs.size X.env))
   (compPost (model X.prog X.w) X.A X.xe use QQ (.ref s2.heap.objs.size) s3.heap.objs.size) s4:=by
  intro s4 I4 st4;have stat:∀ {H':Hp},(∀ b∈fp,H' b=none)->∀ b∈fp,qB Y [] H' b:=fun {H'} hn b hb=>by
   obtain⟨_,q1,q2,q3,q4,q5⟩:=f3 b hb;refine⟨hn b hb,?_,?_,?_,fun x c e=>?_,fun p hp=>?_⟩
   ·rw[ye];exact Nat.ne_of_lt (T.fpLt st3' b hb)
   ·have:Y.fs=vn X.stack:=by rw[<-hY];rfl
    rw[this];intro z
    rcases List.mem_cons.mp (I3.stkSub b z) with q|q
    ·exact q1 q
    ·exact q2 q
   ·left;rw[<-hY];exact hb
   ·rw[ye]at e;exact q4 x c (hcl x c e)
   ·rw[<-hY]at hp;cases hp
  refine vI (fun n s'=>∃ i σ' H',aP Y [] σ' H' s'/\tn i s'.heap/\(∀ b∈fp,H' b=none)/\W i n σ' H') ?_ m0 ⟨0,_,_,I4,st4,fun b hb=>(f3 b hb).1,w0⟩;rintro n s5 ⟨i,σ5,H5,I5,st5,fr5,w5⟩;rw[<-yp,<-yw,<-yA,<-ye,<-yx];have T':Turn Y.prog Y.w Y.K tg J fp it tn:=by rw[yp,yw,yK];exact T
  rcases turn i n σ5 H5 w5 with ⟨stop,qn⟩|⟨go,step⟩
  ·refine cM (T'.done Y rfl rfl rfl yc i [] s5 σ5 H5 Y.xe I5 (stat fr5) st5 stop) fun r s6 ⟨hr,I6⟩=>?_;subst hr;have q:=fin I6 qn;rw[<-yp,<-yw,<-yA]at q;exact q
  ·refine cM (T'.item Y rfl rfl rfl yc i [] s5 σ5 H5 Y.xe I5 (stat fr5) st5 go) fun r s6 ⟨u,hr,h6⟩=>?_;subst hr;refine cM h6 fun _ s7 ⟨x,H7,I7,r7,y7,st7,fr7⟩=>?_;have I7':=I7.pinned (stat fr7) (T.obj _ _ st7);have stay:∀ {σ8:St}{H8:Hp}{s8:Shared},aP Y ([]++nZ fp s7.heap) σ8 H8 s8->tn (i+1) s8.heap/\∀ b∈fp,H8 b=none:=fun {σ8 H8 s8} I8=>by
    refine⟨T.keep _ _ _ st7 fun b hb o e=>(I8.pin (b,o) (List.mem_append_right _ (List.mem_append_right _ (iw hb e)))).1,fun b hb=>?_⟩;obtain⟨o,e,d⟩:=T.obj _ _ st7 b hb;exact(I8.pin (b,o) (List.mem_append_right _ (List.mem_append_right _ (iw hb e)))).2.1
   refine cM (hg' _ s7 σ5 H7 x u _ I7' r7 (step x H7 y7)) fun _ s8 ⟨σ8,H8,I8,q8⟩=>?_;refine cM (ht' _ s8 σ8 H8 _ I8 q8) fun ok s9 ⟨H9,I9,q9⟩=>?_
   cases ok with
   | false=>
    obtain⟨m',hm,w9⟩:=q9;obtain⟨t9,f9⟩:=stay I9;exact⟨m',hm,i+1,σ8,H9,I9.unpinned,t9,f9,w9⟩
   | true=>
    refine cM (he' _ s9 σ8 H9 _ I9 q9) fun y s10 ⟨v,H10,I10,r10,xs,hD,hz,m',hm,w10⟩=>?_;refine cM (qe (X:=Y) _ s10 σ8 H10 (.ref s2.heap.objs.size) [v] (.ref s2.heap.objs.size) [y] (fun _ H'=>H'=dy H10 s2.heap.objs.size (.lst (xs++[v]))) I10 rfl (.cons r10 .nil) ⟨_,xs,v,rfl,rfl,hD,hz,rfl⟩) fun _ s11 ⟨_,H11,I11,_,q11⟩=>?_;subst q11;obtain⟨t11,f11⟩:=stay I11;exact⟨m',hm,i+1,σ8,_,I11.unpinned,t11,f11,w10⟩
 have oO:codeAny (model X.prog X.w) X.A (.compLoop (.ListComp elt [⟨tg,iter,ifs,0⟩] scope pos) 0 (.ref it) (.ref s2.heap.objs.size) (compEnvC scope cl s3.heap.objs.size X.env)) (compPost (model X.prog X.w) X.A X.xe use QQ (.ref s2.heap.objs.size) s3.heap.objs.size) {s3 with heap:=h4,toks:=s3.toks+([]:List (Str × Value)).length}:=
  loop _ I4 st4
 exact codeAny_compStart_list oO (T.self X.A 0 _ _ _ st4 oO)
theorem Hr (S:iP N own fr X.N scope X.env.scope)(hc:X.calm=true)(hi:PI X tg iter wi)
  (hg:∀ cl s H fp,PG (cX X N scope cl s H fp) tg g) (ht:∀ cl s H fp,FF (cX X N scope cl s H fp) ifs tc) (he:∀ cl s H fp,PE (cX X N scope cl s H fp) elt te)
  (hs:∀ x,foldedSetIterable iter X.env x=pure x:=by intro _;rfl):PE X (.ListComp elt [⟨tg,iter,ifs,0⟩] scope pos) (yM own fr wi g tc te):=by
 intro pins s σ H Q I h;rw[eval_ListComp];exact pS S hc hi hg ht he hs I h fun D C H' s5 m5 hI hn _ _ _ _ _ q=>⟨m5,hn,fun h6 hs6=>⟨.ref D,H',hI h6 hs6,rfl,q⟩⟩
theorem Hz {i:Nat}{x:Str}{pos1 pos':Pos}(hN:X.N.Nodup)(hi':X.N[i]?=some x)(hx:Loc X.env.scope x)(S:iP N own fr X.N scope X.env.scope)(hc:X.calm=true)(hi:PI X tg iter wi)
  (hg:∀ cl s H fp,PG (cX X N scope cl s H fp) tg g) (ht:∀ cl s H fp,FF (cX X N scope cl s H fp) ifs tc) (he:∀ cl s H fp,PE (cX X N scope cl s H fp) elt te)
  (hs:∀ x,foldedSetIterable iter X.env x=pure x:=by intro _;rfl) (hw:swapsWith (.ListComp elt [⟨tg,iter,ifs,0⟩] scope pos) (some (.Name x pos')) pos1.line X.env=pure true:=by rfl) (hf:X.fn x=true\/X.env.scope.names.lookup x=some .local:=by first|exact .inl rfl|exact .inr rfl|assumption) :
  PS X (.Assign [.Name x pos'] (.ListComp elt [⟨tg,iter,ifs,0⟩] scope pos) pos1) (LZ (yM own fr wi g tc te) (C3 i)):=by
 intro pins s σ H D I h;rw[exec_Assign_Name_used x pos' _ pos1 hw];refine wpAny_bind (wpAny_standAt (wpAny_bind ?_));rw[arm_evalThenUse_ListComp];refine wpAny_bind (cM (pS (use:=some (assign (.Name x pos') X.env)) (QQ:=fun _ s'=>SP X pins D .next s') S hc hi hg ht he hs I h fun D' C H' s5 m5 hI hn hfree hsz hL hcs hps q=>?_) fun _ s' h=>wpAny_pure (wpAny_pure h));show wpAny _ _ (assign (.Name x pos') X.env (.ref D')) _ _ s5;refine wpAny_assign_Name (qr (hI s5.heap (.refl ..)) hN hi' hx (show RelV (.ref D') (.ref D') from rfl) (fun s6 I6 ⟨a,hsb,ha⟩=>?_) hf);have nC:a≠C:=by
  rcases ha with z|z
  ·rw[z];exact hL
  ·exact hcs x a z
 refine⟨m5,hn.sameBut hsb (Ne.symm nC),fun h6 hs6=>?_⟩;exact⟨_,H',I6.turned (t':=s6.toks) (it:=C) (fun b o hb e=>hs6.extBut b o hb e) hfree (Ne.symm hL) (.inr hsz) hcs hps,q⟩
end
end L2
namespace ST
open PySem PySem.SetTable
def line (mask:Nat):Nat->Nat->Nat->List Nat
 | 0,_,_=>[]
 | n+1,i,p=>(List.range (runEnd mask i+1-i)).map (i + ·)++line mask n (leap mask i p).1 (leap mask i p).2
def rem (mask N:Nat)(p:Probe):List Nat:=
 (List.range (p.more+1)).map (p.j + ·)++line mask N (leap mask p.i p.perturb).1 (leap mask p.i p.perturb).2
def way (mask:Nat)(h:Int):List Nat:=line mask (mask+14) (bits h % (mask+1)) (bits h)
theorem lT (mask i:Nat):i<=runEnd mask i:=by unfold runEnd;split <;> omega
theorem AF (mask i:Nat):runEnd mask i<=i+9:=by unfold runEnd;split <;> omega
theorem i7 (mask:Nat):∀ n i p,(line mask n i p).length<=10*n
 | 0,_,_=>by simp[line]
 | n+1,i,p=>by
  have h1:=i7 mask n (leap mask i p).1 (leap mask i p).2;have h2:=AF mask i;simp only[line,List.length_append,List.length_map,List.length_range];omega
theorem AD (t:SetTable)(h:Int)(N:Nat):rem t.mask N (t.probeStart h)=line t.mask (N+1) (bits h % (t.mask+1)) (bits h):=by
 have h1:=lT t.mask (bits h % (t.mask+1));unfold rem probeStart;simp only[line];rw[show runEnd t.mask (bits h % (t.mask+1))-bits h % (t.mask+1)+1=runEnd t.mask (bits h % (t.mask+1))+1-bits h % (t.mask+1) by omega]
theorem yJ (t:SetTable)(h:Int):rem t.mask (t.mask+13) (t.probeStart h)=way t.mask h:=AD t h _
theorem n6 (m j:Nat):(List.range (m+1+1)).map (j + ·)=j::(List.range (m+1)).map (j+1 + ·):=by
 rw[List.range_succ_eq_map,List.map_cons,List.map_map]
 congr 1
 exact List.map_congr_left fun a _=>by simp only[Function.comp];omega
theorem E8 {t:SetTable}{N:Nat}{p:Probe}(h:0<p.more):rem t.mask N p=p.j::rem t.mask N (t.advance p):=by
 obtain⟨j,more,i,per,d⟩:=p
 cases more with
 | zero=>simp at h
 | succ m=>
  simp only[rem,advance,Nat.succ_pos,if_true,gt_iff_lt,Nat.zero_lt_succ];rw[n6]
  rfl
theorem E7 {t:SetTable}{N:Nat}{p:Probe}(h:p.more=0):rem t.mask (N+1) p=p.j::rem t.mask N (t.advance p):=by
 obtain⟨j,more,i,per,d⟩:=p;simp only at h;subst h;have h1:=lT t.mask (leap t.mask i per).1;simp only[rem,advance,line,gt_iff_lt,Nat.lt_irrefl,if_false];rw[show runEnd t.mask (leap t.mask i per).1-(leap t.mask i per).1+1=runEnd t.mask (leap t.mask i per).1+1-(leap t.mask i per).1 by omega]
 simp
theorem jI {t:SetTable}{p:Probe}:(t.advance p).dummy=p.dummy:=by
 unfold advance;split <;> rfl
theorem GD {t:SetTable}{hashAt:Nat->Int}{h:Int}(nd:∀ j,t.slot j≠.dummy):∀ (fuel N:Nat) (p:Probe),(rem t.mask N p).length<=fuel->p.dummy=none →
  (∃ j∈rem t.mask N p,t.slot j=.empty) →
  ∃ pre j post,rem t.mask N p=pre++j::post/\(∀ x∈pre,∃ i,t.slot x=.live i/\hashAt i≠h) ∧
   (
    (t.slot j=.empty/\probe.go t hashAt h fuel p=some (.empty j none)) ∨
    (∃ i N' p',t.slot j=.live i/\hashAt i=h/\probe.go t hashAt h fuel p=some (.candidate j i p')/\rem t.mask N' p'=post/\p'.dummy=none)):=by
 intro fuel
 induction fuel with
 | zero=>
  intro N p hl _ ⟨j,hj,_⟩;have:=List.length_pos_of_mem hj;omega
 | succ fuel ih=>
  intro N p hl hd ⟨j,hj,hje⟩;have key:(∃ N',rem t.mask N p=p.j::rem t.mask N' (t.advance p))\/rem t.mask N p=[p.j]:=by
   rcases Nat.eq_zero_or_pos p.more with h0|h0
   ·cases N with
    | zero=>right;simp[rem,h0,line]
    | succ N=>left;exact⟨N,E7 h0⟩
   ·left;exact⟨N,E8 h0⟩
  cases hs:t.slot p.j with
  | dummy=>exact absurd hs (nd _)
  | empty=>
   have hgo:probe.go t hashAt h (fuel+1) p=some (.empty p.j none):=by
    simp only[probe.go,hs,hd]
   rcases key with ⟨N',e⟩|e
   ·exact⟨[],p.j,_,e,by simp,.inl ⟨hs,hgo⟩⟩
   ·exact⟨[],p.j,[],e,by simp,.inl ⟨hs,hgo⟩⟩
  | live i=>
   rcases key with ⟨N',e⟩|e
   ·by_cases hh:hashAt i=h
    ·refine⟨[],p.j,_,e,by simp,.inr ⟨i,N',t.advance p,hs,hh,?_,rfl,jI.trans hd⟩⟩
     simp only[probe.go,hs,hh,beq_self_eq_true,if_true]
    ·have hgo:probe.go t hashAt h (fuel+1) p=probe.go t hashAt h fuel (t.advance p):=by
      simp only[probe.go,hs];rw[if_neg (by simpa using hh)]
     rw[e]at hj hl;have hj':j∈rem t.mask N' (t.advance p):=by
      rcases List.mem_cons.mp hj with rfl|hj
      ·rw[hje]at hs;exact nomatch hs
      ·exact hj
     simp only[List.length_cons]at hl;obtain⟨pre,j',post,e',hpre,hh'⟩:=ih N' (t.advance p) (by omega) (jI.trans hd) ⟨j,hj',hje⟩
     refine⟨p.j::pre,j',post,by rw[e,e'];rfl,?_,by rw[hgo];exact hh'⟩
     intro x hx
     rcases List.mem_cons.mp hx with rfl|hx
     ·exact⟨i,hs,hh⟩
     ·exact hpre x hx
   ·rw[e]at hj;obtain rfl:=List.mem_singleton.mp hj;rw[hje]at hs;exact nomatch hs
def PB (mask:Nat):Nat->Nat->Nat->Nat
 | 0,_,acc=>acc
 | n+1,i,acc=>PB mask n ((i*5+1) % (mask+1)) (acc ||| (1 <<< i))
theorem GZ (mask i:Nat):i∈(List.range (runEnd mask i+1-i)).map (i + ·):=
 List.mem_map.mpr ⟨0,List.mem_range.mpr (by have:=lT mask i;omega),by omega⟩
theorem yz (mask j:Nat):∀ n i acc,(PB mask n i acc).testBit j=true->acc.testBit j=true\/j∈line mask n i 0
 | 0,i,acc,h=>.inl h
 | n+1,i,acc,h=>by
  rcases yz mask j n _ _ h with h|h
  ·rw[Nat.testBit_or,Bool.or_eq_true]at h
   rcases h with h|h
   ·exact .inl h
   ·right
    have:j=i:=by
     rw[Nat.one_shiftLeft,Nat.testBit_two_pow]at h;simpa using (of_decide_eq_true h).symm
    subst this;exact List.mem_append_left _ (GZ mask j)
  ·right
   exact List.mem_append_right _ (by simpa [leap] using h)
def G9 (mask:Nat):Prop:=mask=7\/mask=31\/mask=127
theorem Hn {mask:Nat}(ok:G9 mask):∀ i,i<mask+1->PB mask (mask+1) i 0=2 ^ (mask+1)-1:=by
 rcases ok with rfl|rfl|rfl <;> decide +kernel
theorem Af {mask i j:Nat}(ok:G9 mask)(hi:i<mask+1)(hj:j<mask+1):j∈line mask (mask+1) i 0:=by
 rcases yz mask j (mask+1) i 0 (by rw[Hn ok i hi,Nat.testBit_two_pow_sub_one];simpa using hj) with h|h
 ·simp at h
 ·exact h
theorem qb {mask n j:Nat}(hz:∀ i,i<mask+1->j∈line mask n i 0):∀ k i p,i<mask+1->p<32 ^ k->j∈line mask (k+n) i p
 | 0,i,p,hi,hp=>by
  have:p=0:=by simpa using hp
  subst this;rw[Nat.zero_add];exact hz i hi
 | k+1,i,p,hi,hp=>by
  rw[Nat.add_right_comm];refine List.mem_append_right _ (qb hz k _ _ (Nat.mod_lt _ (Nat.succ_pos _)) ?_);show p / 32<32 ^ k;rw[Nat.div_lt_iff_lt_mul (by decide)]
  rwa [Nat.pow_succ]at hp
theorem Gc (h:Int):bits h<2 ^ 64:=by
 unfold bits;have h1:h % (2 ^ 64:Int)<2 ^ 64:=Int.emod_lt_of_pos _ (by decide)
 have h2:0<=h % (2 ^ 64:Int):=Int.emod_nonneg _ (by decide)
 omega
theorem yU {mask j:Nat}{h:Int}(ok:G9 mask)(hj:j<=mask):j∈way mask h:=by
 unfold way;rw[show mask+14=13+(mask+1) by omega]
 exact qb (fun i hi=>Af ok hi (by omega)) 13 _ _ (Nat.mod_lt _ (Nat.succ_pos _)) (Nat.lt_of_lt_of_le (Gc h) (by decide))
theorem yo {mask x:Nat}:∀ n i p,i<=mask->x∈line mask n i p->x<=mask
 | 0,_,_,_,h=>by simp[line]at h
 | n+1,i,p,hi,h=>by
  rcases List.mem_append.mp h with h|h
  ·obtain⟨k,hk,rfl⟩:=List.mem_map.mp h;have hk:=List.mem_range.mp hk;unfold runEnd at hk
   split at hk <;> omega
  ·exact yo n _ _ (Nat.le_of_lt_succ (Nat.mod_lt _ (Nat.succ_pos _))) h
theorem xv {mask x:Nat}{h:Int}(hx:x∈way mask h):x<=mask:=yo _ _ _ (Nat.le_of_lt_succ (Nat.mod_lt _ (Nat.succ_pos _))) hx
theorem Bv {xs:Array Nat}{j:Nat}(ris:xs.toList.Pairwise (· < ·)):∀ fuel lo hi,hi-lo<=fuel->lo<=hi->hi<=xs.size →
  (∀ m (h:m<xs.size),m<lo->xs[m]<j)->(∀ m (h:m<xs.size),hi<=m->¬ xs[m]<j) →
  below.go xs j fuel lo hi<=xs.size/\∀ m (h:m<xs.size),m<below.go xs j fuel lo hi↔xs[m]<j:=by
 intro fuel;have mono:∀ a b (ha:a<xs.size) (hb:b<xs.size),a<b->xs[a]<xs[b]:=fun a b ha hb hab=>by
  have:=List.pairwise_iff_getElem.mp ris a b (by simpa using ha) (by simpa using hb) hab
  simpa using this
 induction fuel with
 | zero=>
  intro lo hi hf hl hs h1 h2;have:lo=hi:=by omega
  subst this;refine⟨hs,fun m h=>⟨h1 m h,fun hm=>?_⟩⟩
  rcases Nat.lt_or_ge m lo with hh|hh
  ·exact hh
  ·exact absurd hm (h2 m h hh)
 | succ fuel ih=>
  intro lo hi hf hl hs h1 h2;simp only[below.go]
  by_cases hlt:lo<hi
  ·rw[if_pos hlt];have hm:(lo+hi) / 2<xs.size:=by omega
   have hg:xs.getD ((lo+hi) / 2) j=xs[(lo+hi) / 2]:=by simp[Array.getD,hm]
   rw[hg]
   by_cases hc:xs[(lo+hi) / 2]<j
   ·rw[if_pos hc];refine ih _ _ (by omega) (by omega) hs (fun m h hm'=>?_) h2
    rcases Nat.lt_or_ge m ((lo+hi) / 2) with hh|hh
    ·exact Nat.lt_trans (mono m _ h hm hh) hc
    ·have:m=(lo+hi) / 2:=by omega
     subst this;exact hc
   ·rw[if_neg hc];refine ih _ _ (by omega) (by omega) (by omega) h1 (fun m h hm'=>?_)
    rcases Nat.lt_or_ge ((lo+hi) / 2) m with hh|hh
    ·exact fun hx=>hc (Nat.lt_trans (mono _ m hm h hh) hx)
    ·have:m=(lo+hi) / 2:=by omega
     subst this;exact hc
  ·rw[if_neg hlt];have:lo=hi:=by omega
   subst this;refine⟨hs,fun m h=>⟨h1 m h,fun hm=>?_⟩⟩
   rcases Nat.lt_or_ge m lo with hh|hh
   ·exact hh
   ·exact absurd hm (h2 m h hh)
theorem kc {xs:Array Nat}(j:Nat)(ris:xs.toList.Pairwise (· < ·)) :
  below xs j<=xs.size/\∀ m (h:m<xs.size),m<below xs j↔xs[m]<j:=
 Bv ris _ _ _ (by omega) (by omega) (Nat.le_refl _) (fun m _ h=>by omega) (fun m h h'=>by omega)
theorem below_at {xs:Array Nat}(ris:xs.toList.Pairwise (· < ·))(i:Nat)(hi:i<xs.size):below xs xs[i]=i:=by
 obtain⟨h1,h2⟩:=kc xs[i] ris;have mono:∀ a b (ha:a<xs.size) (hb:b<xs.size),a<b->xs[a]<xs[b]:=fun a b ha hb hab=>by
  have:=List.pairwise_iff_getElem.mp ris a b (by simpa using ha) (by simpa using hb) hab
  simpa using this
 rcases Nat.lt_trichotomy (below xs xs[i]) i with h|h|h
 ·have:=(h2 (below xs xs[i]) (by omega)).mpr (mono _ _ (by omega) hi h)
  omega
 ·exact h
 ·have:=(h2 i hi).mp h;omega
theorem x8 (j:Nat):has #[] j=false:=by
 unfold has;simp
theorem AL {t:SetTable}(ris:t.place.toList.Pairwise (· < ·))(i:Nat)(hi:i<t.place.size):t.slot t.place[i]=.live i:=by
 unfold slot;simp only[below_at ris i hi];simp[hi]
theorem slot_of {t:SetTable}(ris:t.place.toList.Pairwise (· < ·))(nd:t.dummies=#[])(j:Nat) :
  (t.slot j=.empty/\j∉t.place.toList)\/∃ i,∃ hi:i<t.place.size,t.slot j=.live i/\t.place[i]=j:=by
 by_cases hj:j∈t.place.toList
 ·right
  obtain⟨i,hi,e⟩:=List.getElem_of_mem hj;have hi':i<t.place.size:=by simpa using hi
  have e':t.place[i]=j:=by simpa using e
  exact⟨i,hi',by rw[<-e'];exact AL ris i hi',e'⟩
 ·left
  refine⟨?_,hj⟩;unfold slot;have hne:(t.place[below t.place j]? == some j)=false:=by
   rw[beq_eq_false_iff_ne];intro e;obtain⟨hb,e⟩:=Array.getElem?_eq_some_iff.mp e;exact hj (by rw[<-e];simp)
  simp only[hne,nd,x8];simp
end ST
namespace ST
open PySem PySem.SetTable
structure Tab (t:SetTable) (es:Array (Int × Value)) (ps:List (Nat × (Int × Value))):Prop where
 pl:t.place.toList=ps.map (·.1)
 en:es.toList=ps.map (·.2)
 ris:(ps.map (·.1)).Pairwise (· < ·)
 top:∀ q∈ps,q.1<=t.mask
 dum:t.dummies=#[]
 ok:G9 t.mask
 reach:∀ q∈ps,∃ pre post,way t.mask q.2.1=pre++q.1::post/\∀ x∈pre,x∈ps.map (·.1)
def cz (mask n:Nat):Prop:=(mask=7/\n<=4)\/(mask=31/\n<=18)\/(mask=127/\n<=76)
namespace Tab
variable {t:SetTable}{es:Array (Int × Value)}{ps:List (Nat × (Int × Value))}
theorem psz (T:Tab t es ps):t.place.size=ps.length:=by rw[<-Array.length_toList,T.pl,List.length_map]
theorem esz (T:Tab t es ps):es.size=ps.length:=by rw[<-Array.length_toList,T.en,List.length_map]
theorem ris' (T:Tab t es ps):t.place.toList.Pairwise (· < ·):=by rw[T.pl];exact T.ris
theorem fits (T:Tab t es ps)(r:ps.length<=t.mask):t.fits es.size=true:=by
 simp only[SetTable.fits,SetTable.fill,T.dum,T.psz,T.esz];simpa using r
theorem put (T:Tab t es ps){j:Nat}{e:Int × Value}(hj:j<=t.mask)(hn:j∉ps.map (·.1))
  (hr:∃ pre post,way t.mask e.1=pre++j::post/\∀ x∈pre,x∈ps.map (·.1)) :
  Tab (t.put j).1 (insertAt es (t.put j).2 e) (ps.take (t.put j).2++(j,e)::ps.drop (t.put j).2):=by
 have hmem:∀ x,x∈ps.map (·.1)->x∈(ps.take (t.put j).2++(j,e)::ps.drop (t.put j).2).map (·.1):=fun x hx=>by
  obtain⟨q,hq,rfl⟩:=List.mem_map.mp hx;refine List.mem_map.mpr ⟨q,?_,rfl⟩;rw[<-List.take_append_drop (t.put j).2 ps]at hq
  rcases List.mem_append.mp hq with h|h
  ·exact List.mem_append_left _ h
  ·exact List.mem_append_right _ (List.mem_cons_of_mem _ h)
 have hmem':∀ q,q∈ps.take (t.put j).2++(j,e)::ps.drop (t.put j).2->q=(j,e)\/q∈ps:=fun q hq=>by
  rcases List.mem_append.mp hq with h|h
  ·exact .inr (List.mem_of_mem_take h)
  ·rcases List.mem_cons.mp h with h|h
   ·exact .inl h
   ·exact .inr (List.mem_of_mem_drop h)
 have hb:=kc j T.ris';have hp:(t.put j).2=below t.place j:=rfl;have hm:(t.put j).1.mask=t.mask:=rfl;have hg:∀ m (h:m<(ps.map (·.1)).length),(ps.map (·.1))[m]=t.place[m]'(by rw[T.psz];simpa using h):=fun m h=>by
  have:=T.pl;simp only[<-this];simp
 refine⟨?_,?_,?_,?_,?_,?_,?_⟩
 ·show(insertAt t.place (below t.place j) j).toList=_;rw[toList_insertAt,T.pl,List.map_append,List.map_cons,List.map_take,List.map_drop,hp]
 ·rw[toList_insertAt,T.en,List.map_append,List.map_cons,List.map_take,List.map_drop]
 ·rw[List.map_append,List.map_cons,List.map_take,List.map_drop,hp];rw[List.pairwise_append,List.pairwise_cons];have low:∀ a∈(ps.map (·.1)).take (below t.place j),a<j:=fun a ha=>by
   obtain⟨m,hm,rfl⟩:=List.getElem_of_mem ha;rw[List.length_take]at hm;rw[List.getElem_take,hg];exact(hb.2 m _).mp (by omega)
  have high:∀ a∈(ps.map (·.1)).drop (below t.place j),j<a:=fun a ha=>by
   have hin:=List.mem_of_mem_drop ha;obtain⟨m,hm,rfl⟩:=List.getElem_of_mem ha;rw[List.length_drop]at hm;rw[List.getElem_drop]at hin ⊢;have h1:¬ (ps.map (·.1))[below t.place j+m]<j:=by
    rw[hg];exact fun h=>by have:=(hb.2 _ _).mpr h;omega
   have h2:(ps.map (·.1))[below t.place j+m]≠j:=fun h=>hn (h ▸ hin);omega
  refine⟨T.ris.sublist (List.take_sublist _ _),⟨high,T.ris.sublist (List.drop_sublist _ _)⟩,fun a ha b hb'=>?_⟩
  rcases List.mem_cons.mp hb' with rfl|hb'
  ·exact low a ha
  ·exact Nat.lt_trans (low a ha) (high b hb')
 ·intro q hq
  rcases hmem' q hq with rfl|h
  ·exact hj
  ·exact T.top q h
 ·show(if has t.dummies j=true then _ else t.dummies)=#[]
  rw[T.dum,x8];rfl
 ·exact T.ok
 ·intro q hq
  rcases hmem' q hq with rfl|h
  ·obtain⟨pre,post,e1,h1⟩:=hr;exact⟨pre,post,e1,fun x hx=>hmem x (h1 x hx)⟩
  ·obtain⟨pre,post,e1,h1⟩:=T.reach q h;exact⟨pre,post,e1,fun x hx=>hmem x (h1 x hx)⟩
end Tab
theorem qc (mask:Nat):∀ n i p,∃ r,line mask (n+1) i p=line mask n i p++r
 | 0,i,p=>⟨line mask 1 i p,rfl⟩
 | n+1,i,p=>by
  obtain⟨r,e⟩:=qc mask n (leap mask i p).1 (leap mask i p).2;refine⟨r,?_⟩;show _++line mask (n+1) _ _=(_++line mask n _ _)++r;rw[e,List.append_assoc]
theorem free_eq (mask:Nat)(owner:Array (Option Nat)):∀ fuel i p,layClean.free mask owner fuel i p=(line mask fuel i p).find? (fun j=>(owner.getD j (some 0)).isNone)
 | 0,i,p=>rfl
 | fuel+1,i,p=>by
  simp only[layClean.free,line,List.find?_append,List.find?_map];have e:(fun k=>(owner.getD (i+k) (some 0)).isNone)=((fun j=>(owner.getD j (some 0)).isNone) ∘ fun x=>i+x):=rfl;rw[e]
  cases hf:List.find? ((fun j=>(owner.getD j (some 0)).isNone) ∘ fun x=>i+x) (List.range (runEnd mask i+1-i)) with
  | some k=>rfl
  | none=>
   simp only[Option.map_none,Option.none_or];exact free_eq mask owner fuel _ _
theorem u7:∀ (l:List (Option Nat)) (j k:Nat),l[j]?=some none->List.Perm ((l.set j (some k)).filterMap id) (k::l.filterMap id)
 | [],j,k,h=>by simp at h
 | a::l,0,k,h=>by
  simp only[List.getElem?_cons_zero,Option.some.injEq]at h;subst h;simp
 | a::l,j+1,k,h=>by
  simp only[List.getElem?_cons_succ]at h;have ih:=u7 l j k h
  cases a with
  | none=>simpa using ih
  | some b=>
   simp only[List.set_cons_succ,List.filterMap_cons,id];exact(List.Perm.cons b ih).trans (List.Perm.swap k b _)
theorem tF:∀ l:List (Option Nat),(∀ x∈l,x.isSome=true)->(l.filterMap id).length=l.length
 | [],_=>rfl
 | none::l,h=>by have:=h none List.mem_cons_self;simp at this
 | some a::l,h=>by
  simp only[List.filterMap_cons,id,List.length_cons];rw[tF l fun x hx=>h x (List.mem_cons_of_mem _ hx)]
structure Own (mask:Nat) (hs:List Int) (owner:Array (Option Nat)):Prop where
 sz:owner.size=mask+1
 pm:List.Perm (owner.toList.filterMap id) (List.range hs.length)
 rc:∀ j k,owner[j]?=some (some k)->∃ h,hs[k]?=some h/\∃ pre post,way mask h=pre++j::post/\∀ x∈pre,∃ k',owner[x]?=some (some k')
theorem Own.step {mask:Nat}{hs:List Int}{owner:Array (Option Nat)}(O:Own mask hs owner)(ok:G9 mask)(hl:hs.length<mask+1)(h:Int) :
  ∃ j,layClean.free mask owner (turns mask) (bits h % (mask+1)) (bits h)=some j/\Own mask (hs++[h]) (owner.setIfInBounds j (some hs.length)):=by
 have hex:∃ j,j<mask+1/\owner[j]?=some none:=by
  apply Classical.byContradiction;intro hc;have hall:∀ x∈owner.toList,x.isSome=true:=fun x hx=>by
   obtain⟨m,hm,rfl⟩:=List.getElem_of_mem hx;have hm':m<owner.size:=by simpa using hm
   cases hx:owner[m] with
   | some v=>simp[hx]
   | none=>exact absurd ⟨m,by rw[<-O.sz];exact hm',by rw[Array.getElem?_eq_getElem hm',hx]⟩ hc
  have h1:=tF _ hall;have h2:=O.pm.length_eq;rw[List.length_range]at h2;have h3:owner.toList.length=mask+1:=by simpa using O.sz
  have h4:=h1.symm.trans h2;rw[h3]at h4;omega
 obtain⟨j0,hj0,e0⟩:=hex;have hgd:∀ x,x<mask+1->owner.getD x (some 0)=owner[x]?.getD (some 0):=fun x hx=>by
  rw[Array.getD_eq_getD_getElem?]
 have hsome:((way mask h).find? (fun j=>(owner.getD j (some 0)).isNone)).isSome=true:=by
  rw[List.find?_isSome];exact⟨j0,yU ok (by omega),by rw[hgd j0 hj0,e0];rfl⟩
 obtain⟨j,hj⟩:=Option.isSome_iff_exists.mp hsome;have hfree:layClean.free mask owner (turns mask) (bits h % (mask+1)) (bits h)=some j:=by
  rw[free_eq];obtain⟨r,e⟩:=qc mask (mask+14) (bits h % (mask+1)) (bits h);show(line mask (mask+14+1) _ _).find? _=_;rw[e,List.find?_append];show Option.or ((way mask h).find? _) _=_;rw[hj];rfl
 obtain⟨hjn,pre,post,ew,hpre⟩:=List.find?_eq_some_iff_append.mp hj;have hjm:j<mask+1:=Nat.lt_succ_of_le (xv (h:=h) (by rw[ew];simp))
 have hjo:owner[j]?=some none:=by
  have hjs:j<owner.size:=by rw[O.sz];exact hjm
  have:=hjn;rw[hgd j hjm,Array.getElem?_eq_getElem hjs]at this;rw[Array.getElem?_eq_getElem hjs];simpa using this
 have hjs:j<owner.size:=by rw[O.sz];exact hjm
 have hset:∀ x,(owner.setIfInBounds j (some hs.length))[x]?=if j=x then some (some hs.length) else owner[x]?:=fun x=>by
  rw[Array.getElem?_setIfInBounds]
  split
  ·rename_i e;subst e;simp[hjs]
  ·rfl
 have hkeep:∀ (x k':Nat),owner[x]?=some (some k')->∃ k'',(owner.setIfInBounds j (some hs.length))[x]?=some (some k''):=fun x k' e=>by
  rw[hset]
  split
  ·exact⟨_,rfl⟩
  ·exact⟨k',e⟩
 refine⟨j,hfree,⟨by simpa using O.sz,?_,?_⟩⟩
 ·rw[Array.toList_setIfInBounds];refine(u7 _ _ _ (by simpa using hjo)).trans ?_
  rw[List.length_append,List.length_singleton,List.range_succ];exact(List.Perm.cons _ O.pm).trans (List.perm_append_singleton _ _).symm
 ·intro j' k' e;rw[hset]at e
  split at e
  ·rename_i ej;subst ej;obtain rfl:hs.length=k':=by simpa using e
   refine⟨h,by simp,pre,post,ew,fun x hx=>?_⟩
   have hx1:=hpre x hx;have hxm:x<mask+1:=Nat.lt_succ_of_le (xv (h:=h) (by rw[ew];exact List.mem_append_left _ hx))
   have hxs:x<owner.size:=by rw[O.sz];exact hxm
   rw[hgd x hxm,Array.getElem?_eq_getElem hxs]at hx1
   cases ho:owner[x] with
   | none=>simp[ho]at hx1
   | some v=>exact hkeep x v (by rw[Array.getElem?_eq_getElem hxs,ho])
  ·obtain⟨h',eh,pre',post',ew',hp'⟩:=O.rc j' k' e;refine⟨h',?_,pre',post',ew',fun x hx=>?_⟩
   ·rw[List.getElem?_append_left (by
     rcases Nat.lt_or_ge k' hs.length with hh|hh
     ·exact hh
     ·rw[List.getElem?_eq_none hh]at eh;simp at eh)]
    exact eh
   ·obtain⟨v,hv⟩:=hp' x hx;exact hkeep x v hv
theorem uW {mask:Nat}(ok:G9 mask):∀ (l hs:List Int) (owner:Array (Option Nat)),Own mask hs owner->hs.length+l.length<=mask+1 →
  ∃ owner',l.foldl (init:=some (owner,hs.length)) (fun acc h=>do
   let (owner,k) ← acc
   let j ← layClean.free mask owner (turns mask) (bits h % (mask+1)) (bits h)
   pure (owner.setIfInBounds j (some k),k+1))=some (owner',(hs++l).length)/\Own mask (hs++l) owner'
 | [],hs,owner,O,_=>⟨owner,by simp,by simpa using O⟩
 | h::l,hs,owner,O,hl=>by
  simp only[List.length_cons]at hl;obtain⟨j,hj,O'⟩:=O.step ok (by omega) h
  obtain⟨owner',e,O''⟩:=uW ok l (hs++[h]) _ O' (by simp;omega)
  refine⟨owner',?_,by simpa using O''⟩
  rw[List.foldl_cons];simp only[Option.bind_eq_bind,Option.bind_some,hj,Option.pure_def]at e ⊢;rw[List.append_assoc]at e;simp only[List.length_append,List.length_singleton,List.singleton_append]at e ⊢;exact e
theorem uo {mask:Nat}(ok:G9 mask)(hashes:Array Int)(hl:hashes.size<=mask+1) :
  ∃ owner,layClean mask hashes=some owner/\Own mask hashes.toList owner:=by
 have O:Own mask [] (Array.replicate (mask+1) none):=⟨by simp,by simp,fun j k e=>by
  rw[Array.getElem?_replicate]at e
  split at e <;> simp at e⟩
 obtain⟨owner,e,O'⟩:=uW ok hashes.toList [] _ O (by simpa using hl)
 refine⟨owner,?_,by simpa using O'⟩
 unfold layClean;rw[<-Array.foldl_toList];simp only[List.length_nil]at e;rw[e];rfl
theorem uH (f:Nat->Option Nat):∀ l:List Nat,(l.filterMap fun j=>(f j).map (j,·)).map (·.1)=l.filter fun j=>(f j).isSome
 | []=>rfl
 | a::l=>by
  have ih:=uH f l
  cases h:f a <;> simp[h]at ih ⊢ <;> exact ih
theorem uI (f:Nat->Option Nat):∀ l:List Nat,(l.filterMap fun j=>(f j).map (j,·)).map (·.2)=l.filterMap f
 | []=>rfl
 | a::l=>by
  have ih:=uI f l
  cases h:f a <;> simp[h]at ih ⊢ <;> exact ih
theorem t8 {α β:Type}{f g:α->Option β}:∀ l:List α,(∀ x∈l,f x=g x)->l.filterMap f=l.filterMap g
 | [],_=>rfl
 | a::l,h=>by
  rw[List.filterMap_cons,List.filterMap_cons,h a List.mem_cons_self,t8 l fun x hx=>h x (List.mem_cons_of_mem _ hx)]
theorem range_getD (o:Array (Option Nat)):(List.range o.size).filterMap (fun j=>o.getD j none)=o.toList.filterMap id:=by
 have e:=filterMap_getElem?_range o;rw[<-e,List.filterMap_filterMap];refine t8 _ fun x hx=>?_;have hx:=List.mem_range.mp hx;simp[Array.getD,hx]
theorem GO {mask finger moves:Nat}{led plain:Bool}(ok:G9 mask)(es:Array (Int × Value))(hl:es.size<=mask+1) :
  ∃ t order ps,laid mask finger moves led plain (es.map (·.1))=some (t,order)/\Tab t (order.filterMap (es[·]?)) ps/\t.mask=mask/\t.led=led/\t.plain=plain ∧
   List.Perm (order.filterMap (es[·]?)).toList es.toList:=by
 obtain⟨owner,e,O⟩:=uo ok (es.map (·.1)) (by simpa using hl)
 have hlen:((es.map (·.1)).toList).length=es.size:=by simp
 have hrc:∀ j k,owner[j]?=some (some k)->∃ q:k<es.size,∃ pre post,way mask es[k].1=pre++j::post/\∀ x∈pre,∃ k',owner[x]?=some (some k'):=fun j k ho=>by
  obtain⟨h,eh,r⟩:=O.rc j k ho;have hk:k<es.size:=by
   rcases Nat.lt_or_ge k es.size with hh|hh
   ·exact hh
   ·rw[List.getElem?_eq_none (by simpa using hh)]at eh;simp at eh
  refine⟨hk,?_⟩;have:h=es[k].1:=by simpa [hk] using eh.symm
  rw[<-this];exact r
 let live:=(List.range (mask+1)).filterMap fun j=>(owner.getD j none).map (j,·)
 have hlive:∀ q∈live,q.1<mask+1/\owner[q.1]?=some (some q.2):=fun q hq=>by
  obtain⟨j,hj,e⟩:=List.mem_filterMap.mp hq;have hj:=List.mem_range.mp hj;have hjs:j<owner.size:=by rw[O.sz];exact hj
  cases ho:owner[j] with
  | none=>simp[Array.getD,hjs,ho]at e
  | some k=>
   have:q=(j,k):=by simpa [Array.getD,hjs,ho] using e.symm
   subst this;exact⟨hj,by rw[Array.getElem?_eq_getElem hjs,ho]⟩
 have hfst:live.map (·.1)=(List.range (mask+1)).filter fun j=>(owner.getD j none).isSome:=uH _ _;have hsnd:live.map (·.2)=owner.toList.filterMap id:=by
  rw[<-range_getD,O.sz];exact uI _ _
 have hperm:List.Perm (live.map (·.2)) (List.range es.size):=by rw[hsnd,<-hlen];exact O.pm
 have hpm:List.Perm ((live.map (·.2)).filterMap (es[·]?)) es.toList:=by
  have:=hperm.filterMap (es[·]?)
  rwa [filterMap_getElem?_range]at this
 let d:Int × Value:=(0,.none)
 have hmapEq:(live.map (·.2)).filterMap (es[·]?)=live.map (fun q=>es.getD q.2 d):=by
  rw[List.filterMap_map];have:∀ (l:List (Nat × Nat)),(∀ q∈l,q.2<es.size)->l.filterMap ((es[·]?) ∘ (·.2))=l.map (fun q=>es.getD q.2 d):=by
   intro l
   induction l with
   | nil=>intro _;rfl
   | cons a l ih=>
    intro h;have ha:=h a List.mem_cons_self;rw[List.filterMap_cons_some (b:=es.getD a.2 d) (by simp[Array.getD,ha]),ih fun q hq=>h q (List.mem_cons_of_mem _ hq)]
    rfl
  exact this live fun q hq=>(hrc q.1 q.2 (hlive q hq).2).1
 refine⟨_,_,live.map (fun q=>(q.1,es.getD q.2 d)),by unfold laid;rw[e];rfl,?_,rfl,rfl,rfl,?_⟩
 ·have hin:∀ x k,owner[x]?=some (some k)->x∈(live.map (fun q=>(q.1,es.getD q.2 d))).map (·.1):=fun x k ho=>by
   have hxs:x<owner.size:=by
    rcases Nat.lt_or_ge x owner.size with hh|hh
    ·exact hh
    ·rw[Array.getElem?_eq_none hh]at ho;simp at ho
   rw[List.map_map];show x∈live.map (·.1);rw[hfst,List.mem_filter];refine⟨List.mem_range.mpr (by rw[<-O.sz];exact hxs),?_⟩
   rw[Array.getElem?_eq_getElem hxs]at ho;simp[Array.getD,hxs,Option.some.inj ho]
  refine⟨?_,?_,?_,?_,rfl,ok,?_⟩
  ·show(live.map (·.1))=_;rw[List.map_map];rfl
  ·rw[Array.toList_filterMap];show(live.map (·.2)).filterMap _=_;rw[hmapEq,List.map_map];rfl
  ·rw[List.map_map];show(live.map (·.1)).Pairwise _;rw[hfst];exact List.pairwise_lt_range.sublist List.filter_sublist
  ·intro q hq;obtain⟨q',hq',rfl⟩:=List.mem_map.mp hq;exact Nat.le_of_lt_succ (hlive q' hq').1
  ·intro q hq;obtain⟨q',hq',rfl⟩:=List.mem_map.mp hq;obtain⟨hk,pre,post,ew,hp⟩:=hrc q'.1 q'.2 (hlive q' hq').2;refine⟨pre,post,?_,fun x hx=>?_⟩
   ·show way mask (es.getD q'.2 d).1=_;simp only[Array.getD,hk,dif_pos];exact ew
   ·obtain⟨k',hk'⟩:=hp x hx;exact hin x k' hk'
 ·rw[Array.toList_filterMap];exact hpm
end ST
namespace ST
open PySem PySem.SetTable
abbrev ik (prog:Program)(w:World):=intKind prog w
structure Holds (prog:Program) (w:World) (h:Heap) (es:Array (Int × Value)) (ms:List (Addr × List Int)):Prop where
 pm:List.Perm es.toList (ms.map fun m=>(tupleKeyHash (ik prog w) m.2,Value.ref m.1))
 key:∀ m∈ms,IsTupleKey (ik prog w) h m.2 m.1
 nd:(ms.map (·.2)).Nodup
theorem vc {j k:Nat}:∀ {pre pre' post post':List Nat},pre++j::post=pre'++k::post'->k∈pre\/j=k\/j∈pre'
 | [],[],_,_,e=>by simp at e;exact .inr (.inl e.1)
 | [],a::pre',_,_,e=>by simp at e;exact .inr (.inr (by rw[e.1];exact List.mem_cons_self))
 | a::pre,[],_,_,e=>by simp at e;exact .inl (by rw[e.1];exact List.mem_cons_self)
 | a::pre,b::pre',_,_,e=>by
  simp only[List.cons_append,List.cons.injEq]at e
  rcases vc e.2 with h|h|h
  ·exact .inl (List.mem_cons_of_mem _ h)
  ·exact .inr (.inl h)
  ·exact .inr (.inr (List.mem_cons_of_mem _ h))
section
variable {prog:Program}{w:World}{A:Around}{E:Value->Shared->Prop}{s:Shared}
theorem mh {ks:List Int}{b:Addr}{Q:Bool->Shared->Prop}(n:Nat)(hk:IsTupleKey (ik prog w) s.heap ks b)(h:Q false s) :
  wpAny (model prog w) A (ofAClassStatement (n+1) (.ref b)) Q E s:=by
 have hT:=hk.typeIs;obtain⟨o,items,m,ho,_,hd,hi⟩:=hk;unfold ofAClassStatement;refine wpAny_bind (wpAny_typeOf hT ?_);dsimp only;rw[if_pos (by decide)]
 refine wpAny_bind (wpAny_pure ?_);simp only[Bool.not_true,Bool.false_eq_true,if_false];refine wpAny_bind (wpAny_seqItems ho hd ?_);dsimp only;refine wpAny_bind ?_;rw[<-Array.forIn_toList];refine wpAny_forIn_list _ (fun rest r s'=>r.1=none/\s'=s/\∀ v∈rest,carriedByValue v=true) _ ?_ ?_ _ _ ⟨rfl,rfl,hi.byValue⟩
 ·rintro v rest r s' ⟨hr,rfl,hall⟩;have hv:=hall v List.mem_cons_self;have e:ofAClassStatement n v=pure false:=by
   cases v with
   | ref a=>simp[carriedByValue]at hv
   | _=>unfold ofAClassStatement;rfl
  rw[e];refine wpAny_bind (wpAny_pure ?_);simp only[Bool.false_eq_true,if_false];exact wpAny_pure ⟨rfl,rfl,fun u hu'=>hall u (List.mem_cons_of_mem _ hu')⟩
 ·rintro⟨r1,r2⟩ s' ⟨hr,rfl,_⟩;simp only at hr;subst hr;exact wpAny_pure h
theorem oJ {ks:List Int}{b:Addr}{l:List Value}{Q:Bool->Shared->Prop}(hk:IsTupleKey (ik prog w) s.heap ks b)
  (hl:∀ v∈l,∃ c ks',v=.ref c/\IsTupleKey (ik prog w) s.heap ks' c) (h:Q false s) :
  wpAny (model prog w) A (searchCouldBeSeen (.ref b) l) Q E s:=by
 unfold searchCouldBeSeen;refine wpAny_bind ?_;refine wpAny_forIn_list _ (fun rest r s'=>r.1=none/\s'=s/\∀ v∈rest,∃ c ks',v=.ref c/\IsTupleKey (ik prog w) s.heap ks' c) _ ?_ ?_ _ _ ⟨rfl,rfl,hl⟩
 ·rintro v rest r s' ⟨hr,rfl,hall⟩;obtain⟨c,ks',rfl,hc⟩:=hall v List.mem_cons_self;have htl:∀ v∈rest,∃ c ks',v=.ref c/\IsTupleKey (ik prog w) s'.heap ks' c:=fun u hu'=>hall u (List.mem_cons_of_mem _ hu');dsimp only;refine wpAny_ite_split (fun _=>wpAny_pure ⟨rfl,rfl,htl⟩) (fun _=>?_);refine wpAny_bind (wpAny_eqIsQuiet_tuple hk ?_);simp only[Bool.not_true,Bool.false_eq_true,if_false];refine wpAny_bind (wpAny_eqIsQuiet_tuple hc ?_);simp only[Bool.not_true,Bool.false_eq_true,if_false];refine wpAny_bind (mh 7 hk ?_);simp only[Bool.false_eq_true,if_false];refine wpAny_bind (mh 7 hc ?_);simp only[Bool.false_eq_true,if_false];exact wpAny_pure ⟨rfl,rfl,htl⟩
 ·rintro⟨r1,r2⟩ s' ⟨hr,rfl,_⟩;simp only at hr;subst hr;exact wpAny_pure h
theorem oK {ks:List Int}{b:Addr}{Q:Bool->Shared->Prop}(n:Nat)(hk:IsTupleKey (ik prog w) s.heap ks b)(h:Q true s) :
  wpAny (model prog w) A (hashByValue (n+1) (.ref b)) Q E s:=by
 have hT:=hk.typeIs;obtain⟨o,items,m,ho,_,hd,hi⟩:=hk;unfold hashByValue;refine wpAny_bind (wpAny_specialOf hT F.slot_tuple_hash.lookup ?_);dsimp only;refine wpAny_bind (wpAny_seqItems ho hd ?_);simp only[Option.getD_some];refine wpAny_bind ?_;rw[<-Array.forIn_toList];refine wpAny_forIn_list _ (fun rest r s'=>r.1=none/\s'=s/\∃ ks',ItemsAre (ik prog w) ks' rest) _ ?_ ?_ _ _ ⟨rfl,rfl,ks,hi⟩
 ·rintro v rest r s' ⟨hr,rfl,ks',hall⟩
  cases hall with
  | @cons k _ ks'' _ h1 h2=>
   obtain⟨t,rfl⟩:=Value.isInt_shape h1;have e:hashByValue n (.int k t)=pure true:=by unfold hashByValue;rfl
   rw[e];refine wpAny_bind (wpAny_pure ?_);simp only[Bool.not_true,Bool.false_eq_true,if_false];exact wpAny_pure ⟨rfl,rfl,ks'',h2⟩
 ·rintro⟨r1,r2⟩ s' ⟨hr,rfl,_⟩;simp only at hr;subst hr;exact wpAny_pure h
theorem AV {a b:Addr}{o:Obj}{es:Array (Int × Value)}{ep:Nat}{t:SetTable}{ps:List (Nat × (Int × Value))}{ms:List (Addr × List Int)}{ks:List Int}{Q:SetFound->Shared->Prop}
  (hu:A.units<cLine) (ho:s.heap.get? a=some o) (hd:o.data=.set es ep t) (T:Tab t es ps) (hlen:ps.length<=t.mask) (H:Holds prog w s.heap es ms)
  (hk:IsTupleKey (ik prog w) s.heap ks b)
  (hin:ks∈ms.map (·.2)->Q (.there none) s)
  (hout:ks∉ms.map (·.2)->∀ j pre post,way t.mask (tupleKeyHash (ik prog w) ks)=pre++j::post->(∀ x∈pre,x∈ps.map (·.1))->j∉ps.map (·.1)->Q (.free j false) s) :
  ∀ (fuel N:Nat) (p:Probe) (stand:Option Probe) (done:List Nat),stand.getD (t.probeStart (tupleKeyHash (ik prog w) ks))=p->p.dummy=none →
   way t.mask (tupleKeyHash (ik prog w) ks)=done++rem t.mask N p->(rem t.mask N p).length<fuel →
   (∀ x∈done,∃ q∈ps,q.1=x/\∀ c,q.2.2=.ref c->¬ IsTupleKey (ik prog w) s.heap ks c) →
   wpAny (model prog w) A (setSearchFrom a (.ref b) (tupleKeyHash (ik prog w) ks) true fuel stand) Q E s:=by
 have hf:=T.fits hlen;have hnd:∀ j,t.slot j≠.dummy:=fun j=>by
  rcases slot_of T.ris' T.dum j with ⟨e,_⟩|⟨i,_,e,_⟩ <;> rw[e] <;> exact fun h=>nomatch h
 have hmemb:∀ q∈ps,∃ m∈ms,q.2=(tupleKeyHash (ik prog w) m.2,Value.ref m.1):=fun q hq=>by
  have h1:q.2∈es.toList:=by rw[T.en];exact List.mem_map.mpr ⟨q,hq,rfl⟩
  obtain⟨m,hm,e⟩:=List.mem_map.mp (H.pm.mem_iff.mp h1);exact⟨m,hm,e.symm⟩
 have hemp:∃ j,j<=t.mask/\t.slot j=.empty:=by
  apply Classical.byContradiction;intro hc;have hsub:∀ j,j∈List.range (t.mask+1)->j∈ps.map (·.1):=fun j hj=>by
   have hj:=List.mem_range.mp hj
   rcases slot_of T.ris' T.dum j with ⟨e,_⟩|⟨i,hi,_,e⟩
   ·exact absurd ⟨j,by omega,e⟩ hc
   ·rw[<-T.pl,<-e];simp
  have:=List.nodup_range.length_le_of_subset (l₂:=ps.map (·.1)) (fun j hj=>hsub j hj);simp at this;omega
 intro fuel
 induction fuel with
 | zero=>intro N p stand done _ _ _ hl;omega
 | succ fuel ih=>
  intro N p stand done hst hpd hway hl hdone;unfold setSearchFrom;refine wpAny_bind (wpAny_setState_of ho hd hf ?_);dsimp only;rw[if_neg (by rcases T.ok with e|e|e <;> simp[gaveWay,e])]
  obtain⟨j0,hj0,e0⟩:=hemp;have hj0w:j0∈rem t.mask N p:=by
   have h1:=yU (h:=tupleKeyHash (ik prog w) ks) T.ok hj0;rw[hway]at h1
   rcases List.mem_append.mp h1 with h1|h1
   ·obtain⟨q,hq,e,_⟩:=hdone _ h1
    rcases slot_of T.ris' T.dum j0 with ⟨_,hn⟩|⟨i,hi,e',_⟩
    ·exact absurd (by rw[T.pl,<-e];exact List.mem_map.mpr ⟨q,hq,rfl⟩) hn
    ·rw[e0]at e';exact nomatch e'
   ·exact h1
  have hlen2:(rem t.mask N p).length<=10*turns t.mask:=by
   have h1:=i7 t.mask (t.mask+14) (bits (tupleKeyHash (ik prog w) ks) % (t.mask+1)) (bits (tupleKeyHash (ik prog w) ks));have h2:(way t.mask (tupleKeyHash (ik prog w) ks)).length=done.length+(rem t.mask N p).length:=by rw[hway,List.length_append]
   unfold way at h2;unfold turns;omega
  obtain⟨pre,j,post,erem,hpre,hcase⟩:=GD (hashAt:=fun i=>(es[i]?.map (·.1)).getD 0) (h:=tupleKeyHash (ik prog w) ks) hnd (10*turns t.mask) N p hlen2 hpd ⟨j0,hj0w,e0⟩;have hpre':∀ x∈pre,∃ q∈ps,q.1=x/\∀ c,q.2.2=.ref c->¬ IsTupleKey (ik prog w) s.heap ks c:=fun x hx=>by
   obtain⟨i,hs,hne⟩:=hpre x hx
   rcases slot_of T.ris' T.dum x with ⟨e,_⟩|⟨i',hi',e,e'⟩
   ·rw[e]at hs;exact nomatch hs
   ·rw[e]at hs;obtain rfl:i'=i:=by injection hs
    have hi2:i'<ps.length:=by rw[<-T.psz];exact hi'
    have hpe:ps[i'].1=x:=by
     rw[<-e'];have:=T.pl;have h3:t.place.toList[i']?=(ps.map (·.1))[i']?:=by rw[this]
     simpa [hi',hi2] using h3.symm
    refine⟨ps[i'],List.getElem_mem hi2,hpe,fun c hc hkc=>hne ?_⟩;obtain⟨m,hm,em⟩:=hmemb ps[i'] (List.getElem_mem hi2);rw[em]at hc;obtain rfl:m.1=c:=by injection hc
    have hkm:=(H.key m hm).inj hkc;have h4:es[i']?=some ps[i'].2:=by
     have:es.toList[i']?=(ps.map (·.2))[i']?:=by rw[T.en]
     simpa [hi2] using this
    rw[h4,em,hkm];rfl
  generalize hpr:t.probe _ (tupleKeyHash (ik prog w) ks) (stand.getD _)=pr;rw[hst]at hpr
  rcases hcase with ⟨hs,hgo⟩|⟨i,N',p',hs,hh,hgo,erem',hpd'⟩
  ·obtain rfl:pr=some (.empty j none):=hpr.symm.trans hgo;have hjn:j∉ps.map (·.1):=by
    rcases slot_of T.ris' T.dum j with ⟨_,hn⟩|⟨i,hi,e',_⟩
    ·rw[<-T.pl];exact hn
    ·rw[hs]at e';exact nomatch e'
   have hall:∀ x∈done++pre,∃ q∈ps,q.1=x/\∀ c,q.2.2=.ref c->¬ IsTupleKey (ik prog w) s.heap ks c:=fun x hx=>by
    rcases List.mem_append.mp hx with hx|hx
    ·exact hdone x hx
    ·exact hpre' x hx
   have ecut:way t.mask (tupleKeyHash (ik prog w) ks)=(done++pre)++j::post:=by rw[hway,erem,List.append_assoc]
   refine wpAny_pure (hout (fun hin'=>?_) j (done++pre) post ecut (fun x hx=>?_) hjn)
   ·obtain⟨m,hm,ek⟩:=List.mem_map.mp hin';have he:(tupleKeyHash (ik prog w) m.2,Value.ref m.1)∈es.toList:=H.pm.mem_iff.mpr (List.mem_map.mpr ⟨m,hm,rfl⟩);rw[T.en]at he;obtain⟨q,hq,eq⟩:=List.mem_map.mp he;obtain⟨pre',post',ew,hp'⟩:=T.reach q hq;have eq1:q.2.1=tupleKeyHash (ik prog w) ks:=by rw[eq,ek]
    rw[eq1,ecut]at ew
    rcases vc ew with h|h|h
    ·obtain⟨q',hq',e1,h1⟩:=hall _ h;have:q'=q:=by
      have hnd:=T.ris.imp (fun h=>Nat.ne_of_lt h);obtain⟨i1,hi1,rfl⟩:=List.getElem_of_mem hq';obtain⟨i2,hi2,rfl⟩:=List.getElem_of_mem hq;have:i1=i2:=by
       have h5:=List.pairwise_iff_getElem.mp T.ris
       rcases Nat.lt_trichotomy i1 i2 with h6|h6|h6
       ·have:=h5 i1 i2 (by simpa using hi1) (by simpa using hi2) h6
        simp only[List.getElem_map]at this;omega
       ·exact h6
       ·have:=h5 i2 i1 (by simpa using hi2) (by simpa using hi1) h6
        simp only[List.getElem_map]at this;omega
      subst this;rfl
     subst this;exact h1 m.1 (by rw[eq]) (ek ▸ H.key m hm)
    ·exact hjn (h ▸ List.mem_map.mpr ⟨q,hq,rfl⟩)
    ·exact hjn (hp' j h)
   ·obtain⟨q,hq,e,_⟩:=hall x hx;exact List.mem_map.mpr ⟨q,hq,e⟩
  ·obtain rfl:pr=some (.candidate j i p'):=hpr.symm.trans hgo;dsimp only;obtain⟨i',hi',es1,ej⟩:∃ i',∃ hi:i'<t.place.size,t.slot j=.live i'/\t.place[i']=j:=by
    rcases slot_of T.ris' T.dum j with ⟨e,_⟩|r
    ·rw[e]at hs;exact nomatch hs
    ·exact r
   rw[hs]at es1;obtain rfl:i=i':=by injection es1
   have hi2:i<ps.length:=by rw[<-T.psz];exact hi'
   have hpe:ps[i].1=j:=by
    rw[<-ej];have h3:t.place.toList[i]?=(ps.map (·.1))[i]?:=by rw[T.pl]
    simpa [hi',hi2] using h3.symm
   have h4:es[i]?=some ps[i].2:=by
    have:es.toList[i]?=(ps.map (·.2))[i]?:=by rw[T.en]
    simpa [hi2] using this
   obtain⟨m,hm,em⟩:=hmemb ps[i] (List.getElem_mem hi2);rw[em]at h4;have hseen:∀ v∈(es.filter (·.1 == tupleKeyHash (ik prog w) ks)).toList.map (·.2),∃ c ks',v=.ref c/\IsTupleKey (ik prog w) s.heap ks' c:=fun v hv=>by
    obtain⟨e,he,rfl⟩:=List.mem_map.mp hv;have he2:e∈es.toList:=by
     have:=Array.mem_toList_iff.mp he;exact Array.mem_toList_iff.mpr (Array.mem_filter.mp this).1
    obtain⟨m',hm',em'⟩:=List.mem_map.mp (H.pm.mem_iff.mp he2);exact⟨m'.1,m'.2,by rw[<-em'],H.key m' hm'⟩
   refine wpAny_ite_split (fun _=>wpAny_bind (oJ hk hseen ?_)) (fun _=>?_)
   all_goals try simp only[Bool.false_eq_true,if_false]
   all_goals rw[h4]
   all_goals dsimp only
   all_goals refine wpAny_bind (wpAny_holding (wpAny_eqBool_tuple hu (H.key m hm) hk ?_))
   all_goals refine wpAny_bind (wpAny_setState_of ho hd hf ?_)
   all_goals by_cases hkk:m.2=ks
   all_goals try (
    rw[decide_eq_true hkk];simp only[Bool.and_self,if_true];exact wpAny_pure (hin (List.mem_map.mpr ⟨m,hm,hkk⟩)))
   all_goals rw[decide_eq_false hkk]
   all_goals simp only[Bool.and_false,Bool.false_eq_true,if_false,sameMemory,beq_self_eq_true,if_true]
   all_goals rw[hs]
   all_goals dsimp only
   all_goals rw[h4]
   all_goals dsimp only
   all_goals refine wpAny_bind (wpAny_isSame_ref_self ?_)
   all_goals simp only[if_true]
   all_goals refine wpAny_bind (wpAny_pure ?_)
   all_goals dsimp only
   all_goals(
    refine ih N' p' (some p') (done++pre++[j]) rfl hpd' (by rw[erem',hway,erem];simp) ?_ ?_
    ·rw[erem'];have:(rem t.mask N p).length=pre.length+(post.length+1):=by rw[erem];simp
     omega
    ·intro x hx
     rcases List.mem_append.mp hx with hx|hx
     ·rcases List.mem_append.mp hx with hx|hx
      ·exact hdone x hx
      ·exact hpre' x hx
     ·obtain rfl:=List.mem_singleton.mp hx;refine⟨ps[i],List.getElem_mem hi2,hpe,fun c hc hkc=>?_⟩;rw[em]at hc;obtain rfl:m.1=c:=by injection hc
      exact hkk ((H.key m hm).inj hkc))
end
end ST
namespace ST
open PySem PySem.SetTable
def dQ (prog:Program)(w:World)(h:Heap)(a:Addr)(ms:List (Addr × List Int)):Prop:=
 ∃ o es ep t ps,h.get? a=some o/\o.ExactSet/\o.data=.set es ep t/\Tab t es ps/\cz t.mask ps.length/\Holds prog w h es ms/\t.plain=true/\t.led=!(w.params.followText "set-order")
theorem cz.le {mask n:Nat}(r:cz mask n):n<=mask:=by
 rcases r with ⟨e,h⟩|⟨e,h⟩|⟨e,h⟩ <;> omega
section
variable {prog:Program}{w:World}{A:Around}{E:Value->Shared->Prop}{s:Shared}
theorem uj {h h':Heap}{a c:Addr}{ks:List Int}{o:Obj}{es:Array (Int × Value)}{ep:Nat}{t:SetTable}(x:IsTupleKey (ik prog w) h ks c)(ho:h.get? a=some o)(hd:o.data=.set es ep t)
  (hs:Heap.SameBut a h h'):IsTupleKey (ik prog w) h' ks c:=by
 obtain⟨o',items,n,ho',hc,hd',hi⟩:=x;have hne:c≠a:=by
  rintro rfl;obtain rfl:o'=o:=Option.some.inj (ho'.symm.trans ho);rw[hd]at hd';exact nomatch hd'
 exact⟨o',items,n,(hs.2 c hne).trans ho',hc,hd',hi⟩
theorem Holds.len {h:Heap}{es:Array (Int × Value)}{ms:List (Addr × List Int)}(H:Holds prog w h es ms):es.size=ms.length:=by
 rw[<-Array.length_toList,H.pm.length_eq,List.length_map]
def gA (ms:List (Addr × List Int))(b:Addr)(ks:List Int):List (Addr × List Int):=if ks∈ms.map (·.2) then ms else ms++[(b,ks)]
theorem Mi {a b:Addr}{ks:List Int}{ms:List (Addr × List Int)}{Q:Bool->Shared->Prop}(hu:A.units<cLine)(hS:dQ prog w s.heap a ms)(hk:IsTupleKey (ik prog w) s.heap ks b)(hroom:ms.length<76)
  (h:∀ h' r,Heap.SameBut a s.heap h'->dQ prog w h' a (gA ms b ks)->Q r {s with heap:=h'}) :
  wpAny (model prog w) A (setAddHashed a (.ref b) (tupleKeyHash (ik prog w) ks)) Q E s:=by
 obtain⟨o,es,ep,t,ps,ho,hex,hd,T,R,H,hpl,hled⟩:=id hS;have hf:=T.fits R.le;have hlen:ps.length=ms.length:=by rw[<-T.esz,H.len]
 unfold setAddHashed setAddHashedIn;refine wpAny_holding (wpAny_bind (wpAny_setState_of ho hd hf ?_));dsimp only;rw[if_neg (by simp[byScan,Value.scannable])]
 refine wpAny_bind ?_;unfold setSearch;refine AV hu ho hd T R.le H hk (fun hin=>?_) (fun hout j pre post ew hpre hj=>?_) 100000 (t.mask+13) _ none [] rfl rfl (by rw[Option.getD_none,yJ,List.nil_append]) ?_ (fun x hx=>absurd hx List.not_mem_nil)
 ·refine wpAny_pure ?_;have e:s={s with heap:=s.heap}:=by cases s;rfl
  rw[e];exact h s.heap false (Heap.SameBut.refl a s.heap) (by unfold gA;rw[if_pos hin];exact hS)
 ·dsimp only;refine wpAny_bind (wpAny_setState_of ho hd hf ?_);dsimp only;have hj':j<=t.mask:=xv (h:=tupleKeyHash (ik prog w) ks) (by rw[ew];simp)
  have T1:=T.put (e:=(tupleKeyHash (ik prog w) ks,Value.ref b)) hj' hj ⟨pre,post,ew,hpre⟩;have hpl1:(t.put j).1.plain=true:=hpl;rw[if_pos hpl1];refine wpAny_bind (oK 7 hk ?_);simp only[if_true];have hn1:ps.length+1<=(t.put j).1.mask:=by
   show ps.length+1<=t.mask
   rcases R with ⟨e,h⟩|⟨e,h⟩|⟨e,h⟩ <;> omega
  generalize hps1:ps.take (t.put j).2++(j,(tupleKeyHash (ik prog w) ks,Value.ref b))::ps.drop (t.put j).2=ps1 at T1;generalize hes1:insertAt es (t.put j).2 (tupleKeyHash (ik prog w) ks,Value.ref b)=es1 at T1 ⊢;have hl1:ps1.length=ps.length+1:=by
   rw[<-hps1];have:=congrArg List.length (List.take_append_drop (t.put j).2 ps);simp only[List.length_append,List.length_cons]at this ⊢;omega
  have hpm1:List.Perm es1.toList (gA ms b ks |>.map fun m=>(tupleKeyHash (ik prog w) m.2,Value.ref m.1)):=by
   unfold gA;rw[if_neg hout,<-hes1,List.map_append];refine(SetTable.insertAt_perm _ _ _).trans ?_;rw[Array.toList_push];exact H.pm.append_right _
  have hnd1:((gA ms b ks).map (·.2)).Nodup:=by
   unfold gA;rw[if_neg hout,List.map_append,List.nodup_append];refine⟨H.nd,by simp,fun x hx y hy=>?_⟩
   obtain rfl:y=ks:=by simpa using hy
   exact fun e=>hout (e ▸ hx)
  have hkey1:∀ m∈gA ms b ks,IsTupleKey (ik prog w) s.heap m.2 m.1:=by
   unfold gA;rw[if_neg hout];intro m hm
   rcases List.mem_append.mp hm with hm|hm
   ·exact H.key m hm
   ·obtain rfl:=List.mem_singleton.mp hm;exact hk
  have hfin1:(t.put j).1.fits es1.size=true:=T1.fits (by rw[hl1];exact hn1)
  have hes1z:es1.size<=sizeLine:=by
   rw[T1.esz,hl1];have:sizeLine=16777216:=sizeLine_eq;have h0:ps.length=ms.length:=hlen;omega
  refine wpAny_bind (wpAny_storeSet_of ho hd ?_ hes1z);have hsb1:=Heap.SameBut.update s.heap a (Obj.putSet es1 (t.put j).1);have hg1:(s.heap.update a (Obj.putSet es1 (t.put j).1)).get? a=some {o with data:=.set es1 (ep+1) (t.put j).1}:=by
   have:=Heap.get?_update_self (Obj.putSet es1 (t.put j).1) ho (by rw[putSet_of es1 (t.put j).1 hd];rfl)
   rw[putSet_of es1 (t.put j).1 hd]at this;exact this
  have hfill:(t.put j).1.fill=ps.length+1:=by
   show(t.put j).1.place.size+(t.put j).1.dummies.size=_;rw[T1.psz,T1.dum,hl1];rfl
  have hmask:(t.put j).1.mask=t.mask:=rfl;refine wpAny_ite_split (fun hfull=>?_) (fun hfull=>?_)
  ·simp only[Bool.not_false,Bool.true_and,tooFull,hfill,hmask,ge_iff_le,decide_eq_true_eq]at hfull;obtain⟨mk,hmk,okm,hroom'⟩:∃ mk,sizeAbove (grown (es.size+1))=mk+1/\G9 mk/\cz mk (ps.length+1):=by
    rw[T.esz]
    rcases R with ⟨e,h⟩|⟨e,h⟩|⟨e,h⟩
    ·have e4:ps.length=4:=by omega
     rw[e4];exact⟨31,by decide,.inr (.inl rfl),.inr (.inl ⟨rfl,by decide⟩)⟩
    ·have e4:ps.length=18:=by omega
     rw[e4];exact⟨127,by decide,.inr (.inr rfl),.inr (.inr ⟨rfl,by decide⟩)⟩
    ·omega
   refine wpAny_bind ?_;unfold setRelay;refine wpAny_bind (wpAny_setState_of hg1 rfl hfin1 ?_);dsimp only;have hm128:mk<=127:=by rcases okm with e|e|e <;> omega
   rw[hmk,if_neg (by rw[sizeLine_eq];omega)]
   obtain⟨t2,order,ps2,el,T2,em2,el2,epl2,hpm2⟩:=GO (finger:=(t.put j).1.finger) (moves:=(t.put j).1.movedTo mk) (led:=(t.put j).1.led) (plain:=(t.put j).1.plain) okm es1 (by rw[T1.esz,hl1];have:=hroom'.le;omega)
   have erl:(t.put j).1.relaid (es1.map (·.1)) (grown (es.size+1))=some (t2,order):=by
    unfold relaid;rw[hmk,Nat.add_sub_cancel];exact el
   rw[erl];generalize hes2:order.filterMap (es1[·]?)=es2 at T2 hpm2;have hsz2:es2.size=es1.size:=by rw[<-Array.length_toList,hpm2.length_eq,Array.length_toList]
   have hl2:ps2.length=ps.length+1:=by rw[<-T2.esz,hsz2,T1.esz,hl1]
   refine wpAny_bind ?_;show wpAny (model prog w) A (if ((order.filterMap (es1[·]?)).size != es1.size)=true then _ else _) _ _ _
   rw[hes2,if_neg (by rw[hsz2];simp)]
   refine wpAny_pure ?_;dsimp only;refine wpAny_storeSet_of (s:={s with heap:=s.heap.update a (Obj.putSet es1 (t.put j).1)}) hg1 rfl ?_ (by rw[hsz2];exact hes1z)
   have hsb2:=hsb1.trans (Heap.SameBut.update (s.heap.update a (Obj.putSet es1 (t.put j).1)) a (Obj.putSet es2 t2));have hg2:((s.heap.update a (Obj.putSet es1 (t.put j).1)).update a (Obj.putSet es2 t2)).get? a=some {o with data:=.set es2 (ep+1+1) t2}:=by
    have:=Heap.get?_update_self (Obj.putSet es2 t2) hg1 (by rw[putSet_of es2 t2 rfl];rfl)
    rw[putSet_of es2 t2 rfl]at this;exact this
   refine wpAny_pure (h _ true hsb2 ⟨_,es2,ep+1+1,t2,ps2,hg2,hex,rfl,T2,by rw[em2,hl2];exact hroom',⟨hpm2.trans hpm1,fun m hm=>uj (hkey1 m hm) ho hd hsb2,hnd1⟩,by rw[epl2];exact hpl,by rw[el2];exact hled⟩)
  ·refine wpAny_pure (h _ true hsb1 ⟨_,es1,ep+1,(t.put j).1,ps1,hg1,hex,rfl,T1,?_,⟨hpm1,fun m hm=>uj (hkey1 m hm) ho hd hsb1,hnd1⟩,hpl,hled⟩);rw[hl1,hmask];simp only[Bool.not_false,Bool.true_and,tooFull,hfill,hmask,ge_iff_le,decide_eq_true_eq]at hfull
   rcases R with ⟨e,h⟩|⟨e,h⟩|⟨e,h⟩
   ·left;omega
   ·right;left;omega
   ·right;right;omega
 ·rw[Option.getD_none,yJ];unfold way;have h1:=i7 t.mask (t.mask+14) (bits (tupleKeyHash (ik prog w) ks) % (t.mask+1)) (bits (tupleKeyHash (ik prog w) ks))
  rcases T.ok with e|e|e <;> rw[e]at h1 ⊢ <;> omega
end
end ST
set_option maxHeartbeats 3200000
namespace ST
open PySem PySem.SetTable
def met (km:Nat->Addr × List Int)(i:Nat):List (Addr × List Int):=((List.range i).map km).foldl (fun ms m=>gA ms m.1 m.2) []
theorem kI (km:Nat->Addr × List Int)(i:Nat):met km (i+1)=gA (met km i) (km i).1 (km i).2:=by
 unfold met;rw[List.range_succ,List.map_append,List.foldl_append];rfl
theorem met_len (km:Nat->Addr × List Int):∀ i,(met km i).length<=i
 | 0=>by simp[met]
 | i+1=>by
  have:=met_len km i;rw[kI];unfold gA
  split
  ·omega
  ·simp;omega
theorem met_of (km:Nat->Addr × List Int):∀ i m,m∈met km i->∃ k,k<i/\m=km k
 | 0,m,h=>by simp[met]at h
 | i+1,m,h=>by
  rw[kI]at h;unfold gA at h
  split at h
  ·obtain⟨k,hk,e⟩:=met_of km i m h;exact⟨k,by omega,e⟩
  ·rcases List.mem_append.mp h with h|h
   ·obtain⟨k,hk,e⟩:=met_of km i m h;exact⟨k,by omega,e⟩
   ·exact⟨i,by omega,by simpa using h⟩
theorem met_has (km:Nat->Addr × List Int):∀ i k,k<i->(km k).2∈(met km i).map (·.2)
 | 0,k,h=>by omega
 | i+1,k,h=>by
  rw[kI];unfold gA
  rcases Nat.lt_or_ge k i with hk|hk
  ·have:=met_has km i k hk
   split
   ·exact this
   ·rw[List.map_append];exact List.mem_append_left _ this
  ·have:k=i:=by omega
   subst this
   split
   ·assumption
   ·simp
section
variable {prog:Program}{w:World}{A:Around}{E:Value->Shared->Prop}{s:Shared}
theorem dQ.kept {h h':Heap}{a:Addr}{ms:List (Addr × List Int)}(S:dQ prog w h a ms)(ka:∀ o,h.get? a=some o->h'.get? a=some o)
  (km:∀ m∈ms,∀ o,h.get? m.1=some o->h'.get? m.1=some o):dQ prog w h' a ms:=by
 obtain⟨o,es,ep,t,ps,ho,hex,hd,T,R,H,r⟩:=S;refine⟨o,es,ep,t,ps,ka o ho,hex,hd,T,R,⟨H.pm,fun m hm=>?_,H.nd⟩,r⟩;obtain⟨o',items,n,ho',x⟩:=H.key m hm;exact⟨o',items,n,km m hm o' ho',x⟩
theorem Dx {R:Result->Shared->Prop}{I:Addr}{fp wr:List Addr}{G:Array GenState->Array GenState->Prop}{n:Nat}{P:Nat->Value->Prop}{St:Nat->Shared->Prop}
  (W:WalksS prog w A.in1 I fp wr G n P St) (S:Addr) (hSf:S∉fp) (km:Nat->Addr × List Int) (hval:∀ i v,P i v->v=.ref (km i).1) (hnw:∀ i,i<n->(km i).1∉S::wr) (hn:n<=76) (hu:A.in1.units<cLine) :
  ∀ (k i:Nat) (s:Shared),n-i=k->i<=n->St i s->(∀ i,i<n->IsTupleKey (ik prog w) s.heap (km i).2 (km i).1)->dQ prog w s.heap S (met km i) →
   (∀ s',Moved (S::wr) G s s'->dQ prog w s'.heap S (met km n)->R (.ok (.ret .none)) s') →
   codeAny (model prog w) A (.builtin "set.update.loop" ⟨[.ref S,.ref I],[]⟩) R s:=by
 have hSw:S∉wr:=fun h=>hSf (W.sub _ h);have hup:∀ b∈wr,b∈S::wr:=fun b hb=>List.mem_cons_of_mem _ hb;have mv:∀ {s s':Shared} (i:Nat),i<=n->Moved wr G s s'->dQ prog w s.heap S (met km i)->dQ prog w s'.heap S (met km i):=fun i hi hm hS=>
  hS.kept (fun o e=>hm.heap S o hSw e) fun m hmem o e=>by
   obtain⟨k,hk,rfl⟩:=met_of km i m hmem;exact hm.heap _ o (fun hw=>hnw k (by omega) (List.mem_cons_of_mem _ hw)) e
 intro k
 induction k with
 | zero=>
  intro i s hk hi hst hkey hS hR;obtain rfl:i=n:=by omega
  refine codeAny_builtin PyProof.Rows.F.entry_set_update_loop ?_;rw[Around.under_plainId PyProof.Rows.F.plain_set_update_loop _];show wpAny _ A.in1 (pyNext (.ref I) >>= _) _ _ s;refine wpAny_bind (W.done s _ _ hst fun s' hm=>?_);show wpAny _ A.in1 (ret Value.none) _ _ s';exact wpAny_pure (hR s' (hm.mono hup) (mv i (Nat.le_refl _) hm hS))
 | succ k ih=>
  intro i s hk hi hst hkey hS hR;have hlt:i<n:=by omega
  refine codeAny_builtin PyProof.Rows.F.entry_set_update_loop ?_;rw[Around.under_plainId PyProof.Rows.F.plain_set_update_loop _];show wpAny _ A.in1 (pyNext (.ref I) >>= _) _ _ s;refine wpAny_bind (W.item i s _ _ hlt hst fun v s1 hP hst1 hm=>?_);obtain rfl:=hval i v hP;have hS1:=mv i hi hm hS;have hkey1:∀ i,i<n->IsTupleKey (ik prog w) s1.heap (km i).2 (km i).1:=fun i hi=>by
   obtain⟨o',items,m',ho',x⟩:=hkey i hi;exact⟨o',items,m',hm.heap _ o' (fun hw=>hnw i hi (List.mem_cons_of_mem _ hw)) ho',x⟩
  show wpAny _ A.in1 (holding [Value.ref (km i).1] (setAdd S (.ref (km i).1)) >>= _) _ _ s1;refine wpAny_bind (wpAny_holding ?_);unfold setAdd;refine wpAny_holding (wpAny_bind (wpAny_pyHash_tuple hu (hkey1 i hlt) ?_));refine Mi (s:={s1 with toks:=s1.toks+((km i).2.length+1)}) hu hS1 (hkey1 i hlt) (Nat.lt_of_le_of_lt (met_len km i) (by omega)) fun h' r hsb hS2=>?_
  rw[<-kI]at hS2;have hoff:∀ b o,b≠S->s1.heap.get? b=some o->h'.get? b=some o:=fun b o hb e=>(hsb.2 b hb).trans e;refine wpAny_pure ⟨plainId_quiet PyProof.Rows.F.plain_set_update_loop _,ih (i+1) _ (by omega) hlt (W.frame _ s1 h' _ hst1 (Nat.le_add_right _ _) fun b hb o e=>hoff b o (fun hh:b=S=>hSf (hh ▸ hb)) e) (fun i hi=>?_) hS2 fun s2 hm2 hS3=>?_⟩
  ·obtain⟨o',items,m',ho',x⟩:=hkey1 i hi;exact⟨o',items,m',hoff _ o' (fun hh=>hnw i hi (hh ▸ List.mem_cons_self)) ho',x⟩
  ·refine hR s2 (Moved.trans W.gtrans ((hm.mono hup).then_heap (Nat.le_add_right _ _) fun b o hb e=>?_) hm2) hS3;exact hoff b o (fun hh=>hb (hh ▸ List.mem_cons_self)) e
theorem qS (a:Value){Q1:Value->Shared->Prop}
  (h:Q1 (.ref s.heap.objs.size) {s with heap:=s.heap.push {cls:=.type "set",dict:=none,data:=.set #[] 0 (.fresh 0 0 (!(w.params.followText "set-order")))}}) :
  codeAny (model prog w) A (.call (.builtin "set.__new__") ⟨[.type "set",a],[]⟩) (wants Q1 E) s:=by
 refine codeAny_of_tree ?_;show wpAny _ A.in1 (checkBuiltinCall "set.__new__" ⟨[.type "set",a],[]⟩ >>= fun _=>again (.builtin "set.__new__" ⟨[.type "set",a],[]⟩)) _ _ s;refine wpAny_bind (wpAny_of_eq (F.newCall_set_1 a) (wpAny_pure ⟨plainId_quiet F.plain_set_new _,codeAny_builtin F.entry_set_new ?_⟩));rw[Around.under_plainId F.plain_set_new _];unfold Builtin.«set.__new__» Builtin.Frozenset.newClass;have hsub:=sub_set_self;obtain⟨hp,g,d,tk,os⟩:=s;dsimp only
 wp_walk
 refine wpAny_askSetting (wpAny_pure ?_);dsimp only;simp only[newObj];refine wpAny_bind (wpAny_alloc (wpAny_pure ?_));exact wpAny_pure h
theorem zT {h:Heap}{a:Addr} (ho:h.get? a=some {cls:=.type "set",dict:=none,data:=.set #[] 0 (.fresh 0 0 (!(w.params.followText "set-order")))}):dQ prog w h a []:=
 ⟨_,#[],0,_,[],ho,⟨rfl,rfl,rfl⟩,rfl,⟨rfl,rfl,.nil,fun q hq=>absurd hq List.not_mem_nil,rfl,.inl rfl,fun q hq=>absurd hq List.not_mem_nil⟩,.inl ⟨rfl,by decide⟩,
  ⟨.refl _,fun m hm=>absurd hm List.not_mem_nil,.nil⟩,rfl,rfl⟩
theorem call_set_tup {l:Addr}{items:Array Value}{km:Nat->Addr × List Int}{Q:Value->Shared->Prop}
  (hh:A.handled=none) (hu:A.units+10<cLine) (hl:s.heap.IsList l items) (hv:∀ (i:Nat) (v:Value),items[i]?=some v->v=.ref (km i).1) (hkey:∀ i,i<items.size->IsTupleKey (ik prog w) s.heap (km i).2 (km i).1) (hn:items.size<=76)
  (h:∀ (h':Heap) (tk:Nat),dQ prog w h' s.heap.objs.size (met km items.size)->(∀ b o,b<s.heap.objs.size->s.heap.get? b=some o->h'.get? b=some o)->Q (.ref s.heap.objs.size) {s with heap:=h',toks:=tk}) :
  wpAny (model prog w) A (call (.type "set") [.ref l]) Q E s:=by
 obtain⟨c,tl,hmro⟩:=F.called_set.mro;have hmade:=F.called_set.made;have hsub:=F.called_set.sub;refine wpAny_call (codeAny_of_tree ?_);show wpAny _ _ (callAny (.type "set") _) _ _ _;refine wpAny_pure ⟨Code.quiet_builtin _ (by decide +kernel),codeAny_builtin F.entry_type_call ?_⟩
 rw[Around.under_plain (weight_type_call_type "set" [.ref l] []) rfl];have h1:=F.called_set.notType;have h2:=F.called_set.canCreate;have hct:=F.typeCall_set_1 (.ref l)
 repeat (any_goals (first|assumption|wp_step))
 generalize hob:({cls:=.type "set",dict:=none,data:=.set #[] 0 (.fresh 0 0 (!(w.params.followText "set-order")))}:Obj)=ob;refine codeAny_mono (qS (.ref l) (E:=E) (Q1:=fun v s1=>v=.ref s.heap.objs.size/\s1={s with heap:=s.heap.push ob}) (hob ▸ ⟨rfl,rfl⟩)) fun r s1 hr=>?_
 cases r with
 | error e=>exact hr
 | ok fl=>
  cases fl with
  | ret v=>
   obtain⟨rfl,rfl⟩:=hr;have hS:(s.heap.push ob).get? s.heap.objs.size=some ob:=Heap.get?_push_size _ (by rw[<-hob];rfl)
   have hT:Shared.TypeIs {s with heap:=s.heap.push ob} (.ref s.heap.objs.size) "set":=⟨_,hS,by rw[<-hob]⟩
   have hli:=F.called_set.init.lookup;have hbi:=F.called_set.init.bind (.ref s.heap.objs.size)
   repeat (any_goals (first|assumption|wp_step))
   refine codeAny_mono (codeAny_call_builtin (R:=wants (fun r s2=>r=.none/\∃ h' tk,s2={s with heap:=h',toks:=tk}/\dQ prog w h' s.heap.objs.size (met km items.size) ∧
     (∀ b o,b<s.heap.objs.size->s.heap.get? b=some o->h'.get? b=some o)) E) F.called_set.init.plain F.entry_set_init (check_set_init_1 hT ?_)) fun r2 s2 hr2=>?_
   ·obtain⟨ol,hol,hcl,nl,hdl⟩:=id hl;obtain⟨ocls,odict,odata,oslots⟩:=ol;simp only at hcl hdl;subst hcl;subst hdl;have hol':(s.heap.push ob).get? l=some {cls:=.type "list",dict:=odict,data:=.seq items nl,slots:=oslots}:=Heap.get?_push_of_some _ hol;have hsls:=F.sub_list_set;have hslf:=F.sub_list_frozenset;have hne:(Value.type "list" == Value.type "dict")=false:=by decide
    have hl1:(s.heap.push ob).IsList l items:=⟨_,hol',rfl,nl,rfl⟩;subst hob;unfold Builtin.«set.__init__» noKeywords Builtin.Frozenset.updateFrom;generalize hPI:pyIter=PI
    wp_walk
    subst hPI;refine wpAny_pyIter_list hl1 ?_;refine wpAny_bind (wpAny_runValue ?_);generalize hob:({cls:=.type "set",dict:=none,data:=.set #[] 0 (.fresh 0 0 (!(w.params.followText "set-order")))}:Obj)=ob at *;have hlS:l<s.heap.objs.size:=Heap.lt_size hol;have hsz:(s.heap.push ob).objs.size=s.heap.objs.size+1:=by rw[Heap.size_push]
    have hneI:l≠(s.heap.push ob).objs.size:=by rw[hsz];exact Nat.ne_of_lt (Nat.lt_succ_of_lt hlS)
    have hSf:s.heap.objs.size∉[(s.heap.push ob).objs.size,l]:=by
     rw[hsz];intro hm
     rcases List.mem_cons.mp hm with e|hm
     ·exact Nat.ne_of_lt (Nat.lt_succ_self _) e
     ·exact Nat.ne_of_gt hlS (List.mem_singleton.mp hm)
    have off:∀ b:Nat,b<s.heap.objs.size->b∉s.heap.objs.size::[(s.heap.push ob).objs.size]:=fun b hb hm=>by
     rw[hsz]at hm
     rcases List.mem_cons.mp hm with e|hm
     ·exact Nat.ne_of_lt hb e
     ·exact Nat.ne_of_lt (Nat.lt_succ_of_lt hb) (List.mem_singleton.mp hm)
    have hnw:∀ i,i<items.size->(km i).1∉s.heap.objs.size::[(s.heap.push ob).objs.size]:=fun i hi=>off _ (by
     obtain⟨o',_,_,ho',_⟩:=hkey i hi;exact Heap.lt_size ho')
    refine Dx ((Walks.list (by simp[hh]) _ l hneI items).toS) s.heap.objs.size hSf km hv hnw hn (by show A.units+1+1+1<cLine;omega) (items.size-0) 0 _ (by omega) (Nat.zero_le _)
     ⟨⟨_,Heap.get?_push_size _ rfl,rfl,rfl⟩,(hl1.push _)⟩ (fun i hi=>?_) ?_ ?_
    ·obtain⟨o',its',m',ho',x⟩:=hkey i hi;exact⟨o',its',m',Heap.get?_push_of_some _ (Heap.get?_push_of_some _ ho'),x⟩
    ·refine zT ?_;rw[hob];exact Heap.get?_push_of_some _ hS
    ·intro s' hm hS';obtain⟨h',g',d',tk',os'⟩:=s';have eg:g'=s.gens:=hm.gens;have ed:d'=s.drawn:=hm.drawn;have eo:os'=s.os:=hm.os;subst eg;subst ed;subst eo;show wpAny _ _ _ _ _ _;refine wpAny_pure ?_;show wpAny _ _ (ret Value.none) _ _ _;refine wpAny_pure ⟨rfl,h',tk',rfl,hS',fun b o hb e=>?_⟩;exact hm.heap b o (off b hb) (Heap.get?_push_of_some _ (Heap.get?_push_of_some _ e))
   ·cases r2 with
    | error e=>exact hr2
    | ok fl2=>
     cases fl2 with
     | ret r=>
      obtain⟨rfl,h',tk,rfl,hS',hk'⟩:=hr2
      repeat (any_goals (first|assumption|wp_step))
      exact h _ _ hS' hk'
     | _=>exact hr2.elim
  | _=>exact hr.elim
end
end ST
set_option maxHeartbeats 3200000
namespace ST
open PySem PySem.SetTable
theorem ny {α:Type}:∀ (l:List α) (i:Nat) (h:i<l.length),List.Perm (l[i]::l.eraseIdx i) l
 | [],i,h=>by simp at h
 | a::l,0,h=>by simp
 | a::l,i+1,h=>by
  simp only[List.getElem_cons_succ,List.eraseIdx_cons_succ];exact(List.Perm.swap _ _ _).trans (List.Perm.cons a (ny l i (by simpa using h)))
theorem yC {α:Type}(next:Nat->Nat):∀ (fuel k:Nat) (left:List α) (out:Array α),left.length=fuel->List.Perm (pickOrder.go next fuel k left out).toList (out.toList++left)
 | 0,k,left,out,h=>by
  have:left=[]:=List.length_eq_zero_iff.mp h;subst this;simp[pickOrder.go]
 | fuel+1,k,left,out,h=>by
  have hi:next k % left.length<left.length:=Nat.mod_lt _ (by omega)
  simp only[pickOrder.go,List.getElem?_eq_getElem hi];refine(yC next fuel (k+1) _ _ (by rw[List.length_eraseIdx_of_lt hi];omega)).trans ?_
  rw[Array.toList_push,List.append_assoc];exact List.Perm.append_left _ (ny _ _ hi)
theorem AA {α:Type}(next:Nat->Nat)(xs:Array α):List.Perm (pickOrder next xs).toList xs.toList:=by
 have:=yC next xs.size 0 xs.toList #[] (by simp)
 simpa [pickOrder] using this
def cY (w:World)(a:Addr)(ep:Nat)(es:Array (Int × Value)):List Value:=
 if w.params.followText "set-order"=true then (pickOrder (w.params.setOrder a ep) es).toList.map (·.2) else es.toList.map (·.2)
theorem qv (w:World)(a:Addr)(ep:Nat)(es:Array (Int × Value)):List.Perm (cY w a ep es) (es.toList.map (·.2)):=by
 unfold cY
 split
 ·exact(AA _ es).map _
 ·exact .refl _
theorem vG {xs:Array Nat}(ris:xs.toList.Pairwise (· < ·)):below xs 0=0:=by
 obtain⟨h1,h2⟩:=kc 0 ris
 rcases Nat.eq_zero_or_pos (below xs 0) with h|h
 ·exact h
 ·have:=(h2 0 (by omega)).mp h
  omega
theorem vF {xs:Array Nat}(ris:xs.toList.Pairwise (· < ·)){i:Nat}(hi:i<xs.size):below xs (xs[i]+1)=i+1:=by
 obtain⟨h1,h2⟩:=kc (xs[i]+1) ris;have mono:∀ a b (ha:a<xs.size) (hb:b<xs.size),a<b->xs[a]<xs[b]:=fun a b ha hb hab=>by
  have:=List.pairwise_iff_getElem.mp ris a b (by simpa using ha) (by simpa using hb) hab
  simpa using this
 rcases Nat.lt_trichotomy (below xs (xs[i]+1)) (i+1) with h|h|h
 ·have:=(h2 i hi).mpr (by omega)
  omega
 ·exact h
 ·have h3:=(h2 (i+1) (by omega)).mp h
  have:=mono i (i+1) hi (by omega) (by omega)
  omega
theorem er:Slot "set_iterator" "__next__" "set_iterator.__next__":=
 .of (owner:="set_iterator") (n:="__next__") (by rw[typeLookup_type,builtinLookup_eq_fast];kernel_rfl) (by decide +kernel) (by decide +kernel) (by decide +kernel)
  (by first|exact .inl (by decide +kernel)|exact .inr (by decide +kernel)) (by rw[isSubtype_type];kernel_rfl)
theorem nq:entryFor table "set_iterator.__next__"=some Builtin.«set_iterator.__next__»:=entryFor_of_tree (by kernel_rfl)
theorem qf:Manifest.owners.lookup (String.ofList ("set_iterator".toList.reverse).reverse)=some Manifest.sig_set_iterator:=by kernel_rfl
theorem oT (a:Value):argsOk "set_iterator.__next__" ⟨[a],[]⟩:=by
 unfold argsOk;rw[signature?_of (id:="set_iterator.__next__") (n:="__next__".toList.reverse) (o:="set_iterator".toList.reverse) (by kernel_rfl) qf];kernel_rfl
theorem jN:Slot "set_iterator" "__iter__" "set_iterator.__iter__":=
 .of (owner:="set_iterator") (n:="__iter__") (by rw[typeLookup_type,builtinLookup_eq_fast];kernel_rfl) (by decide +kernel) (by decide +kernel) (by decide +kernel)
  (by first|exact .inl (by decide +kernel)|exact .inr (by decide +kernel)) (by rw[isSubtype_type];kernel_rfl)
theorem oS (a:Value):argsOk "set_iterator.__iter__" ⟨[a],[]⟩:=by
 unfold argsOk;rw[signature?_of (id:="set_iterator.__iter__") (n:="__iter__".toList.reverse) (o:="set_iterator".toList.reverse) (by kernel_rfl) qf];kernel_rfl
theorem np:entryFor table "set_iterator.__iter__"=some Builtin.«dict_keyiterator.__iter__»:=
 entryFor_alias (id':="dict_keyiterator.__iter__") (by kernel_rfl) (by first | rfl | decide +kernel) (by decide +kernel) (by kernel_rfl)
theorem nk:entryFor table "set.__iter__"=some Builtin.«frozenset.__iter__»:=
 entryFor_alias (id':="frozenset.__iter__") (by kernel_rfl) rfl (by decide +kernel) (by kernel_rfl)
structure jR (w:World) (o:Obj) (es:Array (Int × Value)) (ep:Nat) (t:SetTable):Prop where
 ex:o.ExactSet
 dt:o.data=.set es ep t
 fit:t.fits es.size=true
 ris:t.place.toList.Pairwise (· < ·)
 pl:t.plain=true
 led:t.led=!(w.params.followText "set-order")
def j7 (h:Heap) (I S:Addr) (sl i n ep:Nat):Prop:=∃ o,h.get? I=some o/\o.cls=.type "set_iterator"/\o.data=.fields #[rawInt sl,rawInt i,.ref S,rawInt n,rawInt ep]
section
variable {prog:Program}{w:World}{A:Around}{E:Value->Shared->Prop}{s:Shared}{o:Obj}{es:Array (Int × Value)}{ep:Nat}{t:SetTable}{S I:Addr}
theorem j7.typeIs {sl i n:Nat} (x:j7 s.heap I S sl i n ep):s.TypeIs (.ref I) "set_iterator":=let ⟨o,ho,hc,_⟩:=x;⟨o,ho,hc⟩
theorem j7.at {h h':Heap}{sl i n:Nat}(x:j7 h I S sl i n ep)(e:∀ o,h.get? I=some o->h'.get? I=some o):j7 h' I S sl i n ep:=let ⟨o,ho,r⟩:=x;⟨o,e _ ho,r⟩
theorem xw {sl i:Nat}{Q:Option (Value × Nat)->Shared->Prop}(W:jR w o es ep t)(ho:s.heap.get? S=some o)
  (hsl:w.params.followText "set-order"=false->below t.place sl=i)
  (hsome:∀ v sl',(cY w S ep es)[i]?=some v->(w.params.followText "set-order"=false->below t.place sl'=i+1)->Q (some (v,sl')) s) (hnone:(cY w S ep es)[i]?=none->Q none s) :
  wpAny (model prog w) A (setNext S sl i ep) Q E s:=by
 unfold setNext;refine wpAny_bind (wpAny_setState_of ho W.dt W.fit ?_);dsimp only;unfold setsByText;refine wpAny_bind (wpAny_bind (wpAny_askSetting (wpAny_pure ?_)))
 by_cases hb:w.params.followText "set-order"=true
 ·show wpAny _ _ (if w.params.followText "set-order"=true then _ else _) _ _ _
  rw[if_pos hb];rw[if_neg (by simp)]
  unfold setWalk;refine wpAny_bind (wpAny_bind (wpAny_setState_of ho W.dt W.fit ?_));dsimp only;unfold setsByText;refine wpAny_bind (wpAny_bind (wpAny_askSetting (wpAny_pure ?_)));show wpAny _ _ (if w.params.followText "set-order"=true then _ else _) _ _ _
  rw[if_pos hb];refine wpAny_bind (wpAny_askSetting (wpAny_pure ?_));refine wpAny_pure ?_;have ew:cY w S ep es=(pickOrder (w.params.setOrder S ep) es).toList.map (·.2):=by unfold cY;rw[if_pos hb]
  show Q (((pickOrder (w.params.setOrder S ep) es)[i]?).map fun e=>(e.2,sl)) s
  cases hp:(pickOrder (w.params.setOrder S ep) es)[i]? with
  | none=>
   have:=hnone (by rw[ew,List.getElem?_map,Array.getElem?_toList,hp];rfl)
   exact this
  | some e=>
   have:=hsome e.2 sl (by rw[ew,List.getElem?_map,Array.getElem?_toList,hp];rfl) (fun h=>by rw[hb]at h;exact nomatch h)
   exact this
 ·have hb':w.params.followText "set-order"=false:=by simpa using hb
  show wpAny _ _ (if w.params.followText "set-order"=true then _ else _) _ _ _
  rw[if_neg hb];show wpAny _ _ (if (!t.plain && decide (es.size>1))=true then _ else _) _ _ _
  rw[if_neg (by simp[W.pl])]
  refine wpAny_bind ?_;show wpAny _ _ (if (!t.led && !es.isEmpty)=true then _ else _) _ _ _
  rw[if_neg (by simp[W.led,hb'])]
  refine wpAny_pure ?_;rw[hsl hb'];refine wpAny_pure ?_;have hps:t.place.size=es.size:=by
   have:=W.fit;simp only[SetTable.fits,Bool.and_eq_true,beq_iff_eq]at this;exact this.1
  have ew:cY w S ep es=es.toList.map (·.2):=by unfold cY;rw[if_neg hb]
  rcases Nat.lt_or_ge i es.size with hi|hi
  ·have hi':i<t.place.size:=by rw[hps];exact hi
   have:=hsome es[i].2 (t.place[i]+1) (by rw[ew];simp[hi]) (fun _=>vF W.ris hi')
   simpa [hi,hi'] using this
  ·have:=hnone (by rw[ew];simpa using hi)
   have hi':t.place.size<=i:=by rw[hps];exact hi
   simpa [Array.getElem?_eq_none hi,Array.getElem?_eq_none hi'] using this
theorem mi {sl i:Nat}{Q:Option Value->Shared->Prop}(hh:A.handled=none)(W:jR w o es ep t)(ho:s.heap.get? S=some o)(hne:S≠I)
  (hit:j7 s.heap I S sl i es.size ep) (hsl:w.params.followText "set-order"=false->below t.place sl=i)
  (hsome:∀ v sl' h',(cY w S ep es)[i]?=some v->j7 h' I S sl' (i+1) es.size ep->(w.params.followText "set-order"=false->below t.place sl'=i+1)->Heap.ExtBut I s.heap h'->Q (some v) {s with heap:=h'})
  (hnone:∀ h',(cY w S ep es)[i]?=none->Heap.ExtBut I s.heap h'->Q none {s with heap:=h'}) :
  wpAny (model prog w) A (pyNext (.ref I)) Q E s:=by
 obtain⟨oI,hoI,hcI,hdI⟩:=id hit;unfold pyNext;refine wpAny_bind (wpAny_attempt (wpAny_callSpecial?_slot (name:=Str.ofString "__next__") hit.typeIs er
  (wpAny_call_entry er hit.typeIs nq ?_ (oT _))))
 unfold Builtin.«set_iterator.__next__»;refine wpAny_bind (wpAny_of_eq (a:=(Value.ref I,[])) rfl ?_);refine wpAny_bind (wpAny_fieldsOf hoI hdI ?_);simp only[rawInt,List.toList_toArray];refine wpAny_bind (wpAny_setEntries_of ho W.dt W.fit ?_);rw[if_neg (by simp)]
 simp only[Int.toNat_natCast];have hlI:∀ {h':Heap},Heap.SameBut I s.heap h'->h'.get? S=some o:=fun hs=>(hs.2 S hne).trans ho;refine wpAny_bind (xw W ho hsl (fun v sl' hv hsl'=>?_) (fun hv=>?_))
 ·dsimp only;refine wpAny_bind (wpAny_setField hoI hdI (by simp) ?_)
  have g1:=Heap.get?_update_self (Obj.mapFields (·.setIfInBounds 0 (Value.int (sl':Int) 0))) hoI (Obj.isFreed_of_fields (Obj.data_mapFields hdI _));have d1:=Obj.data_mapFields hdI (·.setIfInBounds 0 (Value.int (sl':Int) 0));refine wpAny_bind (wpAny_setField (s:={s with heap:=s.heap.update I (Obj.mapFields (·.setIfInBounds 0 (Value.int (sl':Int) 0)))}) g1 d1 (by simp) ?_)
  refine wpAny_pure ⟨v,rfl,wpAny_pure (hsome v sl' _ hv ?_ hsl' ((Heap.SameBut.update ..).trans (Heap.SameBut.update ..)).extBut)⟩;refine⟨_,Heap.get?_update_self _ g1 (Obj.isFreed_of_fields (Obj.data_mapFields d1 _)),(Obj.cls_mapFields ..).trans ((Obj.cls_mapFields ..).trans hcI),?_⟩;rw[Obj.data_mapFields d1];simp[rawInt]
 ·dsimp only;refine wpAny_bind (wpAny_setField hoI hdI (by simp) ?_)
  show wpAny _ _ (newExc (.type "StopIteration") [] >>= _) _ _ _;refine wpAny_bind ?_;simp only[newExc,newTuple];refine wpAny_bind (wpAny_newObj_type ?_ (by size_fits))
  refine wpAny_bind (m:=firstArgMember _ _) (wpAny_of_eq (a:=Value.none) (by first|rfl|(simp only[firstArgMember];rfl)) ?_)
  refine wpAny_newObj_type ?_ (by size_fits)
  simp only[raiseNew];refine wpAny_bind (wpAny_handled ?_);rw[show A.in1.handled=none from hh];refine wpAny_bind (wpAny_pure (wpAny_throw ?_));refine wpAny_bind (wpAny_isInstance (T:="StopIteration") (b:=true) ⟨_,Heap.get?_push_size _ rfl,rfl⟩ isSubtype_stop ?_);exact wpAny_pure (hnone _ hv (((Heap.SameBut.update ..).extBut.push _).push _))
theorem vj {sl i n:Nat}{Q:Value->Shared->Prop}(hit:j7 s.heap I S sl i n ep)(h:Q (.ref I) s):wpAny (model prog w) A (pyIter (.ref I)) Q E s:=by
 refine wpAny_pyIter_slot hit.typeIs jN (wpAny_call_entry jN hit.typeIs np ?_ (oS _));show wpAny _ _ (ret (.ref I)) _ _ s;exact wpAny_pure ⟨_,rfl,"set_iterator",_,hit.typeIs,er.lookup,h⟩
theorem oG (W:jR w o es ep t):(cY w S ep es).length=es.size:=by
 rw[(qv w S ep es).length_eq,List.length_map,Array.length_toList]
theorem AU (hh:A.handled=none)(W:jR w o es ep t)(hne:S≠I) :
  Walks prog w A I [I,S] [I] es.size (fun i v=>(cY w S ep es)[i]?=some v)
   (fun i h=>∃ sl,j7 h I S sl i es.size ep/\(w.params.followText "set-order"=false->below t.place sl=i)/\h.get? S=some o) where
 sub:=fun b hb=>by simp at hb;simp[hb]
 frame:=fun _ _ _ ⟨sl,x1,x2,x3⟩ hk=>⟨sl,x1.at fun o e=>hk I (by simp) o e,x2,hk S (by simp) _ x3⟩
 item:=fun i s Q E hi ⟨sl,x1,x2,x3⟩ hQ=>by
  refine mi hh W x3 hne x1 x2 (fun v sl' h' hv hit' hsl' he=>?_) (fun h' hv=>?_)
  ·exact hQ v h' s.toks hv ⟨sl',hit',hsl',he S o hne x3⟩ fun b o' hb e=>he b o' (fun h=>hb (by simp[h])) e
  ·rw[List.getElem?_eq_none_iff,oG W]at hv;omega
 done:=fun s Q E ⟨sl,x1,x2,x3⟩ hQ=>by
  refine mi hh W x3 hne x1 x2 (fun v sl' h' hv hit' hsl' he=>?_) (fun h' hv he=>?_)
  ·have:=List.getElem?_eq_some_iff.mp hv;obtain⟨h1,_⟩:=this;rw[oG W]at h1;omega
  ·exact hQ h' s.toks fun b o' hb e=>he b o' (fun h=>hb (by simp[h])) e
 self:=fun _ _ _ _ ⟨_,x1,_⟩ hQ=>vj x1 hQ
theorem vi {Q:Value->Shared->Prop}(W:jR w o es ep t)(ho:s.heap.get? S=some o)
  (hQ:Q (.ref s.heap.objs.size) {s with heap:=s.heap.push {cls:=.type "set_iterator",data:=.fields #[rawInt (0:Nat),rawInt (0:Nat),.ref S,rawInt es.size,rawInt ep]}}) :
  wpAny (model prog w) A (pyIter (.ref S)) Q E s:=by
 have hT:s.TypeIs (.ref S) "set":=⟨o,ho,W.ex.1⟩;refine wpAny_pyIter_slot hT F.slot_set_iter (wpAny_call_entry F.slot_set_iter hT nk ?_ (F.args_set_iter_1 _));unfold Builtin.«frozenset.__iter__» Builtin.Frozenset.slot0 slotArgs;simp only[List.isEmpty_nil,Bool.not_true,Bool.false_eq_true,↓reduceIte,bind_assoc,List.length_nil,bne_self_eq_false];unfold Builtin.Frozenset.addrOf Builtin.Frozenset.sizeOf;refine wpAny_bind (wpAny_pure ?_)
 try dsimp only
 refine wpAny_bind (wpAny_pure ?_);refine wpAny_bind (wpAny_bind (wpAny_setEntries_of ho W.dt W.fit (wpAny_pure ?_)));unfold setDrawn setsByText;refine wpAny_bind (wpAny_bind (wpAny_setState_of ho W.dt W.fit ?_));dsimp only;refine wpAny_bind (wpAny_bind (wpAny_askSetting (wpAny_pure ?_)));refine wpAny_pure ?_;show wpAny _ _ (if (!(w.params.followText "set-order") && (!t.plain && decide (es.size>1)))=true then _ else _) _ _ _
 rw[if_neg (by simp[W.pl])]
 refine wpAny_bind (wpAny_pure ?_);refine wpAny_bind (wpAny_setEpoch_of ho W.dt W.fit ?_);exact wpAny_bind (wpAny_newObj_type (wpAny_pure ⟨_,rfl,"set_iterator",_,⟨_,Heap.get?_push_size _ rfl,rfl⟩,er.lookup,hQ⟩))
end
end ST
set_option maxHeartbeats 3200000
namespace SR
variable {α:Type}
theorem PC {out A B1 B2 X:List α}(h:List.Perm (out++A++(B1++B2)) X):List.Perm (out++B1++A++B2) X:=by
 refine List.Perm.trans ?_ h;have:List.Perm (B1++A) (A++B1):=List.perm_append_comm;have h6:=(this.append_left out).append_right B2;simpa [List.append_assoc] using h6
theorem Ll {out A B X:List α}(h:List.Perm (out++A++B) X):List.Perm (out++B++A) X:=by
 have:=PC (B2:=[]) (by simpa using h)
 simpa using this
theorem Ql {ro A1 A2 B X:List α}(h:List.Perm (A1++A2++B++ro) X):List.Perm (A1++B++(A2++ro)) X:=by
 refine List.Perm.trans ?_ h;have:List.Perm (B++A2) (A2++B):=List.perm_append_comm;have h6:=(this.append_left A1).append_right ro;simpa [List.append_assoc] using h6
theorem uq:∀ (l:List α) (i sa:Nat) (arr:Array α),sa+i+l.length<=arr.size →
  ((l.zipIdx i).foldl (fun a (q:α × Nat)=>a.setIfInBounds (sa+q.2) q.1) arr).toList=arr.toList.take (sa+i)++l++arr.toList.drop (sa+i+l.length)
 | [],i,sa,arr,_=>by simp
 | x::l,i,sa,arr,h=>by
  simp only[List.length_cons]at h;rw[List.zipIdx_cons,List.foldl_cons,uq l (i+1) sa _ (by simp;omega)]
  have hlt:sa+i<arr.toList.length:=by simp;omega
  have e1:((arr.setIfInBounds (sa+i) x).toList.take (sa+(i+1)))=arr.toList.take (sa+i)++[x]:=by
   rw[Array.toList_setIfInBounds,show sa+(i+1)=sa+i+1 by omega,List.take_succ]
   rw[List.take_set_of_le (by omega)]
   have hlt':sa+i<arr.size:=by omega
   simp[hlt']
  have e2:((arr.setIfInBounds (sa+i) x).toList.drop (sa+(i+1)+l.length))=arr.toList.drop (sa+i+(x::l).length):=by
   rw[Array.toList_setIfInBounds,List.drop_set_of_lt (by omega)]
   simp only[List.length_cons]
   congr 1;omega
  rw[e1,e2];simp
end SR
set_option maxHeartbeats 3200000
namespace SR
open PySem PyProof.Rows
def df:Bool->Keyed->Array Keyed->Nat->Nat->Nat->StateT SortSt Sem (Option Nat):=sortPriv% PySem.Builtin.gallop
def bz:Nat->StateT SortSt Sem Unit:=sortPriv% PySem.Builtin.setMinGallop
def kH:Array Keyed->Array Keyed->StateT SortSt Sem (Array Keyed):=sortPriv% PySem.Builtin.mergeLo
def kG:Array Keyed->Array Keyed->StateT SortSt Sem (Array Keyed):=sortPriv% PySem.Builtin.mergeHi
def vH (left:Bool)(key:Keyed)(arr:Array Keyed)(base i:Nat):StateT SortSt Sem (Option Bool):=do
 let x ← elem' arr (base+i)
 if left then lt' x key else return (← lt' key x).map (!·)
theorem wq (left:Bool)(key:Keyed)(arr:Array Keyed)(base n hint:Nat):df left key arr base n hint=(do
 let mut lastofs:=0
 let mut ofs:=1
 let mut lo:=0
 let mut hi:=0
 let some right ← vH left key arr base hint|return none
 if right then
  let maxofs:=n-hint
  for _ in [0:n] do
   if ofs>=maxofs then break
   let some more ← vH left key arr base (hint+ofs)|return none
   if !more then break
   lastofs:=ofs
   ofs:=2*ofs+1
  lo:=hint+lastofs+1
  hi:=hint+min ofs maxofs
 else
  let maxofs:=hint+1
  for _ in [0:n] do
   if ofs>=maxofs then break
   let some found ← vH left key arr base (hint-ofs)|return none
   if found then break
   lastofs:=ofs
   ofs:=2*ofs+1
  lo:=hint+1-min ofs maxofs
  hi:=hint-lastofs
 for _ in [0:n] do
  if lo>=hi then break
  let m:=lo+(hi-lo) / 2
  let some more ← vH left key arr base m|return none
  if more then lo:=m+1 else hi:=m
 return some hi):=rfl
theorem lW (g:Nat):bz g=modify fun s=>SortSt.mk' (kindOf s) (arrOf s) (pendingOf s) g (failedOf s):=rfl
def dO (a b out:Array Keyed)(ia ib:Nat):Array Keyed:=out++a.extract ia a.size++b.extract ib b.size
def jK (a b out:Array Keyed)(ia ib:Nat):Array Keyed:=out++b.extract ib b.size++a.extract ia a.size
theorem uN (a b:Array Keyed):kH a b=(do
 rule "list.sort.merge-lo"
 let total:=a.size+b.size
 let mut out:Array Keyed:=#[<-elem' b 0]
 let mut ia:=0
 let mut ib:=1
 if ib == b.size then return dO a b out ia ib
 if ia+1 == a.size then return jK a b out ia ib
 let mut minGallop:=gallopOf (← get)
 for _ in [0:total] do
  let mut acount:=0
  let mut bcount:=0
  for _ in [0:total] do
   let some bWins ← lt' (← elem' b ib) (← elem' a ia)|return dO a b out ia ib
   if bWins then
    out:=out.push (← elem' b ib);ib:=ib+1;bcount:=bcount+1;acount:=0
    if ib == b.size then return dO a b out ia ib
    if bcount>=minGallop then break
   else
    out:=out.push (← elem' a ia);ia:=ia+1;acount:=acount+1;bcount:=0
    if ia+1 == a.size then return jK a b out ia ib
    if acount>=minGallop then break
  rule "list.sort.gallop"
  minGallop:=minGallop+1
  for _ in [0:total] do
   if minGallop>1 then minGallop:=minGallop-1
   bz minGallop
   let some k ← df false (← elem' b ib) a ia (a.size-ia) 0|return dO a b out ia ib
   acount:=k
   if k>0 then
    out:=out++a.extract ia (ia+k);ia:=ia+k
    if ia+1 == a.size then return jK a b out ia ib
    if ia == a.size then return dO a b out ia ib
   out:=out.push (← elem' b ib);ib:=ib+1
   if ib == b.size then return dO a b out ia ib
   let some k ← df true (← elem' a ia) b ib (b.size-ib) 0|return dO a b out ia ib
   bcount:=k
   if k>0 then
    out:=out++b.extract ib (ib+k);ib:=ib+k
    if ib == b.size then return dO a b out ia ib
   out:=out.push (← elem' a ia);ia:=ia+1
   if ia+1 == a.size then return jK a b out ia ib
   if acount<7 && bcount<7 then break
  minGallop:=minGallop+1
  bz minGallop
 unsupported "internal:list.sort.merge-bound"):=rfl
def dN (a b out:Array Keyed)(na nb:Nat):Array Keyed:=a.extract 0 na++b.extract 0 nb++out.reverse
def gh (a b out:Array Keyed)(na nb:Nat):Array Keyed:=b.extract 0 nb++a.extract 0 na++out.reverse
theorem uM (a b:Array Keyed):kG a b=(do
 rule "list.sort.merge-hi"
 let total:=a.size+b.size
 let mut na:=a.size-1
 let mut nb:=b.size
 let mut out:Array Keyed:=#[<-elem' a na]
 if na == 0 then return dN a b out na nb
 if nb == 1 then return gh a b out na nb
 let mut minGallop:=gallopOf (← get)
 for _ in [0:total] do
  let mut acount:=0
  let mut bcount:=0
  for _ in [0:total] do
   let some aWins ← lt' (← elem' b (nb-1)) (← elem' a (na-1))|return dN a b out na nb
   if aWins then
    na:=na-1;out:=out.push (← elem' a na);acount:=acount+1;bcount:=0
    if na == 0 then return dN a b out na nb
    if acount>=minGallop then break
   else
    nb:=nb-1;out:=out.push (← elem' b nb);bcount:=bcount+1;acount:=0
    if nb == 1 then return gh a b out na nb
    if bcount>=minGallop then break
  rule "list.sort.gallop"
  minGallop:=minGallop+1
  for _ in [0:total] do
   if minGallop>1 then minGallop:=minGallop-1
   bz minGallop
   let some at_ ← df false (← elem' b (nb-1)) a 0 na (na-1)|return dN a b out na nb
   let k:=na-at_
   acount:=k
   if k>0 then
    out:=out++(a.extract at_ na).reverse;na:=at_
    if na == 0 then return dN a b out na nb
   nb:=nb-1;out:=out.push (← elem' b nb)
   if nb == 1 then return gh a b out na nb
   let some at_ ← df true (← elem' a (na-1)) b 0 nb (nb-1)|return dN a b out na nb
   let k:=nb-at_
   bcount:=k
   if k>0 then
    out:=out++(b.extract at_ nb).reverse;nb:=at_
    if nb == 1 then return gh a b out na nb
    if nb == 0 then return dN a b out na nb
   na:=na-1;out:=out.push (← elem' a na)
   if na == 0 then return dN a b out na nb
   if acount<7 && bcount<7 then break
  minGallop:=minGallop+1
  bz minGallop
 unsupported "internal:list.sort.merge-bound"):=rfl
section
variable {prog:Program}{w:World}{A:Around}{E:Value->Shared->Prop}{s:Shared}{κ:SortKind}{rk:Keyed->Int}{Gd:Keyed->Prop}
def oP (prog:Program)(w:World)(A:Around)(s:Shared)(κ:SortKind)(rk:Keyed->Int)(Gd:Keyed->Prop):Prop:=
 ∀ x y,Gd x->Gd y->∀ Q:Bool->Shared->Prop,Q (decide (rk x<rk y)) s->wpAny (model prog w) A (keyLt' κ x.1 y.1) Q (fun _ _=>False) s
theorem w_lt (hc:oP prog w A s κ rk Gd){x y:Keyed}{a:Array Keyed}{p:Array (Nat × Nat × Nat)}{g:Nat}{Q:Option Bool->SortSt->Prop}(hx:Gd x)(hy:Gd y)(h:Q (some (decide (rk x<rk y))) (SortSt.mk' κ a p g none)) :
  wpS (model prog w) A E s (lt' x y) Q (SortSt.mk' κ a p g none):=by
 rw[lt'_eq];refine wpS_bind (wpS_get ?_);refine wpS_bind (wpS_lift (wpAny_attempt (wpAny_mono (hc x y hx hy (fun c s'=>s'=s/\Q (some c) (SortSt.mk' κ a p g none)) ⟨rfl,h⟩) (fun c s' hq=>?_) fun _ _ hF=>hF.elim)));exact⟨hq.1,wpS_pure hq.2⟩
theorem xt {arr:Array Keyed}{i:Nat}{x:Keyed}{st:SortSt}{Q:Keyed->SortSt->Prop}(he:arr[i]?=some x)(h:Q x st):wpS (model prog w) A E s (elem' arr i) Q st:=by
 rw[elem'_eq,he];exact wpS_pure h
theorem Mg (hc:oP prog w A s κ rk Gd){i j:Nat}{x y:Keyed}{a:Array Keyed}{p:Array (Nat × Nat × Nat)}{g:Nat}{Q:Option Bool->SortSt->Prop}(ei:a[i]?=some x)(ej:a[j]?=some y)(hx:Gd x)(hy:Gd y)
  (h:Q (some (decide (rk x<rk y))) (SortSt.mk' κ a p g none)):wpS (model prog w) A E s (ltAt' i j) Q (SortSt.mk' κ a p g none):=by
 rw[ltAt'_eq];refine wpS_bind (wpS_get ?_);exact wpS_bind (xt ei (wpS_bind (xt ej (w_lt hc hx hy h))))
def G (prog:Program)(w:World)(A:Around)(E:Value->Shared->Prop)(s:Shared)(κ:SortKind)(arr:Array Keyed)(p:Array (Nat × Nat × Nat)){α:Type}(m:StateT SortSt Sem α)(Q:α->Prop):Prop:=
 ∀ g,wpS (model prog w) A E s m (fun a st'=>(∃ g',st'=SortSt.mk' κ arr p g' none)/\Q a) (SortSt.mk' κ arr p g none)
variable {arr:Array Keyed}{p:Array (Nat × Nat × Nat)}
theorem aG {α:Type}{a:α}{Q:α->Prop}(h:Q a):G prog w A E s κ arr p (pure a) Q:=fun g=>wpS_pure ⟨⟨g,rfl⟩,h⟩
theorem aI {α β:Type}{m:StateT SortSt Sem α}{f:α->StateT SortSt Sem β}{Q:β->Prop}(h:G prog w A E s κ arr p m fun a=>G prog w A E s κ arr p (f a) Q):G prog w A E s κ arr p (m >>= f) Q:=fun g=>
 wpS_bind (wpS_mono (h g) fun a st' hq=>by
  obtain⟨⟨g',rfl⟩,hq⟩:=hq;exact hq g')
theorem dz {α:Type}{m:StateT SortSt Sem α}{Q Q':α->Prop}(h:G prog w A E s κ arr p m Q)(hq:∀ a,Q a->Q' a):G prog w A E s κ arr p m Q':=fun g=>wpS_mono (h g) fun a st' hh=>⟨hh.1,hq a hh.2⟩
theorem FC (hc:oP prog w A s κ rk Gd){x y:Keyed}{Q:Option Bool->Prop}(hx:Gd x)(hy:Gd y)(h:Q (some (decide (rk x<rk y)))):G prog w A E s κ arr p (lt' x y) Q:=fun g=>w_lt hc hx hy ⟨⟨g,rfl⟩,h⟩
theorem bU {a:Array Keyed}{i:Nat}{x:Keyed}{Q:Keyed->Prop}(he:a[i]?=some x)(h:Q x):G prog w A E s κ arr p (elem' a i) Q:=fun g=>xt he ⟨⟨g,rfl⟩,h⟩
theorem Iv {Q:SortSt->Prop}(h:∀ st,Q st):G prog w A E s κ arr p get Q:=fun g=>wpS_get ⟨⟨g,rfl⟩,h _⟩
theorem xB {g:Nat}{Q:Unit->Prop}(h:Q ()):G prog w A E s κ arr p (bz g) Q:=fun g'=>by
 rw[lW];exact wpS_modify ⟨⟨g,rfl⟩,h⟩
theorem qC {r:String}{Q:PUnit->Prop}(h:Q ⟨⟩):G prog w A E s κ arr p (liftM (rule r)) Q:=fun g=>wpS_lift (wpAny_rule ⟨rfl,⟨g,rfl⟩,h⟩)
theorem j6 {β:Type}{a b:Nat}{f:Nat->β->StateT SortSt Sem (ForInStep β)}(I:Nat->β->Prop){Q:β->Prop}
  (hstep:∀ i c,a<=i->i<b->I i c->G prog w A E s κ arr p (f i c) fun r=>match r with|.done c'=>Q c'|.yield c'=>I (i+1) c')
  (hend:∀ c,I (max a b) c->Q c) {c:β} (h:I a c):G prog w A E s κ arr p (forIn [a:b] c f) Q:=fun g=>by
 refine wpS_forRange (I:=fun x c st=>(∃ g',st=SortSt.mk' κ arr p g' none)/\I x c) (Q:=fun c st=>(∃ g',st=SortSt.mk' κ arr p g' none)/\Q c) ?_ (fun c st hh=>⟨hh.1,hend c hh.2⟩) ⟨⟨g,rfl⟩,h⟩;rintro i c st h1 h2 ⟨⟨g',rfl⟩,h3⟩;refine wpS_mono (hstep i c h1 h2 h3 g') fun r st' hh=>?_
 cases r with
 | done c'=>exact hh
 | yield c'=>exact hh
theorem Ms (hc:oP prog w A s κ rk Gd){left:Bool}{key x:Keyed}{a:Array Keyed}{base i:Nat}{Q:Option Bool->Prop}(hk:Gd key)(hx:Gd x)(he:a[base+i]?=some x)(h:∀ b,Q (some b)) :
  G prog w A E s κ arr p (vH left key a base i) Q:=by
 unfold vH;refine aI (bU he ?_)
 cases left with
 | true=>exact FC hc hx hk (h _)
 | false=>exact aI (FC hc hk hx (aG (h _)))
theorem pW (hc:oP prog w A s κ rk Gd){left:Bool}{key:Keyed}{a:Array Keyed}{base n hint:Nat}{Q:Option Nat->Prop}(hk:Gd key)(hG:∀ x∈a.toList,Gd x)(hn:base+n<=a.size)(hh:hint<n)(h:∀ k,k<=n->Q (some k)) :
  G prog w A E s κ arr p (df left key a base n hint) Q:=by
 have ask:∀ i,i<n->∀ {Q:Option Bool->Prop},(∀ b,Q (some b))->G prog w A E s κ arr p (vH left key a base i) Q:=fun i hi Q hq=>
  Ms hc hk (hG _ (Array.getElem_mem_toList (by omega:base+i<a.size))) (Array.getElem?_eq_getElem _) hq
 have tail:∀ (f:Nat->Option (Option Nat) × Nat × Nat->StateT SortSt Sem (ForInStep (Option (Option Nat) × Nat × Nat))) (k:Option (Option Nat) × Nat × Nat->StateT SortSt Sem (Option Nat)),
   (∀ x lo hi (Q:ForInStep (Option (Option Nat) × Nat × Nat)->Prop),hi<=n->(lo>=hi->Q (.done (none,lo,hi)))->(lo<hi->Q (.yield (none,lo+(hi-lo) / 2+1,hi))/\Q (.yield (none,lo,lo+(hi-lo) / 2)))->G prog w A E s κ arr p (f x (none,lo,hi)) Q)->(∀ lo hi,k (none,lo,hi)=pure (some hi)) →
   ∀ lo hi,lo<=hi->hi<=n->G prog w A E s κ arr p (forIn [0:n] (none,lo,hi) f >>= k) Q:=fun f k hf hk' lo hi hlh hhn=>by
  refine aI (j6 (I:=fun x c=>∃ lo hi,c=(none,lo,hi)/\lo<=hi/\hi<=n) ?_ ?_ ⟨lo,hi,rfl,hlh,hhn⟩)
  ·rintro x c _ hx ⟨lo,hi,rfl,g1,g2⟩;refine hf x lo hi _ g2 (fun hb=>?_) (fun hl=>⟨⟨_,_,rfl,by omega,g2⟩,_,_,rfl,by omega,by omega⟩)
   dsimp only;rw[hk'];exact aG (h _ g2)
  ·rintro c ⟨lo,hi,rfl,g1,g2⟩;rw[hk'];exact aG (h _ g2)
 rw[wq];refine aI (ask hint hh fun right=>?_);dsimp only
 cases right with
 | true=>
  simp only[if_true];refine aI (dz (j6 (I:=fun x c=>∃ la ofs,c=(none,la,ofs)/\la<ofs/\hint+la<n)
   (Q:=fun c=>∃ la ofs,c=(none,la,ofs)/\la<ofs/\hint+la<n) ?_ (fun c h=>h) ⟨0,1,rfl,by omega,hh⟩) ?_)
  ·rintro x c _ hx ⟨la,ofs,rfl,g1,g2⟩;dsimp only
   by_cases hb:ofs>=n-hint
   ·rw[if_pos hb];exact aG ⟨la,ofs,rfl,g1,g2⟩
   ·rw[if_neg hb];refine aI (ask _ (by omega) fun b=>?_)
    cases b with
    | false=>exact aG ⟨la,ofs,rfl,g1,g2⟩
    | true=>exact aG ⟨_,_,rfl,by omega,by omega⟩
  ·rintro c ⟨la,ofs,rfl,g1,g2⟩;dsimp only;refine tail _ _ (fun x lo hi Q hn h1 h2=>?_) (fun lo hi=>rfl) _ _ (by omega) (by omega)
   dsimp only
   by_cases hb:lo>=hi
   ·rw[if_pos hb];exact aG (h1 hb)
   ·rw[if_neg hb];refine aI (ask _ (by omega) fun b=>?_)
    cases b with
    | true=>exact aG (h2 (by omega)).1
    | false=>exact aG (h2 (by omega)).2
 | false=>
  simp only[Bool.false_eq_true,if_false];refine aI (dz (j6 (I:=fun x c=>∃ la ofs,c=(none,la,ofs)/\la<ofs/\la<=hint)
   (Q:=fun c=>∃ la ofs,c=(none,la,ofs)/\la<ofs/\la<=hint) ?_ (fun c h=>h) ⟨0,1,rfl,by omega,by omega⟩) ?_)
  ·rintro x c _ hx ⟨la,ofs,rfl,g1,g2⟩;dsimp only
   by_cases hb:ofs>=hint+1
   ·rw[if_pos hb];exact aG ⟨la,ofs,rfl,g1,g2⟩
   ·rw[if_neg hb];refine aI (ask _ (by omega) fun b=>?_)
    cases b with
    | true=>exact aG ⟨la,ofs,rfl,g1,g2⟩
    | false=>exact aG ⟨_,_,rfl,by omega,by omega⟩
  ·rintro c ⟨la,ofs,rfl,g1,g2⟩;dsimp only;refine tail _ _ (fun x lo hi Q hn h1 h2=>?_) (fun lo hi=>rfl) _ _ (by omega) (by omega)
   dsimp only
   by_cases hb:lo>=hi
   ·rw[if_pos hb];exact aG (h1 hb)
   ·rw[if_neg hb];refine aI (ask _ (by omega) fun b=>?_)
    cases b with
    | true=>exact aG (h2 (by omega)).1
    | false=>exact aG (h2 (by omega)).2
end
end SR
set_option maxHeartbeats 3200000
namespace SR
open PySem PyProof.Rows
abbrev LS:=Option (Array Keyed) × Array Keyed × Nat × Nat × Nat × Nat × Nat
abbrev MS:=Option (Array Keyed) × Array Keyed × Nat × Nat × Nat × Nat
section
variable (a b:Array Keyed)
def OO (out:Array Keyed)(ia ib mg k k1:Nat):StateT SortSt Sem (ForInStep LS):=do
 let x ← elem' a ia
 if (ia+1+1 == a.size)=true then pure (.done (some (jK a b (out.push x) (ia+1) ib),out.push x,ia+1,ib,mg,k,k1))
 else if (decide (k<7) && decide (k1<7))=true then pure (.done (none,out.push x,ia+1,ib,mg,k,k1))
 else pure (.yield (none,out.push x,ia+1,ib,mg,k,k1))
def ON (out:Array Keyed)(ia ib mg k bc:Nat):StateT SortSt Sem (ForInStep LS):=do
 let x ← elem' a ia
 let r ← df true x b ib (b.size-ib) 0
 match r with
 | some k1=>
  if k1>0 then
   if (ib+k1 == b.size)=true then pure (.done (some (dO a b (out++b.extract ib (ib+k1)) ia (ib+k1)),out++b.extract ib (ib+k1),ia,ib+k1,mg,k,k1))
   else OO a b (out++b.extract ib (ib+k1)) ia (ib+k1) mg k k1
  else OO a b out ia ib mg k k1
 | _=>pure (.done (some (dO a b out ia ib),out,ia,ib,mg,k,bc))
def ND (out:Array Keyed)(ia ib mg k bc:Nat):StateT SortSt Sem (ForInStep LS):=do
 let y ← elem' b ib
 if (ib+1 == b.size)=true then pure (.done (some (dO a b (out.push y) ia (ib+1)),out.push y,ia,ib+1,mg,k,bc))
 else ON a b (out.push y) ia (ib+1) mg k bc
def NC (out:Array Keyed)(ia ib mg ac bc:Nat):StateT SortSt Sem (ForInStep LS):=do
 bz mg
 let y ← elem' b ib
 let r ← df false y a ia (a.size-ia) 0
 match r with
 | some k=>
  if k>0 then
   if (ia+k+1 == a.size)=true then pure (.done (some (jK a b (out++a.extract ia (ia+k)) (ia+k) ib),out++a.extract ia (ia+k),ia+k,ib,mg,k,bc))
   else if (ia+k == a.size)=true then pure (.done (some (dO a b (out++a.extract ia (ia+k)) (ia+k) ib),out++a.extract ia (ia+k),ia+k,ib,mg,k,bc))
   else ND a b (out++a.extract ia (ia+k)) (ia+k) ib mg k bc
  else ND a b out ia ib mg k bc
 | _=>pure (.done (some (dO a b out ia ib),out,ia,ib,mg,ac,bc))
def Pk (c:LS):StateT SortSt Sem (ForInStep LS):=
 if c.2.2.2.2.1>1 then NC a b c.2.1 c.2.2.1 c.2.2.2.1 (c.2.2.2.2.1-1) c.2.2.2.2.2.1 c.2.2.2.2.2.2
 else NC a b c.2.1 c.2.2.1 c.2.2.2.1 c.2.2.2.2.1 c.2.2.2.2.2.1 c.2.2.2.2.2.2
def ms (mg:Nat)(c:MS):StateT SortSt Sem (ForInStep MS):=do
 let y ← elem' b c.2.2.2.1
 let x ← elem' a c.2.2.1
 let r ← lt' y x
 match r with
 | some bWins=>
  if bWins=true then do
   let y ← elem' b c.2.2.2.1
   if (c.2.2.2.1+1 == b.size)=true then pure (.done (some (dO a b (c.2.1.push y) c.2.2.1 (c.2.2.2.1+1)),c.2.1.push y,c.2.2.1,c.2.2.2.1+1,0,c.2.2.2.2.2+1))
   else if c.2.2.2.2.2+1>=mg then pure (.done (none,c.2.1.push y,c.2.2.1,c.2.2.2.1+1,0,c.2.2.2.2.2+1))
   else pure (.yield (none,c.2.1.push y,c.2.2.1,c.2.2.2.1+1,0,c.2.2.2.2.2+1))
  else do
   let x ← elem' a c.2.2.1
   if (c.2.2.1+1+1 == a.size)=true then pure (.done (some (jK a b (c.2.1.push x) (c.2.2.1+1) c.2.2.2.1),c.2.1.push x,c.2.2.1+1,c.2.2.2.1,c.2.2.2.2.1+1,0))
   else if c.2.2.2.2.1+1>=mg then pure (.done (none,c.2.1.push x,c.2.2.1+1,c.2.2.2.1,c.2.2.2.2.1+1,0))
   else pure (.yield (none,c.2.1.push x,c.2.2.1+1,c.2.2.2.1,c.2.2.2.2.1+1,0))
 | _=>pure (.done (some (dO a b c.2.1 c.2.2.1 c.2.2.2.1),c.2.1,c.2.2.1,c.2.2.2.1,c.2.2.2.2.1,c.2.2.2.2.2))
end
theorem ic {α:Type}{c:Prop}[Decidable c]{x y u v:α}(h1:x=u)(h2:y=v):(if c then x else y)=if c then u else v:=by rw[h1,h2]
theorem nS (a b:Array Keyed):kH a b=(do
 rule "list.sort.merge-lo"
 let x0 ← elem' b 0
 if (1 == b.size)=true then pure (dO a b #[x0] 0 1)
 else if (0+1 == a.size)=true then pure (jK a b #[x0] 0 1)
 else do
  let st ← get
  let c ← forIn [0:a.size+b.size] ((none,#[x0],0,1,gallopOf st):Option (Array Keyed) × Array Keyed × Nat × Nat × Nat) fun _ c=>do
   let d ← forIn [0:a.size+b.size] ((none,c.2.1,c.2.2.1,c.2.2.2.1,0,0):MS) fun _ d=>ms a b c.2.2.2.2 d
   match d.1 with
   | some r=>pure (.done (some r,d.2.1,d.2.2.1,d.2.2.2.1,c.2.2.2.2))
   | none=>do
    liftM (rule "list.sort.gallop")
    let e ← forIn [0:a.size+b.size] ((none,d.2.1,d.2.2.1,d.2.2.2.1,c.2.2.2.2+1,d.2.2.2.2.1,d.2.2.2.2.2):LS) fun _ e=>Pk a b e
    match e.1 with
    | some r=>pure (.done (some r,e.2.1,e.2.2.1,e.2.2.2.1,e.2.2.2.2.1))
    | none=>do
     bz (e.2.2.2.2.1+1)
     pure (.yield (none,e.2.1,e.2.2.1,e.2.2.2.1,e.2.2.2.2.1+1))
  match c.1 with
  | some r=>pure r
  | none=>liftM (unsupported "internal:list.sort.merge-bound":Sem (Array Keyed))):=by
 rw[uN];dsimp only;refine congrArg _ (funext fun _=>?_);refine congrArg _ (funext fun x0=>?_);refine ic rfl (ic rfl ?_);refine congrArg _ (funext fun st=>?_);refine congr (congrArg _ (congrArg _ (funext fun _=>funext fun c=>?_))) (funext fun c=>?_)
 rotate_left
 ·obtain⟨r,_⟩:=c
  cases r <;> rfl
 refine congr (congrArg _ (congrArg _ (funext fun _=>funext fun d=>?_))) (funext fun d=>?_)
 ·unfold ms;refine congrArg _ (funext fun _=>?_);refine congrArg _ (funext fun _=>?_);refine congrArg _ (funext fun r=>?_)
  cases r <;> rfl
 obtain⟨r,d⟩:=d
 cases r with
 | some r=>rfl
 | none=>
  dsimp only;refine congrArg _ (funext fun _=>?_);refine congr (congrArg _ (congrArg _ (funext fun _=>funext fun e=>?_))) (funext fun e=>?_)
  rotate_left
  ·obtain⟨r,_⟩:=e
   cases r <;> rfl
  unfold Pk;refine ic ?_ ?_
  all_goals
   unfold NC;refine congrArg _ (funext fun _=>?_);refine congrArg _ (funext fun _=>?_);refine congrArg _ (funext fun r=>?_)
   cases r with
   | none=>rfl
   | some k=>
    dsimp only;refine ic (ic rfl (ic rfl ?_)) ?_
    all_goals
     unfold ND;refine congrArg _ (funext fun _=>?_);refine ic rfl ?_;unfold ON;refine congrArg _ (funext fun _=>?_);refine congrArg _ (funext fun r=>?_)
     cases r <;> rfl
theorem gm {x:Array Keyed}{i:Nat}(h:i<x.size):x[i]∈x.toList:=Array.getElem_mem_toList h
section
variable {prog:Program}{w:World}{A:Around}{E:Value->Shared->Prop}{s:Shared}{κ:SortKind}{rk:Keyed->Int}{Gd:Keyed->Prop}{arr:Array Keyed}{p:Array (Nat × Nat × Nat)}
variable {a b:Array Keyed}{N:Nat}
def iK (a b r:Array Keyed):Prop:=List.Perm r.toList (a.toList++b.toList)
def JL (a b out:Array Keyed)(ia ib:Nat):Prop:=List.Perm (out.toList++a.toList.drop ia++b.toList.drop ib) (a.toList++b.toList)
structure Fu (a b:Array Keyed) (N:Nat) (out:Array Keyed) (ia ib:Nat):Prop where
 j:JL a b out ia ib
 ha:ia+1<a.size
 hb:ib<b.size
 n:(a.size-ia)+(b.size-ib)<=N
theorem xT {x:Array Keyed}{i:Nat}(h:i<x.size):x.toList.drop i=[x[i]]++x.toList.drop (i+1):=by
 rw[List.drop_eq_getElem_cons (by simpa using h)];simp
theorem iX {out:Array Keyed}{ia ib:Nat}(j:JL a b out ia ib):iK a b (dO a b out ia ib):=by
 unfold iK dO;have e:(out++a.extract ia a.size++b.extract ib b.size).toList=out.toList++a.toList.drop ia++b.toList.drop ib:=by simp[List.take_of_length_le]
 rw[e];exact j
theorem kA {out:Array Keyed}{ia ib:Nat}(j:JL a b out ia ib):iK a b (jK a b out ia ib):=by
 unfold iK jK;have e:(out++b.extract ib b.size++a.extract ia a.size).toList=out.toList++b.toList.drop ib++a.toList.drop ia:=by simp[List.take_of_length_le]
 rw[e];exact Ll j
theorem yf {out:Array Keyed}{ia ib:Nat}(j:JL a b out ia ib)(ha:ia<a.size):JL a b (out.push a[ia]) (ia+1) ib:=by
 unfold JL at j ⊢;rw[xT ha]at j;rw[Array.toList_push];simpa [List.append_assoc] using j
theorem rZ {out:Array Keyed}{ia ib:Nat}(j:JL a b out ia ib)(hb:ib<b.size):JL a b (out.push b[ib]) ia (ib+1):=by
 unfold JL at j ⊢;rw[xT hb]at j;rw[Array.toList_push];exact PC j
theorem KF {out:Array Keyed}{ia ib:Nat}(k:Nat)(j:JL a b out ia ib):JL a b (out++a.extract ia (ia+k)) (ia+k) ib:=by
 unfold JL at j ⊢;have e:(out++a.extract ia (ia+k)).toList=out.toList++(a.toList.drop ia).take k:=by simp
 rw[e,<-List.drop_drop,List.append_assoc out.toList,List.take_append_drop];exact j
theorem Di {out:Array Keyed}{ia ib:Nat}(k:Nat)(j:JL a b out ia ib):JL a b (out++b.extract ib (ib+k)) ia (ib+k):=by
 unfold JL at j ⊢;have e:(out++b.extract ib (ib+k)).toList=out.toList++(b.toList.drop ib).take k:=by simp
 rw[e];refine PC ?_;rw[<-List.drop_drop,List.take_append_drop];exact j
def OK (a b:Array Keyed)(N:Nat)(c:LS):Prop:=c.1=none/\Fu a b N c.2.1 c.2.2.1 c.2.2.2.1
def Qg (a b:Array Keyed)(N:Nat)(c:LS):Prop:=(∃ r,c.1=some r/\iK a b r)\/OK a b N c
def xF (a b:Array Keyed)(N:Nat):ForInStep LS->Prop
 | .done c=>Qg a b N c
 | .yield c=>OK a b N c
theorem IF {out:Array Keyed}{ia ib mg k k1:Nat}(I:Fu a b N out ia ib):G prog w A E s κ arr p (OO a b out ia ib mg k k1) (xF a b N):=by
 obtain⟨j,h1,h2,h3⟩:=I;have hia:ia<a.size:=by walk_at "o"
 have j':=yf j hia;unfold OO;refine aI (bU (Array.getElem?_eq_getElem hia) ?_)
 split
 ·exact aG (.inl ⟨_,rfl,kA j'⟩)
 ·rename_i hl;have hl:¬ ia+1+1=a.size:=by simpa using hl
  have st:∀ mg k k1,OK a b N (none,out.push a[ia],ia+1,ib,mg,k,k1):=fun mg k k1=>⟨rfl,j',by show ia+1+1<a.size;walk_at "o",h2,by show(a.size-(ia+1))+(b.size-ib)<=N;walk_at "o"⟩
  split
  ·exact aG (.inr (st _ _ _))
  ·exact aG (st _ _ _)
theorem NA (hc:oP prog w A s κ rk Gd)(hG:∀ x∈a.toList,Gd x)(hG2:∀ x∈b.toList,Gd x){out:Array Keyed}{ia ib mg k bc:Nat}(I:Fu a b N out ia ib):G prog w A E s κ arr p (ON a b out ia ib mg k bc) (xF a b N):=by
 obtain⟨j,h1,h2,h3⟩:=I;have hia:ia<a.size:=by walk_at "o"
 unfold ON;refine aI (bU (Array.getElem?_eq_getElem hia) ?_);refine aI (pW hc (hG _ (gm hia)) hG2 (by walk_at "o") (by walk_at "o") fun k1 hk1=>?_)
 dsimp only
 split
 ·split
  ·exact aG (.inl ⟨_,rfl,iX (Di k1 j)⟩)
  ·rename_i hl;have hl:¬ ib+k1=b.size:=by simpa using hl
   exact IF ⟨Di k1 j,h1,by walk_at "o",by walk_at "o"⟩
 ·exact IF ⟨j,h1,h2,h3⟩
theorem IE (hc:oP prog w A s κ rk Gd)(hG:∀ x∈a.toList,Gd x)(hG2:∀ x∈b.toList,Gd x){out:Array Keyed}{ia ib mg k bc:Nat}(I:Fu a b N out ia ib):G prog w A E s κ arr p (ND a b out ia ib mg k bc) (xF a b N):=by
 obtain⟨j,h1,h2,h3⟩:=I;unfold ND;refine aI (bU (Array.getElem?_eq_getElem h2) ?_);have j':=rZ j h2
 split
 ·exact aG (.inl ⟨_,rfl,iX j'⟩)
 ·rename_i hl;have hl:¬ ib+1=b.size:=by simpa using hl
  exact NA hc hG hG2 ⟨j',h1,by walk_at "o",by walk_at "o"⟩
theorem ID (hc:oP prog w A s κ rk Gd)(hG:∀ x∈a.toList,Gd x)(hG2:∀ x∈b.toList,Gd x){out:Array Keyed}{ia ib mg ac bc:Nat}(I:Fu a b N out ia ib):G prog w A E s κ arr p (NC a b out ia ib mg ac bc) (xF a b N):=by
 obtain⟨j,h1,h2,h3⟩:=I;unfold NC;refine aI (xB ?_);refine aI (bU (Array.getElem?_eq_getElem h2) ?_);refine aI (pW hc (hG2 _ (gm h2)) hG (by walk_at "o") (by walk_at "o") fun k hk1=>?_)
 dsimp only;have j':=KF k j
 split
 ·split
  ·exact aG (.inl ⟨_,rfl,kA j'⟩)
  ·split
   ·exact aG (.inl ⟨_,rfl,iX j'⟩)
   ·rename_i hl hl2;have hl:¬ ia+k+1=a.size:=by simpa using hl
    have hl2:¬ ia+k=a.size:=by simpa using hl2
    exact IE hc hG hG2 ⟨j',by walk_at "o",h2,by walk_at "o"⟩
 ·exact IE hc hG hG2 ⟨j,h1,h2,h3⟩
def Jf (a b:Array Keyed)(N:Nat)(c:MS):Prop:=c.1=none/\Fu a b N c.2.1 c.2.2.1 c.2.2.2.1
def Qh (a b:Array Keyed)(N:Nat)(c:MS):Prop:=(∃ r,c.1=some r/\iK a b r)\/Jf a b N c
theorem Pj (hc:oP prog w A s κ rk Gd)(hG:∀ x∈a.toList,Gd x)(hG2:∀ x∈b.toList,Gd x){mg:Nat}{c:MS}(I:Jf a b (N+1) c) :
  G prog w A E s κ arr p (ms a b mg c) fun r=>match r with|.done c=>Qh a b N c|.yield c=>Jf a b N c:=by
 obtain⟨r,out,ia,ib,ac,bc⟩:=c;obtain⟨hr,j,h1,h2,h3⟩:=I;dsimp only at j h1 h2 h3;have hia:ia<a.size:=by walk_at "o"
 unfold ms;dsimp only;refine aI (bU (Array.getElem?_eq_getElem h2) ?_);refine aI (bU (Array.getElem?_eq_getElem hia) ?_);refine aI (FC hc (hG2 _ (gm h2)) (hG _ (gm hia)) ?_);dsimp only
 split
 ·refine aI (bU (Array.getElem?_eq_getElem h2) ?_);have j':=rZ j h2
  split
  ·exact aG (.inl ⟨_,rfl,iX j'⟩)
  ·rename_i hl;have hl:¬ ib+1=b.size:=by simpa using hl
   have st:∀ x y,Jf a b N (none,out.push b[ib],ia,ib+1,x,y):=fun x y=>⟨rfl,j',h1,by show ib+1<b.size;walk_at "o",by show(a.size-ia)+(b.size-(ib+1))<=N;walk_at "o"⟩
   split
   ·exact aG (.inr (st _ _))
   ·exact aG (st _ _)
 ·refine aI (bU (Array.getElem?_eq_getElem hia) ?_);have j':=yf j hia
  split
  ·exact aG (.inl ⟨_,rfl,kA j'⟩)
  ·rename_i hl;have hl:¬ ia+1+1=a.size:=by simpa using hl
   have st:∀ x y,Jf a b N (none,out.push a[ia],ia+1,ib,x,y):=fun x y=>⟨rfl,j',by show ia+1+1<a.size;walk_at "o",h2,by show(a.size-(ia+1))+(b.size-ib)<=N;walk_at "o"⟩
   split
   ·exact aG (.inr (st _ _))
   ·exact aG (st _ _)
theorem Fu.weak {out:Array Keyed}{ia ib N M:Nat}(h:Fu a b N out ia ib)(hm:N<=M):Fu a b M out ia ib:=⟨h.j,h.ha,h.hb,Nat.le_trans h.n hm⟩
theorem zW (hc:oP prog w A s κ rk Gd)(hG:∀ x∈a.toList,Gd x)(hG2:∀ x∈b.toList,Gd x)(hb0:0<b.size)(ha0:0<a.size):G prog w A E s κ arr p (kH a b) (iK a b):=by
 have J0:JL a b #[b[0]] 0 1:=by
  have:JL a b #[] 0 0:=by unfold JL;simp
  exact rZ this hb0
 rw[nS];refine aI (qC ?_);refine aI (bU (Array.getElem?_eq_getElem hb0) ?_)
 split
 ·exact aG (iX J0)
 split
 ·exact aG (kA J0)
 rename_i hb1 ha1;have hb1:¬ 1=b.size:=by simpa using hb1
 have ha1:¬ 0+1=a.size:=by simpa using ha1
 refine aI (Iv fun st=>?_);refine aI (dz (j6 (I:=fun i c=>c.1=none/\Fu a b (a.size+b.size-i) c.2.1 c.2.2.1 c.2.2.2.1) (Q:=fun c=>∃ r,c.1=some r/\iK a b r) ?step ?fin ⟨rfl,J0,by show 0+1<a.size;walk_at "o",by show 1<b.size;walk_at "o",by show(a.size-0)+(b.size-1)<=_;walk_at "o"⟩) ?post)
 case fin=>
  rintro c ⟨_,_,g1,g2,g3⟩;rw[show max 0 (a.size+b.size)=a.size+b.size by walk_at "o"]at g3
  walk_at "o"
 case post=>
  rintro⟨r,c⟩ ⟨r',hr,hf⟩;dsimp only at hr;subst hr;exact aG hf
 case step=>
  rintro i ⟨r,out,ia,ib,mg⟩ _ hi ⟨_,I⟩;dsimp only at I ⊢;obtain⟨N,hN⟩:∃ N,a.size+b.size-i=N+1:=⟨a.size+b.size-i-1,by walk_at "o"⟩
  rw[hN]at I;refine aI (dz (j6 (I:=fun x d=>Jf a b (N+1) d/\(0<x->Jf a b N d)) (Q:=Qh a b N) ?_ ?_ ⟨⟨rfl,I⟩,fun h=>absurd h (by walk_at "o")⟩) ?_)
  ·rintro x d _ hx ⟨g1,g2⟩;refine dz (Pj hc hG hG2 g1) fun r hr=>?_
   cases r with
   | done c=>exact hr
   | yield c=>exact⟨⟨hr.1,hr.2.weak (by walk_at "o")⟩,fun _=>hr⟩
  ·rintro d ⟨_,g2⟩;exact .inr (g2 (by walk_at "o"))
  ·rintro⟨r,out,ia,ib,ac,bc⟩ (⟨r',hr,hf⟩|⟨hr,I'⟩)
   ·dsimp only at hr;subst hr;exact aG ⟨r',rfl,hf⟩
   ·dsimp only at hr I';subst hr;dsimp only;refine aI (qC ?_);refine aI (dz (j6 (I:=fun x e=>OK a b N e) (Q:=Qg a b N) ?_ ?_ ⟨rfl,I'⟩) ?_)
    ·rintro x e _ hx ⟨he,I2⟩;unfold Pk
     split
     ·refine dz (ID hc hG hG2 I2) fun r hr=>?_
      cases r with
      | done c=>exact hr
      | yield c=>exact hr
     ·refine dz (ID hc hG hG2 I2) fun r hr=>?_
      cases r with
      | done c=>exact hr
      | yield c=>exact hr
    ·rintro e he;exact .inr he
    ·rintro⟨r,out,ia,ib,mg',ac,bc⟩ (⟨r',hr,hf⟩|⟨hr,I2⟩)
     ·dsimp only at hr;subst hr;exact aG ⟨r',rfl,hf⟩
     ·dsimp only at hr I2;subst hr;dsimp only;refine aI (xB (aG ⟨rfl,I2.weak (by walk_at "o")⟩))
end
end SR
set_option maxHeartbeats 3200000
namespace SR
open PySem PyProof.Rows
section
variable (a b:Array Keyed)
def OP (na nb:Nat)(out:Array Keyed)(mg k k1:Nat):StateT SortSt Sem (ForInStep (Option (Array Keyed) × Nat × Nat × Array Keyed × Nat × Nat × Nat)):=do
 let x ← elem' a (na-1)
 if (na-1 == 0)=true then pure (.done (some (dN a b (out.push x) (na-1) nb),na-1,nb,out.push x,mg,k,k1))
 else if (decide (k<7) && decide (k1<7))=true then pure (.done (none,na-1,nb,out.push x,mg,k,k1))
 else pure (.yield (none,na-1,nb,out.push x,mg,k,k1))
def Mn (na nb:Nat)(out:Array Keyed)(mg k bc:Nat):StateT SortSt Sem (ForInStep (Option (Array Keyed) × Nat × Nat × Array Keyed × Nat × Nat × Nat)):=do
 let x ← elem' a (na-1)
 let r ← df true x b 0 nb (nb-1)
 match r with
 | some t=>
  if nb-t>0 then
   if (t == 1)=true then pure (.done (some (gh a b (out++(b.extract t nb).reverse) na t),na,t,out++(b.extract t nb).reverse,mg,k,nb-t))
   else if (t == 0)=true then pure (.done (some (dN a b (out++(b.extract t nb).reverse) na t),na,t,out++(b.extract t nb).reverse,mg,k,nb-t))
   else OP a b na t (out++(b.extract t nb).reverse) mg k (nb-t)
  else OP a b na nb out mg k (nb-t)
 | _=>pure (.done (some (dN a b out na nb),na,nb,out,mg,k,bc))
def wu (na nb:Nat)(out:Array Keyed)(mg k bc:Nat):StateT SortSt Sem (ForInStep (Option (Array Keyed) × Nat × Nat × Array Keyed × Nat × Nat × Nat)):=do
 let y ← elem' b (nb-1)
 if (nb-1 == 1)=true then pure (.done (some (gh a b (out.push y) na (nb-1)),na,nb-1,out.push y,mg,k,bc))
 else Mn a b na (nb-1) (out.push y) mg k bc
def vo (na nb:Nat)(out:Array Keyed)(mg ac bc:Nat):StateT SortSt Sem (ForInStep (Option (Array Keyed) × Nat × Nat × Array Keyed × Nat × Nat × Nat)):=do
 bz mg
 let y ← elem' b (nb-1)
 let r ← df false y a 0 na (na-1)
 match r with
 | some t=>
  if na-t>0 then
   if (t == 0)=true then pure (.done (some (dN a b (out++(a.extract t na).reverse) t nb),t,nb,out++(a.extract t na).reverse,mg,na-t,bc))
   else wu a b t nb (out++(a.extract t na).reverse) mg (na-t) bc
  else wu a b na nb out mg (na-t) bc
 | _=>pure (.done (some (dN a b out na nb),na,nb,out,mg,ac,bc))
def Pm (c:Option (Array Keyed) × Nat × Nat × Array Keyed × Nat × Nat × Nat):StateT SortSt Sem (ForInStep (Option (Array Keyed) × Nat × Nat × Array Keyed × Nat × Nat × Nat)):=
 if c.2.2.2.2.1>1 then vo a b c.2.1 c.2.2.1 c.2.2.2.1 (c.2.2.2.2.1-1) c.2.2.2.2.2.1 c.2.2.2.2.2.2
 else vo a b c.2.1 c.2.2.1 c.2.2.2.1 c.2.2.2.2.1 c.2.2.2.2.2.1 c.2.2.2.2.2.2
def hm (mg:Nat)(c:Option (Array Keyed) × Nat × Nat × Array Keyed × Nat × Nat):StateT SortSt Sem (ForInStep (Option (Array Keyed) × Nat × Nat × Array Keyed × Nat × Nat)):=do
 let y ← elem' b (c.2.2.1-1)
 let x ← elem' a (c.2.1-1)
 let r ← lt' y x
 match r with
 | some aWins=>
  if aWins=true then do
   let x ← elem' a (c.2.1-1)
   if (c.2.1-1 == 0)=true then pure (.done (some (dN a b (c.2.2.2.1.push x) (c.2.1-1) c.2.2.1),c.2.1-1,c.2.2.1,c.2.2.2.1.push x,c.2.2.2.2.1+1,0))
   else if c.2.2.2.2.1+1>=mg then pure (.done (none,c.2.1-1,c.2.2.1,c.2.2.2.1.push x,c.2.2.2.2.1+1,0))
   else pure (.yield (none,c.2.1-1,c.2.2.1,c.2.2.2.1.push x,c.2.2.2.2.1+1,0))
  else do
   let y ← elem' b (c.2.2.1-1)
   if (c.2.2.1-1 == 1)=true then pure (.done (some (gh a b (c.2.2.2.1.push y) c.2.1 (c.2.2.1-1)),c.2.1,c.2.2.1-1,c.2.2.2.1.push y,0,c.2.2.2.2.2+1))
   else if c.2.2.2.2.2+1>=mg then pure (.done (none,c.2.1,c.2.2.1-1,c.2.2.2.1.push y,0,c.2.2.2.2.2+1))
   else pure (.yield (none,c.2.1,c.2.2.1-1,c.2.2.2.1.push y,0,c.2.2.2.2.2+1))
 | _=>pure (.done (some (dN a b c.2.2.2.1 c.2.1 c.2.2.1),c.2.1,c.2.2.1,c.2.2.2.1,c.2.2.2.2.1,c.2.2.2.2.2))
end
theorem nR (a b:Array Keyed):kG a b=(do
 rule "list.sort.merge-hi"
 let x0 ← elem' a (a.size-1)
 if (a.size-1 == 0)=true then pure (dN a b #[x0] (a.size-1) b.size)
 else if (b.size == 1)=true then pure (gh a b #[x0] (a.size-1) b.size)
 else do
  let st ← get
  let c ← forIn [0:a.size+b.size] ((none,a.size-1,b.size,#[x0],gallopOf st):Option (Array Keyed) × Nat × Nat × Array Keyed × Nat) fun _ c=>do
   let d ← forIn [0:a.size+b.size] ((none,c.2.1,c.2.2.1,c.2.2.2.1,0,0):Option (Array Keyed) × Nat × Nat × Array Keyed × Nat × Nat) fun _ d=>hm a b c.2.2.2.2 d
   match d.1 with
   | some r=>pure (.done (some r,d.2.1,d.2.2.1,d.2.2.2.1,c.2.2.2.2))
   | none=>do
    liftM (rule "list.sort.gallop")
    let e ← forIn [0:a.size+b.size] ((none,d.2.1,d.2.2.1,d.2.2.2.1,c.2.2.2.2+1,d.2.2.2.2.1,d.2.2.2.2.2):Option (Array Keyed) × Nat × Nat × Array Keyed × Nat × Nat × Nat) fun _ e=>Pm a b e
    match e.1 with
    | some r=>pure (.done (some r,e.2.1,e.2.2.1,e.2.2.2.1,e.2.2.2.2.1))
    | none=>do
     bz (e.2.2.2.2.1+1)
     pure (.yield (none,e.2.1,e.2.2.1,e.2.2.2.1,e.2.2.2.2.1+1))
  match c.1 with
  | some r=>pure r
  | none=>liftM (unsupported "internal:list.sort.merge-bound":Sem (Array Keyed))):=by
 rw[uM];dsimp only;refine congrArg _ (funext fun _=>?_);refine congrArg _ (funext fun x0=>?_);refine ic rfl (ic rfl ?_);refine congrArg _ (funext fun st=>?_);refine congr (congrArg _ (congrArg _ (funext fun _=>funext fun c=>?_))) (funext fun c=>?_)
 rotate_left
 ·obtain⟨r,_⟩:=c
  cases r <;> rfl
 refine congr (congrArg _ (congrArg _ (funext fun _=>funext fun d=>?_))) (funext fun d=>?_)
 ·unfold hm;refine congrArg _ (funext fun _=>?_);refine congrArg _ (funext fun _=>?_);refine congrArg _ (funext fun r=>?_)
  cases r <;> rfl
 obtain⟨r,d⟩:=d
 cases r with
 | some r=>rfl
 | none=>
  dsimp only;refine congrArg _ (funext fun _=>?_);refine congr (congrArg _ (congrArg _ (funext fun _=>funext fun e=>?_))) (funext fun e=>?_)
  rotate_left
  ·obtain⟨r,_⟩:=e
   cases r <;> rfl
  unfold Pm;refine ic ?_ ?_
  all_goals
   unfold vo;refine congrArg _ (funext fun _=>?_);refine congrArg _ (funext fun _=>?_);refine congrArg _ (funext fun r=>?_)
   cases r with
   | none=>rfl
   | some k=>
    dsimp only;refine ic (ic rfl ?_) ?_
    all_goals
     unfold wu;refine congrArg _ (funext fun _=>?_);refine ic rfl ?_;unfold Mn;refine congrArg _ (funext fun _=>?_);refine congrArg _ (funext fun r=>?_)
     cases r <;> rfl
abbrev HS:=Option (Array Keyed) × Nat × Nat × Array Keyed × Nat × Nat × Nat
abbrev HM:=Option (Array Keyed) × Nat × Nat × Array Keyed × Nat × Nat
section
variable {prog:Program}{w:World}{A:Around}{E:Value->Shared->Prop}{s:Shared}{κ:SortKind}{rk:Keyed->Int}{Gd:Keyed->Prop}{arr:Array Keyed}{p:Array (Nat × Nat × Nat)}
variable {a b:Array Keyed}{N:Nat}
def JH (a b out:Array Keyed)(na nb:Nat):Prop:=List.Perm (a.toList.take na++b.toList.take nb++out.toList.reverse) (a.toList++b.toList)
structure Ft (a b:Array Keyed) (N:Nat) (out:Array Keyed) (na nb:Nat):Prop where
 j:JH a b out na nb
 ha:0<na
 ha':na<=a.size
 hb:1<nb
 hb':nb<=b.size
 n:na+nb<=N
theorem yN {x:Array Keyed}{n:Nat}(h0:0<n)(h:n<=x.size):x.toList.take n=x.toList.take (n-1)++[x[n-1]]:=by
 obtain⟨m,rfl⟩:∃ m,n=m+1:=⟨n-1,by walk_at "o"⟩
 rw[List.take_succ];simp only[Nat.add_sub_cancel];have e:x.toList[m]?=some x[m]:=by rw[Array.getElem?_toList,Array.getElem?_eq_getElem (by walk_at "o")]
 rw[e]
 rfl
theorem gD {out:Array Keyed}{na nb:Nat}(j:JH a b out na nb):iK a b (dN a b out na nb):=by
 unfold iK dN;have e:(a.extract 0 na++b.extract 0 nb++out.reverse).toList=a.toList.take na++b.toList.take nb++out.toList.reverse:=by simp
 rw[e];exact j
theorem im {out:Array Keyed}{na nb:Nat}(j:JH a b out na nb):iK a b (gh a b out na nb):=by
 unfold iK gh;have e:(b.extract 0 nb++a.extract 0 na++out.reverse).toList=b.toList.take nb++a.toList.take na++out.toList.reverse:=by simp
 rw[e];exact List.Perm.trans (List.perm_append_comm.append_right _) j
theorem GL {out:Array Keyed}{na nb t:Nat}(j:JH a b out na nb)(ht:t<=na):JH a b (out++(a.extract t na).reverse) t nb:=by
 unfold JH at j ⊢;have e:(out++(a.extract t na).reverse).toList.reverse=(a.toList.take na).drop t++out.toList.reverse:=by simp[List.drop_take]
 rw[e];refine Ql ?_;have e2:a.toList.take t=(a.toList.take na).take t:=by rw[List.take_take];congr 1;walk_at "o"
 rw[e2,List.take_append_drop];exact j
theorem GM {out:Array Keyed}{na nb t:Nat}(j:JH a b out na nb)(ht:t<=nb):JH a b (out++(b.extract t nb).reverse) na t:=by
 unfold JH at j ⊢;have e:(out++(b.extract t nb).reverse).toList.reverse=(b.toList.take nb).drop t++out.toList.reverse:=by simp[List.drop_take]
 have e2:b.toList.take t=(b.toList.take nb).take t:=by rw[List.take_take];congr 1;walk_at "o"
 rw[e,e2,List.append_assoc,<-List.append_assoc (List.take t _),List.take_append_drop,<-List.append_assoc];exact j
theorem nK {out:Array Keyed}{na nb:Nat}(j:JH a b out na nb)(h0:0<na)(ha:na<=a.size):JH a b (out.push a[na-1]) (na-1) nb:=by
 unfold JH at j ⊢;have e:(out.push a[na-1]).toList.reverse=[a[na-1]]++out.toList.reverse:=by simp
 rw[e];refine Ql ?_;rw[<-yN h0 ha];exact j
theorem ui {out:Array Keyed}{na nb:Nat}(j:JH a b out na nb)(h0:0<nb)(hb:nb<=b.size):JH a b (out.push b[nb-1]) na (nb-1):=by
 unfold JH at j ⊢;have e:(out.push b[nb-1]).toList.reverse=[b[nb-1]]++out.toList.reverse:=by simp
 rw[e,List.append_assoc,<-List.append_assoc (List.take (nb-1) _),<-yN h0 hb,<-List.append_assoc];exact j
def OJ (a b:Array Keyed)(N:Nat)(c:HS):Prop:=c.1=none/\Ft a b N c.2.2.2.1 c.2.1 c.2.2.1
def Qf (a b:Array Keyed)(N:Nat)(c:HS):Prop:=(∃ r,c.1=some r/\iK a b r)\/OJ a b N c
def xE (a b:Array Keyed)(N:Nat):ForInStep HS->Prop
 | .done c=>Qf a b N c
 | .yield c=>OJ a b N c
theorem II {out:Array Keyed}{na nb mg k k1:Nat}(I:Ft a b N out na nb):G prog w A E s κ arr p (OP a b na nb out mg k k1) (xE a b N):=by
 obtain⟨j,h1,h1',h2,h2',h3⟩:=I;have j':=nK j h1 h1';unfold OP;refine aI (bU (Array.getElem?_eq_getElem (by walk_at "o")) ?_)
 split
 ·exact aG (.inl ⟨_,rfl,gD j'⟩)
 ·rename_i hl;have hl:¬ na-1=0:=by simpa using hl
  have st:∀ mg k k1,OJ a b N (none,na-1,nb,out.push (a[na-1]'(by walk_at "o")),mg,k,k1):=fun mg k k1=>⟨rfl,j',by show 0<na-1;walk_at "o",by show na-1<=a.size;walk_at "o",h2,h2',by show na-1+nb<=N;walk_at "o"⟩
  split
  ·exact aG (.inr (st _ _ _))
  ·exact aG (st _ _ _)
theorem NB (hc:oP prog w A s κ rk Gd)(hG:∀ x∈a.toList,Gd x)(hG2:∀ x∈b.toList,Gd x){out:Array Keyed}{na nb mg k bc:Nat}(I:Ft a b N out na nb):G prog w A E s κ arr p (Mn a b na nb out mg k bc) (xE a b N):=by
 obtain⟨j,h1,h1',h2,h2',h3⟩:=I;have hna:na-1<a.size:=by walk_at "o"
 unfold Mn;refine aI (bU (Array.getElem?_eq_getElem hna) ?_);refine aI (pW hc (hG _ (gm hna)) hG2 (by walk_at "o") (by walk_at "o") fun t ht=>?_)
 dsimp only
 split
 ·have j':=GM j ht
  split
  ·exact aG (.inl ⟨_,rfl,im j'⟩)
  ·split
   ·exact aG (.inl ⟨_,rfl,gD j'⟩)
   ·rename_i hl hl2;have hl:¬ t=1:=by simpa using hl
    have hl2:¬ t=0:=by simpa using hl2
    exact II ⟨j',h1,h1',by walk_at "o",by walk_at "o",by walk_at "o"⟩
 ·exact II ⟨j,h1,h1',h2,h2',h3⟩
theorem IH (hc:oP prog w A s κ rk Gd)(hG:∀ x∈a.toList,Gd x)(hG2:∀ x∈b.toList,Gd x){out:Array Keyed}{na nb mg k bc:Nat}(I:Ft a b N out na nb):G prog w A E s κ arr p (wu a b na nb out mg k bc) (xE a b N):=by
 obtain⟨j,h1,h1',h2,h2',h3⟩:=I;unfold wu;refine aI (bU (Array.getElem?_eq_getElem (by walk_at "o")) ?_)
 have j':=ui j (by walk_at "o") h2'
 split
 ·exact aG (.inl ⟨_,rfl,im j'⟩)
 ·rename_i hl;have hl:¬ nb-1=1:=by simpa using hl
  exact NB hc hG hG2 ⟨j',h1,h1',by walk_at "o",by walk_at "o",by walk_at "o"⟩
theorem IG (hc:oP prog w A s κ rk Gd)(hG:∀ x∈a.toList,Gd x)(hG2:∀ x∈b.toList,Gd x){out:Array Keyed}{na nb mg ac bc:Nat}(I:Ft a b N out na nb):G prog w A E s κ arr p (vo a b na nb out mg ac bc) (xE a b N):=by
 obtain⟨j,h1,h1',h2,h2',h3⟩:=I;have hnb:nb-1<b.size:=by walk_at "o"
 unfold vo;refine aI (xB ?_);refine aI (bU (Array.getElem?_eq_getElem hnb) ?_);refine aI (pW hc (hG2 _ (gm hnb)) hG (by walk_at "o") (by walk_at "o") fun t ht=>?_)
 dsimp only
 split
 ·have j':=GL j ht
  split
  ·exact aG (.inl ⟨_,rfl,gD j'⟩)
  ·rename_i hl;have hl:¬ t=0:=by simpa using hl
   exact IH hc hG hG2 ⟨j',by walk_at "o",by walk_at "o",h2,h2',by walk_at "o"⟩
 ·exact IH hc hG hG2 ⟨j,h1,h1',h2,h2',h3⟩
def Jg (a b:Array Keyed)(N:Nat)(c:HM):Prop:=c.1=none/\Ft a b N c.2.2.2.1 c.2.1 c.2.2.1
def Qi (a b:Array Keyed)(N:Nat)(c:HM):Prop:=(∃ r,c.1=some r/\iK a b r)\/Jg a b N c
theorem Pi (hc:oP prog w A s κ rk Gd)(hG:∀ x∈a.toList,Gd x)(hG2:∀ x∈b.toList,Gd x){mg:Nat}{c:HM}(I:Jg a b (N+1) c) :
  G prog w A E s κ arr p (hm a b mg c) fun r=>match r with|.done c=>Qi a b N c|.yield c=>Jg a b N c:=by
 obtain⟨r,na,nb,out,ac,bc⟩:=c;obtain⟨hr,j,h1,h1',h2,h2',h3⟩:=I;dsimp only at j h1 h1' h2 h2' h3;have hna:na-1<a.size:=by walk_at "o"
 have hnb:nb-1<b.size:=by walk_at "o"
 unfold hm;dsimp only;refine aI (bU (Array.getElem?_eq_getElem hnb) ?_);refine aI (bU (Array.getElem?_eq_getElem hna) ?_);refine aI (FC hc (hG2 _ (gm hnb)) (hG _ (gm hna)) ?_);dsimp only
 split
 ·refine aI (bU (Array.getElem?_eq_getElem hna) ?_);have j':=nK j h1 h1'
  split
  ·exact aG (.inl ⟨_,rfl,gD j'⟩)
  ·rename_i hl;have hl:¬ na-1=0:=by simpa using hl
   have st:∀ x y,Jg a b N (none,na-1,nb,out.push a[na-1],x,y):=fun x y=>⟨rfl,j',by show 0<na-1;walk_at "o",by show na-1<=a.size;walk_at "o",h2,h2',by show na-1+nb<=N;walk_at "o"⟩
   split
   ·exact aG (.inr (st _ _))
   ·exact aG (st _ _)
 ·refine aI (bU (Array.getElem?_eq_getElem hnb) ?_);have j':=ui j (by walk_at "o") h2'
  split
  ·exact aG (.inl ⟨_,rfl,im j'⟩)
  ·rename_i hl;have hl:¬ nb-1=1:=by simpa using hl
   have st:∀ x y,Jg a b N (none,na,nb-1,out.push b[nb-1],x,y):=fun x y=>⟨rfl,j',h1,h1',by show 1<nb-1;walk_at "o",by show nb-1<=b.size;walk_at "o",by show na+(nb-1)<=N;walk_at "o"⟩
   split
   ·exact aG (.inr (st _ _))
   ·exact aG (st _ _)
theorem Ft.weak {out:Array Keyed}{na nb N M:Nat}(h:Ft a b N out na nb)(hm:N<=M):Ft a b M out na nb:=⟨h.j,h.ha,h.ha',h.hb,h.hb',Nat.le_trans h.n hm⟩
theorem zV (hc:oP prog w A s κ rk Gd)(hG:∀ x∈a.toList,Gd x)(hG2:∀ x∈b.toList,Gd x)(ha0:0<a.size)(hb0:0<b.size):G prog w A E s κ arr p (kG a b) (iK a b):=by
 have J0:JH a b #[a[a.size-1]] (a.size-1) b.size:=by
  have:JH a b #[] a.size b.size:=by
   unfold JH;rw[List.take_of_length_le (by simp),List.take_of_length_le (by simp)]
   simp
  exact nK this ha0 (Nat.le_refl _)
 rw[nR];refine aI (qC ?_);refine aI (bU (Array.getElem?_eq_getElem (by walk_at "o")) ?_)
 split
 ·exact aG (gD J0)
 split
 ·exact aG (im J0)
 rename_i ha1 hb1;have ha1:¬ a.size-1=0:=by simpa using ha1
 have hb1:¬ b.size=1:=by simpa using hb1
 refine aI (Iv fun st=>?_);refine aI (dz (j6 (I:=fun i c=>c.1=none/\Ft a b (a.size+b.size-i) c.2.2.2.1 c.2.1 c.2.2.1) (Q:=fun c=>∃ r,c.1=some r/\iK a b r) ?step ?fin ⟨rfl,J0,by show 0<a.size-1;walk_at "o",by show a.size-1<=a.size;walk_at "o",by show 1<b.size;walk_at "o",Nat.le_refl _,by show(a.size-1)+b.size<=_;walk_at "o"⟩) ?post)
 case fin=>
  rintro c ⟨_,_,g1,g1',g2,g2',g3⟩;rw[show max 0 (a.size+b.size)=a.size+b.size by walk_at "o"]at g3
  walk_at "o"
 case post=>
  rintro⟨r,c⟩ ⟨r',hr,hf⟩;dsimp only at hr;subst hr;exact aG hf
 case step=>
  rintro i ⟨r,na,nb,out,mg⟩ _ hi ⟨_,I⟩;dsimp only at I ⊢;obtain⟨N,hN⟩:∃ N,a.size+b.size-i=N+1:=⟨a.size+b.size-i-1,by walk_at "o"⟩
  rw[hN]at I;refine aI (dz (j6 (I:=fun x d=>Jg a b (N+1) d/\(0<x->Jg a b N d)) (Q:=Qi a b N) ?_ ?_ ⟨⟨rfl,I⟩,fun h=>absurd h (by walk_at "o")⟩) ?_)
  ·rintro x d _ hx ⟨g1,g2⟩;refine dz (Pi hc hG hG2 g1) fun r hr=>?_
   cases r with
   | done c=>exact hr
   | yield c=>exact⟨⟨hr.1,hr.2.weak (by walk_at "o")⟩,fun _=>hr⟩
  ·rintro d ⟨_,g2⟩;exact .inr (g2 (by walk_at "o"))
  ·rintro⟨r,na,nb,out,ac,bc⟩ (⟨r',hr,hf⟩|⟨hr,I'⟩)
   ·dsimp only at hr;subst hr;exact aG ⟨r',rfl,hf⟩
   ·dsimp only at hr I';subst hr;dsimp only;refine aI (qC ?_);refine aI (dz (j6 (I:=fun x e=>OJ a b N e) (Q:=Qf a b N) ?_ ?_ ⟨rfl,I'⟩) ?_)
    ·rintro x e _ hx ⟨he,I2⟩;unfold Pm
     split
     ·refine dz (IG hc hG hG2 I2) fun r hr=>?_
      cases r with
      | done c=>exact hr
      | yield c=>exact hr
     ·refine dz (IG hc hG hG2 I2) fun r hr=>?_
      cases r with
      | done c=>exact hr
      | yield c=>exact hr
    ·rintro e he;exact .inr he
    ·rintro⟨r,na,nb,out,mg',ac,bc⟩ (⟨r',hr,hf⟩|⟨hr,I2⟩)
     ·dsimp only at hr;subst hr;exact aG ⟨r',rfl,hf⟩
     ·dsimp only at hr I2;subst hr;dsimp only;refine aI (xB (aG ⟨rfl,I2.weak (by walk_at "o")⟩))
end
end SR
set_option maxHeartbeats 3200000
namespace SR
open PySem PyProof.Rows
def kk (rk:Keyed->Int)(xs:Array Keyed)(i:Nat):Int:=match xs[i]? with
 | some p=>rk p
 | none=>0
def Up (rk:Keyed->Int)(xs:Array Keyed)(lo hi:Nat):Prop:=∀ i j,lo<=i->i<=j->j<hi->kk rk xs i<=kk rk xs j
def Dn (rk:Keyed->Int)(xs:Array Keyed)(lo hi:Nat):Prop:=∀ i j,lo<=i->i<=j->j<hi->kk rk xs j<=kk rk xs i
section
variable {rk:Keyed->Int}{xs:Array Keyed}{lo hi:Nat}
theorem ul {i:Nat}(h:i<xs.size):kk rk xs i=rk xs[i]:=by unfold kk;rw[Array.getElem?_eq_getElem h]
theorem iZ {ys:Array Keyed}{i j:Nat}(h:xs[i]?=ys[j]?):kk rk xs i=kk rk ys j:=by unfold kk;rw[h]
structure Ar (rk:Keyed->Int) (Gd:Keyed->Prop) (n:Nat) (xs:Array Keyed):Prop where
 sz:xs.size=n
 gd:∀ x∈xs.toList,Gd x
 nd:(xs.toList.map rk).Nodup
variable {Gd:Keyed->Prop}{n:Nat}
theorem Ar.perm {ys:Array Keyed}(h:Ar rk Gd n xs)(hp:ys.toList.Perm xs.toList):Ar rk Gd n ys:=
 ⟨by have:=hp.length_eq;simpa [h.sz] using this,fun x hx=>h.gd x (hp.mem_iff.mp hx),((hp.map rk).nodup_iff).mpr h.nd⟩
theorem Ar.ne (h:Ar rk Gd n xs){i j:Nat}(hi:i<n)(hj:j<n)(hij:i≠j):kk rk xs i≠kk rk xs j:=by
 have e1:=h.sz;rw[ul (by walk_at "o"),ul (by walk_at "o")]
 have hnd:=List.pairwise_iff_getElem.mp h.nd
 rcases Nat.lt_or_gt_of_ne hij with q|q
 ·have:=hnd i j (by simp;walk_at "o") (by simp;walk_at "o") q
  simpa using this
 ·have:=hnd j i (by simp;walk_at "o") (by simp;walk_at "o") q
  simp only[List.getElem_map,Array.getElem_toList]at this;exact fun e=>this e.symm
end
section
variable {prog:Program}{w:World}{A:Around}{E:Value->Shared->Prop}{s:Shared}{κ:SortKind}{rk:Keyed->Int}{Gd:Keyed->Prop}{n:Nat}{xs:Array Keyed}{p:Array (Nat × Nat × Nat)}{g:Nat}
theorem AS (hc:oP prog w A s κ rk Gd)(hA:Ar rk Gd n xs){i j:Nat}{Q:Option Bool->SortSt->Prop}(hi:i<n)(hj:j<n)(h:Q (some (decide (kk rk xs i<kk rk xs j))) (SortSt.mk' κ xs p g none)) :
  wpS (model prog w) A E s (ltAt' i j) Q (SortSt.mk' κ xs p g none):=by
 have e:=hA.sz;rw[ul (by walk_at "o"),ul (by walk_at "o")]at h
 exact Mg hc (Array.getElem?_eq_getElem (by walk_at "o")) (Array.getElem?_eq_getElem (by walk_at "o")) (hA.gd _ (by simp)) (hA.gd _ (by simp)) h
theorem oF (hc:oP prog w A s κ rk Gd)(hA:Ar rk Gd n xs){lo nrem:Nat}{Q:Option Nat->SortSt->Prop}(h1:1<=nrem)(hn:lo+nrem<=n)
  (h:∀ m ys,1<=m->m<=nrem->ys.toList.Perm xs.toList->(∀ k:Nat,k<lo->ys[k]?=xs[k]?)->Up rk ys lo (lo+m)->Q (some m) (SortSt.mk' κ ys p g none)) :
  wpS (model prog w) A E s (countRun' lo nrem) Q (SortSt.mk' κ xs p g none):=by
 have u1:Up rk xs lo (lo+1):=fun i j a1 a2 a3=>by
  have:i=j:=by walk_at "o"
  subst this;exact Int.le_refl _
 rw[countRun'_eq];dsimp only;refine wpS_bind (wpS_mono (wpS_forRange (I:=fun x c st=>st=SortSt.mk' κ xs p g none/\c=(none,x)/\Up rk xs lo (lo+x))
  (Q:=fun c st=>st=SortSt.mk' κ xs p g none/\∃ m,c=(none,m)/\1<=m/\m<=nrem/\Up rk xs lo (lo+m)/\(m=nrem\/kk rk xs (lo+m)<kk rk xs (lo+m-1))) ?step ?fin ⟨rfl,rfl,u1⟩) ?post)
 case fin=>
  rintro c st ⟨rfl,rfl,hu⟩;rw[show max 1 nrem=nrem by walk_at "o"]at hu ⊢
  exact⟨rfl,nrem,rfl,h1,Nat.le_refl _,hu,.inl rfl⟩
 case step=>
  rintro x c st hx1 hx2 ⟨rfl,rfl,hu⟩;dsimp only;refine wpS_bind (AS hc hA (by walk_at "o") (by walk_at "o") ?_)
  dsimp only
  by_cases hlt:kk rk xs (lo+x)<kk rk xs (lo+x-1)
  ·rw[decide_eq_true hlt,if_pos rfl];exact wpS_pure ⟨rfl,x,rfl,hx1,by walk_at "o",hu,.inr hlt⟩
  ·rw[decide_eq_false hlt,if_neg (by simp)]
   refine wpS_pure ⟨rfl,rfl,fun i j a1 a2 a3=>?_⟩
   by_cases hj:j<lo+x
   ·exact hu i j a1 a2 hj
   ·have:j=lo+x:=by walk_at "o"
    subst this
    by_cases hi:i=lo+x
    ·subst hi;exact Int.le_refl _
    ·have:=hu i (lo+x-1) a1 (by walk_at "o") (by walk_at "o")
     walk_at "o"
 case post=>
  rintro c st ⟨rfl,m,rfl,hm1,hm2,hu,hor⟩;dsimp only
  by_cases he:m=nrem
  ·rw[if_pos (by simpa using he)]
   exact wpS_pure (h m xs hm1 hm2 (.refl _) (fun _ _=>rfl) hu)
  rw[if_neg (by simpa using he)]
  by_cases hm:m>1
  ·rw[if_pos hm];refine wpS_bind (AS hc hA (by walk_at "o") (by walk_at "o") ?_)
   dsimp only;have hlt:kk rk xs lo<kk rk xs (lo+m-1):=by
    have g1:=hu lo (lo+m-1) (Nat.le_refl _) (by walk_at "o") (by walk_at "o")
    have g2:=hA.ne (i:=lo) (j:=lo+m-1) (by walk_at "o") (by walk_at "o") (by walk_at "o")
    walk_at "o"
   rw[decide_eq_true hlt,if_pos rfl];exact wpS_pure (h m xs hm1 hm2 (.refl _) (fun _ _=>rfl) hu)
  rw[if_neg hm];obtain rfl:m=1:=by walk_at "o"
  have hlt:=hor.resolve_left he;refine wpS_bind (wpS_lift (wpAny_rule ⟨rfl,?_⟩));have d2:Dn rk xs lo (lo+2):=fun i j a1 a2 a3=>by
   by_cases hj:i=j
   ·subst hj;exact Int.le_refl _
   ·obtain rfl:i=lo:=by walk_at "o"
    obtain rfl:j=i+1:=by walk_at "o"
    rw[Nat.add_sub_cancel]at hlt;walk_at "o"
  refine wpS_bind (wpS_mono (wpS_forRange (I:=fun x c st=>st=SortSt.mk' κ xs p g none/\c=(none,x,0)/\Dn rk xs lo (lo+x))
   (Q:=fun c st=>st=SortSt.mk' κ xs p g none/\∃ m,c=(none,m,0)/\2<=m/\m<=nrem/\Dn rk xs lo (lo+m)) ?step ?fin ⟨rfl,rfl,d2⟩) ?post)
  case fin=>
   rintro c st ⟨rfl,rfl,hd⟩;rw[show max (1+1) nrem=nrem by walk_at "o"]at hd ⊢
   exact⟨rfl,nrem,rfl,by walk_at "o",Nat.le_refl _,hd⟩
  case step=>
   rintro x c st hx1 hx2 ⟨rfl,rfl,hd⟩;dsimp only;refine wpS_bind (AS hc hA (by walk_at "o") (by walk_at "o") ?_)
   dsimp only
   by_cases hlt2:kk rk xs (lo+x)<kk rk xs (lo+x-1)
   ·rw[decide_eq_true hlt2,if_pos rfl,if_neg (by walk_at "o")]
    refine wpS_pure ⟨rfl,rfl,fun i j a1 a2 a3=>?_⟩
    by_cases hj:j<lo+x
    ·exact hd i j a1 a2 hj
    ·have:j=lo+x:=by walk_at "o"
     subst this
     by_cases hi:i=lo+x
     ·subst hi;exact Int.le_refl _
     ·have:=hd i (lo+x-1) a1 (by walk_at "o") (by walk_at "o")
      walk_at "o"
   ·rw[decide_eq_false hlt2,if_neg (by simp)]
    refine wpS_bind (AS hc hA (by walk_at "o") (by walk_at "o") ?_)
    dsimp only;have hne:=hA.ne (i:=lo+x) (j:=lo+x-1) (by walk_at "o") (by walk_at "o") (by walk_at "o")
    rw[decide_eq_true (by walk_at "o":kk rk xs (lo+x-1)<kk rk xs (lo+x)),if_pos rfl]
    exact wpS_pure ⟨rfl,x,rfl,by walk_at "o",by walk_at "o",hd⟩
  case post=>
   rintro c st ⟨rfl,m,rfl,hm1,hm2,hd⟩;dsimp only;rw[if_neg (by walk_at "o"),reverseSlice'_eq]
   refine wpS_bind (wpS_modify ?_);have hsz:lo+m<=xs.size:=by have:=hA.sz;walk_at "o"
   generalize hys:mirror xs lo (lo+m) ((lo+m-lo) / 2)=ys;have hpm:ys.toList.Perm xs.toList:=by rw[<-hys];exact Array.perm_iff_toList_perm.mp (mirror_perm _ _ _ _)
   have hat:∀ k:Nat,ys[k]?=if lo<=k/\k<lo+m then xs[lo+(lo+m)-1-k]? else xs[k]?:=fun k=>by rw[<-hys];exact getElem?_mirror_all hsz k
   have hu':Up rk ys lo (lo+m):=fun i j a1 a2 a3=>by
    have e1:kk rk ys i=kk rk xs (lo+(lo+m)-1-i):=iZ (by rw[hat,if_pos ⟨a1,by walk_at "o"⟩])
    have e2:kk rk ys j=kk rk xs (lo+(lo+m)-1-j):=iZ (by rw[hat,if_pos ⟨by walk_at "o",a3⟩])
    rw[e1,e2];exact hd _ _ (by walk_at "o") (by walk_at "o") (by walk_at "o")
   have hA':=hA.perm hpm;have hkeep:∀ k:Nat,k<lo->ys[k]?=xs[k]?:=fun k hk=>by rw[hat,if_neg (by walk_at "o")]
   show wpS _ _ _ _ _ Q (SortSt.mk' κ ys p g none);refine wpS_bind (wpS_mono (wpS_forRange (I:=fun x c st=>st=SortSt.mk' κ ys p g none/\c=(none,x)/\Up rk ys lo (lo+x))
    (Q:=fun c st=>st=SortSt.mk' κ ys p g none/\∃ m,c=(none,m)/\1<=m/\m<=nrem/\Up rk ys lo (lo+m)) ?_ ?_ ⟨rfl,rfl,hu'⟩) ?_)
   ·rintro x c st hx1 hx2 ⟨rfl,rfl,hu⟩;dsimp only;refine wpS_bind (AS hc hA' (by walk_at "o") (by walk_at "o") ?_)
    dsimp only
    by_cases hlt:kk rk ys (lo+x)<kk rk ys (lo+x-1)
    ·rw[decide_eq_true hlt,if_pos rfl];exact wpS_pure ⟨rfl,x,rfl,by walk_at "o",by walk_at "o",hu⟩
    ·rw[decide_eq_false hlt,if_neg (by simp)]
     refine wpS_pure ⟨rfl,rfl,fun i j a1 a2 a3=>?_⟩
     by_cases hj:j<lo+x
     ·exact hu i j a1 a2 hj
     ·have:j=lo+x:=by walk_at "o"
      subst this
      by_cases hi:i=lo+x
      ·subst hi;exact Int.le_refl _
      ·have:=hu i (lo+x-1) a1 (by walk_at "o") (by walk_at "o")
       walk_at "o"
   ·rintro c st ⟨rfl,rfl,hu⟩;rw[show max m nrem=nrem by walk_at "o"]at hu ⊢
    exact⟨rfl,nrem,rfl,h1,Nat.le_refl _,hu⟩
   ·rintro c st ⟨rfl,m',rfl,g1,g2,hu⟩;exact wpS_pure (h m' ys g1 g2 hpm hkeep hu)
theorem k9 (hc:oP prog w A s κ rk Gd)(hA:Ar rk Gd n xs){lo m ok:Nat}{Q:Bool->SortSt->Prop}(hn:lo+m<=n)(hok:ok<=m)(hu:Up rk xs lo (lo+ok))
  (h:∀ ys:Array Keyed,ys.toList.Perm xs.toList->(∀ k:Nat,k<lo->ys[k]?=xs[k]?)->Up rk ys lo (lo+m)->Q true (SortSt.mk' κ ys p g none)) :
  wpS (model prog w) A E s (binarySort' lo m ok) Q (SortSt.mk' κ xs p g none):=by
 rw[binarySort'_eq];refine wpS_bind (wpS_mono (wpS_forRange (I:=fun k c st=>c=(none,())/\∃ ys:Array Keyed,st=SortSt.mk' κ ys p g none/\ys.toList.Perm xs.toList/\(∀ k:Nat,k<lo->ys[k]?=xs[k]?)/\Up rk ys lo (lo+min k m))
  (Q:=fun c st=>c=(none,())/\∃ ys:Array Keyed,st=SortSt.mk' κ ys p g none/\ys.toList.Perm xs.toList/\(∀ k:Nat,k<lo->ys[k]?=xs[k]?)/\Up rk ys lo (lo+m)) ?step ?fin ?init) ?post)
 case post=>
  rintro c st ⟨rfl,ys,rfl,g1,g2,g3⟩;exact wpS_pure (h ys g1 g2 g3)
 case init=>
  refine⟨rfl,xs,rfl,.refl _,fun _ _=>rfl,fun i j a1 a2 a3=>?_⟩
  by_cases h1:ok=0
  ·have:i=j:=by walk_at "o"
   subst this;exact Int.le_refl _
  ·exact hu i j a1 a2 (by walk_at "o")
 case fin=>
  rintro c st ⟨rfl,ys,rfl,g1,g2,g3⟩;rw[show min (max (max ok 1) m) m=m by walk_at "o"]at g3
  exact⟨rfl,ys,rfl,g1,g2,g3⟩
 case step=>
  rintro k c st hk1 hk2 ⟨rfl,ys,rfl,g1,g2,g3⟩;rw[show min k m=k by walk_at "o"]at g3
  have hA':=hA.perm g1;dsimp only;refine wpS_bind (wpS_mono (wpS_forRange (I:=fun x c st=>st=SortSt.mk' κ ys p g none/\∃ l r,c=(none,l,r)/\l<=r/\r<=k/\r-l<=k-x ∧
    (∀ i,lo<=i->i<lo+l->kk rk ys i<=kk rk ys (lo+k))/\(∀ i,lo+r<=i->i<lo+k->kk rk ys (lo+k)<=kk rk ys i))
   (Q:=fun c st=>st=SortSt.mk' κ ys p g none/\∃ l r,c=(none,l,r)/\l<=k ∧
    (∀ i,lo<=i->i<lo+l->kk rk ys i<=kk rk ys (lo+k))/\(∀ i,lo+l<=i->i<lo+k->kk rk ys (lo+k)<=kk rk ys i)) ?is ?ifn ?ii) ?ip)
  case ii=>exact⟨rfl,0,k,rfl,by walk_at "o",by walk_at "o",by walk_at "o",fun i a1 a2=>by walk_at "o",fun i a1 a2=>by walk_at "o"⟩
  case ifn=>
   rintro c st ⟨rfl,l,r,rfl,b1,b2,b3,b4,b5⟩;have:l=r:=by walk_at "o"
   subst this;exact⟨rfl,l,l,rfl,b2,b4,b5⟩
  case is=>
   rintro x c st _ hx ⟨rfl,l,r,rfl,b1,b2,b3,b4,b5⟩;dsimp only
   by_cases hb:l>=r
   ·rw[if_pos hb];have:l=r:=by walk_at "o"
    subst this;exact wpS_pure ⟨rfl,l,l,rfl,b2,b4,b5⟩
   ·rw[if_neg hb];refine wpS_bind (AS hc hA' (by walk_at "o") (by walk_at "o") ?_)
    dsimp only
    by_cases hlt:kk rk ys (lo+k)<kk rk ys (lo+(l+r) / 2)
    ·rw[decide_eq_true hlt,if_pos rfl];refine wpS_pure ⟨rfl,_,_,rfl,by walk_at "o",by walk_at "o",by walk_at "o",b4,fun i a1 a2=>?_⟩
     have:=g3 (lo+(l+r) / 2) i (by walk_at "o") a1 a2
     walk_at "o"
    ·rw[decide_eq_false hlt,if_neg (by simp)]
     refine wpS_pure ⟨rfl,_,_,rfl,by walk_at "o",by walk_at "o",by walk_at "o",fun i a1 a2=>?_,b5⟩
     have:=g3 i (lo+(l+r) / 2) a1 (by walk_at "o") (by walk_at "o")
     walk_at "o"
  case ip=>
   rintro c st ⟨rfl,l,r,rfl,b1,b4,b5⟩;dsimp only;rw[moveDown'_eq];have hsz:lo+k<ys.size:=by have:=hA'.sz;walk_at "o"
   generalize hzs:bubble ys (lo+k) (lo+k-(lo+l))=zs;have hpm:zs.toList.Perm ys.toList:=by rw[<-hzs];exact Array.perm_iff_toList_perm.mp (bubble_perm _ _ _)
   have hat:∀ i:Nat,zs[i]?=if i=lo+l then ys[lo+k]? else if lo+l<i/\i<=lo+k then ys[i-1]? else ys[i]?:=fun i=>by
    rw[<-hzs,getElem?_bubble hsz _ (by walk_at "o"),show lo+k-(lo+k-(lo+l))=lo+l by walk_at "o"]
   have hk':∀ i,kk rk zs i=if i=lo+l then kk rk ys (lo+k) else if lo+l<i/\i<=lo+k then kk rk ys (i-1) else kk rk ys i:=fun i=>by
    have e:=hat i
    by_cases q1:i=lo+l
    ·rw[if_pos q1]at e ⊢;exact iZ e
    ·rw[if_neg q1]at e ⊢
     by_cases q2:lo+l<i/\i<=lo+k
     ·rw[if_pos q2]at e ⊢;exact iZ e
     ·rw[if_neg q2]at e ⊢;exact iZ e
   refine wpS_bind (wpS_modify ?_);show wpS _ _ _ _ _ _ (SortSt.mk' κ (bubble ys (lo+k) (lo+k-(lo+l))) p g none);rw[hzs];refine wpS_pure ⟨rfl,zs,rfl,hpm.trans g1,fun i hi=>?_,fun i j a1 a2 a3=>?_⟩
   ·rw[hat,if_neg (by walk_at "o"),if_neg (by walk_at "o")];exact g2 i hi
   ·rw[show min (k+1) m=k+1 by walk_at "o"]at a3
    rw[hk',hk']
    by_cases hi1:i=lo+l
    ·rw[if_pos hi1]
     by_cases hj1:j=lo+l
     ·rw[if_pos hj1];exact Int.le_refl _
     ·rw[if_neg hj1,if_pos (by walk_at "o")]
      exact b5 (j-1) (by walk_at "o") (by walk_at "o")
    ·rw[if_neg hi1]
     by_cases hi2:lo+l<i/\i<=lo+k
     ·rw[if_pos hi2,if_neg (by walk_at "o"),if_pos (by walk_at "o")]
      exact g3 (i-1) (j-1) (by walk_at "o") (by walk_at "o") (by walk_at "o")
     ·rw[if_neg hi2]
      by_cases hj1:j=lo+l
      ·rw[if_pos hj1];exact b4 i a1 (by walk_at "o")
      ·rw[if_neg hj1]
       by_cases hj2:lo+l<j/\j<=lo+k
       ·rw[if_pos hj2]
        by_cases hij:i<=j-1
        ·exact g3 i (j-1) a1 hij (by walk_at "o")
        ·walk_at "o"
       ·rw[if_neg hj2];exact g3 i j a1 a2 (by walk_at "o")
end
end SR
set_option maxHeartbeats 3200000
namespace SR
open PySem PyProof.Rows
theorem uL (i:Nat):mergeAt' i=(do
 let s ← get
 let (some (sa,na,power),some (sb,nb,_)):=((pendingOf s)[i]?,(pendingOf s)[i+1]?) | unsupported "internal:list.sort.pending"
 set (setPending s (((pendingOf s).setIfInBounds i (sa,na+nb,power)).eraseIdxIfInBounds (i+1)))
 let some k ← df false (← elem' (arrOf s) sb) (arrOf s) sa na 0|return false
 let (sa,na):=(sa+k,na-k)
 if na == 0 then return true
 let some nb ← df true (← elem' (arrOf s) (sa+na-1)) (arrOf s) sb nb (nb-1)|return false
 if nb == 0 then return true
 let x:=(arrOf s).extract sa sb
 let y:=(arrOf s).extract sb (sb+nb)
 let merged ← if na<=nb then kH x y else kG x y
 modify fun s=>setArr s (merged.toList.zipIdx.foldl (fun a (p,j)=>a.setIfInBounds (sa+j) p) (arrOf s))
 return (failedOf (← get)).isNone):=rfl
theorem Iu {M:Model}{A:Around}{E:Value->Shared->Prop}{s:Shared}{σ:Type}{st':σ}{Q:PUnit->σ->Prop}{st:σ}(h:Q ⟨⟩ st'):wpS M A E s (set st':StateT σ Sem PUnit) Q st:=by
 unfold wpS;rw[StateT.run_set];exact wpAny_pure ⟨rfl,h⟩
section
variable {prog:Program}{w:World}{A:Around}{E:Value->Shared->Prop}{s:Shared}{κ:SortKind}{rk:Keyed->Int}{Gd:Keyed->Prop}{n:Nat}{xs:Array Keyed}{p:Array (Nat × Nat × Nat)}{g:Nat}
theorem Mp {α β:Type}{m:StateT SortSt Sem α}{f:α->StateT SortSt Sem β}{P:α->Prop}{Q:β->SortSt->Prop}(h:G prog w A E s κ xs p m P)(hq:∀ a g',P a->wpS (model prog w) A E s (f a) Q (SortSt.mk' κ xs p g' none)) :
  wpS (model prog w) A E s (m >>= f) Q (SortSt.mk' κ xs p g none):=
 wpS_bind (wpS_mono (h g) fun a st' hh=>by
  obtain⟨⟨g',rfl⟩,hp⟩:=hh;exact hq a g' hp)
theorem AT (hc:oP prog w A s κ rk Gd)(hA:Ar rk Gd n xs){n1 n2 pw:Nat}{Q:Bool->SortSt->Prop}(h1:1<=n1)(h2:1<=n2)(hn:n1+n2=n)
  (h:∀ (ys:Array Keyed) g',ys.toList.Perm xs.toList->Q true (SortSt.mk' κ ys #[(0,n1+n2,pw)] g' none)) :
  wpS (model prog w) A E s (mergeAt' 0) Q (SortSt.mk' κ xs #[(0,n1,pw),(n1,n2,0)] g none):=by
 have hsz:=hA.sz;rw[uL];refine wpS_bind (wpS_get ?_);dsimp only;refine wpS_bind (Iu ?_);have ep:(((#[(0,n1,pw),(n1,n2,0)]:Array (Nat × Nat × Nat)).setIfInBounds 0 (0,n1+n2,pw)).eraseIdxIfInBounds (0+1))=#[(0,n1+n2,pw)]:=by simp[Array.eraseIdxIfInBounds]
 show wpS _ _ _ _ _ Q (SortSt.mk' κ xs (((#[(0,n1,pw),(n1,n2,0)]:Array (Nat × Nat × Nat)).setIfInBounds 0 (0,n1+n2,pw)).eraseIdxIfInBounds (0+1)) g none);rw[ep];simp only[show arrOf (SortSt.mk' κ xs #[(0,n1,pw),(n1,n2,0)] g none)=xs from rfl,Nat.zero_add];have hn1:n1<xs.size:=by walk_at "o"
 refine Mp (P:=(·=xs[n1])) (bU (Array.getElem?_eq_getElem hn1) rfl) ?_;rintro _ g1 rfl;refine Mp (P:=fun r=>∃ k,r=some k/\k<=n1) (pW hc (hA.gd _ (gm hn1)) hA.gd (by walk_at "o") (by walk_at "o") fun k hk=>⟨k,rfl,hk⟩) ?_
 rintro _ g2 ⟨k,rfl,hk⟩;dsimp only
 split
 ·exact wpS_pure (h xs g2 (.refl _))
 rename_i hk0;have hk0:¬ n1-k=0:=by simpa using hk0
 have hkn:k+(n1-k)-1<xs.size:=by walk_at "o"
 refine Mp (P:=(·=xs[k+(n1-k)-1])) (bU (Array.getElem?_eq_getElem hkn) rfl) ?_;rintro _ g3 rfl;refine Mp (P:=fun r=>∃ t,r=some t/\t<=n2) (pW hc (hA.gd _ (gm hkn)) hA.gd (by walk_at "o") (by walk_at "o") fun t ht=>⟨t,rfl,ht⟩) ?_
 rintro _ g4 ⟨t,rfl,ht⟩;dsimp only
 split
 ·exact wpS_pure (h xs g4 (.refl _))
 rename_i ht0;have ht0:¬ t=0:=by simpa using ht0
 have ex:(xs.extract k n1).toList=(xs.toList.take n1).drop k:=by simp[List.drop_take]
 have ey:(xs.extract n1 (n1+t)).toList=(xs.toList.drop n1).take t:=by simp
 have gx:∀ x∈(xs.extract k n1).toList,Gd x:=fun x hx=>hA.gd x (by rw[ex]at hx;exact List.mem_of_mem_take (List.mem_of_mem_drop hx))
 have gy:∀ x∈(xs.extract n1 (n1+t)).toList,Gd x:=fun x hx=>hA.gd x (by rw[ey]at hx;exact List.mem_of_mem_drop (List.mem_of_mem_take hx))
 have zx:(xs.extract k n1).size=n1-k:=by simp;walk_at "o"
 have zy:(xs.extract n1 (n1+t)).size=t:=by simp;walk_at "o"
 have fin:∀ (m:Array Keyed) g5,iK (xs.extract k n1) (xs.extract n1 (n1+t)) m->wpS (model prog w) A E s (do
   modify fun s=>setArr s (m.toList.zipIdx.foldl (fun a (q:Keyed × Nat)=>a.setIfInBounds (k+q.2) q.1) (arrOf s))
   let st ← get
   pure (failedOf st).isNone) Q (SortSt.mk' κ xs #[(0,n1+n2,pw)] g5 none):=fun m g5 hp=>by
  refine wpS_bind (wpS_modify (wpS_bind (wpS_get (wpS_pure ?_))));unfold iK at hp;rw[ex,ey]at hp;have hlen:m.toList.length=n1-k+t:=by
   have:=hp.length_eq;rw[List.length_append,List.length_drop,List.length_take,List.length_take,List.length_drop,Array.length_toList,Array.length_toList]at this;rw[Array.length_toList];walk_at "o"
  have elay:=uq m.toList 0 k xs (by walk_at "o")
  rw[hlen,Nat.add_zero,show k+(n1-k+t)=n1+t by walk_at "o"]at elay
  have eT:xs.toList=xs.toList.take k++((xs.toList.take n1).drop k++(xs.toList.drop n1).take t)++xs.toList.drop (n1+t):=by
   have c1:xs.toList.take k=(xs.toList.take n1).take k:=by rw[List.take_take];congr 1;walk_at "o"
   rw[c1,<-List.append_assoc,List.take_append_drop,List.append_assoc,<-List.drop_drop,List.take_append_drop,List.take_append_drop]
  refine h _ g5 ?_;rw[elay];refine List.Perm.trans ((hp.append_left _).append_right _) ?_;rw[<-eT]
 split
 ·exact Mp (zW hc gx gy (by walk_at "o") (by walk_at "o")) fun m g5 hm=>fin m g5 hm
 ·exact Mp (zV hc gx gy (by walk_at "o") (by walk_at "o")) fun m g5 hm=>fin m g5 hm
end
end SR
set_option maxHeartbeats 3200000
namespace SR
open PySem PyProof.Rows
theorem G0 {n:Nat}(h1:1<=n)(h2:n<128):n<=2*minRun' n n 0/\minRun' n n 0<=n/\1<=minRun' n n 0/\(n<64->minRun' n n 0=n):=by
 rcases Nat.lt_or_ge n 64 with h|h
 ·obtain⟨f,rfl⟩:∃ f,n=f+1:=⟨n-1,by walk_at "o"⟩
  have e:minRun' (f+1) (f+1) 0=f+1:=by rw[minRun'_succ,if_pos h]
  rw[e];walk_at "o"
 ·obtain⟨f,rfl⟩:∃ f,n=f+2:=⟨n-2,by walk_at "o"⟩
  have e1:minRun' (f+1+1) (f+2) 0=minRun' (f+1) ((f+2) / 2) (max 0 ((f+2) % 2)):=by rw[minRun'_succ,if_neg (by walk_at "o")]
  have e2:minRun' (f+1) ((f+2) / 2) (max 0 ((f+2) % 2))=(f+2) / 2+max 0 ((f+2) % 2):=by rw[minRun'_succ,if_pos (by walk_at "o")]
  have e3:minRun' (f+2) (f+2) 0=(f+2) / 2+max 0 ((f+2) % 2):=e1.trans e2;rw[e3];walk_at "o"
section
variable {prog:Program}{w:World}{A:Around}{E:Value->Shared->Prop}{s:Shared}{κ:SortKind}{rk:Keyed->Int}{Gd:Keyed->Prop}{n:Nat}{xs:Array Keyed}
theorem xu (hc:oP prog w A s κ rk Gd)(hA:Ar rk Gd n xs)(h64:1<=n)(h128:n<128){g:Nat}{Q:Unit->SortSt->Prop}
  (h:∀ (ys:Array Keyed) p g',ys.toList.Perm xs.toList->(n<64->Up rk ys 0 n)->Q () (SortSt.mk' κ ys p g' none)) :
  wpS (model prog w) A E s sortRuns' Q (SortSt.mk' κ xs #[] g none):=by
 rw[sortRuns'_eq];refine wpS_bind (wpS_get ?_);dsimp only;have hmr:=G0 h64 h128;simp only[show(arrOf (SortSt.mk' κ xs #[] g none)).size=n from hA.sz];generalize minRun' n n 0=mr at hmr;refine wpS_bind (wpS_mono (wpS_forRange
  (I:=fun x c st=>(x=0/\c=(none,0)/\st=SortSt.mk' κ xs #[] g none)\/(1<=x/\∃ ys:Array Keyed,∃ n1,c=(none,n1)/\mr<=n1/\n1<n/\st=SortSt.mk' κ ys #[(0,n1,0)] g none/\ys.toList.Perm xs.toList/\Up rk ys 0 n1/\x=1) ∨
   (c=(none,n)/\∃ ys:Array Keyed,ys.toList.Perm xs.toList/\((st=SortSt.mk' κ ys #[(0,n,0)] g none/\Up rk ys 0 n)\/∃ n1 n2 pw,1<=n1/\1<=n2/\n1+n2=n/\st=SortSt.mk' κ ys #[(0,n1,pw),(n1,n2,0)] g none/\64<=n)))
  (Q:=fun c st=>c=(none,n)/\∃ ys:Array Keyed,ys.toList.Perm xs.toList/\((st=SortSt.mk' κ ys #[(0,n,0)] g none/\Up rk ys 0 n)\/∃ n1 n2 pw,1<=n1/\1<=n2/\n1+n2=n/\st=SortSt.mk' κ ys #[(0,n1,pw),(n1,n2,0)] g none/\64<=n))
  ?step ?fin (.inl ⟨rfl,rfl,rfl⟩)) ?post)
 case fin=>
  rintro c st (⟨hx,_⟩|⟨_,_,_,_,_,_,_,_,_,hx⟩|hh)
  ·walk_at "o"
  ·walk_at "o"
  ·exact hh
 case step=>
  rintro x c st _ hx (⟨rfl,rfl,rfl⟩|⟨hx1,ys,n1,rfl,hm,hl,rfl,hp,hu,rfl⟩|⟨rfl,hh⟩)
  ·dsimp only;rw[if_neg (by walk_at "o")]
   refine wpS_bind (oF hc hA (by walk_at "o") (by walk_at "o") fun m ys hm1 hm2 hp hk hu=>?_)
   dsimp only;rw[Nat.zero_add]at hu;have out:∀ (zs:Array Keyed) n1,mr<=n1->n1<=n->zs.toList.Perm xs.toList->Up rk zs 0 n1 →
     (0+1=0/\((none:Option Unit),0+n1)=(none,0)/\setPending (SortSt.mk' κ zs #[] g none) ((pendingOf (SortSt.mk' κ zs #[] g none)).push (0,n1,0))=SortSt.mk' κ xs #[] g none)\/(1<=0+1/\∃ ys:Array Keyed,∃ n1',((none:Option Unit),0+n1)=(none,n1')/\mr<=n1'/\n1'<n/\setPending (SortSt.mk' κ zs #[] g none) ((pendingOf (SortSt.mk' κ zs #[] g none)).push (0,n1,0))=SortSt.mk' κ ys #[(0,n1',0)] g none/\ys.toList.Perm xs.toList/\Up rk ys 0 n1'/\0+1=1) ∨
     (((none:Option Unit),0+n1)=(none,n)/\∃ ys:Array Keyed,ys.toList.Perm xs.toList/\((setPending (SortSt.mk' κ zs #[] g none) ((pendingOf (SortSt.mk' κ zs #[] g none)).push (0,n1,0))=SortSt.mk' κ ys #[(0,n,0)] g none/\Up rk ys 0 n)\/∃ n1' n2 pw,1<=n1'/\1<=n2/\n1'+n2=n/\setPending (SortSt.mk' κ zs #[] g none) ((pendingOf (SortSt.mk' κ zs #[] g none)).push (0,n1,0))=SortSt.mk' κ ys #[(0,n1',pw),(n1',n2,0)] g none/\64<=n)):=fun zs n1 a1 a2 a3 a4=>by
    rcases Nat.lt_or_ge n1 n with q|q
    ·exact .inr (.inl ⟨by walk_at "o",zs,n1,by rw[Nat.zero_add],a1,q,rfl,a3,a4,rfl⟩)
    ·obtain rfl:n1=n:=by walk_at "o"
     exact .inr (.inr ⟨by rw[Nat.zero_add],zs,a3,.inl ⟨rfl,a4⟩⟩)
   by_cases hlt:m<mr
   ·rw[if_pos hlt];refine wpS_bind (wpS_lift (wpAny_rule ⟨rfl,?_⟩));refine wpS_bind (k9 hc (hA.perm hp) (by walk_at "o") (by walk_at "o") (by rw[Nat.zero_add];exact hu) fun zs hp2 hk2 hu2=>?_)
    rw[if_neg (by simp)]
    refine wpS_bind (wpS_get ?_);rw[show(pendingOf (SortSt.mk' κ zs #[] g none)).back?=none from rfl];dsimp only;refine wpS_bind (wpS_modify (wpS_pure ?_));rw[Nat.zero_add]at hu2;exact out zs _ (by walk_at "o") (by walk_at "o") (hp2.trans hp) hu2
   ·rw[if_neg hlt];refine wpS_bind (wpS_get ?_);rw[show(pendingOf (SortSt.mk' κ ys #[] g none)).back?=none from rfl];dsimp only;refine wpS_bind (wpS_modify (wpS_pure ?_));exact out ys _ (by walk_at "o") (by walk_at "o") hp hu
  ·dsimp only;rw[if_neg (by walk_at "o")]
   have hA1:=hA.perm hp;refine wpS_bind (oF hc hA1 (by walk_at "o") (by walk_at "o") fun m zs hm1 hm2 hp2 hk2 hu2=>?_)
   dsimp only;have loop:∀ (zs:Array Keyed) (f:Nat->Option Unit × Unit->StateT SortSt Sem (ForInStep (Option Unit × Unit))) {R:Option Unit × Unit->SortSt->Prop},
     (∀ x (R':ForInStep (Option Unit × Unit)->SortSt->Prop),R' (.done (none,())) (SortSt.mk' κ zs #[(0,n1,0)] g none)->wpS (model prog w) A E s (f x (none,())) R' (SortSt.mk' κ zs #[(0,n1,0)] g none))->R (none,()) (SortSt.mk' κ zs #[(0,n1,0)] g none) →
     wpS (model prog w) A E s (forIn [0:n] ((none:Option Unit),()) f) R (SortSt.mk' κ zs #[(0,n1,0)] g none):=fun zs f R hf hR=>by
    refine wpS_forRange (I:=fun x c st=>c=(none,())/\st=SortSt.mk' κ zs #[(0,n1,0)] g none) ?_ ?_ ⟨rfl,rfl⟩
    ·rintro x c st _ _ ⟨rfl,rfl⟩;exact hf x _ hR
    ·rintro c st ⟨rfl,rfl⟩;exact hR
   have out:∀ (zs:Array Keyed) n2 pw,n1+n2=n →
     ∃ n1' n2' pw',1<=n1'/\1<=n2'/\n1'+n2'=n/\SortSt.mk' κ zs #[(0,n1,pw),(n1,n2,0)] g none=SortSt.mk' κ zs #[(0,n1',pw'),(n1',n2',0)] g none/\64<=n:=fun zs n2 pw a1=>
    ⟨n1,n2,pw,by walk_at "o",by walk_at "o",a1,rfl,by walk_at "o"⟩
   by_cases hlt:m<mr
   ·rw[if_pos hlt];refine wpS_bind (wpS_lift (wpAny_rule ⟨rfl,?_⟩));refine wpS_bind (k9 hc (hA1.perm hp2) (by walk_at "o") (by walk_at "o") hu2 fun vs hp3 hk3 hu3=>?_)
    rw[if_neg (by simp)]
    have en:min (n-n1) (mr)=n-n1:=by walk_at "o"
    rw[en]at hu3 ⊢;rw[show n1+(n-n1)=n by walk_at "o"]at hu3
    refine wpS_bind (wpS_get ?_);rw[show(pendingOf (SortSt.mk' κ vs #[(0,n1,0)] g none)).back?=some (0,n1,0) from rfl];dsimp only;refine wpS_bind (loop vs _ (fun x R' hR=>?_) ?_)
    ·refine wpS_bind (wpS_get ?_);rw[if_neg (by show ¬ (1>1);walk_at "o")]
     exact wpS_pure hR
    ·refine wpS_bind (wpS_modify (wpS_bind (wpS_modify (wpS_pure ?_))));exact .inr (.inr ⟨by rw[show n1+(n-n1)=n by walk_at "o"],vs,hp3.trans (hp2.trans hp),.inr (out vs (n-n1) _ (by walk_at "o"))⟩)
   ·rw[if_neg hlt];obtain rfl:m=n-n1:=by walk_at "o"
    rw[show n1+(n-n1)=n by walk_at "o"]at hu2
    refine wpS_bind (wpS_get ?_);rw[show(pendingOf (SortSt.mk' κ zs #[(0,n1,0)] g none)).back?=some (0,n1,0) from rfl];dsimp only;refine wpS_bind (loop zs _ (fun x R' hR=>?_) ?_)
    ·refine wpS_bind (wpS_get ?_);rw[if_neg (by show ¬ (1>1);walk_at "o")]
     exact wpS_pure hR
    ·refine wpS_bind (wpS_modify (wpS_bind (wpS_modify (wpS_pure ?_))));exact .inr (.inr ⟨by rw[show n1+(n-n1)=n by walk_at "o"],zs,hp2.trans hp,.inr (out zs (n-n1) _ (by walk_at "o"))⟩)
  ·dsimp only;rw[if_pos (Nat.le_refl _)];exact wpS_pure ⟨rfl,hh⟩
 case post=>
  rintro c st ⟨rfl,ys,hp,hh⟩;dsimp only;refine wpS_bind (wpS_mono (wpS_forRange
   (I:=fun x c st=>c=(none,())/\∃ ys:Array Keyed,ys.toList.Perm xs.toList/\((∃ p g',p.size<=1/\st=SortSt.mk' κ ys p g' none/\(n<64->Up rk ys 0 n))\/(x=0/\∃ n1 n2 pw,1<=n1/\1<=n2/\n1+n2=n/\st=SortSt.mk' κ ys #[(0,n1,pw),(n1,n2,0)] g none/\64<=n)))
   (Q:=fun c st=>c=(none,())/\∃ ys:Array Keyed,ys.toList.Perm xs.toList/\∃ p g',st=SortSt.mk' κ ys p g' none/\(n<64->Up rk ys 0 n)) ?s2 ?f2 ?i2) ?p2)
  case i2=>
   refine⟨rfl,ys,hp,?_⟩
   rcases hh with ⟨rfl,hu⟩|hh
   ·exact .inl ⟨#[(0,n,0)],g,by simp,rfl,fun _=>hu⟩
   ·exact .inr ⟨rfl,hh⟩
  case f2=>
   rintro c st ⟨rfl,zs,hp2,⟨p,g',_,rfl,hu⟩|⟨hx,_⟩⟩
   ·exact⟨rfl,zs,hp2,p,g',rfl,hu⟩
   ·walk_at "o"
  case p2=>
   rintro c st ⟨rfl,zs,hp2,p,g',rfl,hu⟩;exact wpS_pure (h zs p g' hp2 hu)
  case s2=>
   rintro x c st _ hx ⟨rfl,zs,hp2,⟨p,g',hp1,rfl,hu⟩|⟨rfl,n1,n2,pw,a1,a2,a3,rfl,a4⟩⟩
   ·refine wpS_bind (wpS_get ?_);rw[if_pos (show(pendingOf (SortSt.mk' κ zs p g' none)).size<=1 from hp1)];exact wpS_pure ⟨rfl,zs,hp2,p,g',rfl,hu⟩
   ·refine wpS_bind (wpS_get ?_);rw[if_neg (show ¬ ((pendingOf (SortSt.mk' κ zs #[(0,n1,pw),(n1,n2,0)] g none)).size<=1) by show ¬ (2<=1);walk_at "o")]
    refine wpS_bind ?_;show wpS (model prog w) A E s (mergeAt' 0) _ _;refine AT hc (hA.perm hp2) a1 a2 a3 fun vs g' hp3=>?_;rw[if_neg (by simp)]
    exact wpS_pure ⟨rfl,vs,hp3.trans hp2,.inl ⟨#[(0,n1+n2,pw)],g',by simp,rfl,fun z=>by walk_at "o"⟩⟩
end
end SR
set_option maxHeartbeats 3200000
namespace SR
open PySem PyProof.Rows
theorem perm_up {α β:Type}{f:α->β}:∀ (ms:List α) (l:List β),List.Perm l (ms.map f)->∃ ms1,List.Perm ms1 ms/\l=ms1.map f
 | [],l,h=>⟨[],.refl _,by simpa using h⟩
 | m::ms,l,h=>by
  rw[List.map_cons]at h;obtain⟨l1,l2,rfl⟩:=List.append_of_mem (h.mem_iff.mpr List.mem_cons_self);have h2:List.Perm (l1++l2) (ms.map f):=List.Perm.cons_inv (a:=f m) (List.perm_middle.symm.trans h);obtain⟨ms1,hp,e⟩:=perm_up ms _ h2;obtain⟨a,b,rfl,ea,eb⟩:=List.append_eq_map_iff.mp e;refine⟨a++m::b,List.perm_middle.trans (List.Perm.cons m hp),?_⟩;rw[List.map_append,List.map_cons,ea,eb]
theorem BH {p q:Nat->Bool}:∀ l:List Nat,(∀ x∈l,p x=true->q x=true)->l.countP p<=l.countP q:=fun l h=>List.countP_mono_left h
theorem BI {p q:Nat->Bool}:∀ l:List Nat,(∀ x∈l,p x=true->q x=true)->∀ y∈l,p y=false->q y=true->l.countP p<l.countP q
 | [],_,y,hy,_,_=>absurd hy List.not_mem_nil
 | x::l,h,y,hy,h1,h2=>by
  rw[List.countP_cons,List.countP_cons];have hl:=BH l fun z hz=>h z (List.mem_cons_of_mem _ hz)
  rcases List.mem_cons.mp hy with rfl|hy
  ·rw[h1,h2];simp;omega
  ·have:=BI l (fun z hz=>h z (List.mem_cons_of_mem _ hz)) y hy h1 h2;have hx:=h x List.mem_cons_self
   cases hp:p x with
   | false=>simp;split <;> omega
   | true=>rw[hx hp];simp;omega
section
variable {prog:Program}{w:World}{A:Around}{E:Value->Shared->Prop}{s:Shared}{κ:SortKind}
theorem w_run {vs:List Value}{lt:Nat->Nat->Bool}(h64:1<=vs.length)(h128:vs.length<128)
  (hinj:∀ i j,i<vs.length->j<vs.length->vs.getD i Value.none=vs.getD j Value.none->i=j)
  (hirr:∀ i,lt i i=false) (htr:∀ i j k,lt i j=true->lt j k=true->lt i k=true) (hneg:∀ i j k,lt i k=true->lt i j=true\/lt j k=true)
  (htot:∀ i j,i<vs.length->j<vs.length->lt i j=false->lt j i=false->i=j)
  (hcmp:∀ i j,i<vs.length->j<vs.length->∀ Q:Bool->Shared->Prop,Q (lt i j) s->wpAny (model prog w) A (keyLt' κ (vs.getD i Value.none) (vs.getD j Value.none)) Q (fun _ _=>False) s) :
  wpS (model prog w) A E s sortRuns' (fun _ st=>∃ p:Array Nat,arrOf st=p.map (fun i=>(vs.getD i Value.none,vs.getD i Value.none))/\failedOf st=none/\List.Perm p.toList (List.range vs.length) ∧
   (vs.length<64->∀ i j,i<=j->j<vs.length->lt (p.getD j 0) (p.getD i 0)=false)) (SortSt.mk' κ (vs.toArray.zip vs.toArray) #[] 7 none):=by
 generalize hn:vs.length=n at h64 h128 hinj htot hcmp
 classical
 let it:Nat->Keyed:=fun i=>(vs.getD i Value.none,vs.getD i Value.none)
 let ri:Nat->Int:=fun i=>((List.range n).countP fun j=>lt j i:Nat)
 let rk:Keyed->Int:=fun x=>if h:∃ i,i<n/\it i=x then ri (Classical.choose h) else 0
 have hit:∀ i j,i<n->j<n->it i=it j->i=j:=fun i j hi hj e=>hinj i j hi hj (congrArg Prod.fst e);have hrk:∀ i,i<n->rk (it i)=ri i:=fun i hi=>by
  have hx:∃ j,j<n/\it j=it i:=⟨i,hi,rfl⟩;show(if h:∃ j,j<n/\it j=it i then ri (Classical.choose h) else 0)=ri i
  rw[dif_pos hx];have hs:=Classical.choose_spec hx;rw[hit _ _ hs.1 hi hs.2]
 have hlt:∀ i j,i<n->lt i j=decide (ri i<ri j):=fun i j hi=>by
  cases hb:lt i j with
  | true=>
   have:=BI (p:=fun k=>lt k i) (q:=fun k=>lt k j) (List.range n) (fun k _ hk=>htr k i j hk hb) i (by simpa using hi) (hirr i) hb
   exact(decide_eq_true (by show((_:Nat):Int)<((_:Nat):Int);omega)).symm
  | false=>
   have:=BH (p:=fun k=>lt k j) (q:=fun k=>lt k i) (List.range n) (fun k _ hk=>(hneg k i j hk).resolve_right (by rw[hb];simp))
   exact(decide_eq_false (by show ¬ (((_:Nat):Int)<((_:Nat):Int));omega)).symm
 let Gd:Keyed->Prop:=fun x=>∃ i,i<n/\x=it i
 have hc:oP prog w A s κ rk Gd:=by
  rintro x y ⟨i,hi,rfl⟩ ⟨j,hj,rfl⟩ Q hq;rw[hrk i hi,hrk j hj,<-hlt i j hi]at hq;exact hcmp i j hi hj Q hq
 have hzip:(vs.toArray.zip vs.toArray).toList=(List.range n).map it:=by
  apply List.ext_getElem?;intro i
  rcases Nat.lt_or_ge i n with h|h
  ·have h1:i<vs.length:=by omega
   simp[h,it,h1]
  ·have h1:vs.length<=i:=by omega
   simp[h,h1]
 have hA:Ar rk Gd n (vs.toArray.zip vs.toArray):=by
  refine⟨by simp[hn],fun x hx=>?_,?_⟩
  ·rw[hzip]at hx;obtain⟨i,hi,rfl⟩:=List.mem_map.mp hx;exact⟨i,by simpa using hi,rfl⟩
  ·rw[hzip,List.map_map];have e:(List.range n).map (rk ∘ it)=(List.range n).map ri:=List.map_congr_left fun i hi=>hrk i (by simpa using hi)
   rw[e];refine List.pairwise_map.mpr (List.Pairwise.imp_of_mem (fun {i j} hi hj hij e=>?_) List.nodup_range);have hi':i<n:=by simpa using hi
   have hj':j<n:=by simpa using hj
   refine hij (htot i j hi' hj' ?_ ?_)
   ·rw[hlt i j hi'];exact decide_eq_false (by omega)
   ·rw[hlt j i hj'];exact decide_eq_false (by omega)
 refine xu hc hA h64 h128 fun ys p g' hp hu=>?_;rw[hzip]at hp;obtain⟨q,hq,e⟩:=perm_up _ _ hp;have hql:q.length=n:=by rw[hq.length_eq,List.length_range]
 refine⟨q.toArray,?_,rfl,by simpa using hq,fun h64' i j hij hj=>?_⟩
 ·show ys=_;apply Array.toList_inj.mp;rw[e];simp[it]
 ·have hi:i<n:=by omega
  have hys:ys.size=n:=by rw[<-Array.length_toList,e,List.length_map,hql]
  have h1:=hu h64' i j (Nat.zero_le _) hij hj;have at_:∀ k (hk:k<n),kk rk ys k=ri (q[k]'(by omega))/\q[k]'(by omega)<n:=fun k hk=>by
   have hm:q[k]'(by omega)<n:=by simpa using hq.mem_iff.mp (List.getElem_mem (by omega:k<q.length))
   refine⟨?_,hm⟩;rw[ul (by omega)]
   have e2:ys[k]'(by omega)=it (q[k]'(by omega)):=by
    have:ys.toList[k]'(by simp;omega)=(q.map it)[k]'(by simp;omega):=by simp only[e]
    simpa using this
   rw[e2,hrk _ hm]
  rw[(at_ i hi).1,(at_ j hj).1]at h1;have gi:q.toArray.getD i 0=q[i]'(by omega):=by simp[Array.getD,hql,hi]
  have gj:q.toArray.getD j 0=q[j]'(by omega):=by simp[Array.getD,hql,hj]
  rw[gi,gj,hlt _ _ (at_ j hj).2];exact decide_eq_false (by omega)
end
end SR
set_option maxHeartbeats 3200000
namespace ST
open PySem PySem.W PyProof.Rows
def lexB:List Int->List Int->Bool
 | [],[]=>false
 | [],_::_=>true
 | _::_,[]=>false
 | a::x,b::y=>if a=b then lexB x y else decide (a<b)
theorem ir:∀ a,lexB a a=false
 | []=>rfl
 | a::x=>by simp[lexB,ir x]
theorem p9:∀ a b c,lexB a b=true->lexB b c=true->lexB a c=true
 | [],[],c,h1,h2=>h2
 | [],_::_,[],h1,h2=>by simp[lexB]at h2
 | [],_::_,_::_,h1,h2=>rfl
 | _::_,[],c,h1,h2=>by simp[lexB]at h1
 | _::_,_::_,[],h1,h2=>by simp[lexB]at h2
 | a::x,b::y,c::z,h1,h2=>by
  simp only[lexB]at h1 h2 ⊢
  by_cases e1:a=b
  ·subst e1
   by_cases e2:a=c
   ·subst e2;simp only[if_true]at h1 h2 ⊢;exact p9 x y z h1 h2
   ·simp only[if_true,e2,if_false]at h1 h2 ⊢;exact h2
  ·by_cases e2:b=c
   ·subst e2;simp only[e1,if_false,if_true]at h1 h2 ⊢;exact h1
   ·simp only[e1,e2,if_false,decide_eq_true_eq]at h1 h2 ⊢;have:a≠c:=by omega
    simp only[this,if_false,decide_eq_true_eq];omega
theorem yj:∀ a b c,lexB a c=true->lexB a b=true\/lexB b c=true
 | [],[],c,h=>.inr h
 | [],_::_,c,h=>.inl rfl
 | _::_,b,[],h=>by simp[lexB]at h
 | _::_,[],_::_,h=>.inr rfl
 | a::x,b::y,c::z,h=>by
  simp only[lexB]at h ⊢
  by_cases e1:a=b
  ·subst e1
   by_cases e2:a=c
   ·subst e2;simp only[if_true]at h ⊢;exact yj x y z h
   ·simp only[e2,if_false]at h ⊢;exact .inr h
  ·by_cases e2:b=c
   ·subst e2;simp only[e1,if_false]at h ⊢;exact .inl h
   ·simp only[e1,e2,if_false,decide_eq_true_eq]at h ⊢
    by_cases e3:a=c
    ·subst e3;omega
    ·simp only[e3,if_false,decide_eq_true_eq]at h;omega
theorem lP:∀ a b,lexB a b=false->lexB b a=false->a=b
 | [],[],_,_=>rfl
 | [],_::_,h,_=>by simp[lexB]at h
 | _::_,[],_,h=>by simp[lexB]at h
 | a::x,b::y,h1,h2=>by
  simp only[lexB]at h1 h2
  by_cases e:a=b
  ·subst e;simp only[if_true]at h1 h2;rw[lP x y h1 h2]
  ·have e':b≠a:=fun h=>e h.symm;simp only[e,e',if_false,decide_eq_false_iff_not]at h1 h2;omega
def Bc (key:Nat->List Int)(p:Array Nat)(n:Nat):Prop:=∀ i j,i<=j->j<n->lexB (key (p.getD j 0)) (key (p.getD i 0))=false
section
variable {prog:Program}{w:World}{A:Around}{E:Value->Shared->Prop}{s:Shared}
theorem Ds {b:Bool}{Q:Bool->Shared->Prop}:∀ (ks ls:List Int) (xs ys:List Value) (i:Nat),ItemsAre (ik prog w) ks xs->ItemsAre (ik prog w) ls ys->ks.length=ls.length->Q (lexB ks ls) s →
  KatLex prog w A b false Q (xs.zip ys) i s
 | _,_,_,_,i,.nil,.nil,_,h=>h
 | _,_,_,_,i,.nil,.cons _ _,e,h=>by simp at e
 | _,_,_,_,i,.cons _ _,.nil,e,h=>by simp at e
 | _,_,_,_,i,.cons (k:=k) (v:=v) (ks:=ks) (vs:=vs) h1 h2,.cons (k:=k') (v:=v') (ks:=ks') (vs:=vs') h3 h4,e,h=>by
  obtain⟨t,rfl⟩:=Value.isInt_shape h1;obtain⟨t',rfl⟩:=Value.isInt_shape h3;refine kat_cons (wpAny_eqBool_int ?_)
  by_cases hk:k=k'
  ·subst hk;rw[beq_self_eq_true];refine kat_yes (Ds ks ks' vs vs' (i+1) h2 h4 (by simpa using e) ?_)
   simpa [lexB] using h
  ·rw[beq_eq_false_iff_ne.mpr hk];refine kat_no ?_;have h':Q (decide (k<k')) s:=by simpa [lexB,hk] using h
   cases hb:(b && i == 0) with
   | true=>exact oneLt_int h'
   | false=>exact kat_one _ _ (wpAny_lt_int h')
theorem yO {h:Heap}:∀ (vs:List Value) (km:Nat->Addr × List Int),(∀ i,i<vs.length->vs.getD i Value.none=.ref (km i).1/\IsTupleKey (ik prog w) h (km i).2 (km i).1/\0<(km i).2.length) →
  ∃ fs,KatTups h vs fs/\fs.length=vs.length/\∀ v∈fs,∃ k t,v=Value.int k t
 | [],km,_=>⟨[],.nil,rfl,fun v hv=>absurd hv List.not_mem_nil⟩
 | v::vs,km,hk=>by
  obtain⟨fs,h1,h2,h3⟩:=yO vs (fun i=>km (i+1)) fun i hi=>by
   have:=hk (i+1) (by simpa using hi)
   simpa using this
  obtain⟨e,⟨o,items,m,ho,hc,hd,hi⟩,hpos⟩:=hk 0 (by simp)
  have ev:v=.ref (km 0).1:=by simpa using e
  subst ev;generalize (km 0).2=kk at hi hpos;obtain⟨k,t,rest,hit⟩:∃ k t rest,items.toList=Value.int k t::rest:=by
   generalize items.toList=il at hi
   cases hi with
   | nil=>simp at hpos
   | @cons k v _ vs' h1 _=>
    obtain⟨t,rfl⟩:=Value.isInt_shape h1;exact⟨k,t,vs',rfl⟩
  refine⟨Value.int k t::fs,.cons ho hc hd (f:=Value.int k t) ?_ h1,by simp[h2],fun u hu=>?_⟩
  ·rw[<-Array.getElem?_toList,hit];rfl
  ·rcases List.mem_cons.mp hu with rfl|hu
   ·exact⟨k,t,rfl⟩
   ·exact h3 u hu
theorem Aw:∀ vs:List Value,vs.length<2->(vs.toArray.zip vs.toArray).map (·.2)=((List.range vs.length).toArray.toList.map fun i=>vs.getD i Value.none).toArray
 | [],_=>by simp
 | [v],_=>by simp[List.range_succ]
 | _::_::_,h=>absurd h (by simp only[List.length_cons];omega)
theorem pY {prog:Program}{w:World}:∀ {ks ls:List Int}{xs:List Value},ItemsAre (ik prog w) ks xs->ItemsAre (ik prog w) ls xs->ks=ls
 | _,_,_,.nil,.nil=>rfl
 | _,_,_,.cons (k:=k) (v:=v) (ks:=ks) (vs:=vs) h1 h2,.cons (k:=k') (ks:=ks') h3 h4=>by
  obtain⟨t',e'⟩:=Value.isInt_shape h3;obtain⟨t,e⟩:=Value.isInt_shape h1;rw[e]at e';rw[pY h2 h4,(Value.int.inj e').1]
theorem GN {h:Heap}{ks ls:List Int}{a:Addr}(h1:IsTupleKey (ik prog w) h ks a)(h2:IsTupleKey (ik prog w) h ls a):ks=ls:=by
 obtain⟨o,its,m,ho,hc,hd,hi⟩:=h1;obtain⟨o',its',m',ho',hc',hd',hi'⟩:=h2;rw[ho]at ho';obtain rfl:=Option.some.inj ho';rw[hd]at hd';obtain⟨rfl,_⟩:=Data.seq.inj hd';exact pY hi hi'
theorem Fh {a:Addr}{n d:Nat}{vs:List Value}{km:Nat->Addr × List Int}{P:PySem.Fin->Shared->Prop} (ho:s.heap.get? a=some (seqObj "list" vs.toArray n)) (h64:vs.length<128/\∀ i j,i<vs.length->j<vs.length->(km i).2=(km j).2->i=j) (hd0:0<d)
  (hk:∀ i,i<vs.length->vs.getD i Value.none=.ref (km i).1/\IsTupleKey (ik prog w) s.heap (km i).2 (km i).1/\(km i).2.length=d)
  (h:∀ h' (p:Array Nat) e,(∀ b o,b≠a->s.heap.get? b=some o->h'.get? b=some o)->h'.get? a=some (seqObj "list" (p.toList.map fun i=>vs.getD i Value.none).toArray e) →
   List.Perm p.toList (List.range vs.length)->(vs.length<64->Bc (fun i=>(km i).2) p vs.length)->P (.done (.ret .none)) {s with heap:=h'}) :
  wpAny (model prog w) A (Builtin.«list.sort» ⟨[.ref a],[]⟩) P E s:=by
 have ha:a<s.heap.objs.size:=Heap.lt_size ho;have s1:=Heap.SameBut.update s.heap a (Obj.mapSeq fun _=>(#[]:Array Value));obtain⟨e1,ho1⟩:∃ e1,(s.heap.update a (Obj.mapSeq fun _=>(#[]:Array Value))).get? a=some (seqObj "list" #[] e1):=⟨_,get?_update_seq ho fun _=>#[]⟩;generalize hh3:((s.heap.update a (Obj.mapSeq fun _=>(#[]:Array Value))).push (seqObj "tuple" vs.toArray 0)).push (seqObj "list" #[] 0)=h3;have k3:∀ b o,b≠a->s.heap.get? b=some o->h3.get? b=some o:=fun b o hb e=>by
  rw[<-hh3];exact Heap.get?_push_of_some _ (Heap.get?_push_of_some _ ((s1.2 b hb).trans e))
 have a3:h3.get? a=some (seqObj "list" #[] e1):=by rw[<-hh3];exact Heap.get?_push_of_some _ (Heap.get?_push_of_some _ ho1)
 have hk3:∀ i,i<vs.length->vs.getD i Value.none=.ref (km i).1/\IsTupleKey (ik prog w) h3 (km i).2 (km i).1/\(km i).2.length=d:=fun i hi=>by
  obtain⟨x1,⟨o',items,m',ho',hc',hd',hi'⟩,x3⟩:=hk i hi;refine⟨x1,⟨o',items,m',k3 _ o' (fun e=>?_) ho',hc',hd',hi'⟩,x3⟩;rw[e,ho]at ho';obtain rfl:=Option.some.inj ho';exact absurd hc' (by simp[seqObj])
 have fin:∀ p:Array Nat,List.Perm p.toList (List.range vs.length)->(vs.length<64->Bc (fun i=>(km i).2) p vs.length)->∃ e,
   (h3.update a (Obj.mapSeq fun _=>(p.toList.map fun i=>vs.getD i Value.none).toArray)).get? a=some (seqObj "list" (p.toList.map fun i=>vs.getD i Value.none).toArray e) ∧
   P (.done (.ret .none)) {s with heap:=h3.update a (Obj.mapSeq fun _=>(p.toList.map fun i=>vs.getD i Value.none).toArray)}:=fun p hp hs=>by
  have hg:=get?_update_seq a3 fun _=>(p.toList.map fun i=>vs.getD i Value.none).toArray;exact⟨_,hg,h _ p _ (fun b o hb e=>((Heap.SameBut.update h3 a _).2 b hb).trans (k3 b o hb e)) hg hp hs⟩
 rw[list_sort_plain];refine wpAny_bind (listItems_at ho rfl ?_);refine wpAny_bind (listUpdate_at ho rfl ?_ (by rw[List.size_toArray,sizeLine_eq];omega) (Nat.zero_le _))
 refine wpAny_bind (seqEpoch_at ho1 rfl ?_);refine wpAny_bind (wpAny_newTuple ?_ (by show vs.length<=_;rw[sizeLine_eq];omega))
 refine wpAny_bind (wpAny_newList ?_ (Nat.zero_le _));refine wpAny_holding ?_;show wpAny (model prog w) A _ P E {s with heap:=((s.heap.update a (Obj.mapSeq fun _=>(#[]:Array Value))).push (seqObj "tuple" vs.toArray 0)).push (seqObj "list" #[] 0)};rw[hh3];dsimp only
 by_cases h2:vs.toArray.size<2
 ·rw[if_pos h2,if_pos h2];refine wpAny_bind (wpAny_pure ?_);rw[StateT.run_pure];refine wpAny_bind (wpAny_pure ?_);dsimp only;have hout:(arrOf (SortSt.mk' general' (vs.toArray.zip vs.toArray) #[] 7 none)).map (·.2)=((List.range vs.length).toArray.toList.map fun i=>vs.getD i Value.none).toArray:=by
   exact Aw vs (by simpa using h2)
  obtain⟨e,hg,hP⟩:=fin (List.range vs.length).toArray (.refl _) (fun _ i j hij hj=>by
   have h2':vs.length<2:=by simpa using h2
   have:i=j:=by omega
   subst this;exact ir _)
  rw[hout];refine wpAny_bind (seqEpoch_at a3 rfl ?_);refine wpAny_bind (listUpdate_at a3 rfl ?_ (Nat.zero_le _) (by simp[sizeLine_eq];omega))
  simp only[bne_self_eq_false,Bool.false_eq_true,if_false];exact wpAny_pure hP
 ·rw[if_neg h2,if_neg h2];have h2':2<=vs.length:=by simpa using h2
  obtain⟨fs,t1,t2,t3⟩:=yO (prog:=prog) (w:=w) (h:=h3) vs km fun i hi=>⟨(hk3 i hi).1,(hk3 i hi).2.1,by rw[(hk3 i hi).2.2];exact hd0⟩
  refine wpAny_bind (kat_kind (T:=.type "int") t1 (by omega) (fun v hv=>by
   obtain⟨k,t,rfl⟩:=t3 v hv;exact Looks.of_pure rfl) (by decide) ?_)
  have cmp:∀ i j,i<vs.length->j<vs.length->∀ C:Bool->Shared->Prop,C (lexB (km i).2 (km j).2) {s with heap:=h3} →
    wpAny (model prog w) A (keyLt' (tuples' (Value.type "int" != Value.type "tuple")) (vs.getD i Value.none) (vs.getD j Value.none)) C (fun _ _=>False) {s with heap:=h3}:=fun i j hi hj C hC=>by
   obtain⟨x1,⟨o1,it1,m1,ho1',hc1,hd1,hi1⟩,x3⟩:=hk3 i hi;obtain⟨y1,⟨o2,it2,m2,ho2',hc2,hd2,hi2⟩,y3⟩:=hk3 j hj;rw[x1,y1];have hsz:decide (it1.size<it2.size)=false:=by
    have e1:=hi1.length;have e2:=hi2.length;simp only[Array.length_toList]at e1 e2;simp only[decide_eq_false_iff_not];omega
   refine kat_lt ho1' hd1 ho2' hd2 ?_;rw[hsz];exact Ds _ _ _ _ 0 hi1 hi2 (x3.trans y3.symm) hC
  have run:wpAny (model prog w) A (sortRuns'.run (SortSt.mk' (tuples' (Value.type "int" != Value.type "tuple")) (vs.toArray.zip vs.toArray) #[] 7 none))
    (fun r s'=>∃ p:Array Nat,arrOf r.2=p.map (kas_item (vs.toArray.zip vs.toArray))/\failedOf r.2=none/\s'={s with heap:=h3}/\List.Perm p.toList (List.range vs.length)/\(vs.length<64->Bc (fun i=>(km i).2) p vs.length)) E {s with heap:=h3}:=by
   ·obtain⟨h128,hdist⟩:=h64;have hinj:∀ i j,i<vs.length->j<vs.length->vs.getD i Value.none=vs.getD j Value.none->i=j:=fun i j hi hj e=>by
     refine hdist i j hi hj ?_;obtain⟨x1,x2,_⟩:=hk3 i hi;obtain⟨y1,y2,_⟩:=hk3 j hj;rw[x1,y1]at e;rw[Value.ref.inj e]at x2;exact GN x2 y2
    refine wpAny_mono (SR.w_run (s:={s with heap:=h3}) (lt:=fun i j=>lexB (km i).2 (km j).2) (by omega) h128 hinj (fun i=>ir _) (fun i j k=>p9 _ _ _) (fun i j k=>yj _ _ _) (fun i j hi hj h1 h2=>hdist i j hi hj (lP _ _ h1 h2)) cmp) ?_ fun _ _ e=>e
    rintro⟨u,st'⟩ s' ⟨rfl,p,h1,h2,h3,h4⟩;refine⟨p,?_,h2,rfl,h3,fun z i j hij hj=>h4 z i j hij hj⟩;rw[h1];apply Array.toList_inj.mp;rw[Array.toList_map,Array.toList_map];exact List.map_congr_left fun i _=>(kat_item rfl i).symm
  refine wpAny_bind (wpAny_mono run ?_ fun _ _ e=>e)
  ·rintro⟨⟨⟩,st'⟩ s' ⟨p,har,hf,rfl,hp,hs⟩;dsimp only;obtain⟨e,hg,hP⟩:=fin p hp hs;have hout:=kat_snds (ks:=vs) (vs:=vs) rfl har;rw[hout];refine wpAny_bind (seqEpoch_at a3 rfl ?_);refine wpAny_bind (listUpdate_at a3 rfl ?_ (Nat.zero_le _) (by
    rw[List.size_toArray,List.length_map,hp.length_eq,List.length_range,sizeLine_eq];omega))
   rw[hf];simp only[bne_self_eq_false,Bool.false_eq_true,if_false];exact wpAny_pure hP
end
end ST
set_option maxHeartbeats 3200000
namespace ST
open PySem PySem.W PyProof.Rows
section
variable {prog:Program}{w:World}{A:Around}{E:Value->Shared->Prop}{s:Shared}{o:Obj}{es:Array (Int × Value)}{ep:Nat}{t:SetTable}{S:Addr}
theorem C8 {Q:Bool->Shared->Prop} (hT:s.TypeIs (.ref S) "set") (h:Q false s):wpAny (model prog w) A (Builtin.List.listLengthHint (.ref S)) Q E s:=by
 unfold Builtin.List.listLengthHint;refine wpAny_bind (wpAny_specialOf hT F.slot_set_len.lookup ?_);generalize hid:("set.__len__":String)=id0
 wp_delta
 rw[show splitId id0=some ("set","__len__") from by subst hid;decide +kernel]
 subst hid;refine wpAny_bind (wpAny_isInstance (T:="set") (b:=true) hT sub_set_self ?_);refine wpAny_ite_split (fun hab=>absurd hab (by decide)) (fun _=>?_)
 refine wpAny_ite_split (fun _=>?_) (fun hab=>absurd (by decide +kernel) hab)
 refine wpAny_bind (wpAny_typeOf hT ?_);exact wpAny_pure h
theorem ww {ws:List Value}{acc:Array Value}(h:ItemsOf (fun i v=>ws[i]?=some v) acc ws.length):acc=ws.toArray:=by
 obtain⟨h1,h2⟩:=h;have e:acc.toList=ws:=by
  apply List.ext_getElem?;intro i
  by_cases hi:i<acc.size
  ·have h3:=h2 i acc[i] (Array.getElem?_eq_getElem hi);rw[Array.getElem?_toList,Array.getElem?_eq_getElem hi,h3]
  ·rw[List.getElem?_eq_none (by simpa using Nat.le_of_not_lt hi),List.getElem?_eq_none (by rw[<-h1];exact Nat.le_of_not_lt hi)]
 rw[<-e]
theorem tT {Q:List Value->Shared->Prop}(hh:A.handled=none)(W:jR w o es ep t)(ho:s.heap.get? S=some o)(hz:es.size<=76)
  (h:∀ h' tk,(∀ b o,s.heap.get? b=some o->h'.get? b=some o)->s.heap.objs.size<=h'.objs.size->Q (cY w S ep es) {s with heap:=h',toks:=tk}) :
  wpAny (model prog w) A (collect (.ref S)) Q E s:=by
 have hS0:S<s.heap.objs.size:=Heap.lt_size ho;unfold collect;refine wpAny_bind (wpAny_runValue (codeAny_builtin entry_proto_collect' ?_));show wpAny _ _ (newList [] >>= fun l=>again (.builtin "list.__iadd__" ⟨[l,.ref S],[]⟩)) _ _ s;refine wpAny_bind (wpAny_newList (wpAny_pure ⟨Code.quiet_builtin _ (by decide +kernel),codeAny_builtin entry_list_iadd' ?_⟩))
 show wpAny _ _ (Builtin.List.listExtendWith (.ref s.heap.objs.size) (.ref S) (.ref s.heap.objs.size)) _ _ {s with heap:=s.heap.push (seqObj "list" #[] 0)};have ho1:(s.heap.push (seqObj "list" #[] 0)).get? S=some o:=Heap.get?_push_of_some _ ho;have hT1:Shared.TypeIs {s with heap:=s.heap.push (seqObj "list" #[] 0)} (.ref S) "set":=⟨o,ho1,W.ex.1⟩;unfold Builtin.List.listExtendWith;refine wpAny_bind (wpAny_typeOf hT1 ?_);have b1:Builtin.List.listSameRef (.ref s.heap.objs.size) (.ref S)=false:=by
  have:s.heap.objs.size≠S:=Nat.ne_of_gt hS0;simp[Builtin.List.listSameRef,this]
 have b2:(Value.type "set" == Value.type "list")=false:=by decide
 have b3:(Value.type "set" == Value.type "tuple")=false:=by decide
 simp only[b1,b2,b3,Bool.or_false,Bool.false_eq_true,if_false];refine wpAny_bind (vi W ho1 ?_);generalize hio:({cls:=.type "set_iterator",data:=.fields #[rawInt (0:Nat),rawInt (0:Nat),.ref S,rawInt es.size,rawInt ep]}:Obj)=io;have hsz1:(s.heap.push (seqObj "list" #[] 0)).objs.size=s.heap.objs.size+1:=size_push' ..;dsimp only;rw[hsz1];have ho2:((s.heap.push (seqObj "list" #[] 0)).push io).get? S=some o:=Heap.get?_push_of_some _ ho1;refine wpAny_bind (wpAny_holding (C8 ⟨o,ho2,W.ex.1⟩ ?_));refine wpAny_ite_split (fun _=>?_) (fun hab=>absurd (by decide +kernel) hab)
 refine wpAny_bind (wpAny_rule ?_);have hL2:((s.heap.push (seqObj "list" #[] 0)).push io).get? s.heap.objs.size=some (seqObj "list" #[] 0):=Heap.get?_push_of_some _ (Heap.get?_push_size _ rfl);unfold Builtin.List.listTouch;refine wpAny_bind (wpAny_bind (listUpdate_at hL2 rfl ?_ (Nat.zero_le _) (by simp[sizeLine_eq])))
 have hL3:=get?_update_seq hL2 (·.push Value.none);refine listUpdate_at (s:={s with heap:=((s.heap.push (seqObj "list" #[] 0)).push io).update s.heap.objs.size (Obj.mapSeq (·.push Value.none))}) hL3 rfl ?_ (by simp[sizeLine_eq]) (by simp[sizeLine_eq])
 have hL4:=get?_update_seq hL3 (·.pop);generalize hh4:(((s.heap.push (seqObj "list" #[] 0)).push io).update s.heap.objs.size (Obj.mapSeq (·.push Value.none))).update s.heap.objs.size (Obj.mapSeq (·.pop))=h4 at hL4 ⊢;obtain⟨c4,hL4⟩:∃ c4,h4.get? s.heap.objs.size=some (seqObj "list" #[] c4):=⟨_,hL4⟩;have k4:∀ b o,b≠s.heap.objs.size->((s.heap.push (seqObj "list" #[] 0)).push io).get? b=some o->h4.get? b=some o:=fun b o hb e=>by
  rw[<-hh4];exact((Heap.SameBut.update _ _ _).2 b hb).trans (((Heap.SameBut.update _ _ _).2 b hb).trans e)
 have hI4:h4.get? (s.heap.objs.size+1)=some io:=k4 _ _ (Nat.succ_ne_self _) (by
  have:=Heap.get?_push_size (s.heap.push (seqObj "list" #[] 0)) (o:=io) (by rw[<-hio];rfl)
  rwa [hsz1]at this)
 have hne:S≠s.heap.objs.size+1:=Nat.ne_of_lt (Nat.lt_succ_of_lt hS0);have hSf:s.heap.objs.size∉[s.heap.objs.size+1,S]:=fun hm=>by
  rcases List.mem_cons.mp hm with e|hm
  ·exact Nat.ne_of_lt (Nat.lt_succ_self _) e
  ·exact Nat.ne_of_gt hS0 (List.mem_singleton.mp hm)
 refine wpAny_pure ⟨plainId_quiet F.plain_extend_loop _,?_⟩;refine codeAny_extend_loopS ((AU (by simp[hh]) W hne).toS) (by rw[sizeLine_eq];omega) s.heap.objs.size hSf _ es.size 0 _ #[] c4 rfl (Nat.zero_le _)
  ⟨0,⟨_,hI4,by rw[<-hio],by rw[<-hio]⟩,fun _=>vG W.ris,k4 S o (Nat.ne_of_lt hS0) ho2⟩ hL4 (ItemsOf.nil _) fun s' acc' c' hm hS' hacc=>?_
 have hacc':acc'=(cY w S ep es).toArray:=ww (by rw[oG W];exact hacc)
 subst hacc';have key:∀ b o,s.heap.get? b=some o->s'.heap.get? b=some o:=fun b o e=>by
  have hb:b<s.heap.objs.size:=Heap.lt_size e;refine hm.heap b o (fun hmem=>?_) (k4 b o (Nat.ne_of_lt hb) (Heap.get?_push_of_some _ (Heap.get?_push_of_some _ e)))
  rcases List.mem_cons.mp hmem with e'|hmem
  ·exact Nat.ne_of_lt hb e'
  ·exact Nat.ne_of_lt (Nat.lt_succ_of_lt hb) (List.mem_singleton.mp hmem)
 rw[Moved.eq_with hm];show wpAny (model prog w) A (load s.heap.objs.size >>= fun o=>match o.data with
   | .seq xs _=>pure xs.toList
   | _=>unsupported "internal:collect") Q E {s with heap:=s'.heap,toks:=s'.toks}
 refine wpAny_bind (wpAny_load hS' ?_);exact wpAny_pure (h s'.heap s'.toks key (Nat.le_of_lt (Heap.lt_size hS')))
theorem Ay {α β:Type}{f:α->β}(ms:List α)(l:List β)(h:List.Perm l (ms.map f)):∃ ms1,List.Perm ms1 ms/\l=ms1.map f:=SR.perm_up ms l h
theorem uJ {α:Type}(l:List α)(d:α):(List.range l.length).map (fun i=>l.getD i d)=l:=by
 apply List.ext_getElem?;intro i;rw[List.getElem?_map]
 rcases Nat.lt_or_ge i l.length with h|h
 ·simp[h]
 ·simp[h]
theorem call_sorted_set {Q:Value->Shared->Prop}{ms:List (Addr × List Int)}{d:Nat}(hh:A.handled=none)(hS:dQ prog w s.heap S ms)(h64:ms.length<=76)(hd0:0<d)(hd:∀ m∈ms,m.2.length=d)
  (h:∀ h' tk D e (ns:List (Addr × List Int)),List.Perm ns ms->(ns.map (·.2)).Nodup->(ms.length<64->ns.Pairwise (fun a b=>lexB a.2 b.2=true))->(∀ b o,s.heap.get? b=some o->h'.get? b=some o)->s.heap.objs.size<=D →
   h'.get? D=some (seqObj "list" (ns.map fun m=>Value.ref m.1).toArray e)->Q (.ref D) {s with heap:=h',toks:=tk}) :
  wpAny (model prog w) A (call (.builtin "sorted") [.ref S]) Q E s:=by
 obtain⟨o,es,ep,t,ps,ho,hex,hdt,T,R,H,hpl,hled⟩:=hS;have W:jR w o es ep t:=⟨hex,hdt,T.fits R.le,T.ris',hpl,hled⟩;have hes:es.size=ms.length:=H.len;refine Calls.call_function_entry kind_sorted plain_sorted entry_sorted (args_sorted1 _) ?_;unfold Builtin.«sorted»;refine wpAny_bind (m:=checkCount "sorted" 1 1 _) (wpAny_pure ?_);refine wpAny_bind (tT (by simp[hh]) W ho (by omega) fun h1 tk k1 le1=>?_)
 have hwp:List.Perm (cY w S ep es) (ms.map fun m=>Value.ref m.1):=by
  refine(qv w S ep es).trans ?_;have:=H.pm.map (·.2);rw[List.map_map]at this;exact this
 obtain⟨ms1,hpm1,ews⟩:∃ ms1:List (Addr × List Int),List.Perm ms1 ms/\cY w S ep es=ms1.map fun m=>Value.ref m.1:=Ay ms _ hwp;have hlen1:ms1.length=ms.length:=hpm1.length_eq;rw[ews];refine wpAny_bind (wpAny_newList ?_ (by rw[List.length_map,sizeLine_eq];omega))
 dsimp only;have hoL:(h1.push (seqObj "list" (ms1.map fun m=>Value.ref m.1).toArray 0)).get? h1.objs.size=some (seqObj "list" (ms1.map fun m=>Value.ref m.1).toArray 0):=Heap.get?_push_size _ rfl;refine wpAny_bind (wpAny_holding (wpAny_call_entry slot_list_sort ⟨_,hoL,rfl⟩ entry_list_sort ?_ (args_list_sort _)));refine Fh (s:={s with heap:=h1.push (seqObj "list" (ms1.map fun m=>Value.ref m.1).toArray 0),toks:=tk}) (km:=fun i=>ms1.getD i (0,[])) hoL ⟨by rw[List.length_map];omega,fun i j hi hj e=>?_⟩ hd0 (fun i hi=>?_) fun h' p e hk hg hp hs=>?_
 ·have hi':i<ms1.length:=by simpa using hi
  have hj':j<ms1.length:=by simpa using hj
  have nd1:(ms1.map (·.2)).Nodup:=(hpm1.map (·.2)).nodup_iff.mpr H.nd;have e':(ms1.map (·.2))[i]'(by simpa using hi')=(ms1.map (·.2))[j]'(by simpa using hj'):=by
   simpa [hi',hj'] using e
  exact(List.getElem_inj nd1).mp e'
 ·have hi':i<ms1.length:=by simpa using hi
  have hm:ms1.getD i (0,[])=ms1[i]:=by simp[hi']
  have hmem:ms1[i]∈ms:=hpm1.mem_iff.mp (List.getElem_mem hi');dsimp only;rw[hm];refine⟨by simp[hi'],?_,hd _ hmem⟩
  obtain⟨o',its,m',ho',x⟩:=H.key _ hmem;exact⟨o',its,m',Heap.get?_push_of_some _ (k1 _ _ ho'),x⟩
 ·refine⟨_,rfl,wpAny_pure ⟨_,rfl,?_⟩⟩;rw[List.length_map]at hp hs;have hns:(p.toList.map fun i=>(ms1.map fun m=>Value.ref m.1).getD i Value.none)=(p.toList.map fun i=>ms1.getD i (0,[])).map fun m=>Value.ref m.1:=by
   rw[List.map_map];refine List.map_congr_left fun i hi=>?_;have hi':i<ms1.length:=by simpa using hp.mem_iff.mp hi
   simp[hi']
  have hpn:List.Perm (p.toList.map fun i=>ms1.getD i (0,[])) ms1:=by
   have:=hp.map fun i=>ms1.getD i ((0:Addr),([]:List Int))
   rwa [uJ]at this
  rw[hns]at hg;have hnd:((p.toList.map fun i=>ms1.getD i ((0:Addr),([]:List Int))).map (·.2)).Nodup:=((hpn.trans hpm1).map (·.2)).nodup_iff.mpr H.nd;refine h h' tk _ e _ (hpn.trans hpm1) hnd (fun h63=>?_) (fun b o e=>hk b o (fun hb=>?_) (Heap.get?_push_of_some _ (k1 b o e))) ?_ hg
  ·have hpl:p.toList.length=ms1.length:=by rw[hp.length_eq,List.length_range]
   rw[List.pairwise_iff_getElem];intro i j hi hj hij;rw[List.length_map]at hi hj;have h1:=hs (by omega) i j (Nat.le_of_lt hij) (by omega)
   have ei:p.getD i 0=p.toList[i]:=by simp at hi;simp[Array.getD,hi]
   have ej:p.getD j 0=p.toList[j]:=by simp at hj;simp[Array.getD,hj]
   have hne:=List.pairwise_iff_getElem.mp hnd i j (by simpa using hi) (by simpa using hj) hij
   simp only[List.getElem_map]at hne ⊢;rw[ei,ej]at h1
   cases hb:lexB (ms1.getD p.toList[i] (0,[])).2 (ms1.getD p.toList[j] (0,[])).2 with
   | true=>rfl
   | false=>exact absurd (lP _ _ hb h1) hne
  ·exact Nat.ne_of_lt (Heap.lt_size (k1 b o e)) hb
  ·exact le1
end
end ST
namespace L2
open PySem PySem.Spec PySem.W PyProof.Rows
structure vv (K:Frag) (C:Addr):Prop where
 ga:findIn K (.ref C) "__getattribute__"=some (some (.builtin "BaseException.__getattribute__"))
 gt:findIn K (.ref C) "__getattr__"=some none
 cl:findIn K (.ref C) "__class__"=some (some (.builtin "object.__class__"))
 be:mroIn K C (.type "BaseException")=some true
 ob:mroIn K C (.type "object")=some true
section
variable {prog:Program}{w:World}{A:Around}{E:Value->Shared->Prop}{K:Frag}{h:Heap}{g:Array GenState}{d:Drawn}{t:Nat}{os:OsState}{a C:Addr}{o:Obj}
end
end L2
namespace L2
open PySem PySem.Spec PySem.W PyProof.Rows
theorem eB.there {P:Program}{w:World}{H:Hp}{h:Heap}{a:Addr}:∀ {o:HO},eB P w H h a o->∃ ob,h.get? a=some ob:=by
 intro o x
 cases o with
 | lst xs=>obtain⟨_,_,_,_,e⟩:=x;exact⟨_,e⟩
 | tup xs=>obtain⟨_,_,_,ob,e,_⟩:=x;exact⟨_,e⟩
 | dK kvs=>obtain⟨_,_,_,_,o,_,_,e,_⟩:=x;exact⟨_,e⟩
 | dT kvs=>obtain⟨_,_,_,_,o,_,_,e,_⟩:=x;exact⟨_,e⟩
 | set S n=>obtain⟨o,_,_,_,e,_⟩:=x;exact⟨_,e⟩
 | ins C dx fs=>obtain⟨_,_,_,e,_⟩:=x;exact⟨_,e⟩
 | own y=>obtain⟨_,e⟩:=x;exact⟨_,e⟩
 | xd fs=>obtain⟨_,⟨_,_,_,e,_⟩,_⟩:=x;exact⟨_,e⟩
 | rng lo hi=>obtain⟨_,_,_,e⟩:=x;exact⟨_,e⟩
 | frz ob u=>obtain⟨e,_⟩:=x;exact⟨_,e⟩
 | tbl ps=>exact⟨_,(show h.get? a=some _ from x)⟩
 | met f y=>exact⟨_,(show h.get? a=some _ from x)⟩
 | ext φ=>obtain⟨_,⟨_,e⟩,_⟩:=x;exact⟨_,e⟩
def Qc (P:Program)(w:World):xy:=fun outer H s E e s'=>∃ (ea C:Addr) (B:Heap) (a0:Value) (H':Hp),e=.ref ea/\s'.os=s.os/\AllBare s'.gens/\Un (vn outer) [] H H' s.heap s'.heap/\g7 P w H' s'.heap/\H' ea=none ∧
 Heap.FlyingW B outer ea (.ref C) a0 s'.heap/\(∀ b o,s.heap.get? b=some o->b∉vn outer->H b=none->B.get? b=some o)/\(∀ b o ob,H' b=some o->s'.heap.get? b=some ob->B.get? b=some ob)/\(∀ b o,s.heap.get? b=some o->b∉vn outer->∃ ob,B.get? b=some ob)/\E (.ref C) none H'
def FG (X:Cx)(Ex:Addr->St->Hp->Prop):Prop:=∀ pins σ H s e s' E,aP X pins σ H s->Qc X.prog X.w X.stack H s E e s'->(∀ C H',E (.ref C) none H'->Ex C σ H')->X.xe e s'
section
variable {P:Program}{w:World}{K:Frag}{mg:Str->Option Value}{base:Heap}{N:List Str}{qual:Str}{scope:Scope}{f:Addr}{cdv:Value}{A:Around}{outer:List Env}{s:Shared}{H:Hp}{E:XK}
end
end L2
namespace L2
open PySem PySem.Spec PySem.W PyProof.Rows
abbrev Qu:List Value:=[.type "ValueError",.type "Exception",.type "BaseException",.type "object"]
structure O1 (K:Frag) (mg:Str->Option Value) (x:Str) (C:Addr):Prop where
 bound:mg x=some (.ref C)
 exc:excIn K C Qu "ValueError.__new__"=true
 cls:vv K C
section
variable {X:Cx}
end
end L2
namespace L2
open PySem PySem.Spec PySem.W PyProof.Rows
section
variable {M:Model}{A:Around}{E:Value->Shared->Prop}
end
section
variable {X:Cx}
end
end L2
namespace DL
open PySem L2
inductive T where
 | non|bl (b:Bool)|int (i:Int)|str (x:Str)|tup (xs:List T)|lst (xs:List T)|exc (x:Str)
inductive S where
 | t (x:T)|vt (x:T)|ol (xs:List T)
def ExcAt (H:Hp)(a c:Addr):Prop:=H a=some (.ext fun h=>∃ o,h.get? a=some o/\o.cls=.ref c)
mutual
def ay (K:PySem.W.Frag)(H:Hp):T->V->Prop
 | .non,v=>v=.non
 | .bl b,v=>v=.bl b
 | .int i,v=>v=.int i
 | .str x,v=>v=.str x
 | .tup ts,v=>∃ a xs,v=.ref a/\jH K H a xs/\ao K H ts xs
 | .lst ts,v=>∃ a xs,v=.ref a/\dR K H a xs/\ao K H ts xs
 | .exc x,v=>∃ a C,v=.ref a/\PySem.W.nsIn K mainGlobals x=some (some (.ref C))/\ExcAt H a C
def ao (K:PySem.W.Frag)(H:Hp):List T->List V->Prop
 | [],xs=>xs=[]
 | t::ts,xs=>∃ x r,xs=x::r/\ay K H t x/\ao K H ts r
end
mutual
def mL:T->Bool
 | .tup ts=>cG ts
 | .lst _=>false
 | _=>true
def cG:List T->Bool
 | []=>true
 | t::ts=>mL t && cG ts
end
mutual
theorem ay.mono {K:PySem.W.Frag}{H H':Hp}(h:∀ a xs,jH K H a xs->jH K H' a xs)(hl:∀ a xs,dR K H a xs->dR K H' a xs)(he:∀ a c,ExcAt H a c->ExcAt H' a c):∀ (t:T) (v:V),ay K H t v->ay K H' t v
 | .non,_,e=>e
 | .bl _,_,e=>e
 | .int _,_,e=>e
 | .str _,_,e=>e
 | .tup ts,_,⟨a,xs,e,q,r⟩=>⟨a,xs,e,h a xs q,ao.mono h hl he ts xs r⟩
 | .lst ts,_,⟨a,xs,e,q,r⟩=>⟨a,xs,e,hl a xs q,ao.mono h hl he ts xs r⟩
 | .exc c,_,⟨a,C,e,z,q⟩=>⟨a,C,e,z,he a C q⟩
theorem ao.mono {K:PySem.W.Frag}{H H':Hp}(h:∀ a xs,jH K H a xs->jH K H' a xs)(hl:∀ a xs,dR K H a xs->dR K H' a xs)(he:∀ a c,ExcAt H a c->ExcAt H' a c):∀ (ts:List T) (xs:List V),ao K H ts xs->ao K H' ts xs
 | [],_,e=>e
 | t::ts,_,⟨x,r,e,p,q⟩=>⟨x,r,e,ay.mono h hl he t x p,ao.mono h hl he ts r q⟩
end
theorem aM.sqT {K:PySem.W.Frag}{H H':Hp}(e:aM H H')(a:Addr)(xs:List V)(h:jH K H a xs):jH K H' a xs:=by
 rcases h with (h|⟨o,h⟩)|h
 ·exact .inl (.inl (e _ _ h))
 ·exact .inl (.inr ⟨o,e _ _ h⟩)
 ·exact .inr h
theorem ay.same {K:PySem.W.Frag}{H H':Hp}(e:aM H H'){t:T}{v:V}(h:ay K H t v):ay K H' t v:=ay.mono (fun a xs q=>aM.sqT e a xs q) (fun a xs q=>e.seq q) (fun a c q=>e _ _ q) t v h
theorem ao.same {K:PySem.W.Frag}{H H':Hp}(e:aM H H'){ts:List T}{xs:List V}(h:ao K H ts xs):ao K H' ts xs:=ao.mono (fun a xs q=>aM.sqT e a xs q) (fun a xs q=>e.seq q) (fun a c q=>e _ _ q) ts xs h
def gv (F H:Hp):Prop:=∀ b o,H b=some o->F b=some o\/∃ xs,o=.lst xs
theorem gv.sqT {K:PySem.W.Frag}{F H:Hp}(f:gv F H)(a:Addr)(xs:List V)(h:jH K H a xs):jH K F a xs:=by
 rcases h with (h|⟨o,h⟩)|h
 ·rcases f _ _ h with q|⟨ys,q⟩
  ·exact .inl (.inl q)
  ·cases q
 ·rcases f _ _ h with q|⟨ys,q⟩
  ·exact .inl (.inr ⟨o,q⟩)
  ·cases q
 ·exact .inr h
theorem gv.exc {F H:Hp}(f:gv F H){a c:Addr}(h:ExcAt H a c):ExcAt F a c:=by
 rcases f _ _ h with q|⟨ys,q⟩
 ·exact q
 ·cases q
mutual
theorem ay.fullM {K:PySem.W.Frag}{F H:Hp}(e:gv F H):∀ (t:T) (v:V),mL t=true->ay K H t v->ay K F t v
 | .non,_,_,h=>h
 | .bl _,_,_,h=>h
 | .int _,_,_,h=>h
 | .str _,_,_,h=>h
 | .tup ts,_,p,⟨a,xs,h1,h2,h3⟩=>⟨a,xs,h1,e.sqT a xs h2,ao.fullM e ts xs (by simpa only [mL] using p) h3⟩
 | .lst _,_,p,_=>by simp[mL]at p
 | .exc _,_,_,⟨a,C,h1,z,h2⟩=>⟨a,C,h1,z,e.exc h2⟩
theorem ao.fullM {K:PySem.W.Frag}{F H:Hp}(e:gv F H):∀ (ts:List T) (xs:List V),cG ts=true->ao K H ts xs->ao K F ts xs
 | [],_,_,h=>h
 | t::ts,_,p,⟨x,r,h1,h2,h3⟩=>by
  simp only[cG,Bool.and_eq_true]at p;exact⟨x,r,h1,ay.fullM e t x p.1 h2,ao.fullM e ts r p.2 h3⟩
end
theorem ay.full {K:PySem.W.Frag}{F H:Hp}(e:gv F H){t:T}{v:V}(p:mL t=true)(h:ay K H t v):ay K F t v:=ay.fullM e t v p h
theorem ao.full {K:PySem.W.Frag}{F H:Hp}(e:gv F H){ts:List T}{xs:List V}(p:cG ts=true)(h:ao K H ts xs):ao K F ts xs:=ao.fullM e ts xs p h
def norm (x:T):S:=if mL x=true then .t x else .vt x
theorem ao.length {K:PySem.W.Frag}{H:Hp}:∀ {ts:List T}{xs:List V},ao K H ts xs->xs.length=ts.length
 | [],_,e=>by cases (show _=[] from e);rfl
 | t::ts,_,⟨x,r,e,_,q⟩=>by subst e;rw[List.length_cons,List.length_cons,ao.length q]
theorem ao.get {K:PySem.W.Frag}{H:Hp}:∀ {ts:List T}{xs:List V}{i:Nat}{t:T},ao K H ts xs->ts[i]?=some t->∃ x,xs[i]?=some x/\ay K H t x
 | [],_,_,_,_,e=>by simp at e
 | t::ts,_,0,u,⟨x,r,e,p,q⟩,h=>by subst e;simp at h;subst h;exact⟨x,by simp,p⟩
 | t::ts,_,i+1,u,⟨x,r,e,p,q⟩,h=>by
  subst e;obtain⟨y,h1,h2⟩:=ao.get (i:=i) q (by simpa using h)
  exact⟨y,by simpa using h1,h2⟩
theorem ao.append {K:PySem.W.Frag}{H:Hp}:∀ {ts us:List T}{xs ys:List V},ao K H ts xs->ao K H us ys->ao K H (ts++us) (xs++ys)
 | [],_,_,_,e,q=>by cases (show _=[] from e);exact q
 | t::ts,_,_,_,⟨x,r,e,p,q⟩,h=>by subst e;exact⟨x,r++_,rfl,p,ao.append q h⟩
theorem ao.one {K:PySem.W.Frag}{H:Hp}{t:T}{x:V}(h:ay K H t x):ao K H [t] [x]:=⟨x,[],rfl,h,rfl⟩
theorem ao.take {K:PySem.W.Frag}{H:Hp}:∀ {ts:List T}{xs:List V} (n:Nat),ao K H ts xs->ao K H (ts.take n) (xs.take n)
 | _,_,0,_=>by simp only[List.take_zero];rfl
 | [],_,_+1,e=>by cases (show _=[] from e);rfl
 | t::ts,_,n+1,⟨x,r,e,p,q⟩=>by subst e;exact⟨x,r.take n,rfl,p,ao.take n q⟩
theorem ao.drop {K:PySem.W.Frag}{H:Hp}:∀ {ts:List T}{xs:List V} (n:Nat),ao K H ts xs->ao K H (ts.drop n) (xs.drop n)
 | _,_,0,h=>by simp only[List.drop_zero];exact h
 | [],_,_+1,e=>by cases (show _=[] from e);rfl
 | t::ts,_,n+1,⟨x,r,e,p,q⟩=>by subst e;exact ao.drop n q
theorem ao.set {K:PySem.W.Frag}{H:Hp}{u:T}{y:V}(h:ay K H u y):∀ {ts:List T}{xs:List V} (n:Nat),ao K H ts xs->ao K H (ts.set n u) (xs.set n y)
 | [],_,_,e=>by cases (show _=[] from e);rfl
 | t::ts,_,0,⟨x,r,e,p,q⟩=>by subst e;exact⟨y,r,rfl,h,q⟩
 | t::ts,_,n+1,⟨x,r,e,p,q⟩=>by subst e;exact⟨x,r.set n y,rfl,p,ao.set h n q⟩
theorem ao.dropLast {K:PySem.W.Frag}{H:Hp}{ts:List T}{xs:List V}(h:ao K H ts xs):ao K H ts.dropLast xs.dropLast:=by
 rw[List.dropLast_eq_take,List.dropLast_eq_take,h.length];exact h.take _
theorem ao.reverse {K:PySem.W.Frag}{H:Hp}:∀ {ts:List T}{xs:List V},ao K H ts xs->ao K H ts.reverse xs.reverse
 | [],_,e=>by cases (show _=[] from e);rfl
 | t::ts,_,⟨x,r,e,p,q⟩=>by subst e;rw[List.reverse_cons,List.reverse_cons];exact ao.append (ao.reverse q) (ao.one p)
theorem ao.ints {K:PySem.W.Frag}{H:Hp}:∀ (ns:List Int),ao K H (ns.map T.int) (ns.map V.int)
 | []=>rfl
 | n::ns=>⟨.int n,ns.map V.int,rfl,rfl,ao.ints ns⟩
abbrev aT:=List (Option S)
abbrev WE:=aT->(S->Prop)->Prop
abbrev WT:=aT->(Bool->Prop)->Prop
abbrev WA:=aT->(List S->Prop)->Prop
structure gu where
 nx:aT->Prop
 rt:S->Prop
 bk:aT->Prop:=fun _=>False
 ct:aT->Prop:=fun _=>False
abbrev WS:=gu->aT->Prop
def g8 (K:PySem.W.Frag)(F H:Hp):S->V->Prop
 | .t x,v=>ay K F x v
 | .vt _,_=>False
 | .ol ts,v=>∃ a xs,v=.ref a/\F a=none/\H a=some (.lst xs)/\ao K F ts xs
structure Rel (K:PySem.W.Frag) (F H:Hp) (σ:St) (δ:aT):Prop where
 sub:aM F H
 full:gv F H
 len:σ.length=δ.length
 slot:∀ (i:Nat) (s:S),δ[i]?=some (some s)->∃ v,σ[i]?=some (some v)/\g8 K F H s v
 dist:∀ (i j:Nat) (a:Addr) (ts us:List T),i≠j->δ[i]?=some (some (.ol ts))->δ[j]?=some (some (.ol us))->σ[i]?=some (some (.ref a))->σ[j]?≠some (some (.ref a))
structure dh (F H F' H':Hp):Prop where
 hh:aM H H'
 ff:aM F F'
 sub:aM F' H'
 full:gv F' H'
 keep:∀ b,H b≠none->F b=none->F' b=none
theorem aK {H H':Hp}(e:aM H H'){b:Addr}(h:H' b=none):H b=none:=e.free h
theorem dh.refl {F H:Hp}(a:aM F H)(b:gv F H):dh F H F H:=⟨aM.refl _,aM.refl _,a,b,fun _ _ h=>h⟩
theorem dh.trans {F H F1 H1 F2 H2:Hp}(a:dh F H F1 H1)(b:dh F1 H1 F2 H2):dh F H F2 H2:=
 ⟨a.hh.trans b.hh,a.ff.trans b.ff,b.sub,b.full,fun c h1 h2=>b.keep c (fun z=>h1 (aK a.hh z)) (a.keep c h1 h2)⟩
theorem g8.ext {K:PySem.W.Frag}{F H F' H':Hp}(e:dh F H F' H'):∀ {s:S}{v:V},g8 K F H s v->g8 K F' H' s v
 | .t _,_,h=>ay.same e.ff h
 | .vt _,_,h=>h
 | .ol _,_,⟨a,xs,h1,h2,h3,h4⟩=>⟨a,xs,h1,e.keep a (by rw[h3];simp) h2,e.hh _ _ h3,ao.same e.ff h4⟩
theorem Rel.ext {K:PySem.W.Frag}{F H F' H':Hp}{σ:St}{δ:aT}(r:Rel K F H σ δ)(e:dh F H F' H'):Rel K F' H' σ δ:=
 ⟨e.sub,e.full,r.len,fun i s h=>let ⟨v,h1,h2⟩:=r.slot i s h;⟨v,h1,h2.ext e⟩,r.dist⟩
theorem Rel.refl {K:PySem.W.Frag}{F H:Hp}{σ:St}{δ:aT}(r:Rel K F H σ δ):dh F H F H:=dh.refl r.sub r.full
def dA (K:PySem.W.Frag)(H F' H':Hp):S->V->Prop
 | .t x,v=>ay K F' x v
 | .vt x,v=>ay K H' x v
 | .ol ts,v=>∃ a xs,v=.ref a/\H a=none/\F' a=none/\H' a=some (.lst xs)/\ao K F' ts xs
theorem dA.ext {K:PySem.W.Frag}{H F1 H1 F2 H2:Hp}(e:dh F1 H1 F2 H2):∀ {s:S}{v:V},dA K H F1 H1 s v->dA K H F2 H2 s v
 | .t _,_,h=>ay.same e.ff h
 | .vt _,_,h=>ay.same e.hh h
 | .ol _,_,⟨a,xs,h1,h2,h3,h4⟩=>⟨a,xs,h1,h2,e.keep a (by rw[h4.1];simp) h3,e.hh _ _ h4.1,ao.same e.ff h4.2⟩
theorem dA.start {K:PySem.W.Frag}{H0 H F' H':Hp}(e:aM H0 H):∀ {s:S}{v:V},dA K H F' H' s v->dA K H0 F' H' s v
 | .t _,_,h=>h
 | .vt _,_,h=>h
 | .ol _,_,⟨a,xs,h1,h2,h3⟩=>⟨a,xs,h1,aK e h2,h3⟩
theorem dA.norm {K:PySem.W.Frag}{H F H':Hp}(f:gv F H'){x:T}{v:V}(h:ay K H' x v):dA K H F H' (norm x) v:=by
 unfold DL.norm
 split
 ·rename_i p;exact ay.full f p h
 ·exact h
def gz (K:PySem.W.Frag)(F H:Hp):S->V->Prop
 | .t x,v=>ay K F x v
 | .vt x,v=>ay K H x v
 | .ol ts,v=>∃ a xs,v=.ref a/\dR K H a xs/\ao K F ts xs
theorem dA.val {K:PySem.W.Frag}{H0 F H:Hp}(e:aM F H):∀ {s:S}{v:V},dA K H0 F H s v->gz K F H s v
 | .t _,_,h=>h
 | .vt _,_,h=>h
 | .ol _,_,⟨a,xs,h1,_,_,h2,h3⟩=>⟨a,xs,h1,dR.of h2,h3⟩
def tr:S->T
 | .t x=>x
 | .vt x=>x
 | .ol ts=>.lst ts
theorem gz.tree {K:PySem.W.Frag}{F H:Hp}(e:aM F H):∀ {s:S}{v:V},gz K F H s v->ay K H (tr s) v
 | .t _,_,h=>ay.same e h
 | .vt _,_,h=>h
 | .ol _,_,⟨a,xs,h1,h2,h3⟩=>⟨a,xs,h1,h2,ao.same e h3⟩
def items:S->Option (List T)
 | .t (.lst ts)=>some ts
 | .vt (.lst ts)=>some ts
 | .ol ts=>some ts
 | _=>none
theorem gz.list {K:PySem.W.Frag}{F H:Hp}(e:aM F H){s:S}{v:V}{ts:List T}(h:gz K F H s v)(q:items s=some ts):∃ a xs,v=.ref a/\dR K H a xs/\ao K H ts xs:=by
 cases s with
 | t x=>
  cases x with
  | lst us=>
   have e1:us=ts:=Option.some.inj q;subst e1;unfold gz ay at h;obtain⟨a,xs,h1,h2,h3⟩:=h;exact⟨a,xs,h1,e.seq h2,ao.same e h3⟩
  | _=>cases q
 | vt x=>
  cases x with
  | lst us=>
   have e1:us=ts:=Option.some.inj q;subst e1;unfold gz ay at h;exact h
  | _=>cases q
 | ol us=>
  have e1:us=ts:=Option.some.inj q;subst e1;unfold gz at h;obtain⟨a,xs,h1,h2,h3⟩:=h;exact⟨a,xs,h1,h2,ao.same e h3⟩
def au (K:PySem.W.Frag)(w:WE):TE:=fun σ H Q=>∃ δ R F,Rel K F H σ δ/\w δ R/\∀ v F' H' s,dh F H F' H'->dA K H F' H' s v->R s->Q v H'
def liftT (K:PySem.W.Frag)(w:WT):TT:=fun σ H Q=>∃ δ R F,Rel K F H σ δ/\w δ R/\∀ F' H' b,dh F H F' H'->R b->Q b H'
def fQ (K:PySem.W.Frag)(H F' H':Hp):List S->List V->Prop
 | [],vs=>vs=[]
 | s::ss,vs=>∃ v r,vs=v::r/\dA K H F' H' s v/\fQ K H F' H' ss r
theorem fQ.start {K:PySem.W.Frag}{H0 H F' H':Hp}(e:aM H0 H):∀ {ss:List S}{vs:List V},fQ K H F' H' ss vs->fQ K H0 F' H' ss vs
 | [],_,h=>h
 | _::_,_,⟨v,r,h1,h2,h3⟩=>⟨v,r,h1,h2.start e,fQ.start e h3⟩
def dD (K:PySem.W.Frag)(w:WA):TA:=fun σ H Q=>∃ δ R F,Rel K F H σ δ/\w δ R/\∀ vs F' H' ss,dh F H F' H'->fQ K H F' H' ss vs->R ss->Q vs H'
def Bb (K:PySem.W.Frag)(H₀ H':Hp):S->V->Prop
 | .t x,v=>ay K H' x v
 | .vt _,_=>False
 | .ol ts,v=>∃ a xs,v=.ref a/\H₀ a=none/\H' a=some (.lst xs)/\ao K H' ts xs
structure qA (K:PySem.W.Frag) (H₀ F:Hp) (D':gu) (D:Ends):Prop where
 nx:∀ σ' F' H' δ',aM F F'->Rel K F' H' σ' δ'->D'.nx δ'->D.nx σ' H'
 rt:∀ v H' s,aM H₀ H'->Bb K H₀ H' s v->D'.rt s->D.rt v H'
 bk:∀ σ' F' H' δ',aM F F'->Rel K F' H' σ' δ'->D'.bk δ'->D.bk σ' H'
 ct:∀ σ' F' H' δ',aM F F'->Rel K F' H' σ' δ'->D'.ct δ'->D.ct σ' H'
theorem qA.mono {K:PySem.W.Frag}{H₀ F F1:Hp}{D':gu}{D:Ends}(e:qA K H₀ F D' D)(s:aM F F1):qA K H₀ F1 D' D:=
 ⟨fun _ _ _ _ h=>e.nx _ _ _ _ (s.trans h),e.rt,fun _ _ _ _ h=>e.bk _ _ _ _ (s.trans h),fun _ _ _ _ h=>e.ct _ _ _ _ (s.trans h)⟩
def bO (K:PySem.W.Frag)(H₀:Hp)(w:WS):TS:=fun D σ H=>∃ δ D' F,aM H₀ F/\Rel K F H σ δ/\w D' δ/\qA K H₀ F D' D
end DL
namespace L2
open PySem
section
variable {X:Cx}{e:Expr}{t t':TE}
theorem PE.imp (h:PE X e t)(i:∀ σ H Q,t' σ H Q->t σ H Q):PE X e t':=fun pins s σ H Q I q=>h pins s σ H Q I (i σ H Q q)
theorem PT.imp {t t':TT}(h:PT X e t)(i:∀ σ H Q,t' σ H Q->t σ H Q):PT X e t':=fun pins s σ H Q I q=>h pins s σ H Q I (i σ H Q q)
theorem PW.imp {t t':TT}(h:PW X e t)(i:∀ σ H Q,t' σ H Q->t σ H Q):PW X e t':=fun wh pins s σ H Q I q=>h wh pins s σ H Q I (i σ H Q q)
theorem PA.imp {es:List Expr}{t t':TA}(h:PA X es t)(i:∀ σ H Q,t' σ H Q->t σ H Q):PA X es t':=fun pos pins s σ H Q I q=>h pos pins s σ H Q I (i σ H Q q)
theorem PS.imp {st:Stmt}{t t':TS}(h:PS X st t)(i:∀ D σ H,t' D σ H->t D σ H):PS X st t':=fun pins s σ H D I q=>h pins s σ H D I (i D σ H q)
theorem j8.imp {st:List Stmt}{t t':TS}(h:j8 X st t)(i:∀ D σ H,t' D σ H->t D σ H):j8 X st t':=fun pins s σ H D I q=>h pins s σ H D I (i D σ H q)
theorem PG.imp {tg:Expr}{t t':TG}(h:PG X tg t)(i:∀ v σ H Q,t' v σ H Q->t v σ H Q):PG X tg t':=fun pins s σ H v u Q I r q=>h pins s σ H v u Q I r (i v σ H Q q)
theorem A9.imp {tg:List Expr}{t t':FI}(h:A9 X tg t)(i:∀ v σ H Q,t' v σ H Q->t v σ H Q):A9 X tg t':=fun pins s σ H v u Q I r q=>h pins s σ H v u Q I r (i v σ H Q q)
theorem PI.imp {tg iter:Expr}{t t':TI}(h:PI X tg iter t)(i:∀ σ H Q,t' σ H Q->t σ H Q):PI X tg iter t':=fun pins s σ H R I q=>h pins s σ H R I (i σ H R q)
end
end L2
namespace DL
open PySem L2
def wC (x:T):WE:=fun _ R=>R (.t x)
def seen:S->S
 | .ol ts=>.vt (.lst ts)
 | .t x=>.t x
 | .vt x=>.vt x
def ae (i:Nat):WE:=fun δ R=>match δ[i]? with
 | some (some s)=>R (seen s)
 | _=>False
section
variable {X:Cx}{a b c:Expr}{wa wb wc:WE}{pos:Pos}
theorem ab {i j pos}:PE X (.Constant (.int i) j pos) (au X.K (wC (.int i))):=Lp.imp fun _ _ _ ⟨_,_,_,r,h,k⟩=>k _ _ _ (.t (.int i)) r.refl rfl h
theorem eY {i j pos}:PE X (.Constant (.bool i) j pos) (au X.K (wC (.bl i))):=N0.imp fun _ _ _ ⟨_,_,_,r,h,k⟩=>k _ _ _ (.t (.bl i)) r.refl rfl h
theorem Idq {K:PySem.W.Frag}{F H:Hp}(e:aM F H):∀ {s:S}{v:V},g8 K F H s v->dA K H F H (seen s) v
 | .t _,_,h=>h
 | .vt _,_,h=>False.elim h
 | .ol _,_,⟨a,xs,h1,_,h3,h4⟩=>⟨a,xs,h1,dR.of h3,ao.same e h4⟩
theorem zO {e:Expr}{i:Nat}(h:PE X e (va i)):PE X e (au X.K (ae i)):=h.imp fun σ H Q ⟨δ,R,F,r,h,k⟩=>by
 unfold ae at h
 split at h
 ·rename_i s hs;obtain⟨v,h1,h2⟩:=r.slot i s hs;exact⟨v,h1,k _ _ _ _ r.refl (Idq r.sub h2) h⟩
 ·exact h.elim
theorem dv (i:Nat) {x:Str}{pos:Pos} (hN:X.N[i]?=some x:=by rfl) (hv:OL X.env.scope x:=by first | exact Or.inl rfl | exact Or.inr (Or.inl rfl) | exact Or.inr (Or.inr rfl)) (hd:(x == ("__debug__":Str))=false:=by decide)
  (hcd:(x == ("__classdict__":Str))=false:=by decide):PE X (.Name x pos) (au X.K (ae i)):=zO (EN hN hv hd hcd)
def am (f:S->S->(S->Prop)->Prop)(wa wb:WE):WE:=fun δ R=>wa δ fun x=>wb δ fun y=>f x y R
def Fw (K:PySem.W.Frag)(r:R2)(f:S->S->(S->Prop)->Prop):Prop:=
 ∀ F H s1 s2 v1 v2 R Q,aM F H->gv F H->gz K F H s1 v1->gz K F H s2 v2->f s1 s2 R->(∀ v F' H' s,dh F H F' H'->dA K H F' H' s v->R s->Q v H')->r v1 v2 H Q
theorem cb {K:PySem.W.Frag}{r:R2}{f:S->S->(S->Prop)->Prop}(ho:Fw K r f):∀ σ H Q,au K (am f wa wb) σ H Q->Om r (au K wa) (au K wb) σ H Q:=by
 rintro σ H Q ⟨δ,R,F,rl,h,k⟩;refine⟨δ,_,F,rl,h,fun v1 F1 H1 s1 e1 p1 h1=>?_⟩;refine⟨δ,_,F1,rl.ext e1,h1,fun v2 F2 H2 s2 e2 p2 h2=>?_⟩;refine ho F2 H2 s1 s2 v1 v2 R Q e2.sub e2.full ((p1.ext e2).val e2.sub) (p2.val e2.sub) h2 fun v F' H' s e p q=>?_;exact k v F' H' s ((e1.trans e2).trans e) (p.start (e1.trans e2).hh) q
def fI (C:Int->Int->Prop)(g:Int->Int->T):S->S->(S->Prop)->Prop
 | .t (.int i),.t (.int j),R=>C i j/\R (.t (g i j))
 | _,_,_=>False
def GB (g:Int->Int->T):S->S->(S->Prop)->Prop
 | .t (.int i),.t (.int j),R=>R (.t (g i j))
 | _,_,_=>False
theorem GC {C:Int->Int->Prop}{g:Int->Int->T}:∀ {s1 s2:S}{R:S->Prop},fI C g s1 s2 R->∃ i j,s1=.t (.int i)/\s2=.t (.int j)/\C i j/\R (.t (g i j))
 | .t (.int i),.t (.int j),_,h=>⟨i,j,rfl,rfl,h.1,h.2⟩
theorem CZ {g:Int->Int->T}:∀ {s1 s2:S}{R:S->Prop},GB g s1 s2 R->∃ i j,s1=.t (.int i)/\s2=.t (.int j)/\R (.t (g i j))
 | .t (.int i),.t (.int j),_,h=>⟨i,j,rfl,rfl,h⟩
def toV:T->V
 | .bl b=>.bl b
 | .int i=>.int i
 | .str x=>.str x
 | _=>.non
def flat:T->Bool
 | .tup _=>false
 | .lst _=>false
 | .exc _=>false
 | _=>true
theorem t7 {K:PySem.W.Frag}{F:Hp}:∀ {x:T},flat x=true->ay K F x (toV x)
 | .non,_=>rfl
 | .bl _,_=>rfl
 | .int _,_=>rfl
 | .str _,_=>rfl
theorem yv {K:PySem.W.Frag}{C:Int->Int->Prop}{g:Int->Int->T}(hg:∀ i j,flat (g i j)=true):Fw K (rI C fun i j=>toV (g i j)) (fI C g):=by
 intro F H s1 s2 v1 v2 R Q sb fu p1 p2 h k;obtain⟨i,j,rfl,rfl,hc,hr⟩:=GC h;exact⟨i,j,p1,p2,hc,k _ F H (.t (g i j)) (dh.refl sb fu) (t7 (hg i j)) hr⟩
theorem ja {K:PySem.W.Frag}{g:Int->Int->T}(hg:∀ i j,flat (g i j)=true):Fw K (HV fun i j=>toV (g i j)) (GB g):=by
 intro F H s1 s2 v1 v2 R Q sb fu p1 p2 h k;obtain⟨i,j,rfl,rfl,hr⟩:=CZ h;exact⟨i,j,p1,p2,k _ F H (.t (g i j)) (dh.refl sb fu) (t7 (hg i j)) hr⟩
abbrev cV:=am (GB fun i j=>.int (i+j))
abbrev cN:=am (GB fun i j=>.int (i-j))
structure MulOk (i j:Int):Prop where
 ok:IntMulOk i j
structure Ba (i j:Int):Prop where
 ok:Mr i j
abbrev bj:=am (fI MulOk fun i j=>.int (i*j))
structure lY (i j:Int):Prop where
 ne:j≠0
 short:Builtin.divisionGoesByPylong i j=false
abbrev c9:=am (fI lY fun i j=>.int (i.fdiv j))
abbrev dM:=am (fI (fun _ j=>j≠0) fun i j=>.int (i.fmod j))
abbrev sY:=am (fI Ba fun i j=>.int (i ^ j.toNat))
theorem Hm:ly X (binaryOp .Mult) (rI MulOk fun i j=>.int (i*j)):=OQ fun _ _ _ _ _ _ _ hc q=>PyProof.Rows.mul_int q hc.ok
theorem EK:ly X (binaryOp .FloorDiv) (rI lY fun i j=>.int (i.fdiv j)):=OQ fun _ _ _ _ _ _ _ hc q=>PyProof.Rows.floordiv_int hc.ne q (.inl hc.short)
theorem a8 (ha:PE X a (au X.K wa))(hb:PE X b (au X.K wb)):PE X (.BinOp a .Add b pos) (au X.K (cV wa wb)):=(nY Lc ha hb).imp (cb (ja fun _ _=>rfl))
theorem a6 (ha:PE X a (au X.K wa))(hb:PE X b (au X.K wb)):PE X (.BinOp a .Sub b pos) (au X.K (cN wa wb)):=(nY Lh ha hb).imp (cb (ja fun _ _=>rfl))
theorem az (ha:PE X a (au X.K wa))(hb:PE X b (au X.K wb)):PE X (.BinOp a .Mult b pos) (au X.K (bj wa wb)):=(nY Hm ha hb).imp (cb (yv fun _ _=>rfl))
theorem bI (ha:PE X a (au X.K wa))(hb:PE X b (au X.K wb)):PE X (.BinOp a .FloorDiv b pos) (au X.K (c9 wa wb)):=(nY EK ha hb).imp (cb (yv fun _ _=>rfl))
theorem bF (ha:PE X a (au X.K wa))(hb:PE X b (au X.K wb)):PE X (.BinOp a .Mod b pos) (au X.K (dM wa wb)):=(nY Hl ha hb).imp (cb (yv fun _ _=>rfl))
theorem jU (ha:PE X a (au X.K wa))(hb:PE X b (au X.K wb)):PE X (.BinOp a .Pow b pos) (au X.K (sY wa wb)):=(nY (show ly X (binaryOp .Pow) (rI Ba fun i j=>.int (i ^ j.toNat)) from fun pins s σ H x y v u Q I rx ry ⟨i,j,e1,e2,hc,q⟩=>Lg pins s σ H x y v u Q I rx ry ⟨i,j,e1,e2,hc.ok,q⟩) ha hb).imp (cb (yv fun _ _=>rfl))
abbrev ve:=am (GB fun i j=>.bl (decide (i<j)))
abbrev Qb:=am (GB fun i j=>.bl (decide (i<=j)))
abbrev AR:=am (GB fun i j=>.bl (decide (j<i)))
abbrev Me:=am (GB fun i j=>.bl (decide (j<=i)))
theorem BK (ha:PE X a (au X.K wa))(hb:PE X b (au X.K wb)):PE X (.Compare a [.Lt] [b] pos) (au X.K (ve wa wb)):=(mJ IQ ha hb (iy _)).imp (cb (ja fun _ _=>rfl))
theorem Ni (ha:PE X a (au X.K wa))(hb:PE X b (au X.K wb)):PE X (.Compare a [.GtE] [b] pos) (au X.K (Me wa wb)):=(mJ IP ha hb (iy _)).imp (cb (ja fun _ _=>rfl))
def wB (w:WE):WT:=fun δ R=>w δ fun s=>match s with
 | .t (.bl k)=>R k
 | _=>False
theorem jV {op:CmpOp}{r:R2}{f:S->S->(S->Prop)->Prop}(ho:ly X (compareOp op) r)(hf:Fw X.K r f)(ha:PE X a (au X.K wa))(hb:PE X b (au X.K wb))(hm:behindInMarks op b=false):PT X (.Compare a [op] [b] pos) (liftT X.K (wB (am f wa wb))):=
 (HC ho ha hb hm).imp fun σ H Q h=>by
  obtain⟨δ,R,F,rl,h,k⟩:=h;refine cb hf σ H _ ⟨δ,_,F,rl,h,fun v F1 H1 s e p q=>?_⟩
  split at q
  ·exact⟨_,p,k F1 H1 _ e q⟩
  ·exact q.elim
theorem iI (ha:PE X a (au X.K wa))(hb:PE X b (au X.K wb)):PT X (.Compare a [.Lt] [b] pos) (liftT X.K (wB (ve wa wb))):=jV IQ (ja fun _ _=>rfl) ha hb (iy _)
theorem IA (ha:PE X a (au X.K wa))(hb:PE X b (au X.K wb)):PT X (.Compare a [.LtE] [b] pos) (liftT X.K (wB (Qb wa wb))):=jV NV (ja fun _ _=>rfl) ha hb (iy _)
theorem iH (ha:PE X a (au X.K wa))(hb:PE X b (au X.K wb)):PT X (.Compare a [.Gt] [b] pos) (liftT X.K (wB (AR wa wb))):=jV NU (ja fun _ _=>rfl) ha hb (iy _)
theorem BR (ha:PE X a (au X.K wa))(hb:PE X b (au X.K wb)):PT X (.Compare a [.GtE] [b] pos) (liftT X.K (wB (Me wa wb))):=jV IP (ja fun _ _=>rfl) ha hb (iy _)
theorem ft {e:Expr}{w:WE}(h:PE X e (au X.K w))(he:∀ whole,isTrue e X.env whole=(do let v ← whole;standAt e.pos;holding [v] (truthy v)):=by intro _;rfl):PT X e (liftT X.K (wB w)):=
 (LF h he).imp fun σ H Q h=>by
  obtain⟨δ,R,F,rl,h,k⟩:=h;refine⟨δ,_,F,rl,h,fun v F1 H1 s e p q=>?_⟩
  split at q
  ·exact⟨_,p,k F1 H1 _ e q⟩
  ·exact q.elim
def ji (t u:WT):WT:=fun δ R=>t δ fun k=>if k=true then u δ R else R false
def vg (t u:WT):WT:=fun δ R=>t δ fun k=>if k=true then R true else u δ R
def jO (t:WT):WT:=fun δ R=>t δ fun k=>R (!k)
theorem e6 {t:WT}(ha:PT X a (liftT X.K t)):PW X (.BoolOp .And [a] pos) (liftT X.K t):=HP ha
theorem qZ {t:WT}(ha:PT X a (liftT X.K t)):PW X (.BoolOp .Or [a] pos) (liftT X.K t):=LI ha
theorem ie {rest:List Expr}{t u:WT}(ha:PT X a (liftT X.K t))(hb:PW X (.BoolOp .And (b::rest) pos) (liftT X.K u)):PW X (.BoolOp .And (a::b::rest) pos) (liftT X.K (ji t u)):=
 (LH ha hb).imp fun σ H Q ⟨δ,R,F,rl,h,k⟩=>⟨δ,_,F,rl,h,fun F1 H1 c e q=>by
  cases c with
  | true=>exact⟨δ,R,F1,rl.ext e,by simpa using q,fun F2 H2 c e2 q=>k F2 H2 c (e.trans e2) q⟩
  | false=>exact k F1 H1 false e (by simpa using q)⟩
theorem pU {rest:List Expr}{t u:WT}(ha:PT X a (liftT X.K t))(hb:PW X (.BoolOp .Or (b::rest) pos) (liftT X.K u)):PW X (.BoolOp .Or (a::b::rest) pos) (liftT X.K (vg t u)):=
 (N7 ha hb).imp fun σ H Q ⟨δ,R,F,rl,h,k⟩=>⟨δ,_,F,rl,h,fun F1 H1 c e q=>by
  cases c with
  | false=>exact⟨δ,R,F1,rl.ext e,by simpa using q,fun F2 H2 c e2 q=>k F2 H2 c (e.trans e2) q⟩
  | true=>exact k F1 H1 true e (by simpa using q)⟩
theorem iW {t:WT}(ha:PT X a (liftT X.K t)):PT X (.UnaryOp .Not a pos) (liftT X.K (jO t)):=
 (LD ha).imp fun σ H Q ⟨δ,R,F,rl,h,k⟩=>⟨δ,_,F,rl,h,fun F1 H1 c e q=>k F1 H1 (!c) e q⟩
def yS (t:WT):WT:=fun δ R=>∃ P:Bool->Prop,t δ P/\∀ k,P k->R k
theorem lH {t:WT}(ha:PT X a (liftT X.K t)):PT X a (liftT X.K (yS t)):=ha.imp fun σ H Q ⟨δ,R,F,rl,⟨P,h,k1⟩,k⟩=>⟨δ,P,F,rl,h,fun F1 H1 c e q=>k F1 H1 c e (k1 c q)⟩
def yQ (wa wb:WE):WE:=fun δ R=>wa δ fun s=>match s with
 | .t (.bl k)=>if k=true then wb δ R else R (.t (.bl false))
 | _=>False
def Mf (wa wb:WE):WE:=fun δ R=>wa δ fun s=>match s with
 | .t (.bl k)=>if k=true then R (.t (.bl true)) else wb δ R
 | _=>False
def vf (wa:WE):WE:=fun δ R=>wa δ fun s=>match s with
 | .t (.bl k)=>R (.t (.bl (!k)))
 | _=>False
def P9 (c:WT)(wa wb:WE):WE:=fun δ R=>c δ fun k=>if k=true then wa δ R else wb δ R
theorem v7 {op}(h:PE X a (au X.K wa)):PE X (.BoolOp op [a] pos) (au X.K wa):=Ls h
theorem BJ {rest:List Expr}(ha:PE X a (au X.K wa))(hb:PE X (.BoolOp .And (b::rest) pos) (au X.K wb)):PE X (.BoolOp .And (a::b::rest) pos) (au X.K (yQ wa wb)):=
 (Ln ha hb).imp fun σ H Q ⟨δ,R,F,rl,h,k⟩=>⟨δ,_,F,rl,h,fun v F1 H1 s e p q=>by
  split at q
  ·rename_i c;refine⟨c,p,?_⟩
   cases c with
   | true=>exact⟨δ,R,F1,rl.ext e,by simpa using q,fun v F2 H2 s e2 p q=>k v F2 H2 s (e.trans e2) (p.start e.hh) q⟩
   | false=>exact k _ F1 H1 (.t (.bl false)) e rfl (by simpa using q)
  ·exact q.elim⟩
theorem Nk {rest:List Expr}(ha:PE X a (au X.K wa))(hb:PE X (.BoolOp .Or (b::rest) pos) (au X.K wb)):PE X (.BoolOp .Or (a::b::rest) pos) (au X.K (Mf wa wb)):=
 (N2 ha hb).imp fun σ H Q ⟨δ,R,F,rl,h,k⟩=>⟨δ,_,F,rl,h,fun v F1 H1 s e p q=>by
  split at q
  ·rename_i c;refine⟨c,p,?_⟩
   cases c with
   | false=>exact⟨δ,R,F1,rl.ext e,by simpa using q,fun v F2 H2 s e2 p q=>k v F2 H2 s (e.trans e2) (p.start e.hh) q⟩
   | true=>exact k _ F1 H1 (.t (.bl true)) e rfl (by simpa using q)
  ·exact q.elim⟩
theorem v6 (ha:PE X a (au X.K wa)):PE X (.UnaryOp .Not a pos) (au X.K (vf wa)):=
 (Lr ha).imp fun σ H Q ⟨δ,R,F,rl,h,k⟩=>⟨δ,_,F,rl,h,fun v F1 H1 s e p q=>by
  split at q
  ·exact⟨_,p,k _ F1 H1 (.t (.bl _)) e rfl q⟩
  ·exact q.elim⟩
def A5 (f:S->(S->Prop)->Prop)(wa:WE):WE:=fun δ R=>wa δ fun x=>f x R
def lJ:S->(S->Prop)->Prop
 | .t (.int i),R=>R (.t (.int (-i)))
 | _,_=>False
theorem gc (ha:PE X a (au X.K wa)):PE X (.UnaryOp .USub a pos) (au X.K (A5 lJ wa)):=
 (N3 Ma ha).imp fun σ H Q ⟨δ,R,F,rl,h,k⟩=>⟨δ,_,F,rl,h,fun v F1 H1 s e p q=>by
  unfold lJ at q
  split at q
  ·exact⟨_,p,k _ F1 H1 (.t (.int _)) e rfl q⟩
  ·exact q.elim⟩
def atT (ts:List T)(i:Int)(R:S->Prop):Prop:=match atI ts i with
 | some x=>R (.t x)
 | none=>False
def vk (ts:List T)(i:Int)(R:S->Prop):Prop:=match atI ts i with
 | some x=>R (norm x)
 | none=>False
def aL:S->S->(S->Prop)->Prop
 | .t (.tup ts),.t (.int i),R=>atT ts i R
 | .t (.lst ts),.t (.int i),R=>atT ts i R
 | .vt (.tup ts),.t (.int i),R=>vk ts i R
 | .vt (.lst ts),.t (.int i),R=>vk ts i R
 | .ol ts,.t (.int i),R=>atT ts i R
 | _,_,_=>False
theorem ao.atI {K:PySem.W.Frag}{H:Hp}{ts:List T}{xs:List V}{i:Int}{t:T}(h:ao K H ts xs)(e:atI ts i=some t):∃ x,atI xs i=some x/\ay K H t x:=by
 unfold L2.atI at e ⊢;rw[h.length]
 cases q:pz ts.length i with
 | none=>rw[q]at e;cases e
 | some j=>
  rw[q]at e;obtain⟨x,h1,h2⟩:=h.get (i:=j) (by simpa using e)
  exact⟨x,by simpa using h1,h2⟩
theorem lB {ts:List T}{i:Int}{R:S->Prop}(h:atT ts i R):∃ x,atI ts i=some x/\R (.t x):=by
 unfold atT at h
 cases e:atI ts i with
 | none=>simp only[e]at h
 | some x=>simp only[e]at h;exact⟨x,rfl,h⟩
theorem pK {ts:List T}{i:Int}{R:S->Prop}(h:vk ts i R):∃ x,atI ts i=some x/\R (norm x):=by
 unfold vk at h
 cases e:atI ts i with
 | none=>simp only[e]at h
 | some x=>simp only[e]at h;exact⟨x,rfl,h⟩
theorem La {K:PySem.W.Frag}:Fw K (fun x y H Q=>N8 K x y H Q\/N9 K x y H Q) aL:=by
 intro F H s1 s2 v1 v2 R Q sb fu p1 p2 h k;unfold aL at h
 split at h
 ·obtain⟨x,hx,hr⟩:=lB h;obtain⟨a,xs,e1,h1,h2⟩:=p1;obtain⟨y,h3,h4⟩:=h2.atI hx;exact .inr ⟨a,xs,_,y,e1,p2,aM.sqT sb a xs h1,h3,k _ F H (.t x) (dh.refl sb fu) h4 hr⟩
 ·obtain⟨x,hx,hr⟩:=lB h;obtain⟨a,xs,e1,h1,h2⟩:=p1;obtain⟨y,h3,h4⟩:=h2.atI hx;exact .inl ⟨a,xs,_,y,e1,p2,sb.seq h1,h3,k _ F H (.t x) (dh.refl sb fu) h4 hr⟩
 ·obtain⟨x,hx,hr⟩:=pK h;obtain⟨a,xs,e1,h1,h2⟩:=p1;obtain⟨y,h3,h4⟩:=h2.atI hx;exact .inr ⟨a,xs,_,y,e1,p2,h1,h3,k _ F H _ (dh.refl sb fu) (dA.norm fu h4) hr⟩
 ·obtain⟨x,hx,hr⟩:=pK h;obtain⟨a,xs,e1,h1,h2⟩:=p1;obtain⟨y,h3,h4⟩:=h2.atI hx;exact .inl ⟨a,xs,_,y,e1,p2,h1,h3,k _ F H _ (dh.refl sb fu) (dA.norm fu h4) hr⟩
 ·obtain⟨x,hx,hr⟩:=lB h;obtain⟨a,xs,e1,h1,h2⟩:=p1;obtain⟨y,h3,h4⟩:=h2.atI hx;exact .inl ⟨a,xs,_,y,e1,p2,h1,h3,k _ F H (.t x) (dh.refl sb fu) h4 hr⟩
 ·exact h.elim
theorem ak (ha:PE X a (au X.K wa))(hb:PE X b (au X.K wb))(hs:xD b:=by exact fun _ _=>rfl):PE X (.Subscript a b pos) (au X.K (am aL wa wb)):=
 (N1 (GK.or KD) ha hb hs).imp (cb La)
end
end DL
namespace DL
open PySem L2
theorem k7 {H:Hp}{p:Addr}{o:HO}(hp:H p=none):aM H (dy H p o):=fun b u q=>by rw[b8 (dS q hp)];exact q
theorem dh.new {F H:Hp}{p:Addr}(o:HO)(sb:aM F H)(fu:gv F H)(hp:H p=none):dh F H (dy F p o) (dy H p o):=by
 have fp:F p=none:=aK sb hp;refine⟨k7 hp,k7 fp,fun b u q=>?_,fun b u q=>?_,fun b h1 h2=>?_⟩
 ·unfold dy at q ⊢
  split
  ·rename_i e;rw[if_pos e]at q;exact q
  ·rename_i e;rw[if_neg e]at q;exact sb _ _ q
 ·unfold dy at q ⊢
  by_cases e:b=p
  ·rw[if_pos e]at q;exact .inl (by rw[if_pos e];exact q)
  ·rw[if_neg e]at q;rw[if_neg e];exact fu _ _ q
 ·have:b≠p:=fun e=>h1 (by rw[e];exact hp)
  rw[b8 this];exact h2
theorem dh.newL {F H:Hp}{p:Addr}(xs:List V)(sb:aM F H)(fu:gv F H)(hp:H p=none):dh F H F (dy H p (.lst xs)):=by
 have fp:F p=none:=aK sb hp;refine⟨k7 hp,aM.refl _,sb.trans (k7 hp),fun b u q=>?_,fun b _ h2=>h2⟩;unfold dy at q
 by_cases e:b=p
 ·rw[if_pos e]at q;cases q;exact .inr ⟨xs,rfl⟩
 ·rw[if_neg e]at q;exact fu _ _ q
def av:WA:=fun _ R=>R []
def af (wa:WE)(wr:WA):WA:=fun δ R=>wa δ fun x=>wr δ fun xs=>R (x::xs)
def grow (F H H':Hp)(x:Option Addr):Hp:=fun b=>if (H b).isNone=true then (if x=some b then none else H' b) else F b
theorem nE {F H H':Hp}{x:Option Addr}(sb:aM F H)(fu:gv F H)(s:aM H H')(hx:∀ a,x=some a->∃ xs,H' a=some (.lst xs)):dh F H (grow F H H' x) H':=by
 have hs:∀ {b:Addr}{o:HO},H b=some o->(H b).isNone=true->False:=fun {b o} e h=>by rw[e]at h;cases h
 refine⟨s,fun b o q=>?_,fun b o q=>?_,fun b o q=>?_,fun b h1 h2=>?_⟩
 ·unfold grow;rw[if_neg (fun z=>hs (sb _ _ q) z)];exact q
 ·unfold grow at q
  split at q
  ·split at q
   ·cases q
   ·exact q
  ·exact s _ _ (sb _ _ q)
 ·unfold grow
  cases e:H b with
  | none=>
   rw[if_pos (show(none:Option HO).isNone=true from rfl)]
   by_cases z:x=some b
   ·obtain⟨xs,q'⟩:=hx b z;rw[q]at q';cases q'
    exact .inr ⟨xs,rfl⟩
   ·rw[if_neg z];exact .inl q
  | some o'=>
   rw[if_neg (by simp)]
   have:=s _ _ e;rw[q]at this;cases this
   exact fu _ _ e
 ·unfold grow;rw[if_neg (fun z=>h1 (Option.isNone_iff_eq_none.mp z))];exact h2
theorem dh.frozen {F H F1 H1:Hp}(sb:aM F H)(e:dh F H F1 H1):dh F H (grow F1 H H1 none) H1/\aM F1 (grow F1 H H1 none):=by
 have hs:∀ {b:Addr}{o:HO},H b=some o->(H b).isNone=true->False:=fun {b o} e h=>by rw[e]at h;cases h
 refine⟨⟨e.hh,fun b o q=>?_,fun b o q=>?_,fun b o q=>?_,fun b h1 h2=>?_⟩,fun b o q=>?_⟩
 ·unfold grow;rw[if_neg (fun z=>hs (sb _ _ q) z)];exact e.ff _ _ q
 ·unfold grow at q
  split at q
  ·split at q
   ·cases q
   ·exact q
  ·exact e.sub _ _ q
 ·unfold grow
  cases z:H b with
  | none=>exact .inl (by rw[if_pos (show(none:Option HO).isNone=true from rfl),if_neg (by simp)];exact q)
  | some o'=>rw[if_neg (by simp)];exact e.full _ _ q
 ·unfold grow;rw[if_neg (fun z=>h1 (Option.isNone_iff_eq_none.mp z))];exact e.keep b h1 h2
 ·unfold grow
  split
  ·rw[if_neg (by simp)];exact e.sub _ _ q
  ·exact q
def k5:List S->Option (List T)
 | []=>some []
 | .t x::r=>match k5 r with
  | some ts=>some (x::ts)
  | none=>none
 | .ol us::r=>match k5 r with
  | some ts=>some (.lst us::ts)
  | none=>none
 | .vt _::_=>none
def eR (wa:WA):WE:=fun δ R=>wa δ fun ss=>match k5 ss with
 | some ts=>if ts.length<=1000 then R (.t (.tup ts)) else False
 | none=>False
def jj (wa:WA):WE:=fun δ R=>wa δ fun ss=>match k5 ss with
 | some ts=>if ts.length<=1000 then R (.ol ts) else False
 | none=>False
theorem jr {K:PySem.W.Frag}{H F' H':Hp}(sm:aM F' (grow F' H H' none)):∀ {ss:List S}{vs:List V}{ts:List T},fQ K H F' H' ss vs->k5 ss=some ts->ao K (grow F' H H' none) ts vs
 | [],_,_,h,e=>by cases e;exact h
 | .t x::r,_,ts,⟨v,vr,e1,h1,h2⟩,e=>by
  subst e1;unfold k5 at e
  split at e
  ·rename_i us hu
   cases e
   exact⟨v,vr,rfl,ay.same sm h1,jr sm h2 hu⟩
  ·cases e
 | .vt _::_,_,_,_,e=>by cases e
 | .ol zs::r,_,_,⟨v,vr,e1,h1,h2⟩,e=>by
  subst e1;unfold k5 at e
  split at e
  ·rename_i us hu
   cases e
   refine⟨v,vr,rfl,?_,jr sm h2 hu⟩;unfold dA at h1;obtain⟨a,xs,q1,q2,q3,q4,q5⟩:=h1;unfold ay;refine⟨a,xs,q1,dR.of ?_,ao.same sm q5⟩;unfold grow;rw[if_pos (by rw[q2];rfl),if_neg (by simp)]
   exact q4
  ·cases e
theorem yi {n:Nat}(h:n<=1000):n<=sizeLine:=Nat.le_of_lt (AM h)
def eU (f:List S->(S->Prop)->Prop)(wa:WA):WE:=fun δ R=>wa δ fun ss=>f ss R
def kb (K:PySem.W.Frag)(F H:Hp):List S->List V->Prop
 | [],vs=>vs=[]
 | s::ss,vs=>∃ v r,vs=v::r/\gz K F H s v/\kb K F H ss r
theorem fQ.val {K:PySem.W.Frag}{H0 F H:Hp}(e:aM F H):∀ {ss:List S}{vs:List V},fQ K H0 F H ss vs->kb K F H ss vs
 | [],_,h=>h
 | _::_,_,⟨v,r,h1,h2,h3⟩=>⟨v,r,h1,h2.val e,fQ.val e h3⟩
def gZ (K:PySem.W.Frag)(r:List V->Hp->VK->Prop)(f:List S->(S->Prop)->Prop):Prop:=
 ∀ F H ss vs R Q,aM F H->gv F H->kb K F H ss vs->f ss R->(∀ v F' H' s,dh F H F' H'->dA K H F' H' s v->R s->Q v H')->r vs H Q
theorem ym {K:PySem.W.Frag}{r:List V->Hp->VK->Prop}{f:List S->(S->Prop)->Prop}{wa:WA}(ho:gZ K r f):∀ σ H Q,au K (eU f wa) σ H Q->PN r (dD K wa) σ H Q:=by
 rintro σ H Q ⟨δ,R,F,rl,h,k⟩;refine⟨δ,_,F,rl,h,fun vs F1 H1 ss e p q=>?_⟩;exact ho F1 H1 ss vs R Q e.sub e.full (p.val e.sub) q fun v F' H' s e2 p2 q2=>k v F' H' s (e.trans e2) (p2.start e.hh) q2
abbrev aX:=List S->(S->Prop)->Prop
def mY:S->S
 | .vt x=>.t x
 | .ol ts=>.t (.lst ts)
 | .t x=>.t x
def got:S->S
 | .t x=>norm x
 | .vt x=>.vt x
 | .ol ts=>if cG ts=true then .ol ts else .vt (.lst ts)
def xG:S->Prop
 | .t _=>True
 | _=>False
def sW (K:PySem.W.Frag)(sp:aX):Sp:=fun vs H Q _=>∃ ss R,(∀ s∈ss,xG s)/\kb K H H ss vs/\sp ss R/\∀ v H' s,aM H H'->Bb K H H' s v->R s->Q v H'
def aD (sp:aX)(wa:WA):WE:=fun δ R=>wa δ fun ss=>sp (ss.map mY) fun s=>R (got s)
theorem xH {K:PySem.W.Frag}{H0 F H:Hp}(sb:aM F H):∀ {ss:List S}{vs:List V},fQ K H0 F H ss vs->(∀ s∈ss.map mY,xG s)/\kb K H H (ss.map mY) vs
 | [],_,h=>⟨fun s hs=>by simp at hs,h⟩
 | s::ss,_,⟨v,r,h1,h2,h3⟩=>by
  obtain⟨a1,a2⟩:=xH sb h3;refine⟨fun u hu=>?_,v,r,h1,?_,a2⟩
  ·rw[List.map_cons]at hu
   rcases List.mem_cons.mp hu with e|e
   ·subst e
    cases s <;> exact True.intro
   ·exact a1 u e
  ·cases s with
   | t x=>exact ay.same sb h2
   | vt x=>exact h2
   | ol ts=>
    unfold dA at h2;obtain⟨a,xs,q1,_,_,q2,q3⟩:=h2;show ay K H (.lst ts) v;unfold ay;exact⟨a,xs,q1,dR.of q2,ao.same sb q3⟩
theorem Ae {K:PySem.W.Frag}{sp:aX}{wa:WA}{E:XK}:∀ σ H Q,au K (aD sp wa) σ H Q->IW (sW K sp) [] E (dD K wa) σ H Q:=by
 rintro σ H Q ⟨δ,R,F,rl,h,k⟩;refine⟨δ,_,F,rl,h,fun vs F1 H1 ss e p q=>?_⟩;show sW K sp (vs++[]) H1 Q E;rw[List.append_nil];obtain⟨a1,a2⟩:=xH e.sub p;refine⟨_,_,a1,a2,q,fun v H' s sm rc hr=>?_⟩
 cases s with
 | t x=>
  have ex:=nE (x:=none) e.sub e.full sm (fun _ z=>by cases z)
  exact k v _ H' (norm x) (e.trans ex) (dA.norm ex.full rc) hr
 | vt x=>exact False.elim rc
 | ol ts=>
  unfold Bb at rc;obtain⟨a,xs,q1,q2,q3,q4⟩:=rc;have ex:=nE (x:=some a) e.sub e.full sm (fun b z=>by cases z;exact⟨xs,q3⟩)
  have hr':R (if cG ts=true then .ol ts else .vt (.lst ts)):=hr
  split at hr'
  ·rename_i hp;refine k v _ H' (.ol ts) (e.trans ex) ⟨a,xs,q1,aK e.hh q2,?_,q3,ao.full ex.full hp q4⟩ hr';unfold grow;rw[if_pos (by rw[q2];rfl),if_pos rfl]
  ·refine k v _ H' (.vt (.lst ts)) (e.trans ex) ?_ hr';unfold dA ay;exact⟨a,xs,q1,dR.of q3,q4⟩
section
variable {X:Cx}{e:Expr}{es:List Expr}{we:WE}{wr wa:WA}{pos:Pos}
theorem ah:PA X [] (dD X.K av):=sN.imp fun σ H Q ⟨δ,R,F,rl,h,k⟩=>k [] F H [] rl.refl rfl h
theorem aa (ha:PE X e (au X.K we))(hr:PA X es (dD X.K wr))(hs:starEach (e::es) X.env=(false,eval e X.env)::starEach es X.env:=by rfl):PA X (e::es) (dD X.K (af we wr)):=
 (kK ha hr hs).imp fun σ H Q ⟨δ,R,F,rl,h,k⟩=>⟨δ,_,F,rl,h,fun v F1 H1 s e p q=>⟨δ,_,F1,rl.ext e,q,fun vs F2 H2 ss e2 ps q2=>k (v::vs) F2 H2 (s::ss) (e.trans e2) ⟨v,vs,rfl,p.ext e2,ps.start e.hh⟩ q2⟩⟩
theorem bK {x1}(h:PA X es (dD X.K wa)):PE X (.Tuple es x1 pos) (au X.K (eR wa)):=
 (Lu h).imp fun σ H Q ⟨δ,R,F,rl,h,k⟩=>⟨δ,_,F,rl,h,fun vs F1 H1 ss e p q=>by
  split at q
  ·rename_i ts ht;obtain⟨ez,sz⟩:=e.frozen rl.sub;have r:=jr sz p ht
   split at q
   ·rename_i hl;refine⟨by rw[r.length];exact yi hl,fun a ha=>?_⟩
    have ex:=dh.new (.tup vs) ez.sub ez.full ha;refine k _ _ _ (.t (.tup ts)) (ez.trans ex) ?_ q;unfold dA ay;exact⟨a,vs,rfl,jH.of bT,ao.same ex.ff r⟩
   ·exact q.elim
  ·exact q.elim⟩
theorem di (h:PA X es (dD X.K wa)):PE X (.List es pos) (au X.K (jj wa)):=
 (Lq h).imp fun σ H Q ⟨δ,R,F,rl,h,k⟩=>⟨δ,_,F,rl,h,fun vs F1 H1 ss e p q=>by
  split at q
  ·rename_i ts ht;obtain⟨ez,sz⟩:=e.frozen rl.sub;have r:=jr sz p ht
   split at q
   ·rename_i hl;refine⟨by rw[r.length];exact yi hl,fun a ha=>?_⟩
    have ex:=dh.newL vs ez.sub ez.full ha;exact k _ _ _ (.ol ts) (ez.trans ex) ⟨a,vs,rfl,aK e.hh ha,aK ez.sub ha,bT,r⟩ q
   ·exact q.elim
  ·exact q.elim⟩
structure Callee (P:Program) (w:World) (K:PySem.W.Frag) (mg:Str->Option Value) (base:Heap) (k:Nat) (x:Str) (sp:aX):Prop where
 ex:∃ (f:Addr) (fd:FuncData) (ps:List Str),mg x=some (.ref f)/\iL P w K mg base AW k f fd ps (sW K sp)/\Binds K fd ps []/\PySem.W.keepIn K (.ref f)=true
theorem ap {k:Nat}{x:Str}{sp:aX}{p:Pos} (C:Callee X.prog X.w X.K X.mg X.base k x sp) (hr:cz k X.A) (hg:Gl X x) (ha:PA X (e::es) (dD X.K wa)) (hdb:(x == ("__debug__":Str))=false:=by decide)
  (he:starEach (e::es) X.env=(false,eval e X.env)::starEach es X.env:=by rfl) (hpl:(backTo pos (starEach es X.env)).any (·.1)=false:=by rfl):PE X (.Call (.Name x p) (e::es) [] pos) (au X.K (aD sp wa)):=by
 obtain⟨f,fd,ps,hm,F,hb,hk⟩:=C.ex;exact(Hq F hr hg hm hk hb .nil (E:=E0) NZ ha hdb he hpl).imp Ae
theorem iT {x:Str}{p:Pos}{id:String}{r:List V->Hp->VK->Prop}{f:List S->(S->Prop)->Prop} (hc:fk X (.builtin id) r) (hf:gZ X.K r f) (hm:X.mg x=none) (hv:bootBuiltins x=some (.builtin id)) (ha:PA X (e::es) (dD X.K wa)) (hg:Gl X x:=by rfl) (hn:x≠"__name__":=by decide) (hdb:(x == ("__debug__":Str))=false:=by decide)
  (he:starEach (e::es) X.env=(false,eval e X.env)::starEach es X.env:=by rfl) (hpl:(backTo pos (starEach es X.env)).any (·.1)=false:=by rfl):PE X (.Call (.Name x p) (e::es) [] pos) (au X.K (eU f wa)):=
 (uY hc hg hm hv ha hn hdb he hpl).imp (ym hf)
theorem zK {x:Str}{p:Pos}{id:String}{r:List V->Hp->VK->Prop}{f:List S->(S->Prop)->Prop} (hc:fk X (.type id) r) (hf:gZ X.K r f) (hm:X.mg x=none) (hv:bootBuiltins x=some (.type id)) (ha:PA X (e::es) (dD X.K wa)) (hg:Gl X x:=by rfl) (hn:x≠"__name__":=by decide) (hdb:(x == ("__debug__":Str))=false:=by decide)
  (he:starEach (e::es) X.env=(false,eval e X.env)::starEach es X.env:=by rfl) (hpl:(backTo pos (starEach es X.env)).any (·.1)=false:=by rfl):PE X (.Call (.Name x p) (e::es) [] pos) (au X.K (eU f wa)):=
 (Ax hc hg hm hv ha hn hdb he hpl).imp (ym hf)
end
def cD:List S->(S->Prop)->Prop
 | [.t (.tup ts)],R=>R (.t (.int ts.length))
 | [.t (.lst ts)],R=>R (.t (.int ts.length))
 | [.vt (.tup ts)],R=>R (.t (.int ts.length))
 | [.vt (.lst ts)],R=>R (.t (.int ts.length))
 | [.ol ts],R=>R (.t (.int ts.length))
 | _,_=>False
theorem K7 {K:PySem.W.Frag}:gZ K (fun xs H Q=>∃ p ys,xs=[.ref p]/\(dR K H p ys\/jH K H p ys)/\Q (.int ys.length) H) cD:=by
 intro F H ss vs R Q sb fu rp h k;unfold cD at h
 split at h
 ·obtain⟨v,r,rfl,⟨a,xs,rfl,h1,h2⟩,h3⟩:=rp
  cases (show r=[] from h3)
  exact⟨a,xs,rfl,.inr (aM.sqT sb a xs h1),k _ F H (.t (.int _)) (dh.refl sb fu) (by show _=_;rw[h2.length]) h⟩
 ·obtain⟨v,r,rfl,⟨a,xs,rfl,h1,h2⟩,h3⟩:=rp
  cases (show r=[] from h3)
  exact⟨a,xs,rfl,.inl (sb.seq h1),k _ F H (.t (.int _)) (dh.refl sb fu) (by show _=_;rw[h2.length]) h⟩
 ·obtain⟨v,r,rfl,⟨a,xs,rfl,h1,h2⟩,h3⟩:=rp
  cases (show r=[] from h3)
  exact⟨a,xs,rfl,.inr h1,k _ F H (.t (.int _)) (dh.refl sb fu) (by show _=_;rw[h2.length]) h⟩
 ·obtain⟨v,r,rfl,⟨a,xs,rfl,h1,h2⟩,h3⟩:=rp
  cases (show r=[] from h3)
  exact⟨a,xs,rfl,.inl h1,k _ F H (.t (.int _)) (dh.refl sb fu) (by show _=_;rw[h2.length]) h⟩
 ·obtain⟨v,r,rfl,⟨a,xs,rfl,h1,h2⟩,h3⟩:=rp
  cases (show r=[] from h3)
  exact⟨a,xs,rfl,.inl h1,k _ F H (.t (.int _)) (dh.refl sb fu) (by show _=_;rw[h2.length]) h⟩
 ·exact h.elim
def o7:List S->(S->Prop)->Prop
 | [.t (.int i)],R=>R (.t (.int (if i<0 then -i else i)))
 | _,_=>False
theorem K5 {K:PySem.W.Frag}:gZ K (fun xs H Q=>∃ i,xs=[.int i]/\Q (.int (if i<0 then -i else i)) H) o7:=by
 intro F H ss vs R Q sb fu rp h k;unfold o7 at h
 split at h
 ·obtain⟨v,r,rfl,rfl,h3⟩:=rp
  cases (show r=[] from h3)
  exact⟨_,rfl,k _ F H (.t (.int _)) (dh.refl sb fu) rfl h⟩
 ·exact h.elim
def t6:List S->(S->Prop)->Prop
 | [.t (.int i),.t (.int j)],R=>R (.t (.int (if j>i then j else i)))
 | _,_=>False
def kz:List S->(S->Prop)->Prop
 | [.t (.int i),.t (.int j)],R=>R (.t (.int (if j<i then j else i)))
 | _,_=>False
theorem Hc {K:PySem.W.Frag}:gZ K (fun xs H Q=>∃ i j,xs=[.int i,.int j]/\Q (.int (if j>i then j else i)) H) t6:=by
 intro F H ss vs R Q sb fu rp h k;unfold t6 at h
 split at h
 ·obtain⟨v,r,rfl,rfl,v2,r2,rfl,rfl,h3⟩:=rp
  cases (show r2=[] from h3)
  exact⟨_,_,rfl,k _ F H (.t (.int _)) (dh.refl sb fu) rfl h⟩
 ·exact h.elim
theorem Hd {K:PySem.W.Frag}:gZ K (fun xs H Q=>∃ i j,xs=[.int i,.int j]/\Q (.int (if j<i then j else i)) H) kz:=by
 intro F H ss vs R Q sb fu rp h k;unfold kz at h
 split at h
 ·obtain⟨v,r,rfl,rfl,v2,r2,rfl,rfl,h3⟩:=rp
  cases (show r2=[] from h3)
  exact⟨_,_,rfl,k _ F H (.t (.int _)) (dh.refl sb fu) rfl h⟩
 ·exact h.elim
def Nw:List S->(S->Prop)->Prop
 | [.t (.int i)],R=>R (.t (.int i))
 | [.t (.bl b)],R=>R (.t (.int (if b then 1 else 0)))
 | _,_=>False
def ig:List S->(S->Prop)->Prop
 | [.t (.tup ts)],R=>R (.ol ts)
 | [.t (.lst ts)],R=>R (.ol ts)
 | [.vt (.lst ts)],R=>cG ts=true/\R (.ol ts)
 | [.ol ts],R=>R (.ol ts)
 | _,_=>False
theorem Ap {K:PySem.W.Frag}:gZ K (fun xs H Q=>∃ p ys,xs=[.ref p]/\(dR K H p ys\/jH K H p ys)/\∀ l,H l=none->Q (.ref l) (dy H l (.lst ys))) ig:=by
 intro F H ss vs R Q sb fu rp h k;have fin:∀ {ts:List T}{xs:List V},ao K F ts xs->R (.ol ts)->∀ l,H l=none->Q (.ref l) (dy H l (.lst xs)):=fun {ts xs} r q l hl=>
  k _ F _ (.ol ts) (dh.newL xs sb fu hl) ⟨l,xs,rfl,hl,aK sb hl,bT,r⟩ q
 unfold ig at h
 split at h
 ·obtain⟨v,r,rfl,⟨a,xs,rfl,h1,h2⟩,h3⟩:=rp
  cases (show r=[] from h3)
  exact⟨a,xs,rfl,.inr (aM.sqT sb a xs h1),fin h2 h⟩
 ·obtain⟨v,r,rfl,⟨a,xs,rfl,h1,h2⟩,h3⟩:=rp
  cases (show r=[] from h3)
  exact⟨a,xs,rfl,.inl (sb.seq h1),fin h2 h⟩
 ·obtain⟨v,r,rfl,⟨a,xs,rfl,h1,h2⟩,h3⟩:=rp
  cases (show r=[] from h3)
  exact⟨a,xs,rfl,.inl h1,fin (ao.full fu h.1 h2) h.2⟩
 ·obtain⟨v,r,rfl,⟨a,xs,rfl,h1,h2⟩,h3⟩:=rp
  cases (show r=[] from h3)
  exact⟨a,xs,rfl,.inl h1,fin h2 h⟩
 ·exact h.elim
section
variable {X:Cx}{e:Expr}{es:List Expr}{we:WE}{wr wa:WA}{pos p:Pos}
theorem bD (hm:X.mg "len"=none) (ha:PA X [e] (dD X.K wa)) (hg:Gl X "len":=by rfl) (he:starEach [e] X.env=(false,eval e X.env)::starEach [] X.env:=by rfl):PE X (.Call (.Name "len" p) [e] [] pos) (au X.K (eU cD wa)):=
 iT qM K7 hm PySem.boot_len ha hg (he:=he) (hpl:=rfl)
theorem lF (hm:X.mg "abs"=none) (ha:PA X [e] (dD X.K wa)) (hg:Gl X "abs":=by rfl) (he:starEach [e] X.env=(false,eval e X.env)::starEach [] X.env:=by rfl):PE X (.Call (.Name "abs" p) [e] [] pos) (au X.K (eU o7 wa)):=
 iT BE K5 hm PyProof.Rows.boot_abs ha hg (he:=he) (hpl:=rfl)
theorem Gu {e2:Expr} (hm:X.mg "max"=none) (ha:PA X [e,e2] (dD X.K wa)) (hg:Gl X "max":=by rfl) (hc:X.calm=true:=by rfl) (he:starEach [e,e2] X.env=(false,eval e X.env)::starEach [e2] X.env:=by rfl) (hpl:(backTo pos (starEach [e2] X.env)).any (·.1)=false:=by rfl):PE X (.Call (.Name "max" p) [e,e2] [] pos) (au X.K (eU t6 wa)):=
 iT (zE hc) Hc hm PyProof.Rows.boot_max ha hg (he:=he) (hpl:=hpl)
theorem kj {e2:Expr} (hm:X.mg "min"=none) (ha:PA X [e,e2] (dD X.K wa)) (hg:Gl X "min":=by rfl) (hc:X.calm=true:=by rfl) (he:starEach [e,e2] X.env=(false,eval e X.env)::starEach [e2] X.env:=by rfl) (hpl:(backTo pos (starEach [e2] X.env)).any (·.1)=false:=by rfl):PE X (.Call (.Name "min" p) [e,e2] [] pos) (au X.K (eU kz wa)):=
 iT (zF hc) Hd hm PyProof.Rows.boot_min ha hg (he:=he) (hpl:=hpl)
theorem zM (hm:X.mg "list"=none) (ha:PA X [e] (dD X.K wa)) (hg:Gl X "list":=by rfl) (he:starEach [e] X.env=(false,eval e X.env)::starEach [] X.env:=by rfl):PE X (.Call (.Name "list" p) [e] [] pos) (au X.K (eU ig wa)):=
 zK qN Ap hm PyProof.Rows.boot_list ha hg (he:=he) (hpl:=rfl)
end
end DL
namespace DL
open PySem L2
def j4:aT->(Option Int->Prop)->Prop:=fun _ R=>R none
def oE (we:WE):aT->(Option Int->Prop)->Prop:=fun δ R=>we δ fun s=>match s with
 | .t (.int i)=>R (some i)
 | _=>False
def yk (K:PySem.W.Frag)(w:aT->(Option Int->Prop)->Prop):TO:=fun σ H Q=>∃ δ R F,Rel K F H σ δ/\w δ R/\∀ F' H' o,dh F H F' H'->R o->Q o H'
def iS (ts:List T)(lo hi:Option Int):List T:=(ts.drop (HT.sIx ts.length 0 lo)).take (HT.sIx ts.length ts.length hi-HT.sIx ts.length 0 lo)
def xl (lo hi:Option Int)(R:S->Prop):S->Prop
 | .t (.lst ts)=>R (.ol (iS ts lo hi))
 | .vt (.lst ts)=>cG ts=true/\R (.ol (iS ts lo hi))
 | .ol ts=>R (.ol (iS ts lo hi))
 | _=>False
def j5 (we:WE)(wl wh:aT->(Option Int->Prop)->Prop):WE:=fun δ R=>we δ fun s=>wl δ fun lo=>wh δ fun hi=>xl lo hi R s
theorem xm {K:PySem.W.Frag}{F H:Hp}{lo hi:Option Int}{R:S->Prop}{s:S}{v:V}(sb:aM F H)(fu:gv F H)(h:xl lo hi R s)(p:gz K F H s v):∃ ts a xs,v=.ref a/\dR K H a xs/\ao K F ts xs/\R (.ol (iS ts lo hi)):=by
 unfold xl at h
 split at h
 ·unfold gz ay at p;obtain⟨a,xs,h1,h2,h3⟩:=p;exact⟨_,a,xs,h1,sb.seq h2,h3,h⟩
 ·unfold gz ay at p;obtain⟨a,xs,h1,h2,h3⟩:=p;exact⟨_,a,xs,h1,h2,ao.full fu h.1 h3,h.2⟩
 ·unfold gz at p;obtain⟨a,xs,h1,h2,h3⟩:=p;exact⟨_,a,xs,h1,h2,h3,h⟩
 ·exact h.elim
theorem Gs {K:PySem.W.Frag}{F:Hp}{ts:List T}{xs:List V}(h:ao K F ts xs)(lo hi:Option Int):ao K F (iS ts lo hi) (zJ xs lo hi):=by
 unfold iS zJ;rw[h.length];exact(h.drop _).take _
section
variable {X:Cx}{e:Expr}{we:WE}{lo hi:Option Expr}{wl wh:aT->(Option Int->Prop)->Prop}{pos p2:Pos}
theorem kl:PO X none (yk X.K j4):=fun pins s σ H Q I ⟨δ,R,F,rl,h,k⟩=>Hw pins s σ H Q I (k F H none rl.refl h)
theorem kn (h:PE X e (au X.K we)):PO X (some e) (yk X.K (oE we)):=fun pins s σ H Q I ⟨δ,R,F,rl,hw,k⟩=>
 Hx h pins s σ H Q I ⟨δ,_,F,rl,hw,fun v F1 H1 s e p q=>by
  split at q
  ·exact⟨_,p,k F1 H1 _ e q⟩
  ·exact q.elim⟩
theorem iU (he:PE X e (au X.K we))(hl:PO X lo (yk X.K wl))(hu:PO X hi (yk X.K wh)):PE X (.Subscript e (.Slice lo hi none p2) pos) (au X.K (j5 we wl wh)):=
 (EM Ig he hl hu).imp fun σ H Q ⟨δ,R,F,rl,h,k⟩=>⟨δ,_,F,rl,h,fun v F1 H1 s e1 p1 q=>⟨δ,_,F1,rl.ext e1,q,fun F2 H2 o e2 q2=>⟨δ,_,F2,(rl.ext e1).ext e2,q2,fun F3 H3 o3 e3 q3=>by
  have e12:=e1.trans (e2.trans e3);obtain⟨ts,a,xs,rfl,h1,h2,h4⟩:=xm e3.sub e3.full q3 ((p1.ext (e2.trans e3)).val e3.sub);refine⟨a,xs,rfl,h1,fun l hl=>?_⟩;exact k _ F3 _ (.ol _) (e12.trans (dh.newL _ e3.sub e3.full hl)) ⟨l,_,rfl,aK e12.hh hl,aK e3.sub hl,bT,Gs h2 _ _⟩ h4⟩⟩⟩
end
def fT:S->S
 | .ol ts=>.t (.lst ts)
 | .t x=>.t x
 | .vt x=>.vt x
def freeze (δ:aT):aT:=δ.map (Option.map fT)
def setS (i:Nat)(s:S)(δ:aT):aT:=match s with
 | .vt x=>(freeze δ).set i (some (.t x))
 | .t x=>δ.set i (some (.t x))
 | .ol ts=>δ.set i (some (.ol ts))
theorem jW {δ:aT}{i:Nat}{s:S}(h:(freeze δ)[i]?=some (some s)):∃ u,δ[i]?=some (some u)/\s=fT u:=by
 unfold freeze at h;rw[List.getElem?_map]at h
 cases e:δ[i]? with
 | none=>rw[e]at h;cases h
 | some o=>
  rw[e]at h
  cases o with
  | none=>cases h
  | some u=>exact⟨u,rfl,by simpa using h.symm⟩
theorem zU {K:PySem.W.Frag}{F H:Hp}(sb:aM F H):∀ {s:S}{v:V},g8 K F H s v->g8 K H H (fT s) v
 | .t _,_,h=>ay.same sb h
 | .vt _,_,h=>False.elim h
 | .ol _,_,⟨a,xs,h1,_,h3,h4⟩=>by
  show ay K H (.lst _) _;unfold ay;exact⟨a,xs,h1,dR.of h3,ao.same sb h4⟩
theorem jL (s:S)(ts:List T):fT s≠.ol ts:=by cases s <;> simp[fT]
theorem Rel.freeze {K:PySem.W.Frag}{F H:Hp}{σ:St}{δ:aT}(r:Rel K F H σ δ):Rel K H H σ (freeze δ):=by
 refine⟨aM.refl _,fun b o h=>.inl h,?_,fun i s h=>?_,fun i j a ts us _ h1=>?_⟩
 ·unfold DL.freeze;rw[List.length_map];exact r.len
 ·obtain⟨u,h1,rfl⟩:=jW h;obtain⟨v,h2,h3⟩:=r.slot i u h1;exact⟨v,h2,zU r.sub h3⟩
 ·obtain⟨u,_,e⟩:=jW h1;exact absurd e.symm (jL u ts)
theorem Rel.put {K:PySem.W.Frag}{F H:Hp}{σ:St}{δ:aT}{i:Nat}{s:S}{v:V}(r:Rel K F H σ δ)(h:g8 K F H s v)(hs:∀ ts,s≠.ol ts):Rel K F H (σ.set i (some v)) (δ.set i (some s)):=by
 refine⟨r.sub,r.full,by rw[List.length_set,List.length_set];exact r.len,fun j u hu=>?_,fun j l a ts us hn h1 h2 h3=>?_⟩
 ·by_cases e:i=j
  ·subst e;have hi:i<δ.length:=by
    rw[List.getElem?_set]at hu;simp at hu;exact hu.1
   rw[List.getElem?_set_self hi]at hu
   cases hu
   exact⟨v,List.getElem?_set_self (by rw[r.len];exact hi),h⟩
  ·rw[List.getElem?_set_ne e]at hu;obtain⟨w,h1,h2⟩:=r.slot j u hu;exact⟨w,by rw[List.getElem?_set_ne e];exact h1,h2⟩
 ·have n1:i≠j:=fun e=>by
   subst e;have hi:i<δ.length:=by
    rw[List.getElem?_set]at h1;simp at h1;exact h1.1
   rw[List.getElem?_set_self hi]at h1
   cases h1
   exact hs ts rfl
  have n2:i≠l:=fun e=>by
   subst e;have hi:i<δ.length:=by
    rw[List.getElem?_set]at h2;simp at h2;exact h2.1
   rw[List.getElem?_set_self hi]at h2
   cases h2
   exact hs us rfl
  rw[List.getElem?_set_ne n1]at h1 h3;rw[List.getElem?_set_ne n2]at h2 ⊢;exact r.dist j l a ts us hn h1 h2 h3
theorem Rel.putOl {K:PySem.W.Frag}{F H F' H':Hp}{σ:St}{δ:aT}{i:Nat}{ts:List T}{a:Addr}{xs:List V}(r:Rel K F H σ δ)(e:dh F H F' H')(h0:H a=none)(h1:F' a=none)(h2:H' a=some (.lst xs))(h3:ao K F' ts xs) :
  Rel K F' H' (σ.set i (some (.ref a))) (δ.set i (some (.ol ts))):=by
 have r':=r.ext e;have old:∀ (j:Nat) (us:List T) (b:Addr),δ[j]?=some (some (.ol us))->σ[j]?=some (some (.ref b))->b≠a:=fun j us b q1 q2 z=>by
  obtain⟨v,p1,c,ys,p2,p3,p4,_⟩:=r.slot j _ q1;rw[q2]at p1
  cases p1
  cases p2
  rw[z,h0]at p4
  cases p4
 refine⟨r'.sub,r'.full,by rw[List.length_set,List.length_set];exact r.len,fun j u hu=>?_,fun j l b us ws hn q1 q2 q3=>?_⟩
 ·by_cases z:i=j
  ·subst z;have hi:i<δ.length:=by
    rw[List.getElem?_set]at hu;simp at hu;exact hu.1
   rw[List.getElem?_set_self hi]at hu
   cases hu
   exact⟨_,List.getElem?_set_self (by rw[r.len];exact hi),a,xs,rfl,h1,h2,h3⟩
  ·rw[List.getElem?_set_ne z]at hu;obtain⟨w,p1,p2⟩:=r'.slot j u hu;exact⟨w,by rw[List.getElem?_set_ne z];exact p1,p2⟩
 ·by_cases z:i=j
  ·subst z;have hi:i<δ.length:=by
    rw[List.getElem?_set]at q1;simp at q1;exact q1.1
   rw[List.getElem?_set_self (by rw[r.len];exact hi)]at q3
   cases q3
   rw[List.getElem?_set_ne hn]at q2 ⊢;exact fun q=>old l ws a q2 q rfl
  ·rw[List.getElem?_set_ne z]at q1 q3
   by_cases z2:i=l
   ·subst z2;have hi:i<δ.length:=by
     rw[List.getElem?_set]at q2;simp at q2;exact q2.1
    rw[List.getElem?_set_self (by rw[r.len];exact hi)]
    intro q
    cases q
    exact old j us a q1 q3 rfl
   ·rw[List.getElem?_set_ne z2]at q2 ⊢;exact r.dist j l b us ws hn q1 q2 q3
theorem Rel.setS {K:PySem.W.Frag}{F H F' H':Hp}{σ:St}{δ:aT}{s:S}{v:V}(i:Nat)(r:Rel K F H σ δ)(e:dh F H F' H')(p:dA K H F' H' s v):∃ F2,aM F F2/\Rel K F2 H' (σ.set i (some v)) (setS i s δ):=by
 cases s with
 | t x=>exact⟨F',e.ff,(r.ext e).put (s:=.t x) p (fun _ z=>by cases z)⟩
 | vt x=>exact⟨H',e.ff.trans e.sub,(r.ext e).freeze.put (s:=.t x) p (fun _ z=>by cases z)⟩
 | ol ts=>
  obtain⟨a,xs,rfl,h0,h1,h2,h3⟩:=p;exact⟨F',e.ff,r.putOl e h0 h1 h2 h3⟩
theorem Rel.thaw {K:PySem.W.Frag}{F H F1 H1:Hp}{σ:St}{δ:aT}{ts:List T}{v:V}(rl:Rel K F H σ δ)(ex:dh F H F1 H1)(p:dA K H F1 H1 (.ol ts) v) :
  Rel K (grow F1 H H1 none) H1 σ δ/\aM F (grow F1 H H1 none)/\∃ a xs,v=.ref a/\dR K (grow F1 H H1 none) a xs/\ao K (grow F1 H H1 none) ts xs:=by
 obtain⟨ez,sz⟩:=ex.frozen rl.sub;refine⟨rl.ext ez,ez.ff,?_⟩;obtain⟨a,xs,rfl,h0,h1,h2,h3⟩:=p;refine⟨a,xs,rfl,dR.of ?_,ao.same sz h3⟩;unfold grow;rw[if_pos (by rw[h0];rfl),if_neg (by simp)]
 exact h2
def aY:WS:=fun D δ=>D.nx δ
def aH (w u:WS):WS:=fun D δ=>w {D with nx:=u D} δ
def bH (w u:WS):WS:=fun D δ=>∃ M:aT->Prop,w {D with nx:=M} δ/\∀ δ',M δ'->u D δ'
def aN (i:Nat)(we:WE):WS:=fun D δ=>we δ fun s=>D.nx (setS i s δ)
def eZ (c:WT)(w u:WS):WS:=fun D δ=>c δ fun k=>if k=true then w D δ else u D δ
def out:S->S
 | .vt x=>.t x
 | .t x=>.t x
 | .ol ts=>.ol ts
def bu (we:WE):WS:=fun D δ=>we δ fun s=>D.rt (out s)
def jP (i:Nat):WS:=fun D δ=>match δ[i]? with
 | some (some s)=>D.rt s
 | _=>False
def OD:WS:=fun D _=>D.rt (.t .non)
def Md:WS:=fun D δ=>D.bk δ
def OB:WS:=fun D δ=>D.ct δ
def yR (we:WE):WS:=fun D δ=>we δ fun _=>D.nx δ
def oD:WS:=fun _ _=>False
def sZ (c:WT)(wb:WS):WS:=fun D δ=>∃ I:Nat->aT->Prop,(∃ n,I n δ)/\∀ n δ,I n δ->c δ fun k=>if k=true then wb {nx:=fun δ'=>∃ m,m<n/\I m δ',rt:=D.rt,bk:=D.nx,ct:=fun δ'=>∃ m,m<n/\I m δ'} δ else D.nx δ
abbrev WG:=T->aT->(aT->Prop)->Prop
def ub (g:WG)(wb:WS):List T->gu->aT->Prop
 | [],D,δ=>D.nx δ
 | x::r,D,δ=>g x δ fun δ1=>wb {nx:=fun δ2=>ub g wb r D δ2,rt:=D.rt,bk:=D.nx,ct:=fun δ2=>ub g wb r D δ2} δ1
abbrev WI:=aT->(List T->aT->Prop)->Prop
def wm (g:WG)(wb:WS)(ts:List T)(D:gu)(δ:aT):Prop:=∃ I:List T->aT->Prop,I ts δ/\(∀ δ,I [] δ->D.nx δ)/\∀ x r δ,I (x::r) δ->g x δ fun δ1=>wb {nx:=I r,rt:=D.rt,bk:=D.nx,ct:=I r} δ1
theorem xY {g:WG}{wb:WS}{ts:List T}{D:gu}{δ:aT}(h:ub g wb ts D δ):wm g wb ts D δ:=⟨fun r δ=>ub g wb r D δ,h,fun _ h=>h,fun _ _ _ h=>h⟩
def fJ (wi:WI)(g:WG)(wb:WS):WS:=fun D δ=>wi δ fun ts δ'=>wm g wb ts D δ'
def aU (i:Nat):WG:=fun t δ R=>R (δ.set i (some (.t t)))
def qw (g:List T->aT->(aT->Prop)->Prop):WG:=fun t δ R=>match t with
 | .tup ts=>g ts δ R
 | _=>False
def mf:List T->aT->(aT->Prop)->Prop:=fun ts δ R=>match ts with
 | []=>R δ
 | _=>False
def fK (g:WG)(gr:List T->aT->(aT->Prop)->Prop):List T->aT->(aT->Prop)->Prop:=fun ts δ R=>match ts with
 | t::r=>g t δ fun δ1=>gr r δ1 R
 | []=>False
def Io (g:WG)(δ:aT)(N:aT->Prop):S->Prop
 | .t t=>g t δ N
 | .vt t=>g t (freeze δ) N
 | .ol ts=>g (.lst ts) δ N
def Ir (we:WE)(g:WG):WS:=fun D δ=>we δ fun s=>Io g δ D.nx s
def Ip (i j:Nat)(wa:WA):WS:=fun D δ=>wa δ fun ss=>match ss with
 | [.t x,.t y]=>D.nx ((δ.set i (some (.t x))).set j (some (.t y)))
 | _=>False
def e9 (i:Nat)(we:WE):WS:=fun D δ=>match δ[i]? with
 | some (some (.ol ts))=>we δ fun s=>match s with
  | .t x=>ts.length<100000/\D.nx (δ.set i (some (.ol (ts++[x]))))
  | _=>False
 | _=>False
def Iq (i:Nat):WS:=fun D δ=>match δ[i]? with
 | some (some (.ol ts))=>ts≠[]/\D.nx (δ.set i (some (.ol ts.dropLast)))
 | _=>False
def jl (i:Nat)(we wv:WE):WS:=fun D δ=>match δ[i]? with
 | some (some (.ol ts))=>wv δ fun v=>we δ fun s=>match v,s with
  | .t x,.t (.int k)=>match pz ts.length k with
   | some j=>D.nx (δ.set i (some (.ol (ts.set j x))))
   | none=>False
  | _,_=>False
 | _=>False
section
variable {X:Cx}{st:Stmt}{rest:List Stmt}{w u:WS}{e:Expr}{we:WE}{pos:Pos}{H₀:Hp}
theorem aC:j8 X [] (bO X.K H₀ aY):=HA.imp fun D σ H ⟨δ,D',F,_,rl,h,ok⟩=>ok.nx σ F H δ (aM.refl _) rl h
theorem ai (h1:PS X st (bO X.K H₀ w))(h2:j8 X rest (bO X.K H₀ u)):j8 X (st::rest) (bO X.K H₀ (aH w u)):=
 (uZ h1 h2).imp fun D σ H ⟨δ,D',F,s0,rl,h,ok⟩=>⟨δ,_,F,s0,rl,h,⟨fun σ' F' H' δ' ff rl' h'=>⟨δ',D',F',s0.trans ff,rl',h',ok.mono ff⟩,ok.rt,ok.bk,ok.ct⟩⟩
theorem aB (h1:PS X st (bO X.K H₀ w))(h2:j8 X rest (bO X.K H₀ u)):j8 X (st::rest) (bO X.K H₀ (bH w u)):=
 (uZ h1 h2).imp fun D σ H ⟨δ,D',F,s0,rl,⟨M,h,hk⟩,ok⟩=>⟨δ,_,F,s0,rl,h,⟨fun σ' F' H' δ' ff rl' h'=>⟨δ',D',F',s0.trans ff,rl',hk δ' h',ok.mono ff⟩,ok.rt,ok.bk,ok.ct⟩⟩
theorem aj (h1:PS X st (bO X.K H₀ w)):j8 X [st] (bO X.K H₀ w):=HB h1
theorem ko:PS X st (bO X.K H₀ oD):=EU.imp fun D σ H ⟨δ,D',F,_,rl,h,ok⟩=>h
theorem aq {i:Nat}{x:Str}{pos':Pos}(hN:X.N.Nodup)(he:PE X e (au X.K we))(hi:X.N[i]?=some x:=by rfl)(hx:Loc X.env.scope x:=by first|exact Or.inl rfl|exact Or.inr rfl)(hs:swapsWith e (some (.Name x pos')) pos.line X.env=pure false:=by rfl)(hf:X.fn x=true\/X.env.scope.names.lookup x=some .local:=by first|exact .inl rfl|exact .inr rfl|assumption) :
  PS X (.Assign [.Name x pos'] e pos) (bO X.K H₀ (aN i we)):=
 (LC hN hi hx he hs hf).imp fun D σ H ⟨δ,D',F,s0,rl,h,ok⟩=>⟨δ,_,F,rl,h,fun v F1 H1 s e p q=>by
  obtain⟨F2,ff,r2⟩:=rl.setS i e p;exact ok.nx _ F2 H1 _ ff r2 q⟩
theorem a5 {c:Expr}{a b:List Stmt}{t:WT}(hc:PT X c (liftT X.K t))(ha:j8 X a (bO X.K H₀ w))(hb:j8 X b (bO X.K H₀ u)):PS X (.If c a b pos) (bO X.K H₀ (eZ t w u)):=
 (N6 hc ha hb).imp fun D σ H ⟨δ,D',F,s0,rl,h,ok⟩=>⟨δ,_,F,rl,h,fun F1 H1 k e q=>by
  cases k with
  | true=>exact⟨δ,D',F1,s0.trans e.ff,rl.ext e,by simpa using q,ok.mono e.ff⟩
  | false=>exact⟨δ,D',F1,s0.trans e.ff,rl.ext e,by simpa using q,ok.mono e.ff⟩⟩
theorem LJ {K:PySem.W.Frag}{F H F1 H1:Hp}(s0:aM H₀ H)(e:dh F H F1 H1):∀ {s:S}{v:V},dA K H F1 H1 s v->Bb K H₀ H1 (out s) v
 | .t _,_,h=>ay.same e.sub h
 | .vt _,_,h=>h
 | .ol _,_,⟨a,xs,h1,h2,_,h3,h4⟩=>⟨a,xs,h1,aK s0 h2,h3,ao.same e.sub h4⟩
theorem aE (he:PE X e (au X.K we)):PS X (.Return (some e) pos) (bO X.K H₀ (bu we)):=
 (EV he).imp fun D σ H ⟨δ,D',F,s0,rl,h,ok⟩=>⟨δ,_,F,rl,h,fun v F1 H1 s e p q=>ok.rt v H1 _ ((s0.trans rl.sub).trans e.hh) (LJ (s0.trans rl.sub) e p) q⟩
theorem Fg {K:PySem.W.Frag}{F H:Hp}(s0:aM H₀ F)(sb:aM F H):∀ {s:S}{v:V},g8 K F H s v->Bb K H₀ H s v
 | .t _,_,h=>ay.same sb h
 | .vt _,_,h=>False.elim h
 | .ol _,_,⟨a,xs,h1,h2,h3,h4⟩=>⟨a,xs,h1,aK s0 h2,h3,ao.same sb h4⟩
def OE (we:WE):WS:=fun D δ=>we (freeze δ) fun s=>D.rt (out s)
theorem hW {i:Nat}(he:PE X e (va i)):PS X (.Return (some e) pos) (bO X.K H₀ (jP i)):=
 (EV he).imp fun D σ H ⟨δ,D',F,s0,rl,h,ok⟩=>by
  unfold jP at h
  split at h
  ·rename_i s hs;obtain⟨v,h1,h2⟩:=rl.slot i s hs;exact⟨v,h1,ok.rt v H s (s0.trans rl.sub) (Fg s0 rl.sub h2) h⟩
  ·exact h.elim
theorem xU (he:PE X e (au X.K we))(hs:swapsWith e none pos.line X.env=pure false:=by rfl):PS X (.Expr e pos) (bO X.K H₀ (yR we)):=
 (mK he hs).imp fun D σ H ⟨δ,D',F,s0,rl,h,ok⟩=>⟨δ,_,F,rl,h,fun v F1 H1 s e p q=>ok.nx σ F1 H1 δ e.ff (rl.ext e) q⟩
theorem ni {c:Expr}{body:List Stmt}{t:WT}{wb:WS}(hp:PassesOwn (model X.prog X.w) X.A X.env X.xe)(hc:PT X c (liftT X.K t))(hb:j8 X body (bO X.K H₀ wb)):PS X (.While c body [] pos) (bO X.K H₀ (sZ t wb)):=
 (EW hp hc hb).imp fun D σ H ⟨δ,D',F,s0,rl,⟨I,⟨n,h⟩,step⟩,ok⟩=>by
  refine⟨fun m σ H=>∃ δ F1,aM F F1/\Rel X.K F1 H σ δ/\I m δ,⟨n,δ,F,aM.refl _,rl,h⟩,?_⟩;rintro m σ H ⟨δ,F1,f1,rl,h⟩;refine⟨δ,_,F1,rl,step m δ h,fun F2 H2 k e q=>?_⟩
  cases k with
  | true=>
   refine⟨fun σ' H'=>∃ δ F1 j,j<m/\aM F F1/\Rel X.K F1 H' σ' δ/\I j δ,fun σ' H' ⟨δ',F',j,hj,a1,a2,a3⟩=>⟨j,hj,δ',F',a1,a2,a3⟩,?_⟩;refine⟨δ,{nx:=fun δ'=>∃ j,j<m/\I j δ',rt:=D'.rt,bk:=D'.nx,ct:=fun δ'=>∃ j,j<m/\I j δ'},F2,(s0.trans f1).trans e.ff,rl.ext e,by simpa using q,⟨fun σ' F' H' δ' ff r' ⟨j,hj,h'⟩=>⟨δ',F',j,hj,(f1.trans e.ff).trans ff,r',h'⟩,ok.rt,fun σ' F' H' δ' ff r' h'=>ok.nx σ' F' H' δ' ((f1.trans e.ff).trans ff) r' h',fun σ' F' H' δ' ff r' ⟨j,hj,h'⟩=>⟨δ',F',j,hj,(f1.trans e.ff).trans ff,r',h'⟩⟩⟩
  | false=>exact ok.nx σ F2 H2 δ (f1.trans e.ff) (rl.ext e) (by simpa using q)
end
def ma (K:PySem.W.Frag)(g:WG):TG:=fun v σ H Q=>∃ t δ R F,ay K F t v/\Rel K F H σ δ/\g t δ R/\∀ σ' δ',Rel K F H σ' δ'->R δ'->Q σ' H
def sA (K:PySem.W.Frag)(g:List T->aT->(aT->Prop)->Prop):FI:=fun vs σ H Q=>∃ ts δ R F,ao K F ts vs/\Rel K F H σ δ/\g ts δ R/\∀ σ' δ',Rel K F H σ' δ'->R δ'->Q σ' H
section
variable {X:Cx}{pos:Pos}{H₀:Hp}
theorem aR {i:Nat}{x:Str}(hN:X.N.Nodup)(hi:X.N[i]?=some x:=by rfl)(hx:Loc X.env.scope x:=by first|exact Or.inl rfl|exact Or.inr rfl)(hf:X.fn x=true\/X.env.scope.names.lookup x=some .local:=by first|exact .inl rfl|exact .inr rfl|assumption):PG X (.Name x pos) (ma X.K (aU i)):=
 (Hs hN hi hx hf).imp fun v σ H Q ⟨t,δ,R,F,p,rl,h,k⟩=>k _ _ (rl.put (s:=.t t) p (fun _ z=>by cases z)) h
theorem qW:A9 X [] (sA X.K mf):=Ht.imp fun v σ H Q ⟨ts,δ,R,F,p,rl,h,k⟩=>by
 unfold mf at h
 split at h
 ·cases (show v=[] from p)
  exact⟨rfl,k σ δ rl h⟩
 ·exact h.elim
theorem gC {e:Expr}{es:List Expr}{g:WG}{gr:List T->aT->(aT->Prop)->Prop}(h1:PG X e (ma X.K g))(h2:A9 X es (sA X.K gr))
  (hs:(assignEach (e::es) X.env).map (·.2)=assign e X.env::(assignEach es X.env).map (·.2):=by rfl):A9 X (e::es) (sA X.K (fK g gr)):=
 (EO h1 h2 hs).imp fun v σ H Q ⟨ts,δ,R,F,p,rl,h,k⟩=>by
  unfold fK at h
  split at h
  ·rename_i t r;obtain⟨x,vr,e1,p1,p2⟩:=p;exact⟨x,vr,e1,t,δ,_,F,p1,rl,h,fun σ' δ' rl' h'=>⟨r,δ',R,F,p2,rl',h',k⟩⟩
  ·exact h.elim
theorem v8 {es:List Expr}{k:Nat}{g:List T->aT->(aT->Prop)->Prop}{n:Nat}(h:A9 X es (sA X.K g))(hl:∀ ts δ R,g ts δ R->ts.length=n)(hc:X.calm=true:=by rfl)
  (hn:(assignEach es X.env).length=n:=by rfl) (hst:(assignEach es X.env).findIdx? (·.1)=none:=by rfl):PG X (.Tuple es k pos) (ma X.K (qw g)):=
 (Lw hc h hn hst).imp fun v σ H Q ⟨t,δ,R,F,p,rl,h,k⟩=>by
  unfold qw at h
  split at h
  ·rename_i ts;obtain⟨a,xs,e1,p1,p2⟩:=p;exact⟨a,xs,e1,aM.sqT rl.sub a xs p1,by rw[p2.length];exact hl ts δ R h,ts,δ,R,F,p2,rl,h,k⟩
  ·exact h.elim
theorem sr:∀ ts δ R,mf ts δ R->ts.length=0:=fun ts δ R h=>by
 unfold mf at h
 split at h
 ·rfl
 ·exact h.elim
theorem gE {n:Nat}{i:Nat}{gr:List T->aT->(aT->Prop)->Prop}(hr:∀ ts δ R,gr ts δ R->ts.length=n):∀ ts δ R,fK (aU i) gr ts δ R->ts.length=n+1:=fun ts δ R h=>by
 unfold fK at h
 split at h
 ·rw[List.length_cons,hr _ _ _ h]
 ·exact h.elim
theorem BQ {tg e:Expr}{we:WE}{g:WG}(he:PE X e (au X.K we))(hg:PG X tg (ma X.K g))(hs:swapsWithSole [tg] e pos.line X.env=pure false:=by rfl)(hw:swappedStores [tg] e X.env=pure none:=by rfl)
  (h1:(assignEach [tg] X.env).map (·.2)=[assign tg X.env]:=by rfl):PS X (.Assign [tg] e pos) (bO X.K H₀ (Ir we g)):=
 (ET he hg hs hw h1).imp fun D σ H ⟨δ,D',F,s0,rl,h,ok⟩=>⟨δ,_,F,rl,h,fun v F1 H1 s e p q=>by
  cases s with
  | t t=>exact⟨t,δ,_,F1,p,rl.ext e,q,fun σ' δ' rl' h'=>ok.nx σ' F1 H1 δ' e.ff rl' h'⟩
  | vt t=>exact⟨t,freeze δ,_,H1,p,(rl.ext e).freeze,q,fun σ' δ' rl' h'=>ok.nx σ' H1 H1 δ' (e.ff.trans e.sub) rl' h'⟩
  | ol ts=>
   obtain⟨rl2,r2⟩:=rl.thaw e p;refine⟨.lst ts,δ,_,_,?_,rl2,q,fun σ' δ' rl' h'=>ok.nx σ' _ H1 δ' r2.1 rl' h'⟩;unfold ay;exact r2.2⟩
theorem BP {i j:Nat}{x y:Str}{a b:Expr}{wa:WA}{px py pt:Pos}{kt k2 pt2}(hN:X.N.Nodup)(ha:PA X [a,b] (dD X.K wa))(hi:X.N[i]?=some x:=by rfl)(hj:X.N[j]?=some y:=by rfl)(hij:i≠j:=by decide)
  (hx:X.env.scope.names.lookup x=some .local:=by rfl) (hy:X.env.scope.names.lookup y=some .local:=by rfl)
  (hw:swappedStores [.Tuple [.Name x px,.Name y py] kt pt] (.Tuple [a,b] k2 pt2) X.env=pure (some [x,y]):=by rfl) (hc:X.calm=true:=by rfl)
  (hs:swapsWithSole [.Tuple [.Name x px,.Name y py] kt pt] (.Tuple [a,b] k2 pt2) pos.line X.env=pure false:=by rfl) :
  PS X (.Assign [.Tuple [.Name x px,.Name y py] kt pt] (.Tuple [a,b] k2 pt2) pos) (bO X.K H₀ (Ip i j wa)):=
 (LB hc hN hi hj hij hx hy ha hw hs).imp fun D σ H ⟨δ,D',F,s0,rl,h,ok⟩=>⟨δ,_,F,rl,h,fun vs F1 H1 ss e p q=>by
  split at q
  ·rename_i t u;obtain⟨v1,r1,e1,p1,v2,r2,e2,p2,p3⟩:=p
   cases (show r2=[] from p3)
   exact⟨v1,v2,by rw[e1,e2],ok.nx _ F1 H1 _ e.ff (((rl.ext e).put (i:=i) (s:=.t t) p1 (fun _ z=>by cases z)).put (i:=j) (s:=.t u) p2 (fun _ z=>by cases z)) q⟩
  ·exact q.elim⟩
end
def FD (K:PySem.W.Frag)(F:Hp)(J:It)(ts:List T):Prop:=
 ∀ F1 H1 i,aM F F1->aM F1 H1->gv F1 H1->(∀ t,ts[i]?=some t->J.go i H1/\∀ x H2,J.yld i H1 x H2->∃ F2,dh F1 H1 F2 H2/\ay K F2 t x)/\(ts.length<=i->J.stop i H1)
def nN (K:PySem.W.Frag)(w:WI):TI:=fun σ H R=>∃ δ W F,Rel K F H σ δ/\w δ W/\∀ J F0 F' H' ts δ',dh F H F0 H'->aM F0 F'->Rel K F' H' σ δ'->FD K F' J ts->W ts δ'->R J H'
theorem t0 {α:Type}{l:List α}{i:Nat}{x:α}{r:List α}(h:l.drop i=x::r):l[i]?=some x/\l.drop (i+1)=r:=by
 constructor
 ·rw[<-List.head?_drop,h];rfl
 ·rw[<-List.tail_drop,h];rfl
section
variable {X:Cx}{pos:Pos}{H₀:Hp}{tg:Expr}
theorem bV {iter:Expr}{body:List Stmt}{wi:WI}{g:WG}{wb:WS}(hp:PassesOwn (model X.prog X.w) X.A X.env X.xe)(hi:PI X tg iter (nN X.K wi))(hg:PG X tg (ma X.K g))(hb:j8 X body (bO X.K H₀ wb))(hc:X.calm=true:=by rfl)
  (hs:∀ x,foldedSetIterable iter X.env x=pure x:=by intro _;rfl):PS X (.For tg iter body [] pos) (bO X.K H₀ (fJ wi g wb)):=
 (LA hp hc hi hg hb hs).imp fun D σ H ⟨δ,D',F,s0,rl,h,ok⟩=>⟨δ,_,F,rl,h,fun J F0 F1 H1 ts δ1 e0 f01 rl1 it q=>by
  have f1:aM F F1:=e0.ff.trans f01;obtain⟨W,w0,wend,wstep⟩:=q;refine⟨fun i m σ H=>m=ts.length-i/\i<=ts.length/\∃ δ F2,aM F1 F2/\Rel X.K F2 H σ δ/\W (ts.drop i) δ,⟨ts.length,by simp,Nat.zero_le _,δ1,F1,aM.refl _,rl1,by simpa using w0⟩,?_⟩
  rintro i m σ H ⟨rfl,hi,δ,F2,f2,rl,h⟩;obtain⟨hgo,hstop⟩:=it F2 H i f2 rl.sub rl.full
  cases hd:ts.drop i with
  | nil=>
   rw[hd]at h;have:ts.length<=i:=by simpa using hd
   exact .inl ⟨hstop this,ok.nx σ F2 H δ (f1.trans f2) rl (wend δ h)⟩
  | cons x r=>
   rw[hd]at h;obtain⟨h1,h2⟩:=t0 hd;obtain⟨go,yld⟩:=hgo x h1;have hlt:i<ts.length:=by
    have:=congrArg List.length hd;simp at this;omega
   have nexts:∀ σ' F' H' δ',aM F1 F'->Rel X.K F' H' σ' δ'->W r δ'->∃ m',m'<ts.length-i/\(m'=ts.length-(i+1)/\i+1<=ts.length/\∃ δ F2,aM F1 F2/\Rel X.K F2 H' σ' δ/\W (ts.drop (i+1)) δ):=
    fun σ' F' H' δ' ff rl' h'=>⟨ts.length-(i+1),by omega,rfl,hlt,δ',F',ff,rl',by rw[h2];exact h'⟩
   refine .inr ⟨go,fun σ' H'=>∃ δ F2,aM F1 F2/\Rel X.K F2 H' σ' δ/\W r δ,fun σ' H' ⟨δ',F',ff,rl',h'⟩=>nexts σ' F' H' δ' ff rl' h',fun v H2 y=>?_⟩;obtain⟨F3,e3,p3⟩:=yld v H2 y;refine⟨x,δ,_,F3,p3,rl.ext e3,wstep x r δ h,fun σ' δ' rl' h'=>?_⟩;exact⟨δ',_,F3,((s0.trans f1).trans f2).trans e3.ff,rl',h',⟨fun σ'' F'' H'' δ'' ff rl'' h''=>⟨δ'',F'',(f2.trans e3.ff).trans ff,rl'',h''⟩,ok.rt,fun σ'' F'' H'' δ'' ff rl'' h''=>ok.nx σ'' F'' H'' δ'' (((f1.trans f2).trans e3.ff).trans ff) rl'' h'',fun σ'' F'' H'' δ'' ff rl'' h''=>⟨δ'',F'',(f2.trans e3.ff).trans ff,rl'',h''⟩⟩⟩⟩
def qd (δ:aT)(W:List T->aT->Prop):S->Prop
 | .t (.lst ts)=>W ts δ
 | .vt (.lst ts)=>W ts (freeze δ)
 | .ol ts=>W ts δ
 | _=>False
def b9 (we:WE):WI:=fun δ W=>we δ fun s=>qd δ W s
theorem rX {K:PySem.W.Frag}{F:Hp}{a:Addr}{xs:List V}{ts:List T}(h:dR K F a xs)(r:ao K F ts xs):FD K F (OX K a) ts:=by
 intro F1 H1 i f1 sb fu;have q:dR K H1 a xs:=sb.seq (f1.seq h);refine⟨fun t ht=>?_,fun hl=>⟨xs,q,by rw[r.length];exact hl⟩⟩
 obtain⟨x,h1,h2⟩:=r.get ht;refine⟨⟨xs,x,q,h1⟩,fun y H2 hy=>?_⟩;obtain⟨e,hy⟩:=hy;subst e;have:=hy xs q;rw[h1]at this
 cases this
 exact⟨F1,dh.refl sb fu,ay.same f1 h2⟩
end
end DL
namespace DL
open PySem L2
mutual
def eqT:T->T->Bool
 | .non,.non=>true
 | .bl a,.bl b=>a == b
 | .bl a,.int b=>(if a then 1 else 0) == b
 | .int a,.bl b=>a == (if b then 1 else 0)
 | .int a,.int b=>a == b
 | .str a,.str b=>a == b
 | .tup a,.tup b=>cC a b
 | .lst a,.lst b=>cC a b
 | _,_=>false
def cC:List T->List T->Bool
 | [],[]=>true
 | a::r,b::s=>eqT a b && cC r s
 | _,_=>false
end
mutual
def dj:T->Nat
 | .tup ts=>fP ts+1
 | .lst ts=>fP ts+1
 | .exc _=>1000
 | _=>0
def fP:List T->Nat
 | []=>0
 | t::r=>max (dj t) (fP r)
end
mutual
theorem nr:∀ t:T,dj t<1000->eqT t t=true
 | .non,_=>rfl
 | .bl b,_=>by simp[eqT]
 | .int i,_=>by simp[eqT]
 | .str x,_=>by simp[eqT]
 | .tup ts,h=>by simp only[eqT];exact lI ts (by simp only[dj]at h;omega)
 | .lst ts,h=>by simp only[eqT];exact lI ts (by simp only[dj]at h;omega)
 | .exc _,h=>by simp[dj]at h
theorem lI:∀ ts:List T,fP ts<1000->cC ts ts=true
 | [],_=>by simp[cC]
 | t::r,h=>by
  simp only[fP]at h;simp only[cC,nr t (by omega),lI r (by omega)];rfl
end
section
variable {X:Cx}{pins:List (Addr × Obj)}{σ:St}{H:Hp}{s:Shared}
theorem uk (I:aP X pins σ H s){a:Addr}{xs ys:List V}(h:jH X.K H a xs)(g:dR X.K H a ys):False:=by
 obtain⟨its,_,p1,_⟩:=I.tuple h;obtain⟨its2,_,p2,_⟩:=I.list g;exact SeqAt.ne_of_list_tuple p2.isList p1 rfl
mutual
theorem ay.inj (I:aP X pins σ H s):∀ (t u:T) (v:V),dj t<1000->dj u<1000->ay X.K H t v->ay X.K H u v->t=u
 | .non,u,v,_,_,h,g=>by cases (show v=_ from h);cases u with
  | non=>rfl
  | tup ts=>unfold ay at g;obtain⟨_,_,e,_⟩:=g;cases e
  | lst ts=>unfold ay at g;obtain⟨_,_,e,_⟩:=g;cases e
  | exc c=>unfold ay at g;obtain⟨_,_,e,_⟩:=g;cases e
  | _=>cases g
 | .bl b,u,v,_,_,h,g=>by cases (show v=_ from h);cases u with
  | bl c=>cases g;rfl
  | tup ts=>unfold ay at g;obtain⟨_,_,e,_⟩:=g;cases e
  | lst ts=>unfold ay at g;obtain⟨_,_,e,_⟩:=g;cases e
  | exc c=>unfold ay at g;obtain⟨_,_,e,_⟩:=g;cases e
  | _=>cases g
 | .int b,u,v,_,_,h,g=>by cases (show v=_ from h);cases u with
  | int c=>cases g;rfl
  | tup ts=>unfold ay at g;obtain⟨_,_,e,_⟩:=g;cases e
  | lst ts=>unfold ay at g;obtain⟨_,_,e,_⟩:=g;cases e
  | exc c=>unfold ay at g;obtain⟨_,_,e,_⟩:=g;cases e
  | _=>cases g
 | .str b,u,v,_,_,h,g=>by cases (show v=_ from h);cases u with
  | str c=>cases g;rfl
  | tup ts=>unfold ay at g;obtain⟨_,_,e,_⟩:=g;cases e
  | lst ts=>unfold ay at g;obtain⟨_,_,e,_⟩:=g;cases e
  | exc c=>unfold ay at g;obtain⟨_,_,e,_⟩:=g;cases e
  | _=>cases g
 | .tup ts,u,v,d1,d2,h,g=>by
  unfold ay at h;obtain⟨a,xs,e,h1,h2⟩:=h;subst e
  cases u with
  | tup us=>
   unfold ay at g;obtain⟨b,ys,e,g1,g2⟩:=g
   cases e
   have:=I.tuple_inj h1 g1;subst this;rw[ao.inj I ts us xs (by simp only[dj]at d1;omega) (by simp only[dj]at d2;omega) h2 g2]
  | lst us=>
   unfold ay at g;obtain⟨b,ys,e,g1,g2⟩:=g
   cases e
   exact(uk I h1 g1).elim
  | exc c=>simp[dj]at d2
  | _=>cases g
 | .lst ts,u,v,d1,d2,h,g=>by
  unfold ay at h;obtain⟨a,xs,e,h1,h2⟩:=h;subst e
  cases u with
  | lst us=>
   unfold ay at g;obtain⟨b,ys,e,g1,g2⟩:=g
   cases e
   have:=I.list_inj h1 g1;subst this;rw[ao.inj I ts us xs (by simp only[dj]at d1;omega) (by simp only[dj]at d2;omega) h2 g2]
  | tup us=>
   unfold ay at g;obtain⟨b,ys,e,g1,g2⟩:=g
   cases e
   exact(uk I g1 h1).elim
  | exc c=>simp[dj]at d2
  | _=>cases g
 | .exc _,_,_,d1,_,_,_=>by simp[dj]at d1
theorem ao.inj (I:aP X pins σ H s):∀ (ts us:List T) (xs:List V),fP ts<1000->fP us<1000->ao X.K H ts xs->ao X.K H us xs->ts=us
 | [],us,xs,_,_,h,g=>by
  cases (show xs=[] from h)
  cases us with
  | nil=>rfl
  | cons u us=>obtain⟨_,_,e,_⟩:=g;cases e
 | t::ts,us,xs,d1,d2,⟨x,r,e,h1,h2⟩,g=>by
  subst e
  cases us with
  | nil=>cases (show _=[] from g)
  | cons u us=>
   obtain⟨y,r',e,g1,g2⟩:=g
   cases e
   simp only[fP]at d1 d2;rw[ay.inj I t u x (by omega) (by omega) h1 g1,ao.inj I ts us r (by omega) (by omega) h2 g2]
end
def mj (ts us:List T)(j:Nat):Bool:=match ts[j]?,us[j]? with
 | some a,some b=>eqT a b
 | _,_=>true
theorem n5 (n:Nat)(e:Nat->Bool):(List.range (n+1)).all e=(e 0 && (List.range n).all fun j=>e (j+1)):=by
 rw[List.range_succ_eq_map,List.all_cons,List.all_map];rfl
theorem nt:∀ (ts us:List T),((List.range (min ts.length us.length)).all (mj ts us) && ts.length == us.length)=cC ts us
 | [],[]=>by simp[cC]
 | [],u::us=>by simp[cC]
 | t::ts,[]=>by simp[cC]
 | t::ts,u::us=>by
  have ih:=nt ts us;have e1:min (t::ts).length (u::us).length=min ts.length us.length+1:=by simp only[List.length_cons];omega
  rw[e1,n5];have e2:mj (t::ts) (u::us) 0=eqT t u:=by simp[mj]
  have e3:(fun j=>mj (t::ts) (u::us) (j+1))=mj ts us:=by funext j;simp[mj]
  have e4:((t::ts).length == (u::us).length)=(ts.length == us.length):=by simp
  rw[e2,e3,e4];simp only[cC];rw[<-ih,Bool.and_assoc]
theorem units_in1 (A:Around):A.in1.units=A.units+1:=rfl
theorem tZ:∀ {ts:List T}{j:Nat}{t:T},ts[j]?=some t->dj t<=fP ts
 | [],_,_,h=>by simp at h
 | t::ts,0,u,h=>by simp at h;subst h;simp only[fP];omega
 | t::ts,j+1,u,h=>by
  have:=tZ (ts:=ts) (j:=j) (t:=u) (by simpa using h)
  simp only[fP];omega
theorem sO {A:Around}{ts us:List T}{xs ys:List V}{its its2:List Value}(h1:ao X.K H ts xs)(h2:ao X.K H us ys)(r1:aQ xs its)(r2:aQ ys its2)
  (ih:∀ t u v1 v2 u1 u2,t∈ts->u∈us->ay X.K H t v1->ay X.K H u v2->RelV v1 u1->RelV v2 u2->SeqAt.EqAt A s u1 u2 (eqT t u)) :
  ∀ j (h1:j<its.toArray.size) (h2:j<its2.toArray.size),SeqAt.EqAt A s its.toArray[j] its2.toArray[j] (mj ts us j):=by
 intro j q1 q2;have l1:=h1.length;have l2:=h2.length;have l3:=r1.length;have l4:=r2.length;rw[List.size_toArray]at q1 q2;have g1:j<ts.length:=by omega
 have g2:j<us.length:=by omega
 obtain⟨x,p1,p2⟩:=h1.get (List.getElem?_eq_getElem g1);obtain⟨y,p3,p4⟩:=h2.get (List.getElem?_eq_getElem g2);obtain⟨w1,p5,p6⟩:=r1.get p1;obtain⟨w2,p7,p8⟩:=r2.get p3;have e1:its.toArray[j]=w1:=by
  have:=List.getElem?_eq_getElem q1;rw[p5]at this;simpa using (Option.some.inj this).symm
 have e2:its2.toArray[j]=w2:=by
  have:=List.getElem?_eq_getElem q2;rw[p7]at this;simpa using (Option.some.inj this).symm
 have e3:mj ts us j=eqT ts[j] us[j]:=by
  unfold mj;rw[List.getElem?_eq_getElem g1,List.getElem?_eq_getElem g2]
 rw[e1,e2,e3];exact ih _ _ x y w1 w2 (List.getElem_mem g1) (List.getElem_mem g2) p2 p4 p6 p8
theorem iu {ts:List T}{t:T}(h:t∈ts):dj t<=fP ts:=by
 obtain⟨j,hj,rfl⟩:=List.mem_iff_getElem.mp h;exact tZ (List.getElem?_eq_getElem hj)
theorem wf {ts us:List T}(h:ts.length=us.length):(List.range ts.length).all (mj ts us)=cC ts us:=by
 have:=nt ts us;rw[<-h]at this;simpa using this
theorem t5:∀ {ts us:List T},ts.length≠us.length->cC ts us=false
 | [],[],h=>absurd rfl h
 | [],_::_,_=>by simp[cC]
 | _::_,[],_=>by simp[cC]
 | t::ts,u::us,h=>by
  simp only[cC];rw[t5 (ts:=ts) (us:=us) (by simpa using h),Bool.and_false]
theorem Of {A:Around}{a b:Addr}{ts us:List T}{xs ys:List V}{its its2:List Value}(p2:ao X.K H ts xs)(g2:ao X.K H us ys)(q1:aQ xs its)(q2:aQ ys its2)(pl:PyProof.Rows.IsTup s.heap a its.toArray)(pl2:PyProof.Rows.IsTup s.heap b its2.toArray)(hu':A.units<cLine)
  (ih:∀ t u v1 v2 u1 u2,t∈ts->u∈us->ay X.K H t v1->ay X.K H u v2->RelV v1 u1->RelV v2 u2->SeqAt.EqAt A.in1 s u1 u2 (eqT t u)) :
  SeqAt.RcAt A s (.ref a) (.ref b) (cC ts us)/\SeqAt.RcNeAt A s (.ref a) (.ref b) (!cC ts us):=by
 have h1:=SeqAt.RcAt.tuples (A:=A) (e:=mj ts us) pl pl2 hu' (sO p2 g2 q1 q2 ih);have h2:=SeqAt.RcNeAt.tuples (A:=A) (e:=mj ts us) pl pl2 hu' (sO p2 g2 q1 q2 ih);rw[List.size_toArray,List.size_toArray,<-q1.length,<-q2.length,p2.length,g2.length,nt]at h1 h2;exact⟨h1,h2⟩
theorem Oe {A:Around}{a b:Addr}{ts us:List T}{xs ys:List V}{its its2:List Value}(p2:ao X.K H ts xs)(g2:ao X.K H us ys)(q1:aQ xs its)(q2:aQ ys its2)(pl:PlainL s.heap a its.toArray)(pl2:PlainL s.heap b its2.toArray)(hu':A.units<cLine)
  (ih:∀ t u v1 v2 u1 u2,t∈ts->u∈us->ay X.K H t v1->ay X.K H u v2->RelV v1 u1->RelV v2 u2->SeqAt.EqAt A.in1 s u1 u2 (eqT t u)) :
  SeqAt.RcAt A s (.ref a) (.ref b) (cC ts us)/\SeqAt.RcNeAt A s (.ref a) (.ref b) (!cC ts us):=by
 have e1:its.toArray.size=ts.length:=by rw[List.size_toArray,<-q1.length,p2.length]
 have e2:its2.toArray.size=us.length:=by rw[List.size_toArray,<-q2.length,g2.length]
 by_cases hl:ts.length=us.length
 ·have hp:=sO (A:=A.in1) p2 g2 q1 q2 ih;have g1:=SeqAt.RcAt.lists pl.isList pl2.isList (by rw[e1,e2,hl]) hu' hp
  have g2:=SeqAt.RcNeAt.lists pl.isList pl2.isList (by rw[e1,e2,hl]) hu' hp
  rw[e1,wf hl]at g1 g2;exact⟨g1,g2⟩
 ·have ne:(its.toArray.size != its2.toArray.size)=true:=by rw[e1,e2];simpa using hl
  rw[t5 hl];exact⟨SeqAt.RcAt.lists_lengths pl.isList pl2.isList ne hu',SeqAt.RcNeAt.lists_lengths pl.isList pl2.isList ne hu'⟩
theorem n8 (I:aP X pins σ H s):∀ (n:Nat) (A:Around) (t u:T) (v1 v2:V) (u1 u2:Value),dj t<=n->dj u<1000->n<1000->A.units+n<cLine->ay X.K H t v1->ay X.K H u v2->RelV v1 u1->RelV v2 u2 →
  SeqAt.RcAt A s u1 u2 (eqT t u)/\SeqAt.RcNeAt A s u1 u2 (!eqT t u)/\SeqAt.EqAt A s u1 u2 (eqT t u):=by
 intro n
 induction n with
 | zero=>
  intro A t u v1 v2 u1 u2 hd hd2 hn hu h1 h2 r1 r2;have hu':A.units<cLine:=by omega
  cases t with
  | tup ts=>simp only[dj]at hd;omega
  | lst ts=>simp only[dj]at hd;omega
  | exc c=>simp[dj]at hd
  | non=>
   cases h1;cases r1
   cases u with
   | non=>cases h2;cases r2;exact⟨SeqAt.RcAt.none_none,SeqAt.RcNeAt.none_none,SeqAt.EqAt.same _⟩
   | bl b=>cases h2;cases r2;exact⟨SeqAt.RcAt.none_bool b,SeqAt.RcNeAt.none_bool b,SeqAt.EqAt.none_bool b⟩
   | int b=>cases h2;obtain⟨tk,rfl⟩:=r2;exact⟨SeqAt.RcAt.none_int b tk,SeqAt.RcNeAt.none_int b tk,SeqAt.EqAt.none_int b tk⟩
   | str b=>cases h2;obtain⟨tk,rfl⟩:=r2;exact⟨SeqAt.RcAt.none_str b tk,SeqAt.RcNeAt.none_str b tk,SeqAt.EqAt.none_str b tk⟩
   | tup us=>
    unfold ay at h2;obtain⟨a,xs,rfl,g1,g2⟩:=h2
    cases r2
    obtain⟨its,_,pl,_⟩:=I.tuple g1;exact⟨SeqAt.RcAt.none_tuple pl hu',SeqAt.RcNeAt.none_tuple pl hu',SeqAt.EqAt.none_tuple pl hu'⟩
   | lst us=>
    unfold ay at h2;obtain⟨a,xs,rfl,g1,g2⟩:=h2
    cases r2
    obtain⟨its,_,pl,_⟩:=I.list g1;exact⟨SeqAt.RcAt.none_list pl.isList hu',SeqAt.RcNeAt.none_list pl.isList hu',SeqAt.EqAt.none_list pl.isList hu'⟩
   | exc c=>simp[dj]at hd2
  | bl c=>
   cases h1;cases r1
   cases u with
   | non=>cases h2;cases r2;exact⟨SeqAt.RcAt.bool_none c,SeqAt.RcNeAt.bool_none c,SeqAt.EqAt.bool_none c⟩
   | bl b=>cases h2;cases r2;exact⟨SeqAt.RcAt.bool_bool c b,SeqAt.RcNeAt.bool_bool c b,SeqAt.EqAt.bool_bool c b⟩
   | int b=>cases h2;obtain⟨tk,rfl⟩:=r2;exact⟨SeqAt.RcAt.bool_int c b tk,SeqAt.RcNeAt.bool_int c b tk,SeqAt.EqAt.bool_int c b tk⟩
   | str b=>cases h2;obtain⟨tk,rfl⟩:=r2;exact⟨SeqAt.RcAt.bool_str c b tk,SeqAt.RcNeAt.bool_str c b tk,SeqAt.EqAt.bool_str c b tk⟩
   | tup us=>
    unfold ay at h2;obtain⟨a,xs,rfl,g1,g2⟩:=h2
    cases r2
    obtain⟨its,_,pl,_⟩:=I.tuple g1;exact⟨SeqAt.RcAt.bool_tuple c pl hu',SeqAt.RcNeAt.bool_tuple c pl hu',SeqAt.EqAt.bool_tuple c pl hu'⟩
   | lst us=>
    unfold ay at h2;obtain⟨a,xs,rfl,g1,g2⟩:=h2
    cases r2
    obtain⟨its,_,pl,_⟩:=I.list g1;exact⟨SeqAt.RcAt.bool_list c pl.isList hu',SeqAt.RcNeAt.bool_list c pl.isList hu',SeqAt.EqAt.bool_list c pl.isList hu'⟩
   | exc c=>simp[dj]at hd2
  | int c=>
   cases h1;obtain⟨tk1,rfl⟩:=r1
   cases u with
   | non=>cases h2;cases r2;exact⟨SeqAt.RcAt.int_none c tk1,SeqAt.RcNeAt.int_none c tk1,SeqAt.EqAt.int_none c tk1⟩
   | bl b=>cases h2;cases r2;exact⟨SeqAt.RcAt.int_bool c tk1 b,SeqAt.RcNeAt.int_bool c tk1 b,SeqAt.EqAt.int_bool c tk1 b⟩
   | int b=>cases h2;obtain⟨tk,rfl⟩:=r2;exact⟨SeqAt.RcAt.int_int c tk1 b tk,SeqAt.RcNeAt.int_int c tk1 b tk,SeqAt.EqAt.int_int c tk1 b tk⟩
   | str b=>cases h2;obtain⟨tk,rfl⟩:=r2;exact⟨SeqAt.RcAt.int_str c tk1 b tk,SeqAt.RcNeAt.int_str c tk1 b tk,SeqAt.EqAt.int_str c tk1 b tk⟩
   | tup us=>
    unfold ay at h2;obtain⟨a,xs,rfl,g1,g2⟩:=h2
    cases r2
    obtain⟨its,_,pl,_⟩:=I.tuple g1;exact⟨SeqAt.RcAt.int_tuple c tk1 pl hu',SeqAt.RcNeAt.int_tuple c tk1 pl hu',SeqAt.EqAt.int_tuple c tk1 pl hu'⟩
   | lst us=>
    unfold ay at h2;obtain⟨a,xs,rfl,g1,g2⟩:=h2
    cases r2
    obtain⟨its,_,pl,_⟩:=I.list g1;exact⟨SeqAt.RcAt.int_list c tk1 pl.isList hu',SeqAt.RcNeAt.int_list c tk1 pl.isList hu',SeqAt.EqAt.int_list c tk1 pl.isList hu'⟩
   | exc c=>simp[dj]at hd2
  | str c=>
   cases h1;obtain⟨tk1,rfl⟩:=r1
   cases u with
   | non=>cases h2;cases r2;exact⟨SeqAt.RcAt.str_none c tk1,SeqAt.RcNeAt.str_none c tk1,SeqAt.EqAt.str_none c tk1⟩
   | bl b=>cases h2;cases r2;exact⟨SeqAt.RcAt.str_bool c tk1 b,SeqAt.RcNeAt.str_bool c tk1 b,SeqAt.EqAt.str_bool c tk1 b⟩
   | int b=>cases h2;obtain⟨tk,rfl⟩:=r2;exact⟨SeqAt.RcAt.str_int c tk1 b tk,SeqAt.RcNeAt.str_int c tk1 b tk,SeqAt.EqAt.str_int c tk1 b tk⟩
   | str b=>cases h2;obtain⟨tk,rfl⟩:=r2;exact⟨SeqAt.RcAt.str_str c tk1 b tk,SeqAt.RcNeAt.str_str c tk1 b tk,SeqAt.EqAt.str_str c tk1 b tk⟩
   | tup us=>
    unfold ay at h2;obtain⟨a,xs,rfl,g1,g2⟩:=h2
    cases r2
    obtain⟨its,_,pl,_⟩:=I.tuple g1;exact⟨SeqAt.RcAt.str_tuple c tk1 pl hu',SeqAt.RcNeAt.str_tuple c tk1 pl hu',SeqAt.EqAt.str_tuple c tk1 pl hu'⟩
   | lst us=>
    unfold ay at h2;obtain⟨a,xs,rfl,g1,g2⟩:=h2
    cases r2
    obtain⟨its,_,pl,_⟩:=I.list g1;exact⟨SeqAt.RcAt.str_list c tk1 pl.isList hu',SeqAt.RcNeAt.str_list c tk1 pl.isList hu',SeqAt.EqAt.str_list c tk1 pl.isList hu'⟩
   | exc c=>simp[dj]at hd2
 | succ n ih=>
  intro A t u v1 v2 u1 u2 hd hd2 hn hu h1 h2 r1 r2;have hu':A.units<cLine:=by omega
  have ih:=fun A t u v1 v2 u1 u2 a b=>ih A t u v1 v2 u1 u2 a b (by omega)
  cases t with
  | tup ts=>
   unfold ay at h1;obtain⟨a,xs,rfl,p1,p2⟩:=h1
   cases r1
   obtain⟨its,q1,pl,_⟩:=I.tuple p1
   cases u with
   | tup us=>
    unfold ay at h2;obtain⟨b,ys,rfl,g1,g2⟩:=h2
    cases r2
    obtain⟨its2,q2,pl2,_⟩:=I.tuple g1;simp only[dj]at hd hd2;have rr:SeqAt.RcAt A s (.ref a) (.ref b) (cC ts us)/\SeqAt.RcNeAt A s (.ref a) (.ref b) (!cC ts us):=
     Of p2 g2 q1 q2 pl pl2 hu' fun t u v1 v2 u1 u2 ht hu2 k1 k2 k3 k4=>
      (ih A.in1 t u v1 v2 u1 u2 (by have:=iu ht;omega) (by have:=iu hu2;omega) (by rw[units_in1];omega) k1 k2 k3 k4).2.2
    refine⟨by simpa only [eqT] using rr.1,by simpa only [eqT] using rr.2,?_⟩
    by_cases hab:a=b
    ·subst hab;have:=I.tuple_inj p1 g1;subst this;have:=ao.inj I ts us xs (by omega) (by omega) p2 g2
     subst this;rw[nr _ (by simp only[dj];omega)]
     exact SeqAt.EqAt.same _
    ·simp only[eqT];exact SeqAt.EqAt.of_refs hab rr.1
   | lst us=>
    unfold ay at h2;obtain⟨b,ys,rfl,g1,g2⟩:=h2
    cases r2
    obtain⟨its2,q2,pl2,_⟩:=I.list g1;exact⟨SeqAt.RcAt.tuple_list pl pl2.isList hu',SeqAt.RcNeAt.tuple_list pl pl2.isList hu',SeqAt.EqAt.tuple_list pl pl2.isList hu'⟩
   | non=>cases h2;cases r2;exact⟨SeqAt.RcAt.tuple_none pl hu',SeqAt.RcNeAt.tuple_none pl hu',SeqAt.EqAt.tuple_none pl hu'⟩
   | bl b=>cases h2;cases r2;exact⟨SeqAt.RcAt.tuple_bool b pl hu',SeqAt.RcNeAt.tuple_bool b pl hu',SeqAt.EqAt.tuple_bool b pl hu'⟩
   | int b=>cases h2;obtain⟨tk,rfl⟩:=r2;exact⟨SeqAt.RcAt.tuple_int b tk pl hu',SeqAt.RcNeAt.tuple_int b tk pl hu',SeqAt.EqAt.tuple_int b tk pl hu'⟩
   | str b=>cases h2;obtain⟨tk,rfl⟩:=r2;exact⟨SeqAt.RcAt.tuple_str b tk pl hu',SeqAt.RcNeAt.tuple_str b tk pl hu',SeqAt.EqAt.tuple_str b tk pl hu'⟩
   | exc c=>simp[dj]at hd2
  | lst ts=>
   unfold ay at h1;obtain⟨a,xs,rfl,p1,p2⟩:=h1
   cases r1
   obtain⟨its,q1,pl,_⟩:=I.list p1
   cases u with
   | lst us=>
    unfold ay at h2;obtain⟨b,ys,rfl,g1,g2⟩:=h2
    cases r2
    obtain⟨its2,q2,pl2,_⟩:=I.list g1;simp only[dj]at hd hd2;have rr:SeqAt.RcAt A s (.ref a) (.ref b) (cC ts us)/\SeqAt.RcNeAt A s (.ref a) (.ref b) (!cC ts us):=
     Oe p2 g2 q1 q2 pl pl2 hu' fun t u v1 v2 u1 u2 ht hu2 k1 k2 k3 k4=>
      (ih A.in1 t u v1 v2 u1 u2 (by have:=iu ht;omega) (by have:=iu hu2;omega) (by rw[units_in1];omega) k1 k2 k3 k4).2.2
    refine⟨by simpa only [eqT] using rr.1,by simpa only [eqT] using rr.2,?_⟩
    by_cases hab:a=b
    ·subst hab;have:=I.list_inj p1 g1;subst this;have:=ao.inj I ts us xs (by omega) (by omega) p2 g2
     subst this;rw[nr _ (by simp only[dj];omega)]
     exact SeqAt.EqAt.same _
    ·simp only[eqT];exact SeqAt.EqAt.of_refs hab rr.1
   | tup us=>
    unfold ay at h2;obtain⟨b,ys,rfl,g1,g2⟩:=h2
    cases r2
    obtain⟨its2,q2,pl2,_⟩:=I.tuple g1;exact⟨SeqAt.RcAt.list_tuple pl.isList pl2 hu',SeqAt.RcNeAt.list_tuple pl.isList pl2 hu',SeqAt.EqAt.list_tuple pl.isList pl2 hu'⟩
   | non=>cases h2;cases r2;exact⟨SeqAt.RcAt.list_none pl.isList hu',SeqAt.RcNeAt.list_none pl.isList hu',SeqAt.EqAt.list_none pl.isList hu'⟩
   | bl b=>cases h2;cases r2;exact⟨SeqAt.RcAt.list_bool b pl.isList hu',SeqAt.RcNeAt.list_bool b pl.isList hu',SeqAt.EqAt.list_bool b pl.isList hu'⟩
   | int b=>cases h2;obtain⟨tk,rfl⟩:=r2;exact⟨SeqAt.RcAt.list_int b tk pl.isList hu',SeqAt.RcNeAt.list_int b tk pl.isList hu',SeqAt.EqAt.list_int b tk pl.isList hu'⟩
   | str b=>cases h2;obtain⟨tk,rfl⟩:=r2;exact⟨SeqAt.RcAt.list_str b tk pl.isList hu',SeqAt.RcNeAt.list_str b tk pl.isList hu',SeqAt.EqAt.list_str b tk pl.isList hu'⟩
   | exc c=>simp[dj]at hd2
  | exc c=>simp only[dj]at hd;omega
  | non=>exact ih A _ u v1 v2 u1 u2 (by simp only[dj];omega) hd2 (by omega) h1 h2 r1 r2
  | bl c=>exact ih A _ u v1 v2 u1 u2 (by simp only[dj];omega) hd2 (by omega) h1 h2 r1 r2
  | int c=>exact ih A _ u v1 v2 u1 u2 (by simp only[dj];omega) hd2 (by omega) h1 h2 r1 r2
  | str c=>exact ih A _ u v1 v2 u1 u2 (by simp only[dj];omega) hd2 (by omega) h1 h2 r1 r2
end
end DL
namespace DL
open PySem L2
def sh (s:S):Prop:=dj (tr s)<=20
def OM (a b:S):Bool:=eqT (tr a) (tr b)
def dP:S->S->(S->Prop)->Prop:=fun a b R=>sh a/\sh b/\R (.t (.bl (OM a b)))
def dL:S->S->(S->Prop)->Prop:=fun a b R=>sh a/\sh b/\R (.t (.bl (!OM a b)))
abbrev qu:=am dP
abbrev AZ:=am dL
def HR (K:PySem.W.Frag)(neg:Bool):R2:=fun x y H Q=>∃ a b,dj a<=20/\dj b<=20/\ay K H a x/\ay K H b y/\Q (.bl (if neg then !eqT a b else eqT a b)) H
def AX (x:T)(ts:List T):Bool:=ts.any fun t=>eqT t x
def Nv:S->S->(S->Prop)->Prop:=fun a b R=>match tr b with
 | .lst ts=>sh a/\fP ts<=20/\R (.t (.bl (AX (tr a) ts)))
 | .tup ts=>sh a/\fP ts<=20/\R (.t (.bl (AX (tr a) ts)))
 | _=>False
def nA:S->S->(S->Prop)->Prop:=fun a b R=>match tr b with
 | .lst ts=>sh a/\fP ts<=20/\R (.t (.bl (!AX (tr a) ts)))
 | .tup ts=>sh a/\fP ts<=20/\R (.t (.bl (!AX (tr a) ts)))
 | _=>False
abbrev Qn:=am Nv
abbrev Fp:=am nA
def HW (K:PySem.W.Frag)(neg:Bool):R2:=fun x y H Q=>∃ a p xs ts,dj a<=20/\fP ts<=20/\ay K H a x/\y=.ref p/\(dR K H p xs\/jH K H p xs)/\ao K H ts xs/\Q (.bl (if neg then !AX a ts else AX a ts)) H
def NJ:T->Bool
 | .non=>true
 | _=>false
def Qa (wa:WE):WE:=fun δ R=>wa δ fun s=>R (.t (.bl (NJ (tr s))))
def OC (wa:WE):WE:=fun δ R=>wa δ fun s=>R (.t (.bl (!NJ (tr s))))
section
variable {X:Cx}
theorem EJ (hu:X.A.units+64<cLine):ly X (compareOp .Eq) (HR X.K false):=by
 intro pins s σ H x y v u Q I rx ry h;obtain⟨a,b,h1,h2,p1,p2,q⟩:=h;exact(n8 I 20 X.A a b x y v u h1 (by omega) (by omega) (by omega) p1 p2 rx ry).1 X.prog X.w X.xe _ ⟨.bl _,H,I,rfl,q⟩
theorem Le (hu:X.A.units+64<cLine):ly X (compareOp .NotEq) (HR X.K true):=by
 intro pins s σ H x y v u Q I rx ry h;obtain⟨a,b,h1,h2,p1,p2,q⟩:=h;exact(n8 I 20 X.A a b x y v u h1 (by omega) (by omega) (by omega) p1 p2 rx ry).2.1 X.prog X.w X.xe _ ⟨.bl _,H,I,rfl,q⟩
theorem EI {K:PySem.W.Frag}:Fw K (HR K false) dP:=fun F H s1 s2 v1 v2 R Q sb fu p1 p2 h k=>⟨tr s1,tr s2,h.1,h.2.1,p1.tree sb,p2.tree sb,k _ F H (.t (.bl _)) (dh.refl sb fu) rfl h.2.2⟩
theorem Lb {K:PySem.W.Frag}:Fw K (HR K true) dL:=fun F H s1 s2 v1 v2 R Q sb fu p1 p2 h k=>⟨tr s1,tr s2,h.1,h.2.1,p1.tree sb,p2.tree sb,k _ F H (.t (.bl _)) (dh.refl sb fu) rfl h.2.2⟩
noncomputable def BV (X:Cx) (H:Hp) (a:T) (ts:List T) (u:Value):Bool:=open Classical in decide (∃ t v,t∈ts/\ay X.K H t v/\RelV v u/\eqT t a=true)
theorem E5 {v w:V}{u:Value}(h:RelV v u)(g:RelV w u):v=w:=RelV.inj h g
theorem BW {pins:List (Addr × Obj)}{σ:St}{H:Hp}{s:Shared}(I:aP X pins σ H s){a:T}{ts:List T}(hd:fP ts<1000){t:T}{v:V}{u:Value}(ht:t∈ts)(h:ay X.K H t v)(r:RelV v u):BV X H a ts u=eqT t a:=by
 unfold BV
 cases e:eqT t a with
 | true=>exact @decide_eq_true _ (Classical.propDecidable _) ⟨t,v,ht,h,r,e⟩
 | false=>
  refine @decide_eq_false _ (Classical.propDecidable _) ?_;rintro⟨t',v',ht',h',r',e'⟩;have:=E5 r r';subst this;have d1:=iu ht;have d2:=iu ht';have:=ay.inj I t t' v (by omega) (by omega) h h'
  subst this;rw[e]at e';cases e'
theorem xW {pins:List (Addr × Obj)}{σ:St}{H:Hp}{s:Shared}(I:aP X pins σ H s){a:T}{us:List T}(hd:fP us<1000):∀ {ts:List T}{xs:List V}{its:List Value},(∀ t∈ts,t∈us)->ao X.K H ts xs->aQ xs its->its.any (BV X H a us)=ts.any fun t=>eqT t a
 | [],_,_,_,h,r=>by cases (show _=[] from h);cases r;rfl
 | t::ts,_,_,hm,⟨x,r,e,p,q⟩,rv=>by
  subst e
  cases rv with
  | cons r1 r2=>
   rw[List.any_cons,List.any_cons,BW I hd (hm t List.mem_cons_self) p r1,xW I hd (fun z hz=>hm z (List.mem_cons_of_mem _ hz)) q r2]
theorem uK {K:PySem.W.Frag}{H:Hp}:∀ {ts:List T}{xs:List V}{its:List Value}{u:Value},ao K H ts xs->aQ xs its->u∈its->∃ t v,t∈ts/\ay K H t v/\RelV v u
 | [],_,_,_,h,r,m=>by cases (show _=[] from h);cases r;cases m
 | t::ts,_,_,_,⟨x,r,e,p,q⟩,rv,m=>by
  subst e
  cases rv with
  | cons r1 r2=>
   rcases List.mem_cons.mp m with rfl|m
   ·exact⟨t,x,List.mem_cons_self,p,r1⟩
   ·obtain⟨t',v',h1,h2,h3⟩:=uK q r2 m;exact⟨t',v',List.mem_cons_of_mem _ h1,h2,h3⟩
theorem kD {pins:List (Addr × Obj)}{σ:St}{H:Hp}{s:Shared}(I:aP X pins σ H s)(hu:X.A.units+64<cLine){a:T}{ts:List T}{x:V}{v:Value}{xs:List V}{its:List Value}(h1:dj a<=20)(h2:fP ts<=20)(p1:ay X.K H a x)(rx:RelV x v)(p2:ao X.K H ts xs)(r:aQ xs its) :
  (∀ y,y∈its.toArray->SeqAt.EqAt X.A.in1 s y v (BV X H a ts y))/\its.toArray.any (BV X H a ts)=AX a ts:=by
 refine⟨fun y hy=>?_,?_⟩
 ·obtain⟨t,w,m1,m2,m3⟩:=uK p2 r (by simpa using hy)
  have d:=iu m1;rw[BW I (by omega) m1 m2 m3]
  exact(n8 I 20 X.A.in1 t a w x y v (by omega) (by omega) (by omega) (by rw[units_in1];omega) m2 p1 m3 rx).2.2
 ·rw[show its.toArray.any (BV X H a ts)=its.any (BV X H a ts) by simp,xW I (by omega) (fun _ h=>h) p2 r]
  rfl
theorem Ld (hu:X.A.units+64<cLine):ly X (compareOp .In) (HW X.K false):=by
 intro pins s σ H x y v u Q I rx ry h;obtain⟨a,p,xs,ts,h1,h2,p1,rfl,hq,p2,q⟩:=h
 cases ry
 rcases hq with hq|hq
 ·obtain⟨its,r,pl,hz⟩:=I.list hq;obtain⟨g1,g2⟩:=kD I hu h1 h2 p1 rx p2 r;refine SeqAt.in_listAt (BV X H a ts) pl.isList g1 ⟨.bl _,H,I,rfl,?_⟩;rw[g2];exact q
 ·obtain⟨its,r,pl,hz⟩:=I.tuple hq;obtain⟨g1,g2⟩:=kD I hu h1 h2 p1 rx p2 r;refine SeqAt.in_tupleAt (BV X H a ts) pl g1 ⟨.bl _,H,I,rfl,?_⟩;rw[g2];exact q
theorem Av (hu:X.A.units+64<cLine):ly X (compareOp .NotIn) (HW X.K true):=by
 intro pins s σ H x y v u Q I rx ry h;obtain⟨a,p,xs,ts,h1,h2,p1,rfl,hq,p2,q⟩:=h
 cases ry
 rcases hq with hq|hq
 ·obtain⟨its,r,pl,hz⟩:=I.list hq;obtain⟨g1,g2⟩:=kD I hu h1 h2 p1 rx p2 r;refine SeqAt.notIn_listAt (BV X H a ts) pl.isList g1 ⟨.bl _,H,I,rfl,?_⟩;rw[g2];exact q
 ·obtain⟨its,r,pl,hz⟩:=I.tuple hq;obtain⟨g1,g2⟩:=kD I hu h1 h2 p1 rx p2 r;refine SeqAt.notIn_tupleAt (BV X H a ts) pl g1 ⟨.bl _,H,I,rfl,?_⟩;rw[g2];exact q
theorem K9 {K:PySem.W.Frag}:Fw K (HW K false) Nv:=fun F H s1 s2 v1 v2 R Q sb fu p1 p2 h k=>by
 have t2:=p2.tree sb;unfold Nv at h
 split at h
 ·rename_i ts e;rw[e]at t2;unfold ay at t2;obtain⟨p,xs,q1,q2,q3⟩:=t2;exact⟨tr s1,p,xs,ts,h.1,h.2.1,p1.tree sb,q1,.inl q2,q3,k _ F H (.t (.bl _)) (dh.refl sb fu) rfl h.2.2⟩
 ·rename_i ts e;rw[e]at t2;unfold ay at t2;obtain⟨p,xs,q1,q2,q3⟩:=t2;exact⟨tr s1,p,xs,ts,h.1,h.2.1,p1.tree sb,q1,.inr q2,q3,k _ F H (.t (.bl _)) (dh.refl sb fu) rfl h.2.2⟩
 ·exact h.elim
theorem Au {K:PySem.W.Frag}:Fw K (HW K true) nA:=fun F H s1 s2 v1 v2 R Q sb fu p1 p2 h k=>by
 have t2:=p2.tree sb;unfold nA at h
 split at h
 ·rename_i ts e;rw[e]at t2;unfold ay at t2;obtain⟨p,xs,q1,q2,q3⟩:=t2;exact⟨tr s1,p,xs,ts,h.1,h.2.1,p1.tree sb,q1,.inl q2,q3,k _ F H (.t (.bl _)) (dh.refl sb fu) rfl h.2.2⟩
 ·rename_i ts e;rw[e]at t2;unfold ay at t2;obtain⟨p,xs,q1,q2,q3⟩:=t2;exact⟨tr s1,p,xs,ts,h.1,h.2.1,p1.tree sb,q1,.inr q2,q3,k _ F H (.t (.bl _)) (dh.refl sb fu) rfl h.2.2⟩
 ·exact h.elim
variable {a b:Expr}{wa wb:WE}{pos:Pos}
theorem Nh {k:Nat}(hr:cz k X.A)(ha:PE X a (au X.K wa))(hb:PE X b (au X.K wb)):PE X (.Compare a [.Eq] [b] pos) (au X.K (qu wa wb)):=(mJ (EJ hr.units) ha hb (iy _)).imp (cb EI)
theorem eC {k:Nat}(hr:cz k X.A)(ha:PE X a (au X.K wa))(hb:PE X b (au X.K wb)):PT X (.Compare a [.Eq] [b] pos) (liftT X.K (wB (qu wa wb))):=jV (EJ hr.units) EI ha hb (iy _)
theorem jJ {k:Nat}(hr:cz k X.A)(ha:PE X a (au X.K wa))(hb:PE X b (au X.K wb)):PT X (.Compare a [.NotEq] [b] pos) (liftT X.K (wB (AZ wa wb))):=jV (Le hr.units) Lb ha hb (iy _)
theorem Nj {k:Nat}(hr:cz k X.A)(ha:PE X a (au X.K wa))(hb:PE X b (au X.K wb))(hm:behindInMarks .In b=false:=by rfl):PE X (.Compare a [.In] [b] pos) (au X.K (Qn wa wb)):=(mJ (Ld hr.units) ha hb hm).imp (cb K9)
theorem BS {k:Nat}(hr:cz k X.A)(ha:PE X a (au X.K wa))(hb:PE X b (au X.K wb))(hm:behindInMarks .NotIn b=false:=by rfl):PT X (.Compare a [.NotIn] [b] pos) (liftT X.K (wB (Fp wa wb))):=jV (Av hr.units) Au ha hb hm
end
inductive Ty where
 | non|bool|int|str|tup|lst|exc
def Ty.nm:Ty->String
 | .non=>"NoneType" | .bool=>"bool" | .int=>"int" | .str=>"str" | .tup=>"tuple" | .lst=>"list" | .exc=>""
def IX:T->Ty
 | .non=>.non
 | .bl _=>.bool
 | .int _=>.int
 | .str _=>.str
 | .tup _=>.tup
 | .lst _=>.lst
 | .exc _=>.exc
def AQ (s:S):Ty:=IX (tr s)
def bW:Ty->Ty->Bool
 | .non,.non=>true
 | .bool,.bool=>true
 | .bool,.int=>true
 | .int,.int=>true
 | .str,.str=>true
 | .tup,.tup=>true
 | .lst,.lst=>true
 | _,_=>false
theorem lO (K:PySem.W.Frag)(a b:Ty)(ha:a≠.exc)(hb:b≠.exc):PySem.W.kitOne K (.type a.nm) (.type b.nm)=some (bW a b):=by
 cases a <;> first|exact absurd rfl ha|(cases b <;> first|exact absurd rfl hb|with_unfolding_all rfl)
def Fo (ty:Ty)(we:WE):WE:=fun δ R=>we δ fun s=>AQ s≠.exc/\R (.t (.bl (bW (AQ s) ty)))
def QC (K:PySem.W.Frag)(ty:Ty):List V->Hp->VK->Prop:=fun xs H Q=>∃ x a,xs=[x,.ty ty.nm]/\IX a≠.exc/\ay K H a x/\Q (.bl (bW (IX a) ty)) H
section
variable {X:Cx}
theorem Gk {ty:Ty} (ht:ty≠.exc):fk X (.builtin "isinstance") (QC X.K ty):=by
 intro pins s σ H xs us Q I r h;obtain⟨x,a,rfl,hne,p,q⟩:=h;obtain⟨u,w',rfl,r1,r2⟩:=vals2 r
 cases r2
 have fin:∀ tk,EP X pins σ Q (.bool (bW (IX a) ty)) {s with toks:=tk}:=fun tk=>⟨.bl _,H,I.tok _,rfl,q⟩
 cases a with
 | non=>cases p;cases r1;exact PySem.W.kia_one PySem.W.kitx_none I.kIn True.intro (lO X.K .non ty (by simp) ht) (fun z=>nomatch z) fin
 | bl c=>cases p;cases r1;exact PySem.W.kia_one PySem.W.kitx_bool I.kIn True.intro (lO X.K .bool ty (by simp) ht) (fun z=>nomatch z) fin
 | int c=>cases p;obtain⟨t,rfl⟩:=r1;exact PySem.W.kia_one PySem.W.kitx_int I.kIn True.intro (lO X.K .int ty (by simp) ht) (fun z=>nomatch z) fin
 | str c=>cases p;obtain⟨t,rfl⟩:=r1;exact PySem.W.kia_one PySem.W.kitx_str I.kIn True.intro (lO X.K .str ty (by simp) ht) (fun z=>nomatch z) fin
 | tup ts=>
  unfold ay at p;obtain⟨b,zs,rfl,p3,p4⟩:=p
  cases r1
  obtain⟨its,_,⟨o,e,c,_⟩,_⟩:=I.tuple p3;exact PySem.W.kia_one PySem.W.kitx_tuple I.kIn ⟨o,e,c⟩ (lO X.K .tup ty (by simp) ht) (fun z=>nomatch z) fin
 | lst ts=>
  unfold ay at p;obtain⟨b,zs,rfl,p3,p4⟩:=p
  cases r1
  obtain⟨its,_,⟨o,n,e,c,hd,d⟩,_⟩:=I.list p3;exact PySem.W.kia_one PySem.W.kitx_list I.kIn ⟨o,e,c⟩ (lO X.K .lst ty (by simp) ht) (fun z=>nomatch z) fin
 | exc c=>exact absurd rfl hne
variable {e:Expr}{we:WE}{pos p p2:Pos}
theorem xQ {x:Str} (ty:Ty) (ht:ty≠.exc) (hv:bootBuiltins x=some (.type ty.nm)) (hm:X.mg "isinstance"=none) (hm2:X.mg x=none) (he:PE X e (au X.K we)) (hg:Gl X "isinstance") (hg2:Gl X x) (hn:x≠"__name__") (hdb:(x == ("__debug__":Str))=false)
  (h1:starEach [e,.Name x p2] X.env=(false,eval e X.env)::starEach [.Name x p2] X.env) (h2:starEach [.Name x p2] X.env=(false,eval (.Name x p2) X.env)::starEach [] X.env) (h3:(backTo pos (starEach [.Name x p2] X.env)).any (·.1)=false) :
  PE X (.Call (.Name "isinstance" p) [e,.Name x p2] [] pos) (au X.K (Fo ty we)):=
 (uY (Gk (ty:=ty) ht) hg hm PyProof.Rows.boot_isinstance (kK he (kK (Ho (v:=.ty ty.nm) hg2 hm2 hv rfl hn hdb) sN h2) h1) (by decide) (by decide) h1 h3).imp fun σ H Q ⟨δ,R,F,rl,h,k⟩=>⟨δ,_,F,rl,h,fun v F1 H1 s e p q=>
  ⟨v,tr s,rfl,q.1,(p.val e.sub).tree e.sub,k _ F1 H1 (.t (.bl _)) e rfl q.2⟩⟩
theorem zL (hm:X.mg "isinstance"=none) (hm2:X.mg "int"=none) (he:PE X e (au X.K we)) (hg:Gl X "isinstance":=by rfl) (hg2:Gl X "int":=by rfl) (h1:starEach [e,.Name "int" p2] X.env=(false,eval e X.env)::starEach [.Name "int" p2] X.env:=by rfl) (h2:starEach [.Name "int" p2] X.env=(false,eval (.Name "int" p2) X.env)::starEach [] X.env:=by rfl) (h3:(backTo pos (starEach [.Name "int" p2] X.env)).any (·.1)=false:=by rfl) :
  PE X (.Call (.Name "isinstance" p) [e,.Name "int" p2] [] pos) (au X.K (Fo .int we)):=xQ .int (by simp) PyProof.Rows.boot_int hm hm2 he hg hg2 (by decide) (by decide) h1 h2 h3
theorem vY (hm:X.mg "isinstance"=none) (hm2:X.mg "bool"=none) (he:PE X e (au X.K we)) (hg:Gl X "isinstance":=by rfl) (hg2:Gl X "bool":=by rfl) (h1:starEach [e,.Name "bool" p2] X.env=(false,eval e X.env)::starEach [.Name "bool" p2] X.env:=by rfl) (h2:starEach [.Name "bool" p2] X.env=(false,eval (.Name "bool" p2) X.env)::starEach [] X.env:=by rfl) (h3:(backTo pos (starEach [.Name "bool" p2] X.env)).any (·.1)=false:=by rfl) :
  PE X (.Call (.Name "isinstance" p) [e,.Name "bool" p2] [] pos) (au X.K (Fo .bool we)):=xQ .bool (by simp) PyProof.Rows.boot_bool hm hm2 he hg hg2 (by decide) (by decide) h1 h2 h3
theorem l6 (hm:X.mg "isinstance"=none) (hm2:X.mg "tuple"=none) (he:PE X e (au X.K we)) (hg:Gl X "isinstance":=by rfl) (hg2:Gl X "tuple":=by rfl) (h1:starEach [e,.Name "tuple" p2] X.env=(false,eval e X.env)::starEach [.Name "tuple" p2] X.env:=by rfl) (h2:starEach [.Name "tuple" p2] X.env=(false,eval (.Name "tuple" p2) X.env)::starEach [] X.env:=by rfl) (h3:(backTo pos (starEach [.Name "tuple" p2] X.env)).any (·.1)=false:=by rfl) :
  PE X (.Call (.Name "isinstance" p) [e,.Name "tuple" p2] [] pos) (au X.K (Fo .tup we)):=xQ .tup (by simp) PyProof.Rows.boot_tuple hm hm2 he hg hg2 (by decide) (by decide) h1 h2 h3
theorem vZ (hm:X.mg "isinstance"=none) (hm2:X.mg "list"=none) (he:PE X e (au X.K we)) (hg:Gl X "isinstance":=by rfl) (hg2:Gl X "list":=by rfl) (h1:starEach [e,.Name "list" p2] X.env=(false,eval e X.env)::starEach [.Name "list" p2] X.env:=by rfl) (h2:starEach [.Name "list" p2] X.env=(false,eval (.Name "list" p2) X.env)::starEach [] X.env:=by rfl) (h3:(backTo pos (starEach [.Name "list" p2] X.env)).any (·.1)=false:=by rfl) :
  PE X (.Call (.Name "isinstance" p) [e,.Name "list" p2] [] pos) (au X.K (Fo .lst we)):=xQ .lst (by simp) PyProof.Rows.boot_list hm hm2 he hg hg2 (by decide) (by decide) h1 h2 h3
end
theorem Dg {K:PySem.W.Frag}{F:Hp}{a:Addr}{xs:List V}{ts:List T}(h:jH K F a xs)(r:ao K F ts xs):FD K F (OY K a) ts:=by
 intro F1 H1 i f1 sb fu;have q:jH K H1 a xs:=aM.sqT sb _ _ (aM.sqT f1 _ _ h);refine⟨fun t ht=>?_,fun hl=>⟨xs,q,by rw[r.length];exact hl⟩⟩
 obtain⟨x,h1,h2⟩:=r.get ht;refine⟨⟨xs,x,q,h1⟩,fun y H2 hy=>?_⟩;obtain⟨e,hy⟩:=hy;subst e;have:=hy xs q;rw[h1]at this
 cases this
 exact⟨F1,dh.refl sb fu,ay.same f1 h2⟩
def cR (lo:Int)(n:Nat):List T:=(List.range n).map fun (k:Nat)=>.int (lo+(k:Int))
theorem KC {K:PySem.W.Frag}{F:Hp}(lo:Int)(n:Nat):FD K F (OH lo n) (cR lo n):=by
 intro F1 H1 i f1 sb fu;refine⟨fun t ht=>?_,fun hl=>(by simpa [cR] using hl:n<=i)⟩
 unfold cR at ht;rw[List.getElem?_map]at ht
 cases e:(List.range n)[i]? with
 | none=>rw[e]at ht;cases ht
 | some k=>
  rw[e]at ht;have hk:k=i/\i<n:=by
   rw[List.getElem?_eq_some_iff]at e;obtain⟨h1,h2⟩:=e;simp at h1 h2;exact⟨h2.symm,h1⟩
  obtain⟨rfl,hn⟩:=hk;have et:t=.int (lo+k):=by simpa using ht.symm
  refine⟨hn,fun x H2 hy=>?_⟩;obtain⟨e1,e2⟩:=hy;subst e1;subst e2;exact⟨F1,dh.refl sb fu,by rw[et];rfl⟩
def Ot (δ:aT)(W:List T->aT->Prop):S->Prop
 | .t (.tup ts)=>W ts δ
 | .vt (.tup ts)=>W ts (freeze δ)
 | _=>False
def Fs (we:WE):WI:=fun δ W=>we δ fun s=>Ot δ W s
def jG (i:Int):Prop:=-(2 ^ 62)<=i/\i<2 ^ 62
def fL (wa:WA):WI:=fun δ W=>wa δ fun ss=>match ss with
 | [.t (.int j)]=>jG j/\W (cR 0 j.toNat) δ
 | _=>False
def Mh (wa:WA):WI:=fun δ W=>wa δ fun ss=>match ss with
 | [.t (.int i),.t (.int j)]=>jG i/\jG j/\W (cR i (j-i).toNat) δ
 | _=>False
section
variable {X:Cx}{e e2 tg:Expr}{we:WE}{wa:WA}{p pos:Pos}
theorem bL (he:PE X e (au X.K we)):PI X tg e (nN X.K (b9 we)):=
 (Hu he).imp fun σ H R ⟨δ,W,F,rl,h,k⟩=>⟨δ,_,F,rl,h,fun v F1 H1 s ex p q=>by
  unfold qd at q
  split at q
  ·unfold dA ay at p;obtain⟨a,xs,rfl,h1,h2⟩:=p;exact⟨a,rfl,⟨xs,ex.sub.seq h1⟩,k _ F1 F1 H1 _ δ ex (aM.refl _) (rl.ext ex) (rX h1 h2) q⟩
  ·unfold dA ay at p;obtain⟨a,xs,rfl,h1,h2⟩:=p;exact⟨a,rfl,⟨xs,h1⟩,k _ F1 H1 H1 _ (freeze δ) ex ex.sub (rl.ext ex).freeze (rX h1 h2) q⟩
  ·obtain⟨rl2,sm,a,xs,rfl,g1,g2⟩:=rl.thaw ex p;exact⟨a,rfl,⟨xs,rl2.sub.seq g1⟩,k _ _ _ H1 _ δ (ex.frozen rl.sub).1 (aM.refl _) rl2 (rX g1 g2) q⟩
  ·exact q.elim⟩
theorem Kd (he:PE X e (au X.K we)):PI X tg e (nN X.K (Fs we)):=
 (Lx he).imp fun σ H R ⟨δ,W,F,rl,h,k⟩=>⟨δ,_,F,rl,h,fun v F1 H1 s ex p q=>by
  unfold Ot at q
  split at q
  ·unfold dA ay at p;obtain⟨a,xs,rfl,h1,h2⟩:=p;exact⟨a,rfl,⟨xs,aM.sqT ex.sub _ _ h1⟩,k _ F1 F1 H1 _ δ ex (aM.refl _) (rl.ext ex) (Dg h1 h2) q⟩
  ·unfold dA ay at p;obtain⟨a,xs,rfl,h1,h2⟩:=p;exact⟨a,rfl,⟨xs,h1⟩,k _ F1 H1 H1 _ (freeze δ) ex ex.sub (rl.ext ex).freeze (Dg h1 h2) q⟩
  ·exact q.elim⟩
theorem cP (hm:X.mg "range"=none) (ha:PA X [e] (dD X.K wa)) (hg:Gl X "range":=by rfl) (hs:starEach [e] X.env=[(false,eval e X.env)]:=by rfl):PI X tg (.Call (.Name "range" p) [e] [] pos) (nN X.K (fL wa)):=
 (Az hg hm ha hs).imp fun σ H R ⟨δ,W,F,rl,h,k⟩=>⟨δ,_,F,rl,h,fun vs F1 H1 ss ex p q=>by
  split at q
  ·obtain⟨v,r,rfl,p1,p2⟩:=p
   cases (show r=[] from p2)
   cases (show v=_ from p1)
   obtain⟨⟨q1,q2⟩,q3⟩:=q;exact⟨_,rfl,q1,q2,k _ F1 F1 H1 _ δ ex (aM.refl _) (rl.ext ex) (KC 0 _) q3⟩
  ·exact q.elim⟩
end
end DL
namespace DL
open PySem L2
theorem Rel.mutate {K:PySem.W.Frag}{F H:Hp}{σ:St}{δ:aT}{i:Nat}{ts us:List T}{a:Addr}{ys:List V}(r:Rel K F H σ δ)(hi:δ[i]?=some (some (.ol ts)))(ha:σ[i]?=some (some (.ref a)))(hF:F a=none)(hH:∃ xs,H a=some (.lst xs))(hy:ao K F us ys) :
  Rel K F (dy H a (.lst ys)) σ (δ.set i (some (.ol us))):=by
 obtain⟨xs,hH⟩:=hH;have ne:∀ b o,F b=some o->b≠a:=fun b o e z=>by rw[z,hF]at e;cases e
 have lt:i<δ.length:=by
  rw[List.getElem?_eq_some_iff]at hi;exact hi.1
 refine⟨fun b o e=>by rw[b8 (ne b o e)];exact r.sub _ _ e,fun b o e=>?_,by rw[List.length_set];exact r.len,fun j s hj=>?_,fun j l b ts1 ts2 hn h1 h2 h3=>?_⟩
 ·unfold dy at e
  split at e
  ·cases e;exact .inr ⟨ys,rfl⟩
  ·exact r.full _ _ e
 ·by_cases z:i=j
  ·subst z;rw[List.getElem?_set_self lt]at hj
   cases hj
   exact⟨_,ha,a,ys,rfl,hF,bT,hy⟩
  ·rw[List.getElem?_set_ne z]at hj;obtain⟨v,q1,q2⟩:=r.slot j s hj;refine⟨v,q1,?_⟩
   cases s with
   | t x=>exact q2
   | vt zs=>exact q2
   | ol zs=>
    obtain⟨b,bs,e1,e2,e3,e4⟩:=q2;have nb:b≠a:=fun y=>by
     subst y;subst e1;exact r.dist i j b ts zs z hi hj ha q1
    exact⟨b,bs,e1,e2,by rw[b8 nb];exact e3,e4⟩
 ·have own:∀ (j:Nat) (ts1:List T),(δ.set i (some (.ol us)))[j]?=some (some (.ol ts1))->∃ ts0:List T,δ[j]?=some (some (.ol ts0)):=fun j ts1 h=>by
   by_cases z:i=j
   ·subst z;exact⟨ts,hi⟩
   ·rw[List.getElem?_set_ne z]at h;exact⟨ts1,h⟩
  obtain⟨t1,g1⟩:=own j ts1 h1;obtain⟨t2,g2⟩:=own l ts2 h2;exact r.dist j l b t1 t2 hn g1 g2 h3
section
variable {X:Cx}{e:Expr}{we wv:WE}{pos:Pos}{H₀:Hp}{i:Nat}{x:Str}{p1 p2:Pos}
theorem mG {n:Nat}(h:n<100000):n<sizeLine:=Nat.lt_trans h (by decide)
theorem fe (he:PE X e (au X.K we)) (hv:PE X (.Name x p1) (va i):=by exact pv _) (hbase:attributeBase (.Name x p1) "append" X.env (eval (.Name x p1) X.env)=eval (.Name x p1) X.env:=by rfl)
  (hfew:((backTo pos (starEach [e] X.env)).all (fun x=>!x.1) && (backToKw pos (keywordEach [] X.env)).all (fun x=>x.1.isSome) && decide ([e].length+([]:List Keyword).length+(if ([]:List Keyword).isEmpty then 0 else 1)<30))=true:=by rfl)
  (hline:(p2.endLine == pos.line)=true:=by rfl) (hs:starEach [e] X.env=(false,eval e X.env)::starEach [] X.env:=by rfl) (hplain:(backTo pos (starEach [] X.env)).any (·.1)=false:=by rfl) {pos':Pos}
  (hsw:swapsWith (.Call (.Attribute (.Name x p1) "append" p2) [e] [] pos) none pos'.line X.env=pure false:=by rfl) :
  PS X (.Expr (.Call (.Attribute (.Name x p1) "append" p2) [e] [] pos) pos') (bO X.K H₀ (e9 i we)):=
 (mK (IR PySem.F.plainAttrs_list PySem.F.slot_list_append PySem.F.type_list_append qe hv (kK he sN hs) hbase hfew hline hs hplain) hsw).imp fun D σ H ⟨δ,D',F,s0,rl,h,ok⟩=>by
  unfold e9 at h
  split at h
  ·rename_i ts hi;obtain⟨v,ha,a,xs,rfl,hF,hH,hr⟩:=rl.slot i _ hi;refine⟨_,ha,.inl ⟨rfl,xs,dR.of hH⟩,δ,_,F,rl,h,fun v F1 H1 s e p q=>?_⟩
   cases s with
   | t y=>
    obtain⟨hl,q⟩:=q;have h1:=e.hh _ _ hH;refine⟨a,xs,v,rfl,rfl,h1,by rw[hr.length];exact mG hl,?_⟩
    exact ok.nx σ F1 _ _ e.ff ((rl.ext e).mutate hi ha (e.keep a (by rw[hH];simp) hF) ⟨xs,h1⟩ ((ao.same e.ff hr).append (ao.one p))) q
   | _=>exact q.elim
  ·exact h.elim
theorem Dj {α:Type}{l:List α}(h:l≠[]):∃ x,l[l.length-1]?=some x:=by
 cases l with
 | nil=>exact absurd rfl h
 | cons a r=>exact⟨_,List.getElem?_eq_getElem (by simp)⟩
theorem Kf (hv:PE X (.Name x p1) (va i):=by exact pv _) (hbase:attributeBase (.Name x p1) "pop" X.env (eval (.Name x p1) X.env)=eval (.Name x p1) X.env:=by rfl) (hline:(p2.endLine == pos.line)=true:=by rfl) {pos':Pos}
  (hsw:swapsWith (.Call (.Attribute (.Name x p1) "pop" p2) [] [] pos) none pos'.line X.env=pure false:=by rfl):PS X (.Expr (.Call (.Attribute (.Name x p1) "pop" p2) [] [] pos) pos') (bO X.K H₀ (Iq i)):=
 (mK (Lo PySem.F.plainAttrs_list PySem.F.slot_list_pop PySem.F.type_list_pop KY hv hbase hline) hsw).imp fun D σ H ⟨δ,D',F,s0,rl,h,ok⟩=>by
  unfold Iq at h
  split at h
  ·rename_i ts hi;obtain⟨v,ha,a,xs,rfl,hF,hH,hr⟩:=rl.slot i _ hi;obtain⟨hne,h⟩:=h;obtain⟨t,ht⟩:=Dj hne;obtain⟨y,hy,_⟩:=hr.get ht;rw[<-hr.length]at hy;refine⟨_,ha,.inl ⟨rfl,xs,dR.of hH⟩,a,xs,y,rfl,rfl,hH,hy,?_⟩;exact ok.nx σ F _ _ (aM.refl _) (rl.mutate hi ha hF ⟨xs,hH⟩ hr.dropLast) h
  ·exact h.elim
theorem iV {v:Expr}(he:PE X e (au X.K we))(hw:PE X v (au X.K wv))(hv:PE X (.Name x p1) (va i):=by exact pv _)
  (ha:∀ z,assign (.Subscript (.Name x p1) e p2) X.env z=(do
   let ov ← holding [z] (eval (.Name x p1) X.env)
   let iv ← holding [z,ov] (eval e X.env)
   standAt p2
   holding [z,ov,iv] (setItem ov iv z)
   release [z,ov,iv] []):=by intro _;rfl)
  (hs:swapsWithSole [.Subscript (.Name x p1) e p2] v pos.line X.env=pure false:=by rfl) (hsw:swappedStores [.Subscript (.Name x p1) e p2] v X.env=pure none:=by rfl)
  (h1:(assignEach [.Subscript (.Name x p1) e p2] X.env).map (·.2)=[assign (.Subscript (.Name x p1) e p2) X.env]:=by rfl) :
  PS X (.Assign [.Subscript (.Name x p1) e p2] v pos) (bO X.K H₀ (jl i we wv)):=
 (ET hw (Lv hv he set_list ha) hs hsw h1).imp fun D σ H ⟨δ,D',F,s0,rl,h,ok⟩=>by
  unfold jl at h
  split at h
  ·rename_i ts hi;obtain⟨v,ha,a,xs,rfl,hF,hH,hr⟩:=rl.slot i _ hi;refine⟨δ,_,F,rl,h,fun v1 F1 H1 s1 e1 p1 q1=>⟨_,ha,δ,_,F1,rl.ext e1,q1,fun v2 F2 H2 s2 e2 p2 q2=>?_⟩⟩;have e12:=e1.trans e2
   split at q2
   ·rename_i y k
    split at q2
    ·rename_i j hj;have h2:=e12.hh _ _ hH;refine⟨a,xs,k,j,rfl,p2,h2,by rw[hr.length];exact hj,?_⟩
     exact ok.nx σ F2 _ _ e12.ff ((rl.ext e12).mutate hi ha (e12.keep a (by rw[hH];simp) hF) ⟨xs,h2⟩ ((ao.same e12.ff hr).set (ay.same e2.ff p1) j)) q2
    ·exact q2.elim
   ·exact q2.elim
  ·exact h.elim
end
def qO (R:List T->Prop):S->Prop
 | .t (.lst ts)=>R ts
 | .vt (.lst ts)=>cG ts=true/\R ts
 | .ol ts=>R ts
 | _=>False
def zQ:S->S->(S->Prop)->Prop:=fun a b R=>qO (fun ts=>qO (fun us=>ts.length+us.length<=100000/\R (.ol (ts++us))) b) a
def IU (K:PySem.W.Frag):R2:=fun x y H Q=>∃ l b xs zs,x=.ref l/\y=.ref b/\dR K H l xs/\dR K H b zs/\xs.length+zs.length<=sizeLine/\∀ p,H p=none->Q (.ref p) (dy H p (.lst (xs++zs)))
theorem Hk {X:Cx}:ly X (binaryOp .Add) (IU X.K):=by
 intro pins s σ H x y v u Q I rx ry h;obtain⟨l,b,xs,zs,rfl,rfl,h1,h2,hz,q⟩:=h
 cases rx
 cases ry
 obtain⟨its,r,pl,z⟩:=I.list h1;obtain⟨its2,r2,pl2,z2⟩:=I.list h2;obtain⟨⟨cls,dd,data,sl⟩,ho,hc,n,hd⟩:=pl.isList;obtain⟨⟨cls2,dd2,data2,sl2⟩,ho2,hc2,n2,hd2⟩:=pl2.isList;simp only at hc hd hc2 hd2;subst hc hd hc2 hd2;have l1:=r.length;have l2:=r2.length;refine PySem.concat_meets ⟨_,ho,rfl⟩ ⟨_,ho2,rfl⟩ PySem.noFill_list_add PySem.seq_list_add PySem.F.slot_list_add PySem.F.entry_list_add (PySem.F.args_list_add_2 _ _) (PyProof.Rows.list_addW l b its.toArray its2.toArray n n2 dd dd2 sl sl2 (by rw[List.size_toArray,List.size_toArray];omega)) ⟨ho,ho2,?_⟩
 have ea:its.toArray++its2.toArray=(its++its2).toArray:=by simp
 rw[ea];exact⟨.ref _,_,I.lnew (t':=s.toks) (r.append r2) (by rw[List.length_append];omega),rfl,q _ I.fresh⟩
theorem m9 {K:PySem.W.Frag}{F H:Hp}{R:List T->Prop}{s:S}{v:V}(sb:aM F H)(fu:gv F H)(h:qO R s)(p:gz K F H s v):∃ ts a xs,v=.ref a/\dR K H a xs/\ao K F ts xs/\R ts:=by
 unfold qO at h
 split at h
 ·unfold gz ay at p;obtain⟨a,xs,h1,h2,h3⟩:=p;exact⟨_,a,xs,h1,sb.seq h2,h3,h⟩
 ·unfold gz ay at p;obtain⟨a,xs,h1,h2,h3⟩:=p;exact⟨_,a,xs,h1,h2,ao.full fu h.1 h3,h.2⟩
 ·unfold gz at p;obtain⟨a,xs,h1,h2,h3⟩:=p;exact⟨_,a,xs,h1,h2,h3,h⟩
 ·exact h.elim
theorem Hi {K:PySem.W.Frag}:Fw K (IU K) zQ:=fun F H s1 s2 v1 v2 R Q sb fu p1 p2 h k=>by
 obtain⟨ts,a,xs,rfl,h1,h2,h⟩:=m9 sb fu h p1;obtain⟨us,b,ys,rfl,h3,h4,hl,h⟩:=m9 sb fu h p2;refine⟨a,b,xs,ys,rfl,rfl,h1,h3,by rw[h2.length,h4.length];exact Nat.le_trans hl (by decide),fun p hp=>?_⟩
 exact k _ F _ (.ol _) (dh.newL _ sb fu hp) ⟨p,_,rfl,hp,aK sb hp,bT,h2.append h4⟩ h
theorem vX {X:Cx}{a b:Expr}{wa wb:WE}{pos:Pos}(ha:PE X a (au X.K wa))(hb:PE X b (au X.K wb)):PE X (.BinOp a .Add b pos) (au X.K (am zQ wa wb)):=(nY Hk ha hb).imp (cb Hi)
def aJ (N:List Str)(ss:List S):aT:=ss.map some++List.replicate (N.length-ss.length) none
theorem qk {K:PySem.W.Frag}{F H:Hp}:∀ {ss:List S}{vs:List V}{i:Nat}{s:S},kb K F H ss vs->ss[i]?=some s->∃ v,vs[i]?=some v/\gz K F H s v
 | [],_,_,_,_,h=>by simp at h
 | s::ss,_,0,u,⟨v,r,e,p,q⟩,h=>by subst e;simp at h;subst h;exact⟨v,by simp,p⟩
 | s::ss,_,i+1,u,⟨v,r,e,p,q⟩,h=>by
  subst e;obtain⟨y,h1,h2⟩:=qk (i:=i) q (by simpa using h)
  exact⟨y,by simpa using h1,h2⟩
theorem lS {K:PySem.W.Frag}{F H:Hp}:∀ {ss:List S}{vs:List V},kb K F H ss vs->vs.length=ss.length
 | [],_,e=>by cases (show _=[] from e);rfl
 | s::ss,_,⟨v,r,e,p,q⟩=>by subst e;rw[List.length_cons,List.length_cons,lS q]
theorem qp {N:List Str}{ss:List S}{i:Nat}{s:S}(h:(aJ N ss)[i]?=some (some s)):ss[i]?=some s:=by
 unfold aJ at h
 by_cases hi:i<ss.length
 ·rw[List.getElem?_append_left (by simpa using hi),List.getElem?_map]at h
  cases e:ss[i]? with
  | none=>rw[e]at h;cases h
  | some u=>rw[e]at h;simpa using h
 ·rw[List.getElem?_append_right (by simpa using hi),List.getElem?_replicate]at h
  split at h <;> cases h
theorem AC {K:PySem.W.Frag}{H:Hp}{N:List Str}{ss:List S}{vs:List V}(hn:ss.length<=N.length)(ha:∀ s∈ss,xG s)(r:kb K H H ss vs):Rel K H H (L2.start N vs) (aJ N ss):=by
 have hl:=lS r;refine⟨aM.refl _,fun _ _ h=>.inl h,?_,fun i s h=>?_,fun i j a ts us _ h1=>?_⟩
 ·unfold L2.start aJ;rw[List.length_append,List.length_append,List.length_map,List.length_map,List.length_replicate,List.length_replicate];omega
 ·have h1:=qp h;obtain⟨v,h2,h3⟩:=qk r h1;refine⟨v,?_,?_⟩
  ·unfold L2.start;have hi:i<vs.length:=by rw[List.getElem?_eq_some_iff]at h2;exact h2.1
   rw[List.getElem?_append_left (by simpa using hi),List.getElem?_map,h2]
   rfl
  ·have:=ha s (List.mem_of_getElem? h1)
   cases s with
   | t x=>exact h3
   | vt ts=>exact this.elim
   | ol ts=>exact this.elim
 ·have:=ha _ (List.mem_of_getElem? (qp h1));exact this.elim
section
variable {P:Program}{wd:World}{K:PySem.W.Frag}{mg:Str->Option Value}{base:Heap}
theorem BL {x qual:Str}{st:Stmt}{f:Addr}{fd:FuncData}{N ps:List Str}{k:Nat}{sp:aX}{w:WS}(F:IZ K x qual st f fd)(S:aA N ps (al st))
  (hlen:∀ ss R,sp ss R->ss.length=ps.length)
  (hbody:∀ (cdv:Value) (A:Around) (outer:List Env) (s:Shared) (H:Hp) (E:XK),cz k (A.deeper (PyProof.Rows.envOfC qual (al st) s.heap.objs.size f cdv))->j8 (qU AW P wd K mg base N qual (al st) f cdv A outer s H E).nox (de st) (bO K H w))
  (h:∀ ss R,sp ss R->w {nx:=fun _=>R (.t .non),rt:=R} (aJ N ss)):iL P wd K mg base AW (k+1) f fd ps (sW K sp):=by
 have pl:ps.length<=N.length:=by
  have:=congrArg List.length S.pre;rw[List.length_take]at this;omega
 refine F.ok S (fun vs H Q E hs=>?_) (fun cdv A outer s H vs Q E hr hs=>?_)
 ·obtain⟨ss,R,_,r,hs,_⟩:=hs;rw[lS r,hlen ss R hs]
 ·obtain⟨ss,R,ha,r,hs,k⟩:=hs;refine⟨_,hbody cdv A outer s H E hr,aJ N ss,_,H,aM.refl _,AC (by rw[hlen ss R hs];exact pl) ha r,h ss R hs,⟨fun σ' F' H' δ' ff rl q=>?_,fun v H' s' sm rc q=>k v H' s' sm rc q,fun _ _ _ _ _ _ z=>z.elim,fun _ _ _ _ _ _ z=>z.elim⟩⟩
  exact k .non H' (.t .non) (ff.trans rl.sub) rfl q
theorem zH {x qual:Str}{st:Stmt}{f:Addr}{fd:FuncData}{ps:List Str}{k:Nat}{sp:aX}(F:IZ K x qual st f fd)(hm:mg x=some (.ref f))(b:Binds K fd ps [])(h:iL P wd K mg base AW k f fd ps (sW K sp)):Callee P wd K mg base k x sp:=
 ⟨f,fd,ps,hm,h,b,F.kp⟩
def qo:aX:=fun ss R=>∃ ns:List Int,ss=[.t (.lst (ns.map .int))]/\ns.length<=63/\R (.t (.bl true))
theorem KM {K:PySem.W.Frag}{H:Hp}{a:Addr}{ns:List Int}(hl:ns.length<=63)(hS:dR K H a (ns.map V.int)):sW K qo [.ref a] H (fun v _=>v=.bl true) fun _ _ _=>False:=
 ⟨[.t (.lst (ns.map .int))],fun s=>s=.t (.bl true),fun s hs=>by simp at hs;subst hs;exact True.intro,⟨.ref a,[],rfl,by show ay K H (.lst _) _;unfold ay;exact⟨a,_,rfl,hS,ao.ints ns⟩,rfl⟩,⟨ns,rfl,hl,rfl⟩,fun v H' s _ rc e=>by subst e;exact rc⟩
end
end DL
namespace DL
open PySem L2
def oW (own:Nat)(fr:List Nat)(δ:aT):aT:=List.replicate own none++fr.map fun i=>(δ[i]?).join
def uh (k:T->Prop):S->Prop
 | .t y=>mL y=true/\k y
 | .ol ts=>cG ts=true/\k (.lst ts)
 | .vt _=>False
def tU (g:WG)(tc:WT)(te:WE)(ts:List T)(δ:aT)(R:List T->Prop):Prop:=∃ I:List T->aT->List T->Prop,I ts δ []/\(∀ δ acc,I [] δ acc->R acc)/\∀ x r δ acc,I (x::r) δ acc →
 g x δ fun δ1=>tc δ1 fun ok=>if ok=true then te δ1 fun s=>uh (fun y=>acc.length<100000/\I r δ1 (acc++[y])) s else I r δ1 acc
def iJ (own:Nat)(fr:List Nat)(wi:WI)(g:WG)(tc:WT)(te:WE):WE:=fun δ R=>wi δ fun ts δ'=>tU g tc te ts (oW own fr (freeze δ')) fun acc=>R (.ol acc)
def vh:WT:=fun _ R=>R true
def mU (δ:aT):Prop:=∀ (i:Nat) (ts:List T),δ[i]?≠some (some (S.ol ts))
def OG (g:WG):Prop:=∀ t δ R,mU δ->g t δ R->g t δ fun δ'=>mU δ'/\R δ'
theorem mU.set {δ:aT}(h:mU δ)(i:Nat)(t:T):mU (δ.set i (some (.t t))):=fun j ts e=>by
 by_cases z:i=j
 ·subst z;rw[List.getElem?_set]at e;simp at e
 ·rw[List.getElem?_set_ne z]at e;exact h j ts e
theorem eD {i:Nat}:OG (aU i):=fun t δ R h q=>⟨h.set i t,q⟩
def tD (K:PySem.W.Frag)(H F:Hp)(t:T)(v:V):Prop:=(mL t=true/\ay K F t v)\/∃ ts a xs,t=.lst ts/\cG ts=true/\v=.ref a/\H a=none/\F a=some (.lst xs)/\ao K F ts xs
def dB (K:PySem.W.Frag)(H F:Hp):List T->List V->Prop
 | [],xs=>xs=[]
 | t::ts,xs=>∃ x r,xs=x::r/\tD K H F t x/\dB K H F ts r
theorem tD.same {K:PySem.W.Frag}{H F F':Hp}(e:aM F F'){t:T}{v:V}(h:tD K H F t v):tD K H F' t v:=by
 rcases h with ⟨p,h⟩|⟨ts,a,xs,h1,h2,h3,h4,h5,h6⟩
 ·exact .inl ⟨p,ay.same e h⟩
 ·exact .inr ⟨ts,a,xs,h1,h2,h3,h4,e _ _ h5,ao.same e h6⟩
theorem dB.same {K:PySem.W.Frag}{H F F':Hp}(e:aM F F'):∀ {ts:List T}{xs:List V},dB K H F ts xs->dB K H F' ts xs
 | [],_,h=>h
 | _::_,_,⟨x,r,h1,h2,h3⟩=>⟨x,r,h1,h2.same e,dB.same e h3⟩
theorem dB.snoc {K:PySem.W.Frag}{H F:Hp}{t:T}{v:V}(h:tD K H F t v):∀ {ts:List T}{xs:List V},dB K H F ts xs->dB K H F (ts++[t]) (xs++[v])
 | [],_,e=>by cases (show _=[] from e);exact⟨v,[],rfl,h,rfl⟩
 | _::_,_,⟨x,r,h1,h2,h3⟩=>by subst h1;exact⟨x,r++[v],rfl,h2,dB.snoc h h3⟩
theorem dB.length {K:PySem.W.Frag}{H F:Hp}:∀ {ts:List T}{xs:List V},dB K H F ts xs->xs.length=ts.length
 | [],_,e=>by cases (show _=[] from e);rfl
 | _::_,_,⟨x,r,h1,_,h3⟩=>by subst h1;rw[List.length_cons,List.length_cons,dB.length h3]
theorem Rel.other {K:PySem.W.Frag}{F H:Hp}{σ:St}{δ:aT}{a:Addr}{ys:List V}(r:Rel K F H σ δ)(hF:F a=none)(no:mU δ):Rel K F (dy H a (.lst ys)) σ δ:=by
 refine⟨fun b o e=>?_,fun b o e=>?_,r.len,fun j s hj=>?_,fun i j b ts us _ h1=>absurd h1 (no i ts)⟩
 ·have:b≠a:=fun z=>by rw[z,hF]at e;cases e
  rw[b8 this];exact r.sub _ _ e
 ·unfold dy at e
  split at e
  ·cases e;exact .inr ⟨ys,rfl⟩
  ·exact r.full _ _ e
 ·obtain⟨v,q1,q2⟩:=r.slot j s hj;refine⟨v,q1,?_⟩
  cases s with
  | t x=>exact q2
  | vt x=>exact q2
  | ol ts=>exact absurd hj (no j ts)
theorem l7 (δ:aT):mU (freeze δ):=fun i ts e=>by
 obtain⟨u,_,h⟩:=jW e;exact jL u ts h.symm
theorem tK {own:Nat}{fr:List Nat}{δ:aT}{i:Nat}{s:S}(h:(oW own fr δ)[i]?=some (some s)):own<=i/\∃ k,fr[i-own]?=some k/\δ[k]?=some (some s):=by
 unfold oW at h
 by_cases hi:i<own
 ·rw[List.getElem?_append_left (by simpa using hi),List.getElem?_replicate,if_pos hi]at h
  cases h
 ·have hi:own<=i:=by omega
  refine⟨hi,?_⟩;rw[List.getElem?_append_right (by simpa using hi),List.length_replicate,List.getElem?_map]at h
  cases ef:fr[i-own]? with
  | none=>rw[ef]at h;cases h
  | some k=>
   rw[ef]at h;refine⟨k,rfl,?_⟩;have ev:(δ[k]?).join=some s:=by simpa using h
   cases q:δ[k]? with
   | none=>rw[q]at ev;cases ev
   | some o=>rw[q]at ev;simpa using ev
theorem lD {own:Nat}{fr:List Nat}{δ:aT}(h:mU δ):mU (oW own fr δ):=fun i ts e=>by
 obtain⟨_,k,_,h2⟩:=tK e;exact h k ts h2
theorem HZ {K:PySem.W.Frag}{H:Hp}{σ:St}{δ:aT}{own:Nat}{fr:List Nat}{D:Addr}(r:Rel K H H σ δ)(no:mU δ)(hD:H D=none):Rel K H (dy H D (.lst [])) (Fx own fr σ) (oW own fr δ):=by
 have:Rel K H H (Fx own fr σ) (oW own fr δ):=by
  refine⟨r.sub,r.full,?_,fun i s h=>?_,fun i j a ts us _ h1=>absurd h1 (lD no i ts)⟩
  ·unfold Fx oW;rw[List.length_append,List.length_append,List.length_replicate,List.length_replicate,List.length_map,List.length_map]
  ·obtain⟨hi,k,h1,h2⟩:=tK h;obtain⟨v,q1,q2⟩:=r.slot k s h2;refine⟨v,?_,q2⟩;unfold Fx;rw[List.getElem?_append_right (by simpa using hi),List.length_replicate,List.getElem?_map,h1]
   simp[q1]
 exact this.other hD (lD no)
def mz (N:List Str)(no:Nat)(fr:List Nat)(NX:List Str)(sc around:Scope):Bool:=
 decide (sc.kind=.function) && sc.names.all (fun y=>decide (y.2≠.cell)) && decide N.Nodup && decide (N.length=no+fr.length) &&
 sc.names.all (fun y=>decide (y.2=.local->sc.names.lookup y.1=some .local)) && sc.names.all (fun y=>decide (y.2=.free->around.names.lookup y.1=some .cell)) &&
 (List.range no).all (fun i=>match N[i]? with|some x=>decide (sc.names.lookup x=some .local)|none=>true) &&
 (List.range fr.length).all (fun j=>match fr[j]?,N[no+j]? with|some i,some x=>decide (NX[i]?=some x/\sc.names.lookup x=some .free)|_,_=>true)
theorem Bx {N:List Str}{no:Nat}{fr:List Nat}{NX:List Str}{sc around:Scope}(h:mz N no fr NX sc around=true):iP N no fr NX sc around:=by
 unfold mz at h;simp only[Bool.and_eq_true,decide_eq_true_eq,List.all_eq_true,List.mem_range]at h;obtain⟨⟨⟨⟨⟨⟨⟨h1,h2⟩,h3⟩,h4⟩,h5⟩,h6⟩,h7⟩,h8⟩:=h;refine⟨h1,h2,h3,h4,h5,h6,fun i x e hi=>?_,fun j i x e1 e2=>?_⟩
 ·have:=h7 i hi;rw[e]at this;simpa using this
 ·have hj:j<fr.length:=(List.getElem?_eq_some_iff.mp e1).1;have:=h8 j hj;rw[e1,e2]at this;simpa using this
section
variable {X:Cx}{N:List Str}{own:Nat}{fr:List Nat}{scope:Scope}{elt tg iter:Expr}{ifs:List Expr}{pos:Pos}{wi:WI}{g:WG}{tc:WT}{te:WE}
theorem kq {Y:Cx}:FF Y [] (liftT Y.K vh):=fun pins s σ H Q I ⟨δ,R,F,rl,h,k⟩=>HD pins s σ H Q I (k F H true rl.refl h)
theorem qY {Y:Cx}{c:Expr}{t:WT}(h:PT Y c (liftT Y.K t)):FF Y [c] (liftT Y.K t):=HE h
theorem qa (go:OG g):∀ σ H Q,au X.K (iJ own fr wi g tc te) σ H Q->yM own fr (nN X.K wi) (ma X.K g) (liftT X.K tc) (au X.K te) σ H Q:=
 fun σ H Q ⟨δ,R,F,rl,h,k⟩=>⟨δ,_,F,rl,h,fun J F0 F1 H1 ts δ1 e0 f01 rl1 it q D hD=>by
  have sH:aM H H1:=e0.hh;obtain⟨W,w0,wend,wstep⟩:=q;refine⟨fun i m σ' H'=>m=ts.length-i/\i<=ts.length/\∃ δ' F' acc xs,aM H1 F'/\F' D=none/\H' D=some (.lst xs)/\Rel X.K F' H' σ' δ'/\mU δ'/\dB X.K H F' acc xs/\W (ts.drop i) δ' acc,
   ⟨ts.length,by simp,Nat.zero_le _,oW own fr (freeze δ1),H1,[],[],aM.refl _,hD,bT,HZ rl1.freeze (l7 _) hD,lD (l7 _),rfl,by simpa using w0⟩,?_⟩
  rintro i m σ' H' ⟨rfl,hi,δ',F',acc,xs,s1,fD,hH,rl',no,ra,h⟩;obtain⟨hgo,hstop⟩:=it F' H' i (rl1.sub.trans s1) rl'.sub rl'.full
  cases hd:ts.drop i with
  | nil=>
   rw[hd]at h;have:ts.length<=i:=by simpa using hd
   refine .inl ⟨hstop this,?_⟩;have sm:aM H H':=(sH.trans s1).trans rl'.sub;have ex:=nE (x:=some D) rl.sub rl.full sm (fun b z=>by cases z;exact⟨xs,hH⟩)
   have hDn:H D=none:=aK sH hD;refine k _ _ H' (.ol acc) ex ⟨D,xs,rfl,hDn,?_,hH,?_⟩ (wend δ' acc h)
   ·unfold grow;rw[if_pos (by rw[hDn];rfl),if_pos rfl]
   ·have all:∀ {acc:List T}{xs:List V},dB X.K H F' acc xs->ao X.K (grow F H H' (some D)) acc xs:=by
     intro acc
     induction acc with
     | nil=>intro xs z;exact z
     | cons t r ih=>
      rintro xs ⟨x,r',z1,z2,z3⟩;refine⟨x,r',z1,?_,ih z3⟩
      rcases z2 with ⟨p,z⟩|⟨us,a,ys,rfl,p,rfl,y1,y2,y3⟩
      ·exact ay.full ex.full p (ay.same rl'.sub z)
      ·unfold ay;refine⟨a,ys,rfl,dR.of ?_,ao.full ex.full p (ao.same rl'.sub y3)⟩;have:a≠D:=fun z=>by rw[z,fD]at y2;cases y2
       unfold grow;rw[if_pos (by rw[y1];rfl),if_neg (fun z=>this (Option.some.inj z).symm)]
       exact rl'.sub _ _ y2
    exact all ra
  | cons x r=>
   rw[hd]at h;obtain⟨h1,h2⟩:=t0 hd;obtain⟨goes,yld⟩:=hgo x h1;have hlt:i<ts.length:=by
    have:=congrArg List.length hd;simp at this;omega
   refine .inr ⟨goes,fun v H2 y=>?_⟩;obtain⟨F3,e3,p3⟩:=yld v H2 y;have h:=wstep x r δ' acc h;refine⟨x,δ',_,F3,p3,rl'.ext e3,go x δ' _ no h,fun σ2 δ2 rl2 ⟨no2,h⟩=>?_⟩;have D3:F3 D=none:=e3.keep D (by rw[hH];simp) fD
   have H3:=e3.hh _ _ hH;refine⟨δ2,_,F3,rl2,h,fun F4 H4 ok e4 h=>?_⟩;have D4:F4 D=none:=e4.keep D (by rw[H3];simp) D3
   have H4D:=e4.hh _ _ H3;have f4:aM F' F4:=e3.ff.trans e4.ff
   cases ok with
   | false=>
    refine⟨ts.length-(i+1),by omega,rfl,hlt,δ2,F4,acc,xs,s1.trans f4,D4,H4D,rl2.ext e4,no2,ra.same f4,?_⟩
    rw[h2];simpa using h
   | true=>
    simp only[if_true]at h;refine⟨δ2,_,F4,rl2.ext e4,h,fun w F5 H5 s e5 p5 h=>?_⟩;have H5D:=e5.hh _ _ H4D;refine⟨xs,H5D,?_,ts.length-(i+1),by omega,rfl,hlt,?_⟩
    ·rw[ra.length]
     cases s with
     | t y=>exact mG h.2.1
     | ol us=>exact mG h.2.1
     | vt y=>exact h.elim
    ·cases s with
     | t y=>
      have D5:F5 D=none:=e5.keep D (by rw[H4D];simp) D4
      refine⟨δ2,F5,acc++[y],xs++[w],(s1.trans f4).trans e5.ff,D5,bT,((rl2.ext e4).ext e5).other D5 no2,no2,(ra.same (f4.trans e5.ff)).snoc (.inl ⟨h.1,p5⟩),?_⟩;rw[h2];exact h.2.2
     | ol us=>
      obtain⟨ez,sz⟩:=e5.frozen (rl2.ext e4).sub;have D5:grow F5 H4 H5 none D=none:=ez.keep D (by rw[H4D];simp) D4
      obtain⟨a,ys,rfl,q0,q1,q2,q3⟩:=p5;refine⟨δ2,grow F5 H4 H5 none,acc++[.lst us],xs++[.ref a],(s1.trans f4).trans ez.ff,D5,bT,((rl2.ext e4).ext ez).other D5 no2,no2,(ra.same (f4.trans ez.ff)).snoc (.inr ⟨us,a,ys,rfl,h.1,rfl,?_,?_,ao.same sz q3⟩),?_⟩
      ·have s4:aM H H4:=((sH.trans s1).trans f4).trans e4.sub;exact aK s4 q0
      ·unfold grow;rw[if_pos (by rw[q0];rfl),if_neg (by simp)]
       exact q2
      ·rw[h2];exact h.2.2
     | vt y=>exact h.elim⟩
theorem mD {NX:List Str}{ar:Scope}(look:mz N own fr NX scope ar=true)(hi:PI X tg iter (nN X.K wi))(go:OG g)
  (hg:∀ cl s H fp,PG (cX X N scope cl s H fp) tg (ma X.K g)) (ht:∀ cl s H fp,FF (cX X N scope cl s H fp) ifs (liftT X.K tc)) (he:∀ cl s H fp,PE (cX X N scope cl s H fp) elt (au X.K te)) (eN:X.N=NX:=by rfl) (eS:X.env.scope=ar:=by rfl) (hc:X.calm=true:=by rfl)
  (hs:∀ x,foldedSetIterable iter X.env x=pure x:=by intro _;rfl):PE X (.ListComp elt [⟨tg,iter,ifs,0⟩] scope pos) (au X.K (iJ own fr wi g tc te)):=
 (Hr (by subst eN;subst eS;exact Bx look) hc hi hg ht he hs).imp (qa go)
theorem hX {H₀:Hp}{NX:List Str}{ar:Scope}{i:Nat}{x:Str}{pos1 pos':Pos}(hN:X.N.Nodup)(look:mz N own fr NX scope ar=true)(hi:PI X tg iter (nN X.K wi))(go:OG g)
  (hg:∀ cl s H fp,PG (cX X N scope cl s H fp) tg (ma X.K g)) (ht:∀ cl s H fp,FF (cX X N scope cl s H fp) ifs (liftT X.K tc)) (he:∀ cl s H fp,PE (cX X N scope cl s H fp) elt (au X.K te)) (eN:X.N=NX:=by rfl) (eS:X.env.scope=ar:=by rfl)
  (hi':X.N[i]?=some x:=by rfl) (hx:Loc X.env.scope x:=by first|exact Or.inl rfl|exact Or.inr rfl) (hw:swapsWith (.ListComp elt [⟨tg,iter,ifs,0⟩] scope pos) (some (.Name x pos')) pos1.line X.env=pure true:=by rfl) (hf:X.fn x=true\/X.env.scope.names.lookup x=some .local:=by first|exact .inl rfl|exact .inr rfl|assumption) (hc:X.calm=true:=by rfl)
  (hs:∀ x,foldedSetIterable iter X.env x=pure x:=by intro _;rfl):PS X (.Assign [.Name x pos'] (.ListComp elt [⟨tg,iter,ifs,0⟩] scope pos) pos1) (bO X.K H₀ (aN i (iJ own fr wi g tc te))):=
 (Hz (i:=i) hN hi' hx (by subst eN;subst eS;exact Bx look) hc hi hg ht he hs hw hf).imp fun D σ H ⟨δ,D',F,s0,rl,h,ok⟩=>qa go σ H _ ⟨δ,_,F,rl,h,fun v F1 H1 s e p q=>by
  obtain⟨F2,ff,r2⟩:=rl.setS i e p;exact ok.nx _ F2 H1 _ ff r2 q⟩
end
end DL
namespace DL
open L2
def look (i:Nat)(δ:aT)(k:S->Prop):Prop:=match δ[i]? with
 | some (some s)=>k s
 | _=>False
theorem KS (s:S)(r:aT)(k:S->Prop):look 0 (some s::r) k=k s:=rfl
theorem KU (i:Nat)(x:Option S)(r:aT)(k:S->Prop):look (i+1) (x::r) k=look i r k:=rfl
def nP (i:Nat)(δ:aT)(k:List T->Prop):Prop:=match δ[i]? with
 | some (some (.ol ts))=>k ts
 | _=>False
theorem GX (ts:List T)(r:aT)(k:List T->Prop):nP 0 (some (.ol ts)::r) k=k ts:=rfl
theorem GY (i:Nat)(x:Option S)(r:aT)(k:List T->Prop):nP (i+1) (x::r) k=nP i r k:=rfl
section
variable (D:gu) (δ:aT) (R:S->Prop) (w u:WS) (we wa wb wv:WE) (ws:WA) (i j:Nat) (x y:T) (s:S) (t c:WT)
theorem MR:aH w u D δ=w {D with nx:=u D} δ:=rfl
theorem MT:aN i we D δ=we δ fun s=>D.nx (setS i s δ):=rfl
theorem Pa:eZ c w u D δ=c δ fun k=>if k=true then w D δ else u D δ:=rfl
theorem MQ:bu we D δ=we δ fun s=>D.rt (out s):=rfl
theorem JG:jP i D δ=look i δ D.rt:=rfl
theorem JF:OD D δ=D.rt (.t .non):=rfl
theorem JA:aY D δ=D.nx δ:=rfl
theorem FM:Md D δ=D.bk δ:=rfl
theorem Jn:OB D δ=D.ct δ:=rfl
theorem Jo:yR we D δ=we δ fun _=>D.nx δ:=rfl
theorem MW:ae i δ R=look i δ fun s=>R (seen s):=rfl
theorem Qt:wC x δ R=R (.t x):=rfl
theorem ML (f:S->S->(S->Prop)->Prop):am f wa wb δ R=wa δ fun x=>wb δ fun y=>f x y R:=rfl
theorem Pc (f:S->(S->Prop)->Prop):A5 f wa δ R=wa δ fun x=>f x R:=rfl
theorem Qs (C:Int->Int->Prop)(g:Int->Int->T)(i j:Int):fI C g (.t (.int i)) (.t (.int j)) R=(C i j/\R (.t (g i j))):=rfl
theorem O8 (g:Int->Int->T)(i j:Int):GB g (.t (.int i)) (.t (.int j)) R=R (.t (g i j)):=rfl
theorem MJ (i:Int):lJ (.t (.int i)) R=R (.t (.int (-i))):=rfl
theorem MF (ts:List T)(i:Int):aL (.t (.tup ts)) (.t (.int i)) R=atT ts i R:=rfl
theorem MD (ts:List T)(i:Int):aL (.t (.lst ts)) (.t (.int i)) R=atT ts i R:=rfl
theorem MH (ts:List T)(i:Int):aL (.vt (.tup ts)) (.t (.int i)) R=vk ts i R:=rfl
theorem MG (ts:List T)(i:Int):aL (.vt (.lst ts)) (.t (.int i)) R=vk ts i R:=rfl
theorem ME (ts:List T)(i:Int):aL (.ol ts) (.t (.int i)) R=atT ts i R:=rfl
theorem cF {ts:List T}{i:Int}{x:T}{R:S->Prop}(h:atI ts i=some x):atT ts i R=R (.t x):=by unfold atT;rw[h]
theorem dC {α:Type}{ts:List α}{n:Nat}{x:α}(h:ts[n]?=some x):atI ts (n:Int)=some x:=F6 h
theorem M1 (r:List T):atT (x::r) 0 R=R (.t x):=cF (dC (n:=0) rfl)
theorem M3 (r:List T):atT (x::y::r) 1 R=R (.t y):=cF (dC (n:=1) rfl)
theorem M4 (z:T)(r:List T):atT (x::y::z::r) 2 R=R (.t z):=cF (dC (n:=2) rfl)
theorem M5 (z z':T)(r:List T):atT (x::y::z::z'::r) 3 R=R (.t z'):=cF (dC (n:=3) rfl)
theorem g9 {ts:List T}{i:Int}{x:T}{R:S->Prop}(h:atI ts i=some x):vk ts i R=R (norm x):=by unfold vk;rw[h]
theorem M6 (r:List T):vk (x::r) 0 R=R (norm x):=g9 (dC (n:=0) rfl)
theorem M7 (r:List T):vk (x::y::r) 1 R=R (norm y):=g9 (dC (n:=1) rfl)
theorem M8 (z:T)(r:List T):vk (x::y::z::r) 2 R=R (norm z):=g9 (dC (n:=2) rfl)
theorem M9 (z z':T)(r:List T):vk (x::y::z::z'::r) 3 R=R (norm z'):=g9 (dC (n:=3) rfl)
theorem yt {x:T}(h:mL x=true):norm x=.t x:=if_pos h
theorem Ew:norm .non=.t .non:=rfl
theorem G3 (b:Bool):norm (.bl b)=.t (.bl b):=rfl
theorem Et (i:Int):norm (.int i)=.t (.int i):=rfl
theorem Ez (i:PySem.Str):norm (.str i)=.t (.str i):=rfl
theorem Es (i:PySem.Str):norm (.exc i)=.t (.exc i):=rfl
theorem Eu (ts:List T):norm (.lst ts)=.vt (.lst ts):=rfl
theorem G4 (a b:Int):norm (.tup [.int a,.int b])=.t (.tup [.int a,.int b]):=rfl
theorem Ey (a b c:Int):norm (.tup [.int a,.int b,.int c])=.t (.tup [.int a,.int b,.int c]):=rfl
theorem G5 (a b c d:Int):norm (.tup [.tup [.int a,.int b],.tup [.int c,.int d]])=.t (.tup [.tup [.int a,.int b],.tup [.int c,.int d]]):=rfl
theorem Ks:setS i (.t x) δ=δ.set i (some (.t x)):=rfl
theorem Kr (ts:List T):setS i (.ol ts) δ=δ.set i (some (.ol ts)):=rfl
theorem Kt:setS i (.vt x) δ=(freeze δ).set i (some (.t x)):=rfl
theorem Gz:seen (.t x)=.t x:=rfl
theorem GA:seen (.vt x)=.vt x:=rfl
theorem Gy (ts:List T):seen (.ol ts)=.vt (.lst ts):=rfl
theorem Kp:out (.t x)=.t x:=rfl
theorem Kq:out (.vt x)=.t x:=rfl
theorem Ko (ts:List T):out (.ol ts)=.ol ts:=rfl
theorem Kh:mY (.t x)=.t x:=rfl
theorem Ki:mY (.vt x)=.t x:=rfl
theorem Kg (ts:List T):mY (.ol ts)=.t (.lst ts):=rfl
theorem Kn:got (.t x)=norm x:=rfl
theorem gf (ts:List T)(h:cG ts=true):got (.ol ts)=.ol ts:=if_pos h
theorem Km:fT (.t x)=.t x:=rfl
theorem Kk (ts:List T):fT (.ol ts)=.t (.lst ts):=rfl
theorem Nm:freeze []=[]:=rfl
theorem Kj (r:aT):freeze (none::r)=none::freeze r:=rfl
theorem Kl (s:S)(r:aT):freeze (some s::r)=some (fT s)::freeze r:=rfl
theorem Np:tr (.t x)=x:=rfl
theorem Nq:tr (.vt x)=x:=rfl
theorem Nn (ts:List T):tr (.ol ts)=.lst ts:=rfl
def Qj (R:Bool->Prop):S->Prop
 | .t (.bl k)=>R k
 | _=>False
theorem Qr (R:Bool->Prop):wB we δ R=we δ (Qj R):=rfl
theorem JO (R:Bool->Prop)(k:Bool):Qj R (.t (.bl k))=R k:=rfl
theorem Ji (R:Bool->Prop):ji t c δ R=t δ fun k=>if k=true then c δ R else R false:=rfl
theorem MM (R:Bool->Prop):vg t c δ R=t δ fun k=>if k=true then R true else c δ R:=rfl
theorem JC (R:Bool->Prop):jO t δ R=t δ fun k=>R (!k):=rfl
def MY (B:Prop)(R:S->Prop):S->Prop
 | .t (.bl k)=>if k=true then B else R (.t (.bl false))
 | _=>False
def Qk (B:Prop)(R:S->Prop):S->Prop
 | .t (.bl k)=>if k=true then R (.t (.bl true)) else B
 | _=>False
def NR (R:S->Prop):S->Prop
 | .t (.bl k)=>R (.t (.bl (!k)))
 | _=>False
theorem Jj:yQ wa wb δ R=wa δ (MY (wb δ R) R):=rfl
theorem MN:Mf wa wb δ R=wa δ (Qk (wb δ R) R):=rfl
theorem JD:vf wa δ R=wa δ (NR R):=rfl
theorem FZ (B:Prop)(k:Bool):MY B R (.t (.bl k))=if k=true then B else R (.t (.bl false)):=rfl
theorem Li (B:Prop)(k:Bool):Qk B R (.t (.bl k))=if k=true then R (.t (.bl true)) else B:=rfl
theorem G6 (k:Bool):NR R (.t (.bl k))=R (.t (.bl (!k))):=rfl
theorem MB:P9 c wa wb δ R=c δ fun k=>if k=true then wa δ R else wb δ R:=rfl
theorem O9 (f:List S->(S->Prop)->Prop):eU f ws δ R=ws δ fun ss=>f ss R:=rfl
theorem MK (R:List S->Prop):av δ R=R []:=rfl
theorem Jm (R:List S->Prop):af wa ws δ R=wa δ fun x=>ws δ fun xs=>R (x::xs):=rfl
def tupK (R:S->Prop)(ss:List S):Prop:=match k5 ss with
 | some ts=>if ts.length<=1000 then R (.t (.tup ts)) else False
 | none=>False
def lstK (R:S->Prop)(ss:List S):Prop:=match k5 ss with
 | some ts=>if ts.length<=1000 then R (.ol ts) else False
 | none=>False
theorem MU:eR ws δ R=ws δ (tupK R):=rfl
theorem MI:jj ws δ R=ws δ (lstK R):=rfl
theorem P4:tupK R [.t x]=R (.t (.tup [x])):=rfl
theorem P5:tupK R [.t x,.t y]=R (.t (.tup [x,y])):=rfl
theorem P6 (z:T):tupK R [.t x,.t y,.t z]=R (.t (.tup [x,y,z])):=rfl
theorem Pu:lstK R []=R (.ol []):=rfl
theorem Pv:lstK R [.t x]=R (.ol [x]):=rfl
theorem Pw:lstK R [.t x,.t y]=R (.ol [x,y]):=rfl
theorem Px (z:T):lstK R [.t x,.t y,.t z]=R (.ol [x,y,z]):=rfl
theorem Py (z z':T):lstK R [.t x,.t y,.t z,.t z']=R (.ol [x,y,z,z']):=rfl
theorem P7 (z z':T):tupK R [.t x,.t y,.t z,.t z']=R (.t (.tup [x,y,z,z'])):=rfl
theorem Jk (sp:aX):aD sp ws δ R=ws δ fun ss=>sp (ss.map mY) fun s=>R (got s):=rfl
theorem Jv (ts:List T):cD [.t (.tup ts)] R=R (.t (.int ts.length)):=rfl
theorem Jt (ts:List T):cD [.t (.lst ts)] R=R (.t (.int ts.length)):=rfl
theorem Jx (ts:List T):cD [.vt (.tup ts)] R=R (.t (.int ts.length)):=rfl
theorem Jw (ts:List T):cD [.vt (.lst ts)] R=R (.t (.int ts.length)):=rfl
theorem Ju (ts:List T):cD [.ol ts] R=R (.t (.int ts.length)):=rfl
theorem My (i:Int):o7 [.t (.int i)] R=R (.t (.int (if i<0 then -i else i))):=rfl
theorem Jy (i j:Int):t6 [.t (.int i),.t (.int j)] R=R (.t (.int (if j>i then j else i))):=rfl
theorem Jz (i j:Int):kz [.t (.int i),.t (.int j)] R=R (.t (.int (if j<i then j else i))):=rfl
theorem Js (i:Int):Nw [.t (.int i)] R=R (.t (.int i)):=rfl
theorem Jr (b:Bool):Nw [.t (.bl b)] R=R (.t (.int (if b then 1 else 0))):=rfl
theorem FR (ts:List T):ig [.t (.lst ts)] R=R (.ol ts):=rfl
theorem FT (ts:List T):ig [.vt (.lst ts)] R=(cG ts=true/\R (.ol ts)):=rfl
theorem FS (ts:List T):ig [.ol ts] R=R (.ol ts):=rfl
theorem Nt (i j:Int):dP (.t (.int i)) (.t (.int j)) R=R (.t (.bl (decide (i=j)))):=by
 have e:(i == j)=decide (i=j):=by cases h:(i == j) <;> simp_all
 show(dj (.int i)<=20/\dj (.int j)<=20/\R (.t (.bl (i == j))))=_;rw[e];exact propext ⟨fun h=>h.2.2,fun h=>⟨Nat.zero_le _,Nat.zero_le _,h⟩⟩
theorem NP (i j:Int):dL (.t (.int i)) (.t (.int j)) R=R (.t (.bl (!decide (i=j)))):=by
 have e:(i == j)=decide (i=j):=by cases h:(i == j) <;> simp_all
 show(dj (.int i)<=20/\dj (.int j)<=20/\R (.t (.bl (!(i == j)))))=_;rw[e];exact propext ⟨fun h=>h.2.2,fun h=>⟨Nat.zero_le _,Nat.zero_le _,h⟩⟩
theorem Pb (ty:Ty):Fo ty we δ R=we δ fun s=>AQ s≠.exc/\R (.t (.bl (bW (AQ s) ty))):=rfl
theorem L8:AQ (.t .non)=.non:=rfl
theorem Ox (b:Bool):AQ (.t (.bl b))=.bool:=rfl
theorem ty_int (i:Int):AQ (.t (.int i))=.int:=rfl
theorem ty_str (i:PySem.Str):AQ (.t (.str i))=.str:=rfl
theorem L9 (ts:List T):AQ (.t (.tup ts))=.tup:=rfl
theorem Im (ts:List T):AQ (.vt (.tup ts))=.tup:=rfl
theorem Oy (ts:List T):AQ (.t (.lst ts))=.lst:=rfl
theorem OA (ts:List T):AQ (.vt (.lst ts))=.lst:=rfl
theorem Oz (ts:List T):AQ (.ol ts)=.lst:=rfl
theorem MC:Qa wa δ R=wa δ fun s=>R (.t (.bl (NJ (tr s)))):=rfl
theorem JB:OC wa δ R=wa δ fun s=>R (.t (.bl (!NJ (tr s)))):=rfl
theorem KZ:(Ty.non≠Ty.exc)=True:=by simp
theorem K0:(Ty.bool≠Ty.exc)=True:=by simp
theorem K1:(Ty.int≠Ty.exc)=True:=by simp
theorem K2:(Ty.str≠Ty.exc)=True:=by simp
theorem K3:(Ty.tup≠Ty.exc)=True:=by simp
theorem K4:(Ty.lst≠Ty.exc)=True:=by simp
theorem MA (wi:WI)(g:WG):fJ wi g w D δ=wi δ fun ts δ'=>wm g w ts D δ':=rfl
theorem Bi (W:List T->aT->Prop):b9 we δ W=we δ (qd δ W):=rfl
theorem GU (W:List T->aT->Prop)(ts:List T):qd δ W (.t (.lst ts))=W ts δ:=rfl
theorem GW (W:List T->aT->Prop)(ts:List T):qd δ W (.vt (.lst ts))=W ts (freeze δ):=rfl
theorem GV (W:List T->aT->Prop)(ts:List T):qd δ W (.ol ts)=W ts δ:=rfl
theorem FX (W:List T->aT->Prop):Fs we δ W=we δ (Ot δ W):=rfl
theorem Ou (W:List T->aT->Prop)(ts:List T):Ot δ W (.t (.tup ts))=W ts δ:=rfl
theorem Ov (W:List T->aT->Prop)(ts:List T):Ot δ W (.vt (.tup ts))=W ts (freeze δ):=rfl
def Ob (δ:aT)(W:List T->aT->Prop):List S->Prop
 | [.t (.int j)]=>jG j/\W (cR 0 j.toNat) δ
 | _=>False
theorem Bj (W:List T->aT->Prop):fL ws δ W=ws δ (Ob δ W):=rfl
theorem LN (W:List T->aT->Prop)(j:Int):Ob δ W [.t (.int j)]=(jG j/\W (cR 0 j.toNat) δ):=rfl
def IV (δ:aT)(W:List T->aT->Prop):List S->Prop
 | [.t (.int i),.t (.int j)]=>jG i/\jG j/\W (cR i (j-i).toNat) δ
 | _=>False
theorem Bk (W:List T->aT->Prop):Mh ws δ W=ws δ (IV δ W):=rfl
theorem LO (W:List T->aT->Prop)(i j:Int):IV δ W [.t (.int i),.t (.int j)]=(jG i/\jG j/\W (cR i (j-i).toNat) δ):=rfl
theorem FQ (R:aT->Prop):aU i x δ R=R (δ.set i (some (.t x))):=rfl
theorem Jq (g:List T->aT->(aT->Prop)->Prop)(R:aT->Prop)(ts:List T):qw g (.tup ts) δ R=g ts δ R:=rfl
theorem Jp (R:aT->Prop):mf [] δ R=R δ:=rfl
theorem FP (g:WG)(gr:List T->aT->(aT->Prop)->Prop)(R:aT->Prop)(r:List T):fK g gr (x::r) δ R=g x δ fun δ1=>gr r δ1 R:=rfl
theorem MV (g:WG):Ir we g D δ=we δ (Io g δ D.nx):=rfl
theorem Mb (g:WG)(N:aT->Prop):Io g δ N (.t x)=g x δ N:=rfl
theorem Mc (g:WG)(N:aT->Prop):Io g δ N (.vt x)=g x (freeze δ) N:=rfl
def NY (i j:Nat)(δ:aT)(N:aT->Prop):List S->Prop
 | [.t x,.t y]=>N ((δ.set i (some (.t x))).set j (some (.t y)))
 | _=>False
theorem MO:Ip i j ws D δ=ws δ (NY i j δ D.nx):=rfl
theorem Lm (N:aT->Prop):NY i j δ N [.t x,.t y]=N ((δ.set i (some (.t x))).set j (some (.t y))):=rfl
theorem FW (wl wh:aT->(Option Int->Prop)->Prop):j5 we wl wh δ R=we δ fun s=>wl δ fun lo=>wh δ fun hi=>xl lo hi R s:=rfl
theorem LV (lo hi:Option Int)(ts:List T):xl lo hi R (.t (.lst ts))=R (.ol (iS ts lo hi)):=rfl
theorem LX (lo hi:Option Int)(ts:List T):xl lo hi R (.vt (.lst ts))=(cG ts=true/\R (.ol (iS ts lo hi))):=rfl
theorem LW (lo hi:Option Int)(ts:List T):xl lo hi R (.ol ts)=R (.ol (iS ts lo hi)):=rfl
theorem JI:OE we D δ=we (freeze δ) fun s=>D.rt (out s):=rfl
theorem Mz (a b:S):zQ a b R=qO (fun ts=>qO (fun us=>ts.length+us.length<=100000/\R (.ol (ts++us))) b) a:=rfl
theorem J1 (R:List T->Prop)(ts:List T):qO R (.t (.lst ts))=R ts:=rfl
theorem J3 (R:List T->Prop)(ts:List T):qO R (.vt (.lst ts))=(cG ts=true/\R ts):=rfl
theorem J2 (R:List T->Prop)(ts:List T):qO R (.ol ts)=R ts:=rfl
theorem Jl (own:Nat)(fr:List Nat)(wi:WI)(g:WG)(te:WE):iJ own fr wi g t te δ R=wi δ fun ts δ'=>tU g t te ts (oW own fr (freeze δ')) fun acc=>R (.ol acc):=rfl
theorem MX (R:Bool->Prop):vh δ R=R true:=rfl
theorem GJ (k:T->Prop):uh k (.t x)=(mL x=true/\k x):=rfl
theorem GI (k:T->Prop)(ts:List T):uh k (.ol ts)=(cG ts=true/\k (.lst ts)):=rfl
theorem HH:mL .non=true:=rfl
theorem LG (b:Bool):mL (.bl b)=true:=rfl
theorem HF (b:Int):mL (.int b)=true:=rfl
theorem HI (b:PySem.Str):mL (.str b)=true:=rfl
theorem HJ (ts:List T):mL (.tup ts)=cG ts:=rfl
theorem HG (ts:List T):mL (.lst ts)=false:=rfl
theorem EY:cG []=true:=rfl
theorem qg (ts:List T):cG (x::ts)=(mL x && cG ts):=rfl
theorem FU (R:Option Int->Prop):j4 δ R=R none:=rfl
def N5 (R:Option Int->Prop):S->Prop
 | .t (.int i)=>R (some i)
 | _=>False
theorem JE (R:Option Int->Prop):oE we δ R=we δ (N5 R):=rfl
theorem Lz (R:Option Int->Prop)(i:Int):N5 R (.t (.int i))=R (some i):=rfl
def MZ (i:Nat)(δ:aT)(N:aT->Prop)(ts:List T):S->Prop
 | .t x=>ts.length<100000/\N (δ.set i (some (.ol (ts++[x]))))
 | _=>False
theorem Bg:e9 i we D δ=nP i δ fun ts=>we δ (MZ i δ D.nx ts):=rfl
theorem JN (N:aT->Prop)(ts:List T):MZ i δ N ts (.t x)=(ts.length<100000/\N (δ.set i (some (.ol (ts++[x]))))):=rfl
theorem MP:Iq i D δ=nP i δ fun ts=>ts≠[]/\D.nx (δ.set i (some (.ol ts.dropLast))):=rfl
def AK (i:Nat)(δ:aT)(N:aT->Prop)(ts:List T):S->S->Prop
 | .t x,.t (.int k)=>match pz ts.length k with
  | some j=>N (δ.set i (some (.ol (ts.set j x))))
  | none=>False
 | _,_=>False
theorem FV:jl i we wv D δ=nP i δ fun ts=>wv δ fun v=>we δ fun s=>AK i δ D.nx ts v s:=rfl
end
theorem xJ {ts:List T}{i:Int}{R:S->Prop}(h0:0<=i)(h1:i<ts.length)(h:∀ x∈ts,R (.t x)):atT ts i R:=by
 have hl:i.toNat<ts.length:=by omega
 have e:i=((i.toNat:Nat):Int):=by omega
 rw[e,cF (dC (x:=ts[i.toNat]) (by simp[hl]))]
 exact h _ (List.getElem_mem hl)
theorem Bn {ns:List Int}{i:Int}{R:S->Prop}(h0:0<=i)(h1:i<ns.length)(h:∀ v∈ns,R (.t (.int v))):atT (ns.map .int) i R:=
 xJ h0 (by rw[List.length_map];exact h1) fun x hx=>by
  obtain⟨v,hv,rfl⟩:=List.mem_map.mp hx;exact h v hv
theorem BO {i j:Int}(h:j≠0)(h2:j.natAbs.log2<9000):lY i j:=⟨h,PyProof.noPylong_of_log2 h2⟩
theorem G1 {i j:Int}(h1:-18446744073709551616<i)(h2:i<18446744073709551616):MulOk i j:=⟨FA.ok (.inl ⟨by omega,by omega⟩)⟩
theorem NL {i j:Int}(h1:-18446744073709551616<j)(h2:j<18446744073709551616):MulOk i j:=⟨FA.ok (.inr ⟨by omega,by omega⟩)⟩
theorem qE (i:Int):(if i<0 then -i else i)=(i.natAbs:Int):=by split <;> omega
theorem nD (g l:Nat):(g:Int).fmod (l:Int)=((g % l:Nat):Int):=by
 rw[Int.fmod_eq_emod_of_nonneg _ (Int.natCast_nonneg l)];rfl
theorem fmod_lo (c:Int){n:Int}(h:0<n):0<=c.fmod n:=Int.fmod_nonneg_of_pos c h
theorem fmod_hi (c:Int){n:Int}(h:0<n):c.fmod n<n:=Int.fmod_lt_of_pos c h
end DL
namespace DL
open L2
structure Sz (n:Nat) (i:Int):Prop where
 lt:i.natAbs<2 ^ n
theorem Sz.mono {m n:Nat}{i:Int}(h:Sz m i)(l:m<=n):Sz n i:=⟨Nat.lt_of_lt_of_le h.lt (Nat.pow_le_pow_right (by decide) l)⟩
theorem Sz.mul {m n:Nat}{a b:Int}(ha:Sz m a)(hb:Sz n b):Sz (m+n) (a*b):=by
 have ha:=ha.lt;have hb:=hb.lt;refine⟨?_⟩;rw[Int.natAbs_mul,Nat.pow_add];exact Nat.mul_lt_mul_of_lt_of_le ha (Nat.le_of_lt hb) (Nat.pos_of_ne_zero (by have:=Nat.two_pow_pos n;omega))
theorem yP {m n:Nat}{x y:Nat}(ha:x<2 ^ m)(hb:y<2 ^ n):x+y<2 ^ (max m n+1):=by
 have h1:2 ^ m<=2 ^ max m n:=Nat.pow_le_pow_right (by decide) (Nat.le_max_left _ _)
 have h2:2 ^ n<=2 ^ max m n:=Nat.pow_le_pow_right (by decide) (Nat.le_max_right _ _)
 rw[Nat.pow_succ];omega
theorem Sz.add {m n:Nat}{a b:Int}(ha:Sz m a)(hb:Sz n b):Sz (max m n+1) (a+b):=by
 have:=yP ha.lt hb.lt;refine⟨?_⟩;omega
theorem Sz.sub {m n:Nat}{a b:Int}(ha:Sz m a)(hb:Sz n b):Sz (max m n+1) (a-b):=by
 have:=yP ha.lt hb.lt;refine⟨?_⟩;omega
theorem Sz.neg {m:Nat}{a:Int}(ha:Sz m a):Sz m (-a):=by
 refine⟨?_⟩;rw[Int.natAbs_neg];exact ha.lt
theorem natAbs_fdiv_le (a b:Int):(a.fdiv b).natAbs<=a.natAbs:=by
 cases a with
 | ofNat m=>
  cases b with
  | ofNat n=>
   cases m with
   | zero=>show(0:Int).natAbs<=_;simp
   | succ m=>show(Int.ofNat ((m+1) / n)).natAbs<=m+1;exact Nat.div_le_self (m+1) n
  | negSucc n=>
   cases m with
   | zero=>show(0:Int).natAbs<=_;simp
   | succ m=>
    show(Int.negSucc (m / (n+1))).natAbs<=m+1;have:(Int.negSucc (m / (n+1))).natAbs=m / (n+1)+1:=rfl;rw[this];have:=Nat.div_le_self m (n+1);omega
 | negSucc m=>
  cases b with
  | ofNat n=>
   cases n with
   | zero=>show(0:Int).natAbs<=_;simp
   | succ n=>
    show(Int.negSucc (m / (n+1))).natAbs<=m+1;have:(Int.negSucc (m / (n+1))).natAbs=m / (n+1)+1:=rfl;rw[this];have:=Nat.div_le_self m (n+1);omega
  | negSucc n=>
   show(Int.ofNat ((m+1) / (n+1))).natAbs<=m+1;exact Nat.div_le_self (m+1) (n+1)
theorem Sz.fdiv {m:Nat}{a:Int}(ha:Sz m a)(b:Int):Sz m (a.fdiv b):=⟨Nat.lt_of_le_of_lt (natAbs_fdiv_le a b) ha.lt⟩
theorem Sz.fmod {m:Nat}{b:Int}(hb:Sz m b)(h:0<b)(a:Int):Sz m (a.fmod b):=by
 have h1:=Int.fmod_nonneg_of_pos a h;have h2:=Int.fmod_lt_of_pos a h;have:=hb.lt;exact⟨by omega⟩
theorem Sz.of {m:Nat}{a:Int}(h1:-(2 ^ m:Nat)<a)(h2:a<(2 ^ m:Nat)):Sz m a:=⟨by omega⟩
theorem Sz.nat {m:Nat}{a:Nat}(h:a<2 ^ m):Sz m (a:Int):=⟨h⟩
theorem Sz.gcdL {m:Nat}{a b:Int}(ha:Sz m a)(h:a≠0):Sz m (Int.gcd a b):=by
 have:Int.gcd a b<=a.natAbs:=Nat.le_of_dvd (by omega) (Int.gcd_dvd_natAbs_left a b)
 have:=ha.lt;have e:((Int.gcd a b:Nat):Int).natAbs=Int.gcd a b:=rfl;refine⟨?_⟩;rw[e];omega
theorem Sz.gcd {m n:Nat}{a b:Int}(ha:Sz m a)(hb:Sz n b):Sz (max m n) (Int.gcd a b):=by
 by_cases h:a=0
 ·subst h;have e:Int.gcd 0 b=b.natAbs:=Int.gcd_zero_left b;rw[e];exact Sz.mono (show Sz n (b.natAbs:Int) from⟨hb.lt⟩) (Nat.le_max_right _ _)
 ·exact(Sz.gcdL ha h).mono (Nat.le_max_left _ _)
theorem mZ {n:Nat}{a:Int}(h:Sz n a)(hn:n<=1048576):PySem.Builtin.Int.intBits a<=2 ^ 20:=by
 unfold PySem.Builtin.Int.intBits;have e:(2:Nat) ^ 20=1048576:=by decide
 rw[e]
 by_cases h0:a.natAbs=0
 ·simp only[h0];split <;> first|omega|simp
 ·have:=(Nat.log2_lt h0).mpr h.lt
  first
   | omega
   | (simp only[h0];omega)
   | (split <;> omega)
theorem bf {m n:Nat}{a b:Int}(ha:Sz m a)(hb:Sz n b)(h1:m<=1048576)(h2:n<=1048576):MulOk a b:=⟨PySem.IntMulOk.of_bits (mZ ha h1) (mZ hb h2)⟩
theorem xR {n:Nat}{i j:Int}(h:j≠0)(hs:Sz n j)(hn:n<=9000):lY i j:=by
 refine BO h ?_;have h0:j.natAbs≠0:=by omega
 have:=(Nat.log2_lt h0).mpr hs.lt;omega
theorem Ke {n:Nat}{i j:Int}(h:j≠0)(hs:Sz n i)(hn:n<=13500):lY i j:=by
 refine⟨h,?_⟩;unfold PySem.Builtin.divisionGoesByPylong;simp only[Bool.and_eq_false_iff,decide_eq_false_iff_not]
 by_cases h1:(if (j == 0)=true then 0 else j.natAbs.log2 / 30+1)>300
 ·right
  by_cases h0:(i == 0)=true
  ·rw[if_pos h0];omega
  ·rw[if_neg h0];have h0':i.natAbs≠0:=by simpa using h0
   have:=(Nat.log2_lt h0').mpr hs.lt;omega
 ·left;exact h1
theorem kN {i:Int}(h1:-(2 ^ 62)<=i)(h2:i<2 ^ 62):jG i:=⟨h1,h2⟩
theorem ES {i j:Int}(h1:0<=j)(h2:j<=1000000)(h3:i.natAbs<2 ^ 64):Ba i j:=⟨⟨h1,h2,h3⟩⟩
end DL
namespace DL
open L2
abbrev Fr:=Int × Int
abbrev Pt:=Int × Int
abbrev aF:=Fr × Fr
abbrev Hf:=Int × Int × Int
def bC (p:Pt):T:=.tup [.int p.1,.int p.2]
def zS (p:Fr):T:=.tup [.int p.1,.int p.2]
def spT (s:aF):T:=.tup [zS s.1,zS s.2]
def cE (h:Hf):T:=.tup [.int h.1,.int h.2.1,.int h.2.2]
theorem yG (p:Pt):mL (bC p)=true:=rfl
theorem ce {α:Type}{f:α->T}(h:∀ a,mL (f a)=true):∀ l:List α,cG (l.map f)=true
 | []=>rfl
 | a::r=>by rw[List.map_cons,qg,h a,ce h r];rfl
theorem fm {α:Type}{f:α->T}{n:Nat}(h:∀ a,dj (f a)<=n):∀ l:List α,fP (l.map f)<=n
 | []=>Nat.zero_le _
 | a::r=>by
  rw[List.map_cons];have:=fm h r;have:=h a;simp only[fP];omega
theorem nu {α:Type}{f:α->T}(h:∀ a b,eqT (f a) (f b)=true↔a=b):∀ l m:List α,cC (l.map f) (m.map f)=true↔l=m
 | [],[]=>by simp[cC]
 | [],_::_=>by simp[cC]
 | _::_,[]=>by simp[cC]
 | a::r,b::s=>by
  simp only[List.map_cons,cC,Bool.and_eq_true,h a b,nu h r s,List.cons.injEq]
theorem br (a b:Int):eqT (.int a) (.int b)=true↔a=b:=by simp[eqT]
theorem bt (a b:Pt):eqT (bC a) (bC b)=true↔a=b:=by
 simp only[bC,eqT,cC,Bool.and_eq_true,beq_iff_eq,Bool.and_true,Prod.ext_iff]
theorem aZ (a b:aF):eqT (spT a) (spT b)=true↔a=b:=by
 obtain⟨⟨a1,a2⟩,a3,a4⟩:=a;obtain⟨⟨b1,b2⟩,b3,b4⟩:=b;simp only[spT,zS,eqT,cC,Bool.and_eq_true,beq_iff_eq,Bool.and_true,Prod.mk.injEq]
theorem bo (a b:Hf):eqT (cE a) (cE b)=true↔a=b:=by
 obtain⟨a1,a2,a3⟩:=a;obtain⟨b1,b2,b3⟩:=b;simp only[cE,eqT,cC,Bool.and_eq_true,beq_iff_eq,Bool.and_true,Prod.mk.injEq]
theorem bn (a:Pt):dj (bC a)<=2:=by show 1<=2;decide
theorem a9 (a:aF):dj (spT a)<=2:=by show 2<=2;decide
theorem bm (a:Hf):dj (cE a)<=2:=by show 1<=2;decide
theorem tP {b:Bool}{P:Prop}[Decidable P](h:b=true↔P):b=decide P:=by
 cases b with
 | true=>exact(decide_eq_true (h.mp rfl)).symm
 | false=>exact(decide_eq_false fun p=>by cases h.mpr p).symm
section
variable (R:S->Prop)
theorem Ct {a b:S}{P:Prop}[Decidable P](h1:dj (tr a)<=20)(h2:dj (tr b)<=20)(h:eqT (tr a) (tr b)=true↔P):dP a b R=R (.t (.bl (decide P))):=by
 unfold dP OM;rw[tP h];exact propext ⟨fun z=>z.2.2,fun z=>⟨h1,h2,z⟩⟩
theorem sI {a b:S}{P:Prop}[Decidable P](h1:dj (tr a)<=20)(h2:dj (tr b)<=20)(h:eqT (tr a) (tr b)=true↔P):dL a b R=R (.t (.bl (!decide P))):=by
 unfold dL OM;rw[tP h];exact propext ⟨fun z=>z.2.2,fun z=>⟨h1,h2,z⟩⟩
theorem Nu (a b c d:Int):dP (.t (.tup [.int a,.int b])) (.t (.tup [.int c,.int d])) R=R (.t (.bl (decide (a=c/\b=d)))):=Ct R (by show 1<=20;decide) (by show 1<=20;decide) (by simp[tr,eqT,cC])
theorem NQ (a b c d:Int):dL (.t (.tup [.int a,.int b])) (.t (.tup [.int c,.int d])) R=R (.t (.bl (!decide (a=c/\b=d)))):=sI R (by show 1<=20;decide) (by show 1<=20;decide) (by simp[tr,eqT,cC])
theorem Nr (a b c d e f:Int):dP (.t (.tup [.int a,.int b,.int c])) (.t (.tup [.int d,.int e,.int f])) R=R (.t (.bl (decide (a=d/\b=e/\c=f)))):=Ct R (by show 1<=20;decide) (by show 1<=20;decide) (by simp[tr,eqT,cC])
theorem NO (a b c d e f:Int):dL (.t (.tup [.int a,.int b,.int c])) (.t (.tup [.int d,.int e,.int f])) R=R (.t (.bl (!decide (a=d/\b=e/\c=f)))):=sI R (by show 1<=20;decide) (by show 1<=20;decide) (by simp[tr,eqT,cC])
theorem aw {α:Type}[DecidableEq α]{f:α->T}{a b:S}{l m:List α}(hf:∀ a b,eqT (f a) (f b)=true↔a=b)(hd:∀ a,dj (f a)<=2)(ha:tr a=.lst (l.map f))(hb:tr b=.lst (m.map f)):dP a b R=R (.t (.bl (decide (l=m)))):=
 Ct R (by rw[ha];have:=fm hd l;simp only[dj];omega) (by rw[hb];have:=fm hd m;simp only[dj];omega) (by rw[ha,hb];simp only[eqT];exact nu hf l m)
theorem ax {α:Type}[DecidableEq α]{f:α->T}{a b:S}{l m:List α}(hf:∀ a b,eqT (f a) (f b)=true↔a=b)(hd:∀ a,dj (f a)<=2)(ha:tr a=.lst (l.map f))(hb:tr b=.lst (m.map f)):dL a b R=R (.t (.bl (!decide (l=m)))):=
 sI R (by rw[ha];have:=fm hd l;simp only[dj];omega) (by rw[hb];have:=fm hd m;simp only[dj];omega) (by rw[ha,hb];simp only[eqT];exact nu hf l m)
end
def oQ (n:Nat)(h:Hf):Prop:=Sz n h.1/\Sz n h.2.1/\Sz n h.2.2
def SzF (n:Nat)(s:Fr):Prop:=Sz n s.1/\Sz n s.2
def fM (n:Nat)(s:aF):Prop:=SzF n s.1/\SzF n s.2
theorem rJ:bW .non .non=true:=rfl
theorem pj:bW .non .bool=false:=rfl
theorem rG:bW .non .int=false:=rfl
theorem rK:bW .non .str=false:=rfl
theorem rL:bW .non .tup=false:=rfl
theorem rH:bW .non .lst=false:=rfl
theorem pc:bW .bool .non=false:=rfl
theorem nI:bW .bool .bool=true:=rfl
theorem o9:bW .bool .int=true:=rfl
theorem pd:bW .bool .str=false:=rfl
theorem pe:bW .bool .tup=false:=rfl
theorem pb:bW .bool .lst=false:=rfl
theorem rq:bW .int .non=false:=rfl
theorem pf:bW .int .bool=false:=rfl
theorem rm:bW .int .int=true:=rfl
theorem rz:bW .int .str=false:=rfl
theorem rA:bW .int .tup=false:=rfl
theorem rn:bW .int .lst=false:=rfl
theorem rO:bW .str .non=false:=rfl
theorem pk:bW .str .bool=false:=rfl
theorem rM:bW .str .int=false:=rfl
theorem rP:bW .str .str=true:=rfl
theorem rQ:bW .str .tup=false:=rfl
theorem rN:bW .str .lst=false:=rfl
theorem rT:bW .tup .non=false:=rfl
theorem pq:bW .tup .bool=false:=rfl
theorem rR:bW .tup .int=false:=rfl
theorem rV:bW .tup .str=false:=rfl
theorem rW:bW .tup .tup=true:=rfl
theorem rS:bW .tup .lst=false:=rfl
theorem rD:bW .lst .non=false:=rfl
theorem ph:bW .lst .bool=false:=rfl
theorem rB:bW .lst .int=false:=rfl
theorem rE:bW .lst .str=false:=rfl
theorem rF:bW .lst .tup=false:=rfl
theorem rC:bW .lst .lst=true:=rfl
theorem yH (l:List Pt):cG (l.map bC)=true:=ce (fun _=>rfl) l
theorem CC (R:S->Prop)(l m:List Pt):dP (.t (.lst (l.map bC))) (.t (.lst (m.map bC))) R=R (.t (.bl (decide (l=m)))):=aw R bt bn rfl rfl
theorem D9 (R:S->Prop)(l m:List Pt):dL (.t (.lst (l.map bC))) (.t (.lst (m.map bC))) R=R (.t (.bl (!decide (l=m)))):=ax R bt bn rfl rfl
theorem CD (R:S->Prop)(l m:List Pt):dP (.t (.lst (l.map bC))) (.vt (.lst (m.map bC))) R=R (.t (.bl (decide (l=m)))):=aw R bt bn rfl rfl
theorem Ea (R:S->Prop)(l m:List Pt):dL (.t (.lst (l.map bC))) (.vt (.lst (m.map bC))) R=R (.t (.bl (!decide (l=m)))):=ax R bt bn rfl rfl
theorem CB (R:S->Prop)(l m:List Pt):dP (.t (.lst (l.map bC))) (.ol (m.map bC)) R=R (.t (.bl (decide (l=m)))):=aw R bt bn rfl rfl
theorem D8 (R:S->Prop)(l m:List Pt):dL (.t (.lst (l.map bC))) (.ol (m.map bC)) R=R (.t (.bl (!decide (l=m)))):=ax R bt bn rfl rfl
theorem CH (R:S->Prop)(l m:List Pt):dP (.vt (.lst (l.map bC))) (.t (.lst (m.map bC))) R=R (.t (.bl (decide (l=m)))):=aw R bt bn rfl rfl
theorem Ed (R:S->Prop)(l m:List Pt):dL (.vt (.lst (l.map bC))) (.t (.lst (m.map bC))) R=R (.t (.bl (!decide (l=m)))):=ax R bt bn rfl rfl
theorem CI (R:S->Prop)(l m:List Pt):dP (.vt (.lst (l.map bC))) (.vt (.lst (m.map bC))) R=R (.t (.bl (decide (l=m)))):=aw R bt bn rfl rfl
theorem Ee (R:S->Prop)(l m:List Pt):dL (.vt (.lst (l.map bC))) (.vt (.lst (m.map bC))) R=R (.t (.bl (!decide (l=m)))):=ax R bt bn rfl rfl
theorem CG (R:S->Prop)(l m:List Pt):dP (.vt (.lst (l.map bC))) (.ol (m.map bC)) R=R (.t (.bl (decide (l=m)))):=aw R bt bn rfl rfl
theorem Ec (R:S->Prop)(l m:List Pt):dL (.vt (.lst (l.map bC))) (.ol (m.map bC)) R=R (.t (.bl (!decide (l=m)))):=ax R bt bn rfl rfl
theorem Cy (R:S->Prop)(l m:List Pt):dP (.ol (l.map bC)) (.t (.lst (m.map bC))) R=R (.t (.bl (decide (l=m)))):=aw R bt bn rfl rfl
theorem D2 (R:S->Prop)(l m:List Pt):dL (.ol (l.map bC)) (.t (.lst (m.map bC))) R=R (.t (.bl (!decide (l=m)))):=ax R bt bn rfl rfl
theorem Cz (R:S->Prop)(l m:List Pt):dP (.ol (l.map bC)) (.vt (.lst (m.map bC))) R=R (.t (.bl (decide (l=m)))):=aw R bt bn rfl rfl
theorem D6 (R:S->Prop)(l m:List Pt):dL (.ol (l.map bC)) (.vt (.lst (m.map bC))) R=R (.t (.bl (!decide (l=m)))):=ax R bt bn rfl rfl
theorem Cw (R:S->Prop)(l m:List Pt):dP (.ol (l.map bC)) (.ol (m.map bC)) R=R (.t (.bl (decide (l=m)))):=aw R bt bn rfl rfl
theorem D1 (R:S->Prop)(l m:List Pt):dL (.ol (l.map bC)) (.ol (m.map bC)) R=R (.t (.bl (!decide (l=m)))):=ax R bt bn rfl rfl
theorem CA (R:S->Prop)(l:List Pt):dP (.t (.lst (l.map bC))) (.ol []) R=R (.t (.bl (decide (l=[])))):=aw (m:=[]) R bt bn rfl rfl
theorem D7 (R:S->Prop)(l:List Pt):dL (.t (.lst (l.map bC))) (.ol []) R=R (.t (.bl (!decide (l=[])))):=ax (m:=[]) R bt bn rfl rfl
theorem CF (R:S->Prop)(l:List Pt):dP (.vt (.lst (l.map bC))) (.ol []) R=R (.t (.bl (decide (l=[])))):=aw (m:=[]) R bt bn rfl rfl
theorem Eb (R:S->Prop)(l:List Pt):dL (.vt (.lst (l.map bC))) (.ol []) R=R (.t (.bl (!decide (l=[])))):=ax (m:=[]) R bt bn rfl rfl
theorem Cu (R:S->Prop)(l:List Pt):dP (.ol (l.map bC)) (.ol []) R=R (.t (.bl (decide (l=[])))):=aw (m:=[]) R bt bn rfl rfl
theorem D0 (R:S->Prop)(l:List Pt):dL (.ol (l.map bC)) (.ol []) R=R (.t (.bl (!decide (l=[])))):=ax (m:=[]) R bt bn rfl rfl
theorem HK (l:List Hf):cG (l.map cE)=true:=ce (fun _=>rfl) l
theorem B8 (R:S->Prop)(l m:List Hf):dP (.t (.lst (l.map cE))) (.t (.lst (m.map cE))) R=R (.t (.bl (decide (l=m)))):=aw R bo bm rfl rfl
theorem DH (R:S->Prop)(l m:List Hf):dL (.t (.lst (l.map cE))) (.t (.lst (m.map cE))) R=R (.t (.bl (!decide (l=m)))):=ax R bo bm rfl rfl
theorem B9 (R:S->Prop)(l m:List Hf):dP (.t (.lst (l.map cE))) (.vt (.lst (m.map cE))) R=R (.t (.bl (decide (l=m)))):=aw R bo bm rfl rfl
theorem DI (R:S->Prop)(l m:List Hf):dL (.t (.lst (l.map cE))) (.vt (.lst (m.map cE))) R=R (.t (.bl (!decide (l=m)))):=ax R bo bm rfl rfl
theorem B7 (R:S->Prop)(l m:List Hf):dP (.t (.lst (l.map cE))) (.ol (m.map cE)) R=R (.t (.bl (decide (l=m)))):=aw R bo bm rfl rfl
theorem DG (R:S->Prop)(l m:List Hf):dL (.t (.lst (l.map cE))) (.ol (m.map cE)) R=R (.t (.bl (!decide (l=m)))):=ax R bo bm rfl rfl
theorem Cc (R:S->Prop)(l m:List Hf):dP (.vt (.lst (l.map cE))) (.t (.lst (m.map cE))) R=R (.t (.bl (decide (l=m)))):=aw R bo bm rfl rfl
theorem DM (R:S->Prop)(l m:List Hf):dL (.vt (.lst (l.map cE))) (.t (.lst (m.map cE))) R=R (.t (.bl (!decide (l=m)))):=ax R bo bm rfl rfl
theorem Cd (R:S->Prop)(l m:List Hf):dP (.vt (.lst (l.map cE))) (.vt (.lst (m.map cE))) R=R (.t (.bl (decide (l=m)))):=aw R bo bm rfl rfl
theorem DN (R:S->Prop)(l m:List Hf):dL (.vt (.lst (l.map cE))) (.vt (.lst (m.map cE))) R=R (.t (.bl (!decide (l=m)))):=ax R bo bm rfl rfl
theorem Cb (R:S->Prop)(l m:List Hf):dP (.vt (.lst (l.map cE))) (.ol (m.map cE)) R=R (.t (.bl (decide (l=m)))):=aw R bo bm rfl rfl
theorem DK (R:S->Prop)(l m:List Hf):dL (.vt (.lst (l.map cE))) (.ol (m.map cE)) R=R (.t (.bl (!decide (l=m)))):=ax R bo bm rfl rfl
theorem BZ (R:S->Prop)(l m:List Hf):dP (.ol (l.map cE)) (.t (.lst (m.map cE))) R=R (.t (.bl (decide (l=m)))):=aw R bo bm rfl rfl
theorem DD (R:S->Prop)(l m:List Hf):dL (.ol (l.map cE)) (.t (.lst (m.map cE))) R=R (.t (.bl (!decide (l=m)))):=ax R bo bm rfl rfl
theorem B5 (R:S->Prop)(l m:List Hf):dP (.ol (l.map cE)) (.vt (.lst (m.map cE))) R=R (.t (.bl (decide (l=m)))):=aw R bo bm rfl rfl
theorem DE (R:S->Prop)(l m:List Hf):dL (.ol (l.map cE)) (.vt (.lst (m.map cE))) R=R (.t (.bl (!decide (l=m)))):=ax R bo bm rfl rfl
theorem BY (R:S->Prop)(l m:List Hf):dP (.ol (l.map cE)) (.ol (m.map cE)) R=R (.t (.bl (decide (l=m)))):=aw R bo bm rfl rfl
theorem DC (R:S->Prop)(l m:List Hf):dL (.ol (l.map cE)) (.ol (m.map cE)) R=R (.t (.bl (!decide (l=m)))):=ax R bo bm rfl rfl
theorem B6 (R:S->Prop)(l:List Hf):dP (.t (.lst (l.map cE))) (.ol []) R=R (.t (.bl (decide (l=[])))):=aw (m:=[]) R bo bm rfl rfl
theorem DF (R:S->Prop)(l:List Hf):dL (.t (.lst (l.map cE))) (.ol []) R=R (.t (.bl (!decide (l=[])))):=ax (m:=[]) R bo bm rfl rfl
theorem Ca (R:S->Prop)(l:List Hf):dP (.vt (.lst (l.map cE))) (.ol []) R=R (.t (.bl (decide (l=[])))):=aw (m:=[]) R bo bm rfl rfl
theorem DJ (R:S->Prop)(l:List Hf):dL (.vt (.lst (l.map cE))) (.ol []) R=R (.t (.bl (!decide (l=[])))):=ax (m:=[]) R bo bm rfl rfl
theorem BX (R:S->Prop)(l:List Hf):dP (.ol (l.map cE)) (.ol []) R=R (.t (.bl (decide (l=[])))):=aw (m:=[]) R bo bm rfl rfl
theorem DB (R:S->Prop)(l:List Hf):dL (.ol (l.map cE)) (.ol []) R=R (.t (.bl (!decide (l=[])))):=ax (m:=[]) R bo bm rfl rfl
theorem HN (l:List aF):cG (l.map spT)=true:=ce (fun _=>rfl) l
theorem CP (R:S->Prop)(l m:List aF):dP (.t (.lst (l.map spT))) (.t (.lst (m.map spT))) R=R (.t (.bl (decide (l=m)))):=aw R aZ a9 rfl rfl
theorem El (R:S->Prop)(l m:List aF):dL (.t (.lst (l.map spT))) (.t (.lst (m.map spT))) R=R (.t (.bl (!decide (l=m)))):=ax R aZ a9 rfl rfl
theorem CQ (R:S->Prop)(l m:List aF):dP (.t (.lst (l.map spT))) (.vt (.lst (m.map spT))) R=R (.t (.bl (decide (l=m)))):=aw R aZ a9 rfl rfl
theorem Em (R:S->Prop)(l m:List aF):dL (.t (.lst (l.map spT))) (.vt (.lst (m.map spT))) R=R (.t (.bl (!decide (l=m)))):=ax R aZ a9 rfl rfl
theorem CO (R:S->Prop)(l m:List aF):dP (.t (.lst (l.map spT))) (.ol (m.map spT)) R=R (.t (.bl (decide (l=m)))):=aw R aZ a9 rfl rfl
theorem Ek (R:S->Prop)(l m:List aF):dL (.t (.lst (l.map spT))) (.ol (m.map spT)) R=R (.t (.bl (!decide (l=m)))):=ax R aZ a9 rfl rfl
theorem CU (R:S->Prop)(l m:List aF):dP (.vt (.lst (l.map spT))) (.t (.lst (m.map spT))) R=R (.t (.bl (decide (l=m)))):=aw R aZ a9 rfl rfl
theorem Ep (R:S->Prop)(l m:List aF):dL (.vt (.lst (l.map spT))) (.t (.lst (m.map spT))) R=R (.t (.bl (!decide (l=m)))):=ax R aZ a9 rfl rfl
theorem CV (R:S->Prop)(l m:List aF):dP (.vt (.lst (l.map spT))) (.vt (.lst (m.map spT))) R=R (.t (.bl (decide (l=m)))):=aw R aZ a9 rfl rfl
theorem Er (R:S->Prop)(l m:List aF):dL (.vt (.lst (l.map spT))) (.vt (.lst (m.map spT))) R=R (.t (.bl (!decide (l=m)))):=ax R aZ a9 rfl rfl
theorem CT (R:S->Prop)(l m:List aF):dP (.vt (.lst (l.map spT))) (.ol (m.map spT)) R=R (.t (.bl (decide (l=m)))):=aw R aZ a9 rfl rfl
theorem Eo (R:S->Prop)(l m:List aF):dL (.vt (.lst (l.map spT))) (.ol (m.map spT)) R=R (.t (.bl (!decide (l=m)))):=ax R aZ a9 rfl rfl
theorem CL (R:S->Prop)(l m:List aF):dP (.ol (l.map spT)) (.t (.lst (m.map spT))) R=R (.t (.bl (decide (l=m)))):=aw R aZ a9 rfl rfl
theorem Eh (R:S->Prop)(l m:List aF):dL (.ol (l.map spT)) (.t (.lst (m.map spT))) R=R (.t (.bl (!decide (l=m)))):=ax R aZ a9 rfl rfl
theorem CM (R:S->Prop)(l m:List aF):dP (.ol (l.map spT)) (.vt (.lst (m.map spT))) R=R (.t (.bl (decide (l=m)))):=aw R aZ a9 rfl rfl
theorem Ei (R:S->Prop)(l m:List aF):dL (.ol (l.map spT)) (.vt (.lst (m.map spT))) R=R (.t (.bl (!decide (l=m)))):=ax R aZ a9 rfl rfl
theorem CK (R:S->Prop)(l m:List aF):dP (.ol (l.map spT)) (.ol (m.map spT)) R=R (.t (.bl (decide (l=m)))):=aw R aZ a9 rfl rfl
theorem Eg (R:S->Prop)(l m:List aF):dL (.ol (l.map spT)) (.ol (m.map spT)) R=R (.t (.bl (!decide (l=m)))):=ax R aZ a9 rfl rfl
theorem CN (R:S->Prop)(l:List aF):dP (.t (.lst (l.map spT))) (.ol []) R=R (.t (.bl (decide (l=[])))):=aw (m:=[]) R aZ a9 rfl rfl
theorem Ej (R:S->Prop)(l:List aF):dL (.t (.lst (l.map spT))) (.ol []) R=R (.t (.bl (!decide (l=[])))):=ax (m:=[]) R aZ a9 rfl rfl
theorem CS (R:S->Prop)(l:List aF):dP (.vt (.lst (l.map spT))) (.ol []) R=R (.t (.bl (decide (l=[])))):=aw (m:=[]) R aZ a9 rfl rfl
theorem En (R:S->Prop)(l:List aF):dL (.vt (.lst (l.map spT))) (.ol []) R=R (.t (.bl (!decide (l=[])))):=ax (m:=[]) R aZ a9 rfl rfl
theorem CJ (R:S->Prop)(l:List aF):dP (.ol (l.map spT)) (.ol []) R=R (.t (.bl (decide (l=[])))):=aw (m:=[]) R aZ a9 rfl rfl
theorem Ef (R:S->Prop)(l:List aF):dL (.ol (l.map spT)) (.ol []) R=R (.t (.bl (!decide (l=[])))):=ax (m:=[]) R aZ a9 rfl rfl
theorem HL (l:List Int):cG (l.map T.int)=true:=ce (fun _=>rfl) l
theorem Cm (R:S->Prop)(l m:List Int):dP (.t (.lst (l.map T.int))) (.t (.lst (m.map T.int))) R=R (.t (.bl (decide (l=m)))):=aw R br (fun _=>by show 0<=2;decide) rfl rfl
theorem DU (R:S->Prop)(l m:List Int):dL (.t (.lst (l.map T.int))) (.t (.lst (m.map T.int))) R=R (.t (.bl (!decide (l=m)))):=ax R br (fun _=>by show 0<=2;decide) rfl rfl
theorem Co (R:S->Prop)(l m:List Int):dP (.t (.lst (l.map T.int))) (.vt (.lst (m.map T.int))) R=R (.t (.bl (decide (l=m)))):=aw R br (fun _=>by show 0<=2;decide) rfl rfl
theorem DV (R:S->Prop)(l m:List Int):dL (.t (.lst (l.map T.int))) (.vt (.lst (m.map T.int))) R=R (.t (.bl (!decide (l=m)))):=ax R br (fun _=>by show 0<=2;decide) rfl rfl
theorem Ck (R:S->Prop)(l m:List Int):dP (.t (.lst (l.map T.int))) (.ol (m.map T.int)) R=R (.t (.bl (decide (l=m)))):=aw R br (fun _=>by show 0<=2;decide) rfl rfl
theorem DT (R:S->Prop)(l m:List Int):dL (.t (.lst (l.map T.int))) (.ol (m.map T.int)) R=R (.t (.bl (!decide (l=m)))):=ax R br (fun _=>by show 0<=2;decide) rfl rfl
theorem Cr (R:S->Prop)(l m:List Int):dP (.vt (.lst (l.map T.int))) (.t (.lst (m.map T.int))) R=R (.t (.bl (decide (l=m)))):=aw R br (fun _=>by show 0<=2;decide) rfl rfl
theorem DY (R:S->Prop)(l m:List Int):dL (.vt (.lst (l.map T.int))) (.t (.lst (m.map T.int))) R=R (.t (.bl (!decide (l=m)))):=ax R br (fun _=>by show 0<=2;decide) rfl rfl
theorem Cs (R:S->Prop)(l m:List Int):dP (.vt (.lst (l.map T.int))) (.vt (.lst (m.map T.int))) R=R (.t (.bl (decide (l=m)))):=aw R br (fun _=>by show 0<=2;decide) rfl rfl
theorem DZ (R:S->Prop)(l m:List Int):dL (.vt (.lst (l.map T.int))) (.vt (.lst (m.map T.int))) R=R (.t (.bl (!decide (l=m)))):=ax R br (fun _=>by show 0<=2;decide) rfl rfl
theorem Cq (R:S->Prop)(l m:List Int):dP (.vt (.lst (l.map T.int))) (.ol (m.map T.int)) R=R (.t (.bl (decide (l=m)))):=aw R br (fun _=>by show 0<=2;decide) rfl rfl
theorem DX (R:S->Prop)(l m:List Int):dL (.vt (.lst (l.map T.int))) (.ol (m.map T.int)) R=R (.t (.bl (!decide (l=m)))):=ax R br (fun _=>by show 0<=2;decide) rfl rfl
theorem Cg (R:S->Prop)(l m:List Int):dP (.ol (l.map T.int)) (.t (.lst (m.map T.int))) R=R (.t (.bl (decide (l=m)))):=aw R br (fun _=>by show 0<=2;decide) rfl rfl
theorem DQ (R:S->Prop)(l m:List Int):dL (.ol (l.map T.int)) (.t (.lst (m.map T.int))) R=R (.t (.bl (!decide (l=m)))):=ax R br (fun _=>by show 0<=2;decide) rfl rfl
theorem Ci (R:S->Prop)(l m:List Int):dP (.ol (l.map T.int)) (.vt (.lst (m.map T.int))) R=R (.t (.bl (decide (l=m)))):=aw R br (fun _=>by show 0<=2;decide) rfl rfl
theorem DR (R:S->Prop)(l m:List Int):dL (.ol (l.map T.int)) (.vt (.lst (m.map T.int))) R=R (.t (.bl (!decide (l=m)))):=ax R br (fun _=>by show 0<=2;decide) rfl rfl
theorem Cf (R:S->Prop)(l m:List Int):dP (.ol (l.map T.int)) (.ol (m.map T.int)) R=R (.t (.bl (decide (l=m)))):=aw R br (fun _=>by show 0<=2;decide) rfl rfl
theorem DP (R:S->Prop)(l m:List Int):dL (.ol (l.map T.int)) (.ol (m.map T.int)) R=R (.t (.bl (!decide (l=m)))):=ax R br (fun _=>by show 0<=2;decide) rfl rfl
theorem Cj (R:S->Prop)(l:List Int):dP (.t (.lst (l.map T.int))) (.ol []) R=R (.t (.bl (decide (l=[])))):=aw (m:=[]) R br (fun _=>by show 0<=2;decide) rfl rfl
theorem DS (R:S->Prop)(l:List Int):dL (.t (.lst (l.map T.int))) (.ol []) R=R (.t (.bl (!decide (l=[])))):=ax (m:=[]) R br (fun _=>by show 0<=2;decide) rfl rfl
theorem Cp (R:S->Prop)(l:List Int):dP (.vt (.lst (l.map T.int))) (.ol []) R=R (.t (.bl (decide (l=[])))):=aw (m:=[]) R br (fun _=>by show 0<=2;decide) rfl rfl
theorem DW (R:S->Prop)(l:List Int):dL (.vt (.lst (l.map T.int))) (.ol []) R=R (.t (.bl (!decide (l=[])))):=ax (m:=[]) R br (fun _=>by show 0<=2;decide) rfl rfl
theorem Ce (R:S->Prop)(l:List Int):dP (.ol (l.map T.int)) (.ol []) R=R (.t (.bl (decide (l=[])))):=aw (m:=[]) R br (fun _=>by show 0<=2;decide) rfl rfl
theorem DO (R:S->Prop)(l:List Int):dL (.ol (l.map T.int)) (.ol []) R=R (.t (.bl (!decide (l=[])))):=ax (m:=[]) R br (fun _=>by show 0<=2;decide) rfl rfl
end DL
namespace DL
open PySem L2
section
variable {X:Cx}
variable {o e:Expr}{wo we:WE}{apos cpos:Pos}
section
variable (δ:aT) (R:S->Prop) (we wo:WE)
theorem countP_map {α:Type}[DecidableEq α]{f:α->T}(hf:∀ a b,eqT (f a) (f b)=true↔a=b)(a:α):∀ l:List α,(l.map f).countP (fun t=>eqT t (f a))=l.count a
 | []=>rfl
 | b::r=>by
  rw[List.map_cons,List.countP_cons,List.count_cons,countP_map hf a r]
  congr 1
  by_cases e:b=a
  ·subst e;simp[(hf b b).mpr rfl]
  ·have:eqT (f b) (f a)=false:=by
    cases z:eqT (f b) (f a) with
    | false=>rfl
    | true=>exact absurd ((hf b a).mp z) e
   simp[this,e]
end
end
theorem fR {α:Type}{f h:α->T}{p:α->Bool}{g:WG}{tc:WT}{te:WE}{l:List α}{δ0:aT}{R:List T->Prop}(P:aT->Prop)(hp:∀ a∈l,mL (h a)=true)(hl:l.length<100000)(h0:P δ0)
  (step:∀ a∈l,∀ δ,P δ->∀ (Y:aT->S->Prop) (N:aT->Prop),(∀ δ1,P δ1->p a=true->Y δ1 (.t (h a)))->(∀ δ1,P δ1->p a=false->N δ1)->g (f a) δ fun δ1=>tc δ1 fun ok=>if ok=true then te δ1 (fun s=>Y δ1 s) else N δ1)
  (fin:R ((l.filter p).map h)):tU g tc te (l.map f) δ0 R:=by
 refine⟨fun ts δ acc=>∃ pre post,l=pre++post/\ts=post.map f/\P δ/\acc=(pre.filter p).map h,⟨[],l,rfl,rfl,h0,rfl⟩,?_,?_⟩
 ·rintro δ acc ⟨pre,post,e,e2,_,rfl⟩;have:post=[]:=by simpa using e2.symm
  subst this;rw[List.append_nil]at e;subst e;exact fin
 ·rintro x r δ acc ⟨pre,post,e,e2,hP,rfl⟩
  cases post with
  | nil=>cases e2
  | cons a post=>
   rw[List.map_cons]at e2
   cases e2
   have ha:a∈l:=by rw[e];simp
   have hlen:((pre.filter p).map h).length<100000:=by
    rw[List.length_map];have h1:=List.length_filter_le p pre;have h2:l.length=pre.length+(post.length+1):=by rw[e];simp
    omega
   refine step a ha δ hP _ _ (fun δ1 h1 pa=>⟨hp a ha,hlen,pre++[a],post,by rw[e];simp,rfl,h1,?_⟩) (fun δ1 h1 pa=>⟨pre++[a],post,by rw[e];simp,rfl,h1,?_⟩)
   ·rw[List.filter_append,List.map_append];simp[List.filter,pa]
   ·rw[List.filter_append,List.map_append];simp[List.filter,pa]
theorem nc {α:Type}{f h:α->T}{g:WG}{te:WE}{l:List α}{δ0:aT}{R:List T->Prop}(P:aT->Prop)(hp:∀ a∈l,mL (h a)=true)(hl:l.length<100000)(h0:P δ0)
  (step:∀ a∈l,∀ δ,P δ->∀ (Y:aT->S->Prop),(∀ δ1,P δ1->Y δ1 (.t (h a)))->g (f a) δ fun δ1=>te δ1 (fun s=>Y δ1 s))
  (fin:R (l.map h)):tU g vh te (l.map f) δ0 R:=by
 refine fR (p:=fun _=>true) P hp hl h0 (fun a ha δ hP Y N h1 h2=>?_) (by rw[List.filter_eq_self.mpr (fun _ _=>rfl)];exact fin)
 show g (f a) δ fun δ1=>if true=true then te δ1 (fun s=>Y δ1 s) else N δ1
 simp only[if_true];exact step a ha δ hP Y fun δ1 q=>h1 δ1 q rfl
theorem kE (lo:Int)(n:Nat):(cR lo n).length=n:=by unfold cR;simp
end DL
namespace PyProof.Rows
open PySem
section
variable {prog:Program}{w:World}{A:Around}{E:Value->Shared->Prop}{s:Shared}
end
end PyProof.Rows
namespace L2
open PySem PyProof.Rows
section
variable {X:Cx}{pos:Pos}
end
end L2
namespace DL
open PySem L2
end DL
namespace DL
open PySem L2 PySem.W
abbrev WX:=(Str->aT->Prop)->WS
def pI (K:Frag)(x:Str)(C:Addr):Prop:=nsIn K mainGlobals x=some (some (.ref C))
def O5 (K:Frag)(F:Hp)(EX:Str->aT->Prop)(Ex:Addr->St->Hp->Prop):Prop:=∀ x C δ' F' σ' H',aM F F'->Rel K F' H' σ' δ'->pI K x C->EX x δ'->Ex C σ' H'
theorem O5.mono {K:Frag}{F F1:Hp}{EX:Str->aT->Prop}{Ex:Addr->St->Hp->Prop}(h:O5 K F EX Ex)(s:aM F F1):O5 K F1 EX Ex:=fun x C δ' F' σ' H' q=>h x C δ' F' σ' H' (s.trans q)
abbrev Be:=List S->Str->Prop
def Oq (K:Frag)(spx:Be):Sp:=fun vs H _ E=>∃ ss x,(∀ s∈ss,xG s)/\kb K H H ss vs/\spx ss x/\∀ C H',aM H H'->pI K x C->E (.ref C) none H'
structure FB (P:Program) (w:World) (K:Frag) (mg:Str->Option Value) (base:Heap) (k:Nat) (x:Str) (spx:Be):Prop where
 ex:∃ (f:Addr) (fd:FuncData) (ps:List Str),mg x=some (.ref f)/\iL P w K mg base (Qc P w) k f fd ps (Oq K spx)/\Binds K fd ps []/\keepIn K (.ref f)=true
structure O3 (K:Frag) (mg:Str->Option Value) (x:Str):Prop where
 ex:∃ C,pI K x C/\O1 K mg x C
structure O6 (K:Frag) (mg:Str->Option Value) (x y:Str):Prop where
 ex:∃ C S,pI K x C/\mg y=some (.ref S)/\mroIn K C (.ref S)=some true
structure O4 (K:Frag) (mg:Str->Option Value) (x y:Str) (b:Bool):Prop where
 ex:∃ C S,pI K x C/\mg y=some (.ref S)/\vv K C/\kitOne K (.ref C) (.ref S)=some b
structure O7 (K:Frag) (x:Str):Prop where
 ex:∃ C,pI K x C/\vv K C/\kitOne K (.ref C) (.type "ValueError")=some true
theorem fQ.len {K:Frag}{H F' H':Hp}:∀ {ss:List S}{vs:List V},fQ K H F' H' ss vs->vs.length=ss.length
 | [],_,h=>by cases (show _=[] from h);rfl
 | _::_,_,⟨v,r,h1,_,h3⟩=>by subst h1;rw[List.length_cons,List.length_cons,fQ.len h3]
section
variable {X:Cx}{H₀:Hp}{Ex:Addr->St->Hp->Prop}{st:Stmt}{rest:List Stmt}{w a b:WX}{pos:Pos}
section
variable {k:Nat}{f:Str}{spx:Be}{p:Pos}{e:Expr}{es:List Expr}{wa:WA} (C:FB X.prog X.w X.K X.mg X.base k f spx) (hr:cz k X.A) (hx:FG X Ex) (ha:PA X (e::es) (dD X.K wa))
include C hr hx ha
end
end
section
variable {P:Program}{wd:World}{K:Frag}{mg:Str->Option Value}{base:Heap}
end
def Pp (x y:Str):Bool:=x == y || y == "SpotError"
section
variable {X:Cx}
structure Qq (mg:Str->Option Value) (y:Str):Prop where
 ex:∃ S,mg y=some (.ref S)
inductive Jd (mg:Str->Option Value):List Str->List Addr->Prop
 | nil:Jd mg [] []
 | cons {y:Str}{S:Addr}{ys:List Str}{Ss:List Addr} (h:mg y=some (.ref S)) (r:Jd mg ys Ss):Jd mg (y::ys) (S::Ss)
variable {e:Expr}{we:WE}{pos p p2:Pos}
end
structure Mx (K:Frag) (mg:Str->Option Value) (rs ys:List Str):Prop where
 cls:∀ y∈ys,O3 K mg y
 sub:∀ x∈rs,O6 K mg x "SpotError"
 isa:∀ x∈rs,∀ y∈ys,O4 K mg x y (Pp x y)
 val:∀ x∈rs,O7 K x
theorem Mx.at {K:Frag}{mg:Str->Option Value}{rs ys:List Str}(e:Mx K mg rs ys){y:Str}(h:y∈ys):Qq mg y:=by
 obtain⟨C,_,o⟩:=(e.cls y h).ex;exact⟨C,o.bound⟩
end DL
namespace L2
open PySem PyProof.Rows
theorem uf:∀ {ns:List Int}{its:List Value},aQ (ns.map V.int) its->IntsAre its ns
 | [],_,.nil=>.nil
 | n::ns,_,.cons h r=>by
  obtain⟨t,rfl⟩:=h;exact .cons n t (uf r)
section
variable {X:Cx}
theorem zG (hc:X.calm=true):fk X (.builtin "sum") (fun xs H Q=>∃ (p:Addr) (ns:List Int),xs=[.ref p]/\dR X.K H p (ns.map V.int)/\Q (.int ns.sum) H):=by
 rintro pins s σ H xs us Q I r ⟨p,ns,rfl,hq,q⟩;obtain⟨u,rfl,rx⟩:=vals1 r
 cases rx
 obtain⟨its,rv,⟨o,n,e,c,d,da⟩,_⟩:=I.list hq;have hl:s.heap.IsList p its.toArray:=⟨o,e,c,n,da⟩;have hi:=uf rv;obtain⟨xs,hx⟩:=hi.allInts.items;have hl':s.heap.IsList p (intItems xs):=hx ▸ hl;refine sum_intListG (I.ok.hd hc) hl' fun h' tk t' hk=>?_;have e1:ns=xs.toList.map (·.1):=by
  rw[<-nums_intItems,<-hx];exact(show numsOf its.toArray.toList=ns from hi.numsOf).symm
 have e2:preSum (numAt xs) xs.size=ns.sum:=by
  rw[preSum_eq,List.take_of_length_le (by simp),e1]
 rw[e2];exact⟨.int ns.sum,H,I.kept (t':=tk) hk,⟨t',rfl⟩,q⟩
end
end L2
namespace DL
open PySem L2
def nG:List T->Option (List Int)
 | []=>some []
 | .int i::r=>match nG r with
  | some l=>some (i::l)
  | none=>none
 | _::_=>none
theorem pX:∀ l:List Int,nG (l.map T.int)=some l
 | []=>rfl
 | a::r=>by rw[List.map_cons];unfold nG;rw[pX r]
theorem nH:∀ {ts:List T}{l:List Int},nG ts=some l->ts=l.map T.int
 | [],l,h=>by cases h;rfl
 | t::r,l,h=>by
  cases t <;> try (simp[nG]at h)
  rename_i i
  split at h
  ·rename_i m hm;simp at h;subst h;rw[List.map_cons,nH hm]
  ·simp at h
def sumK (R:S->Prop)(ts:List T):Prop:=match nG ts with
 | some l=>R (.t (.int l.sum))
 | none=>False
theorem Fj (R:S->Prop)(l:List Int):sumK R (l.map T.int)=R (.t (.int l.sum)):=by unfold sumK;rw[pX]
def wj:List S->(S->Prop)->Prop
 | [.t (.lst ts)],R=>sumK R ts
 | [.vt (.lst ts)],R=>sumK R ts
 | [.ol ts],R=>sumK R ts
 | _,_=>False
theorem oB {K:PySem.W.Frag}{F:Hp}:∀ {l:List Int}{xs:List V},ao K F (l.map T.int) xs->xs=l.map V.int
 | [],_,h=>h
 | a::r,_,⟨x,ys,e,h1,h2⟩=>by
  subst e;rw[oB h2];exact congrArg (·::_) h1
theorem K8 {K:PySem.W.Frag}:gZ K (fun xs H Q=>∃ (p:Addr) (ns:List Int),xs=[.ref p]/\dR K H p (ns.map V.int)/\Q (.int ns.sum) H) wj:=by
 intro F H ss vs R Q sb fu rp h k;have fin:∀ {ts:List T}{a:Addr}{xs:List V}{G:Hp},sumK R ts->dR K H a xs->ao K G ts xs->∃ (p:Addr) (ns:List Int),[V.ref a]=[.ref p]/\dR K H p (ns.map V.int)/\Q (.int ns.sum) H:=fun {ts a xs G} h1 h2 h3=>by
  unfold sumK at h1
  split at h1
  ·rename_i l hl;rw[nH hl]at h3;have e:=oB h3;subst e;exact⟨a,l,rfl,h2,k _ F H (.t (.int _)) (dh.refl sb fu) rfl h1⟩
  ·exact h1.elim
 unfold wj at h
 split at h
 ·obtain⟨v,r,rfl,⟨a,xs,rfl,h1,h2⟩,h3⟩:=rp
  cases (show r=[] from h3)
  exact fin h (sb.seq h1) h2
 ·obtain⟨v,r,rfl,⟨a,xs,rfl,h1,h2⟩,h3⟩:=rp
  cases (show r=[] from h3)
  exact fin h h1 h2
 ·obtain⟨v,r,rfl,⟨a,xs,rfl,h1,h2⟩,h3⟩:=rp
  cases (show r=[] from h3)
  exact fin h h1 h2
 ·exact h.elim
theorem boot_sum:bootBuiltins "sum"=some (.builtin "sum"):=by decide +kernel
section
variable {X:Cx}{e:Expr}{wa:WA}{pos p:Pos}
theorem Ka (hm:X.mg "sum"=none) (ha:PA X [e] (dD X.K wa)) (hg:Gl X "sum":=by rfl) (hc:X.calm=true:=by rfl) (he:starEach [e] X.env=(false,eval e X.env)::starEach [] X.env:=by rfl):PE X (.Call (.Name "sum" p) [e] [] pos) (au X.K (eU wj wa)):=
 iT (zG hc) K8 hm boot_sum ha hg (he:=he) (hpl:=rfl)
end
theorem JJ (ts:List T)(R:S->Prop):wj [.t (.lst ts)] R=sumK R ts:=rfl
theorem JM (ts:List T)(R:S->Prop):wj [.vt (.lst ts)] R=sumK R ts:=rfl
theorem JK (ts:List T)(R:S->Prop):wj [.ol ts] R=sumK R ts:=rfl
def pL (le:Int->Int->Prop)(R:S->Prop)(ts:List T):Prop:=match nG ts with
 | some l=>l≠[]/\∀ m∈l,(∀ x∈l,le x m)->R (.t (.int m))
 | none=>False
def CY (le:Int->Int->Prop):List S->(S->Prop)->Prop
 | [.t (.lst ts)],R=>pL le R ts
 | [.vt (.lst ts)],R=>pL le R ts
 | [.ol ts],R=>pL le R ts
 | _,_=>False
section
variable {X:Cx}{e:Expr}{wa:WA}{pos p:Pos}
end
theorem FJ (le:Int->Int->Prop)(ts:List T)(R:S->Prop):CY le [.t (.lst ts)] R=pL le R ts:=rfl
theorem FL (le:Int->Int->Prop)(ts:List T)(R:S->Prop):CY le [.vt (.lst ts)] R=pL le R ts:=rfl
theorem FK (le:Int->Int->Prop)(ts:List T)(R:S->Prop):CY le [.ol ts] R=pL le R ts:=rfl
def l5 (g:WG)(tc:WT)(te:WE):List T->aT->List T->(List T->Prop)->Prop
 | [],_,acc,R=>R acc
 | x::r,δ,acc,R=>g x δ fun δ1=>tc δ1 fun ok=>if ok=true then te δ1 fun s=>uh (fun y=>acc.length<100000/\l5 g tc te r δ1 (acc++[y]) R) s else l5 g tc te r δ1 acc R
theorem tV {g:WG}{tc:WT}{te:WE}{ts:List T}{δ:aT}{R:List T->Prop}(h:l5 g tc te ts δ [] R):tU g tc te ts δ R:=⟨fun ts δ acc=>l5 g tc te ts δ acc R,h,fun _ _ h=>h,fun _ _ _ _ h=>h⟩
theorem FO (g:WG)(tc:WT)(te:WE)(δ:aT)(acc:List T)(R:List T->Prop):l5 g tc te [] δ acc R=R acc:=rfl
theorem FN (g:WG)(tc:WT)(te:WE)(x:T)(r:List T)(δ:aT)(acc:List T)(R:List T->Prop):l5 g tc te (x::r) δ acc R=g x δ fun δ1=>tc δ1 fun ok=>if ok=true then te δ1 fun s=>uh (fun y=>acc.length<100000/\l5 g tc te r δ1 (acc++[y]) R) s else l5 g tc te r δ1 acc R:=rfl
end DL
namespace L2
open PySem PySem.Spec PyProof.Rows
section
variable {X:Cx}{pins:List (Addr × Obj)}{σ:St}{H:Hp}{s:Shared}
end
structure OU (z TI TO i1 i2:Addr):Prop where
 TIz:TI≠z
 TOz:TO≠z
 i1z:i1≠z
 i2z:i2≠z
 TITO:TI≠TO
 TIi1:TI≠i1
 TIi2:TI≠i2
 TOi1:TO≠i1
 TOi2:TO≠i2
 i12:i1≠i2
section
variable {X:Cx}{elts:List Expr}{x1:Nat}{tp:Pos}
end
end L2
namespace DL
open PySem L2
section
variable {X:Cx}{e e2:Expr}{we:WE}{wa:WA}{p pos tp:Pos}{elts:List Expr}{x1:Nat}
end
section
variable {X:Cx}{e:Expr}{wa:WA}{pos p:Pos}
end
section
variable {X:Cx}{e:Expr}{we:WE}{lo hi:Option Expr}{wl wh:aT->(Option Int->Prop)->Prop}{pos p2:Pos}
end
end DL
set_option maxHeartbeats 4000000
namespace DL
open PySem PySem.Spec L2 PyProof.Rows
def Hv:Expr->Bool
 | .Starred ..=>false
 | _=>true
theorem iC {e:Expr}{es:List Expr}{env:Env}(h:Hv e=true):starEach (e::es) env=(false,eval e env)::starEach es env:=by
 cases e <;> first|rfl|cases h
theorem wH:typeLookup (.type "list_reverseiterator") "__len__"=pure none:=by rw[typeLookup_type,builtinLookup_eq_fast];kernel_rfl
theorem pH:Slot "list_reverseiterator" "__length_hint__" "list_reverseiterator.__length_hint__":=
 .of (owner:="list_reverseiterator") (n:="__length_hint__") (by rw[typeLookup_type,builtinLookup_eq_fast];kernel_rfl) (by decide +kernel) (by decide +kernel) (by decide +kernel)
  (by first|exact .inl (by decide +kernel)|exact .inr (by decide +kernel)) (by rw[isSubtype_type];kernel_rfl)
section
variable {prog:Program}{w:World}{A:Around}{E:Value->Shared->Prop}{s:Shared}
theorem oH {it l:Addr}{i:Int}{Q:Bool->Shared->Prop}(hit:s.heap.IsRevIter it l i)(h:Q false s):wpAny (model prog w) A (Builtin.List.listLengthHint (.ref it)) Q E s:=by
 unfold Builtin.List.listLengthHint;refine wpAny_bind (wpAny_specialOf hit.typeIs wH ?_);show wpAny _ A (specialOf (Value.ref it) (Str.ofString "__length_hint__") >>= _) _ _ _;refine wpAny_bind (wpAny_specialOf hit.typeIs pH.lookup ?_);generalize hid:("list_reverseiterator.__length_hint__":String)=id0
 wp_delta
 rw[show splitId id0=some ("list_reverseiterator","__length_hint__") from by subst hid;decide +kernel]
 subst hid;refine wpAny_bind (wpAny_isInstance (T:="list_reverseiterator") (b:=true) hit.typeIs (by rw[isSubtype_type];kernel_rfl) ?_)
 refine wpAny_ite_split (fun hab=>absurd hab (by decide)) (fun _=>?_)
 refine wpAny_ite_split (fun _=>?_) (fun hab=>absurd (by decide +kernel) hab)
 refine wpAny_ite_split (fun hab=>absurd hab (by decide +kernel)) (fun _=>?_)
 exact wpAny_pure h
theorem lX {R:Result->Shared->Prop}{I l:Addr}{items:Array Value} (hh:A.handled=none) (hit:s.heap.IsRevIter I l ((items.size:Int)-1)) (hl:s.heap.IsList l items) (hz:items.size<=sizeLine) (S:Addr) (res:Value) (c₀:Nat) (hS:s.heap.get? S=some {cls:=.type "list",data:=.seq #[] c₀}) (hlI:l≠I) (hSI:S≠I) (hSl:S≠l)
  (hR:∀ h' tk acc' c',(∀ b o,b≠S->b≠I->s.heap.get? b=some o->h'.get? b=some o)->h'.get? S=some {cls:=.type "list",dict:=none,data:=.seq acc' c',slots:=#[]} →
   ItemsOf (fun i v=>items[items.size-1-i]?=some v) acc' items.size->R (.ok (.ret res)) {s with heap:=h',toks:=tk}) :
  wpAny (model prog w) A.in1 (Builtin.List.listExtendWith (.ref S) (.ref I) res)
   (fun fin s'=>match fin with|.done f=>R (.ok f) s'|.again c'=>c'.quiet=true/\codeAny (model prog w) A c' R s') (fun e s'=>R (.error e) s') s:=by
 have W:=(Walks.listRev (prog:=prog) (w:=w) (A:=A.in1) hh I l hlI items).toS;have hSf:S∉[I,l]:=fun hm=>by
  rcases List.mem_cons.mp hm with e|e
  ·exact hSI e
  ·exact hSl (List.mem_singleton.mp e)
 unfold Builtin.List.listExtendWith;refine wpAny_bind (wpAny_typeOf hit.typeIs ?_);have h1:Builtin.List.listSameRef (.ref S) (.ref I)=false:=by simp[Builtin.List.listSameRef,hSI]
 have h2:(Value.type "list_reverseiterator" == Value.type "list")=false:=by decide
 have h3:(Value.type "list_reverseiterator" == Value.type "tuple")=false:=by decide
 simp only[h1,h2,h3,Bool.or_false,Bool.false_eq_true,if_false];refine wpAny_bind (wpAny_pyIter_revIter hit ?_);refine wpAny_bind (wpAny_holding (oH hit ?_));refine wpAny_ite_split (fun hab=>absurd hab (by decide)) (fun _=>wpAny_pure ⟨plainId_quiet F.plain_extend_loop _,?_⟩)
 have e0:(items.size:Int)-1-((0:Nat):Int)=(items.size:Int)-1:=by omega
 refine codeAny_extend_loopS W hz S hSf res items.size 0 s #[] c₀ rfl (Nat.zero_le _) ⟨Nat.zero_le _,by rw[e0];exact hit,hl⟩ hS (ItemsOf.nil _) fun s' acc' c' hm hS' hacc=>?_
 rw[Moved.eq_with hm];refine hR s'.heap s'.toks acc' c' (fun b o hb hb2 e=>hm.heap b o (fun hmem=>?_) e) hS' hacc
 rcases List.mem_cons.mp hmem with e'|hmem
 ·exact hb e'
 ·exact hb2 (List.mem_singleton.mp hmem)
theorem jF {R:Result->Shared->Prop}{I l:Addr}{items:Array Value} (hh:A.handled=none) (hit:s.heap.IsRevIter I l ((items.size:Int)-1)) (hl:s.heap.IsList l items) (hz:items.size<=sizeLine) (S:Addr) (hS:s.heap.get? S=some {cls:=.type "list",data:=.seq #[]}) (hlI:l≠I) (hSI:S≠I) (hSl:S≠l)
  (hR:∀ h' tk acc' c',(∀ b o,b≠S->b≠I->s.heap.get? b=some o->h'.get? b=some o)->h'.get? S=some {cls:=.type "list",dict:=none,data:=.seq acc' c',slots:=#[]} →
   ItemsOf (fun i v=>items[items.size-1-i]?=some v) acc' items.size->R (.ok (.ret .none)) {s with heap:=h',toks:=tk}) :
  wpAny (model prog w) A.in1 (Builtin.«list.__init__» ⟨[.ref S,.ref I],[]⟩)
   (fun fin s'=>match fin with|.done f=>R (.ok f) s'|.again c'=>c'.quiet=true/\codeAny (model prog w) A c' R s') (fun e s'=>R (.error e) s') s:=by
 show wpAny _ _ (do let old ← Builtin.List.listItems (.ref S);Builtin.List.listUpdate (.ref S) (fun _=>#[]);letGo old.toList.reverse;Builtin.List.listExtendWith (.ref S) (.ref I) .none) _ _ s
 refine wpAny_bind ?_;unfold Builtin.List.listItems;refine wpAny_bind (wpAny_seqItems hS rfl (wpAny_pure ?_));show wpAny _ _ (updateSeq S (fun _=>#[]) >>= fun _=>letGo (#[]:Array Value).toList.reverse >>= fun _=>Builtin.List.listExtendWith (.ref S) (.ref I) .none) _ _ s;refine wpAny_bind (wpAny_updateSeq hS rfl ?_);have hS₂:=Heap.get?_update_self (Obj.mapSeq (fun _=>(#[]:Array Value))) hS rfl;have oth:∀ b o,b≠S->s.heap.get? b=some o->(s.heap.update S (Obj.mapSeq (fun _=>(#[]:Array Value)))).get? b=some o:=
  fun b o hb e=>(Heap.get?_update_other _ _ (Ne.symm hb)).trans e
 refine wpAny_bind (wpAny_letGo ?_);refine lX hh (hit.at fun o e=>oth I o (Ne.symm hSI) e) (hl.at fun o e=>oth l o (Ne.symm hSl) e) hz S .none _ hS₂ hlI hSI hSl fun h' tk acc' c' hk hS' hacc=>?_;exact hR h' tk acc' c' (fun b o hb hb2 e=>hk b o hb hb2 (oth b o hb e)) hS' hacc
theorem oZ {Q:Value->Shared->Prop}{I l:Addr}{items:Array Value}(hh:A.handled=none)(hit:s.heap.IsRevIter I l ((items.size:Int)-1))(hl:s.heap.IsList l items)(hz:items.size<=sizeLine)(hlI:l≠I)
  (hQ:∀ h' tk acc' c',(∀ b o,b≠I->s.heap.get? b=some o->h'.get? b=some o) →
   h'.get? s.heap.objs.size=some {cls:=.type "list",dict:=none,data:=.seq acc' c',slots:=#[]}->ItemsOf (fun i v=>items[items.size-1-i]?=some v) acc' items.size->Q (.ref s.heap.objs.size) {s with heap:=h',toks:=tk}) :
  wpAny (model prog w) A (call (.type "list") [.ref I]) Q E s:=by
 obtain⟨oI,hoI,_⟩:=id hit;obtain⟨ol,hol,_⟩:=id hl;refine callType_codes (Q₁:=fun obj s₁=>obj=.ref s.heap.objs.size/\s₁={s with heap:=s.heap.push {cls:=.type "list",data:=.seq #[]}}) F.called_list (F.typeCall_list_1 _) F.entry_list_init
  (code_list_new _ ⟨rfl,rfl⟩) fun obj s₁ h₁=>?_
 obtain⟨rfl,rfl⟩:=h₁;have hS:(s.heap.push {cls:=.type "list",data:=.seq #[]}).get? s.heap.objs.size=some {cls:=.type "list",data:=.seq #[]}:=Heap.get?_push_size _ rfl;refine⟨⟨_,hS,rfl⟩,F.args_list_init_2 _ _,jF (A:=A.in1) hh (hit.at fun o e=>Heap.get?_push_of_some _ e) (hl.at fun o e=>Heap.get?_push_of_some _ e) hz _ hS hlI (fun e=>Nat.ne_of_lt (Heap.lt_size hoI) e.symm) (fun e=>Nat.ne_of_lt (Heap.lt_size hol) e.symm) fun h' tk acc' c' hk hS' hacc=>?_⟩;exact⟨rfl,hQ h' tk acc' c' (fun b o hb e=>hk b o (Nat.ne_of_lt (Heap.lt_size e)) hb (Heap.get?_push_of_some _ e)) hS' hacc⟩
theorem z8 {its:List Value}{acc:Array Value}(h:ItemsOf (fun i v=>its.toArray[its.toArray.size-1-i]?=some v) acc its.toArray.size):acc=its.reverse.toArray:=by
 obtain⟨h1,h2⟩:=h;have e:acc.toList=its.reverse:=by
  apply List.ext_getElem?;intro i
  by_cases hi:i<acc.size
  ·have h3:=h2 i acc[i] (Array.getElem?_eq_getElem hi);have hi':i<its.length:=by simpa [h1] using hi
   rw[Array.getElem?_toList,Array.getElem?_eq_getElem hi,List.getElem?_reverse hi'];simpa using h3.symm
  ·rw[List.getElem?_eq_none (by simpa using Nat.le_of_not_lt hi),List.getElem?_eq_none (by simp[h1]at hi;simpa using hi)]
 rw[<-e]
theorem vd:∀ {xs:List V}{us:List Value},aQ xs us->aQ xs.reverse us.reverse
 | [],_,.nil=>.nil
 | x::xs,u::us,.cons r t=>by
  rw[List.reverse_cons,List.reverse_cons];exact(vd t).append (.cons r .nil)
end
def Fk (K:PySem.W.Frag)(te:TE):TE:=fun σ H Q=>te σ H fun x H1=>∃ p ys,x=.ref p/\dR K H1 p ys/\∀ l,H1 l=none->Q (.ref l) (dy H1 l (.lst ys.reverse))
section
variable {X:Cx}{e:Expr}{te:TE}{p1 p2 pos1 pos2:Pos}
theorem w8 (hm1:X.mg "list"=none) (hm2:X.mg "reversed"=none) (hd:X.A.handled=none) (he:PE X e te) (hg1:Gl X "list":=by rfl) (hg2:Gl X "reversed":=by rfl)
  (wu:starEach [e] X.env=(false,eval e X.env)::starEach [] X.env:=by exact iC rfl) (vo:starEach [.Call (.Name "reversed" p2) [e] [] pos2] X.env=(false,eval (.Call (.Name "reversed" p2) [e] [] pos2) X.env)::starEach [] X.env:=by rfl) :
  PE X (.Call (.Name "list" p1) [.Call (.Name "reversed" p2) [e] [] pos2] [] pos1) (Fk X.K te):=by
 intro pins s σ H Q I h;refine wpAny_Call_Name_kw (i6 I hg1 hm1 PyProof.Rows.boot_list ?_);refine PyProof.Rows.callWith_type1 ?_ vo;rw[vo];show wpAny _ _ (spliced ((false,eval (.Call (.Name "reversed" p2) [e] [] pos2) X.env)::backTo pos1 (starEach [] X.env))) _ _ s;refine Calls.spliced_cons ?_;refine wpAny_Call_Name_kw (i6 I hg2 hm2 PyProof.Rows.boot_reversed ?_);refine PyProof.Rows.callWith_type1 ?_ wu;rw[wu];show wpAny _ _ (spliced ((false,eval e X.env)::backTo pos2 (starEach [] X.env))) _ _ s;refine Calls.spliced_cons (cM (he pins s σ H _ I h) fun u s1 ⟨x,H1,I1,r1,q1⟩=>?_);obtain⟨p,ys,rfl,hq,fin⟩:=q1
 cases r1
 refine Calls.spliced_nil ?_;obtain⟨its,r,pl,hz⟩:=I1.list hq;have hl:=pl.isList;obtain⟨ol,hol,_⟩:=id hl;refine call_reversed_list hl ?_;have hit:((s1.heap.push (revObj p ((its.toArray.size:Int)-1))).IsRevIter s1.heap.objs.size p ((its.toArray.size:Int)-1)):=⟨_,Heap.get?_push_size _ rfl,rfl,rfl⟩;refine Calls.spliced_nil ?_;have hlen:=r.length;refine oZ hd hit (hl.at fun o e=>Heap.get?_push_of_some _ e) (by rw[List.size_toArray];omega) (Nat.ne_of_lt (Heap.lt_size hol)) fun h' tk acc' c' hk hS' hacc=>?_
 have hacc':=z8 hacc;subst hacc';have keep:∀ b o,s1.heap.get? b=some o->h'.get? b=some o:=fun b o e=>hk b o (Nat.ne_of_lt (Heap.lt_size e)) (Heap.get?_push_of_some _ e);have hsz:(s1.heap.push (revObj p ((its.toArray.size:Int)-1))).objs.size=s1.heap.objs.size+1:=size_push' ..;rw[hsz]at hS' ⊢;have le:s1.heap.objs.size<=s1.heap.objs.size+1:=Nat.le_succ _;exact⟨.ref (s1.heap.objs.size+1),_,I1.laid (t':=tk) keep le (show eB X.prog X.w _ h' _ (.lst ys.reverse) from⟨by rw[List.length_reverse];exact hz,its.reverse,c',vd r,hS'⟩),rfl,fin _ (I1.hok.fresh le)⟩
def AE (R:S->Prop)(s:S):Prop:=match items s with
 | some ts=>cG ts=true/\R (.ol ts.reverse)
 | none=>False
def oC (we:WE):WE:=fun δ R=>we δ (AE R)
theorem v4 {we:WE} (hm1:X.mg "list"=none) (hm2:X.mg "reversed"=none) (hd:X.A.handled=none) (he:PE X e (au X.K we)) (hg1:Gl X "list":=by rfl) (hg2:Gl X "reversed":=by rfl)
  (wu:starEach [e] X.env=(false,eval e X.env)::starEach [] X.env:=by exact iC rfl) (vo:starEach [.Call (.Name "reversed" p2) [e] [] pos2] X.env=(false,eval (.Call (.Name "reversed" p2) [e] [] pos2) X.env)::starEach [] X.env:=by rfl) :
  PE X (.Call (.Name "list" p1) [.Call (.Name "reversed" p2) [e] [] pos2] [] pos1) (au X.K (oC we)):=
 (w8 hm1 hm2 hd he hg1 hg2 wu vo).imp fun σ H Q ⟨δ,R,F,rl,h,k⟩=>⟨δ,_,F,rl,h,fun v F1 H1 s ex p q=>by
  unfold AE at q
  split at q
  ·rename_i ts hi;obtain⟨a,xs,rfl,sq,tp⟩:=(p.val ex.sub).list ex.sub hi;refine⟨a,xs,rfl,sq,fun l hl=>?_⟩;have e2:=dh.newL xs.reverse ex.sub ex.full hl;exact k _ F1 _ (.ol ts.reverse) (ex.trans e2) ⟨l,xs.reverse,rfl,aK ex.hh hl,aK ex.sub hl,bT,(ao.full ex.full q.1 tp).reverse⟩ q.2
  ·exact q.elim⟩
end
theorem yV (we:WE)(δ:aT)(R:S->Prop):oC we δ R=we δ (AE R):=rfl
theorem LK (R:S->Prop)(ts:List T):AE R (.t (.lst ts))=(cG ts=true/\R (.ol ts.reverse)):=rfl
theorem LM (R:S->Prop)(ts:List T):AE R (.vt (.lst ts))=(cG ts=true/\R (.ol ts.reverse)):=rfl
theorem LL (R:S->Prop)(ts:List T):AE R (.ol ts)=(cG ts=true/\R (.ol ts.reverse)):=rfl
def refs (km:List (Addr × List Int)):List V:=km.map fun m=>V.ref m.1
def Fl (K:PySem.W.Frag)(te:TE):TE:=fun σ H Q=>te σ H fun x H1=>∃ p d,∃ km:List (Addr × List Int),x=.ref p/\dR K H1 p (refs km)/\km.length<=76/\0<d ∧
 (∀ m∈km,jH K H1 m.1 (m.2.map V.int)/\m.2.length=d) ∧
 ∀ ns:List (Addr × List Int),(∀ m∈ns,m∈km)->(∀ m∈km,m.2∈ns.map (·.2))->(ns.map (·.2)).Nodup->(km.length<=63->ns.Pairwise (fun a b=>ST.lexB a.2 b.2=true))->∀ l,H1 l=none->Q (.ref l) (dy H1 l (.lst (refs ns)))
theorem qj:∀ {km:List (Addr × List Int)}{us:List Value},aQ (refs km) us->us=km.map fun m=>Value.ref m.1
 | [],_,.nil=>rfl
 | m::km,_,.cons r t=>by cases r;rw[qj t];rfl
theorem yg:∀ km:List (Addr × List Int),aQ (refs km) (km.map fun m=>Value.ref m.1)
 | []=>.nil
 | m::km=>.cons rfl (yg km)
section
variable {X:Cx}{e:Expr}{te:TE}{p1 p2 pos1 pos2:Pos}
theorem nJ {prog:Program}{w:World}:∀ {ks:List Int}{us:List Value},aQ (ks.map V.int) us->ItemsAre (intKind prog w) ks us
 | [],_,.nil=>.nil
 | k::ks,_,.cons r t=>by obtain⟨tk,rfl⟩:=r;exact .cons (intKind_is _ _ _ _) (nJ t)
theorem Ik {pins:List (Addr × Obj)}{σ:L2.St}{H:Hp}{s:Shared}(I:aP X pins σ H s){a:Addr}{ks:List Int}(h:jH X.K H a (ks.map V.int)):IsTupleKey (ST.ik X.prog X.w) s.heap ks a:=by
 obtain⟨its,r,⟨o,ho,hc,n,hd⟩,_⟩:=I.tuple h;exact⟨o,its.toArray,n,ho,hc,hd,by simpa using nJ r⟩
theorem xa {k:Nat} (hr:cz k X.A) (hm1:X.mg "sorted"=none) (hm2:X.mg "set"=none) (hd:X.A.handled=none) (he:PE X e te) (hg1:Gl X "sorted":=by rfl) (hg2:Gl X "set":=by rfl)
  (wu:starEach [e] X.env=(false,eval e X.env)::starEach [] X.env:=by exact iC rfl) (vo:starEach [.Call (.Name "set" p2) [e] [] pos2] X.env=(false,eval (.Call (.Name "set" p2) [e] [] pos2) X.env)::starEach [] X.env:=by rfl) :
  PE X (.Call (.Name "sorted" p1) [.Call (.Name "set" p2) [e] [] pos2] [] pos1) (Fl X.K te):=by
 intro pins s σ H Q I h;refine wpAny_Call_Name_kw (i6 I hg1 hm1 PyProof.Rows.boot_sorted ?_);refine PyProof.Rows.callWith_builtin1 ?_ vo;rw[vo];show wpAny _ _ (spliced ((false,eval (.Call (.Name "set" p2) [e] [] pos2) X.env)::backTo pos1 (starEach [] X.env))) _ _ s;refine Calls.spliced_cons ?_;refine wpAny_Call_Name_kw (i6 I hg2 hm2 PyProof.Rows.boot_set ?_);refine PyProof.Rows.callWith_type1 ?_ wu;rw[wu];show wpAny _ _ (spliced ((false,eval e X.env)::backTo pos2 (starEach [] X.env))) _ _ s;refine Calls.spliced_cons (cM (he pins s σ H _ I h) fun u s1 ⟨x,H1,I1,r1,q1⟩=>?_);obtain⟨p,d,km,rfl,hq,hlen,hd0,hkm,fin⟩:=q1
 cases r1
 refine Calls.spliced_nil ?_;obtain⟨its,r,pl,hz⟩:=I1.list hq;have eits:=qj r;subst eits;have hsz:((km.map fun m=>Value.ref m.1).toArray).size=km.length:=by simp
 refine ST.call_set_tup (km:=fun i=>km.getD i (0,[])) hd (by have:=hr.units;omega) pl.isList (fun i v hv=>?_) (fun i hi=>?_) (by rw[hsz];omega) fun h2 tk2 hS k2=>?_
 ·rw[List.getElem?_toArray,List.getElem?_map]at hv
  cases hk:km[i]? with
  | none=>rw[hk]at hv;simp at hv
  | some m=>
   rw[hk]at hv;simp only[List.getD_eq_getElem?_getD,hk,Option.getD_some];simpa using hv.symm
 ·rw[hsz]at hi;have e1:km.getD i (0,[])=km[i]:=by simp[hi]
  rw[e1];exact Ik I1 (hkm _ (List.getElem_mem hi)).1
 refine Calls.spliced_nil ?_;rw[hsz]at hS;have hmet:∀ m∈ST.met (fun i=>km.getD i (0,[])) km.length,m∈km:=fun m hm=>by
  obtain⟨i,hi,rfl⟩:=ST.met_of _ _ m hm;have e1:km.getD i (0,[])=km[i]:=by simp[hi]
  rw[e1];exact List.getElem_mem hi
 refine ST.call_sorted_set (s:={s1 with heap:=h2,toks:=tk2}) hd hS (Nat.le_trans (ST.met_len _ _) hlen) hd0 (fun m hm=>(hkm m (hmet m hm)).2) fun h3 tk3 D c3 ns hpm hnd hpw k3 le3 hD=>?_;have keep:∀ b o,s1.heap.get? b=some o->h3.get? b=some o:=fun b o e=>k3 b o (k2 b o (Heap.lt_size e) e);have le:s1.heap.objs.size<=D:=by
  obtain⟨o2,_,_,_,_,ho2,_⟩:=hS;exact Nat.le_trans (Nat.le_of_lt (Heap.lt_size ho2)) le3
 have hnl:ns.length<=76:=by rw[hpm.length_eq];exact Nat.le_trans (ST.met_len _ _) hlen
 refine⟨.ref D,_,I1.laid (t':=tk3) keep le (show eB X.prog X.w _ h3 _ (.lst (refs ns)) from⟨?_,_,c3,yg ns,hD⟩),rfl,fin ns (fun m hm=>hmet m (hpm.mem_iff.mp hm)) (fun m hm=>?_) hnd (fun h=>hpw (Nat.lt_succ_of_le (Nat.le_trans (ST.met_len _ _) h))) _ (I1.hok.fresh le)⟩
 ·unfold refs;rw[List.length_map];exact Nat.le_trans hnl (by decide)
 ·obtain⟨i,hi,rfl⟩:=List.getElem_of_mem hm;have h1:=ST.met_has (fun i=>km.getD i (0,[])) km.length i hi;have e1:km.getD i (0,[])=km[i]:=by simp[hi]
  rw[e1]at h1;exact(hpm.map (·.2)).mem_iff.mpr h1
end
def mo (ks:List Int):T:=.tup (ks.map T.int)
def PK (R:S->Prop)(s:S):Prop:=match items s with
 | some ts=>∃ (d:Nat) (kss:List (List Int)),0<d/\ts=kss.map mo/\(∀ ks∈kss,ks.length=d)/\kss.length<=76 ∧
   ∀ ns:List (List Int),(∀ k∈ns,k∈kss)->(∀ k∈kss,k∈ns)->ns.Nodup->(kss.length<=63->ns.Pairwise (fun a b=>ST.lexB a b=true))->R (.ol (ns.map mo))
 | none=>False
def k8 (we:WE):WE:=fun δ R=>we δ (PK R)
theorem qh:∀ ks:List Int,cG (ks.map T.int)=true
 | []=>rfl
 | k::ks=>by simp only[List.map_cons,cG,mL,Bool.true_and];exact qh ks
theorem qi:∀ kss:List (List Int),cG (kss.map mo)=true
 | []=>rfl
 | k::kss=>by
  simp only[List.map_cons,cG,Bool.and_eq_true];exact⟨by unfold mo;simp only[mL];exact qh k,qi kss⟩
theorem me {K:PySem.W.Frag}{H:Hp}:∀ {ks:List Int}{xs:List V},ao K H (ks.map T.int) xs->xs=ks.map V.int
 | [],_,h=>h
 | k::ks,_,⟨x,r,e,p,q⟩=>by subst e;cases p;rw[me q];rfl
theorem vb {K:PySem.W.Frag}{H:Hp}:∀ {kss:List (List Int)}{xs:List V},ao K H (kss.map mo) xs →
  ∃ km:List (Addr × List Int),km.map (·.2)=kss/\xs=refs km/\∀ m∈km,jH K H m.1 (m.2.map V.int)/\ay K H (mo m.2) (.ref m.1)
 | [],_,h=>⟨[],rfl,h,fun m hm=>absurd hm List.not_mem_nil⟩
 | k::kss,_,⟨x,r,e,p,q⟩=>by
  subst e;obtain⟨km,e1,e2,h1⟩:=vb q;obtain⟨a,ys,e3,sq,ty⟩:=id p;subst e3;have e4:=me ty;subst e4;refine⟨(a,k)::km,by rw[List.map_cons,e1],by rw[e2];rfl,fun m hm=>?_⟩
  rcases List.mem_cons.mp hm with rfl|hm
  ·exact⟨sq,p⟩
  ·exact h1 m hm
theorem um {K:PySem.W.Frag}{H:Hp}:∀ ns:List (Addr × List Int),(∀ m∈ns,ay K H (mo m.2) (.ref m.1))->ao K H ((ns.map (·.2)).map mo) (refs ns)
 | [],_=>rfl
 | m::ns,h=>⟨.ref m.1,refs ns,rfl,h m List.mem_cons_self,um ns fun m' hm=>h m' (List.mem_cons_of_mem _ hm)⟩
section
variable {X:Cx}{e:Expr}{p1 p2 pos1 pos2:Pos}
theorem ng {k:Nat}{we:WE} (hr:cz k X.A) (hm1:X.mg "sorted"=none) (hm2:X.mg "set"=none) (hd:X.A.handled=none) (he:PE X e (au X.K we)) (hg1:Gl X "sorted":=by rfl) (hg2:Gl X "set":=by rfl)
  (wu:starEach [e] X.env=(false,eval e X.env)::starEach [] X.env:=by exact iC rfl) (vo:starEach [.Call (.Name "set" p2) [e] [] pos2] X.env=(false,eval (.Call (.Name "set" p2) [e] [] pos2) X.env)::starEach [] X.env:=by rfl) :
  PE X (.Call (.Name "sorted" p1) [.Call (.Name "set" p2) [e] [] pos2] [] pos1) (au X.K (k8 we)):=
 (xa hr hm1 hm2 hd he hg1 hg2 wu vo).imp fun σ H Q ⟨δ,R,F,rl,h,k⟩=>⟨δ,_,F,rl,h,fun v F1 H1 s ex p q=>by
  unfold PK at q
  split at q
  ·rename_i ts hi;obtain⟨a,xs,rfl,sq,tp⟩:=(p.val ex.sub).list ex.sub hi;obtain⟨d,kss,hd0,rfl,hlen,h63,fin⟩:=q;obtain⟨km,e1,e2,h1⟩:=vb tp;subst e2;have hkm:∀ m∈km,m.2∈kss:=fun m hm=>by rw[<-e1];exact List.mem_map.mpr ⟨m,hm,rfl⟩
   refine⟨a,d,km,rfl,sq,by rw[<-e1,List.length_map]at h63;exact h63,hd0,fun m hm=>⟨(h1 m hm).1,hlen _ (hkm m hm)⟩,fun ns n1 n2 n4 n3 l hl=>?_⟩
   have e2:=dh.newL (refs ns) ex.sub ex.full hl;have hp:ao X.K F1 ((ns.map (·.2)).map mo) (refs ns):=ao.full ex.full (qi _) (um ns fun m hm=>(h1 m (n1 m hm)).2);exact k _ F1 _ (.ol ((ns.map (·.2)).map mo)) (ex.trans e2) ⟨l,refs ns,rfl,aK ex.hh hl,aK ex.sub hl,bT,hp⟩
    (fin _ (fun k hk=>by obtain⟨m,hm,rfl⟩:=List.mem_map.mp hk;exact hkm m (n1 m hm)) (fun k hk=>by
     rw[<-e1]at hk;obtain⟨m,hm,rfl⟩:=List.mem_map.mp hk;exact n2 m hm) n4 (fun h=>List.pairwise_map.mpr (n3 (by rwa [<-e1,List.length_map]at h))))
  ·exact q.elim⟩
end
theorem yW (we:WE)(δ:aT)(R:S->Prop):k8 we δ R=we δ (PK R):=rfl
end DL
set_option maxHeartbeats 4000000
namespace DL
open PySem PySem.Spec L2 PyProof.Rows
def Ku (i:Nat)(δ:aT)(N:aT->Prop)(ts:List T):S->Prop
 | .ol us=>ts.length+us.length<100000/\N (δ.set i (some (.ol (ts++us))))
 | _=>False
def mN (i:Nat)(we:WE):WS:=fun D δ=>match δ[i]? with
 | some (some (.ol ts))=>we δ (Ku i δ D.nx ts)
 | _=>False
theorem Bh {i:Nat}{we:WE}{D:gu}{δ:aT}:mN i we D δ=nP i δ fun ts=>we δ (Ku i δ D.nx ts):=rfl
theorem Kv {i:Nat}{δ:aT}(N:aT->Prop)(ts us:List T):Ku i δ N ts (.ol us)=(ts.length+us.length<100000/\N (δ.set i (some (.ol (ts++us))))):=rfl
section
variable {X:Cx}{e:Expr}{we:WE}{pos:Pos}{H₀:Hp}{i:Nat}{x:Str}{p1 p2:Pos}
theorem zP (he:PE X e (au X.K we)) (hv:PE X (.Name x p1) (va i):=by exact pv _) (hbase:attributeBase (.Name x p1) "extend" X.env (eval (.Name x p1) X.env)=eval (.Name x p1) X.env:=by rfl)
  (hfew:((backTo pos (starEach [e] X.env)).all (fun x=>!x.1) && (backToKw pos (keywordEach [] X.env)).all (fun x=>x.1.isSome) && decide ([e].length+([]:List Keyword).length+(if ([]:List Keyword).isEmpty then 0 else 1)<30))=true:=by rfl)
  (hline:(p2.endLine == pos.line)=true:=by rfl) (hs:starEach [e] X.env=(false,eval e X.env)::starEach [] X.env:=by rfl) (hplain:(backTo pos (starEach [] X.env)).any (·.1)=false:=by rfl) {pos':Pos}
  (hsw:swapsWith (.Call (.Attribute (.Name x p1) "extend" p2) [e] [] pos) none pos'.line X.env=pure false:=by rfl) :
  PS X (.Expr (.Call (.Attribute (.Name x p1) "extend" p2) [e] [] pos) pos') (bO X.K H₀ (mN i we)):=
 (mK (IR PySem.F.plainAttrs_list PySem.F.slot_list_extend PySem.F.type_list_extend Ai hv (kK he sN hs) hbase hfew hline hs hplain) hsw).imp fun D σ H ⟨δ,D',F,s0,rl,h,ok⟩=>by
  unfold mN at h
  split at h
  ·rename_i ts hi;obtain⟨v,ha,a,xs,rfl,hF,hH,hr⟩:=rl.slot i _ hi;refine⟨_,ha,.inl ⟨rfl,xs,dR.of hH⟩,δ,_,F,rl,h,fun v F1 H1 s e p q=>?_⟩
   cases s with
   | ol us=>
    obtain⟨hl,q⟩:=q;obtain⟨b,zs,rfl,_,hFb,hHb,hr2⟩:=p;have h1:=e.hh _ _ hH;refine⟨a,b,xs,zs,rfl,rfl,h1,hHb,by rw[hr.length,hr2.length];exact Nat.le_of_lt (mG hl),?_⟩
    exact ok.nx σ F1 _ _ e.ff ((rl.ext e).mutate hi ha (e.keep a (by rw[hH];simp) hF) ⟨xs,h1⟩ ((ao.same e.ff hr).append hr2)) q
   | _=>exact q.elim
  ·exact h.elim
end
end DL
namespace DL
open PySem PySem.Spec L2 PyProof.Rows
section
variable {X:Cx}{H₀:Hp}{Ex:Addr->L2.St->Hp->Prop}{st:Stmt}{a b:WX}{pos:Pos}
end
end DL
open L2 DL
def IY:List String:=("Bh Kv yV LK LM LL yW KS KU GX GY MR MT Pa MQ JG JF JA FM Jn Jo MW Qt ML Pc Qs O8 MJ MF MD MG ME M1 M3 M4 M5 Ks Kr Kt Gz GA Gy Kp Kq Ko Kh Ki Kg Kn gf Km Kk Nm Kj Kl Qr JO Ji MM JC Jj MN JD FZ Li G6 MB O9 MK Jm MU MI P4 P5 P6 Pu Pv Pw Px Py Jk Jv Jt Jw Ju My Jy Jz Js Jr FR FT FS Nt NP Pb L8 Ox ty_int L9 Oy OA Oz rJ pj rG rK rL rH pc nI o9 pd pe pb rq pf rm rz rA rn rO pk rM rP rQ rN rT pq rR rV rW rS rD ph rB rE rF rC MA Bi GU GW GV FX Ou Bj LN Bk LO FQ Jq Jp FP MV Mb MO Lm FW LV LX LW FU JE Lz Bg JN MP FV List.set_cons_zero List.set_cons_succ List.map_cons List.map_nil if_true if_false true_and and_true Bool.not_true Bool.not_false Bool.not_eq_true decide_eq_true_eq decide_eq_false_iff_not Bool.not_not Bool.false_eq_true Bool.true_eq_false ite_true ite_false Int.reducePow Int.reduceToNat Int.reduceNeg Int.reduceMul Int.reduceAdd Int.reduceSub List.length_cons List.length_nil Nat.zero_add Nat.reduceAdd ite_not M6 M7 M8 M9 Ew G3 Et Ez Es Eu G4 Ey G5 Np Nq Nn MH Jx P7 ty_str Im MC JB NJ KZ K0 K1 K2 K3 K4 Ov Mc JI Mz J1 J3 J2 Jl MX GJ GI HH LG HF HI HJ HG EY qg Bool.and_true Bool.true_and Bool.and_self yH CC D9 CD Ea CB D8 CH Ed CI Ee CG Ec Cy D2 Cz D6 Cw D1 CA D7 CF Eb Cu D0 HK B8 DH B9 DI B7 DG Cc DM Cd DN Cb DK BZ DD B5 DE BY DC B6 DF Ca DJ BX DB HN CP El CQ Em CO Ek CU Ep CV Er CT Eo CL Eh CM Ei CK Eg CN Ej CS En CJ Ef HL Cm DU Co DV Ck DT Cr DY Cs DZ Cq DX Cg DQ Ci DR Cf DP Cj DS Cp DW Ce DO cE bC zS spT Nu NQ Nr NO oW List.replicate_succ List.replicate_zero List.cons_append List.nil_append List.getElem?_cons_succ List.getElem?_cons_zero Option.join_some Option.join_none JJ JM JK FJ FL FK FO FN".splitOn " ")
local macro_rules | `(tactic| walk_at "dl")=>do {let ids:Array (Lean.TSyntax `ident):=IY.toArray.map (fun x=>Lean.mkIdent x.toName);`(tactic| try simp only[$[$ids:ident],*])}
local macro_rules | `(tactic| walk_at "db")=>do {let ids:Array (Lean.TSyntax `ident):=IY.toArray.map (fun x=>Lean.mkIdent x.toName);`(tactic| try simp (config:={implicitDefEqProofs:=false}) only [$[$ids:ident],*])}
local macro_rules | `(tactic| walk_at "sz")=>`(tactic| first | assumption | with_reducible exact Sz.of (m:=250) (by omega) (by omega) | with_reducible exact Sz.mul (by walk_at "sz") (by walk_at "sz") | with_reducible exact Sz.add (by walk_at "sz") (by walk_at "sz") | with_reducible exact Sz.sub (by walk_at "sz") (by walk_at "sz") | with_reducible exact Sz.neg (by walk_at "sz"))
local macro_rules | `(tactic| walk_at "szk")=>`(tactic| first | assumption | exact Sz.mono (by walk_at "sz") (by decide))
local macro_rules | `(tactic| walk_at "mul")=>`(tactic| first | with_reducible exact G1 (by decide) (by decide) | with_reducible exact bf (by walk_at "sz") (by walk_at "sz") (by decide) (by decide) | with_reducible exact G1 (by omega) (by omega) | with_reducible exact NL (by omega) (by omega))
local macro_rules | `(tactic| walk_at "side")=>`(tactic| first | decide | with_reducible exact ES (by decide) (by decide) (by decide) | with_reducible exact BO (by decide) (by decide +kernel) | walk_at "mul" | omega | assumption)
local macro_rules | `(tactic| walk_at "pre")=>`(tactic| repeat ((with_reducible apply And.intro);(case left=>walk_at "side")))
local macro_rules | `(tactic| walk_at "go")=>`(tactic| (walk_at "dl";walk_at "pre"))
local macro_rules | `(tactic| walk_at "gb")=>`(tactic| (walk_at "db";walk_at "pre"))
namespace Law
open L2 DL
def cm:aX:=fun ss R=>∃ a b:Int,ss=[.t (.int a),.t (.int b)]/\R (.t (.int (Int.gcd a b)))
def cq:aX:=cm
def dm:aX:=fun ss R=>∃ s,ss=[.t s]/\IX s≠.exc/\R (.t (.bl (bW (IX s) .int && !bW (IX s) .bool)))
theorem uw:∀ ss R,cm ss R->ss.length=2:=by rintro ss R ⟨a,b,rfl,_⟩;rfl
theorem pA:∀ ss R,cq ss R->ss.length=2:=by rintro ss R ⟨a,b,rfl,_⟩;rfl
theorem uD:∀ ss R,dm ss R->ss.length=1:=by rintro ss R ⟨a,rfl,_⟩;rfl
theorem GQ:∀ ss R,qo ss R->ss.length=1:=by rintro ss R ⟨a,rfl,_⟩;rfl
def jw:WS:=
 (aH (aN 2 (eU o7 (af (ae 0) av)))
 (aH (aN 3 (eU o7 (af (ae 1) av)))
 (bH (sZ (wB (AZ (ae 3) (wC (.int 0)))) (aH (aN 4 (dM (ae 2) (ae 3)))
 (aH (aN 2 (ae 3))
 (aN 3 (ae 4)))))
 (jP 2))))
def jB:WS:=
 (bu (yQ (Fo .int (ae 0)) (vf (Fo .bool (ae 0)))))
def fV:WS:=
 (aH (aN 0 (eU o7 (af (ae 0) av)))
 (aH (aN 1 (eU o7 (af (ae 1) av)))
 (bH (sZ (wB (AR (ae 1) (wC (.int 0)))) (Ip 0 1 (af (ae 1) (af (dM (ae 0) (ae 1)) av))))
 (jP 0))))
theorem ud (g l:Nat):Nat.gcd l (g % l)=Nat.gcd g l:=by
 rw[Nat.gcd_comm l (g % l),<-Nat.gcd_rec,Nat.gcd_comm]
theorem wU:∀ ss R,cm ss R->jw {nx:=fun _=>R (.t .non),rt:=R} (aJ ["one","other","greater","lesser","rest"] ss):=by
 rintro ss R ⟨a,b,rfl,h⟩;show jw _ [some (.t (.int a)),some (.t (.int b)),none,none,none];unfold jw;walk_at "dl";rw[qE,qE];refine⟨fun δ=>∃ r,δ=[some (.t (.int a)),some (.t (.int b)),some (.t (.int (Int.gcd a b))),some (.t (.int 0)),r],?_,fun δ ⟨r,e⟩=>by subst e;walk_at "dl";exact h⟩
 refine⟨fun n δ=>∃ (g l:Nat) (r:Option S),δ=[some (.t (.int a)),some (.t (.int b)),some (.t (.int g)),some (.t (.int l)),r]/\l=n/\Nat.gcd g l=Int.gcd a b,⟨_,_,_,none,rfl,rfl,rfl⟩,?_⟩;rintro n δ ⟨g,l,r,rfl,rfl,hg⟩;walk_at "dl"
 cases l with
 | zero=>rw[if_neg (by simp)];exact⟨r,by rw[<-hg];simp⟩
 | succ l=>
  rw[if_pos (by simp;omega)]
  refine⟨by omega,?_⟩
  rw[nD];exact⟨_,Nat.mod_lt g (by omega),_,_,_,rfl,rfl,by rw[ud];exact hg⟩
theorem sJ:∀ ss R,cq ss R->fV {nx:=fun _=>R (.t .non),rt:=R} (aJ ["_law_one","_law_other"] ss):=by
 rintro ss R ⟨a,b,rfl,h⟩;show fV _ [some (.t (.int a)),some (.t (.int b))];unfold fV;walk_at "dl";rw[qE,qE];refine⟨fun δ=>δ=[some (.t (.int (Int.gcd a b))),some (.t (.int 0))],?_,fun δ e=>by subst e;walk_at "dl";exact h⟩
 refine⟨fun n δ=>∃ (g l:Nat),δ=[some (.t (.int g)),some (.t (.int l))]/\l=n/\Nat.gcd g l=Int.gcd a b,⟨_,_,_,rfl,rfl,rfl⟩,?_⟩;rintro n δ ⟨g,l,rfl,rfl,hg⟩;walk_at "dl"
 cases l with
 | zero=>rw[if_neg (by simp)];rw[<-hg];simp
 | succ l=>
  rw[if_pos (by omega)]
  refine⟨by omega,?_⟩
  rw[nD];exact⟨_,Nat.mod_lt g (by omega),_,_,rfl,rfl,by rw[ud];exact hg⟩
theorem wZ:∀ ss R,dm ss R->jB {nx:=fun _=>R (.t .non),rt:=R} (aJ ["_law_found"] ss):=by
 rintro ss R ⟨s,rfl,hx,h⟩;show jB _ [some (.t s)];unfold jB
 cases s with
 | exc c=>exact absurd rfl hx
 | _=>walk_at "dl";exact h
theorem jD (v:Int)(R:S->Prop)(h:R (.t (.bl true))):dm [.t (.int v)] R:=⟨_,rfl,by simp[IX],h⟩
end Law
namespace Law
open L2 DL
def bw (h:Hf)(s:aF):Int:=h.1*s.1.1*s.2.2+h.2.1*s.2.1*s.1.2-h.2.2*(s.1.2*s.2.2)
def sgn (i:Int):Int:=if i>0 then 1 else if i<0 then -1 else 0
def bZ:aX:=fun ss R=>∃ s:aF,ss=[.t (spT s)]/\fM 60000 s/\R (.t (.int (s.1.2*s.2.2)))
def cw:aX:=fun ss R=>∃ (h:Hf) (s:aF),ss=[.t (cE h),.t (spT s)]/\oQ 300000 h/\fM 60000 s/\R (.t (.int (bw h s)))
def kX:aX:=fun ss R=>∃ i:Int,ss=[.t (.int i)]/\R (.t (.int (sgn i)))
def iB:aX:=fun ss R=>∃ (h:Hf) (s:aF),ss=[.t (cE h),.t (spT s)]/\oQ 300000 h/\fM 60000 s/\R (.t (.int (sgn (bw h s))))
def ju:WS:=
 (bu (bj (am aL (am aL (ae 0) (wC (.int 0))) (wC (.int 1))) (am aL (am aL (ae 0) (wC (.int 1))) (wC (.int 1)))))
def lb:WS:=
 (aH (aN 2 (am aL (ae 1) (wC (.int 0))))
 (aH (aN 3 (am aL (ae 1) (wC (.int 1))))
 (bu (cN (cV (bj (bj (am aL (ae 0) (wC (.int 0))) (am aL (ae 2) (wC (.int 0)))) (am aL (ae 3) (wC (.int 1)))) (bj (bj (am aL (ae 0) (wC (.int 1))) (am aL (ae 3) (wC (.int 0)))) (am aL (ae 2) (wC (.int 1))))) (bj (am aL (ae 0) (wC (.int 2))) (aD bZ (af (ae 1) av)))))))
def tj:WS:=
 (aH (eZ (wB (AR (ae 0) (wC (.int 0)))) (bu (wC (.int 1))) aY)
 (aH (eZ (wB (ve (ae 0) (wC (.int 0)))) (bu (A5 lJ (wC (.int 1)))) aY)
 (bu (wC (.int 0)))))
def w_side:WS:=
 (bu (aD kX (af (aD cw (af (ae 0) (af (ae 1) av))) av)))
theorem uu:∀ ss R,bZ ss R->ss.length=1:=by rintro ss R ⟨a,rfl,_⟩;rfl
theorem wx:∀ ss R,cw ss R->ss.length=2:=by rintro ss R ⟨a,b,rfl,_⟩;rfl
theorem Dp:∀ ss R,kX ss R->ss.length=1:=by rintro ss R ⟨a,rfl,_⟩;rfl
theorem Do:∀ ss R,iB ss R->ss.length=2:=by rintro ss R ⟨a,b,rfl,_⟩;rfl
theorem wQ:∀ ss R,bZ ss R->ju {nx:=fun _=>R (.t .non),rt:=R} (aJ ["spot"] ss):=by
 rintro ss R ⟨⟨⟨x,p⟩,y,q⟩,rfl,⟨⟨z1,z2⟩,z3,z4⟩,h⟩;dsimp only at z1 z2 z3 z4;show ju _ [some (.t (.tup [.tup [.int x,.int p],.tup [.int y,.int q]]))]
 delta ju
 walk_at "dl";exact⟨bf z2 z4 (by decide) (by decide),h⟩
theorem Ak:∀ ss R,cw ss R->lb {nx:=fun _=>R (.t .non),rt:=R} (aJ ["half","spot","x","y"] ss):=by
 rintro ss R ⟨⟨a,b,c⟩,⟨⟨x,p⟩,y,q⟩,rfl,⟨y1,y2,y3⟩,⟨⟨z1,z2⟩,z3,z4⟩,h⟩;dsimp only at y1 y2 y3 z1 z2 z3 z4;show lb _ [some (.t (.tup [.int a,.int b,.int c])),some (.t (.tup [.tup [.int x,.int p],.tup [.int y,.int q]])),none,none]
 delta lb
 walk_at "dl";refine⟨by walk_at "mul",by walk_at "mul",by walk_at "mul",by walk_at "mul",⟨(x,p),(y,q)⟩,rfl,⟨⟨z1,z2⟩,z3,z4⟩,?_⟩
 walk_at "dl";exact⟨by walk_at "mul",h⟩
theorem Hg:∀ ss R,kX ss R->tj {nx:=fun _=>R (.t .non),rt:=R} (aJ ["number"] ss):=by
 rintro ss R ⟨i,rfl,h⟩;show tj _ [some (.t (.int i))]
 delta tj
 unfold sgn at h;walk_at "dl"
 split
 ·rename_i hi;rw[if_pos hi]at h;exact h
 ·rename_i hi;rw[if_neg hi]at h
  split
  ·rename_i hj;rw[if_pos hj]at h;exact h
  ·rename_i hj;rw[if_neg hj]at h;exact h
theorem He:∀ ss R,iB ss R->w_side {nx:=fun _=>R (.t .non),rt:=R} (aJ ["half","spot"] ss):=by
 rintro ss R ⟨a,s,rfl,y,z,h⟩;show w_side _ [some (.t (cE a)),some (.t (spT s))]
 delta w_side
 walk_at "dl";refine⟨a,s,rfl,y,z,?_⟩;walk_at "dl";refine⟨_,rfl,?_⟩;walk_at "dl";exact h
end Law
namespace Law
open L2 DL
def rh (h:Hf)(p:Pt):Bool:=decide (h.2.2<=h.1*p.1+h.2.1*p.2)
def i8 (h:Hf)(ps:List Pt):Nat:=ps.countP (rh h)
def fH:aX:=fun ss R=>∃ (h:Hf) (ps:List Pt),ss=[.t (cE h),.t (.lst (ps.map bC))]/\oQ 60000 h/\(∀ p∈ps,SzF 60000 p)/\ps.length<10000/\R (.t (.int (i8 h ps)))
def jC:WS:=
 (bu (eU cD (af (iJ 1 [0] (b9 (ae 1)) (aU 0) (wB (Me (cV (bj (am aL (ae 1) (wC (.int 0))) (am aL (ae 0) (wC (.int 0)))) (bj (am aL (ae 1) (wC (.int 1))) (am aL (ae 0) (wC (.int 1))))) (am aL (ae 1) (wC (.int 2))))) (ae 0)) av)))
theorem uE:∀ ss R,fH ss R->ss.length=2:=by rintro ss R ⟨a,b,rfl,_⟩;rfl
theorem w4:∀ ss R,fH ss R->jC {nx:=fun _=>R (.t .non),rt:=R} (aJ ["half","points"] ss):=by
 rintro ss R ⟨⟨a,b,c⟩,ps,rfl,⟨y1,y2,y3⟩,hs,hl,h⟩;dsimp only at y1 y2 y3;show jC _ [some (.t (.tup [.int a,.int b,.int c])),some (.t (.lst (ps.map bC)))]
 delta jC
 walk_at "dl";refine fR (f:=bC) (h:=bC) (p:=rh (a,b,c)) (fun δ=>∃ r,δ=[r,some (.t (.tup [.int a,.int b,.int c]))]) (fun p _=>yG p) (by omega) ⟨_,rfl⟩ ?_ ?_
 ·rintro⟨x,y⟩ hp δ ⟨r,rfl⟩ Y N h1 h2;obtain⟨z1,z2⟩:=hs _ hp;dsimp only at z1 z2;walk_at "go"
  split
  ·rename_i hc;exact h1 _ ⟨_,rfl⟩ (by simp[rh];exact hc)
  ·rename_i hc;exact h2 _ ⟨_,rfl⟩ (by simp[rh];omega)
 ·walk_at "dl";rw[List.length_map,<-List.countP_eq_length_filter];exact h
end Law
namespace Law
open L2 DL
theorem c5 {a d:Int}(h:d ∣ a):a.fdiv d*d=a:=by
 obtain⟨k,rfl⟩:=h
 by_cases hd:d=0
 ·subst hd;simp
 ·rw[Int.mul_fdiv_cancel_left _ hd,Int.mul_comm]
theorem xX {a d:Int}(h:d ∣ a)(ha:a≠0):a.fdiv d≠0:=fun e=>by
 have:=c5 h;rw[e]at this;omega
def iM (a b c:Int):Nat:=Int.gcd (Int.gcd a b) c
theorem C4 (a b c:Int):(iM a b c:Int) ∣ a:=Int.dvd_trans (Int.gcd_dvd_left _ _) (Int.gcd_dvd_left _ _)
theorem C5 (a b c:Int):(iM a b c:Int) ∣ b:=Int.dvd_trans (Int.gcd_dvd_left _ _) (Int.gcd_dvd_right _ _)
theorem Kx (a b c:Int):(iM a b c:Int) ∣ c:=Int.gcd_dvd_right _ _
theorem iY {a b:Int}(h:a≠0\/b≠0):(Int.gcd a b:Int)≠0:=fun e=>by
 have e':Int.gcd a b=0:=by omega
 rw[Int.gcd_eq_zero_iff]at e';omega
theorem x6 {a b c:Int}(h:a≠0\/b≠0):(iM a b c:Int)≠0:=iY (.inl (iY h))
def Ky (a b c:Int):Hf:=(a.fdiv (iM a b c),b.fdiv (iM a b c),c.fdiv (iM a b c))
def lE (a b:Int):Int:=if b<0 then -(Int.gcd a b:Int) else (Int.gcd a b:Int)
def o8 (a b:Int):Int × Int:=(a.fdiv (lE a b),b.fdiv (lE a b))
def vm (p q:Pt):Hf:=Ky (p.2-q.2) (q.1-p.1) ((p.2-q.2)*p.1+(q.1-p.1)*p.2)
def kU:aX:=fun ss R=>∃ a b c:Int,ss=[.t (.int a),.t (.int b),.t (.int c)]/\(a≠0\/b≠0)/\oQ 9000 (a,b,c)/\R (.t (cE (Ky a b c)))
def fE:aX:=fun ss R=>∃ p q:Pt,ss=[.t (bC p),.t (bC q)]/\p≠q/\SzF 4000 p/\SzF 4000 q/\R (.t (cE (vm p q)))
def jg:aX:=fun ss R=>∃ a b:Int,ss=[.t (.int a),.t (.int b)]/\b≠0/\Sz 9000 b/\R (.t (zS (o8 a b)))
def gR:aX:=fun ss R=>∃ p q:Int × Int,ss=[.t (zS p),.t (zS q)]/\SzF 60000 p/\SzF 60000 q/\R (.t (.bl (decide (p.1*q.2<q.1*p.2))))
def td:WS:=
 (aH (eZ (yS (ji (wB (qu (ae 0) (wC (.int 0)))) (wB (qu (ae 1) (wC (.int 0)))))) oD aY)
 (aH (aN 3 (aD cm (af (aD cm (af (ae 0) (af (ae 1) av))) (af (ae 2) av))))
 (bu (eR (af (c9 (ae 0) (ae 3)) (af (c9 (ae 1) (ae 3)) (af (c9 (ae 2) (ae 3)) av)))))))
def jt:WS:=
 (aH (aN 2 (cN (am aL (ae 0) (wC (.int 1))) (am aL (ae 1) (wC (.int 1)))))
 (aH (aN 3 (cN (am aL (ae 1) (wC (.int 0))) (am aL (ae 0) (wC (.int 0)))))
 (bu (aD kU (af (ae 2) (af (ae 3) (af (cV (bj (ae 2) (am aL (ae 0) (wC (.int 0)))) (bj (ae 3) (am aL (ae 0) (wC (.int 1))))) av)))))))
def mR:WS:=
 (aH (eZ (wB (qu (ae 1) (wC (.int 0)))) oD aY)
 (aH (aN 2 (aD cm (af (ae 0) (af (ae 1) av))))
 (bH (eZ (wB (ve (ae 1) (wC (.int 0)))) (aN 2 (A5 lJ (ae 2))) aY)
 (bu (eR (af (c9 (ae 0) (ae 2)) (af (c9 (ae 1) (ae 2)) av)))))))
def mO:WS:=
 (bu (ve (bj (am aL (ae 0) (wC (.int 0))) (am aL (ae 1) (wC (.int 1)))) (bj (am aL (ae 1) (wC (.int 0))) (am aL (ae 0) (wC (.int 1))))))
theorem Dl:∀ ss R,kU ss R->ss.length=3:=by rintro ss R ⟨a,b,c,rfl,_⟩;rfl
theorem ut:∀ ss R,fE ss R->ss.length=2:=by rintro ss R ⟨a,b,rfl,_⟩;rfl
theorem Ac:∀ ss R,jg ss R->ss.length=2:=by rintro ss R ⟨a,b,rfl,_⟩;rfl
theorem z9:∀ ss R,gR ss R->ss.length=2:=by rintro ss R ⟨a,b,rfl,_⟩;rfl
theorem Ha:∀ ss R,kU ss R->td {nx:=fun _=>R (.t .non),rt:=R} (aJ ["a","b","c","common"] ss):=by
 rintro ss R ⟨a,b,c,rfl,hne,⟨sa,sb,sc⟩,h⟩;dsimp only at sa sb sc;show td _ [some (.t (.int a)),some (.t (.int b)),some (.t (.int c)),none]
 delta td
 walk_at "dl";refine⟨fun k=>k=false,?_,?_⟩
 ·walk_at "dl"
  split
  ·rename_i e;omega
  ·trivial
 rintro k rfl;walk_at "dl";refine⟨_,_,rfl,?_⟩;walk_at "dl";refine⟨_,_,rfl,?_⟩;walk_at "dl";have hg:(iM a b c:Int)≠0:=x6 hne;have sg:Sz 9000 (iM a b c:Int):=(Sz.gcd (Sz.gcd sa sb) sc).mono (by decide)
 have dv:∀ z,lY z (iM a b c:Int):=fun z=>xR hg sg (by decide)
 exact⟨dv _,dv _,dv _,h⟩
theorem wO:∀ ss R,fE ss R->jt {nx:=fun _=>R (.t .non),rt:=R} (aJ ["one","other","a","b"] ss):=by
 rintro ss R ⟨⟨u,v⟩,⟨x,y⟩,rfl,hne,⟨s1,s2⟩,⟨s3,s4⟩,h⟩;dsimp only at s1 s2 s3 s4;show jt _ [some (.t (.tup [.int u,.int v])),some (.t (.tup [.int x,.int y])),none,none]
 delta jt
 walk_at "dl";have sa:Sz 4001 (v-y):=by walk_at "szk"
 have sb:Sz 4001 (x-u):=by walk_at "szk"
 have sc:Sz 9000 ((v-y)*u+(x-u)*v):=by walk_at "szk"
 refine⟨bf sa s1 (by decide) (by decide),bf sb s2 (by decide) (by decide),_,_,_,rfl,?_,⟨sa.mono (by decide),sb.mono (by decide),sc⟩,h⟩
 by_cases e:v-y=0
 ·right
  intro e2;exact hne (by rw[show u=x by omega,show v=y by omega])
 ·exact .inl e
theorem EF:∀ ss R,jg ss R->mR {nx:=fun _=>R (.t .non),rt:=R} (aJ ["top","bottom","common"] ss):=by
 rintro ss R ⟨a,b,rfl,hne,sb,h⟩;show mR _ [some (.t (.int a)),some (.t (.int b)),none]
 delta mR
 walk_at "dl";rw[if_neg (by simpa using hne)]
 refine⟨_,_,rfl,?_⟩;walk_at "dl";refine⟨fun δ=>δ=[some (.t (.int a)),some (.t (.int b)),some (.t (.int (lE a b)))],?_,?_⟩
 ·walk_at "dl";unfold lE
  split <;> rfl
 rintro δ rfl;walk_at "dl";have hg:lE a b≠0:=by
  have:=iY (a:=a) (.inr hne);unfold lE;split <;> omega
 have sg:Sz 9000 (lE a b):=by
  have q:Sz 9000 (Int.gcd a b:Int):=by rw[Int.gcd_comm];exact Sz.gcdL sb hne
  unfold lE
  split
  ·exact Sz.neg q
  ·exact q
 have dv:∀ z,lY z (lE a b):=fun z=>xR hg sg (by decide)
 exact⟨dv _,dv _,h⟩
theorem EC:∀ ss R,gR ss R->mO {nx:=fun _=>R (.t .non),rt:=R} (aJ ["one","other"] ss):=by
 rintro ss R ⟨⟨a,b⟩,⟨c,d⟩,rfl,⟨s1,s2⟩,⟨s3,s4⟩,h⟩;dsimp only at s1 s2 s3 s4;show mO _ [some (.t (.tup [.int a,.int b])),some (.t (.tup [.int c,.int d]))]
 delta mO
 walk_at "dl";exact⟨bf s1 s4 (by decide) (by decide),bf s3 s2 (by decide) (by decide),h⟩
end Law
namespace Law
open L2 DL
def gp (p:Pt):aF:=((p.1,1),(p.2,1))
def ag (s:aF):Hf:=(s.1.1*s.2.2,s.2.1*s.1.2,s.1.2*s.2.2)
def Ps (u v:Hf):Hf:=(u.2.1*v.2.2-u.2.2*v.2.1,u.2.2*v.1-u.1*v.2.2,u.2.1*v.1-u.1*v.2.1)
def Ow (a b c:aF):Int:=bw (Ps (ag a) (ag b)) c
def P3 (p q r:Pt):Int:=Ow (gp p) (gp q) (gp r)
theorem L7 (p q r:Pt):P3 p q r=(p.2-q.2)*r.1+(q.1-p.1)*r.2-(p.2*q.1-p.1*q.2):=by
 unfold P3 Ow bw Ps ag gp;simp only[Int.mul_one,Int.one_mul]
def fC:aX:=fun ss R=>∃ p:Pt,ss=[.t (bC p)]/\R (.t (spT (gp p)))
def cU:aX:=fun ss R=>∃ s:aF,ss=[.t (spT s)]/\fM 30000 s/\R (.t (cE (ag s)))
def kY:aX:=fun ss R=>∃ a b c:aF,ss=[.t (spT a),.t (spT b),.t (spT c)]/\fM 30000 a/\fM 30000 b/\fM 30000 c/\R (.t (.int (Ow a b c)))
def js:WS:=
 (bu (eR (af (eR (af (am aL (ae 0) (wC (.int 0))) (af (wC (.int 1)) av))) (af (eR (af (am aL (ae 0) (wC (.int 1))) (af (wC (.int 1)) av))) av))))
def fY:WS:=
 (bu (eR (af (bj (am aL (am aL (ae 0) (wC (.int 0))) (wC (.int 0))) (am aL (am aL (ae 0) (wC (.int 1))) (wC (.int 1)))) (af (bj (am aL (am aL (ae 0) (wC (.int 1))) (wC (.int 0))) (am aL (am aL (ae 0) (wC (.int 0))) (wC (.int 1)))) (af (aD bZ (af (ae 0) av)) av)))))
def tm:WS:=
 (aH (aN 3 (aD cU (af (ae 0) av)))
 (aH (aN 4 (aD cU (af (ae 1) av)))
 (aH (aN 5 (cN (bj (am aL (ae 3) (wC (.int 1))) (am aL (ae 4) (wC (.int 2)))) (bj (am aL (ae 3) (wC (.int 2))) (am aL (ae 4) (wC (.int 1))))))
 (aH (aN 6 (cN (bj (am aL (ae 3) (wC (.int 2))) (am aL (ae 4) (wC (.int 0)))) (bj (am aL (ae 3) (wC (.int 0))) (am aL (ae 4) (wC (.int 2))))))
 (aH (aN 7 (cN (bj (am aL (ae 3) (wC (.int 1))) (am aL (ae 4) (wC (.int 0)))) (bj (am aL (ae 3) (wC (.int 0))) (am aL (ae 4) (wC (.int 1))))))
 (bu (aD cw (af (eR (af (ae 5) (af (ae 6) (af (ae 7) av)))) (af (ae 2) av)))))))))
theorem ur:∀ ss R,fC ss R->ss.length=1:=by rintro ss R ⟨a,rfl,_⟩;rfl
theorem pD:∀ ss R,cU ss R->ss.length=1:=by rintro ss R ⟨a,rfl,_⟩;rfl
theorem Dq:∀ ss R,kY ss R->ss.length=3:=by rintro ss R ⟨a,b,c,rfl,_⟩;rfl
theorem wN:∀ ss R,fC ss R->js {nx:=fun _=>R (.t .non),rt:=R} (aJ ["point"] ss):=by
 rintro ss R ⟨⟨x,y⟩,rfl,h⟩;show js _ [some (.t (.tup [.int x,.int y]))]
 delta js
 walk_at "go";exact h
theorem sM:∀ ss R,cU ss R->fY {nx:=fun _=>R (.t .non),rt:=R} (aJ ["spot"] ss):=by
 rintro ss R ⟨⟨⟨x,p⟩,y,q⟩,rfl,⟨⟨z1,z2⟩,z3,z4⟩,h⟩;dsimp only at z1 z2 z3 z4;show fY _ [some (.t (.tup [.tup [.int x,.int p],.tup [.int y,.int q]]))]
 delta fY
 walk_at "dl";refine⟨bf z1 z4 (by decide) (by decide),bf z3 z2 (by decide) (by decide),((x,p),(y,q)),rfl,⟨⟨z1.mono (by decide),z2.mono (by decide)⟩,z3.mono (by decide),z4.mono (by decide)⟩,?_⟩
 walk_at "dl";exact h
theorem Hh:∀ ss R,kY ss R->tm {nx:=fun _=>R (.t .non),rt:=R} (aJ ["one","other","third","here","there","a","b","c"] ss):=by
 rintro ss R ⟨s,t,u,rfl,zs,zt,zu,h⟩;show tm _ [some (.t (spT s)),some (.t (spT t)),some (.t (spT u)),none,none,none,none,none]
 delta tm
 have ss3:oQ 60000 (ag s):=⟨(Sz.mul zs.1.1 zs.2.2).mono (by decide),(Sz.mul zs.2.1 zs.1.2).mono (by decide),(Sz.mul zs.1.2 zs.2.2).mono (by decide)⟩
 have tt3:oQ 60000 (ag t):=⟨(Sz.mul zt.1.1 zt.2.2).mono (by decide),(Sz.mul zt.2.1 zt.1.2).mono (by decide),(Sz.mul zt.1.2 zt.2.2).mono (by decide)⟩
 walk_at "dl";refine⟨s,rfl,zs,?_⟩;obtain⟨a1,a2,a3⟩:=ss3;generalize he:ag s=hs at a1 a2 a3 ⊢;obtain⟨x1,y1,w1⟩:=hs;dsimp only at a1 a2 a3;walk_at "dl";refine⟨t,rfl,zt,?_⟩;obtain⟨b1,b2,b3⟩:=tt3;generalize hf:ag t=ht at b1 b2 b3 ⊢;obtain⟨x2,y2,w2⟩:=ht;dsimp only at b1 b2 b3;walk_at "dl";refine⟨bf a2 b3 (by decide) (by decide),bf a3 b2 (by decide) (by decide),bf a3 b1 (by decide) (by decide),bf a1 b3 (by decide) (by decide),bf a2 b1 (by decide) (by decide),bf a1 b2 (by decide) (by decide),(y1*w2-w1*y2,w1*x2-x1*w2,y1*x2-x1*y2),u,rfl,⟨by walk_at "szk",by walk_at "szk",by walk_at "szk"⟩,⟨⟨zu.1.1.mono (by decide),zu.1.2.mono (by decide)⟩,zu.2.1.mono (by decide),zu.2.2.mono (by decide)⟩,?_⟩
 unfold Ow Ps at h;rw[he,hf]at h;exact h
end Law
namespace Law
open L2 DL
def cr (p q r:Pt):Int:=(q.1-p.1)*(r.2-p.2)-(q.2-p.2)*(r.1-p.1)
def fn (m p:Pt):Int:=m.1*p.1+m.2*p.2
theorem L6 (p q r:Pt):P3 p q r=cr p q r:=by
 rw[L7];unfold cr;grind
theorem KA (a b p q:Pt):cr a p q=cr a b q-cr a b p+cr b p q:=by unfold cr;grind
theorem KB (m a b p q:Pt):(fn m b-fn m a)*cr a p q=(fn m p-fn m a)*cr a b q-(fn m q-fn m a)*cr a b p:=by unfold cr fn;grind
theorem Dd (m z t p q:Pt):(fn m t-fn m z)*cr t p q=(fn m p-fn m t)*cr z t q-(fn m q-fn m t)*cr z t p:=by unfold cr fn;grind
theorem Dc (m a b c p:Pt):(fn m c-fn m b)*cr a b p=(fn m p-fn m b)*cr a b c+(fn m b-fn m a)*cr b c p:=by unfold cr fn;grind
theorem Da (m a b v u w:Pt):(fn m b-fn m v)*cr u w a+(fn m v-fn m a)*cr u w b=(fn m b-fn m a)*cr u w v-fn m (w.1-u.1,w.2-u.2)*cr a b v:=by unfold cr fn;grind
theorem qT (a b:Pt):cr a b b=0:=by unfold cr;grind
theorem tX (a b:Pt):cr a b a=0:=by unfold cr;grind
theorem Gr (a b q:Pt):cr b a q=-cr a b q:=by unfold cr;grind
theorem jn {f x:Int}(hf:0<f)(h:0<=f*x):0<=x:=by
 rcases Int.lt_or_le x 0 with hx|hx
 ·have:=Int.mul_neg_of_pos_of_neg hf hx;omega
 ·exact hx
theorem wM {a b:Int}(ha:a<=0)(hb:0<=b):a*b<=0:=Int.mul_nonpos_of_nonpos_of_nonneg ha hb
def vp:List Pt->Prop
 | c::b::a::r=>0<cr a b c/\vp (b::a::r)
 | _=>True
def Lf (q:Pt):List Pt->Prop
 | b::a::r=>0<=cr a b q/\Lf q (a::r)
 | _=>True
def Dn (m:Pt)(k:List Pt):Prop:=k.Pairwise fun b a=>fn m a<fn m b
def popTo (p:Pt):List Pt->List Pt
 | b::a::r=>if cr a b p<=0 then popTo p (a::r) else b::a::r
 | k=>k
def qP (ps:List Pt):List Pt:=ps.foldl (fun k p=>p::popTo p k) []
theorem pT:∀ {b:Pt}{k:List Pt},vp (b::k)->vp k
 | _,[],_=>trivial
 | _,[_],_=>trivial
 | _,_::_::_,h=>h.2
theorem GS:∀ {q b:Pt}{k:List Pt},Lf q (b::k)->Lf q k
 | _,_,[],_=>trivial
 | _,_,_::_,h=>h.2
structure Off (m:Pt) (D:List Pt) (p p0:Pt) (t:Pt) (k:List Pt):Prop where
 dn:Dn m (t::k)
 cv:vp (t::k)
 lf:∀ q∈D,Lf q (t::k)
 sb:∀ x∈t::k,x∈D
 ls:(t::k).getLast?=some p0
 ne:∀ q∈D,fn m t<=fn m q->0<=cr t p q
theorem G8 {m p p0 b a:Pt}{D r:List Pt}(hp:∀ q∈D,fn m q<fn m p)(O:Off m D p p0 b (a::r))(hle:cr a b p<=0):Off m D p p0 a r:=by
 have hab:fn m a<fn m b:=(List.pairwise_cons.mp O.dn).1 a List.mem_cons_self;refine⟨(List.pairwise_cons.mp O.dn).2,pT O.cv,fun q hq=>GS (O.lf q hq),fun x hx=>O.sb x (List.mem_cons_of_mem _ hx),by simpa using O.ls,fun q hq hqa=>?_⟩
 have h1:0<=cr a b q:=(O.lf q hq).1
 rcases Int.lt_or_le (fn m q) (fn m b) with hqb|hqb
 ·have hap:fn m a<fn m p:=hp a (O.sb a (by simp))
  have i:=KB m a b p q;have g1:0<=(fn m p-fn m a)*cr a b q:=Int.mul_nonneg (by omega) h1
  have g2:(fn m q-fn m a)*cr a b p<=0:=Int.mul_nonpos_of_nonneg_of_nonpos (by omega) hle
  exact jn (f:=fn m b-fn m a) (by omega) (by omega)
 ·have h2:=O.ne q hq hqb;have i:=KA a b p q;omega
theorem ER {m p p0:Pt}{D:List Pt}(hp:∀ q∈D,fn m q<fn m p):∀ (k:List Pt) (t:Pt),Off m D p p0 t k →
  ∃ t' k',popTo p (t::k)=t'::k'/\Off m D p p0 t' k'/\∀ z r,k'=z::r->0<cr z t' p
 | [],t,O=>⟨t,[],rfl,O,fun z r e=>nomatch e⟩
 | a::r,t,O=>by
  by_cases h:cr a t p<=0
  ·obtain⟨t',k',e,O',h'⟩:=ER hp r a (G8 hp O h);exact⟨t',k',by simp only[popTo,if_pos h];exact e,O',h'⟩
  ·refine⟨t,a::r,by simp only[popTo,if_neg h],O,fun z r' e=>?_⟩
   cases e;omega
theorem yI {m p:Pt}:∀ (k:List Pt) (t:Pt),Dn m (t::k)->vp (t::k)->(∀ x∈t::k,fn m x<fn m p)->(∀ z r,k=z::r->0<=cr z t p)->Lf p (t::k)
 | [],t,_,_,_,_=>trivial
 | z::r,t,hd,hc,hx,h=>by
  refine⟨h z r rfl,yI r z (List.pairwise_cons.mp hd).2 (pT hc) (fun x hx'=>hx x (List.mem_cons_of_mem _ hx')) fun y r' e=>?_⟩;subst e;have h1:0<cr y z t:=hc.1;have hzt:fn m z<fn m t:=(List.pairwise_cons.mp hd).1 z List.mem_cons_self;have hyz:fn m y<fn m z:=(List.pairwise_cons.mp (List.pairwise_cons.mp hd).2).1 y List.mem_cons_self;have hzp:=hx z (by simp)
  have i:=Dc m y z t p;have g1:0<=(fn m p-fn m z)*cr y z t:=Int.mul_nonneg (by omega) (by omega)
  have g2:0<=(fn m z-fn m y)*cr z t p:=Int.mul_nonneg (by omega) (h z (y::r') rfl)
  exact jn (f:=fn m t-fn m z) (by omega) (by omega)
structure Ch (m:Pt) (D:List Pt) (p0 t:Pt) (k:List Pt):Prop where
 dn:Dn m (t::k)
 cv:vp (t::k)
 lf:∀ q∈D,Lf q (t::k)
 sb:∀ x∈t::k,x∈D
 ls:(t::k).getLast?=some p0
 hi:∀ q∈D,q≠t->fn m q<fn m t
 lo:∀ q∈D,fn m p0<=fn m q
theorem Gn {m p p0 t:Pt}{D k:List Pt}(C:Ch m D p0 t k)(hp:∀ q∈D,fn m q<fn m p):∃ k',popTo p (t::k)=k'/\Ch m (D++[p]) p0 p k':=by
 have O:Off m D p p0 t k:=⟨C.dn,C.cv,C.lf,C.sb,C.ls,fun q hq h=>by
  by_cases e:q=t
  ·subst e;rw[tX];exact Int.le_refl _
  ·have:=C.hi q hq e;omega⟩
 obtain⟨t',k',e,O',h'⟩:=ER hp k t O;have hall:∀ q∈D,0<=cr t' p q:=fun q hq=>by
  rcases Int.lt_or_le (fn m q) (fn m t') with h|h
  ·cases k' with
   | nil=>
    have:t'=p0:=by simpa using O'.ls
    subst this;have:=C.lo q hq;omega
   | cons z r=>
    have hz:=h' z r rfl;have hzt:fn m z<fn m t':=(List.pairwise_cons.mp O'.dn).1 z List.mem_cons_self;have h1:0<=cr z t' q:=(O'.lf q hq).1;have htp:=hp t' (O'.sb t' (by simp))
    have i:=Dd m z t' p q;have g1:0<=(fn m p-fn m t')*cr z t' q:=Int.mul_nonneg (by omega) h1
    have g2:(fn m q-fn m t')*cr z t' p<=0:=wM (by omega) (by omega)
    exact jn (f:=fn m t'-fn m z) (by omega) (by omega)
  ·exact O'.ne q hq h
 refine⟨_,e,List.pairwise_cons.mpr ⟨fun x hx=>hp x (O'.sb x hx),O'.dn⟩,?_,fun q hq=>?_,fun x hx=>?_,?_,fun q hq hne=>?_,fun q hq=>?_⟩
 ·cases k' with
  | nil=>trivial
  | cons z r=>exact⟨h' z r rfl,O'.cv⟩
 ·rcases List.mem_append.mp hq with hq|hq
  ·exact⟨hall q hq,O'.lf q hq⟩
  ·obtain rfl:=List.mem_singleton.mp hq;refine⟨by rw[qT];exact Int.le_refl _,yI (m:=m) k' t' O'.dn O'.cv (fun x hx=>hp x (O'.sb x hx)) fun z r e=>Int.le_of_lt (h' z r e)⟩
 ·rcases List.mem_cons.mp hx with rfl|hx
  ·simp
  ·exact List.mem_append_left _ (O'.sb x hx)
 ·have:=O'.ls;simpa using this
 ·rcases List.mem_append.mp hq with hq|hq
  ·exact hp q hq
  ·exact absurd (List.mem_singleton.mp hq) hne
 ·rcases List.mem_append.mp hq with hq|hq
  ·exact C.lo q hq
  ·obtain rfl:=List.mem_singleton.mp hq;have hh:p0∈D:=O'.sb p0 (List.mem_of_getLast? O'.ls);exact Int.le_of_lt (hp p0 hh)
theorem xM {m p0:Pt}:∀ (l D:List Pt) (t:Pt) (k:List Pt),Ch m D p0 t k->(D++l).Pairwise (fun a b=>fn m a<fn m b) →
  ∃ t' k',l.foldl (fun k p=>p::popTo p k) (t::k)=t'::k'/\Ch m (D++l) p0 t' k'/\(l≠[]->l.getLast?=some t')/\(l=[]->t'=t)
 | [],D,t,k,C,_=>⟨t,k,rfl,by simpa using C,fun h=>absurd rfl h,fun _=>rfl⟩
 | p::l,D,t,k,C,hs=>by
  have hp:∀ q∈D,fn m q<fn m p:=fun q hq=>(List.pairwise_append.mp hs).2.2 q hq p List.mem_cons_self;obtain⟨k',e,C'⟩:=Gn C hp;obtain⟨t',k2,e2,C2,h1,h2⟩:=xM l (D++[p]) p k' C' (by simpa using hs)
  refine⟨t',k2,by rw[List.foldl_cons,e];exact e2,by simpa using C2,fun _=>?_,fun h=>nomatch h⟩
  cases l with
  | nil=>rw[h2 rfl];rfl
  | cons x l=>simpa using h1 (by simp)
theorem BF {m p0:Pt}{l:List Pt}(hs:(p0::l).Pairwise (fun a b=>fn m a<fn m b)):∃ t k,qP (p0::l)=t::k/\Ch m (p0::l) p0 t k/\(p0::l).getLast?=some t:=by
 have C0:Ch m [p0] p0 p0 []:=⟨List.pairwise_singleton _ _,trivial,fun q hq=>trivial,fun x hx=>hx,rfl,fun q hq hne=>absurd (List.mem_singleton.mp hq) hne,fun q hq=>by rw[List.mem_singleton.mp hq];exact Int.le_refl _⟩
 obtain⟨t,k,e,C,h1,h2⟩:=xM l [p0] p0 [] C0 hs;refine⟨t,k,e,C,?_⟩
 cases l with
 | nil=>rw[h2 rfl];rfl
 | cons x l=>simpa using h1 (by simp)
end Law
namespace Law
open L2 DL
theorem Kz (m a v u w:Pt):(fn m a-fn m v)*cr u v w=(fn m w-fn m v)*cr u v a-(fn m v-fn m u)*cr v w a:=by unfold cr fn;grind
structure xA (m:Pt) (S C:List Pt):Prop where
 left:∀ i (h:i+1<C.length),∀ q∈S,0<=cr C[i] C[i+1] q
 conv:∀ i (h:i+2<C.length),0<cr C[i] C[i+1] C[i+2]
 up:∀ i j (hi:i<C.length) (hj:j<C.length),i<j->fn m C[i]<fn m C[j]
 sub:∀ x∈C,x∈S
 lo:∀ q∈S,∀ h:0<C.length,fn m C[0]<=fn m q
 hi:∀ q∈S,∀ h:C.length-1<C.length,fn m q<=fn m C[C.length-1]
theorem Dt {q:Pt}:∀ (k:List Pt),Lf q k->∀ i (h:i+1<k.length),0<=cr k[i+1] k[i] q
 | [],_,i,h=>by simp at h
 | [a],_,i,h=>by simp at h
 | b::a::r,hl,0,h=>hl.1
 | b::a::r,hl,i+1,h=>Dt (a::r) hl.2 i (by simpa using h)
theorem tW:∀ (k:List Pt),vp k->∀ i (h:i+2<k.length),0<cr k[i+2] k[i+1] k[i]
 | [],_,i,h=>by simp at h
 | [a],_,i,h=>by simp at h
 | [a,b],_,i,h=>absurd h (by simp only[List.length_cons,List.length_nil];omega)
 | c::b::a::r,hl,0,h=>hl.1
 | c::b::a::r,hl,i+1,h=>tW (b::a::r) hl.2 i (by simpa using h)
theorem tR {m p0 t:Pt}{S k:List Pt}(C:Ch m S p0 t k):xA m S (t::k).reverse:=by
 have hr:∀ i (h:i<(t::k).reverse.length),(t::k).reverse[i]=(t::k)[(t::k).length-1-i]'(by simp at h ⊢;omega):=fun i h=>List.getElem_reverse h
 have hdn:=List.pairwise_iff_getElem.mp C.dn;refine⟨fun i h q hq=>?_,fun i h=>?_,fun i j hi hj hij=>?_,fun x hx=>C.sb x (List.mem_reverse.mp hx),fun q hq h=>?_,fun q hq h=>?_⟩
 ·rw[hr,hr];simp only[List.length_reverse]at h;have:=Dt _ (C.lf q hq) ((t::k).length-1-(i+1)) (by omega)
  have e:(t::k).length-1-(i+1)+1=(t::k).length-1-i:=by omega
  simpa only [e] using this
 ·rw[hr,hr,hr];simp only[List.length_reverse]at h;have:=tW _ C.cv ((t::k).length-1-(i+2)) (by omega)
  have e:(t::k).length-1-(i+2)+1=(t::k).length-1-(i+1):=by omega
  have e2:(t::k).length-1-(i+2)+2=(t::k).length-1-i:=by omega
  simpa only [e,e2] using this
 ·rw[hr,hr];simp only[List.length_reverse]at hi hj;exact hdn _ _ (by omega) (by omega) (by omega)
 ·have e:(t::k).reverse[0]=p0:=by
   have h1:=C.ls;rw[<-List.head?_reverse]at h1;rw[List.head?_eq_getElem?,List.getElem?_eq_getElem h]at h1;exact Option.some.inj h1
  rw[e];exact C.lo q hq
 ·have e:(t::k).reverse[(t::k).reverse.length-1]=t:=by
   rw[hr];simp
  rw[e]
  by_cases hqt:q=t
  ·rw[hqt];exact Int.le_refl _
  ·exact Int.le_of_lt (C.hi q hq hqt)
theorem strict {m m':Pt}{S C C':List Pt}(A:xA m S C)(A':xA m' S C')(hc:1<C.length)(hc':1<C'.length)(e1:C'[0]=C[C.length-1])(e2:C'[C'.length-1]=C[0])
  (inj:∀ a∈S,∀ b∈S,fn m a=fn m b->a=b) {i:Nat} (hi:i+1<C.length) {v:Pt} (hv:v∈C\/v∈C') (h1:v≠C[i]) (h2:v≠C[i+1]):0<cr C[i] C[i+1] v:=by
 have hvS:v∈S:=by
  rcases hv with h|h
  ·exact A.sub v h
  ·exact A'.sub v h
 have haS:C[i]∈S:=A.sub _ (List.getElem_mem _);have hbS:C[i+1]∈S:=A.sub _ (List.getElem_mem _);have hge:=A.left i hi v hvS;have hab:=A.up i (i+1) (by omega) hi (by omega)
 rcases Int.lt_or_eq_of_le hge with h|h
 ·exact h
 exfalso;have h0:cr C[i] C[i+1] v=0:=h.symm;have na:fn m v≠fn m C[i]:=fun e=>h1 (inj _ hvS _ haS e);have nb:fn m v≠fn m C[i+1]:=fun e=>h2 (inj _ hvS _ hbS e)
 rcases Int.lt_or_le (fn m C[i+1]) (fn m v) with hgt|hle
 ·rcases Nat.lt_or_ge (i+2) C.length with hl|hl
  ·have c1:=A.conv i hl
   have c2:=A.left (i+1) hl v hvS;have id:=Dc m C[i] C[i+1] C[i+2] v;rw[h0,Int.mul_zero]at id;have g1:0<(fn m v-fn m C[i+1])*cr C[i] C[i+1] C[i+2]:=Int.mul_pos (by omega) c1
   have g2:0<=(fn m C[i+1]-fn m C[i])*cr C[i+1] C[i+2] v:=Int.mul_nonneg (by omega) c2
   omega
  ·have:=A.hi v hvS (by omega)
   have e:C.length-1=i+1:=by omega
   simp only[e]at this;omega
 rcases Int.lt_or_le (fn m v) (fn m C[i]) with hlt|hge2
 ·cases i with
  | zero=>have:=A.lo v hvS (by omega);omega
  | succ i=>
   have c1:=A.conv i (by omega)
   have c2:=A.left i (by omega) v hvS
   have hzt:=A.up i (i+1) (by omega) (by omega) (by omega)
   have id:=Dd m C[i] C[i+1] C[i+1+1] v;rw[h0,Int.mul_zero]at id;have g1:0<=(fn m C[i+1+1]-fn m C[i+1])*cr C[i] C[i+1] v:=Int.mul_nonneg (by omega) c2
   have g2:(fn m v-fn m C[i+1])*cr C[i] C[i+1] C[i+1+1]<0:=Int.mul_neg_of_neg_of_pos (by omega) c1
   omega
 have hav:fn m C[i]<fn m v:=by omega
 have hvb:fn m v<fn m C[i+1]:=by omega
 rcases hv with hv|hv
 ·obtain⟨j,hj,rfl⟩:=List.getElem_of_mem hv
  rcases Nat.lt_trichotomy j i with h|h|h
  ·have:=A.up j i hj (by omega) h;omega
  ·subst h;omega
  ·rcases Nat.lt_or_ge (i+1) j with h'|h'
   ·have:=A.up (i+1) j hi hj h';omega
   ·have:j=i+1:=by omega
    subst this;omega
 ·obtain⟨j,hj,rfl⟩:=List.getElem_of_mem hv;have hj0:j≠0:=fun e=>by
   subst e;rw[e1]at hvb;have:=A.hi C[i+1] hbS (by omega)
   omega
  have hjl:j≠C'.length-1:=fun e=>by
   subst e;rw[e2]at hav;have:=A.lo C[i] haS (by omega)
   omega
  obtain⟨j,rfl⟩:∃ j',j=j'+1:=⟨j-1,by omega⟩
  have hl:j+2<C'.length:=by omega
  have cv:=A'.conv j hl
  have l1:=A'.left j (by omega) C[i] haS
  have l2:=A'.left j (by omega) C[i+1] hbS
  have l3:=A'.left (j+1) hl C[i] haS;have l4:=A'.left (j+1) hl C[i+1] hbS;have i1:=Da m C[i] C[i+1] C'[j+1] C'[j] C'[j+1];have i2:=Da m C[i] C[i+1] C'[j+1] C'[j+1] C'[j+2];rw[h0,qT,Int.mul_zero,Int.mul_zero]at i1;rw[h0,tX,Int.mul_zero,Int.mul_zero]at i2;have g1:0<=(fn m C[i+1]-fn m C'[j+1])*cr C'[j] C'[j+1] C[i]:=Int.mul_nonneg (by omega) l1
  have g2:0<=(fn m C'[j+1]-fn m C[i])*cr C'[j] C'[j+1] C[i+1]:=Int.mul_nonneg (by omega) l2
  have g3:0<=(fn m C[i+1]-fn m C'[j+1])*cr C'[j+1] C'[j+2] C[i]:=Int.mul_nonneg (by omega) l3
  have g4:0<=(fn m C'[j+1]-fn m C[i])*cr C'[j+1] C'[j+2] C[i+1]:=Int.mul_nonneg (by omega) l4
  have z1:cr C'[j] C'[j+1] C[i]=0:=by
   have:(fn m C[i+1]-fn m C'[j+1])*cr C'[j] C'[j+1] C[i]=0:=by omega
   rcases Int.mul_eq_zero.mp this with h|h
   ·omega
   ·exact h
  have z2:cr C'[j+1] C'[j+2] C[i]=0:=by
   have:(fn m C[i+1]-fn m C'[j+1])*cr C'[j+1] C'[j+2] C[i]=0:=by omega
   rcases Int.mul_eq_zero.mp this with h|h
   ·omega
   ·exact h
  have i3:=Kz m C[i] C'[j+1] C'[j] C'[j+2];rw[z1,z2,Int.mul_zero,Int.mul_zero]at i3
  rcases Int.mul_eq_zero.mp (show(fn m C[i]-fn m C'[j+1])*cr C'[j] C'[j+1] C'[j+2]=0 by omega) with h|h
  ·omega
  ·omega
def Mo (H:List Pt)(k:Nat)(hk:k<H.length):Pt:=if h:k=0 then H[H.length-1] else H[k-1]
structure Mw (S H:List Pt):Prop where
 left:∀ k (hk:k<H.length),∀ q∈S,0<=cr (Mo H k hk) H[k] q
 strict:∀ k (hk:k<H.length),∀ v∈H,v≠Mo H k hk->v≠H[k]->0<cr (Mo H k hk) H[k] v
 sub:∀ x∈H,x∈S
 fst:∀ k (hk:k<H.length),0<k->H[k]≠H[0]
 two:∀ h:H.length=2,∀ q∈S,cr H[0] H[1] q=0/\∃ m:Pt,fn m H[0]<=fn m q/\fn m q<=fn m H[1]/\S.Pairwise fun a b=>fn m a<fn m b
 len:2<=H.length
def l8 (S:List Pt):List Pt:=(qP S).reverse.dropLast++(qP S.reverse).reverse.dropLast
def neg (m:Pt):Pt:=(-m.1,-m.2)
theorem rb (m p:Pt):fn (neg m) p=-fn m p:=by unfold fn neg;grind
theorem E9 {m p0 p1:Pt}{l:List Pt}(hs:(p0::p1::l).Pairwise (fun a b=>fn m a<fn m b)):Mw (p0::p1::l) (l8 (p0::p1::l))/\∀ h:0<(l8 (p0::p1::l)).length,(l8 (p0::p1::l))[0]=p0:=by
 obtain⟨t,k,e,C,hl⟩:=BF hs;generalize hS:p0::p1::l=S at *;have hrev:S.reverse.Pairwise (fun a b=>fn (neg m) a<fn (neg m) b):=by
  rw[List.pairwise_reverse];exact hs.imp fun h=>by rw[rb,rb];omega
 obtain⟨z,r,hr⟩:∃ z r,S.reverse=z::r:=by
  cases h:S.reverse with
  | nil=>rw[List.reverse_eq_nil_iff]at h;rw[h]at hS;exact nomatch hS
  | cons z r=>exact⟨z,r,rfl⟩
 have hz:z=t:=by
  have h1:S.reverse.head?=some z:=by rw[hr];rfl
  rw[List.head?_reverse,hl]at h1;exact(Option.some.inj h1).symm
 subst hz;rw[hr]at hrev;obtain⟨t',k',e',C',hl'⟩:=BF hrev;have ht':t'=p0:=by
  rw[<-hr,List.getLast?_reverse,<-hS]at hl';exact(Option.some.inj hl').symm
 subst ht';have A:=tR C;have A':xA (neg m) S (t'::k').reverse:=by
  have B:=tR C';have hm:∀ q,q∈z::r↔q∈S:=fun q=>by rw[<-hr];exact List.mem_reverse
  exact⟨fun i h q hq=>B.left i h q ((hm q).mpr hq),B.conv,B.up,fun x hx=>(hm x).mp (B.sub x hx),fun q hq h=>B.lo q ((hm q).mpr hq) h,fun q hq h=>B.hi q ((hm q).mpr hq) h⟩
 have eL0:(z::k).reverse.head?=some t':=by rw[List.head?_reverse];exact C.ls
 have eU0:(t'::k').reverse.head?=some z:=by rw[List.head?_reverse];exact C'.ls
 have eL1:(z::k).reverse.getLast?=some z:=by rw[List.getLast?_reverse];rfl
 have eU1:(t'::k').reverse.getLast?=some t':=by rw[List.getLast?_reverse];rfl
 have hzS:z∈S:=C.sb z List.mem_cons_self;have htS:t'∈S:=by rw[<-hS];exact List.mem_cons_self
 have inj:∀ a∈S,∀ b∈S,fn m a=fn m b->a=b:=fun a ha b hb hab=>by
  obtain⟨i,hi,rfl⟩:=List.getElem_of_mem ha;obtain⟨j,hj,rfl⟩:=List.getElem_of_mem hb;have hp:=List.pairwise_iff_getElem.mp hs
  rcases Nat.lt_trichotomy i j with h|h|h
  ·have:=hp i j hi hj h;omega
  ·subst h;rfl
  ·have:=hp j i hj hi h;omega
 have hne:t'≠z:=fun h=>by
  have h1:p1∈S:=by rw[<-hS];simp
  have h2:fn m t'<fn m p1:=by rw[<-hS]at hs;exact(List.pairwise_cons.mp hs).1 p1 List.mem_cons_self
  by_cases h3:p1=z
  ·rw[h3,<-h]at h2;omega
  ·have:=C.hi p1 h1 h3;rw[<-h]at this;omega
 have eH:l8 S=(z::k).reverse.dropLast++(t'::k').reverse.dropLast:=by unfold l8;rw[e,hr,e']
 rw[eH];generalize (z::k).reverse=L at *;generalize (t'::k').reverse=U at *;have lenOf:∀ {l:List Pt}{a b:Pt},l.head?=some a->l.getLast?=some b->a≠b->1<l.length:=fun {l a b} h1 h2 h3=>by
  match l with
  | []=>simp at h1
  | [x]=>simp at h1 h2;exact absurd (h1.symm.trans h2) h3
  | _::_::_=>simp
 have hL:=lenOf eL0 eL1 hne;have hU:=lenOf eU0 eU1 (Ne.symm hne);have gL0:L[0]=t':=by rw[List.head?_eq_getElem?,List.getElem?_eq_getElem (by omega)]at eL0;exact Option.some.inj eL0
 have gU0:U[0]=z:=by rw[List.head?_eq_getElem?,List.getElem?_eq_getElem (by omega)]at eU0;exact Option.some.inj eU0
 have gL1:L[L.length-1]=z:=by rw[List.getLast?_eq_getElem?,List.getElem?_eq_getElem (by omega)]at eL1;exact Option.some.inj eL1
 have gU1:U[U.length-1]=t':=by rw[List.getLast?_eq_getElem?,List.getElem?_eq_getElem (by omega)]at eU1;exact Option.some.inj eU1
 have inj':∀ a∈S,∀ b∈S,fn (neg m) a=fn (neg m) b->a=b:=fun a ha b hb hab=>inj a ha b hb (by rw[rb,rb]at hab;omega)
 have hlen:(L.dropLast++U.dropLast).length=L.length-1+(U.length-1):=by simp
 have at1:∀ i (h:i<(L.dropLast++U.dropLast).length) (h':i<L.length-1),(L.dropLast++U.dropLast)[i]=L[i]:=fun i h h'=>by
  rw[List.getElem_append_left (by simpa using h'),List.getElem_dropLast]
 have at2:∀ i (h:i<(L.dropLast++U.dropLast).length) (h':L.length-1<=i),(L.dropLast++U.dropLast)[i]=U[i-(L.length-1)]'(by rw[hlen]at h;omega):=fun i h h'=>by
  rw[List.getElem_append_right (by simpa using h'),List.getElem_dropLast]
  simp
 have hvm:∀ v∈L.dropLast++U.dropLast,v∈L\/v∈U:=fun v hv=>by
  rcases List.mem_append.mp hv with h|h
  ·exact .inl ((List.dropLast_sublist _).subset h)
  ·exact .inr ((List.dropLast_sublist _).subset h)
 have side:∀ k (hk:k<(L.dropLast++U.dropLast).length),(∃ i,∃ hi:i+1<L.length,Mo (L.dropLast++U.dropLast) k hk=L[i]/\(L.dropLast++U.dropLast)[k]=L[i+1]) ∨
   (∃ i,∃ hi:i+1<U.length,Mo (L.dropLast++U.dropLast) k hk=U[i]/\(L.dropLast++U.dropLast)[k]=U[i+1]):=fun k hk=>by
  unfold Mo
  by_cases h0:k=0
  ·subst h0
   right
   refine⟨U.length-2,by omega,?_,?_⟩
   ·rw[dif_pos rfl];simp only[hlen];rw[at2 _ _ (by omega)]
    congr 1;omega
   ·rw[at1 _ _ (by omega),gL0,<-gU1]
    congr 1;omega
  ·rw[dif_neg h0]
   rcases Nat.lt_or_ge (L.length-1) k with h|h
   ·right
    refine⟨k-1-(L.length-1),by omega,?_,?_⟩
    ·rw[at2 _ _ (by omega)]
    ·rw[at2 _ _ (by omega)]
     congr 1;omega
   ·left
    refine⟨k-1,by omega,?_,?_⟩
    ·rw[at1 _ _ (by omega)]
    ·rcases Nat.lt_or_ge k (L.length-1) with h'|h'
     ·rw[at1 _ _ h']
      congr 1;omega
     ·have:k=L.length-1:=by omega
      subst this;rw[at2 _ _ (by omega)]
      have e1:L.length-1-(L.length-1)=0:=by omega
      have e2:L.length-1-1+1=L.length-1:=by omega
      simp only[e1,e2];rw[gU0,gL1]
 refine⟨⟨fun k hk q hq=>?_,fun k hk v hv h1 h2=>?_,fun x hx=>?_,fun k hk h0=>?_,fun h2 q hq=>?_,by rw[hlen];omega⟩,fun h=>by rw[at1 _ _ (by omega),gL0]⟩
 ·rcases side k hk with ⟨i,hi,ea,eb⟩|⟨i,hi,ea,eb⟩
  ·rw[ea,eb];exact A.left i hi q hq
  ·rw[ea,eb];exact A'.left i hi q hq
 ·rcases side k hk with ⟨i,hi,ea,eb⟩|⟨i,hi,ea,eb⟩
  ·rw[ea,eb];exact strict A A' hL hU (by rw[gU0,gL1]) (by rw[gU1,gL0]) inj hi (hvm v hv) (by rw[<-ea];exact h1) (by rw[<-eb];exact h2)
  ·rw[ea,eb];exact strict A' A hU hL (by rw[gL0,gU1]) (by rw[gL1,gU0]) inj' hi ((hvm v hv).symm) (by rw[<-ea];exact h1) (by rw[<-eb];exact h2)
 ·rcases hvm x hx with h|h
  ·exact A.sub x h
  ·exact A'.sub x h
 ·rw[at1 0 (by omega) (by omega),gL0]
  rcases Nat.lt_or_ge k (L.length-1) with h'|h'
  ·rw[at1 _ _ h'];intro h3;have:=A.up 0 k (by omega) (by omega) h0
   rw[gL0,h3]at this;omega
  ·rw[at2 _ _ h'];intro h3;have:=A'.up (k-(L.length-1)) (U.length-1) (by rw[hlen]at hk;omega) (by omega) (by rw[hlen]at hk;omega)
   rw[gU1,h3]at this;omega
 ·have hL2:L.length=2:=by omega
  have hU2:U.length=2:=by omega
  have x0:(L.dropLast++U.dropLast)[0]=t':=by rw[at1 _ _ (by omega),gL0]
  have x1:(L.dropLast++U.dropLast)[1]=z:=by
   rw[at2 _ _ (by omega)]
   simp only[hL2];exact gU0
  have y0:=A.left 0 (by omega) q hq
  have y1:=A'.left 0 (by omega) q hq
  have gl1:L[1]=z:=by simpa only [hL2] using gL1
  have gu1:U[1]=t':=by simpa only [hU2] using gU1
  simp only[Nat.zero_add]at y0 y1;rw[gL0,gl1]at y0;rw[gU0,gu1,Gr]at y1;rw[x0,x1];refine⟨by omega,m,?_,?_,hs⟩
  ·have:=A.lo q hq (by omega);rwa [gL0]at this
  ·have:=A.hi q hq (by omega);rwa [gL1]at this
end Law
namespace Law
open L2 DL
def cg (p:Pt):T:=spT (gp p)
theorem kL (p:Pt):mL (cg p)=true:=rfl
theorem xp {n:Nat}{p:Pt}(h:SzF n p)(hn:1<=n):fM n (gp p):=⟨⟨h.1,⟨by show 1<2 ^ n;exact Nat.one_lt_two_pow (by omega)⟩⟩,h.2,⟨by show 1<2 ^ n;exact Nat.one_lt_two_pow (by omega)⟩⟩
theorem _root_.DL.SzF.mono3 {n m:Nat}{p:Pt}(h:SzF n p)(l:n<=m):SzF m p:=⟨h.1.mono l,h.2.mono l⟩
def gS:aX:=fun ss R=>∃ ps:List Pt,ss=[.t (.lst (ps.map cg))]/\ps.length<=1000/\(∀ p∈ps,SzF 120 p)/\R (.ol ((qP ps).reverse.map cg))
def mP:WS:=
 (aH (aN 1 (jj av))
 (bH (fJ (b9 (ae 0)) (aU 2) (bH (sZ (yS (ji (wB (AR (eU cD (af (ae 1) av)) (wC (.int 1)))) (wB (Qb (aD kY (af (am aL (ae 1) (A5 lJ (wC (.int 2)))) (af (am aL (ae 1) (A5 lJ (wC (.int 1)))) (af (ae 2) av)))) (wC (.int 0)))))) (Iq 1))
 (e9 1 (ae 2))))
 (jP 1)))
theorem Aa:∀ ss R,gS ss R->ss.length=1:=by rintro ss R ⟨a,rfl,_⟩;rfl
theorem yE {p:Pt}:∀ k:List Pt,∀ x∈popTo p k,x∈k
 | [],x,h=>h
 | [b],x,h=>h
 | b::a::r,x,h=>by
  simp only[popTo]at h
  split at h
  ·exact List.mem_cons_of_mem _ (yE (a::r) x h)
  ·exact h
theorem sP {p:Pt}:∀ k:List Pt,(popTo p k).length<=k.length
 | []=>Nat.le_refl _
 | [b]=>Nat.le_refl _
 | b::a::r=>by
  simp only[popTo]
  split
  ·exact Nat.le_succ_of_le (sP (a::r))
  ·exact Nat.le_refl _
theorem BG (l:List Pt)(p:Pt):qP (l++[p])=p::popTo p (qP l):=by unfold qP;rw[List.foldl_append];rfl
theorem ua (p:List Pt):∀ (k:List Pt),(∀ x∈p.foldl (fun k p=>p::popTo p k) k,x∈k\/x∈p)/\(p.foldl (fun k p=>p::popTo p k) k).length<=k.length+p.length:=by
 induction p with
 | nil=>exact fun k=>⟨fun x h=>.inl h,Nat.le_refl _⟩
 | cons a p ih=>
  intro k;obtain⟨h1,h2⟩:=ih (a::popTo a k);refine⟨fun x hx=>?_,?_⟩
  ·rcases h1 x hx with h|h
   ·rcases List.mem_cons.mp h with rfl|h
    ·exact .inr List.mem_cons_self
    ·exact .inl (yE _ x h)
   ·exact .inr (List.mem_cons_of_mem _ h)
  ·have:=sP (p:=a) k;rw[List.foldl_cons];simp only[List.length_cons]at h2 ⊢;omega
theorem Gm (l:List Pt):∀ x∈qP l,x∈l:=fun x hx=>((ua l []).1 x hx).resolve_left (by simp)
theorem kf (l:List Pt):(qP l).length<=l.length:=by have:=(ua l []).2;simpa [qP] using this
theorem NK (l:List T)(a b:T):atI (l++[a,b]) (-2)=some a:=by
 have e:pz (l++[a,b]).length (-2)=some l.length:=by
  unfold pz;rw[List.length_append,List.length_cons,List.length_cons,List.length_nil,if_neg (by decide),if_pos (by omega)]
  congr 1;omega
 unfold atI;rw[e];simp
theorem Na {l:List T}{b:Pt}{R:S->Prop}:vk (l++[cg b]) (-1) R=R (.t (cg b)):=by rw[g9 (Bm l _),yt (kL b)]
theorem Nb {l:List T}{a b:Pt}{R:S->Prop}:vk (l++[cg a,cg b]) (-2) R=R (.t (cg a)):=by rw[g9 (NK l _ _),yt (kL a)]
theorem ED:∀ ss R,gS ss R->mP {nx:=fun _=>R (.t .non),rt:=R} (aJ ["spots","kept","spot"] ss):=by
 rintro ss R ⟨ps,rfl,hl,hz,h⟩;show mP _ [some (.t (.lst (ps.map cg))),none,none]
 delta mP
 walk_at "dl";refine⟨fun δ=>∃ r,δ=[some (.t (.lst (ps.map cg))),some (.ol ((qP ps).reverse.map cg)),r],?_,?_⟩
 ·refine⟨fun ts δ=>∃ pre post r,ps=pre++post/\ts=post.map cg/\δ=[some (.t (.lst (ps.map cg))),some (.ol ((qP pre).reverse.map cg)),r],⟨[],ps,_,rfl,rfl,rfl⟩,?_,?_⟩
  ·rintro δ ⟨pre,post,r,e1,e2,rfl⟩;have:post=[]:=by simpa using e2.symm
   subst this;rw[List.append_nil]at e1;subst e1;exact⟨r,rfl⟩
  ·rintro x ts δ ⟨pre,post,r,e1,e2,rfl⟩
   cases post with
   | nil=>cases e2
   | cons p post=>
    rw[List.map_cons]at e2
    cases e2
    have hpz:SzF 120 p:=hz p (by rw[e1];simp)
    have hprz:∀ x∈qP pre,SzF 120 x:=fun x hx=>hz x (by rw[e1];exact List.mem_append_left _ (Gm pre x hx))
    have hlp:(qP pre).length<=1000:=by
     have:=kf pre;have:ps.length=pre.length+(post.length+1):=by rw[e1];simp
     omega
    walk_at "dl";refine⟨fun δ=>δ=[some (.t (.lst (ps.map cg))),some (.ol ((popTo p (qP pre)).reverse.map cg)),some (.t (cg p))],?_,?_⟩
    ·refine⟨fun n δ=>∃ k,k.length=n/\popTo p k=popTo p (qP pre)/\(∀ x∈k,SzF 120 x)/\δ=[some (.t (.lst (ps.map cg))),some (.ol (k.reverse.map cg)),some (.t (cg p))],⟨_,qP pre,rfl,rfl,hprz,rfl⟩,?_⟩;rintro n δ ⟨k,hk,hpop,hkz,rfl⟩;have base:popTo p k=k->(fun δ=>δ=[some (S.t (.lst (ps.map cg))),some (.ol ((popTo p (qP pre)).reverse.map cg)),some (.t (cg p))]) [some (.t (.lst (ps.map cg))),some (.ol (k.reverse.map cg)),some (.t (cg p))]:=fun e=>by
      rw[<-hpop,e]
     match k,hk,hpop,hkz,base with
     | [],hk,hpop,hkz,base=>
      refine⟨fun k=>k=false,?_,?_⟩
      ·walk_at "dl"
       first|trivial|(rw[if_neg (by simp)];trivial)
      ·rintro k rfl;rw[if_neg (by decide)]
       exact base rfl
     | [b],hk,hpop,hkz,base=>
      refine⟨fun k=>k=false,?_,?_⟩
      ·walk_at "dl"
       first|trivial|(rw[if_neg (by simp)];trivial)
      ·rintro k rfl;rw[if_neg (by decide)]
       exact base rfl
     | b::a::r,hk,hpop,hkz,base=>
      have el:(b::a::r).reverse.map cg=(r.reverse.map cg)++[cg a,cg b]:=by simp
      have el2:(b::a::r).reverse.map cg=((a::r).reverse.map cg)++[cg b]:=by simp
      refine⟨fun k=>k=decide (cr a b p<=0),?_,?_⟩
      ·walk_at "dl";rw[if_pos (by simp;omega)]
       walk_at "dl";rw[el,Nb];walk_at "dl";rw[<-el,el2,Na];walk_at "dl";refine⟨gp a,gp b,gp p,rfl,xp ((hkz a (by simp)).mono3 (by decide)) (by decide),xp ((hkz b (by simp)).mono3 (by decide)) (by decide),xp (hpz.mono3 (by decide)) (by decide),?_⟩
       walk_at "dl";rw[show Ow (gp a) (gp b) (gp p)=cr a b p from L6 a b p]
      ·rintro k rfl
       by_cases hc:cr a b p<=0
       ·rw[if_pos (by simpa using hc)]
        walk_at "dl";refine⟨by simp,r.length+1,by simp at hk;omega,a::r,rfl,?_,fun x hx=>hkz x (List.mem_cons_of_mem _ hx),?_⟩
        ·rw[<-hpop];simp only[popTo,if_pos hc]
        ·rw[el2,List.dropLast_concat]
       ·rw[if_neg (by simpa using hc)]
        exact base (by simp only[popTo,if_neg hc])
    ·rintro δ rfl;walk_at "dl";refine⟨?_,pre++[p],post,some (.t (cg p)),by rw[e1];simp,rfl,?_⟩
     ·rw[List.length_map,List.length_reverse];have:=sP (p:=p) (qP pre);omega
     ·rw[BG,List.reverse_cons,List.map_append];rfl
 ·rintro δ ⟨r,rfl⟩;walk_at "dl";exact h
end Law
namespace Law
open L2 DL
def EQ (p:Pt):List Int:=[p.1,p.2]
def cO (a b:Pt):Prop:=a.1<b.1\/(a.1=b.1/\a.2<b.2)
def bQ (S:List Pt):List Pt:=if S.length<2 then S else l8 S
def SetOf (ps S:List Pt):Prop:=(∀ p∈S,p∈ps)/\(∀ p∈ps,p∈S)/\S.Pairwise cO
theorem KP (a b:Pt):ST.lexB (EQ a) (EQ b)=true↔cO a b:=by
 unfold cO EQ;simp only[ST.lexB]
 by_cases h:a.1=b.1
 ·rw[if_pos h]
  by_cases h2:a.2=b.2
  ·rw[if_pos h2];constructor
   ·intro h;cases h
   ·intro h;omega
  ·rw[if_neg h2,decide_eq_true_eq];omega
 ·rw[if_neg h,decide_eq_true_eq];omega
theorem yD {ps:List Pt}:∀ ns:List (List Int),(∀ k∈ns,k∈ps.map EQ)->∃ S:List Pt,ns=S.map EQ/\∀ p∈S,p∈ps
 | [],_=>⟨[],rfl,fun p hp=>by cases hp⟩
 | k::ns,h=>by
  obtain⟨S,e,hs⟩:=yD ns fun k hk=>h k (List.mem_cons_of_mem _ hk);obtain⟨p,hp,rfl⟩:=List.mem_map.mp (h k List.mem_cons_self);exact⟨p::S,by rw[e];rfl,fun q hq=>by
   rcases List.mem_cons.mp hq with rfl|hq
   ·exact hp
   ·exact hs q hq⟩
theorem Ly {a b:Pt}(h:EQ a=EQ b):a=b:=by
 unfold EQ at h;simp only[List.cons.injEq,and_true]at h;exact Prod.ext h.1 h.2
def kW:aX:=fun ss R=>∃ ps:List Pt,ss=[.t (.lst (ps.map bC))]/\ps.length<=63/\(∀ p∈ps,SzF 120 p)/\∀ S:List Pt,SetOf ps S->R (.ol ((bQ S).map cg))
def tf:WS:=
 (aH (aN 1 (iJ 1 [] (b9 (k8 (ae 0))) (aU 0) vh (aD fC (af (ae 0) av))))
 (aH (eZ (wB (ve (eU cD (af (ae 1) av)) (wC (.int 2)))) (jP 1) aY)
 (aH (aN 2 (aD gS (af (ae 1) av)))
 (aH (aN 3 (aD gS (af (oC (ae 1)) av)))
 (bu (am zQ (j5 (ae 2) j4 (oE (A5 lJ (wC (.int 1))))) (j5 (ae 3) j4 (oE (A5 lJ (wC (.int 1)))))))))))
theorem Dm:∀ ss R,kW ss R->ss.length=1:=by rintro ss R ⟨a,rfl,_⟩;rfl
theorem pZ {S:List Pt}(h:S.Pairwise cO):S.Nodup:=h.imp fun h e=>by subst e;unfold cO at h;omega
theorem ki (ts:List T):iS ts none (some (-1))=ts.dropLast:=by
 unfold iS;show(ts.drop 0).take (HT.sIx ts.length ts.length (some (-1))-0)=_;have:HT.sIx ts.length ts.length (some (-1))=ts.length-1:=by
  show(if (-1:Int)<0 then ((-1:Int)+(ts.length:Int)).toNat else min (-1:Int).toNat ts.length)=_
  rw[if_pos (by decide)];omega
 rw[this,List.dropLast_eq_take];simp
theorem Hb:∀ ss R,kW ss R->tf {nx:=fun _=>R (.t .non),rt:=R} (aJ ["points","spots","under","above"] ss):=by
 rintro ss R ⟨ps,rfl,hl,hz,h⟩;show tf _ [some (.t (.lst (ps.map bC))),none,none,none]
 delta tf
 walk_at "dl";refine⟨2,ps.map EQ,by decide,by rw[List.map_map];rfl,fun ks hk=>by obtain⟨p,_,rfl⟩:=List.mem_map.mp hk;rfl,by rw[List.length_map];omega,fun ns n1 n2 _ n3=>?_⟩
 replace n3:=n3 (by rw[List.length_map];exact hl)
 obtain⟨S,rfl,hS⟩:=yD ns n1;have hset:SetOf ps S:=⟨hS,fun p hp=>by
  obtain⟨q,hq,e⟩:=List.mem_map.mp (n2 (EQ p) (List.mem_map.mpr ⟨p,hp,rfl⟩));rw[<-Ly e];exact hq,by
  rw[List.pairwise_map]at n3;exact n3.imp fun h=>(KP _ _).mp h⟩
 have hSl:S.length<=63:=Nat.le_trans (List.Nodup.length_le_of_subset (pZ hset.2.2) hset.1) hl;have hSz:∀ p∈S,SzF 120 p:=fun p hp=>hz p (hS p hp);have e:(S.map EQ).map mo=S.map bC:=by rw[List.map_map];rfl
 rw[e];walk_at "dl";refine nc (h:=cg) (fun δ=>∃ r,δ=[r]) (fun p _=>kL p) (by omega) ⟨_,rfl⟩ ?_ ?_
 ·rintro p hp δ ⟨r,rfl⟩ Y hY;walk_at "dl";refine⟨p,rfl,?_⟩;walk_at "dl";exact hY _ ⟨_,rfl⟩
 have hR:=h S hset;unfold bQ at hR;walk_at "dl"
 by_cases h2:S.length<2
 ·rw[if_pos h2]at hR;rw[if_pos (by rw[List.length_map];omega)]
  walk_at "dl";exact hR
 ·rw[if_neg h2]at hR;rw[if_neg (by rw[List.length_map];omega)]
  walk_at "dl";refine⟨S,rfl,by omega,hSz,?_⟩
  have pu:∀ l:List Pt,cG (l.map cg)=true:=ce fun p=>kL p;have g:∀ l:List Pt,got (.ol (l.map cg))=.ol (l.map cg):=fun l=>gf _ (pu l);dsimp only;rw[g];walk_at "dl";refine⟨pu S,S.reverse,by rw[List.map_reverse],by rw[List.length_reverse];omega,fun p hp=>hSz p (List.mem_reverse.mp hp),?_⟩
  dsimp only;rw[g];walk_at "dl";refine⟨pu _,pu _,?_,?_⟩
  ·rw[ki,ki,List.length_dropLast,List.length_dropLast,List.length_map,List.length_map,List.length_reverse,List.length_reverse];have a1:=kf S;have a2:=kf S.reverse;rw[List.length_reverse]at a2;omega
  ·rw[ki,ki,<-List.map_dropLast,<-List.map_dropLast,<-List.map_append];exact hR
end Law
namespace Law
open L2 DL
def aS (a b c:Hf):Int:=a.1*(b.2.1*c.2.2-c.2.1*b.2.2)-a.2.1*(b.1*c.2.2-c.1*b.2.2)+a.2.2*(b.1*c.2.1-c.1*b.2.1)
def jS (a b:Hf):Bool:=if a.1*b.2.2≠b.1*a.2.2 then decide (a.1*b.2.2<b.1*a.2.2) else decide (a.2.1*b.2.2<b.2.1*a.2.2)
def mT (s:Fr):Prop:=0<s.2/\Int.gcd s.1 s.2=1
def bB (s:aF):Prop:=mT s.1/\mT s.2
def dH:aX:=fun ss R=>∃ s:aF,ss=[.t (spT s)]/\bB s/\R (.t (.bl true))
def fW:WS:=
 (aH (eZ (yS (vg (jO (wB (Fo .tup (ae 0)))) (wB (AZ (eU cD (af (ae 0) av)) (wC (.int 2)))))) (bu (wC (.bl false))) aY)
 (bH (fJ (Fs (ae 0)) (aU 1) (aH (eZ (yS (vg (jO (wB (Fo .tup (ae 1)))) (vg (wB (AZ (eU cD (af (ae 1) av)) (wC (.int 2)))) (vg (jO (wB (aD dm (af (am aL (ae 1) (wC (.int 0))) av)))) (jO (wB (aD dm (af (am aL (ae 1) (wC (.int 1))) av)))))))) (bu (wC (.bl false))) aY)
 (eZ (yS (vg (wB (ve (am aL (ae 1) (wC (.int 1))) (wC (.int 1)))) (wB (AZ (aD cq (af (am aL (ae 1) (wC (.int 0))) (af (am aL (ae 1) (wC (.int 1))) av))) (wC (.int 1)))))) (bu (wC (.bl false))) aY)))
 (bu (wC (.bl true)))))
theorem pB:∀ ss R,dH ss R->ss.length=1:=by rintro ss R ⟨a,rfl,_⟩;rfl
theorem E1 {g:WG}{wb:WS}{D:gu}{δ:aT}:ub g wb [] D δ=D.nx δ:=rfl
theorem EZ {g:WG}{wb:WS}{D:gu}{δ:aT}{x:T}{r:List T}:ub g wb (x::r) D δ=g x δ fun δ1=>wb {nx:=fun δ2=>ub g wb r D δ2,rt:=D.rt,bk:=D.nx,ct:=fun δ2=>ub g wb r D δ2} δ1:=rfl
theorem sK:∀ ss R,dH ss R->fW {nx:=fun _=>R (.t .non),rt:=R} (aJ ["_law_found","_law_one"] ss):=by
 rintro ss R ⟨⟨⟨x,p⟩,⟨y,q⟩⟩,rfl,⟨⟨l1,l2⟩,⟨l3,l4⟩⟩,h⟩;dsimp only at l1 l2 l3 l4;show fW _ [some (.t (.tup [.tup [.int x,.int p],.tup [.int y,.int q]])),none]
 delta fW
 walk_at "dl";refine⟨fun k=>k=false,by walk_at "dl";simp,?_⟩
 rintro k rfl;walk_at "dl";refine⟨fun _=>True,xY ?_,?_⟩
 ·simp only[E1,EZ];walk_at "dl";refine⟨fun k=>k=false,?_,?_⟩
  ·walk_at "dl";rw[if_neg (by decide)]
   refine jD _ _ ?_;walk_at "dl";refine jD _ _ ?_;walk_at "dl"
  rintro k rfl;walk_at "dl";refine⟨fun k=>k=false,?_,?_⟩
  ·walk_at "dl";rw[if_neg (by omega)]
   refine⟨_,_,rfl,?_⟩;walk_at "dl";simp[l2]
  rintro k rfl;walk_at "dl";refine⟨fun k=>k=false,?_,?_⟩
  ·walk_at "dl";rw[if_neg (by decide)]
   refine jD _ _ ?_;walk_at "dl";refine jD _ _ ?_;walk_at "dl"
  rintro k rfl;walk_at "dl";refine⟨fun k=>k=false,?_,?_⟩
  ·walk_at "dl";rw[if_neg (by omega)]
   refine⟨_,_,rfl,?_⟩;walk_at "dl";simp[l4]
  rintro k rfl;walk_at "dl"
 ·intro δ _;walk_at "dl";exact h
end Law
namespace Law
open L2 DL
def ci {α:Type}(H:List α)(k:Nat)(hk:k<H.length):α:=if h:k=0 then H[H.length-1] else H[k-1]
structure Je (F:List Hf):Prop where
 fst:∀ k (hk:k<F.length),0<k->jS F[0] F[k]=true
 trn:2<F.length->∀ k (hk:k<F.length),∀ v∈F,v≠F[k]->v≠ci F k hk->0<aS (ci F k hk) F[k] v
structure cu (F:List Hf) (q:Hf):Prop where
 ne:0<F.length
 few:F.length<3->aS F[0] F[F.length-1] q=0/\jS q F[0]=false/\jS F[F.length-1] q=false
 all:3<=F.length->∀ k (hk:k<F.length),0<=aS (ci F k hk) F[k] q
theorem oA {n m:Nat}{s:Hf}(h:oQ n s)(l:n<=m):oQ m s:=⟨h.1.mono l,h.2.1.mono l,h.2.2.mono l⟩
theorem lR {α:Type}{F:List α}{k:Nat}(hk:k<F.length):ci F k hk∈F:=by
 unfold ci
 split <;> exact List.getElem_mem _
theorem rd {α:Type}{f:α->T}{l:List α}{g:WG}{wb:WS}{D:gu}{δ:aT}(M:aT->Prop)(h0:M δ)(hend:∀ δ,M δ->D.nx δ)
  (step:∀ a∈l,∀ δ,M δ->∀ N:aT->Prop,(∀ δ1,M δ1->N δ1)->g (f a) δ fun δ1=>wb {nx:=N,rt:=D.rt,bk:=D.nx,ct:=N} δ1):wm g wb (l.map f) D δ:=by
 refine⟨fun ts δ=>(∀ t∈ts,∃ a∈l,t=f a)/\M δ,⟨fun t ht=>?_,h0⟩,fun δ h=>hend δ h.2,?_⟩
 ·obtain⟨a,ha,rfl⟩:=List.mem_map.mp ht;exact⟨a,ha,rfl⟩
 ·rintro x r δ ⟨ht,hM⟩;obtain⟨a,ha,rfl⟩:=ht x List.mem_cons_self;exact step a ha δ hM _ fun δ1 h1=>⟨fun t ht'=>ht t (List.mem_cons_of_mem _ ht'),h1⟩
end Law
namespace Law
open L2 DL
def fl (p:Pt):Hf:=(p.1,p.2,1)
theorem j3 (p:Pt):ag (gp p)=fl p:=by unfold ag gp fl;simp
theorem xV (a b c:Pt):aS (fl a) (fl b) (fl c)=cr a b c:=by unfold aS fl cr;grind
theorem qH (a b:Pt):jS (fl a) (fl b)=true↔cO a b:=by
 unfold jS fl cO;simp only[Int.mul_one]
 by_cases h:a.1=b.1
 ·rw[if_neg (by simpa using h),decide_eq_true_eq];omega
 ·rw[if_pos h,decide_eq_true_eq];omega
theorem xK {a b:Pt}(h:¬ cO a b):jS (fl a) (fl b)=false:=by
 cases e:jS (fl a) (fl b) with
 | false=>rfl
 | true=>exact absurd ((qH a b).mp e) h
theorem ir (a:Pt):¬ cO a a:=by unfold cO;omega
theorem Dr {a b:Pt}(h:cO a b):¬ cO b a:=by unfold cO at *;omega
theorem KO {S:List Pt}(h:S.Pairwise cO):∃ m:Pt,S.Pairwise fun a b=>fn m a<fn m b:=by
 obtain⟨B,hB0,hB⟩:∃ B:Int,0<=B/\∀ p∈S,-B<=p.2/\p.2<=B:=by
  clear h
  induction S with
  | nil=>exact⟨0,Int.le_refl _,fun p hp=>by cases hp⟩
  | cons a S ih=>
   obtain⟨B,h0,h1⟩:=ih;refine⟨B+(a.2.natAbs:Int),by omega,fun p hp=>?_⟩
   rcases List.mem_cons.mp hp with rfl|hp
   ·omega
   ·have:=h1 p hp;omega
 refine⟨(2*B+1,1),?_⟩;rw[List.pairwise_iff_getElem]at h ⊢;intro i j hi hj hij;have h1:=h i j hi hj hij;have b1:=hB _ (List.getElem_mem hi);have b2:=hB _ (List.getElem_mem hj);unfold fn;dsimp only
 rcases h1 with h1|⟨h1,h2⟩
 ·have h3:(2*B+1)*(S[i].1+1)<=(2*B+1)*S[j].1:=Int.mul_le_mul_of_nonneg_left (by omega) (by omega)
  rw[Int.mul_add]at h3;omega
 ·rw[h1];omega
theorem gn {α β:Type}(f:α->β)(H:List α)(k:Nat)(hk:k<(H.map f).length):ci (H.map f) k hk=f (ci H k (by simpa using hk)):=by
 unfold ci
 split
 ·simp
 ·simp
theorem uF {S:List Pt}{m:Pt}(hl:S.Pairwise cO)(hf:S.Pairwise fun a b=>fn m a<fn m b){a b:Pt}(ha:a∈S)(hb:b∈S)(h:cO a b):fn m a<fn m b:=by
 obtain⟨i,hi,rfl⟩:=List.getElem_of_mem ha;obtain⟨j,hj,rfl⟩:=List.getElem_of_mem hb
 rcases Nat.lt_trichotomy i j with hij|hij|hij
 ·exact List.pairwise_iff_getElem.mp hf i j hi hj hij
 ·subst hij;exact absurd h (ir _)
 ·exact absurd (List.pairwise_iff_getElem.mp hl j i hj hi hij) (Dr h)
structure vx (S H:List Pt):Prop where
 reg:Je (H.map fl)
 hold:∀ p∈S,cu (H.map fl) (fl p)
 sub:∀ p∈H,p∈S
 ne:H≠[]
theorem GG {S:List Pt}(hs:S.Pairwise cO)(hne:S≠[]):vx S (bQ S):=by
 unfold bQ
 match S,hne,hs with
 | [p],_,_=>
  rw[if_pos (by simp)]
  refine⟨⟨fun k hk h0=>by simp at hk;omega,fun h=>by simp at h⟩,fun q hq=>?_,fun q hq=>hq,by simp⟩
  obtain rfl:=List.mem_singleton.mp hq;refine⟨by simp,fun _=>?_,fun h=>by simp at h⟩
  show aS (fl q) (fl q) (fl q)=0/\jS (fl q) (fl q)=false/\jS (fl q) (fl q)=false;exact⟨by rw[xV,qT],xK (ir q),xK (ir q)⟩
 | p0::p1::l,_,hs=>
  rw[if_neg (by simp only[List.length_cons];omega)]
  obtain⟨m,hm⟩:=KO hs;obtain⟨R,h0⟩:=E9 hm;generalize l8 (p0::p1::l)=H at R h0;have hlen:=R.len;have hH0:=h0 (by omega)
  have hml:(H.map fl).length=H.length:=List.length_map ..;refine⟨⟨fun k hk hk0=>?_,fun h2 k hk v hv h1 h3=>?_⟩,fun p hp=>⟨by omega,fun h=>?_,fun h3 k hk=>?_⟩,R.sub,fun e=>by rw[e]at hlen;simp at hlen⟩
  ·rw[List.getElem_map,List.getElem_map,qH,hH0];have h1:=R.sub _ (List.getElem_mem (show k<H.length by omega))
   have h2:=R.fst k (by omega) hk0
   rw[hH0]at h2
   rcases List.mem_cons.mp h1 with h|h
   ·exact absurd h h2
   ·exact(List.pairwise_cons.mp hs).1 _ h
  ·obtain⟨x,hx,rfl⟩:=List.mem_map.mp hv;rw[gn]at h3 ⊢;rw[List.getElem_map]at h1 ⊢;rw[xV];exact R.strict k (by omega) x hx (fun e=>h3 (by rw[e];rfl)) (fun e=>h1 (by rw[e]))
  ·have e2:H.length=2:=by omega
   obtain⟨c,m',f1,f2,hm'⟩:=R.two e2 p hp;have x0:=R.sub _ (List.getElem_mem (show 0<H.length by omega))
   have x1:=R.sub _ (List.getElem_mem (show 1<H.length by omega))
   have el:(H.map fl)[(H.map fl).length-1]'(by omega)=fl H[1]:=by
    rw[List.getElem_map]
    congr 2;omega
   rw[el,List.getElem_map,xV];refine⟨c,xK fun h=>?_,xK fun h=>?_⟩
   ·have:=uF hs hm' hp x0 h;omega
   ·have:=uF hs hm' x1 hp h;omega
  ·rw[gn,List.getElem_map,xV];exact R.left k (by omega) p hp
end Law
namespace Law
open L2 DL
set_option maxHeartbeats 4000000
theorem kh {a b c:Int}(h:Int.gcd a b=1)(hd:b ∣ a*c):b ∣ c:=by
 have h1:b.natAbs ∣ a.natAbs*c.natAbs:=by rw[<-Int.natAbs_mul];exact Int.natAbs_dvd_natAbs.mpr hd
 have h2:Nat.Coprime b.natAbs a.natAbs:=by
  rw[Nat.coprime_comm];exact h
 exact Int.natAbs_dvd_natAbs.mp (h2.dvd_of_dvd_mul_left h1)
theorem xZ {p q:Fr}(hp:mT p)(hq:mT q)(h:p.1*q.2=q.1*p.2):p=q:=by
 obtain⟨p0,p1⟩:=hp;obtain⟨q0,q1⟩:=hq;have d1:p.2 ∣ q.2:=kh p1 ⟨q.1,by rw[h,Int.mul_comm]⟩
 have d2:q.2 ∣ p.2:=kh q1 ⟨p.1,by rw[<-h,Int.mul_comm]⟩
 have e:p.2=q.2:=Int.dvd_antisymm (by omega) (by omega) d1 d2
 rw[e]at h;have:=Int.eq_of_mul_eq_mul_right (by omega) h
 exact Prod.ext this e
theorem J5 {a b:Int}(hb:b≠0):lE a b≠0:=by
 have:=iY (a:=a) (.inr hb);unfold lE
 split <;> omega
theorem xO (a b:Int):lE a b ∣ a/\lE a b ∣ b:=by
 unfold lE
 split
 ·exact⟨Int.neg_dvd.mpr (Int.gcd_dvd_left _ _),Int.neg_dvd.mpr (Int.gcd_dvd_right _ _)⟩
 ·exact⟨Int.gcd_dvd_left _ _,Int.gcd_dvd_right _ _⟩
theorem C1 {a b:Int}(hb:b≠0):mT (o8 a b):=by
 have hc:=J5 (a:=a) hb;obtain⟨d1,d2⟩:=xO a b;have e1:=c5 d1;have e2:=c5 d2;unfold o8 mT;dsimp only;generalize a.fdiv (lE a b)=x at e1 ⊢;generalize b.fdiv (lE a b)=y at e2 ⊢;constructor
 ·have hs:(b<0/\lE a b<0)\/(0<b/\0<lE a b):=by
   have:=iY (a:=a) (.inr hb);unfold lE at hc ⊢
   split <;> rename_i h <;> first|(left;omega)|(right;omega)
  rcases hs with ⟨h1,h2⟩|⟨h1,h2⟩
  ·rcases Int.lt_or_le 0 y with z|z
   ·exact z
   ·have:=Int.mul_nonneg_of_nonpos_of_nonpos z (Int.le_of_lt h2);omega
  ·rcases Int.lt_or_le 0 y with z|z
   ·exact z
   ·have:=Int.mul_nonpos_of_nonpos_of_nonneg z (Int.le_of_lt h2);omega
 ·have eg:Int.gcd a b=Int.gcd x y*(lE a b).natAbs:=by
   have:=Int.gcd_mul_right x (lE a b) y;rw[e1,e2]at this;exact this
  have en:(lE a b).natAbs=Int.gcd a b:=by
   unfold lE
   split
   ·rw[Int.natAbs_neg,Int.natAbs_natCast]
   ·rw[Int.natAbs_natCast]
  rw[en]at eg;have hg:0<Int.gcd a b:=by have:=iY (a:=a) (.inr hb);omega
  exact(Nat.eq_of_mul_eq_mul_right hg (by rw[Nat.one_mul];exact eg)).symm
def JY (p q:Fr):Bool:=decide (p.1*q.2<q.1*p.2)
def sD (p q:aF):Bool:=if p.1=q.1 then JY p.2 q.2 else JY p.1 q.1
theorem nU {a b c:Int}(hc:0<c):a*c<b*c↔a<b:=⟨fun h=>Int.lt_of_mul_lt_mul_right h (Int.le_of_lt hc),fun h=>Int.mul_lt_mul_of_pos_right h hc⟩
theorem nQ {p q:aF}(hp:bB p)(hq:bB q):sD p q=jS (ag p) (ag q):=by
 obtain⟨⟨x0,x1⟩,⟨y0,y1⟩⟩:=p;obtain⟨⟨u0,u1⟩,⟨v0,v1⟩⟩:=q;have hx:0<x1:=hp.1.1;have hy:0<y1:=hp.2.1;have hu:0<u1:=hq.1.1;have hv:0<v1:=hq.2.1;have hyv:0<y1*v1:=Int.mul_pos hy hv;have hxu:0<x1*u1:=Int.mul_pos hx hu;unfold sD jS ag JY;dsimp only;have a1:x0*y1*(u1*v1)=(x0*u1)*(y1*v1):=by grind
 have a2:u0*v1*(x1*y1)=(u0*x1)*(y1*v1):=by grind
 have b1:y0*x1*(u1*v1)=(y0*v1)*(x1*u1):=by grind
 have b2:v0*u1*(x1*y1)=(v0*y1)*(x1*u1):=by grind
 rw[a1,a2,b1,b2]
 by_cases e:((x0,x1):Fr)=(u0,u1)
 ·rw[if_pos e];have e0:x0=u0:=congrArg Prod.fst e;have e1:x1=u1:=congrArg Prod.snd e;subst e0;subst e1;rw[if_neg (by simp)]
  exact decide_eq_decide.mpr (nU hxu).symm
 ·rw[if_neg e];have hne:x0*u1*(y1*v1)≠u0*x1*(y1*v1):=fun h=>e (xZ hp.1 hq.1 (Int.eq_of_mul_eq_mul_right (by omega) h))
  rw[if_pos hne];exact decide_eq_decide.mpr (nU hyv).symm
end Law
namespace Law
open L2 DL
set_option maxHeartbeats 1000000
theorem aV (a b c:Hf):aS a b c=aS b c a:=by unfold aS;grind
theorem nj (a b:Hf):aS a a b=0:=by unfold aS;grind
theorem hZ (a b:Hf):aS a b a=0:=by unfold aS;grind
theorem eW (a b:Hf):aS a b b=0:=by unfold aS;grind
theorem Gx (a b c:Hf):aS a c b=-aS a b c:=by unfold aS;grind
theorem Nl (a e b c d:Hf):aS a e c*aS a b d=aS a e b*aS a c d+aS a e d*aS a b c:=by unfold aS;grind
def tz (u p q:Hf):Prop:=∃ κ α β:Int,0<κ/\0<α/\0<β/\κ*u.1=α*p.1+β*q.1/\κ*u.2.1=α*p.2.1+β*q.2.1/\κ*u.2.2=α*p.2.2+β*q.2.2
theorem uO (u:Hf):tz u u u:=⟨2,1,1,by decide,by decide,by decide,by walk_at "o",by walk_at "o",by walk_at "o"⟩
theorem sF {u p q:Hf}{κ α β:Int}(e1:κ*u.1=α*p.1+β*q.1)(e2:κ*u.2.1=α*p.2.1+β*q.2.1)(e3:κ*u.2.2=α*p.2.2+β*q.2.2)(v w:Hf):κ*aS u v w=α*aS p v w+β*aS q v w:=by
 unfold aS;have h:κ*(u.1*(v.2.1*w.2.2-w.2.1*v.2.2)-u.2.1*(v.1*w.2.2-w.1*v.2.2)+u.2.2*(v.1*w.2.1-w.1*v.2.1))=κ*u.1*(v.2.1*w.2.2-w.2.1*v.2.2)-κ*u.2.1*(v.1*w.2.2-w.1*v.2.2)+κ*u.2.2*(v.1*w.2.1-w.1*v.2.1):=by grind
 rw[h,e1,e2,e3];grind
theorem dk {κ x:Int}(hk:0<κ)(h:0<κ*x):0<x:=by
 rcases Int.lt_or_le 0 x with z|z
 ·exact z
 ·have:=Int.mul_nonpos_of_nonneg_of_nonpos (Int.le_of_lt hk) z;walk_at "o"
theorem cQ {κ x:Int}(hk:0<κ)(h:0<=κ*x):0<=x:=by
 rcases Int.lt_or_le x 0 with z|z
 ·have:=Int.mul_neg_of_pos_of_neg hk z;walk_at "o"
 ·exact z
theorem sG {u p q:Hf}(h:tz u p q)(v w:Hf)(h1:0<=aS p v w)(h2:0<=aS q v w):0<=aS u v w:=by
 obtain⟨κ,α,β,k0,a0,b0,e1,e2,e3⟩:=h;have e:=sF e1 e2 e3 v w;have x1:=Int.mul_nonneg (Int.le_of_lt a0) h1;have x2:=Int.mul_nonneg (Int.le_of_lt b0) h2;exact cQ k0 (by walk_at "o")
theorem mI {u p q:Hf}(h:tz u p q)(v w:Hf)(h1:0<=aS p v w)(h2:0<=aS q v w)(h3:0<aS p v w\/0<aS q v w):0<aS u v w:=by
 obtain⟨κ,α,β,k0,a0,b0,e1,e2,e3⟩:=h;have e:=sF e1 e2 e3 v w;have x1:=Int.mul_nonneg (Int.le_of_lt a0) h1;have x2:=Int.mul_nonneg (Int.le_of_lt b0) h2;refine dk k0 ?_
 rcases h3 with h3|h3
 ·have:=Int.mul_pos a0 h3;walk_at "o"
 ·have:=Int.mul_pos b0 h3;walk_at "o"
theorem nT {u p q:Hf}(h:tz u p q):aS p q u=0:=by
 obtain⟨κ,α,β,k0,a0,b0,e1,e2,e3⟩:=h;have e:=sF e1 e2 e3 p q;rw[nj,hZ,Int.mul_zero,Int.mul_zero,aV u p q]at e
 rcases Int.mul_eq_zero.mp (show κ*aS p q u=0 by walk_at "o") with z | z
 ·walk_at "o"
 ·exact z
theorem Pz {u v w p p' q q' r r':Hf}(hu:tz u p p')(hv:tz v q q')(hw:tz w r r')(n:∀ x,x=p\/x=p'->∀ y,y=q\/y=q'->∀ z,z=r\/z=r'->0<=aS x y z)
  (s:∃ x y z,(x=p\/x=p')/\(y=q\/y=q')/\(z=r\/z=r')/\0<aS x y z):0<aS u v w:=by
 obtain⟨x0,y0,z0,hx0,hy0,hz0,h0⟩:=s;have nw:∀ x,x=p\/x=p'->∀ y,y=q\/y=q'->0<=aS x y w:=fun x hx y hy=>by
  rw[<-aV w x y];refine sG hw x y ?_ ?_
  ·rw[aV];exact n x hx y hy r (.inl rfl)
  ·rw[aV];exact n x hx y hy r' (.inr rfl)
 have pw:0<aS x0 y0 w:=by
  rw[<-aV w x0 y0];refine mI hw x0 y0 ?_ ?_ ?_
  ·rw[aV];exact n x0 hx0 y0 hy0 r (.inl rfl)
  ·rw[aV];exact n x0 hx0 y0 hy0 r' (.inr rfl)
  ·rcases hz0 with e|e
   ·left;rw[aV,<-e];exact h0
   ·right;rw[aV,<-e];exact h0
 have nv:∀ x,x=p\/x=p'->0<=aS x v w:=fun x hx=>by
  rw[aV];refine sG hv w x ?_ ?_
  ·rw[<-aV];exact nw x hx q (.inl rfl)
  ·rw[<-aV];exact nw x hx q' (.inr rfl)
 have pv:0<aS x0 v w:=by
  rw[aV];refine mI hv w x0 ?_ ?_ ?_
  ·rw[<-aV];exact nw x0 hx0 q (.inl rfl)
  ·rw[<-aV];exact nw x0 hx0 q' (.inr rfl)
  ·rcases hy0 with e|e
   ·left;rw[<-aV,<-e];exact pw
   ·right;rw[<-aV,<-e];exact pw
 refine mI hu v w (nv p (.inl rfl)) (nv p' (.inr rfl)) ?_
 rcases hx0 with e|e
 ·left;rw[<-e];exact pv
 ·right;rw[<-e];exact pv
def oR (P:Nat->Hf)(n:Nat):Prop:=∀ a b c,a<b->b<c->c<n->0<aS (P a) (P b) (P c)
def aW (n i:Nat):Nat:=if i=0 then n-1 else i-1
theorem wk {P:Nat->Hf}{n:Nat}(hT:oR P n){a b c:Nat}(h1:a<=b)(h2:b<=c)(h3:c<n):0<=aS (P a) (P b) (P c):=by
 rcases Nat.lt_or_ge a b with l1|l1
 ·rcases Nat.lt_or_ge b c with l2|l2
  ·exact Int.le_of_lt (hT a b c l1 l2 h3)
  ·have:b=c:=by walk_at "o"
   rw[this,eW];exact Int.le_refl _
 ·have:a=b:=by walk_at "o"
  rw[this,nj];exact Int.le_refl _
theorem QI {P:Nat->Hf}{n:Nat}(hT:oR P n){b c:Nat}(h2:b<=c)(h3:c<n):0<=aS (P (n-1)) (P b) (P c):=by
 rw[aV];exact wk hT h2 (by walk_at "o") (by walk_at "o")
def lo (n:Nat)(s:Bool)(i:Nat):Nat:=if s=true then aW n i else i
theorem nO {n:Nat}{s:Bool}{i a:Nat}(h:a=lo n s i\/a=i):a=i\/(s=true/\a=aW n i):=by
 unfold lo at h
 cases s with
 | true=>
      rcases h with h|h
      ·exact .inr ⟨rfl,by simpa using h⟩
      ·exact .inl h
 | false=>
       rcases h with h|h
       ·exact .inl (by simpa using h)
       ·exact .inl h
theorem P2 {P:Nat->Hf}{n:Nat}(hn:3<=n)(hT:oR P n){u v w:Hf}{su sv sw:Bool}{i j k:Nat}(hu:tz u (P (lo n su i)) (P i))(hv:tz v (P (lo n sv j)) (P j))(hw:tz w (P (lo n sw k)) (P k))(hk:k<n)
  (ij:i<j\/(i=j/\su=true/\sv=false)) (jk:j<k\/(j=k/\sv=true/\sw=false))
  (x1:su=true->i=j->sw=false->k≠aW n i) (x2:sv=true->j=k->su=false->i≠aW n j):0<aS u v w:=by
 refine Pz hu hv hw ?_ ?_
 ·intro x hx y hy z hz;obtain⟨a,rfl,ha⟩:∃ a,x=P a/\(a=lo n su i\/a=i):=hx.elim (fun e=>⟨_,e,.inl rfl⟩) (fun e=>⟨_,e,.inr rfl⟩);obtain⟨b,rfl,hb⟩:∃ b,y=P b/\(b=lo n sv j\/b=j):=hy.elim (fun e=>⟨_,e,.inl rfl⟩) (fun e=>⟨_,e,.inr rfl⟩);obtain⟨c,rfl,hc⟩:∃ c,z=P c/\(c=lo n sw k\/c=k):=hz.elim (fun e=>⟨_,e,.inl rfl⟩) (fun e=>⟨_,e,.inr rfl⟩);have ha:=nO ha;have hb:=nO hb;have hc:=nO hc;have hbj:i<=b/\b<=j:=by
   rcases hb with h|⟨h,h'⟩
   ·walk_at "o"
   ·rcases ij with l|⟨_,_,l⟩
    ·unfold aW at h';rw[if_neg (by walk_at "o")]at h';walk_at "o"
    ·rw[h]at l;cases l
  have hck:b<=c/\c<=k:=by
   rcases hc with h|⟨h,h'⟩
   ·walk_at "o"
   ·rcases jk with l|⟨_,_,l⟩
    ·unfold aW at h';rw[if_neg (by walk_at "o")]at h';walk_at "o"
    ·rw[h]at l;cases l
  rcases ha with h|⟨h,h'⟩
  ·exact wk hT (by walk_at "o") hck.1 (by walk_at "o")
  ·unfold aW at h'
   split at h'
   ·rw[h'];exact QI hT hck.1 (by walk_at "o")
   ·exact wk hT (by walk_at "o") hck.1 (by walk_at "o")
 ·have hlo:∀ (s:Bool) (m:Nat),s=true->lo n s m=aW n m:=fun s m h=>by unfold lo;rw[if_pos h]
  rcases ij with l1|⟨e1,e2,e3⟩
  ·rcases jk with l2|⟨f1,f2,f3⟩
   ·exact⟨P i,P j,P k,.inr rfl,.inr rfl,.inr rfl,hT i j k l1 l2 hk⟩
   ·have hl:lo n sv j=j-1:=by rw[hlo sv j f2];unfold aW;rw[if_neg (by walk_at "o")]
    by_cases h:i<j-1
    ·exact⟨P i,P (j-1),P k,.inr rfl,.inl (by rw[hl]),.inr rfl,hT i (j-1) k h (by walk_at "o") hk⟩
    ·have hi:i=j-1:=by walk_at "o"
     have hs:su=true:=by
      cases su with
      | true=>rfl
      | false=>exact absurd (by unfold aW;rw[if_neg (by walk_at "o")];exact hi) (x2 f2 f1 rfl)
     by_cases i0:i=0
     ·refine⟨P (n-1),P (j-1),P k,.inl (by rw[hlo su i hs];unfold aW;rw[if_pos i0]),.inl (by rw[hl]),.inr rfl,?_⟩
      rw[aV];exact hT (j-1) k (n-1) (by walk_at "o") (by walk_at "o") (by walk_at "o")
     ·exact⟨P (i-1),P (j-1),P k,.inl (by rw[hlo su i hs];unfold aW;rw[if_neg i0]),.inl (by rw[hl]),.inr rfl,hT (i-1) (j-1) k (by walk_at "o") (by walk_at "o") hk⟩
  ·have jk':j<k:=by
    rcases jk with l|⟨_,f,_⟩
    ·exact l
    ·rw[f]at e3;cases e3
   by_cases i0:i=0
   ·have hl:lo n su i=n-1:=by rw[hlo su i e2];unfold aW;rw[if_pos i0]
    by_cases hk1:k<n-1
    ·refine⟨P (n-1),P j,P k,.inl (by rw[hl]),.inr rfl,.inr rfl,?_⟩
     rw[aV];exact hT j k (n-1) jk' hk1 (by walk_at "o")
    ·have hs:sw=true:=by
      cases sw with
      | true=>rfl
      | false=>exact absurd (by unfold aW;rw[if_pos i0];walk_at "o") (x1 e2 e1 rfl)
     refine⟨P (n-1),P j,P (k-1),.inl (by rw[hl]),.inr rfl,.inl (by rw[hlo sw k hs];unfold aW;rw[if_neg (by walk_at "o")]),?_⟩
     rw[aV];exact hT j (k-1) (n-1) (by walk_at "o") (by walk_at "o") (by walk_at "o")
   ·exact⟨P (i-1),P j,P k,.inl (by rw[hlo su i e2];unfold aW;rw[if_neg i0]),.inr rfl,.inr rfl,hT (i-1) j k (by walk_at "o") jk' hk⟩
theorem cZ {P:Nat->Hf}{n:Nat}(hT:oR P n){k j:Nat}(hk:k<n)(hj:j<n)(h1:j≠k)(h2:j≠aW n k):0<aS (P (aW n k)) (P k) (P j):=by
 unfold aW at *
 split at h2
 ·rename_i k0;rw[if_pos k0,aV];exact hT k j (n-1) (by walk_at "o") (by walk_at "o") (by walk_at "o")
 ·rename_i k0;rw[if_neg k0]
  rcases Nat.lt_or_ge j k with l|l
  ·rw[<-aV];exact hT j (k-1) k (by walk_at "o") (by walk_at "o") hk
  ·exact hT (k-1) k j (by walk_at "o") (by walk_at "o") hj
theorem ku {P:Nat->Hf}{n:Nat}(hT:oR P n){k j:Nat}(hk:k<n)(hj:j<n):0<=aS (P (aW n k)) (P k) (P j):=by
 by_cases h1:j=k
 ·rw[h1,eW];exact Int.le_refl _
 ·by_cases h2:j=aW n k
  ·rw[h2,hZ];exact Int.le_refl _
  ·exact Int.le_of_lt (cZ hT hk hj h1 h2)
theorem IS {P:Nat->Hf}{n:Nat}(hn:3<=n)(hT:oR P n){i j:Nat}(hi:i<n)(hj:j<n)(h:i≠j):P i≠P j:=fun e=>by
 obtain⟨m,hm,h1,h2⟩:∃ m,m<n/\m≠i/\m≠j:=by
  by_cases a:0≠i/\0≠j
  ·exact⟨0,by walk_at "o",a⟩
  ·by_cases b:1≠i/\1≠j
   ·exact⟨1,by walk_at "o",b⟩
   ·exact⟨2,by walk_at "o",by walk_at "o",by walk_at "o"⟩
 have sorted:∀ a b c,a<b->b<c->c<n->P a=P b\/P b=P c\/P a=P c->False:=fun a b c h1 h2 h3 e=>by
  have:=hT a b c h1 h2 h3
  rcases e with e|e|e
  ·rw[e,nj]at this;walk_at "o"
  ·rw[e,eW]at this;walk_at "o"
  ·rw[e,hZ]at this;walk_at "o"
 rcases Nat.lt_trichotomy i j with l|l|l
 ·rcases Nat.lt_or_ge m i with q|q
  ·exact sorted m i j q l hj (.inr (.inl e))
  ·rcases Nat.lt_or_ge m j with q'|q'
   ·exact sorted i m j (by walk_at "o") q' hj (.inr (.inr e))
   ·exact sorted i j m l (by walk_at "o") hm (.inl e)
 ·exact h l
 ·rcases Nat.lt_or_ge m j with q|q
  ·exact sorted m j i q l hi (.inr (.inl e.symm))
  ·rcases Nat.lt_or_ge m i with q'|q'
   ·exact sorted j m i (by walk_at "o") q' hi (.inr (.inr e.symm))
   ·exact sorted j i m l (by walk_at "o") hm (.inl e.symm)
theorem bM {n k:Nat} (h:k<n):aW n k<n:=by unfold aW;split <;> walk_at "o"
theorem fv {n k:Nat}(h:3<=n)(hk:k<n):aW n k≠k/\aW n (aW n k)≠k/\aW n (aW n k)≠aW n k:=by
 unfold aW;refine⟨?_,?_,?_⟩
 ·split <;> walk_at "o"
 ·split
  ·split <;> walk_at "o"
  ·split <;> walk_at "o"
 ·split
  ·split <;> walk_at "o"
  ·split <;> walk_at "o"
def qD (F:List Hf):Prop:=∀ a b c (_:a<b) (_:b<c) (h3:c<F.length),0<aS F[a] F[b] F[c]
theorem AN {α:Type}{R:α->α->Prop}{f:α->Hf}{L:List α}(hp:L.Pairwise R)(h:∀ x∈L,∀ y∈L,∀ z∈L,R x y->R y z->0<aS (f x) (f y) (f z)):qD (L.map f):=by
 intro a b c h1 h2 h3;rw[List.length_map]at h3;rw[List.getElem_map,List.getElem_map,List.getElem_map];rw[List.pairwise_iff_getElem]at hp;exact h _ (List.getElem_mem _) _ (List.getElem_mem _) _ (List.getElem_mem _) (hp a b (by walk_at "o") (by walk_at "o") h1) (hp b c (by walk_at "o") (by walk_at "o") h2)
theorem dX {F:List Hf}(R:Je F):qD F:=by
 by_cases hn:F.length<3
 ·intro a b c h1 h2 h3;walk_at "o"
 have hn:3<=F.length:=by walk_at "o"
 have trn:=R.trn (by walk_at "o")
 have ne0:∀ k (hk:k<F.length),0<k->F[0]≠F[k]:=fun k hk h0 e=>by
  have:=R.fst k hk h0;rw[<-e]at this;unfold jS at this;simp at this
 have ed:∀ k (hk:k<F.length) (h0:0<k) v,v∈F->v≠F[k]->v≠F[k-1]->0<aS F[k-1] F[k] v:=fun k hk h0 v hv h1 h2=>by
  have:=trn k hk v hv h1 (by unfold ci;rw[dif_neg (by walk_at "o")];exact h2)
  unfold ci at this;rw[dif_neg (by walk_at "o")]at this
  exact this
 have fan:∀ (a:Nat) (ha:a+1<F.length),(∀ c (hc:c<F.length),a+1<c->0<aS F[a] F[a+1] F[c])->(∀ c (hc:c+1<F.length),a<c->0<aS F[a] F[c] F[c+1])->∀ b c (_:a<b) (_:b<c) (hc:c<F.length),0<aS F[a] F[b] F[c]:=by
  intro a ha hA hB b c hab hbc
  induction c with
  | zero=>walk_at "o"
  | succ c ih=>
   intro hc
   by_cases e:b=c
   ·subst e;exact hB b hc hab
   ·have i1:=ih (by walk_at "o") (by walk_at "o")
    by_cases eb:b=a+1
    ·subst eb;exact hA (c+1) hc (by walk_at "o")
    ·have q1:=hA b (by walk_at "o") (by walk_at "o")
     have q2:=hA c (by walk_at "o") (by walk_at "o")
     have q3:=hA (c+1) hc (by walk_at "o")
     have q4:=hB c hc (by walk_at "o")
     have pl:=Nl F[a] F[a+1] F[b] F[c] F[c+1];have m1:=Int.mul_pos q1 q4;have m2:=Int.mul_pos q3 i1;exact dk q2 (by walk_at "o")
 have B0:∀ c (hc:c+1<F.length),0<c->0<aS F[0] F[c] F[c+1]:=fun c hc h0=>by
  have:=ed (c+1) hc (by walk_at "o") F[0] (List.getElem_mem _) (ne0 _ hc (by walk_at "o")) (ne0 c (by walk_at "o") h0)
  rw[<-aV]at this;exact this
 have A0:∀ c (hc:c<F.length),1<c->0<aS F[0] F[1] F[c]:=fun c hc h1=>by
  have nn:∀ c (hc:c<F.length),1<=c->0<=aS F[0] F[1] F[c]:=fun c hc h1=>by
   by_cases e:F[c]=F[1]
   ·rw[e,eW];exact Int.le_refl _
   ·exact Int.le_of_lt (ed 1 (by walk_at "o") (by walk_at "o") F[c] (List.getElem_mem _) e (fun e'=>ne0 c hc (by walk_at "o") e'.symm))
  by_cases e:F[c]=F[1]
  ·exfalso;obtain⟨d,rfl⟩:∃ d,c=d+1:=⟨c-1,by walk_at "o"⟩
   have b:=B0 d hc (by walk_at "o")
   rw[e,Gx]at b;have:=nn d (by walk_at "o") (by walk_at "o")
   walk_at "o"
  ·exact ed 1 (by walk_at "o") (by walk_at "o") F[c] (List.getElem_mem _) e (fun e'=>ne0 c hc (by walk_at "o") e'.symm)
 have T0:=fan 0 (by walk_at "o") A0 B0
 have ne:∀ b c (hb:b<F.length) (hc:c<F.length),b<c->F[b]≠F[c]:=fun b c hb hc h e=>by
  by_cases b0:b=0
  ·subst b0;exact ne0 c hc h e
  ·have:=T0 b c (by walk_at "o") h hc
   rw[e,eW]at this;walk_at "o"
 intro a b c h1 h2 h3;refine fan a (by walk_at "o") (fun c hc h=>?_) (fun c hc h=>?_) b c h1 h2 h3
 ·exact ed (a+1) (by walk_at "o") (by walk_at "o") F[c] (List.getElem_mem _) (fun e=>ne (a+1) c (by walk_at "o") hc h e.symm) (fun e=>ne a c (by walk_at "o") hc (by walk_at "o") e.symm)
 ·have:=ed (c+1) hc (by walk_at "o") F[a] (List.getElem_mem _) (ne a (c+1) (by walk_at "o") hc (by walk_at "o")) (ne a c (by walk_at "o") (by walk_at "o") h)
  rw[<-aV]at this;exact this
theorem xc {F:List Hf}(hT:qD F)(h2:2<F.length)(k:Nat)(hk:k<F.length)(v:Hf)(hv:v∈F)(h1:v≠F[k])(h3:v≠ci F k hk):0<aS (ci F k hk) F[k] v:=by
 obtain⟨j,hj,rfl⟩:=List.getElem_of_mem hv;have hP:oR (fun i=>F.getD i (0,0,0)) F.length:=fun a b c q1 q2 q3=>by
  have:=hT a b c q1 q2 q3;simp only[List.getD_eq_getElem?_getD,List.getElem?_eq_getElem (show a<F.length by walk_at "o"),List.getElem?_eq_getElem (show b<F.length by walk_at "o"),List.getElem?_eq_getElem q3,Option.getD_some]
  exact this
 have g:∀ i (hi:i<F.length),F.getD i (0,0,0)=F[i]:=fun i hi=>by simp[List.getD_eq_getElem?_getD,List.getElem?_eq_getElem hi]
 have hpv:ci F k hk=F.getD (aW F.length k) (0,0,0):=by
  rw[g _ (bM hk)];unfold ci aW
  split <;> rename_i e
  ·simp[e]
  ·simp[e]
 rw[hpv]at h3 ⊢;have:=cZ hP hk hj (fun e=>h1 (by subst e;rfl)) (fun e=>h3 (by rw[<-e,g _ hj]))
 rw[g _ hj,g _ hk]at this;exact this
end Law
namespace Law
open L2 DL
set_option maxHeartbeats 1000000
def gY (x:Int):Int:=if x<0 then -x else x
theorem lz {x:Int}(h:x≠0):0<gY x:=by unfold gY;split <;> omega
def IN (p q:Fr)(a b:Int):Fr:=o8 (p.1*q.2*a+q.1*p.2*b) (p.2*q.2*(a+b))
def dw (h:Hf)(p q:aF):aF:=(IN p.1 q.1 (gY (bw h q)*(p.1.2*p.2.2)) (gY (bw h p)*(q.1.2*q.2.2)),IN p.2 q.2 (gY (bw h q)*(p.1.2*p.2.2)) (gY (bw h p)*(q.1.2*q.2.2)))
theorem yr (p q:Fr)(a b:Int):IN p q a b=IN q p b a:=by
 unfold IN;have e1:p.1*q.2*a+q.1*p.2*b=q.1*p.2*b+p.1*q.2*a:=Int.add_comm _ _;have e2:p.2*q.2*(a+b)=q.2*p.2*(b+a):=by rw[Int.mul_comm p.2,Int.add_comm a]
 rw[e1,e2]
theorem mC (h:Hf)(p q:aF):dw h p q=dw h q p:=by
 unfold dw;rw[yr p.1,yr p.2]
theorem x5 {a b:Int}(hb:0<b):∃ g:Int,0<g/\a=g*(o8 a b).1/\b=g*(o8 a b).2:=by
 have hg:0<(Int.gcd a b:Int):=by have:=iY (a:=a) (b:=b) (.inr (by omega));omega
 have hc:lE a b=(Int.gcd a b:Int):=by unfold lE;rw[if_neg (by omega)]
 obtain⟨d1,d2⟩:=xO a b;have e1:=c5 d1;have e2:=c5 d2;refine⟨lE a b,by omega,?_,?_⟩
 ·unfold o8;dsimp only;rw[Int.mul_comm];exact e1.symm
 ·unfold o8;dsimp only;rw[Int.mul_comm];exact e2.symm
theorem Qz (px0 px1 py1 qx0 qx1 qy1 A B:Int):(px0*qx1*(A*(px1*py1))+qx0*px1*(B*(qx1*qy1)))*(py1*qy1*(A*(px1*py1)+B*(qx1*qy1)))=(A*(px1*py1)+B*(qx1*qy1))*(px1*py1*(qx1*qy1))*(A*(px0*py1)+B*(qx0*qy1)):=by grind
theorem QA (py0 px1 py1 qy0 qx1 qy1 A B:Int):(py0*qy1*(A*(px1*py1))+qy0*py1*(B*(qx1*qy1)))*(px1*qx1*(A*(px1*py1)+B*(qx1*qy1)))=(A*(px1*py1)+B*(qx1*qy1))*(px1*py1*(qx1*qy1))*(A*(py0*px1)+B*(qy0*qx1)):=by grind
theorem QB (px1 py1 qx1 qy1 A B:Int):px1*qx1*(A*(px1*py1)+B*(qx1*qy1))*(py1*qy1*(A*(px1*py1)+B*(qx1*qy1)))=(A*(px1*py1)+B*(qx1*qy1))*(px1*py1*(qx1*qy1))*(A*(px1*py1)+B*(qx1*qy1)):=by grind
theorem xP {h:Hf}{p q:aF}(op:bB p)(oq:bB q)(hp:bw h p≠0)(hq:bw h q≠0) :
  bB (dw h p q)/\∃ κ c:Int,0<κ/\0<c/\κ*(ag (dw h p q)).1=c*(gY (bw h q)*(ag p).1+gY (bw h p)*(ag q).1)/\κ*(ag (dw h p q)).2.1=c*(gY (bw h q)*(ag p).2.1+gY (bw h p)*(ag q).2.1)/\κ*(ag (dw h p q)).2.2=c*(gY (bw h q)*(ag p).2.2+gY (bw h p)*(ag q).2.2):=by
 obtain⟨⟨px0,px1⟩,⟨py0,py1⟩⟩:=p;obtain⟨⟨qx0,qx1⟩,⟨qy0,qy1⟩⟩:=q;have p1:0<px1:=op.1.1;have p2:0<py1:=op.2.1;have q1:0<qx1:=oq.1.1;have q2:0<qy1:=oq.2.1;have A0:=lz hq;have B0:=lz hp;unfold dw ag;generalize gY (bw h ((qx0,qx1),qy0,qy1))=A at A0;generalize gY (bw h ((px0,px1),py0,py1))=B at B0;unfold IN;dsimp only;have pp:0<px1*py1:=Int.mul_pos p1 p2;have qq:0<qx1*qy1:=Int.mul_pos q1 q2;have W0:0<A*(px1*py1)+B*(qx1*qy1):=by
  have:=Int.mul_pos A0 pp;have:=Int.mul_pos B0 qq;omega
 have bx:0<px1*qx1*(A*(px1*py1)+B*(qx1*qy1)):=Int.mul_pos (Int.mul_pos p1 q1) W0;have by':0<py1*qy1*(A*(px1*py1)+B*(qx1*qy1)):=Int.mul_pos (Int.mul_pos p2 q2) W0
 have ox:=C1 (a:=px0*qx1*(A*(px1*py1))+qx0*px1*(B*(qx1*qy1))) (b:=px1*qx1*(A*(px1*py1)+B*(qx1*qy1))) (by omega)
 have oy:=C1 (a:=py0*qy1*(A*(px1*py1))+qy0*py1*(B*(qx1*qy1))) (b:=py1*qy1*(A*(px1*py1)+B*(qx1*qy1))) (by omega)
 obtain⟨gx,gx0,ex1,ex2⟩:=x5 (a:=px0*qx1*(A*(px1*py1))+qx0*px1*(B*(qx1*qy1))) bx;obtain⟨gy,gy0,ey1,ey2⟩:=x5 (a:=py0*qy1*(A*(px1*py1))+qy0*py1*(B*(qx1*qy1))) by'
 refine⟨⟨ox,oy⟩,gx*gy,(A*(px1*py1)+B*(qx1*qy1))*(px1*py1*(qx1*qy1)),Int.mul_pos gx0 gy0,Int.mul_pos W0 (Int.mul_pos pp qq),?_,?_,?_⟩
 ·rw[show ∀ a d:Int,gx*gy*(a*d)=gx*a*(gy*d) from fun a d=>by grind,<-ex1,<-ey2]
  exact Qz ..
 ·rw[show ∀ a d:Int,gx*gy*(a*d)=gy*a*(gx*d) from fun a d=>by grind,<-ey1,<-ex2]
  exact QA ..
 ·rw[show ∀ a d:Int,gx*gy*(a*d)=gx*a*(gy*d) from fun a d=>by grind,<-ex2,<-ey2]
  exact QB ..
theorem dY (h:Hf)(s:aF):bw h s=h.1*(ag s).1+h.2.1*(ag s).2.1-h.2.2*(ag s).2.2:=by
 unfold bw ag;dsimp only;grind
def iO (h:Hf)(p q:aF):Prop:=sgn (bw h p)*sgn (bw h q)<0
def lr (h:Hf)(q:aF):Prop:=sgn (bw h q)>=0
instance (h:Hf) (p q:aF):Decidable (iO h p q):=inferInstanceAs (Decidable (_<_))
instance (h:Hf) (q:aF):Decidable (lr h q):=inferInstanceAs (Decidable (_>=_))
theorem cc {h:Hf}{p q:aF}:iO h p q↔(0<bw h p/\bw h q<0)\/(bw h p<0/\0<bw h q):=by
 unfold iO sgn
 by_cases a:bw h p>0
 ·by_cases b:bw h q>0
  ·simp[a,b] <;> omega
  ·by_cases c:bw h q<0
   ·simp[a,b,c]
   ·simp[a,b,c] <;> omega
 ·by_cases a':bw h p<0
  ·by_cases b:bw h q>0
   ·simp[a,a',b]
   ·by_cases c:bw h q<0
    ·simp[a,a',b,c]
    ·simp[a,a',b,c]
  ·simp[a,a']
theorem bX {h:Hf}{q:aF}:lr h q↔0<=bw h q:=by
 unfold lr sgn
 split
 ·simp;omega
 ·split <;> simp <;> omega
theorem f7 {h:Hf}{p q:aF}(op:bB p)(oq:bB q)(ho:iO h p q):bB (dw h p q)/\tz (ag (dw h p q)) (ag p) (ag q)/\bw h (dw h p q)=0:=by
 have ho:=cc.mp ho;have hp:bw h p≠0:=by omega
 have hq:bw h q≠0:=by omega
 obtain⟨ok,κ,c,k0,c0,e1,e2,e3⟩:=xP op oq hp hq;have A0:=lz hq;have B0:=lz hp;refine⟨ok,⟨κ,c*gY (bw h q),c*gY (bw h p),k0,Int.mul_pos c0 A0,Int.mul_pos c0 B0,by rw[e1];grind,by rw[e2];grind,by rw[e3];grind⟩,?_⟩
 have z:gY (bw h q)*bw h p+gY (bw h p)*bw h q=0:=by
  rcases ho with ⟨a,b⟩|⟨a,b⟩
  ·have x1:gY (bw h q)=-bw h q:=by unfold gY;rw[if_pos b]
   have x2:gY (bw h p)=bw h p:=by unfold gY;rw[if_neg (by omega)]
   rw[x1,x2];grind
  ·have x1:gY (bw h q)=bw h q:=by unfold gY;rw[if_neg (by omega)]
   have x2:gY (bw h p)=-bw h p:=by unfold gY;rw[if_pos a]
   rw[x1,x2];grind
 have k:κ*bw h (dw h p q)=c*(gY (bw h q)*bw h p+gY (bw h p)*bw h q):=by
  rw[dY h (dw h p q)];generalize ag (dw h p q)=f at e1 e2 e3;have t:κ*(h.1*f.1+h.2.1*f.2.1-h.2.2*f.2.2)=h.1*(κ*f.1)+h.2.1*(κ*f.2.1)-h.2.2*(κ*f.2.2):=by grind
  rw[t,e1,e2,e3];generalize gY (bw h q)=A;generalize gY (bw h p)=B;rw[dY h p,dY h q];grind
 rw[z,Int.mul_zero]at k
 rcases Int.mul_eq_zero.mp k with z|z
 ·omega
 ·exact z
theorem kM {x a y b z c:Int}(hb:0<b)(ha:0<a)(hc:0<c)(h1:x*b<=y*a)(h2:y*c<=z*b):x*c<=z*a/\((x*b<y*a\/y*c<z*b)->x*c<z*a):=by
 have m1:=Int.mul_le_mul_of_nonneg_right h1 (Int.le_of_lt hc);have m2:=Int.mul_le_mul_of_nonneg_right h2 (Int.le_of_lt ha);have t1:x*b*c=x*c*b:=by grind
 have t2:z*b*a=z*a*b:=by grind
 have t3:y*a*c=y*c*a:=by grind
 refine⟨Int.le_of_mul_le_mul_right (show x*c*b<=z*a*b by omega) hb,fun h=>Int.lt_of_mul_lt_mul_right (a:=b) ?_ (Int.le_of_lt hb)⟩
 rcases h with h|h
 ·have:=Int.mul_lt_mul_of_pos_right h hc;omega
 ·have:=Int.mul_lt_mul_of_pos_right h ha;omega
def Bf (a b:Hf):Prop:=a.1*b.2.2<b.1*a.2.2\/(a.1*b.2.2=b.1*a.2.2/\a.2.1*b.2.2<b.2.1*a.2.2)
theorem eV {a b:Hf}:jS a b=true↔Bf a b:=by
 unfold jS Bf
 split
 ·rw[decide_eq_true_eq];omega
 ·rw[decide_eq_true_eq];omega
theorem bN {a b:Hf}:jS a b=false↔¬ Bf a b:=by
 rw[<-eV]
 cases jS a b <;> simp
theorem Bf.trans {a b c:Hf}(ha:0<a.2.2)(hb:0<b.2.2)(hc:0<c.2.2)(h1:Bf a b)(h2:Bf b c):Bf a c:=by
 unfold Bf at *
 rcases h1 with h1|⟨h1,h1'⟩
 ·left
  refine(kM hb ha hc (Int.le_of_lt h1) ?_).2 (.inl h1);omega
 ·rcases h2 with h2|⟨h2,h2'⟩
  ·left
   exact(kM hb ha hc (by omega) (Int.le_of_lt h2)).2 (.inr h2)
  ·right
   have k1:=(kM (x:=a.1) (y:=b.1) (z:=c.1) hb ha hc (by omega) (by omega)).1
   have k2:=(kM (x:=-a.1) (y:=-b.1) (z:=-c.1) hb ha hc (by rw[Int.neg_mul,Int.neg_mul];omega) (by rw[Int.neg_mul,Int.neg_mul];omega)).1
   rw[Int.neg_mul,Int.neg_mul]at k2;exact⟨by omega,(kM hb ha hc (Int.le_of_lt h1') (Int.le_of_lt h2')).2 (.inl h1')⟩
theorem Bf.irr (a:Hf):¬ Bf a a:=by unfold Bf;omega
theorem Bf.asym {a b:Hf}(h:Bf a b):¬ Bf b a:=by unfold Bf at *;omega
theorem dJ {s:aF}(h:bB s):0<(ag s).2.2:=Int.mul_pos h.1.1 h.2.1
theorem JW {p q:aF}(hp:bB p)(hq:bB q)(h:p≠q):Bf (ag p) (ag q)\/Bf (ag q) (ag p):=by
 by_cases a:Bf (ag p) (ag q)
 ·exact .inl a
 ·right
  by_cases b:Bf (ag q) (ag p)
  ·exact b
  ·exfalso;apply h;unfold Bf ag at a b;have x1:0<p.2.2:=hp.2.1;have x2:0<q.2.2:=hq.2.1;have x3:0<p.1.2:=hp.1.1;have x4:0<q.1.2:=hq.1.1;dsimp only at a b;have e1:p.1.1*p.2.2*(q.1.2*q.2.2)=q.1.1*q.2.2*(p.1.2*p.2.2):=by omega
   have e2:p.2.1*p.1.2*(q.1.2*q.2.2)=q.2.1*q.1.2*(p.1.2*p.2.2):=by omega
   refine Prod.ext (xZ hp.1 hq.1 ?_) (xZ hp.2 hq.2 ?_)
   ·refine Int.eq_of_mul_eq_mul_right (a:=p.2.2*q.2.2) (by have:=Int.mul_pos x1 x2;omega) ?_
    have t1:p.1.1*q.1.2*(p.2.2*q.2.2)=p.1.1*p.2.2*(q.1.2*q.2.2):=by grind
    have t2:q.1.1*p.1.2*(p.2.2*q.2.2)=q.1.1*q.2.2*(p.1.2*p.2.2):=by grind
    rw[t1,t2,e1]
   ·refine Int.eq_of_mul_eq_mul_right (a:=p.1.2*q.1.2) (by have:=Int.mul_pos x3 x4;omega) ?_
    have t1:p.2.1*q.2.2*(p.1.2*q.1.2)=p.2.1*p.1.2*(q.1.2*q.2.2):=by grind
    have t2:q.2.1*p.2.2*(p.1.2*q.1.2)=q.2.1*q.1.2*(p.1.2*p.2.2):=by grind
    rw[t1,t2,e2]
theorem KW {u p q:Hf}(h:tz u p q)(hp:0<p.2.2)(hq:0<q.2.2)(hb:Bf p q):¬ Bf u p/\¬ Bf q u:=by
 obtain⟨κ,α,β,k0,a0,b0,e1,e2,e3⟩:=h;have i1:κ*(u.1*p.2.2-p.1*u.2.2)=β*(q.1*p.2.2-p.1*q.2.2):=by
  have t:κ*(u.1*p.2.2-p.1*u.2.2)=κ*u.1*p.2.2-p.1*(κ*u.2.2):=by grind
  rw[t,e1,e3];grind
 have i2:κ*(u.2.1*p.2.2-p.2.1*u.2.2)=β*(q.2.1*p.2.2-p.2.1*q.2.2):=by
  have t:κ*(u.2.1*p.2.2-p.2.1*u.2.2)=κ*u.2.1*p.2.2-p.2.1*(κ*u.2.2):=by grind
  rw[t,e2,e3];grind
 have i3:κ*(q.1*u.2.2-u.1*q.2.2)=α*(q.1*p.2.2-p.1*q.2.2):=by
  have t:κ*(q.1*u.2.2-u.1*q.2.2)=q.1*(κ*u.2.2)-κ*u.1*q.2.2:=by grind
  rw[t,e1,e3];grind
 have i4:κ*(q.2.1*u.2.2-u.2.1*q.2.2)=α*(q.2.1*p.2.2-p.2.1*q.2.2):=by
  have t:κ*(q.2.1*u.2.2-u.2.1*q.2.2)=q.2.1*(κ*u.2.2)-κ*u.2.1*q.2.2:=by grind
  rw[t,e2,e3];grind
 have sg:∀ {γ d e:Int},0<γ->κ*d=γ*e->(0<e->0<d)/\(e=0->d=0):=fun {γ d e} g0 ee=>⟨fun h=>dk k0 (by rw[ee];exact Int.mul_pos g0 h),fun h=>by
  rw[h,Int.mul_zero]at ee
  rcases Int.mul_eq_zero.mp ee with z|z
  ·omega
  ·exact z⟩
 have s1:=sg b0 i1;have s2:=sg b0 i2;have s3:=sg a0 i3;have s4:=sg a0 i4;unfold Bf at *
 rcases hb with hb|⟨hb,hb'⟩
 ·have:=s1.1 (by omega)
  have:=s3.1 (by omega)
  omega
 ·have:=s1.2 (by omega)
  have:=s3.2 (by omega)
  have:=s2.1 (by omega)
  have:=s4.1 (by omega)
  omega
def Iy (Q:Hf->Prop)(l:Hf)(s:aF):Prop:=Q l/\(l.1≠0\/l.2.1≠0)/\bw l s=0
abbrev Ml (l:Hf)(s:aF):Prop:=Iy (oQ 300) l s
def Cn (s:aF):Prop:=∃ l m:Hf,Ml l s/\Ml m s/\l.1*m.2.1-l.2.1*m.1≠0
def A7 (Q:Hf->Prop)(p q:aF):Prop:=∃ l:Hf,Iy Q l p/\Iy Q l q
abbrev Lk (p q:aF):Prop:=A7 (oQ 300) p q
theorem IC {f:Fr}{N D:Int}{n:Nat}(hf:mT f)(hD:D≠0)(h:D*f.1=N*f.2)(zN:Sz n N)(zD:Sz n D):SzF n f:=by
 obtain⟨f0,f1⟩:=hf;have d1:f.2 ∣ D:=kh f1 ⟨N,by rw[Int.mul_comm,h,Int.mul_comm]⟩
 have d2:f.1 ∣ N:=by
  refine kh (a:=f.2) (b:=f.1) (by rw[Int.gcd_comm];exact f1) ⟨D,by rw[Int.mul_comm,<-h,Int.mul_comm]⟩
 constructor
 ·by_cases e:N=0
  ·rw[e,Int.zero_mul]at h
   rcases Int.mul_eq_zero.mp h with z|z
   ·exact absurd z hD
   ·rw[z];exact⟨Nat.two_pow_pos n⟩
  ·exact⟨Nat.lt_of_le_of_lt (Nat.le_of_dvd (by omega) (Int.natAbs_dvd_natAbs.mpr d2)) zN.lt⟩
 ·exact⟨Nat.lt_of_le_of_lt (Nat.le_of_dvd (by omega) (Int.natAbs_dvd_natAbs.mpr d1)) zD.lt⟩
theorem Nf {s:aF}(ok:bB s)(h:Cn s):fM 602 s:=by
 obtain⟨l,m,⟨zl,_,el⟩,⟨zm,_,em⟩,hD⟩:=h;rw[dY]at el em;unfold ag at el em;dsimp only at el em;have x1:0<s.1.2:=ok.1.1;have x2:0<s.2.2:=ok.2.1;have zD:Sz 602 (l.1*m.2.1-l.2.1*m.1):=(Sz.sub (Sz.mul zl.1 zm.2.1) (Sz.mul zl.2.1 zm.1)).mono (by decide)
 have zX:Sz 602 (l.2.2*m.2.1-m.2.2*l.2.1):=(Sz.sub (Sz.mul zl.2.2 zm.2.1) (Sz.mul zm.2.2 zl.2.1)).mono (by decide)
 have zY:Sz 602 (l.1*m.2.2-m.1*l.2.2):=(Sz.sub (Sz.mul zl.1 zm.2.2) (Sz.mul zm.1 zl.2.2)).mono (by decide)
 refine⟨IC ok.1 hD (N:=l.2.2*m.2.1-m.2.2*l.2.1) ?_ zX zD,IC ok.2 hD (N:=l.1*m.2.2-m.1*l.2.2) ?_ zY zD⟩
 ·refine Int.eq_of_mul_eq_mul_right (a:=s.2.2) (by omega) ?_
  grind
 ·refine Int.eq_of_mul_eq_mul_right (a:=s.1.2) (by omega) ?_
  grind
theorem vV {Q:Hf->Prop}{h l:Hf}{p q:aF}(op:bB p)(oq:bB q)(ho:iO h p q)(hp:Iy Q l p)(hq:Iy Q l q):Iy Q l (dw h p q):=by
 refine⟨hp.1,hp.2.1,?_⟩;obtain⟨_,⟨κ,α,β,k0,a0,b0,e1,e2,e3⟩,_⟩:=f7 op oq ho;have ep:=hp.2.2;have eq:=hq.2.2;rw[dY]at ep eq ⊢;generalize ag (dw h p q)=f at *;have t:κ*(l.1*f.1+l.2.1*f.2.1-l.2.2*f.2.2)=l.1*(κ*f.1)+l.2.1*(κ*f.2.1)-l.2.2*(κ*f.2.2):=by grind
 have t2:κ*(l.1*f.1+l.2.1*f.2.1-l.2.2*f.2.2)=α*(l.1*(ag p).1+l.2.1*(ag p).2.1-l.2.2*(ag p).2.2)+β*(l.1*(ag q).1+l.2.1*(ag q).2.1-l.2.2*(ag q).2.2):=by
  rw[t,e1,e2,e3];grind
 rw[ep,eq,Int.mul_zero,Int.mul_zero]at t2
 rcases Int.mul_eq_zero.mp (show κ*(l.1*f.1+l.2.1*f.2.1-l.2.2*f.2.2)=0 by omega) with z|z
 ·omega
 ·exact z
theorem Iz {h:Hf}{p q:aF}(op:bB p)(oq:bB q)(ho:iO h p q)(zh:oQ 300 h)(nh:h.1≠0\/h.2.1≠0)(hl:Lk p q):Cn (dw h p q):=by
 obtain⟨l,lp,lq⟩:=hl;refine⟨l,h,vV op oq ho lp lq,⟨zh,nh,(f7 op oq ho).2.2⟩,fun e=>?_⟩;have ep:=lp.2.2;have eq:=lq.2.2;have z1:=dJ op;have z2:=dJ oq;have ho:=cc.mp ho;rw[dY]at ep eq;rw[dY,dY]at ho;generalize ag p=u at *;generalize ag q=v at *;have n:=lp.2.1;have a1:v.2.2*(h.1*u.1+h.2.1*u.2.1-h.2.2*u.2.2)=u.2.2*(h.1*v.1+h.2.1*v.2.1-h.2.2*v.2.2):=by
  have b1:l.1*(v.2.2*(h.1*u.1+h.2.1*u.2.1-h.2.2*u.2.2)-u.2.2*(h.1*v.1+h.2.1*v.2.1-h.2.2*v.2.2))=0:=by grind
  have b2:l.2.1*(v.2.2*(h.1*u.1+h.2.1*u.2.1-h.2.2*u.2.2)-u.2.2*(h.1*v.1+h.2.1*v.2.1-h.2.2*v.2.2))=0:=by grind
  rcases n with n|n
  ·rcases Int.mul_eq_zero.mp b1 with z|z
   ·exact absurd z n
   ·omega
  ·rcases Int.mul_eq_zero.mp b2 with z|z
   ·exact absurd z n
   ·omega
 rcases ho with ⟨o1,o2⟩|⟨o1,o2⟩
 ·have:=Int.mul_pos z2 o1;have:=Int.mul_neg_of_pos_of_neg z1 o2;omega
 ·have:=Int.mul_neg_of_pos_of_neg z2 o1;have:=Int.mul_pos z1 o2;omega
theorem uG {h u v w:Hf}(nh:h.1≠0\/h.2.1≠0)(hu:h.1*u.1+h.2.1*u.2.1-h.2.2*u.2.2=0)(hv:h.1*v.1+h.2.1*v.2.1-h.2.2*v.2.2=0)(hw:h.1*w.1+h.2.1*w.2.1-h.2.2*w.2.2=0):aS u v w=0:=by
 unfold aS
 rcases nh with n|n
 ·refine(Int.mul_eq_zero.mp (show h.1*_=0 from ?_)).resolve_left n;grind
 ·refine(Int.mul_eq_zero.mp (show h.2.1*_=0 from ?_)).resolve_left n;grind
end Law
namespace Law
open L2 DL
set_option maxHeartbeats 1000000
def s0:aF:=((0,1),(0,1))
def yF (L:List aF):List (aF × aF):=(List.range L.length).map fun k=>if hk:k<L.length then (ci L k hk,L[k]) else (((0,0),(0,0)),((0,0),(0,0)))
def oO (h:Hf)(ks:List aF)(x:aF × aF):List aF:=
 if lr h x.2 then (if iO h x.1 x.2/\¬ dw h x.1 x.2∈ks then ks++[dw h x.1 x.2] else ks)++[x.2] else (if iO h x.1 x.2/\¬ dw h x.1 x.2∈ks then ks++[dw h x.1 x.2] else ks)
def gB (h:Hf)(L:List aF):List aF:=(yF L).foldl (oO h) []
def gt (L:List aF)(i:Nat):aF:=L.getD i s0
theorem bv {L:List aF}{i:Nat}(h:i<L.length):gt L i=L[i]:=by unfold gt;simp[List.getD_eq_getElem?_getD,List.getElem?_eq_getElem h]
theorem eX {L:List aF}{k:Nat}(hk:k<L.length):ci L k hk=gt L (aW L.length k):=by
 rw[bv (bM hk)];unfold ci aW
 split <;> rename_i e
 ·simp[e]
 ·simp[e]
theorem xb (L:List aF):yF L=(List.range L.length).map fun k=>(gt L (aW L.length k),gt L k):=by
 unfold yF;refine List.map_congr_left fun k hk=>?_;have hk:=List.mem_range.mp hk;rw[dif_pos hk,eX hk,bv hk]
abbrev Itm:=Nat × Bool × aF
def IK (h:Hf)(G:Nat->aF)(n i:Nat):List Itm:=(if iO h (G (aW n i)) (G i) then [(i,true,dw h (G (aW n i)) (G i))] else [])++(if lr h (G i) then [(i,false,G i)] else [])
def KI (h:Hf)(G:Nat->aF)(n m:Nat):List Itm:=(List.range m).flatMap (IK h G n)
def Is (h:Hf)(G:Nat->aF)(n:Nat)(x:Itm):Prop:=(x.2.1=true/\iO h (G (aW n x.1)) (G x.1)/\x.2.2=dw h (G (aW n x.1)) (G x.1))\/(x.2.1=false/\lr h (G x.1)/\x.2.2=G x.1)
theorem mH {h:Hf}{G:Nat->aF}{n i:Nat}{x:Itm}:x∈IK h G n i↔x.1=i/\Is h G n x:=by
 unfold IK Is;obtain⟨j,b,s⟩:=x;constructor
 ·intro hx
  rcases List.mem_append.mp hx with hx|hx
  ·split at hx
   ·rename_i ho;simp only[List.mem_singleton,Prod.mk.injEq]at hx;obtain⟨rfl,rfl,rfl⟩:=hx;exact⟨rfl,.inl ⟨rfl,ho,rfl⟩⟩
   ·cases hx
  ·split at hx
   ·rename_i hk;simp only[List.mem_singleton,Prod.mk.injEq]at hx;obtain⟨rfl,rfl,rfl⟩:=hx;exact⟨rfl,.inr ⟨rfl,hk,rfl⟩⟩
   ·cases hx
 ·rintro⟨e,hx⟩;dsimp only at e hx;subst e
  rcases hx with ⟨rfl,ho,rfl⟩|⟨rfl,hk,rfl⟩
  ·rw[if_pos ho];simp
  ·rw[if_pos hk];simp
theorem ck {h:Hf}{G:Nat->aF}{n m:Nat}{x:Itm}:x∈KI h G n m↔x.1<m/\Is h G n x:=by
 unfold KI;rw[List.mem_flatMap];constructor
 ·rintro⟨i,hi,hx⟩;obtain⟨e,h⟩:=mH.mp hx;rw[e];exact⟨List.mem_range.mp hi,h⟩
 ·rintro⟨hi,h⟩;exact⟨x.1,List.mem_range.mpr hi,mH.mpr ⟨rfl,h⟩⟩
def RI (x y:Itm):Prop:=x.1<y.1\/(x.1=y.1/\x.2.1=true/\y.2.1=false)
theorem u4 (h:Hf)(G:Nat->aF)(n m:Nat):(KI h G n m).Pairwise RI:=by
 unfold KI;rw[List.pairwise_flatMap];refine⟨fun i _=>?_,List.pairwise_lt_range.imp fun hab x hx y hy=>.inl (by rw[(mH.mp hx).1,(mH.mp hy).1];exact hab)⟩
 unfold IK
 split <;> split <;> simp[RI]
theorem xC (h:Hf)(G:Nat->aF)(n m:Nat):KI h G n (m+1)=KI h G n m++IK h G n m:=by
 unfold KI;rw[List.range_succ,List.flatMap_append];simp
section
variable {h:Hf}{G:Nat->aF}{n:Nat} (hn:3<=n) (ok:∀ i,i<n->bB (G i)) (hT:oR (fun i=>ag (G i)) n)
include hn ok hT
theorem ug {x:Itm}(hx:x.1<n)(hi:Is h G n x):bB x.2.2/\tz (ag x.2.2) (ag (G (lo n x.2.1 x.1))) (ag (G x.1))/\0<=bw h x.2.2:=by
 rcases hi with ⟨e,ho,e2⟩|⟨e,hk,e2⟩
 ·obtain⟨a,b,c⟩:=f7 (ok _ (bM hx)) (ok _ hx) ho;rw[e2,e];refine⟨a,?_,by omega⟩
  unfold lo;rw[if_pos rfl];exact b
 ·rw[e2,e];refine⟨ok _ hx,?_,bX.mp hk⟩;unfold lo;rw[if_neg (by decide)]
  exact uO _
theorem Fm:qD ((KI h G n n).map fun x=>ag x.2.2):=by
 refine AN (u4 h G n n) fun x hx y hy z hz rxy ryz=>?_;obtain⟨xn,hx⟩:=ck.mp hx;obtain⟨yn,hy⟩:=ck.mp hy;obtain⟨zn,hz⟩:=ck.mp hz;refine P2 (P:=fun i=>ag (G i)) hn hT (ug hn ok hT xn hx).2.1 (ug hn ok hT yn hy).2.1 (ug hn ok hT zn hz).2.1 zn rxy ryz ?_ ?_
 ·intro e1 e2 e3 e4
  rcases hx with ⟨_,ho,_⟩|⟨e,_⟩
  ·have y2:lr h (G y.1):=by
    rcases hy with ⟨e,_⟩|⟨_,k,_⟩
    ·rcases rxy with l|⟨_,_,l⟩
     ·omega
     ·rw[e]at l;cases l
    ·exact k
   have z2:lr h (G z.1):=by
    rcases hz with ⟨e,_⟩|⟨_,k,_⟩
    ·rw[e]at e3;cases e3
    ·exact k
   rw[<-e2]at y2;rw[e4]at z2;have:=cc.mp ho;have:=bX.mp y2;have:=bX.mp z2;omega
  ·rw[e]at e1;cases e1
 ·intro e1 e2 e3 e4
  rcases hy with ⟨_,ho,_⟩|⟨e,_⟩
  ·have x2:lr h (G x.1):=by
    rcases hx with ⟨e,_⟩|⟨_,k,_⟩
    ·rw[e]at e3;cases e3
    ·exact k
   have z2:lr h (G z.1):=by
    rcases hz with ⟨e,_⟩|⟨_,k,_⟩
    ·rcases ryz with l|⟨_,_,l⟩
     ·omega
     ·rw[e]at l;cases l
    ·exact k
   rw[e4]at x2;rw[<-e2]at z2;have:=cc.mp ho;have:=bX.mp x2;have:=bX.mp z2;omega
  ·rw[e]at e1;cases e1
theorem Fa {i j:Nat}(hi:i<n)(hj:j<n)(ho:iO h (G (aW n i)) (G i)):dw h (G (aW n i)) (G i)≠G j:=fun e=>by
 obtain⟨_,b,c⟩:=f7 (ok _ (bM hi)) (ok _ hi) ho;have o:=cc.mp ho
 by_cases h1:j=i
 ·rw[e,h1]at c;omega
 by_cases h2:j=aW n i
 ·rw[e,h2]at c;omega
 have:=cZ (P:=fun i=>ag (G i)) hT hi hj h1 h2;have z:=nT b;rw[e]at z;omega
theorem LQ {i j:Nat}(hi:i<n)(hj:j<n)(hij:i≠j)(ho:iO h (G (aW n i)) (G i))(ho':iO h (G (aW n j)) (G j)):dw h (G (aW n i)) (G i)≠dw h (G (aW n j)) (G j):=fun e=>by
 obtain⟨_,b,_⟩:=f7 (ok _ (bM hi)) (ok _ hi) ho;obtain⟨_,b',_⟩:=f7 (ok _ (bM hj)) (ok _ hj) ho';have z:=nT b;rw[e]at z;have n1:=ku (P:=fun i=>ag (G i)) hT hi hj;have n2:=ku (P:=fun i=>ag (G i)) hT hi (bM hj);have pos:0<aS (ag (G (aW n i))) (ag (G i)) (ag (dw h (G (aW n j)) (G j))):=by
  rw[<-aV];refine mI b' _ _ (by rw[aV];exact n2) (by rw[aV];exact n1) ?_
  by_cases h2:j=aW n i
  ·left
   rw[aV];have q:=fv hn hi;exact cZ (P:=fun i=>ag (G i)) hT hi (bM hj) (by rw[h2];exact q.2.1) (by rw[h2];exact q.2.2)
  ·right
   rw[aV];exact cZ (P:=fun i=>ag (G i)) hT hi hj (fun e=>hij e.symm) h2
 omega
theorem IL {x y:Itm}(xn:x.1<n)(yn:y.1<n)(hx:Is h G n x)(hy:Is h G n y)(r:RI x y):x.2.2≠y.2.2:=by
 rcases hx with ⟨ex,ox,px⟩|⟨ex,kx,px⟩
 ·rcases hy with ⟨ey,oy,py⟩|⟨ey,ky,py⟩
  ·rw[px,py];refine LQ hn ok hT xn yn ?_ ox oy
   rcases r with r|⟨_,_,r⟩
   ·omega
   ·rw[ey]at r;cases r
  ·rw[px,py];exact Fa hn ok hT xn yn ox
 ·rcases hy with ⟨ey,oy,py⟩|⟨ey,ky,py⟩
  ·rw[px,py];exact fun e=>Fa hn ok hT yn xn oy e.symm
  ·rw[px,py];have:x.1≠y.1:=by
    rcases r with r|⟨_,r,_⟩
    ·omega
    ·rw[ex]at r;cases r
   exact fun e=>IS (P:=fun i=>ag (G i)) hn hT xn yn this (congrArg ag e)
theorem mE:∀ m,m<=n->((List.range m).map fun k=>(G (aW n k),G k)).foldl (oO h) []=(KI h G n m).map (·.2.2)
 | 0,_=>rfl
 | m+1,hm=>by
  rw[List.range_succ,List.map_append,List.foldl_append,mE m (by omega),xC,List.map_append]
  show oO h _ (G (aW n m),G m)=_;unfold oO IK;dsimp only;have hnot:iO h (G (aW n m)) (G m)->¬ dw h (G (aW n m)) (G m)∈(KI h G n m).map (·.2.2):=fun ho hmem=>by
   obtain⟨y,hy,e⟩:=List.mem_map.mp hmem;obtain⟨yn,hy⟩:=ck.mp hy;exact IL hn ok hT (x:=y) (y:=(m,true,dw h (G (aW n m)) (G m))) (by omega) (show m<n by omega) hy (.inl ⟨rfl,ho,rfl⟩) (.inl yn) e
  by_cases ho:iO h (G (aW n m)) (G m)
  ·have c:iO h (G (aW n m)) (G m)/\¬ dw h (G (aW n m)) (G m)∈(KI h G n m).map (·.2.2):=⟨ho,hnot ho⟩
   by_cases hk:lr h (G m)
   ·rw[if_pos hk,if_pos c,if_pos ho,if_pos hk];simp
   ·rw[if_neg hk,if_pos c,if_pos ho,if_neg hk];simp
  ·have c:¬ (iO h (G (aW n m)) (G m)/\¬ dw h (G (aW n m)) (G m)∈(KI h G n m).map (·.2.2)):=fun z=>ho z.1
   by_cases hk:lr h (G m)
   ·rw[if_pos hk,if_neg c,if_neg ho,if_pos hk];simp
   ·rw[if_neg hk,if_neg c,if_neg ho,if_neg hk];simp
theorem NM:((KI h G n n).map (·.2.2)).Nodup:=by
 unfold List.Nodup;rw[List.pairwise_map];exact(u4 h G n n).imp_of_mem fun {x y} hx hy r=>IL hn ok hT (ck.mp hx).1 (ck.mp hy).1 (ck.mp hx).2 (ck.mp hy).2 r
theorem KN (nh:h.1≠0\/h.2.1≠0):(KI h G n n).length<=n+2:=by
 have e:=List.length_eq_countP_add_countP (fun x:Itm=>x.2.1) (l:=KI h G n n);have c1:(KI h G n n).countP (fun x:Itm=>x.2.1)<=2:=by
  rw[List.countP_eq_length_filter]
  rcases Nat.lt_or_ge 2 ((KI h G n n).filter fun x=>x.2.1).length with l|l
  ·exfalso;have hp:((KI h G n n).filter fun x=>x.2.1).Pairwise RI:=(u4 h G n n).filter _;have all:∀ x∈(KI h G n n).filter (fun x=>x.2.1),x∈KI h G n n/\bw h x.2.2=0:=fun x hx=>by
    obtain⟨h1,h2⟩:=List.mem_filter.mp hx;refine⟨h1,?_⟩;obtain⟨hx,hi⟩:=ck.mp h1
    rcases hi with ⟨_,ho,e⟩|⟨e,_⟩
    ·rw[e];exact(f7 (ok _ (bM hx)) (ok _ hx) ho).2.2
    ·rw[e]at h2;cases h2
   have T:=Fm hn ok hT (h:=h);generalize (KI h G n n).filter (fun x=>x.2.1)=C at *;have R:=List.pairwise_iff_getElem.mp hp;have r1:=R 0 1 (by omega) (by omega) (by omega)
   have r2:=R 1 2 (by omega) (by omega) (by omega)
   obtain⟨m0,z0⟩:=all C[0] (List.getElem_mem _);obtain⟨m1,z1⟩:=all C[1] (List.getElem_mem _);obtain⟨m2,z2⟩:=all C[2] (List.getElem_mem _);rw[dY]at z0 z1 z2;have zero:=uG nh z0 z1 z2;have ix:∀ {x y:Itm}{i j:Nat} (hi:i<(KI h G n n).length) (hj:j<(KI h G n n).length),(KI h G n n)[i]=x->(KI h G n n)[j]=y->RI x y->i<j:=fun {x y i j} hi hj ex ey r=>by
    rcases Nat.lt_trichotomy i j with l|l|l
    ·exact l
    ·subst l;rw[<-ex,<-ey]at r;unfold RI at r
     rcases r with r|⟨_,r1,r2⟩
     ·omega
     ·rw[r1]at r2;cases r2
    ·have:=List.pairwise_iff_getElem.mp (u4 h G n n) j i hj hi l;rw[ex,ey]at this;unfold RI at r this
     rcases r with r|⟨r,r1,r2⟩ <;> rcases this with q|⟨q,q1,q2⟩
     ·omega
     ·omega
     ·omega
     ·rw[r1]at q2;cases q2
   obtain⟨i0,h0,e0⟩:=List.getElem_of_mem m0;obtain⟨i1,h1,e1⟩:=List.getElem_of_mem m1;obtain⟨i2,h2,e2⟩:=List.getElem_of_mem m2;have:=T i0 i1 i2 (ix h0 h1 e0 e1 r1) (ix h1 h2 e1 e2 r2) (by rw[List.length_map];exact h2)
   rw[List.getElem_map,List.getElem_map,List.getElem_map,e0,e1,e2]at this;omega
  ·exact l
 have c2:(KI h G n n).countP (fun x:Itm=>¬ x.2.1=true)<=n:=by
  rw[List.countP_eq_length_filter];have hp:((KI h G n n).filter fun x=>decide (¬ x.2.1=true)).Pairwise RI:=(u4 h G n n).filter _;have all:∀ x∈(KI h G n n).filter (fun x=>decide (¬ x.2.1=true)),x.1<n/\x.2.1=false:=fun x hx=>by
   obtain⟨h1,h2⟩:=List.mem_filter.mp hx;exact⟨(ck.mp h1).1,by simpa using h2⟩
  generalize (KI h G n n).filter (fun x=>decide (¬ x.2.1=true))=C at *;have nd:(C.map (·.1)).Nodup:=by
   unfold List.Nodup;rw[List.pairwise_map];refine hp.imp_of_mem fun {x y} hx hy r=>?_
   rcases r with r|⟨_,r,_⟩
   ·omega
   ·rw[(all x hx).2]at r;cases r
  have:=List.Nodup.length_le_of_subset nd (l₂:=List.range n) (fun i hi=>by
   obtain⟨x,hx,rfl⟩:=List.mem_map.mp hi;exact List.mem_range.mpr (all x hx).1)
  rw[List.length_map,List.length_range]at this;exact this
 simp only[decide_not,Bool.decide_eq_true]at c2 e;omega
end
end Law
namespace Law
open L2 DL
set_option maxHeartbeats 1000000
theorem sd {A:List aF}(h:0<A.length):A.getLast?=some A[A.length-1]:=by
 rw[List.getLast?_eq_getElem?,List.getElem?_eq_getElem (by omega)]
theorem e7 {A:List aF}{x:aF}:(A++[x]).getLast?=some x:=by simp
theorem lN {A:List aF}{x y:aF}(h:(A++[x]).head?=some y):A.head?=some y\/(A=[]/\y=x):=by
 cases A with
 | nil=>right;exact⟨rfl,by simpa using h.symm⟩
 | cons a A=>left;simpa using h
def vw (Q:Hf->Prop)(h:Hf):Prop:=Q h/\(h.1≠0\/h.2.1≠0)
abbrev g7 (h:Hf):Prop:=vw (oQ 300) h
def Fz (Q:Hf->Prop)(A:List aF):Prop:=∀ k (h:k+1<A.length),A7 Q A[k] A[k+1]
theorem lA {Q:Hf->Prop}{A:List aF}{x:aF}(h:Fz Q A)(hl:∀ y,A.getLast?=some y->A7 Q y x):Fz Q (A++[x]):=by
 intro k hk;rw[List.length_append,List.length_singleton]at hk
 by_cases l:k+1<A.length
 ·rw[List.getElem_append_left (by omega),List.getElem_append_left l]
  exact h k l
 ·have e:k+1=A.length:=by omega
  have e2:(A++[x])[k+1]'(by simp;omega)=x:=by
   rw[List.getElem_append_right (by omega)];simp
  rw[e2,List.getElem_append_left (by omega)]
  refine hl _ ?_;rw[sd (by omega)]
  congr 2;omega
structure A8 (Q:Hf->Prop) (h:Hf) (q0 qm:aF) (A:List aF):Prop where
 adj:Fz Q A
 inn:0<=bw h qm->A.getLast?=some qm
 out:bw h qm<0->∀ x,A.getLast?=some x->bw h x=0
 hd:bw h q0<0->∀ y,A.head?=some y->bw h y=0
theorem Du {Q:Hf->Prop}{h:Hf}(hh:vw Q h){p q:aF}(hp:bw h p=0)(hq:bw h q=0):A7 Q p q:=⟨h,⟨hh.1,hh.2,hp⟩,hh.1,hh.2,hq⟩
theorem Ag {Q:Hf->Prop}{h:Hf}(hh:vw Q h){q0 p q:aF}{A:List aF}(op:bB p)(oq:bB q)(hl:A7 Q p q)(H:A8 Q h q0 p A) :
  A8 Q h q0 q (A++((if iO h p q then [dw h p q] else [])++(if lr h q then [q] else []))):=by
 by_cases ho:iO h p q
 ·obtain⟨_,_,fs⟩:=f7 op oq ho;have o:=cc.mp ho;obtain⟨l,lp,lq⟩:=hl;have ls:=vV op oq ho lp lq;have A1:Fz Q (A++[dw h p q]):=lA H.adj fun y hy=>by
   rcases o with ⟨o1,o2⟩|⟨o1,o2⟩
   ·rw[H.inn (by omega)]at hy
    cases hy
    exact⟨l,lp,ls⟩
   ·exact Du hh (H.out o1 y hy) fs
  have H1:bw h q0<0->∀ y,(A++[dw h p q]).head?=some y->bw h y=0:=fun h0 y hy=>by
   rcases lN hy with e|⟨_,e⟩
   ·exact H.hd h0 y e
   ·rw[e];exact fs
  rw[if_pos ho]
  by_cases hk:lr h q
  ·rw[if_pos hk,<-List.append_assoc];have k:=bX.mp hk;refine⟨lA A1 fun y hy=>?_,fun _=>e7,fun z=>by omega,fun h0 y hy=>?_⟩
   ·rw[e7]at hy
    cases hy
    exact⟨l,ls,lq⟩
   ·rcases lN hy with e|⟨e,_⟩
    ·exact H1 h0 y e
    ·simp at e
  ·rw[if_neg hk,List.append_nil];have k:¬ 0<=bw h q:=fun z=>hk (bX.mpr z);exact⟨A1,fun z=>absurd z k,fun _ x hx=>by rw[e7]at hx;cases hx;exact fs,H1⟩
 ·rw[if_neg ho,List.nil_append];have o:¬ ((0<bw h p/\bw h q<0)\/(bw h p<0/\0<bw h q)):=fun z=>ho (cc.mpr z)
  by_cases hk:lr h q
  ·rw[if_pos hk];have k:=bX.mp hk;refine⟨lA H.adj fun y hy=>?_,fun _=>e7,fun z=>by omega,fun h0 y hy=>?_⟩
   ·by_cases hp:0<=bw h p
    ·rw[H.inn hp]at hy
     cases hy
     exact hl
    ·exact Du hh (H.out (by omega) y hy) (by omega)
   ·rcases lN hy with e|⟨e,rfl⟩
    ·exact H.hd h0 y e
    ·by_cases hp:0<=bw h p
     ·have:=H.inn hp;rw[e]at this;cases this
     ·omega
  ·rw[if_neg hk,List.append_nil];have k:¬ 0<=bw h q:=fun z=>hk (bX.mpr z);refine⟨H.adj,fun z=>absurd z k,fun _ x hx=>?_,H.hd⟩
   by_cases hp:0<=bw h p
   ·rw[H.inn hp]at hx
    cases hx
    omega
   ·exact H.out (by omega) x hx
theorem mF {Q:Hf->Prop}{h:Hf}(hh:vw Q h){G:Nat->aF}{n:Nat}(hn:0<n)(ok:∀ i,i<n->bB (G i))(hl:∀ k,k<n->A7 Q (G (aW n k)) (G k)) :
  ∀ m,m<=n->A8 Q h (G (n-1)) (G (aW n m)) ((if 0<=bw h (G (n-1)) then [G (n-1)] else [])++(KI h G n m).map (·.2.2))
 | 0,_=>by
  have e:aW n 0=n-1:=rfl;rw[e];show A8 Q h _ _ (_++[]);rw[List.append_nil]
  by_cases z:0<=bw h (G (n-1))
  ·rw[if_pos z];exact⟨fun k hk=>by simp at hk,fun _=>rfl,fun z'=>by omega,fun z'=>by omega⟩
  ·rw[if_neg z];exact⟨fun k hk=>by simp at hk,fun z'=>absurd z' z,fun _ x hx=>(nomatch hx),fun _ y hy=>(nomatch hy)⟩
 | m+1,hm=>by
  have:=Ag hh (ok _ (bM (show m<n by omega))) (ok m (by omega)) (hl m (by omega)) (mF hh hn ok hl m (by omega))
  have e:aW n (m+1)=m:=by unfold aW;rw[if_neg (by omega)];rfl
  rw[e,xC,List.map_append,<-List.append_assoc];have e2:(IK h G n m).map (·.2.2)=(if iO h (G (aW n m)) (G m) then [dw h (G (aW n m)) (G m)] else [])++(if lr h (G m) then [G m] else []):=by
   unfold IK
   split <;> split <;> rfl
  rw[e2];exact this
theorem qV {Q:Hf->Prop}{h:Hf}(hh:vw Q h){q0:aF}{K:List aF}(H:A8 Q h q0 q0 ((if 0<=bw h q0 then [q0] else [])++K))(k:Nat)(hk:k<K.length):A7 Q (ci K k hk) K[k]:=by
 by_cases z:0<=bw h q0
 ·rw[if_pos z]at H;have a:=H.adj k (by simp;omega)
  have hlast:=H.inn z;unfold ci
  split <;> rename_i e
  ·subst e;have:K[K.length-1]=q0:=by
    rw[sd (by simp)]at hlast
    have:=Option.some.inj hlast;rw[<-this];simp only[List.singleton_append,List.length_cons,Nat.add_sub_cancel];rw[List.getElem_cons,dif_neg (by omega)]
   rw[this];simpa using a
  ·have e1:([q0]++K)[k]'(by simp;omega)=K[k-1]:=by
    simp only[List.singleton_append];rw[List.getElem_cons,dif_neg e]
   rw[e1]at a;simpa using a
 ·rw[if_neg z,List.nil_append]at H;unfold ci
  split <;> rename_i e
  ·subst e;have hl:=H.out (by omega) K[K.length-1] (sd hk)
   have hh0:=H.hd (by omega) K[0] (by rw[List.head?_eq_getElem?,List.getElem?_eq_getElem hk])
   exact Du hh hl hh0
  ·have a:=H.adj (k-1) (by omega)
   have e1:k-1+1=k:=by omega
   simp only[e1]at a;exact a
structure j9 (L:List aF):Prop where
 ok:∀ s∈L,bB s
 reg:Je (L.map ag)
 cn:∀ s∈L,Cn s
 lk:∀ k (hk:k<L.length),Lk (ci L k hk) L[k]
structure tw (h:Hf) (L K:List aF):Prop where
 ok:∀ u∈K,bB u
 nd:K.Nodup
 tri:qD (K.map ag)
 cn:∀ u∈K,Cn u
 lk:∀ k (hk:k<K.length),Lk (ci K k hk) K[k]
 len:K.length<=L.length+2
 hold:∀ u∈K,cu (L.map ag) (ag u)/\0<=bw h u
 kept:∀ s∈L,0<=bw h s->s∈K
 cross:∀ k (hk:k<L.length),iO h (ci L k hk) L[k]->dw h (ci L k hk) L[k]∈K
theorem Qy {h:Hf}{L:List aF}(hh:g7 h)(R:j9 L)(hn:3<=L.length):tw h L (gB h L):=by
 have T:=dX R.reg;have ok:∀ i,i<L.length->bB (gt L i):=fun i hi=>by rw[bv hi];exact R.ok _ (List.getElem_mem _)
 have hT:oR (fun i=>ag (gt L i)) L.length:=fun a b c h1 h2 h3=>by
  have:=T a b c h1 h2 (by rw[List.length_map];exact h3)
  rw[List.getElem_map,List.getElem_map,List.getElem_map]at this;dsimp only;rw[bv (show a<L.length by omega),bv (show b<L.length by omega),bv h3]
  exact this
 have lk:∀ k,k<L.length->Lk (gt L (aW L.length k)) (gt L k):=fun k hk=>by
  have:=R.lk k hk;rw[eX hk]at this;rw[bv hk];exact this
 have e:gB h L=(KI h (gt L) L.length L.length).map (·.2.2):=by
  unfold gB;rw[xb];exact mE hn ok hT _ (Nat.le_refl _)
 rw[e];have mem:∀ u,u∈(KI h (gt L) L.length L.length).map (·.2.2)->∃ x:Itm,x.1<L.length/\Is h (gt L) L.length x/\u=x.2.2:=fun u hu=>by
  obtain⟨x,hx,e⟩:=List.mem_map.mp hu;exact⟨x,(ck.mp hx).1,(ck.mp hx).2,e.symm⟩
 refine⟨fun u hu=>?_,NM hn ok hT,?_,fun u hu=>?_,fun k hk=>?_,?_,fun u hu=>?_,fun s hs hf=>?_,fun k hk ho=>?_⟩
 ·obtain⟨x,hx,hi,rfl⟩:=mem u hu;exact(ug hn ok hT hx hi).1
 ·have:=Fm hn ok hT (h:=h);rw[List.map_map];exact this
 ·obtain⟨x,hx,hi,rfl⟩:=mem u hu
  rcases hi with ⟨_,ho,e⟩|⟨_,_,e⟩
  ·rw[e];exact Iz (ok _ (bM hx)) (ok _ hx) ho hh.1 hh.2 (lk _ hx)
  ·rw[e,bv hx];exact R.cn _ (List.getElem_mem _)
 ·have H:=mF hh (show 0<L.length by omega) ok lk L.length (Nat.le_refl _)
  have e2:aW L.length L.length=L.length-1:=by unfold aW;rw[if_neg (by omega)]
  rw[e2]at H;exact qV hh H k hk
 ·rw[List.length_map];exact KN hn ok hT hh.2
 ·obtain⟨x,hx,hi,rfl⟩:=mem u hu;obtain⟨_,mx,f⟩:=ug hn ok hT hx hi;refine⟨⟨by rw[List.length_map];omega,fun z=>by rw[List.length_map]at z;omega,fun _ k hk=>?_⟩,f⟩
  rw[List.length_map]at hk;have hpv:ci (L.map ag) k (by rw[List.length_map];exact hk)=ag (gt L (aW L.length k)):=by
   rw[bv (bM hk)];unfold ci aW
   split <;> rename_i e
   ·simp[e]
   ·simp[e]
  rw[hpv,List.getElem_map,<-bv hk,<-aV];have lox:lo L.length x.2.1 x.1<L.length:=by
   unfold lo
   split
   ·exact bM hx
   ·exact hx
  refine sG mx _ _ ?_ ?_
  ·rw[aV];exact ku (P:=fun i=>ag (gt L i)) hT hk lox
  ·rw[aV];exact ku (P:=fun i=>ag (gt L i)) hT hk hx
 ·obtain⟨j,hj,rfl⟩:=List.getElem_of_mem hs;refine List.mem_map.mpr ⟨(j,false,L[j]),ck.mpr ⟨hj,.inr ⟨rfl,?_,?_⟩⟩,rfl⟩
  ·rw[bv hj];exact bX.mpr hf
  ·exact(bv hj).symm
 ·rw[eX hk,<-bv hk]at ho ⊢;exact List.mem_map.mpr ⟨(k,true,_),ck.mpr ⟨hk,.inl ⟨rfl,ho,rfl⟩⟩,rfl⟩
theorem Qv {h:Hf}:tw h [] (gB h []):=by
 show tw h [] [];exact⟨fun u hu=>(nomatch hu),List.nodup_nil,fun a b c _ _ h3=>(nomatch h3),fun u hu=>(nomatch hu),fun k hk=>(nomatch hk),by decide,fun u hu=>(nomatch hu),fun u hu=>(nomatch hu),fun k hk=>(nomatch hk)⟩
theorem sX {F:List Hf}(h:F.length<3):qD F:=fun a b c h1 h2 h3=>by omega
theorem yy {h:Hf}{p:aF}:¬ iO h p p:=fun z=>by have:=cc.mp z;omega
theorem xo {h:Hf}{ks:List aF}{x:aF × aF}(ho:¬ iO h x.1 x.2):oO h ks x=if lr h x.2 then ks++[x.2] else ks:=by
 have c:¬ (iO h x.1 x.2/\¬ dw h x.1 x.2∈ks):=fun z=>ho z.1;unfold oO
 by_cases hk:lr h x.2
 ·rw[if_pos hk,if_pos hk,if_neg c]
 ·rw[if_neg hk,if_neg hk,if_neg c]
theorem Qw {h:Hf}{p:aF}(R:j9 [p]):tw h [p] (gB h [p]):=by
 have hp:=R.ok p (by simp)
 have e:gB h [p]=if lr h p then [p] else []:=by
  show oO h [] (p,p)=_;rw[xo (x:=(p,p)) yy]
  rfl
 rw[e];have lkp:=R.lk 0 (by simp)
 have cross:∀ k (hk:k < [p].length) (K:List aF),iO h (ci [p] k hk) [p][k]->dw h (ci [p] k hk) [p][k]∈K:=fun k hk K ho=>by
  have:k=0:=by simp at hk;exact hk
  subst this;exact absurd ho yy
 by_cases hk:lr h p
 ·rw[if_pos hk];refine⟨fun u hu=>R.ok u hu,by simp,sX (by simp),R.cn,R.lk,by simp,fun u hu=>?_,fun s hs _=>hs,fun k hk' ho=>cross k hk' _ ho⟩
  obtain rfl:=List.mem_singleton.mp hu;exact⟨⟨by simp,fun _=>⟨nj _ _,bN.mpr (Bf.irr _),bN.mpr (Bf.irr _)⟩,fun z=>by simp at z⟩,bX.mp hk⟩
 ·rw[if_neg hk];refine⟨fun u hu=>(nomatch hu),List.nodup_nil,fun a b c _ _ h3=>(nomatch h3),fun u hu=>(nomatch hu),fun k hk=>(nomatch hk),by simp,fun u hu=>(nomatch hu),fun s hs hf=>?_,fun k hk' ho=>cross k hk' _ ho⟩
  obtain rfl:=List.mem_singleton.mp hs;exact absurd (bX.mpr hf) hk
theorem Qx {h:Hf}{p q:aF}(hh:g7 h)(R:j9 [p,q]):tw h [p,q] (gB h [p,q]):=by
 have hp:=R.ok p (by simp)
 have hq:=R.ok q (by simp)
 have hb:Bf (ag p) (ag q):=eV.mp (R.reg.fst 1 (by simp) (by decide))
 have hne:p≠q:=fun e=>by rw[e]at hb;exact Bf.irr _ hb
 have lk:Lk p q:=R.lk 1 (by simp)
 have e:gB h [p,q]=oO h (oO h [] (q,p)) (p,q):=rfl;have hpos:∀ u,tz (ag u) (ag p) (ag q)\/u=p\/u=q->cu ([p,q].map ag) (ag u):=fun u hu=>by
  refine⟨by simp,fun _=>?_,fun z=>by simp at z⟩
  show aS (ag p) (ag q) (ag u)=0/\jS (ag u) (ag p)=false/\jS (ag q) (ag u)=false;rw[bN,bN]
  rcases hu with m|rfl|rfl
  ·exact⟨nT m,KW m (dJ hp) (dJ hq) hb⟩
  ·exact⟨hZ _ _,Bf.irr _,hb.asym⟩
  ·exact⟨eW _ _,hb.asym,Bf.irr _⟩
 have prs:∀ k (hk:k < [p,q].length),(ci [p,q] k hk=q/\[p,q][k]=p)\/(ci [p,q] k hk=p/\[p,q][k]=q):=fun k hk=>by
  have:k=0\/k=1:=by simp at hk;omega
  rcases this with rfl|rfl
  ·exact .inl ⟨rfl,rfl⟩
  ·exact .inr ⟨rfl,rfl⟩
 have lkAll:∀ K:List aF,(∃ l,∀ u∈K,Ml l u)->∀ k (hk:k<K.length),Lk (ci K k hk) K[k]:=fun K ⟨l,hl⟩ k hk=>⟨l,hl _ (lR hk),hl _ (List.getElem_mem _)⟩;obtain⟨l,lp,lq⟩:=lk
 by_cases ho:iO h p q
 ·have ho':iO h q p:=cc.mpr (by have:=cc.mp ho;omega)
  obtain⟨so,sm,sf⟩:=f7 hp hq ho;have ls:=vV hp hq ho lp lq;have cs:=Iz hp hq ho hh.1 hh.2 ⟨l,lp,lq⟩;have o:=cc.mp ho;have mk:∀ x:aF,(x=p\/x=q)->0<=bw h x->(∀ s∈[p,q],0<=bw h s->s=x)->tw h [p,q] [dw h p q,x]:=fun x hx fx only=>by
   have ox:bB x:=by rcases hx with rfl|rfl;exact hp;exact hq
   have lx:Ml l x:=by rcases hx with rfl|rfl;exact lp;exact lq
   have nx:dw h p q≠x:=fun e=>by
    rw[e]at sf
    rcases hx with rfl|rfl <;> omega
   have all:∀ u∈[dw h p q,x],u=dw h p q\/u=x:=fun u hu=>by simpa using hu
   refine⟨fun u hu=>?_,?_,sX (by simp),fun u hu=>?_,lkAll _ ⟨l,fun u hu=>?_⟩,by simp,fun u hu=>?_,fun s hs hf=>?_,fun k hk _=>?_⟩
   ·rcases all u hu with rfl|rfl;exact so;exact ox
   ·simp[nx]
   ·rcases all u hu with rfl|rfl
    ·exact cs
    ·rcases hx with e|e <;> rw[e] <;> exact R.cn _ (by simp)
   ·rcases all u hu with rfl|rfl;exact ls;exact lx
   ·rcases all u hu with rfl|rfl
    ·exact⟨hpos _ (.inl sm),by omega⟩
    ·exact⟨hpos _ (.inr hx),fx⟩
   ·rw[only s hs hf];simp
   ·rcases prs k hk with ⟨e1,e2⟩|⟨e1,e2⟩
    ·rw[e1,e2,mC h q p];simp
    ·rw[e1,e2];simp
  rcases o with ⟨o1,o2⟩|⟨o1,o2⟩
  ·have e2:gB h [p,q]=[dw h p q,p]:=by
    rw[e];have s1:oO h [] (q,p)=[dw h p q,p]:=by
     unfold oO;dsimp only;rw[if_pos (bX.mpr (by omega)),if_pos (show _/\_ from⟨ho',by simp⟩),mC h q p]
     rfl
    rw[s1];unfold oO;dsimp only;rw[if_neg (fun z=>by have:=bX.mp z;omega),if_neg (fun z=>z.2 (by simp))]
   rw[e2];exact mk p (.inl rfl) (by omega) fun s hs hf=>by
    rcases List.mem_cons.mp hs with r|r
    ·exact r
    ·have:=List.mem_singleton.mp r;rw[this]at hf;omega
  ·have e2:gB h [p,q]=[dw h p q,q]:=by
    rw[e];have s1:oO h [] (q,p)=[dw h p q]:=by
     unfold oO;dsimp only;rw[if_neg (fun z=>by have:=bX.mp z;omega),if_pos (show _/\_ from⟨ho',by simp⟩),mC h q p]
     rfl
    rw[s1];unfold oO;dsimp only;rw[if_pos (bX.mpr (by omega)),if_neg (fun z=>z.2 (by simp))]
    rfl
   rw[e2];exact mk q (.inr rfl) (by omega) fun s hs hf=>by
    rcases List.mem_cons.mp hs with r|r
    ·rw[r]at hf;omega
    ·exact List.mem_singleton.mp r
 ·have ho':¬ iO h q p:=fun z=>ho (cc.mpr (by have:=cc.mp z;omega))
  have e2:gB h [p,q]=[p,q].filter fun s=>decide (lr h s):=by
   rw[e];rw[xo (x:=(q,p)) ho',xo (x:=(p,q)) ho];dsimp only
   by_cases a:lr h p <;> by_cases b:lr h q <;> simp[a,b]
  rw[e2];have sub:∀ u∈[p,q].filter (fun s=>decide (lr h s)),u∈[p,q]/\lr h u:=fun u hu=>by
   obtain⟨a,b⟩:=List.mem_filter.mp hu;exact⟨a,of_decide_eq_true b⟩
  have hlen:([p,q].filter fun s=>decide (lr h s)).length<=2:=List.length_filter_le _ [p,q];refine⟨fun u hu=>R.ok u (sub u hu).1,?_,sX (by rw[List.length_map];omega),fun u hu=>R.cn u (sub u hu).1,lkAll _ ⟨l,fun u hu=>?_⟩,by simp only[List.length_cons,List.length_nil];omega,fun u hu=>⟨hpos u ?_,bX.mp (sub u hu).2⟩,fun s hs hf=>List.mem_filter.mpr ⟨hs,decide_eq_true (bX.mpr hf)⟩,fun k hk hx=>?_⟩
  ·have:[p,q].Nodup:=by simp[hne]
   exact this.filter _
  ·rcases List.mem_cons.mp (sub u hu).1 with r|r
   ·rw[r];exact lp
   ·rw[List.mem_singleton.mp r];exact lq
  ·rcases List.mem_cons.mp (sub u hu).1 with r|r
   ·exact .inr (.inl r)
   ·exact .inr (.inr (List.mem_singleton.mp r))
  ·rcases prs k hk with ⟨e1,e2⟩|⟨e1,e2⟩
   ·rw[e1,e2]at hx;exact absurd hx ho'
   ·rw[e1,e2]at hx;exact absurd hx ho
theorem xN {h:Hf}{L:List aF}(hh:g7 h)(R:j9 L):tw h L (gB h L):=by
 match L,R with
 | [],_=>exact Qv
 | [p],R=>exact Qw R
 | [p,q],R=>exact Qx hh R
 | p::q::r::l,R=>exact Qy hh R (by simp)
end Law
namespace Law
open L2 DL
set_option maxHeartbeats 1000000
def uP (L:List aF)(m:Nat):Nat:=(List.range m).foldl (fun f k=>if sD (gt L k) (gt L f)=true then k else f) 0
def Kw (L:List aF):List aF:=L.drop (uP L L.length)++L.take (uP L L.length)
theorem uQ (L:List aF)(m:Nat):uP L (m+1)=if sD (gt L m) (gt L (uP L m))=true then m else uP L m:=by
 unfold uP;rw[List.range_succ,List.foldl_append]
 rfl
theorem lQ {L:List aF}(ok:∀ s∈L,bB s)(h0:0<L.length):∀ m,m<=L.length->uP L m<L.length/\∀ j,j<m->¬ Bf (ag (gt L j)) (ag (gt L (uP L m)))
 | 0,_=>⟨h0,fun j hj=>by walk_at "o"⟩
 | m+1,hm=>by
  obtain⟨i1,i2⟩:=lQ ok h0 m (by walk_at "o")
  have og:∀ i,i<L.length->bB (gt L i):=fun i hi=>by rw[bv hi];exact ok _ (List.getElem_mem _)
  rw[uQ,nQ (og m (by walk_at "o")) (og _ i1)]
  split
  ·rename_i hb;rw[eV]at hb;refine⟨by walk_at "o",fun j hj=>?_⟩
   by_cases e:j=m
   ·rw[e];exact Bf.irr _
   ·exact fun z=>i2 j (by walk_at "o") (Bf.trans (dJ (og j (by walk_at "o"))) (dJ (og m (by walk_at "o"))) (dJ (og _ i1)) z hb)
  ·rename_i hb;rw[eV]at hb;refine⟨i1,fun j hj=>?_⟩
   by_cases e:j=m
   ·rw[e];exact hb
   ·exact i2 j (by walk_at "o")
def oe (n m i:Nat):Nat:=if i<n-m then m+i else i-(n-m)
theorem jZ {n m i:Nat} (hm:m<n) (hi:i<n):oe n m i<n:=by unfold oe;split <;> walk_at "o"
theorem kO {α:Type}(K:List α){m:Nat}(hm:m<=K.length):(K.drop m++K.take m).length=K.length:=by
 rw[List.length_append,List.length_drop,List.length_take];walk_at "o"
theorem dZ {α:Type}{K:List α}{m i:Nat} (hm:m<K.length) (hi:i<K.length):(K.drop m++K.take m)[i]'(by rw[kO K (by walk_at "o")];exact hi)=K[oe K.length m i]'(jZ hm hi):=by
 unfold oe
 split
 ·rename_i h;rw[List.getElem_append_left (by rw[List.length_drop];exact h),List.getElem_drop]
 ·rename_i h;rw[List.getElem_append_right (by rw[List.length_drop];walk_at "o"),List.getElem_take]
  simp only[List.length_drop]
theorem sQ {α:Type}{K:List α}{m:Nat}{u:α}:u∈K.drop m++K.take m↔u∈K:=by
 rw[List.mem_append,Or.comm,<-List.mem_append,List.take_append_drop]
theorem xf {α:Type}{K:List α}{m i:Nat} (hm:m<K.length) (hi:i<K.length):ci (K.drop m++K.take m) i (by rw[kO K (by walk_at "o")];exact hi)=ci K (oe K.length m i) (jZ hm hi):=by
 have hl:=kO K (m:=m) (by walk_at "o")
 unfold ci
 by_cases e:i=0
 ·rw[dif_pos e];have hl1:(K.drop m++K.take m).length-1=K.length-1:=by rw[hl]
  simp only[hl1];rw[dZ hm (by walk_at "o")]
  subst e;have r0:oe K.length m 0=m:=by unfold oe;rw[if_pos (by walk_at "o")];rfl
  by_cases m0:m=0
  ·rw[dif_pos (by rw[r0];exact m0)]
   congr 1
   unfold oe;rw[if_pos (by walk_at "o")];walk_at "o"
  ·rw[dif_neg (by rw[r0];exact m0)]
   congr 1
   rw[r0];unfold oe;rw[if_neg (by walk_at "o")];walk_at "o"
 ·rw[dif_neg e,dZ hm (by walk_at "o")]
  by_cases z:oe K.length m i=0
  ·rw[dif_pos z]
   congr 1
   unfold oe at z ⊢
   split at z
   ·walk_at "o"
   ·rw[if_pos (by walk_at "o")];walk_at "o"
  ·rw[dif_neg z]
   congr 1
   unfold oe at z ⊢
   split at z
   ·rw[if_pos (by walk_at "o"),if_pos (by walk_at "o")];walk_at "o"
   ·rename_i c;rw[if_neg (by walk_at "o"),if_neg c];walk_at "o"
theorem Ij {F:List Hf}{m:Nat}(hm:m<F.length)(T:qD F):qD (F.drop m++F.take m):=by
 intro a b c h1 h2 h3;rw[kO F (by walk_at "o")]at h3
 rw[dZ hm (by walk_at "o"),dZ hm (by walk_at "o"),dZ hm h3]
 unfold oe
 by_cases hc:c<F.length-m
 ·simp only[if_pos hc,if_pos (show b<F.length-m by walk_at "o"),if_pos (show a<F.length-m by walk_at "o")]
  exact T _ _ _ (by walk_at "o") (by walk_at "o") _
 ·by_cases hb:b<F.length-m
  ·simp only[if_neg hc,if_pos hb,if_pos (show a<F.length-m by walk_at "o")]
   rw[<-aV];exact T _ _ _ (by walk_at "o") (by walk_at "o") _
  ·by_cases ha:a<F.length-m
   ·simp only[if_neg hc,if_neg hb,if_pos ha];rw[aV];exact T _ _ _ (by walk_at "o") (by walk_at "o") _
   ·simp only[if_neg hc,if_neg hb,if_neg ha];exact T _ _ _ (by walk_at "o") (by walk_at "o") _
theorem E3 {h:Hf}{L K:List aF}(C:tw h L K):j9 (Kw K)/\(∀ u,u∈Kw K↔u∈K)/\(Kw K).length=K.length:=by
 by_cases h0:K.length=0
 ·have e:K=[]:=List.length_eq_zero_iff.mp h0;subst e;exact⟨⟨fun u hu=>(nomatch hu),⟨fun k hk=>(nomatch hk),fun h=>(nomatch h)⟩,fun u hu=>(nomatch hu),fun k hk=>(nomatch hk)⟩,fun u=>Iff.rfl,rfl⟩
 have hp:0<K.length:=by walk_at "o"
 obtain⟨hm,hmin⟩:=lQ C.ok hp K.length (Nat.le_refl _);unfold Kw;generalize uP K K.length=m at hm hmin;have hl:=kO K (m:=m) (by walk_at "o")
 have em:(K.drop m++K.take m).map ag=(K.map ag).drop m++(K.map ag).take m:=by rw[List.map_append,List.map_drop,List.map_take]
 have T:qD ((K.drop m++K.take m).map ag):=by
  rw[em];exact Ij (by rw[List.length_map];exact hm) C.tri
 refine⟨⟨fun u hu=>C.ok u (sQ.mp hu),⟨fun k hk hk0=>?_,fun h2 k hk v hv h1 h3=>xc T h2 k hk v hv h1 h3⟩,fun u hu=>C.cn u (sQ.mp hu),fun k hk=>?_⟩,fun u=>sQ,hl⟩
 ·rw[List.length_map,hl]at hk;rw[List.getElem_map,List.getElem_map,dZ hm hp,dZ hm hk,eV];have r0:oe K.length m 0=m:=by unfold oe;rw[if_pos (by walk_at "o")];rfl
  have hr:=jZ hm hk;have rk:oe K.length m k≠m:=by unfold oe;split <;> walk_at "o"
  simp only[r0];have a:=hmin _ hr;rw[bv hr,bv hm]at a;have ne:K[m]≠K[oe K.length m k]:=fun e=>by
   rcases Nat.lt_trichotomy m (oe K.length m k) with l|l|l
   ·exact List.pairwise_iff_getElem.mp C.nd _ _ hm hr l e
   ·exact rk l.symm
   ·exact List.pairwise_iff_getElem.mp C.nd _ _ hr hm l e.symm
  exact(JW (C.ok _ (List.getElem_mem _)) (C.ok _ (List.getElem_mem _)) ne).resolve_right a
 ·have hk':k<K.length:=by rw[hl]at hk;exact hk
  rw[xf hm hk',dZ hm hk'];exact C.lk _ _
def hV (h:Hf)(L:List aF):List aF:=Kw (gB h L)
structure Qo (h:Hf) (L K:List aF):Prop where
 reg:j9 K
 len:K.length<=L.length+2
 hold:∀ u∈K,cu (L.map ag) (ag u)/\0<=bw h u
 kept:∀ s∈L,0<=bw h s->s∈K
 cross:∀ k (hk:k<L.length),iO h (ci L k hk) L[k]->dw h (ci L k hk) L[k]∈K
theorem qQ {h:Hf}{L:List aF}(hh:g7 h)(R:j9 L):Qo h L (hV h L):=by
 have C:=xN hh R;obtain⟨a,b,c⟩:=E3 C;exact⟨a,by unfold hV;rw[c];exact C.len,fun u hu=>C.hold u ((b u).mp hu),fun s hs hf=>(b s).mpr (C.kept s hs hf),fun k hk ho=>(b _).mpr (C.cross k hk ho)⟩
theorem Bw {q u x:Hf}(hq:tz q u u):(Bf q x↔Bf u x)/\(Bf x q↔Bf x u):=by
 obtain⟨κ,α,β,k0,a0,b0,e1,e2,e3⟩:=hq;have c0:0<α+β:=by walk_at "o"
 have f1:κ*q.1=(α+β)*u.1:=by rw[e1];grind
 have f2:κ*q.2.1=(α+β)*u.2.1:=by rw[e2];grind
 have f3:κ*q.2.2=(α+β)*u.2.2:=by rw[e3];grind
 generalize α+β=c at c0 f1 f2 f3;have i1:κ*(q.1*x.2.2-x.1*q.2.2)=c*(u.1*x.2.2-x.1*u.2.2):=by
  have t:κ*(q.1*x.2.2-x.1*q.2.2)=κ*q.1*x.2.2-x.1*(κ*q.2.2):=by grind
  rw[t,f1,f3];grind
 have i2:κ*(q.2.1*x.2.2-x.2.1*q.2.2)=c*(u.2.1*x.2.2-x.2.1*u.2.2):=by
  have t:κ*(q.2.1*x.2.2-x.2.1*q.2.2)=κ*q.2.1*x.2.2-x.2.1*(κ*q.2.2):=by grind
  rw[t,f2,f3];grind
 have sg:∀ {d e:Int},κ*d=c*e->(0<d↔0<e)/\(d<0↔e<0):=fun {d e} h=>by
  constructor
  ·exact⟨fun z=>dk c0 (by rw[<-h];exact Int.mul_pos k0 z),fun z=>dk k0 (by rw[h];exact Int.mul_pos c0 z)⟩
  ·constructor
   ·intro z;have:=dk (κ:=c) (x:=-e) c0 (by rw[Int.mul_neg,<-h];have:=Int.mul_neg_of_pos_of_neg k0 z;walk_at "o")
    walk_at "o"
   ·intro z;have:=dk (κ:=κ) (x:=-d) k0 (by rw[Int.mul_neg,h];have:=Int.mul_neg_of_pos_of_neg c0 z;walk_at "o")
    walk_at "o"
 have s1:=sg i1;have s2:=sg i2;unfold Bf;generalize q.1*x.2.2=A1 at *;generalize x.1*q.2.2=A2 at *;generalize u.1*x.2.2=A3 at *;generalize x.1*u.2.2=A4 at *;generalize q.2.1*x.2.2=B1 at *;generalize x.2.1*q.2.2=B2 at *;generalize u.2.1*x.2.2=B3 at *;generalize x.2.1*u.2.2=B4 at *;constructor <;> constructor <;> intro z <;> walk_at "o"
theorem v9 {q u:Hf}(hq:tz q u u)(v w:Hf):(0<=aS v w u->0<=aS v w q)/\(aS v w u=0->aS v w q=0):=by
 refine⟨fun h=>?_,fun h=>?_⟩
 ·rw[<-aV];exact sG hq v w (by rw[aV];exact h) (by rw[aV];exact h)
 ·obtain⟨κ,α,β,k0,a0,b0,e1,e2,e3⟩:=hq;have e:=sF e1 e2 e3 v w;rw[aV q v w,aV u v w,h,Int.mul_zero,Int.mul_zero]at e
  rcases Int.mul_eq_zero.mp (show κ*aS v w q=0 by walk_at "o") with z | z
  ·walk_at "o"
  ·exact z
theorem z5 {L:List aF}(R:j9 L){s:aF}(hs:s∈L){q:Hf}(hq:tz q (ag s) (ag s)):cu (L.map ag) q:=by
 obtain⟨j,hj,rfl⟩:=List.getElem_of_mem hs;have hl:(L.map ag).length=L.length:=List.length_map ..;have hmem:ag L[j]∈L.map ag:=List.mem_map.mpr ⟨_,List.getElem_mem hj,rfl⟩;refine⟨by walk_at "o",fun h3=>?_,fun h3 k hk=>(v9 hq _ _).1 ?_⟩
 ·rw[hl]at h3;rw[bN,bN,(Bw hq).1,(Bw hq).2];have el:(L.map ag)[(L.map ag).length-1]'(by walk_at "o")=ag L[L.length-1]:=by
   rw[List.getElem_map];congr 2;walk_at "o"
  rw[el,List.getElem_map];have z:j=0\/j=L.length-1:=by walk_at "o"
  have ord:L.length=2->Bf (ag L[0]) (ag L[L.length-1]):=fun e=>by
   have:=R.reg.fst 1 (by rw[hl];walk_at "o") (by decide)
   rw[List.getElem_map,List.getElem_map,eV]at this;have e1:L.length-1=1:=by walk_at "o"
   simp only[e1];exact this
  rcases z with z|z
  ·subst z;refine⟨(v9 hq _ _).2 (hZ _ _),Bf.irr _,?_⟩
   by_cases e:L.length=2
   ·exact(ord e).asym
   ·have e1:L.length-1=0:=by walk_at "o"
    simp only[e1];exact Bf.irr _
  ·subst z;refine⟨(v9 hq _ _).2 (eW _ _),?_,Bf.irr _⟩
   by_cases e:L.length=2
   ·exact(ord e).asym
   ·have e1:L.length-1=0:=by walk_at "o"
    simp only[e1];exact Bf.irr _
 ·by_cases e1:ag L[j]=(L.map ag)[k]
  ·rw[e1,eW];exact Int.le_refl _
  ·by_cases e2:ag L[j]=ci (L.map ag) k hk
   ·rw[e2,hZ];exact Int.le_refl _
   ·exact Int.le_of_lt (R.reg.trn (by walk_at "o") k hk _ hmem e1 e2)
def a7 (h u:Hf):Int:=h.1*u.1+h.2.1*u.2.1-h.2.2*u.2.2
theorem cB (h:Hf)(s:aF):a7 h (ag s)=bw h s:=(dY h s).symm
theorem Fi (p:Pt):bB (gp p):=⟨⟨by show(0:Int)<1;decide,by show Int.gcd p.1 1=1;simp⟩,by show(0:Int)<1;decide,by show Int.gcd p.2 1=1;simp⟩
theorem sU {n:Nat} (h:1<=n):Sz n 1:=⟨by show 1<2 ^ n;exact Nat.one_lt_two_pow (by walk_at "o")⟩
theorem sV {n:Nat}:Sz n 0:=⟨Nat.two_pow_pos n⟩
end Law
namespace Law
open L2 DL
set_option maxHeartbeats 4000000
theorem iq {α:Type}(f:α->T){L:List α}{k:Nat}(hk:k<L.length):atI (L.map f) (k:Int)=some (f L[k]):=dC (by rw[List.getElem?_map,List.getElem?_eq_getElem hk];rfl)
theorem yd {α:Type}(f:α->T){L:List α}(h:0<L.length):atI (L.map f) (-1)=some (f L[L.length-1]):=by
 have e:pz (L.map f).length (-1)=some (L.length-1):=by
  unfold pz;rw[List.length_map,if_neg (by decide),if_pos (by omega)]
  congr 1;omega
 unfold atI;rw[e];show(L.map f)[L.length-1]?=_;rw[List.getElem?_map,List.getElem?_eq_getElem (by omega)];rfl
theorem rY {α:Type}(f:α->T){L:List α}{k:Nat}(hk:k<L.length):atI (L.map f) ((k:Int)-1)=some (f (ci L k hk)):=by
 unfold ci
 by_cases h0:k=0
 ·subst h0;rw[dif_pos rfl];exact yd f hk
 ·rw[dif_neg h0];have:(k:Int)-1=((k-1:Nat):Int):=by omega
  rw[this];exact iq f (by omega)
theorem bP {n m:Nat}{s:aF}(h:fM n s)(l:n<=m):fM m s:=⟨⟨h.1.1.mono l,h.1.2.mono l⟩,h.2.1.mono l,h.2.2.mono l⟩
def N4 (q:aF × aF):T:=.tup [spT q.1,spT q.2]
theorem u5 (k n:Nat):cR (k:Int) (n+1)=.int k::cR ((k+1:Nat):Int) n:=by
 unfold cR;rw[List.range_succ_eq_map,List.map_cons,List.map_map]
 congr 1
 ·simp;intro a _;omega
theorem re {g:WG}{wb:WS}{D:gu}{δ:aT}(I:Nat->aT->Prop)(n:Nat)(h0:I 0 δ)(hend:∀ δ,I n δ->D.nx δ)
  (hstep:∀ k,k<n->∀ δ,I k δ->g (.int (k:Int)) δ fun δ1=>wb {nx:=I (k+1),rt:=D.rt,bk:=D.nx,ct:=I (k+1)} δ1):wm g wb (cR 0 n) D δ:=by
 refine⟨fun ts δ=>∃ k j:Nat,ts=cR (k:Int) j/\k+j=n/\I k δ,⟨0,n,rfl,by omega,h0⟩,?_,?_⟩
 ·rintro δ ⟨k,j,e,hk,h⟩
  cases j with
  | zero=>exact hend δ (by rw[Nat.add_zero]at hk;rw[<-hk];exact h)
  | succ j=>rw[u5]at e;cases e
 ·rintro x r δ ⟨k,j,e,hk,h⟩
  cases j with
  | zero=>cases e
  | succ j=>
   rw[u5]at e;obtain⟨rfl,rfl⟩:=List.cons.inj e;have q:=hstep k (by omega) δ h
   have z:I (k+1)=fun δ=>∃ k' j':Nat,cR ((k+1:Nat):Int) j=cR (k':Int) j'/\k'+j'=n/\I k' δ:=by
    funext δ'
    refine propext ⟨fun hi=>⟨k+1,j,rfl,by omega,hi⟩,?_⟩
    rintro⟨k',j',e',hk',hi⟩;have:=congrArg List.length e';rw[kE,kE]at this;have:k'=k+1:=by omega
    rw[<-this];exact hi
   show g _ δ fun δ1=>wb {nx:=fun δ=>∃ k' j':Nat,cR ((k+1:Nat):Int) j=cR (k':Int) j'/\k'+j'=n/\I k' δ,rt:=D.rt,bk:=D.nx,ct:=fun δ=>∃ k' j':Nat,cR ((k+1:Nat):Int) j=cR (k':Int) j'/\k'+j'=n/\I k' δ} δ1;rw[<-z];exact q
def gT:aX:=fun ss R=>∃ p q:aF,ss=[.t (spT p),.t (spT q)]/\fM 20000 p/\fM 20000 q/\R (.t (.bl (sD p q)))
def jh:aX:=fun ss R=>∃ L:List aF,ss=[.t (.lst (L.map spT))]/\L.length<=200/\R (.ol ((yF L).map N4))
def c8:aX:=fun ss R=>∃ L:List aF,ss=[.t (.lst (L.map spT))]/\L.length<=400/\(∀ p∈L,bB p/\fM 20000 p)/\R (.ol ((Kw L).map spT))
def gU:aX:=fun ss R=>∃ (p q:Fr) (a b:Int),ss=[.t (zS p),.t (.int a),.t (zS q),.t (.int b)]/\SzF 700 p/\SzF 700 q/\Sz 3200 a/\Sz 3200 b/\0<a/\0<b/\0<p.2/\0<q.2/\R (.t (zS (IN p q a b)))
def eO:aX:=fun ss R=>∃ (h:Hf) (p q:aF),ss=[.t (cE h),.t (spT p),.t (spT q)]/\oQ 300 h/\fM 700 p/\fM 700 q/\bB p/\bB q/\bw h p≠0/\bw h q≠0/\R (.t (spT (dw h p q)))
def fF:aX:=fun ss R=>∃ (L:List aF) (h:Hf),ss=[.t (.lst (L.map spT)),.t (cE h)]/\L.length<=180/\(∀ p∈L,bB p/\fM 700 p)/\oQ 300 h/\R (.ol ((hV h L).map spT))
def li:WS:=
 (aH (eZ (wB (qu (am aL (ae 0) (wC (.int 0))) (am aL (ae 1) (wC (.int 0))))) (bu (aD gR (af (am aL (ae 0) (wC (.int 1))) (af (am aL (ae 1) (wC (.int 1))) av)))) aY)
 (bu (aD gR (af (am aL (ae 0) (wC (.int 0))) (af (am aL (ae 1) (wC (.int 0))) av)))))
def mS:WS:=
 (bu (iJ 1 [0] (fL (af (eU cD (af (ae 0) av)) av)) (aU 0) vh (eR (af (am aL (ae 1) (cN (ae 0) (wC (.int 1)))) (af (am aL (ae 1) (ae 0)) av)))))
def fb:WS:=
 (aH (aN 1 (wC (.int 0)))
 (bH (fJ (fL (af (eU cD (af (ae 0) av)) av)) (aU 2) (eZ (wB (aD gT (af (am aL (ae 0) (ae 2)) (af (am aL (ae 0) (ae 1)) av)))) (aN 1 (ae 2)) aY))
 (bu (am zQ (j5 (ae 0) (oE (ae 1)) j4) (j5 (ae 0) j4 (oE (ae 1)))))))
def mQ:WS:=
 (aH (aN 4 (cV (bj (bj (am aL (ae 0) (wC (.int 0))) (am aL (ae 2) (wC (.int 1)))) (ae 1)) (bj (bj (am aL (ae 2) (wC (.int 0))) (am aL (ae 0) (wC (.int 1)))) (ae 3))))
 (bu (aD jg (af (ae 4) (af (bj (bj (am aL (ae 0) (wC (.int 1))) (am aL (ae 2) (wC (.int 1)))) (cV (ae 1) (ae 3))) av)))))
def iE:WS:=
 (aH (aN 3 (bj (eU o7 (af (aD cw (af (ae 0) (af (ae 2) av))) av)) (aD bZ (af (ae 1) av))))
 (aH (aN 4 (bj (eU o7 (af (aD cw (af (ae 0) (af (ae 1) av))) av)) (aD bZ (af (ae 2) av))))
 (aH (aN 5 (aD gU (af (am aL (ae 1) (wC (.int 0))) (af (ae 3) (af (am aL (ae 2) (wC (.int 0))) (af (ae 4) av))))))
 (aH (aN 6 (aD gU (af (am aL (ae 1) (wC (.int 1))) (af (ae 3) (af (am aL (ae 2) (wC (.int 1))) (af (ae 4) av))))))
 (bu (eR (af (ae 5) (af (ae 6) av))))))))
def jv:WS:=
 (aH (aN 2 (jj av))
 (bH (fJ (b9 (aD jh (af (ae 0) av))) (aU 3) (bH (eZ (wB (ve (bj (aD iB (af (ae 1) (af (am aL (ae 3) (wC (.int 0))) av))) (aD iB (af (ae 1) (af (am aL (ae 3) (wC (.int 1))) av)))) (wC (.int 0)))) (aH (aN 4 (aD eO (af (ae 1) (af (am aL (ae 3) (wC (.int 0))) (af (am aL (ae 3) (wC (.int 1))) av)))))
 (eZ (wB (Fp (ae 4) (ae 2))) (e9 2 (ae 4)) aY)) aY)
 (eZ (wB (Me (aD iB (af (ae 1) (af (am aL (ae 3) (wC (.int 1))) av))) (wC (.int 0)))) (e9 2 (am aL (ae 3) (wC (.int 1)))) aY)))
 (bu (aD c8 (af (ae 2) av)))))
theorem wD:∀ ss R,gT ss R->ss.length=2:=by rintro ss R ⟨a,b,rfl,_⟩;rfl
theorem Ad:∀ ss R,jh ss R->ss.length=1:=by rintro ss R ⟨a,rfl,_⟩;rfl
theorem nL:∀ ss R,c8 ss R->ss.length=1:=by rintro ss R ⟨a,rfl,_⟩;rfl
theorem Ab:∀ ss R,gU ss R->ss.length=4:=by rintro ss R ⟨a,b,c,d,rfl,_⟩;rfl
theorem si:∀ ss R,eO ss R->ss.length=3:=by rintro ss R ⟨a,b,c,rfl,_⟩;rfl
theorem uv:∀ ss R,fF ss R->ss.length=2:=by rintro ss R ⟨a,b,rfl,_⟩;rfl
theorem Ao:∀ ss R,gT ss R->li {nx:=fun _=>R (.t .non),rt:=R} (aJ ["one","other"] ss):=by
 rintro ss R ⟨⟨⟨x0,x1⟩,y0,y1⟩,⟨⟨u0,u1⟩,v0,v1⟩,rfl,⟨⟨z1,z2⟩,z3,z4⟩,⟨⟨s1,s2⟩,s3,s4⟩,h⟩;dsimp only at z1 z2 z3 z4 s1 s2 s3 s4;show li _ [some (.t (.tup [.tup [.int x0,.int x1],.tup [.int y0,.int y1]])),some (.t (.tup [.tup [.int u0,.int u1],.tup [.int v0,.int v1]]))]
 delta li
 unfold sD at h;walk_at "dl"
 by_cases e:x0=u0/\x1=u1
 ·rw[if_pos (by simpa using e)]
  rw[if_pos (by rw[e.1,e.2])]at h
  exact⟨(y0,y1),(v0,v1),rfl,⟨z3.mono (by decide),z4.mono (by decide)⟩,⟨s3.mono (by decide),s4.mono (by decide)⟩,h⟩
 ·rw[if_neg (by simpa using e)]
  rw[if_neg (fun z=>e ⟨congrArg Prod.fst z,congrArg Prod.snd z⟩)]at h;exact⟨(x0,x1),(u0,u1),rfl,⟨z1.mono (by decide),z2.mono (by decide)⟩,⟨s1.mono (by decide),s2.mono (by decide)⟩,h⟩
theorem EG:∀ ss R,jh ss R->mS {nx:=fun _=>R (.t .non),rt:=R} (aJ ["region"] ss):=by
 rintro ss R ⟨L,rfl,hl,h⟩;show mS _ [some (.t (.lst (L.map spT)))]
 delta mS
 walk_at "dl";refine⟨kN (by omega) (by rw[List.length_map];omega),?_⟩
 rw[List.length_map,Int.toNat_natCast]
 let pr:Nat->aF × aF:=fun k=>if hk:k<L.length then (ci L k hk,L[k]) else (((0,0),(0,0)),((0,0),(0,0)))
 refine nc (f:=fun k:Nat=>.int (0+(k:Int))) (h:=fun k=>N4 (pr k)) (l:=List.range L.length) (fun δ=>∃ r,δ=[r,some (.t (.lst (L.map spT)))]) (fun k _=>rfl) (by rw[List.length_range];omega) ⟨_,rfl⟩ ?_ ?_
 ·rintro k hk δ ⟨r,rfl⟩ Y hY;have hk:=List.mem_range.mp hk;have e:pr k=(ci L k hk,L[k]):=dif_pos hk;rw[Int.zero_add];walk_at "dl";rw[cF (rY spT hk)];walk_at "dl";rw[cF (iq spT hk)];rw[e]at hY;exact hY _ ⟨_,rfl⟩
 ·have e:(List.range L.length).map (fun k=>N4 (pr k))=(yF L).map N4:=by unfold yF;rw[List.map_map];rfl
  rw[e];exact h
theorem pE:∀ ss R,c8 ss R->fb {nx:=fun _=>R (.t .non),rt:=R} (aJ ["corners","first","place"] ss):=by
 rintro ss R ⟨L,rfl,hl,hz,h⟩;show fb _ [some (.t (.lst (L.map spT))),none,none]
 delta fb
 walk_at "dl"
 let I:Nat->aT->Prop:=fun k δ=>∃ r:Option S,δ=[some (.t (.lst (L.map spT))),some (.t (.int (uP L k))),r]
 refine⟨I L.length,?_,?_⟩
 ·walk_at "dl";refine⟨kN (by omega) (by rw[List.length_map];omega),?_⟩
  rw[List.length_map,Int.toNat_natCast];refine re I L.length ⟨_,rfl⟩ (fun δ h=>h) ?_;rintro k hk δ ⟨r,rfl⟩;obtain⟨hf1,_⟩:=lQ (fun p hp=>(hz p hp).1) (show 0<L.length by omega) k (by omega)
  walk_at "dl";rw[cF (iq spT hk)];walk_at "dl";rw[cF (iq spT hf1)];walk_at "dl";refine⟨L[k],L[uP L k],rfl,(hz _ (List.getElem_mem _)).2,(hz _ (List.getElem_mem _)).2,?_⟩;have e:=uQ L k;rw[bv hk,bv hf1]at e;walk_at "dl"
  split
  ·rename_i c;rw[if_pos c]at e;exact⟨_,by rw[e]⟩
  ·rename_i c;rw[if_neg c]at e;exact⟨_,by rw[e]⟩
 ·rintro δ ⟨r,rfl⟩;walk_at "dl";have hfl:uP L L.length<=L.length:=by
   by_cases e:0<L.length
   ·exact Nat.le_of_lt (lQ (fun p hp=>(hz p hp).1) e L.length (Nat.le_refl _)).1
   ·have:L=[]:=List.length_eq_zero_iff.mp (by omega)
    subst this;exact Nat.le_refl _
  unfold Kw at h;generalize uP L L.length=f at h hfl;have c1:iS (L.map spT) (some (f:Int)) none=(L.drop f).map spT:=by
   unfold iS;rw[HT.sIx_nat,HT.sIx_none,List.length_map,Nat.min_eq_left hfl,<-List.map_drop,<-List.map_take];rw[List.take_of_length_le (by rw[List.length_drop];omega)]
  have c2:iS (L.map spT) none (some (f:Int))=(L.take f).map spT:=by
   unfold iS;rw[HT.sIx_nat,HT.sIx_none,List.length_map,Nat.min_eq_left hfl,List.drop_zero,Nat.sub_zero,<-List.map_take]
  rw[c1,c2,<-List.map_append];exact⟨by simp only[List.length_map,List.length_drop,List.length_take];omega,h⟩
theorem DA {p q:Fr}{a b:Int}(zp:SzF 700 p)(zq:SzF 700 q)(za:Sz 3200 a)(zb:Sz 3200 b):Sz 5000 (p.1*q.2*a+q.1*p.2*b)/\Sz 5000 (p.2*q.2*(a+b))/\SzF 5000 (IN p q a b):=by
 have st:Sz 5000 (p.1*q.2*a+q.1*p.2*b):=(Sz.add (Sz.mul (Sz.mul zp.1 zq.2) za) (Sz.mul (Sz.mul zq.1 zp.2) zb)).mono (by decide)
 have sB:Sz 5000 (p.2*q.2*(a+b)):=(Sz.mul (Sz.mul zp.2 zq.2) (Sz.add za zb)).mono (by decide)
 exact⟨st,sB,st.fdiv _,sB.fdiv _⟩
theorem EE:∀ ss R,gU ss R->mQ {nx:=fun _=>R (.t .non),rt:=R} (aJ ["one","one_weight","other","other_weight","top"] ss):=by
 rintro ss R ⟨⟨x0,x1⟩,⟨y0,y1⟩,a,b,rfl,⟨z1,z2⟩,⟨z3,z4⟩,sa,sb,a0,b0,p0,q0,h⟩;obtain⟨st,sB,_⟩:=DA (p:=(x0,x1)) (q:=(y0,y1)) ⟨z1,z2⟩ ⟨z3,z4⟩ sa sb;dsimp only at z1 z2 z3 z4 p0 q0 st sB;show mQ _ [some (.t (.tup [.int x0,.int x1])),some (.t (.int a)),some (.t (.tup [.int y0,.int y1])),some (.t (.int b)),none]
 delta mQ
 have hB:x1*y1*(a+b)≠0:=by
  have:=Int.mul_pos (Int.mul_pos p0 q0) (show 0<a+b by omega)
  omega
 walk_at "dl";refine⟨bf z1 z4 (by decide) (by decide),bf (Sz.mul z1 z4) sa (by decide) (by decide),bf z3 z2 (by decide) (by decide),bf (Sz.mul z3 z2) sb (by decide) (by decide),bf z2 z4 (by decide) (by decide),bf (Sz.mul z2 z4) (Sz.add sa sb) (by decide) (by decide),_,_,rfl,hB,sB.mono (by decide),?_⟩
 walk_at "dl";exact h
theorem CW {h:Hf}{s:aF}(hh:oQ 300 h)(hs:fM 700 s):Sz 1750 (bw h s):=by
 obtain⟨a,b,c⟩:=hh;obtain⟨⟨x0,x1⟩,y0,y1⟩:=hs;unfold bw;exact(Sz.sub (Sz.add (Sz.mul (Sz.mul a x0) y1) (Sz.mul (Sz.mul b y0) x1)) (Sz.mul c (Sz.mul x1 y1))).mono (by decide)
theorem Bl {n:Nat}{x:Int}(h:Sz n x):Sz n (gY x):=by
 unfold gY
 split
 ·exact⟨by rw[Int.natAbs_neg];exact h.lt⟩
 ·exact h
theorem qz {h:Hf}{p q:aF}(hh:oQ 300 h)(hp:fM 700 p)(hq:fM 700 q):Sz 3200 (gY (bw h q)*(p.1.2*p.2.2)):=(Sz.mul (Bl (CW hh hq)) (Sz.mul hp.1.2 hp.2.2)).mono (by decide)
theorem Ng {h:Hf}{p q:aF}(hh:oQ 300 h)(hp:fM 700 p)(hq:fM 700 q):fM 5000 (dw h p q):=⟨(DA hp.1 hq.1 (qz hh hp hq) (qz hh hq hp)).2.2,(DA hp.2 hq.2 (qz hh hp hq) (qz hh hq hp)).2.2⟩
theorem uT:∀ ss R,eO ss R->iE {nx:=fun _=>R (.t .non),rt:=R} (aJ ["half","one","other","one_weight","other_weight","x","y"] ss):=by
 rintro ss R ⟨hf,p,q,rfl,hh,hp,hq,op,oq,ep,eq,h⟩;show iE _ [some (.t (cE hf)),some (.t (spT p)),some (.t (spT q)),none,none,none,none]
 delta iE
 have sh:=oA hh (show 300<=300000 by decide)
 have sp:=bP hp (show 700<=60000 by decide)
 have sq:=bP hq (show 700<=60000 by decide)
 have bp:0<p.1.2*p.2.2:=Int.mul_pos op.1.1 op.2.1;have bq:0<q.1.2*q.2.2:=Int.mul_pos oq.1.1 oq.2.1;have zbp:Sz 1400 (p.1.2*p.2.2):=Sz.mul hp.1.2 hp.2.2;have zbq:Sz 1400 (q.1.2*q.2.2):=Sz.mul hq.1.2 hq.2.2;have zq:=Bl (CW hh hq);have zp:=Bl (CW hh hp);have k1:0<gY (bw hf q)*(p.1.2*p.2.2):=Int.mul_pos (lz eq) bp;have k2:0<gY (bw hf p)*(q.1.2*q.2.2):=Int.mul_pos (lz ep) bq;have k3:=qz hh hp hq;have k4:=qz hh hq hp;unfold dw at h;have fold:∀ x:Int,(if x<0 then -x else x)=gY x:=fun _=>rfl
 walk_at "dl";refine⟨hf,q,rfl,sh,sq,?_⟩;walk_at "dl";refine⟨p,rfl,sp,?_⟩;walk_at "dl";rw[fold];refine⟨bf zq zbp (by decide) (by decide),hf,p,rfl,sh,sp,?_⟩
 walk_at "dl";refine⟨q,rfl,sq,?_⟩;walk_at "dl";rw[fold];refine⟨bf zp zbq (by decide) (by decide),p.1,q.1,_,_,rfl,hp.1,hq.1,k3,k4,k1,k2,op.1.1,oq.1.1,?_⟩
 walk_at "dl";refine⟨p.2,q.2,_,_,rfl,hp.2,hq.2,k3,k4,k1,k2,op.2.1,oq.2.1,?_⟩;walk_at "dl";exact h
theorem Ff (a:Int):-1<=sgn a/\sgn a<=1:=by
 unfold sgn
 split
 ·omega
 ·split <;> omega
theorem EA {s:aF}{ks:List aF}{y:S}{R:S->Prop}(hy:tr y=.lst (ks.map spT))(h1:s∈ks->R (.t (.bl false)))(h2:¬ s∈ks->R (.t (.bl true))):nA (.t (spT s)) y R:=by
 unfold nA;rw[hy];refine⟨by show 2<=20;decide,Nat.le_trans (fm a9 _) (by decide),?_⟩
 by_cases h:s∈ks
 ·have e:AX (tr (.t (spT s))) (ks.map spT)=true:=by
   unfold AX;rw[List.any_map,List.any_eq_true];exact⟨s,h,(aZ s s).mpr rfl⟩
  rw[e];exact h1 h
 ·have e:AX (tr (.t (spT s))) (ks.map spT)=false:=by
   unfold AX;rw[List.any_map,List.any_eq_false];intro x hx hc;exact h (((aZ x s).mp hc) ▸ hx)
  rw[e];exact h2 h
theorem Hy {L:List aF}{q:aF × aF}(h:q∈yF L):q.1∈L/\q.2∈L:=by
 obtain⟨k,hk,rfl⟩:=List.mem_map.mp h;have hk:=List.mem_range.mp hk;rw[dif_pos hk];exact⟨lR hk,List.getElem_mem hk⟩
theorem pV (h:Hf)(pre:List (aF × aF))(q:aF × aF):(pre++[q]).foldl (oO h) []=oO h (pre.foldl (oO h) []) q:=by rw[List.foldl_append];rfl
theorem wR:∀ ss R,fF ss R->jv {nx:=fun _=>R (.t .non),rt:=R} (aJ ["region","half","kept","pair","spot"] ss):=by
 rintro ss R ⟨L,hf,rfl,hl,hz,hh,h⟩;show jv _ [some (.t (.lst (L.map spT))),some (.t (cE hf)),none,none,none]
 delta jv
 walk_at "dl";have hS:∀ p∈L,fM 60000 p:=fun p hp=>bP (hz p hp).2 (by decide)
 have hH:oQ 300000 hf:=oA hh (by decide)
 let K:List (aF × aF)->List aF->Prop:=fun pre ks=>ks=pre.foldl (oO hf) []/\ks.length<=2*pre.length/\∀ p∈ks,bB p/\fM 20000 p
 refine⟨fun δ=>∃ ks r3 r4,δ=[some (.t (.lst (L.map spT))),some (.t (cE hf)),some (.ol (ks.map spT)),r3,r4]/\K (yF L) ks,?_,?_⟩
 ·refine⟨L,rfl,by omega,?_⟩
  dsimp only;rw[gf _ (ce (fun _=>rfl) _)];walk_at "dl";refine⟨fun ts δ=>∃ (pre post:List (aF × aF)) (ks:List aF) (r3 r4:Option S),yF L=pre++post/\ts=post.map N4/\δ=[some (.t (.lst (L.map spT))),some (.t (cE hf)),some (.ol (ks.map spT)),r3,r4]/\K pre ks,⟨[],yF L,[],_,_,rfl,rfl,rfl,by simp[K]⟩,?_,?_⟩
  ·rintro δ ⟨pre,post,ks,r3,r4,e3,e4,rfl,hK⟩;have:post=[]:=by simpa using e4.symm
   subst this;rw[List.append_nil]at e3;rw[e3];exact⟨ks,r3,r4,rfl,hK⟩
  ·rintro x ts δ ⟨pre,post,ks,r3,r4,e3,e4,rfl,hK⟩
   cases post with
   | nil=>cases e4
   | cons q post=>
    rw[List.map_cons]at e4
    cases e4
    obtain⟨q1,q2⟩:=Hy (L:=L) (q:=q) (by rw[e3];simp)
    have hpl:pre.length<=180:=by
     have e5:(yF L).length=L.length:=by unfold yF;simp
     rw[e3]at e5;simp only[List.length_append,List.length_cons]at e5;omega
    obtain⟨hK1,hK2,hK3⟩:=hK;have b1:=Ff (bw hf q.1);have b2:=Ff (bw hf q.2);have app:∀ {n:Nat}{ks:List aF}{s:aF},ks.length<=n->(∀ p∈ks,bB p/\fM 20000 p)->bB s/\fM 20000 s->(ks++[s]).length<=n+1/\∀ p∈ks++[s],bB p/\fM 20000 p:=fun {n ks s} h1 h2 h3=>⟨by rw[List.length_append,List.length_singleton];omega,fun p hp=>by
     rcases List.mem_append.mp hp with hp|hp
     ·exact h2 p hp
     ·rw[List.mem_singleton.mp hp];exact h3⟩
    have z2:bB q.2/\fM 20000 q.2:=⟨(hz _ q2).1,bP (hz _ q2).2 (by decide)⟩
    let k1:List aF:=if iO hf q.1 q.2/\¬ dw hf q.1 q.2∈ks then ks++[dw hf q.1 q.2] else ks
    show aU 3 (.tup [spT q.1,spT q.2]) _ _;walk_at "dl";refine⟨fun δ=>∃ (r4:Option S),δ=[some (.t (.lst (L.map spT))),some (.t (cE hf)),some (.ol (k1.map spT)),some (.t (.tup [spT q.1,spT q.2])),r4]/\k1.length<=2*pre.length+1/\∀ p∈k1,bB p/\fM 20000 p,?_,?_⟩
    ·walk_at "dl";refine⟨hf,q.1,rfl,hH,hS _ q1,hf,q.2,rfl,hH,hS _ q2,?_⟩;walk_at "dl";refine⟨G1 (by omega) (by omega),?_⟩
     split
     ·rename_i hlt;have ho:iO hf q.1 q.2:=hlt;have o:=cc.mp ho;refine⟨hf,q.1,q.2,rfl,hh,(hz _ q1).2,(hz _ q2).2,(hz _ q1).1,(hz _ q2).1,by omega,by omega,?_⟩
      walk_at "dl";have zs:bB (dw hf q.1 q.2)/\fM 20000 (dw hf q.1 q.2):=⟨(f7 (hz _ q1).1 (hz _ q2).1 ho).1,bP (Ng hh (hz _ q1).2 (hz _ q2).2) (by decide)⟩
      refine EA (ks:=ks) rfl (fun hin=>?_) (fun hin=>?_)
      ·walk_at "dl";have e:k1=ks:=if_neg fun z=>z.2 hin;rw[e];exact⟨_,rfl,by omega,hK3⟩
      ·walk_at "dl";have e:k1=ks++[dw hf q.1 q.2]:=if_pos ⟨ho,hin⟩;obtain⟨a1,a2⟩:=app hK2 hK3 zs;rw[e];exact⟨by rw[List.length_map];omega,_,by rw[List.map_append];rfl,a1,a2⟩
     ·rename_i hlt;have e:k1=ks:=if_neg fun z=>hlt z.1;rw[e];exact⟨_,rfl,by omega,hK3⟩
    ·rintro δ ⟨r4',rfl,l1,l2⟩;walk_at "dl";refine⟨hf,q.2,rfl,hH,hS _ q2,?_⟩;walk_at "dl"
     split
     ·rename_i hk;obtain⟨a1,a2⟩:=app l1 l2 z2;refine⟨by rw[List.length_map];omega,pre++[q],post,k1++[q.2],some (.t (.tup [spT q.1,spT q.2])),r4',by rw[e3];simp,rfl,by rw[List.map_append];rfl,?_,?_,a2⟩
      ·rw[pV,<-hK1];exact(if_pos (show lr hf q.2 from hk)).symm
      ·rw[List.length_append (as:=pre),List.length_singleton];omega
     ·rename_i hk;refine⟨pre++[q],post,k1,some (.t (.tup [spT q.1,spT q.2])),r4',by rw[e3];simp,rfl,rfl,?_,?_,l2⟩
      ·rw[pV,<-hK1];exact(if_neg (show ¬ lr hf q.2 from hk)).symm
      ·rw[List.length_append,List.length_singleton];omega
 ·rintro δ ⟨ks,r3,r4,rfl,k1,k2,k3⟩;have e5:(yF L).length=L.length:=by unfold yF;simp
  walk_at "dl";refine⟨ks,rfl,by omega,k3,?_⟩
  dsimp only;rw[gf _ (ce (fun _=>rfl) _)];walk_at "dl";unfold hV gB at h;rw[<-k1]at h;exact h
end Law
namespace Law
open L2 DL
set_option maxHeartbeats 1000000
theorem Lj {l u p q:Hf}{κ α β:Int}(e1:κ*u.1=α*p.1+β*q.1)(e2:κ*u.2.1=α*p.2.1+β*q.2.1)(e3:κ*u.2.2=α*p.2.2+β*q.2.2):κ*a7 l u=α*a7 l p+β*a7 l q:=by
 unfold a7;have t:κ*(l.1*u.1+l.2.1*u.2.1-l.2.2*u.2.2)=l.1*(κ*u.1)+l.2.1*(κ*u.2.1)-l.2.2*(κ*u.2.2):=by grind
 rw[t,e1,e2,e3];grind
def Qd (L:List aF)(q:Hf):Prop:=∃ a b c:aF,a∈L/\b∈L/\c∈L/\∃ κ α β γ:Int,0<κ/\0<=α/\0<=β/\0<=γ/\κ*q.1=α*(ag a).1+β*(ag b).1+γ*(ag c).1/\κ*q.2.1=α*(ag a).2.1+β*(ag b).2.1+γ*(ag c).2.1/\κ*q.2.2=α*(ag a).2.2+β*(ag b).2.2+γ*(ag c).2.2
theorem yB {l q a b c:Hf}{κ α β γ:Int}(e1:κ*q.1=α*a.1+β*b.1+γ*c.1)(e2:κ*q.2.1=α*a.2.1+β*b.2.1+γ*c.2.1)(e3:κ*q.2.2=α*a.2.2+β*b.2.2+γ*c.2.2):κ*a7 l q=α*a7 l a+β*a7 l b+γ*a7 l c:=by
 unfold a7;have t:κ*(l.1*q.1+l.2.1*q.2.1-l.2.2*q.2.2)=l.1*(κ*q.1)+l.2.1*(κ*q.2.1)-l.2.2*(κ*q.2.2):=by grind
 rw[t,e1,e2,e3];grind
def Cv (L:List aF)(q:Hf):Prop:=∀ l:Hf,(∀ s∈L,0<=a7 l (ag s))->0<=a7 l q
theorem J8 {L:List aF}{q:Hf}(h:Qd L q):Cv L q:=by
 obtain⟨a,b,c,ha,hb,hc,κ,α,β,γ,k0,a0,b0,c0,e1,e2,e3⟩:=h;intro l hl;have e:=yB (l:=l) e1 e2 e3;have x1:=Int.mul_nonneg a0 (hl a ha);have x2:=Int.mul_nonneg b0 (hl b hb);have x3:=Int.mul_nonneg c0 (hl c hc);exact cQ k0 (by walk_at "o")
theorem change (f:Nat->Int):∀ m,2<=m->0<=f 1->f m<=0->∃ i,1<=i/\i<m/\0<=f i/\f (i+1)<=0
 | 0,h,_,_=>by walk_at "o"
 | 1,h,_,_=>by walk_at "o"
 | m+2,_,h1,h2=>by
  by_cases h:0<=f (m+1)
  ·exact⟨m+1,by walk_at "o",by walk_at "o",h,h2⟩
  ·by_cases hm:m=0
   ·subst hm;exact absurd h1 h
   ·obtain⟨i,i1,i2,i3,i4⟩:=change f (m+1) (by walk_at "o") h1 (by walk_at "o")
    exact⟨i,i1,by walk_at "o",i3,i4⟩
theorem J7 (a b c q:Hf):aS a b c*q.1=aS b c q*a.1+aS c a q*b.1+aS a b q*c.1/\aS a b c*q.2.1=aS b c q*a.2.1+aS c a q*b.2.1+aS a b q*c.2.1/\aS a b c*q.2.2=aS b c q*a.2.2+aS c a q*b.2.2+aS a b q*c.2.2:=by
 unfold aS;refine⟨?_,?_,?_⟩ <;> grind
theorem dE {L:List aF}(R:j9 L):oR (fun i=>ag (gt L i)) L.length:=fun a b c h1 h2 h3=>by
 have:=dX R.reg a b c h1 h2 (by rw[List.length_map];exact h3)
 rw[List.getElem_map,List.getElem_map,List.getElem_map]at this;dsimp only;rw[bv (show a<L.length by walk_at "o"),bv (show b<L.length by walk_at "o"),bv h3]
 exact this
theorem jm {L:List aF}{q:Hf}(h:cu (L.map ag) q)(h3:3<=L.length)(k:Nat)(hk:k<L.length):0<=aS (ag (gt L (aW L.length k))) (ag (gt L k)) q:=by
 have:=h.all (by rw[List.length_map];exact h3) k (by rw[List.length_map];exact hk)
 rw[gn,List.getElem_map,eX hk,<-bv hk]at this;exact this
theorem Gp {p r q:Hf}(hd:aS p r q=0)(hb:Bf p r)(h1:¬ Bf q p)(h2:¬ Bf r q)(zp:0<p.2.2)(zr:0<r.2.2)(zq:0<q.2.2):∃ κ α β:Int,0<κ/\0<=α/\0<=β/\κ*q.1=α*p.1+β*r.1/\κ*q.2.1=α*p.2.1+β*r.2.1/\κ*q.2.2=α*p.2.2+β*r.2.2:=by
 unfold Bf at hb h1 h2;unfold aS at hd
 rcases hb with hb|⟨hb,hb'⟩
 ·refine⟨r.1*p.2.2-p.1*r.2.2,r.1*q.2.2-q.1*r.2.2,q.1*p.2.2-p.1*q.2.2,by walk_at "o",by walk_at "o",by walk_at "o",?_,?_,?_⟩
  ·grind
  ·grind
  ·grind
 ·have x1:q.1*p.2.2-p.1*q.2.2=0:=by
   have:(q.1*p.2.2-p.1*q.2.2)*(r.2.1*p.2.2-p.2.1*r.2.2)=0:=by grind
   rcases Int.mul_eq_zero.mp this with z|z
   ·exact z
   ·walk_at "o"
  have x2:r.1*q.2.2-q.1*r.2.2=0:=by
   have:p.2.2*(r.1*q.2.2-q.1*r.2.2)=0:=by grind
   rcases Int.mul_eq_zero.mp this with z|z
   ·walk_at "o"
   ·exact z
  refine⟨r.2.1*p.2.2-p.2.1*r.2.2,r.2.1*q.2.2-q.2.1*r.2.2,q.2.1*p.2.2-p.2.1*q.2.2,by walk_at "o",by walk_at "o",by walk_at "o",?_,?_,?_⟩
  ·grind
  ·grind
  ·grind
theorem tS {L:List aF}{q:Hf}(R:j9 L)(zq:0<q.2.2)(h:cu (L.map ag) q):Qd L q:=by
 match L,R,h with
 | [],_,h=>exact absurd h.ne (by simp)
 | [p],R,h=>
  obtain⟨_,h1,h2⟩:=h.few (by simp)
  have h1:¬ Bf q (ag p):=bN.mp h1;have h2:¬ Bf (ag p) q:=bN.mp h2;have zp:=dJ (R.ok p (by simp))
  unfold Bf at h1 h2;refine⟨p,p,p,by simp,by simp,by simp,(ag p).2.2,q.2.2,0,0,zp,by walk_at "o",by walk_at "o",by walk_at "o",?_,?_,?_⟩
  ·have:q.1*(ag p).2.2=(ag p).1*q.2.2:=by walk_at "o"
   grind
  ·have:q.2.1*(ag p).2.2=(ag p).2.1*q.2.2:=by walk_at "o"
   grind
  ·grind
 | [p,r],R,h=>
  obtain⟨h0,h1,h2⟩:=h.few (by simp)
  have h0:aS (ag p) (ag r) q=0:=h0;have h1:¬ Bf q (ag p):=bN.mp h1;have h2:¬ Bf (ag r) q:=bN.mp h2;have hb:Bf (ag p) (ag r):=eV.mp (R.reg.fst 1 (by simp) (by decide))
  obtain⟨κ,α,β,k0,a0,b0,e1,e2,e3⟩:=Gp h0 hb h1 h2 (dJ (R.ok p (by simp))) (dJ (R.ok r (by simp))) zq
  exact⟨p,r,p,by simp,by simp,by simp,κ,α,β,0,k0,a0,b0,by walk_at "o",by rw[e1];walk_at "o",by rw[e2];walk_at "o",by rw[e3];walk_at "o"⟩
 | p::r::s::t,R,h=>
  have h3:3<=(p::r::s::t).length:=by simp
  generalize p::r::s::t=L at R h h3;have hT:=dE R;have f1:=jm h h3 1 (by walk_at "o")
  have f2:=jm h h3 0 (by walk_at "o")
  have e1:aW L.length 1=0:=rfl;have e2:aW L.length 0=L.length-1:=rfl;rw[e1]at f1;rw[e2]at f2;obtain⟨i,i1,i2,i3,i4⟩:=change (fun i=>aS (ag (gt L 0)) (ag (gt L i)) q) (L.length-1) (by walk_at "o") f1 (by
   have:aS (ag (gt L 0)) (ag (gt L (L.length-1))) q=-aS (ag (gt L (L.length-1))) (ag (gt L 0)) q:=by unfold aS;grind
   show aS (ag (gt L 0)) (ag (gt L (L.length-1))) q<=0;walk_at "o")
  have f3:=jm h h3 (i+1) (by walk_at "o")
  have e3:aW L.length (i+1)=i:=by unfold aW;rw[if_neg (by walk_at "o")];rfl
  rw[e3]at f3;have i3:0<=aS (ag (gt L 0)) (ag (gt L i)) q:=i3;have i4:aS (ag (gt L 0)) (ag (gt L (i+1))) q<=0:=i4;have D:=hT 0 i (i+1) (by walk_at "o") (by walk_at "o") (by walk_at "o")
  obtain⟨c1,c2,c3⟩:=J7 (ag (gt L 0)) (ag (gt L i)) (ag (gt L (i+1))) q;have i5:0<=aS (ag (gt L (i+1))) (ag (gt L 0)) q:=by
   have:aS (ag (gt L (i+1))) (ag (gt L 0)) q=-aS (ag (gt L 0)) (ag (gt L (i+1))) q:=by unfold aS;grind
   walk_at "o"
  have mem:∀ j,j<L.length->gt L j∈L:=fun j hj=>by rw[bv hj];exact List.getElem_mem _
  exact⟨gt L 0,gt L i,gt L (i+1),mem _ (by walk_at "o"),mem _ (by walk_at "o"),mem _ (by walk_at "o"),_,_,_,_,D,f3,i5,i3,c1,c2,c3⟩
def tq (a b:Hf):Hf:=(a.2.1*b.2.2-b.2.1*a.2.2,b.1*a.2.2-a.1*b.2.2,b.1*a.2.1-a.1*b.2.1)
theorem gF (a b q:Hf):a7 (tq a b) q=aS a b q:=by unfold a7 tq aS;grind
theorem kB {L:List aF}{q:Hf}(R:j9 L)(zq:0<q.2.2)(h:Cv L q):cu (L.map ag) q:=by
 match L,R,h with
 | [],_,h=>
  have:=h (0,0,1) (fun s hs=>by cases hs)
  unfold a7 at this;dsimp only at this;walk_at "o"
 | [p],R,h=>
  have zp:=dJ (R.ok p (by simp))
  have all:∀ l:Hf,0<=a7 l (ag p)->0<=a7 l q:=fun l hl=>h l (fun s hs=>by rw[List.mem_singleton.mp hs];exact hl)
  have a1:=all ((ag p).2.2,0,(ag p).1) (by unfold a7;grind)
  have a2:=all (-(ag p).2.2,0,-(ag p).1) (by unfold a7;grind)
  have a3:=all (0,(ag p).2.2,(ag p).2.1) (by unfold a7;grind)
  have a4:=all (0,-(ag p).2.2,-(ag p).2.1) (by unfold a7;grind)
  unfold a7 at a1 a2 a3 a4;dsimp only at a1 a2 a3 a4;rw[Int.zero_mul]at a1 a2 a3 a4;simp only[Int.neg_mul]at a1 a2 a3 a4;rw[Int.mul_comm (ag p).2.2 q.1]at a1 a2;rw[Int.mul_comm (ag p).2.2 q.2.1]at a3 a4;refine⟨by simp,fun _=>⟨nj _ _,bN.mpr (fun z=>?_),bN.mpr (fun z=>?_)⟩,fun z=>by simp at z⟩
  ·have z:Bf q (ag p):=z;unfold Bf at z;walk_at "o"
  ·have z:Bf (ag p) q:=z;unfold Bf at z;walk_at "o"
 | [p,r],R,h=>
  have zp:=dJ (R.ok p (by simp))
  have zr:=dJ (R.ok r (by simp))
  have hb:Bf (ag p) (ag r):=eV.mp (R.reg.fst 1 (by simp) (by decide))
  have all:∀ l:Hf,0<=a7 l (ag p)->0<=a7 l (ag r)->0<=a7 l q:=fun l hl hl'=>h l (fun s hs=>by
   rcases List.mem_cons.mp hs with e|e
   ·rw[e];exact hl
   ·rw[List.mem_singleton.mp e];exact hl')
  refine⟨by simp,fun _=>?_,fun z=>by simp at z⟩
  show aS (ag p) (ag r) q=0/\jS q (ag p)=false/\jS (ag r) q=false;generalize ag p=u at *;generalize ag r=v at *;have d1:=all (tq u v) (by rw[gF,hZ];exact Int.le_refl _) (by rw[gF,eW];exact Int.le_refl _)
  have d2:=all (tq v u) (by rw[gF,eW];exact Int.le_refl _) (by rw[gF,hZ];exact Int.le_refl _)
  rw[gF]at d1 d2;have d3:aS v u q=-aS u v q:=by unfold aS;grind
  have hd:aS u v q=0:=by walk_at "o"
  have hdd:=hd;unfold aS at hdd;have ends:¬ Bf q u/\¬ Bf v q:=by
   unfold Bf at hb ⊢
   rcases hb with hb|⟨hb,hb'⟩
   ·have a1:=all (u.2.2,0,u.1) (by unfold a7;grind) (by unfold a7;dsimp only;rw[Int.zero_mul,Int.mul_comm u.2.2];walk_at "o")
    have a2:=all (-v.2.2,0,-v.1) (by unfold a7;dsimp only;rw[Int.zero_mul,Int.neg_mul,Int.neg_mul,Int.mul_comm v.2.2];walk_at "o") (by unfold a7;grind)
    unfold a7 at a1 a2;dsimp only at a1 a2;rw[Int.zero_mul]at a1 a2;simp only[Int.neg_mul]at a1 a2;rw[Int.mul_comm u.2.2]at a1;rw[Int.mul_comm v.2.2]at a2;have k1:q.1*u.2.2=u.1*q.2.2->q.2.1*u.2.2=u.2.1*q.2.2:=fun e=>by
     have:(q.2.1*u.2.2-u.2.1*q.2.2)*(v.1*u.2.2-u.1*v.2.2)=0:=by grind
     rcases Int.mul_eq_zero.mp this with z|z
     ·walk_at "o"
     ·walk_at "o"
    have k2:v.1*q.2.2=q.1*v.2.2->v.2.1*q.2.2=q.2.1*v.2.2:=fun e=>by
     have:(v.2.1*q.2.2-q.2.1*v.2.2)*(v.1*u.2.2-u.1*v.2.2)=0:=by grind
     rcases Int.mul_eq_zero.mp this with z|z
     ·walk_at "o"
     ·walk_at "o"
    constructor
    ·rintro(z|⟨z,z'⟩)
     ·walk_at "o"
     ·have:=k1 z;walk_at "o"
    ·rintro(z|⟨z,z'⟩)
     ·walk_at "o"
     ·have:=k2 z;walk_at "o"
   ·have x1:q.1*u.2.2-u.1*q.2.2=0:=by
     have:(q.1*u.2.2-u.1*q.2.2)*(v.2.1*u.2.2-u.2.1*v.2.2)=0:=by grind
     rcases Int.mul_eq_zero.mp this with z|z
     ·exact z
     ·walk_at "o"
    have x2:v.1*q.2.2-q.1*v.2.2=0:=by
     have:u.2.2*(v.1*q.2.2-q.1*v.2.2)=0:=by grind
     rcases Int.mul_eq_zero.mp this with z|z
     ·walk_at "o"
     ·exact z
    have a1:=all (0,u.2.2,u.2.1) (by unfold a7;grind) (by unfold a7;dsimp only;rw[Int.zero_mul,Int.mul_comm u.2.2];walk_at "o")
    have a2:=all (0,-v.2.2,-v.2.1) (by unfold a7;dsimp only;rw[Int.zero_mul,Int.neg_mul,Int.neg_mul,Int.mul_comm v.2.2];walk_at "o") (by unfold a7;grind)
    unfold a7 at a1 a2;dsimp only at a1 a2;rw[Int.zero_mul]at a1 a2;simp only[Int.neg_mul]at a1 a2;rw[Int.mul_comm u.2.2]at a1;rw[Int.mul_comm v.2.2]at a2;constructor
    ·rintro(z | ⟨z,z'⟩) <;> walk_at "o"
    ·rintro(z | ⟨z,z'⟩) <;> walk_at "o"
  exact⟨hd,bN.mpr ends.1,bN.mpr ends.2⟩
 | p::r::s::t,R,h=>
  have h3:3<=(p::r::s::t).length:=by simp
  generalize p::r::s::t=L at R h h3;have hT:=dE R;refine⟨by rw[List.length_map];walk_at "o",fun z=>by rw[List.length_map]at z;walk_at "o",fun _ k hk=>?_⟩
  rw[List.length_map]at hk;rw[gn,List.getElem_map,eX hk,<-bv hk,<-gF];refine h _ fun s hs=>?_;obtain⟨j,hj,rfl⟩:=List.getElem_of_mem hs;rw[gF,<-bv hj];exact ku (P:=fun i=>ag (gt L i)) hT hk hj
theorem kC {L:List aF}{q:Hf}(R:j9 L)(zq:0<q.2.2):cu (L.map ag) q↔Cv L q:=⟨fun h=>J8 (tS R zq h),kB R zq⟩
end Law
namespace Law
open L2 DL
set_option maxHeartbeats 1000000
def OW (Q:Hf->Prop)(l:Hf):Prop:=∀ x,Q x->0<=a7 l x
theorem zI (l u v w q:Hf):a7 l q*aS u v w=aS v w q*a7 l u+aS w u q*a7 l v+aS u v q*a7 l w:=by
 unfold a7 aS;grind
theorem Nx {h:Hf}{G:Nat->aF}{n:Nat}(hn:3<=n){i:Nat}(hi:i<n)(hf:0<bw h (G i)):3<=(KI h G n n).length:=by
 obtain⟨j,hj,ej,jne,jne2⟩:∃ j,j<n/\aW n j=i/\j≠i/\j≠aW n i:=by
  by_cases e:i=n-1
  ·refine⟨0,by walk_at "o",?_,by walk_at "o",?_⟩
   ·unfold aW;rw[if_pos rfl];walk_at "o"
   ·unfold aW;rw[if_neg (by walk_at "o")];walk_at "o"
  ·refine⟨i+1,by walk_at "o",?_,by walk_at "o",?_⟩
   ·unfold aW;rw[if_neg (by walk_at "o")];walk_at "o"
   ·unfold aW;split <;> walk_at "o"
 have m1:((i,false,G i):Itm)∈KI h G n n:=ck.mpr ⟨hi,.inr ⟨rfl,bX.mpr (show 0<=bw h (G i) by walk_at "o"),rfl⟩⟩
 obtain⟨x,mx,ex⟩:∃ x:Itm,x∈KI h G n n/\((x.1=i/\x.2.1=true)\/(x.1=aW n i/\x.2.1=false)):=by
  by_cases z:0<=bw h (G (aW n i))
  ·exact⟨(aW n i,false,G (aW n i)),ck.mpr ⟨bM hi,.inr ⟨rfl,bX.mpr z,rfl⟩⟩,.inr ⟨rfl,rfl⟩⟩
  ·exact⟨(i,true,dw h (G (aW n i)) (G i)),ck.mpr ⟨hi,.inl ⟨rfl,cc.mpr (by dsimp only;walk_at "o"),rfl⟩⟩,.inl ⟨rfl,rfl⟩⟩
 obtain⟨y,my,ey⟩:∃ y:Itm,y∈KI h G n n/\y.1=j:=by
  by_cases z:0<=bw h (G j)
  ·exact⟨(j,false,G j),ck.mpr ⟨hj,.inr ⟨rfl,bX.mpr z,rfl⟩⟩,rfl⟩
  ·exact⟨(j,true,dw h (G (aW n j)) (G j)),ck.mpr ⟨hj,.inl ⟨rfl,cc.mpr (by dsimp only;rw[ej];walk_at "o"),rfl⟩⟩,rfl⟩
 have pn:=(fv hn hi).1;have nd:[((i,false,G i):Itm),x,y].Nodup:=by
  simp only[List.nodup_cons,List.mem_cons,List.not_mem_nil,or_false,not_or,not_false_eq_true,and_true,List.nodup_nil];refine⟨⟨fun e=>?_,fun e=>?_⟩,fun e=>?_⟩
  ·have e1:x.1=i:=by rw[<-e]
   have e2:x.2.1=false:=by rw[<-e]
   rcases ex with ⟨_,z⟩|⟨z,_⟩
   ·rw[z]at e2;cases e2
   ·walk_at "o"
  ·have e1:y.1=i:=by rw[<-e]
   walk_at "o"
  ·have e1:x.1=y.1:=by rw[e]
   rcases ex with ⟨z,_⟩ | ⟨z,_⟩ <;> walk_at "o"
 have:=List.Nodup.length_le_of_subset nd (l₂:=KI h G n n) (fun z hz=>by
  simp only[List.mem_cons,List.not_mem_nil,or_false]at hz
  rcases hz with rfl|rfl|rfl
  ·exact m1
  ·exact mx
  ·exact my)
 exact this
theorem nB {h:Hf}{L:List aF}(hh:g7 h)(R:j9 L):(hV h L).length=(gB h L).length:=(E3 (xN hh R)).2.2
theorem qs {h l:Hf}{p r:aF}{A B:Int}(op:bB p)(or':bB r)(ho:iO h p r)(hc:0<=a7 l (ag (dw h p r)))(hp:0<=a7 l (ag p))(A0:0<=A)(B0:0<=B)(fq:0<=A*a7 h (ag p)+B*a7 h (ag r))(s:0<bw h p\/False):0<=A*a7 l (ag p)+B*a7 l (ag r):=by
 have s:=s.resolve_right id;have o:=cc.mp ho;have r0:bw h r<0:=by walk_at "o"
 obtain⟨_,κ,c,k0,c0,e1,e2,e3⟩:=xP op or' (show bw h p≠0 by walk_at "o") (show bw h r≠0 by walk_at "o")
 have x1:gY (bw h r)=-bw h r:=by unfold gY;rw[if_pos r0]
 have x2:gY (bw h p)=bw h p:=by unfold gY;rw[if_neg (by walk_at "o")]
 rw[x1,x2]at e1 e2 e3;rw[cB,cB]at fq;have t:=Lj (l:=l) (u:=ag (dw h p r)) (p:=ag p) (q:=ag r) (κ:=κ) (α:=c*-bw h r) (β:=c*bw h p) (by rw[e1];grind) (by rw[e2];grind) (by rw[e3];grind)
 generalize a7 l (ag (dw h p r))=S at t hc;generalize a7 l (ag p)=P at *;generalize a7 l (ag r)=Rr at *;generalize bw h p=F at *;generalize bw h r=G at *;refine cQ (κ:=c*F) (Int.mul_pos c0 s) ?_;have k:c*F*(A*P+B*Rr)=B*(κ*S)+c*(P*(A*F+B*G)):=by rw[t];grind
 rw[k];have a1:=Int.mul_nonneg B0 (Int.mul_nonneg (Int.le_of_lt k0) hc);have a2:=Int.mul_nonneg (Int.le_of_lt c0) (Int.mul_nonneg hp fq);walk_at "o"
theorem z6 {h:Hf}{L:List aF}(hh:g7 h)(R:j9 L){q:Hf}(zq:0<q.2.2)(hL:cu (L.map ag) q)(hf:0<=a7 h q):cu ((hV h L).map ag) q:=by
 have C:=qQ hh R;obtain⟨a,b,c,ha,hb,hc,κ,α,β,γ,k0,a0,b0,c0,e1,e2,e3⟩:=tS R zq hL;have lin:=fun l=>yB (l:=l) e1 e2 e3
 by_cases n3:3<=L.length
 ·have ok:∀ i,i<L.length->bB (gt L i):=fun i hi=>by rw[bv hi];exact R.ok _ (List.getElem_mem _)
  have hT:=dE R;have eK:gB h L=(KI h (gt L) L.length L.length).map (·.2.2):=by
   unfold gB;rw[xb];exact mE n3 ok hT _ (Nat.le_refl _)
  by_cases k3:3<=(hV h L).length
  ·let Q:Hf->Prop:=fun x=>cu (L.map ag) x/\0<=a7 h x
   have hQh:vw (OW Q) h:=⟨fun x hx=>hx.2,hh.2⟩;have lkQ:∀ k,k<L.length->A7 (OW Q) (gt L (aW L.length k)) (gt L k):=fun k hk=>by
    have B:(tq (ag (gt L (aW L.length k))) (ag (gt L k))).1≠0\/(tq (ag (gt L (aW L.length k))) (ag (gt L k))).2.1≠0:=by
     by_cases z:(tq (ag (gt L (aW L.length k))) (ag (gt L k))).1=0/\(tq (ag (gt L (aW L.length k))) (ag (gt L k))).2.1=0
     ·exfalso;obtain⟨m,hm,m1,m2⟩:∃ m,m<L.length/\m≠k/\m≠aW L.length k:=⟨aW L.length (aW L.length k),bM (bM hk),(fv n3 hk).2.1,(fv n3 hk).2.2⟩;have p1:=cZ (P:=fun i=>ag (gt L i)) hT hk hm m1 m2;have p2:a7 (tq (ag (gt L (aW L.length k))) (ag (gt L k))) (ag (gt L k))=0:=by rw[gF,eW]
      have p1:0<aS (ag (gt L (aW L.length k))) (ag (gt L k)) (ag (gt L m)):=p1;rw[<-gF]at p1;have z1:=dJ (ok k hk);unfold a7 at p1 p2;rw[z.1,z.2,Int.zero_mul,Int.zero_mul]at p1 p2;have z2:(tq (ag (gt L (aW L.length k))) (ag (gt L k))).2.2=0:=by
       rcases Int.mul_eq_zero.mp (show(tq (ag (gt L (aW L.length k))) (ag (gt L k))).2.2*(ag (gt L k)).2.2=0 by walk_at "o") with y | y
       ·exact y
       ·walk_at "o"
      rw[z2,Int.zero_mul]at p1;walk_at "o"
     ·by_cases z1:(tq (ag (gt L (aW L.length k))) (ag (gt L k))).1=0
      ·exact .inr fun z2=>z ⟨z1,z2⟩
      ·exact .inl z1
    have A:∀ x,Q x->0<=a7 (tq (ag (gt L (aW L.length k))) (ag (gt L k))) x:=fun x hx=>by
     rw[gF];exact jm hx.1 n3 k hk
    refine⟨tq (ag (gt L (aW L.length k))) (ag (gt L k)),⟨A,B,?_⟩,⟨A,B,?_⟩⟩
    ·rw[<-cB,gF,hZ]
    ·rw[<-cB,gF,eW]
   have H:=mF hQh (show 0<L.length by walk_at "o") ok lkQ L.length (Nat.le_refl _)
   have e2:aW L.length L.length=L.length-1:=by unfold aW;rw[if_neg (by walk_at "o")]
   rw[e2,<-eK]at H;have cyc:=qV hQh H;have inQ:∀ u∈hV h L,Q (ag u):=fun u hu=>⟨(C.hold u hu).1,by rw[cB];exact(C.hold u hu).2⟩
   have T:=dX C.reg.reg;refine⟨by rw[List.length_map];walk_at "o",fun z=>by rw[List.length_map]at z;walk_at "o",fun _ k hk=>?_⟩
   rw[List.length_map]at hk;rw[gn,List.getElem_map];have hlk:A7 (OW Q) (ci (hV h L) k hk) (hV h L)[k]:=by
    have hm0:0<(gB h L).length:=by rw[<-nB hh R];walk_at "o"
    obtain⟨hm,_⟩:=lQ (xN hh R).ok hm0 (gB h L).length (Nat.le_refl _);have hk2:k<(gB h L).length:=by rw[<-nB hh R];exact hk
    have g1:(hV h L)[k]=(gB h L)[oe (gB h L).length (uP (gB h L) (gB h L).length) k]'(jZ hm hk2):=dZ hm hk2;have g2:ci (hV h L) k hk=ci (gB h L) (oe (gB h L).length (uP (gB h L) (gB h L).length) k) (jZ hm hk2):=xf hm hk2;rw[g1,g2];exact cyc _ _
   obtain⟨l,⟨gl,nl,lu⟩,⟨_,_,lv⟩⟩:=hlk;have hpv:=eX hk;have hgk:=bv hk;obtain⟨m,hm,m1,m2⟩:∃ m,m<(hV h L).length/\m≠k/\m≠aW (hV h L).length k:=⟨aW (hV h L).length (aW (hV h L).length k),bM (bM hk),(fv k3 hk).2.1,(fv k3 hk).2.2⟩;have pos:0<aS (ag (ci (hV h L) k hk)) (ag (hV h L)[k]) (ag (gt (hV h L) m)):=by
    rw[hpv,<-hgk];exact cZ (P:=fun i=>ag (gt (hV h L) i)) (dE C.reg) hk hm m1 m2
   have gw:0<=a7 l (ag (gt (hV h L) m)):=gl _ (inQ _ (by rw[bv hm];exact List.getElem_mem _))
   have gq:0<=a7 l q:=gl _ ⟨hL,hf⟩;rw[<-cB]at lu lv;have cr:=zI l (ag (ci (hV h L) k hk)) (ag (hV h L)[k]) (ag (gt (hV h L) m)) q;rw[lu,lv,Int.mul_zero,Int.mul_zero]at cr;have gw':0<a7 l (ag (gt (hV h L) m)):=by
    rcases Int.lt_or_le 0 (a7 l (ag (gt (hV h L) m))) with z|z
    ·exact z
    ·have z0:a7 l (ag (gt (hV h L) m))=0:=by walk_at "o"
     unfold a7 at lu lv z0;have:=uG nl lu lv z0;walk_at "o"
   have x:=Int.mul_nonneg gq (Int.le_of_lt pos);refine cQ gw' ?_;rw[Int.mul_comm];walk_at "o"
  ·
   have no:∀ s∈L,bw h s<=0:=fun s hs=>by
    rcases Int.lt_or_le 0 (bw h s) with z|z
    ·exfalso;obtain⟨i,hi,rfl⟩:=List.getElem_of_mem hs;rw[<-bv hi]at z;have:=Nx n3 hi z;have e:=nB hh R;rw[eK,List.length_map]at e;walk_at "o"
    ·exact z
   refine kB C.reg zq fun l hl=>?_;have fl:=lin h;have f1:∀ s∈L,∀ w:Int,0<=w->w*a7 h (ag s)<=0/\(w*a7 h (ag s)=0->0<=w*a7 l (ag s)):=fun s hs w w0=>by
    have ns:=no s hs;rw[<-cB]at ns;refine⟨Int.mul_nonpos_of_nonneg_of_nonpos w0 ns,fun e=>?_⟩
    rcases Int.mul_eq_zero.mp e with z|z
    ·rw[z,Int.zero_mul];exact Int.le_refl _
    ·exact Int.mul_nonneg w0 (hl s (C.kept s hs (by rw[<-cB];walk_at "o")))
   have q0:=Int.mul_nonneg (Int.le_of_lt k0) hf;have x1:=f1 a ha α a0;have x2:=f1 b hb β b0;have x3:=f1 c hc γ c0;have y1:=x1.2 (by walk_at "o")
   have y2:=x2.2 (by walk_at "o")
   have y3:=x3.2 (by walk_at "o")
   have ll:=lin l;exact cQ k0 (by walk_at "o")
 ·refine kB C.reg zq fun l hl=>?_
  match L,R,C,n3,hl,ha,hb,hc with
  | [],_,_,_,_,ha,_,_=>cases ha
  | [p],R,C,_,hl,ha,hb,hc=>
   rw[List.mem_singleton.mp ha,List.mem_singleton.mp hb,List.mem_singleton.mp hc]at lin;have z3:=lin (0,0,-1);have zp:=dJ (R.ok p (by simp))
   have hz:0<α+β+γ:=by
    unfold a7 at z3;dsimp only at z3;have:=Int.mul_pos k0 zq
    rcases Int.lt_or_le 0 (α+β+γ) with z|z
    ·exact z
    ·have t:κ*q.2.2=(α+β+γ)*(ag p).2.2:=by grind
     have:=Int.mul_nonpos_of_nonpos_of_nonneg z (Int.le_of_lt zp);walk_at "o"
   have t:∀ m:Hf,κ*a7 m q=(α+β+γ)*a7 m (ag p):=fun m=>by rw[lin m];grind
   have fp:0<=a7 h (ag p):=cQ hz (by rw[<-t];exact Int.mul_nonneg (Int.le_of_lt k0) hf)
   have:=hl p (C.kept p (by simp) (by rw[<-cB];exact fp))
   exact cQ k0 (by rw[t];exact Int.mul_nonneg (Int.le_of_lt hz) this)
  | [p,r],R,C,_,hl,ha,hb,hc=>
   have op:=R.ok p (by simp)
   have or':=R.ok r (by simp)
   obtain⟨A,B,A0,B0,t⟩:∃ A B:Int,0<=A/\0<=B/\∀ m:Hf,κ*a7 m q=A*a7 m (ag p)+B*a7 m (ag r):=by
    have one:∀ s∈[p,r],∀ w:Int,0<=w->∃ x y:Int,0<=x/\0<=y/\∀ m:Hf,w*a7 m (ag s)=x*a7 m (ag p)+y*a7 m (ag r):=fun s hs w w0=>by
     rcases List.mem_cons.mp hs with e|e
     ·exact⟨w,0,w0,by walk_at "o",fun m=>by rw[e];walk_at "o"⟩
     ·exact⟨0,w,by walk_at "o",w0,fun m=>by rw[List.mem_singleton.mp e];walk_at "o"⟩
    obtain⟨x1,y1,h1,h2,h3⟩:=one a ha α a0;obtain⟨x2,y2,h4,h5,h6⟩:=one b hb β b0;obtain⟨x3,y3,h7,h8,h9⟩:=one c hc γ c0;exact⟨x1+x2+x3,y1+y2+y3,by walk_at "o",by walk_at "o",fun m=>by rw[lin m,h3 m,h6 m,h9 m];grind⟩
   have fq:=Int.mul_nonneg (Int.le_of_lt k0) hf;rw[t]at fq;have kp:0<=a7 h (ag p)->0<=a7 l (ag p):=fun z=>hl p (C.kept p (by simp) (by rw[<-cB];exact z))
   have kr:0<=a7 h (ag r)->0<=a7 l (ag r):=fun z=>hl r (C.kept r (by simp) (by rw[<-cB];exact z))
   have fO:iO h p r->0<=a7 l (ag (dw h p r)):=fun ho=>hl _ (C.cross 1 (by simp) ho)
   refine cQ k0 ?_;rw[t]
   by_cases zp:0<=a7 h (ag p)
   ·by_cases zr:0<=a7 h (ag r)
    ·have:=Int.mul_nonneg A0 (kp zp);have:=Int.mul_nonneg B0 (kr zr);walk_at "o"
    ·by_cases zp0:a7 h (ag p)=0
     ·rw[zp0,Int.mul_zero]at fq;have:B=0:=by
       rcases Int.lt_or_le 0 B with y|y
       ·have:=Int.mul_neg_of_pos_of_neg y (show a7 h (ag r)<0 by walk_at "o");walk_at "o"
       ·walk_at "o"
      rw[this,Int.zero_mul];have:=Int.mul_nonneg A0 (kp zp);walk_at "o"
     ·have ho:iO h p r:=cc.mpr (by rw[<-cB,<-cB];walk_at "o")
      exact qs op or' ho (fO ho) (kp zp) A0 B0 fq (.inl (by rw[<-cB];walk_at "o"))
   ·by_cases zr:0<=a7 h (ag r)
    ·by_cases zr0:a7 h (ag r)=0
     ·rw[zr0,Int.mul_zero]at fq;have:A=0:=by
       rcases Int.lt_or_le 0 A with y|y
       ·have:=Int.mul_neg_of_pos_of_neg y (show a7 h (ag p)<0 by walk_at "o");walk_at "o"
       ·walk_at "o"
      rw[this,Int.zero_mul];have:=Int.mul_nonneg B0 (kr zr);walk_at "o"
     ·have ho:iO h r p:=cc.mpr (by rw[<-cB,<-cB];walk_at "o")
      have ho':iO h p r:=cc.mpr (by rw[<-cB,<-cB];walk_at "o")
      have c:=fO ho';rw[mC]at c;rw[Int.add_comm]at fq ⊢;exact qs or' op ho c (kr zr) B0 A0 fq (.inl (by rw[<-cB];walk_at "o"))
    ·have:A=0/\B=0:=by
      have a1:=Int.mul_nonpos_of_nonneg_of_nonpos A0 (show a7 h (ag p)<=0 by walk_at "o")
      have b1:=Int.mul_nonpos_of_nonneg_of_nonpos B0 (show a7 h (ag r)<=0 by walk_at "o")
      constructor
      ·rcases Int.lt_or_le 0 A with y|y
       ·have:=Int.mul_neg_of_pos_of_neg y (show a7 h (ag p)<0 by walk_at "o");walk_at "o"
       ·walk_at "o"
      ·rcases Int.lt_or_le 0 B with y|y
       ·have:=Int.mul_neg_of_pos_of_neg y (show a7 h (ag r)<0 by walk_at "o");walk_at "o"
       ·walk_at "o"
     rw[this.1,this.2];walk_at "o"
  | _::_::_::_,_,_,n3,_,_,_,_=>exact absurd (by simp) n3
theorem NH {h:Hf}{L:List aF}(hh:g7 h)(R:j9 L){q:Hf}(zq:0<q.2.2):cu ((hV h L).map ag) q↔cu (L.map ag) q/\0<=a7 h q:=by
 refine⟨fun hK=>?_,fun z=>z6 hh R zq z.1 z.2⟩;have C:=qQ hh R;have cK:=(kC C.reg zq).mp hK;refine⟨kB R zq fun l hl=>cK l fun s hs=>?_,cK h fun s hs=>by rw[cB];exact(C.hold s hs).2⟩
 exact(kC R (dJ (C.reg.ok s hs))).mp (C.hold s hs).1 l hl
end Law
namespace Law
open L2 DL
set_option maxHeartbeats 1000000
end Law
namespace Law
open L2 DL
set_option maxHeartbeats 1000000
def vy (L0:List aF)(D:List Hf)(L:List aF):Prop:=j9 L/\L.length<=L0.length+2*D.length/\∀ q:Hf,0<q.2.2->(cu (L.map ag) q↔cu (L0.map ag) q/\∀ h∈D,0<=a7 h q)
theorem Po {L0:List aF}(R:j9 L0):vy L0 [] L0:=⟨R,by simp,fun q _=>⟨fun h=>⟨h,fun _ hh=>(nomatch hh)⟩,fun h=>h.1⟩⟩
theorem Df {L0 L:List aF}{D:List Hf}{h:Hf}(hh:g7 h)(I:vy L0 D L):vy L0 (D++[h]) (hV h L):=by
 obtain⟨R,hl,hq⟩:=I;have C:=qQ hh R;refine⟨C.reg,by have:=C.len;rw[List.length_append,List.length_singleton];walk_at "o",fun q zq=>?_⟩
 rw[NH hh R zq,hq q zq];constructor
 ·rintro⟨⟨a,b⟩,c⟩;refine⟨a,fun x hx=>?_⟩
  rcases List.mem_append.mp hx with hx|hx
  ·exact b x hx
  ·rw[List.mem_singleton.mp hx];exact c
 ·rintro⟨a,b⟩;exact⟨⟨a,fun x hx=>b x (List.mem_append_left _ hx)⟩,b h (List.mem_append_right _ (List.mem_singleton.mpr rfl))⟩
theorem NW {a b c:Int}(hne:a≠0\/b≠0)(q:Hf):0<=a7 (Ky a b c) q↔0<=a7 (a,b,c) q:=by
 have g0:0<(iM a b c:Int):=by have:=x6 (c:=c) hne;walk_at "o"
 have e1:=c5 (C4 a b c);have e2:=c5 (C5 a b c);have e3:=c5 (Kx a b c);have k:(iM a b c:Int)*a7 (Ky a b c) q=a7 (a,b,c) q:=by
  unfold Ky a7;dsimp only;generalize a.fdiv (iM a b c)=x at *;generalize b.fdiv (iM a b c)=y at *;generalize c.fdiv (iM a b c)=z at *;generalize (iM a b c:Int)=g at *;rw[<-e1,<-e2,<-e3];grind
 rw[<-k];exact⟨fun h=>Int.mul_nonneg (Int.le_of_lt g0) h,fun h=>cQ g0 h⟩
theorem NE {a b c:Int}(hne:a≠0\/b≠0)(hz:oQ 300 (a,b,c)):g7 (Ky a b c):=by
 refine⟨⟨hz.1.fdiv _,hz.2.1.fdiv _,hz.2.2.fdiv _⟩,?_⟩
 rcases hne with h|h
 ·exact .inl (xX (C4 a b c) h)
 ·exact .inr (xX (C5 a b c) h)
theorem lZ {p q:Pt}(hne:p≠q)(x:Hf):0<=a7 (vm p q) x↔0<=aS (fl p) (fl q) x:=by
 have n:p.2-q.2≠0\/q.1-p.1≠0:=by
  by_cases a:p.2-q.2=0
  ·exact .inr fun b=>hne (Prod.ext (by walk_at "o") (by walk_at "o"))
  ·exact .inl a
 unfold vm;rw[NW n];have:a7 (p.2-q.2,q.1-p.1,(p.2-q.2)*p.1+(q.1-p.1)*p.2) x=aS (fl p) (fl q) x:=by
  unfold a7 aS fl;grind
 rw[this]
theorem Nd {p q:Pt}(hne:p≠q)(zp:SzF 110 p)(zq:SzF 110 q):g7 (vm p q):=by
 have n:p.2-q.2≠0\/q.1-p.1≠0:=by
  by_cases a:p.2-q.2=0
  ·exact .inr fun b=>hne (Prod.ext (by walk_at "o") (by walk_at "o"))
  ·exact .inl a
 have za:Sz 120 (p.2-q.2):=(Sz.sub zp.2 zq.2).mono (by decide)
 have zb:Sz 120 (q.1-p.1):=(Sz.sub zq.1 zp.1).mono (by decide)
 have zc:Sz 300 ((p.2-q.2)*p.1+(q.1-p.1)*p.2):=(Sz.add (Sz.mul za zp.1) (Sz.mul zb zp.2)).mono (by decide)
 exact NE n ⟨za.mono (by decide),zb.mono (by decide),zc⟩
theorem EH {p:Pt}(z:SzF 115 p):Ml (1,0,p.1) (gp p):=⟨⟨sU (by decide),sV,z.1.mono (by decide)⟩,.inl (show(1:Int)≠0 by decide),by unfold bw gp;simp⟩
theorem NS {p:Pt}(z:SzF 115 p):Ml (0,1,p.2) (gp p):=⟨⟨sV,sU (by decide),z.2.mono (by decide)⟩,.inr (show(1:Int)≠0 by decide),by unfold bw gp;simp⟩
theorem KR {p q:Pt}(zp:SzF 115 p)(zq:SzF 115 q):Lk (gp p) (gp q):=by
 by_cases e:p=q
 ·subst e;exact⟨_,EH zp,EH zp⟩
 ·have za:Sz 120 (p.2-q.2):=(Sz.sub zp.2 zq.2).mono (by decide)
  have zb:Sz 120 (q.1-p.1):=(Sz.sub zq.1 zp.1).mono (by decide)
  have zc:Sz 300 ((p.2-q.2)*p.1+(q.1-p.1)*p.2):=(Sz.add (Sz.mul za zp.1) (Sz.mul zb zp.2)).mono (by decide)
  have n:p.2-q.2≠0\/q.1-p.1≠0:=by
   by_cases a:p.2-q.2=0
   ·exact .inr fun b=>e (Prod.ext (by walk_at "o") (by walk_at "o"))
   ·exact .inl a
  have s:oQ 300 (p.2-q.2,q.1-p.1,(p.2-q.2)*p.1+(q.1-p.1)*p.2):=⟨za.mono (by decide),zb.mono (by decide),zc⟩
  refine⟨(p.2-q.2,q.1-p.1,(p.2-q.2)*p.1+(q.1-p.1)*p.2),⟨s,n,?_⟩,⟨s,n,?_⟩⟩
  ·unfold bw gp;dsimp only;grind
  ·unfold bw gp;dsimp only;grind
theorem gG {S H:List Pt}(O:vx S H)(z:∀ p∈H,SzF 115 p):j9 (H.map gp):=by
 have eF:(H.map gp).map ag=H.map fl:=by rw[List.map_map];exact List.map_congr_left fun p _=>j3 p
 refine⟨fun s hs=>?_,by rw[eF];exact O.reg,fun s hs=>?_,fun k hk=>?_⟩
 ·obtain⟨p,_,rfl⟩:=List.mem_map.mp hs;exact Fi p
 ·obtain⟨p,hp,rfl⟩:=List.mem_map.mp hs;exact⟨_,_,EH (z p hp),NS (z p hp),show(1:Int)*1-0*0≠0 by decide⟩
 ·obtain⟨p,hp,e1⟩:=List.mem_map.mp (lR hk);obtain⟨q,hq,e2⟩:=List.mem_map.mp (List.getElem_mem hk);rw[<-e1,<-e2];exact KR (z p hp) (z q hq)
theorem oz {ps S1:List Pt}(hS:SetOf ps S1)(hne:ps≠[]):vx S1 (bQ S1):=by
 have hn1:S1≠[]:=fun e=>by
  cases ps with
  | nil=>exact hne rfl
  | cons p ps=>have:=hS.2.1 p List.mem_cons_self;rw[e]at this;cases this
 exact GG hS.2.2 hn1
theorem Dy (H:List Pt):(H.map gp).map ag=H.map fl:=by rw[List.map_map];exact List.map_congr_left fun p _=>j3 p
end Law
namespace Law
open L2 DL
set_option maxHeartbeats 4000000
theorem J9 {ps S1:List Pt}(hS:SetOf ps S1)(hz:∀ p∈ps,SzF 115 p)(l:Hf):(∀ p∈bQ S1,0<=a7 l (fl p))↔∀ p∈ps,0<=a7 l (fl p):=by
 cases ps with
 | nil=>
  have e:S1=[]:=by
   cases S1 with
   | nil=>rfl
   | cons p r=>have:=hS.1 p List.mem_cons_self;cases this
  subst e;simp[bQ]
 | cons p0 r=>
  have O:=oz hS (by simp)
  have R:=gG O fun p hp=>hz p (hS.1 p (O.sub p hp));constructor
  ·intro h p hp;have h1:=O.hold p (hS.2.1 p hp);rw[<-Dy]at h1;refine(kC R (show(0:Int)<1 by decide)).mp h1 l fun s hs=>?_
   obtain⟨p',hp',rfl⟩:=List.mem_map.mp hs;rw[j3];exact h p' hp'
  ·intro h p hp;exact h p (hS.1 p (O.sub p hp))
theorem C9 {ps S1:List Pt}(hS:SetOf ps S1)(hne:ps≠[])(hz:∀ p∈ps,SzF 115 p){q:Hf}(zq:0<q.2.2):cu (((bQ S1).map gp).map ag) q↔∀ l:Hf,(∀ p∈ps,0<=a7 l (fl p))->0<=a7 l q:=by
 have O:=oz hS hne;have R:=gG O fun p hp=>hz p (hS.1 p (O.sub p hp));rw[kC R zq];unfold Cv;refine forall_congr' fun l=>?_;rw[<-J9 hS hz l];refine imp_congr ⟨fun h p hp=>?_,fun h s hs=>?_⟩ Iff.rfl
 ·have:=h (gp p) (List.mem_map.mpr ⟨p,hp,rfl⟩)
  rwa [j3]at this
 ·obtain⟨p',hp',rfl⟩:=List.mem_map.mp hs;rw[j3];exact h p' hp'
end Law
namespace Law
open L2 DL
def bE (v f:Pt):Int:=v.1*f.1+v.2*f.2
def fO (u v:Pt):Int:=u.1*v.2-u.2*v.1
def ahead (vs:List Pt)(f:Pt):Nat:=vs.countP fun v=>decide (0<=bE v f)
def EL (w v:Pt):Bool:=decide (0<fO w v\/(fO w v=0/\bE w v<=0))
theorem wL {t x:Int}(ht:0<t)(hx:x<=-1):t*x<=-t:=by
 have:=Int.mul_le_mul_of_nonneg_left hx (Int.le_of_lt ht);omega
theorem wK {t x:Int}(ht:0<t)(hx:1<=x):t<=t*x:=by
 have:=Int.mul_le_mul_of_nonneg_left hx (Int.le_of_lt ht);omega
theorem Pl {t c d:Int}(h1:d<t)(h2:-t<d):0<=t*c+d↔0<c\/(c=0/\0<=d):=by
 have ht:0<t:=by omega
 constructor
 ·intro h
  by_cases h0:c=0
  ·subst h0;rw[Int.mul_zero]at h;exact .inr ⟨rfl,by omega⟩
  ·refine .inl ?_
   by_cases hp:0<c
   ·exact hp
   ·have:=wL ht (show c<=-1 by omega)
    omega
 ·rintro(h|⟨rfl,h⟩)
  ·have:=wK ht (show 1<=c by omega)
   omega
  ·rw[Int.mul_zero];omega
theorem u9 (x:Int):0<=x*x:=by
 rcases Int.le_total 0 x with h|h
 ·exact Int.mul_nonneg h h
 ·exact Int.mul_nonneg_of_nonpos_of_nonpos h h
theorem Ih {x:Int}(h:x≠0):0<x*x:=by
 have:=u9 x;have:x*x≠0:=fun z=>by
  rcases Int.mul_eq_zero.mp z with e|e <;> exact h e
 omega
theorem LY {w g:Pt}(h:bE w g<0):0<w.1*w.1+w.2*w.2:=by
 have a:=u9 w.1 ;have b:=u9 w.2
 by_cases e1:w.1=0
 ·by_cases e2:w.2=0
  ·unfold bE at h;rw[e1,e2]at h;omega
  ·have:=Ih e2;omega
 ·have:=Ih e1;omega
theorem vW (u v w g:Pt):fO u w*bE v g=fO u v*bE w g+fO v w*bE u g:=by
 unfold fO bE;grind
theorem vA (w v g:Pt):bE v g*(w.1*w.1+w.2*w.2)=bE w v*bE w g+fO w v*fO w g:=by
 unfold fO bE;grind
theorem l9 (g:Pt):∀ vs:List Pt,(∀ v∈vs,0<=bE v g)\/∃ w∈vs,bE w g<0/\∀ v∈vs,bE v g<0->fO w v<=0
 | []=>.inl fun v h=>by cases h
 | u::vs=>by
  rcases l9 g vs with h|⟨w,hw,hg,hl⟩
  ·by_cases hu:0<=bE u g
   ·refine .inl fun v hv=>?_
    rcases List.mem_cons.mp hv with z|z
    ·subst z;exact hu
    ·exact h v z
   ·refine .inr ⟨u,List.mem_cons_self,by omega,fun v hv hn=>?_⟩
    rcases List.mem_cons.mp hv with z|z
    ·subst z;have:fO v v=0:=by unfold fO;grind
     omega
    ·have:=h v z;omega
  ·by_cases hu:0<=bE u g
   ·refine .inr ⟨w,List.mem_cons_of_mem _ hw,hg,fun v hv hn=>?_⟩
    rcases List.mem_cons.mp hv with z|z
    ·subst z;omega
    ·exact hl v z hn
   ·by_cases hc:fO w u<=0
    ·refine .inr ⟨w,List.mem_cons_of_mem _ hw,hg,fun v hv hn=>?_⟩
     rcases List.mem_cons.mp hv with z|z
     ·subst z;exact hc
     ·exact hl v z hn
    ·refine .inr ⟨u,List.mem_cons_self,by omega,fun v hv hn=>?_⟩
     rcases List.mem_cons.mp hv with z|z
     ·subst z;have:fO v v=0:=by unfold fO;grind
      omega
     ·have c1:=hl v z hn;have anti:fO u w=-fO w u:=by unfold fO;grind
      have key:=vW u w v g;have p1:0<=fO u w*bE v g:=Int.mul_nonneg_of_nonpos_of_nonpos (by omega) (by omega)
      have p2:0<=fO w v*bE u g:=Int.mul_nonneg_of_nonpos_of_nonpos (by omega) (by omega)
      by_cases hp:fO u v<=0
      ·exact hp
      ·have:=Int.mul_neg_of_pos_of_neg (a:=fO u v) (b:=bE w g) (by omega) hg
       omega
theorem uX {w v g:Pt}(hw:bE w g<0)(hv:bE v g<0)(hc:fO w v<=0):EL w v=false:=by
 unfold EL;rw[decide_eq_false_iff_not];rintro(h|⟨h0,hd⟩)
 ·omega
 ·have key:=vA w v g;rw[h0,Int.zero_mul,Int.add_zero]at key;have p1:=Int.mul_neg_of_neg_of_pos hv (LY hw);have p2:=Int.mul_nonneg_of_nonpos_of_nonpos hd (by omega:bE w g<=0)
  omega
theorem tE (vs:List Pt)(g:Pt):vs.length<=ahead vs g\/∃ w∈vs,w≠(0,0)/\vs.countP (EL w)<=ahead vs g:=by
 rcases l9 g vs with h|⟨w,hw,hg,hl⟩
 ·refine .inl ?_;have:ahead vs g=vs.length:=by
   unfold ahead;rw[List.countP_eq_length];exact fun v hv=>decide_eq_true (h v hv)
  omega
 ·refine .inr ⟨w,hw,fun z=>?_,?_⟩
  ·subst z;unfold bE at hg;simp at hg
  ·unfold ahead;refine List.countP_mono_left fun v hv hp=>?_;rw[decide_eq_true_eq]
   by_cases hn:0<=bE v g
   ·exact hn
   ·rw[uX hg (by omega) (hl v hv (by omega))]at hp
    cases hp
theorem mW (vs:List Pt)(g:Pt):ahead vs g<=vs.length:=List.countP_le_length
def A6 (vs:List Pt)(n:Nat):Prop:=(∃ f:Pt,f≠(0,0)/\ahead vs f=n)/\∀ g:Pt,g≠(0,0)->n<=ahead vs g
theorem BM (vs:List Pt):∃ n,A6 vs n:=by
 have key:∀ (n:Nat) (f:Pt),f≠(0,0)->ahead vs f<=n->∃ m,A6 vs m:=by
  intro n
  induction n with
  | zero=>exact fun f hf h=>⟨0,⟨f,hf,by omega⟩,fun g _=>Nat.zero_le _⟩
  | succ n ih=>
   intro f hf h
   by_cases hx:∃ g:Pt,g≠(0,0)/\ahead vs g<=n
   ·obtain⟨g,h1,h2⟩:=hx;exact ih g h1 h2
   ·refine⟨n+1,⟨f,hf,?_⟩,fun g hg=>?_⟩
    ·have:¬ ahead vs f<=n:=fun z=>hx ⟨f,hf,z⟩;omega
    ·have:¬ ahead vs g<=n:=fun z=>hx ⟨g,hg,z⟩;omega
 exact key vs.length (1,0) (by decide) (mW _ _)
noncomputable def xS (vs:List Pt):Nat:=Classical.choose (BM vs)
theorem lG (vs:List Pt):A6 vs (xS vs):=Classical.choose_spec (BM vs)
theorem oM {u v:Pt}(hu:u≠(0,0))(hc:fO u v=0)(hd:bE u v=0):v=(0,0):=by
 have k1:v.1*(u.1*u.1+u.2*u.2)=0:=by
  have:v.1*(u.1*u.1+u.2*u.2)=u.1*bE u v-u.2*fO u v:=by unfold bE fO;grind
  rw[this,hc,hd];omega
 have k2:v.2*(u.1*u.1+u.2*u.2)=0:=by
  have:v.2*(u.1*u.1+u.2*u.2)=u.2*bE u v+u.1*fO u v:=by unfold bE fO;grind
  rw[this,hc,hd];omega
 have hp:u.1*u.1+u.2*u.2≠0:=fun z=>by
  have a:=u9 u.1;have b:=u9 u.2;apply hu;have e1:u.1=0:=by
   by_cases z:u.1=0
   ·exact z
   ·have:=Ih z;omega
  have e2:u.2=0:=by
   by_cases z:u.2=0
   ·exact z
   ·have:=Ih z;omega
  exact Prod.ext e1 e2
 refine Prod.ext ?_ ?_
 ·rcases Int.mul_eq_zero.mp k1 with z|z
  ·exact z
  ·exact absurd z hp
 ·rcases Int.mul_eq_zero.mp k2 with z|z
  ·exact z
  ·exact absurd z hp
def lf (u v:Pt):Bool:=decide (0<fO u v)
def rg (u v:Pt):Bool:=decide (fO u v<0)
def fo (u v:Pt):Bool:=decide (fO u v=0/\0<bE u v)
def ba (u v:Pt):Bool:=decide (fO u v=0/\bE u v<0)
def nul (v:Pt):Bool:=decide (v=(0,0))
def bound (u:Pt):List Pt->Int
 | []=>1
 | v::r=>1+(bE u v).natAbs+bound u r
theorem pR (u:Pt):∀ vs:List Pt,0<bound u vs
 | []=>by unfold bound;decide
 | v::r=>by have:=pR u r;unfold bound;omega
theorem pQ {u v:Pt}:∀ {vs:List Pt},v∈vs->bE u v<bound u vs/\-bound u vs<bE u v
 | [],h=>by cases h
 | x::r,h=>by
  unfold bound
  rcases List.mem_cons.mp h with z|z
  ·subst z;have:=pR u r;omega
  ·have:=pQ (u:=u) z;omega
theorem iR {p q r s:Pt->Bool}:∀ {vs:List Pt},(∀ v∈vs,(s v=true↔p v=true\/q v=true\/r v=true)/\¬ (p v=true/\q v=true)/\¬ (p v=true/\r v=true)/\¬ (q v=true/\r v=true))->vs.countP s=vs.countP p+vs.countP q+vs.countP r
 | [],_=>rfl
 | v::vs,h=>by
  have ih:=iR (vs:=vs) fun x hx=>h x (List.mem_cons_of_mem _ hx);obtain⟨h1,h2,h3,h4⟩:=h v List.mem_cons_self;rw[List.countP_cons,List.countP_cons,List.countP_cons,List.countP_cons,ih]
  revert h1 h2 h3 h4
  cases s v <;> cases p v <;> cases q v <;> cases r v <;> simp <;> omega
theorem four {u:Pt}(hu:u≠(0,0))(vs:List Pt)(a b:Int)(ha:a=1\/a=-1)(hb:b=1\/b=-1) :
  ∃ g:Pt,g≠(0,0)/\ahead vs g=vs.countP (if a=1 then lf u else rg u)+vs.countP (if b=1 then fo u else ba u)+vs.countP nul:=by
 have dg:∀ v:Pt,bE v (-(a*u.2)*bound u vs+b*u.1,a*u.1*bound u vs+b*u.2)=bound u vs*(a*fO u v)+b*bE u v:=fun v=>by
  unfold bE fO;grind
 refine⟨(-(a*u.2)*bound u vs+b*u.1,a*u.1*bound u vs+b*u.2),fun z=>?_,?_⟩
 ·have:=dg u;rw[z]at this;have c0:fO u u=0:=by unfold fO;grind
  rw[c0]at this;have hd:bE u u=0:=by
   unfold bE at this ⊢
   rcases hb with rfl|rfl <;> simp at this <;> omega
  exact hu (oM hu c0 hd)
 ·unfold ahead;refine iR fun v hv=>?_;obtain⟨b1,b2⟩:=pQ (u:=u) hv;rw[decide_eq_true_eq,dg v];have hh:=Pl (t:=bound u vs) (c:=a*fO u v) (d:=b*bE u v) (by rcases hb with rfl|rfl <;> omega) (by rcases hb with rfl|rfl <;> omega)
  rw[hh];have zw:=oM (v:=v) hu;have nz:v=(0,0)->fO u v=0/\bE u v=0:=fun z=>by subst z;unfold fO bE;simp
  rcases ha with rfl|rfl <;> rcases hb with rfl|rfl <;> simp only[if_true,show ¬ ((-1:Int)=1) by decide,if_false,lf,rg,fo,ba,nul,decide_eq_true_eq] <;> (refine⟨⟨?_,?_⟩,?_,?_,?_⟩) <;> grind
def cA (vs:List Pt)(u:Pt):Nat:=min (vs.countP (lf u)) (vs.countP (rg u))+min (vs.countP (fo u)) (vs.countP (ba u))
theorem zj (vs:List Pt){u:Pt}(hu:u≠(0,0)):xS vs<=vs.countP nul+cA vs u:=by
 have h:=(lG vs).2;obtain⟨g1,n1,e1⟩:=four hu vs 1 1 (.inl rfl) (.inl rfl);obtain⟨g2,n2,e2⟩:=four hu vs 1 (-1) (.inl rfl) (.inr rfl);obtain⟨g3,n3,e3⟩:=four hu vs (-1) 1 (.inr rfl) (.inl rfl);obtain⟨g4,n4,e4⟩:=four hu vs (-1) (-1) (.inr rfl) (.inr rfl);have:=h g1 n1;have:=h g2 n2;have:=h g3 n3;have:=h g4 n4;simp only[if_true,show ¬ ((-1:Int)=1) by decide,if_false]at e1 e2 e3 e4
 unfold cA;omega
theorem w6 {u:Pt}(hu:u≠(0,0))(vs:List Pt):vs.countP (EL u)=vs.countP (lf u)+vs.countP (ba u)+vs.countP nul:=by
 refine iR fun v hv=>?_;have zw:=oM (v:=v) hu;have nz:v=(0,0)->fO u v=0/\bE u v=0:=fun z=>by subst z;unfold fO bE;simp
 simp only[EL,lf,ba,nul,decide_eq_true_eq];refine⟨⟨?_,?_⟩,?_,?_,?_⟩ <;> grind
theorem yu (vs:List Pt):vs.countP nul<=vs.length:=List.countP_le_length
theorem count_is {vs:List Pt}{n:Nat}(hle:n<=vs.length-vs.countP nul)(h1:∀ u∈vs,u≠(0,0)->n<=cA vs u)(h2:n=vs.length-vs.countP nul\/∃ u∈vs,u≠(0,0)/\n=cA vs u):xS vs=vs.countP nul+n:=by
 have hl:=yu vs;have ge:xS vs<=vs.countP nul+n:=by
  rcases h2 with z|⟨u,hu,hn,z⟩
  ·have h:=(lG vs).2 (1,0) (by decide)
   have:=mW vs (1,0);omega
  ·have:=zj vs hn;omega
 obtain⟨f,hf,e⟩:=(lG vs).1;have le:vs.countP nul+n<=xS vs:=by
  rcases tE vs f with z|⟨w,hw,hn,z⟩
  ·omega
  ·rw[w6 hn]at z;have:=h1 w hw hn;unfold cA at this;omega
 omega
end Law
namespace Law
open L2 DL
set_option maxHeartbeats 1000000
def AY (p:Pt):List Hf:=[(1,0,p.1),(-1,0,-p.1),(0,1,p.2),(0,-1,-p.2)]
def fN (ps:List Pt)(h:Hf):Prop:=(∃ p∈ps,h∈AY p)\/∃ p∈ps,∃ q∈ps,p≠q/\h=vm p q
theorem fN.sub {B ps:List Pt}(hs:∀ p∈B,p∈ps){h:Hf}(hb:fN B h):fN ps h:=by
 rcases hb with ⟨p,hp,hh⟩|⟨p,hp,q,hq,hne,e⟩
 ·exact .inl ⟨p,hs p hp,hh⟩
 ·exact .inr ⟨p,hs p hp,q,hs q hq,hne,e⟩
instance Pr (a b:Pt):Decidable (cO a b):=inferInstanceAs (Decidable (_\/_))
def ins (p:Pt):List Pt->List Pt
 | []=>[p]
 | q::l=>if cO p q then p::q::l else if p=q then q::l else q::ins p l
theorem KQ {a b c:Pt} (h1:cO a b) (h2:cO b c):cO a c:=by unfold cO at *;walk_at "o"
theorem GR {a b:Pt}(h1:¬ cO a b)(h2:a≠b):cO b a:=by
 unfold cO at *;have:a.1≠b.1\/a.2≠b.2:=by
  by_cases e:a.1=b.1
  ·right;intro e2;exact h2 (Prod.ext e e2)
  ·exact .inl e
 walk_at "o"
theorem kF (p x:Pt):∀ l:List Pt,x∈ins p l↔x=p\/x∈l
 | []=>by simp[ins]
 | q::l=>by
  unfold ins
  split
  ·simp
  ·split
   ·rename_i e;subst e;simp
   ·simp only[List.mem_cons,kF p x l];exact⟨fun h=>by rcases h with h|h|h <;> simp[h],fun h=>by rcases h with h|h|h <;> simp[h]⟩
theorem De (p:Pt):∀ l:List Pt,l.Pairwise cO->(ins p l).Pairwise cO
 | [],_=>by simp[ins]
 | q::l,h=>by
  unfold ins;have h':=List.pairwise_cons.mp h
  split
  ·rename_i e;exact List.pairwise_cons.mpr ⟨fun x hx=>by
    rcases List.mem_cons.mp hx with rfl|hx
    ·exact e
    ·exact KQ e (h'.1 x hx),h⟩
  ·split
   ·exact h
   ·rename_i e1 e2;refine List.pairwise_cons.mpr ⟨fun x hx=>?_,De p l h'.2⟩
    rcases(kF p x l).mp hx with rfl|hx
    ·exact GR e1 e2
    ·exact h'.1 x hx
theorem LR (B:List Pt):∃ S:List Pt,SetOf B S:=by
 induction B with
 | nil=>exact⟨[],by simp[SetOf]⟩
 | cons p B ih=>
  obtain⟨S,h1,h2,h3⟩:=ih;refine⟨ins p S,fun x hx=>?_,fun x hx=>?_,De p S h3⟩
  ·rcases(kF p x S).mp hx with rfl|hx
   ·exact List.mem_cons_self
   ·exact List.mem_cons_of_mem _ (h1 x hx)
  ·rcases List.mem_cons.mp hx with rfl|hx
   ·exact(kF _ _ S).mpr (.inl rfl)
   ·exact(kF _ _ S).mpr (.inr (h2 x hx))
theorem nX (l:Hf)(p:Pt):a7 l (fl p)=l.1*p.1+l.2.1*p.2-l.2.2:=by unfold a7 fl;simp
theorem wt (h:Hf)(p:Pt):rh h p=true↔0<=a7 h (fl p):=by
 rw[nX];unfold rh;rw[decide_eq_true_eq];walk_at "o"
theorem IB (a b c:Hf):aS b a c=-aS a b c:=by unfold aS;grind
theorem qX (a c:Hf):aS a a c=0:=by unfold aS;grind
theorem IT {L:List aF}(R:j9 L)(h1:1<L.length)(k:Nat)(hk:k<L.length):ci L k hk≠L[k]:=by
 by_cases h3:3<=L.length
 ·rw[eX hk,<-bv hk];exact fun e=>IS (P:=fun i=>ag (gt L i)) h3 (dE R) (bM hk) hk (fv h3 hk).1 (congrArg ag e)
 ·have e2:L.length=2:=by walk_at "o"
  match L,e2,R with
  | [a,b],_,R=>
   have hb:Bf (ag a) (ag b):=eV.mp (R.reg.fst 1 (by simp) (by decide))
   have ne:a≠b:=fun e=>by rw[e]at hb;exact Bf.irr _ hb
   have:k=0\/k=1:=by simp at hk;walk_at "o"
   rcases this with rfl|rfl
   ·exact fun e=>ne e.symm
   ·exact ne
theorem Qm {B S1:List Pt}(hS:SetOf B S1)(hne:B≠[])(hz:∀ p∈B,SzF 110 p){c:Hf}(zc:0<c.2.2)(hc:¬ cu (((bQ S1).map gp).map ag) c) :
  ∃ h,fN B h/\(∀ p∈B,0<=a7 h (fl p))/\a7 h c<0:=by
 have O:=oz hS hne;have R:=gG O fun p hp=>(hz p (hS.1 p (O.sub p hp))).mono3 (by decide)
 rw[Dy]at hc;have inB:∀ p∈bQ S1,p∈B:=fun p hp=>hS.1 p (O.sub p hp);have hold:∀ p∈B,cu ((bQ S1).map fl) (fl p):=fun p hp=>O.hold p (hS.2.1 p hp);have hne':=O.ne;generalize bQ S1=H at *;have hp:0<H.length:=List.length_pos_iff.mpr hne';have hml:(H.map fl).length=H.length:=List.length_map ..
 rcases Nat.lt_or_ge H.length 3 with h3|h3
 ·have g0:(H.map fl)[0]'(by walk_at "o")=fl H[0]:=List.getElem_map ..
  have g1:(H.map fl)[(H.map fl).length-1]'(by walk_at "o")=fl H[H.length-1]:=by
   rw[List.getElem_map];congr 2;walk_at "o"
  have few:∀ p∈B,aS (fl H[0]) (fl H[H.length-1]) (fl p)=0/\¬ cO p H[0]/\¬ cO H[H.length-1] p:=fun p hp=>by
   have:=(hold p hp).few (by walk_at "o")
   rw[g0,g1]at this;exact⟨this.1,fun z=>by rw[(qH _ _).mpr z]at this;exact absurd this.2.1 (by decide),fun z=>by rw[(qH _ _).mpr z]at this;exact absurd this.2.2 (by decide)⟩
  have b0:=inB _ (List.getElem_mem hp);have b1:=inB _ (List.getElem_mem (show H.length-1<H.length by walk_at "o"))
  have hc':¬ (aS (fl H[0]) (fl H[H.length-1]) c=0/\jS c (fl H[0])=false/\jS (fl H[H.length-1]) c=false):=fun z=>hc ⟨by walk_at "o",fun _=>by rw[g0,g1];exact z,fun z=>by walk_at "o"⟩
  generalize H[0]=p0 at *;generalize H[H.length-1]=p1 at *
  by_cases hd:aS (fl p0) (fl p1) c=0
  ·
   have hv:p1.1≠p0.1\/p1.1=p0.1:=by walk_at "o"
   have line:c.1=p0.1*c.2.2->c.2.1≠p0.2*c.2.2->p1.1=p0.1:=fun e1 e2=>by
    have e3:(p1.1-p0.1)*(c.2.1-p0.2*c.2.2)=0:=by
     have:(p1.1-p0.1)*(c.2.1-p0.2*c.2.2)=aS (fl p0) (fl p1) c+(p1.2-p0.2)*(c.1-p0.1*c.2.2):=by unfold aS fl;grind
     rw[this,hd,e1];simp
    rcases Int.mul_eq_zero.mp e3 with h|h
    ·walk_at "o"
    ·exact absurd (by walk_at "o") e2
   have line1:c.1=p1.1*c.2.2->c.2.1≠p1.2*c.2.2->p1.1=p0.1:=fun e1 e2=>by
    have e3:(p1.1-p0.1)*(c.2.1-p1.2*c.2.2)=0:=by
     have:(p1.1-p0.1)*(c.2.1-p1.2*c.2.2)=aS (fl p0) (fl p1) c+(p1.2-p0.2)*(c.1-p1.1*c.2.2):=by unfold aS fl;grind
     rw[this,hd,e1];simp
    rcases Int.mul_eq_zero.mp e3 with h|h
    ·walk_at "o"
    ·exact absurd (by walk_at "o") e2
   by_cases hb:jS c (fl p0)=false
   ·have hb1:jS (fl p1) c=true:=by
     cases hx:jS (fl p1) c with
     | true=>rfl
     | false=>exact absurd ⟨hd,hb,hx⟩ hc'
    unfold jS fl at hb1;simp only[Int.mul_one,ne_eq]at hb1
    split at hb1
    ·rename_i e;have:=of_decide_eq_true hb1;refine⟨(-1,0,-p1.1),.inl ⟨p1,b1,by simp[AY]⟩,fun p hp=>?_,?_⟩
     ·have:=(few p hp).2.2;rw[nX];unfold cO at this;simp only;walk_at "o"
     ·unfold a7;simp only;have e5:=Int.neg_mul p1.1 c.2.2;walk_at "o"
    ·rename_i e;have:=of_decide_eq_true hb1;have ex:=line1 (by walk_at "o") (by walk_at "o")
     refine⟨(0,-1,-p1.2),.inl ⟨p1,b1,by simp[AY]⟩,fun p hp=>?_,?_⟩
     ·have f:=(few p hp).2;rw[nX];unfold cO at f;simp only;walk_at "o"
     ·unfold a7;simp only;have e5:=Int.neg_mul p1.2 c.2.2;walk_at "o"
   ·have hb:jS c (fl p0)=true:=by simpa using hb
    unfold jS fl at hb;simp only[Int.mul_one,ne_eq]at hb
    split at hb
    ·rename_i e;have:=of_decide_eq_true hb;refine⟨(1,0,p0.1),.inl ⟨p0,b0,by simp[AY]⟩,fun p hp=>?_,?_⟩
     ·have:=(few p hp).2.1;rw[nX];unfold cO at this;simp only;walk_at "o"
     ·unfold a7;simp only;walk_at "o"
    ·rename_i e;have:=of_decide_eq_true hb;have ex:=line (by walk_at "o") (by walk_at "o")
     refine⟨(0,1,p0.2),.inl ⟨p0,b0,by simp[AY]⟩,fun p hp=>?_,?_⟩
     ·have f:=(few p hp).2;rw[nX];unfold cO at f;simp only;walk_at "o"
     ·unfold a7;simp only;walk_at "o"
  ·have hne2:p0≠p1:=fun e=>hd (by rw[e];exact qX _ _)
   rcases Int.lt_or_gt_of_ne hd with hl|hg
   ·refine⟨vm p0 p1,.inr ⟨p0,b0,p1,b1,hne2,rfl⟩,fun p hp=>(lZ hne2 _).mpr (by rw[(few p hp).1];decide),?_⟩
    have:=mt (lZ hne2 c).mp (by walk_at "o")
    walk_at "o"
   ·refine⟨vm p1 p0,.inr ⟨p1,b1,p0,b0,hne2.symm,rfl⟩,fun p hp=>(lZ hne2.symm _).mpr (by rw[IB,(few p hp).1];decide),?_⟩
    have:=mt (lZ hne2.symm c).mp (by rw[IB];walk_at "o")
    walk_at "o"
 ·have:∃ k,∃ hk:k<H.length,aS (fl (ci H k hk)) (fl H[k]) c<0:=by
   apply Classical.byContradiction;intro hx;refine hc ⟨by walk_at "o",fun z=>by walk_at "o",fun _ k hk=>?_⟩
   rw[gn,List.getElem_map];have:¬ aS (fl (ci H k (by walk_at "o"))) (fl (H[k]'(by walk_at "o"))) c<0:=fun z=>hx ⟨k,by walk_at "o",z⟩
   walk_at "o"
  obtain⟨k,hk,hlt⟩:=this;have hne2:ci H k hk≠H[k]:=fun e=>by
   have:=IT R (by rw[List.length_map];walk_at "o") k (by rw[List.length_map];exact hk)
   rw[gn,List.getElem_map]at this;exact this (congrArg gp e)
  refine⟨vm (ci H k hk) H[k],.inr ⟨_,inB _ (lR hk),_,inB _ (List.getElem_mem hk),hne2,rfl⟩,fun p hp=>(lZ hne2 _).mpr ?_,?_⟩
  ·have:=(hold p hp).all (by walk_at "o") k (by walk_at "o")
   rwa [gn,List.getElem_map]at this
  ·have:=mt (lZ hne2 c).mp (by walk_at "o")
   walk_at "o"
def lw (h:Hf)(p:Pt):Pt:=(p.1*h.2.2-h.1,p.2*h.2.2-h.2.1)
theorem pJ (c:Hf)(ps:List Pt)(f:Pt):ahead (ps.map (lw c)) f=ps.countP fun p=>decide (0<=bE (lw c p) f):=by
 unfold ahead;rw[List.countP_map];rfl
theorem qR {α:Type}(p:α->Bool)(l:List α):l.countP p+l.countP (fun x=>!p x)=l.length:=by
 induction l with
 | nil=>rfl
 | cons x l ih=>
  rw[List.countP_cons,List.countP_cons,List.length_cons]
  cases p x <;> simp <;> walk_at "o"
theorem Kc {ps:List Pt}{c h:Hf}(zc:0<c.2.2)(hn:h.1≠0\/h.2.1≠0)(ho:a7 h c<0):xS (ps.map (lw c))+i8 h ps<=ps.length:=by
 have hf:((-h.1,-h.2.1):Pt)≠(0,0):=fun e=>by
  have:=Prod.mk.inj e;walk_at "o"
 have h1:=(lG (ps.map (lw c))).2 _ hf;rw[pJ]at h1;have h2:ps.countP (fun p=>decide (0<=bE (lw c p) (-h.1,-h.2.1)))<=ps.countP fun p=>!rh h p:=by
  refine List.countP_mono_left fun p _ hp=>?_;have hp:=of_decide_eq_true hp
  cases hb:rh h p with
  | false=>rfl
  | true=>
   exfalso;rw[wt,nX]at hb;unfold bE lw at hp;unfold a7 at ho;dsimp only at hp;have e:(p.1*c.2.2-c.1)*-h.1+(p.2*c.2.2-c.2.1)*-h.2.1=-(c.2.2*(h.1*p.1+h.2.1*p.2-h.2.2))+(h.1*c.1+h.2.1*c.2.1-h.2.2*c.2.2):=by grind
   rw[e]at hp;have:=Int.mul_nonneg (Int.le_of_lt zc) hb;walk_at "o"
 have h3:=qR (rh h) ps;unfold i8;walk_at "o"
theorem Kb {ps:List Pt}(hz:∀ p∈ps,SzF 110 p){c:Hf}(zc:0<c.2.2){k:Nat}(hk:k<=ps.length)(hk1:1<=k)(hall:∀ h,fN ps h->ps.length+1<=i8 h ps+k->0<=a7 h c):k<=xS (ps.map (lw c)):=by
 apply Classical.byContradiction;intro hlt;obtain⟨⟨f,hf,hd⟩,_⟩:=lG (ps.map (lw c));rw[pJ]at hd
 let B:=ps.filter fun p=>!decide (0<=bE (lw c p) f)
 have hBm:∀ p,p∈B↔p∈ps/\bE (lw c p) f<0:=fun p=>by
  simp only[B,List.mem_filter,Bool.not_eq_true',decide_eq_false_iff_not];constructor
  ·rintro⟨a,b⟩;exact⟨a,by walk_at "o"⟩
  ·rintro⟨a,b⟩;exact⟨a,by walk_at "o"⟩
 have hBl:ps.countP (fun p=>decide (0<=bE (lw c p) f))+B.length=ps.length:=by
  have:=qR (fun p=>decide (0<=bE (lw c p) f)) ps;rw[List.countP_eq_length_filter (p:=fun p=>!decide (0<=bE (lw c p) f))]at this;exact this
 have hBne:B≠[]:=fun e=>by rw[e,List.length_nil]at hBl;walk_at "o"
 obtain⟨S1,hS⟩:=LR B;have hzB:∀ p∈B,SzF 110 p:=fun p hp=>hz p ((hBm p).mp hp).1;have hno:¬ cu (((bQ S1).map gp).map ag) c:=fun hh=>by
  have:=(C9 hS hBne (fun p hp=>(hzB p hp).mono3 (by decide)) zc).mp hh (-(c.2.2*f.1),-(c.2.2*f.2),1-(c.1*f.1+c.2.1*f.2)) fun p hp=>?_
  ·unfold a7 at this;dsimp only at this;have e:-(c.2.2*f.1)*c.1 + -(c.2.2*f.2)*c.2.1-(1-(c.1*f.1+c.2.1*f.2))*c.2.2=-c.2.2:=by grind
   rw[e]at this;walk_at "o"
  ·have h1:=((hBm p).mp hp).2;rw[nX];unfold bE lw at h1;dsimp only at h1 ⊢;have e:-(c.2.2*f.1)*p.1 + -(c.2.2*f.2)*p.2-(1-(c.1*f.1+c.2.1*f.2))=-((p.1*c.2.2-c.1)*f.1+(p.2*c.2.2-c.2.1)*f.2)-1:=by grind
   rw[e];walk_at "o"
 obtain⟨h,hb,hall',ho⟩:=Qm hS hBne hzB zc hno;have hm:B.length<=i8 h ps:=by
  have:B.length=ps.countP fun p=>!decide (0<=bE (lw c p) f):=(List.countP_eq_length_filter ..).symm;rw[this];refine List.countP_mono_left fun p hp hq=>(wt h p).mpr (hall' p ((hBm p).mpr ⟨hp,?_⟩));simp only[Bool.not_eq_true',decide_eq_false_iff_not]at hq;walk_at "o"
 have:=hall h (hb.sub fun p hp=>((hBm p).mp hp).1) (by walk_at "o")
 walk_at "o"
theorem mB {ps:List Pt}(hz:∀ p∈ps,SzF 110 p){h:Hf}(hb:fN ps h):g7 h:=by
 rcases hb with ⟨p,hp,hh⟩|⟨p,hp,q,hq,hne,rfl⟩
 ·have z:=hz p hp;have o0:Sz 300 (0:Int):=sV;have o1:Sz 300 (1:Int):=sU (by decide)
  have o2:Sz 300 (-1:Int):=(sU (n:=300) (by decide)).neg
  simp only[AY,List.mem_cons,List.not_mem_nil,or_false]at hh
  rcases hh with rfl|rfl|rfl|rfl
  ·exact⟨⟨o1,o0,z.1.mono (by decide)⟩,.inl (show(1:Int)≠0 by decide)⟩
  ·exact⟨⟨o2,o0,z.1.neg.mono (by decide)⟩,.inl (show(-1:Int)≠0 by decide)⟩
  ·exact⟨⟨o0,o1,z.2.mono (by decide)⟩,.inr (show(1:Int)≠0 by decide)⟩
  ·exact⟨⟨o0,o2,z.2.neg.mono (by decide)⟩,.inr (show(-1:Int)≠0 by decide)⟩
 ·exact Nd hne (hz p hp) (hz q hq)
theorem Gv {ps:List Pt}(hz:∀ p∈ps,SzF 110 p){c:Hf}(zc:0<c.2.2){k:Nat}(hk:k<=ps.length)(hk1:1<=k):k<=xS (ps.map (lw c))↔∀ h,fN ps h->ps.length+1<=i8 h ps+k->0<=a7 h c:=by
 refine⟨fun hd h hb hm=>?_,Kb hz zc hk hk1⟩
 rcases Int.lt_or_le (a7 h c) 0 with ho|ho
 ·have:=Kc (ps:=ps) zc (mB hz hb).2 ho;walk_at "o"
 ·exact ho
theorem BN {ps S1:List Pt}(hS:SetOf ps S1)(hne:ps≠[])(hz:∀ p∈ps,SzF 110 p){c:Hf}(zc:0<c.2.2){k:Nat}(hk1:1<=k)(hall:∀ h,fN ps h->ps.length+1<=i8 h ps+k->0<=a7 h c):cu (((bQ S1).map gp).map ag) c:=by
 apply Classical.byContradiction;intro hc;obtain⟨h,hb,ha,ho⟩:=Qm hS hne hz zc hc;have hm:i8 h ps=ps.length:=List.countP_eq_length.mpr fun p hp=>(wt h p).mpr (ha p hp);have:=hall h hb (by walk_at "o")
 walk_at "o"
end Law
namespace Law
open L2 DL
set_option maxHeartbeats 1000000
def Fv (G:Hf->Prop)(L:List aF):Prop:=3<=L.length->∀ k (hk:k<L.length),A7 G (ci L k hk) L[k]
theorem wI {p q:aF}(hp:bB p)(hq:bB q)(h1:jS (ag p) (ag q)=false)(h2:jS (ag q) (ag p)=false):p=q:=by
 rw[<-nQ hp hq]at h1;rw[<-nQ hq hp]at h2;unfold sD at h1 h2;have fr:∀ {f g:Fr},mT f->mT g->JY f g=false->JY g f=false->f=g:=fun {f g} hf hg a b=>by
  unfold JY at a b;have a:=of_decide_eq_false a;have b:=of_decide_eq_false b;exact xZ hf hg (by walk_at "o")
 by_cases e:p.1=q.1
 ·rw[if_pos e]at h1;rw[if_pos e.symm]at h2;exact Prod.ext e (fr hp.2 hq.2 h1 h2)
 ·rw[if_neg e]at h1;rw[if_neg fun z=>e z.symm]at h2;exact absurd (fr hp.1 hq.1 h1 h2) e
theorem J4 {h:Hf}{L:List aF}(hh:g7 h)(R:j9 L)(h3:3<=(hV h L).length):3<=L.length:=by
 have C:=qQ hh R
 rcases Nat.lt_or_ge L.length 3 with hl|hl
 ·exfalso;have T:=dX C.reg.reg 0 1 2 (by walk_at "o") (by walk_at "o") (by rw[List.length_map];walk_at "o")
  rw[List.getElem_map,List.getElem_map,List.getElem_map]at T;have f:=fun i (hi:i<(hV h L).length)=>(C.hold _ (List.getElem_mem hi)).1;have oks:=fun i (hi:i<(hV h L).length)=>C.reg.ok _ (List.getElem_mem hi);have f0:=f 0 (by walk_at "o")
  have f1:=f 1 (by walk_at "o")
  have f2:=f 2 (by walk_at "o")
  have o0:=oks 0 (by walk_at "o")
  have o1:=oks 1 (by walk_at "o")
  have o2:=oks 2 (by walk_at "o")
  clear f oks C;generalize (hV h L)[0]=u at *;generalize (hV h L)[1]=v at *;generalize (hV h L)[2]=w at *;clear h3
  rcases L with _|⟨a,_|⟨b,_|⟨c,r⟩⟩⟩
  ·exact absurd f0.ne (by simp)
  ·have oa:=R.ok a List.mem_cons_self;have q0:=(f0.few (by simp)).2
   have q1:=(f1.few (by simp)).2
   have e0:u=a:=wI o0 oa q0.1 q0.2;have e1:v=a:=wI o1 oa q1.1 q1.2;rw[e0,e1,qX]at T;exact absurd T (by decide)
  ·have q0:=(f0.few (by simp)).1
   have q1:=(f1.few (by simp)).1
   have q2:=(f2.few (by simp)).1
   have ne:Bf (ag a) (ag b):=eV.mp (R.reg.fst 1 (by simp) (by decide))
   have nz:(tq (ag a) (ag b)).1≠0\/(tq (ag a) (ag b)).2.1≠0:=by
    apply Classical.byContradiction;intro z;unfold tq at z;simp only[not_or,ne_eq,Classical.not_not]at z;unfold Bf at ne;walk_at "o"
   have g:∀ x:Hf,aS (ag a) (ag b) x=0->a7 (tq (ag a) (ag b)) x=0:=fun x hx=>by rw[gF];exact hx
   have y0:=g _ q0;have y1:=g _ q1;have y2:=g _ q2;unfold a7 at y0 y1 y2;have:=uG nz y0 y1 y2;walk_at "o"
  ·simp at hl;walk_at "o"
 ·exact hl
theorem Dw {G:Hf->Prop}{h:Hf}{L:List aF}(hh:g7 h)(hG:G h)(R:j9 L)(H:Fv G L):Fv G (hV h L):=fun k3 k hk=>by
 have n3:=J4 hh R k3;have ok:∀ i,i<L.length->bB (gt L i):=fun i hi=>by rw[bv hi];exact R.ok _ (List.getElem_mem _)
 have hT:=dE R;have eK:gB h L=(KI h (gt L) L.length L.length).map (·.2.2):=by
  unfold gB;rw[xb];exact mE n3 ok hT _ (Nat.le_refl _)
 have hQh:vw G h:=⟨hG,hh.2⟩;have lkQ:∀ k,k<L.length->A7 G (gt L (aW L.length k)) (gt L k):=fun k hk=>by
  have:=H n3 k hk
  rwa [eX hk,<-bv hk]at this
 have H':=mF hQh (show 0<L.length by walk_at "o") ok lkQ L.length (Nat.le_refl _)
 have e2:aW L.length L.length=L.length-1:=by unfold aW;rw[if_neg (by walk_at "o")]
 rw[e2,<-eK]at H';have cyc:=qV hQh H';have hm0:0<(gB h L).length:=by rw[<-nB hh R];walk_at "o"
 obtain⟨hm,_⟩:=lQ (xN hh R).ok hm0 (gB h L).length (Nat.le_refl _);have hk2:k<(gB h L).length:=by rw[<-nB hh R];exact hk
 have g1:(hV h L)[k]=(gB h L)[oe (gB h L).length (uP (gB h L) (gB h L).length) k]'(jZ hm hk2):=dZ hm hk2;have g2:ci (hV h L) k hk=ci (gB h L) (oe (gB h L).length (uP (gB h L) (gB h L).length) k) (jZ hm hk2):=xf hm hk2;rw[g1,g2];exact cyc _ _
theorem xL {p q:Pt}(hne:p≠q){x:Hf}(h:aS (fl p) (fl q) x=0):a7 (vm p q) x=0:=by
 have h1:=(lZ hne x).mpr (by walk_at "o")
 have h2:=(lZ hne (-x.1,-x.2.1,-x.2.2)).mpr (by
  have:aS (fl p) (fl q) (-x.1,-x.2.1,-x.2.2)=-aS (fl p) (fl q) x:=by unfold aS;grind
  walk_at "o")
 have h3:a7 (vm p q) (-x.1,-x.2.1,-x.2.2)=-a7 (vm p q) x:=by unfold a7;grind
 walk_at "o"
theorem Dv {ps S1:List Pt}(hS:SetOf ps S1)(hne:ps≠[])(hz:∀ p∈ps,SzF 110 p):Fv (fN ps) ((bQ S1).map gp):=fun h3 k hk=>by
 have O:=oz hS hne;have R:=gG O fun p hp=>(hz p (hS.1 p (O.sub p hp))).mono3 (by decide)
 have hn:=IT R (by walk_at "o") k hk
 have hk':k<(bQ S1).length:=by rwa [List.length_map]at hk
 rw[gn,List.getElem_map]at hn ⊢;have hn':ci (bQ S1) k hk'≠(bQ S1)[k]:=fun e=>hn (congrArg gp e);have m1:=hS.1 _ (O.sub _ (lR hk'));have m2:=hS.1 _ (O.sub _ (List.getElem_mem hk'));have b:fN ps (vm (ci (bQ S1) k hk') (bQ S1)[k]):=.inr ⟨_,m1,_,m2,hn',rfl⟩;have nz:=(mB hz b).2;refine⟨_,⟨b,nz,?_⟩,b,nz,?_⟩
 ·rw[<-cB,j3];exact xL hn' (by unfold aS;grind)
 ·rw[<-cB,j3];exact xL hn' (by unfold aS;grind)
theorem zR {G:Hf->Prop}{L:List aF}(R:j9 L)(H:Fv G L)(h3:3<=L.length){D:List Hf}(hD:∀ l,G l->l∈D):L.length<=D.length:=by
 classical
 let f:Nat->Hf:=fun k=>if hk:k<L.length then Classical.choose (H h3 k hk) else (0,0,0)
 have hf:∀ k (hk:k<L.length),Iy G (f k) (gt L (aW L.length k))/\Iy G (f k) (gt L k):=fun k hk=>by
  have:=Classical.choose_spec (H h3 k hk);simp only[f,dif_pos hk];rw[<-eX hk,bv hk];exact this
 have hT:=dE R;have key:∀ i j,i<L.length->j<L.length->i≠j->j≠aW L.length i->f i≠f j:=fun i j hi hj hij hp e=>by
  have pos:0<aS (ag (gt L (aW L.length i))) (ag (gt L i)) (ag (gt L j)):=cZ (P:=fun i=>ag (gt L i)) hT hi hj (fun z=>hij z.symm) hp;have a:=(hf i hi).1.2.2;have b:=(hf i hi).2.2.2;have c:=(hf j hj).2.2.2;rw[<-e]at c;rw[<-cB]at a b c;unfold a7 at a b c;have:=uG (hf i hi).1.2.1 a b c;walk_at "o"
 have nd:((List.range L.length).map f).Nodup:=by
  refine List.pairwise_map.mpr (List.Pairwise.imp_of_mem (fun {i j} hi hj hij e=>?_) List.nodup_range);have hi:=List.mem_range.mp hi;have hj:=List.mem_range.mp hj
  by_cases hp:j=aW L.length i
  ·by_cases hq:i=aW L.length j
   ·have:=(fv h3 hi).2.1;rw[<-hp,<-hq]at this;exact this rfl
   ·exact key j i hj hi (fun z=>hij z.symm) hq e.symm
  ·exact key i j hi hj hij hp e
 have:=List.Nodup.length_le_of_subset nd (l₂:=D) (fun l hl=>by
  obtain⟨k,hk,rfl⟩:=List.mem_map.mp hl;exact hD _ (hf k (List.mem_range.mp hk)).1.1)
 rwa [List.length_map,List.length_range]at this
theorem Gq {G:Hf->Prop}{L:List aF}(R:j9 L)(H:Fv G L)(h3:3<=L.length){M:Int}(hM:∀ l,G l->-M<=l.1/\l.1<=M/\-M<=l.2.1/\l.2.1<=M):∀ s∈L,s.1.2<=2*(M*M)/\s.2.2<=2*(M*M):=fun s hs=>by
 obtain⟨k,hk,rfl⟩:=List.getElem_of_mem hs;have hT:=dE R;obtain⟨k',hk',e⟩:∃ k',k'<L.length/\aW L.length k'=k:=by
  by_cases z:k+1<L.length
  ·exact⟨k+1,z,by unfold aW;rw[if_neg (by walk_at "o")];rfl⟩
  ·exact⟨0,by walk_at "o",by unfold aW;rw[if_pos rfl];walk_at "o"⟩
 obtain⟨l,lp,lq⟩:=H h3 k hk;obtain⟨m,mp,mq⟩:=H h3 k' hk';have e':ci L k' hk'=L[k]:=by rw[eX hk',e,bv hk]
 rw[e']at mp;have ok:=R.ok _ (List.getElem_mem hk);have zs:=dJ ok;have pos:0<aS (ag (gt L (aW L.length k'))) (ag (gt L k')) (ag (gt L (aW L.length k))):=by
  have n1:=(fv h3 hk').2.1;have n2:=(fv h3 hk').2.2;rw[e]at n1 n2;exact cZ (P:=fun i=>ag (gt L i)) hT hk' (bM hk) n1 (by rw[e];exact n2)
 rw[e,bv hk,bv hk',<-eX hk]at pos;have a:=lq.2.2;have b:=lp.2.2;have c:=mp.2.2;have d:=mq.2.2;rw[<-cB]at a b c d;have det:l.1*m.2.1-l.2.1*m.1≠0:=fun z=>by
  have on:a7 m (ag (ci L k hk))=0:=by
   unfold a7 at a b c ⊢
   rcases lp.2.1 with n|n
   ·have w:(l.1*m.2.2-m.1*l.2.2)*(ag L[k]).2.2=0:=by
     have:(l.1*m.2.2-m.1*l.2.2)*(ag L[k]).2.2=(l.1*m.2.1-l.2.1*m.1)*(ag L[k]).2.1-l.1*(m.1*(ag L[k]).1+m.2.1*(ag L[k]).2.1-m.2.2*(ag L[k]).2.2)+m.1*(l.1*(ag L[k]).1+l.2.1*(ag L[k]).2.1-l.2.2*(ag L[k]).2.2):=by grind
     rw[this,z,a,c];simp
    have w':=(Int.mul_eq_zero.mp w).resolve_right (by walk_at "o")
    refine(Int.mul_eq_zero.mp (show l.1*_=0 from ?_)).resolve_left n;have:l.1*(m.1*(ag (ci L k hk)).1+m.2.1*(ag (ci L k hk)).2.1-m.2.2*(ag (ci L k hk)).2.2)=m.1*(l.1*(ag (ci L k hk)).1+l.2.1*(ag (ci L k hk)).2.1-l.2.2*(ag (ci L k hk)).2.2)+(l.1*m.2.1-l.2.1*m.1)*(ag (ci L k hk)).2.1-(l.1*m.2.2-m.1*l.2.2)*(ag (ci L k hk)).2.2:=by grind
    rw[this,z,b,w'];simp
   ·have w:(l.2.1*m.2.2-m.2.1*l.2.2)*(ag L[k]).2.2=0:=by
     have:(l.2.1*m.2.2-m.2.1*l.2.2)*(ag L[k]).2.2=-((l.1*m.2.1-l.2.1*m.1)*(ag L[k]).1)-l.2.1*(m.1*(ag L[k]).1+m.2.1*(ag L[k]).2.1-m.2.2*(ag L[k]).2.2)+m.2.1*(l.1*(ag L[k]).1+l.2.1*(ag L[k]).2.1-l.2.2*(ag L[k]).2.2):=by grind
     rw[this,z,a,c];simp
    have w':=(Int.mul_eq_zero.mp w).resolve_right (by walk_at "o")
    refine(Int.mul_eq_zero.mp (show l.2.1*_=0 from ?_)).resolve_left n;have:l.2.1*(m.1*(ag (ci L k hk)).1+m.2.1*(ag (ci L k hk)).2.1-m.2.2*(ag (ci L k hk)).2.2)=m.2.1*(l.1*(ag (ci L k hk)).1+l.2.1*(ag (ci L k hk)).2.1-l.2.2*(ag (ci L k hk)).2.2)-(l.1*m.2.1-l.2.1*m.1)*(ag (ci L k hk)).1-(l.2.1*m.2.2-m.2.1*l.2.2)*(ag (ci L k hk)).2.2:=by grind
    rw[this,z,b,w'];simp
  unfold a7 at c d on;have:=uG mp.2.1 c d on;walk_at "o"
 have bd:(l.1*m.2.1-l.2.1*m.1).natAbs<=(2*(M*M)).natAbs:=by
  have hl:=hM l lp.1;have hm:=hM m mp.1;have M0:0<=M:=by walk_at "o"
  have mul:∀ x y:Int,-M<=x->x<=M->-M<=y->y<=M->-(M*M)<=x*y/\x*y<=M*M:=fun x y x1 x2 y1 y2=>by
   have a1:=Int.mul_nonneg (show 0<=M-x by walk_at "o") (show 0<=M+y by walk_at "o")
   have a2:=Int.mul_nonneg (show 0<=M+x by walk_at "o") (show 0<=M-y by walk_at "o")
   have a3:=Int.mul_nonneg (show 0<=M+x by walk_at "o") (show 0<=M+y by walk_at "o")
   have a4:=Int.mul_nonneg (show 0<=M-x by walk_at "o") (show 0<=M-y by walk_at "o")
   have e1:(M-x)*(M+y)=M*M+M*y-x*M-x*y:=by grind
   have e2:(M+x)*(M-y)=M*M-M*y+x*M-x*y:=by grind
   have e3:(M+x)*(M+y)=M*M+M*y+x*M+x*y:=by grind
   have e4:(M-x)*(M-y)=M*M-M*y-x*M+x*y:=by grind
   rw[e1]at a1;rw[e2]at a2;rw[e3]at a3;rw[e4]at a4;walk_at "o"
  have b1:=mul l.1 m.2.1 hl.1 hl.2.1 hm.2.2.1 hm.2.2.2;have b2:=mul l.2.1 m.1 hl.2.2.1 hl.2.2.2 hm.1 hm.2.1;have:=Int.mul_nonneg M0 M0;walk_at "o"
 have M2:0<=M*M:=by
  have hl:=hM l lp.1;have M0:0<=M:=by walk_at "o"
  exact Int.mul_nonneg M0 M0
 have dv:∀ {f:Fr}{N:Int},mT f->(l.1*m.2.1-l.2.1*m.1)*f.1=N*f.2->f.2<=2*(M*M):=fun {f N} hf hN=>by
  have d1:f.2 ∣ (l.1*m.2.1-l.2.1*m.1):=kh hf.2 ⟨N,by rw[Int.mul_comm,hN,Int.mul_comm]⟩
  have d2:=Nat.le_of_dvd (by walk_at "o") (Int.natAbs_dvd_natAbs.mpr d1)
  have:=hf.1;walk_at "o"
 unfold a7 ag at a c;dsimp only at a c;have x1:0<L[k].1.2:=ok.1.1;have x2:0<L[k].2.2:=ok.2.1;generalize L[k]=s at *;refine⟨dv ok.1 (N:=l.2.2*m.2.1-m.2.2*l.2.1) ?_,dv ok.2 (N:=l.1*m.2.2-m.1*l.2.2) ?_⟩
 ·refine Int.eq_of_mul_eq_mul_right (a:=s.2.2) (by walk_at "o") ?_
  grind
 ·refine Int.eq_of_mul_eq_mul_right (a:=s.1.2) (by walk_at "o") ?_
  grind
end Law
namespace Law
open L2 DL
set_option maxHeartbeats 4000000
def xx (ps:List Pt)(hs:List Hf):Prop:=(∀ h,h∈hs↔fN ps h)/\hs.length<=70
def Fy (m:Int)(ps:List Pt)(hs:List Hf):List Hf:=hs.filter fun g=>decide (m<=i8 g ps)
def bG:aX:=fun ss R=>∃ p:Pt,ss=[.t (bC p)]/\R (.ol ((AY p).map cE))
def eM:aX:=fun ss R=>∃ ps:List Pt,ss=[.t (.lst (ps.map bC))]/\ps.length<=7/\(∀ p∈ps,SzF 100 p)/\∀ hs:List Hf,xx ps hs->R (.ol (hs.map cE))
def bA:aX:=fun ss R=>∃ (t:T) (ts:List T),ss=[.t (.lst (t::ts))]/\R (.t .non)
def gX:aX:=fun ss R=>∃ (ps:List Pt) (m:Int),ss=[.t (.lst (ps.map bC)),.t (.int m)]/\ps≠[]/\ps.length<=7/\(∀ p∈ps,SzF 100 p)/\∀ hs:List Hf,xx ps hs->R (.ol ((Fy m ps hs).map cE))
def ca:WS:=
 (aH (aN 1 (am aL (ae 0) (wC (.int 0))))
 (aH (aN 2 (am aL (ae 0) (wC (.int 1))))
 (bu (jj (af (eR (af (wC (.int 1)) (af (wC (.int 0)) (af (ae 1) av)))) (af (eR (af (A5 lJ (wC (.int 1))) (af (wC (.int 0)) (af (A5 lJ (ae 1)) av)))) (af (eR (af (wC (.int 0)) (af (wC (.int 1)) (af (ae 2) av)))) (af (eR (af (wC (.int 0)) (af (A5 lJ (wC (.int 1))) (af (A5 lJ (ae 2)) av)))) av))))))))
def iD:WS:=
 (aH (aN 1 (jj av))
 (bH (fJ (b9 (ae 0)) (aU 2) (aH (mN 1 (aD bG (af (ae 2) av)))
 (fJ (b9 (ae 0)) (aU 3) (eZ (wB (AZ (ae 2) (ae 3))) (e9 1 (aD fE (af (ae 2) (af (ae 3) av)))) aY))))
 (bu (k8 (ae 1)))))
def eA:WS:=
 (eZ (wB (qu (eU cD (af (ae 0) av)) (wC (.int 0)))) oD aY)
def lm:WS:=
 (aH (yR (aD bA (af (ae 0) av)))
 (bu (iJ 1 [0,1] (b9 (aD eM (af (ae 0) av))) (aU 0) (wB (Me (aD fH (af (ae 0) (af (ae 1) av))) (ae 2))) (ae 0))))
theorem iN:∀ ss R,bG ss R->ss.length=1:=by rintro ss R ⟨a,rfl,_⟩;rfl
theorem se:∀ ss R,eM ss R->ss.length=1:=by rintro ss R ⟨a,rfl,_⟩;rfl
theorem mn:∀ ss R,bA ss R->ss.length=1:=by rintro ss R ⟨a,b,rfl,_⟩;rfl
theorem wG:∀ ss R,gX ss R->ss.length=2:=by rintro ss R ⟨a,b,rfl,_⟩;rfl
theorem i9:∀ ss R,bG ss R->ca {nx:=fun _=>R (.t .non),rt:=R} (aJ ["point","x","y"] ss):=by
 rintro ss R ⟨⟨x,y⟩,rfl,h⟩;show ca _ [some (.t (.tup [.int x,.int y])),none,none]
 delta ca
 walk_at "dl";exact h
theorem nW:∀ ss R,bA ss R->eA {nx:=fun _=>R (.t .non),rt:=R} (aJ ["points"] ss):=by
 rintro ss R ⟨t,ts,rfl,h⟩;show eA _ [some (.t (.lst (t::ts)))]
 delta eA
 walk_at "dl";rw[if_neg (by omega)]
 exact h
def IJ (h:Hf):List Int:=[h.1,h.2.1,h.2.2]
theorem ue {hs:List Hf}:∀ ns:List (List Int),(∀ k∈ns,k∈hs.map IJ)->∃ gs:List Hf,ns=gs.map IJ/\∀ g∈gs,g∈hs
 | [],_=>⟨[],rfl,fun p hp=>by cases hp⟩
 | k::ns,h=>by
  obtain⟨gs,e,hg⟩:=ue ns fun k hk=>h k (List.mem_cons_of_mem _ hk);obtain⟨p,hp,rfl⟩:=List.mem_map.mp (h k List.mem_cons_self);exact⟨p::gs,by rw[e];rfl,fun q hq=>by
   rcases List.mem_cons.mp hq with rfl|hq
   ·exact hp
   ·exact hg q hq⟩
theorem GF {a b:Hf}(h:IJ a=IJ b):a=b:=by
 unfold IJ at h;simp only[List.cons.injEq,and_true]at h;exact Prod.ext h.1 (Prod.ext h.2.1 h.2.2)
theorem J6 {p:Pt}:∀ {ps:List Pt},p∈ps->ps.countP (fun q=>decide (q≠p))+1<=ps.length:=fun {ps} h=>by
 have h1:=qR (fun q=>decide (q≠p)) ps;have h2:0<ps.countP fun q=>!decide (q≠p):=List.countP_pos_iff.mpr ⟨p,h,by simp⟩
 omega
theorem uS:∀ ss R,eM ss R->iD {nx:=fun _=>R (.t .non),rt:=R} (aJ ["points","found","one","other"] ss):=by
 rintro ss R ⟨ps,rfl,hl,hz,h⟩;show iD _ [some (.t (.lst (ps.map bC))),none,none,none]
 delta iD
 walk_at "dl"
 let M:List Pt->List Hf->Prop:=fun pre hs=>hs.length<=pre.length*10/\(∀ h∈hs,fN ps h)/\∀ p∈pre,(∀ h∈AY p,h∈hs)/\∀ q∈ps,p≠q->vm p q∈hs
 refine⟨fun δ=>∃ (hs:List Hf) (r2 r3:Option S),δ=[some (.t (.lst (ps.map bC))),some (.ol (hs.map cE)),r2,r3]/\M ps hs,?_,?_⟩
 ·refine⟨fun ts δ=>∃ (pre post:List Pt) (hs:List Hf) (r2 r3:Option S),ps=pre++post/\ts=post.map bC/\δ=[some (.t (.lst (ps.map bC))),some (.ol (hs.map cE)),r2,r3]/\M pre hs,⟨[],ps,[],_,_,rfl,rfl,rfl,by simp,fun h hh=>(nomatch hh),fun p hp=>(nomatch hp)⟩,?_,?_⟩
  ·rintro δ ⟨pre,post,hs,r2,r3,e1,e2,rfl,hM⟩;have:post=[]:=by simpa using e2.symm
   subst this;rw[List.append_nil]at e1;subst e1;exact⟨hs,r2,r3,rfl,hM⟩
  ·rintro x ts δ ⟨pre,post,hs,r2,r3,e1,e2,rfl,h1,h2,h3⟩
   cases post with
   | nil=>cases e2
   | cons p post=>
    rw[List.map_cons]at e2
    cases e2
    have hpm:p∈ps:=by rw[e1];simp
    have hpz:SzF 100 p:=hz p hpm;have hln:ps.length=pre.length+(post.length+1):=by rw[e1];simp
    walk_at "dl";refine⟨p,rfl,?_⟩;dsimp only;rw[gf _ (ce (fun _=>rfl) _)];walk_at "dl";refine⟨by simp only[List.length_map];show hs.length+4<100000;omega,?_⟩
    rw[<-List.map_append]
    let N:List Pt->List Hf->Prop:=fun p2 gs=>gs.length<=hs.length+4+p2.countP (fun q=>decide (q≠p))/\(∀ h∈gs,fN ps h)/\(∀ h∈hs,h∈gs)/\(∀ h∈AY p,h∈gs)/\∀ q∈p2,p≠q->vm p q∈gs
    refine⟨fun ts δ=>∃ (p2 q2:List Pt) (gs:List Hf) (r3:Option S),ps=p2++q2/\ts=q2.map bC/\δ=[some (.t (.lst (ps.map bC))),some (.ol (gs.map cE)),some (.t (bC p)),r3]/\N p2 gs,⟨[],ps,hs++AY p,_,rfl,rfl,rfl,by simp[AY],fun h hh=>?_,fun h hh=>List.mem_append_left _ hh,fun h hh=>List.mem_append_right _ hh,fun q hq=>(nomatch hq)⟩,?_,?_⟩
    ·rcases List.mem_append.mp hh with hh|hh
     ·exact h2 h hh
     ·exact .inl ⟨p,hpm,hh⟩
    ·rintro δ ⟨p2,q2,gs,r3,e3,e4,rfl,g1,g2,g3,g4,g5⟩;have:q2=[]:=by simpa using e4.symm
     subst this;rw[List.append_nil]at e3;subst e3;have hc:=J6 hpm;refine⟨pre++[p],post,gs,_,_,by rw[List.append_assoc];exact e1,rfl,rfl,by rw[List.length_append,List.length_singleton];omega,g2,fun p' hp'=>?_⟩
     rcases List.mem_append.mp hp' with hp'|hp'
     ·exact⟨fun h hh=>g3 h ((h3 p' hp').1 h hh),fun q hq hne=>g3 _ ((h3 p' hp').2 q hq hne)⟩
     ·rw[List.mem_singleton.mp hp'];exact⟨g4,g5⟩
    ·rintro x ts δ ⟨p2,q2,gs,r3,e3,e4,rfl,g1,g2,g3,g4,g5⟩
     cases q2 with
     | nil=>cases e4
     | cons q q2=>
      rw[List.map_cons]at e4
      cases e4
      have hqm:q∈ps:=by rw[e3];simp
      have hqz:SzF 100 q:=hz q hqm;have hln2:ps.length=p2.length+(q2.length+1):=by rw[e3];simp
      have hcl:p2.countP (fun q=>decide (q≠p))<=p2.length:=List.countP_le_length;walk_at "dl"
      by_cases hpq:p.1=q.1/\p.2=q.2
      ·rw[decide_eq_true hpq,if_neg (by decide)]
       have epq:q=p:=(Prod.ext hpq.1 hpq.2).symm;refine⟨p2++[q],q2,gs,_,by rw[List.append_assoc];exact e3,rfl,rfl,?_,g2,g3,g4,fun q' hq' hne=>?_⟩
       ·rw[List.countP_append];omega
       ·rcases List.mem_append.mp hq' with hq'|hq'
        ·exact g5 q' hq' hne
        ·rw[List.mem_singleton.mp hq',epq]at hne;exact absurd rfl hne
      ·rw[decide_eq_false hpq,if_pos (by decide)]
       have hne:p≠q:=fun e=>hpq ⟨by rw[e],by rw[e]⟩
       refine⟨p,q,rfl,hne,hpz.mono3 (by decide),hqz.mono3 (by decide),?_⟩
       walk_at "dl";refine⟨by rw[List.length_map];omega,p2++[q],q2,gs++[vm p q],_,by rw[List.append_assoc];exact e3,rfl,by rw[List.map_append];rfl,?_,fun g hg=>?_,fun g hg=>List.mem_append_left _ (g3 g hg),fun g hg=>List.mem_append_left _ (g4 g hg),fun q' hq' hne'=>?_⟩
       ·rw[List.length_append,List.length_singleton,List.countP_append,List.countP_singleton,if_pos (by simpa using hne.symm)];omega
       ·rcases List.mem_append.mp hg with hg|hg
        ·exact g2 g hg
        ·rw[List.mem_singleton.mp hg];exact .inr ⟨p,hpm,q,hqm,hne,rfl⟩
       ·rcases List.mem_append.mp hq' with hq'|hq'
        ·exact List.mem_append_left _ (g5 q' hq' hne')
        ·rw[List.mem_singleton.mp hq'];exact List.mem_append_right _ (List.mem_singleton.mpr rfl)
 ·rintro δ ⟨hs,r2,r3,rfl,h1,h2,h3⟩;walk_at "dl";refine⟨3,hs.map IJ,by decide,by rw[List.map_map];rfl,fun ks hk=>by obtain⟨p,_,rfl⟩:=List.mem_map.mp hk;rfl,by rw[List.length_map];omega,fun ns n1 n2 n3 _=>?_⟩
  obtain⟨gs,rfl,hg⟩:=ue ns n1;have hgl:gs.length<=hs.length:=by
   have:=List.Nodup.length_le_of_subset n3 n1;simpa using this
  have e:(gs.map IJ).map mo=gs.map cE:=by rw[List.map_map];rfl
  rw[e];walk_at "dl";refine h gs ⟨fun g=>⟨fun hg'=>h2 g (hg g hg'),fun hb=>?_⟩,by omega⟩
  have hin:g∈hs:=by
   rcases hb with ⟨p,hp,hh⟩|⟨p,hp,q,hq,hne,rfl⟩
   ·exact(h3 p hp).1 g hh
   ·exact(h3 p hp).2 q hq hne
  obtain⟨g',hg',e'⟩:=List.mem_map.mp (n2 (IJ g) (List.mem_map.mpr ⟨g,hin,rfl⟩));rw[<-GF e'];exact hg'
theorem Gj {ps:List Pt}(hz:∀ p∈ps,SzF 100 p){h:Hf}(hb:fN ps h):oQ 300 h:=(mB (fun p hp=>(hz p hp).mono3 (by decide)) hb).1
theorem As:∀ ss R,gX ss R->lm {nx:=fun _=>R (.t .non),rt:=R} (aJ ["points","many"] ss):=by
 rintro ss R ⟨ps,m,rfl,hne,hl,hz,h⟩;obtain⟨p0,pr,rfl⟩:∃ p0 pr,ps=p0::pr:=by
  cases ps with
  | nil=>exact absurd rfl hne
  | cons a b=>exact⟨a,b,rfl⟩
 show lm _ [some (.t (.lst ((p0::pr).map bC))),some (.t (.int m))]
 delta lm
 generalize hps:p0::pr=ps at *;have hnp:∀ R:S->Prop,R (.t .non)->bA [.t (.lst (ps.map bC))] R:=fun R hR=>⟨bC p0,pr.map bC,by rw[<-hps];rfl,hR⟩
 walk_at "dl";refine hnp _ ?_;walk_at "dl";refine⟨ps,rfl,hl,hz,fun hs hsB=>?_⟩;dsimp only;rw[gf _ (ce (fun _=>rfl) _)];walk_at "dl";have vo:=hsB.2;refine fR (f:=cE) (h:=cE) (p:=fun g=>decide (m<=i8 g ps)) (fun δ=>∃ r,δ=[r,some (.t (.lst (ps.map bC))),some (.t (.int m))]) (fun _ _=>rfl) (by omega) ⟨_,rfl⟩ ?_ ?_
 ·rintro g hg δ ⟨r,rfl⟩ Y N h1 h2;walk_at "dl";refine⟨g,ps,rfl,oA (Gj hz ((hsB.1 g).mp hg)) (by decide),fun p hp=>(hz p hp).mono3 (by decide),by omega,?_⟩
  walk_at "dl"
  split
  ·rename_i hc;exact h1 _ ⟨_,rfl⟩ (by simpa using hc)
  ·rename_i hc;exact h2 _ ⟨_,rfl⟩ (by simpa using hc)
 ·walk_at "dl";exact h hs hsB
end Law
namespace Law
open L2 DL
set_option maxHeartbeats 4000000
structure FH (ps:List Pt) (k:Nat) (L:List aF):Prop where
 reg:j9 L
 hold:∀ q:Hf,0<q.2.2->(cu (L.map ag) q↔k<=xS (ps.map (lw q)))
 len:L.length<=160
 few:3<=L.length->L.length<=70
 lk:Fv (fN ps) L
def gW:aX:=fun ss R=>∃ (ps:List Pt) (k:Nat),ss=[.t (.lst (ps.map bC)),.t (.int (k:Int))]/\ps≠[]/\ps.length<=7/\(∀ p∈ps,SzF 100 p)/\1<=k/\∀ L:List aF,FH ps k L->R (.ol (L.map spT))
def lj:WS:=
 (aH (yR (aD bA (af (ae 0) av)))
 (aH (eZ (wB (ve (ae 1) (wC (.int 1)))) oD aY)
 (aH (eZ (wB (AR (ae 1) (eU cD (af (ae 0) av)))) (bu (jj av)) aY)
 (aH (aN 2 (aD kW (af (ae 0) av)))
 (bH (fJ (b9 (aD gX (af (ae 0) (af (cV (cN (eU cD (af (ae 0) av)) (ae 1)) (wC (.int 1))) av)))) (aU 3) (aN 2 (aD fF (af (ae 2) (af (ae 3) av)))))
 (jP 2))))))
theorem wF:∀ ss R,gW ss R->ss.length=2:=by rintro ss R ⟨a,b,rfl,_⟩;rfl
theorem n9 {L:List aF}(R:j9 L):∀ s∈L,bB s/\fM 700 s:=fun s hs=>⟨R.ok s hs,bP (Nf (R.ok s hs) (R.cn s hs)) (by decide)⟩
theorem Fe {ps S1:List Pt}(h:SetOf ps S1):S1.length<=ps.length:=List.Nodup.length_le_of_subset (pZ h.2.2) h.1
theorem ya (S1:List Pt):(bQ S1).length<=2*S1.length:=by
 unfold bQ
 split
 ·omega
 ·unfold l8;have a1:=kf S1;have a2:=kf S1.reverse;rw[List.length_reverse]at a2;simp only[List.length_append,List.length_dropLast,List.length_reverse];omega
theorem Gw (ps:List Pt)(q:Hf):xS (ps.map (lw q))<=ps.length:=by
 have h:=(lG (ps.map (lw q))).2 (1,0) (by decide)
 have:=mW (ps.map (lw q)) (1,0);rw[List.length_map]at this;omega
theorem HX:j9 ([]:List aF):=⟨fun s hs=>(nomatch hs),⟨fun k hk=>(nomatch hk),fun h=>(nomatch h)⟩,fun s hs=>(nomatch hs),fun k hk=>(nomatch hk)⟩
theorem E4 {ps:List Pt}{k:Nat}(h:ps.length<k):FH ps k []:=by
 refine⟨HX,fun q _=>⟨fun z=>absurd z.ne (by simp),fun z=>?_⟩,by simp,fun h=>by simp at h,fun h=>by simp at h⟩
 have:=Gw ps q;omega
theorem HY {ps S1:List Pt}{k:Nat}(hS:SetOf ps S1)(hne:ps≠[])(h7:ps.length<=7)(hz:∀ p∈ps,SzF 100 p)(hk1:1<=k)(hk:k<=ps.length){hs:List Hf}(hB:xx ps hs){L:List aF}
  (I:vy ((bQ S1).map gp) (Fy ((ps.length:Int)-k+1) ps hs) L) (hl:Fv (fN ps) L):FH ps k L:=by
 have hz':∀ p∈ps,SzF 110 p:=fun p hp=>(hz p hp).mono3 (by decide)
 have mem:∀ h,h∈Fy ((ps.length:Int)-k+1) ps hs↔fN ps h/\ps.length+1<=i8 h ps+k:=fun h=>by
  unfold Fy;rw[List.mem_filter,hB.1,decide_eq_true_eq];exact⟨fun z=>⟨z.1,by omega⟩,fun z=>⟨z.1,by omega⟩⟩
 have sl:(Fy ((ps.length:Int)-k+1) ps hs).length<=70:=Nat.le_trans (List.length_filter_le ..) hB.2;refine⟨I.1,fun q zq=>?_,?_,fun h3=>Nat.le_trans (zR I.1 hl h3 (D:=hs) fun l hl=>(hB.1 l).mpr hl) hB.2,hl⟩
 ·rw[I.2.2 q zq,Gv hz' zq hk hk1];constructor
  ·rintro⟨_,z⟩ h hb hm;exact z h ((mem h).mpr ⟨hb,hm⟩)
  ·intro z;exact⟨BN hS hne hz' zq hk1 z,fun h hh=>z h ((mem h).mp hh).1 ((mem h).mp hh).2⟩
 ·have:=I.2.1;have h1:=ya S1;have h2:=Fe hS;rw[List.length_map]at this;omega
theorem Aq:∀ ss R,gW ss R->lj {nx:=fun _=>R (.t .non),rt:=R} (aJ ["points","k","part","found"] ss):=by
 rintro ss R ⟨ps,k,rfl,hne,hl,hz,hk1,h⟩;obtain⟨p0,pr,rfl⟩:∃ p0 pr,ps=p0::pr:=by
  cases ps with
  | nil=>exact absurd rfl hne
  | cons a b=>exact⟨a,b,rfl⟩
 show lj _ [some (.t (.lst ((p0::pr).map bC))),some (.t (.int (k:Int))),none,none]
 delta lj
 generalize hps:p0::pr=ps at *;have hlen:1<=ps.length:=by rw[<-hps];simp
 have hnp:∀ R:S->Prop,R (.t .non)->bA [.t (.lst (ps.map bC))] R:=fun R hR=>⟨bC p0,pr.map bC,by rw[<-hps];rfl,hR⟩
 walk_at "dl";refine hnp _ ?_;walk_at "dl";rw[if_neg (by omega)]
 walk_at "dl"
 by_cases hkn:ps.length<k
 ·rw[if_pos (by rw[List.length_map];omega)]
  walk_at "dl";exact h [] (E4 hkn)
 rw[if_neg (by rw[List.length_map];omega)]
 walk_at "dl";refine⟨ps,rfl,by omega,fun p hp=>(hz p hp).mono3 (by decide),fun S1 hS1=>?_⟩
 dsimp only;have eL:(bQ S1).map cg=((bQ S1).map gp).map spT:=by rw[List.map_map];rfl
 have g2:∀ l:List aF,got (.ol (l.map spT))=.ol (l.map spT):=fun l=>gf _ (ce (fun _=>rfl) l);rw[eL,g2];walk_at "dl";have hz':∀ p∈ps,SzF 110 p:=fun p hp=>(hz p hp).mono3 (by decide)
 have O:=oz hS1 hne;have R0:j9 ((bQ S1).map gp):=gG O fun p hp=>(hz' p (hS1.1 p (O.sub p hp))).mono3 (by decide)
 have lk0:=Dv hS1 hne hz';have L0l:((bQ S1).map gp).length<=14:=by
  have h1:=ya S1;have h2:=Fe hS1;rw[List.length_map];omega
 let M:aT->Prop:=fun δ=>∃ (hs:List Hf) (L:List aF) (v2:S) (r3:Option S),δ=[some (.t (.lst (ps.map bC))),some (.t (.int (k:Int))),some v2,r3]/\v2=.ol (L.map spT)/\xx ps hs/\vy ((bQ S1).map gp) (Fy ((ps.length:Int)-k+1) ps hs) L/\Fv (fN ps) L
 refine⟨M,?_,?_⟩
 ·refine⟨ps,_,rfl,hne,hl,hz,fun hs hB=>?_⟩;dsimp only;rw[gf _ (ce (fun _=>rfl) _)];walk_at "dl";rw[List.length_map];have hok:∀ g∈Fy ((ps.length:Int)-k+1) ps hs,g7 g/\fN ps g:=fun g hg=>by
   have:=(hB.1 g).mp (List.mem_filter.mp hg).1;exact⟨mB hz' this,this⟩
  have sl:(Fy ((ps.length:Int)-k+1) ps hs).length<=70:=Nat.le_trans (List.length_filter_le ..) hB.2;have hend:∀ (L:List aF) (v2:S) (r3:Option S),v2=.ol (L.map spT)->vy ((bQ S1).map gp) (Fy ((ps.length:Int)-k+1) ps hs) L->Fv (fN ps) L->M [some (.t (.lst (ps.map bC))),some (.t (.int (k:Int))),some v2,r3]:=fun L v2 r3 a b c=>⟨hs,L,v2,r3,rfl,a,hB,b,c⟩;generalize Fy ((ps.length:Int)-k+1) ps hs=st at hok sl hend;refine⟨fun ts δ=>∃ (pre post:List Hf) (L:List aF) (v2:S) (r3:Option S),st=pre++post/\ts=post.map cE/\δ=[some (.t (.lst (ps.map bC))),some (.t (.int (k:Int))),some v2,r3]/\v2=.ol (L.map spT)/\vy ((bQ S1).map gp) pre L/\Fv (fN ps) L,⟨[],st,_,_,_,rfl,rfl,rfl,rfl,Po R0,lk0⟩,?_,?_⟩
  ·rintro δ ⟨pre,post,L,v2,r3,e1,e2,rfl,h2,hI,hL⟩;have:post=[]:=by simpa using e2.symm
   subst this;rw[List.append_nil]at e1;rw[<-e1]at hI;exact hend L v2 r3 h2 hI hL
  ·rintro x ts δ ⟨pre,post,L,v2,r3,e1,e2,rfl,h2,hI,hL⟩
   cases post with
   | nil=>cases e2
   | cons g post=>
    rw[List.map_cons]at e2
    cases e2
    obtain⟨gk,gb⟩:=hok g (by rw[e1];simp)
    have hpl:pre.length<=70:=by
     have:=congrArg List.length e1;simp only[List.length_append,List.length_cons]at this;omega
    have hIl:=hI.2.1;subst h2
    (
     walk_at "dl";refine⟨L,g,rfl,by omega,n9 hI.1,gk.1,?_⟩
     dsimp only;rw[g2];walk_at "dl";exact⟨pre++[g],post,hV g L,_,_,by rw[e1];simp,rfl,rfl,rfl,Df gk hI,Dw gk gb hI.1 hL⟩)
 ·rintro δ ⟨hs,L,v2,r3,rfl,h2,hB,hI,hL⟩;have hR:=h L (HY hS1 hne hl hz hk1 (by omega) hB hI hL)
  subst h2;walk_at "dl";exact hR
end Law
namespace Law
open L2 DL
set_option maxHeartbeats 4000000
theorem JP {α:Type}{f:α->T}{l:List α}{k:Nat}{x:α}{R:S->Prop}(e:l[k]?=some x):atT (l.map f) (k:Int) R=R (.t (f x)):=
 cF (dC (by rw[List.getElem?_map,e];rfl))
theorem ql (k n:Nat):cR (k:Int) (n+1)=.int k::cR ((k+1:Nat):Int) n:=by
 unfold cR;rw[List.range_succ_eq_map,List.map_cons,List.map_map]
 congr 1
 ·simp;intro a _;walk_at "o"
theorem uc {g:WG}{wb:WS}{D:gu}{δ:aT}{n m:Nat}(e:m=n)(I:Nat->aT->Prop)(h0:I 0 δ)(hend:∀ δ,I n δ->D.nx δ)
  (hstep:∀ k δ,k<n->I k δ->g (.int (k:Int)) δ fun δ1=>wb {nx:=I (k+1),rt:=D.rt,bk:=D.nx,ct:=I (k+1)} δ1):wm g wb (cR 0 m) D δ:=by
 subst e;refine⟨fun ts δ=>∃ k j:Nat,ts=cR (k:Int) j/\k+j=m/\I k δ,⟨0,m,rfl,by walk_at "o",h0⟩,?_,?_⟩
 ·rintro δ ⟨k,j,e,hk,h⟩
  cases j with
  | zero=>exact hend δ (by rw[Nat.add_zero]at hk;rw[<-hk];exact h)
  | succ j=>rw[ql]at e;cases e
 ·rintro x r δ ⟨k,j,e,hk,h⟩
  cases j with
  | zero=>cases e
  | succ j=>
   rw[ql]at e;obtain⟨rfl,rfl⟩:=List.cons.inj e;have q:=hstep k δ (by walk_at "o") h
   have z:I (k+1)=fun δ=>∃ k' j':Nat,cR ((k+1:Nat):Int) j=cR (k':Int) j'/\k'+j'=m/\I k' δ:=by
    funext δ'
    refine propext ⟨fun hi=>⟨k+1,j,rfl,by walk_at "o",hi⟩,?_⟩
    rintro⟨k',j',e',hk',hi⟩;have:=congrArg List.length e';rw[kE,kE]at this;have:k'=k+1:=by walk_at "o"
    rw[<-this];exact hi
   show g _ δ fun δ1=>wb {nx:=fun δ=>∃ k' j':Nat,cR ((k+1:Nat):Int) j=cR (k':Int) j'/\k'+j'=m/\I k' δ,rt:=D.rt,bk:=D.nx,ct:=fun δ=>∃ k' j':Nat,cR ((k+1:Nat):Int) j=cR (k':Int) j'/\k'+j'=m/\I k' δ} δ1;rw[<-z];exact q
theorem LU {i:Nat}{δ:aT}{N:aT->Prop}{vs:List Int}{x:Int}{j:Nat}(h:j<vs.length):AK i δ N (vs.map .int) (.t (.int x)) (.t (.int (j:Int)))=N (δ.set i (some (.ol ((vs.set j x).map .int)))):=by
 have:pz (vs.map T.int).length (j:Int)=some j:=by unfold pz;rw[if_pos (by walk_at "o"),if_pos (by rw[List.length_map];walk_at "o")];rfl
 show(match pz _ _ with|some j=>_|none=>False)=_
 rw[this,List.map_set]
abbrev big:Int:=1000000000000000000000000000000000000000000000000000000000007
theorem mw:(0:Int)<big:=by decide
def oN (x:Int):Prop:=-1000000000000000000<=x/\x<=1000000000000000000
theorem BU {x:Int} (h:oN x):Sz 60 x:=by unfold oN at h;exact Sz.of (by walk_at "o") (by walk_at "o")
def dI:aX:=fun ss R=>∃ (ns:List Int) (m:Nat),ss=[.t (.lst (ns.map .int)),.t (.int (m:Int))]/\ns.length<=63/\0<m/\m<=100/\∀ vs:List Int,vs.length=m->(∀ v∈vs,0<=v/\v<big)->R (.ol (vs.map .int))
def fG:aX:=fun ss R=>∃ n b k:Int,ss=[.t (.int n),.t (.int b),.t (.int k)]/\b=5/\0<=k/\k<1000/\∀ v:Int,R (.t (.int v))
def eQ:aX:=fun ss R=>∃ (hd:List Int) (m:Int),ss=[.t (.lst (hd.map .int)),.t (.int m)]/\4+m<=hd.length/\(∀ v∈hd,0<=v/\v<big)/\1<=m/\m<=8/\∀ ps:List Pt,ps.length=m.toNat->(∀ p∈ps,oN p.1/\oN p.2)->R (.ol (ps.map bC))
def bh:aX:=fun ss R=>∃ a b:Int,ss=[.t (.int a),.t (.int b)]/\0<b/\Sz 900000 a/\Sz 9000 b/\R (.t (zS (o8 a b)))
def bS:aX:=fun ss R=>∃ (vs:List Pt) (w:Pt),ss=[.t (.lst (vs.map bC)),.t (bC w)]/\vs.length<=1000/\(∀ v∈vs,SzF 500000 v)/\SzF 500000 w/\R (.t (.int (cA vs w)))
def jQ (s:aF)(ps:List Pt):List Pt:=ps.map (lw (ag s))
def cJ:aX:=fun ss R=>∃ (ps:List Pt) (s:aF),ss=[.t (.lst (ps.map bC)),.t (spT s)]/\ps.length<=1000/\(∀ p∈ps,SzF 120 p)/\fM 200000 s/\R (.t (.int (xS (ps.map (lw (ag s))))))
def fj:aX:=fun ss R=>∃ (ps:List Pt) (n:Int),ss=[.t (.lst (ps.map bC)),.t (.int n)]/\ps≠[]/\ps.length<=1000/\(∀ p∈ps,SzF 100 p)/\∀ s:aF,bB s->fM 119 s->R (.t (spT s))
def fX:WS:=
 (aH (aN 2 (iJ 1 [] (fL (af (ae 1) av)) (aU 0) vh (wC (.int 0))))
 (bH (fJ (fL (af (eU t6 (af (ae 1) (af (eU kz (af (eU cD (af (ae 0) av)) (af (wC (.int 63)) av))) av))) av)) (aU 3) (aH (aN 4 (wC (.int 0)))
 (bH (eZ (wB (AR (eU cD (af (ae 0) av)) (wC (.int 0)))) (aN 4 (dM (am aL (ae 0) (dM (ae 3) (eU kz (af (eU cD (af (ae 0) av)) (af (wC (.int 63)) av))))) (cV (sY (wC (.int 10)) (wC (.int 60))) (wC (.int 7))))) aY)
 (aH (aN 5 (dM (ae 3) (ae 1)))
 (jl 2 (ae 5) (dM (cV (cV (bj (am aL (ae 2) (ae 5)) (wC (.int 48271))) (ae 4)) (bj (ae 3) (ae 3))) (cV (sY (wC (.int 10)) (wC (.int 60))) (wC (.int 7)))))))))
 (jP 2)))
def jz:WS:=
 (bH (fJ (fL (af (ae 2) av)) (aU 3) (aN 0 (c9 (ae 0) (ae 1))))
 (bu (dM (ae 0) (ae 1))))
def iG:WS:=
 (aH (aN 2 (jj av))
 (aH (aN 3 (dM (am aL (ae 0) (wC (.int 0))) (wC (.int 8))))
 (bH (fJ (fL (af (ae 1) av)) (aU 4) (aH (aN 5 (am aL (ae 0) (cV (wC (.int 4)) (ae 4))))
 (aH (aN 6 (cN (dM (ae 5) (wC (.int 7))) (wC (.int 3))))
 (aH (aN 7 (cN (dM (c9 (ae 5) (wC (.int 7))) (wC (.int 7))) (wC (.int 3))))
 (bH (eZ (wB (qu (ae 3) (wC (.int 1)))) (aN 7 (cN (bj (wC (.int 2)) (ae 6)) (wC (.int 1)))) aY)
 (bH (eZ (wB (qu (ae 3) (wC (.int 2)))) (aN 6 (wC (.int 1))) aY)
 (bH (eZ (wB (qu (ae 3) (wC (.int 3)))) (Ip 6 7 (af (cN (dM (ae 5) (wC (.int 3))) (wC (.int 1))) (af (cN (dM (c9 (ae 5) (wC (.int 3))) (wC (.int 3))) (wC (.int 1))) av))) aY)
 (bH (eZ (wB (AR (ae 3) (wC (.int 5)))) (aH (aN 6 (cN (dM (ae 5) (cV (bj (wC (.int 2)) (sY (wC (.int 10)) (wC (.int 18)))) (wC (.int 1)))) (sY (wC (.int 10)) (wC (.int 18)))))
 (aN 7 (cN (dM (bj (ae 5) (wC (.int 69621))) (cV (bj (wC (.int 2)) (sY (wC (.int 10)) (wC (.int 18)))) (wC (.int 1)))) (sY (wC (.int 10)) (wC (.int 18)))))) aY)
 (bH (eZ (yS (ji (wB (AR (ae 4) (wC (.int 0)))) (wB (qu (aD fG (af (am aL (ae 0) (wC (.int 1))) (af (wC (.int 5)) (af (ae 4) av)))) (wC (.int 1)))))) (Ir (am aL (ae 2) (cN (ae 4) (wC (.int 1)))) (qw (fK (aU 6) (fK (aU 7) mf)))) aY)
 (e9 2 (eR (af (ae 6) (af (ae 7) av)))))))))))))
 (jP 2))))
def fc:WS:=
 (aH (aN 2 (aD cq (af (ae 0) (af (ae 1) av))))
 (bu (eR (af (c9 (ae 0) (ae 2)) (af (c9 (ae 1) (ae 2)) av)))))
def cW:WS:=
 (aH (aN 2 (wC (.int 0)))
 (aH (aN 3 (wC (.int 0)))
 (aH (aN 4 (wC (.int 0)))
 (aH (aN 5 (wC (.int 0)))
 (bH (fJ (b9 (ae 0)) (aU 6) (aH (aN 7 (cN (bj (am aL (ae 1) (wC (.int 0))) (am aL (ae 6) (wC (.int 1)))) (bj (am aL (ae 1) (wC (.int 1))) (am aL (ae 6) (wC (.int 0))))))
 (aH (aN 8 (cV (bj (am aL (ae 1) (wC (.int 0))) (am aL (ae 6) (wC (.int 0)))) (bj (am aL (ae 1) (wC (.int 1))) (am aL (ae 6) (wC (.int 1))))))
 (bH (eZ (wB (AR (ae 7) (wC (.int 0)))) (aN 2 (cV (ae 2) (wC (.int 1)))) aY)
 (bH (eZ (wB (ve (ae 7) (wC (.int 0)))) (aN 3 (cV (ae 3) (wC (.int 1)))) aY)
 (bH (eZ (yS (ji (wB (qu (ae 7) (wC (.int 0)))) (wB (AR (ae 8) (wC (.int 0)))))) (aN 4 (cV (ae 4) (wC (.int 1)))) aY)
 (eZ (yS (ji (wB (qu (ae 7) (wC (.int 0)))) (wB (ve (ae 8) (wC (.int 0)))))) (aN 5 (cV (ae 5) (wC (.int 1)))) aY)))))))
 (bu (cV (eU kz (af (ae 2) (af (ae 3) av))) (eU kz (af (ae 4) (af (ae 5) av))))))))))
def jy:WS:=
 (aH (Ir (ae 1) (qw (fK (aU 2) (fK (aU 3) mf))))
 (aH (aN 4 (jj av))
 (bH (fJ (b9 (ae 0)) (aU 5) (aH (aN 6 (bj (cN (bj (am aL (ae 5) (wC (.int 0))) (am aL (ae 2) (wC (.int 1)))) (am aL (ae 2) (wC (.int 0)))) (am aL (ae 3) (wC (.int 1)))))
 (e9 4 (eR (af (ae 6) (af (bj (cN (bj (am aL (ae 5) (wC (.int 1))) (am aL (ae 3) (wC (.int 1)))) (am aL (ae 3) (wC (.int 0)))) (am aL (ae 2) (wC (.int 1)))) av))))))
 (aH (aN 7 (eU cD (af (iJ 1 [] (b9 (ae 4)) (aU 0) (wB (qu (ae 0) (eR (af (wC (.int 0)) (af (wC (.int 0)) av))))) (ae 0)) av)))
 (aH (aN 8 (cN (eU cD (af (ae 0) av)) (ae 7)))
 (bH (fJ (b9 (ae 4)) (aU 9) (eZ (wB (AZ (ae 9) (eR (af (wC (.int 0)) (af (wC (.int 0)) av))))) (aN 8 (eU kz (af (ae 8) (af (aD bS (af (ae 4) (af (ae 9) av))) av)))) aY))
 (bu (cV (ae 7) (ae 8)))))))))
def lg:WS:=
 (aH (aN 2 (dM (ae 1) (wC (.int 5))))
 (aH (aN 3 (am aL (ae 0) (dM (c9 (ae 1) (wC (.int 5))) (eU cD (af (ae 0) av)))))
 (aH (aN 4 (am aL (ae 0) (dM (c9 (ae 1) (wC (.int 60))) (eU cD (af (ae 0) av)))))
 (aH (aN 5 (am aL (ae 0) (dM (c9 (ae 1) (wC (.int 720))) (eU cD (af (ae 0) av)))))
 (aH (eZ (wB (qu (ae 2) (wC (.int 0)))) (bu (eR (af (eR (af (am aL (ae 3) (wC (.int 0))) (af (wC (.int 1)) av))) (af (eR (af (am aL (ae 3) (wC (.int 1))) (af (wC (.int 1)) av))) av)))) aY)
 (aH (eZ (wB (qu (ae 2) (wC (.int 1)))) (bu (eR (af (aD bh (af (cV (am aL (ae 3) (wC (.int 0))) (am aL (ae 4) (wC (.int 0)))) (af (wC (.int 2)) av))) (af (aD bh (af (cV (am aL (ae 3) (wC (.int 1))) (am aL (ae 4) (wC (.int 1)))) (af (wC (.int 2)) av))) av)))) aY)
 (aH (aN 6 (jj (af (cN (dM (c9 (ae 1) (wC (.int 8640))) (wC (.int 7))) (wC (.int 1))) (af (cN (dM (c9 (ae 1) (wC (.int 60480))) (wC (.int 7))) (wC (.int 1))) (af (cV (dM (c9 (ae 1) (wC (.int 423360))) (wC (.int 7))) (wC (.int 3))) av)))))
 (bH (eZ (wB (qu (ae 2) (wC (.int 2)))) (aH (jl 6 (wC (.int 2)) (wC (.int 0)))
 (jl 6 (wC (.int 1)) (cN (wC (.int 7)) (am aL (ae 6) (wC (.int 0)))))) aY)
 (aH (aN 7 (eU wj (af (ae 6) av)))
 (aH (aN 8 (cV (cV (bj (am aL (ae 6) (wC (.int 0))) (am aL (ae 3) (wC (.int 0)))) (bj (am aL (ae 6) (wC (.int 1))) (am aL (ae 4) (wC (.int 0))))) (bj (am aL (ae 6) (wC (.int 2))) (am aL (ae 5) (wC (.int 0))))))
 (aH (aN 9 (cV (cV (bj (am aL (ae 6) (wC (.int 0))) (am aL (ae 3) (wC (.int 1)))) (bj (am aL (ae 6) (wC (.int 1))) (am aL (ae 4) (wC (.int 1))))) (bj (am aL (ae 6) (wC (.int 2))) (am aL (ae 5) (wC (.int 1))))))
 (bu (eR (af (aD bh (af (ae 8) (af (ae 7) av))) (af (aD bh (af (ae 9) (af (ae 7) av))) av)))))))))))))))
theorem nM:∀ ss R,bh ss R->ss.length=2:=by rintro ss R ⟨a,b,rfl,_⟩;rfl
theorem jX:∀ ss R,bS ss R->ss.length=2:=by rintro ss R ⟨a,b,rfl,_⟩;rfl
theorem uA:∀ ss R,cJ ss R->ss.length=2:=by rintro ss R ⟨a,b,rfl,_⟩;rfl
theorem wz:∀ ss R,fj ss R->ss.length=2:=by rintro ss R ⟨a,b,rfl,_⟩;rfl
theorem pC:∀ ss R,dI ss R->ss.length=2:=by rintro ss R ⟨_,_,rfl,_⟩;rfl
theorem uB:∀ ss R,fG ss R->ss.length=3:=by rintro ss R ⟨a,b,c,rfl,_⟩;rfl
theorem sk:∀ ss R,eQ ss R->ss.length=2:=by rintro ss R ⟨a,b,rfl,_⟩;rfl
theorem Ie {vs:List Int}{P:Int->Prop}{j:Nat}{x:Int}(h:∀ v∈vs,P v)(hx:P x):∀ v∈vs.set j x,P v:=fun v hv=>by
 rcases List.mem_or_eq_of_mem_set hv with z|z
 ·exact h v z
 ·rw[z];exact hx
theorem Ia (m:Nat):(List.range m).map (fun _=>T.int 0)=(List.replicate m (0:Int)).map T.int:=by
 rw[List.map_replicate];exact List.eq_replicate_iff.mpr ⟨by simp,fun b hb=>by simp at hb;exact hb.2.symm⟩
theorem sL:∀ ss R,dI ss R->fX {nx:=fun _=>R (.t .non),rt:=R} (aJ ["_law_script","_law_many","_law_found","_law_k","_law_cell","_law_at"] ss):=by
 rintro ss R ⟨ns,m,rfl,hl,m0,m1,h⟩;show fX _ [some (.t (.lst (ns.map .int))),some (.t (.int (m:Int))),none,none,none,none]
 delta fX
 walk_at "dl";refine⟨kN (by walk_at "o") (by walk_at "o"),?_⟩
 rw[Int.toNat_natCast];refine nc (f:=fun k:Nat=>.int (0+(k:Int))) (h:=fun _=>.int 0) (l:=List.range m) (fun δ=>∃ r,δ=[r]) (fun _ _=>rfl) (by rw[List.length_range];walk_at "o") ⟨_,rfl⟩ ?_ ?_
 ·rintro k hk δ ⟨r,rfl⟩ Y hY;walk_at "dl";exact hY _ ⟨_,rfl⟩
 rw[Ia]
 let I:aT->Prop:=fun δ=>∃ (vs:List Int) (r3 r4 r5:Option S),δ=[some (.t (.lst (ns.map .int))),some (.t (.int (m:Int))),some (.ol (vs.map .int)),r3,r4,r5]/\vs.length=m/\∀ v∈vs,0<=v/\v<big
 have i0:∀ v∈List.replicate m (0:Int),0<=v/\v<big:=fun v hv=>by
  rw[List.eq_of_mem_replicate hv];decide
 refine⟨I,?_,?_⟩
 ·walk_at "dl";simp only[List.length_map];refine⟨kN (by(repeat' split) <;> walk_at "o") (by(repeat' split) <;> walk_at "o"),uc rfl (fun _=>I) ⟨_,_,_,_,rfl,by simp,i0⟩ (fun _ z=>z) ?_⟩
  rintro k δ hk ⟨vs,r3,r4,r5,rfl,vl,hv⟩;have hk:k<1000:=by revert hk;(repeat' split) <;> walk_at "o"
  walk_at "dl"
  try simp only[List.length_map]
  refine⟨fun δ=>∃ c:Int,δ=[some (.t (.lst (ns.map .int))),some (.t (.int (m:Int))),some (.ol (vs.map .int)),some (.t (.int k)),some (.t (.int c)),r5]/\0<=c/\c<big,?_,?_⟩
  ·walk_at "dl"
   try simp only[List.length_map]
   split
   ·rename_i c;have hq:∃ q:Int,(if 63<(ns.length:Int) then (63:Int) else ns.length)=q/\0<q/\q<=ns.length:=⟨_,rfl,by split <;> walk_at "o",by split <;> walk_at "o"⟩
    obtain⟨q,eq,q0,q1⟩:=hq;rw[eq];have f1:=fmod_lo (k:Int) q0;have f2:=fmod_hi (k:Int) q0;walk_at "dl";refine⟨by walk_at "o",Bn f1 (by walk_at "o") fun v _=>?_⟩
    walk_at "dl";refine⟨ES (by decide) (by decide) (by decide),by decide,?_⟩
    exact⟨v.fmod big,rfl,fmod_lo v mw,fmod_hi v mw⟩
   ·exact⟨0,rfl,by decide,by decide⟩
  rintro δ ⟨c,rfl,c0,c1⟩;have ea:(k:Int).fmod (m:Int)=((k % m:Nat):Int):=nD k m;have hj:k % m<vs.length:=by rw[vl];exact Nat.mod_lt _ m0
  have ev:vs[k % m]?=some (vs[k % m]'hj):=List.getElem?_eq_getElem _;generalize vs[k % m]'hj=v at ev;walk_at "dl";refine⟨by walk_at "o",?_⟩
  rw[ea];rw[g9 (dC (show(vs.map T.int)[k % m]?=some (.int v) by rw[List.getElem?_map,ev];rfl))]
  walk_at "dl";refine⟨NL (by decide) (by decide),G1 (by walk_at "o") (by walk_at "o"),ES (by decide) (by decide) (by decide),by decide,?_⟩
  rw[LU hj];exact⟨_,_,_,_,rfl,by rw[List.length_set];exact vl,Ie hv ⟨fmod_lo (n:=big) _ mw,fmod_hi (n:=big) _ mw⟩⟩
 ·rintro δ ⟨vs,r3,r4,r5,rfl,vl,hv⟩;walk_at "dl";exact h vs vl hv
theorem wX:∀ ss R,fG ss R->jz {nx:=fun _=>R (.t .non),rt:=R} (aJ ["_law_number","_law_base","_law_place","_law_k"] ss):=by
 rintro ss R ⟨n,b,k,rfl,rfl,k0,k1,h⟩;show jz _ [some (.t (.int n)),some (.t (.int 5)),some (.t (.int k)),none]
 delta jz
 walk_at "dl";refine⟨fun δ=>∃ (v:Int) (r:Option S),δ=[some (.t (.int v)),some (.t (.int 5)),some (.t (.int k)),r],?_,?_⟩
 ·walk_at "dl";refine⟨kN (by walk_at "o") (by walk_at "o"),fun ts δ=>∃ (v:Int) (r:Option S),δ=[some (.t (.int v)),some (.t (.int 5)),some (.t (.int k)),r],⟨_,_,rfl⟩,fun _ q=>q,?_⟩
  rintro t ts δ ⟨v,r,rfl⟩;walk_at "dl";exact⟨BO (by decide) (by decide +kernel),_,_,rfl⟩
 rintro δ ⟨v,r,rfl⟩;walk_at "dl";exact⟨by decide,h _⟩
theorem x9 {hd:List Int}{i:Nat}{R:S->Prop}(hi:i<hd.length)(hb:∀ v∈hd,0<=v/\v<big)(h:∀ v,0<=v->v<big->R (.t (.int v))):atT (hd.map T.int) (i:Int) R:=by
 have e:hd[i]?=some (hd[i]'(by walk_at "o")):=List.getElem?_eq_getElem _
 rw[JP e];have:=hb _ (List.mem_of_getElem? e);exact h _ this.1 this.2
theorem nF {hd:List Int}{i:Nat}{R:S->Prop}(hi:i<hd.length)(hb:∀ v∈hd,0<=v/\v<big)(h:∀ v,0<=v->v<big->R (.t (.int v))):vk (hd.map T.int) (i:Int) R:=by
 have e:hd[i]?=some (hd[i]'(by walk_at "o")):=List.getElem?_eq_getElem _
 rw[g9 (dC (show(hd.map T.int)[i]?=some (.int _) by rw[List.getElem?_map,e];rfl))]
 have:=hb _ (List.mem_of_getElem? e);exact h _ this.1 this.2
theorem JQ {l:List Pt}{k:Nat}{x:Pt}{R:S->Prop}(e:l[k]?=some x):vk (l.map bC) (k:Int) R=R (.t (bC x)):=by
 rw[g9 (dC (x:=bC x) (by rw[List.getElem?_map,e];rfl))];rfl
theorem uV:∀ ss R,eQ ss R->iG {nx:=fun _=>R (.t .non),rt:=R} (aJ ["_law_head","_law_many","_law_found","_law_way","_law_k","_law_number","_law_x","_law_y"] ss):=by
 rintro ss R ⟨hd,m,rfl,hl,hb,m0,m1,h⟩;have dummy:Sz 1 0:=⟨by decide⟩
 show iG _ [some (.t (.lst (hd.map .int))),some (.t (.int m)),none,none,none,none,none,none]
 delta iG
 walk_at "dl";refine x9 (i:=0) (by walk_at "o") hb fun v0 _ _=>?_
 walk_at "go";generalize v0.fmod 8=way
 let M (n:Nat):aT->Prop:=fun δ=>∃ (ps:List Pt) (r4 r5 r6 r7:Option S),δ=[some (.t (.lst (hd.map .int))),some (.t (.int m)),some (.ol (ps.map bC)),some (.t (.int way)),r4,r5,r6,r7]/\ps.length=n/\∀ p∈ps,oN p.1/\oN p.2
 refine⟨M m.toNat,?_,?_⟩
 ·walk_at "dl";refine⟨kN (by walk_at "o") (by walk_at "o"),uc rfl M ⟨[],_,_,_,_,rfl,rfl,fun p hp=>by cases hp⟩ (fun _ z=>z) ?_⟩
  rintro k δ hk ⟨ps,r4,r5,r6,r7,rfl,pl,hs⟩;have hk8:k<8:=by walk_at "o"
  walk_at "dl";rw[show(4+(k:Int))=((4+k:Nat):Int) by walk_at "o"]
  refine x9 (i:=4+k) (by walk_at "o") hb fun v v0 v1=>?_
  have a1:=fmod_lo v (n:=7) (by decide)
  have a2:=fmod_hi v (n:=7) (by decide)
  have a3:=fmod_lo (v.fdiv 7) (n:=7) (by decide)
  have a4:=fmod_hi (v.fdiv 7) (n:=7) (by decide)
  have b1:=fmod_lo v (n:=3) (by decide)
  have b2:=fmod_hi v (n:=3) (by decide)
  have b3:=fmod_lo (v.fdiv 3) (n:=3) (by decide)
  have b4:=fmod_hi (v.fdiv 3) (n:=3) (by decide)
  have c1:=fmod_lo v (n:=2000000000000000001) (by decide)
  have c2:=fmod_hi v (n:=2000000000000000001) (by decide)
  have c3:=fmod_lo (v*69621) (n:=2000000000000000001) (by decide)
  have c4:=fmod_hi (v*69621) (n:=2000000000000000001) (by decide)
  let N:aT->Prop:=fun δ=>∃ x y:Int,δ=[some (.t (.lst (hd.map .int))),some (.t (.int m)),some (.ol (ps.map bC)),some (.t (.int way)),some (.t (.int k)),some (.t (.int v)),some (.t (.int x)),some (.t (.int y))]/\oN x/\oN y
  walk_at "go";refine⟨N,?_,?_⟩
  ·walk_at "go"
   split
   ·walk_at "go";exact⟨_,_,rfl,(by unfold oN;walk_at "o"),(by unfold oN;walk_at "o")⟩
   ·exact⟨_,_,rfl,(by unfold oN;walk_at "o"),(by unfold oN;walk_at "o")⟩
  rintro δ ⟨x,y,rfl,sx,sy⟩;walk_at "dl";refine⟨N,?_,?_⟩
  ·walk_at "go"
   split
   ·exact⟨_,_,rfl,(by unfold oN;walk_at "o"),sy⟩
   ·exact⟨_,_,rfl,sx,sy⟩
  clear sx sy x y;rintro δ ⟨x,y,rfl,sx,sy⟩;walk_at "dl";refine⟨N,?_,?_⟩
  ·walk_at "go"
   split
   ·walk_at "go";exact⟨_,_,rfl,(by unfold oN;walk_at "o"),(by unfold oN;walk_at "o")⟩
   ·exact⟨_,_,rfl,sx,sy⟩
  clear sx sy x y;rintro δ ⟨x,y,rfl,sx,sy⟩;walk_at "dl";refine⟨N,?_,?_⟩
  ·walk_at "go"
   split
   ·walk_at "go";exact⟨_,_,rfl,(by unfold oN;walk_at "o"),(by unfold oN;walk_at "o")⟩
   ·exact⟨_,_,rfl,sx,sy⟩
  clear sx sy x y;rintro δ ⟨x,y,rfl,sx,sy⟩;walk_at "dl";refine⟨N,?_,?_⟩
  ·walk_at "dl";refine⟨fun b=>b=true->0<k,?_,?_⟩
   ·walk_at "dl"
    split
    ·refine x9 (i:=1) (by walk_at "o") hb fun d0 _ _=>?_
     walk_at "dl";refine⟨_,5,k,rfl,rfl,by walk_at "o",by walk_at "o",fun d=>?_⟩
     walk_at "dl";intro _;walk_at "o"
    ·exact fun z=>z.elim
   ·rintro b hb1;walk_at "dl"
    split
    ·rename_i hb2;have k0:=hb1 hb2;have e:ps[k-1]?=some (ps[k-1]'(by walk_at "o")):=List.getElem?_eq_getElem _
     have hm:=hs _ (List.mem_of_getElem? e);generalize ps[k-1]'(by walk_at "o")=q at e hm
     rw[show((k:Int)-1)=((k-1:Nat):Int) by walk_at "o",JQ e]
     walk_at "dl";exact⟨_,_,rfl,hm.1,hm.2⟩
    ·exact⟨_,_,rfl,sx,sy⟩
  clear sx sy x y;rintro δ ⟨x,y,rfl,sx,sy⟩;walk_at "dl";refine⟨by rw[List.length_map,pl];walk_at "o",ps++[(x,y)],_,_,_,_,by rw[List.map_append];rfl,by simp[pl],fun q hq=>?_⟩
  rcases List.mem_append.mp hq with z|z
  ·exact hs q z
  ·have z:=List.mem_singleton.mp z;subst z;exact⟨sx,sy⟩
 rintro δ ⟨ps,r4,r5,r6,r7,rfl,pl,hs⟩;walk_at "dl";exact h ps pl hs
theorem wn {a b:Int}(hb:0<b):o8 a b=(a.fdiv (Int.gcd a b),b.fdiv (Int.gcd a b)):=by
 unfold o8 lE;rw[if_neg (by walk_at "o")]
theorem pF:∀ ss R,bh ss R->fc {nx:=fun _=>R (.t .non),rt:=R} (aJ ["_law_top","_law_bottom","_law_most"] ss):=by
 rintro ss R ⟨a,b,rfl,hb,sa,sb,h⟩;show fc _ [some (.t (.int a)),some (.t (.int b)),none]
 delta fc
 rw[wn hb]at h;walk_at "dl";refine⟨a,b,rfl,?_⟩;walk_at "dl";have hg:(Int.gcd a b:Int)≠0:=iY (.inr (by walk_at "o"))
 have sg:Sz 9000 (Int.gcd a b:Int):=by
  have:=Sz.gcdL (b:=a) sb (by walk_at "o")
  rwa [Int.gcd_comm]at this
 exact⟨xR hg sg (by decide),xR hg sg (by decide),h⟩
theorem lM {a b:Int}(hb:0<b):mT (o8 a b)/\(o8 a b).1*b=a*(o8 a b).2:=by
 refine⟨C1 (by walk_at "o"),?_⟩
 rw[wn hb];have e1:=c5 (Int.gcd_dvd_left a b);have e2:=c5 (Int.gcd_dvd_right a b);show a.fdiv (Int.gcd a b)*b=a*b.fdiv (Int.gcd a b);generalize (Int.gcd a b:Int)=g at *;generalize hx:a.fdiv g=x at *;generalize hy:b.fdiv g=y at *;rw[<-e1,<-e2];grind
theorem lL {a b:Int}{n:Nat}(hb:0<b)(sa:Sz n a)(sb:Sz n b):SzF n (o8 a b):=by
 rw[wn hb];exact⟨sa.fdiv _,sb.fdiv _⟩
theorem kg (p:Pt->Bool)(l:List Pt)(v:Pt):((l++[v]).countP p:Int)=(l.countP p:Int)+(if p v=true then 1 else 0):=by
 rw[List.countP_append,List.countP_cons,List.countP_nil]
 by_cases h:p v=true <;> simp[h]
theorem kJ:∀ ss R,bS ss R->cW {nx:=fun _=>R (.t .non),rt:=R} (aJ ["_law_ways","_law_way","_law_left","_law_right","_law_forth","_law_back","_law_one","_law_turn_here","_law_same"] ss):=by
 rintro ss R ⟨vs,⟨a,b⟩,rfl,hl,hv,⟨sa,sb⟩,h⟩;dsimp only at sa sb;show cW _ [some (.t (.lst (vs.map bC))),some (.t (.tup [.int a,.int b])),none,none,none,none,none,none,none]
 delta cW
 walk_at "dl"
 let M (pre:List Pt):aT->Prop:=fun δ=>∃ (r6 r7 r8:Option S),δ=[some (.t (.lst (vs.map bC))),some (.t (.tup [.int a,.int b])),some (.t (.int (pre.countP (lf (a,b))))),some (.t (.int (pre.countP (rg (a,b))))),some (.t (.int (pre.countP (fo (a,b))))),some (.t (.int (pre.countP (ba (a,b))))),r6,r7,r8]
 refine⟨M vs,?_,?_⟩
 ·walk_at "dl";refine⟨fun ts δ=>∃ pre post,vs=pre++post/\ts=post.map bC/\M pre δ,⟨[],vs,rfl,rfl,_,_,_,rfl⟩,?_,?_⟩
  ·rintro δ ⟨pre,post,e1,e2,hM⟩;have:post=[]:=by simpa using e2.symm
   subst this;rw[List.append_nil]at e1;subst e1;exact hM
  ·rintro x r δ ⟨pre,post,e1,e2,r6,r7,r8,rfl⟩
   cases post with
   | nil=>cases e2
   | cons v post=>
    rw[List.map_cons]at e2
    cases e2
    obtain⟨x,y⟩:=v;obtain⟨z1,z2⟩:=hv (x,y) (by rw[e1];simp)
    dsimp only at z1 z2;walk_at "go";have k0:=kg (lf (a,b)) pre (x,y);have k1:=kg (rg (a,b)) pre (x,y);have k2:=kg (fo (a,b)) pre (x,y);have k3:=kg (ba (a,b)) pre (x,y);simp only[lf,rg,fo,ba,decide_eq_true_eq]at k0 k1 k2 k3;have et:fO (a,b) (x,y)=a*y-b*x:=rfl;have ed:bE (a,b) (x,y)=a*x+b*y:=rfl;rw[et]at k0 k1 k2 k3;rw[ed]at k2 k3;generalize a*y-b*x=tu at *;generalize a*x+b*y=sm at *
    let N (c0 c1 c2 c3:Int):aT->Prop:=fun δ=>δ=[some (.t (.lst (vs.map bC))),some (.t (.tup [.int a,.int b])),some (.t (.int c0)),some (.t (.int c1)),some (.t (.int c2)),some (.t (.int c3)),some (.t (.tup [.int x,.int y])),some (.t (.int tu)),some (.t (.int sm))]
    refine⟨N ((pre++[(x,y)]).countP (lf (a,b))) (pre.countP (rg (a,b))) (pre.countP (fo (a,b))) (pre.countP (ba (a,b))),?_,?_⟩
    ·walk_at "dl"
     split
     ·rename_i hc;show _=_;rw[k0,if_pos hc]
     ·rename_i hc;show _=_;rw[k0,if_neg hc,Int.add_zero]
    rintro δ rfl;walk_at "dl";refine⟨N ((pre++[(x,y)]).countP (lf (a,b))) ((pre++[(x,y)]).countP (rg (a,b))) (pre.countP (fo (a,b))) (pre.countP (ba (a,b))),?_,?_⟩
    ·walk_at "dl"
     split
     ·rename_i hc;show _=_;rw[k1,if_pos hc]
     ·rename_i hc;show _=_;rw[k1,if_neg hc,Int.add_zero]
    rintro δ rfl;walk_at "dl";refine⟨N ((pre++[(x,y)]).countP (lf (a,b))) ((pre++[(x,y)]).countP (rg (a,b))) ((pre++[(x,y)]).countP (fo (a,b))) (pre.countP (ba (a,b))),?_,?_⟩
    ·walk_at "dl";refine⟨fun k=>k=decide (tu=0/\0<sm),?_,?_⟩
     ·walk_at "dl"
      by_cases h1:tu=0 <;> by_cases h2:0<sm <;> simp[h1,h2]
     rintro k rfl;walk_at "dl"
     split
     ·rename_i hc;show _=_;rw[k2,if_pos hc]
     ·rename_i hc;show _=_;rw[k2,if_neg hc,Int.add_zero]
    rintro δ rfl;walk_at "dl";refine⟨fun k=>k=decide (tu=0/\sm<0),?_,?_⟩
    ·walk_at "dl"
     by_cases h1:tu=0 <;> by_cases h2:sm<0 <;> simp[h1,h2]
    rintro k rfl;walk_at "dl"
    split
    ·rename_i hc;refine⟨pre++[(x,y)],post,by rw[e1];simp,rfl,some (.t (.tup [.int x,.int y])),some (.t (.int tu)),some (.t (.int sm)),?_⟩
     rw[k3,if_pos hc]
    ·rename_i hc;refine⟨pre++[(x,y)],post,by rw[e1];simp,rfl,some (.t (.tup [.int x,.int y])),some (.t (.int tu)),some (.t (.int sm)),?_⟩
     rw[k3,if_neg hc,Int.add_zero]
 ·rintro δ ⟨r6,r7,r8,rfl⟩;walk_at "dl";have e:(if (vs.countP (rg (a,b)):Int)<(vs.countP (lf (a,b)):Int) then (vs.countP (rg (a,b)):Int) else (vs.countP (lf (a,b)):Int))+(if (vs.countP (ba (a,b)):Int)<(vs.countP (fo (a,b)):Int) then (vs.countP (ba (a,b)):Int) else (vs.countP (fo (a,b)):Int))=((cA vs (a,b):Nat):Int):=by
   unfold cA;generalize vs.countP (rg (a,b))=k1;generalize vs.countP (lf (a,b))=k2;generalize vs.countP (ba (a,b))=k3;generalize vs.countP (fo (a,b))=k4
   split <;> split <;> walk_at "o"
  rw[e];exact h
theorem yh (s:aF)(p:Pt):lw (ag s) p=((p.1*s.1.2-s.1.1)*s.2.2,(p.2*s.2.2-s.2.1)*s.1.2):=by
 unfold lw ag;apply Prod.ext
 ·show p.1*(s.1.2*s.2.2)-s.1.1*s.2.2=(p.1*s.1.2-s.1.1)*s.2.2;grind
 ·show p.2*(s.1.2*s.2.2)-s.2.1*s.1.2=(p.2*s.2.2-s.2.1)*s.1.2;grind
def Jb (vs pre:List Pt)(n:Nat):Prop:=n<=vs.length-vs.countP nul/\(∀ u∈pre,u≠(0,0)->n<=cA vs u)/\(n=vs.length-vs.countP nul\/∃ u∈vs,u≠(0,0)/\n=cA vs u)
theorem Fq {s:aF}{ps:List Pt}(h:fM 200000 s)(hp:∀ p∈ps,SzF 120 p):∀ v∈jQ s ps,SzF 500000 v:=fun v hv=>by
 obtain⟨p,hpm,rfl⟩:=List.mem_map.mp hv;rw[yh];have z:=hp p hpm;exact⟨(Sz.mul (Sz.sub (Sz.mul z.1 h.1.2) h.1.1) h.2.2).mono (by decide),(Sz.mul (Sz.sub (Sz.mul z.2 h.2.2) h.2.1) h.1.2).mono (by decide)⟩
theorem wW:∀ ss R,cJ ss R->jy {nx:=fun _=>R (.t .non),rt:=R} (aJ ["_law_points_here","_law_spot_here","_law_x","_law_y","_law_ways","_law_point","_law_right","_law_there","_law_least","_law_way"] ss):=by
 rintro ss R ⟨ps,s,rfl,hl,hp,hs,h⟩;have hw:=Fq hs hp;change R (.t (.int (xS (jQ s ps)))) at h;have hwl:(jQ s ps).length=ps.length:=by unfold jQ;rw[List.length_map]
 have hlw:=yh s;obtain⟨⟨tx,qx⟩,ty,qy⟩:=s;obtain⟨⟨t1,t2⟩,t3,t4⟩:=id hs;dsimp only at t1 t2 t3 t4 hlw;show jy _ [some (.t (.lst (ps.map bC))),some (.t (.tup [.tup [.int tx,.int qx],.tup [.int ty,.int qy]])),none,none,none,none,none,none,none,none]
 delta jy
 walk_at "dl"
 let M (pre:List Pt):aT->Prop:=fun δ=>∃ (r5 r6:Option S),δ=[some (.t (.lst (ps.map bC))),some (.t (.tup [.tup [.int tx,.int qx],.tup [.int ty,.int qy]])),some (.t (.tup [.int tx,.int qx])),some (.t (.tup [.int ty,.int qy])),some (.ol ((jQ ((tx,qx),ty,qy) pre).map bC)),r5,r6,none,none,none]
 refine⟨M ps,?_,?_⟩
 ·walk_at "dl";refine⟨fun ts δ=>∃ pre post,ps=pre++post/\ts=post.map bC/\M pre δ,⟨[],ps,rfl,rfl,_,_,rfl⟩,?_,?_⟩
  ·rintro δ ⟨pre,post,e1,e2,hM⟩;have:post=[]:=by simpa using e2.symm
   subst this;rw[List.append_nil]at e1;subst e1;exact hM
  ·rintro x r δ ⟨pre,post,e1,e2,r5,r6,rfl⟩
   cases post with
   | nil=>cases e2
   | cons v post=>
    rw[List.map_cons]at e2
    cases e2
    obtain⟨x,y⟩:=v;obtain⟨z1,z2⟩:=hp (x,y) (by rw[e1];simp)
    dsimp only at z1 z2;have hpl:pre.length<=1000:=by rw[e1]at hl;simp at hl;walk_at "o"
    walk_at "go";refine⟨by unfold jQ;rw[List.length_map,List.length_map];walk_at "o",pre++[(x,y)],post,by rw[e1];simp,rfl,some (.t (.tup [.int x,.int y])),some (.t (.int ((x*qx-tx)*qy))),?_⟩
    have e:(jQ ((tx,qx),ty,qy) (pre++[(x,y)])).map bC=(jQ ((tx,qx),ty,qy) pre).map bC++[T.tup [.int ((x*qx-tx)*qy),.int ((y*qy-ty)*qx)]]:=by
     unfold jQ;rw[List.map_append,List.map_append,show List.map (lw (ag ((tx,qx),ty,qy))) [(x,y)]=[lw (ag ((tx,qx),ty,qy)) (x,y)] from rfl,hlw (x,y)]
     rfl
    rw[e]
 rintro δ ⟨r5,r6,rfl⟩;generalize jQ ((tx,qx),ty,qy) ps=vs at *;walk_at "dl";refine fR (f:=bC) (h:=bC) (p:=nul) (l:=vs) (fun δ=>∃ r,δ=[r]) (fun p _=>yG p) (by walk_at "o") ⟨_,rfl⟩ ?_ ?_
 ·rintro⟨x,y⟩ hm δ ⟨r,rfl⟩ Y N h1 h2;walk_at "dl"
  split
  ·rename_i hc;exact h1 _ ⟨_,rfl⟩ (by unfold nul;rw[decide_eq_true_eq];exact Prod.ext hc.1 hc.2)
  ·rename_i hc;exact h2 _ ⟨_,rfl⟩ (by unfold nul;rw[decide_eq_false_iff_not];exact fun z=>hc ⟨congrArg Prod.fst z,congrArg Prod.snd z⟩)
 walk_at "dl";rw[List.length_map,List.length_map,<-List.countP_eq_length_filter];have hn:=yu vs;have e0:(ps.length:Int)-(vs.countP nul:Int)=((vs.length-vs.countP nul:Nat):Int):=by walk_at "o"
 rw[e0]
 let L (pre:List Pt):aT->Prop:=fun δ=>∃ (n:Nat) (r5 r6 r9:Option S),δ=[some (.t (.lst (ps.map bC))),some (.t (.tup [.tup [.int tx,.int qx],.tup [.int ty,.int qy]])),some (.t (.tup [.int tx,.int qx])),some (.t (.tup [.int ty,.int qy])),some (.t (.lst (vs.map bC))),r5,r6,some (.t (.int (vs.countP nul))),some (.t (.int n)),r9]/\Jb vs pre n
 refine⟨L vs,?_,?_⟩
 ·walk_at "dl";refine⟨fun ts δ=>∃ pre post,vs=pre++post/\ts=post.map bC/\L pre δ,⟨[],vs,rfl,rfl,_,_,_,_,rfl,Nat.le_refl _,fun o ho=>(by cases ho),.inl rfl⟩,?_,?_⟩
  ·rintro δ ⟨pre,post,e1,e2,hM⟩;have:post=[]:=by simpa using e2.symm
   subst this;rw[List.append_nil]at e1;subst e1;exact hM
  ·rintro x r δ ⟨pre,post,e1,e2,n,r5,r6,r9,rfl,l1,l2,l3⟩
   cases post with
   | nil=>cases e2
   | cons v post=>
    rw[List.map_cons]at e2
    cases e2
    have hm:v∈vs:=by rw[e1];simp
    obtain⟨x,y⟩:=v;have hpre:∀ n',(∀ o∈pre++[(x,y)],o≠(0,0)->n'<=cA vs o)↔(∀ o∈pre,o≠(0,0)->n'<=cA vs o)/\((x,y)≠((0,0):Pt)->n'<=cA vs (x,y)):=fun n'=>by
     constructor
     ·exact fun h=>⟨fun o ho=>h o (List.mem_append_left _ ho),h (x,y) (by simp)⟩
     ·rintro⟨h1,h2⟩ o ho
      rcases List.mem_append.mp ho with z|z
      ·exact h1 o z
      ·have z:=List.mem_singleton.mp z;subst z;exact h2
    walk_at "dl"
    split
    ·rename_i hc;have hne:((x,y):Pt)≠(0,0):=fun z=>by
      cases z
      simp at hc
     refine⟨vs,(x,y),rfl,by walk_at "o",hw,hw _ hm,?_⟩
     walk_at "dl";refine⟨pre++[(x,y)],post,by rw[e1];simp,rfl,min n (cA vs (x,y)),r5,r6,some (.t (.tup [.int x,.int y])),?_,?_,?_,?_⟩
     ·have e:(if (cA vs (x,y):Int)<(n:Int) then (cA vs (x,y):Int) else (n:Int))=((min n (cA vs (x,y)):Nat):Int):=by split <;> walk_at "o"
      rw[e]
     ·walk_at "o"
     ·rw[hpre];exact⟨fun o ho h=>Nat.le_trans (Nat.min_le_left _ _) (l2 o ho h),fun _=>Nat.min_le_right _ _⟩
     ·rcases Nat.le_total n (cA vs (x,y)) with z|z
      ·rw[Nat.min_eq_left z];exact l3
      ·rw[Nat.min_eq_right z];exact .inr ⟨(x,y),hm,hne,rfl⟩
    ·rename_i hc;have hz:x=0/\y=0:=by simpa using hc
     exact⟨pre++[(x,y)],post,by rw[e1];simp,rfl,n,_,_,_,rfl,l1,by rw[hpre];exact⟨l2,fun h=>absurd (Prod.ext hz.1 hz.2) h⟩,l3⟩
 rintro δ ⟨n,r5,r6,r9,rfl,l1,l2,l3⟩;walk_at "dl";have e:=count_is l1 l2 l3;rw[e]at h;have e2:((vs.countP nul+n:Nat):Int)=(vs.countP nul:Int)+(n:Int):=by walk_at "o"
 rw[e2]at h;exact h
theorem PH (i:Nat)(δ:aT)(N:aT->Prop)(a b c x:T):AK i δ N [a,b,c] (.t x) (.t (.int 1))=N (δ.set i (some (.ol [a,x,c]))):=rfl
theorem PJ (i:Nat)(δ:aT)(N:aT->Prop)(a b c x:T):AK i δ N [a,b,c] (.t x) (.t (.int 2))=N (δ.set i (some (.ol [a,b,x]))):=rfl
theorem sT {ps:List Pt}{i:Int}{R:S->Prop}(h0:0<=i)(h1:i<ps.length)(h:∀ p∈ps,R (.t (bC p))):atT (ps.map bC) i R:=xJ h0 (by rw[List.length_map];exact h1) fun x hx=>by
 obtain⟨p,hp,rfl⟩:=List.mem_map.mp hx;exact h p hp
theorem Am:∀ ss R,fj ss R->lg {nx:=fun _=>R (.t .non),rt:=R} (aJ ["_law_points_here","_law_number","_law_way","_law_one","_law_other","_law_third","_law_by","_law_total","_law_x","_law_y"] ss):=by
 rintro ss R ⟨ps,n,rfl,hne,hl,hp,h⟩;have dummy:Sz 1 0:=⟨by decide⟩
 have hlen:0<ps.length:=List.length_pos_iff.mpr hne;show lg _ [some (.t (.lst (ps.map bC))),some (.t (.int n)),none,none,none,none,none,none,none,none]
 delta lg
 have hq:0<(ps.length:Int):=by walk_at "o"
 have f1:=fmod_lo (n.fdiv 5) hq;have f2:=fmod_hi (n.fdiv 5) hq;have f3:=fmod_lo (n.fdiv 60) hq;have f4:=fmod_hi (n.fdiv 60) hq;have f5:=fmod_lo (n.fdiv 720) hq;have f6:=fmod_hi (n.fdiv 720) hq;have g1:=fmod_lo (n.fdiv 8640) (n:=7) (by decide)
 have g2:=fmod_hi (n.fdiv 8640) (n:=7) (by decide)
 have g3:=fmod_lo (n.fdiv 60480) (n:=7) (by decide)
 have g4:=fmod_hi (n.fdiv 60480) (n:=7) (by decide)
 have g5:=fmod_lo (n.fdiv 423360) (n:=7) (by decide)
 have g6:=fmod_hi (n.fdiv 423360) (n:=7) (by decide)
 have el:((ps.map bC).length:Int)=(ps.length:Int):=by rw[List.length_map]
 walk_at "go";rw[el];refine sT f1 f2 fun p1 h1=>?_;obtain⟨x1,y1⟩:=p1;obtain⟨u1,v1⟩:=hp _ h1;dsimp only at u1 v1;walk_at "go";rw[el];refine sT f3 f4 fun p2 h2=>?_;obtain⟨x2,y2⟩:=p2;obtain⟨u2,v2⟩:=hp _ h2;dsimp only at u2 v2;walk_at "go";rw[el];refine sT f5 f6 fun p3 h3=>?_;obtain⟨x3,y3⟩:=p3;obtain⟨u3,v3⟩:=hp _ h3;dsimp only at u3 v3;have one:Sz 119 (1:Int):=⟨by decide⟩
 have two:Sz 119 (2:Int):=⟨by decide⟩
 walk_at "go"
 split
 ·exact h ((x1,1),(y1,1)) (Fi (x1,y1)) ⟨⟨u1.mono (by decide),one⟩,v1.mono (by decide),one⟩
 split
 ·have sx:=lL (a:=x1+x2) (b:=2) (n:=119) (by decide) ((Sz.add u1 u2).mono (by decide)) two
  have sy:=lL (a:=y1+y2) (b:=2) (n:=119) (by decide) ((Sz.add v1 v2).mono (by decide)) two
  refine⟨x1+x2,2,rfl,by decide,(Sz.add u1 u2).mono (by decide),two.mono (by decide),?_⟩
  walk_at "dl";refine⟨y1+y2,2,rfl,by decide,(Sz.add v1 v2).mono (by decide),two.mono (by decide),?_⟩
  walk_at "dl";exact h (o8 (x1+x2) 2,o8 (y1+y2) 2) ⟨(lM (by decide)).1,(lM (by decide)).1⟩ ⟨sx,sy⟩
 generalize (n.fdiv 8640).fmod 7=c0 at *;generalize (n.fdiv 60480).fmod 7=c1 at *;generalize (n.fdiv 423360).fmod 7=c2 at *;walk_at "go";refine⟨fun δ=>∃ b0 b1 b2:Int,δ=[some (.t (.lst (ps.map bC))),some (.t (.int n)),some (.t (.int (n.fmod 5))),some (.t (.tup [.int x1,.int y1])),some (.t (.tup [.int x2,.int y2])),some (.t (.tup [.int x3,.int y3])),some (.ol [.int b0,.int b1,.int b2]),none,none,none]/\0<b0+b1+b2/\-20<b0/\b0<20/\-20<b1/\b1<20/\-20<b2/\b2<20,?_,?_⟩
 ·walk_at "dl"
  split
  ·rw[PJ];walk_at "dl";rw[PH];exact⟨_,_,_,rfl,by walk_at "o",by walk_at "o",by walk_at "o",by walk_at "o",by walk_at "o",by walk_at "o",by walk_at "o"⟩
  ·exact⟨_,_,_,rfl,by walk_at "o",by walk_at "o",by walk_at "o",by walk_at "o",by walk_at "o",by walk_at "o",by walk_at "o"⟩
 rintro δ ⟨b0,b1,b2,rfl,hb,l0,h0,l1,h1',l2,h2'⟩;walk_at "db";show sumK _ ([b0,b1,b2].map T.int);rw[Fj];have es:[b0,b1,b2].sum=b0+b1+b2:=by simp[List.sum];walk_at "o"
 rw[es];have sb0:Sz 5 b0:=Sz.of (by walk_at "o") (by walk_at "o")
 have sb1:Sz 5 b1:=Sz.of (by walk_at "o") (by walk_at "o")
 have sb2:Sz 5 b2:=Sz.of (by walk_at "o") (by walk_at "o")
 have st:Sz 119 (b0+b1+b2):=Sz.of (by walk_at "o") (by walk_at "o")
 generalize ht:b0+b1+b2=t at *;walk_at "go";have tx:Sz 119 (b0*x1+b1*x2+b2*x3):=(Sz.add (Sz.add (Sz.mul sb0 u1) (Sz.mul sb1 u2)) (Sz.mul sb2 u3)).mono (by decide)
 have ty:Sz 119 (b0*y1+b1*y2+b2*y3):=(Sz.add (Sz.add (Sz.mul sb0 v1) (Sz.mul sb1 v2)) (Sz.mul sb2 v3)).mono (by decide)
 refine⟨_,t,rfl,by walk_at "o",tx.mono (by decide),st.mono (by decide),?_⟩
 walk_at "dl";refine⟨_,t,rfl,by walk_at "o",ty.mono (by decide),st.mono (by decide),?_⟩
 walk_at "dl";exact h (o8 (b0*x1+b1*x2+b2*x3) t,o8 (b0*y1+b1*y2+b2*y3) t) ⟨(lM hb).1,(lM hb).1⟩ ⟨lL hb tx st,lL hb ty st⟩
end Law
namespace Law
open L2 DL
set_option maxHeartbeats 4000000
def fi:aX:=fun ss R=>∃ p q:Fr,ss=[.t (zS p),.t (zS q)]/\SzF 20000 p/\SzF 20000 q/\R (.t (.bl (JY p q)))
def b7:aX:=fun ss R=>∃ p q:aF,ss=[.t (spT p),.t (spT q)]/\fM 20000 p/\fM 20000 q/\R (.t (.bl (sD p q)))
def du:aX:=fun ss R=>∃ a b c:aF,ss=[.t (spT a),.t (spT b),.t (spT c)]/\fM 700 a/\fM 700 b/\fM 700 c/\bB a/\bB b/\bB c/\∀ z:Int,0<z->R (.t (.int (z*aS (ag a) (ag b) (ag c))))
def lc:WS:=
 (bu (ve (bj (am aL (ae 0) (wC (.int 0))) (am aL (ae 1) (wC (.int 1)))) (bj (am aL (ae 1) (wC (.int 0))) (am aL (ae 0) (wC (.int 1))))))
def jx:WS:=
 (aH (eZ (wB (AZ (am aL (ae 0) (wC (.int 0))) (am aL (ae 1) (wC (.int 0))))) (bu (aD fi (af (am aL (ae 0) (wC (.int 0))) (af (am aL (ae 1) (wC (.int 0))) av)))) aY)
 (bu (aD fi (af (am aL (ae 0) (wC (.int 1))) (af (am aL (ae 1) (wC (.int 1))) av)))))
def lh:WS:=
 (aH (aN 3 (wC (.int 1)))
 (bH (fJ (b9 (jj (af (ae 0) (af (ae 1) (af (ae 2) av))))) (qw (fK (aU 4) (fK (aU 5) mf))) (aN 3 (bj (bj (ae 3) (am aL (ae 4) (wC (.int 1)))) (am aL (ae 5) (wC (.int 1))))))
 (aH (aN 6 (iJ 1 [3] (b9 (jj (af (ae 0) (af (ae 1) (af (ae 2) av))))) (aU 0) vh (bj (am aL (am aL (ae 0) (wC (.int 0))) (wC (.int 0))) (c9 (ae 1) (am aL (am aL (ae 0) (wC (.int 0))) (wC (.int 1)))))))
 (aH (aN 7 (iJ 1 [3] (b9 (jj (af (ae 0) (af (ae 1) (af (ae 2) av))))) (aU 0) vh (bj (am aL (am aL (ae 0) (wC (.int 1))) (wC (.int 0))) (c9 (ae 1) (am aL (am aL (ae 0) (wC (.int 1))) (wC (.int 1)))))))
 (aH (aN 0 (bj (cN (am aL (ae 6) (wC (.int 1))) (am aL (ae 6) (wC (.int 0)))) (cN (am aL (ae 7) (wC (.int 2))) (am aL (ae 7) (wC (.int 1))))))
 (bu (cN (ae 0) (bj (cN (am aL (ae 7) (wC (.int 1))) (am aL (ae 7) (wC (.int 0)))) (cN (am aL (ae 6) (wC (.int 2))) (am aL (ae 6) (wC (.int 1))))))))))))
theorem wy:∀ ss R,fi ss R->ss.length=2:=by rintro ss R ⟨a,b,rfl,_⟩;rfl
theorem uz:∀ ss R,b7 ss R->ss.length=2:=by rintro ss R ⟨a,b,rfl,_⟩;rfl
theorem wA:∀ ss R,du ss R->ss.length=3:=by rintro ss R ⟨a,b,c,rfl,_⟩;rfl
theorem Al:∀ ss R,fi ss R->lc {nx:=fun _=>R (.t .non),rt:=R} (aJ ["_law_one","_law_other"] ss):=by
 rintro ss R ⟨⟨a,b⟩,⟨c,d⟩,rfl,⟨z1,z2⟩,⟨z3,z4⟩,h⟩;dsimp only at z1 z2 z3 z4;show lc _ [some (.t (.tup [.int a,.int b])),some (.t (.tup [.int c,.int d]))]
 delta lc
 walk_at "go";exact h
theorem wV:∀ ss R,b7 ss R->jx {nx:=fun _=>R (.t .non),rt:=R} (aJ ["_law_one","_law_other"] ss):=by
 rintro ss R ⟨⟨⟨a,b⟩,⟨c,d⟩⟩,⟨⟨e,f⟩,⟨g,i⟩⟩,rfl,⟨z1,z2⟩,⟨z3,z4⟩,h⟩;dsimp only at z1 z2 z3 z4;show jx _ [some (.t (.tup [.tup [.int a,.int b],.tup [.int c,.int d]])),some (.t (.tup [.tup [.int e,.int f],.tup [.int g,.int i]]))]
 delta jx
 unfold sD at h;dsimp only at h;walk_at "dl"
 by_cases hx:a=e/\b=f
 ·rw[if_pos (show((a,b):Fr)=(e,f) by rw[hx.1,hx.2])]at h
  rw[decide_eq_true hx];walk_at "dl";exact⟨(c,d),(g,i),rfl,z2,z4,h⟩
 ·rw[if_neg (show ¬ ((a,b):Fr)=(e,f) from fun z=>hx ⟨congrArg Prod.fst z,congrArg Prod.snd z⟩)]at h;rw[decide_eq_false hx];walk_at "dl";exact⟨(a,b),(e,f),rfl,z1,z3,h⟩
theorem lK {d e:Int}(hd:d≠0):(d*e).fdiv d=e:=Int.mul_fdiv_cancel_left e hd
theorem Il (X0 Y0 Z0 X1 Y1 Z1 X2 Y2 Z2:Int):(X1*(Z0*Z2)-X0*(Z1*Z2))*(Y2*(Z0*Z1)-Y1*(Z0*Z2))-(Y1*(Z0*Z2)-Y0*(Z1*Z2))*(X2*(Z0*Z1)-X1*(Z0*Z2))=(Z0*Z1*Z2)*aS (X0,Y0,Z0) (X1,Y1,Z1) (X2,Y2,Z2):=by
 unfold aS;grind
theorem An:∀ ss R,du ss R->lh {nx:=fun _=>R (.t .non),rt:=R} (aJ ["_law_one","_law_two","_law_three","_law_share","_law_x","_law_y","_law_xs","_law_ys"] ss):=by
 rintro ss R ⟨⟨⟨a,p⟩,⟨b,q⟩⟩,⟨⟨c,r⟩,⟨d,s⟩⟩,⟨⟨e,t⟩,⟨f,u⟩⟩,rfl,⟨⟨z1,z2⟩,⟨z3,z4⟩⟩,⟨⟨y1,y2⟩,⟨y3,y4⟩⟩,⟨⟨x1,x2⟩,⟨x3,x4⟩⟩,⟨⟨o1,_⟩,⟨o2,_⟩⟩,⟨⟨o3,_⟩,⟨o4,_⟩⟩,⟨⟨o5,_⟩,⟨o6,_⟩⟩,h⟩;dsimp only at z1 z2 z3 z4 y1 y2 y3 y4 x1 x2 x3 x4 o1 o2 o3 o4 o5 o6;show lh _ [some (.t (.tup [.tup [.int a,.int p],.tup [.int b,.int q]])),some (.t (.tup [.tup [.int c,.int r],.tup [.int d,.int s]])),some (.t (.tup [.tup [.int e,.int t],.tup [.int f,.int u]])),none,none,none,none,none]
 delta lh
 have dummy:Sz 1 0:=⟨by decide⟩
 walk_at "dl";obtain⟨sh,hsh⟩:∃ sh:Int,sh=p*(q*(r*(s*(t*u)))):=⟨_,rfl⟩;have ssh:Sz 4300 sh:=hsh ▸ (Sz.mul z2 (Sz.mul z4 (Sz.mul y2 (Sz.mul y4 (Sz.mul x2 x4))))).mono (by decide)
 let M:aT->Prop:=fun δ=>∃ r4 r5,δ=[some (.t (.tup [.tup [.int a,.int p],.tup [.int b,.int q]])),some (.t (.tup [.tup [.int c,.int r],.tup [.int d,.int s]])),some (.t (.tup [.tup [.int e,.int t],.tup [.int f,.int u]])),some (.t (.int sh)),r4,r5,none,none]
 refine⟨M,?_,?_⟩
 ·walk_at "dl"
  let St:Int->aT->Prop:=fun z δ=>∃ r4 r5,δ=[some (.t (.tup [.tup [.int a,.int p],.tup [.int b,.int q]])),some (.t (.tup [.tup [.int c,.int r],.tup [.int d,.int s]])),some (.t (.tup [.tup [.int e,.int t],.tup [.int f,.int u]])),some (.t (.int z)),r4,r5,none,none]
  refine⟨fun ts δ=>(ts=[(.tup [.tup [.int a,.int p],.tup [.int b,.int q]]),(.tup [.tup [.int c,.int r],.tup [.int d,.int s]]),(.tup [.tup [.int e,.int t],.tup [.int f,.int u]])]/\St 1 δ)\/(ts=[(.tup [.tup [.int c,.int r],.tup [.int d,.int s]]),(.tup [.tup [.int e,.int t],.tup [.int f,.int u]])]/\St (1*p*q) δ)\/(ts=[(.tup [.tup [.int e,.int t],.tup [.int f,.int u]])]/\St (1*p*q*r*s) δ)\/(ts=[]/\St sh δ),.inl ⟨rfl,_,_,rfl⟩,?_,?_⟩
  ·rintro δ (⟨h,_⟩|⟨h,_⟩|⟨h,_⟩|⟨_,h⟩)
   ·cases h
   ·cases h
   ·cases h
   ·exact h
  ·have s1:Sz 701 (1*p):=by rw[Int.one_mul];exact z2.mono (by decide)
   have s2:=Sz.mul s1 z4;have s3:=Sz.mul s2 y2;have s4:=Sz.mul s3 y4;have s5:=Sz.mul s4 x2;have n1:Sz 1 (1:Int):=⟨by decide⟩
   rintro x ts δ (⟨h,r4,r5,rfl⟩|⟨h,r4,r5,rfl⟩|⟨h,r4,r5,rfl⟩|⟨h,_⟩)
   ·cases h
    walk_at "dl";exact⟨bf n1 z2 (by decide) (by decide),bf s1 z4 (by decide) (by decide),.inr (.inl ⟨_,_,rfl⟩)⟩
   ·cases h
    walk_at "dl";exact⟨bf s2 y2 (by decide) (by decide),bf s3 y4 (by decide) (by decide),.inr (.inr (.inl ⟨_,_,rfl⟩))⟩
   ·cases h
    walk_at "dl";rw[show 1*p*q*r*s*t*u=sh by rw[hsh];grind]
    exact⟨bf s4 x2 (by decide) (by decide),bf s5 x4 (by decide) (by decide),.inr (.inr (.inr ⟨_,_,rfl⟩))⟩
   ·cases h
 rintro δ ⟨r4,r5,rfl⟩;have d1:sh.fdiv p=q*(r*(s*(t*u))):=by rw[hsh];exact lK (by walk_at "o")
 have d2:sh.fdiv q=p*(r*(s*(t*u))):=by rw[show sh=q*(p*(r*(s*(t*u)))) by rw[hsh];grind];exact lK (by walk_at "o")
 have d3:sh.fdiv r=p*(q*(s*(t*u))):=by rw[show sh=r*(p*(q*(s*(t*u)))) by rw[hsh];grind];exact lK (by walk_at "o")
 have d4:sh.fdiv s=p*(q*(r*(t*u))):=by rw[show sh=s*(p*(q*(r*(t*u)))) by rw[hsh];grind];exact lK (by walk_at "o")
 have d5:sh.fdiv t=p*(q*(r*(s*u))):=by rw[show sh=t*(p*(q*(r*(s*u)))) by rw[hsh];grind];exact lK (by walk_at "o")
 have d6:sh.fdiv u=p*(q*(r*(s*t))):=by rw[show sh=u*(p*(q*(r*(s*t)))) by rw[hsh];grind];exact lK (by walk_at "o")
 have sf:∀ x:Int,Sz 4300 (sh.fdiv x):=fun x=>ssh.fdiv x;have e0:a*sh.fdiv p=a*q*(r*s*(t*u)):=by rw[d1];grind
 have e1:c*sh.fdiv r=c*s*(p*q*(t*u)):=by rw[d3];grind
 have e2:e*sh.fdiv t=e*u*(p*q*(r*s)):=by rw[d5];grind
 have f0:b*sh.fdiv q=b*p*(r*s*(t*u)):=by rw[d2];grind
 have f1:d*sh.fdiv s=d*r*(p*q*(t*u)):=by rw[d4];grind
 have f2:f*sh.fdiv u=f*t*(p*q*(r*s)):=by rw[d6];grind
 have g1:=sf p;have g2:=sf q;have g3:=sf r;have g4:=sf s;have g5:=sf t;have g6:=sf u;have dv:∀ x:Int,x≠0->lY sh x:=fun x hx=>Ke hx ssh (by decide)
 have hfin:=h (p*q*(r*s)*(t*u)) (Int.mul_pos (Int.mul_pos (Int.mul_pos o1 o2) (Int.mul_pos o3 o4)) (Int.mul_pos o5 o6));have hid:=Il (a*q) (b*p) (p*q) (c*s) (d*r) (r*s) (e*u) (f*t) (t*u);rw[<-e0,<-e1,<-e2,<-f0,<-f1,<-f2]at hid;have hv:R (.t (.int ((c*sh.fdiv r-a*sh.fdiv p)*(f*sh.fdiv u-d*sh.fdiv s)-(d*sh.fdiv s-b*sh.fdiv q)*(e*sh.fdiv t-c*sh.fdiv r)))):=by rw[hid];exact hfin
 clear hsh d1 d2 d3 d4 d5 d6 e0 e1 e2 f0 f1 f2 hid hfin h sf;walk_at "dl";refine tV ?_;walk_at "dl";refine⟨dv _ (by walk_at "o"),bf z1 g1 (by decide) (by decide),by decide,dv _ (by walk_at "o"),bf y1 g3 (by decide) (by decide),by decide,dv _ (by walk_at "o"),bf x1 g5 (by decide) (by decide),by decide,?_⟩
 refine tV ?_;walk_at "dl";have m1:=Sz.sub (Sz.mul y1 g3) (Sz.mul z1 g1);have m2:=Sz.sub (Sz.mul x3 g6) (Sz.mul y3 g4);have m3:=Sz.sub (Sz.mul y3 g4) (Sz.mul z3 g2);have m4:=Sz.sub (Sz.mul x1 g5) (Sz.mul y1 g3);exact⟨dv _ (by walk_at "o"),bf z3 g2 (by decide) (by decide),by decide,dv _ (by walk_at "o"),bf y3 g4 (by decide) (by decide),by decide,dv _ (by walk_at "o"),bf x3 g6 (by decide) (by decide),by decide,bf m1 m2 (by decide) (by decide),bf m3 m4 (by decide) (by decide),hv⟩
def dW:aX:=fun ss R=>∃ (L:List aF) (s:aF),ss=[.t (.lst (L.map spT)),.t (spT s)]/\L.length<=160/\j9 L/\bB s/\fM 700 s/\∀ b:Bool,(b=true↔cu (L.map ag) (ag s))->R (.t (.bl b))
def cL:aX:=fun ss R=>∃ L:List aF,ss=[.t (.lst (L.map spT))]/\L.length<=160/\j9 L/\R (.t (.bl true))
def jA:WS:=
 (aH (eZ (wB (ve (eU cD (af (ae 0) av)) (wC (.int 2)))) (bu (Qn (ae 1) (ae 0))) aY)
 (aH (eZ (yS (ji (wB (qu (eU cD (af (ae 0) av)) (wC (.int 2)))) (wB (AZ (aD du (af (am aL (ae 0) (wC (.int 0))) (af (am aL (ae 0) (wC (.int 1))) (af (ae 1) av)))) (wC (.int 0)))))) (bu (wC (.bl false))) aY)
 (aH (eZ (wB (qu (eU cD (af (ae 0) av)) (wC (.int 2)))) (bu (yQ (vf (aD b7 (af (ae 1) (af (am aL (ae 0) (wC (.int 0))) av)))) (vf (aD b7 (af (am aL (ae 0) (wC (.int 1))) (af (ae 1) av)))))) aY)
 (bH (fJ (fL (af (eU cD (af (ae 0) av)) av)) (aU 2) (eZ (wB (ve (aD du (af (am aL (ae 0) (cN (ae 2) (wC (.int 1)))) (af (am aL (ae 0) (ae 2)) (af (ae 1) av)))) (wC (.int 0)))) (bu (wC (.bl false))) aY))
 (bu (wC (.bl true)))))))
def eu:WS:=
 (aH (eZ (jO (wB (Fo .lst (ae 0)))) (bu (wC (.bl false))) aY)
 (bH (fJ (b9 (ae 0)) (aU 1) (eZ (jO (wB (aD dH (af (ae 1) av)))) (bu (wC (.bl false))) aY))
 (aH (aN 2 (wC (.int 0)))
 (bH (fJ (fL (af (eU cD (af (ae 0) av)) av)) (aU 3) (aH (eZ (yS (ji (wB (AR (ae 3) (wC (.int 0)))) (jO (wB (aD b7 (af (am aL (ae 0) (wC (.int 0))) (af (am aL (ae 0) (ae 3)) av))))))) (bu (wC (.bl false))) aY)
 (eZ (wB (AR (eU cD (af (ae 0) av)) (wC (.int 2)))) (aH (eZ (wB (Qb (aD du (af (am aL (ae 0) (cN (ae 3) (wC (.int 2)))) (af (am aL (ae 0) (cN (ae 3) (wC (.int 1)))) (af (am aL (ae 0) (ae 3)) av)))) (wC (.int 0)))) (bu (wC (.bl false))) aY)
 (eZ (yS (ji (wB (aD b7 (af (am aL (ae 0) (cN (ae 3) (wC (.int 1)))) (af (am aL (ae 0) (cN (ae 3) (wC (.int 2)))) av)))) (wB (aD b7 (af (am aL (ae 0) (cN (ae 3) (wC (.int 1)))) (af (am aL (ae 0) (ae 3)) av)))))) (aN 2 (cV (ae 2) (wC (.int 1)))) aY)) aY)))
 (bu (Mf (ve (eU cD (af (ae 0) av)) (wC (.int 3))) (qu (ae 2) (wC (.int 1)))))))))
theorem uC:∀ ss R,dW ss R->ss.length=2:=by rintro ss R ⟨a,b,rfl,_⟩;rfl
theorem mm:∀ ss R,cL ss R->ss.length=1:=by rintro ss R ⟨a,rfl,_⟩;rfl
theorem NI {s:aF}{ks:List aF}{y:S}{R:S->Prop}(hy:tr y=.lst (ks.map spT))(h:∀ b:Bool,(b=true↔s∈ks)->R (.t (.bl b))):Nv (.t (spT s)) y R:=by
 unfold Nv;rw[hy];refine⟨by show 2<=20;decide,Nat.le_trans (fm a9 _) (by decide),h _ ?_⟩
 unfold AX;rw[List.any_map,List.any_eq_true];exact⟨fun ⟨x,hx,hc⟩=>((aZ x s).mp hc) ▸ hx,fun hs=>⟨s,hs,(aZ s s).mpr rfl⟩⟩
theorem wY:∀ ss R,dW ss R->jA {nx:=fun _=>R (.t .non),rt:=R} (aJ ["_law_corners","_law_spot_here","_law_k"] ss):=by
 rintro ss R ⟨L,s,rfl,hl,RL,os,zs,h⟩;show jA _ [some (.t (.lst (L.map spT))),some (.t (spT s)),none]
 delta jA
 have rs:=n9 RL;have hml:(L.map ag).length=L.length:=List.length_map ..;walk_at "dl"
 by_cases h2:L.length<2
 ·rw[if_pos (by rw[List.length_map];walk_at "o")]
  walk_at "dl";refine NI rfl fun b hb=>?_;walk_at "dl";refine h b (hb.trans ?_)
  rcases L with _|⟨a,_|⟨c,r⟩⟩
  ·exact⟨fun z=>(nomatch z),fun z=>absurd z.ne (by simp)⟩
  ·have oa:=RL.ok a List.mem_cons_self;rw[List.mem_singleton];constructor
   ·rintro rfl;have bb:jS (ag s) (ag s)=false:=bN.mpr (Bf.irr _);exact⟨by simp,fun _=>⟨qX _ _,bb,bb⟩,fun z=>by simp at z⟩
   ·intro z;have:=(z.few (by simp)).2
    exact wI os oa this.1 this.2
  ·simp at h2;walk_at "o"
 rw[if_neg (by rw[List.length_map];walk_at "o")]
 walk_at "dl";have z20:∀ x∈L,fM 20000 x:=fun x hx=>bP (rs x hx).2 (by decide)
 by_cases e2:L.length=2
 ·rcases L with _|⟨a,_|⟨c,_|⟨d,r⟩⟩⟩
  ·simp at e2
  ·simp at e2
  ·have ra:=rs a List.mem_cons_self;have rc:=rs c (by simp)
   have iff:cu ([a,c].map ag) (ag s)↔aS (ag a) (ag c) (ag s)=0/\sD s a=false/\sD c s=false:=by
    rw[nQ os ra.1,nQ rc.1 os];exact⟨fun z=>z.few (by simp),fun z=>⟨by simp,fun _=>z,fun z=>by simp at z⟩⟩
   refine⟨fun k=>k=!decide (aS (ag a) (ag c) (ag s)=0),?_,?_⟩
   ·walk_at "dl";refine⟨a,c,s,rfl,ra.2,rc.2,zs,ra.1,rc.1,os,fun z hz=>?_⟩;walk_at "dl";have e:decide (z*aS (ag a) (ag c) (ag s)=0)=decide (aS (ag a) (ag c) (ag s)=0):=by
     by_cases q:aS (ag a) (ag c) (ag s)=0
     ·rw[q];simp
     ·rw[decide_eq_false q,decide_eq_false fun w=>(Int.mul_eq_zero.mp w).elim (fun w=>by walk_at "o") q]
    rw[e]
   ·rintro k rfl
    by_cases q:aS (ag a) (ag c) (ag s)=0
    ·rw[decide_eq_true q,if_neg (by decide)]
     walk_at "dl";refine⟨s,a,rfl,bP zs (by decide),bP ra.2 (by decide),?_⟩
     walk_at "dl"
     cases hx:sD s a with
     | true=>
      walk_at "dl";exact h false (by rw[iff,hx];simp)
     | false=>
      walk_at "dl";refine⟨c,s,rfl,bP rc.2 (by decide),bP zs (by decide),?_⟩
      walk_at "dl";refine h _ ?_;rw[iff,hx,q]
      cases sD c s <;> simp
    ·rw[decide_eq_false q,if_pos (by decide)]
     exact h false (by rw[iff];simp[q])
  ·simp at e2
 ·have h3:3<=L.length:=by walk_at "o"
  refine⟨fun k=>k=false,?_,?_⟩
  ·walk_at "dl";rw[if_neg (by rw[List.length_map];walk_at "o")]
   trivial
  rintro k rfl;rw[if_neg (by decide)]
  rw[if_neg (by rw[List.length_map];walk_at "o")]
  have hpv:∀ k (hk:k<L.length),aS (ci (L.map ag) k (by walk_at "o")) ((L.map ag)[k]'(by walk_at "o")) (ag s)=aS (ag (ci L k hk)) (ag L[k]) (ag s):=fun k hk=>by rw[gn,List.getElem_map]
  refine⟨fun δ=>(∀ k (hk:k<L.length),0<=aS (ag (ci L k hk)) (ag L[k]) (ag s))/\∃ r,δ=[some (.t (.lst (L.map spT))),some (.t (spT s)),r],?_,?_⟩
  ·walk_at "dl";refine⟨kN (by walk_at "o") (by rw[List.length_map];walk_at "o"),?_⟩
   rw[List.length_map,Int.toNat_natCast];refine re (fun j δ=>(∀ k (hk:k<L.length),k<j->0<=aS (ag (ci L k hk)) (ag L[k]) (ag s))/\∃ r,δ=[some (.t (.lst (L.map spT))),some (.t (spT s)),r]) L.length ⟨fun k _ z=>by walk_at "o",_,rfl⟩ (fun δ z=>⟨fun k hk=>z.1 k hk hk,z.2⟩) ?_
   rintro j hj δ ⟨hall,r,rfl⟩;walk_at "dl";rw[cF (rY spT hj)];walk_at "dl";rw[cF (iq spT hj)];walk_at "dl";have m1:=rs _ (lR hj);have m2:=rs _ (List.getElem_mem hj);refine⟨ci L j hj,L[j],s,rfl,m1.2,m2.2,zs,m1.1,m2.1,os,fun z hz=>?_⟩;walk_at "dl"
   by_cases q:0<=aS (ag (ci L j hj)) (ag L[j]) (ag s)
   ·rw[if_neg (by have:=Int.mul_nonneg (Int.le_of_lt hz) q;walk_at "o")]
    refine⟨fun k hk hkj=>?_,_,rfl⟩
    rcases Nat.lt_or_ge k j with z|z
    ·exact hall k hk z
    ·have:k=j:=by walk_at "o"
     subst this;exact q
   ·rw[if_pos (by exact Int.mul_neg_of_pos_of_neg hz (by walk_at "o"))]
    refine h false ⟨fun z=>by simp at z,fun z=>absurd ?_ q⟩
    have:=z.all (by walk_at "o") j (by walk_at "o")
    rwa [hpv j hj]at this
  ·rintro δ ⟨hall,r,rfl⟩;walk_at "dl";refine h true ⟨fun _=>⟨by walk_at "o",fun z=>by walk_at "o",fun _ k hk=>?_⟩,fun _=>rfl⟩
   rw[hpv k (by walk_at "o")]
   exact hall k (by walk_at "o")
theorem G2 {o i j k:Hf}(t1:0<aS o i j)(t2:0<aS o j k)(t3:0<aS i j k)(b1:Bf o j)(b2:Bf j i)(b3:Bf j k):False:=by
 have e1:(o.1*j.2.2-j.1*o.2.2)*aS i j k=(i.1*j.2.2-j.1*i.2.2)*aS o j k+(k.1*j.2.2-j.1*k.2.2)*aS o i j:=by unfold aS;grind
 have e2:(o.2.1*j.2.2-j.2.1*o.2.2)*aS i j k=(i.2.1*j.2.2-j.2.1*i.2.2)*aS o j k+(k.2.1*j.2.2-j.2.1*k.2.2)*aS o i j:=by unfold aS;grind
 unfold Bf at b1 b2 b3;have x1:o.1*j.2.2-j.1*o.2.2<=0:=by walk_at "o"
 have x2:0<=i.1*j.2.2-j.1*i.2.2:=by walk_at "o"
 have x3:0<=k.1*j.2.2-j.1*k.2.2:=by walk_at "o"
 have m1:(o.1*j.2.2-j.1*o.2.2)*aS i j k<=0:=Int.mul_nonpos_of_nonpos_of_nonneg x1 (by walk_at "o")
 have m2:=Int.mul_nonneg x2 (Int.le_of_lt t2);have m3:=Int.mul_nonneg x3 (Int.le_of_lt t1);have z1:o.1*j.2.2-j.1*o.2.2=0:=(Int.mul_eq_zero.mp (show(o.1*j.2.2-j.1*o.2.2)*aS i j k=0 by walk_at "o")).resolve_right (by walk_at "o")
 have z2:i.1*j.2.2-j.1*i.2.2=0:=(Int.mul_eq_zero.mp (show(i.1*j.2.2-j.1*i.2.2)*aS o j k=0 by walk_at "o")).resolve_right (by walk_at "o")
 have y1:o.2.1*j.2.2-j.2.1*o.2.2<0:=by walk_at "o"
 have y2:0<i.2.1*j.2.2-j.2.1*i.2.2:=by walk_at "o"
 have y3:0<=(k.2.1*j.2.2-j.2.1*k.2.2)*aS o i j:=by
  have z3:k.1*j.2.2-j.1*k.2.2=0:=(Int.mul_eq_zero.mp (show(k.1*j.2.2-j.1*k.2.2)*aS o i j=0 by walk_at "o")).resolve_right (by walk_at "o")
  exact Int.mul_nonneg (by walk_at "o") (by walk_at "o")
 have n1:=Int.mul_neg_of_neg_of_pos y1 t3;have n2:=Int.mul_pos y2 t2;walk_at "o"
theorem sE {p q:aF}(hp:bB p)(hq:bB q):sD p q=true↔Bf (ag p) (ag q):=by rw[nQ hp hq];exact eV
theorem Dh {α:Type}(f:α->T){L:List α}{k:Nat}(h2:2<=L.length)(hk:k<L.length):atI (L.map f) ((k:Int)-2)=some (f (L[aW L.length (aW L.length k)]'(bM (bM hk)))):=by
 rcases Nat.lt_or_ge k 2 with z|z
 ·have:k=0\/k=1:=by walk_at "o"
  rcases this with rfl|rfl
  ·have e2:aW L.length (aW L.length 0)=L.length-2:=by unfold aW;rw[if_pos rfl,if_neg (by walk_at "o")];walk_at "o"
   simp only[e2];show atI (L.map f) (-2)=_;unfold atI;have e:pz (L.map f).length (-2)=some (L.length-2):=by
    unfold pz;rw[if_neg (by decide),if_pos (by rw[List.length_map];walk_at "o"),List.length_map]
    congr 1;walk_at "o"
   rw[e];show(L.map f)[L.length-2]?=_;rw[List.getElem?_map,List.getElem?_eq_getElem (by walk_at "o")];rfl
  ·have p1:aW L.length 1=0:=by unfold aW;rw[if_neg (by decide)]
   have e2:aW L.length (aW L.length 1)=L.length-1:=by rw[p1];unfold aW;rw[if_pos rfl]
   simp only[e2];exact yd f (by walk_at "o")
 ·have e:(k:Int)-2=((k-2:Nat):Int):=by walk_at "o"
  have p1:aW L.length k=k-1:=by unfold aW;rw[if_neg (by walk_at "o")]
  have e2:aW L.length (aW L.length k)=k-2:=by rw[p1];unfold aW;rw[if_neg (by walk_at "o")];walk_at "o"
  rw[e,iq f (show k-2<L.length by walk_at "o")]
  simp only[e2]
theorem nV:∀ ss R,cL ss R->eu {nx:=fun _=>R (.t .non),rt:=R} (aJ ["_law_found","_law_spot_here","_law_falls","_law_k"] ss):=by
 rintro ss R ⟨L,rfl,hl,RL,h⟩;show eu _ [some (.t (.lst (L.map spT))),none,none,none]
 delta eu
 have rs:=n9 RL;have zs:∀ x∈L,fM 20000 x:=fun x hx=>bP (rs x hx).2 (by decide)
 have hT:=dE RL;walk_at "dl";refine⟨fun δ=>∃ r,δ=[some (.t (.lst (L.map spT))),r,none,none],?_,?_⟩
 ·walk_at "dl";refine rd (f:=spT) (fun δ=>∃ r,δ=[some (.t (.lst (L.map spT))),r,none,none]) ⟨_,rfl⟩ (fun δ z=>z) ?_;rintro s hs δ ⟨r,rfl⟩ N hN;walk_at "dl";refine⟨s,rfl,(rs s hs).1,?_⟩;walk_at "dl";exact hN _ ⟨_,rfl⟩
 rintro δ ⟨r,rfl⟩;walk_at "dl"
 let F:Nat->Int:=fun j=>if 1<j/\3<=L.length then 1 else 0
 let I:Nat->aT->Prop:=fun j δ=>∃ r1 r3,δ=[some (.t (.lst (L.map spT))),r1,some (.t (.int (F j))),r3]
 refine⟨I L.length,?_,?_⟩
 ·walk_at "dl";refine⟨kN (by walk_at "o") (by rw[List.length_map];walk_at "o"),?_⟩
  rw[List.length_map,Int.toNat_natCast];refine re I L.length ⟨_,_,rfl⟩ (fun δ z=>z) ?_;rintro j hj δ ⟨r1,r3,rfl⟩;walk_at "dl";have hp0:0<L.length:=by walk_at "o"
  refine⟨fun b=>b=false,?_,?_⟩
  ·walk_at "dl"
   split
   ·rename_i hj0;rw[cF (show atI (L.map spT) 0=some (spT L[0]) from iq (k:=0) spT hp0)];walk_at "dl";rw[cF (iq spT hj)];walk_at "dl";refine⟨L[0],L[j],rfl,zs _ (List.getElem_mem _),zs _ (List.getElem_mem _),?_⟩;walk_at "dl";have:=RL.reg.fst j (by rw[List.length_map];exact hj) (by walk_at "o")
    rw[List.getElem_map,List.getElem_map,<-nQ (rs _ (List.getElem_mem _)).1 (rs _ (List.getElem_mem _)).1]at this;rw[this]
    rfl
   ·trivial
  rintro b rfl;rw[if_neg (by decide)]
  walk_at "dl";rw[List.length_map]
  by_cases h3:3<=L.length
  ·rw[if_pos (by walk_at "o")]
   have hpj:=bM hj;have hppj:=bM hpj;have i2:∀ R:S->Prop,atT (L.map spT) ((j:Int)-2) R=R (.t (spT L[aW L.length (aW L.length j)])):=fun R=>by rw[cF (Dh spT (by walk_at "o") hj)]
   have i1:∀ R:S->Prop,atT (L.map spT) ((j:Int)-1) R=R (.t (spT L[aW L.length j])):=fun R=>by rw[cF (rY spT hj),eX hj,bv hpj]
   have i0:∀ R:S->Prop,atT (L.map spT) (j:Int) R=R (.t (spT L[j])):=fun R=>by rw[cF (iq spT hj)]
   have n1:=fv h3 hj;have tp:0<aS (ag L[aW L.length (aW L.length j)]) (ag L[aW L.length j]) (ag L[j]):=by
    have:=cZ (P:=fun i=>ag (gt L i)) hT hpj hj (fun e=>n1.1 e.symm) (fun e=>n1.2.1 e.symm);simp only[bv hppj,bv hpj,bv hj]at this;exact this
   rw[i2];walk_at "dl";rw[i1];walk_at "dl";rw[i0];walk_at "dl";have a2:=rs _ (List.getElem_mem hppj);have a1:=rs _ (List.getElem_mem hpj);have a0:=rs _ (List.getElem_mem hj);refine⟨_,_,_,rfl,a2.2,a1.2,a0.2,a2.1,a1.1,a0.1,fun z hz=>?_⟩;walk_at "dl";rw[if_neg (by have:=Int.mul_pos hz tp;walk_at "o")]
   refine⟨fun b=>b=(sD L[aW L.length j] L[aW L.length (aW L.length j)] && sD L[aW L.length j] L[j]),?_,?_⟩
   ·walk_at "dl";rw[i1];walk_at "dl";rw[i2];walk_at "dl";refine⟨_,_,rfl,zs _ (List.getElem_mem hpj),zs _ (List.getElem_mem hppj),?_⟩;walk_at "dl"
    cases sD L[aW L.length j] L[aW L.length (aW L.length j)] with
    | false=>
     walk_at "dl"
     rfl
    | true=>
     walk_at "dl";rw[i1];walk_at "dl";rw[i0];walk_at "dl";refine⟨_,_,rfl,zs _ (List.getElem_mem hpj),zs _ (List.getElem_mem hj),?_⟩;walk_at "dl"
   rintro b rfl;have key:(sD L[aW L.length j] L[aW L.length (aW L.length j)] && sD L[aW L.length j] L[j])=decide (j=1):=by
    have f0:∀ i (hi:i<L.length),0<i->Bf (ag L[0]) (ag L[i]):=fun i hi h0=>by
     have:=RL.reg.fst i (by rw[List.length_map];exact hi) h0
     rw[List.getElem_map,List.getElem_map]at this;exact eV.mp this
    by_cases e1:j=1
    ·subst e1;have p0:aW L.length 1=0:=by unfold aW;rw[if_neg (by decide)]
     have pp:aW L.length (aW L.length 1)=L.length-1:=by rw[p0];unfold aW;rw[if_pos rfl]
     simp only[p0,pp]at *;rw[(sE a1.1 a2.1).mpr (f0 _ (by walk_at "o") (by walk_at "o")),(sE a1.1 a0.1).mpr (f0 _ (by walk_at "o") (by walk_at "o"))]
     simp
    ·rw[decide_eq_false e1,Bool.and_eq_false_iff];apply Classical.byContradiction;intro z;simp only[not_or,Bool.not_eq_false]at z;have z1:=(sE a1.1 a2.1).mp z.1;have z2:=(sE a1.1 a0.1).mp z.2
     by_cases e0:j=0
     ·subst e0;exact Bf.asym z2 (f0 _ hpj (by unfold aW;rw[if_pos rfl];walk_at "o"))
     ·have p1:aW L.length j=j-1:=by unfold aW;rw[if_neg e0]
      have p2:aW L.length (j-1)=j-2:=by unfold aW;rw[if_neg (by walk_at "o")];walk_at "o"
      simp only[p1,p2]at *
      by_cases e2:j=2
      ·subst e2;exact Bf.asym z1 (f0 1 (by walk_at "o") (by walk_at "o"))
      ·have t1:=dX RL.reg 0 (j-2) (j-1) (by walk_at "o") (by walk_at "o") (by rw[List.length_map];walk_at "o")
       have t2:=dX RL.reg 0 (j-1) j (by walk_at "o") (by walk_at "o") (by rw[List.length_map];walk_at "o")
       rw[List.getElem_map,List.getElem_map,List.getElem_map]at t1 t2;exact G2 t1 t2 tp (f0 _ (by walk_at "o") (by walk_at "o")) z1 z2
   rw[key]
   by_cases e1:j=1
   ·rw[decide_eq_true e1,if_pos rfl];have:F j+1=F (j+1):=by simp only[F];rw[if_neg (by walk_at "o"),if_pos (by walk_at "o")];rfl
    rw[this];exact⟨_,_,rfl⟩
   ·rw[decide_eq_false e1,if_neg (by decide)]
    have:F j=F (j+1):=by
     simp only[F]
     by_cases q:1<j
     ·rw[if_pos ⟨q,h3⟩,if_pos ⟨by walk_at "o",h3⟩]
     ·rw[if_neg (by walk_at "o"),if_neg (by walk_at "o")]
    rw[this];exact⟨_,_,rfl⟩
  ·rw[if_neg (by walk_at "o")]
   have:F j=F (j+1):=by simp only[F];rw[if_neg (by walk_at "o"),if_neg (by walk_at "o")]
   rw[this];exact⟨_,_,rfl⟩
 ·rintro δ ⟨r1,r3,rfl⟩;walk_at "dl";rw[List.length_map]
  split
  ·exact h
  ·have:F L.length=1:=by simp only[F];rw[if_pos (by walk_at "o")]
   rw[this];exact h
end Law
namespace Law
open L2 DL
set_option maxHeartbeats 4000000
def Mq (L:List aF):Prop:=∃ b:Nat,b<=700/\b*L.length<=8900/\∀ s∈L,Sz b s.1.2/\Sz b s.2.2
def eP:aX:=fun ss R=>∃ L:List aF,ss=[.t (.lst (L.map spT))]/\1<=L.length/\L.length<=160/\(∀ s∈L,bB s/\fM 700 s)/\Mq L/\∀ s:aF,bB s->fM 200000 s->Cv L (ag s)->R (.t (spT s))
def iF:WS:=
 (aH (aN 1 (jj (af (wC (.int 0)) (af (wC (.int 0)) av))))
 (aH (aN 2 (jj (af (wC (.int 1)) (af (wC (.int 1)) av))))
 (bH (fJ (b9 (ae 0)) (aU 3) (fJ (fL (af (wC (.int 2)) av)) (aU 4) (aH (aN 5 (am aL (ae 3) (ae 4)))
 (aH (jl 1 (ae 4) (cV (bj (am aL (ae 1) (ae 4)) (am aL (ae 5) (wC (.int 1)))) (bj (am aL (ae 5) (wC (.int 0))) (am aL (ae 2) (ae 4)))))
 (jl 2 (ae 4) (bj (am aL (ae 2) (ae 4)) (am aL (ae 5) (wC (.int 1)))))))))
 (aH (aN 6 (eU cD (af (ae 0) av)))
 (aH (aN 7 (aD bh (af (am aL (ae 1) (wC (.int 0))) (af (bj (am aL (ae 2) (wC (.int 0))) (ae 6)) av))))
 (bu (eR (af (ae 7) (af (aD bh (af (am aL (ae 1) (wC (.int 1))) (af (bj (am aL (ae 2) (wC (.int 1))) (ae 6)) av))) av)))))))))
theorem sj:∀ ss R,eP ss R->ss.length=1:=by rintro ss R ⟨a,rfl,_⟩;rfl
structure FE (b:Nat) (pre:List aF) (tx ty bx b_y:Int):Prop where
 px:0<bx
 py:0<b_y
 sx:Sz (b*pre.length+1) bx
 sy:Sz (b*pre.length+1) b_y
 ux:Sz (800*pre.length+1) tx
 uy:Sz (800*pre.length+1) ty
 cv:∀ l:Hf,(∀ s∈pre,0<=a7 l (ag s))->0<=l.1*tx*b_y+l.2.1*ty*bx-l.2.2*(pre.length:Int)*(bx*b_y)
theorem Dz {b:Nat}{pre:List aF}{tx ty bx b_y:Int}(hb:b<=700)(M:FE b pre tx ty bx b_y){s:aF}(ok:bB s)(z:fM 700 s)(zb:Sz b s.1.2/\Sz b s.2.2) :
  FE b (pre++[s]) (tx*s.1.2+s.1.1*bx) (ty*s.2.2+s.2.1*b_y) (bx*s.1.2) (b_y*s.2.2):=by
 have x1:0<s.1.2:=ok.1.1;have x2:0<s.2.2:=ok.2.1;have el:(pre++[s]).length=pre.length+1:=by simp
 have e1:b*(pre.length+1)=b*pre.length+b:=Nat.mul_succ _ _;have e2:b*pre.length<=700*pre.length:=Nat.mul_le_mul_right _ hb;refine⟨Int.mul_pos M.px x1,Int.mul_pos M.py x2,?_,?_,?_,?_,fun l hl=>?_⟩
 ·rw[el];exact(Sz.mul M.sx zb.1).mono (by omega)
 ·rw[el];exact(Sz.mul M.sy zb.2).mono (by omega)
 ·rw[el];exact(Sz.add (Sz.mul M.ux z.1.2) (Sz.mul z.1.1 M.sx)).mono (by omega)
 ·rw[el];exact(Sz.add (Sz.mul M.uy z.2.2) (Sz.mul z.2.1 M.sy)).mono (by omega)
 ·have h1:=M.cv l fun s hs=>hl s (List.mem_append_left _ hs);have h2:=hl s (by simp)
  rw[el];have e:l.1*(tx*s.1.2+s.1.1*bx)*(b_y*s.2.2)+l.2.1*(ty*s.2.2+s.2.1*b_y)*(bx*s.1.2)-l.2.2*((pre.length+1:Nat):Int)*(bx*s.1.2*(b_y*s.2.2))=(s.1.2*s.2.2)*(l.1*tx*b_y+l.2.1*ty*bx-l.2.2*(pre.length:Int)*(bx*b_y))+(bx*b_y)*a7 l (ag s):=by
   unfold a7 ag;rw[Int.natCast_add];dsimp only;grind
  rw[e];have a1:=Int.mul_nonneg (Int.le_of_lt (Int.mul_pos x1 x2)) h1;have a2:=Int.mul_nonneg (Int.le_of_lt (Int.mul_pos M.px M.py)) h2;omega
theorem Oc (i:Nat)(δ:aT)(N:aT->Prop)(a b x:T):AK i δ N [a,b] (.t x) (.t (.int 0))=N (δ.set i (some (.ol [x,b]))):=rfl
theorem Od (i:Nat)(δ:aT)(N:aT->Prop)(a b x:T):AK i δ N [a,b] (.t x) (.t (.int 1))=N (δ.set i (some (.ol [a,x]))):=rfl
theorem uU:∀ ss R,eP ss R->iF {nx:=fun _=>R (.t .non),rt:=R} (aJ ["_law_corners","_law_top","_law_bottom","_law_spot_here","_law_j","_law_one","_law_many","_law_x"] ss):=by
 rintro ss R ⟨L,rfl,l1,hl,hs,⟨b,hb,hbl,hbs⟩,h⟩;show iF _ [some (.t (.lst (L.map spT))),none,none,none,none,none,none,none]
 delta iF
 have dummy:Sz 1 0:=⟨by decide⟩
 walk_at "dl"
 let I:List aF->aT->Prop:=fun pre δ=>∃ (tx ty bx b_y:Int) (r3 r4 r5:Option S),δ=[some (.t (.lst (L.map spT))),some (.ol [.int tx,.int ty]),some (.ol [.int bx,.int b_y]),r3,r4,r5,none,none]/\FE b pre tx ty bx b_y
 have I0:FE b [] 0 0 1 1:=⟨by decide,by decide,⟨by simp⟩,⟨by simp⟩,⟨by simp⟩,⟨by simp⟩,fun l _=>by simp⟩
 refine⟨I L,?_,?_⟩
 ·walk_at "dl";refine⟨fun ts δ=>∃ (pre post:List aF),L=pre++post/\ts=post.map spT/\I pre δ,⟨[],L,rfl,rfl,_,_,_,_,_,_,_,rfl,I0⟩,?_,?_⟩
  ·rintro δ ⟨pre,post,e1,e2,hI⟩;have:post=[]:=by simpa using e2.symm
   subst this;rw[List.append_nil]at e1;rw[<-e1]at hI;exact hI
  ·rintro x ts δ ⟨pre,post,e1,e2,tx,ty,bx,b_y,r3,r4,r5,rfl,hM⟩
   cases post with
   | nil=>cases e2
   | cons s post=>
    rw[List.map_cons]at e2
    cases e2
    have hm:s∈L:=by rw[e1];simp
    obtain⟨ok,zs⟩:=hs s hm;have zb:=hbs s hm;have hM':=Dz hb hM ok zs zb;have hpl:pre.length<=160:=by
     have:=congrArg List.length e1;simp only[List.length_append,List.length_cons]at this;omega
    have e2:b*pre.length<=700*pre.length:=Nat.mul_le_mul_right _ hb;have q1:Sz 200000 tx:=hM.ux.mono (by omega)
    have q2:Sz 200000 ty:=hM.uy.mono (by omega)
    have q3:Sz 200000 bx:=hM.sx.mono (by omega)
    have q4:Sz 200000 b_y:=hM.sy.mono (by omega)
    obtain⟨⟨sx,sp⟩,⟨sy,sq⟩⟩:=s;obtain⟨⟨y1,y2⟩,⟨y3,y4⟩⟩:=zs;dsimp only at y1 y2 y3 y4;show aU 3 (.tup [.tup [.int sx,.int sp],.tup [.int sy,.int sq]]) _ _;walk_at "dl";refine⟨kN (by decide) (by decide),?_⟩
    rw[show cR 0 2=[.int 0,.int 1] from rfl];refine xY ?_;simp only[E1,EZ];walk_at "dl";refine⟨bf q1 y2 (by decide) (by decide),bf y1 q3 (by decide) (by decide),?_⟩
    rw[Oc];walk_at "dl";refine⟨bf q3 y2 (by decide) (by decide),?_⟩
    rw[Oc];walk_at "dl";refine⟨bf q2 y4 (by decide) (by decide),bf y3 q4 (by decide) (by decide),?_⟩
    rw[Od];walk_at "dl";refine⟨bf q4 y4 (by decide) (by decide),?_⟩
    rw[Od];walk_at "dl";exact⟨pre++[((sx,sp),(sy,sq))],post,by rw[e1];simp,rfl,_,_,_,_,_,_,_,rfl,hM'⟩
 ·rintro δ ⟨tx,ty,bx,b_y,r3,r4,r5,rfl,hM⟩;walk_at "dl";have n0:(0:Int)<(L.length:Int):=by omega
  have sn:Sz 8 (L.length:Int):=Sz.nat (by omega)
  have tx':Sz 200000 tx:=hM.ux.mono (by omega)
  have ty':Sz 200000 ty:=hM.uy.mono (by omega)
  have bx':Sz 8901 bx:=hM.sx.mono (by omega)
  have by':Sz 8901 b_y:=hM.sy.mono (by omega)
  have cx:Sz 9000 (bx*(L.length:Int)):=(Sz.mul bx' sn).mono (by decide)
  have cy:Sz 9000 (b_y*(L.length:Int)):=(Sz.mul by' sn).mono (by decide)
  have px:=Int.mul_pos hM.px n0;have py:=Int.mul_pos hM.py n0;rw[List.length_map];refine⟨bf bx' sn (by decide) (by decide),tx,_,rfl,px,tx'.mono (by decide),cx,?_⟩
  walk_at "dl";refine⟨bf by' sn (by decide) (by decide),ty,_,rfl,py,ty'.mono (by decide),cy,?_⟩
  walk_at "dl";have f1:=lM (a:=tx) px;have f2:=lM (a:=ty) py;have z1:=lL px tx' (cx.mono (by decide))
  have z2:=lL py ty' (cy.mono (by decide))
  generalize o8 tx (bx*(L.length:Int))=X at *;generalize o8 ty (b_y*(L.length:Int))=Y at *;refine h (X,Y) ⟨f1.1,f2.1⟩ ⟨z1,z2⟩ fun l hl=>?_;have hc:=hM.cv l hl;have w1:0<X.2:=f1.1.1;have w2:0<Y.2:=f2.1.1;have e:(bx*(L.length:Int))*(b_y*(L.length:Int))*a7 l (ag (X,Y))=(X.2*Y.2*(L.length:Int))*(l.1*tx*b_y+l.2.1*ty*bx-l.2.2*(L.length:Int)*(bx*b_y)):=by
   have g1:=f1.2;have g2:=f2.2;unfold a7 ag;dsimp only;generalize (L.length:Int)=n at *;have:(bx*n)*(b_y*n)*(l.1*(X.1*Y.2)+l.2.1*(Y.1*X.2)-l.2.2*(X.2*Y.2))=l.1*(X.1*(bx*n))*(Y.2*(b_y*n))+l.2.1*(Y.1*(b_y*n))*(X.2*(bx*n))-l.2.2*(X.2*Y.2)*((bx*n)*(b_y*n)):=by grind
   rw[this,g1,g2];grind
  have a:=Int.mul_nonneg (Int.le_of_lt (Int.mul_pos (Int.mul_pos w1 w2) n0)) hc;rw[<-e]at a;exact jn (Int.mul_pos px py) a
end Law
namespace Law
open L2 DL
set_option maxHeartbeats 4000000
def yT:WS:=
 (aH (aN 1 (aD dI (af (ae 0) (af (wC (.int 13)) av))))
 (aH (aN 2 (aD eQ (af (ae 1) (af (am aL (jj (af (cV (wC (.int 1)) (dM (am aL (ae 1) (wC (.int 2))) (wC (.int 5)))) (af (cV (wC (.int 6)) (dM (am aL (ae 1) (wC (.int 2))) (wC (.int 2)))) av))) (c9 (dM (am aL (ae 1) (wC (.int 3))) (wC (.int 6))) (wC (.int 5)))) av))))
 (aH (aN 3 (cV (wC (.int 1)) (dM (c9 (am aL (ae 1) (wC (.int 3))) (wC (.int 6))) (cV (eU cD (af (ae 2) av)) (wC (.int 1))))))
 (aH (aN 4 (eU ig (af (ae 2) av)))
 (aH (aN 5 (aD gW (af (ae 4) (af (ae 3) av))))
 (aH (eZ (yS (vg (jO (wB (aD cL (af (ae 5) av)))) (wB (AZ (ae 4) (ae 2))))) (bu (wC (.bl false))) aY)
 (bH (fJ (b9 (ae 5)) (aU 6) (eZ (wB (ve (aD cJ (af (ae 2) (af (ae 6) av))) (ae 3))) (bu (wC (.bl false))) aY))
 (aH (eZ (yS (ji (wB (AR (eU cD (af (ae 5) av)) (wC (.int 1)))) (wB (ve (aD cJ (af (ae 2) (af (aD eP (af (ae 5) av)) av))) (ae 3))))) (bu (wC (.bl false))) aY)
 (bH (fJ (b9 (am zQ (j5 (ae 0) j4 (oE (wC (.int 4)))) (jj (af (am aL (ae 1) (wC (.int 12))) av)))) (aU 7) (aH (aN 6 (aD fj (af (ae 2) (af (dM (ae 7) (sY (wC (.int 10)) (wC (.int 18)))) av))))
 (eZ (wB (AZ (Me (aD cJ (af (ae 2) (af (ae 6) av))) (ae 3)) (aD dW (af (ae 5) (af (ae 6) av))))) (bu (wC (.bl false))) aY)))
 (bu (wC (.bl true))))))))))))
theorem BD {ps:List Pt}(hE:∀ p∈ps,oN p.1/\oN p.2){l:Hf}(hb:fN ps l):-2000000000000000000<=l.1/\l.1<=2000000000000000000/\-2000000000000000000<=l.2.1/\l.2.1<=2000000000000000000:=by
 unfold oN at hE
 rcases hb with ⟨p,hp,hh⟩|⟨p,hp,q,hq,hne,rfl⟩
 ·simp only[AY,List.mem_cons,List.not_mem_nil,or_false]at hh
  rcases hh with rfl|rfl|rfl|rfl <;> (dsimp only;decide)
 ·have a:=hE p hp;have b:=hE q hq;unfold vm Ky;dsimp only;have f1:=natAbs_fdiv_le (p.2-q.2) (iM (p.2-q.2) (q.1-p.1) ((p.2-q.2)*p.1+(q.1-p.1)*p.2));have f2:=natAbs_fdiv_le (q.1-p.1) (iM (p.2-q.2) (q.1-p.1) ((p.2-q.2)*p.1+(q.1-p.1)*p.2));omega
theorem JZ {ps:List Pt}(hE:∀ p∈ps,oN p.1/\oN p.2){k:Nat}{L:List aF}(K:FH ps k L):Mq L:=by
 rcases Nat.lt_or_ge L.length 3 with h|h
 ·refine⟨700,by decide,by omega,fun s hs=>?_⟩
  have:=(n9 K.reg s hs).2;exact⟨this.1.2,this.2.2⟩
 ·have hf:=K.few h;refine⟨123,by decide,by omega,fun s hs=>?_⟩
  have hb:=Gq K.reg K.lk h (M:=2000000000000000000) (fun l hl=>BD hE hl) s hs;have ok:=K.reg.ok s hs;have x1:0<s.1.2:=ok.1.1;have x2:0<s.2.2:=ok.2.1;exact⟨Sz.of (by omega) (by omega),Sz.of (by omega) (by omega)⟩
theorem Pe (ns:List Int):iS (ns.map .int) none (some 4)=(ns.take 4).map .int:=by
 unfold iS;rw[show(some (4:Int))=some ((4:Nat):Int) from rfl,HT.sIx_nat,HT.sIx_none,List.length_map,List.drop_zero,Nat.sub_zero,<-List.map_take]
 rcases Nat.le_total 4 ns.length with h|h
 ·rw[Nat.min_eq_left h]
 ·rw[Nat.min_eq_right h,List.take_of_length_le (Nat.le_refl _),List.take_of_length_le h]
theorem NN (R:S->Prop)(b:Bool):dL (.t (.bl b)) (.t (.bl b)) R=R (.t (.bl false)):=by
 rw[sI R (P:=True) (by show 0<=20;decide) (by show 0<=20;decide) (by simp[tr,eqT])]
 rfl
theorem K6:∀ ss R,qo ss R->yT {nx:=fun _=>R (.t .non),rt:=R} (aJ ["_law_script","_law_head","_law_points_here","_law_k","_law_handed","_law_found","_law_spot_here","_law_cell"] ss):=by
 rintro ss R ⟨ns,rfl,hn,h⟩;have dummy:Sz 1 0:=⟨by decide⟩
 show yT _ [some (.t (.lst (ns.map .int))),none,none,none,none,none,none,none]
 delta yT
 walk_at "dl";refine⟨ns,13,rfl,hn,by decide,by decide,fun hd hdl hdb=>?_⟩
 walk_at "dl";refine nF (i:=2) (by omega) hdb fun v2 _ _=>?_
 have b1:=fmod_lo v2 (n:=5) (by decide)
 have b2:=fmod_hi v2 (n:=5) (by decide)
 walk_at "go";refine nF (i:=2) (by omega) hdb fun w2 _ _=>?_
 have b3:=fmod_lo w2 (n:=2) (by decide)
 have b4:=fmod_hi w2 (n:=2) (by decide)
 walk_at "go";refine nF (i:=3) (by omega) hdb fun v3 _ _=>?_
 have b5:=fmod_lo v3 (n:=6) (by decide)
 have b6:=fmod_hi v3 (n:=6) (by decide)
 walk_at "go";have ix:(v3.fmod 6).fdiv 5=0\/(v3.fmod 6).fdiv 5=1:=by
  generalize v3.fmod 6=x at *;have:x=0\/x=1\/x=2\/x=3\/x=4\/x=5:=by omega
  rcases this with rfl|rfl|rfl|rfl|rfl|rfl <;> decide
 obtain⟨m,m1,m7,em⟩:∃ m:Int,1<=m/\m<=7/\∀ R:S->Prop,atT [T.int (1+v2.fmod 5),T.int (6+w2.fmod 2)] ((v3.fmod 6).fdiv 5) R=R (.t (.int m)):=by
  rcases ix with e|e
  ·exact⟨1+v2.fmod 5,by omega,by omega,fun R=>by rw[e];rfl⟩
  ·exact⟨6+w2.fmod 2,by omega,by omega,fun R=>by rw[e];rfl⟩
 rw[em];refine⟨hd,m,rfl,by omega,hdb,m1,by omega,fun ps hl hE=>?_⟩
 have g:∀ l:List Pt,got (.ol (l.map bC))=.ol (l.map bC):=fun l=>gf _ (yH l);have g2:∀ l:List aF,got (.ol (l.map spT))=.ol (l.map spT):=fun l=>gf _ (ce (fun _=>rfl) l);dsimp only;rw[g];walk_at "dl";refine nF (i:=3) (by omega) hdb fun w3 _ _=>?_
 have hps:ps≠[]:=fun e=>by rw[e]at hl;simp at hl;omega
 have hl7:ps.length<=7:=by omega
 have hz:∀ p∈ps,SzF 100 p:=fun p hp=>⟨(BU (hE p hp).1).mono (by decide),(BU (hE p hp).2).mono (by decide)⟩
 walk_at "go";rw[List.length_map];have k1:=fmod_lo (w3.fdiv 6) (n:=(ps.length:Int)+1) (by omega)
 have k2:=fmod_hi (w3.fdiv 6) (n:=(ps.length:Int)+1) (by omega)
 generalize (w3.fdiv 6).fmod ((ps.length:Int)+1)=kk at k1 k2;obtain⟨k,ek⟩:∃ k:Nat,1+kk=(k:Int):=⟨(1+kk).toNat,by omega⟩
 rw[ek];refine⟨ps,k,rfl,hps,hl7,hz,by omega,fun L K=>?_⟩
 dsimp only;rw[g2];have hz12:∀ p∈ps,SzF 120 p:=fun p hp=>(hz p hp).mono3 (by decide)
 have rs:=n9 K.reg;have dj:∀ s:aF,bB s->(cu (L.map ag) (ag s)↔k<=xS (ps.map (lw (ag s)))):=fun s ok=>K.hold _ (dJ ok);refine⟨fun b=>b=false,?_,?_⟩
 ·walk_at "dl";refine⟨L,rfl,K.len,K.reg,?_⟩;walk_at "dl";simp
 rintro b rfl;rw[if_neg (by decide)]
 walk_at "dl"
 let OLp:S->Prop:=fun x=>x=.ol (ps.map bC)\/x=.t (.lst (ps.map bC))
 let OLh:S->Prop:=fun x=>x=.ol (hd.map .int)\/x=.t (.lst (hd.map .int))
 let OLs:S->Prop:=fun x=>x=.ol (L.map spT)\/x=.t (.lst (L.map spT))
 let M:aT->Prop:=fun δ=>∃ (v1 v2 v5:S) (r4 r6 r7:Option S),δ=[some (.t (.lst (ns.map .int))),some v1,some v2,some (.t (.int (k:Int))),r4,some v5,r6,r7]/\OLh v1/\OLp v2/\OLs v5
 refine⟨M,?_,?_⟩
 ·walk_at "dl";refine rd (f:=spT) M ⟨_,_,_,_,_,_,rfl,by first | exact .inl rfl | exact .inr rfl,by first | exact .inl rfl | exact .inr rfl,by first | exact .inl rfl | exact .inr rfl⟩ (fun δ z=>z) ?_
  rintro s hs δ ⟨v1,v2,v5,r4,r6,r7,rfl,h1,h2,h5⟩ N hN;have hge:=(dj s (rs s hs).1).mp (z5 K.reg hs (uO _))
  rcases h2 with rfl|rfl
  all_goals(
   walk_at "dl";refine⟨ps,s,rfl,by omega,hz12,bP (rs s hs).2 (by decide),?_⟩
   walk_at "dl";rw[if_neg (by omega)]
   exact hN _ ⟨_,_,_,_,_,_,rfl,h1,by first|exact .inl rfl|exact .inr rfl,h5⟩)
 rintro δ ⟨v1,v2,v5,r4,r6,r7,rfl,h1,h2,h5⟩;walk_at "dl";refine⟨fun b=>b=false,?_,?_⟩
 ·rcases h2 with rfl|rfl <;> rcases h5 with rfl|rfl
  all_goals(
   walk_at "dl";rw[List.length_map]
   split
   ·rename_i h1;refine⟨L,rfl,by omega,K.len,rs,JZ hE K,fun s ok zs cv=>?_⟩
    walk_at "dl";refine⟨ps,s,rfl,by omega,hz12,zs,?_⟩
    walk_at "dl";have:=(dj s ok).mp (kB K.reg (dJ ok) cv)
    first|(rw[decide_eq_false (by omega)])|(simp;omega)
   ·trivial)
 rintro b rfl;rw[if_neg (by decide)]
 walk_at "dl";refine⟨M,?_,?_⟩
 ·have fin:∀ c:Int,∀ (v1 v2 v5:S) (r4 r6 r7:Option S),OLh v1->OLp v2->OLs v5->∀ cs:List Int,wm (aU 7)
    (aH (aN 6 (aD fj (af (ae 2) (af (dM (ae 7) (sY (wC (T.int 10)) (wC (T.int 18)))) av))))
    (eZ (wB (AZ (Me (aD cJ (af (ae 2) (af (ae 6) av))) (ae 3)) (aD dW (af (ae 5) (af (ae 6) av))))) (bu (wC (T.bl false))) aY))
    (cs.map .int) {nx:=M,rt:=R} [some (.t (.lst (ns.map .int))),some v1,some v2,some (.t (.int (k:Int))),r4,some v5,r6,r7]:=fun c v1 v2 v5 r4 r6 r7 h1 h2 h5 cs=>by
   refine rd (f:=T.int) M ⟨_,_,_,_,_,_,rfl,h1,h2,h5⟩ (fun δ z=>z) ?_;clear h1 h2 h5 v1 v2 v5 r4 r6 r7;rintro c hc δ ⟨v1,v2,v5,r4,r6,r7,rfl,h1,h2,h5⟩ N hN
   rcases h2 with rfl|rfl <;> rcases h5 with rfl|rfl
   all_goals(
    walk_at "go";refine⟨ps,_,rfl,hps,by omega,hz,fun s ok zs=>?_⟩
    walk_at "dl";refine⟨ps,s,rfl,by omega,hz12,bP zs (by decide),?_⟩
    walk_at "dl";refine⟨L,s,rfl,K.len,K.reg,ok,bP zs (by decide),fun b hb=>?_⟩
    have eb:decide ((k:Int)<=(xS (ps.map (lw (ag s))):Int))=b:=by
     have:=hb.trans (dj s ok)
     cases b with
     | true=>exact decide_eq_true (by have:=this.mp rfl;omega)
     | false=>exact decide_eq_false (fun z=>by have:=this.mpr (by omega);simp at this)
    rw[eb];show dL (.t (.bl b)) (.t (.bl b)) _;rw[NN];walk_at "dl";exact hN _ ⟨_,_,_,_,_,_,rfl,h1,by first | exact .inl rfl | exact .inr rfl,by first | exact .inl rfl | exact .inr rfl⟩)
  rcases h1 with rfl|rfl
  all_goals(
   walk_at "dl"
   first
   | (refine nF (i:=12) (by omega) hdb fun v12 _ _=>?_)
   | (refine x9 (i:=12) (by omega) hdb fun v12 _ _=>?_)
   walk_at "dl";rw[Pe,show [T.int v12]=[v12].map T.int from rfl,<-List.map_append];refine⟨by rw[List.length_map,List.length_take];omega,?_⟩
   exact fin 0 _ _ _ _ _ _ (by first|exact .inl rfl|exact .inr rfl) h2 h5 _)
 ·rintro δ ⟨v1,v2,v5,r4,r6,r7,rfl,h1,h2,h5⟩;walk_at "dl";exact h
end Law
namespace PySem.W.Fast
def tw10015351307400761646:Nat:=0
def tw10128515261044659977:Nat:=0
def tw10132588564264060355:Nat:=0
def tw10148316377467232569:Nat:=0
def tw10233567200129799861:Nat:=0
def tw10257121433734934306:Nat:=0
def tw1030400752362611211:Nat:=0
def tw10402948202463763422:Nat:=0
def tw10485795288509681261:Nat:=0
def tw10572881567254203405:Nat:=0
def tw10684546525057606338:Nat:=0
def tw10897756189931843445:Nat:=0
def tw10903498948400818416:Nat:=0
def tw10927270153690472579:Nat:=0
def tw10937957360268442582:Nat:=0
def tw10982286731475398215:Nat:=0
def tw11046142080890434179:Nat:=0
def tw11051414574211067626:Nat:=0
def tw11331547638805384196:Nat:=0
def tw11334294798432870347:Nat:=0
def tw11397629221268553137:Nat:=0
def tw11462953383878067364:Nat:=0
def tw11484305537868469942:Nat:=0
def tw11613544653888213288:Nat:=0
def tw11628901519613306055:Nat:=0
def tw11695545671516342299:Nat:=0
def tw11701292976298368090:Nat:=0
def tw1175716678433248028:Nat:=0
def tw11877933341405508766:Nat:=0
def tw11912976277010905783:Nat:=0
def tw11919251911548450663:Nat:=0
def tw11992947946670581364:Nat:=0
def tw120097319465155675:Nat:=0
def tw12200675064151647626:Nat:=0
def tw12375296163680546346:Nat:=0
def tw12389590898950685350:Nat:=0
def tw12409557898225757886:Nat:=0
def tw12647639588922813681:Nat:=0
def tw1274416048192645423:Nat:=0
def tw1280618361927451249:Nat:=0
def tw12873210120313234333:Nat:=0
def tw12921891583780060980:Nat:=0
def tw1294935853212142952:Nat:=0
def tw12975775149029037162:Nat:=0
def tw1303586242061656908:Nat:=0
def tw13448580994190431518:Nat:=0
def tw13461999718162321792:Nat:=0
def tw13515827258869002625:Nat:=0
def tw13644664837550642852:Nat:=0
def tw13721558411414180436:Nat:=0
def tw13735826045525088748:Nat:=0
def tw13836334622414208479:Nat:=0
def tw13867587109909731016:Nat:=0
def tw13882933219645607933:Nat:=0
def tw13909614644299186967:Nat:=0
def tw13925771884835381328:Nat:=0
def tw13980277834454955133:Nat:=0
def tw14010428513285741797:Nat:=0
def tw14011420674530766238:Nat:=0
def tw14183960907444694829:Nat:=0
def tw14193239877631486413:Nat:=0
def tw14260745869128242801:Nat:=0
def tw14309224171041095733:Nat:=0
def tw14561181362234202897:Nat:=0
def tw14632233678784400367:Nat:=0
def tw14640439327656165631:Nat:=0
def tw14714317717450854322:Nat:=0
def tw14718009828267319546:Nat:=0
def tw14732435995097492125:Nat:=0
def tw14786709808603422955:Nat:=0
def tw14835865876658838374:Nat:=0
def tw14878863457553938419:Nat:=0
def tw14921372841716886391:Nat:=0
def tw14930014787088332920:Nat:=0
def tw14958112246039754269:Nat:=0
def tw1517903428547972609:Nat:=0
def tw15184230813125062508:Nat:=0
def tw15211304992914220102:Nat:=0
def tw15345934607726719828:Nat:=0
def tw15369615846666879988:Nat:=0
def tw15443049904874469638:Nat:=0
def tw15469214037926942370:Nat:=0
def tw15484876904643834575:Nat:=0
def tw15509836356085581339:Nat:=0
def tw15669205523072397253:Nat:=0
def tw15710883527048810993:Nat:=0
def tw15723256727495673585:Nat:=0
def tw15738244707440121500:Nat:=0
def tw15795026828203561384:Nat:=0
def tw15821637149189650673:Nat:=0
def tw15837716442837354114:Nat:=0
def tw15871245925456186633:Nat:=0
def tw1589142498919441702:Nat:=0
def tw15982672604845084431:Nat:=0
def tw16025030990143255508:Nat:=0
def tw16082446655050596995:Nat:=0
def tw16115765040646705790:Nat:=0
def tw16180580581406259870:Nat:=0
def tw16228968143028035029:Nat:=0
def tw16231666007756564940:Nat:=0
def tw16259637969113844191:Nat:=0
def tw16259953267834815639:Nat:=0
def tw1630626576360497090:Nat:=0
def tw16417540910512441925:Nat:=0
def tw16527578007837833722:Nat:=0
def tw16542755594495138697:Nat:=0
def tw16559139832287051007:Nat:=0
def tw1661042770024852699:Nat:=0
def tw16619046542505370383:Nat:=0
def tw16739858495818673561:Nat:=0
def tw16771026665310976998:Nat:=0
def tw1678924441706456939:Nat:=0
def tw1692502031303892768:Nat:=0
def tw16939572671614622854:Nat:=0
def tw16946625965620676796:Nat:=0
def tw16957017254387879575:Nat:=0
def tw17127093232331143164:Nat:=0
def tw17157348913086057475:Nat:=0
def tw17161707328895792658:Nat:=0
def tw17291356401620435868:Nat:=0
def tw17359681626517687782:Nat:=0
def tw17466207981916820576:Nat:=0
def tw17596512154016093295:Nat:=0
def tw17616654917533535527:Nat:=0
def tw17695244533520789517:Nat:=0
def tw17792790885830876994:Nat:=0
def tw18110748173224705843:Nat:=0
def tw18371509017645970005:Nat:=0
def tw1846001626099735589:Nat:=0
def tw1847709047248798831:Nat:=0
def tw1849010714224181524:Nat:=0
def tw1979530977717181160:Nat:=0
def tw2006665055869933804:Nat:=0
def tw222476547563898175:Nat:=0
def tw2238526776802783347:Nat:=0
def tw2261277991675933424:Nat:=0
def tw2284092442232702021:Nat:=0
def tw2321776636508140294:Nat:=0
def tw2370299524252403680:Nat:=0
def tw2464322705584524596:Nat:=0
def tw2897695170964280396:Nat:=0
def tw2922856887161939130:Nat:=0
def tw2965350899203912746:Nat:=0
def tw2989319751975187478:Nat:=0
def tw2994647770307484473:Nat:=0
def tw3013488207367544256:Nat:=0
def tw3092413049022423400:Nat:=0
def tw3267852182892940622:Nat:=0
def tw330167208596144404:Nat:=0
def tw3330594667714895363:Nat:=0
def tw3413085172894874837:Nat:=0
def tw342786294199063056:Nat:=0
def tw3486614980437827236:Nat:=0
def tw3515624240190118192:Nat:=0
def tw3715866968417415558:Nat:=0
def tw3719439222734044710:Nat:=0
def tw37535106274512696:Nat:=0
def tw3792313028362127199:Nat:=0
def tw3803416659533550809:Nat:=0
def tw3822964403491699115:Nat:=0
def tw3850574285225220369:Nat:=0
def tw392872859400639595:Nat:=0
def tw3994381989974245562:Nat:=0
def tw4026143228860795744:Nat:=0
def tw4102792847371175422:Nat:=0
def tw4313464118328158046:Nat:=0
def tw43816508227380497:Nat:=0
def tw4393813154425546277:Nat:=0
def tw4404760056585356805:Nat:=0
def tw4418226424828324381:Nat:=0
def tw4425095392015173885:Nat:=0
def tw448862062427222358:Nat:=0
def tw4497781880542273175:Nat:=0
def tw4541320433406403900:Nat:=0
def tw4685421872594149512:Nat:=0
def tw4731723610440553992:Nat:=0
def tw4909399719455919304:Nat:=0
def tw4912827062740734565:Nat:=0
def tw4940824610363646417:Nat:=0
def tw4986137647647648734:Nat:=0
def tw5071584277226268599:Nat:=0
def tw5226722155933186796:Nat:=0
def tw5240822819232368049:Nat:=0
def tw5341035464519353582:Nat:=0
def tw5524084072572501412:Nat:=0
def tw5555491701939539700:Nat:=0
def tw5613078441100482037:Nat:=0
def tw5830933405101784388:Nat:=0
def tw5883953939346536381:Nat:=0
def tw5900320224438639000:Nat:=0
def tw5973673712988796152:Nat:=0
def tw5992296364343664532:Nat:=0
def tw6125748464226185693:Nat:=0
def tw6175598458157137956:Nat:=0
def tw6178108635853031741:Nat:=0
def tw6297699906732718337:Nat:=0
def tw630864768827449008:Nat:=0
def tw6315995875558967548:Nat:=0
def tw638110969986534647:Nat:=0
def tw6427063664443017645:Nat:=0
def tw648010842527360883:Nat:=0
def tw6499450163881376650:Nat:=0
def tw6628749902402248228:Nat:=0
def tw6751432474889356728:Nat:=0
def tw6775395653309721633:Nat:=0
def tw718379326555568652:Nat:=0
def tw7348385369660129564:Nat:=0
def tw7357086858631775439:Nat:=0
def tw7430242696354732332:Nat:=0
def tw7746981883963649550:Nat:=0
def tw7781395130848033387:Nat:=0
def tw7809911206212769596:Nat:=0
def tw7865314216466319183:Nat:=0
def tw7906270268151128136:Nat:=0
def tw7922204057347405972:Nat:=0
def tw8041236444414373766:Nat:=0
def tw8124362661396550595:Nat:=0
def tw8388591573196896025:Nat:=0
def tw847814991113499490:Nat:=0
def tw8480352126161555751:Nat:=0
def tw8604133116693288659:Nat:=0
def tw8676986596808217698:Nat:=0
def tw8704723691342211682:Nat:=0
def tw8710979486697183867:Nat:=0
def tw8753324343064741804:Nat:=0
def tw8852269941604943973:Nat:=0
def tw8973778114413907505:Nat:=0
def tw9014899408613468015:Nat:=0
def tw9063953387376292957:Nat:=0
def tw9079806840547690832:Nat:=0
def tw9335884495329849926:Nat:=0
def tw9361391649100111749:Nat:=0
def tw9453310390459271533:Nat:=0
def tw950439175822656664:Nat:=0
def tw973305131803261757:Nat:=0
def tw9810629496430821629:Nat:=0
def tw9872724742081341772:Nat:=0
end PySem.W.Fast
namespace Law
open PySem PyProof.Rows L2 DL
set_option maxHeartbeats 4000000
def top (i:Nat):Stmt:=PySem.Challenge.pw_deepspot_k42_whole_regions_of_depth.main.body.getD i (.Pass ⟨0,0,0,0⟩)
abbrev Rm (A:Around)(s:Shared)(f:Addr)(cdv:Value)(k:Nat)(n:Str)(st:Stmt):Prop:=cz k (A.deeper (envOfC n (al st) s.heap.objs.size f cdv))
abbrev Bd (P:Program)(w:World)(K:PySem.W.Frag)(mg:Str->Option Value)(base:Heap)(f:Addr)(cdv:Value)(A:Around)(outer:List Env)(s:Shared)(H:Hp)(E:XK)(N:List Str)(n:Str)(st:Stmt)(u:WS):Prop:=j8 (qU AW P w K mg base N n (al st) f cdv A outer s H E).nox (de st) (bO K H u)
section
variable {P:Program}{w:World}{K:PySem.W.Frag}{mg:Str->Option Value}{base:Heap}{f:Addr}{cdv:Value}{A:Around}{outer:List Env}{s:Shared}{H:Hp}{E:XK}
abbrev gL:Stmt:=top 7
theorem dU:aA ["one","other","greater","lesser","rest"] ["one","other"] (al gL):=⟨rfl,rfl,rfl,by decide +kernel,rfl,by decide +kernel,by decide +kernel⟩
theorem y8 (m_abs:mg "abs"=none) (hr:Rm A s f cdv 0 "divisor" gL):Bd P w K mg base f cdv A outer s H E ["one","other","greater","lesser","rest"] "divisor" gL jw:=
 (ai (aq (i:=2) dU.nd (lF m_abs (aa (dv 0) ah)))
 (ai (aq (i:=3) dU.nd (lF m_abs (aa (dv 1) ah)))
 (aB (ni PassesOwn.never (jJ hr (dv 3) ab) (ai (aq (i:=4) dU.nd (bF (dv 2) (dv 3)))
 (ai (aq (i:=2) dU.nd (dv 3))
 (aj (aq (i:=3) dU.nd (dv 4))))))
 (aj (hW (pv 2))))))
abbrev kS:Stmt:=top 8
theorem ow:aA ["top","bottom","common"] ["top","bottom"] (al kS):=⟨rfl,rfl,rfl,by decide +kernel,rfl,by decide +kernel,by decide +kernel⟩
theorem Ga (c_divisor:Callee P w K mg base 1 "divisor" cm) (hr:Rm A s f cdv 1 "ratio" kS):Bd P w K mg base f cdv A outer s H E ["top","bottom","common"] "ratio" kS mR:=
 (ai (a5 (eC hr (dv 1) ab) (aj ko) aC)
 (ai (aq (i:=2) ow.nd (ap c_divisor (hr.mono (by decide)) rfl (aa (dv 0) (aa (dv 1) ah))))
 (aB (a5 (iI (dv 1) ab) (aj (aq (i:=2) ow.nd (gc (dv 2)))) aC)
 (aj (aE (bK (aa (bI (dv 0) (dv 2)) (aa (bI (dv 1) (dv 2)) ah))))))))
abbrev kP:Stmt:=top 9
theorem Fb:aA ["one","other"] ["one","other"] (al kP):=⟨rfl,rfl,rfl,by decide +kernel,rfl,by decide +kernel,by decide +kernel⟩
theorem F7 (hr:Rm A s f cdv 0 "below" kP):Bd P w K mg base f cdv A outer s H E ["one","other"] "below" kP mO:=
 (aj (aE (BK (az (ak (dv 0) ab) (ak (dv 1) ab)) (az (ak (dv 1) ab) (ak (dv 0) ab)))))
abbrev oh:Stmt:=top 11
theorem yL:aA ["a","b","c","common"] ["a","b","c"] (al oh):=⟨rfl,rfl,rfl,by decide +kernel,rfl,by decide +kernel,by decide +kernel⟩
theorem JR (c_divisor:Callee P w K mg base 1 "divisor" cm) (hr:Rm A s f cdv 1 "half" oh):Bd P w K mg base f cdv A outer s H E ["a","b","c","common"] "half" oh td:=
 (ai (a5 (lH (PW.pt (ie (eC hr (dv 0) ab) (e6 (eC hr (dv 1) ab))))) (aj ko) aC)
 (ai (aq (i:=3) yL.nd (ap c_divisor (hr.mono (by decide)) rfl (aa (ap c_divisor (hr.mono (by decide)) rfl (aa (dv 0) (aa (dv 1) ah))) (aa (dv 2) ah))))
 (aj (aE (bK (aa (bI (dv 0) (dv 3)) (aa (bI (dv 1) (dv 3)) (aa (bI (dv 2) (dv 3)) ah))))))))
abbrev gI:Stmt:=top 12
theorem j1:aA ["one","other","a","b"] ["one","other"] (al gI):=⟨rfl,rfl,rfl,by decide +kernel,rfl,by decide +kernel,by decide +kernel⟩
theorem yY (c_half:Callee P w K mg base 2 "half" kU) (hr:Rm A s f cdv 2 "between" gI):Bd P w K mg base f cdv A outer s H E ["one","other","a","b"] "between" gI jt:=
 (ai (aq (i:=2) j1.nd (a6 (ak (dv 0) ab) (ak (dv 1) ab)))
 (ai (aq (i:=3) j1.nd (a6 (ak (dv 1) ab) (ak (dv 0) ab)))
 (aj (aE (ap c_half (hr.mono (by decide)) rfl (aa (dv 2) (aa (dv 3) (aa (a8 (az (dv 2) (ak (dv 0) ab)) (az (dv 3) (ak (dv 0) ab))) ah))))))))
abbrev gH:Stmt:=top 13
theorem xg:aA ["point"] ["point"] (al gH):=⟨rfl,rfl,rfl,by decide +kernel,rfl,by decide +kernel,by decide +kernel⟩
theorem yX (hr:Rm A s f cdv 0 "as_spot" gH):Bd P w K mg base f cdv A outer s H E ["point"] "as_spot" gH js:=
 (aj (aE (bK (aa (bK (aa (ak (dv 0) ab) (aa ab ah))) (aa (bK (aa (ak (dv 0) ab) (aa ab ah))) ah)))))
abbrev gJ:Stmt:=top 14
theorem xh:aA ["spot"] ["spot"] (al gJ):=⟨rfl,rfl,rfl,by decide +kernel,rfl,by decide +kernel,by decide +kernel⟩
theorem yZ (hr:Rm A s f cdv 0 "bottoms" gJ):Bd P w K mg base f cdv A outer s H E ["spot"] "bottoms" gJ ju:=
 (aj (aE (az (ak (ak (dv 0) ab) ab) (ak (ak (dv 0) ab) ab))))
abbrev jb:Stmt:=top 15
theorem lV:aA ["half","spot","x","y"] ["half","spot"] (al jb):=⟨rfl,rfl,rfl,by decide +kernel,rfl,by decide +kernel,by decide +kernel⟩
theorem Bo (c_bottoms:Callee P w K mg base 1 "bottoms" bZ) (hr:Rm A s f cdv 1 "excess" jb):Bd P w K mg base f cdv A outer s H E ["half","spot","x","y"] "excess" jb lb:=
 (ai (aq (i:=2) lV.nd (ak (dv 1) ab))
 (ai (aq (i:=3) lV.nd (ak (dv 1) ab))
 (aj (aE (a6 (a8 (az (az (ak (dv 0) ab) (ak (dv 2) ab)) (ak (dv 3) ab)) (az (az (ak (dv 0) ab) (ak (dv 3) ab)) (ak (dv 2) ab))) (az (ak (dv 0) ab) (ap c_bottoms (hr.mono (by decide)) rfl (aa (dv 1) ah))))))))
abbrev oj:Stmt:=top 16
theorem Ic:aA ["number"] ["number"] (al oj):=⟨rfl,rfl,rfl,by decide +kernel,rfl,by decide +kernel,by decide +kernel⟩
theorem JU (hr:Rm A s f cdv 0 "sign" oj):Bd P w K mg base f cdv A outer s H E ["number"] "sign" oj tj:=
 (ai (a5 (iH (dv 0) ab) (aj (aE ab)) aC)
 (ai (a5 (iI (dv 0) ab) (aj (aE (gc ab))) aC)
 (aj (aE ab))))
abbrev oi:Stmt:=top 17
theorem Ib:aA ["half","spot"] ["half","spot"] (al oi):=⟨rfl,rfl,rfl,by decide +kernel,rfl,by decide +kernel,by decide +kernel⟩
theorem JT (c_sign:Callee P w K mg base 1 "sign" kX) (c_excess:Callee P w K mg base 2 "excess" cw) (hr:Rm A s f cdv 2 "side" oi):Bd P w K mg base f cdv A outer s H E ["half","spot"] "side" oi w_side:=
 (aj (aE (ap c_sign (hr.mono (by decide)) rfl (aa (ap c_excess (hr.mono (by decide)) rfl (aa (dv 0) (aa (dv 1) ah))) ah))))
abbrev fh:Stmt:=top 18
theorem xk:aA ["half","points"] ["half","points"] (al fh):=⟨rfl,rfl,rfl,by decide +kernel,rfl,by decide +kernel,by decide +kernel⟩
theorem zi (m_len:mg "len"=none) (hr:Rm A s f cdv 0 "many_in" fh):Bd P w K mg base f cdv A outer s H E ["half","points"] "many_in" fh jC:=
 (aj (aE (bD m_len (aa (mD (N:=["point","half"]) (own:=1) (fr:=[0]) (NX:=["half","points"]) (ar:=al fh) (by decide +kernel) (bL (dv 1)) eD (fun _ _ _ _=>(aR (i:=0) (show List.Nodup (["point","half"]:List Str) by decide))) (fun _ _ _ _=>(qY (BR (a8 (az (ak (dv 1) ab) (ak (dv 0) ab)) (az (ak (dv 1) ab) (ak (dv 0) ab))) (ak (dv 1) ab)))) (fun _ _ _ _=>(dv 0))) ah))))
abbrev je:Stmt:=top 20
theorem AH:aA ["one","other"] ["one","other"] (al je):=⟨rfl,rfl,rfl,by decide +kernel,rfl,by decide +kernel,by decide +kernel⟩
theorem Bs (c_below:Callee P w K mg base 1 "below" gR) (hr:Rm A s f cdv 1 "lesser" je):Bd P w K mg base f cdv A outer s H E ["one","other"] "lesser" je li:=
 (ai (a5 (eC hr (ak (dv 0) ab) (ak (dv 1) ab)) (aj (aE (ap c_below (hr.mono (by decide)) rfl (aa (ak (dv 0) ab) (aa (ak (dv 1) ab) ah))))) aC)
 (aj (aE (ap c_below (hr.mono (by decide)) rfl (aa (ak (dv 0) ab) (aa (ak (dv 1) ab) ah))))))
abbrev eI:Stmt:=top 21
theorem sR:aA ["spot"] ["spot"] (al eI):=⟨rfl,rfl,rfl,by decide +kernel,rfl,by decide +kernel,by decide +kernel⟩
theorem tJ (c_bottoms:Callee P w K mg base 1 "bottoms" bZ) (hr:Rm A s f cdv 1 "stretched" eI):Bd P w K mg base f cdv A outer s H E ["spot"] "stretched" eI fY:=
 (aj (aE (bK (aa (az (ak (ak (dv 0) ab) ab) (ak (ak (dv 0) ab) ab)) (aa (az (ak (ak (dv 0) ab) ab) (ak (ak (dv 0) ab) ab)) (aa (ap c_bottoms (hr.mono (by decide)) rfl (aa (dv 0) ah)) ah))))))
abbrev om:Stmt:=top 22
theorem jq:aA ["one","other","third","here","there","a","b","c"] ["one","other","third"] (al om):=⟨rfl,rfl,rfl,by decide +kernel,rfl,by decide +kernel,by decide +kernel⟩
theorem JV (c_stretched:Callee P w K mg base 2 "stretched" cU) (c_excess:Callee P w K mg base 2 "excess" cw) (hr:Rm A s f cdv 2 "turn" om):Bd P w K mg base f cdv A outer s H E ["one","other","third","here","there","a","b","c"] "turn" om tm:=
 (ai (aq (i:=3) jq.nd (ap c_stretched (hr.mono (by decide)) rfl (aa (dv 0) ah)))
 (ai (aq (i:=4) jq.nd (ap c_stretched (hr.mono (by decide)) rfl (aa (dv 1) ah)))
 (ai (aq (i:=5) jq.nd (a6 (az (ak (dv 3) ab) (ak (dv 4) ab)) (az (ak (dv 3) ab) (ak (dv 4) ab))))
 (ai (aq (i:=6) jq.nd (a6 (az (ak (dv 3) ab) (ak (dv 4) ab)) (az (ak (dv 3) ab) (ak (dv 4) ab))))
 (ai (aq (i:=7) jq.nd (a6 (az (ak (dv 3) ab) (ak (dv 4) ab)) (az (ak (dv 3) ab) (ak (dv 4) ab))))
 (aj (aE (ap c_excess (hr.mono (by decide)) rfl (aa (bK (aa (dv 5) (aa (dv 6) (aa (dv 7) ah)))) (aa (dv 2) ah))))))))))
abbrev kQ:Stmt:=top 23
theorem oo:aA ["spots","kept","spot"] ["spots"] (al kQ):=⟨rfl,rfl,rfl,by decide +kernel,rfl,by decide +kernel,by decide +kernel⟩
theorem F8 (m_len:mg "len"=none) (c_turn:Callee P w K mg base 3 "turn" kY) (hr:Rm A s f cdv 3 "chain" kQ):Bd P w K mg base f cdv A outer s H E ["spots","kept","spot"] "chain" kQ mP:=
 (ai (aq (i:=1) oo.nd (di ah))
 (aB (bV PassesOwn.never (bL (dv 0)) (aR (i:=2) oo.nd) (aB (ni PassesOwn.never (lH (PW.pt (ie (iH (bD m_len (aa (dv 1) ah)) ab) (e6 (IA (ap c_turn (hr.mono (by decide)) rfl (aa (ak (dv 1) (gc ab)) (aa (ak (dv 1) (gc ab)) (aa (dv 2) ah)))) ab))))) (aj (Kf (i:=1))))
 (aj (fe (i:=1) (dv 2)))))
 (aj (hW (pv 1)))))
abbrev lU:Stmt:=top 24
theorem mM:aA ["points","spots","under","above"] ["points"] (al lU):=⟨rfl,rfl,rfl,by decide +kernel,rfl,by decide +kernel,by decide +kernel⟩
theorem JS (m_sorted:mg "sorted"=none) (m_set:mg "set"=none) (m_len:mg "len"=none) (m_list:mg "list"=none) (m_reversed:mg "reversed"=none) (c_as_spot:Callee P w K mg base 1 "as_spot" fC) (c_chain:Callee P w K mg base 4 "chain" gS) (hr:Rm A s f cdv 4 "hull" lU):Bd P w K mg base f cdv A outer s H E ["points","spots","under","above"] "hull" lU tf:=
 (ai (hX (i:=1) mM.nd (N:=["point"]) (own:=1) (fr:=[]) (NX:=["points","spots","under","above"]) (ar:=al lU) (by decide +kernel) (bL (ng hr m_sorted m_set hr.hd (dv 0))) eD (fun _ _ _ _=>(aR (i:=0) (show List.Nodup (["point"]:List Str) by decide))) (fun _ _ _ _=>kq) (fun _ _ _ _=>(ap c_as_spot (hr.mono (by decide)) rfl (aa (dv 0) ah))))
 (ai (a5 (iI (bD m_len (aa (dv 1) ah)) ab) (aj (hW (pv 1))) aC)
 (ai (aq (i:=2) mM.nd (ap c_chain (hr.mono (by decide)) rfl (aa (dv 1) ah)))
 (ai (aq (i:=3) mM.nd (ap c_chain (hr.mono (by decide)) rfl (aa (v4 m_list m_reversed hr.hd (dv 1)) ah)))
 (aj (aE (vX (iU (dv 2) kl (kn (gc ab))) (iU (dv 3) kl (kn (gc ab))))))))))
abbrev jo:Stmt:=top 25
theorem Fc:aA ["region"] ["region"] (al jo):=⟨rfl,rfl,rfl,by decide +kernel,rfl,by decide +kernel,by decide +kernel⟩
theorem Gb (m_range:mg "range"=none) (m_len:mg "len"=none) (hr:Rm A s f cdv 0 "sides" jo):Bd P w K mg base f cdv A outer s H E ["region"] "sides" jo mS:=
 (aj (aE (mD (N:=["place","region"]) (own:=1) (fr:=[0]) (NX:=["region"]) (ar:=al jo) (by decide +kernel) (cP m_range (aa (bD m_len (aa (dv 0) ah)) ah)) eD (fun _ _ _ _=>(aR (i:=0) (show List.Nodup (["place","region"]:List Str) by decide))) (fun _ _ _ _=>kq) (fun _ _ _ _=>(bK (aa (ak (dv 1) (a6 (dv 0) ab)) (aa (ak (dv 1) (dv 0)) ah)))))))
abbrev dF:Stmt:=top 26
theorem ec:aA ["corners","first","place"] ["corners"] (al dF):=⟨rfl,rfl,rfl,by decide +kernel,rfl,by decide +kernel,by decide +kernel⟩
theorem qF (m_range:mg "range"=none) (m_len:mg "len"=none) (c_lesser:Callee P w K mg base 2 "lesser" gT) (hr:Rm A s f cdv 2 "from_least" dF):Bd P w K mg base f cdv A outer s H E ["corners","first","place"] "from_least" dF fb:=
 (ai (aq (i:=1) ec.nd ab)
 (aB (bV PassesOwn.never (cP m_range (aa (bD m_len (aa (dv 0) ah)) ah)) (aR (i:=2) ec.nd) (aj (a5 (ft (ap c_lesser (hr.mono (by decide)) rfl (aa (ak (dv 0) (dv 2)) (aa (ak (dv 0) (dv 1)) ah)))) (aj (aq (i:=1) ec.nd (dv 2))) aC)))
 (aj (aE (vX (iU (dv 0) (kn (dv 1)) kl) (iU (dv 0) kl (kn (dv 1))))))))
abbrev kR:Stmt:=top 27
theorem u6:aA ["one","one_weight","other","other_weight","top"] ["one","one_weight","other","other_weight"] (al kR):=⟨rfl,rfl,rfl,by decide +kernel,rfl,by decide +kernel,by decide +kernel⟩
theorem F9 (c_ratio:Callee P w K mg base 2 "ratio" jg) (hr:Rm A s f cdv 2 "mixed" kR):Bd P w K mg base f cdv A outer s H E ["one","one_weight","other","other_weight","top"] "mixed" kR mQ:=
 (ai (aq (i:=4) u6.nd (a8 (az (az (ak (dv 0) ab) (ak (dv 2) ab)) (dv 1)) (az (az (ak (dv 2) ab) (ak (dv 0) ab)) (dv 3))))
 (aj (aE (ap c_ratio (hr.mono (by decide)) rfl (aa (dv 4) (aa (az (az (ak (dv 0) ab) (ak (dv 2) ab)) (a8 (dv 1) (dv 3))) ah))))))
abbrev fy:Stmt:=top 28
theorem eJ:aA ["half","one","other","one_weight","other_weight","x","y"] ["half","one","other"] (al fy):=⟨rfl,rfl,rfl,by decide +kernel,rfl,by decide +kernel,by decide +kernel⟩
theorem vC (m_abs:mg "abs"=none) (c_excess:Callee P w K mg base 2 "excess" cw) (c_bottoms:Callee P w K mg base 1 "bottoms" bZ) (c_mixed:Callee P w K mg base 3 "mixed" gU) (hr:Rm A s f cdv 3 "crossing" fy):Bd P w K mg base f cdv A outer s H E ["half","one","other","one_weight","other_weight","x","y"] "crossing" fy iE:=
 (ai (aq (i:=3) eJ.nd (az (lF m_abs (aa (ap c_excess (hr.mono (by decide)) rfl (aa (dv 0) (aa (dv 2) ah))) ah)) (ap c_bottoms (hr.mono (by decide)) rfl (aa (dv 1) ah))))
 (ai (aq (i:=4) eJ.nd (az (lF m_abs (aa (ap c_excess (hr.mono (by decide)) rfl (aa (dv 0) (aa (dv 1) ah))) ah)) (ap c_bottoms (hr.mono (by decide)) rfl (aa (dv 2) ah))))
 (ai (aq (i:=5) eJ.nd (ap c_mixed (hr.mono (by decide)) rfl (aa (ak (dv 1) ab) (aa (dv 3) (aa (ak (dv 2) ab) (aa (dv 4) ah))))))
 (ai (aq (i:=6) eJ.nd (ap c_mixed (hr.mono (by decide)) rfl (aa (ak (dv 1) ab) (aa (dv 3) (aa (ak (dv 2) ab) (aa (dv 4) ah))))))
 (aj (aE (bK (aa (dv 5) (aa (dv 6) ah)))))))))
abbrev gK:Stmt:=top 29
theorem iz:aA ["region","half","kept","pair","spot"] ["region","half"] (al gK):=⟨rfl,rfl,rfl,by decide +kernel,rfl,by decide +kernel,by decide +kernel⟩
theorem y6 (c_sides:Callee P w K mg base 1 "sides" jh) (c_side:Callee P w K mg base 3 "side" iB) (c_crossing:Callee P w K mg base 4 "crossing" eO) (c_from_least:Callee P w K mg base 3 "from_least" c8) (hr:Rm A s f cdv 4 "clipped" gK):Bd P w K mg base f cdv A outer s H E ["region","half","kept","pair","spot"] "clipped" gK jv:=
 (ai (aq (i:=2) iz.nd (di ah))
 (aB (bV PassesOwn.never (bL (ap c_sides (hr.mono (by decide)) rfl (aa (dv 0) ah))) (aR (i:=3) iz.nd) (aB (a5 (iI (az (ap c_side (hr.mono (by decide)) rfl (aa (dv 1) (aa (ak (dv 3) ab) ah))) (ap c_side (hr.mono (by decide)) rfl (aa (dv 1) (aa (ak (dv 3) ab) ah)))) ab) (ai (aq (i:=4) iz.nd (ap c_crossing (hr.mono (by decide)) rfl (aa (dv 1) (aa (ak (dv 3) ab) (aa (ak (dv 3) ab) ah)))))
 (aj (a5 (BS hr (dv 4) (dv 2)) (aj (fe (i:=2) (dv 4))) aC))) aC)
 (aj (a5 (BR (ap c_side (hr.mono (by decide)) rfl (aa (dv 1) (aa (ak (dv 3) ab) ah))) ab) (aj (fe (i:=2) (ak (dv 3) ab))) aC))))
 (aj (aE (ap c_from_least (hr.mono (by decide)) rfl (aa (dv 2) ah))))))
abbrev bJ:Stmt:=top 31
theorem cI:aA ["point","x","y"] ["point"] (al bJ):=⟨rfl,rfl,rfl,by decide +kernel,rfl,by decide +kernel,by decide +kernel⟩
theorem jE (hr:Rm A s f cdv 0 "upright_and_level" bJ):Bd P w K mg base f cdv A outer s H E ["point","x","y"] "upright_and_level" bJ ca:=
 (ai (aq (i:=1) cI.nd (ak (dv 0) ab))
 (ai (aq (i:=2) cI.nd (ak (dv 0) ab))
 (aj (aE (di (aa (bK (aa ab (aa ab (aa (dv 1) ah)))) (aa (bK (aa (gc ab) (aa ab (aa (gc (dv 1)) ah)))) (aa (bK (aa ab (aa ab (aa (dv 2) ah)))) (aa (bK (aa ab (aa (gc ab) (aa (gc (dv 2)) ah)))) ah)))))))))
abbrev fw:Stmt:=top 32
theorem fU:aA ["points","found","one","other"] ["points"] (al fw):=⟨rfl,rfl,rfl,by decide +kernel,rfl,by decide +kernel,by decide +kernel⟩
theorem vB (m_sorted:mg "sorted"=none) (m_set:mg "set"=none) (c_upright_and_level:Callee P w K mg base 1 "upright_and_level" bG) (c_between:Callee P w K mg base 3 "between" fE) (hr:Rm A s f cdv 3 "bordered" fw):Bd P w K mg base f cdv A outer s H E ["points","found","one","other"] "bordered" fw iD:=
 (ai (aq (i:=1) fU.nd (di ah))
 (aB (bV PassesOwn.never (bL (dv 0)) (aR (i:=2) fU.nd) (ai (zP (i:=1) (ap c_upright_and_level (hr.mono (by decide)) (by rfl) (aa (dv 2) ah)))
 (aj (bV PassesOwn.never (bL (dv 0)) (aR (i:=3) fU.nd) (aj (a5 (jJ hr (dv 2) (dv 3)) (aj (fe (i:=1) (ap c_between (hr.mono (by decide)) (by rfl) (aa (dv 2) (aa (dv 3) ah))))) aC))))))
 (aj (aE (ng hr m_sorted m_set hr.hd (dv 1))))))
abbrev c7:Stmt:=top 33
theorem ou:aA ["points"] ["points"] (al c7):=⟨rfl,rfl,rfl,by decide +kernel,rfl,by decide +kernel,by decide +kernel⟩
theorem oV (m_len:mg "len"=none) (hr:Rm A s f cdv 0 "need_points" c7):Bd P w K mg base f cdv A outer s H E ["points"] "need_points" c7 eA:=
 (aj (a5 (eC hr (bD m_len (aa (dv 0) ah)) ab) (aj ko) aC))
abbrev gQ:Stmt:=top 34
theorem AI:aA ["points","many"] ["points","many"] (al gQ):=⟨rfl,rfl,rfl,by decide +kernel,rfl,by decide +kernel,by decide +kernel⟩
theorem Bu (c_need_points:Callee P w K mg base 1 "need_points" bA) (c_bordered:Callee P w K mg base 4 "bordered" eM) (c_many_in:Callee P w K mg base 1 "many_in" fH) (hr:Rm A s f cdv 4 "strong" gQ):Bd P w K mg base f cdv A outer s H E ["points","many"] "strong" gQ lm:=
 (ai (xU (ap c_need_points (hr.mono (by decide)) rfl (aa (dv 0) ah)))
 (aj (aE (mD (N:=["found","points","many"]) (own:=1) (fr:=[0,1]) (NX:=["points","many"]) (ar:=al gQ) (by decide +kernel) (bL (ap c_bordered (hr.mono (by decide)) rfl (aa (dv 0) ah))) eD (fun _ _ _ _=>(aR (i:=0) (show List.Nodup (["found","points","many"]:List Str) by decide))) (fun _ _ _ _=>(qY (BR (ap c_many_in (hr.mono (by decide)) rfl (aa (dv 0) (aa (dv 1) ah))) (dv 2)))) (fun _ _ _ _=>(dv 0))))))
abbrev jf:Stmt:=top 35
theorem jp:aA ["points","k","part","found"] ["points","k"] (al jf):=⟨rfl,rfl,rfl,by decide +kernel,rfl,by decide +kernel,by decide +kernel⟩
theorem Bt (m_len:mg "len"=none) (c_need_points:Callee P w K mg base 1 "need_points" bA) (c_hull:Callee P w K mg base 5 "hull" kW) (c_strong:Callee P w K mg base 5 "strong" gX) (c_clipped:Callee P w K mg base 5 "clipped" fF) (hr:Rm A s f cdv 5 "region" jf):Bd P w K mg base f cdv A outer s H E ["points","k","part","found"] "region" jf lj:=
 (ai (xU (ap c_need_points (hr.mono (by decide)) rfl (aa (dv 0) ah)))
 (ai (a5 (iI (dv 1) ab) (aj ko) aC)
 (ai (a5 (iH (dv 1) (bD m_len (aa (dv 0) ah))) (aj (aE (di ah))) aC)
 (ai (aq (i:=2) jp.nd (ap c_hull (hr.mono (by decide)) rfl (aa (dv 0) ah)))
 (aB (bV PassesOwn.never (bL (ap c_strong (hr.mono (by decide)) rfl (aa (dv 0) (aa (a8 (a6 (bD m_len (aa (dv 0) ah)) (dv 1)) ab) ah)))) (aR (i:=3) jp.nd) (aj (aq (i:=2) jp.nd (ap c_clipped (hr.mono (by decide)) rfl (aa (dv 2) (aa (dv 3) ah))))))
 (aj (hW (pv 2))))))))
abbrev gP:Stmt:=top 37
theorem xj:aA ["_law_found"] ["_law_found"] (al gP):=⟨rfl,rfl,rfl,by decide +kernel,rfl,by decide +kernel,by decide +kernel⟩
theorem zg (m_isinstance:mg "isinstance"=none) (m_int:mg "int"=none) (m_bool:mg "bool"=none) (hr:Rm A s f cdv 0 "_law_whole" gP):Bd P w K mg base f cdv A outer s H E ["_law_found"] "_law_whole" gP jB:=
 (aj (aE (BJ (zL m_isinstance m_int (dv 0)) (v7 (v6 (vY m_isinstance m_bool (dv 0)))))))
abbrev dq:Stmt:=top 38
theorem cS:aA ["_law_script","_law_many","_law_found","_law_k","_law_cell","_law_at"] ["_law_script","_law_many"] (al dq):=⟨rfl,rfl,rfl,by decide +kernel,rfl,by decide +kernel,by decide +kernel⟩
theorem tI (m_range:mg "range"=none) (m_max:mg "max"=none) (m_min:mg "min"=none) (m_len:mg "len"=none) (hr:Rm A s f cdv 0 "_law_numbers" dq):Bd P w K mg base f cdv A outer s H E ["_law_script","_law_many","_law_found","_law_k","_law_cell","_law_at"] "_law_numbers" dq fX:=
 (ai (hX (i:=2) cS.nd (N:=["_law_k"]) (own:=1) (fr:=[]) (NX:=["_law_script","_law_many","_law_found","_law_k","_law_cell","_law_at"]) (ar:=al dq) (by decide +kernel) (cP m_range (aa (dv 1) ah)) eD (fun _ _ _ _=>(aR (i:=0) (show List.Nodup (["_law_k"]:List Str) by decide))) (fun _ _ _ _=>kq) (fun _ _ _ _=>ab))
 (aB (bV PassesOwn.never (cP m_range (aa (Gu m_max (aa (dv 1) (aa (kj m_min (aa (bD m_len (aa (dv 0) ah)) (aa ab ah))) ah))) ah)) (aR (i:=3) cS.nd) (ai (aq (i:=4) cS.nd ab)
 (aB (a5 (iH (bD m_len (aa (dv 0) ah)) ab) (aj (aq (i:=4) cS.nd (bF (ak (dv 0) (bF (dv 3) (kj m_min (aa (bD m_len (aa (dv 0) ah)) (aa ab ah))))) (a8 (jU ab ab) ab)))) aC)
 (ai (aq (i:=5) cS.nd (bF (dv 3) (dv 1)))
 (aj (iV (i:=2) (dv 5) (bF (a8 (a8 (az (ak (dv 2) (dv 5)) ab) (dv 4)) (az (dv 3) (dv 3))) (a8 (jU ab ab) ab))))))))
 (aj (hW (pv 2)))))
abbrev eE:Stmt:=top 39
theorem e8:aA ["_law_one","_law_other"] ["_law_one","_law_other"] (al eE):=⟨rfl,rfl,rfl,by decide +kernel,rfl,by decide +kernel,by decide +kernel⟩
theorem tG (m_abs:mg "abs"=none) (hr:Rm A s f cdv 0 "_law_divisor" eE):Bd P w K mg base f cdv A outer s H E ["_law_one","_law_other"] "_law_divisor" eE fV:=
 (ai (aq (i:=0) e8.nd (lF m_abs (aa (dv 0) ah)))
 (ai (aq (i:=1) e8.nd (lF m_abs (aa (dv 1) ah)))
 (aB (ni PassesOwn.never (iH (dv 1) ab) (aj (BP (i:=0) (j:=1) e8.nd (aa (dv 1) (aa (bF (dv 0) (dv 1)) ah)))))
 (aj (hW (pv 0))))))
abbrev dG:Stmt:=top 40
theorem jM:aA ["_law_top","_law_bottom","_law_most"] ["_law_top","_law_bottom"] (al dG):=⟨rfl,rfl,rfl,by decide +kernel,rfl,by decide +kernel,by decide +kernel⟩
theorem qG (c_l_divisor:Callee P w K mg base 1 "_law_divisor" cq) (hr:Rm A s f cdv 1 "_law_fraction" dG):Bd P w K mg base f cdv A outer s H E ["_law_top","_law_bottom","_law_most"] "_law_fraction" dG fc:=
 (ai (aq (i:=2) jM.nd (ap c_l_divisor (hr.mono (by decide)) rfl (aa (dv 0) (aa (dv 1) ah))))
 (aj (aE (bK (aa (bI (dv 0) (dv 2)) (aa (bI (dv 1) (dv 2)) ah))))))
abbrev gN:Stmt:=top 41
theorem j2:aA ["_law_number","_law_base","_law_place","_law_k"] ["_law_number","_law_base","_law_place"] (al gN):=⟨rfl,rfl,rfl,by decide +kernel,rfl,by decide +kernel,by decide +kernel⟩
theorem ze (m_range:mg "range"=none) (hr:Rm A s f cdv 0 "_law_digit" gN):Bd P w K mg base f cdv A outer s H E ["_law_number","_law_base","_law_place","_law_k"] "_law_digit" gN jz:=
 (aB (bV PassesOwn.never (cP m_range (aa (dv 2) ah)) (aR (i:=3) j2.nd) (aj (aq (i:=0) j2.nd (bI (dv 0) (dv 1)))))
 (aj (aE (bF (dv 0) (dv 1)))))
abbrev eG:Stmt:=top 42
theorem kT:aA ["_law_found","_law_one"] ["_law_found"] (al eG):=⟨rfl,rfl,rfl,by decide +kernel,rfl,by decide +kernel,by decide +kernel⟩
theorem tH (m_isinstance:mg "isinstance"=none) (m_tuple:mg "tuple"=none) (m_len:mg "len"=none) (c_l_whole:Callee P w K mg base 1 "_law_whole" dm) (c_l_divisor:Callee P w K mg base 1 "_law_divisor" cq) (hr:Rm A s f cdv 1 "_law_is_spot" eG):Bd P w K mg base f cdv A outer s H E ["_law_found","_law_one"] "_law_is_spot" eG fW:=
 (ai (a5 (lH (PW.pt (pU (iW (ft (l6 m_isinstance m_tuple (dv 0)))) (qZ (jJ hr (bD m_len (aa (dv 0) ah)) ab))))) (aj (aE eY)) aC)
 (aB (bV PassesOwn.never (Kd (dv 0)) (aR (i:=1) kT.nd) (ai (a5 (lH (PW.pt (pU (iW (ft (l6 m_isinstance m_tuple (dv 1)))) (pU (jJ hr (bD m_len (aa (dv 1) ah)) ab) (pU (iW (ft (ap c_l_whole (hr.mono (by decide)) rfl (aa (ak (dv 1) ab) ah)))) (qZ (iW (ft (ap c_l_whole (hr.mono (by decide)) rfl (aa (ak (dv 1) ab) ah)))))))))) (aj (aE eY)) aC)
 (aj (a5 (lH (PW.pt (pU (iI (ak (dv 1) ab) ab) (qZ (jJ hr (ap c_l_divisor (hr.mono (by decide)) rfl (aa (ak (dv 1) ab) (aa (ak (dv 1) ab) ah))) ab))))) (aj (aE eY)) aC))))
 (aj (aE eY))))
abbrev fA:Stmt:=top 43
theorem bg:aA ["_law_head","_law_many","_law_found","_law_way","_law_k","_law_number","_law_x","_law_y"] ["_law_head","_law_many"] (al fA):=⟨rfl,rfl,rfl,by decide +kernel,rfl,by decide +kernel,by decide +kernel⟩
theorem vE (m_range:mg "range"=none) (c_l_digit:Callee P w K mg base 1 "_law_digit" fG) (hr:Rm A s f cdv 1 "_law_points" fA):Bd P w K mg base f cdv A outer s H E ["_law_head","_law_many","_law_found","_law_way","_law_k","_law_number","_law_x","_law_y"] "_law_points" fA iG:=
 (ai (aq (i:=2) bg.nd (di ah))
 (ai (aq (i:=3) bg.nd (bF (ak (dv 0) ab) ab))
 (aB (bV PassesOwn.never (cP m_range (aa (dv 1) ah)) (aR (i:=4) bg.nd) (ai (aq (i:=5) bg.nd (ak (dv 0) (a8 ab (dv 4))))
 (ai (aq (i:=6) bg.nd (a6 (bF (dv 5) ab) ab))
 (ai (aq (i:=7) bg.nd (a6 (bF (bI (dv 5) ab) ab) ab))
 (aB (a5 (eC hr (dv 3) ab) (aj (aq (i:=7) bg.nd (a6 (az ab (dv 6)) ab))) aC)
 (aB (a5 (eC hr (dv 3) ab) (aj (aq (i:=6) bg.nd ab)) aC)
 (aB (a5 (eC hr (dv 3) ab) (aj (BP (i:=6) (j:=7) bg.nd (aa (a6 (bF (dv 5) ab) ab) (aa (a6 (bF (bI (dv 5) ab) ab) ab) ah)))) aC)
 (aB (a5 (iH (dv 3) ab) (ai (aq (i:=6) bg.nd (a6 (bF (dv 5) (a8 (az ab (jU ab ab)) ab)) (jU ab ab)))
 (aj (aq (i:=7) bg.nd (a6 (bF (az (dv 5) ab) (a8 (az ab (jU ab ab)) ab)) (jU ab ab))))) aC)
 (aB (a5 (lH (PW.pt (ie (iH (dv 4) ab) (e6 (eC hr (ap c_l_digit (hr.mono (by decide)) rfl (aa (ak (dv 0) ab) (aa ab (aa (dv 4) ah)))) ab))))) (aj (BQ (ak (dv 2) (a6 (dv 4) ab)) (v8 (gC (aR (i:=6) bg.nd) (gC (aR (i:=7) bg.nd) qW)) (gE (gE sr))))) aC)
 (aj (fe (i:=2) (bK (aa (dv 6) (aa (dv 7) ah))))))))))))))
 (aj (hW (pv 2))))))
abbrev fg:Stmt:=top 44
theorem bY:aA ["_law_points_here","_law_spot_here","_law_x","_law_y","_law_ways","_law_point","_law_right","_law_there","_law_least","_law_way"] ["_law_points_here","_law_spot_here"] (al fg):=⟨rfl,rfl,rfl,by decide +kernel,rfl,by decide +kernel,by decide +kernel⟩
theorem zd (m_len:mg "len"=none) (m_min:mg "min"=none) (c_l_least_beside:Callee P w K mg base 1 "_law_least_beside" bS) (hr:Rm A s f cdv 1 "_law_depth" fg):Bd P w K mg base f cdv A outer s H E ["_law_points_here","_law_spot_here","_law_x","_law_y","_law_ways","_law_point","_law_right","_law_there","_law_least","_law_way"] "_law_depth" fg jy:=
 (ai (BQ (dv 1) (v8 (gC (aR (i:=2) bY.nd) (gC (aR (i:=3) bY.nd) qW)) (gE (gE sr))))
 (ai (aq (i:=4) bY.nd (di ah))
 (aB (bV PassesOwn.never (bL (dv 0)) (aR (i:=5) bY.nd) (ai (aq (i:=6) bY.nd (az (a6 (az (ak (dv 5) ab) (ak (dv 2) ab)) (ak (dv 2) ab)) (ak (dv 3) ab)))
 (aj (fe (i:=4) (bK (aa (dv 6) (aa (az (a6 (az (ak (dv 5) ab) (ak (dv 3) ab)) (ak (dv 3) ab)) (ak (dv 2) ab)) ah)))))))
 (ai (aq (i:=7) bY.nd (bD m_len (aa (mD (N:=["_law_way"]) (own:=1) (fr:=[]) (NX:=["_law_points_here","_law_spot_here","_law_x","_law_y","_law_ways","_law_point","_law_right","_law_there","_law_least","_law_way"]) (ar:=al fg) (by decide +kernel) (bL (dv 4)) eD (fun _ _ _ _=>(aR (i:=0) (show List.Nodup (["_law_way"]:List Str) by decide))) (fun _ _ _ _=>(qY (eC hr (dv 0) (bK (aa ab (aa ab ah)))))) (fun _ _ _ _=>(dv 0))) ah)))
 (ai (aq (i:=8) bY.nd (a6 (bD m_len (aa (dv 0) ah)) (dv 7)))
 (aB (bV PassesOwn.never (bL (dv 4)) (aR (i:=9) bY.nd) (aj (a5 (jJ hr (dv 9) (bK (aa ab (aa ab ah)))) (aj (aq (i:=8) bY.nd (kj m_min (aa (dv 8) (aa (ap c_l_least_beside (hr.mono (by decide)) rfl (aa (dv 4) (aa (dv 9) ah))) ah))))) aC)))
 (aj (aE (a8 (dv 7) (dv 8))))))))))
abbrev cf:Stmt:=top 45
theorem aO:aA ["_law_ways","_law_way","_law_left","_law_right","_law_forth","_law_back","_law_one","_law_turn_here","_law_same"] ["_law_ways","_law_way"] (al cf):=⟨rfl,rfl,rfl,by decide +kernel,rfl,by decide +kernel,by decide +kernel⟩
theorem lC (m_min:mg "min"=none) (hr:Rm A s f cdv 0 "_law_least_beside" cf):Bd P w K mg base f cdv A outer s H E ["_law_ways","_law_way","_law_left","_law_right","_law_forth","_law_back","_law_one","_law_turn_here","_law_same"] "_law_least_beside" cf cW:=
 (ai (aq (i:=2) aO.nd ab)
 (ai (aq (i:=3) aO.nd ab)
 (ai (aq (i:=4) aO.nd ab)
 (ai (aq (i:=5) aO.nd ab)
 (aB (bV PassesOwn.never (bL (dv 0)) (aR (i:=6) aO.nd) (ai (aq (i:=7) aO.nd (a6 (az (ak (dv 1) ab) (ak (dv 6) ab)) (az (ak (dv 1) ab) (ak (dv 6) ab))))
 (ai (aq (i:=8) aO.nd (a8 (az (ak (dv 1) ab) (ak (dv 6) ab)) (az (ak (dv 1) ab) (ak (dv 6) ab))))
 (aB (a5 (iH (dv 7) ab) (aj (aq (i:=2) aO.nd (a8 (dv 2) ab))) aC)
 (aB (a5 (iI (dv 7) ab) (aj (aq (i:=3) aO.nd (a8 (dv 3) ab))) aC)
 (aB (a5 (lH (PW.pt (ie (eC hr (dv 7) ab) (e6 (iH (dv 8) ab))))) (aj (aq (i:=4) aO.nd (a8 (dv 4) ab))) aC)
 (aj (a5 (lH (PW.pt (ie (eC hr (dv 7) ab) (e6 (iI (dv 8) ab))))) (aj (aq (i:=5) aO.nd (a8 (dv 5) ab))) aC))))))))
 (aj (aE (a8 (kj m_min (aa (dv 2) (aa (dv 3) ah))) (kj m_min (aa (dv 4) (aa (dv 5) ah)))))))))))
abbrev jd:Stmt:=top 46
theorem cT:aA ["_law_points_here","_law_number","_law_way","_law_one","_law_other","_law_third","_law_by","_law_total","_law_x","_law_y"] ["_law_points_here","_law_number"] (al jd):=⟨rfl,rfl,rfl,by decide +kernel,rfl,by decide +kernel,by decide +kernel⟩
theorem Bq (m_len:mg "len"=none) (m_sum:mg "sum"=none) (c_l_fraction:Callee P w K mg base 2 "_law_fraction" bh) (hr:Rm A s f cdv 2 "_law_spot" jd):Bd P w K mg base f cdv A outer s H E ["_law_points_here","_law_number","_law_way","_law_one","_law_other","_law_third","_law_by","_law_total","_law_x","_law_y"] "_law_spot" jd lg:=
 (ai (aq (i:=2) cT.nd (bF (dv 1) ab))
 (ai (aq (i:=3) cT.nd (ak (dv 0) (bF (bI (dv 1) ab) (bD m_len (aa (dv 0) ah)))))
 (ai (aq (i:=4) cT.nd (ak (dv 0) (bF (bI (dv 1) ab) (bD m_len (aa (dv 0) ah)))))
 (ai (aq (i:=5) cT.nd (ak (dv 0) (bF (bI (dv 1) ab) (bD m_len (aa (dv 0) ah)))))
 (ai (a5 (eC hr (dv 2) ab) (aj (aE (bK (aa (bK (aa (ak (dv 3) ab) (aa ab ah))) (aa (bK (aa (ak (dv 3) ab) (aa ab ah))) ah))))) aC)
 (ai (a5 (eC hr (dv 2) ab) (aj (aE (bK (aa (ap c_l_fraction (hr.mono (by decide)) rfl (aa (a8 (ak (dv 3) ab) (ak (dv 4) ab)) (aa ab ah))) (aa (ap c_l_fraction (hr.mono (by decide)) rfl (aa (a8 (ak (dv 3) ab) (ak (dv 4) ab)) (aa ab ah))) ah))))) aC)
 (ai (aq (i:=6) cT.nd (di (aa (a6 (bF (bI (dv 1) ab) ab) ab) (aa (a6 (bF (bI (dv 1) ab) ab) ab) (aa (a8 (bF (bI (dv 1) ab) ab) ab) ah)))))
 (aB (a5 (eC hr (dv 2) ab) (ai (iV (i:=6) ab ab)
 (aj (iV (i:=6) ab (a6 ab (ak (dv 6) ab))))) aC)
 (ai (aq (i:=7) cT.nd (Ka m_sum (aa (dv 6) ah)))
 (ai (aq (i:=8) cT.nd (a8 (a8 (az (ak (dv 6) ab) (ak (dv 3) ab)) (az (ak (dv 6) ab) (ak (dv 4) ab))) (az (ak (dv 6) ab) (ak (dv 5) ab))))
 (ai (aq (i:=9) cT.nd (a8 (a8 (az (ak (dv 6) ab) (ak (dv 3) ab)) (az (ak (dv 6) ab) (ak (dv 4) ab))) (az (ak (dv 6) ab) (ak (dv 5) ab))))
 (aj (aE (bK (aa (ap c_l_fraction (hr.mono (by decide)) rfl (aa (dv 8) (aa (dv 7) ah))) (aa (ap c_l_fraction (hr.mono (by decide)) rfl (aa (dv 9) (aa (dv 7) ah))) ah))))))))))))))))
abbrev jc:Stmt:=top 47
theorem AG:aA ["_law_one","_law_other"] ["_law_one","_law_other"] (al jc):=⟨rfl,rfl,rfl,by decide +kernel,rfl,by decide +kernel,by decide +kernel⟩
theorem Bp (hr:Rm A s f cdv 0 "_law_less" jc):Bd P w K mg base f cdv A outer s H E ["_law_one","_law_other"] "_law_less" jc lc:=
 (aj (aE (BK (az (ak (dv 0) ab) (ak (dv 1) ab)) (az (ak (dv 1) ab) (ak (dv 0) ab)))))
abbrev fB:Stmt:=top 48
theorem dr:aA ["_law_one","_law_two","_law_three","_law_share","_law_x","_law_y","_law_xs","_law_ys"] ["_law_one","_law_two","_law_three"] (al fB):=⟨rfl,rfl,rfl,by decide +kernel,rfl,by decide +kernel,by decide +kernel⟩
theorem Br (hr:Rm A s f cdv 0 "_law_turn" fB):Bd P w K mg base f cdv A outer s H E ["_law_one","_law_two","_law_three","_law_share","_law_x","_law_y","_law_xs","_law_ys"] "_law_turn" fB lh:=
 (ai (aq (i:=3) dr.nd ab)
 (aB (bV PassesOwn.never (bL (di (aa (dv 0) (aa (dv 1) (aa (dv 2) ah))))) (v8 (gC (aR (i:=4) dr.nd) (gC (aR (i:=5) dr.nd) qW)) (gE (gE sr))) (aj (aq (i:=3) dr.nd (az (az (dv 3) (ak (dv 4) ab)) (ak (dv 5) ab)))))
 (ai (hX (i:=6) dr.nd (N:=["_law_spot_here","_law_share"]) (own:=1) (fr:=[3]) (NX:=["_law_one","_law_two","_law_three","_law_share","_law_x","_law_y","_law_xs","_law_ys"]) (ar:=al fB) (by decide +kernel) (bL (di (aa (dv 0) (aa (dv 1) (aa (dv 2) ah))))) eD (fun _ _ _ _=>(aR (i:=0) (show List.Nodup (["_law_spot_here","_law_share"]:List Str) by decide))) (fun _ _ _ _=>kq) (fun _ _ _ _=>(az (ak (ak (dv 0) ab) ab) (bI (dv 1) (ak (ak (dv 0) ab) ab)))))
 (ai (hX (i:=7) dr.nd (N:=["_law_spot_here","_law_share"]) (own:=1) (fr:=[3]) (NX:=["_law_one","_law_two","_law_three","_law_share","_law_x","_law_y","_law_xs","_law_ys"]) (ar:=al fB) (by decide +kernel) (bL (di (aa (dv 0) (aa (dv 1) (aa (dv 2) ah))))) eD (fun _ _ _ _=>(aR (i:=0) (show List.Nodup (["_law_spot_here","_law_share"]:List Str) by decide))) (fun _ _ _ _=>kq) (fun _ _ _ _=>(az (ak (ak (dv 0) ab) ab) (bI (dv 1) (ak (ak (dv 0) ab) ab)))))
 (ai (aq (i:=0) dr.nd (az (a6 (ak (dv 6) ab) (ak (dv 6) ab)) (a6 (ak (dv 7) ab) (ak (dv 7) ab))))
 (aj (aE (a6 (dv 0) (az (a6 (ak (dv 7) ab) (ak (dv 7) ab)) (a6 (ak (dv 6) ab) (ak (dv 6) ab)))))))))))
abbrev gM:Stmt:=top 49
theorem xi:aA ["_law_one","_law_other"] ["_law_one","_law_other"] (al gM):=⟨rfl,rfl,rfl,by decide +kernel,rfl,by decide +kernel,by decide +kernel⟩
theorem y9 (c_l_less:Callee P w K mg base 1 "_law_less" fi) (hr:Rm A s f cdv 1 "_law_ahead" gM):Bd P w K mg base f cdv A outer s H E ["_law_one","_law_other"] "_law_ahead" gM jx:=
 (ai (a5 (jJ hr (ak (dv 0) ab) (ak (dv 1) ab)) (aj (aE (ap c_l_less (hr.mono (by decide)) rfl (aa (ak (dv 0) ab) (aa (ak (dv 1) ab) ah))))) aC)
 (aj (aE (ap c_l_less (hr.mono (by decide)) rfl (aa (ak (dv 0) ab) (aa (ak (dv 1) ab) ah))))))
abbrev c6:Stmt:=top 50
theorem cH:aA ["_law_found","_law_spot_here","_law_falls","_law_k"] ["_law_found"] (al c6):=⟨rfl,rfl,rfl,by decide +kernel,rfl,by decide +kernel,by decide +kernel⟩
theorem oU (m_isinstance:mg "isinstance"=none) (m_list:mg "list"=none) (m_range:mg "range"=none) (m_len:mg "len"=none) (c_l_is_spot:Callee P w K mg base 2 "_law_is_spot" dH) (c_l_ahead:Callee P w K mg base 2 "_law_ahead" b7) (c_l_turn:Callee P w K mg base 1 "_law_turn" du) (hr:Rm A s f cdv 2 "_law_is_region" c6):Bd P w K mg base f cdv A outer s H E ["_law_found","_law_spot_here","_law_falls","_law_k"] "_law_is_region" c6 eu:=
 (ai (a5 (iW (ft (vZ m_isinstance m_list (dv 0)))) (aj (aE eY)) aC)
 (aB (bV PassesOwn.never (bL (dv 0)) (aR (i:=1) cH.nd) (aj (a5 (iW (ft (ap c_l_is_spot (hr.mono (by decide)) rfl (aa (dv 1) ah)))) (aj (aE eY)) aC)))
 (ai (aq (i:=2) cH.nd ab)
 (aB (bV PassesOwn.never (cP m_range (aa (bD m_len (aa (dv 0) ah)) ah)) (aR (i:=3) cH.nd) (ai (a5 (lH (PW.pt (ie (iH (dv 3) ab) (e6 (iW (ft (ap c_l_ahead (hr.mono (by decide)) rfl (aa (ak (dv 0) ab) (aa (ak (dv 0) (dv 3)) ah))))))))) (aj (aE eY)) aC)
 (aj (a5 (iH (bD m_len (aa (dv 0) ah)) ab) (ai (a5 (IA (ap c_l_turn (hr.mono (by decide)) rfl (aa (ak (dv 0) (a6 (dv 3) ab)) (aa (ak (dv 0) (a6 (dv 3) ab)) (aa (ak (dv 0) (dv 3)) ah)))) ab) (aj (aE eY)) aC)
 (aj (a5 (lH (PW.pt (ie (ft (ap c_l_ahead (hr.mono (by decide)) rfl (aa (ak (dv 0) (a6 (dv 3) ab)) (aa (ak (dv 0) (a6 (dv 3) ab)) ah)))) (e6 (ft (ap c_l_ahead (hr.mono (by decide)) rfl (aa (ak (dv 0) (a6 (dv 3) ab)) (aa (ak (dv 0) (dv 3)) ah)))))))) (aj (aq (i:=2) cH.nd (a8 (dv 2) ab))) aC))) aC))))
 (aj (aE (Nk (BK (bD m_len (aa (dv 0) ah)) ab) (v7 (Nh hr (dv 2) ab)))))))))
abbrev gO:Stmt:=top 51
theorem ot:aA ["_law_corners","_law_spot_here","_law_k"] ["_law_corners","_law_spot_here"] (al gO):=⟨rfl,rfl,rfl,by decide +kernel,rfl,by decide +kernel,by decide +kernel⟩
theorem zf (m_len:mg "len"=none) (m_range:mg "range"=none) (c_l_turn:Callee P w K mg base 1 "_law_turn" du) (c_l_ahead:Callee P w K mg base 2 "_law_ahead" b7) (hr:Rm A s f cdv 2 "_law_holds" gO):Bd P w K mg base f cdv A outer s H E ["_law_corners","_law_spot_here","_law_k"] "_law_holds" gO jA:=
 (ai (a5 (iI (bD m_len (aa (dv 0) ah)) ab) (aj (aE (Nj hr (dv 1) (dv 0)))) aC)
 (ai (a5 (lH (PW.pt (ie (eC hr (bD m_len (aa (dv 0) ah)) ab) (e6 (jJ hr (ap c_l_turn (hr.mono (by decide)) rfl (aa (ak (dv 0) ab) (aa (ak (dv 0) ab) (aa (dv 1) ah)))) ab))))) (aj (aE eY)) aC)
 (ai (a5 (eC hr (bD m_len (aa (dv 0) ah)) ab) (aj (aE (BJ (v6 (ap c_l_ahead (hr.mono (by decide)) rfl (aa (dv 1) (aa (ak (dv 0) ab) ah)))) (v7 (v6 (ap c_l_ahead (hr.mono (by decide)) rfl (aa (ak (dv 0) ab) (aa (dv 1) ah)))))))) aC)
 (aB (bV PassesOwn.never (cP m_range (aa (bD m_len (aa (dv 0) ah)) ah)) (aR (i:=2) ot.nd) (aj (a5 (iI (ap c_l_turn (hr.mono (by decide)) rfl (aa (ak (dv 0) (a6 (dv 2) ab)) (aa (ak (dv 0) (dv 2)) (aa (dv 1) ah)))) ab) (aj (aE eY)) aC)))
 (aj (aE eY))))))
abbrev fz:Stmt:=top 52
theorem cj:aA ["_law_corners","_law_top","_law_bottom","_law_spot_here","_law_j","_law_one","_law_many","_law_x"] ["_law_corners"] (al fz):=⟨rfl,rfl,rfl,by decide +kernel,rfl,by decide +kernel,by decide +kernel⟩
theorem vD (m_range:mg "range"=none) (m_len:mg "len"=none) (c_l_fraction:Callee P w K mg base 2 "_law_fraction" bh) (hr:Rm A s f cdv 2 "_law_middle" fz):Bd P w K mg base f cdv A outer s H E ["_law_corners","_law_top","_law_bottom","_law_spot_here","_law_j","_law_one","_law_many","_law_x"] "_law_middle" fz iF:=
 (ai (aq (i:=1) cj.nd (di (aa ab (aa ab ah))))
 (ai (aq (i:=2) cj.nd (di (aa ab (aa ab ah))))
 (aB (bV PassesOwn.never (bL (dv 0)) (aR (i:=3) cj.nd) (aj (bV PassesOwn.never (cP m_range (aa ab ah)) (aR (i:=4) cj.nd) (ai (aq (i:=5) cj.nd (ak (dv 3) (dv 4)))
 (ai (iV (i:=1) (dv 4) (a8 (az (ak (dv 1) (dv 4)) (ak (dv 5) ab)) (az (ak (dv 5) ab) (ak (dv 2) (dv 4)))))
 (aj (iV (i:=2) (dv 4) (az (ak (dv 2) (dv 4)) (ak (dv 5) ab)))))))))
 (ai (aq (i:=6) cj.nd (bD m_len (aa (dv 0) ah)))
 (ai (aq (i:=7) cj.nd (ap c_l_fraction (hr.mono (by decide)) rfl (aa (ak (dv 1) ab) (aa (az (ak (dv 2) ab) (dv 6)) ah))))
 (aj (aE (bK (aa (dv 7) (aa (ap c_l_fraction (hr.mono (by decide)) rfl (aa (ak (dv 1) ab) (aa (az (ak (dv 2) ab) (dv 6)) ah))) ah))))))))))
abbrev md:Stmt:=top 53
theorem iA:aA ["_law_script","_law_head","_law_points_here","_law_k","_law_handed","_law_found","_law_spot_here","_law_cell"] ["_law_script"] (al md):=⟨rfl,rfl,rfl,by decide +kernel,rfl,by decide +kernel,by decide +kernel⟩
theorem Nc (m_len:mg "len"=none) (m_list:mg "list"=none) (c_l_numbers:Callee P w K mg base 1 "_law_numbers" dI) (c_l_points:Callee P w K mg base 2 "_law_points" eQ) (c_region:Callee P w K mg base 6 "region" gW) (c_l_is_region:Callee P w K mg base 3 "_law_is_region" cL) (c_l_depth:Callee P w K mg base 2 "_law_depth" cJ) (c_l_middle:Callee P w K mg base 3 "_law_middle" eP) (c_l_spot:Callee P w K mg base 3 "_law_spot" fj) (c_l_holds:Callee P w K mg base 3 "_law_holds" dW) (hr:Rm A s f cdv 6 "law" md):Bd P w K mg base f cdv A outer s H E ["_law_script","_law_head","_law_points_here","_law_k","_law_handed","_law_found","_law_spot_here","_law_cell"] "law" md yT:=
 (ai (aq (i:=1) iA.nd (ap c_l_numbers (hr.mono (by decide)) rfl (aa (dv 0) (aa ab ah))))
 (ai (aq (i:=2) iA.nd (ap c_l_points (hr.mono (by decide)) rfl (aa (dv 1) (aa (ak (di (aa (a8 ab (bF (ak (dv 1) ab) ab)) (aa (a8 ab (bF (ak (dv 1) ab) ab)) ah))) (bI (bF (ak (dv 1) ab) ab) ab)) ah))))
 (ai (aq (i:=3) iA.nd (a8 ab (bF (bI (ak (dv 1) ab) ab) (a8 (bD m_len (aa (dv 2) ah)) ab))))
 (ai (aq (i:=4) iA.nd (zM m_list (aa (dv 2) ah)))
 (ai (aq (i:=5) iA.nd (ap c_region (hr.mono (by decide)) rfl (aa (dv 4) (aa (dv 3) ah))))
 (ai (a5 (lH (PW.pt (pU (iW (ft (ap c_l_is_region (hr.mono (by decide)) rfl (aa (dv 5) ah)))) (qZ (jJ hr (dv 4) (dv 2)))))) (aj (aE eY)) aC)
 (aB (bV PassesOwn.never (bL (dv 5)) (aR (i:=6) iA.nd) (aj (a5 (iI (ap c_l_depth (hr.mono (by decide)) rfl (aa (dv 2) (aa (dv 6) ah))) (dv 3)) (aj (aE eY)) aC)))
 (ai (a5 (lH (PW.pt (ie (iH (bD m_len (aa (dv 5) ah)) ab) (e6 (iI (ap c_l_depth (hr.mono (by decide)) rfl (aa (dv 2) (aa (ap c_l_middle (hr.mono (by decide)) rfl (aa (dv 5) ah)) ah))) (dv 3)))))) (aj (aE eY)) aC)
 (aB (bV PassesOwn.never (bL (vX (iU (dv 0) kl (kn ab)) (di (aa (ak (dv 1) ab) ah)))) (aR (i:=7) iA.nd) (ai (aq (i:=6) iA.nd (ap c_l_spot (hr.mono (by decide)) rfl (aa (dv 2) (aa (bF (dv 7) (jU ab ab)) ah))))
 (aj (a5 (jJ hr (Ni (ap c_l_depth (hr.mono (by decide)) rfl (aa (dv 2) (aa (dv 6) ah))) (dv 3)) (ap c_l_holds (hr.mono (by decide)) rfl (aa (dv 5) (aa (dv 6) ah)))) (aj (aE eY)) aC))))
 (aj (aE eY)))))))))))
end
def Fd (K:PySem.W.Frag)(n:Str)(st:Stmt)(f:Addr):Prop:=∃ (oc:Value) (od:Option Addr) (sl:Array (Option Value)) (kV dc pm:Value) (an:Option Addr) (cd ct:Value),PySem.W.nsIn K mainGlobals n=some (some (.ref f))/\K.lookup f=some ⟨oc,od,.func (PySem.W.fnOf n n (fS st) (de st) (al st) .none kV dc pm an cd ct),sl⟩/\PySem.W.codeIn K cd n=true/\PySem.W.keepIn K (.ref f)=true
theorem fd_mk {K:PySem.W.Frag}{n:Str}{st:Stmt}{f:Addr}{oc:Value}{od:Option Addr}{sl:Array (Option Value)}{kV dc pm:Value}{an:Option Addr}{cd ct:Value}(a:PySem.W.nsIn K mainGlobals n=some (some (.ref f)))(l:K.lookup f=some ⟨oc,od,.func (PySem.W.fnOf n n (fS st) (de st) (al st) .none kV dc pm an cd ct),sl⟩)(e:PySem.W.codeIn K cd n=true)(k:PySem.W.keepIn K (.ref f)=true):Fd K n st f:=⟨_,_,_,_,_,_,_,_,_,a,l,e,k⟩
def fZ (n:Str)(st:Stmt)(ps:List Str):Prop:=∀ (kV doc pm:Value) (an:Option Addr) (cdv ct:Value) (us:List Value),us.length=ps.length->bindArgs (PySem.W.fnOf n n (fS st) (de st) (al st) .none kV doc pm an cdv ct) ⟨us,[]⟩=pure (ps.zip us)
section
variable {P:Program}{wd:World}{K:PySem.W.Frag}{mg:Str->Option Value}{base h:Heap}{x:Str}{st:Stmt}{f:Addr}{N ps:List Str}{k:Nat}{sp:aX}{w:WS}
theorem bi (X:K.In h)(G:h.Ns mainGlobals mg)(d:Fd K x st f)(S:aA N ps (al st))(hlen:∀ ss R,sp ss R->ss.length=ps.length)(hb:fZ x st ps)(hbody:∀ (cdv:Value) (A:Around) (outer:List Env) (s:Shared) (H:Hp) (E:XK),cz k (A.deeper (envOfC x (al st) s.heap.objs.size f cdv))->j8 (qU AW P wd K mg base N x (al st) f cdv A outer s H E).nox (de st) (bO K H w))(hk:∀ ss R,sp ss R->w {nx:=fun _=>R (.t .non),rt:=R} (aJ N ss)):Callee P wd K mg base (k+1) x sp:=by
 obtain⟨oc,od,sl,kV,dc,pm,an,cd,ct,a,l,e,q⟩:=d;exact zH (rf l e q) (PySem.W.mg_of X G a) ((rf l e q).binds hb) (BL (rf l e q) S hlen hbody hk)
end
theorem vN:fZ "divisor" gL ["one","other"]:=fun _ _ _ _ _ _ us hl=>match us,hl with | [_,_],_=>rfl
theorem BB:fZ "ratio" kS ["top","bottom"]:=fun _ _ _ _ _ _ us hl=>match us,hl with | [_,_],_=>rfl
theorem By:fZ "below" kP ["one","other"]:=fun _ _ _ _ _ _ us hl=>match us,hl with | [_,_],_=>rfl
theorem Ge:fZ "half" oh ["a","b","c"]:=fun _ _ _ _ _ _ us hl=>match us,hl with | [_,_,_],_=>rfl
theorem vK:fZ "between" gI ["one","other"]:=fun _ _ _ _ _ _ us hl=>match us,hl with | [_,_],_=>rfl
theorem vJ:fZ "as_spot" gH ["point"]:=fun _ _ _ _ _ _ us hl=>match us,hl with | [_],_=>rfl
theorem vL:fZ "bottoms" gJ ["spot"]:=fun _ _ _ _ _ _ us hl=>match us,hl with | [_],_=>rfl
theorem zk:fZ "excess" jb ["half","spot"]:=fun _ _ _ _ _ _ us hl=>match us,hl with | [_,_],_=>rfl
theorem Gh:fZ "sign" oj ["number"]:=fun _ _ _ _ _ _ us hl=>match us,hl with | [_],_=>rfl
theorem Gg:fZ "side" oi ["half","spot"]:=fun _ _ _ _ _ _ us hl=>match us,hl with | [_,_],_=>rfl
theorem vT:fZ "many_in" fh ["half","points"]:=fun _ _ _ _ _ _ us hl=>match us,hl with | [_,_],_=>rfl
theorem zA:fZ "lesser" je ["one","other"]:=fun _ _ _ _ _ _ us hl=>match us,hl with | [_,_],_=>rfl
theorem qL:fZ "stretched" eI ["spot"]:=fun _ _ _ _ _ _ us hl=>match us,hl with | [_],_=>rfl
theorem Gi:fZ "turn" om ["one","other","third"]:=fun _ _ _ _ _ _ us hl=>match us,hl with | [_,_,_],_=>rfl
theorem Bz:fZ "chain" kQ ["spots"]:=fun _ _ _ _ _ _ us hl=>match us,hl with | [_],_=>rfl
theorem Gf:fZ "hull" lU ["points"]:=fun _ _ _ _ _ _ us hl=>match us,hl with | [_],_=>rfl
theorem BC:fZ "sides" jo ["region"]:=fun _ _ _ _ _ _ us hl=>match us,hl with | [_],_=>rfl
theorem oX:fZ "from_least" dF ["corners"]:=fun _ _ _ _ _ _ us hl=>match us,hl with | [_],_=>rfl
theorem BA:fZ "mixed" kR ["one","one_weight","other","other_weight"]:=fun _ _ _ _ _ _ us hl=>match us,hl with | [_,_,_,_],_=>rfl
theorem tM:fZ "crossing" fy ["half","one","other"]:=fun _ _ _ _ _ _ us hl=>match us,hl with | [_,_,_],_=>rfl
theorem vM:fZ "clipped" gK ["region","half"]:=fun _ _ _ _ _ _ us hl=>match us,hl with | [_,_],_=>rfl
theorem iQ:fZ "upright_and_level" bJ ["point"]:=fun _ _ _ _ _ _ us hl=>match us,hl with | [_],_=>rfl
theorem tL:fZ "bordered" fw ["points"]:=fun _ _ _ _ _ _ us hl=>match us,hl with | [_],_=>rfl
theorem m8:fZ "need_points" c7 ["points"]:=fun _ _ _ _ _ _ us hl=>match us,hl with | [_],_=>rfl
theorem zC:fZ "strong" gQ ["points","many"]:=fun _ _ _ _ _ _ us hl=>match us,hl with | [_,_],_=>rfl
theorem zB:fZ "region" jf ["points","k"]:=fun _ _ _ _ _ _ us hl=>match us,hl with | [_,_],_=>rfl
theorem vS:fZ "_law_whole" gP ["_law_found"]:=fun _ _ _ _ _ _ us hl=>match us,hl with | [_],_=>rfl
theorem qK:fZ "_law_numbers" dq ["_law_script","_law_many"]:=fun _ _ _ _ _ _ us hl=>match us,hl with | [_,_],_=>rfl
theorem qI:fZ "_law_divisor" eE ["_law_one","_law_other"]:=fun _ _ _ _ _ _ us hl=>match us,hl with | [_,_],_=>rfl
theorem oY:fZ "_law_fraction" dG ["_law_top","_law_bottom"]:=fun _ _ _ _ _ _ us hl=>match us,hl with | [_,_],_=>rfl
theorem vQ:fZ "_law_digit" gN ["_law_number","_law_base","_law_place"]:=fun _ _ _ _ _ _ us hl=>match us,hl with | [_,_,_],_=>rfl
theorem qJ:fZ "_law_is_spot" eG ["_law_found"]:=fun _ _ _ _ _ _ us hl=>match us,hl with | [_],_=>rfl
theorem tO:fZ "_law_points" fA ["_law_head","_law_many"]:=fun _ _ _ _ _ _ us hl=>match us,hl with | [_,_],_=>rfl
theorem vP:fZ "_law_depth" fg ["_law_points_here","_law_spot_here"]:=fun _ _ _ _ _ _ us hl=>match us,hl with | [_,_],_=>rfl
theorem ke:fZ "_law_least_beside" cf ["_law_ways","_law_way"]:=fun _ _ _ _ _ _ us hl=>match us,hl with | [_,_],_=>rfl
theorem zv:fZ "_law_spot" jd ["_law_points_here","_law_number"]:=fun _ _ _ _ _ _ us hl=>match us,hl with | [_,_],_=>rfl
theorem zo:fZ "_law_less" jc ["_law_one","_law_other"]:=fun _ _ _ _ _ _ us hl=>match us,hl with | [_,_],_=>rfl
theorem zz:fZ "_law_turn" fB ["_law_one","_law_two","_law_three"]:=fun _ _ _ _ _ _ us hl=>match us,hl with | [_,_,_],_=>rfl
theorem vO:fZ "_law_ahead" gM ["_law_one","_law_other"]:=fun _ _ _ _ _ _ us hl=>match us,hl with | [_,_],_=>rfl
theorem m6:fZ "_law_is_region" c6 ["_law_found"]:=fun _ _ _ _ _ _ us hl=>match us,hl with | [_],_=>rfl
theorem vR:fZ "_law_holds" gO ["_law_corners","_law_spot_here"]:=fun _ _ _ _ _ _ us hl=>match us,hl with | [_,_],_=>rfl
theorem tN:fZ "_law_middle" fz ["_law_corners"]:=fun _ _ _ _ _ _ us hl=>match us,hl with | [_],_=>rfl
theorem all_mk {l:PySem.W.OpenLaw}{w:World}{K:PySem.W.Frag}{h:Heap}{mg:Str->Option Value}{fa f_0 f_1 f_2 f_3 f_4 f_5 f_6 f_7 f_8 f_9 f_10 f_11 f_12 f_13 f_14 f_15 f_16 f_17 f_18 f_19 f_20 f_21 f_22 f_23 f_24 f_25 f_26 f_27 f_28 f_29 f_30 f_31 f_32 f_33 f_34 f_35 f_36 f_37 f_38 f_39 f_40 f_41 f_42:Addr} (X:K.In h) (G:h.Ns mainGlobals mg) (hfa:mg "law"=some (.ref fa))
  (d0:Fd K "divisor" gL f_0)
  (d1:Fd K "ratio" kS f_1)
  (d2:Fd K "below" kP f_2)
  (d3:Fd K "half" oh f_3)
  (d4:Fd K "between" gI f_4)
  (d5:Fd K "as_spot" gH f_5)
  (d6:Fd K "bottoms" gJ f_6)
  (d7:Fd K "excess" jb f_7)
  (d8:Fd K "sign" oj f_8)
  (d9:Fd K "side" oi f_9)
  (d10:Fd K "many_in" fh f_10)
  (d11:Fd K "lesser" je f_11)
  (d12:Fd K "stretched" eI f_12)
  (d13:Fd K "turn" om f_13)
  (d14:Fd K "chain" kQ f_14)
  (d15:Fd K "hull" lU f_15)
  (d16:Fd K "sides" jo f_16)
  (d17:Fd K "from_least" dF f_17)
  (d18:Fd K "mixed" kR f_18)
  (d19:Fd K "crossing" fy f_19)
  (d20:Fd K "clipped" gK f_20)
  (d21:Fd K "upright_and_level" bJ f_21)
  (d22:Fd K "bordered" fw f_22)
  (d23:Fd K "need_points" c7 f_23)
  (d24:Fd K "strong" gQ f_24)
  (d25:Fd K "region" jf f_25)
  (d26:Fd K "_law_whole" gP f_26)
  (d27:Fd K "_law_numbers" dq f_27)
  (d28:Fd K "_law_divisor" eE f_28)
  (d29:Fd K "_law_fraction" dG f_29)
  (d30:Fd K "_law_digit" gN f_30)
  (d31:Fd K "_law_is_spot" eG f_31)
  (d32:Fd K "_law_points" fA f_32)
  (d33:Fd K "_law_depth" fg f_33)
  (d34:Fd K "_law_least_beside" cf f_34)
  (d35:Fd K "_law_spot" jd f_35)
  (d36:Fd K "_law_less" jc f_36)
  (d37:Fd K "_law_turn" fB f_37)
  (d38:Fd K "_law_ahead" gM f_38)
  (d39:Fd K "_law_is_region" c6 f_39)
  (d40:Fd K "_law_holds" gO f_40)
  (d41:Fd K "_law_middle" fz f_41)
  (d42:Fd K "law" md f_42)
  (z_abs:PySem.W.nsIn K mainGlobals "abs"=some none)
  (z_len:PySem.W.nsIn K mainGlobals "len"=some none)
  (z_sorted:PySem.W.nsIn K mainGlobals "sorted"=some none)
  (z_set:PySem.W.nsIn K mainGlobals "set"=some none)
  (z_list:PySem.W.nsIn K mainGlobals "list"=some none)
  (z_reversed:PySem.W.nsIn K mainGlobals "reversed"=some none)
  (z_range:PySem.W.nsIn K mainGlobals "range"=some none)
  (z_isinstance:PySem.W.nsIn K mainGlobals "isinstance"=some none)
  (z_int:PySem.W.nsIn K mainGlobals "int"=some none)
  (z_bool:PySem.W.nsIn K mainGlobals "bool"=some none)
  (z_max:PySem.W.nsIn K mainGlobals "max"=some none)
  (z_min:PySem.W.nsIn K mainGlobals "min"=some none)
  (z_tuple:PySem.W.nsIn K mainGlobals "tuple"=some none)
  (z_sum:PySem.W.nsIn K mainGlobals "sum"=some none)
 :∃ fd:FuncData,(∀ (s:Shared) (v:Value),BindsTo s fd ⟨[v],[]⟩ [("_law_script",v)])/\∀ base:Heap,K.In base->base.Ns mainGlobals mg->iL l.prog w K mg base AW 7 fa fd ["_law_script"] (sW K qo):=by
 obtain⟨oc42,od42,sl42,kV42,dc42,pm42,an42,cd42,ct42,a42,l42,e42,k42⟩:=d42;have e:=hfa.symm.trans (PySem.W.mg_of X G a42)
 cases e
 have F_law:=rf (st:=md) l42 e42 k42;have m_abs:=PySem.W.mg_none_of X G z_abs;have m_len:=PySem.W.mg_none_of X G z_len;have m_sorted:=PySem.W.mg_none_of X G z_sorted;have m_set:=PySem.W.mg_none_of X G z_set;have m_list:=PySem.W.mg_none_of X G z_list;have m_reversed:=PySem.W.mg_none_of X G z_reversed;have m_range:=PySem.W.mg_none_of X G z_range;have m_isinstance:=PySem.W.mg_none_of X G z_isinstance;have m_int:=PySem.W.mg_none_of X G z_int;have m_bool:=PySem.W.mg_none_of X G z_bool;have m_max:=PySem.W.mg_none_of X G z_max;have m_min:=PySem.W.mg_none_of X G z_min;have m_tuple:=PySem.W.mg_none_of X G z_tuple;have m_sum:=PySem.W.mg_none_of X G z_sum;refine⟨PySem.W.fnOf "law" "law" (fS md) (de md) (al md) .none kV42 dc42 pm42 an42 cd42 ct42,fun s v=>.of_eq rfl,fun base _ _=>?_⟩;have c_l_numbers:Callee l.prog w K mg base 1 "_law_numbers" dI:=bi X G d27 cS pC qK (fun cdv A outer s H E hr=>tI m_range m_max m_min m_len hr) sL;have c_l_digit:Callee l.prog w K mg base 1 "_law_digit" fG:=bi X G d30 j2 uB vQ (fun cdv A outer s H E hr=>ze m_range hr) wX;have c_l_points:Callee l.prog w K mg base 2 "_law_points" eQ:=bi X G d32 bg sk tO (fun cdv A outer s H E hr=>vE m_range c_l_digit hr) uV;have c_need_points:Callee l.prog w K mg base 1 "need_points" bA:=bi X G d23 ou mn m8 (fun cdv A outer s H E hr=>oV m_len hr) nW;have c_as_spot:Callee l.prog w K mg base 1 "as_spot" fC:=bi X G d5 xg ur vJ (fun cdv A outer s H E hr=>yX hr) wN;have c_bottoms:Callee l.prog w K mg base 1 "bottoms" bZ:=bi X G d6 xh uu vL (fun cdv A outer s H E hr=>yZ hr) wQ;have c_stretched:Callee l.prog w K mg base 2 "stretched" cU:=bi X G d12 sR pD qL (fun cdv A outer s H E hr=>tJ c_bottoms hr) sM
 have c_excess:Callee l.prog w K mg base 2 "excess" cw:=bi X G d7 lV wx zk (fun cdv A outer s H E hr=>Bo c_bottoms hr) Ak;have c_turn:Callee l.prog w K mg base 3 "turn" kY:=bi X G d13 jq Dq Gi (fun cdv A outer s H E hr=>JV c_stretched c_excess hr) Hh;have c_chain:Callee l.prog w K mg base 4 "chain" gS:=bi X G d14 oo Aa Bz (fun cdv A outer s H E hr=>F8 m_len c_turn hr) ED;have c_hull:Callee l.prog w K mg base 5 "hull" kW:=bi X G d15 mM Dm Gf (fun cdv A outer s H E hr=>JS m_sorted m_set m_len m_list m_reversed c_as_spot c_chain hr) Hb;have c_upright_and_level:Callee l.prog w K mg base 1 "upright_and_level" bG:=bi X G d21 cI iN iQ (fun cdv A outer s H E hr=>jE hr) i9;have c_divisor:Callee l.prog w K mg base 1 "divisor" cm:=bi X G d0 dU uw vN (fun cdv A outer s H E hr=>y8 m_abs hr) wU;have c_half:Callee l.prog w K mg base 2 "half" kU:=bi X G d3 yL Dl Ge (fun cdv A outer s H E hr=>JR c_divisor hr) Ha;have c_between:Callee l.prog w K mg base 3 "between" fE:=bi X G d4 j1 ut vK (fun cdv A outer s H E hr=>yY c_half hr) wO;have c_bordered:Callee l.prog w K mg base 4 "bordered" eM:=bi X G d22 fU se tL (fun cdv A outer s H E hr=>vB m_sorted m_set c_upright_and_level c_between hr) uS;have c_many_in:Callee l.prog w K mg base 1 "many_in" fH:=bi X G d10 xk uE vT (fun cdv A outer s H E hr=>zi m_len hr) w4;have c_strong:Callee l.prog w K mg base 5 "strong" gX:=bi X G d24 AI wG zC (fun cdv A outer s H E hr=>Bu c_need_points c_bordered c_many_in hr) As
 have c_sides:Callee l.prog w K mg base 1 "sides" jh:=bi X G d16 Fc Ad BC (fun cdv A outer s H E hr=>Gb m_range m_len hr) EG;have c_sign:Callee l.prog w K mg base 1 "sign" kX:=bi X G d8 Ic Dp Gh (fun cdv A outer s H E hr=>JU hr) Hg;have c_side:Callee l.prog w K mg base 3 "side" iB:=bi X G d9 Ib Do Gg (fun cdv A outer s H E hr=>JT c_sign c_excess hr) He;have c_ratio:Callee l.prog w K mg base 2 "ratio" jg:=bi X G d1 ow Ac BB (fun cdv A outer s H E hr=>Ga c_divisor hr) EF;have c_mixed:Callee l.prog w K mg base 3 "mixed" gU:=bi X G d18 u6 Ab BA (fun cdv A outer s H E hr=>F9 c_ratio hr) EE;have c_crossing:Callee l.prog w K mg base 4 "crossing" eO:=bi X G d19 eJ si tM (fun cdv A outer s H E hr=>vC m_abs c_excess c_bottoms c_mixed hr) uT;have c_below:Callee l.prog w K mg base 1 "below" gR:=bi X G d2 Fb z9 By (fun cdv A outer s H E hr=>F7 hr) EC;have c_lesser:Callee l.prog w K mg base 2 "lesser" gT:=bi X G d11 AH wD zA (fun cdv A outer s H E hr=>Bs c_below hr) Ao;have c_from_least:Callee l.prog w K mg base 3 "from_least" c8:=bi X G d17 ec nL oX (fun cdv A outer s H E hr=>qF m_range m_len c_lesser hr) pE;have c_clipped:Callee l.prog w K mg base 5 "clipped" fF:=bi X G d20 iz uv vM (fun cdv A outer s H E hr=>y6 c_sides c_side c_crossing c_from_least hr) wR;have c_region:Callee l.prog w K mg base 6 "region" gW:=bi X G d25 jp wF zB (fun cdv A outer s H E hr=>Bt m_len c_need_points c_hull c_strong c_clipped hr) Aq;have c_l_whole:Callee l.prog w K mg base 1 "_law_whole" dm:=bi X G d26 xj uD vS (fun cdv A outer s H E hr=>zg m_isinstance m_int m_bool hr) wZ
 have c_l_divisor:Callee l.prog w K mg base 1 "_law_divisor" cq:=bi X G d28 e8 pA qI (fun cdv A outer s H E hr=>tG m_abs hr) sJ;have c_l_is_spot:Callee l.prog w K mg base 2 "_law_is_spot" dH:=bi X G d31 kT pB qJ (fun cdv A outer s H E hr=>tH m_isinstance m_tuple m_len c_l_whole c_l_divisor hr) sK;have c_l_less:Callee l.prog w K mg base 1 "_law_less" fi:=bi X G d36 AG wy zo (fun cdv A outer s H E hr=>Bp hr) Al;have c_l_ahead:Callee l.prog w K mg base 2 "_law_ahead" b7:=bi X G d38 xi uz vO (fun cdv A outer s H E hr=>y9 c_l_less hr) wV;have c_l_turn:Callee l.prog w K mg base 1 "_law_turn" du:=bi X G d37 dr wA zz (fun cdv A outer s H E hr=>Br hr) An;have c_l_is_region:Callee l.prog w K mg base 3 "_law_is_region" cL:=bi X G d39 cH mm m6 (fun cdv A outer s H E hr=>oU m_isinstance m_list m_range m_len c_l_is_spot c_l_ahead c_l_turn hr) nV;have c_l_least_beside:Callee l.prog w K mg base 1 "_law_least_beside" bS:=bi X G d34 aO jX ke (fun cdv A outer s H E hr=>lC m_min hr) kJ;have c_l_depth:Callee l.prog w K mg base 2 "_law_depth" cJ:=bi X G d33 bY uA vP (fun cdv A outer s H E hr=>zd m_len m_min c_l_least_beside hr) wW;have c_l_fraction:Callee l.prog w K mg base 2 "_law_fraction" bh:=bi X G d29 jM nM oY (fun cdv A outer s H E hr=>qG c_l_divisor hr) pF;have c_l_middle:Callee l.prog w K mg base 3 "_law_middle" eP:=bi X G d41 cj sj tN (fun cdv A outer s H E hr=>vD m_range m_len c_l_fraction hr) uU
 have c_l_spot:Callee l.prog w K mg base 3 "_law_spot" fj:=bi X G d35 cT wz zv (fun cdv A outer s H E hr=>Bq m_len m_sum c_l_fraction hr) Am;have c_l_holds:Callee l.prog w K mg base 3 "_law_holds" dW:=bi X G d40 ot uC vR (fun cdv A outer s H E hr=>zf m_len m_range c_l_turn c_l_ahead hr) wY;exact BL F_law iA GQ (fun cdv A outer s H E hr=>Nc m_len m_list c_l_numbers c_l_points c_region c_l_is_region c_l_depth c_l_middle c_l_spot c_l_holds hr) K6
theorem walk {l:PySem.W.OpenLaw}{q:Program}{loose:List Str}{XP:(Str->Option Value)->Heap->Prop}{YP:World->Heap->Prop}{d:DefRec}{K:Params->PySem.W.Frag}(hn:l.most=some 63)(hdf:d.params.defaults=[])
  (hY:∀ (w:World) (h:Heap),YP w h->(K w.params).In h)
  (F:∀ (w:World) (mg:Str->Option Value) (fa:Addr) (h:Heap),(K w.params).In h->h.Ns mainGlobals mg->mg d.name=some (.ref fa) →
   ∃ fd:FuncData,(∀ (s:Shared) (u:Value),BindsTo s fd ⟨[u],[]⟩ [("_law_script",u)])/\∀ base:Heap,(K w.params).In base->base.Ns mainGlobals mg->iL l.prog w (K w.params) mg base AW 7 fa fd ["_law_script"] (sW (K w.params) qo)) :
  PySem.W.WalkO q loose XP YP l.row.toRowW d [] (fun f vs=>PySem.call f vs):=
 L2.walk_of (n:=63) (k:=7) (x:="_law_script") (CX:=fun _=>AW) (sp:=fun w=>sW (K w.params) qo) hn (by decide) hdf ⟨rfl,by decide,by decide⟩ hY F (fun _ _ a ns hl _ hS=>KM hl hS) fun _ _ _ _ _ z=>z
end Law
open PySem PySem.W PyProof.Rows
set_option maxRecDepth 100000 in
set_option maxHeartbeats 0 in
theorem PySem.Challenge.cw_deepspot_k42_whole_regions_of_depth_holds : PySem.Challenge.rw_deepspot_k42_whole_regions_of_depth.Holds := by
 w_on;o_law;k_head;(case hw=>w_witness2)
 k_fill
 refine Law.walk (l:=PySem.Challenge.rw_deepspot_k42_whole_regions_of_depth) rfl rfl (fun w h Y=>by first|exact PySem.W.kIn_of Y|exact PySem.W.km_in_of Y) ?F
 case F=>
  intro w mg fa h KX G hmg;refine' Law.all_mk KX G hmg (Law.fd_mk ?_ ?_ ?_ ?_) (Law.fd_mk ?_ ?_ ?_ ?_) (Law.fd_mk ?_ ?_ ?_ ?_) (Law.fd_mk ?_ ?_ ?_ ?_) (Law.fd_mk ?_ ?_ ?_ ?_) (Law.fd_mk ?_ ?_ ?_ ?_) (Law.fd_mk ?_ ?_ ?_ ?_) (Law.fd_mk ?_ ?_ ?_ ?_) (Law.fd_mk ?_ ?_ ?_ ?_) (Law.fd_mk ?_ ?_ ?_ ?_) (Law.fd_mk ?_ ?_ ?_ ?_) (Law.fd_mk ?_ ?_ ?_ ?_) (Law.fd_mk ?_ ?_ ?_ ?_) (Law.fd_mk ?_ ?_ ?_ ?_) (Law.fd_mk ?_ ?_ ?_ ?_) (Law.fd_mk ?_ ?_ ?_ ?_) (Law.fd_mk ?_ ?_ ?_ ?_) (Law.fd_mk ?_ ?_ ?_ ?_) (Law.fd_mk ?_ ?_ ?_ ?_) (Law.fd_mk ?_ ?_ ?_ ?_) (Law.fd_mk ?_ ?_ ?_ ?_) (Law.fd_mk ?_ ?_ ?_ ?_) (Law.fd_mk ?_ ?_ ?_ ?_) (Law.fd_mk ?_ ?_ ?_ ?_) (Law.fd_mk ?_ ?_ ?_ ?_) (Law.fd_mk ?_ ?_ ?_ ?_) (Law.fd_mk ?_ ?_ ?_ ?_) (Law.fd_mk ?_ ?_ ?_ ?_) (Law.fd_mk ?_ ?_ ?_ ?_) (Law.fd_mk ?_ ?_ ?_ ?_) (Law.fd_mk ?_ ?_ ?_ ?_) (Law.fd_mk ?_ ?_ ?_ ?_) (Law.fd_mk ?_ ?_ ?_ ?_) (Law.fd_mk ?_ ?_ ?_ ?_) (Law.fd_mk ?_ ?_ ?_ ?_) (Law.fd_mk ?_ ?_ ?_ ?_) (Law.fd_mk ?_ ?_ ?_ ?_) (Law.fd_mk ?_ ?_ ?_ ?_) (Law.fd_mk ?_ ?_ ?_ ?_) (Law.fd_mk ?_ ?_ ?_ ?_) (Law.fd_mk ?_ ?_ ?_ ?_) (Law.fd_mk ?_ ?_ ?_ ?_) (Law.fd_mk ?_ ?_ ?_ ?_) ?_ ?_ ?_ ?_ ?_ ?_ ?_ ?_ ?_ ?_ ?_ ?_ ?_ ?_
  all_goals(try k_is)

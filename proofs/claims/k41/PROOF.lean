import PyProof.Rows.All
import Wide.All
import OpenK.AllK
import Wide.FinOn
import Lean
import PyProof.EqAt
import PyProof.EqKinds
import PyProof.TupleCall
import PyProof.CompFree
import PyProof.ExcArgsOwn
import KE.KIsAll
import PyProof.NsDelKeeps
import PyProof.NeKinds
import PyProof.FitsBits
import KE.LcSums
import PyProof.ZipIter
import PyProof.EnumFor
import PyProof.EnumStmt
import PyProof.Rows.EnumRows
import PyProof.Rows.FactsT2
import PyProof.Rows.SortWalk
import PyProof.Rows.FactsT3
import PyProof.LayNew
import PyProof.SetScanFacts
import PyProof.TupleKey
import PyProof.SetKind
import PyProof.DictStraight
import PyProof.IsRules
import PyProof.WalkLemmas
import PyProof.Rows.SetFrom
import KE.KRevIter
import PyProof.Rows.SortRuns
import KE.KSortTup
import PyProof.ListNew
import PyProof.DictWalks
import KE.RegKIsAll
import PySem.Challenge.RW_deepspot_k41_strong_halves
local macro_rules | `(tactic| walk_at "o")=>`(tactic| first | lia | omega)
set_option Elab.async false
set_option linter.all false
set_option maxRecDepth 100000
namespace L2
open PySem PySem.Spec PyProof.Rows
abbrev Key:=Sum Int Str
def jR:Key->Value->Bool
 | .inl k,v=>Value.isInt k v
 | .inr x,v=>Value.isStrOf x v
def FD (w:World):Key->Int
 | .inl k=>hashInt k
 | .inr x=>hashStr w x
theorem a6:∀ {k:Key}{v:Value},jR k v=true->(∃ i t,k=Sum.inl i/\v=Value.int i t)\/(∃ x t,k=Sum.inr x/\v=Value.str x t)
 | .inl i,v,h=>by
  obtain⟨t,e⟩:=Value.isInt_shape (k:=i) (v:=v) h;exact .inl ⟨i,t,rfl,e⟩
 | .inr x,v,h=>by
  obtain⟨t,e⟩:=Value.isStrOf_shape (x:=x) (v:=v) h;exact .inr ⟨x,t,rfl,e⟩
theorem qF (i:Int)(t:Tok):jR (.inl i) (.int i t)=true:=by simp[jR,Value.isInt]
theorem qG (x:Str)(t:Tok):jR (.inr x) (.str x t)=true:=by simp[jR,Value.isStrOf]
theorem A9 (a b:Int):decide ((Sum.inl a:Key)=Sum.inl b)=(a == b):=by
 by_cases e:a=b
 ·subst e;simp
 ·have h:¬ (Sum.inl a:Key)=Sum.inl b:=fun q=>e (Sum.inl.inj q);rw[decide_eq_false h];exact(beq_eq_false_iff_ne.mpr e).symm
theorem Bc (a b:Str):decide ((Sum.inr a:Key)=Sum.inr b)=decide (a=b):=by
 by_cases e:a=b
 ·subst e;simp
 ·have h:¬ (Sum.inr a:Key)=Sum.inr b:=fun q=>e (Sum.inr.inj q);rw[decide_eq_false h,decide_eq_false e]
theorem Ba (a:Int)(b:Str):decide ((Sum.inl a:Key)=Sum.inr b)=false:=decide_eq_false (fun q=>nomatch q)
theorem Bb (a:Str)(b:Int):decide ((Sum.inr a:Key)=Sum.inl b)=false:=decide_eq_false (fun q=>nomatch q)
def br (prog:Program)(w:World):PySem.KeyKind prog w Key where
 is:=jR
 hash:=FD w
 inj:=fun v a b ha hb=>by
  rcases a6 ha with ⟨i,t,rfl,rfl⟩|⟨x,t,rfl,rfl⟩
  ·rcases a6 hb with ⟨j,u,rfl,e⟩|⟨y,u,rfl,e⟩
   ·injection e with e1 _;rw[e1]
   ·exact nomatch e
  ·rcases a6 hb with ⟨j,u,rfl,e⟩|⟨y,u,rfl,e⟩
   ·exact nomatch e
   ·injection e with e1 _;rw[e1]
 byValue:=fun k v h=>by
  rcases a6 h with ⟨i,t,rfl,rfl⟩|⟨x,t,rfl,rfl⟩ <;> rfl
 pyHash:=fun hv h=>by
  rcases a6 hv with ⟨i,t,rfl,rfl⟩|⟨x,t,rfl,rfl⟩
  ·exact wpAny_pyHash_int h
  ·exact wpAny_pyHash_str h
 eqBool:=fun hu hv h=>by
  rcases a6 hu with ⟨i,t,rfl,rfl⟩|⟨x,t,rfl,rfl⟩
  ·rcases a6 hv with ⟨j,u,rfl,rfl⟩|⟨y,u,rfl,rfl⟩
   ·rw[A9]at h;exact wpAny_eqBool_int h
   ·rw[Ba]at h;exact SeqAt.EqAt.int_str i t y u _ _ _ _ h
  ·rcases a6 hv with ⟨j,u,rfl,rfl⟩|⟨y,u,rfl,rfl⟩
   ·rw[Bb]at h;exact SeqAt.EqAt.str_int x t j u _ _ _ _ h
   ·rw[Bc]at h;exact wpAny_eqBool_str h
 «strs»:=fun k x t v h=>by
  rcases a6 h with ⟨i,u,rfl,e⟩|⟨y,u,rfl,e⟩
  ·exact nomatch e
  ·injection e with e1 _
   subst e1
   cases v <;> rfl
theorem mU (prog:Program)(w:World)(i:Int)(t:Tok):(br prog w).is (.inl i) (.int i t)=true:=qF i t
theorem mV (prog:Program)(w:World)(x:Str)(t:Tok):(br prog w).is (.inr x) (.str x t)=true:=qG x t
end L2
namespace L2
open PySem PySem.Spec PyProof.Rows
inductive V where
 | non|bl (b:Bool)|int (i:Int)|str (x:Str)|byt (b:Array UInt8)|flt (b:UInt64)|ref (a:Addr)|ty (n:String)
 deriving DecidableEq
def RelV:V->Value->Prop
 | .non,u=>u=Value.none
 | .bl b,u=>u=Value.bool b
 | .int i,u=>∃ t,u=Value.int i t
 | .str x,u=>∃ t,u=Value.str x t
 | .byt b,u=>∃ t,u=Value.bytes b t
 | .flt b,u=>∃ t,u=Value.float b t
 | .ref a,u=>u=Value.ref a
 | .ty n,u=>u=Value.type n
abbrev aA:List V->List Value->Prop:=Paired RelV
theorem aA.length {xs:List V}{us:List Value}(r:aA xs us):xs.length=us.length:=Paired.length r
theorem aA.get:∀ {xs:List V}{us:List Value}{i:Nat}{x:V},aA xs us->xs[i]?=some x->∃ u,us[i]?=some u/\RelV x u
 | _,_,_,_,.nil,e=>by simp at e
 | _,_,0,_,.cons r _,e=>by simp at e;subst e;exact⟨_,rfl,r⟩
 | _,_,i+1,x,.cons _ t,e=>by
  obtain⟨u,h1,h2⟩:=aA.get (i:=i) (x:=x) t (by simpa using e)
  exact⟨u,by simpa using h1,h2⟩
theorem aA.set {x:V}{u:Value}(r:RelV x u):∀ {xs:List V}{us:List Value} (i:Nat),aA xs us->aA (xs.set i x) (us.set i u)
 | _,_,_,.nil=>.nil
 | _,_,0,.cons _ t=>.cons r t
 | _,_,i+1,.cons q t=>.cons q (aA.set r i t)
theorem aA.append:∀ {xs ys:List V}{us ws:List Value},aA xs us->aA ys ws->aA (xs++ys) (us++ws)
 | _,_,_,_,.nil,s=>s
 | _,_,_,_,.cons r t,s=>.cons r (aA.append t s)
theorem aA.take:∀ {xs:List V}{us:List Value} (n:Nat),aA xs us->aA (xs.take n) (us.take n)
 | _,_,0,_=>.nil
 | _,_,_+1,.nil=>.nil
 | _,_,n+1,.cons r t=>.cons r (aA.take n t)
theorem aA.drop:∀ {xs:List V}{us:List Value} (n:Nat),aA xs us->aA (xs.drop n) (us.drop n)
 | _,_,0,r=>r
 | _,_,_+1,.nil=>.nil
 | _,_,n+1,.cons _ t=>aA.drop n t
def lS:Option V->Option Value->Prop
 | some v,some u=>RelV v u
 | none,none=>True
 | _,_=>False
def KV {κ:Type}:List (κ × V)->List (κ × Value)->Prop:=Paired fun (p:κ × V) (q:κ × Value)=>p.1=q.1/\RelV p.2 q.2
def kV:Key->V
 | .inl i=>.int i
 | .inr x=>.str x
inductive HO where
  | lst (xs:List V)
  | tup (xs:List V)
  | dK (kvs:List (Key × V))|dT (kvs:List (List Key × V))
  | set (S:Int->Bool) (n:Nat)
  | ins (C dx:Addr) (fs:List (Str × V))
  | own (x:Addr)
  | xd (fs:List (Str × V))
  | met (f x:Addr)
  | rng (lo hi:Int)
  | frz (o:Obj) (u:HO)
  | tbl (ps:Array Value)
  | ext (φ:Heap->Prop)
abbrev Hp:=Addr->Option HO
def a8 (H:Hp)(a:Addr)(o:HO):Hp:=fun b=>if b=a then some o else H b
theorem aB {H:Hp}{a:Addr}{o:HO}:a8 H a o a=some o:=by unfold a8;rw[if_pos rfl]
theorem aw {H:Hp}{a b:Addr}{o:HO}(h:b≠a):a8 H a o b=H b:=by unfold a8;rw[if_neg h]
theorem dh {H:Hp}{a b:Addr}{o u:HO}(h:H a=some o)(h':H b=some u)(d:o≠u):a≠b:=by
 intro e;subst e;rw[h]at h';exact d (Option.some.inj h')
theorem bo {H:Hp}{a b:Addr}{o:HO}(h:H a=some o)(h':H b=none):a≠b:=by
 intro e;subst e;rw[h]at h';cases h'
section
variable (P:Program) (w:World)
def bh (H:Hp)(h:Heap)(a:Addr):HO->Prop
 | .lst xs=>xs.length<=sizeLine/\∃ (its:List Value) (n:Nat),aA xs its/\h.get? a=some {cls:=.type "list",data:=.seq its.toArray n}
 | .tup xs=>xs.length<=sizeLine/\∃ its:List Value,aA xs its/\IsTup h a its.toArray
 | .dK kvs=>kvs.length<=sizeLine/\(a == sysModules)=false/\∃ vs,KV kvs vs/\h.DictOf (br P w) a vs
 | .dT kvs=>kvs.length<=sizeLine/\(a == sysModules)=false/\∃ xs:List (List Key × Addr × Value),
   Paired (fun (p:List Key × V) (q:List Key × Addr × Value)=>p.1=q.1/\H q.2.1=some (.tup (p.1.map kV))/\RelV p.2 q.2.2) kvs xs ∧
   ∃ o es ep,h.get? a=some o/\o.ExactDict/\o.data=.dict es ep/\es.toList=xs.map (entryOfKey (tupleKind (br P w)))/\(xs.map (·.1)).Nodup
 | .set S n=>h.SetOf (intKind P w) a S n
 | .ins C dx fs=>H dx=some (.own a)/\fs.length<=1000/\dx≠a/\h.get? a=some (PySem.W.instObj C dx) ∧
   ∃ mA,h.Ns1 dx mA/\(∀ f,lS (fs.lookup f) (mA f))/\PySem.Within mA (fs.map (·.1))
 | .own _=>∃ o,h.get? a=some o
 | .xd fs=>∃ mA,h.Ns1 a mA/\∀ f,lS (fs.lookup f) (mA f)
 | .rng lo hi=>∃ t u v,h.get? a=some {cls:=.type "range",data:=.fields #[.int lo t,.int hi u,.int 1 v]}
 | .frz o u=>h.get? a=some o/\bh H h a u
 | .tbl ps=>h.get? a=some {cls:=.none,data:=.fields ps}
 | .met f x=>h.get? a=some (PySem.W.methodObj (.ref f) (.ref x))
 | .ext φ=>φ h/\(∃ o,h.get? a=some o)/\∀ h1 h2:Heap,φ h1->(∀ o,h1.get? a=some o->h2.get? a=some o)->φ h2
def dR (H:Hp)(h:Heap):Prop:=∀ a o,H a=some o->bh P w H h a o
end
section
variable {P:Program}{w:World}{H H':Hp}{h h':Heap}{a:Addr}{o:HO}
theorem bh.lt (x:bh P w H h a o):a<h.objs.size:=by
 cases o with
 | lst xs=>obtain⟨_,_,_,_,e⟩:=x;exact Heap.lt_size e
 | tup xs=>obtain⟨_,_,_,p⟩:=x;exact p.lt
 | dK kvs=>obtain⟨_,_,_,_,o,_,_,e,_⟩:=x;exact Heap.lt_size e
 | dT kvs=>obtain⟨_,_,_,_,o,_,_,e,_⟩:=x;exact Heap.lt_size e
 | set S n=>obtain⟨o,_,_,_,e,_⟩:=x;exact Heap.lt_size e
 | ins C dx fs=>obtain⟨_,_,_,e,_⟩:=x;exact Heap.lt_size e
 | own y=>obtain⟨_,e⟩:=x;exact Heap.lt_size e
 | xd fs=>obtain⟨_,⟨_,_,_,e,_⟩,_⟩:=x;exact Heap.lt_size e
 | rng lo hi=>obtain⟨_,_,_,e⟩:=x;exact Heap.lt_size e
 | frz ob u=>obtain⟨e,_⟩:=x;exact Heap.lt_size e
 | tbl ps=>exact Heap.lt_size (show h.get? a=some _ from x)
 | met f y=>exact Heap.lt_size (show h.get? a=some _ from x)
 | ext φ=>obtain⟨_,⟨_,e⟩,_⟩:=x;exact Heap.lt_size e
theorem Paired.mapP {α β:Type}{F G:α->β->Prop}:∀ {l₁:List α}{l₂:List β},Paired F l₁ l₂->(∀ a b,F a b->G a b)->Paired G l₁ l₂
 | _,_,.nil,_=>.nil
 | _,_,.cons r t,f=>.cons (f _ _ r) (Paired.mapP t f)
theorem bh.stay (x:bh P w H h a o)(k:∀ b u,(b=a\/H b=some (.own a))->h.get? b=some u->h'.get? b=some u)
  (ho:∀ b,H b=some (.own a)->H' b=some (.own a)) (ht:∀ b xs,H b=some (.tup xs)->H' b=some (.tup xs)):bh P w H' h' a o:=by
 induction o with
 | lst xs=>obtain⟨z,its,n,r,e⟩:=x;exact⟨z,its,n,r,k _ _ (.inl rfl) e⟩
 | tup xs=>obtain⟨z,its,r,ob,e,c⟩:=x;exact⟨z,its,r,ob,k _ _ (.inl rfl) e,c⟩
 | dK kvs=>obtain⟨z,y,vs,r,ob,es,ep,e,c⟩:=x;exact⟨z,y,vs,r,ob,es,ep,k _ _ (.inl rfl) e,c⟩
 | dT kvs=>
  obtain⟨z,y,xs,r,ob,es,ep,e,c⟩:=x;exact⟨z,y,xs,Paired.mapP r fun p q z=>⟨z.1,ht _ _ z.2.1,z.2.2⟩,ob,es,ep,k _ _ (.inl rfl) e,c⟩
 | set S n=>obtain⟨ob,es,ep,t,e,c⟩:=x;exact⟨ob,es,ep,t,k _ _ (.inl rfl) e,c⟩
 | ins C dx fs=>
  obtain⟨d,z,ne,e,mA,⟨od,es,ep,e2,c⟩,r⟩:=x;exact⟨ho _ d,z,ne,k _ _ (.inl rfl) e,mA,⟨od,es,ep,k _ _ (.inr d) e2,c⟩,r⟩
 | own y=>obtain⟨ob,e⟩:=x;exact⟨ob,k _ _ (.inl rfl) e⟩
 | xd fs=>obtain⟨mA,⟨od,es,ep,e,c⟩,r⟩:=x;exact⟨mA,⟨od,es,ep,k _ _ (.inl rfl) e,c⟩,r⟩
 | rng lo hi=>obtain⟨t,u,v,e⟩:=x;exact⟨t,u,v,k _ _ (.inl rfl) e⟩
 | frz ob u ih=>obtain⟨e,q⟩:=x;exact⟨k _ _ (.inl rfl) e,ih q⟩
 | tbl ps=>
  have e:h.get? a=some {cls:=.none,data:=.fields ps}:=x;show h'.get? a=some {cls:=.none,data:=.fields ps};exact k a _ (.inl rfl) e
 | met f y=>
  have e:h.get? a=some (PySem.W.methodObj (.ref f) (.ref y)):=x;show h'.get? a=some (PySem.W.methodObj (.ref f) (.ref y));exact k a _ (.inl rfl) e
 | ext φ=>obtain⟨p,⟨o,e⟩,st⟩:=x;exact⟨st _ _ p fun o q=>k _ _ (.inl rfl) q,⟨o,k _ _ (.inl rfl) e⟩,st⟩
theorem dR.lt (x:dR P w H h)(e:H a=some o):a<h.objs.size:=(x a o e).lt
theorem dR.fresh (x:dR P w H h)(e:h.objs.size<=a):H a=none:=by
 cases q:H a with
 | none=>rfl
 | some u=>exact absurd (Nat.lt_of_lt_of_le (x.lt q) e) (Nat.lt_irrefl _)
theorem dR.kept (x:dR P w H h)(k:∀ b u,h.get? b=some u->h'.get? b=some u):dR P w H h':=fun a o e=>
 (x a o e).stay (fun b u _ q=>k b u q) (fun _ q=>q) fun _ _ q=>q
theorem dR.laid (x:dR P w H h)(k:∀ b u,h.get? b=some u->h'.get? b=some u)(hp:h.objs.size<=a)(new:bh P w (a8 H a o) h' a o):dR P w (a8 H a o) h':=fun b u e=>by
 have hn:=x.fresh hp
 by_cases hb:b=a
 ·subst hb;rw[aB]at e;cases e;exact new
 ·rw[aw hb]at e;exact(x b u e).stay (fun c v _ q=>k c v q) (fun c q=>by rw[aw (bo q hn)];exact q) fun c xs q=>by rw[aw (bo q hn)];exact q
end
def Rd (H:Hp)(a:Addr)(u:HO):Prop:=H a=some u\/∃ o,H a=some (.frz o u)
theorem Rd.of {H:Hp}{a:Addr}{u:HO}(h:H a=some u):Rd H a u:=.inl h
theorem Rd.ok {P:Program}{w:World}{H:Hp}{h:Heap}{a:Addr}{u:HO}(r:Rd H a u)(x:dR P w H h):bh P w H h a u:=by
 rcases r with r|⟨o,r⟩
 ·exact x a u r
 ·obtain⟨_,q⟩:=x a _ r;exact q
def CI:Option HO->Prop
 | some (.lst _)=>True
 | some (.dK _)=>True
 | some (.dT _)=>True
 | some (.set _ _)=>True
 | some (.ins _ _ _)=>True
 | some (.ext _)=>True
 | _=>False
section
variable {P:Program}{w:World}{H:Hp}{h h':Heap}{x e:Addr}{o':HO}
theorem dR.write (ok:dR P w H h)(mu:CI (H x))(he:e=x\/H e=some (.own x))(k:∀ b u,b≠e->h.get? b=some u->h'.get? b=some u)(heo:∃ u,h'.get? e=some u)
  (new:bh P w (a8 H x o') h' x o'):dR P w (a8 H x o') h':=fun b u q=>by
 have nown:∀ c y,H c=some (.own y)->c≠x:=fun c y r z=>by subst z;rw[r]at mu;exact mu
 have ntup:∀ c xs,H c=some (.tup xs)->c≠x:=fun c xs r z=>by subst z;rw[r]at mu;exact mu
 by_cases hb:b=x
 ·subst hb;rw[aB]at q;cases q;exact new
 ·rw[aw hb]at q
  by_cases hbe:b=e
  ·have q':H b=some (.own x):=by
    rcases he with z|z
    ·exact absurd (hbe.trans z) hb
    ·rw[hbe];exact z
   rw[q]at q';cases q'
   obtain⟨v,hv⟩:=heo;exact⟨v,by rw[hbe];exact hv⟩
  ·refine(ok b u q).stay (fun c v hc r=>k c v ?_ r) (fun c r=>by rw[aw (nown c b r)];exact r) fun c xs r=>by rw[aw (ntup c xs r)];exact r
   rcases hc with rfl|hc
   ·exact hbe
   ·rintro rfl
    rcases he with z|z
    ·exact nown c b hc z
    ·rw[hc]at z;cases z;exact hb rfl
end
structure Un (fs ex:List Addr) (H H':Hp) (h h':Heap):Prop where
 keep:∀ b o,h.get? b=some o->H b=none->b∉fs->b∉ex->h'.get? b=some o
 slot:∀ b o,h.get? b=some o->H b=none->b∈fs->b∉ex->∃ sl,h'.get? b=some {o with slots:=sl}
 free:∀ b o,h.get? b=some o->H b=none->b∉ex->H' b=none
 there:∀ b o,h.get? b=some o->b∉ex->∃ o',h'.get? b=some o'
 tups:∀ b xs,H b=some (.tup xs)->H' b=some (.tup xs)
 frzs:∀ b o u,H b=some (.frz o u)->H' b=some (.frz o u)
 tbls:∀ b ps,H b=some (.tbl ps)->∃ more,H' b=some (.tbl (ps++more))
section
variable {fs fs' ex ex':List Addr}{H H1 H2:Hp}{h h1 h2 h':Heap}{a x e:Addr}{o:HO}
theorem Un.any (u:Un fs ex H H1 h h1){b:Addr}{ob:Obj}(q:h.get? b=some ob)(n:H b=none)(hx:b∉ex):∃ sl,h1.get? b=some {ob with slots:=sl}:=by
 by_cases hb:b∈fs
 ·exact u.slot b ob q n hb hx
 ·exact⟨ob.slots,u.keep b ob q n hb hx⟩
theorem Un.trans (a:Un fs ex H H1 h h1)(b:Un fs ex H1 H2 h1 h2):Un fs ex H H2 h h2 where
 keep:=fun c ob q n hc hx=>b.keep c ob (a.keep c ob q n hc hx) (a.free c ob q n hx) hc hx
 slot:=fun c ob q n hc hx=>by
  obtain⟨sl,e1⟩:=a.slot c ob q n hc hx;obtain⟨sl',e2⟩:=b.slot c _ e1 (a.free c ob q n hx) hc hx;exact⟨sl',e2⟩
 free:=fun c ob q n hx=>by
  obtain⟨o',e1⟩:=a.there c ob q hx;exact b.free c o' e1 (a.free c ob q n hx) hx
 there:=fun c ob q hx=>by
  obtain⟨o',e1⟩:=a.there c ob q hx;exact b.there c o' e1 hx
 tups:=fun c xs q=>b.tups c xs (a.tups c xs q)
 frzs:=fun c ob xs q=>b.frzs c ob xs (a.frzs c ob xs q)
 tbls:=fun c ps q=>by
  obtain⟨m1,e1⟩:=a.tbls c ps q;obtain⟨m2,e2⟩:=b.tbls c _ e1;exact⟨m1++m2,by rw[e2,Array.append_assoc]⟩
theorem Un.kept (k:∀ b u,h.get? b=some u->h'.get? b=some u):Un fs ex H H h h':=
 ⟨fun b ob q _ _ _=>k b ob q,fun b ob q _ _ _=>⟨ob.slots,k b ob q⟩,fun _ _ _ n _=>n,fun b ob q _=>⟨ob,k b ob q⟩,fun _ _ q=>q,fun _ _ _ q=>q,fun _ ps q=>⟨#[],by rw[q];simp⟩⟩
theorem Un.refl:Un fs ex H H h h:=Un.kept fun _ _ q=>q
theorem Un.laid (k:∀ b u,h.get? b=some u->h'.get? b=some u)(hp:h.objs.size<=a)(hn:H a=none):Un fs ex H (a8 H a o) h h' where
 keep:=fun b u q _ _ _=>k b u q
 slot:=fun b u q _ _ _=>⟨u.slots,k b u q⟩
 free:=fun b u q n _=>by rw[aw (Nat.ne_of_lt (Nat.lt_of_lt_of_le (Heap.lt_size q) hp))];exact n
 there:=fun b u q _=>⟨u,k b u q⟩
 tups:=fun b xs q=>by rw[aw (bo q hn)];exact q
 frzs:=fun b u xs q=>by rw[aw (bo q hn)];exact q
 tbls:=fun b ps q=>⟨#[],by rw[aw (bo q hn),q];simp⟩
theorem Un.write (mu:CI (H x))(he:e=x\/H e=some (.own x))(k:∀ b u,b≠e->h.get? b=some u->h'.get? b=some u)(heo:∃ u,h'.get? e=some u):Un fs ex H (a8 H x o) h h':=by
 have hx:∀ b,H b=none->b≠x:=fun b n z=>by subst z;rw[n]at mu;exact mu
 have hb:∀ b,H b=none->b≠e:=fun b n z=>by
  subst z
  rcases he with r|r
  ·exact hx b n r
  ·rw[n]at r;cases r
 have hm:∀ b u,H b=some u->¬ CI (some u)->b≠x:=fun b u q nm z=>by subst z;rw[q]at mu;exact nm mu
 refine⟨fun b u q n _ _=>k b u (hb b n) q,fun b u q n _ _=>⟨u.slots,k b u (hb b n) q⟩,fun b u q n _=>by rw[aw (hx b n)];exact n,fun b u q _=>?_,
  fun b xs q=>by rw[aw (hm b _ q fun z=>z)];exact q,fun b u xs q=>by rw[aw (hm b _ q fun z=>z)];exact q,fun b ps q=>⟨#[],by rw[aw (hm b _ q fun z=>z),q];simp⟩⟩
 by_cases hbe:b=e
 ·subst hbe;exact heo
 ·exact⟨u,k b u hbe q⟩
theorem Un.mono (u:Un fs ex H H1 h h1)(hs:∀ b∈fs,b∈fs')(hx:∀ b∈ex,b∈ex'):Un fs' ex' H H1 h h1:=
 ⟨fun b ob q n hb he=>u.keep b ob q n (fun z=>hb (hs b z)) fun z=>he (hx b z),fun _ _ q n _ he=>u.any q n fun z=>he (hx _ z),fun b ob q n he=>u.free b ob q n fun z=>he (hx b z),fun b ob q he=>u.there b ob q fun z=>he (hx b z),u.tups,u.frzs,u.tbls⟩
end
def E1 (h:Heap)(H:Hp):List Addr:=(List.range h.objs.size).filter fun a=>(H a).isSome
def kK (h:Heap)(H:Hp):Heap:=PySem.W.hideAll h (E1 h H)
theorem qC (h:Heap)(H:Hp):(kK h H).objs.size=h.objs.size:=PySem.W.hideAll_size _ _
theorem ui {h:Heap}{H:Hp}{b:Addr}{o:Obj}(e:h.get? b=some o)(n:H b=none):(kK h H).get? b=some o:=
 PySem.W.hideAll_get _ e fun hm=>by
  have q:(H b).isSome=true:=(List.mem_filter.mp hm).2;rw[n]at q;simp at q
theorem x5 {h:Heap}{H:Hp}{b:Addr}{o:Obj}(e:(kK h H).get? b=some o):h.get? b=some o/\H b=none:=by
 have e':h.get? b=some o:=PySem.W.of_hideAll (E1 h H) e;refine⟨e',?_⟩
 cases q:H b with
 | none=>rfl
 | some x=>
  have hm:b∈E1 h H:=List.mem_filter.mpr ⟨List.mem_range.mpr (Heap.lt_size e'),by simp[q]⟩
  have z:(kK h H).get? b=none:=PySem.W.hideAll_none (E1 h H) hm;rw[z]at e;cases e
def xa (g h:Heap)(L:Addr):List (Addr × Obj):=(List.range h.objs.size).filterMap fun a=>if a=L\/(g.get? a).isSome=true then none else (h.get? a).map fun o=>(a,o)
def rest (g h:Heap)(L d:Addr):List (Addr × Obj):=(xa g h L).filter fun p=>decide (p.1≠d)
end L2
namespace L2
open PySem PySem.Spec PyProof.Rows
structure Mod (K:PySem.W.Frag) (mg:Str->Option Value) (base:Heap):Prop where
 kin:K.In base
 glob:base.Ns mainGlobals mg
 blt:∃ mb,base.Ns builtinsNs mb/\∀ x:Str,x≠"__name__"->mb x=bootBuiltins x
 nolimit:base.NoLimit
structure Cx where
 prog:Program
 w:World
 K:PySem.W.Frag
 mg:Str->Option Value
 base:Heap
 A:Around
 N:List Str
 s₀:Shared
 H₀:Hp
 env:Env
 outer:List Env
 stack:List Env
 ex:List Addr
 fn:Str->Bool
 calm:Bool
 pn:List (Addr × Obj)
 xe:Value->Shared->Prop
def nz (l:List Env):List Addr:=l.filterMap (·.frame)
abbrev Cx.fs (X:Cx):List Addr:=nz X.outer
def EQ (sc:Scope)(x:Str):Prop:=sc.names.lookup x=some .local\/sc.names.lookup x=some .cell\/sc.names.lookup x=some .free
def Loc (sc:Scope)(x:Str):Prop:=sc.names.lookup x=some .local\/sc.names.lookup x=some .cell
def Look (env:Env)(h:Heap)(m:Str->Option Value)(x:Str)(u:Value):Prop:=
 (env.kindOf x=some .local/\m x=some u)\/((env.kindOf x=some .cell\/env.kindOf x=some .free)/\∃ c,env.cells.lookup x=some c/\h.IsCell c (some u))
structure Cx.Ok (X:Cx):Prop where
 mod:Mod X.K X.mg X.base
 kind:X.env.scope.kind=.function
 glob:X.env.globals=mainGlobals
 blt:X.env.builtins=builtinsNs
 above:X.s₀.heap.objs.size<=X.env.locals
 inj:∀ x y c,X.env.cells.lookup x=some c->X.env.cells.lookup y=some c->x=y
 has:∀ x,(X.env.kindOf x=some .cell\/X.env.kindOf x=some .free)->∃ c,X.env.cells.lookup x=some c
 cab:∀ x c,X.fn x=true->X.env.cells.lookup x=some c->X.s₀.heap.objs.size<=c
 hd:X.calm=true->X.A.handled=none
 frames:X.A.frames=some X.stack
 stk:X.stack=X.outer\/(X.stack=X.env::X.outer/\X.env.frame=some X.env.locals)
 exf:∀ b∈X.ex,b≠X.env.locals/\∀ x c,X.env.cells.lookup x=some c->c≠b
 bs:∀ b o,X.base.get? b=some o->X.s₀.heap.get? b=some o/\X.H₀ b=none
 bsz:X.base.objs.size<=X.s₀.heap.objs.size
 noex:∀ b o,X.base.get? b=some o->b∉X.ex
 exfs:∀ b∈X.ex,b∉X.fs
 funs:X.s₀.heap.FunFrames X.base X.outer
 frf:∀ b∈X.fs,X.H₀ b=none
structure ay (X:Cx) (pins:List (Addr × Obj)) (σ:List (Option V)) (H:Hp) (s:Shared):Prop where
 ok:X.Ok
 os:s.os=X.s₀.os
 bare:AllBare s.gens
 base:Un X.fs X.ex X.H₀ H X.s₀.heap s.heap
 loc:∃ m,s.heap.Ns X.env.locals m/\∀ (i:Nat) (x:Str) (v:V),X.N[i]?=some x->σ[i]?=some (some v)->EQ X.env.scope x->∃ u,RelV v u/\Look X.env s.heap m x u
 cell:∀ x c,X.env.cells.lookup x=some c->∃ v,s.heap.IsCell c v
 free:H X.env.locals=none
 freeC:∀ x c,X.env.cells.lookup x=some c->H c=none
 pin:∀ p∈X.pn++pins,s.heap.get? p.1=some p.2/\H p.1=none/\p.1≠X.env.locals/\p.1∉X.fs/\∀ v,p.2.data≠.cell v
 hok:dR X.prog X.w H s.heap
 len:σ.length=X.N.length
section
variable {X:Cx}{pins:List (Addr × Obj)}{σ:List (Option V)}{H H':Hp}{s:Shared}{h':Heap}
theorem Cx.Ok.nofr (ok:X.Ok){b:Addr}{o:Obj}(e:X.base.get? b=some o):b∉X.fs:=fun hb=>by
 have:=(ok.funs.mem hb).1;rw[e]at this;cases this
theorem ay.bs (I:ay X pins σ H s):∀ b o,X.base.get? b=some o->s.heap.get? b=some o/\H b=none:=fun b o e=>
 ⟨I.base.keep b o (I.ok.bs b o e).1 (I.ok.bs b o e).2 (I.ok.nofr e) (I.ok.noex b o e),I.base.free b o (I.ok.bs b o e).1 (I.ok.bs b o e).2 (I.ok.noex b o e)⟩
theorem ay.bk (I:ay X pins σ H s):∀ b o,X.base.get? b=some o->s.heap.get? b=some o:=fun b o e=>(I.bs b o e).1
theorem ay.mod (I:ay X pins σ H s):Mod X.K X.mg X.base:=I.ok.mod
theorem ay.kIn (I:ay X pins σ H s):X.K.In s.heap:=I.ok.mod.kin.keeps I.bk
theorem ay.nolimit (I:ay X pins σ H s):s.heap.NoLimit:=I.ok.mod.nolimit.keeps I.bk
theorem ay.fr (I:ay X pins σ H s):∃ m,Fr X.base X.env.locals s.heap m:=
 let ⟨m,hn,_⟩:=I.loc
 ⟨m,hn,I.bk,Nat.le_trans I.ok.bsz I.ok.above⟩
theorem ay.lt (I:ay X pins σ H s):X.env.locals<s.heap.objs.size:=let ⟨_,hn,_⟩:=I.loc;hn.lt
theorem ay.sz (I:ay X pins σ H s):X.s₀.heap.objs.size<=s.heap.objs.size:=Nat.le_trans I.ok.above (Nat.le_of_lt I.lt)
theorem ay.nofs (I:ay X pins σ H s){a:Addr}(h:s.heap.objs.size<=a):a∉X.fs:=fun hb=>by
 obtain⟨_,o,ho,_⟩:=I.ok.funs.mem hb;exact absurd (Nat.lt_of_lt_of_le (Heap.lt_size ho) (Nat.le_trans I.sz h)) (Nat.lt_irrefl _)
theorem ay.cne (I:ay X pins σ H s):∀ x c,X.env.cells.lookup x=some c->c≠X.env.locals:=fun x c e z=>by
 obtain⟨v,o,ho,hd⟩:=I.cell x c e;obtain⟨m,⟨o',es,ep,ho',hd',_⟩,_⟩:=I.loc;rw[z,ho']at ho;cases ho;rw[hd']at hd;cases hd
theorem ay.funs (I:ay X pins σ H s):s.heap.FunFrames X.base X.outer:=by
 have all:∀ (l:List Env),(∀ b∈nz l,b∈X.fs)->X.s₀.heap.FunFrames X.base l->s.heap.FunFrames X.base l:=by
  intro l
  induction l with
  | nil=>intro _ _;trivial
  | cons env r ih=>
   intro hs hl;obtain⟨hk,⟨L,o,hf,hn,ho,hd⟩,hr⟩:=hl;have hL:L∈X.fs:=hs L (by unfold nz;rw[List.filterMap_cons,hf];exact List.mem_cons_self)
   obtain⟨sl,e⟩:=I.base.slot L o ho (I.ok.frf L hL) hL fun z=>I.ok.exfs L z hL;exact⟨hk,⟨L,_,hf,hn,e,hd⟩,ih (fun b hb=>hs b (by unfold nz;rw[List.filterMap_cons,hf];exact List.mem_cons_of_mem _ hb)) hr⟩
 exact all X.outer (fun _ hb=>hb) I.ok.funs
theorem ay.stack (I:ay X pins σ H s):s.heap.FunFrames X.base X.stack:=by
 rcases I.ok.stk with e|⟨e,hf⟩
 ·rw[e];exact I.funs
 ·rw[e];obtain⟨m,hn,_⟩:=I.loc;refine .cons (by rw[I.ok.kind];decide) hf hn ?_ I.funs
  exact Heap.get?_none_of_le (Nat.le_trans I.ok.bsz I.ok.above)
theorem ay.stkSub (I:ay X pins σ H s):∀ b∈nz X.stack,b∈X.env.locals::X.fs:=fun b hb=>by
 rcases I.ok.stk with e|⟨e,hf⟩
 ·rw[e]at hb;exact List.mem_cons_of_mem _ hb
 ·rw[e]at hb;unfold nz at hb;rw[List.filterMap_cons,hf]at hb;exact hb
theorem ay.stkFree (I:ay X pins σ H s):∀ b∈nz X.stack,H b=none:=fun b hb=>by
 rcases List.mem_cons.mp (I.stkSub b hb) with e|hb
 ·rw[e];exact I.free
 ·obtain⟨_,o,ho,_⟩:=I.ok.funs.mem hb;exact I.base.free b o ho (I.ok.frf b hb) fun z=>I.ok.exfs b z hb
theorem ay.step {g':Array GenState}{t':Nat}{d':Drawn}{ch:List Addr}(I:ay X pins σ H s)
  (hch:∀ b∈ch,(b∈X.ex\/X.s₀.heap.objs.size<=b)/\b≠X.env.locals/\(∀ x c,X.env.cells.lookup x=some c->c≠b)/\∀ p∈X.pn++pins,p.1≠b)
  (keep:∀ b o,b≠X.env.locals->b∉X.fs->b∉ch->s.heap.get? b=some o->H b=none->h'.get? b=some o)
  (slot:∀ b o,b≠X.env.locals->b∈X.fs->b∉ch->s.heap.get? b=some o->H b=none->∃ sl,h'.get? b=some {o with slots:=sl}) (free:∀ b o,b∉ch->s.heap.get? b=some o->H b=none->H' b=none)
  (there:∀ b o,b∉ch->s.heap.get? b=some o->∃ o',h'.get? b=some o')
  (tups:∀ b xs,H b=some (.tup xs)->H' b=some (.tup xs)) (frzs:∀ b o u,H b=some (.frz o u)->H' b=some (.frz o u)) (tbls:∀ b ps,H b=some (.tbl ps)->∃ more,H' b=some (.tbl (ps++more)))
  (ns:∀ m,s.heap.Ns X.env.locals m->h'.Ns X.env.locals m) (hok:dR X.prog X.w H' h') (hg:AllBare g') :
  ay X pins σ H' {s with heap:=h',gens:=g',drawn:=d',toks:=t'}:=by
 have neL:∀ b o,X.s₀.heap.get? b=some o->b≠X.env.locals:=fun b o e=>Nat.ne_of_lt (Nat.lt_of_lt_of_le (Heap.lt_size e) I.ok.above);have neC:∀ b o,X.s₀.heap.get? b=some o->b∉X.ex->b∉ch:=fun b o e hx hb=>by
  rcases(hch b hb).1 with z|z
  ·exact hx z
  ·exact absurd (Nat.lt_of_lt_of_le (Heap.lt_size e) z) (Nat.lt_irrefl _)
 have cellK:∀ x c,X.env.cells.lookup x=some c->∀ v,s.heap.IsCell c v->h'.IsCell c v:=fun x c e v ⟨o,ho,hd⟩=>by
  have nch:c∉ch:=fun z=>(hch c z).2.2.1 x c e rfl
  by_cases hc:c∈X.fs
  ·obtain⟨sl,q⟩:=slot c o (I.cne x c e) hc nch ho (I.freeC x c e);exact⟨_,q,hd⟩
  ·exact⟨o,keep c o (I.cne x c e) hc nch ho (I.freeC x c e),hd⟩
 refine⟨I.ok,I.os,hg,⟨fun b o e n hb hx=>?_,fun b o e n hb hx=>?_,fun b o e n hx=>?_,fun b o e hx=>?_,fun b xs e=>tups b xs (I.base.tups b xs e),fun b o xs e=>frzs b o xs (I.base.frzs b o xs e),fun b ps e=>?_⟩,?_,fun x c e=>?_,?_,fun x c e=>?_,fun p hp=>?_,hok,I.len⟩
 ·exact keep b o (neL b o e) hb (neC b o e hx) (I.base.keep b o e n hb hx) (I.base.free b o e n hx)
 ·obtain⟨sl,e1⟩:=I.base.slot b o e n hb hx;obtain⟨sl',e2⟩:=slot b _ (neL b o e) hb (neC b o e hx) e1 (I.base.free b o e n hx);exact⟨sl',e2⟩
 ·obtain⟨o',e1⟩:=I.base.there b o e hx;exact free b o' (neC b o e hx) e1 (I.base.free b o e n hx)
 ·obtain⟨o',e1⟩:=I.base.there b o e hx;exact there b o' (neC b o e hx) e1
 ·obtain⟨m1,e1⟩:=I.base.tbls b ps e;obtain⟨m2,e2⟩:=tbls b _ e1;exact⟨m1++m2,by rw[e2,Array.append_assoc]⟩
 ·obtain⟨m,hn,hl⟩:=I.loc;refine⟨m,ns m hn,fun i x v e1 e2 e3=>?_⟩;obtain⟨u,r,l⟩:=hl i x v e1 e2 e3;refine⟨u,r,?_⟩
  rcases l with l|⟨k,c,e,z⟩
  ·exact .inl l
  ·exact .inr ⟨k,c,e,cellK x c e _ z⟩
 ·obtain⟨v,z⟩:=I.cell x c e;exact⟨v,cellK x c e v z⟩
 ·obtain⟨m,⟨o,_,_,ho,_⟩,_⟩:=I.loc;exact free _ o (fun z=>(hch _ z).2.1 rfl) ho I.free
 ·obtain⟨v,o,ho,hd⟩:=I.cell x c e;exact free c o (fun z=>(hch c z).2.2.1 x c e rfl) ho (I.freeC x c e)
 ·obtain⟨e,n,ne,nf,d⟩:=I.pin p hp;have nch:p.1∉ch:=fun z=>(hch p.1 z).2.2.2 p hp rfl;exact⟨keep p.1 p.2 ne nf nch e n,free p.1 p.2 nch e n,ne,nf,d⟩
theorem ay.un {t':Nat}(I:ay X pins σ H s)(u:Un X.fs [] H H' s.heap h')(hok:dR X.prog X.w H' h'):ay X pins σ H' {s with heap:=h',toks:=t'}:=by
 obtain⟨m,⟨o,es,ep,ho,r⟩,_⟩:=id I.loc;obtain⟨sl,hL⟩:=u.any ho I.free (by simp)
 exact I.step (g':=s.gens) (d':=s.drawn) (ch:=[]) (fun _ z=>nomatch z) (fun b o _ hb _ e n=>u.keep b o e n hb (by simp)) (fun b o _ hb _ e n=>u.slot b o e n hb (by simp)) (fun b o _ e n=>u.free b o e n (by simp)) (fun b o _ e=>u.there b o e (by simp)) u.tups u.frzs u.tbls (fun m' hm=>by
  obtain⟨o',es',ep',ho',r'⟩:=hm;rw[ho]at ho';cases ho'
  exact⟨_,es',ep',hL,r'⟩) hok I.bare
theorem ay.call {g':Array GenState}{t':Nat}{d':Drawn}{ch:List Addr}(I:ay X pins σ H s)(u:Un (nz X.stack) ch H H' s.heap h')(hok:dR X.prog X.w H' h')(hg:AllBare g')
  (hch:∀ b∈ch,(b∈X.ex\/X.s₀.heap.objs.size<=b)/\b≠X.env.locals/\(∀ x c,X.env.cells.lookup x=some c->c≠b)/\∀ p∈X.pn++pins,p.1≠b) :
  ay X pins σ H' {s with heap:=h',gens:=g',drawn:=d',toks:=t'}:=by
 obtain⟨m,⟨o,es,ep,ho,r⟩,_⟩:=id I.loc;obtain⟨sl,hL⟩:=u.any ho I.free fun z=>(hch _ z).2.1 rfl;exact I.step (ch:=ch) hch (fun b o hL hb hc e n=>u.keep b o e n (fun z=>(List.mem_cons.mp (I.stkSub b z)).elim hL hb) hc) (fun b o _ _ hc e n=>u.any e n hc) (fun b o hc e n=>u.free b o e n hc) (fun b o hc e=>u.there b o e hc) u.tups u.frzs u.tbls (fun m' hm=>by
  obtain⟨o',es',ep',ho',r'⟩:=hm;rw[ho]at ho';cases ho'
  exact⟨_,es',ep',hL,r'⟩) hok hg
theorem ay.turned {t':Nat}{it:Addr}(I:ay X pins σ H s)(k:∀ b o,b≠it->s.heap.get? b=some o->h'.get? b=some o)(hn:H it=none)(hL:it≠X.env.locals)
  (h1:it∈X.ex\/X.s₀.heap.objs.size<=it) (h2:∀ x c,X.env.cells.lookup x=some c->c≠it) (h3:∀ p∈X.pn++pins,p.1≠it):ay X pins σ H {s with heap:=h',toks:=t'}:=by
 have nit:∀ b u,H b=some u->b≠it:=fun b u e z=>by rw[z,hn]at e;cases e
 refine I.step (g':=s.gens) (d':=s.drawn) (ch:=[it]) (fun b hb=>?_) (fun b o _ _ hc e _=>k b o (fun z=>hc (by simp[z])) e) (fun b o _ _ hc e _=>⟨o.slots,k b o (fun z=>hc (by simp[z])) e⟩) (fun _ _ _ _ n=>n)
  (fun b o hc e=>⟨o,k b o (fun z=>hc (by simp[z])) e⟩) (fun _ _ e=>e) (fun _ _ _ e=>e) (fun b ps e=>⟨#[],by rw[e];simp⟩) (fun m hm=>?_) (fun b u e=>?_) I.bare
 ·have e:b=it:=by simpa using hb
  subst e;exact⟨h1,hL,h2,h3⟩
 ·obtain⟨o,es,ep,ho,r⟩:=hm;exact⟨o,es,ep,k _ o (Ne.symm hL) ho,r⟩
 ·refine(I.hok b u e).stay (fun c v hc q=>k c v ?_ q) (fun _ q=>q) fun _ _ q=>q
  rcases hc with z|z
  ·rw[z];exact nit b u e
  ·exact nit c _ z
theorem ay.tok (I:ay X pins σ H s)(t:Nat):ay X pins σ H {s with toks:=t}:=I.un (h':=s.heap) (t':=t) Un.refl I.hok
theorem ay.kept {t':Nat}(I:ay X pins σ H s)(k:∀ b u,s.heap.get? b=some u->h'.get? b=some u):ay X pins σ H {s with heap:=h',toks:=t'}:=I.un (Un.kept k) (I.hok.kept k)
theorem ay.laid {a:Addr}{o:HO}{t':Nat}(I:ay X pins σ H s)(k:∀ b u,s.heap.get? b=some u->h'.get? b=some u)(hp:s.heap.objs.size<=a)(new:bh X.prog X.w (a8 H a o) h' a o) :
  ay X pins σ (a8 H a o) {s with heap:=h',toks:=t'}:=I.un (Un.laid k hp (I.hok.fresh hp)) (I.hok.laid k hp new)
theorem ay.write {x e:Addr}{o:HO}{t':Nat}(I:ay X pins σ H s)(mu:CI (H x))(he:e=x\/H e=some (.own x))(k:∀ b u,b≠e->s.heap.get? b=some u->h'.get? b=some u)(heo:∃ u,h'.get? e=some u)
  (new:bh X.prog X.w (a8 H x o) h' x o):ay X pins σ (a8 H x o) {s with heap:=h',toks:=t'}:=I.un (Un.write mu he k heo) (I.hok.write mu he k heo new)
theorem ay.weak {σ':List (Option V)}(I:ay X pins σ H s)(hl:σ'.length=σ.length)(w:∀ (i:Nat) v,σ'[i]?=some (some v)->σ[i]?=some (some v)):ay X pins σ' H s:=
 ⟨I.ok,I.os,I.bare,I.base,let ⟨m,hn,hl'⟩:=I.loc;⟨m,hn,fun i x v e1 e2 e3=>hl' i x v e1 (w i v e2) e3⟩,I.cell,I.free,I.freeC,I.pin,I.hok,hl.trans I.len⟩
theorem ay.pins_of {pins':List (Addr × Obj)}(I:ay X pins σ H s)(h:∀ p∈pins',s.heap.get? p.1=some p.2/\H p.1=none/\p.1≠X.env.locals/\p.1∉X.fs/\∀ v,p.2.data≠.cell v):ay X pins' σ H s:=
 ⟨I.ok,I.os,I.bare,I.base,I.loc,I.cell,I.free,I.freeC,fun p hp=>(List.mem_append.mp hp).elim (fun z=>I.pin p (List.mem_append_left _ z)) (h p),I.hok,I.len⟩
theorem mY {N:List Str}(hN:N.Nodup){i j:Nat}{x:Str}(a:N[i]?=some x)(b:N[j]?=some x):i=j:=by
 obtain⟨h1,e1⟩:=List.getElem?_eq_some_iff.mp a;obtain⟨h2,e2⟩:=List.getElem?_eq_some_iff.mp b;exact(List.getElem_inj hN).mp (e1.trans e2.symm)
theorem kg {M:Model}{A:Around}{E:Value->Shared->Prop}{i:Nat}{x:Str}{v:V}{u:Value}{Q:Unit->Shared->Prop}(I:ay X pins σ H s)(hN:X.N.Nodup)(hi:X.N[i]?=some x)(hx:Loc X.env.scope x)(r:RelV v u)
  (h:∀ s',ay X pins (σ.set i (some v)) H s'->(∃ a,Heap.SameBut a s.heap s'.heap/\(a=X.env.locals\/X.env.cells.lookup x=some a))->Q () s') (hf:X.fn x=true\/X.env.scope.names.lookup x=some .local:=by first|exact .inl rfl|exact .inr rfl|assumption):wpAny M A (storeName X.env x u) Q E s:=by
 obtain⟨m,hn,hl⟩:=id I.loc;have hcls:(X.env.scope.kind == .class || (X.env.scope.kind == .module && X.env.locals != X.env.globals))=false:=by rw[I.ok.kind];rfl
 have hiσ:i<σ.length:=by rw[I.len];exact(List.getElem?_eq_some_iff.mp hi).1
 have cne:=I.cne;have tracked:∀ {a:Addr}{h':Heap},(∃ o,s.heap.get? a=some o/\H a=none)->Heap.SameBut a s.heap h'->dR X.prog X.w H h':=fun {a h'} ha hs b ob e=>by
  obtain⟨_,_,hfree⟩:=ha;refine(I.hok b ob e).stay (fun c w' hc q=>(hs.2 c ?_).trans q) (fun _ q=>q) fun _ _ q=>q;rintro rfl
  rcases hc with rfl|hc
  ·rw[hfree]at e;cases e
  ·rw[hfree]at hc;cases hc
 rcases hx with hk|hk
 ·refine wpAny_storeName_local hk hn (fun h' hn' hs=>?_) hcls;obtain⟨oL,_,_,hoL,_⟩:=id hn;refine h _ ⟨I.ok,I.os,I.bare,⟨fun b o e n hb hx=>?_,fun b o e n hb hx=>?_,I.base.free,fun b o e hx=>?_,I.base.tups,I.base.frzs,I.base.tbls⟩,⟨_,hn',fun j y v' e1 e2 e3=>?_⟩,fun y c e=>?_,I.free,I.freeC,fun p hp=>?_,tracked ⟨oL,hoL,I.free⟩ hs,by simpa using I.len⟩ ⟨_,hs,.inl rfl⟩
  ·exact(hs.2 b (Nat.ne_of_lt (Nat.lt_of_lt_of_le (Heap.lt_size e) I.ok.above))).trans (I.base.keep b o e n hb hx)
  ·obtain⟨sl,e1⟩:=I.base.slot b o e n hb hx;exact⟨sl,(hs.2 b (Nat.ne_of_lt (Nat.lt_of_lt_of_le (Heap.lt_size e) I.ok.above))).trans e1⟩
  ·obtain⟨o',e1⟩:=I.base.there b o e hx;exact⟨o',(hs.2 b (Nat.ne_of_lt (Nat.lt_of_lt_of_le (Heap.lt_size e) I.ok.above))).trans e1⟩
  ·by_cases hj:j=i
   ·subst hj;rw[hi]at e1;cases e1
    rw[List.getElem?_set_self hiσ]at e2
    cases e2
    exact⟨u,r,.inl ⟨hk,by simp⟩⟩
   ·rw[List.getElem?_set_ne (Ne.symm hj)]at e2;obtain⟨u',r',q⟩:=hl j y v' e1 e2 e3;refine⟨u',r',?_⟩
    rcases q with ⟨k,e⟩|⟨k,c,e,z⟩
    ·refine .inl ⟨k,?_⟩;have:y≠x:=fun e=>hj (mY hN e1 (e ▸ hi));simp[this,e]
    ·exact .inr ⟨k,c,e,z.sameBut hs (cne y c e)⟩
  ·obtain⟨w',z⟩:=I.cell y c e;exact⟨w',z.sameBut hs (cne y c e)⟩
  ·obtain⟨e,n,ne,nf,d⟩:=I.pin p hp;exact⟨(hs.2 p.1 ne).trans e,n,ne,nf,d⟩
 ·have hfn:X.fn x=true:=by
   rcases hf with z|z
   ·exact z
   ·rw[z]at hk;cases hk
  obtain⟨c,hc⟩:=I.ok.has x (.inl hk);obtain⟨w',z⟩:=I.cell x c hc;refine wpAny_storeName_cell I.ok.kind hk hc z (fun h' hc' hs=>?_);obtain⟨oc,hoc,hocd⟩:=id z;refine h {s with heap:=h'} ⟨I.ok,I.os,I.bare,⟨fun b o e n hb hx=>?_,fun b o e n hb hx=>?_,I.base.free,fun b o e hx=>?_,I.base.tups,I.base.frzs,I.base.tbls⟩,⟨m,hn.sameBut hs (Ne.symm (cne x c hc)),fun j y v' e1 e2 e3=>?_⟩,fun y c' e=>?_,I.free,I.freeC,fun p hp=>?_,tracked ⟨oc,hoc,I.freeC x c hc⟩ hs,by simpa using I.len⟩ ⟨c,hs,.inr hc⟩
  ·exact(hs.2 b (Nat.ne_of_lt (Nat.lt_of_lt_of_le (Heap.lt_size e) (I.ok.cab x c hfn hc)))).trans (I.base.keep b o e n hb hx)
  ·obtain⟨sl,e1⟩:=I.base.slot b o e n hb hx;exact⟨sl,(hs.2 b (Nat.ne_of_lt (Nat.lt_of_lt_of_le (Heap.lt_size e) (I.ok.cab x c hfn hc)))).trans e1⟩
  ·obtain⟨o',e1⟩:=I.base.there b o e hx;exact⟨o',(hs.2 b (Nat.ne_of_lt (Nat.lt_of_lt_of_le (Heap.lt_size e) (I.ok.cab x c hfn hc)))).trans e1⟩
  ·by_cases hj:j=i
   ·subst hj;rw[hi]at e1;cases e1
    rw[List.getElem?_set_self hiσ]at e2
    cases e2
    exact⟨u,r,.inr ⟨.inl hk,c,hc,hc'⟩⟩
   ·rw[List.getElem?_set_ne (Ne.symm hj)]at e2;obtain⟨u',r',q⟩:=hl j y v' e1 e2 e3;refine⟨u',r',?_⟩
    rcases q with q|⟨k,c',e,z'⟩
    ·exact .inl q
    ·refine .inr ⟨k,c',e,z'.sameBut hs ?_⟩;rintro rfl;exact hj (mY hN e1 (I.ok.inj _ _ _ e hc ▸ hi))
  ·by_cases hcc:c'=c
   ·subst hcc;exact⟨_,hc'⟩
   ·obtain⟨w2,z2⟩:=I.cell y c' e;exact⟨w2,z2.sameBut hs hcc⟩
  ·obtain⟨e,n,ne,nf,d⟩:=I.pin p hp;refine⟨(hs.2 p.1 ?_).trans e,n,ne,nf,d⟩;intro q;rw[q,hoc]at e;have q':oc=p.2:=Option.some.inj e;exact d w' (by rw[<-q'];exact hocd)
theorem fV {M:Model}{A:Around}{E:Value->Shared->Prop}{i:Nat}{x:Str}{v:V}{u:Value}{Q:Unit->Shared->Prop}(I:ay X pins σ H s)(hN:X.N.Nodup)(hi:X.N[i]?=some x)(hx:Loc X.env.scope x)(r:RelV v u)
  (h:∀ s',ay X pins (σ.set i (some v)) H s'->Q () s') (hf:X.fn x=true\/X.env.scope.names.lookup x=some .local:=by first|exact .inl rfl|exact .inr rfl|assumption):wpAny M A (storeName X.env x u) Q E s:=
 kg I hN hi hx r (fun s' I' _=>h s' I') hf
end
abbrev XK:=Value->Option Addr->Hp->Prop
abbrev St:=List (Option V)
abbrev VK:=V->Hp->Prop
abbrev TE:=St->Hp->VK->Prop
abbrev TT:=St->Hp->(Bool->Hp->Prop)->Prop
abbrev TA:=St->Hp->(List V->Hp->Prop)->Prop
structure Ends where
 nx:St->Hp->Prop
 rt:VK
 bk:St->Hp->Prop:=fun _ _=>False
 ct:St->Hp->Prop:=fun _ _=>False
abbrev TS:=Ends->St->Hp->Prop
def EP (X:Cx)(pins:List (Addr × Obj))(σ:St)(Q:VK)(u:Value)(s':Shared):Prop:=∃ v H',ay X pins σ H' s'/\RelV v u/\Q v H'
def TP (X:Cx)(pins:List (Addr × Obj))(σ:St)(Q:Bool->Hp->Prop)(b:Bool)(s':Shared):Prop:=∃ H',ay X pins σ H' s'/\Q b H'
def AP (X:Cx)(pins:List (Addr × Obj))(σ:St)(Q:List V->Hp->Prop)(us:List Value)(s':Shared):Prop:=∃ vs H',ay X pins σ H' s'/\aA vs us/\Q vs H'
def SP (X:Cx)(pins:List (Addr × Obj))(D:Ends)(f:Flow)(s':Shared):Prop:=
 match f with
 | .next=>∃ σ' H',ay X pins σ' H' s'/\D.nx σ' H'
 | .brk=>∃ σ' H',ay X pins σ' H' s'/\D.bk σ' H'
 | .cont=>∃ σ' H',ay X pins σ' H' s'/\D.ct σ' H'
 | .ret u=>∃ v σ' H',ay X pins σ' H' s'/\RelV v u/\D.rt v H'
def PE (X:Cx)(e:Expr)(t:TE):Prop:=
 ∀ (pins:List (Addr × Obj)) (s:Shared) (σ:St) (H:Hp) (Q:VK),ay X pins σ H s->t σ H Q->wpAny (model X.prog X.w) X.A (eval e X.env) (EP X pins σ Q) X.xe s
def PT (X:Cx)(e:Expr)(t:TT):Prop:=
 ∀ (pins:List (Addr × Obj)) (s:Shared) (σ:St) (H:Hp) (Q:Bool->Hp->Prop),ay X pins σ H s->t σ H Q->wpAny (model X.prog X.w) X.A (isTrue e X.env (eval e X.env)) (TP X pins σ Q) X.xe s
def PW (X:Cx)(e:Expr)(t:TT):Prop:=
 ∀ (whole:Sem Value) (pins:List (Addr × Obj)) (s:Shared) (σ:St) (H:Hp) (Q:Bool->Hp->Prop),ay X pins σ H s->t σ H Q->wpAny (model X.prog X.w) X.A (isTrue e X.env whole) (TP X pins σ Q) X.xe s
theorem PW.pt {X:Cx}{e:Expr}{t:TT}(h:PW X e t):PT X e t:=h _
def PA (X:Cx)(es:List Expr)(t:TA):Prop:=
 ∀ (pos:Pos) (pins:List (Addr × Obj)) (s:Shared) (σ:St) (H:Hp) (Q:List V->Hp->Prop),ay X pins σ H s->t σ H Q->wpAny (model X.prog X.w) X.A (spliced (backTo pos (starEach es X.env))) (AP X pins σ Q) X.xe s
def PS (X:Cx)(st:Stmt)(t:TS):Prop:=
 ∀ (pins:List (Addr × Obj)) (s:Shared) (σ:St) (H:Hp) (D:Ends),ay X pins σ H s->t D σ H->wpAny (model X.prog X.w) X.A (exec st X.env) (SP X pins D) X.xe s
def cy (X:Cx)(st:List Stmt)(t:TS):Prop:=
 ∀ (pins:List (Addr × Obj)) (s:Shared) (σ:St) (H:Hp) (D:Ends),ay X pins σ H s->t D σ H->wpAny (model X.prog X.w) X.A (execs st X.env) (SP X pins D) X.xe s
theorem bB {α:Type}{t:Sem α}{Q Q':α->Shared->Prop}{M:Model}{A:Around}{E:Value->Shared->Prop}{s:Shared}(h:wpAny M A t Q E s)(hQ:∀ a s,Q a s->Q' a s):wpAny M A t Q' E s:=wpAny_mono h hQ fun _ _ x=>x
end L2
namespace L2
open PySem PySem.Spec PyProof.Rows
section
variable {X:Cx}
def lJ (i:Nat):TE:=fun σ H Q=>∃ v,σ[i]?=some (some v)/\Q v H
def tC (v:V):TE:=fun _ H Q=>Q v H
theorem vJ {i:Nat}{x:Str}{pos:Pos} (hN:X.N[i]?=some x) (hv:EQ X.env.scope x) (hd:(x == ("__debug__":Str))=false:=by decide) (hcd:(x == ("__classdict__":Str))=false:=by decide):PE X (.Name x pos) (lJ i):=by
 intro pins s σ H Q I h;obtain⟨v,e,h⟩:=h;obtain⟨m,hn,hl⟩:=I.loc;obtain⟨u,r,l⟩:=hl i x v hN e hv;have fin:EP X pins σ Q u s:=⟨v,H,I,r,h⟩
 rcases l with ⟨hk,hm⟩|⟨hk,c,hc,hcell⟩
 ·exact wpAny_Name (wpAny_loadName_local I.ok.kind hk hn hm fin) hd
 ·rcases hk with hk|hk
  ·exact wpAny_Name (wpAny_loadName_cell I.ok.kind hk hc hcell fin) hd
  ·exact wpAny_Name (wpAny_loadName_free I.ok.kind hk hc hcell fin hcd) hd
theorem BD {i j pos}:PE X (.Constant (.int i) j pos) (tC (.int i)):=fun _ _ _ H _ I h=>wpAny_Constant_int ⟨.int i,H,I.tok _,⟨_,rfl⟩,h⟩
theorem zv {b j pos}:PE X (.Constant (.bool b) j pos) (tC (.bl b)):=fun _ _ _ H _ I h=>Constant_bool ⟨.bl b,H,I,rfl,h⟩
def Gl (X:Cx)(x:Str):Prop:=X.env.kindOf x=some .globalImplicit
theorem xO {E:Value->Shared->Prop}{pins:List (Addr × Obj)}{s:Shared}{σ:St}{H:Hp}{x:Str}{u:Value}{pos:Pos}{Q:Value->Shared->Prop}(I:ay X pins σ H s)(hg:Gl X x)(hm:X.mg x=some u)(h:Q u s)
  (hd:(x == ("__debug__":Str))=false:=by decide):wpAny (model X.prog X.w) X.A (eval (.Name x pos) X.env) Q E s:=
 Calls.Name_function_global I.ok.kind hg (Calls.loadGlobal_global (by rw[I.ok.glob];exact I.mod.glob.keeps I.bk) hm h) hd
theorem fk {E:Value->Shared->Prop}{pins:List (Addr × Obj)}{s:Shared}{σ:St}{H:Hp}{x:Str}{u:Value}{pos:Pos}{Q:Value->Shared->Prop}(I:ay X pins σ H s)(hg:Gl X x)(hm:X.mg x=none)(hv:bootBuiltins x=some u)(h:Q u s)
  (hn:x≠"__name__":=by decide) (hd:(x == ("__debug__":Str))=false:=by decide):wpAny (model X.prog X.w) X.A (eval (.Name x pos) X.env) Q E s:=by
 obtain⟨mb,h1,h2⟩:=I.mod.blt;exact Calls.Name_function_global I.ok.kind hg (Calls.loadGlobal_builtin (by rw[I.ok.glob];exact I.mod.glob.keeps I.bk) hm (by rw[I.ok.blt];exact h1.keeps I.bk) ((h2 x hn).trans hv) h) hd
theorem yg {x:Str}{v:V}{u:Value}{pos:Pos} (hg:Gl X x) (hm:X.mg x=none) (hv:bootBuiltins x=some u) (r:RelV v u) (hn:x≠"__name__":=by decide) (hd:(x == ("__debug__":Str))=false:=by decide):PE X (.Name x pos) (tC v):=
 fun _ _ _ H _ I h=>fk I hg hm hv ⟨v,H,I,r,h⟩ hn hd
variable {a b:Expr}{ta tb:TE}{pos:Pos}
def tB (t:TE):TT:=fun σ H Q=>t σ H fun x H1=>∃ c,x=.bl c/\Q c H1
theorem BM {e:Expr}{t:TE}(h:PE X e t)(he:∀ whole,isTrue e X.env whole=(do let v ← whole;standAt e.pos;holding [v] (truthy v)):=by intro _;rfl):PT X e (tB t):=by
 intro pins s σ H Q I hw;refine isTrue_plain (bB (h pins s σ H _ I hw) fun v s1 ⟨x,H1,I1,r1,q1⟩=>?_) (he _);obtain⟨d,rfl,q⟩:=q1
 cases r1
 exact wpAny_truthy_bool ⟨H1,I1,q⟩
variable {tA tB':TT}{rest:List Expr}
def FP (t u:TT):TT:=fun σ H Q=>t σ H fun c H1=>if c=true then u σ H1 Q else Q false H1
def GQ (t u:TT):TT:=fun σ H Q=>t σ H fun c H1=>if c=true then Q true H1 else u σ H1 Q
def FV (t:TT):TT:=fun σ H Q=>t σ H fun c H1=>Q (!c) H1
theorem yG (ha:PT X a tA):PW X (.BoolOp .And [a] pos) tA:=by
 intro wh pins s σ H Q I h;refine isTrue_and (bB (ha pins s σ H Q I h) fun c s1 e=>?_)
 cases c with
 | true=>exact isTrue_and_nil e
 | false=>exact e
theorem BQ (ha:PT X a tA):PW X (.BoolOp .Or [a] pos) tA:=by
 intro wh pins s σ H Q I h;refine isTrue_or (bB (ha pins s σ H Q I h) fun c s1 e=>?_)
 cases c with
 | false=>exact isTrue_or_nil e
 | true=>exact e
theorem BP (ha:PT X a tA)(hb:PW X (.BoolOp .And (b::rest) pos) tB'):PW X (.BoolOp .And (a::b::rest) pos) (FP tA tB'):=by
 intro wh pins s σ H Q I h;refine isTrue_and (bB (ha pins s σ H _ I h) fun c s1 ⟨H1,I1,q1⟩=>?_)
 cases c with
 | true=>exact hb wh pins s1 σ H1 Q I1 q1
 | false=>exact⟨H1,I1,q1⟩
theorem Ec (ha:PT X a tA)(hb:PW X (.BoolOp .Or (b::rest) pos) tB'):PW X (.BoolOp .Or (a::b::rest) pos) (GQ tA tB'):=by
 intro wh pins s σ H Q I h;refine isTrue_or (bB (ha pins s σ H _ I h) fun c s1 ⟨H1,I1,q1⟩=>?_)
 cases c with
 | true=>exact⟨H1,I1,q1⟩
 | false=>exact hb wh pins s1 σ H1 Q I1 q1
theorem BL (ha:PT X a tA):PT X (.UnaryOp .Not a pos) (FV tA):=by
 intro pins s σ H Q I h;exact isTrue_not (ha pins s σ H (fun c H1=>Q (!c) H1) I h)
def El (ta tb:TE):TE:=fun σ H Q=>ta σ H fun x H1=>∃ c,x=.bl c/\if c=true then tb σ H1 Q else Q (.bl false) H1
def Ep (ta:TE):TE:=fun σ H Q=>ta σ H fun x H1=>∃ c,x=.bl c/\Q (.bl (!c)) H1
theorem BG {op}{t:TE}(h:PE X a t):PE X (.BoolOp op [a] pos) t:=fun pins s σ H Q I hw=>BoolOp_one (h pins s σ H Q I hw)
theorem BC (ha:PE X a ta)(hb:PE X (.BoolOp .And (b::rest) pos) tb):PE X (.BoolOp .And (a::b::rest) pos) (El ta tb):=by
 intro pins s σ H Q I h;refine BoolOp_and (bB (ha pins s σ H _ I h) fun v s1 ⟨x,H1,I1,r1,q1⟩=>?_);obtain⟨c,rfl,q1⟩:=q1
 cases r1
 refine wpAny_truthy_bool ?_
 cases c with
 | true=>exact hb pins s1 σ H1 Q I1 q1
 | false=>exact⟨.bl false,H1,I1,rfl,q1⟩
theorem BF (ha:PE X a ta):PE X (.UnaryOp .Not a pos) (Ep ta):=by
 intro pins s σ H Q I h;refine UnaryOp_ (bB (ha pins s σ H _ I h) fun v s1 ⟨x,H1,I1,r1,q1⟩=>?_);obtain⟨c,rfl,q1⟩:=q1
 cases r1
 exact not_of (wpAny_truthy_bool ⟨.bl (!c),H1,I1,rfl,q1⟩)
end
end L2
namespace L2
open PySem PySem.Spec PyProof.Rows
def ca (K:PySem.W.Frag)(H:Hp)(a:Addr)(xs:List V):Prop:=
 Rd H a (.lst xs) ∨
  ∃ (o:Obj) (its:Array Value) (n:Nat),K.lookup a=some o/\o.cls=.type "list"/\o.dict=none/\o.data=.seq its n/\its.size<=sizeLine/\aA xs its.toList
def dy (K:PySem.W.Frag)(H:Hp)(a:Addr)(xs:List V):Prop:=
 Rd H a (.tup xs) ∨
  ∃ (o:Obj) (its:Array Value) (n:Nat),K.lookup a=some o/\o.cls=.type "tuple"/\o.data=.seq its n/\its.size<=sizeLine/\aA xs its.toList
def Fs:Value->Option V
 | .none=>some .non
 | .bool b=>some (.bl b)
 | .int i _=>some (.int i)
 | .str x _=>some (.str x)
 | .bytes b _=>some (.byt b)
 | .float b _=>some (.flt b)
 | .ref a=>some (.ref a)
 | .type n=>some (.ty n)
 | _=>none
theorem RelV.abs {x:V}{u:Value}(r:RelV x u):Fs u=some x:=by
 cases x with
 | non=>cases r;rfl
 | bl _=>cases r;rfl
 | int _=>obtain⟨t,rfl⟩:=r;rfl
 | str _=>obtain⟨t,rfl⟩:=r;rfl
 | byt _=>obtain⟨t,rfl⟩:=r;rfl
 | flt _=>obtain⟨t,rfl⟩:=r;rfl
 | ref _=>cases r;rfl
 | ty _=>cases r;rfl
theorem RelV.inj {x y:V}{u:Value}(r:RelV x u)(q:RelV y u):x=y:=Option.some.inj (r.abs.symm.trans q.abs)
theorem aA.inj:∀ {xs ys:List V}{us:List Value},aA xs us->aA ys us->xs=ys
 | _,_,_,.nil,.nil=>rfl
 | _,_,_,.cons r t,.cons r' t'=>by rw[r.inj r',aA.inj t t']
section
variable {X:Cx}{pins:List (Addr × Obj)}{σ:St}{H:Hp}{s:Shared}{a:Addr}{xs ys:List V}
theorem ca.of {K:PySem.W.Frag}(h:H a=some (.lst xs)):ca K H a xs:=.inl (.inl h)
theorem dy.of {K:PySem.W.Frag}(h:H a=some (.tup xs)):dy K H a xs:=.inl (.inl h)
theorem ay.list (I:ay X pins σ H s)(h:ca X.K H a xs):∃ its:List Value,aA xs its/\PlainL s.heap a its.toArray/\xs.length<=sizeLine:=by
 rcases h with h|⟨o,its,n,hk,hc,hd,hs,hz,r⟩
 ·obtain⟨z,its,n,r,e⟩:=h.ok I.hok;exact⟨its,r,⟨_,n,e,rfl,rfl,rfl⟩,z⟩
 ·refine⟨its.toList,r,⟨o,n,I.kIn a o hk,hc,hd,by simpa using hs⟩,?_⟩
  have e:=r.length;simp only[Array.length_toList]at e;omega
theorem ay.tuple (I:ay X pins σ H s)(h:dy X.K H a xs):∃ its:List Value,aA xs its/\IsTup s.heap a its.toArray/\xs.length<=sizeLine:=by
 rcases h with h|⟨o,its,n,hk,hc,hs,hz,r⟩
 ·obtain⟨z,its,r,p⟩:=h.ok I.hok;exact⟨its,r,p,z⟩
 ·refine⟨its.toList,r,⟨o,I.kIn a o hk,hc,n,by simpa using hs⟩,?_⟩
  have e:=r.length;simp only[Array.length_toList]at e;omega
theorem ay.list_inj (I:ay X pins σ H s)(h:ca X.K H a xs)(h':ca X.K H a ys):xs=ys:=by
 obtain⟨its,r,⟨o,n,e,_,_,d⟩,_⟩:=I.list h;obtain⟨its',r',⟨o',n',e',_,_,d'⟩,_⟩:=I.list h';rw[e]at e';cases e'
 rw[d]at d'
 injection d' with d1 _
 have:its=its':=by simpa using congrArg Array.toList d1
 subst this;exact r.inj r'
theorem ay.tuple_inj (I:ay X pins σ H s)(h:dy X.K H a xs)(h':dy X.K H a ys):xs=ys:=by
 obtain⟨its,r,⟨o,e,_,n,d⟩,_⟩:=I.tuple h;obtain⟨its',r',⟨o',e',_,n',d'⟩,_⟩:=I.tuple h';rw[e]at e';cases e'
 rw[d]at d'
 injection d' with d1 _
 have:its=its':=by simpa using congrArg Array.toList d1
 subst this;exact r.inj r'
end
abbrev Cx.wish (X:Cx)(E:Value->Shared->Prop):Cx:={X with xe:=E}
abbrev Cx.nox (X:Cx):Cx:=X.wish fun _ _=>False
theorem Cx.Ok.wish {X:Cx}(ok:X.Ok)(E:Value->Shared->Prop):(X.wish E).Ok:=
 ⟨ok.mod,ok.kind,ok.glob,ok.blt,ok.above,ok.inj,ok.has,ok.cab,ok.hd,ok.frames,ok.stk,ok.exf,ok.bs,ok.bsz,ok.noex,ok.exfs,ok.funs,ok.frf⟩
theorem Cx.Ok.unwish {X:Cx}{E:Value->Shared->Prop}(ok:(X.wish E).Ok):X.Ok:=
 ⟨ok.mod,ok.kind,ok.glob,ok.blt,ok.above,ok.inj,ok.has,ok.cab,ok.hd,ok.frames,ok.stk,ok.exf,ok.bs,ok.bsz,ok.noex,ok.exfs,ok.funs,ok.frf⟩
section
variable {X:Cx}{pins:List (Addr × Obj)}{σ:St}{H:Hp}{s:Shared}{E:Value->Shared->Prop}
theorem ay.wish (I:ay X pins σ H s)(E:Value->Shared->Prop):ay (X.wish E) pins σ H s:=⟨I.ok.wish E,I.os,I.bare,I.base,I.loc,I.cell,I.free,I.freeC,I.pin,I.hok,I.len⟩
theorem ay.unwish (I:ay (X.wish E) pins σ H s):ay X pins σ H s:=⟨I.ok.unwish,I.os,I.bare,I.base,I.loc,I.cell,I.free,I.freeC,I.pin,I.hok,I.len⟩
theorem SP.unwish {D:Ends}{f:Flow}{s':Shared}(h:SP (X.wish E) pins D f s'):SP X pins D f s':=by
 cases f with
 | next=>obtain⟨σ',H',I,q⟩:=h;exact⟨σ',H',I.unwish,q⟩
 | brk=>obtain⟨σ',H',I,q⟩:=h;exact⟨σ',H',I.unwish,q⟩
 | cont=>obtain⟨σ',H',I,q⟩:=h;exact⟨σ',H',I.unwish,q⟩
 | ret u=>obtain⟨v,σ',H',I,r,q⟩:=h;exact⟨v,σ',H',I.unwish,r,q⟩
theorem PE.nox {e:Expr}{t:TE}(h:PE X.nox e t):PE X e t:=fun pins s σ H Q I hw=>
 wpAny_mono (h pins s σ H Q (I.wish _) hw) (fun _ _ ⟨v,H',I',r,q⟩=>⟨v,H',I'.unwish,r,q⟩) fun _ _ z=>False.elim z
theorem PT.nox {e:Expr}{t:TT}(h:PT X.nox e t):PT X e t:=fun pins s σ H Q I hw=>
 wpAny_mono (h pins s σ H Q (I.wish _) hw) (fun _ _ ⟨H',I',q⟩=>⟨H',I'.unwish,q⟩) fun _ _ z=>False.elim z
theorem cy.nox {st:List Stmt}{t:TS}(h:cy X.nox st t):cy X st t:=fun pins s σ H D I hw=>
 wpAny_mono (h pins s σ H D (I.wish _) hw) (fun _ _ q=>q.unwish) fun _ _ z=>False.elim z
end
section
variable {X:Cx}{st:Stmt}{rest:List Stmt}{t u:TS}{e:Expr}{te:TE}{pos:Pos}
def Eo:TS:=fun D σ H=>D.nx σ H
def FY (t u:TS):TS:=fun D σ H=>t {D with nx:=u D} σ H
theorem pL:cy X [] Eo:=fun _ _ σ H _ I h=>wpAny_execs_nil ⟨σ,H,I,h⟩
theorem cK (h1:PS X st t)(h2:cy X rest u):cy X (st::rest) (FY t u):=by
 intro pins s σ H D I h;refine wpAny_execs_cons (bB (h1 pins s σ H {D with nx:=u D} I h) fun f s1 q=>?_)
 cases f with
 | next=>
  obtain⟨σ',H',I',q⟩:=q;exact h2 pins s1 σ' H' D I' q
 | ret v=>exact q
 | brk=>exact q
 | cont=>exact q
theorem lH (h1:PS X st t):cy X [st] t:=by
 intro pins s σ H D I h;refine wpAny_execs_cons (bB (h1 pins s σ H D I h) fun f s1 q=>?_)
 cases f with
 | next=>exact wpAny_execs_nil q
 | ret v=>exact q
 | brk=>exact q
 | cont=>exact q
theorem ay.quiet {pins:List (Addr × Obj)}{σ:St}{H:Hp}{s:Shared}(I:ay X pins σ H s):interactive X.env=false:=by simp[interactive,I.ok.kind]
def En (te:TE):TS:=fun D σ H=>te σ H fun _ H1=>D.nx σ H1
theorem lG (he:PE X e te)(hs:swapsWith e none pos.line X.env=pure false:=by rfl):PS X (.Expr e pos) (En te):=by
 intro pins s σ H D I h;exact wpAny_Expr_any (bB (he pins s σ H _ I h) fun v s1 ⟨x,H1,I1,r1,q1⟩=>⟨σ,H1,I1,q1⟩) I.quiet hs
def FX (te:TE):TS:=fun D σ H=>te σ H D.rt
theorem oz (he:PE X e te):PS X (.Return (some e) pos) (FX te):=by
 intro pins s σ H D I h;exact wpAny_Return_some (bB (he pins s σ H _ I h) fun v s1 ⟨x,H1,I1,r1,q1⟩=>⟨x,σ,H1,I1,r1,q1⟩)
def FS (c:TT)(t u:TS):TS:=fun D σ H=>c σ H fun b H1=>if b=true then t D σ H1 else u D σ H1
theorem zz {c:Expr}{a b:List Stmt}{tc:TT}(hc:PT X c tc)(ha:cy X a t)(hb:cy X b u):PS X (.If c a b pos) (FS tc t u):=by
 intro pins s σ H D I h;refine wpAny_If (bB (hc pins s σ H _ I h) fun d s1 ⟨H1,I1,q1⟩=>?_)
 cases d with
 | true=>exact ha pins s1 σ H1 D I1 q1
 | false=>exact hb pins s1 σ H1 D I1 q1
def B8:TS:=fun _ _ _=>False
theorem vM:PS X st B8:=fun _ _ _ _ _ _ h=>h.elim
end
abbrev TG:=V->St->Hp->(St->Hp->Prop)->Prop
abbrev wI:=List V->St->Hp->(St->Hp->Prop)->Prop
def PG (X:Cx)(target:Expr)(t:TG):Prop:=
 ∀ (pins:List (Addr × Obj)) (s:Shared) (σ:St) (H:Hp) (v:V) (u:Value) (Q:St->Hp->Prop),ay X pins σ H s->RelV v u->t v σ H Q →
  wpAny (model X.prog X.w) X.A (assign target X.env u) (fun _ s'=>∃ σ' H',ay X pins σ' H' s'/\Q σ' H') X.xe s
def rF (X:Cx)(ts:List Expr)(t:wI):Prop:=
 ∀ (pins:List (Addr × Obj)) (s:Shared) (σ:St) (H:Hp) (vs:List V) (us:List Value) (Q:St->Hp->Prop),ay X pins σ H s->aA vs us->t vs σ H Q →
  wpAny (model X.prog X.w) X.A (assignInOrder ((assignEach ts X.env).map (·.2)) us) (fun _ s'=>∃ σ' H',ay X pins σ' H' s'/\Q σ' H') X.xe s
abbrev zS:=V->V->V->Hp->(Hp->Prop)->Prop
def CK (X:Cx)(t:zS):Prop:=
 ∀ (pins:List (Addr × Obj)) (s:Shared) (σ:St) (H:Hp) (o i v:V) (ov iv u:Value) (Q:Hp->Prop),ay X pins σ H s->RelV o ov->RelV i iv->RelV v u->t o i v H Q →
  wpAny (model X.prog X.w) X.A (setItem ov iv u) (fun _ s'=>∃ H',ay X pins σ H' s'/\Q H') X.xe s
section
variable {X:Cx}{pos:Pos}
def mx (i:Nat):TG:=fun v σ H Q=>Q (σ.set i (some v)) H
theorem dE {i:Nat}{x:Str}(hN:X.N.Nodup)(hi:X.N[i]?=some x)(hx:Loc X.env.scope x)(hf:X.fn x=true\/X.env.scope.names.lookup x=some .local:=by first|exact .inl rfl|exact .inr rfl|assumption):PG X (.Name x pos) (mx i):=by
 intro pins s σ H v u Q I r h;exact wpAny_assign_Name (fV I hN hi hx r (fun s' I'=>⟨_,H,I',h⟩) hf)
def DJ:wI:=fun vs σ H Q=>vs=[]/\Q σ H
def t8 (t:TG)(u:wI):wI:=fun vs σ H Q=>∃ v r,vs=v::r/\t v σ H fun σ' H'=>u r σ' H' Q
theorem h9:rF X [] DJ:=by
 intro pins s σ H vs us Q I r h;obtain⟨e,h⟩:=h;subst e
 cases r
 exact assignInOrder_nil ⟨σ,H,I,h⟩
theorem cJ {e:Expr}{es:List Expr}{t:TG}{u:wI}(h1:PG X e t)(h2:rF X es u)
  (hs:(assignEach (e::es) X.env).map (·.2)=assign e X.env::(assignEach es X.env).map (·.2):=by rfl):rF X (e::es) (t8 t u):=by
 intro pins s σ H vs us Q I r h;obtain⟨v,vr,e1,h⟩:=h;subst e1
 cases r with
 | cons r rr=>
  rw[hs];refine assignInOrder_cons (bB (h1 pins s σ H _ _ _ I r h) fun _ s1 ⟨σ1,H1,I1,q1⟩=>?_);exact h2 pins s1 σ1 H1 _ _ Q I1 rr q1
def DK (K:PySem.W.Frag)(n:Nat)(t:wI):TG:=fun v σ H Q=>∃ a xs,v=.ref a/\dy K H a xs/\xs.length=n/\t xs σ H Q
theorem lF {es:List Expr}{k:Nat}{t:wI}{n:Nat}(hc:X.calm=true)(h:rF X es t)
  (hn:(assignEach es X.env).length=n:=by rfl) (hst:(assignEach es X.env).findIdx? (·.1)=none:=by rfl):PG X (.Tuple es k pos) (DK X.K n t):=by
 intro pins s σ H v u Q I r hw;obtain⟨a,xs,e1,hq,hl,hw⟩:=hw;subst e1
 cases r
 obtain⟨its,rv,ht,hz⟩:=I.tuple hq;refine assign_Tuple_tuple (I.ok.hd hc) ht (by simp[hn,<-hl,rv.length]) hst fun h' hx=>?_
 have I1:ay X pins σ H {s with heap:=h'}:=I.kept (t':=s.toks) fun b o e=>hx b o (Nat.ne_of_lt (Heap.lt_size e)) e;exact h pins _ σ H xs _ Q I1 (by simpa using rv) hw
def Fw (to ti:TE)(t:zS):TG:=fun v σ H Q=>to σ H fun o H1=>ti σ H1 fun i H2=>t o i v H2 fun H3=>Q σ H3
theorem BH {o i:Expr}{to ti:TE}{t:zS}(ho:PE X o to)(hi:PE X i ti)(hs:CK X t)
  (ha:∀ v,assign (.Subscript o i pos) X.env v=(do
   let ov ← holding [v] (eval o X.env)
   let iv ← holding [v,ov] (eval i X.env)
   standAt pos
   holding [v,ov,iv] (setItem ov iv v)
   release [v,ov,iv] []):=by intro _;rfl):PG X (.Subscript o i pos) (Fw to ti t):=by
 intro pins s σ H v u Q I r h;rw[ha];refine wpAny_bind (wpAny_holding (bB (ho pins s σ H _ I h) fun ov s1 ⟨x,H1,I1,r1,q1⟩=>?_));refine wpAny_bind (wpAny_holding (bB (hi pins s1 σ H1 _ I1 q1) fun iv s2 ⟨y,H2,I2,r2,q2⟩=>?_));refine wpAny_bind (wpAny_standAt (wpAny_bind (wpAny_holding (bB (hs pins s2 σ H2 x y v ov iv u _ I2 r1 r2 r q2) fun _ s3 ⟨H3,I3,q3⟩=>?_))));exact wpAny_release ⟨σ,H3,I3,q3⟩
def B6 (te:TE)(g:TG):TS:=fun D σ H=>te σ H fun x H1=>g x σ H1 D.nx
theorem vL {tg e:Expr}{te:TE}{g:TG}(he:PE X e te)(hg:PG X tg g)(hs:swapsWithSole [tg] e pos.line X.env=pure false:=by rfl)(hw:swappedStores [tg] e X.env=pure none:=by rfl)
  (h1:(assignEach [tg] X.env).map (·.2)=[assign tg X.env]:=by rfl):PS X (.Assign [tg] e pos) (B6 te g):=by
 intro pins s σ H D I h;refine wpAny_Assign_stores (bB (he pins s σ H _ I h) fun v s1 ⟨x,H1,I1,r1,q1⟩=>?_) hs hw;rw[h1];exact bB (hg pins s1 σ H1 x v _ I1 r1 q1) fun _ s2 q=>q
theorem oA {i:Nat}{x:Str}{e:Expr}{te:TE}{pos':Pos}(hN:X.N.Nodup)(hi:X.N[i]?=some x)(hx:Loc X.env.scope x)(he:PE X e te)(hs:swapsWith e (some (.Name x pos')) pos.line X.env=pure false:=by rfl)(hf:X.fn x=true\/X.env.scope.names.lookup x=some .local:=by first|exact .inl rfl|exact .inr rfl|assumption) :
  PS X (.Assign [.Name x pos'] e pos) (B6 te (mx i)):=by
 intro pins s σ H D I h;refine wpAny_Assign_Name (bB (he pins s σ H _ I h) fun v s1 ⟨y,H1,I1,r1,q1⟩=>?_) hs;exact fV I1 hN hi hx r1 (fun s2 I2=>⟨_,H1,I2,q1⟩) hf
def FW (i j:Nat)(ta:TA):TS:=fun D σ H=>ta σ H fun vs H1=>∃ v w,vs=[v,w]/\D.nx ((σ.set i (some v)).set j (some w)) H1
theorem BK {i j:Nat}{x y:Str}{a b:Expr}{ta:TA}{px py pt:Pos}{kt k2 pt2}(hc:X.calm=true)(hN:X.N.Nodup)(hi:X.N[i]?=some x)(hj:X.N[j]?=some y)(hij:i≠j)
  (hx:X.env.scope.names.lookup x=some .local) (hy:X.env.scope.names.lookup y=some .local) (ha:PA X [a,b] ta)
  (hw:swappedStores [.Tuple [.Name x px,.Name y py] kt pt] (.Tuple [a,b] k2 pt2) X.env=pure (some [x,y]))
  (hs:swapsWithSole [.Tuple [.Name x px,.Name y py] kt pt] (.Tuple [a,b] k2 pt2) pos.line X.env=pure false:=by rfl) :
  PS X (.Assign [.Tuple [.Name x px,.Name y py] kt pt] (.Tuple [a,b] k2 pt2) pos) (FW i j ta):=by
 intro pins s σ H D I h;rw[exec_Assign_arm];refine wpAny_bind (wpAny_standAt ?_);rw[hs];refine wpAny_bind (wpAny_pure ?_);rw[if_neg (by decide)]
 refine wpAny_bind (Tuple_ (bB (ha _ pins s σ H _ I h) fun us s1 ⟨vs,H1,I1,r1,q1⟩=>?_));obtain⟨v,w,e1,q1⟩:=q1;subst e1;obtain⟨u1,u2,rfl,rv,rw'⟩:∃ u1 u2,us=[u1,u2]/\RelV v u1/\RelV w u2:=by
  cases r1 with
  | cons p q=>
   cases q with
   | cons p' q'=>
    cases q'
    exact⟨_,_,rfl,p,p'⟩
 refine wpAny_newObj_type ?_ (by show 2<=sizeLine;decide)
 have I2:ay X pins σ H1 {s1 with heap:=s1.heap.push {cls:=.type "tuple",data:=.seq [u1,u2].toArray}}:=I1.kept (t':=s1.toks) fun b o e=>Heap.get?_push_of_some _ e;rw[hw];refine wpAny_bind (wpAny_pure ?_);show wpAny (model X.prog X.w) X.A (do rule "assign.swapped-stores";let items ← unpackItems (.ref s1.heap.objs.size) 2 none;assignInOrder [fun v=>bindName X.env y v,fun v=>bindName X.env x v] items.reverse;pure Flow.next) _ _ _
 refine wpAny_bind (wpAny_rule (wpAny_bind (unpackItems_tuple (items:=#[u1,u2]) (I.ok.hd hc) (IsTup.new s1.heap _) fun h' hx'=>?_)));have I3:=I2.kept (h':=h') (t':=s1.toks) fun b o e=>hx' b o (Nat.ne_of_lt (Heap.lt_size e)) e;show wpAny _ _ (assignInOrder [fun v=>bindName X.env y v,fun v=>bindName X.env x v] [u2,u1] >>= fun _=>pure Flow.next) _ _ _;refine wpAny_bind (assignInOrder_cons (wpAny_bindName (fV I3 hN hj (.inl hy) rw' (fun s2 I4=>?_) (.inr hy))));refine assignInOrder_cons (wpAny_bindName (fV I4 hN hi (.inl hx) rv (fun s3 I5=>assignInOrder_nil (wpAny_pure ?_)) (.inr hx)));rw[List.set_comm _ _ (Ne.symm hij)]at I5;exact⟨_,H1,I5,q1⟩
end
section
variable {X:Cx}{pos:Pos}
def Ca (c:TT)(tb:TS):TS:=fun D σ H=>∃ W:Nat->St->Hp->Prop,(∃ m,W m σ H)/\∀ m σ H,W m σ H →
 c σ H fun b H1=>if b=true then ∃ N:St->Hp->Prop,(∀ σ' H',N σ' H'->∃ m',m'<m/\W m' σ' H')/\tb {D with nx:=N,ct:=N,bk:=D.nx} σ H1 else D.nx σ H1
theorem vN {c:Expr}{body:List Stmt}{tc:TT}{tb:TS}(hp:PassesOwn (model X.prog X.w) X.A X.env X.xe)(hc:PT X c tc)(hb:cy X body tb):PS X (.While c body [] pos) (Ca tc tb):=by
 intro pins s σ H D I h;obtain⟨W,⟨m0,w0⟩,turn⟩:=h;refine wpAny_While (codeAny_whileLoop (fun n s'=>∃ σ' H',ay X pins σ' H' s'/\W n σ' H') ?_ m0 ⟨σ,H,I,w0⟩);rintro n s1 ⟨σ1,H1,I1,w1⟩;refine wpAny_passesOwn hp (bB (hc pins s1 σ1 H1 _ I1 (turn n σ1 H1 w1)) fun b s2 ⟨H2,I2,q2⟩=>?_)
 cases b with
 | true=>
  obtain⟨N,hN,q2⟩:=q2;rw[if_pos rfl];refine wpAny_passesOwn hp (bB (hb pins s2 σ1 H2 _ I2 q2) fun f s3 q3=>?_)
  cases f with
  | next=>
   obtain⟨σ3,H3,I3,n3⟩:=q3;obtain⟨m',hm,w3⟩:=hN σ3 H3 n3;exact⟨m',hm,σ3,H3,I3,w3⟩
  | cont=>
   obtain⟨σ3,H3,I3,n3⟩:=q3;obtain⟨m',hm,w3⟩:=hN σ3 H3 n3;exact⟨m',hm,σ3,H3,I3,w3⟩
  | brk=>exact q3
  | ret v=>exact q3
 | false=>
  rw[if_neg Bool.false_ne_true];exact wpAny_execs_nil ⟨σ1,H2,I2,q2⟩
end
structure It where
 go:Nat->Hp->Prop
 yld:Nat->Hp->V->Hp->Prop
 stop:Nat->Hp->Prop
def kn (X:Cx)(pins:List (Addr × Obj))(H:Hp)(b:Addr):Prop:=
 H b=none/\b≠X.env.locals/\b∉X.fs/\(b∈X.ex\/X.s₀.heap.objs.size<=b)/\(∀ x c,X.env.cells.lookup x=some c->c≠b)/\∀ p∈X.pn++pins,p.1≠b
theorem ay.fpOk {X:Cx}{pins:List (Addr × Obj)}{σ:St}{H H':Hp}{s:Shared}{b:Addr}(I:ay X pins σ H s)(hb:s.heap.objs.size<=b)(hn:H' b=none):kn X pins H' b:=by
 refine⟨hn,Nat.ne_of_gt (Nat.lt_of_lt_of_le I.lt hb),I.nofs hb,.inr (Nat.le_trans I.sz hb),fun x c e z=>?_,fun p hp z=>?_⟩
 ·obtain⟨v,q⟩:=I.cell x c e;exact absurd (Nat.lt_of_lt_of_le q.lt (by rw[z];exact hb)) (Nat.lt_irrefl _)
 ·exact absurd (Nat.lt_of_lt_of_le (Heap.lt_size (I.pin p hp).1) (by rw[z];exact hb)) (Nat.lt_irrefl _)
structure Turn (P:Program) (w:World) (K:PySem.W.Frag) (tg:Expr) (J:It) (fp:List Addr) (it:Addr) (tn:Nat->Heap->Prop):Prop where
 mem:it∈fp
 obj:∀ i h,tn i h->∀ b∈fp,∃ o,h.get? b=some o/\∀ v,o.data≠.cell v
 keep:∀ i h h',tn i h->(∀ b∈fp,∀ o,h.get? b=some o->h'.get? b=some o)->tn i h'
 item:∀ (X:Cx),X.prog=P->X.w=w->X.K=K->X.calm=true->∀ (i:Nat) (pins:List (Addr × Obj)) (s:Shared) (σ:St) (H:Hp) (E:Value->Shared->Prop),ay X pins σ H s->(∀ b∈fp,kn X pins H b)->tn i s.heap->J.go i H →
  wpAny (model P w) X.A (pyNext (.ref it)) (fun r s1=>∃ u,r=some u ∧
   wpAny (model P w) X.A (letOwnedTupleGo tg (.ref it) u) (fun _ s2=>∃ x H',ay X pins σ H' s2/\RelV x u/\J.yld i H x H'/\tn (i+1) s2.heap/\∀ b∈fp,H' b=none) E s1) E s
 done:∀ (X:Cx),X.prog=P->X.w=w->X.K=K->X.calm=true->∀ (i:Nat) (pins:List (Addr × Obj)) (s:Shared) (σ:St) (H:Hp) (E:Value->Shared->Prop),ay X pins σ H s->(∀ b∈fp,kn X pins H b)->tn i s.heap->J.stop i H →
  wpAny (model P w) X.A (pyNext (.ref it)) (fun r s1=>r=none/\ay X pins σ H s1) E s
 self:∀ (A:Around) (i:Nat) (s:Shared) (Q:Value->Shared->Prop) (E:Value->Shared->Prop),tn i s.heap->Q (.ref it) s->wpAny (model P w) A (pyIter (.ref it)) Q E s
abbrev TI:=St->Hp->(It->Hp->Prop)->Prop
def Gk (X:Cx)(pins:List (Addr × Obj))(σ:St)(tg:Expr)(R:It->Hp->Prop)(itv:Value)(s2:Shared):Prop:=
 ∃ (it:Addr) (fp:List Addr) (tn:Nat->Heap->Prop) (J:It) (H':Hp),itv=.ref it/\ay X pins σ H' s2/\Turn X.prog X.w X.K tg J fp it tn/\tn 0 s2.heap/\(∀ b∈fp,kn X pins H' b)/\R J H'
def PI (X:Cx)(tg iter:Expr)(wi:TI):Prop:=
 ∀ (pins:List (Addr × Obj)) (s:Shared) (σ:St) (H:Hp) (R:It->Hp->Prop),ay X pins σ H s->wi σ H R →
  wpAny (model X.prog X.w) X.A (eval iter X.env) (fun v s1=>wpAny (model X.prog X.w) X.A (pyIter v) (Gk X pins σ tg R) X.xe s1) X.xe s
theorem pk {M:Model}{A:Around}{E:Value->Shared->Prop}{s:Shared}{tg:Expr}{it:Addr}{u:Value}{o:Obj}{n:String}{vs:Array Value}{Q:Unit->Shared->Prop}(ho:s.heap.get? it=some o)(hc:o.cls=.type n)(hd:o.data=.fields vs)
  (hn:["enumerate","zip","dict_itemiterator","dict_reverseitemiterator","odict_iterator","itertools.zip_longest","itertools.pairwise"].contains n=false) (hQ:Q () s):wpAny M A (letOwnedTupleGo tg (.ref it) u) Q E s:=by
 unfold letOwnedTupleGo
 cases tg <;> first
  | exact wpAny_pure hQ
  | (cases u <;> first
    | exact wpAny_pure hQ
    | (
      refine wpAny_bind (wpAny_load ho ?_);rw[hc,hd];show wpAny M A (if (["enumerate","zip","dict_itemiterator","dict_reverseitemiterator","odict_iterator","itertools.zip_longest","itertools.pairwise"].contains n && vs[0]? == some (rawInt _))=true then _ else _) Q E s
      rw[if_neg (by intro h;rw[hn,Bool.false_and]at h;cases h)]
      exact wpAny_pure hQ))
def E8 (K:PySem.W.Frag)(a:Addr):It:=
 ⟨fun i H=>∃ xs x,ca K H a xs/\xs[i]?=some x,fun i H x H'=>H'=H/\∀ xs,ca K H a xs->xs[i]?=some x,fun i H=>∃ xs,ca K H a xs/\xs.length<=i⟩
def E9 (K:PySem.W.Frag)(a:Addr):It:=
 ⟨fun i H=>∃ xs x,dy K H a xs/\xs[i]?=some x,fun i H x H'=>H'=H/\∀ xs,dy K H a xs->xs[i]?=some x,fun i H=>∃ xs,dy K H a xs/\xs.length<=i⟩
def EL (lo:Int)(n:Nat):It:=⟨fun i _=>i<n,fun i H x H'=>H'=H/\x=.int (lo+i),fun i _=>n<=i⟩
theorem rg {P:Program}{w:World}{K:PySem.W.Frag}{tg:Expr}(a it:Addr):Turn P w K tg (E8 K a) [it] it (fun i h=>h.IsListIter it a i) where
 mem:=by simp
 obj:=fun i h st b hb=>by
  have e:b=it:=by simpa using hb
  subst e;obtain⟨o,e,c,d⟩:=st;exact⟨o,e,fun v z=>by rw[d]at z;cases z⟩
 keep:=fun i h h' st k=>st.at fun o e=>k it (by simp) o e
 item:=by
  intro X hP hw hK hc i pins s σ H E I hf st hg;subst hP hw hK;obtain⟨xs,x,hq,hx⟩:=hg;obtain⟨its,rv,p,hz⟩:=I.list hq;obtain⟨u,hu,ru⟩:=rv.get hx;obtain⟨f0,f1,f2,f3,f4,f5⟩:=hf it (by simp)
  refine wpAny_pyNext_list_item st p.isList (x:=u) (by simpa using hu) fun h' st' sb=>?_
  have I1:ay X pins σ H {s with heap:=h'}:=I.turned (t':=s.toks) (fun b o hb e=>(sb.2 b hb).trans e) f0 f1 f3 f4 f5;obtain⟨o,e,c,d⟩:=id st';exact⟨u,rfl,pk (s:={s with heap:=h'}) e c d (by decide) ⟨x,H,I1,ru,⟨rfl,fun ys hy=>by rw[I.list_inj hy hq];exact hx⟩,st',fun b hb=>(hf b hb).1⟩⟩
 done:=by
  intro X hP hw hK hc i pins s σ H E I hf st hg;subst hP hw hK;obtain⟨xs,hq,hx⟩:=hg;obtain⟨its,rv,p,hz⟩:=I.list hq;obtain⟨f0,f1,f2,f3,f4,f5⟩:=hf it (by simp)
  have hl:=rv.length;exact wpAny_pyNext_list_end (I.ok.hd hc) st p.isList (by simp;omega) fun h' eb=>⟨rfl,I.turned (t':=s.toks) (fun b o hb e=>eb b o hb e) f0 f1 f3 f4 f5⟩
 self:=fun _ _ _ _ _ st h=>wpAny_pyIter_listiter st h
theorem oF {P:Program}{w:World}{K:PySem.W.Frag}{tg:Expr}(a it:Addr):Turn P w K tg (E9 K a) [it] it (fun i h=>h.IsTupleIter it a i) where
 mem:=by simp
 obj:=fun i h st b hb=>by
  have e:b=it:=by simpa using hb
  subst e;obtain⟨o,e,c,d⟩:=st;exact⟨o,e,fun v z=>by rw[d]at z;cases z⟩
 keep:=fun i h h' st k=>st.at fun o e=>k it (by simp) o e
 item:=by
  intro X hP hw hK hc i pins s σ H E I hf st hg;subst hP hw hK;obtain⟨xs,x,hq,hx⟩:=hg;obtain⟨its,rv,p,hz⟩:=I.tuple hq;obtain⟨u,hu,ru⟩:=rv.get hx;obtain⟨f0,f1,f2,f3,f4,f5⟩:=hf it (by simp)
  refine wpAny_pyNext_tuple_item st (show s.heap.IsTuple a its.toArray from p) (x:=u) (by simpa using hu) fun h' st' sb=>?_
  have I1:ay X pins σ H {s with heap:=h'}:=I.turned (t':=s.toks) (fun b o hb e=>(sb.2 b hb).trans e) f0 f1 f3 f4 f5;obtain⟨o,e,c,d⟩:=id st';exact⟨u,rfl,pk (s:={s with heap:=h'}) e c d (by decide) ⟨x,H,I1,ru,⟨rfl,fun ys hy=>by rw[I.tuple_inj hy hq];exact hx⟩,st',fun b hb=>(hf b hb).1⟩⟩
 done:=by
  intro X hP hw hK hc i pins s σ H E I hf st hg;subst hP hw hK;obtain⟨xs,hq,hx⟩:=hg;obtain⟨its,rv,p,hz⟩:=I.tuple hq;obtain⟨f0,f1,f2,f3,f4,f5⟩:=hf it (by simp)
  have hl:=rv.length;exact wpAny_pyNext_tuple_end (I.ok.hd hc) st (show s.heap.IsTuple a its.toArray from p) (by simp;omega) fun h' eb=>⟨rfl,I.turned (t':=s.toks) (fun b o hb e=>eb b o hb e) f0 f1 f3 f4 f5⟩
 self:=fun _ _ _ _ _ st h=>wpAny_pyIter_tupleiter st h
theorem oE {P:Program}{w:World}{K:PySem.W.Frag}{tg:Expr}(it:Addr)(lo:Int)(n:Nat):Turn P w K tg (EL lo n) [it] it (fun i h=>IsRangeIter h it (lo+(i:Nat)*1) ((n:Int)-(i:Nat)) 1) where
 mem:=by simp
 obj:=fun i h st b hb=>by
  have e:b=it:=by simpa using hb
  subst e;exact⟨_,st,fun v z=>by
   have z':Data.fields _=Data.cell v:=z
   cases z'⟩
 keep:=fun i h h' st k=>k it (by simp) _ st
 item:=by
  intro X hP hw hK hc i pins s σ H E I hf st hg;subst hP hw hK;obtain⟨f0,f1,f2,f3,f4,f5⟩:=hf it (by simp)
  have W:=Walks.range (prog:=X.prog) (w:=X.w) (I.ok.hd hc) it lo 1 n;refine W.item i s _ _ hg st fun v h' tk hv st' kk=>?_;obtain⟨t,rfl⟩:=hv;have I1:ay X pins σ H {s with heap:=h',toks:=tk}:=I.turned (fun b o hb e=>kk b o (by simpa using hb) e) f0 f1 f3 f4 f5
  refine⟨_,rfl,pk (s:={s with heap:=h',toks:=tk}) (n:="range_iterator") st' rfl rfl (by decide) ⟨.int (lo+i),H,I1,⟨t,?_⟩,⟨rfl,rfl⟩,st',fun b hb=>(hf b hb).1⟩⟩
  rw[Int.mul_one]
 done:=by
  intro X hP hw hK hc i pins s σ H E I hf st hg;subst hP hw hK;obtain⟨f0,f1,f2,f3,f4,f5⟩:=hf it (by simp)
  exact wpAny_pyNext_range_end (I.ok.hd hc) st (by have:n<=i:=hg;omega) fun h' eb=>⟨rfl,I.turned (t':=s.toks) (fun b o hb e=>eb b o hb e) f0 f1 f3 f4 f5⟩
 self:=fun _ _ _ _ _ st h=>wpAny_pyIter_rangeiter st h
end L2
namespace L2
open PySem PySem.Spec PyProof.Rows
section
variable {X:Cx}{tg:Expr}
def DS (K:PySem.W.Frag)(tl:TE):TI:=fun σ H R=>tl σ H fun x H1=>∃ a,x=.ref a/\(∃ xs,ca K H1 a xs)/\R (E8 K a) H1
def FB (K:PySem.W.Frag)(tl:TE):TI:=fun σ H R=>tl σ H fun x H1=>∃ a,x=.ref a/\(∃ xs,dy K H1 a xs)/\R (E9 K a) H1
theorem pJ {l:Expr}{tl:TE}(hl:PE X l tl):PI X tg l (DS X.K tl):=by
 intro pins s σ H R I h;refine bB (hl pins s σ H _ I h) fun v s1 ⟨x,H1,I1,r1,q1⟩=>?_;obtain⟨a,e,⟨xs,hq⟩,q⟩:=q1;subst e
 cases r1
 obtain⟨its,rv,p,hz⟩:=I1.list hq;refine wpAny_pyIter_list p.isList ?_;refine⟨s1.heap.objs.size,[s1.heap.objs.size],_,_,H1,rfl,I1.kept (t':=s1.toks) fun b o e=>Heap.get?_push_of_some _ e,rg a _,⟨_,Heap.get?_push_size _ rfl,rfl,rfl⟩,fun b hb=>?_,q⟩;have e:b=s1.heap.objs.size:=by simpa using hb
 subst e;exact I1.fpOk (Nat.le_refl _) (I1.hok.fresh (Nat.le_refl _))
theorem BI {l:Expr}{tl:TE}(hl:PE X l tl):PI X tg l (FB X.K tl):=by
 intro pins s σ H R I h;refine bB (hl pins s σ H _ I h) fun v s1 ⟨x,H1,I1,r1,q1⟩=>?_;obtain⟨a,e,⟨xs,hq⟩,q⟩:=q1;subst e
 cases r1
 obtain⟨its,rv,p,hz⟩:=I1.tuple hq;refine wpAny_pyIter_tuple (show s1.heap.IsTuple a its.toArray from p) ?_;refine⟨s1.heap.objs.size,[s1.heap.objs.size],_,_,H1,rfl,I1.kept (t':=s1.toks) fun b o e=>Heap.get?_push_of_some _ e,oF a _,⟨_,Heap.get?_push_size _ rfl,rfl,rfl⟩,fun b hb=>?_,q⟩;have e:b=s1.heap.objs.size:=by simpa using hb
 subst e;exact I1.fpOk (Nat.le_refl _) (I1.hok.fresh (Nat.le_refl _))
theorem vQ {pins:List (Addr × Obj)}{σ:St}{H:Hp}{s:Shared}{R:It->Hp->Prop}{E:Value->Shared->Prop}{lo hi:Int}{t u v:Tok}{tk:Nat}(I:ay X pins σ H s)(h1:-(2 ^ 62)<=lo)(h2:lo<2 ^ 62)(h3:-(2 ^ 62)<=hi)(h4:hi<2 ^ 62)
  (q:R (EL lo (hi-lo).toNat) H):wpAny (model X.prog X.w) X.A (pyIter (.ref s.heap.objs.size)) (Gk X pins σ tg R) E {s with heap:=s.heap.push {cls:=.type "range",data:=.fields #[.int lo t,.int hi u,.int 1 v]},toks:=tk}:=by
 refine wpAny_pyIter_range (IsRange.new ..) (small_one h1 h2 h3 h4) ?_;have I1:ay X pins σ H {s with heap:=s.heap.push {cls:=.type "range",data:=.fields #[.int lo t,.int hi u,.int 1 v]},toks:=tk}:=I.kept fun b o e=>Heap.get?_push_of_some _ e;refine⟨(s.heap.push {cls:=.type "range",data:=.fields #[.int lo t,.int hi u,.int 1 v]}).objs.size,[(s.heap.push {cls:=.type "range",data:=.fields #[.int lo t,.int hi u,.int 1 v]}).objs.size],_,_,H,rfl,
  I1.kept (t':=tk) fun b o e=>Heap.get?_push_of_some _ e,oE _ lo (hi-lo).toNat,?_,fun b hb=>?_,q⟩
 ·have e1:lo+((0:Nat):Int)*1=lo:=by simp
  have e2:(((hi-lo).toNat:Nat):Int)-((0:Nat):Int)=Builtin.Range.rangeSize lo hi 1:=by rw[rangeSize_one];split <;> omega
  show IsRangeIter _ _ (lo+((0:Nat):Int)*1) ((((hi-lo).toNat:Nat):Int)-((0:Nat):Int)) 1;rw[e1,e2];exact Heap.get?_push_size _ rfl
 ·have e:b=(s.heap.push {cls:=.type "range",data:=.fields #[.int lo t,.int hi u,.int 1 v]}).objs.size:=by simpa using hb
  subst e;exact I1.fpOk (Nat.le_refl _) (I1.hok.fresh (Nat.le_refl _))
def DT (ta:TA):TI:=fun σ H R=>ta σ H fun vs H1=>∃ j:Int,vs=[.int j]/\-(2 ^ 62)<=j/\j<2 ^ 62/\R (EL 0 j.toNat) H1
theorem qT {a:Expr}{ta:TA}{p pos:Pos} (hg:Gl X "range") (hm:X.mg "range"=none) (ha:PA X [a] ta) (hs:starEach [a] X.env=[(false,eval a X.env)]:=by rfl):PI X tg (.Call (.Name "range" p) [a] [] pos) (DT ta):=by
 intro pins s σ H R I h;refine Call_ (fk I hg hm boot_range (PyProof.Rows.callWith_type1 (bB (ha pos pins s σ H _ I h) fun us s1 ⟨vs,H1,I1,r1,q1⟩=>?_) hs rfl));obtain⟨j,e,q1,q2,q⟩:=q1;subst e
 cases r1 with
 | cons r rr=>
  cases rr
  obtain⟨t,rfl⟩:=r;exact call_range_1 (vQ I1 (by omega) (by omega) q1 q2 (by simpa using q))
def FR (wi:TI)(g:TG)(tb:TS):TS:=fun D σ H=>wi σ H fun J H1=>∃ W:Nat->Nat->St->Hp->Prop,(∃ m,W 0 m σ H1)/\∀ i m σ H,W i m σ H →
 (J.stop i H/\D.nx σ H)\/(J.go i H/\∃ N:St->Hp->Prop,(∀ σ' H',N σ' H'->∃ m',m'<m/\W (i+1) m' σ' H')/\∀ x H',J.yld i H x H'->g x σ H' fun σ2 H2=>tb {D with nx:=N,ct:=N,bk:=D.nx} σ2 H2)
def iU (fp:List Addr)(h:Heap):List (Addr × Obj):=fp.filterMap fun b=>(h.get? b).map fun o=>(b,o)
theorem dD {fp:List Addr}{h:Heap}{b:Addr}{o:Obj}(hb:b∈fp)(e:h.get? b=some o):(b,o)∈iU fp h:=List.mem_filterMap.mpr ⟨b,hb,by rw[e];rfl⟩
theorem qM {fp:List Addr}{h:Heap}{p:Addr × Obj}(hp:p∈iU fp h):p.1∈fp/\h.get? p.1=some p.2:=by
 obtain⟨b,hb,e⟩:=List.mem_filterMap.mp hp
 cases q:h.get? b with
 | none=>rw[q]at e;cases e
 | some o=>
  rw[q]at e;have e':(b,o)=p:=Option.some.inj e;subst e';exact⟨hb,q⟩
theorem ay.pinned {pins:List (Addr × Obj)}{σ:St}{H:Hp}{s:Shared}{fp:List Addr}(I:ay X pins σ H s)(hf:∀ b∈fp,kn X pins H b)(ho:∀ b∈fp,∃ o,s.heap.get? b=some o/\∀ v,o.data≠.cell v):ay X (pins++iU fp s.heap) σ H s:=
 I.pins_of fun p hp=>(List.mem_append.mp hp).elim (fun z=>I.pin p (List.mem_append_right _ z)) fun z=>by
  obtain⟨hb,e⟩:=qM z;obtain⟨f0,f1,f2,_⟩:=hf p.1 hb;obtain⟨o,e',d⟩:=ho p.1 hb;rw[e]at e';cases e'
  exact⟨e,f0,f1,f2,d⟩
theorem ay.unpinned {pins pl:List (Addr × Obj)}{σ:St}{H:Hp}{s:Shared}(I:ay X (pins++pl) σ H s):ay X pins σ H s:=I.pins_of fun p hp=>I.pin p (List.mem_append_right _ (List.mem_append_left _ hp))
theorem oy {iter:Expr}{body:List Stmt}{wi:TI}{g:TG}{tb:TS}{pos:Pos}(hp:PassesOwn (model X.prog X.w) X.A X.env X.xe)(hc:X.calm=true)(hi:PI X tg iter wi)(hg:PG X tg g)(hb:cy X body tb)
  (hs:∀ x,foldedSetIterable iter X.env x=pure x:=by intro _;rfl):PS X (.For tg iter body [] pos) (FR wi g tb):=by
 intro pins s σ H D I h;refine wpAny_For (bB (hi pins s σ H _ I h) fun v s1 h1=>bB h1 fun itv s2 h2=>?_) hs;obtain⟨it,fp,tn,J,H2,e,I2,T,st2,f2,W,⟨m0,w0⟩,turn⟩:=h2;subst e;have stat:∀ {H':Hp},(∀ b∈fp,H' b=none)->∀ b∈fp,kn X pins H' b:=fun hn b hb=>⟨hn b hb,(f2 b hb).2⟩;refine codeAny_forLoop_any (fun n s'=>∃ i σ' H',ay X pins σ' H' s'/\tn i s'.heap/\(∀ b∈fp,H' b=none)/\W i n σ' H') ?_ m0 ⟨0,σ,H2,I2,st2,fun b hb=>(f2 b hb).1,w0⟩;rintro n s3 ⟨i,σ3,H3,I3,st3,fr3,w3⟩
 rcases turn i n σ3 H3 w3 with ⟨stop,qn⟩|⟨go,N,hN,step⟩
 ·refine wpAny_passesOwn hp (bB (T.done X rfl rfl rfl hc i pins s3 σ3 H3 X.xe I3 (stat fr3) st3 stop) fun r s4 ⟨hr,I4⟩=>?_);subst hr;exact wpAny_execs_nil ⟨σ3,H3,I4,qn⟩
 ·refine wpAny_passesOwn hp (bB (T.item X rfl rfl rfl hc i pins s3 σ3 H3 X.xe I3 (stat fr3) st3 go) fun r s4 ⟨u,hr,h4⟩=>?_);subst hr;refine wpAny_passesOwn hp (bB h4 fun _ s5 ⟨x,H5,I5,r5,y5,st5,fr5⟩=>?_);have I5':=I5.pinned (stat fr5) (T.obj _ _ st5);refine wpAny_passesOwn hp (bB (hg _ s5 σ3 H5 x u _ I5' r5 (step x H5 y5)) fun _ s6 ⟨σ6,H6,I6,q6⟩=>?_);refine wpAny_passesOwn hp (bB (hb _ s6 σ6 H6 _ I6 q6) fun f s7 q7=>?_);have again:∀ {σ7:St}{H7:Hp},ay X (pins++iU fp s5.heap) σ7 H7 s7->N σ7 H7->∃ m,m<n/\∃ i σ' H',ay X pins σ' H' s7/\tn i s7.heap/\(∀ b∈fp,H' b=none)/\W i m σ' H':=fun {σ7 H7} I7 n7=>by
   obtain⟨m',hm,w7⟩:=hN σ7 H7 n7;refine⟨m',hm,i+1,σ7,H7,I7.unpinned,T.keep _ _ _ st5 fun b hb o e=>(I7.pin (b,o) (List.mem_append_right _ (List.mem_append_right _ (dD hb e)))).1,fun b hb=>?_,w7⟩;obtain⟨o,e,d⟩:=T.obj _ _ st5 b hb;exact(I7.pin (b,o) (List.mem_append_right _ (List.mem_append_right _ (dD hb e)))).2.1
  cases f with
  | next=>obtain⟨σ7,H7,I7,n7⟩:=q7;exact again I7 n7
  | cont=>obtain⟨σ7,H7,I7,n7⟩:=q7;exact again I7 n7
  | brk=>obtain⟨σ7,H7,I7,q7⟩:=q7;exact⟨σ7,H7,I7.unpinned,q7⟩
  | ret v=>obtain⟨x7,σ7,H7,I7,r7,q7⟩:=q7;exact⟨x7,σ7,H7,I7.unpinned,r7,q7⟩
end
end L2
namespace L2
open PySem PySem.Spec PyProof.Rows
abbrev R2:=V->V->Hp->VK->Prop
def im (X:Cx)(f:Value->Value->Sem Value)(r:R2):Prop:=
 ∀ (pins:List (Addr × Obj)) (s:Shared) (σ:St) (H:Hp) (x y:V) (v u:Value) (Q:VK),ay X pins σ H s->RelV x v->RelV y u->r x y H Q →
  wpAny (model X.prog X.w) X.A (f v u) (EP X pins σ Q) X.xe s
def Fg (X:Cx)(f:Value->Sem Value)(r:V->Hp->VK->Prop):Prop:=
 ∀ (pins:List (Addr × Obj)) (s:Shared) (σ:St) (H:Hp) (x:V) (v:Value) (Q:VK),ay X pins σ H s->RelV x v->r x H Q →
  wpAny (model X.prog X.w) X.A (f v) (EP X pins σ Q) X.xe s
def cS (X:Cx)(f:Value)(r:List V->Hp->VK->Prop):Prop:=
 ∀ (pins:List (Addr × Obj)) (s:Shared) (σ:St) (H:Hp) (xs:List V) (us:List Value) (Q:VK),ay X pins σ H s->aA xs us->r xs H Q →
  wpAny (model X.prog X.w) X.A (call f us) (EP X pins σ Q) X.xe s
def Er (r:R2)(ta tb:TE):TE:=fun σ H Q=>ta σ H fun x H1=>tb σ H1 fun y H2=>r x y H2 Q
def GR (r:V->Hp->VK->Prop)(ta:TE):TE:=fun σ H Q=>ta σ H fun x H1=>r x H1 Q
def rI (C:Int->Int->Prop)(g:Int->Int->V):R2:=fun x y H Q=>∃ i j,x=.int i/\y=.int j/\C i j/\Q (g i j) H
def zA (g:Int->Int->V):R2:=fun x y H Q=>∃ i j,x=.int i/\y=.int j/\Q (g i j) H
def rU (g:Int->V):V->Hp->VK->Prop:=fun x H Q=>∃ i,x=.int i/\Q (g i) H
section
variable {X:Cx}{a b c:Expr}{ta tb tc:TE}{pos:Pos}
theorem Av (ha:PE X a ta)(hb:PE X b tb){pins:List (Addr × Obj)}{s:Shared}{σ:St}{H:Hp}{R:V->V->Hp->Prop}(I:ay X pins σ H s)
  (h:ta σ H fun x H1=>tb σ H1 fun y H2=>R x y H2) {Q:Value->Shared->Prop}{f:Value->Value->Sem Value}
  (hf:∀ v u s2 x y H2,ay X pins σ H2 s2->RelV x v->RelV y u->R x y H2->wpAny (model X.prog X.w) X.A (f v u) Q X.xe s2) :
  wpAny (model X.prog X.w) X.A (eval a X.env) (fun v s₁=>wpAny (model X.prog X.w) X.A (eval b X.env) (fun u s₂=>wpAny (model X.prog X.w) X.A (f v u) Q X.xe s₂) X.xe s₁) X.xe s:=by
 refine bB (ha pins s σ H _ I h) fun v s1 ⟨x,H1,I1,r1,q1⟩=>?_;refine bB (hb pins s1 σ H1 _ I1 q1) fun u s2 ⟨y,H2,I2,r2,q2⟩=>?_;exact hf v u s2 x y H2 I2 r1 r2 q2
theorem j4 {op:Operator}{r:R2}(ho:im X (binaryOp op) r)(ha:PE X a ta)(hb:PE X b tb):PE X (.BinOp a op b pos) (Er r ta tb):=by
 intro pins s σ H Q I h;exact wpAny_BinOp (Av ha hb I h fun v u s2 x y H2 I2 rx ry q=>ho pins s2 σ H2 x y v u Q I2 rx ry q)
theorem Ea {op:UnaryOp}{r:V->Hp->VK->Prop}(ho:Fg X (unaryOp op) r)(ha:PE X a ta):PE X (.UnaryOp op a pos) (GR r ta):=by
 intro pins s σ H Q I h;exact UnaryOp_ (bB (ha pins s σ H _ I h) fun v s1 ⟨x,H1,I1,r1,q1⟩=>ho pins s1 σ H1 x v Q I1 r1 q1)
theorem EZ {f:Value->Value->Sem Value}{C:Int->Int->Prop}{g:Int->Int->Int}
  (rule:∀ (i j:Int) (t u:Tok) (s:Shared) (Q:Value->Shared->Prop) (E:Value->Shared->Prop),C i j->Q (.int (g i j) s.toks) {s with toks:=s.toks+1}->wpAny (model X.prog X.w) X.A (f (.int i t) (.int j u)) Q E s) :
  im X f (rI C fun i j=>.int (g i j)):=by
 intro pins s σ H x y v u Q I rx ry h;obtain⟨i,j,rfl,rfl,hc,q⟩:=h;obtain⟨t,rfl⟩:=rx;obtain⟨t',rfl⟩:=ry;exact rule i j t t' s _ _ hc ⟨.int (g i j),H,I.tok _,⟨_,rfl⟩,q⟩
theorem D0 {f:Value->Value->Sem Value}{g:Int->Int->Int}
  (rule:∀ (i j:Int) (t u:Tok) (s:Shared) (Q:Value->Shared->Prop) (E:Value->Shared->Prop),Q (.int (g i j) s.toks) {s with toks:=s.toks+1}->wpAny (model X.prog X.w) X.A (f (.int i t) (.int j u)) Q E s) :
  im X f (zA fun i j=>.int (g i j)):=by
 intro pins s σ H x y v u Q I rx ry h;obtain⟨i,j,rfl,rfl,q⟩:=h;obtain⟨t,rfl⟩:=rx;obtain⟨t',rfl⟩:=ry;exact rule i j t t' s _ _ ⟨.int (g i j),H,I.tok _,⟨_,rfl⟩,q⟩
theorem Bv {f:Value->Value->Sem Value}{g:Int->Int->Bool}
  (rule:∀ (i j:Int) (t u:Tok) (s:Shared) (Q:Value->Shared->Prop) (E:Value->Shared->Prop),Q (.bool (g i j)) s->wpAny (model X.prog X.w) X.A (f (.int i t) (.int j u)) Q E s) :
  im X f (zA fun i j=>.bl (g i j)):=by
 intro pins s σ H x y v u Q I rx ry h;obtain⟨i,j,rfl,rfl,q⟩:=h;obtain⟨t,rfl⟩:=rx;obtain⟨t',rfl⟩:=ry;exact rule i j t t' s _ _ ⟨.bl (g i j),H,I,rfl,q⟩
def CC (i j:Int):Prop:=0<=j/\j<=1000000/\i.natAbs<2 ^ 64
def wy (i j:Int):Prop:=(-(2 ^ 64)<i/\i<2 ^ 64)\/(-(2 ^ 64)<j/\j<2 ^ 64)
theorem wy.ok {i j:Int}(h:wy i j):IntMulOk i j:=by
 rcases h with ⟨h1,h2⟩|⟨h1,h2⟩
 ·exact .of_left (intBits_le_64 h1 h2)
 ·exact .of_right (intBits_le_64 h1 h2)
theorem Bw:im X (binaryOp .Add) (zA fun i j=>.int (i+j)):=D0 fun _ _ _ _ _ _ _ q=>add_int q
theorem Bz:im X (binaryOp .Sub) (zA fun i j=>.int (i-j)):=D0 fun _ _ _ _ _ _ _ q=>sub_int q
theorem yb:im X (binaryOp .Mod) (rI (fun _ j=>j≠0) fun i j=>.int (i.fmod j)):=EZ fun _ _ _ _ _ _ _ hc q=>mod_int' hc q
theorem By:im X (binaryOp .Pow) (rI CC fun i j=>.int (i ^ j.toNat)):=EZ fun _ _ _ _ _ _ _ hc q=>pow_int_small hc.1 hc.2.1 hc.2.2 q
theorem GS {f:Value->Sem Value}{g:Int->Int}
  (rule:∀ (i:Int) (t:Tok) (s:Shared) (Q:Value->Shared->Prop) (E:Value->Shared->Prop),Q (.int (g i) s.toks) {s with toks:=s.toks+1}->wpAny (model X.prog X.w) X.A (f (.int i t)) Q E s) :
  Fg X f (rU fun i=>.int (g i)):=by
 intro pins s σ H x v Q I rx h;obtain⟨i,rfl,q⟩:=h;obtain⟨t,rfl⟩:=rx;exact rule i t s _ _ ⟨.int (g i),H,I.tok _,⟨_,rfl⟩,q⟩
theorem Cg:Fg X (unaryOp .USub) (rU fun i=>.int (-i)):=GS fun _ _ _ _ _ q=>neg_int q
end
section
variable {X:Cx}{a b c:Expr}{ta tb tc:TE}{pos:Pos}
theorem D7:im X (compareOp .Lt) (zA fun i j=>.bl (decide (i<j))):=Bv fun _ _ _ _ _ _ _ q=>lt_int q
theorem D6:im X (compareOp .Gt) (zA fun i j=>.bl (decide (j<i))):=Bv fun _ _ _ _ _ _ _ q=>gt_int q
theorem D2:im X (compareOp .GtE) (zA fun i j=>.bl (decide (j<=i))):=Bv fun _ _ _ _ _ _ _ q=>ge_int q
theorem im.or {f:Value->Value->Sem Value}{r r':R2}(h:im X f r)(h':im X f r'):im X f (fun x y H Q=>r x y H Q\/r' x y H Q):=by
 intro pins s σ H x y v u Q I rx ry q
 rcases q with q|q
 ·exact h pins s σ H x y v u Q I rx ry q
 ·exact h' pins s σ H x y v u Q I rx ry q
theorem gB (b:Expr){op:CmpOp}(h:op≠.In:=by decide)(h2:op≠.NotIn:=by decide):behindInMarks op b=false:=by
 have e1:(op == CmpOp.In)=false:=by cases op <;> first|rfl|exact absurd rfl h
 have e2:(op == CmpOp.NotIn)=false:=by cases op <;> first|rfl|exact absurd rfl h2
 cases b <;> simp[behindInMarks,e1,e2]
theorem yh {op:CmpOp}{r:R2}(ho:im X (compareOp op) r)(ha:PE X a ta)(hb:PE X b tb)(hm:behindInMarks op b=false):PE X (.Compare a [op] [b] pos) (Er r ta tb):=by
 intro pins s σ H Q I h;exact wpAny_Compare1 (Av ha hb I h fun v u s2 x y H2 I2 rx ry q=>ho pins s2 σ H2 x y v u Q I2 rx ry q) hm
def Es (t:TE):TT:=fun σ H Q=>t σ H fun x H'=>∃ k,x=.bl k/\Q k H'
theorem yo {op:CmpOp}{r:R2}(ho:im X (compareOp op) r)(ha:PE X a ta)(hb:PE X b tb)(hm:behindInMarks op b=false):PT X (.Compare a [op] [b] pos) (Es (Er r ta tb)):=by
 intro pins s σ H Q I h;refine wpAny_isTrue_Compare1 (bB (ha pins s σ H _ I h) fun v s1 ⟨x,H1,I1,r1,q1⟩=>bB (hb pins s1 σ H1 _ I1 q1) fun u s2 ⟨y,H2,I2,r2,q2⟩=>
  bB (ho pins s2 σ H2 x y v u _ I2 r1 r2 q2) fun c s3 ⟨z,H3,I3,r3,k,e,q3⟩=>?_) hm
 subst e
 cases r3
 exact wpAny_truthy_bool ⟨H3,I3,q3⟩
theorem lA:(sizeLine:Nat)<2 ^ 63:=by rw[sizeLine_eq];decide
theorem vals1 {x:V}{us:List Value}(r:aA [x] us):∃ u,us=[u]/\RelV x u:=by
 cases r with
 | cons r1 r2=>cases r2;exact⟨_,rfl,r1⟩
theorem vals2 {x y:V}{us:List Value}(r:aA [x,y] us):∃ u w',us=[u,w']/\RelV x u/\RelV y w':=by
 cases r with
 | cons r1 r2=>
  cases r2 with
  | cons r3 r4=>cases r4;exact⟨_,_,rfl,r1,r3⟩
theorem rZ:cS X (.builtin "abs") (fun xs H Q=>∃ i,xs=[.int i]/\Q (.int (if i<0 then -i else i)) H):=by
 intro pins s σ H xs us Q I r h;obtain⟨i,rfl,q⟩:=h;obtain⟨u,rfl,t,rfl⟩:=vals1 r;exact call_abs_int fun u tk=>⟨.int (if i<0 then -i else i),H,I.tok _,⟨_,rfl⟩,q⟩
theorem qj (hc:X.calm=true):cS X (.builtin "max") (fun xs H Q=>∃ i j,xs=[.int i,.int j]/\Q (.int (if j>i then j else i)) H):=by
 intro pins s σ H xs us Q I r h;obtain⟨i,j,rfl,q⟩:=h;obtain⟨u,w',rfl,⟨t,rfl⟩,⟨t',rfl⟩⟩:=vals2 r;refine max_two_ints (I.ok.hd hc) fun h' tk k=>⟨_,H,I.kept k,?_,q⟩
 by_cases hj:j>i
 ·rw[if_pos hj,if_pos hj];exact⟨_,rfl⟩
 ·rw[if_neg hj,if_neg hj];exact⟨_,rfl⟩
theorem qk (hc:X.calm=true):cS X (.builtin "min") (fun xs H Q=>∃ i j,xs=[.int i,.int j]/\Q (.int (if j<i then j else i)) H):=by
 intro pins s σ H xs us Q I r h;obtain⟨i,j,rfl,q⟩:=h;obtain⟨u,w',rfl,⟨t,rfl⟩,⟨t',rfl⟩⟩:=vals2 r;refine min_two_ints (I.ok.hd hc) fun h' tk k=>⟨_,H,I.kept k,?_,q⟩
 by_cases hj:j<i
 ·rw[if_pos hj,if_pos hj];exact⟨_,rfl⟩
 ·rw[if_neg hj,if_neg hj];exact⟨_,rfl⟩
end
end L2
namespace L2
open PySem PySem.Spec PyProof.Rows
structure CJ (h:Heap) (x dx C:Addr) (mA:Str->Option Value):Prop where
 obj:h.get? x=some (PySem.W.instObj C dx)
 ns:h.Ns1 dx mA
 ne:dx≠x
theorem qK {h:Heap}{dx:Addr}{mA:Str->Option Value}(n:h.Ns1 dx mA):∃ od,h.get? dx=some od/\∀ name,PySem.W.lookIn name od=some (mA name):=by
 obtain⟨o,es,ep,ho,hd,hk,_,hm⟩:=n;refine⟨o,ho,fun name=>?_⟩;have e:=hm name;unfold nsFind findBy at e;rw[<-Array.find?_toList]at e;unfold PySem.W.lookIn;rw[hd];dsimp only
 split
 ·rename_i y q;rw[q]at e;exact congrArg some e
 ·rename_i q;rw[q]at e;have a:es.toList.any (·.refKey)=false:=by
   rw[List.any_eq_false];intro y hy;obtain⟨z,t,hkey⟩:=hk y (Array.mem_toList_iff.mp hy);simp[DictEntry.refKey,hkey]
  have a':¬ es.toList.any (·.refKey)=true:=by rw[a];exact Bool.false_ne_true
  rw[if_neg a'];exact congrArg some e
theorem CJ.look {h:Heap}{x dx C:Addr}{mA:Str->Option Value}(I:CJ h x dx C mA):∃ od,PySem.W.InstAt h x (PySem.W.instObj C dx) C (some od)/\∀ name,PySem.W.lookIn name od=some (mA name):=
 let ⟨od,ho,hl⟩:=qK I.ns
 ⟨od,⟨I.obj,rfl,rfl,ho⟩,hl⟩
section
variable {prog:Program}{w:World}{A:Around}{E:Value->Shared->Prop}{s:Shared}{K:PySem.W.Frag}{x dx C f:Addr}{mA:Str->Option Value}{name:Str}{v:Value}
end
section
variable {P:Program}{w:World}{H H':Hp}{h h':Heap}{a C dx:Addr}{fs fs':List (Str × V)}
end
structure E5 (K:PySem.W.Frag) (C:Addr):Prop where
 pg:PySem.W.plainGet K C Str.empty=true
 hd:PySem.W.hasDictIn K C=true
 po:PySem.W.plainOver K C=true
 sa:PySem.W.findIn K (.ref C) "__setattr__"=some (some (.builtin "object.__setattr__"))
theorem E5.get {K:PySem.W.Frag}{C:Addr}(c:E5 K C)(f:Str):PySem.W.plainGet K C f=true:=c.pg
structure GV (K:PySem.W.Frag) (C:Addr) (f:Str) (v:V) (u:Value):Prop where
 at_:PySem.W.findIn K (.ref C) f=some (some u)
 rel:RelV v u
 get:PySem.W.specialIn K u "__get__"=some none
 cp:PySem.W.copiedNames.contains f=false
structure GC (K:PySem.W.Frag) (C:Addr) (m:Str) (f:Addr):Prop where
 at_:PySem.W.findIn K (.ref C) m=some (some (.ref f))
 fn:PySem.W.isFn K (.ref f)=true
 kp:PySem.W.keepIn K (.ref f)=true
section
variable {X:Cx}{pins:List (Addr × Obj)}{σ:St}{H:Hp}{s:Shared}{a C dx:Addr}{fs:List (Str × V)}{f:Str}{v:V}{A:Around}{E:Value->Shared->Prop}
theorem ay.made (I:ay X pins σ H s):ay X pins σ (a8 (a8 H s.heap.objs.size (.own (s.heap.objs.size+1))) (s.heap.objs.size+1) (.ins C s.heap.objs.size []))
  {s with heap:=(s.heap.push PySem.W.emptyDict).push (PySem.W.instObj C s.heap.objs.size)}:=by
 have e1:(s.heap.push PySem.W.emptyDict).get? s.heap.objs.size=some PySem.W.emptyDict:=Heap.get?_push_size s.heap rfl;have e2:((s.heap.push PySem.W.emptyDict).push (PySem.W.instObj C s.heap.objs.size)).get? (s.heap.objs.size+1)=some (PySem.W.instObj C s.heap.objs.size):=by
  have:=Heap.get?_push_size (s.heap.push PySem.W.emptyDict) (o:=PySem.W.instObj C s.heap.objs.size) rfl
  rwa [Heap.size_push]at this
 have e3:(s.heap.push PySem.W.emptyDict).Ns s.heap.objs.size (fun _=>none):=⟨PySem.W.emptyDict,#[],_,e1,rfl,(fun e he=>absurd he (by simp)),fun _=>rfl⟩
 have I1:=I.laid (a:=s.heap.objs.size) (o:=.own (s.heap.objs.size+1)) (h':=s.heap.push PySem.W.emptyDict) (t':=s.toks) (fun b u q=>Heap.get?_push_of_some _ q) (Nat.le_refl _) ⟨_,e1⟩;refine I1.laid (a:=s.heap.objs.size+1) (o:=.ins C s.heap.objs.size []) (t':=s.toks) (fun b u q=>Heap.get?_push_of_some _ q) (Nat.le_of_eq (Heap.size_push _ _)) ?_;have ne:s.heap.objs.size≠s.heap.objs.size+1:=Nat.ne_of_lt (Nat.lt_succ_self _);refine⟨by rw[aw ne,aB],Nat.zero_le _,ne,e2,fun _=>none,(Heap.Ns1.of_empty e3).at fun o q=>Heap.get?_push_of_some _ q,fun _=>True.intro,fun y hy=>absurd rfl hy⟩
end
section
variable {X:Cx}{o e value:Expr}{f:Str}{pos pos' tpos:Pos}{ta tv:TE}
end
section
variable {X:Cx}{pins:List (Addr × Obj)}{σ:St}{H:Hp}{s:Shared}{A:Around}{E:Value->Shared->Prop}{Q:Value->Shared->Prop}{c:Value}{b:Bool}
inductive iq (K:PySem.W.Frag) (H:Hp):V->Value->Prop where
 | non:iq K H .non (.type "NoneType")
 | bl (x:Bool):iq K H (.bl x) (.type "bool")
 | int (i:Int):iq K H (.int i) (.type "int")
 | str (x:Str):iq K H (.str x) (.type "str")
 | flt (x:UInt64):iq K H (.flt x) (.type "float")
 | lst {a:Addr}{xs:List V} (e:H a=some (.lst xs)):iq K H (.ref a) (.type "list")
 | frz {a:Addr}{o:Obj}{xs:List V} (e:H a=some (.frz o (.lst xs))):iq K H (.ref a) (.type "list")
 | tup {a:Addr}{xs:List V} (e:H a=some (.tup xs)):iq K H (.ref a) (.type "tuple")
 | dK {a:Addr}{kvs:List (Key × V)} (e:H a=some (.dK kvs)):iq K H (.ref a) (.type "dict")
 | dT {a:Addr}{kvs:List (List Key × V)} (e:H a=some (.dT kvs)):iq K H (.ref a) (.type "dict")
 | ins {a C dx:Addr}{fs:List (Str × V)} (e:H a=some (.ins C dx fs)) (cl:E5 K C) (ha:PySem.W.findIn K (.ref C) "__class__"=some (some (.builtin "object.__class__")))
   (hn:PySem.W.specialIn K (.builtin "object.__class__") "__get__"=some (some (.builtin "getset_descriptor.__get__"))) (htk:PySem.W.takesIn K (.builtin "object.__class__")=some true)
   (hm:PySem.W.mroIn K C (.type "object")=some true):iq K H (.ref a) (.ref C)
end
end L2
namespace L2
open PySem PySem.Spec PyProof.Rows
structure bg (k:Nat) (A:Around):Prop where
 hd:A.handled=none
 dp:A.depth+3*k+5<recursionLimit
 un:A.units+16*k+200<cLine
theorem bg.mono {j k:Nat}{A:Around}(r:bg k A)(h:j<=k):bg j A:=⟨r.hd,by have:=r.dp;omega,by have:=r.un;omega⟩
theorem bg.deeper {k:Nat}{A:Around}(r:bg (k+1) A)(env:Env):bg k (A.deeper env):=
 ⟨r.hd,by have:=r.dp;show A.depth+1+3*k+5<_;omega,by have:=r.un;show A.units+3+16*k+200<_;omega⟩
theorem bg.in1 {k:Nat}{A:Around}(r:bg (k+1) A):bg k A.in1:=
 ⟨r.hd,by have:=r.dp;show A.depth+3*k+5<_;omega,by have:=r.un;show A.units+1+16*k+200<_;omega⟩
theorem bg.depth {k:Nat}{A:Around}(r:bg k A):A.depth<recursionLimit:=by have:=r.dp;omega
theorem bg.units {k:Nat}{A:Around}(r:bg k A):A.units+64<cLine:=by have:=r.un;omega
def FU:TA:=fun _ H Q=>Q [] H
def Em (ta:TE)(tr:TA):TA:=fun σ H Q=>ta σ H fun x H1=>tr σ H1 fun xs H2=>Q (x::xs) H2
section
variable {X:Cx}{e:Expr}{es:List Expr}{te:TE}{t:TA}{pos:Pos}
theorem iT:PA X [] FU:=fun _ _ _ _ H Q I h=>Calls.spliced_nil ⟨[],H,I,.nil,h⟩
theorem cX (ha:PE X e te)(hr:PA X es t)(hs:starEach (e::es) X.env=(false,eval e X.env)::starEach es X.env:=by rfl):PA X (e::es) (Em te t):=by
 intro pos pins s σ H Q I h;rw[hs];show wpAny _ _ (spliced ((false,eval e X.env)::backTo pos (starEach es X.env))) _ _ s;refine Calls.spliced_cons (bB (ha pins s σ H _ I h) fun u s1 ⟨x,H1,I1,r1,q1⟩=>?_);exact bB (hr pos pins s1 σ H1 _ I1 q1) fun us s2 ⟨xs,H2,I2,r2,q2⟩=>⟨x::xs,H2,I2,.cons r1 r2,q2⟩
def FZ (t:TA):TE:=fun σ H Q=>t σ H fun xs H1=>xs.length<=sizeLine/\∀ p,H1 p=none->Q (.ref p) (a8 H1 p (.tup xs))
def FT (t:TA):TE:=fun σ H Q=>t σ H fun xs H1=>xs.length<=sizeLine/\∀ p,H1 p=none->Q (.ref p) (a8 H1 p (.lst xs))
theorem vI {x1}(h:PA X es t):PE X (.Tuple es x1 pos) (FZ t):=by
 intro pins s σ H Q I hq;refine wpAny_Tuple_spliced (bB (h pos pins s σ H _ I hq) fun us s1 ⟨xs,H1,I1,r,z,q⟩=>⟨by rw[<-r.length];exact z,?_⟩)
 have hf:H1 s1.heap.objs.size=none:=I1.hok.fresh (Nat.le_refl _);refine⟨.ref s1.heap.objs.size,a8 H1 s1.heap.objs.size (.tup xs),I1.laid (t':=s1.toks) (fun b u e=>Heap.get?_push_of_some _ e) (Nat.le_refl _) ?_,rfl,q _ hf⟩;exact⟨z,us,r,⟨_,Heap.get?_push_size _ rfl,rfl,_,rfl⟩⟩
theorem BE (h:PA X es t):PE X (.List es pos) (FT t):=by
 intro pins s σ H Q I hq;refine wpAny_List_spliced (bB (h pos pins s σ H _ I hq) fun us s1 ⟨xs,H1,I1,r,z,q⟩=>⟨by rw[<-r.length];exact z,?_⟩)
 have hf:H1 s1.heap.objs.size=none:=I1.hok.fresh (Nat.le_refl _);refine⟨.ref s1.heap.objs.size,a8 H1 s1.heap.objs.size (.lst xs),I1.laid (t':=s1.toks) (fun b u e=>Heap.get?_push_of_some _ e) (Nat.le_refl _) ?_,rfl,q _ hf⟩;exact⟨z,us,0,r,Heap.get?_push_size _ rfl⟩
end
abbrev Sp:=List V->Hp->VK->XK->Prop
abbrev oS:=List Env->Hp->Shared->XK->Value->Shared->Prop
structure nD (P:Program) (w:World) (K:PySem.W.Frag) (mg:Str->Option Value) (base:Heap) (A:Around) (outer:List Env) (s:Shared) (H:Hp):Prop where
 frames:A.frames=some outer
 mod:Mod K mg base
 bs:∀ b o,base.get? b=some o->s.heap.get? b=some o/\H b=none
 bsz:base.objs.size<=s.heap.objs.size
 funs:s.heap.FunFrames base outer
 frf:∀ b∈nz outer,H b=none
 hok:dR P w H s.heap
 bare:AllBare s.gens
def CE (outer:List Env)(P:Program)(w:World)(H:Hp)(s:Shared)(Q:VK)(u:Value)(s':Shared):Prop:=
 ∃ v H',s'.os=s.os/\AllBare s'.gens/\Un (nz outer) [] H H' s.heap s'.heap/\dR P w H' s'.heap/\RelV v u/\Q v H'
def CR (CX:oS)(outer:List Env)(P:Program)(w:World)(H:Hp)(s:Shared)(Q:VK)(E:XK)(r:Result)(s':Shared):Prop:=
 match r with
 | .ok (.ret u)=>CE outer P w H s Q u s'
 | .ok _=>False
 | .error e=>CX outer H s E e s'
structure de (P:Program) (w:World) (K:PySem.W.Frag) (mg:Str->Option Value) (base:Heap) (CX:oS) (k:Nat) (f:Addr) (fd:FuncData) (ps:List Str) (sp:Sp):Prop where
 len:∀ vs H Q E,sp vs H Q E->vs.length=ps.length
 run:∀ (A:Around) (outer:List Env) (s:Shared) (H:Hp) (args:Args) (us:List Value) (vs:List V) (Q:VK) (E:XK),bg k A->nD P w K mg base A outer s H->BindsTo s fd args (ps.zip us)->aA vs us->sp vs H Q E →
  codeAny (model P w) A (.call (.ref f) args) (CR CX outer P w H s Q E) s
theorem de.mono {P:Program}{w:World}{K:PySem.W.Frag}{mg:Str->Option Value}{base:Heap}{CX:oS}{j k:Nat}{f:Addr}{fd:FuncData}{ps:List Str}{sp:Sp}(F:de P w K mg base CX j f fd ps sp)(h:j<=k) :
  de P w K mg base CX k f fd ps sp:=⟨F.len,fun A outer s H args us vs Q E hr=>F.run A outer s H args us vs Q E (hr.mono h)⟩
theorem de.imp {P:Program}{w:World}{K:PySem.W.Frag}{mg:Str->Option Value}{base:Heap}{CX:oS}{k:Nat}{f:Addr}{fd:FuncData}{ps:List Str}{sp sp':Sp}(F:de P w K mg base CX k f fd ps sp)
  (h:∀ vs H Q E,sp' vs H Q E->sp vs H Q E):de P w K mg base CX k f fd ps sp':=
 ⟨fun vs H Q E q=>F.len vs H Q E (h _ _ _ _ q),fun A outer s H args us vs Q E hr he hb hv hs=>F.run A outer s H args us vs Q E hr he hb hv (h _ _ _ _ hs)⟩
theorem nD.in1 {P:Program}{w:World}{K:PySem.W.Frag}{mg:Str->Option Value}{base:Heap}{A:Around}{outer:List Env}{s:Shared}{H:Hp}(e:nD P w K mg base A outer s H) :
  nD P w K mg base A.in1 outer s H:=⟨e.frames,e.mod,e.bs,e.bsz,e.funs,e.frf,e.hok,e.bare⟩
section
variable {X:Cx}{pins:List (Addr × Obj)}{σ:St}{H:Hp}{s s':Shared}
theorem ay.env0 (I:ay X pins σ H s):nD X.prog X.w X.K X.mg X.base X.A X.stack s H:=
 ⟨I.ok.frames,I.ok.mod,I.bs,Nat.le_trans I.ok.bsz I.sz,I.stack,I.stkFree,I.hok,I.bare⟩
theorem ay.after {Q:VK}{u:Value}(I:ay X pins σ H s)(h:CE X.stack X.prog X.w H s Q u s'):EP X pins σ Q u s':=by
 obtain⟨v,H',os,bare,un,hok,r,q⟩:=h;obtain⟨hh,g,d,t,os'⟩:=s';obtain rfl:os'=s.os:=os;exact⟨v,H',I.call (h':=hh) (g':=g) (d':=d) (t':=t) (ch:=[]) un hok bare (fun b z=>absurd z (by simp)),r,q⟩
end
def zD (sp:Sp)(dvs:List V)(E:XK)(t:TA):TE:=fun σ H Q=>t σ H fun vs H1=>sp (vs++dvs) H1 Q E
def Binds (K:PySem.W.Frag)(fd:FuncData)(ps:List Str)(ds:List Value):Prop:=
 ∀ (s:Shared) (us:List Value),K.In s.heap->(us++ds).length=ps.length->BindsTo s fd ⟨us,[]⟩ (ps.zip (us++ds))
theorem Binds.all {K:PySem.W.Frag}{fd:FuncData}{ps:List Str}(h:∀ us:List Value,us.length=ps.length->bindArgs fd ⟨us,[]⟩=pure (ps.zip us)):Binds K fd ps []:=fun s us _ hl=>by
 rw[List.append_nil]at hl ⊢;exact .of_eq (h us hl)
def nG (CX:oS)(X:Cx)(E:XK):Prop:=∀ (pins:List (Addr × Obj)) (σ:St) (H:Hp) (s:Shared) (e:Value) (s':Shared),ay X pins σ H s->CX X.stack H s E e s'->X.xe e s'
section
variable {X:Cx}{CX:oS}{k:Nat}{f C:Addr}{fd:FuncData}{ps:List Str}{sp:Sp}{dvs:List V}{ds:List Value}{E:XK}{x m:Str}{p pos apos:Pos}{e o:Expr}{es:List Expr}{ta:TE}{t:TA}
theorem BY {pins:List (Addr × Obj)}{σ:St}{H:Hp}{s:Shared}{Q:VK}{us:List Value}{vs:List V}(F:de X.prog X.w X.K X.mg X.base CX k f fd ps sp)(hr:bg k X.A)(hb:Binds X.K fd ps ds)(hd:aA dvs ds)(hx:nG CX X E)
  (I:ay X pins σ H s) (r:aA vs us) (h:sp (vs++dvs) H Q E):wpAny (model X.prog X.w) X.A (call (.ref f) us) (EP X pins σ Q) X.xe s:=by
 have r2:aA (vs++dvs) (us++ds):=r.append hd;have hl:(us++ds).length=ps.length:=by rw[<-r2.length];exact F.len _ _ _ _ h
 refine wpAny_call (codeAny_mono (F.run X.A X.stack s H ⟨us,[]⟩ (us++ds) (vs++dvs) Q E hr I.env0 (hb s us I.kIn hl) r2 h) fun r s' hq=>?_)
 cases r with
 | error e=>exact hx pins σ H s e s' I hq
 | ok fl=>
  cases fl with
  | ret u=>exact I.after hq
  | next=>exact False.elim hq
  | brk=>exact False.elim hq
  | cont=>exact False.elim hq
theorem pI (F:de X.prog X.w X.K X.mg X.base CX k f fd ps sp)(hr:bg k X.A)(hg:Gl X x)(hm:X.mg x=some (.ref f))(hk:PySem.W.keepIn X.K (.ref f)=true)(hb:Binds X.K fd ps ds)(hd:aA dvs ds)(hx:nG CX X E)
  (ha:PA X (e::es) t) (hdb:(x == ("__debug__":Str))=false:=by decide) (he:starEach (e::es) X.env=(false,eval e X.env)::starEach es X.env:=by rfl) (hpl:(backTo pos (starEach es X.env)).any (·.1)=false:=by rfl) :
  PE X (.Call (.Name x p) (e::es) [] pos) (zD sp dvs E t):=by
 intro pins s σ H Q I h;refine wpAny_Call_Name_kw (xO I hg hm ?_ hdb);refine PySem.W.callWith_K (h₀:=X.base) I.ok.mod.kin hk (bB (ha pos pins s σ H _ I h) fun us s1 ⟨vs,H1,I1,r,q⟩=>⟨I1.kIn,?_⟩) he hpl;exact BY F hr hb hd hx I1 r q
structure Mk (K:PySem.W.Frag) (C f:Addr):Prop where
 makes:PySem.W.makesIn K C=true
 init:PySem.W.findIn K (.ref C) "__init__"=some (some (.ref f))
 fn:PySem.W.isFn K (.ref f)=true
 kp:PySem.W.keepIn K (.ref C)=true
end
section
variable {X:Cx}{CX:oS}{k:Nat}{f C:Addr}{fd:FuncData}{ps ks:List Str}{sp:Sp}{E:XK}{x m:Str}{p pos apos kpos:Pos}{e o:Expr}{es:List Expr}{kws:List Keyword}{te ta:TE}{t tk:TA}{nm:Option Str}
structure Fa (K:PySem.W.Frag) (fd:FuncData) (ps ks:List Str) (g:List Value->List Value->List Value) (gV:List V->List V->List V):Prop where
 to:∀ (s:Shared) (us ws:List Value),K.In s.heap->(g us ws).length=ps.length->BindsTo s fd ⟨us,ks.zip ws⟩ (ps.zip (g us ws))
 rel:∀ {vs:List V}{us:List Value}{zs:List V}{ws:List Value},aA vs us->aA zs ws->aA (gV vs zs) (g us ws)
variable {g:List Value->List Value->List Value}{gV:List V->List V->List V}
end
structure aF (N P:List Str) (sc:Scope):Prop where
 kind:sc.kind=.function
 co:sc.isCoroutine=false
 gen:sc.isGenerator=false
 nd:N.Nodup
 pre:N.take P.length=P
 par:∀ x∈P,sc.names.lookup x=some .local\/sc.names.lookup x=some .cell
 nofree:∀ y∈sc.names,y.2≠.free
theorem jJ {kindOf:Str->Option NameKind}{x:Str}:∀ {binds:List (Str × Value)}{m:Str->Option Value},(∀ v,(x,v)∉binds)->bindL kindOf binds m x=m x
 | [],_,_=>rfl
 | (n,v)::r,m,h=>by
  unfold bindL;rw[jJ fun w hw=>h w (List.mem_cons_of_mem _ hw)]
  split
  ·have:x≠n:=by rintro rfl;exact h v List.mem_cons_self
   simp[this]
  ·rfl
theorem jH {kindOf:Str->Option NameKind}{x:Str}:∀ {binds:List (Str × Value)}{m:Str->Option Value},(∀ v,(x,v)∉binds)->bindC kindOf binds m x=m x
 | [],_,_=>rfl
 | (n,v)::r,m,h=>by
  unfold bindC;rw[jH fun w hw=>h w (List.mem_cons_of_mem _ hw)]
  split
  ·rfl
  ·have:x≠n:=by rintro rfl;exact h v List.mem_cons_self
   simp[this]
theorem jI {kindOf:Str->Option NameKind}{x:Str}{v:Value}:∀ {P:List Str}{vs:List Value}{i:Nat}{m:Str->Option Value},P.Nodup->P[i]?=some x->vs[i]?=some v->kindOf x=some .local →
  bindL kindOf (P.zip vs) m x=some v
 | [],_,_,_,_,h,_,_=>by simp at h
 | _::_,[],_,_,_,_,h,_=>by simp at h
 | p::P,w::vs,0,m,nd,h1,h2,hk=>by
  simp at h1 h2;subst h1;subst h2;show bindL kindOf ((p,w)::P.zip vs) m p=_;unfold bindL;rw[jJ fun v hv=>(List.nodup_cons.mp nd).1 (List.of_mem_zip hv).1,if_pos hk];simp
 | p::P,w::vs,i+1,m,nd,h1,h2,hk=>by
  show bindL kindOf ((p,w)::P.zip vs) m x=_;unfold bindL;exact jI (i:=i) (List.nodup_cons.mp nd).2 (by simpa using h1) (by simpa using h2) hk
theorem jG {kindOf:Str->Option NameKind}{x:Str}{v:Value}:∀ {P:List Str}{vs:List Value}{i:Nat}{m:Str->Option Value},P.Nodup->P[i]?=some x->vs[i]?=some v->kindOf x≠some .local →
  bindC kindOf (P.zip vs) m x=some v
 | [],_,_,_,_,h,_,_=>by simp at h
 | _::_,[],_,_,_,_,h,_=>by simp at h
 | p::P,w::vs,0,m,nd,h1,h2,hk=>by
  simp at h1 h2;subst h1;subst h2;show bindC kindOf ((p,w)::P.zip vs) m p=_;unfold bindC;rw[jH fun v hv=>(List.nodup_cons.mp nd).1 (List.of_mem_zip hv).1,if_neg hk];simp
 | p::P,w::vs,i+1,m,nd,h1,h2,hk=>by
  show bindC kindOf ((p,w)::P.zip vs) m x=_;unfold bindC;exact jG (i:=i) (List.nodup_cons.mp nd).2 (by simpa using h1) (by simpa using h2) hk
def start (N:List Str)(vs:List V):St:=vs.map some++List.replicate (N.length-vs.length) none
def gU (CX:oS)(P:Program)(w:World)(K:PySem.W.Frag)(mg:Str->Option Value)(base:Heap)(N:List Str)(qual:Str)(scope:Scope)(f:Addr)(cd:Value)(A:Around)(outer:List Env)(s:Shared)(H:Hp)(E:XK):Cx where
 prog:=P
 w:=w
 K:=K
 mg:=mg
 base:=base
 A:=A.deeper (envOfC qual scope s.heap.objs.size f cd)
 N:=N
 s₀:=s
 H₀:=H
 env:=envOfC qual scope s.heap.objs.size f cd
 outer:=outer
 stack:=envOfC qual scope s.heap.objs.size f cd::outer
 ex:=[]
 calm:=true
 fn:=fun _=>true
 pn:=[]
 xe:=fun e s'=>wpAny (model P w) (A.deeper (envOfC qual scope s.heap.objs.size f cd)) (leaving (envOfC qual scope s.heap.objs.size f cd) e) (fun _ s''=>CX outer H s E e s'') (fun e' s''=>CX outer H s E e' s'') s'
theorem l7 {sc:Scope}{n:Nat}{x:Str}(h:sc.names.lookup x=some .cell):∃ c,(cellsFrom n sc.names []).lookup x=some c:=by
 have q:=PySem.W.cellsFrom_some sc.names n [] (.inl h);exact Option.isSome_iff_exists.mp q
theorem qD {CX:oS}{P:Program}{w:World}{K:PySem.W.Frag}{mg:Str->Option Value}{base:Heap}{N ps:List Str}{qual:Str}{scope:Scope}{f:Addr}{cd:Value}{A:Around}{outer:List Env}{s s1:Shared}{H:Hp}{E:XK}{us:List Value}{vs:List V}
  (S:aF N ps scope) (hd:A.handled=none) (e0:nD P w K mg base A outer s H) (hl:vs.length=ps.length) (r:aA vs us)
  (x:InCallC s s.heap.objs.size (bindL (envOfC qual scope s.heap.objs.size f cd).kindOf (ps.zip us) fun _=>none) (cellsFrom (s.heap.objs.size+1) scope.names []) (bindC (envOfC qual scope s.heap.objs.size f cd).kindOf (ps.zip us) fun _=>none) s1) :
  ay (gU CX P w K mg base N qual scope f cd A outer s H E) [] (start N vs) H s1:=by
 have hpl:ps.length<=N.length:=by have:=congrArg List.length S.pre;rw[List.length_take]at this;omega
 obtain⟨h1,tk,rfl,hk⟩:=x.done;have noA:∀ b:Addr,b∉(gU CX P w K mg base N qual scope f cd A outer s H E).ex:=fun b z=>absurd (show b∈([]:List Addr) from z) (by simp)
 refine⟨⟨e0.mod,S.kind,rfl,rfl,Nat.le_refl _,fun y z c h1 h2=>?_,fun y hy=>?_,fun y c _ h=>?_,fun _=>hd,Around.frames_deeper e0.frames,.inr ⟨rfl,rfl⟩,fun b z=>absurd z (noA b),e0.bs,e0.bsz,fun b _ _=>noA b,fun b z=>absurd z (noA b),e0.funs,e0.frf⟩,
  rfl,e0.bare,Un.kept hk,⟨_,x.toInCall.ns,fun i y v h1 h2 h3=>?_⟩,fun y c h=>⟨_,x.cell y c h⟩,e0.hok.fresh (Nat.le_refl _),fun y c h=>?_,fun p hp=>absurd (show p∈([]:List (Addr × Obj)) from hp) (by simp),e0.hok.kept hk,?_⟩
 ·exact name_of_addr x.apart (PySem.mem_of_lookup h1) (PySem.mem_of_lookup h2)
 ·have hy:scope.names.lookup y=some .cell\/scope.names.lookup y=some .free:=hy
  rcases hy with hy|hy
  ·exact l7 hy
  ·exact absurd rfl (S.nofree _ (PySem.mem_of_lookup hy))
 ·exact Nat.le_of_lt (x.above y c (PySem.mem_of_lookup h))
 ·have hi:i<vs.length:=by
   unfold start at h2
   by_cases hi:i<vs.length
   ·exact hi
   ·rw[List.getElem?_append_right (by simpa using hi)]at h2
    rw[List.getElem?_replicate]at h2
    split at h2 <;> cases h2
  have ha:vs[i]?=some v:=by
   unfold start at h2;rw[List.getElem?_append_left (by simpa using hi),List.getElem?_map]at h2
   cases e:vs[i]? with
   | none=>rw[e]at h2;cases h2
   | some a=>rw[e]at h2;cases h2;rfl
  obtain⟨u,hu,rv⟩:=r.get ha;have hp:ps[i]?=some y:=by
   rw[<-S.pre,List.getElem?_take_of_lt (by omega)];exact h1
  have ndP:ps.Nodup:=by rw[<-S.pre];exact S.nd.sublist (List.take_sublist _ _)
  refine⟨u,rv,?_⟩
  rcases S.par y (List.mem_of_getElem? hp) with k|k
  ·exact .inl ⟨k,jI ndP hp hu k⟩
  ·obtain⟨c,e⟩:=l7 (n:=s.heap.objs.size+1) k;refine .inr ⟨.inl k,c,e,?_⟩;have q:=x.cell y c e;rw[jG ndP hp hu (by show scope.names.lookup y≠_;rw[k];decide)]at q
   exact q
 ·exact e0.hok.fresh (Nat.le_of_lt (x.above y c (PySem.mem_of_lookup h)))
 ·unfold start;show _=N.length;rw[List.length_append,List.length_map,List.length_replicate];omega
theorem DI {CX:oS}{P:Program}{w:World}{K:PySem.W.Frag}{mg:Str->Option Value}{base:Heap}{k:Nat}{f:Addr}{name qual:Str}{params:Arguments}{body:List Stmt}{scope:Scope}{dV kV doc pm cdv ct oc:Value}{an od:Option Addr}
  {osl:Array (Option Value)}{N ps:List Str}{sp:Sp} (lk:K.lookup f=some ⟨oc,od,.func (PySem.W.fnOf name qual params body scope dV kV doc pm an cdv ct),osl⟩) (hcd:PySem.W.codeIn K cdv qual=true) (S:aF N ps scope)
  (len:∀ vs H Q E,sp vs H Q E->vs.length=ps.length)
  (hbody:∀ (A:Around) (outer:List Env) (s:Shared) (H:Hp) (vs:List V) (Q:VK) (E:XK),bg k (A.deeper (envOfC qual scope s.heap.objs.size f cdv))->sp vs H Q E →
   ∃ t,cy (gU CX P w K mg base N qual scope f cdv A outer s H E) body t/\t {nx:=fun _ H'=>Q .non H',rt:=Q} (start N vs) H) :
  de P w K mg base CX (k+1) f (PySem.W.fnOf name qual params body scope dV kV doc pm an cdv ct) ps sp:=by
 refine⟨len,fun A outer s H args us vs Q E hr e0 hb r hsp=>?_⟩;have hl:=len _ _ _ _ hsp;have KX:K.In s.heap:=e0.mod.kin.keeps fun b o e=>(e0.bs b o e).1;have lim:s.heap.NoLimit:=e0.mod.nolimit.keeps fun b o e=>(e0.bs b o e).1;have hkind:∀ y∈ps.zip us,scope.names.lookup y.1=some .local\/(scope.names.lookup y.1=some .cell/\((cellsFrom (s.heap.objs.size+1) scope.names []).lookup y.1).isSome=true):=fun ⟨n,v⟩ hy=>by
  rcases S.par n (List.of_mem_zip hy).1 with q|q
  ·exact .inl q
  ·exact .inr ⟨q,PySem.W.cellsFrom_some _ _ _ (.inl q)⟩
 refine codeAny_call_function hr.depth (KX _ _ lk) rfl S.co S.gen rfl (PySem.W.codeRec_of KX hcd) (hb _ _ _ _ ?_);refine wpAny_newFunctionEnv_cells S.kind hkind fun env he s1 x=>?_;subst he;refine⟨lim.keeps x.toInCall.keep,codeAny_func ?_⟩;obtain⟨t,ht,hq⟩:=hbody A outer s H vs Q E (hr.deeper _) hsp;have I:ay (gU CX P w K mg base N qual scope f cdv A outer s H E) [] (start N vs) H s1:=qD S hr.hd e0 hl r x;refine wpAny_mono (ht [] s1 (start N vs) H _ I hq) (fun fl s' hs=>?_) fun e s' hs=>hs;have fin:∀ {σ':St}{H':Hp}{v:V}{u:Value},ay (gU CX P w K mg base N qual scope f cdv A outer s H E) [] σ' H' s'->RelV v u->Q v H'->CE outer P w H s Q u s':=
  fun {σ' H' v u} J rv q=>⟨v,H',J.os,J.bare,J.base,J.hok,rv,q⟩
 cases fl with
 | ret u=>
  obtain⟨v,σ',H',J,rv,q⟩:=hs;exact fin J rv q
 | next=>
  obtain⟨σ',H',J,q⟩:=hs;exact fin (v:=V.non) (u:=Value.none) J rfl q
 | brk=>
  obtain⟨_,_,_,q⟩:=hs;exact False.elim q
 | cont=>
  obtain⟨_,_,_,q⟩:=hs;exact False.elim q
end L2
namespace L2
open PySem PySem.Spec PyProof.Rows
section
variable {X:Cx}{x:Str}{p pos:Pos}{e:Expr}{es:List Expr}{t:TA}{id T:String}{r:List V->Hp->VK->Prop}
def FQ (r:List V->Hp->VK->Prop)(t:TA):TE:=fun σ H Q=>t σ H fun vs H1=>r vs H1 Q
theorem m9 (hc:cS X (.builtin id) r) (hg:Gl X x) (hm:X.mg x=none) (hv:bootBuiltins x=some (.builtin id)) (ha:PA X (e::es) t) (hn:x≠"__name__":=by decide) (hdb:(x == ("__debug__":Str))=false:=by decide)
  (he:starEach (e::es) X.env=(false,eval e X.env)::starEach es X.env:=by rfl) (hpl:(backTo pos (starEach es X.env)).any (·.1)=false:=by rfl):PE X (.Call (.Name x p) (e::es) [] pos) (FQ r t):=by
 intro pins s σ H Q I h;refine wpAny_Call_Name_kw (fk I hg hm hv ?_ hn hdb);exact PyProof.Rows.callWith_builtin1 (bB (ha pos pins s σ H _ I h) fun us s1 ⟨vs,H1,I1,r1,q1⟩=>hc pins s1 σ H1 vs us Q I1 r1 q1) he hpl
theorem qR (hc:cS X (.type T) r) (hg:Gl X x) (hm:X.mg x=none) (hv:bootBuiltins x=some (.type T)) (ha:PA X (e::es) t) (hn:x≠"__name__":=by decide) (hdb:(x == ("__debug__":Str))=false:=by decide)
  (he:starEach (e::es) X.env=(false,eval e X.env)::starEach es X.env:=by rfl) (hpl:(backTo pos (starEach es X.env)).any (·.1)=false:=by rfl):PE X (.Call (.Name x p) (e::es) [] pos) (FQ r t):=by
 intro pins s σ H Q I h;refine wpAny_Call_Name_kw (fk I hg hm hv ?_ hn hdb);exact PyProof.Rows.callWith_type1 (bB (ha pos pins s σ H _ I h) fun us s1 ⟨vs,H1,I1,r1,q1⟩=>hc pins s1 σ H1 vs us Q I1 r1 q1) he hpl
end
end L2
namespace HT
open PySem PyProof.Rows
section
open PySem.SeqAt
open PySem.AutoSeq1 (wpAny_loadPart')
open PySem.MeetsSeq PySem.MeetsSeq2 PySem.MeetsSeq3
end
section
variable {prog:Program}{w:World}{A:Around}{E:Value->Shared->Prop}{s:Shared}
def sIx (n d:Nat):Option Int->Nat
 | none=>d
 | some v=>if v<0 then (v+(n:Int)).toNat else min v.toNat n
end
end HT
namespace L2
open PySem PySem.Spec PyProof.Rows
abbrev TO:=St->Hp->(Option Int->Hp->Prop)->Prop
section
variable {X:Cx}{e:Expr}{te:TE}{lo hi:Option Expr}{tl th:TO}{pos p2:Pos}
def EM (X:Cx)(r:V->Option Int->Option Int->Hp->VK->Prop):Prop:=
 ∀ (pins:List (Addr × Obj)) (s:Shared) (σ:St) (H:Hp) (x:V) (v vl vu:Value) (lo hi:Option Int) (sl:Addr) (Q:VK),ay X pins σ H s->RelV x v->s.heap.IsSliceOf sl vl vu .none->IsPart vl lo->IsPart vu hi->r x lo hi H Q →
  ∃ T id,typeLookup (.type T) "__getitem__"=pure (some (.builtin id))/\s.TypeIs v T/\wpAny (model X.prog X.w) X.A (getItem v (.ref sl)) (EP X pins σ Q) X.xe s
theorem EM.or {r r':V->Option Int->Option Int->Hp->VK->Prop}(h:EM X r)(h':EM X r'):EM X (fun x lo hi H Q=>r x lo hi H Q\/r' x lo hi H Q):=by
 intro pins s σ H x v vl vu lo hi sl Q I rx hs pl pu q
 rcases q with q|q
 ·exact h pins s σ H x v vl vu lo hi sl Q I rx hs pl pu q
 ·exact h' pins s σ H x v vl vu lo hi sl Q I rx hs pl pu q
end
end L2
namespace L2
open PySem PySem.Spec PyProof.Rows
def qE (n:Nat)(i:Int):Option Nat:=if 0<=i then (if i<n then some i.toNat else none) else if -(n:Int)<=i then some (i+n).toNat else none
def atI {α:Type}(xs:List α)(i:Int):Option α:=(qE xs.length i).bind fun j=>xs[j]?
theorem pq {n:Nat}{i:Int}{j:Nat}(h:qE n i=some j):seqIndex? i n=some j/\j<n/\-(n:Int)<=i/\i<n:=by
 unfold qE at h
 by_cases h0:0<=i
 ·rw[if_pos h0]at h
  by_cases h1:i<n
  ·rw[if_pos h1]at h;have e:i.toNat=j:=Option.some.inj h;exact⟨by rw[seqIndex_of h0 h1,e],by omega,by omega,h1⟩
  ·rw[if_neg h1]at h;cases h
 ·rw[if_neg h0]at h
  by_cases h1:-(n:Int)<=i
  ·rw[if_pos h1]at h;have e:(i+n).toNat=j:=Option.some.inj h;exact⟨by rw[seqIndex_neg (by omega) h1,e],by omega,h1,by omega⟩
  ·rw[if_neg h1]at h;cases h
theorem oY {α:Type}{xs:List α}{i:Int}{v:α}(h:atI xs i=some v):∃ j,seqIndex? i xs.length=some j/\xs[j]?=some v/\j<xs.length/\-(xs.length:Int)<=i/\i<xs.length:=by
 unfold atI at h
 cases e:qE xs.length i with
 | none=>rw[e]at h;cases h
 | some j=>
  rw[e]at h;obtain⟨h1,h2,h3,h4⟩:=pq e;exact⟨j,h1,h,h2,h3,h4⟩
theorem xc {α:Type}{xs:List α}{j:Nat}{v:α}(h:xs[j]?=some v):atI xs (j:Int)=some v:=by
 have hj:j<xs.length:=(List.getElem?_eq_some_iff.mp h).1;have e:qE xs.length (j:Int)=some j:=by
  unfold qE;rw[if_pos (by omega),if_pos (by omega)];simp
 unfold atI;rw[e];exact h
def oV (b:Expr):Prop:=∀ o i,subscripted b false o i=operate [o,i] (getItem o i)
def zL (X:Cx)(r:R2):Prop:=
 ∀ (value slice:Expr) (pins:List (Addr × Obj)) (s:Shared) (σ:St) (H:Hp) (x y:V) (v u:Value) (Q:VK),ay X pins σ H s->RelV x v->RelV y u->r x y H Q →
  subscripted slice false v u=operate [v,u] (getItem v u)->wpAny (model X.prog X.w) X.A (subscriptTail value slice v u) (EP X pins σ Q) X.xe s
def CH (X:Cx)(id:String)(r:V->List V->Hp->VK->Prop):Prop:=
 ∀ (pins:List (Addr × Obj)) (s:Shared) (σ:St) (H:Hp) (x:V) (xs:List V) (v:Value) (us:List Value) (Q:VK),ay X pins σ H s->RelV x v->aA xs us->r x xs H Q →
  wpAny (model X.prog X.w) X.A (call (.builtin id) (v::us)) (EP X pins σ Q) X.xe s
section
variable {X:Cx}{a b:Expr}{ta tb:TE}{pos:Pos}
theorem zL.or {r r':R2}(h:zL X r)(h':zL X r'):zL X (fun x y H Q=>r x y H Q\/r' x y H Q):=by
 intro value slice pins s σ H x y v u Q I rx ry q hs
 rcases q with q|q
 ·exact h value slice pins s σ H x y v u Q I rx ry q hs
 ·exact h' value slice pins s σ H x y v u Q I rx ry q hs
theorem CH.or {id:String}{r r':V->List V->Hp->VK->Prop}(h:CH X id r)(h':CH X id r'):CH X id (fun x xs H Q=>r x xs H Q\/r' x xs H Q):=by
 intro pins s σ H x xs v us Q I rx rs q
 rcases q with q|q
 ·exact h pins s σ H x xs v us Q I rx rs q
 ·exact h' pins s σ H x xs v us Q I rx rs q
theorem D9 {r:R2}(hr:zL X r)(ha:PE X a ta)(hb:PE X b tb)(hs:oV b):PE X (.Subscript a b pos) (Er r ta tb):=by
 intro pins s σ H Q I h;exact Subscript_ (Av ha hb I h fun v u s2 x y H2 I2 rx ry q=>hr a b pins s2 σ H2 x y v u Q I2 rx ry q (hs _ _))
def Ed (K:PySem.W.Frag):R2:=fun x y H Q=>∃ p xs i v,x=.ref p/\y=.int i/\ca K H p xs/\atI xs i=some v/\Q v H
def Ee (K:PySem.W.Frag):R2:=fun x y H Q=>∃ p xs i v,x=.ref p/\y=.int i/\dy K H p xs/\atI xs i=some v/\Q v H
theorem xJ:zL X (Ed X.K):=by
 intro value slice pins s σ H x y v u Q I rx ry h hs;obtain⟨p,xs,i,z,rfl,rfl,hq,he,q⟩:=h
 cases rx
 obtain⟨t,rfl⟩:=ry;obtain⟨its,r,pl,hz⟩:=I.list hq;obtain⟨j,h1,h2,h3,h4,h5⟩:=oY he;obtain⟨w,ew,rw'⟩:=r.get h2;have hl:=r.length;have hn:=lA;have fin:EP X pins σ Q w s:=⟨z,H,I,rw',q⟩
 by_cases h0:0<=i
 ·have hj:i.toNat=j:=by
   rw[seqIndex_of h0 h5]at h1;exact Option.some.inj h1
  exact item_listR pl.isList h0 (by omega) (by rw[hj];simpa using ew) fin hs
 ·have hj:(i+(its.toArray.size:Int)).toNat=j:=by
   rw[seqIndex_neg (by omega) h4]at h1
   rw[List.size_toArray,<-hl];exact Option.some.inj h1
  exact subscriptTail_builtinR (x:=w) pl.isList.typeIs slot_list_getitem.lookup
   (wpAny_getItem_list_neg (Q:=fun r s'=>r=w/\EP X pins σ Q r s') pl.isList (by omega) (by rw[List.size_toArray] <;> omega) (by omega) (by rw[hj];simpa using ew) ⟨rfl,fin⟩) hs
theorem A7:zL X (Ee X.K):=by
 intro value slice pins s σ H x y v u Q I rx ry h hs;obtain⟨p,xs,i,z,rfl,rfl,hq,he,q⟩:=h
 cases rx
 obtain⟨t,rfl⟩:=ry;obtain⟨its,r,pl,hz⟩:=I.tuple hq;obtain⟨j,h1,h2,h3,h4,h5⟩:=oY he;obtain⟨w,ew,rw'⟩:=r.get h2;have hl:=r.length;have hn:=lA;have fin:EP X pins σ Q w s:=⟨z,H,I,rw',q⟩;exact subscriptTail_builtinR (x:=w) pl.typeIs slot_tuple_getitem.lookup
  (getItem_tuple (j:=j) (Q:=fun r s'=>r=w/\EP X pins σ Q r s') pl (by omega) (by omega) (by rw[List.size_toArray,<-hl];exact h1) (by simpa using ew) ⟨rfl,fin⟩) hs
theorem oj (its:List Value) (n j:Nat) (u:Value):Obj.mapSeq (·.setIfInBounds j u) {cls:=.type "list",data:=.seq its.toArray n}={cls:=.type "list",data:=.seq (its.set j u).toArray n}:=by
 simp[Obj.mapSeq]
theorem ay.lst {pins:List (Addr × Obj)}{σ:St}{H:Hp}{s:Shared}{p:Addr}{xs:List V}(I:ay X pins σ H s)(h:H p=some (.lst xs)) :
  ∃ (its:List Value) (n:Nat),aA xs its/\s.heap.get? p=some {cls:=.type "list",data:=.seq its.toArray n}/\xs.length<=sizeLine:=by
 obtain⟨z,its,n,r,e⟩:=I.hok p _ h;exact⟨its,n,r,e,z⟩
theorem ay.lstUpd {pins:List (Addr × Obj)}{σ:St}{H:Hp}{s:Shared}{p:Addr}{xs ys:List V}{its its':List Value}{n n':Nat}{f:Obj->Obj}(I:ay X pins σ H s)(h:H p=some (.lst xs))
  (ho:s.heap.get? p=some {cls:=.type "list",data:=.seq its.toArray n}) (hf:f {cls:=.type "list",data:=.seq its.toArray n}={cls:=.type "list",data:=.seq its'.toArray n'}) (r:aA ys its') (hz:ys.length<=sizeLine) (t:Nat) :
  ay X pins σ (a8 H p (.lst ys)) {s with heap:=s.heap.update p f,toks:=t}:=by
 have e:(s.heap.update p f).get? p=some {cls:=.type "list",data:=.seq its'.toArray n'}:=by
  rw[Heap.get?_update_self f ho (by rw[hf] <;> rfl),hf]
 refine I.write (x:=p) (e:=p) (by rw[h];trivial) (.inl rfl) (fun b u hb q=>(Heap.get?_update_other _ _ (Ne.symm hb)).trans q) ⟨_,e⟩ ?_
 exact⟨hz,its',n',r,e⟩
def Ef:V->V->V->Hp->(Hp->Prop)->Prop:=fun o i v H Q=>∃ p xs k j,o=.ref p/\i=.int k/\H p=some (.lst xs)/\qE xs.length k=some j/\Q (a8 H p (.lst (xs.set j v)))
theorem set_list:CK X Ef:=by
 intro pins s σ H o i v ov iv u Q I ro ri rv h;obtain⟨p,xs,k,j,rfl,rfl,hp,hj,q⟩:=h
 cases ro
 obtain⟨t,rfl⟩:=ri;obtain⟨its,n,r,ho,hz⟩:=I.lst hp;obtain⟨h1,h2,h3,h4⟩:=pq hj;have hl:=r.length;have hn:=lA;have I':ay X pins σ (a8 H p (.lst (xs.set j v))) {s with heap:=s.heap.update p (Obj.mapSeq (·.setIfInBounds j u))}:=
  I.lstUpd hp ho (oj its n j u) (r.set rv j) (by rw[List.length_set];exact hz) s.toks
 by_cases h0:0<=k
 ·have hk:k.toNat=j:=by
   rw[seqIndex_of h0 h4]at h1;exact Option.some.inj h1
  exact PySem.W.ki_setAt ho h0 (by omega) (by rw[List.size_toArray,<-hl];exact h4) (by rw[hk];exact⟨_,I',q⟩)
 ·have hk:(k+(its.toArray.size:Int)).toNat=j:=by
   rw[seqIndex_neg (by omega) h3]at h1
   rw[List.size_toArray,<-hl];exact Option.some.inj h1
  exact PySem.W.ki_setBack ho (by omega) (by rw[List.size_toArray,<-hl];exact h3) (by omega) (by rw[hk];exact⟨_,I',q⟩)
theorem kz:cS X (.builtin "len") (fun xs H Q=>∃ p ys,xs=[.ref p]/\(ca X.K H p ys\/dy X.K H p ys)/\Q (.int ys.length) H):=by
 intro pins s σ H xs us Q I r h;obtain⟨p,ys,rfl,hq,q⟩:=h;obtain⟨u,rfl,rx⟩:=vals1 r
 cases rx
 have hn:=lA
 rcases hq with hq|hq
 ·obtain⟨its,r',pl,hz⟩:=I.list hq;have hlen:=r'.length;exact Calls.call_len_list pl.isList (by simp only[List.size_toArray] <;> omega) ⟨.int ys.length,H,I.tok _,⟨s.toks+1,by rw[List.size_toArray,hlen]⟩,q⟩
 ·obtain⟨its,r',pl,hz⟩:=I.tuple hq;have hlen:=r'.length;exact len_tuple pl (by simp only[List.size_toArray] <;> omega) ⟨.int ys.length,H,I.tok _,⟨s.toks+1,by rw[List.size_toArray,hlen]⟩,q⟩
theorem cS.or {f:Value}{r r':List V->Hp->VK->Prop}(h:cS X f r)(h':cS X f r'):cS X f (fun xs H Q=>r xs H Q\/r' xs H Q):=by
 intro pins s σ H xs us Q I rs q
 rcases q with q|q
 ·exact h pins s σ H xs us Q I rs q
 ·exact h' pins s σ H xs us Q I rs q
theorem kA:cS X (.type "list") (fun xs H Q=>∃ p ys,xs=[.ref p]/\(ca X.K H p ys\/dy X.K H p ys)/\∀ l,H l=none->Q (.ref l) (a8 H l (.lst ys))):=by
 intro pins s σ H xs us Q I r h;obtain⟨p,ys,rfl,hq,q⟩:=h;obtain⟨u,rfl,rx⟩:=vals1 r
 cases rx
 have fin:∀ (its:List Value),aA ys its->ys.length<=sizeLine->∀ (h':Heap) (c':Nat),(∀ b o',s.heap.get? b=some o'->h'.get? b=some o') →
   h'.get? s.heap.objs.size=some {cls:=.type "list",dict:=none,data:=.seq its.toArray c',slots:=#[]}->EP X pins σ Q (.ref s.heap.objs.size) {s with heap:=h'}:=fun its r' hz h' c' kp e=>
  ⟨.ref s.heap.objs.size,_,I.laid (t':=s.toks) kp (Nat.le_refl _) (show bh X.prog X.w _ h' _ (.lst ys) from⟨hz,its,c',r',e⟩),rfl,q _ (I.hok.fresh (Nat.le_refl _))⟩
 rcases hq with hq|hq
 ·obtain⟨its,r',pl,hz⟩:=I.list hq;have hlen:=r'.length;obtain⟨o,ho,hc,n,hd⟩:=pl.isList;exact call_list_seq p (.inl rfl) ho hc hd (fun h' c' kp e=>fin its r' hz h' c' kp e) (by simp only[List.size_toArray] <;> omega)
 ·obtain⟨its,r',pl,hz⟩:=I.tuple hq;have hlen:=r'.length;obtain⟨o,ho,hc,n,hd⟩:=pl;exact call_list_seq p (.inr rfl) ho hc hd (fun h' c' kp e=>fin its r' hz h' c' kp e) (by simp only[List.size_toArray] <;> omega)
def Gy (K:PySem.W.Frag)(T:String)(x:V)(H:Hp):Prop:=match x with
 | .str _=>T="str"
 | .int _=>T="int"
 | .ref p=>(T="list"/\∃ xs,ca K H p xs)\/(T="tuple"/\∃ o,K.lookup p=some o/\o.cls=.type "tuple"/\o.dict=none) ∨
   (T="dict"/\((∃ kvs,H p=some (.dK kvs))\/∃ kvs,H p=some (.dT kvs)))\/(T="set"/\∃ S n,H p=some (.set S n))
 | _=>False
theorem Cd {pins:List (Addr × Obj)}{σ:St}{H:Hp}{s:Shared}{T:String}{x:V}{v:Value}(I:ay X pins σ H s)(r:RelV x v)(ty:Gy X.K T x H) :
  s.TypeIs v T/\∀ a,v=.ref a->∃ ob,s.heap.get? a=some ob/\ob.dict=none:=by
 cases x with
 | str z=>
  obtain⟨t,rfl⟩:=r
  cases (show T="str" from ty)
  exact⟨typeIs_str s z t,fun _ e=>nomatch e⟩
 | int i=>
  obtain⟨t,rfl⟩:=r
  cases (show T="int" from ty)
  exact⟨typeIs_int s i t,fun _ e=>nomatch e⟩
 | ref p=>
  cases r
  rcases ty with ⟨rfl,xs,hq⟩|⟨rfl,o,hk,hc,hd⟩|⟨rfl,hk⟩|⟨rfl,S,n,hk⟩
  ·obtain⟨its,_,pl,_⟩:=I.list hq;refine⟨pl.isList.typeIs,fun a e=>?_⟩
   cases e
   obtain⟨o,n,e,c,hd,_⟩:=pl;exact⟨o,e,hd⟩
  ·refine⟨⟨o,I.kIn p o hk,hc⟩,fun a e=>?_⟩
   cases e
   exact⟨o,I.kIn _ o hk,hd⟩
  ·have z:∃ o,s.heap.get? p=some o/\o.ExactDict:=by
    rcases hk with ⟨kvs,hk⟩|⟨kvs,hk⟩
    ·obtain⟨_,_,_,_,o,_,_,e,ex,_⟩:=I.hok p _ hk;exact⟨o,e,ex⟩
    ·obtain⟨_,_,_,_,o,_,_,e,ex,_⟩:=I.hok p _ hk;exact⟨o,e,ex⟩
   obtain⟨o,e,ex⟩:=z;refine⟨⟨o,e,ex.1⟩,fun a e2=>?_⟩
   cases e2
   exact⟨o,e,ex.2.1⟩
  ·obtain⟨o,_,_,_,e,ex,_⟩:=I.hok p _ hk;refine⟨⟨o,e,ex.1⟩,fun a e2=>?_⟩
   cases e2
   exact⟨o,e,ex.2.1⟩
 | _=>exact False.elim ty
def GP (K:PySem.W.Frag)(T:String)(r:V->List V->Hp->VK->Prop)(to:TE)(t:TA):TE:=fun σ H Q=>to σ H fun x H1=>Gy K T x H1/\t σ H1 fun xs H2=>r x xs H2 Q
variable {o e:Expr}{es:List Expr}{to:TE}{t:TA}{name:Str}{apos cpos:Pos}{T id:String}{r:V->List V->Hp->VK->Prop}
theorem zw (pa:PlainAttrs T) (slot:Slot T name id) (hty:typeOf (.builtin id)=pure (.type "method_descriptor")) (hm:CH X id r) (ho:PE X o to) (ha:PA X (e::es) t)
  (hbase:attributeBase o name X.env (eval o X.env)=eval o X.env:=by rfl)
  (hfew:((backTo cpos (starEach (e::es) X.env)).all (fun x=>!x.1) && (backToKw cpos (keywordEach [] X.env)).all (fun x=>x.1.isSome)
   && decide ((e::es).length+([]:List Keyword).length+(if ([]:List Keyword).isEmpty then 0 else 1)<30))=true:=by rfl)
  (hline:(apos.endLine == cpos.line)=true:=by rfl) (hs:starEach (e::es) X.env=(false,eval e X.env)::starEach es X.env:=by rfl) (hplain:(backTo cpos (starEach es X.env)).any (·.1)=false:=by rfl) :
  PE X (.Call (.Attribute o name apos) (e::es) [] cpos) (GP X.K T r to t):=by
 intro pins s σ H Q I h;refine wpAny_Call_method_late hbase hfew hline rfl (bB (ho pins s σ H _ I h) fun v s1 ⟨x,H1,I1,r1,ty,q1⟩=>?_);obtain⟨h1,h2⟩:=Cd I1 r1 ty;refine⟨T,id,pa,slot,hty,h1,h2,?_⟩;have hA:=ha cpos pins s1 σ H1 _ I1 q1;rw[hs]at hA ⊢;refine Calls.callWith_builtin (by show(false || (backTo cpos (starEach es X.env)).any (·.1))=false;rw[hplain] <;> rfl) (Calls.evalArgs_plain ?_)
 exact bB hA fun us s2 ⟨vs,H2,I2,r2,q2⟩=>hm pins s2 σ H2 x vs v us Q I2 r1 r2 q2
end
end L2
namespace L2
open PySem PySem.Spec PyProof.Rows
def Gi (X:Cx)(id:String)(r:V->List V->Hp->VK->Prop):Prop:=
 ∀ (pins:List (Addr × Obj)) (s:Shared) (σ:St) (H:Hp) (x:V) (xs:List V) (v:Value) (us:List Value) (Q:VK),ay X pins σ H s->RelV x v->aA xs us->r x xs H Q →
  wpAny (model X.prog X.w) X.A (call (.builtin id) (v::us)) (EP X pins σ Q) X.xe s
theorem aA.one:∀ {x:V}{us:List Value},aA [x] us->∃ u,us=[u]/\RelV x u
 | _,_,.cons r .nil=>⟨_,rfl,r⟩
theorem aA.two:∀ {x y:V}{us:List Value},aA [x,y] us->∃ u v,us=[u,v]/\RelV x u/\RelV y v
 | _,_,_,.cons r (.cons q .nil)=>⟨_,_,rfl,r,q⟩
theorem aA.zero:∀ {us:List Value},aA [] us->us=[]
 | _,.nil=>rfl
theorem aA.dropLast {xs:List V}{us:List Value}(h:aA xs us):aA xs.dropLast us.dropLast:=by
 induction h with
 | nil=>exact .nil
 | cons r t ih=>
  cases t with
  | nil=>exact .nil
  | cons q t'=>exact .cons r ih
theorem aA.eraseIdx:∀ {xs:List V}{us:List Value} (i:Nat),aA xs us->aA (xs.eraseIdx i) (us.eraseIdx i)
 | _,_,_,.nil=>.nil
 | _,_,0,.cons _ t=>t
 | _,_,i+1,.cons r t=>.cons r (aA.eraseIdx i t)
theorem aA.reverse {xs:List V}{us:List Value}(h:aA xs us):aA xs.reverse us.reverse:=by
 induction h with
 | nil=>exact .nil
 | cons r t ih=>rw[List.reverse_cons,List.reverse_cons];exact aA.append ih (.cons r .nil)
section
variable {X:Cx}{pins:List (Addr × Obj)}{σ:St}{H:Hp}{s:Shared}{l b:Addr}{xs ys zs:List V}
theorem ay.lset {its its':List Value}{n:Nat}{f:Array Value->Array Value}{t':Nat}(I:ay X pins σ H s)(hH:H l=some (.lst xs))
  (e:s.heap.get? l=some {cls:=.type "list",data:=.seq its.toArray n}) (hf:f its.toArray=its'.toArray) (hv:aA ys its') (hz:ys.length<=sizeLine) :
  ay X pins σ (a8 H l (.lst ys)) {s with heap:=s.heap.update l (Obj.mapSeq f),toks:=t'}:=by
 have q:=PySem.IsL.update e f;rw[hf]at q;refine I.write (x:=l) (e:=l) (by rw[hH];exact trivial) (.inl rfl) (fun b' u hb hu=>(Heap.get?_update_other s.heap (Obj.mapSeq f) (Ne.symm hb)).trans hu) ⟨_,q⟩ ?_
 exact⟨hz,its',_,hv,q⟩
theorem ay.lnew {its:List Value}{t':Nat}(I:ay X pins σ H s)(hv:aA ys its)(hz:ys.length<=sizeLine) :
  ay X pins σ (a8 H s.heap.objs.size (.lst ys)) {s with heap:=s.heap.push {cls:=.type "list",data:=.seq its.toArray},toks:=t'}:=
 I.laid (fun _ _ q=>Heap.get?_push_of_some _ q) (Nat.le_refl _) ⟨hz,its,0,hv,Heap.get?_push_size _ rfl⟩
theorem ay.fresh (I:ay X pins σ H s):H s.heap.objs.size=none:=I.hok.fresh (Nat.le_refl _)
theorem ay.lstM (I:ay X pins σ H s) (hH:H l=some (.lst xs)):xs.length<=sizeLine/\∃ (its:List Value) (n:Nat),aA xs its/\xs.length=its.length/\s.heap.get? l=some {cls:=.type "list",data:=.seq its.toArray n}:=by
 obtain⟨z,its,n,r,e⟩:=I.hok l _ hH;exact⟨z,its,n,r,r.length,e⟩
theorem vB {n:Nat}(h:n<=sizeLine):Builtin.List.listTooLong n=false:=by
 unfold Builtin.List.listTooLong;exact decide_eq_false (by omega)
end
section
variable {X:Cx}
def yH:V->List V->Hp->VK->Prop:=fun x vs H Q=>∃ l xs y,x=.ref l/\vs=[y]/\H l=some (.lst xs)/\xs.length<sizeLine/\Q .non (a8 H l (.lst (xs++[y])))
theorem jZ:Gi X "list.append" yH:=by
 intro pins s σ H x vs v us Q I rx rv h;obtain⟨l,xs,y,rfl,rfl,hH,hz,q⟩:=h
 cases rx
 obtain⟨u,rfl,ru⟩:=rv.one;obtain⟨z,its,n,r,hl,e⟩:=I.lstM hH;refine call_meets F.slot_list_append ⟨_,e,rfl⟩ F.entry_list_append (F.args_list_append_2 _ _) (PySem.list_append l its.toArray n u (by rw[List.size_toArray];omega)) ⟨e,?_⟩
 refine⟨.non,_,I.lset (its':=its++[u]) hH e (by simp) (r.append (.cons ru .nil)) ?_,rfl,q⟩
 rw[List.length_append,List.length_singleton];omega
def yJ:V->List V->Hp->VK->Prop:=fun x vs H Q=>∃ l b xs zs,x=.ref l/\vs=[.ref b]/\H l=some (.lst xs)/\H b=some (.lst zs)/\xs.length+zs.length<=sizeLine/\Q .non (a8 H l (.lst (xs++zs)))
theorem qL:Gi X "list.extend" yJ:=by
 intro pins s σ H x vs v us Q I rx rv h;obtain⟨l,b,xs,zs,rfl,rfl,hH,hB,hz,q⟩:=h
 cases rx
 obtain⟨u,rfl,ru⟩:=rv.one
 cases ru
 obtain⟨z,its,n,r,hl,e⟩:=I.lstM hH;obtain⟨z2,its2,n2,r2,hl2,e2⟩:=I.lstM hB;have hsz:its.toArray.size+its2.toArray.size<=sizeLine:=by rw[List.size_toArray,List.size_toArray];omega
 have hlong:¬ (!its.toArray.isEmpty && Builtin.List.listTooLong (its.toArray.size+its2.toArray.size))=true:=by
  rw[vB hsz,Bool.and_false];exact Bool.false_ne_true
 refine call_meets F.slot_list_extend ⟨_,e,rfl⟩ F.entry_list_extend (F.args_list_extend_2 _ _)
  (AutoSeq1.list_extend_list_list_0 l its.toArray n b its2.toArray n2 hlong (by rw[List.size_toArray];omega) (by omega)) ⟨e,e2,?_⟩
 refine⟨.non,_,I.lset (its':=its++its2) hH e (by simp) (r.append r2) ?_,rfl,q⟩
 rw[List.length_append];omega
end
section
variable {prog:Program}{w:World}{A:Around}{E:Value->Shared->Prop}{s:Shared}
end
section
variable {X:Cx}
end
end L2
namespace Att
open PySem PySem.W PySem.Calls PyProof.Rows
theorem gX {P:Params}{h:Heap}:∀ (ns:List Int) (vs:List Value),WellAll P h vs (ns.map WData.int)->IntsAre vs ns:=by
 intro ns
 induction ns with
 | nil=>
  intro vs w;rw[List.map_nil]at w
  cases w
  exact .nil
 | cons n ns ih=>
  intro vs w;rw[List.map_cons]at w
  cases w with
  | cons a b=>
   cases a
   exact .cons _ _ (ih _ b)
theorem qZ {l:OpenLaw}{n:Nat}(hn:l.most=some n){P:Params}{h:Heap}{args:List WData}{vals:List Value}
  (hpre:l.row.toRowW.claim.pre args=true) (hwl:WellAll P h vals args) :
  ∃ a vs ns,vals=[Value.ref a]/\args=[WData.list (ns.map WData.int)]/\h.get? a=some {cls:=.type "list",data:=.seq vs.toArray}/\IntsAre vs ns/\ns.length<=n:=by
 have hsh:WShape.hasAll [] args [.list .int]=true:=(pre_splitW hpre).1;have hc:l.pre.holds [] {args:=args}=true:=(pre_splitW hpre).2;obtain⟨d,r,rfl,h1,h2⟩:=hasAllW_cons hsh;obtain rfl:=hasAllW_nil h2;obtain⟨xs,rfl,h3⟩:=hasW_list h1;obtain⟨ns,rfl⟩:=items_int h3;have hlen:ns.length<=n:=by
  unfold OpenLaw.pre at hc;have h4:(WTm.not (.lt (.lit (.int (n:Int))) (.len (.arg 0)))).holds [] {args:=[.list (ns.map .int)]}=true:=by
   have h4:=(holds_andW hc).1;rw[hn]at h4;exact h4
  have h5:=condW_of h4 (w_not (w_lt w_lit (w_len_list (w_arg rfl))));rw[List.length_map]at h5;refine Nat.le_of_not_lt fun q=>?_;have q':(n:Int)<((ns.length:Nat):Int):=by omega
  first
   | (rw[decide_eq_true q']at h5;exact absurd h5 (by decide))
   | (simp at h5;omega)
 cases hwl with
 | cons w1 w2=>
  cases w2
  cases w1 with
  | list ho hall=>exact⟨_,_,ns,rfl,rfl,ho,gX ns _ hall,hlen⟩
theorem qV (l:OpenLaw)(args:List WData):l.row.toRowW.claim.post args (.bool true) args=true:=
 postW_of (r:=l.row.toRowW) (X:=(true == true))
  (show WShape.has [] (.bool true) .bool=true by first|rfl|decide|simp[WShape.has,WShape.arms,WShape.armsAll])
  (show(WTm.eq .res (.lit (.bool true))).value [] {args:=args,res:=some (.bool true),after:=args}=some (.bool (true == true)) from w_eq_bool (w_res rfl) w_lit) rfl
theorem attach_call {l:OpenLaw}{n:Nat}{q:Program}{loose:List Str}{XP:(Str->Option Value)->Heap->Prop}{YP:World->Heap->Prop}{d:DefRec}
  (hn:l.most=some n) (hdf:d.params.defaults=[])
  (call:∀ (w:World) (s₀ s₁:Shared) (mg mb:Str->Option Value) (fa:Addr) (o:Obj) (pm cd doc:Value) (a:Addr) (vs:List Value) (ns:List Int),
   Ground q loose [] XP w s₀ mg mb s₁.heap->YP w s₁.heap →
   s₁.heap.get? fa=some o->o.data=.func (docDef d.name d.params d.body d.scope pm cd doc)->s₁.heap.CodeRec cd d.name->mg d.name=some (.ref fa) →
   s₁.heap.get? a=some {cls:=.type "list",data:=.seq vs.toArray}->IntsAre vs ns->ns.length<=n->s₁.gens=#[] →
   codeAny (model l.prog w) callerA (.call (.ref fa) ⟨[.ref a],[]⟩) (fun r s'=>r=.ok (.ret (.bool true))/\OldK s₁.heap s'.heap/\s'.os=s₁.os/\AllBare s'.gens) s₁) :
  WalkO q loose XP YP l.row.toRowW d [] (fun f vs=>PySem.call f vs):=by
 intro w s₀ s₁ mg mb G Y fa o pm cd doc dV kV ho hd hcd hD hmg hg args vals as hpre hlay hrd hwl hlo;obtain rfl:dV=.none:=Dflts.none hD hdf;obtain rfl:kV=.none:=Dflts.noKw hD;obtain⟨a,vs,ns,rfl,rfl,hobj,hints,hlen⟩:=qZ hn hpre hwl;refine enter_call (codeAny_mono (call w s₀ s₁ mg mb fa o pm cd doc a vs ns G Y ho (fd_plain hd) hcd hmg hobj hints hlen hg) fun r s' hq=>?_);obtain⟨rfl,h2,h3,h4⟩:=hq;exact⟨.inl ⟨.bool true,.bool true,[],rfl,fun _=>rfl,.bool true,qV l _,fun _=>⟨List.Pairwise.nil,fun _ hm=>(nomatch hm)⟩⟩,h2,h3,h4⟩
section
variable {prog:Program}{w:World}{A:Around}{E:Value->Shared->Prop}{s:Shared}{K:Frag}
end
end Att
namespace L2
open PySem PySem.Spec PyProof.Rows
theorem ki:∀ {vs:List Value}{ns:List Int},IntsAre vs ns->aA (ns.map V.int) vs
 | _,_,.nil=>.nil
 | _,_,.cons n t h=>.cons ⟨t,rfl⟩ (ki h)
def zM (H:Hp):Prop:=∀ b,H b=none\/∃ o xs,H b=some (.frz o (.lst xs))
theorem uu {P:Program}{w:World}{K:PySem.W.Frag}{mg mb:Str->Option Value}{CX:oS}{k:Nat}{fa a:Addr}{fd:FuncData}{x:Str}{sp:Sp}{s₁:Shared}{vs:List Value}{ns:List Int}
  (KX:K.In s₁.heap) (hns:s₁.heap.Ns mainGlobals mg) (hb:s₁.heap.Ns builtinsNs mb) (hbb:∀ x:Str,x≠"__name__"->mb x=bootBuiltins x) (hlim:s₁.heap.NoLimit) (hg:s₁.gens=#[])
  (ha:s₁.heap.get? a=some {cls:=.type "list",data:=.seq vs.toArray}) (hi:IntsAre vs ns) (hl:ns.length<=sizeLine) (hr:bg k callerA)
  (F:∀ base:Heap,K.In base->base.Ns mainGlobals mg->de P w K mg base CX k fa fd [x] sp) (hbind:∀ (s:Shared) (u:Value),BindsTo s fd ⟨[u],[]⟩ [(x,u)])
  (hsp:∀ H:Hp,zM H->ca K H a (ns.map V.int)->sp [.ref a] H (fun v _=>v=.bl true) fun _ _ _=>False)
  (hCX:∀ H e s',CX [] H s₁ (fun _ _ _=>False) e s'->False) :
  codeAny (model P w) callerA (.call (.ref fa) ⟨[.ref a],[]⟩) (fun r s'=>r=.ok (.ret (.bool true))/\OldK s₁.heap s'.heap/\s'.os=s₁.os/\AllBare s'.gens) s₁:=by
 have rv:=ki hi;have lenV:=hi.length;have core:∀ H:Hp,zM H->ca K H a (ns.map V.int)->dR P w H s₁.heap->(∀ b,H b≠none->b=a)->(H a≠none->K.lookup a=none) →
   codeAny (model P w) callerA (.call (.ref fa) ⟨[.ref a],[]⟩) (fun r s'=>r=.ok (.ret (.bool true))/\OldK s₁.heap s'.heap/\s'.os=s₁.os/\AllBare s'.gens) s₁:=by
  intro H hO hS hok hA hK;have base_of:∀ {b:Addr}{o:Obj},s₁.heap.get? b=some o->H b=none->(kK s₁.heap H).get? b=some o:=fun e n=>ui e n;have noA:∀ {b:Addr}{o:Obj}{es:Array DictEntry}{ep:Nat},s₁.heap.get? b=some o->o.data=.dict es ep->H b=none:=fun {b o es ep} e d=>by
   cases q:H b with
   | none=>rfl
   | some u=>
    have e':b=a:=hA b (by rw[q];simp)
    subst e';rw[ha]at e;cases e
    have d':Data.seq vs.toArray _=Data.dict es ep:=d
    cases d'
  have nsK:∀ {b:Addr}{m:Str->Option Value},s₁.heap.Ns b m->(kK s₁.heap H).Ns b m:=fun {b m} ⟨o,es,ep,e,d,r⟩=>⟨o,es,ep,base_of e (noA e d),d,r⟩;have hKb:K.In (kK s₁.heap H):=fun b o e=>base_of (KX b o e) (by
   cases q:H b with
   | none=>rfl
   | some u=>
    have e':b=a:=hA b (by rw[q];simp)
    subst e';rw[hK (by rw[q];simp)]at e;cases e)
  have hM:Mod K mg (kK s₁.heap H):=⟨hKb,nsK hns,⟨mb,nsK hb,hbb⟩,let ⟨mc,h1,h2⟩:=hlim;⟨mc,nsK h1,h2⟩⟩;have e0:nD P w K mg (kK s₁.heap H) callerA [] s₁ H:=⟨rfl,hM,fun b o e=>x5 e,Nat.le_of_eq (qC _ _),trivial,fun b hb=>absurd (show b∈([]:List Addr) from hb) (by simp),hok,.of_eq hg⟩
  refine codeAny_mono ((F _ hKb (nsK hns)).run callerA [] s₁ H ⟨[.ref a],[]⟩ [.ref a] [.ref a] _ _ hr e0 (hbind s₁ (.ref a)) (.cons rfl .nil) (hsp H hO hS)) fun r s' h=>?_
  cases r with
  | error e=>exact(hCX H e s' h).elim
  | ok fl=>
   cases fl with
   | next=>exact False.elim h
   | brk=>exact False.elim h
   | cont=>exact False.elim h
   | ret u=>
    obtain⟨v,H',os,bare,un,hok',r',q⟩:=h;have q':v=.bl true:=q;subst q';obtain rfl:u=Value.bool true:=r';refine⟨rfl,OldK.of_keep fun b o e=>?_,os,bare⟩
    cases q:H b with
    | none=>exact un.keep b o e q (by intro z;exact absurd (show b∈([]:List Addr) from z) (by simp)) (by simp)
    | some u=>
     rcases hO b with z|⟨ob,xs,z⟩
     ·rw[q]at z;cases z
     ·have z2:=un.frzs b ob _ z;obtain⟨e1,_⟩:=hok b _ z;obtain⟨e2,_⟩:=hok' b _ z2;rw[e]at e1;cases e1
      exact e2
 cases hk:K.lookup a with
 | some o=>
  have e:=KX a o hk;rw[ha]at e
  cases e
  refine core (fun _=>none) (fun _=>.inl rfl) (.inr ⟨_,vs.toArray,_,hk,rfl,rfl,rfl,by rw[List.size_toArray,lenV];exact hl,by simpa using rv⟩) (fun b u z=>by have z':(none:Option HO)=some u:=z;cases z') (fun b z=>absurd rfl z) fun z=>absurd rfl z
 | none=>
  refine core (fun b=>if b=a then some (.frz {cls:=.type "list",data:=.seq vs.toArray} (.lst (ns.map V.int))) else none) (fun b=>?_) (.inl (.inr ⟨{cls:=.type "list",data:=.seq vs.toArray},if_pos rfl⟩)) (fun b u z=>?_) (fun b z=>?_) fun _=>hk
  ·by_cases hb:b=a
   ·exact .inr ⟨_,_,if_pos hb⟩
   ·exact .inl (if_neg hb)
  ·by_cases hb:b=a
   ·have z':=(if_pos hb).symm.trans z
    cases z'
    subst hb;exact⟨ha,by rw[List.length_map];exact hl,vs,_,rv,ha⟩
   ·have z':=(if_neg hb).symm.trans z
    cases z'
  ·by_cases hb:b=a
   ·exact hb
   ·exact absurd (if_neg hb) z
end L2
namespace L2
open PySem PySem.Spec PyProof.Rows
theorem walk_of {l:PySem.W.OpenLaw}{n k:Nat}{q:Program}{loose:List Str}{XP:(Str->Option Value)->Heap->Prop}{YP:World->Heap->Prop}{d:DefRec}{K:Params->PySem.W.Frag}{CX:World->oS}{sp:World->Sp}{x:Str}
  (hn:l.most=some n) (hn2:n<=sizeLine) (hdf:d.params.defaults=[]) (hr:bg k callerA)
  (hY:∀ (w:World) (h:Heap),YP w h->(K w.params).In h)
  (F:∀ (w:World) (mg:Str->Option Value) (fa:Addr) (h:Heap),(K w.params).In h->h.Ns mainGlobals mg->mg d.name=some (.ref fa) →
   ∃ fd:FuncData,(∀ (s:Shared) (u:Value),BindsTo s fd ⟨[u],[]⟩ [(x,u)]) ∧
    ∀ base:Heap,(K w.params).In base->base.Ns mainGlobals mg->de l.prog w (K w.params) mg base (CX w) k fa fd [x] (sp w))
  (hsp:∀ (w:World) (H:Hp) (a:Addr) (ns:List Int),ns.length<=n->zM H->ca (K w.params) H a (ns.map V.int)->sp w [.ref a] H (fun v _=>v=.bl true) fun _ _ _=>False)
  (hCX:∀ (w:World) (H:Hp) (s:Shared) (e:Value) (s':Shared),CX w [] H s (fun _ _ _=>False) e s'->False) :
  PySem.W.WalkO q loose XP YP l.row.toRowW d [] (fun f vs=>PySem.call f vs):=by
 refine Att.attach_call hn hdf fun w s₀ s₁ mg mb fa o pm cd doc a vs ns G Y ho hd hcd hmg hobj hints hlen hg=>?_;have KX:=hY w _ Y;obtain⟨fd,hb,hF⟩:=F w mg fa _ KX G.T.g hmg;exact uu KX G.T.g G.T.b G.T.builtins G.T.nolimit hg hobj hints (Nat.le_trans hlen hn2) hr hF hb (fun H hO hS=>hsp w H a ns hlen hO hS) fun H e s'=>hCX w H s₁ e s'
end L2
namespace L2
open PySem PySem.Spec PyProof.Rows
def cV (s:Stmt):Arguments:=match s with
 | .FunctionDef _ a _ _ _ _ _ _ _ _=>a
 | _=>{posonlyargs:=[],args:=[],vararg:=none,kwonlyargs:=[],kw_defaults:=[],kwarg:=none,defaults:=[]}
def bj (s:Stmt):List Stmt:=match s with
 | .FunctionDef _ _ b _ _ _ _ _ _ _=>b
 | _=>[]
def ai (s:Stmt):Scope:=match s with
 | .FunctionDef _ _ _ _ _ _ sc _ _ _=>sc
 | _=>{kind:=.function,names:=[],isGenerator:=false,isCoroutine:=false}
abbrev lQ:oS:=fun _ _ _ _ _ _=>False
abbrev E0:XK:=fun _ _ _=>False
theorem zu {X:Cx}:nG lQ X E0:=fun _ _ _ _ _ _ _ h=>h.elim
structure y6 (K:PySem.W.Frag) (x qual:Str) (st:Stmt) (f:Addr) (fd:FuncData):Prop where
 ex:∃ (oc:Value) (od:Option Addr) (kV doc pm:Value) (an:Option Addr) (cdv ct:Value) (osl:Array (Option Value)),
  fd=PySem.W.fnOf x qual (cV st) (bj st) (ai st) .none kV doc pm an cdv ct/\K.lookup f=some ⟨oc,od,.func fd,osl⟩/\PySem.W.codeIn K cdv qual=true
 kp:PySem.W.keepIn K (.ref f)=true
section
variable {P:Program}{w:World}{K:PySem.W.Frag}{mg:Str->Option Value}{base:Heap}
theorem y6.ok {x qual:Str}{st:Stmt}{f:Addr}{fd:FuncData}{N ps:List Str}{k:Nat}{sp:Sp}(F:y6 K x qual st f fd)(S:aF N ps (ai st))(len:∀ vs H Q E,sp vs H Q E->vs.length=ps.length)
  (hbody:∀ (cdv:Value) (A:Around) (outer:List Env) (s:Shared) (H:Hp) (vs:List V) (Q:VK) (E:XK),bg k (A.deeper (envOfC qual (ai st) s.heap.objs.size f cdv))->sp vs H Q E →
   ∃ t,cy (gU lQ P w K mg base N qual (ai st) f cdv A outer s H E).nox (bj st) t/\t {nx:=fun _ H'=>Q .non H',rt:=Q} (start N vs) H):de P w K mg base lQ (k+1) f fd ps sp:=by
 obtain⟨oc,od,kV,doc,pm,an,cdv,ct,osl,rfl,lk,hcd⟩:=F.ex;refine DI lk hcd S len fun A outer s H vs Q E hr hsp=>?_;obtain⟨t,h,q⟩:=hbody cdv A outer s H vs Q E hr hsp;exact⟨t,h.nox,q⟩
theorem y6.binds {x qual:Str}{st:Stmt}{f:Addr}{fd:FuncData}{ps:List Str}(F:y6 K x qual st f fd)
  (h:∀ (kV doc pm:Value) (an:Option Addr) (cdv ct:Value) (us:List Value),us.length=ps.length->bindArgs (PySem.W.fnOf x qual (cV st) (bj st) (ai st) .none kV doc pm an cdv ct) ⟨us,[]⟩=pure (ps.zip us)):Binds K fd ps []:=by
 obtain⟨oc,od,kV,doc,pm,an,cdv,ct,osl,rfl,lk,hcd⟩:=F.ex;exact .all (h kV doc pm an cdv ct)
theorem fi {x qual:Str}{st:Stmt}{f:Addr}{oc:Value}{od an:Option Addr}{osl:Array (Option Value)}{kV doc pm cdv ct:Value}(l:K.lookup f=some ⟨oc,od,.func (PySem.W.fnOf x qual (cV st) (bj st) (ai st) .none kV doc pm an cdv ct),osl⟩)
  (c:PySem.W.codeIn K cdv qual=true) (k:PySem.W.keepIn K (.ref f)=true):y6 K x qual st f (PySem.W.fnOf x qual (cV st) (bj st) (ai st) .none kV doc pm an cdv ct):=⟨⟨oc,od,kV,doc,pm,an,cdv,ct,osl,rfl,l,c⟩,k⟩
end
theorem zn {A:Around}{k:Nat}(hr:bg k A):A.units+1<cLine:=Nat.lt_of_le_of_lt (Nat.add_le_add_left (by decide:1<=64) _) hr.units
theorem kc {n:Nat}(h:n<=1000):n<sizeLine:=Nat.lt_of_le_of_lt h (by decide)
section
variable {X:Cx}
theorem pv (i:Nat) {x:Str}{pos:Pos} (hN:X.N[i]?=some x:=by rfl) (hv:EQ X.env.scope x:=by first | exact Or.inl rfl | exact Or.inr (Or.inl rfl) | exact Or.inr (Or.inr rfl)) (hd:(x == ("__debug__":Str))=false:=by decide)
  (hcd:(x == ("__classdict__":Str))=false:=by decide):PE X (.Name x pos) (lJ i):=vJ hN hv hd hcd
end
def ao (H H':Hp):Prop:=∀ b o,H b=some o->H' b=some o
theorem ao.refl (H:Hp):ao H H:=fun _ _ h=>h
theorem ao.trans {H H1 H2:Hp}(a:ao H H1)(b:ao H1 H2):ao H H2:=fun c o h=>b c o (a c o h)
theorem ao.free {H H':Hp}(e:ao H H'){l:Addr}(h:H' l=Option.none):H l=Option.none:=by
 cases q:H l with
 | none=>rfl
 | some o=>
  rw[e l o q]at h
  cases h
theorem ao.seq {K:PySem.W.Frag}{H H':Hp}{a:Addr}{xs:List V}(e:ao H H')(h:ca K H a xs):ca K H' a xs:=by
 rcases h with (h|⟨o,h⟩)|h
 ·exact .inl (.inl (e _ _ h))
 ·exact .inl (.inr ⟨o,e _ _ h⟩)
 ·exact .inr h
end L2
namespace L2
open PySem PySem.Spec PyProof.Rows
theorem fh {env:Env}:∀ (names:List (Str × NameKind)) (cs:List (Str × Addr)),(∀ y∈names,y.2=.free->∃ c,env.cells.lookup y.1=some c)->(∀ x c,cs.lookup x=some c->env.cells.lookup x=some c) →
  ∃ cl:List (Str × Addr),(forIn names cs (fun (y:Str × NameKind) (r:List (Str × Addr))=>(if (y.2 == NameKind.free)=true then (cellOf env y.1 >>= fun a=>pure (ForInStep.yield ((y.1,a)::r))) else pure (ForInStep.yield r):Sem (ForInStep (List (Str × Addr))))))=(pure cl:Sem (List (Str × Addr))) ∧
   (∀ x c,cl.lookup x=some c->env.cells.lookup x=some c)/\(∀ x,(cs.lookup x).isSome=true->(cl.lookup x).isSome=true)/\∀ y∈names,y.2=.free->(cl.lookup y.1).isSome=true
 | [],cs,_,hc=>⟨cs,by rw[List.forIn_nil],hc,fun _ h=>h,fun y hy=>by cases hy⟩
 | (n,k)::r,cs,h,hc=>by
  by_cases hk:(k == NameKind.free)=true
  ·have hk':k=.free:=by simpa using hk
   obtain⟨a,ha⟩:=h (n,k) List.mem_cons_self hk';obtain⟨cl,h1,h2,h3,h4⟩:=fh (env:=env) r ((n,a)::cs) (fun y hy=>h y (List.mem_cons_of_mem _ hy)) (fun x c e=>by
    rw[List.lookup_cons]at e
    split at e
    ·rename_i z;have:x=n:=by simpa using z
     subst this
     cases e
     exact ha
    ·exact hc x c e)
   have up:∀ x,(cs.lookup x).isSome=true->(((n,a)::cs).lookup x).isSome=true:=fun x z=>by
    rw[List.lookup_cons]
    split
    ·rfl
    ·exact z
   refine⟨cl,?_,h2,fun x z=>h3 x (up x z),fun y hy hf=>?_⟩
   ·rw[List.forIn_cons];simp only[hk,if_true];have:cellOf env n=pure a:=by unfold cellOf;rw[ha]
    rw[this];exact h1
   ·rcases List.mem_cons.mp hy with e|e
    ·subst e;exact h3 n (by rw[List.lookup_cons];simp)
    ·exact h4 y e hf
  ·obtain⟨cl,h1,h2,h3,h4⟩:=fh (env:=env) r cs (fun y hy=>h y (List.mem_cons_of_mem _ hy)) hc;refine⟨cl,?_,h2,h3,fun y hy hf=>?_⟩
   ·rw[List.forIn_cons];simp only[hk,if_false];exact h1
   ·rcases List.mem_cons.mp hy with e|e
    ·subst e;exact absurd (by simpa using hf) hk
    ·exact h4 y e hf
theorem nU {scope:Scope}{env:Env}(h:∀ y∈scope.names,y.2=.free->∃ c,env.cells.lookup y.1=some c) :
  ∃ cl,closureFor scope env=pure cl/\(∀ x c,cl.lookup x=some c->env.cells.lookup x=some c)/\∀ y∈scope.names,y.2=.free->(cl.lookup y.1).isSome=true:=by
 obtain⟨cl,h1,h2,_,h4⟩:=fh (env:=env) scope.names [] h (fun x c e=>by cases e)
 refine⟨cl,?_,h2,h4⟩;unfold closureFor;exact(congrArg (fun z=>z >>= fun r=>pure r) h1)
structure dN (N:List Str) (no:Nat) (fr:List Nat) (NX:List Str) (sc around:Scope):Prop where
 kind:sc.kind=.function
 nocell:∀ y∈sc.names,y.2≠.cell
 nd:N.Nodup
 len:N.length=no+fr.length
 loc:∀ y∈sc.names,y.2=.local->sc.names.lookup y.1=some .local
 free:∀ y∈sc.names,y.2=.free->around.names.lookup y.1=some .cell
 own:∀ (i:Nat) (x:Str),N[i]?=some x->i<no->sc.names.lookup x=some .local
 out:∀ (j i:Nat) (x:Str),fr[j]?=some i->N[no+j]?=some x->NX[i]?=some x/\sc.names.lookup x=some .free
def wu (own:Nat)(fr:List Nat)(σ:St):St:=List.replicate own none++fr.map fun i=>(σ[i]?).join
def bD (X:Cx)(N:List Str)(scope:Scope)(cl:List (Str × Addr))(s:Shared)(H:Hp)(fp:List Addr):Cx:=
 {X with N:=N,s₀:=s,H₀:=H,env:=compEnvC scope cl s.heap.objs.size X.env,outer:=X.stack,ex:=fp,fn:=fun _=>false,pn:=[],xe:=fun _ _=>False}
theorem fo {env:Env}:∀ (names:List (Str × NameKind)) (x:Str),(names.map fun (n,k)=>if (k == NameKind.free && env.scope.kind == .function && env.kindOf n == some .cell) then (n,NameKind.cell) else (n,k)).lookup x =
  (names.lookup x).map fun k=>if (k == NameKind.free && env.scope.kind == .function && env.kindOf x == some .cell) then NameKind.cell else k
 | [],_=>rfl
 | (n,k)::r,x=>by
  rw[List.map_cons];show List.lookup x ((if (k == NameKind.free && env.scope.kind == .function && env.kindOf n == some .cell)=true then (n,NameKind.cell) else (n,k))::_)=_
  cases hx:x == n with
  | true=>
   have e:x=n:=by simpa using hx
   subst e
   by_cases hc:(k == NameKind.free && env.scope.kind == .function && env.kindOf x == some .cell)=true
   ·rw[if_pos hc];simp only[List.lookup_cons,hx];simp only[Option.map_some,hc,if_true]
   ·rw[if_neg hc];simp only[List.lookup_cons,hx];simp only[Option.map_some];rw[if_neg hc]
  | false=>
   by_cases hc:(k == NameKind.free && env.scope.kind == .function && env.kindOf n == some .cell)=true
   ·rw[if_pos hc];simp only[List.lookup_cons,hx];exact fo r x
   ·rw[if_neg hc];simp only[List.lookup_cons,hx];exact fo r x
theorem vT {scope:Scope}{env:Env}(x:Str):(relabel scope env).names.lookup x=(scope.names.lookup x).map fun k=>if (k == NameKind.free && env.scope.kind == .function && env.kindOf x == some .cell) then NameKind.cell else k:=fo _ _
section
variable {X:Cx}{pins:List (Addr × Obj)}{σ:St}{H:Hp}{s:Shared}{N:List Str}{own:Nat}{fr:List Nat}{scope:Scope}{cl:List (Str × Addr)}{fp:List Addr}
theorem xG (S:dN N own fr X.N scope X.env.scope)(I:ay X pins σ H s)(hcl:∀ x c,cl.lookup x=some c->X.env.cells.lookup x=some c)(hcf:∀ y∈scope.names,y.2=.free->(cl.lookup y.1).isSome=true)
  (hfp:∀ b∈fp,kn X pins H b/\b<s.heap.objs.size) {h':Heap}{t:Nat}{m:Str->Option Value} (hns:h'.Ns s.heap.objs.size m) (hk:∀ b o,s.heap.get? b=some o->h'.get? b=some o) :
  ay (bD X N scope cl s H fp) [] (wu own fr σ) H {s with heap:=h',toks:=t}:=by
 have kd:∀ x,(bD X N scope cl s H fp).env.kindOf x=(scope.names.lookup x).map fun k=>if (k == NameKind.free && X.env.scope.kind == .function && X.env.kindOf x == some .cell) then NameKind.cell else k:=fun x=>vT x
 have memOf:∀ {l:List (Str × NameKind)}{x:Str}{k:NameKind},l.lookup x=some k->(x,k)∈l:=fun {l x k} e=>PySem.mem_of_lookup e;have isf:∀ x,((bD X N scope cl s H fp).env.kindOf x=some .cell\/(bD X N scope cl s H fp).env.kindOf x=some .free)->scope.names.lookup x=some .free:=fun x h=>by
  rw[kd]at h
  cases e:scope.names.lookup x with
  | none=>rw[e]at h;simp at h
  | some k=>
   rw[e]at h;simp only[Option.map_some,Option.some.injEq]at h
   by_cases hc:(k == NameKind.free && X.env.scope.kind == .function && X.env.kindOf x == some .cell)=true
   ·have:k=.free:=by
     rw[Bool.and_eq_true,Bool.and_eq_true]at hc;simpa using hc.1.1
    rw[this]
   ·rw[if_neg hc]at h
    rcases h with h|h
    ·exact absurd h (S.nocell _ (memOf e))
    ·rw[h]
 have cellX:∀ x c,cl.lookup x=some c->∃ v,s.heap.IsCell c v:=fun x c e=>I.cell x c (hcl x c e);have cellLt:∀ x c,cl.lookup x=some c->c<s.heap.objs.size:=fun x c e=>let ⟨v,q⟩:=cellX x c e;q.lt;refine⟨⟨I.ok.mod,S.kind,I.ok.glob,I.ok.blt,Nat.le_refl _,fun x y c h1 h2=>I.ok.inj x y c (hcl x c h1) (hcl y c h2),fun x hx=>?_,(fun x c h=>by cases h),I.ok.hd,I.ok.frames,.inl rfl,fun b hb=>⟨Nat.ne_of_lt (hfp b hb).2,fun x c e=>(hfp b hb).1.2.2.2.2.1 x c (hcl x c e)⟩,
   I.bs,Nat.le_trans I.ok.bsz I.sz,fun b o e hb=>?_,fun b hb z=>?_,I.stack,I.stkFree⟩,rfl,I.bare,Un.kept hk,⟨m,hns,fun i x v e1 e2 e3=>?_⟩,fun x c e=>?_,I.hok.fresh (Nat.le_refl _),fun x c e=>I.freeC x c (hcl x c e),fun p hp=>absurd (show p∈([]:List (Addr × Obj)) from hp) (by simp),I.hok.kept hk,?_⟩
 ·have:=hcf _ (memOf (isf x hx)) rfl;exact Option.isSome_iff_exists.mp this
 ·rcases(hfp b hb).1.2.2.2.1 with z|z
  ·exact I.ok.noex b o e z
  ·exact absurd (Nat.lt_of_lt_of_le (Heap.lt_size e) (Nat.le_trans I.ok.bsz z)) (Nat.lt_irrefl _)
 ·rcases List.mem_cons.mp (I.stkSub b z) with q|q
  ·exact(hfp b hb).1.2.1 q
  ·exact(hfp b hb).1.2.2.1 q
 ·
  have e2':(List.replicate own none++fr.map fun i=>(σ[i]?).join)[i]?=some (some v):=e2;have hi:own<=i:=by
   by_cases hi:i<own
   ·rw[List.getElem?_append_left (by simpa using hi),List.getElem?_replicate,if_pos hi]at e2'
    cases e2'
   ·omega
  rw[List.getElem?_append_right (by simpa using hi),List.length_replicate,List.getElem?_map]at e2'
  cases ef:fr[i-own]? with
  | none=>rw[ef]at e2';cases e2'
  | some k=>
   rw[ef]at e2';have ev:(σ[k]?).join=some v:=by simpa using e2'
   have ev':σ[k]?=some (some v):=by
    cases q:σ[k]? with
    | none=>rw[q]at ev;cases ev
    | some o=>rw[q]at ev;simpa using ev
   have eN:N[own+(i-own)]?=some x:=by
    rw[show own+(i-own)=i by omega];exact e1
   obtain⟨q1,q2⟩:=S.out (i-own) k x ef eN;have q3:X.env.scope.names.lookup x=some .cell:=S.free (x,.free) (memOf q2) rfl;obtain⟨mX,_,hl⟩:=I.loc;obtain⟨u,r,l⟩:=hl k x v q1 ev' (.inr (.inl q3));refine⟨u,r,?_⟩
   rcases l with ⟨l1,_⟩|⟨_,c,l2,l3⟩
   ·have:X.env.scope.names.lookup x=some .local:=l1;rw[q3]at this;cases this
   ·have hkd:(bD X N scope cl s H fp).env.kindOf x=some .cell:=by
     rw[kd,q2];simp only[Option.map_some];have e1:X.env.scope.kind=.function:=I.ok.kind;have e2:X.env.kindOf x=some .cell:=q3;rw[e1,e2]
     rfl
    have hc:=Option.isSome_iff_exists.mp (hcf (x,.free) (memOf q2) rfl);obtain⟨c',hc'⟩:=hc;have:c'=c:=by
     have:=hcl x c' hc';rw[l2]at this;exact(Option.some.inj this).symm
    subst this;exact .inr ⟨.inl hkd,c',hc',l3.keeps hk⟩
 ·obtain⟨v,q⟩:=cellX x c e;exact⟨v,q.keeps hk⟩
 ·show(wu own fr σ).length=N.length;unfold wu;rw[List.length_append,List.length_replicate,List.length_map,S.len]
end
abbrev y9:Value->Shared->Prop:=fun _ _=>False
section
variable {P:Program}{w:World}{A:Around}{R:Result->Shared->Prop}
def E2 (ifs:List Expr)(env:Env):Sem Bool:=
 forIn ifs true fun c r=>if r=true then do
                        let ok ← isTrue c env (eval c env)
                        pure (ForInStep.yield ok) else pure (ForInStep.yield r)
theorem Cb {env:Env}{s:Shared}{E:Value->Shared->Prop}{Q:Bool->Shared->Prop}(h:Q true s):wpAny (model P w) A (E2 [] env) Q E s:=wpAny_tests_nil h
theorem Cc {env:Env}{c:Expr}{s:Shared}{E:Value->Shared->Prop}{Q:Bool->Shared->Prop}(h:wpAny (model P w) A (isTrue c env (eval c env)) Q E s):wpAny (model P w) A (E2 [c] env) Q E s:=wpAny_tests_one h
theorem nN {elt tg iter:Expr}{ifs:List Expr}{sc:Scope}{pos:Pos}{it acc:Value}{env:Env}{s:Shared}(J:Nat->Shared->Prop)
  (go:∀ n s,J n s->wpAny (model P w) A (pyNext it) (fun r s1=>match r with
   | none=>R (.ok .next) s1
   | some v=>wpAny (model P w) A (letOwnedTupleGo tg it v) (fun _ s2=>wpAny (model P w) A (assign tg env v) (fun _ s3=>wpAny (model P w) A (E2 ifs env) (fun ok s4=>
     if ok=true then wpAny (model P w) A (eval elt env) (fun x s5=>wpAny (model P w) A (call (.builtin "list.append") [acc,x]) (fun _ s6=>∃ m,m<n/\J m s6) y9 s5) y9 s4
     else ∃ m,m<n/\J m s4) y9 s3) y9 s2) y9 s1) y9 s)
  (n:Nat) (h:J n s):codeAny (model P w) A (.compLoop (.ListComp elt [⟨tg,iter,ifs,0⟩] sc pos) 0 it acc env) R s:=by
 have ex:∀ {α:Type}{t:Sem α}{Q:α->Shared->Prop}{s:Shared}{E:Value->Shared->Prop},wpAny (model P w) A t Q y9 s->wpAny (model P w) A t Q E s:=fun hh=>wpAny_mono hh (fun _ _ q=>q) fun _ _ z=>z.elim;refine codeAny_loop rfl J (fun n s hJ=>?_) n h;show wpAny _ _ ((compTurn _ 0 it acc env).onRaise (fun x=>do noteFrame x env;theTreesLotGoes x)) _ _ s
 refine wpAny_noted ?_;rw[compTurn_list];refine wpAny_bind (wpAny_standAt (wpAny_bind (bB (ex (go n s hJ)) fun r s1 h1=>?_)))
 cases r with
 | none=>exact wpAny_pure h1
 | some v=>
  refine wpAny_bind (bB (ex h1) fun _ s2 h2=>wpAny_bind (bB (ex h2) fun _ s3 h3=>?_));refine wpAny_bind (bB (ex h3) fun ok s4 h4=>?_)
  cases ok with
  | false=>exact wpAny_pure ⟨rfl,h4⟩
  | true=>
   exact wpAny_bind (wpAny_bind (bB (ex h4) fun x s5 h5=>wpAny_bind (bB (ex h5) fun _ s6 h6=>wpAny_pure (wpAny_pure ⟨rfl,h6⟩))))
end
def pT (own:Nat)(fr:List Nat)(wi:TI)(g:TG)(tc:TT)(te:TE):TE:=fun σ H Q=>wi σ H fun J H1=>∀ D,H1 D=none->∃ W:Nat->Nat->St->Hp->Prop,(∃ m,W 0 m (wu own fr σ) (a8 H1 D (.lst [])))/\∀ i m σ' H',W i m σ' H' →
 (J.stop i H'/\Q (.ref D) H')\/(J.go i H'/\∀ x H2,J.yld i H' x H2->g x σ' H2 fun σ2 H3=>tc σ2 H3 fun ok H4=>
  if ok=true then te σ2 H4 fun v H5=>∃ xs,H5 D=some (.lst xs)/\xs.length<sizeLine/\∃ m',m'<m/\W (i+1) m' σ2 (a8 H5 D (.lst (xs++[v])))
  else ∃ m',m'<m/\W (i+1) m' σ2 H4)
def wG (Y:Cx)(ifs:List Expr)(t:TT):Prop:=
 ∀ (pins:List (Addr × Obj)) (s:Shared) (σ:St) (H:Hp) (Q:Bool->Hp->Prop),ay Y pins σ H s->t σ H Q->wpAny (model Y.prog Y.w) Y.A (E2 ifs Y.env) (TP Y pins σ Q) Y.xe s
theorem yq {Y:Cx}:wG Y [] (fun σ H Q=>Q true H):=fun _ _ σ H _ I h=>Cb ⟨H,I,h⟩
theorem yr {Y:Cx}{c:Expr}{t:TT}(h:PT Y c t):wG Y [c] t:=fun pins s σ H Q I q=>Cc (h pins s σ H Q I q)
section
variable {X:Cx}{N:List Str}{own:Nat}{fr:List Nat}{scope:Scope}{elt tg iter:Expr}{ifs:List Expr}{pos:Pos}{wi:TI}{g:TG}{tc:TT}{te:TE}
theorem Turn.fpLt {P:Program}{w:World}{K:PySem.W.Frag}{J:It}{fp:List Addr}{it:Addr}{tn:Nat->Heap->Prop}(T:Turn P w K tg J fp it tn){i:Nat}{h:Heap}(st:tn i h):∀ b∈fp,b<h.objs.size:=fun b hb=>by
 obtain⟨o,e,_⟩:=T.obj i h st b hb;exact Heap.lt_size e
def CompEnd (X:Cx)(pins:List (Addr × Obj))(σ:St)(Q:VK)(use:Option (Value->Sem Unit))(QQ:Value->Shared->Prop):Prop:=
 ∀ (D C:Addr) (H':Hp) (s5:Shared) (m5:Str->Option Value),(∀ h6,Heap.SameBut C s5.heap h6->ay X pins σ H' {s5 with heap:=h6})->s5.heap.Ns C m5->H' C=none->X.s₀.heap.objs.size<=C->X.env.locals≠C->(∀ x c,X.env.cells.lookup x=some c->c≠C)->(∀ p∈X.pn++pins,p.1≠C)->Q (.ref D) H' →
  compPost (model X.prog X.w) X.A X.xe use QQ (.ref D) C (.ok .next) s5
theorem jK {use:Option (Value->Sem Unit)}{QQ:Value->Shared->Prop}{ps:Pos}(S:dN N own fr X.N scope X.env.scope)(hc:X.calm=true)(hi:PI X tg iter wi)
  (hg:∀ cl s H fp,PG (bD X N scope cl s H fp) tg g) (ht:∀ cl s H fp,wG (bD X N scope cl s H fp) ifs tc) (he:∀ cl s H fp,PE (bD X N scope cl s H fp) elt te)
  (hs:∀ x,foldedSetIterable iter X.env x=pure x) {pins:List (Addr × Obj)}{s:Shared}{σ:St}{H:Hp}{Q:VK} (I:ay X pins σ H s) (h:pT own fr wi g tc te σ H Q) (finish:CompEnd X pins σ Q use QQ) :
  wpAny (model X.prog X.w) X.A (comprehension (.ListComp elt [⟨tg,iter,ifs,0⟩] scope pos) scope X.env ps (newList []) false (eval iter X.env) use) QQ X.xe s:=by
 obtain⟨cl,hclos,hcl,hcf⟩:=nU (scope:=scope) (env:=X.env) fun y hy hf=>I.ok.has y.1 (.inl (S.free y hy hf));refine wpAny_comprehension_free (use:=use) rfl hs hclos S.kind S.loc (bB (hi pins s σ H _ I h) fun v s1 h1=>bB h1 fun itv s2 h2=>?_);obtain⟨it,fp,tn,J,H2,e,I2,T,st2,f2,h2⟩:=h2;subst e;refine wpAny_newObj_type ?_ (Nat.zero_le _);have fr2:H2 s2.heap.objs.size=none:=I2.hok.fresh (Nat.le_refl _);obtain⟨W,⟨m0,w0⟩,turn⟩:=h2 s2.heap.objs.size fr2;have I3:ay X pins σ (a8 H2 s2.heap.objs.size (.lst [])) {s2 with heap:=s2.heap.push {cls:=.type "list",data:=.seq ([]:List Value).toArray}}:=I2.lnew (t':=s2.toks) (its:=[]) .nil (Nat.zero_le _);have st3:tn 0 (s2.heap.push {cls:=.type "list",data:=.seq ([]:List Value).toArray}):=T.keep _ _ _ st2 fun b _ o e=>Heap.get?_push_of_some _ e;generalize Cy:({s2 with heap:=s2.heap.push {cls:=.type "list",data:=.seq ([]:List Value).toArray}}:Shared)=s3 at I3;have st3':tn 0 s3.heap:=by rw[<-Cy];exact st3
 have f3:∀ b∈fp,kn X pins (a8 H2 s2.heap.objs.size (.lst [])) b:=fun b hb=>by
  obtain⟨q0,q⟩:=f2 b hb;refine⟨?_,q⟩;rw[aw (Nat.ne_of_lt (T.fpLt st2 b hb))];exact q0
 refine wpAny_newFunctionEnv S.nocell (fun y hy=>by cases hy) (fun h4 hns4 hsb4=>?_) S.kind
 have hk4:∀ b o,s3.heap.get? b=some o->h4.get? b=some o:=fun b o e=>hsb4.extBut b o (Nat.ne_of_lt (Heap.lt_size e)) (Heap.get?_push_of_some _ e);have I4:ay (bD X N scope cl s3 (a8 H2 s2.heap.objs.size (.lst [])) fp) [] (wu own fr σ) (a8 H2 s2.heap.objs.size (.lst [])) {s3 with heap:=h4,toks:=s3.toks+([]:List (Str × Value)).length}:=
  xG S I3 hcl hcf (fun b hb=>⟨f3 b hb,T.fpLt st3' b hb⟩) hns4 hk4
 have st4:tn 0 h4:=T.keep _ _ _ st3' fun b _ o e=>hk4 b o e;generalize hY:bD X N scope cl s3 (a8 H2 s2.heap.objs.size (.lst [])) fp=Y at I4;have hg':=hg cl s3 (a8 H2 s2.heap.objs.size (.lst [])) fp;have ht':=ht cl s3 (a8 H2 s2.heap.objs.size (.lst [])) fp;have he':=he cl s3 (a8 H2 s2.heap.objs.size (.lst [])) fp;rw[hY]at hg' ht' he';have yp:Y.prog=X.prog:=by rw[<-hY];rfl
 have yw:Y.w=X.w:=by rw[<-hY];rfl
 have yK:Y.K=X.K:=by rw[<-hY];rfl
 have yA:Y.A=X.A:=by rw[<-hY];rfl
 have yc:Y.calm=true:=by rw[<-hY];exact hc
 have yx:Y.xe=y9:=by rw[<-hY];rfl
 have ye:Y.env=compEnvC scope cl s3.heap.objs.size X.env:=by rw[<-hY];rfl
 have fin:∀ {σ':St}{H':Hp}{s5:Shared},ay Y [] σ' H' s5->Q (.ref s2.heap.objs.size) H'->compPost (model X.prog X.w) X.A X.xe use QQ (.ref s2.heap.objs.size) s3.heap.objs.size (.ok .next) s5:=fun {σ' H' s5} I5 q=>by
  obtain⟨m5,hn5,_⟩:=I5.loc;have yl:Y.env.locals=s3.heap.objs.size:=by rw[ye];rfl
  rw[yl]at hn5;have un:=I5.base;have y1:Y.fs=nz X.stack:=by rw[<-hY];rfl
  have y2:Y.ex=fp:=by rw[<-hY];rfl
  have y3:Y.H₀=a8 H2 s2.heap.objs.size (.lst []):=by rw[<-hY];rfl
  have y4:Y.s₀=s3:=by rw[<-hY];rfl
  rw[y1,y2,y3,y4]at un;have free6:H' s3.heap.objs.size=none:=by rw[<-yl];exact I5.free
  refine finish s2.heap.objs.size s3.heap.objs.size H' s5 m5 (fun h6 hs6=>?_) hn5 free6 I3.sz (Nat.ne_of_lt I3.lt) (fun x c e=>?_) (fun p hp=>?_) q
  ·have k6:∀ b o,b≠s3.heap.objs.size->s5.heap.get? b=some o->h6.get? b=some o:=fun b o hb e=>hs6.extBut b o hb e;have old:∀ b o,s3.heap.get? b=some o->b≠s3.heap.objs.size:=fun b o e=>Nat.ne_of_lt (Heap.lt_size e);have un6:Un (nz X.stack) fp (a8 H2 s2.heap.objs.size (.lst [])) H' s3.heap h6:=
    ⟨fun b o e n hb hx=>k6 b o (old b o e) (un.keep b o e n hb hx),fun b o e n hb hx=>by obtain⟨sl,q⟩:=un.slot b o e n hb hx;exact⟨sl,k6 b _ (old b o e) q⟩,un.free,fun b o e hx=>by obtain⟨o',q⟩:=un.there b o e hx;exact⟨o',k6 b o' (old b o e) q⟩,un.tups,un.frzs,un.tbls⟩
   have hok6:dR X.prog X.w H' h6:=by
    have:=I5.hok;rw[yp,yw]at this;refine fun a o e=>(this a o e).stay (fun b u hb q=>k6 b u ?_ q) (fun _ z=>z) fun _ _ z=>z
    rcases hb with z|z
    ·subst z;intro z;rw[z,free6]at e;cases e
    ·intro y;rw[y,free6]at z;cases z
   obtain⟨hh,gg,dd,tt,os'⟩:=s5;have ho:os'=s3.os:=by have:=I5.os;rw[y4]at this;exact this
   subst ho;refine ay.call (s:=s3) I3 (h':=h6) (g':=gg) (d':=dd) (t':=tt) (ch:=fp) un6 hok6 I5.bare (fun b hb=>?_);obtain⟨_,q1,_,q3,q4,q5⟩:=f3 b hb;exact⟨q3,q1,q4,q5⟩
  ·obtain⟨v,oc,ho,_⟩:=I3.cell x c e;exact Nat.ne_of_lt (Heap.lt_size ho)
  ·obtain⟨e,_⟩:=I3.pin p hp;exact Nat.ne_of_lt (Heap.lt_size e)
 have loop:∀ s4:Shared,ay Y [] (wu own fr σ) (a8 H2 s2.heap.objs.size (.lst [])) s4->tn 0 s4.heap->codeAny (model X.prog X.w) X.A (.compLoop (.ListComp elt [⟨tg,iter,ifs,0⟩] scope pos) 0 (.ref it) (.ref s2.heap.objs.size) (compEnvC scope cl s3.heap.objs.size X.env))
   (compPost (model X.prog X.w) X.A X.xe use QQ (.ref s2.heap.objs.size) s3.heap.objs.size) s4:=by
  intro s4 I4 st4;have stat:∀ {H':Hp},(∀ b∈fp,H' b=none)->∀ b∈fp,kn Y [] H' b:=fun {H'} hn b hb=>by
   obtain⟨_,q1,q2,q3,q4,q5⟩:=f3 b hb;refine⟨hn b hb,?_,?_,?_,fun x c e=>?_,fun p hp=>?_⟩
   ·rw[ye];exact Nat.ne_of_lt (T.fpLt st3' b hb)
   ·have:Y.fs=nz X.stack:=by rw[<-hY];rfl
    rw[this];intro z
    rcases List.mem_cons.mp (I3.stkSub b z) with q|q
    ·exact q1 q
    ·exact q2 q
   ·left;rw[<-hY];exact hb
   ·rw[ye]at e;exact q4 x c (hcl x c e)
   ·rw[<-hY]at hp;cases hp
  refine nN (fun n s'=>∃ i σ' H',ay Y [] σ' H' s'/\tn i s'.heap/\(∀ b∈fp,H' b=none)/\W i n σ' H') ?_ m0 ⟨0,_,_,I4,st4,fun b hb=>(f3 b hb).1,w0⟩;rintro n s5 ⟨i,σ5,H5,I5,st5,fr5,w5⟩;rw[<-yp,<-yw,<-yA,<-ye,<-yx];have T':Turn Y.prog Y.w Y.K tg J fp it tn:=by rw[yp,yw,yK];exact T
  rcases turn i n σ5 H5 w5 with ⟨stop,qn⟩|⟨go,step⟩
  ·refine bB (T'.done Y rfl rfl rfl yc i [] s5 σ5 H5 Y.xe I5 (stat fr5) st5 stop) fun r s6 ⟨hr,I6⟩=>?_;subst hr;have q:=fin I6 qn;rw[<-yp,<-yw,<-yA]at q;exact q
  ·refine bB (T'.item Y rfl rfl rfl yc i [] s5 σ5 H5 Y.xe I5 (stat fr5) st5 go) fun r s6 ⟨u,hr,h6⟩=>?_;subst hr;refine bB h6 fun _ s7 ⟨x,H7,I7,r7,y7,st7,fr7⟩=>?_;have I7':=I7.pinned (stat fr7) (T.obj _ _ st7);have stay:∀ {σ8:St}{H8:Hp}{s8:Shared},ay Y ([]++iU fp s7.heap) σ8 H8 s8->tn (i+1) s8.heap/\∀ b∈fp,H8 b=none:=fun {σ8 H8 s8} I8=>by
    refine⟨T.keep _ _ _ st7 fun b hb o e=>(I8.pin (b,o) (List.mem_append_right _ (List.mem_append_right _ (dD hb e)))).1,fun b hb=>?_⟩;obtain⟨o,e,d⟩:=T.obj _ _ st7 b hb;exact(I8.pin (b,o) (List.mem_append_right _ (List.mem_append_right _ (dD hb e)))).2.1
   refine bB (hg' _ s7 σ5 H7 x u _ I7' r7 (step x H7 y7)) fun _ s8 ⟨σ8,H8,I8,q8⟩=>?_;refine bB (ht' _ s8 σ8 H8 _ I8 q8) fun ok s9 ⟨H9,I9,q9⟩=>?_
   cases ok with
   | false=>
    obtain⟨m',hm,w9⟩:=q9;obtain⟨t9,f9⟩:=stay I9;exact⟨m',hm,i+1,σ8,H9,I9.unpinned,t9,f9,w9⟩
   | true=>
    refine bB (he' _ s9 σ8 H9 _ I9 q9) fun y s10 ⟨v,H10,I10,r10,xs,hD,hz,m',hm,w10⟩=>?_;refine bB (jZ (X:=Y) _ s10 σ8 H10 (.ref s2.heap.objs.size) [v] (.ref s2.heap.objs.size) [y] (fun _ H'=>H'=a8 H10 s2.heap.objs.size (.lst (xs++[v]))) I10 rfl (.cons r10 .nil) ⟨_,xs,v,rfl,rfl,hD,hz,rfl⟩) fun _ s11 ⟨_,H11,I11,_,q11⟩=>?_;subst q11;obtain⟨t11,f11⟩:=stay I11;exact⟨m',hm,i+1,σ8,_,I11.unpinned,t11,f11,w10⟩
 have FO:codeAny (model X.prog X.w) X.A (.compLoop (.ListComp elt [⟨tg,iter,ifs,0⟩] scope pos) 0 (.ref it) (.ref s2.heap.objs.size) (compEnvC scope cl s3.heap.objs.size X.env)) (compPost (model X.prog X.w) X.A X.xe use QQ (.ref s2.heap.objs.size) s3.heap.objs.size) {s3 with heap:=h4,toks:=s3.toks+([]:List (Str × Value)).length}:=
  loop _ I4 st4
 exact codeAny_compStart_list FO (T.self X.A 0 _ _ _ st4 FO)
theorem yi (S:dN N own fr X.N scope X.env.scope)(hc:X.calm=true)(hi:PI X tg iter wi)
  (hg:∀ cl s H fp,PG (bD X N scope cl s H fp) tg g) (ht:∀ cl s H fp,wG (bD X N scope cl s H fp) ifs tc) (he:∀ cl s H fp,PE (bD X N scope cl s H fp) elt te)
  (hs:∀ x,foldedSetIterable iter X.env x=pure x:=by intro _;rfl):PE X (.ListComp elt [⟨tg,iter,ifs,0⟩] scope pos) (pT own fr wi g tc te):=by
 intro pins s σ H Q I h;rw[eval_ListComp];exact jK S hc hi hg ht he hs I h fun D C H' s5 m5 hI hn _ _ _ _ _ q=>⟨m5,hn,fun h6 hs6=>⟨.ref D,H',hI h6 hs6,rfl,q⟩⟩
theorem ym {i:Nat}{x:Str}{pos1 pos':Pos}(hN:X.N.Nodup)(hi':X.N[i]?=some x)(hx:Loc X.env.scope x)(S:dN N own fr X.N scope X.env.scope)(hc:X.calm=true)(hi:PI X tg iter wi)
  (hg:∀ cl s H fp,PG (bD X N scope cl s H fp) tg g) (ht:∀ cl s H fp,wG (bD X N scope cl s H fp) ifs tc) (he:∀ cl s H fp,PE (bD X N scope cl s H fp) elt te)
  (hs:∀ x,foldedSetIterable iter X.env x=pure x:=by intro _;rfl) (hw:swapsWith (.ListComp elt [⟨tg,iter,ifs,0⟩] scope pos) (some (.Name x pos')) pos1.line X.env=pure true:=by rfl) (hf:X.fn x=true\/X.env.scope.names.lookup x=some .local:=by first|exact .inl rfl|exact .inr rfl|assumption) :
  PS X (.Assign [.Name x pos'] (.ListComp elt [⟨tg,iter,ifs,0⟩] scope pos) pos1) (B6 (pT own fr wi g tc te) (mx i)):=by
 intro pins s σ H D I h;rw[exec_Assign_Name_used x pos' _ pos1 hw];refine wpAny_bind (wpAny_standAt (wpAny_bind ?_));rw[arm_evalThenUse_ListComp];refine wpAny_bind (bB (jK (use:=some (assign (.Name x pos') X.env)) (QQ:=fun _ s'=>SP X pins D .next s') S hc hi hg ht he hs I h fun D' C H' s5 m5 hI hn hfree hsz hL hcs hps q=>?_) fun _ s' h=>wpAny_pure (wpAny_pure h));show wpAny _ _ (assign (.Name x pos') X.env (.ref D')) _ _ s5;refine wpAny_assign_Name (kg (hI s5.heap (.refl ..)) hN hi' hx (show RelV (.ref D') (.ref D') from rfl) (fun s6 I6 ⟨a,hsb,ha⟩=>?_) hf);have nC:a≠C:=by
  rcases ha with z|z
  ·rw[z];exact hL
  ·exact hcs x a z
 refine⟨m5,hn.sameBut hsb (Ne.symm nC),fun h6 hs6=>?_⟩;exact⟨_,H',I6.turned (t':=s6.toks) (it:=C) (fun b o hb e=>hs6.extBut b o hb e) hfree (Ne.symm hL) (.inr hsz) hcs hps,q⟩
end
end L2
namespace L2
open PySem PySem.Spec PySem.W PyProof.Rows
structure nE (K:Frag) (C:Addr):Prop where
 ga:findIn K (.ref C) "__getattribute__"=some (some (.builtin "BaseException.__getattribute__"))
 gt:findIn K (.ref C) "__getattr__"=some none
 cl:findIn K (.ref C) "__class__"=some (some (.builtin "object.__class__"))
 be:mroIn K C (.type "BaseException")=some true
 ob:mroIn K C (.type "object")=some true
section
variable {prog:Program}{w:World}{A:Around}{E:Value->Shared->Prop}{K:Frag}{h:Heap}{g:Array GenState}{d:Drawn}{t:Nat}{os:OsState}{a C:Addr}{o:Obj}
end
end L2
namespace L2
open PySem PySem.Spec PySem.W PyProof.Rows
theorem bh.there {P:Program}{w:World}{H:Hp}{h:Heap}{a:Addr}:∀ {o:HO},bh P w H h a o->∃ ob,h.get? a=some ob:=by
 intro o x
 cases o with
 | lst xs=>obtain⟨_,_,_,_,e⟩:=x;exact⟨_,e⟩
 | tup xs=>obtain⟨_,_,_,ob,e,_⟩:=x;exact⟨_,e⟩
 | dK kvs=>obtain⟨_,_,_,_,o,_,_,e,_⟩:=x;exact⟨_,e⟩
 | dT kvs=>obtain⟨_,_,_,_,o,_,_,e,_⟩:=x;exact⟨_,e⟩
 | set S n=>obtain⟨o,_,_,_,e,_⟩:=x;exact⟨_,e⟩
 | ins C dx fs=>obtain⟨_,_,_,e,_⟩:=x;exact⟨_,e⟩
 | own y=>obtain⟨_,e⟩:=x;exact⟨_,e⟩
 | xd fs=>obtain⟨_,⟨_,_,_,e,_⟩,_⟩:=x;exact⟨_,e⟩
 | rng lo hi=>obtain⟨_,_,_,e⟩:=x;exact⟨_,e⟩
 | frz ob u=>obtain⟨e,_⟩:=x;exact⟨_,e⟩
 | tbl ps=>exact⟨_,(show h.get? a=some _ from x)⟩
 | met f y=>exact⟨_,(show h.get? a=some _ from x)⟩
 | ext φ=>obtain⟨_,⟨_,e⟩,_⟩:=x;exact⟨_,e⟩
def Gf (P:Program)(w:World):oS:=fun outer H s E e s'=>∃ (ea C:Addr) (B:Heap) (a0:Value) (H':Hp),e=.ref ea/\s'.os=s.os/\AllBare s'.gens/\Un (nz outer) [] H H' s.heap s'.heap/\dR P w H' s'.heap/\H' ea=none ∧
 Heap.FlyingW B outer ea (.ref C) a0 s'.heap/\(∀ b o,s.heap.get? b=some o->b∉nz outer->H b=none->B.get? b=some o)/\(∀ b o ob,H' b=some o->s'.heap.get? b=some ob->B.get? b=some ob)/\(∀ b o,s.heap.get? b=some o->b∉nz outer->∃ ob,B.get? b=some ob)/\E (.ref C) none H'
def wH (X:Cx)(Ex:Addr->St->Hp->Prop):Prop:=∀ pins σ H s e s' E,ay X pins σ H s->Gf X.prog X.w X.stack H s E e s'->(∀ C H',E (.ref C) none H'->Ex C σ H')->X.xe e s'
section
variable {P:Program}{w:World}{K:Frag}{mg:Str->Option Value}{base:Heap}{N:List Str}{qual:Str}{scope:Scope}{f:Addr}{cdv:Value}{A:Around}{outer:List Env}{s:Shared}{H:Hp}{E:XK}
end
end L2
namespace L2
open PySem PySem.Spec PySem.W PyProof.Rows
abbrev GJ:List Value:=[.type "ValueError",.type "Exception",.type "BaseException",.type "object"]
structure Fc (K:Frag) (mg:Str->Option Value) (x:Str) (C:Addr):Prop where
 bound:mg x=some (.ref C)
 exc:excIn K C GJ "ValueError.__new__"=true
 cls:nE K C
section
variable {X:Cx}
end
end L2
namespace L2
open PySem PySem.Spec PySem.W PyProof.Rows
section
variable {M:Model}{A:Around}{E:Value->Shared->Prop}
end
section
variable {X:Cx}
end
end L2
namespace DL
open PySem L2
inductive T where
 | non|bl (b:Bool)|int (i:Int)|str (x:Str)|tup (xs:List T)|lst (xs:List T)|exc (x:Str)
inductive S where
 | t (x:T)|vt (x:T)|ol (xs:List T)
def ExcAt (H:Hp)(a c:Addr):Prop:=H a=some (.ext fun h=>∃ o,h.get? a=some o/\o.cls=.ref c)
mutual
def al (K:PySem.W.Frag)(H:Hp):T->V->Prop
 | .non,v=>v=.non
 | .bl b,v=>v=.bl b
 | .int i,v=>v=.int i
 | .str x,v=>v=.str x
 | .tup ts,v=>∃ a xs,v=.ref a/\dy K H a xs/\ae K H ts xs
 | .lst ts,v=>∃ a xs,v=.ref a/\ca K H a xs/\ae K H ts xs
 | .exc x,v=>∃ a C,v=.ref a/\PySem.W.nsIn K mainGlobals x=some (some (.ref C))/\ExcAt H a C
def ae (K:PySem.W.Frag)(H:Hp):List T->List V->Prop
 | [],xs=>xs=[]
 | t::ts,xs=>∃ x r,xs=x::r/\al K H t x/\ae K H ts r
end
mutual
def ji:T->Bool
 | .tup ts=>bx ts
 | .lst _=>false
 | _=>true
def bx:List T->Bool
 | []=>true
 | t::ts=>ji t && bx ts
end
mutual
theorem al.mono {K:PySem.W.Frag}{H H':Hp}(h:∀ a xs,dy K H a xs->dy K H' a xs)(hl:∀ a xs,ca K H a xs->ca K H' a xs)(he:∀ a c,ExcAt H a c->ExcAt H' a c):∀ (t:T) (v:V),al K H t v->al K H' t v
 | .non,_,e=>e
 | .bl _,_,e=>e
 | .int _,_,e=>e
 | .str _,_,e=>e
 | .tup ts,_,⟨a,xs,e,q,r⟩=>⟨a,xs,e,h a xs q,ae.mono h hl he ts xs r⟩
 | .lst ts,_,⟨a,xs,e,q,r⟩=>⟨a,xs,e,hl a xs q,ae.mono h hl he ts xs r⟩
 | .exc c,_,⟨a,C,e,z,q⟩=>⟨a,C,e,z,he a C q⟩
theorem ae.mono {K:PySem.W.Frag}{H H':Hp}(h:∀ a xs,dy K H a xs->dy K H' a xs)(hl:∀ a xs,ca K H a xs->ca K H' a xs)(he:∀ a c,ExcAt H a c->ExcAt H' a c):∀ (ts:List T) (xs:List V),ae K H ts xs->ae K H' ts xs
 | [],_,e=>e
 | t::ts,_,⟨x,r,e,p,q⟩=>⟨x,r,e,al.mono h hl he t x p,ae.mono h hl he ts r q⟩
end
theorem ao.sqT {K:PySem.W.Frag}{H H':Hp}(e:ao H H')(a:Addr)(xs:List V)(h:dy K H a xs):dy K H' a xs:=by
 rcases h with (h|⟨o,h⟩)|h
 ·exact .inl (.inl (e _ _ h))
 ·exact .inl (.inr ⟨o,e _ _ h⟩)
 ·exact .inr h
theorem al.same {K:PySem.W.Frag}{H H':Hp}(e:ao H H'){t:T}{v:V}(h:al K H t v):al K H' t v:=al.mono (fun a xs q=>ao.sqT e a xs q) (fun a xs q=>e.seq q) (fun a c q=>e _ _ q) t v h
theorem ae.same {K:PySem.W.Frag}{H H':Hp}(e:ao H H'){ts:List T}{xs:List V}(h:ae K H ts xs):ae K H' ts xs:=ae.mono (fun a xs q=>ao.sqT e a xs q) (fun a xs q=>e.seq q) (fun a c q=>e _ _ q) ts xs h
def dJ (F H:Hp):Prop:=∀ b o,H b=some o->F b=some o\/∃ xs,o=.lst xs
theorem dJ.sqT {K:PySem.W.Frag}{F H:Hp}(f:dJ F H)(a:Addr)(xs:List V)(h:dy K H a xs):dy K F a xs:=by
 rcases h with (h|⟨o,h⟩)|h
 ·rcases f _ _ h with q|⟨ys,q⟩
  ·exact .inl (.inl q)
  ·cases q
 ·rcases f _ _ h with q|⟨ys,q⟩
  ·exact .inl (.inr ⟨o,q⟩)
  ·cases q
 ·exact .inr h
theorem dJ.exc {F H:Hp}(f:dJ F H){a c:Addr}(h:ExcAt H a c):ExcAt F a c:=by
 rcases f _ _ h with q|⟨ys,q⟩
 ·exact q
 ·cases q
mutual
theorem al.fullM {K:PySem.W.Frag}{F H:Hp}(e:dJ F H):∀ (t:T) (v:V),ji t=true->al K H t v->al K F t v
 | .non,_,_,h=>h
 | .bl _,_,_,h=>h
 | .int _,_,_,h=>h
 | .str _,_,_,h=>h
 | .tup ts,_,p,⟨a,xs,h1,h2,h3⟩=>⟨a,xs,h1,e.sqT a xs h2,ae.fullM e ts xs (by simpa only [ji] using p) h3⟩
 | .lst _,_,p,_=>by simp[ji]at p
 | .exc _,_,_,⟨a,C,h1,z,h2⟩=>⟨a,C,h1,z,e.exc h2⟩
theorem ae.fullM {K:PySem.W.Frag}{F H:Hp}(e:dJ F H):∀ (ts:List T) (xs:List V),bx ts=true->ae K H ts xs->ae K F ts xs
 | [],_,_,h=>h
 | t::ts,_,p,⟨x,r,h1,h2,h3⟩=>by
  simp only[bx,Bool.and_eq_true]at p;exact⟨x,r,h1,al.fullM e t x p.1 h2,ae.fullM e ts r p.2 h3⟩
end
theorem al.full {K:PySem.W.Frag}{F H:Hp}(e:dJ F H){t:T}{v:V}(p:ji t=true)(h:al K H t v):al K F t v:=al.fullM e t v p h
theorem ae.full {K:PySem.W.Frag}{F H:Hp}(e:dJ F H){ts:List T}{xs:List V}(p:bx ts=true)(h:ae K H ts xs):ae K F ts xs:=ae.fullM e ts xs p h
def norm (x:T):S:=if ji x=true then .t x else .vt x
theorem ae.length {K:PySem.W.Frag}{H:Hp}:∀ {ts:List T}{xs:List V},ae K H ts xs->xs.length=ts.length
 | [],_,e=>by cases (show _=[] from e);rfl
 | t::ts,_,⟨x,r,e,_,q⟩=>by subst e;rw[List.length_cons,List.length_cons,ae.length q]
theorem ae.get {K:PySem.W.Frag}{H:Hp}:∀ {ts:List T}{xs:List V}{i:Nat}{t:T},ae K H ts xs->ts[i]?=some t->∃ x,xs[i]?=some x/\al K H t x
 | [],_,_,_,_,e=>by simp at e
 | t::ts,_,0,u,⟨x,r,e,p,q⟩,h=>by subst e;simp at h;subst h;exact⟨x,by simp,p⟩
 | t::ts,_,i+1,u,⟨x,r,e,p,q⟩,h=>by
  subst e;obtain⟨y,h1,h2⟩:=ae.get (i:=i) q (by simpa using h)
  exact⟨y,by simpa using h1,h2⟩
theorem ae.append {K:PySem.W.Frag}{H:Hp}:∀ {ts us:List T}{xs ys:List V},ae K H ts xs->ae K H us ys->ae K H (ts++us) (xs++ys)
 | [],_,_,_,e,q=>by cases (show _=[] from e);exact q
 | t::ts,_,_,_,⟨x,r,e,p,q⟩,h=>by subst e;exact⟨x,r++_,rfl,p,ae.append q h⟩
theorem ae.one {K:PySem.W.Frag}{H:Hp}{t:T}{x:V}(h:al K H t x):ae K H [t] [x]:=⟨x,[],rfl,h,rfl⟩
theorem ae.take {K:PySem.W.Frag}{H:Hp}:∀ {ts:List T}{xs:List V} (n:Nat),ae K H ts xs->ae K H (ts.take n) (xs.take n)
 | _,_,0,_=>by simp only[List.take_zero];rfl
 | [],_,_+1,e=>by cases (show _=[] from e);rfl
 | t::ts,_,n+1,⟨x,r,e,p,q⟩=>by subst e;exact⟨x,r.take n,rfl,p,ae.take n q⟩
theorem ae.drop {K:PySem.W.Frag}{H:Hp}:∀ {ts:List T}{xs:List V} (n:Nat),ae K H ts xs->ae K H (ts.drop n) (xs.drop n)
 | _,_,0,h=>by simp only[List.drop_zero];exact h
 | [],_,_+1,e=>by cases (show _=[] from e);rfl
 | t::ts,_,n+1,⟨x,r,e,p,q⟩=>by subst e;exact ae.drop n q
theorem ae.set {K:PySem.W.Frag}{H:Hp}{u:T}{y:V}(h:al K H u y):∀ {ts:List T}{xs:List V} (n:Nat),ae K H ts xs->ae K H (ts.set n u) (xs.set n y)
 | [],_,_,e=>by cases (show _=[] from e);rfl
 | t::ts,_,0,⟨x,r,e,p,q⟩=>by subst e;exact⟨y,r,rfl,h,q⟩
 | t::ts,_,n+1,⟨x,r,e,p,q⟩=>by subst e;exact⟨x,r.set n y,rfl,p,ae.set h n q⟩
theorem ae.dropLast {K:PySem.W.Frag}{H:Hp}{ts:List T}{xs:List V}(h:ae K H ts xs):ae K H ts.dropLast xs.dropLast:=by
 rw[List.dropLast_eq_take,List.dropLast_eq_take,h.length];exact h.take _
theorem ae.reverse {K:PySem.W.Frag}{H:Hp}:∀ {ts:List T}{xs:List V},ae K H ts xs->ae K H ts.reverse xs.reverse
 | [],_,e=>by cases (show _=[] from e);rfl
 | t::ts,_,⟨x,r,e,p,q⟩=>by subst e;rw[List.reverse_cons,List.reverse_cons];exact ae.append (ae.reverse q) (ae.one p)
theorem ae.ints {K:PySem.W.Frag}{H:Hp}:∀ (ns:List Int),ae K H (ns.map T.int) (ns.map V.int)
 | []=>rfl
 | n::ns=>⟨.int n,ns.map V.int,rfl,rfl,ae.ints ns⟩
abbrev az:=List (Option S)
abbrev WE:=az->(S->Prop)->Prop
abbrev WT:=az->(Bool->Prop)->Prop
abbrev WA:=az->(List S->Prop)->Prop
structure dP where
 nx:az->Prop
 rt:S->Prop
 bk:az->Prop:=fun _=>False
 ct:az->Prop:=fun _=>False
abbrev WS:=dP->az->Prop
def dw (K:PySem.W.Frag)(F H:Hp):S->V->Prop
 | .t x,v=>al K F x v
 | .vt _,_=>False
 | .ol ts,v=>∃ a xs,v=.ref a/\F a=none/\H a=some (.lst xs)/\ae K F ts xs
structure Rel (K:PySem.W.Frag) (F H:Hp) (σ:St) (δ:az):Prop where
 sub:ao F H
 full:dJ F H
 len:σ.length=δ.length
 slot:∀ (i:Nat) (s:S),δ[i]?=some (some s)->∃ v,σ[i]?=some (some v)/\dw K F H s v
 dist:∀ (i j:Nat) (a:Addr) (ts us:List T),i≠j->δ[i]?=some (some (.ol ts))->δ[j]?=some (some (.ol us))->σ[i]?=some (some (.ref a))->σ[j]?≠some (some (.ref a))
structure bX (F H F' H':Hp):Prop where
 hh:ao H H'
 ff:ao F F'
 sub:ao F' H'
 full:dJ F' H'
 keep:∀ b,H b≠none->F b=none->F' b=none
theorem ax {H H':Hp}(e:ao H H'){b:Addr}(h:H' b=none):H b=none:=e.free h
theorem bX.refl {F H:Hp}(a:ao F H)(b:dJ F H):bX F H F H:=⟨ao.refl _,ao.refl _,a,b,fun _ _ h=>h⟩
theorem bX.trans {F H F1 H1 F2 H2:Hp}(a:bX F H F1 H1)(b:bX F1 H1 F2 H2):bX F H F2 H2:=
 ⟨a.hh.trans b.hh,a.ff.trans b.ff,b.sub,b.full,fun c h1 h2=>b.keep c (fun z=>h1 (ax a.hh z)) (a.keep c h1 h2)⟩
theorem bX.sqL {K:PySem.W.Frag}{F H F' H':Hp}(e:bX F H F' H'){a:Addr}{xs:List V}(h:ca K H a xs):ca K H' a xs:=e.hh.seq h
theorem dw.ext {K:PySem.W.Frag}{F H F' H':Hp}(e:bX F H F' H'):∀ {s:S}{v:V},dw K F H s v->dw K F' H' s v
 | .t _,_,h=>al.same e.ff h
 | .vt _,_,h=>h
 | .ol _,_,⟨a,xs,h1,h2,h3,h4⟩=>⟨a,xs,h1,e.keep a (by rw[h3];simp) h2,e.hh _ _ h3,ae.same e.ff h4⟩
theorem Rel.ext {K:PySem.W.Frag}{F H F' H':Hp}{σ:St}{δ:az}(r:Rel K F H σ δ)(e:bX F H F' H'):Rel K F' H' σ δ:=
 ⟨e.sub,e.full,r.len,fun i s h=>let ⟨v,h1,h2⟩:=r.slot i s h;⟨v,h1,h2.ext e⟩,r.dist⟩
theorem Rel.refl {K:PySem.W.Frag}{F H:Hp}{σ:St}{δ:az}(r:Rel K F H σ δ):bX F H F H:=bX.refl r.sub r.full
def bP (K:PySem.W.Frag)(H F' H':Hp):S->V->Prop
 | .t x,v=>al K F' x v
 | .vt x,v=>al K H' x v
 | .ol ts,v=>∃ a xs,v=.ref a/\H a=none/\F' a=none/\H' a=some (.lst xs)/\ae K F' ts xs
theorem bP.ext {K:PySem.W.Frag}{H F1 H1 F2 H2:Hp}(e:bX F1 H1 F2 H2):∀ {s:S}{v:V},bP K H F1 H1 s v->bP K H F2 H2 s v
 | .t _,_,h=>al.same e.ff h
 | .vt _,_,h=>al.same e.hh h
 | .ol _,_,⟨a,xs,h1,h2,h3,h4⟩=>⟨a,xs,h1,h2,e.keep a (by rw[h4.1];simp) h3,e.hh _ _ h4.1,ae.same e.ff h4.2⟩
theorem bP.start {K:PySem.W.Frag}{H0 H F' H':Hp}(e:ao H0 H):∀ {s:S}{v:V},bP K H F' H' s v->bP K H0 F' H' s v
 | .t _,_,h=>h
 | .vt _,_,h=>h
 | .ol _,_,⟨a,xs,h1,h2,h3⟩=>⟨a,xs,h1,ax e h2,h3⟩
theorem bP.norm {K:PySem.W.Frag}{H F H':Hp}(f:dJ F H'){x:T}{v:V}(h:al K H' x v):bP K H F H' (norm x) v:=by
 unfold DL.norm
 split
 ·rename_i p;exact al.full f p h
 ·exact h
def gT (K:PySem.W.Frag)(F H:Hp):S->V->Prop
 | .t x,v=>al K F x v
 | .vt x,v=>al K H x v
 | .ol ts,v=>∃ a xs,v=.ref a/\ca K H a xs/\ae K F ts xs
theorem bP.val {K:PySem.W.Frag}{H0 F H:Hp}(e:ao F H):∀ {s:S}{v:V},bP K H0 F H s v->gT K F H s v
 | .t _,_,h=>h
 | .vt _,_,h=>h
 | .ol _,_,⟨a,xs,h1,_,_,h2,h3⟩=>⟨a,xs,h1,ca.of h2,h3⟩
def tr:S->T
 | .t x=>x
 | .vt x=>x
 | .ol ts=>.lst ts
theorem gT.tree {K:PySem.W.Frag}{F H:Hp}(e:ao F H):∀ {s:S}{v:V},gT K F H s v->al K H (tr s) v
 | .t _,_,h=>al.same e h
 | .vt _,_,h=>h
 | .ol _,_,⟨a,xs,h1,h2,h3⟩=>⟨a,xs,h1,h2,ae.same e h3⟩
def items:S->Option (List T)
 | .t (.lst ts)=>some ts
 | .vt (.lst ts)=>some ts
 | .ol ts=>some ts
 | _=>none
theorem gT.list {K:PySem.W.Frag}{F H:Hp}(e:ao F H){s:S}{v:V}{ts:List T}(h:gT K F H s v)(q:items s=some ts):∃ a xs,v=.ref a/\ca K H a xs/\ae K H ts xs:=by
 cases s with
 | t x=>
  cases x with
  | lst us=>
   have e1:us=ts:=Option.some.inj q;subst e1;unfold gT al at h;obtain⟨a,xs,h1,h2,h3⟩:=h;exact⟨a,xs,h1,e.seq h2,ae.same e h3⟩
  | _=>cases q
 | vt x=>
  cases x with
  | lst us=>
   have e1:us=ts:=Option.some.inj q;subst e1;unfold gT al at h;exact h
  | _=>cases q
 | ol us=>
  have e1:us=ts:=Option.some.inj q;subst e1;unfold gT at h;obtain⟨a,xs,h1,h2,h3⟩:=h;exact⟨a,xs,h1,h2,ae.same e h3⟩
def ah (K:PySem.W.Frag)(w:WE):TE:=fun σ H Q=>∃ δ R F,Rel K F H σ δ/\w δ R/\∀ v F' H' s,bX F H F' H'->bP K H F' H' s v->R s->Q v H'
def liftT (K:PySem.W.Frag)(w:WT):TT:=fun σ H Q=>∃ δ R F,Rel K F H σ δ/\w δ R/\∀ F' H' b,bX F H F' H'->R b->Q b H'
def cT (K:PySem.W.Frag)(H F' H':Hp):List S->List V->Prop
 | [],vs=>vs=[]
 | s::ss,vs=>∃ v r,vs=v::r/\bP K H F' H' s v/\cT K H F' H' ss r
theorem cT.start {K:PySem.W.Frag}{H0 H F' H':Hp}(e:ao H0 H):∀ {ss:List S}{vs:List V},cT K H F' H' ss vs->cT K H0 F' H' ss vs
 | [],_,h=>h
 | _::_,_,⟨v,r,h1,h2,h3⟩=>⟨v,r,h1,h2.start e,cT.start e h3⟩
def bS (K:PySem.W.Frag)(w:WA):TA:=fun σ H Q=>∃ δ R F,Rel K F H σ δ/\w δ R/\∀ vs F' H' ss,bX F H F' H'->cT K H F' H' ss vs->R ss->Q vs H'
def p9 (K:PySem.W.Frag)(H₀ H':Hp):S->V->Prop
 | .t x,v=>al K H' x v
 | .vt _,_=>False
 | .ol ts,v=>∃ a xs,v=.ref a/\H₀ a=none/\H' a=some (.lst xs)/\ae K H' ts xs
structure kl (K:PySem.W.Frag) (H₀ F:Hp) (D':dP) (D:Ends):Prop where
 nx:∀ σ' F' H' δ',ao F F'->Rel K F' H' σ' δ'->D'.nx δ'->D.nx σ' H'
 rt:∀ v H' s,ao H₀ H'->p9 K H₀ H' s v->D'.rt s->D.rt v H'
 bk:∀ σ' F' H' δ',ao F F'->Rel K F' H' σ' δ'->D'.bk δ'->D.bk σ' H'
 ct:∀ σ' F' H' δ',ao F F'->Rel K F' H' σ' δ'->D'.ct δ'->D.ct σ' H'
theorem kl.mono {K:PySem.W.Frag}{H₀ F F1:Hp}{D':dP}{D:Ends}(e:kl K H₀ F D' D)(s:ao F F1):kl K H₀ F1 D' D:=
 ⟨fun _ _ _ _ h=>e.nx _ _ _ _ (s.trans h),e.rt,fun _ _ _ _ h=>e.bk _ _ _ _ (s.trans h),fun _ _ _ _ h=>e.ct _ _ _ _ (s.trans h)⟩
def aP (K:PySem.W.Frag)(H₀:Hp)(w:WS):TS:=fun D σ H=>∃ δ D' F,ao H₀ F/\Rel K F H σ δ/\w D' δ/\kl K H₀ F D' D
end DL
namespace L2
open PySem
section
variable {X:Cx}{e:Expr}{t t':TE}
theorem PE.imp (h:PE X e t)(i:∀ σ H Q,t' σ H Q->t σ H Q):PE X e t':=fun pins s σ H Q I q=>h pins s σ H Q I (i σ H Q q)
theorem PT.imp {t t':TT}(h:PT X e t)(i:∀ σ H Q,t' σ H Q->t σ H Q):PT X e t':=fun pins s σ H Q I q=>h pins s σ H Q I (i σ H Q q)
theorem PW.imp {t t':TT}(h:PW X e t)(i:∀ σ H Q,t' σ H Q->t σ H Q):PW X e t':=fun wh pins s σ H Q I q=>h wh pins s σ H Q I (i σ H Q q)
theorem PA.imp {es:List Expr}{t t':TA}(h:PA X es t)(i:∀ σ H Q,t' σ H Q->t σ H Q):PA X es t':=fun pos pins s σ H Q I q=>h pos pins s σ H Q I (i σ H Q q)
theorem PS.imp {st:Stmt}{t t':TS}(h:PS X st t)(i:∀ D σ H,t' D σ H->t D σ H):PS X st t':=fun pins s σ H D I q=>h pins s σ H D I (i D σ H q)
theorem cy.imp {st:List Stmt}{t t':TS}(h:cy X st t)(i:∀ D σ H,t' D σ H->t D σ H):cy X st t':=fun pins s σ H D I q=>h pins s σ H D I (i D σ H q)
theorem PG.imp {tg:Expr}{t t':TG}(h:PG X tg t)(i:∀ v σ H Q,t' v σ H Q->t v σ H Q):PG X tg t':=fun pins s σ H v u Q I r q=>h pins s σ H v u Q I r (i v σ H Q q)
theorem rF.imp {tg:List Expr}{t t':wI}(h:rF X tg t)(i:∀ v σ H Q,t' v σ H Q->t v σ H Q):rF X tg t':=fun pins s σ H v u Q I r q=>h pins s σ H v u Q I r (i v σ H Q q)
theorem PI.imp {tg iter:Expr}{t t':TI}(h:PI X tg iter t)(i:∀ σ H Q,t' σ H Q->t σ H Q):PI X tg iter t':=fun pins s σ H R I q=>h pins s σ H R I (i σ H R q)
end
end L2
namespace DL
open PySem L2
def wC (x:T):WE:=fun _ R=>R (.t x)
def seen:S->S
 | .ol ts=>.vt (.lst ts)
 | .t x=>.t x
 | .vt x=>.vt x
def af (i:Nat):WE:=fun δ R=>match δ[i]? with
 | some (some s)=>R (seen s)
 | _=>False
section
variable {X:Cx}{a b c:Expr}{wa wb wc:WE}{pos:Pos}
theorem ab {i j pos}:PE X (.Constant (.int i) j pos) (ah X.K (wC (.int i))):=BD.imp fun _ _ _ ⟨_,_,_,r,h,k⟩=>k _ _ _ (.t (.int i)) r.refl rfl h
theorem ma {i j pos}:PE X (.Constant (.bool i) j pos) (ah X.K (wC (.bl i))):=zv.imp fun _ _ _ ⟨_,_,_,r,h,k⟩=>k _ _ _ (.t (.bl i)) r.refl rfl h
theorem yO {K:PySem.W.Frag}{F H:Hp}(e:ao F H):∀ {s:S}{v:V},dw K F H s v->bP K H F H (seen s) v
 | .t _,_,h=>h
 | .vt _,_,h=>False.elim h
 | .ol _,_,⟨a,xs,h1,_,h3,h4⟩=>⟨a,xs,h1,ca.of h3,ae.same e h4⟩
theorem qu {e:Expr}{i:Nat}(h:PE X e (lJ i)):PE X e (ah X.K (af i)):=h.imp fun σ H Q ⟨δ,R,F,r,h,k⟩=>by
 unfold af at h
 split at h
 ·rename_i s hs;obtain⟨v,h1,h2⟩:=r.slot i s hs;exact⟨v,h1,k _ _ _ _ r.refl (yO r.sub h2) h⟩
 ·exact h.elim
theorem dv (i:Nat) {x:Str}{pos:Pos} (hN:X.N[i]?=some x:=by rfl) (hv:EQ X.env.scope x:=by first | exact Or.inl rfl | exact Or.inr (Or.inl rfl) | exact Or.inr (Or.inr rfl)) (hd:(x == ("__debug__":Str))=false:=by decide)
  (hcd:(x == ("__classdict__":Str))=false:=by decide):PE X (.Name x pos) (ah X.K (af i)):=qu (vJ hN hv hd hcd)
def bf (f:S->S->(S->Prop)->Prop)(wa wb:WE):WE:=fun δ R=>wa δ fun x=>wb δ fun y=>f x y R
def zN (K:PySem.W.Frag)(r:R2)(f:S->S->(S->Prop)->Prop):Prop:=
 ∀ F H s1 s2 v1 v2 R Q,ao F H->dJ F H->gT K F H s1 v1->gT K F H s2 v2->f s1 s2 R->(∀ v F' H' s,bX F H F' H'->bP K H F' H' s v->R s->Q v H')->r v1 v2 H Q
theorem bU {K:PySem.W.Frag}{r:R2}{f:S->S->(S->Prop)->Prop}(ho:zN K r f):∀ σ H Q,ah K (bf f wa wb) σ H Q->Er r (ah K wa) (ah K wb) σ H Q:=by
 rintro σ H Q ⟨δ,R,F,rl,h,k⟩;refine⟨δ,_,F,rl,h,fun v1 F1 H1 s1 e1 p1 h1=>?_⟩;refine⟨δ,_,F1,rl.ext e1,h1,fun v2 F2 H2 s2 e2 p2 h2=>?_⟩;refine ho F2 H2 s1 s2 v1 v2 R Q e2.sub e2.full ((p1.ext e2).val e2.sub) (p2.val e2.sub) h2 fun v F' H' s e p q=>?_;exact k v F' H' s ((e1.trans e2).trans e) (p.start (e1.trans e2).hh) q
def fI (C:Int->Int->Prop)(g:Int->Int->T):S->S->(S->Prop)->Prop
 | .t (.int i),.t (.int j),R=>C i j/\R (.t (g i j))
 | _,_,_=>False
def zg (g:Int->Int->T):S->S->(S->Prop)->Prop
 | .t (.int i),.t (.int j),R=>R (.t (g i j))
 | _,_,_=>False
theorem xx {C:Int->Int->Prop}{g:Int->Int->T}:∀ {s1 s2:S}{R:S->Prop},fI C g s1 s2 R->∃ i j,s1=.t (.int i)/\s2=.t (.int j)/\C i j/\R (.t (g i j))
 | .t (.int i),.t (.int j),_,h=>⟨i,j,rfl,rfl,h.1,h.2⟩
theorem t6 {g:Int->Int->T}:∀ {s1 s2:S}{R:S->Prop},zg g s1 s2 R->∃ i j,s1=.t (.int i)/\s2=.t (.int j)/\R (.t (g i j))
 | .t (.int i),.t (.int j),_,h=>⟨i,j,rfl,rfl,h⟩
def toV:T->V
 | .bl b=>.bl b
 | .int i=>.int i
 | .str x=>.str x
 | _=>.non
def flat:T->Bool
 | .tup _=>false
 | .lst _=>false
 | .exc _=>false
 | _=>true
theorem mq {K:PySem.W.Frag}{F:Hp}:∀ {x:T},flat x=true->al K F x (toV x)
 | .non,_=>rfl
 | .bl _,_=>rfl
 | .int _,_=>rfl
 | .str _,_=>rfl
theorem pG {K:PySem.W.Frag}{C:Int->Int->Prop}{g:Int->Int->T}(hg:∀ i j,flat (g i j)=true):zN K (rI C fun i j=>toV (g i j)) (fI C g):=by
 intro F H s1 s2 v1 v2 R Q sb fu p1 p2 h k;obtain⟨i,j,rfl,rfl,hc,hr⟩:=xx h;exact⟨i,j,p1,p2,hc,k _ F H (.t (g i j)) (bX.refl sb fu) (mq (hg i j)) hr⟩
theorem iS {K:PySem.W.Frag}{g:Int->Int->T}(hg:∀ i j,flat (g i j)=true):zN K (zA fun i j=>toV (g i j)) (zg g):=by
 intro F H s1 s2 v1 v2 R Q sb fu p1 p2 h k;obtain⟨i,j,rfl,rfl,hr⟩:=t6 h;exact⟨i,j,p1,p2,k _ F H (.t (g i j)) (bX.refl sb fu) (mq (hg i j)) hr⟩
abbrev fw:=bf (zg fun i j=>.int (i+j))
abbrev fZ:=bf (zg fun i j=>.int (i-j))
structure MulOk (i j:Int):Prop where
 ok:IntMulOk i j
structure rG (i j:Int):Prop where
 ok:CC i j
abbrev eu:=bf (fI MulOk fun i j=>.int (i*j))
structure jB (i j:Int):Prop where
 ne:j≠0
 short:Builtin.divisionGoesByPylong i j=false
abbrev fc:=bf (fI jB fun i j=>.int (i.fdiv j))
abbrev ee:=bf (fI (fun _ j=>j≠0) fun i j=>.int (i.fmod j))
abbrev oK:=bf (fI rG fun i j=>.int (i ^ j.toNat))
theorem yd:im X (binaryOp .Mult) (rI MulOk fun i j=>.int (i*j)):=EZ fun _ _ _ _ _ _ _ hc q=>PyProof.Rows.mul_int q hc.ok
theorem vF:im X (binaryOp .FloorDiv) (rI jB fun i j=>.int (i.fdiv j)):=EZ fun _ _ _ _ _ _ _ hc q=>PyProof.Rows.floordiv_int hc.ne q (.inl hc.short)
theorem bR (ha:PE X a (ah X.K wa))(hb:PE X b (ah X.K wb)):PE X (.BinOp a .Add b pos) (ah X.K (fw wa wb)):=(j4 Bw ha hb).imp (bU (iS fun _ _=>rfl))
theorem cc (ha:PE X a (ah X.K wa))(hb:PE X b (ah X.K wb)):PE X (.BinOp a .Sub b pos) (ah X.K (fZ wa wb)):=(j4 Bz ha hb).imp (bU (iS fun _ _=>rfl))
theorem bG (ha:PE X a (ah X.K wa))(hb:PE X b (ah X.K wb)):PE X (.BinOp a .Mult b pos) (ah X.K (eu wa wb)):=(j4 yd ha hb).imp (bU (pG fun _ _=>rfl))
theorem cz (ha:PE X a (ah X.K wa))(hb:PE X b (ah X.K wb)):PE X (.BinOp a .FloorDiv b pos) (ah X.K (fc wa wb)):=(j4 vF ha hb).imp (bU (pG fun _ _=>rfl))
theorem bF (ha:PE X a (ah X.K wa))(hb:PE X b (ah X.K wb)):PE X (.BinOp a .Mod b pos) (ah X.K (ee wa wb)):=(j4 yb ha hb).imp (bU (pG fun _ _=>rfl))
theorem gq (ha:PE X a (ah X.K wa))(hb:PE X b (ah X.K wb)):PE X (.BinOp a .Pow b pos) (ah X.K (oK wa wb)):=(j4 (show im X (binaryOp .Pow) (rI rG fun i j=>.int (i ^ j.toNat)) from fun pins s σ H x y v u Q I rx ry ⟨i,j,e1,e2,hc,q⟩=>By pins s σ H x y v u Q I rx ry ⟨i,j,e1,e2,hc.ok,q⟩) ha hb).imp (bU (pG fun _ _=>rfl))
abbrev Gz:=bf (zg fun i j=>.bl (decide (i<j)))
abbrev EF:=bf (zg fun i j=>.bl (decide (j<i)))
abbrev EE:=bf (zg fun i j=>.bl (decide (j<=i)))
def wB (w:WE):WT:=fun δ R=>w δ fun s=>match s with
 | .t (.bl k)=>R k
 | _=>False
theorem iy {op:CmpOp}{r:R2}{f:S->S->(S->Prop)->Prop}(ho:im X (compareOp op) r)(hf:zN X.K r f)(ha:PE X a (ah X.K wa))(hb:PE X b (ah X.K wb))(hm:behindInMarks op b=false):PT X (.Compare a [op] [b] pos) (liftT X.K (wB (bf f wa wb))):=
 (yo ho ha hb hm).imp fun σ H Q h=>by
  obtain⟨δ,R,F,rl,h,k⟩:=h;refine bU hf σ H _ ⟨δ,_,F,rl,h,fun v F1 H1 s e p q=>?_⟩
  split at q
  ·exact⟨_,p,k F1 H1 _ e q⟩
  ·exact q.elim
theorem Dx (ha:PE X a (ah X.K wa))(hb:PE X b (ah X.K wb)):PT X (.Compare a [.Lt] [b] pos) (liftT X.K (wB (Gz wa wb))):=iy D7 (iS fun _ _=>rfl) ha hb (gB _)
theorem pe (ha:PE X a (ah X.K wa))(hb:PE X b (ah X.K wb)):PT X (.Compare a [.Gt] [b] pos) (liftT X.K (wB (EF wa wb))):=iy D6 (iS fun _ _=>rfl) ha hb (gB _)
theorem pd (ha:PE X a (ah X.K wa))(hb:PE X b (ah X.K wb)):PT X (.Compare a [.GtE] [b] pos) (liftT X.K (wB (EE wa wb))):=iy D2 (iS fun _ _=>rfl) ha hb (gB _)
theorem kG {e:Expr}{w:WE}(h:PE X e (ah X.K w))(he:∀ whole,isTrue e X.env whole=(do let v ← whole;standAt e.pos;holding [v] (truthy v)):=by intro _;rfl):PT X e (liftT X.K (wB w)):=
 (BM h he).imp fun σ H Q h=>by
  obtain⟨δ,R,F,rl,h,k⟩:=h;refine⟨δ,_,F,rl,h,fun v F1 H1 s e p q=>?_⟩
  split at q
  ·exact⟨_,p,k F1 H1 _ e q⟩
  ·exact q.elim
def nq (t u:WT):WT:=fun δ R=>t δ fun k=>if k=true then u δ R else R false
def yU (t u:WT):WT:=fun δ R=>t δ fun k=>if k=true then R true else u δ R
def nu (t:WT):WT:=fun δ R=>t δ fun k=>R (!k)
theorem kH {t:WT}(ha:PT X a (liftT X.K t)):PW X (.BoolOp .And [a] pos) (liftT X.K t):=yG ha
theorem sI {t:WT}(ha:PT X a (liftT X.K t)):PW X (.BoolOp .Or [a] pos) (liftT X.K t):=BQ ha
theorem n6 {rest:List Expr}{t u:WT}(ha:PT X a (liftT X.K t))(hb:PW X (.BoolOp .And (b::rest) pos) (liftT X.K u)):PW X (.BoolOp .And (a::b::rest) pos) (liftT X.K (nq t u)):=
 (BP ha hb).imp fun σ H Q ⟨δ,R,F,rl,h,k⟩=>⟨δ,_,F,rl,h,fun F1 H1 c e q=>by
  cases c with
  | true=>exact⟨δ,R,F1,rl.ext e,by simpa using q,fun F2 H2 c e2 q=>k F2 H2 c (e.trans e2) q⟩
  | false=>exact k F1 H1 false e (by simpa using q)⟩
theorem zf {rest:List Expr}{t u:WT}(ha:PT X a (liftT X.K t))(hb:PW X (.BoolOp .Or (b::rest) pos) (liftT X.K u)):PW X (.BoolOp .Or (a::b::rest) pos) (liftT X.K (yU t u)):=
 (Ec ha hb).imp fun σ H Q ⟨δ,R,F,rl,h,k⟩=>⟨δ,_,F,rl,h,fun F1 H1 c e q=>by
  cases c with
  | false=>exact⟨δ,R,F1,rl.ext e,by simpa using q,fun F2 H2 c e2 q=>k F2 H2 c (e.trans e2) q⟩
  | true=>exact k F1 H1 true e (by simpa using q)⟩
theorem n5 {t:WT}(ha:PT X a (liftT X.K t)):PT X (.UnaryOp .Not a pos) (liftT X.K (nu t)):=
 (BL ha).imp fun σ H Q ⟨δ,R,F,rl,h,k⟩=>⟨δ,_,F,rl,h,fun F1 H1 c e q=>k F1 H1 (!c) e q⟩
def CA (t:WT):WT:=fun δ R=>∃ P:Bool->Prop,t δ P/\∀ k,P k->R k
theorem sE {t:WT}(ha:PT X a (liftT X.K t)):PT X a (liftT X.K (CA t)):=ha.imp fun σ H Q ⟨δ,R,F,rl,⟨P,h,k1⟩,k⟩=>⟨δ,P,F,rl,h,fun F1 H1 c e q=>k F1 H1 c e (k1 c q)⟩
def v7 (wa wb:WE):WE:=fun δ R=>wa δ fun s=>match s with
 | .t (.bl k)=>if k=true then wb δ R else R (.t (.bl false))
 | _=>False
def Gc (wa wb:WE):WE:=fun δ R=>wa δ fun s=>match s with
 | .t (.bl k)=>if k=true then R (.t (.bl true)) else wb δ R
 | _=>False
def wf (wa:WE):WE:=fun δ R=>wa δ fun s=>match s with
 | .t (.bl k)=>R (.t (.bl (!k)))
 | _=>False
def Ga (c:WT)(wa wb:WE):WE:=fun δ R=>c δ fun k=>if k=true then wa δ R else wb δ R
theorem AC {op}(h:PE X a (ah X.K wa)):PE X (.BoolOp op [a] pos) (ah X.K wa):=BG h
theorem AA {rest:List Expr}(ha:PE X a (ah X.K wa))(hb:PE X (.BoolOp .And (b::rest) pos) (ah X.K wb)):PE X (.BoolOp .And (a::b::rest) pos) (ah X.K (v7 wa wb)):=
 (BC ha hb).imp fun σ H Q ⟨δ,R,F,rl,h,k⟩=>⟨δ,_,F,rl,h,fun v F1 H1 s e p q=>by
  split at q
  ·rename_i c;refine⟨c,p,?_⟩
   cases c with
   | true=>exact⟨δ,R,F1,rl.ext e,by simpa using q,fun v F2 H2 s e2 p q=>k v F2 H2 s (e.trans e2) (p.start e.hh) q⟩
   | false=>exact k _ F1 H1 (.t (.bl false)) e rfl (by simpa using q)
  ·exact q.elim⟩
theorem AB (ha:PE X a (ah X.K wa)):PE X (.UnaryOp .Not a pos) (ah X.K (wf wa)):=
 (BF ha).imp fun σ H Q ⟨δ,R,F,rl,h,k⟩=>⟨δ,_,F,rl,h,fun v F1 H1 s e p q=>by
  split at q
  ·exact⟨_,p,k _ F1 H1 (.t (.bl _)) e rfl q⟩
  ·exact q.elim⟩
def zH (f:S->(S->Prop)->Prop)(wa:WE):WE:=fun δ R=>wa δ fun x=>f x R
def kI:S->(S->Prop)->Prop
 | .t (.int i),R=>R (.t (.int (-i)))
 | _,_=>False
theorem gp (ha:PE X a (ah X.K wa)):PE X (.UnaryOp .USub a pos) (ah X.K (zH kI wa)):=
 (Ea Cg ha).imp fun σ H Q ⟨δ,R,F,rl,h,k⟩=>⟨δ,_,F,rl,h,fun v F1 H1 s e p q=>by
  unfold kI at q
  split at q
  ·exact⟨_,p,k _ F1 H1 (.t (.int _)) e rfl q⟩
  ·exact q.elim⟩
def atT (ts:List T)(i:Int)(R:S->Prop):Prop:=match atI ts i with
 | some x=>R (.t x)
 | none=>False
def oZ (ts:List T)(i:Int)(R:S->Prop):Prop:=match atI ts i with
 | some x=>R (norm x)
 | none=>False
def eD:S->S->(S->Prop)->Prop
 | .t (.tup ts),.t (.int i),R=>atT ts i R
 | .t (.lst ts),.t (.int i),R=>atT ts i R
 | .vt (.tup ts),.t (.int i),R=>oZ ts i R
 | .vt (.lst ts),.t (.int i),R=>oZ ts i R
 | .ol ts,.t (.int i),R=>atT ts i R
 | _,_,_=>False
theorem ae.atI {K:PySem.W.Frag}{H:Hp}{ts:List T}{xs:List V}{i:Int}{t:T}(h:ae K H ts xs)(e:atI ts i=some t):∃ x,atI xs i=some x/\al K H t x:=by
 unfold L2.atI at e ⊢;rw[h.length]
 cases q:qE ts.length i with
 | none=>rw[q]at e;cases e
 | some j=>
  rw[q]at e;obtain⟨x,h1,h2⟩:=h.get (i:=j) (by simpa using e)
  exact⟨x,by simpa using h1,h2⟩
theorem gm {ts:List T}{i:Int}{R:S->Prop}(h:atT ts i R):∃ x,atI ts i=some x/\R (.t x):=by
 unfold atT at h
 cases e:atI ts i with
 | none=>simp only[e]at h
 | some x=>simp only[e]at h;exact⟨x,rfl,h⟩
theorem jD {ts:List T}{i:Int}{R:S->Prop}(h:oZ ts i R):∃ x,atI ts i=some x/\R (norm x):=by
 unfold oZ at h
 cases e:atI ts i with
 | none=>simp only[e]at h
 | some x=>simp only[e]at h;exact⟨x,rfl,h⟩
theorem Bt {K:PySem.W.Frag}:zN K (fun x y H Q=>Ed K x y H Q\/Ee K x y H Q) eD:=by
 intro F H s1 s2 v1 v2 R Q sb fu p1 p2 h k;unfold eD at h
 split at h
 ·obtain⟨x,hx,hr⟩:=gm h;obtain⟨a,xs,e1,h1,h2⟩:=p1;obtain⟨y,h3,h4⟩:=h2.atI hx;exact .inr ⟨a,xs,_,y,e1,p2,ao.sqT sb a xs h1,h3,k _ F H (.t x) (bX.refl sb fu) h4 hr⟩
 ·obtain⟨x,hx,hr⟩:=gm h;obtain⟨a,xs,e1,h1,h2⟩:=p1;obtain⟨y,h3,h4⟩:=h2.atI hx;exact .inl ⟨a,xs,_,y,e1,p2,sb.seq h1,h3,k _ F H (.t x) (bX.refl sb fu) h4 hr⟩
 ·obtain⟨x,hx,hr⟩:=jD h;obtain⟨a,xs,e1,h1,h2⟩:=p1;obtain⟨y,h3,h4⟩:=h2.atI hx;exact .inr ⟨a,xs,_,y,e1,p2,h1,h3,k _ F H _ (bX.refl sb fu) (bP.norm fu h4) hr⟩
 ·obtain⟨x,hx,hr⟩:=jD h;obtain⟨a,xs,e1,h1,h2⟩:=p1;obtain⟨y,h3,h4⟩:=h2.atI hx;exact .inl ⟨a,xs,_,y,e1,p2,h1,h3,k _ F H _ (bX.refl sb fu) (bP.norm fu h4) hr⟩
 ·obtain⟨x,hx,hr⟩:=gm h;obtain⟨a,xs,e1,h1,h2⟩:=p1;obtain⟨y,h3,h4⟩:=h2.atI hx;exact .inl ⟨a,xs,_,y,e1,p2,h1,h3,k _ F H (.t x) (bX.refl sb fu) h4 hr⟩
 ·exact h.elim
theorem bi (ha:PE X a (ah X.K wa))(hb:PE X b (ah X.K wb))(hs:oV b:=by exact fun _ _=>rfl):PE X (.Subscript a b pos) (ah X.K (bf eD wa wb)):=
 (D9 (xJ.or A7) ha hb hs).imp (bU Bt)
end
end DL
namespace DL
open PySem L2
theorem fX {H:Hp}{p:Addr}{o:HO}(hp:H p=none):ao H (a8 H p o):=fun b u q=>by rw[aw (bo q hp)];exact q
theorem bX.new {F H:Hp}{p:Addr}(o:HO)(sb:ao F H)(fu:dJ F H)(hp:H p=none):bX F H (a8 F p o) (a8 H p o):=by
 have fp:F p=none:=ax sb hp;refine⟨fX hp,fX fp,fun b u q=>?_,fun b u q=>?_,fun b h1 h2=>?_⟩
 ·unfold a8 at q ⊢
  split
  ·rename_i e;rw[if_pos e]at q;exact q
  ·rename_i e;rw[if_neg e]at q;exact sb _ _ q
 ·unfold a8 at q ⊢
  by_cases e:b=p
  ·rw[if_pos e]at q;exact .inl (by rw[if_pos e];exact q)
  ·rw[if_neg e]at q;rw[if_neg e];exact fu _ _ q
 ·have:b≠p:=fun e=>h1 (by rw[e];exact hp)
  rw[aw this];exact h2
theorem bX.newL {F H:Hp}{p:Addr}(xs:List V)(sb:ao F H)(fu:dJ F H)(hp:H p=none):bX F H F (a8 H p (.lst xs)):=by
 have fp:F p=none:=ax sb hp;refine⟨fX hp,ao.refl _,sb.trans (fX hp),fun b u q=>?_,fun b _ h2=>h2⟩;unfold a8 at q
 by_cases e:b=p
 ·rw[if_pos e]at q;cases q;exact .inr ⟨xs,rfl⟩
 ·rw[if_neg e]at q;exact fu _ _ q
def aE:WA:=fun _ R=>R []
def ag (wa:WE)(wr:WA):WA:=fun δ R=>wa δ fun x=>wr δ fun xs=>R (x::xs)
def grow (F H H':Hp)(x:Option Addr):Hp:=fun b=>if (H b).isNone=true then (if x=some b then none else H' b) else F b
theorem fL {F H H':Hp}{x:Option Addr}(sb:ao F H)(fu:dJ F H)(s:ao H H')(hx:∀ a,x=some a->∃ xs,H' a=some (.lst xs)):bX F H (grow F H H' x) H':=by
 have hs:∀ {b:Addr}{o:HO},H b=some o->(H b).isNone=true->False:=fun {b o} e h=>by rw[e]at h;cases h
 refine⟨s,fun b o q=>?_,fun b o q=>?_,fun b o q=>?_,fun b h1 h2=>?_⟩
 ·unfold grow;rw[if_neg (fun z=>hs (sb _ _ q) z)];exact q
 ·unfold grow at q
  split at q
  ·split at q
   ·cases q
   ·exact q
  ·exact s _ _ (sb _ _ q)
 ·unfold grow
  cases e:H b with
  | none=>
   rw[if_pos (show(none:Option HO).isNone=true from rfl)]
   by_cases z:x=some b
   ·obtain⟨xs,q'⟩:=hx b z;rw[q]at q';cases q'
    exact .inr ⟨xs,rfl⟩
   ·rw[if_neg z];exact .inl q
  | some o'=>
   rw[if_neg (by simp)]
   have:=s _ _ e;rw[q]at this;cases this
   exact fu _ _ e
 ·unfold grow;rw[if_neg (fun z=>h1 (Option.isNone_iff_eq_none.mp z))];exact h2
theorem bX.frozen {F H F1 H1:Hp}(sb:ao F H)(e:bX F H F1 H1):bX F H (grow F1 H H1 none) H1/\ao F1 (grow F1 H H1 none):=by
 have hs:∀ {b:Addr}{o:HO},H b=some o->(H b).isNone=true->False:=fun {b o} e h=>by rw[e]at h;cases h
 refine⟨⟨e.hh,fun b o q=>?_,fun b o q=>?_,fun b o q=>?_,fun b h1 h2=>?_⟩,fun b o q=>?_⟩
 ·unfold grow;rw[if_neg (fun z=>hs (sb _ _ q) z)];exact e.ff _ _ q
 ·unfold grow at q
  split at q
  ·split at q
   ·cases q
   ·exact q
  ·exact e.sub _ _ q
 ·unfold grow
  cases z:H b with
  | none=>exact .inl (by rw[if_pos (show(none:Option HO).isNone=true from rfl),if_neg (by simp)];exact q)
  | some o'=>rw[if_neg (by simp)];exact e.full _ _ q
 ·unfold grow;rw[if_neg (fun z=>h1 (Option.isNone_iff_eq_none.mp z))];exact e.keep b h1 h2
 ·unfold grow
  split
  ·rw[if_neg (by simp)];exact e.sub _ _ q
  ·exact q
def fW:List S->Option (List T)
 | []=>some []
 | .t x::r=>match fW r with
  | some ts=>some (x::ts)
  | none=>none
 | .ol us::r=>match fW r with
  | some ts=>some (.lst us::ts)
  | none=>none
 | .vt _::_=>none
def fx (wa:WA):WE:=fun δ R=>wa δ fun ss=>match fW ss with
 | some ts=>if ts.length<=1000 then R (.t (.tup ts)) else False
 | none=>False
def oG (wa:WA):WE:=fun δ R=>wa δ fun ss=>match fW ss with
 | some ts=>if ts.length<=1000 then R (.ol ts) else False
 | none=>False
theorem eJ {K:PySem.W.Frag}{H F' H':Hp}(sm:ao F' (grow F' H H' none)):∀ {ss:List S}{vs:List V}{ts:List T},cT K H F' H' ss vs->fW ss=some ts->ae K (grow F' H H' none) ts vs
 | [],_,_,h,e=>by cases e;exact h
 | .t x::r,_,ts,⟨v,vr,e1,h1,h2⟩,e=>by
  subst e1;unfold fW at e
  split at e
  ·rename_i us hu
   cases e
   exact⟨v,vr,rfl,al.same sm h1,eJ sm h2 hu⟩
  ·cases e
 | .vt _::_,_,_,_,e=>by cases e
 | .ol zs::r,_,_,⟨v,vr,e1,h1,h2⟩,e=>by
  subst e1;unfold fW at e
  split at e
  ·rename_i us hu
   cases e
   refine⟨v,vr,rfl,?_,eJ sm h2 hu⟩;unfold bP at h1;obtain⟨a,xs,q1,q2,q3,q4,q5⟩:=h1;unfold al;refine⟨a,xs,q1,ca.of ?_,ae.same sm q5⟩;unfold grow;rw[if_pos (by rw[q2];rfl),if_neg (by simp)]
   exact q4
  ·cases e
theorem pB {n:Nat}(h:n<=1000):n<=sizeLine:=Nat.le_of_lt (kc h)
def gQ (f:List S->(S->Prop)->Prop)(wa:WA):WE:=fun δ R=>wa δ fun ss=>f ss R
def eV (K:PySem.W.Frag)(F H:Hp):List S->List V->Prop
 | [],vs=>vs=[]
 | s::ss,vs=>∃ v r,vs=v::r/\gT K F H s v/\eV K F H ss r
theorem cT.val {K:PySem.W.Frag}{H0 F H:Hp}(e:ao F H):∀ {ss:List S}{vs:List V},cT K H0 F H ss vs->eV K F H ss vs
 | [],_,h=>h
 | _::_,_,⟨v,r,h1,h2,h3⟩=>⟨v,r,h1,h2.val e,cT.val e h3⟩
def dO (K:PySem.W.Frag)(r:List V->Hp->VK->Prop)(f:List S->(S->Prop)->Prop):Prop:=
 ∀ F H ss vs R Q,ao F H->dJ F H->eV K F H ss vs->f ss R->(∀ v F' H' s,bX F H F' H'->bP K H F' H' s v->R s->Q v H')->r vs H Q
theorem pD {K:PySem.W.Frag}{r:List V->Hp->VK->Prop}{f:List S->(S->Prop)->Prop}{wa:WA}(ho:dO K r f):∀ σ H Q,ah K (gQ f wa) σ H Q->FQ r (bS K wa) σ H Q:=by
 rintro σ H Q ⟨δ,R,F,rl,h,k⟩;refine⟨δ,_,F,rl,h,fun vs F1 H1 ss e p q=>?_⟩;exact ho F1 H1 ss vs R Q e.sub e.full (p.val e.sub) q fun v F' H' s e2 p2 q2=>k v F' H' s (e.trans e2) (p2.start e.hh) q2
abbrev aR:=List S->(S->Prop)->Prop
def eY:S->S
 | .vt x=>.t x
 | .ol ts=>.t (.lst ts)
 | .t x=>.t x
def got:S->S
 | .t x=>norm x
 | .vt x=>.vt x
 | .ol ts=>if bx ts=true then .ol ts else .vt (.lst ts)
def lV:S->Prop
 | .t _=>True
 | _=>False
def lK (K:PySem.W.Frag)(sp:aR):Sp:=fun vs H Q _=>∃ ss R,(∀ s∈ss,lV s)/\eV K H H ss vs/\sp ss R/\∀ v H' s,ao H H'->p9 K H H' s v->R s->Q v H'
def bE (sp:aR)(wa:WA):WE:=fun δ R=>wa δ fun ss=>sp (ss.map eY) fun s=>R (got s)
theorem kr {K:PySem.W.Frag}{H0 F H:Hp}(sb:ao F H):∀ {ss:List S}{vs:List V},cT K H0 F H ss vs->(∀ s∈ss.map eY,lV s)/\eV K H H (ss.map eY) vs
 | [],_,h=>⟨fun s hs=>by simp at hs,h⟩
 | s::ss,_,⟨v,r,h1,h2,h3⟩=>by
  obtain⟨a1,a2⟩:=kr sb h3;refine⟨fun u hu=>?_,v,r,h1,?_,a2⟩
  ·rw[List.map_cons]at hu
   rcases List.mem_cons.mp hu with e|e
   ·subst e
    cases s <;> exact True.intro
   ·exact a1 u e
  ·cases s with
   | t x=>exact al.same sb h2
   | vt x=>exact h2
   | ol ts=>
    unfold bP at h2;obtain⟨a,xs,q1,_,_,q2,q3⟩:=h2;show al K H (.lst ts) v;unfold al;exact⟨a,xs,q1,ca.of q2,ae.same sb q3⟩
theorem qI {K:PySem.W.Frag}{sp:aR}{wa:WA}{E:XK}:∀ σ H Q,ah K (bE sp wa) σ H Q->zD (lK K sp) [] E (bS K wa) σ H Q:=by
 rintro σ H Q ⟨δ,R,F,rl,h,k⟩;refine⟨δ,_,F,rl,h,fun vs F1 H1 ss e p q=>?_⟩;show lK K sp (vs++[]) H1 Q E;rw[List.append_nil];obtain⟨a1,a2⟩:=kr e.sub p;refine⟨_,_,a1,a2,q,fun v H' s sm rc hr=>?_⟩
 cases s with
 | t x=>
  have ex:=fL (x:=none) e.sub e.full sm (fun _ z=>by cases z)
  exact k v _ H' (norm x) (e.trans ex) (bP.norm ex.full rc) hr
 | vt x=>exact False.elim rc
 | ol ts=>
  unfold p9 at rc;obtain⟨a,xs,q1,q2,q3,q4⟩:=rc;have ex:=fL (x:=some a) e.sub e.full sm (fun b z=>by cases z;exact⟨xs,q3⟩)
  have hr':R (if bx ts=true then .ol ts else .vt (.lst ts)):=hr
  split at hr'
  ·rename_i hp;refine k v _ H' (.ol ts) (e.trans ex) ⟨a,xs,q1,ax e.hh q2,?_,q3,ae.full ex.full hp q4⟩ hr';unfold grow;rw[if_pos (by rw[q2];rfl),if_pos rfl]
  ·refine k v _ H' (.vt (.lst ts)) (e.trans ex) ?_ hr';unfold bP al;exact⟨a,xs,q1,ca.of q3,q4⟩
section
variable {X:Cx}{e:Expr}{es:List Expr}{we:WE}{wr wa:WA}{pos:Pos}
theorem am:PA X [] (bS X.K aE):=iT.imp fun σ H Q ⟨δ,R,F,rl,h,k⟩=>k [] F H [] rl.refl rfl h
theorem aa (ha:PE X e (ah X.K we))(hr:PA X es (bS X.K wr))(hs:starEach (e::es) X.env=(false,eval e X.env)::starEach es X.env:=by rfl):PA X (e::es) (bS X.K (ag we wr)):=
 (cX ha hr hs).imp fun σ H Q ⟨δ,R,F,rl,h,k⟩=>⟨δ,_,F,rl,h,fun v F1 H1 s e p q=>⟨δ,_,F1,rl.ext e,q,fun vs F2 H2 ss e2 ps q2=>k (v::vs) F2 H2 (s::ss) (e.trans e2) ⟨v,vs,rfl,p.ext e2,ps.start e.hh⟩ q2⟩⟩
theorem ce {x1}(h:PA X es (bS X.K wa)):PE X (.Tuple es x1 pos) (ah X.K (fx wa)):=
 (vI h).imp fun σ H Q ⟨δ,R,F,rl,h,k⟩=>⟨δ,_,F,rl,h,fun vs F1 H1 ss e p q=>by
  split at q
  ·rename_i ts ht;obtain⟨ez,sz⟩:=e.frozen rl.sub;have r:=eJ sz p ht
   split at q
   ·rename_i hl;refine⟨by rw[r.length];exact pB hl,fun a ha=>?_⟩
    have ex:=bX.new (.tup vs) ez.sub ez.full ha;refine k _ _ _ (.t (.tup ts)) (ez.trans ex) ?_ q;unfold bP al;exact⟨a,vs,rfl,dy.of aB,ae.same ex.ff r⟩
   ·exact q.elim
  ·exact q.elim⟩
theorem ix (h:PA X es (bS X.K wa)):PE X (.List es pos) (ah X.K (oG wa)):=
 (BE h).imp fun σ H Q ⟨δ,R,F,rl,h,k⟩=>⟨δ,_,F,rl,h,fun vs F1 H1 ss e p q=>by
  split at q
  ·rename_i ts ht;obtain⟨ez,sz⟩:=e.frozen rl.sub;have r:=eJ sz p ht
   split at q
   ·rename_i hl;refine⟨by rw[r.length];exact pB hl,fun a ha=>?_⟩
    have ex:=bX.newL vs ez.sub ez.full ha;exact k _ _ _ (.ol ts) (ez.trans ex) ⟨a,vs,rfl,ax e.hh ha,ax ez.sub ha,aB,r⟩ q
   ·exact q.elim
  ·exact q.elim⟩
structure Callee (P:Program) (w:World) (K:PySem.W.Frag) (mg:Str->Option Value) (base:Heap) (k:Nat) (x:Str) (sp:aR):Prop where
 ex:∃ (f:Addr) (fd:FuncData) (ps:List Str),mg x=some (.ref f)/\de P w K mg base lQ k f fd ps (lK K sp)/\Binds K fd ps []/\PySem.W.keepIn K (.ref f)=true
theorem aT {k:Nat}{x:Str}{sp:aR}{p:Pos} (C:Callee X.prog X.w X.K X.mg X.base k x sp) (hr:bg k X.A) (hg:Gl X x) (ha:PA X (e::es) (bS X.K wa)) (hdb:(x == ("__debug__":Str))=false:=by decide)
  (he:starEach (e::es) X.env=(false,eval e X.env)::starEach es X.env:=by rfl) (hpl:(backTo pos (starEach es X.env)).any (·.1)=false:=by rfl):PE X (.Call (.Name x p) (e::es) [] pos) (ah X.K (bE sp wa)):=by
 obtain⟨f,fd,ps,hm,F,hb,hk⟩:=C.ex;exact(pI F hr hg hm hk hb .nil (E:=E0) zu ha hdb he hpl).imp qI
theorem fB {x:Str}{p:Pos}{id:String}{r:List V->Hp->VK->Prop}{f:List S->(S->Prop)->Prop} (hc:cS X (.builtin id) r) (hf:dO X.K r f) (hm:X.mg x=none) (hv:bootBuiltins x=some (.builtin id)) (ha:PA X (e::es) (bS X.K wa)) (hg:Gl X x:=by rfl) (hn:x≠"__name__":=by decide) (hdb:(x == ("__debug__":Str))=false:=by decide)
  (he:starEach (e::es) X.env=(false,eval e X.env)::starEach es X.env:=by rfl) (hpl:(backTo pos (starEach es X.env)).any (·.1)=false:=by rfl):PE X (.Call (.Name x p) (e::es) [] pos) (ah X.K (gQ f wa)):=
 (m9 hc hg hm hv ha hn hdb he hpl).imp (pD hf)
theorem qq {x:Str}{p:Pos}{id:String}{r:List V->Hp->VK->Prop}{f:List S->(S->Prop)->Prop} (hc:cS X (.type id) r) (hf:dO X.K r f) (hm:X.mg x=none) (hv:bootBuiltins x=some (.type id)) (ha:PA X (e::es) (bS X.K wa)) (hg:Gl X x:=by rfl) (hn:x≠"__name__":=by decide) (hdb:(x == ("__debug__":Str))=false:=by decide)
  (he:starEach (e::es) X.env=(false,eval e X.env)::starEach es X.env:=by rfl) (hpl:(backTo pos (starEach es X.env)).any (·.1)=false:=by rfl):PE X (.Call (.Name x p) (e::es) [] pos) (ah X.K (gQ f wa)):=
 (qR hc hg hm hv ha hn hdb he hpl).imp (pD hf)
end
def dW:List S->(S->Prop)->Prop
 | [.t (.tup ts)],R=>R (.t (.int ts.length))
 | [.t (.lst ts)],R=>R (.t (.int ts.length))
 | [.vt (.tup ts)],R=>R (.t (.int ts.length))
 | [.vt (.lst ts)],R=>R (.t (.int ts.length))
 | [.ol ts],R=>R (.t (.int ts.length))
 | _,_=>False
theorem Bs {K:PySem.W.Frag}:dO K (fun xs H Q=>∃ p ys,xs=[.ref p]/\(ca K H p ys\/dy K H p ys)/\Q (.int ys.length) H) dW:=by
 intro F H ss vs R Q sb fu rp h k;unfold dW at h
 split at h
 ·obtain⟨v,r,rfl,⟨a,xs,rfl,h1,h2⟩,h3⟩:=rp
  cases (show r=[] from h3)
  exact⟨a,xs,rfl,.inr (ao.sqT sb a xs h1),k _ F H (.t (.int _)) (bX.refl sb fu) (by show _=_;rw[h2.length]) h⟩
 ·obtain⟨v,r,rfl,⟨a,xs,rfl,h1,h2⟩,h3⟩:=rp
  cases (show r=[] from h3)
  exact⟨a,xs,rfl,.inl (sb.seq h1),k _ F H (.t (.int _)) (bX.refl sb fu) (by show _=_;rw[h2.length]) h⟩
 ·obtain⟨v,r,rfl,⟨a,xs,rfl,h1,h2⟩,h3⟩:=rp
  cases (show r=[] from h3)
  exact⟨a,xs,rfl,.inr h1,k _ F H (.t (.int _)) (bX.refl sb fu) (by show _=_;rw[h2.length]) h⟩
 ·obtain⟨v,r,rfl,⟨a,xs,rfl,h1,h2⟩,h3⟩:=rp
  cases (show r=[] from h3)
  exact⟨a,xs,rfl,.inl h1,k _ F H (.t (.int _)) (bX.refl sb fu) (by show _=_;rw[h2.length]) h⟩
 ·obtain⟨v,r,rfl,⟨a,xs,rfl,h1,h2⟩,h3⟩:=rp
  cases (show r=[] from h3)
  exact⟨a,xs,rfl,.inl h1,k _ F H (.t (.int _)) (bX.refl sb fu) (by show _=_;rw[h2.length]) h⟩
 ·exact h.elim
def mn:List S->(S->Prop)->Prop
 | [.t (.int i)],R=>R (.t (.int (if i<0 then -i else i)))
 | _,_=>False
theorem Bq {K:PySem.W.Frag}:dO K (fun xs H Q=>∃ i,xs=[.int i]/\Q (.int (if i<0 then -i else i)) H) mn:=by
 intro F H ss vs R Q sb fu rp h k;unfold mn at h
 split at h
 ·obtain⟨v,r,rfl,rfl,h3⟩:=rp
  cases (show r=[] from h3)
  exact⟨_,rfl,k _ F H (.t (.int _)) (bX.refl sb fu) rfl h⟩
 ·exact h.elim
def mo:List S->(S->Prop)->Prop
 | [.t (.int i),.t (.int j)],R=>R (.t (.int (if j>i then j else i)))
 | _,_=>False
def jM:List S->(S->Prop)->Prop
 | [.t (.int i),.t (.int j)],R=>R (.t (.int (if j<i then j else i)))
 | _,_=>False
theorem x9 {K:PySem.W.Frag}:dO K (fun xs H Q=>∃ i j,xs=[.int i,.int j]/\Q (.int (if j>i then j else i)) H) mo:=by
 intro F H ss vs R Q sb fu rp h k;unfold mo at h
 split at h
 ·obtain⟨v,r,rfl,rfl,v2,r2,rfl,rfl,h3⟩:=rp
  cases (show r2=[] from h3)
  exact⟨_,_,rfl,k _ F H (.t (.int _)) (bX.refl sb fu) rfl h⟩
 ·exact h.elim
theorem ya {K:PySem.W.Frag}:dO K (fun xs H Q=>∃ i j,xs=[.int i,.int j]/\Q (.int (if j<i then j else i)) H) jM:=by
 intro F H ss vs R Q sb fu rp h k;unfold jM at h
 split at h
 ·obtain⟨v,r,rfl,rfl,v2,r2,rfl,rfl,h3⟩:=rp
  cases (show r2=[] from h3)
  exact⟨_,_,rfl,k _ F H (.t (.int _)) (bX.refl sb fu) rfl h⟩
 ·exact h.elim
def DH:List S->(S->Prop)->Prop
 | [.t (.int i)],R=>R (.t (.int i))
 | [.t (.bl b)],R=>R (.t (.int (if b then 1 else 0)))
 | _,_=>False
def dA:List S->(S->Prop)->Prop
 | [.t (.tup ts)],R=>R (.ol ts)
 | [.t (.lst ts)],R=>R (.ol ts)
 | [.vt (.lst ts)],R=>bx ts=true/\R (.ol ts)
 | [.ol ts],R=>R (.ol ts)
 | _,_=>False
theorem qO {K:PySem.W.Frag}:dO K (fun xs H Q=>∃ p ys,xs=[.ref p]/\(ca K H p ys\/dy K H p ys)/\∀ l,H l=none->Q (.ref l) (a8 H l (.lst ys))) dA:=by
 intro F H ss vs R Q sb fu rp h k;have fin:∀ {ts:List T}{xs:List V},ae K F ts xs->R (.ol ts)->∀ l,H l=none->Q (.ref l) (a8 H l (.lst xs)):=fun {ts xs} r q l hl=>
  k _ F _ (.ol ts) (bX.newL xs sb fu hl) ⟨l,xs,rfl,hl,ax sb hl,aB,r⟩ q
 unfold dA at h
 split at h
 ·obtain⟨v,r,rfl,⟨a,xs,rfl,h1,h2⟩,h3⟩:=rp
  cases (show r=[] from h3)
  exact⟨a,xs,rfl,.inr (ao.sqT sb a xs h1),fin h2 h⟩
 ·obtain⟨v,r,rfl,⟨a,xs,rfl,h1,h2⟩,h3⟩:=rp
  cases (show r=[] from h3)
  exact⟨a,xs,rfl,.inl (sb.seq h1),fin h2 h⟩
 ·obtain⟨v,r,rfl,⟨a,xs,rfl,h1,h2⟩,h3⟩:=rp
  cases (show r=[] from h3)
  exact⟨a,xs,rfl,.inl h1,fin (ae.full fu h.1 h2) h.2⟩
 ·obtain⟨v,r,rfl,⟨a,xs,rfl,h1,h2⟩,h3⟩:=rp
  cases (show r=[] from h3)
  exact⟨a,xs,rfl,.inl h1,fin h2 h⟩
 ·exact h.elim
section
variable {X:Cx}{e:Expr}{es:List Expr}{we:WE}{wr wa:WA}{pos p:Pos}
theorem dz (hm:X.mg "len"=none) (ha:PA X [e] (bS X.K wa)) (hg:Gl X "len":=by rfl) (he:starEach [e] X.env=(false,eval e X.env)::starEach [] X.env:=by rfl):PE X (.Call (.Name "len" p) [e] [] pos) (ah X.K (gQ dW wa)):=
 fB kz Bs hm PySem.boot_len ha hg (he:=he) (hpl:=rfl)
theorem kC (hm:X.mg "abs"=none) (ha:PA X [e] (bS X.K wa)) (hg:Gl X "abs":=by rfl) (he:starEach [e] X.env=(false,eval e X.env)::starEach [] X.env:=by rfl):PE X (.Call (.Name "abs" p) [e] [] pos) (ah X.K (gQ mn wa)):=
 fB rZ Bq hm PyProof.Rows.boot_abs ha hg (he:=he) (hpl:=rfl)
theorem xn {e2:Expr} (hm:X.mg "max"=none) (ha:PA X [e,e2] (bS X.K wa)) (hg:Gl X "max":=by rfl) (hc:X.calm=true:=by rfl) (he:starEach [e,e2] X.env=(false,eval e X.env)::starEach [e2] X.env:=by rfl) (hpl:(backTo pos (starEach [e2] X.env)).any (·.1)=false:=by rfl):PE X (.Call (.Name "max" p) [e,e2] [] pos) (ah X.K (gQ mo wa)):=
 fB (qj hc) x9 hm PyProof.Rows.boot_max ha hg (he:=he) (hpl:=hpl)
theorem o9 {e2:Expr} (hm:X.mg "min"=none) (ha:PA X [e,e2] (bS X.K wa)) (hg:Gl X "min":=by rfl) (hc:X.calm=true:=by rfl) (he:starEach [e,e2] X.env=(false,eval e X.env)::starEach [e2] X.env:=by rfl) (hpl:(backTo pos (starEach [e2] X.env)).any (·.1)=false:=by rfl):PE X (.Call (.Name "min" p) [e,e2] [] pos) (ah X.K (gQ jM wa)):=
 fB (qk hc) ya hm PyProof.Rows.boot_min ha hg (he:=he) (hpl:=hpl)
theorem qt (hm:X.mg "list"=none) (ha:PA X [e] (bS X.K wa)) (hg:Gl X "list":=by rfl) (he:starEach [e] X.env=(false,eval e X.env)::starEach [] X.env:=by rfl):PE X (.Call (.Name "list" p) [e] [] pos) (ah X.K (gQ dA wa)):=
 qq kA qO hm PyProof.Rows.boot_list ha hg (he:=he) (hpl:=rfl)
end
end DL
namespace DL
open PySem L2
def Co:az->(Option Int->Prop)->Prop:=fun _ R=>R none
def EH (we:WE):az->(Option Int->Prop)->Prop:=fun δ R=>we δ fun s=>match s with
 | .t (.int i)=>R (some i)
 | _=>False
def qo (ts:List T)(lo hi:Option Int):List T:=(ts.drop (HT.sIx ts.length 0 lo)).take (HT.sIx ts.length ts.length hi-HT.sIx ts.length 0 lo)
def vX (lo hi:Option Int)(R:S->Prop):S->Prop
 | .t (.lst ts)=>R (.ol (qo ts lo hi))
 | .vt (.lst ts)=>bx ts=true/\R (.ol (qo ts lo hi))
 | .ol ts=>R (.ol (qo ts lo hi))
 | _=>False
def Cp (we:WE)(wl wh:az->(Option Int->Prop)->Prop):WE:=fun δ R=>we δ fun s=>wl δ fun lo=>wh δ fun hi=>vX lo hi R s
section
variable {X:Cx}{e:Expr}{we:WE}{lo hi:Option Expr}{wl wh:az->(Option Int->Prop)->Prop}{pos p2:Pos}
end
def cW:S->S
 | .ol ts=>.t (.lst ts)
 | .t x=>.t x
 | .vt x=>.vt x
def freeze (δ:az):az:=δ.map (Option.map cW)
def setS (i:Nat)(s:S)(δ:az):az:=match s with
 | .vt x=>(freeze δ).set i (some (.t x))
 | .t x=>δ.set i (some (.t x))
 | .ol ts=>δ.set i (some (.ol ts))
theorem fj {δ:az}{i:Nat}{s:S}(h:(freeze δ)[i]?=some (some s)):∃ u,δ[i]?=some (some u)/\s=cW u:=by
 unfold freeze at h;rw[List.getElem?_map]at h
 cases e:δ[i]? with
 | none=>rw[e]at h;cases h
 | some o=>
  rw[e]at h
  cases o with
  | none=>cases h
  | some u=>exact⟨u,rfl,by simpa using h.symm⟩
theorem qz {K:PySem.W.Frag}{F H:Hp}(sb:ao F H):∀ {s:S}{v:V},dw K F H s v->dw K H H (cW s) v
 | .t _,_,h=>al.same sb h
 | .vt _,_,h=>False.elim h
 | .ol _,_,⟨a,xs,h1,_,h3,h4⟩=>by
  show al K H (.lst _) _;unfold al;exact⟨a,xs,h1,ca.of h3,ae.same sb h4⟩
theorem e6 (s:S)(ts:List T):cW s≠.ol ts:=by cases s <;> simp[cW]
theorem Rel.freeze {K:PySem.W.Frag}{F H:Hp}{σ:St}{δ:az}(r:Rel K F H σ δ):Rel K H H σ (freeze δ):=by
 refine⟨ao.refl _,fun b o h=>.inl h,?_,fun i s h=>?_,fun i j a ts us _ h1=>?_⟩
 ·unfold DL.freeze;rw[List.length_map];exact r.len
 ·obtain⟨u,h1,rfl⟩:=fj h;obtain⟨v,h2,h3⟩:=r.slot i u h1;exact⟨v,h2,qz r.sub h3⟩
 ·obtain⟨u,_,e⟩:=fj h1;exact absurd e.symm (e6 u ts)
theorem Rel.put {K:PySem.W.Frag}{F H:Hp}{σ:St}{δ:az}{i:Nat}{s:S}{v:V}(r:Rel K F H σ δ)(h:dw K F H s v)(hs:∀ ts,s≠.ol ts):Rel K F H (σ.set i (some v)) (δ.set i (some s)):=by
 refine⟨r.sub,r.full,by rw[List.length_set,List.length_set];exact r.len,fun j u hu=>?_,fun j l a ts us hn h1 h2 h3=>?_⟩
 ·by_cases e:i=j
  ·subst e;have hi:i<δ.length:=by
    rw[List.getElem?_set]at hu;simp at hu;exact hu.1
   rw[List.getElem?_set_self hi]at hu
   cases hu
   exact⟨v,List.getElem?_set_self (by rw[r.len];exact hi),h⟩
  ·rw[List.getElem?_set_ne e]at hu;obtain⟨w,h1,h2⟩:=r.slot j u hu;exact⟨w,by rw[List.getElem?_set_ne e];exact h1,h2⟩
 ·have n1:i≠j:=fun e=>by
   subst e;have hi:i<δ.length:=by
    rw[List.getElem?_set]at h1;simp at h1;exact h1.1
   rw[List.getElem?_set_self hi]at h1
   cases h1
   exact hs ts rfl
  have n2:i≠l:=fun e=>by
   subst e;have hi:i<δ.length:=by
    rw[List.getElem?_set]at h2;simp at h2;exact h2.1
   rw[List.getElem?_set_self hi]at h2
   cases h2
   exact hs us rfl
  rw[List.getElem?_set_ne n1]at h1 h3;rw[List.getElem?_set_ne n2]at h2 ⊢;exact r.dist j l a ts us hn h1 h2 h3
theorem Rel.putOl {K:PySem.W.Frag}{F H F' H':Hp}{σ:St}{δ:az}{i:Nat}{ts:List T}{a:Addr}{xs:List V}(r:Rel K F H σ δ)(e:bX F H F' H')(h0:H a=none)(h1:F' a=none)(h2:H' a=some (.lst xs))(h3:ae K F' ts xs) :
  Rel K F' H' (σ.set i (some (.ref a))) (δ.set i (some (.ol ts))):=by
 have r':=r.ext e;have old:∀ (j:Nat) (us:List T) (b:Addr),δ[j]?=some (some (.ol us))->σ[j]?=some (some (.ref b))->b≠a:=fun j us b q1 q2 z=>by
  obtain⟨v,p1,c,ys,p2,p3,p4,_⟩:=r.slot j _ q1;rw[q2]at p1
  cases p1
  cases p2
  rw[z,h0]at p4
  cases p4
 refine⟨r'.sub,r'.full,by rw[List.length_set,List.length_set];exact r.len,fun j u hu=>?_,fun j l b us ws hn q1 q2 q3=>?_⟩
 ·by_cases z:i=j
  ·subst z;have hi:i<δ.length:=by
    rw[List.getElem?_set]at hu;simp at hu;exact hu.1
   rw[List.getElem?_set_self hi]at hu
   cases hu
   exact⟨_,List.getElem?_set_self (by rw[r.len];exact hi),a,xs,rfl,h1,h2,h3⟩
  ·rw[List.getElem?_set_ne z]at hu;obtain⟨w,p1,p2⟩:=r'.slot j u hu;exact⟨w,by rw[List.getElem?_set_ne z];exact p1,p2⟩
 ·by_cases z:i=j
  ·subst z;have hi:i<δ.length:=by
    rw[List.getElem?_set]at q1;simp at q1;exact q1.1
   rw[List.getElem?_set_self (by rw[r.len];exact hi)]at q3
   cases q3
   rw[List.getElem?_set_ne hn]at q2 ⊢;exact fun q=>old l ws a q2 q rfl
  ·rw[List.getElem?_set_ne z]at q1 q3
   by_cases z2:i=l
   ·subst z2;have hi:i<δ.length:=by
     rw[List.getElem?_set]at q2;simp at q2;exact q2.1
    rw[List.getElem?_set_self (by rw[r.len];exact hi)]
    intro q
    cases q
    exact old j us a q1 q3 rfl
   ·rw[List.getElem?_set_ne z2]at q2 ⊢;exact r.dist j l b us ws hn q1 q2 q3
theorem Rel.setS {K:PySem.W.Frag}{F H F' H':Hp}{σ:St}{δ:az}{s:S}{v:V}(i:Nat)(r:Rel K F H σ δ)(e:bX F H F' H')(p:bP K H F' H' s v):∃ F2,ao F F2/\Rel K F2 H' (σ.set i (some v)) (setS i s δ):=by
 cases s with
 | t x=>exact⟨F',e.ff,(r.ext e).put (s:=.t x) p (fun _ z=>by cases z)⟩
 | vt x=>exact⟨H',e.ff.trans e.sub,(r.ext e).freeze.put (s:=.t x) p (fun _ z=>by cases z)⟩
 | ol ts=>
  obtain⟨a,xs,rfl,h0,h1,h2,h3⟩:=p;exact⟨F',e.ff,r.putOl e h0 h1 h2 h3⟩
theorem Rel.thaw {K:PySem.W.Frag}{F H F1 H1:Hp}{σ:St}{δ:az}{ts:List T}{v:V}(rl:Rel K F H σ δ)(ex:bX F H F1 H1)(p:bP K H F1 H1 (.ol ts) v) :
  Rel K (grow F1 H H1 none) H1 σ δ/\ao F (grow F1 H H1 none)/\∃ a xs,v=.ref a/\ca K (grow F1 H H1 none) a xs/\ae K (grow F1 H H1 none) ts xs:=by
 obtain⟨ez,sz⟩:=ex.frozen rl.sub;refine⟨rl.ext ez,ez.ff,?_⟩;obtain⟨a,xs,rfl,h0,h1,h2,h3⟩:=p;refine⟨a,xs,rfl,ca.of ?_,ae.same sz h3⟩;unfold grow;rw[if_pos (by rw[h0];rfl),if_neg (by simp)]
 exact h2
def cx:WS:=fun D δ=>D.nx δ
def bp (w u:WS):WS:=fun D δ=>w {D with nx:=u D} δ
def cZ (w u:WS):WS:=fun D δ=>∃ M:az->Prop,w {D with nx:=M} δ/\∀ δ',M δ'->u D δ'
def bu (i:Nat)(we:WE):WS:=fun D δ=>we δ fun s=>D.nx (setS i s δ)
def nt (c:WT)(w u:WS):WS:=fun D δ=>c δ fun k=>if k=true then w D δ else u D δ
def out:S->S
 | .vt x=>.t x
 | .t x=>.t x
 | .ol ts=>.ol ts
def dM (we:WE):WS:=fun D δ=>we δ fun s=>D.rt (out s)
def i7 (i:Nat):WS:=fun D δ=>match δ[i]? with
 | some (some s)=>D.rt s
 | _=>False
def EI:WS:=fun D _=>D.rt (.t .non)
def Ck:WS:=fun D δ=>D.bk δ
def ED:WS:=fun D δ=>D.ct δ
def v8 (we:WE):WS:=fun D δ=>we δ fun _=>D.nx δ
def oH:WS:=fun _ _=>False
def oN (c:WT)(wb:WS):WS:=fun D δ=>∃ I:Nat->az->Prop,(∃ n,I n δ)/\∀ n δ,I n δ->c δ fun k=>if k=true then wb {nx:=fun δ'=>∃ m,m<n/\I m δ',rt:=D.rt,bk:=D.nx,ct:=fun δ'=>∃ m,m<n/\I m δ'} δ else D.nx δ
abbrev WG:=T->az->(az->Prop)->Prop
abbrev WI:=az->(List T->az->Prop)->Prop
def t7 (g:WG)(wb:WS)(ts:List T)(D:dP)(δ:az):Prop:=∃ I:List T->az->Prop,I ts δ/\(∀ δ,I [] δ->D.nx δ)/\∀ x r δ,I (x::r) δ->g x δ fun δ1=>wb {nx:=I r,rt:=D.rt,bk:=D.nx,ct:=I r} δ1
def nr (wi:WI)(g:WG)(wb:WS):WS:=fun D δ=>wi δ fun ts δ'=>t7 g wb ts D δ'
def aW (i:Nat):WG:=fun t δ R=>R (δ.set i (some (.t t)))
def je (g:List T->az->(az->Prop)->Prop):WG:=fun t δ R=>match t with
 | .tup ts=>g ts δ R
 | _=>False
def gh:List T->az->(az->Prop)->Prop:=fun ts δ R=>match ts with
 | []=>R δ
 | _=>False
def cj (g:WG)(gr:List T->az->(az->Prop)->Prop):List T->az->(az->Prop)->Prop:=fun ts δ R=>match ts with
 | t::r=>g t δ fun δ1=>gr r δ1 R
 | []=>False
def yT (g:WG)(δ:az)(N:az->Prop):S->Prop
 | .t t=>g t δ N
 | .vt t=>g t (freeze δ) N
 | .ol ts=>g (.lst ts) δ N
def Cq (we:WE)(g:WG):WS:=fun D δ=>we δ fun s=>yT g δ D.nx s
def yV (i j:Nat)(wa:WA):WS:=fun D δ=>wa δ fun ss=>match ss with
 | [.t x,.t y]=>D.nx ((δ.set i (some (.t x))).set j (some (.t y)))
 | _=>False
def eK (i:Nat)(we:WE):WS:=fun D δ=>match δ[i]? with
 | some (some (.ol ts))=>we δ fun s=>match s with
  | .t x=>ts.length<100000/\D.nx (δ.set i (some (.ol (ts++[x]))))
  | _=>False
 | _=>False
def Ge (i:Nat):WS:=fun D δ=>match δ[i]? with
 | some (some (.ol ts))=>ts≠[]/\D.nx (δ.set i (some (.ol ts.dropLast)))
 | _=>False
def lN (i:Nat)(we wv:WE):WS:=fun D δ=>match δ[i]? with
 | some (some (.ol ts))=>wv δ fun v=>we δ fun s=>match v,s with
  | .t x,.t (.int k)=>match qE ts.length k with
   | some j=>D.nx (δ.set i (some (.ol (ts.set j x))))
   | none=>False
  | _,_=>False
 | _=>False
section
variable {X:Cx}{st:Stmt}{rest:List Stmt}{w u:WS}{e:Expr}{we:WE}{pos:Pos}{H₀:Hp}
theorem bm:cy X [] (aP X.K H₀ cx):=pL.imp fun D σ H ⟨δ,D',F,_,rl,h,ok⟩=>ok.nx σ F H δ (ao.refl _) rl h
theorem av (h1:PS X st (aP X.K H₀ w))(h2:cy X rest (aP X.K H₀ u)):cy X (st::rest) (aP X.K H₀ (bp w u)):=
 (cK h1 h2).imp fun D σ H ⟨δ,D',F,s0,rl,h,ok⟩=>⟨δ,_,F,s0,rl,h,⟨fun σ' F' H' δ' ff rl' h'=>⟨δ',D',F',s0.trans ff,rl',h',ok.mono ff⟩,ok.rt,ok.bk,ok.ct⟩⟩
theorem aV (h1:PS X st (aP X.K H₀ w))(h2:cy X rest (aP X.K H₀ u)):cy X (st::rest) (aP X.K H₀ (cZ w u)):=
 (cK h1 h2).imp fun D σ H ⟨δ,D',F,s0,rl,⟨M,h,hk⟩,ok⟩=>⟨δ,_,F,s0,rl,h,⟨fun σ' F' H' δ' ff rl' h'=>⟨δ',D',F',s0.trans ff,rl',hk δ' h',ok.mono ff⟩,ok.rt,ok.bk,ok.ct⟩⟩
theorem aq (h1:PS X st (aP X.K H₀ w)):cy X [st] (aP X.K H₀ w):=lH h1
theorem mf:PS X st (aP X.K H₀ oH):=vM.imp fun D σ H ⟨δ,D',F,_,rl,h,ok⟩=>h
theorem aD {i:Nat}{x:Str}{pos':Pos}(hN:X.N.Nodup)(he:PE X e (ah X.K we))(hi:X.N[i]?=some x:=by rfl)(hx:Loc X.env.scope x:=by first|exact Or.inl rfl|exact Or.inr rfl)(hs:swapsWith e (some (.Name x pos')) pos.line X.env=pure false:=by rfl)(hf:X.fn x=true\/X.env.scope.names.lookup x=some .local:=by first|exact .inl rfl|exact .inr rfl|assumption) :
  PS X (.Assign [.Name x pos'] e pos) (aP X.K H₀ (bu i we)):=
 (oA hN hi hx he hs hf).imp fun D σ H ⟨δ,D',F,s0,rl,h,ok⟩=>⟨δ,_,F,rl,h,fun v F1 H1 s e p q=>by
  obtain⟨F2,ff,r2⟩:=rl.setS i e p;exact ok.nx _ F2 H1 _ ff r2 q⟩
theorem cG {c:Expr}{a b:List Stmt}{t:WT}(hc:PT X c (liftT X.K t))(ha:cy X a (aP X.K H₀ w))(hb:cy X b (aP X.K H₀ u)):PS X (.If c a b pos) (aP X.K H₀ (nt t w u)):=
 (zz hc ha hb).imp fun D σ H ⟨δ,D',F,s0,rl,h,ok⟩=>⟨δ,_,F,rl,h,fun F1 H1 k e q=>by
  cases k with
  | true=>exact⟨δ,D',F1,s0.trans e.ff,rl.ext e,by simpa using q,ok.mono e.ff⟩
  | false=>exact⟨δ,D',F1,s0.trans e.ff,rl.ext e,by simpa using q,ok.mono e.ff⟩⟩
theorem BR {K:PySem.W.Frag}{F H F1 H1:Hp}(s0:ao H₀ H)(e:bX F H F1 H1):∀ {s:S}{v:V},bP K H F1 H1 s v->p9 K H₀ H1 (out s) v
 | .t _,_,h=>al.same e.sub h
 | .vt _,_,h=>h
 | .ol _,_,⟨a,xs,h1,h2,_,h3,h4⟩=>⟨a,xs,h1,ax s0 h2,h3,ae.same e.sub h4⟩
theorem bH (he:PE X e (ah X.K we)):PS X (.Return (some e) pos) (aP X.K H₀ (dM we)):=
 (oz he).imp fun D σ H ⟨δ,D',F,s0,rl,h,ok⟩=>⟨δ,_,F,rl,h,fun v F1 H1 s e p q=>ok.rt v H1 _ ((s0.trans rl.sub).trans e.hh) (BR (s0.trans rl.sub) e p) q⟩
theorem vY {K:PySem.W.Frag}{F H:Hp}(s0:ao H₀ F)(sb:ao F H):∀ {s:S}{v:V},dw K F H s v->p9 K H₀ H s v
 | .t _,_,h=>al.same sb h
 | .vt _,_,h=>False.elim h
 | .ol _,_,⟨a,xs,h1,h2,h3,h4⟩=>⟨a,xs,h1,ax s0 h2,h3,ae.same sb h4⟩
def EJ (we:WE):WS:=fun D δ=>we (freeze δ) fun s=>D.rt (out s)
theorem hV {i:Nat}(he:PE X e (lJ i)):PS X (.Return (some e) pos) (aP X.K H₀ (i7 i)):=
 (oz he).imp fun D σ H ⟨δ,D',F,s0,rl,h,ok⟩=>by
  unfold i7 at h
  split at h
  ·rename_i s hs;obtain⟨v,h1,h2⟩:=rl.slot i s hs;exact⟨v,h1,ok.rt v H s (s0.trans rl.sub) (vY s0 rl.sub h2) h⟩
  ·exact h.elim
theorem xp (he:PE X e (ah X.K we))(hs:swapsWith e none pos.line X.env=pure false:=by rfl):PS X (.Expr e pos) (aP X.K H₀ (v8 we)):=
 (lG he hs).imp fun D σ H ⟨δ,D',F,s0,rl,h,ok⟩=>⟨δ,_,F,rl,h,fun v F1 H1 s e p q=>ok.nx σ F1 H1 δ e.ff (rl.ext e) q⟩
theorem mh {c:Expr}{body:List Stmt}{t:WT}{wb:WS}(hp:PassesOwn (model X.prog X.w) X.A X.env X.xe)(hc:PT X c (liftT X.K t))(hb:cy X body (aP X.K H₀ wb)):PS X (.While c body [] pos) (aP X.K H₀ (oN t wb)):=
 (vN hp hc hb).imp fun D σ H ⟨δ,D',F,s0,rl,⟨I,⟨n,h⟩,step⟩,ok⟩=>by
  refine⟨fun m σ H=>∃ δ F1,ao F F1/\Rel X.K F1 H σ δ/\I m δ,⟨n,δ,F,ao.refl _,rl,h⟩,?_⟩;rintro m σ H ⟨δ,F1,f1,rl,h⟩;refine⟨δ,_,F1,rl,step m δ h,fun F2 H2 k e q=>?_⟩
  cases k with
  | true=>
   refine⟨fun σ' H'=>∃ δ F1 j,j<m/\ao F F1/\Rel X.K F1 H' σ' δ/\I j δ,fun σ' H' ⟨δ',F',j,hj,a1,a2,a3⟩=>⟨j,hj,δ',F',a1,a2,a3⟩,?_⟩;refine⟨δ,{nx:=fun δ'=>∃ j,j<m/\I j δ',rt:=D'.rt,bk:=D'.nx,ct:=fun δ'=>∃ j,j<m/\I j δ'},F2,(s0.trans f1).trans e.ff,rl.ext e,by simpa using q,⟨fun σ' F' H' δ' ff r' ⟨j,hj,h'⟩=>⟨δ',F',j,hj,(f1.trans e.ff).trans ff,r',h'⟩,ok.rt,fun σ' F' H' δ' ff r' h'=>ok.nx σ' F' H' δ' ((f1.trans e.ff).trans ff) r' h',fun σ' F' H' δ' ff r' ⟨j,hj,h'⟩=>⟨δ',F',j,hj,(f1.trans e.ff).trans ff,r',h'⟩⟩⟩
  | false=>exact ok.nx σ F2 H2 δ (f1.trans e.ff) (rl.ext e) (by simpa using q)
end
def fP (K:PySem.W.Frag)(g:WG):TG:=fun v σ H Q=>∃ t δ R F,al K F t v/\Rel K F H σ δ/\g t δ R/\∀ σ' δ',Rel K F H σ' δ'->R δ'->Q σ' H
def ly (K:PySem.W.Frag)(g:List T->az->(az->Prop)->Prop):wI:=fun vs σ H Q=>∃ ts δ R F,ae K F ts vs/\Rel K F H σ δ/\g ts δ R/\∀ σ' δ',Rel K F H σ' δ'->R δ'->Q σ' H
section
variable {X:Cx}{pos:Pos}{H₀:Hp}
theorem aZ {i:Nat}{x:Str}(hN:X.N.Nodup)(hi:X.N[i]?=some x:=by rfl)(hx:Loc X.env.scope x:=by first|exact Or.inl rfl|exact Or.inr rfl)(hf:X.fn x=true\/X.env.scope.names.lookup x=some .local:=by first|exact .inl rfl|exact .inr rfl|assumption):PG X (.Name x pos) (fP X.K (aW i)):=
 (dE hN hi hx hf).imp fun v σ H Q ⟨t,δ,R,F,p,rl,h,k⟩=>k _ _ (rl.put (s:=.t t) p (fun _ z=>by cases z)) h
theorem kD:rF X [] (ly X.K gh):=h9.imp fun v σ H Q ⟨ts,δ,R,F,p,rl,h,k⟩=>by
 unfold gh at h
 split at h
 ·cases (show v=[] from p)
  exact⟨rfl,k σ δ rl h⟩
 ·exact h.elim
theorem cF {e:Expr}{es:List Expr}{g:WG}{gr:List T->az->(az->Prop)->Prop}(h1:PG X e (fP X.K g))(h2:rF X es (ly X.K gr))
  (hs:(assignEach (e::es) X.env).map (·.2)=assign e X.env::(assignEach es X.env).map (·.2):=by rfl):rF X (e::es) (ly X.K (cj g gr)):=
 (cJ h1 h2 hs).imp fun v σ H Q ⟨ts,δ,R,F,p,rl,h,k⟩=>by
  unfold cj at h
  split at h
  ·rename_i t r;obtain⟨x,vr,e1,p1,p2⟩:=p;exact⟨x,vr,e1,t,δ,_,F,p1,rl,h,fun σ' δ' rl' h'=>⟨r,δ',R,F,p2,rl',h',k⟩⟩
  ·exact h.elim
theorem nY {es:List Expr}{k:Nat}{g:List T->az->(az->Prop)->Prop}{n:Nat}(h:rF X es (ly X.K g))(hl:∀ ts δ R,g ts δ R->ts.length=n)(hc:X.calm=true:=by rfl)
  (hn:(assignEach es X.env).length=n:=by rfl) (hst:(assignEach es X.env).findIdx? (·.1)=none:=by rfl):PG X (.Tuple es k pos) (fP X.K (je g)):=
 (lF hc h hn hst).imp fun v σ H Q ⟨t,δ,R,F,p,rl,h,k⟩=>by
  unfold je at h
  split at h
  ·rename_i ts;obtain⟨a,xs,e1,p1,p2⟩:=p;exact⟨a,xs,e1,ao.sqT rl.sub a xs p1,by rw[p2.length];exact hl ts δ R h,ts,δ,R,F,p2,rl,h,k⟩
  ·exact h.elim
theorem lx:∀ ts δ R,gh ts δ R->ts.length=0:=fun ts δ R h=>by
 unfold gh at h
 split at h
 ·rfl
 ·exact h.elim
theorem cI {n:Nat}{i:Nat}{gr:List T->az->(az->Prop)->Prop}(hr:∀ ts δ R,gr ts δ R->ts.length=n):∀ ts δ R,cj (aW i) gr ts δ R->ts.length=n+1:=fun ts δ R h=>by
 unfold cj at h
 split at h
 ·rw[List.length_cons,hr _ _ _ h]
 ·exact h.elim
theorem AG {tg e:Expr}{we:WE}{g:WG}(he:PE X e (ah X.K we))(hg:PG X tg (fP X.K g))(hs:swapsWithSole [tg] e pos.line X.env=pure false:=by rfl)(hw:swappedStores [tg] e X.env=pure none:=by rfl)
  (h1:(assignEach [tg] X.env).map (·.2)=[assign tg X.env]:=by rfl):PS X (.Assign [tg] e pos) (aP X.K H₀ (Cq we g)):=
 (vL he hg hs hw h1).imp fun D σ H ⟨δ,D',F,s0,rl,h,ok⟩=>⟨δ,_,F,rl,h,fun v F1 H1 s e p q=>by
  cases s with
  | t t=>exact⟨t,δ,_,F1,p,rl.ext e,q,fun σ' δ' rl' h'=>ok.nx σ' F1 H1 δ' e.ff rl' h'⟩
  | vt t=>exact⟨t,freeze δ,_,H1,p,(rl.ext e).freeze,q,fun σ' δ' rl' h'=>ok.nx σ' H1 H1 δ' (e.ff.trans e.sub) rl' h'⟩
  | ol ts=>
   obtain⟨rl2,r2⟩:=rl.thaw e p;refine⟨.lst ts,δ,_,_,?_,rl2,q,fun σ' δ' rl' h'=>ok.nx σ' _ H1 δ' r2.1 rl' h'⟩;unfold al;exact r2.2⟩
theorem sw {i j:Nat}{x y:Str}{a b:Expr}{wa:WA}{px py pt:Pos}{kt k2 pt2}(hN:X.N.Nodup)(ha:PA X [a,b] (bS X.K wa))(hi:X.N[i]?=some x:=by rfl)(hj:X.N[j]?=some y:=by rfl)(hij:i≠j:=by decide)
  (hx:X.env.scope.names.lookup x=some .local:=by rfl) (hy:X.env.scope.names.lookup y=some .local:=by rfl)
  (hw:swappedStores [.Tuple [.Name x px,.Name y py] kt pt] (.Tuple [a,b] k2 pt2) X.env=pure (some [x,y]):=by rfl) (hc:X.calm=true:=by rfl)
  (hs:swapsWithSole [.Tuple [.Name x px,.Name y py] kt pt] (.Tuple [a,b] k2 pt2) pos.line X.env=pure false:=by rfl) :
  PS X (.Assign [.Tuple [.Name x px,.Name y py] kt pt] (.Tuple [a,b] k2 pt2) pos) (aP X.K H₀ (yV i j wa)):=
 (BK hc hN hi hj hij hx hy ha hw hs).imp fun D σ H ⟨δ,D',F,s0,rl,h,ok⟩=>⟨δ,_,F,rl,h,fun vs F1 H1 ss e p q=>by
  split at q
  ·rename_i t u;obtain⟨v1,r1,e1,p1,v2,r2,e2,p2,p3⟩:=p
   cases (show r2=[] from p3)
   exact⟨v1,v2,by rw[e1,e2],ok.nx _ F1 H1 _ e.ff (((rl.ext e).put (i:=i) (s:=.t t) p1 (fun _ z=>by cases z)).put (i:=j) (s:=.t u) p2 (fun _ z=>by cases z)) q⟩
  ·exact q.elim⟩
end
def rD (K:PySem.W.Frag)(F:Hp)(J:It)(ts:List T):Prop:=
 ∀ F1 H1 i,ao F F1->ao F1 H1->dJ F1 H1->(∀ t,ts[i]?=some t->J.go i H1/\∀ x H2,J.yld i H1 x H2->∃ F2,bX F1 H1 F2 H2/\al K F2 t x)/\(ts.length<=i->J.stop i H1)
def iN (K:PySem.W.Frag)(w:WI):TI:=fun σ H R=>∃ δ W F,Rel K F H σ δ/\w δ W/\∀ J F0 F' H' ts δ',bX F H F0 H'->ao F0 F'->Rel K F' H' σ δ'->rD K F' J ts->W ts δ'->R J H'
theorem fE {α:Type}{l:List α}{i:Nat}{x:α}{r:List α}(h:l.drop i=x::r):l[i]?=some x/\l.drop (i+1)=r:=by
 constructor
 ·rw[<-List.head?_drop,h];rfl
 ·rw[<-List.tail_drop,h];rfl
section
variable {X:Cx}{pos:Pos}{H₀:Hp}{tg:Expr}
theorem gv {iter:Expr}{body:List Stmt}{wi:WI}{g:WG}{wb:WS}(hp:PassesOwn (model X.prog X.w) X.A X.env X.xe)(hi:PI X tg iter (iN X.K wi))(hg:PG X tg (fP X.K g))(hb:cy X body (aP X.K H₀ wb))(hc:X.calm=true:=by rfl)
  (hs:∀ x,foldedSetIterable iter X.env x=pure x:=by intro _;rfl):PS X (.For tg iter body [] pos) (aP X.K H₀ (nr wi g wb)):=
 (oy hp hc hi hg hb hs).imp fun D σ H ⟨δ,D',F,s0,rl,h,ok⟩=>⟨δ,_,F,rl,h,fun J F0 F1 H1 ts δ1 e0 f01 rl1 it q=>by
  have f1:ao F F1:=e0.ff.trans f01;obtain⟨W,w0,wend,wstep⟩:=q;refine⟨fun i m σ H=>m=ts.length-i/\i<=ts.length/\∃ δ F2,ao F1 F2/\Rel X.K F2 H σ δ/\W (ts.drop i) δ,⟨ts.length,by simp,Nat.zero_le _,δ1,F1,ao.refl _,rl1,by simpa using w0⟩,?_⟩
  rintro i m σ H ⟨rfl,hi,δ,F2,f2,rl,h⟩;obtain⟨hgo,hstop⟩:=it F2 H i f2 rl.sub rl.full
  cases hd:ts.drop i with
  | nil=>
   rw[hd]at h;have:ts.length<=i:=by simpa using hd
   exact .inl ⟨hstop this,ok.nx σ F2 H δ (f1.trans f2) rl (wend δ h)⟩
  | cons x r=>
   rw[hd]at h;obtain⟨h1,h2⟩:=fE hd;obtain⟨go,yld⟩:=hgo x h1;have hlt:i<ts.length:=by
    have:=congrArg List.length hd;simp at this;omega
   have nexts:∀ σ' F' H' δ',ao F1 F'->Rel X.K F' H' σ' δ'->W r δ'->∃ m',m'<ts.length-i/\(m'=ts.length-(i+1)/\i+1<=ts.length/\∃ δ F2,ao F1 F2/\Rel X.K F2 H' σ' δ/\W (ts.drop (i+1)) δ):=
    fun σ' F' H' δ' ff rl' h'=>⟨ts.length-(i+1),by omega,rfl,hlt,δ',F',ff,rl',by rw[h2];exact h'⟩
   refine .inr ⟨go,fun σ' H'=>∃ δ F2,ao F1 F2/\Rel X.K F2 H' σ' δ/\W r δ,fun σ' H' ⟨δ',F',ff,rl',h'⟩=>nexts σ' F' H' δ' ff rl' h',fun v H2 y=>?_⟩;obtain⟨F3,e3,p3⟩:=yld v H2 y;refine⟨x,δ,_,F3,p3,rl.ext e3,wstep x r δ h,fun σ' δ' rl' h'=>?_⟩;exact⟨δ',_,F3,((s0.trans f1).trans f2).trans e3.ff,rl',h',⟨fun σ'' F'' H'' δ'' ff rl'' h''=>⟨δ'',F'',(f2.trans e3.ff).trans ff,rl'',h''⟩,ok.rt,fun σ'' F'' H'' δ'' ff rl'' h''=>ok.nx σ'' F'' H'' δ'' (((f1.trans f2).trans e3.ff).trans ff) rl'' h'',fun σ'' F'' H'' δ'' ff rl'' h''=>⟨δ'',F'',(f2.trans e3.ff).trans ff,rl'',h''⟩⟩⟩⟩
def jW (δ:az)(W:List T->az->Prop):S->Prop
 | .t (.lst ts)=>W ts δ
 | .vt (.lst ts)=>W ts (freeze δ)
 | .ol ts=>W ts δ
 | _=>False
def eA (we:WE):WI:=fun δ W=>we δ fun s=>jW δ W s
theorem lr {K:PySem.W.Frag}{F:Hp}{a:Addr}{xs:List V}{ts:List T}(h:ca K F a xs)(r:ae K F ts xs):rD K F (E8 K a) ts:=by
 intro F1 H1 i f1 sb fu;have q:ca K H1 a xs:=sb.seq (f1.seq h);refine⟨fun t ht=>?_,fun hl=>⟨xs,q,by rw[r.length];exact hl⟩⟩
 obtain⟨x,h1,h2⟩:=r.get ht;refine⟨⟨xs,x,q,h1⟩,fun y H2 hy=>?_⟩;obtain⟨e,hy⟩:=hy;subst e;have:=hy xs q;rw[h1]at this
 cases this
 exact⟨F1,bX.refl sb fu,al.same f1 h2⟩
end
end DL
namespace DL
open PySem L2
mutual
def eqT:T->T->Bool
 | .non,.non=>true
 | .bl a,.bl b=>a == b
 | .bl a,.int b=>(if a then 1 else 0) == b
 | .int a,.bl b=>a == (if b then 1 else 0)
 | .int a,.int b=>a == b
 | .str a,.str b=>a == b
 | .tup a,.tup b=>bt a b
 | .lst a,.lst b=>bt a b
 | _,_=>false
def bt:List T->List T->Bool
 | [],[]=>true
 | a::r,b::s=>eqT a b && bt r s
 | _,_=>false
end
mutual
def bY:T->Nat
 | .tup ts=>fC ts+1
 | .lst ts=>fC ts+1
 | .exc _=>1000
 | _=>0
def fC:List T->Nat
 | []=>0
 | t::r=>max (bY t) (fC r)
end
mutual
theorem iD:∀ t:T,bY t<1000->eqT t t=true
 | .non,_=>rfl
 | .bl b,_=>by simp[eqT]
 | .int i,_=>by simp[eqT]
 | .str x,_=>by simp[eqT]
 | .tup ts,h=>by simp only[eqT];exact gz ts (by simp only[bY]at h;omega)
 | .lst ts,h=>by simp only[eqT];exact gz ts (by simp only[bY]at h;omega)
 | .exc _,h=>by simp[bY]at h
theorem gz:∀ ts:List T,fC ts<1000->bt ts ts=true
 | [],_=>by simp[bt]
 | t::r,h=>by
  simp only[fC]at h;simp only[bt,iD t (by omega),gz r (by omega)];rfl
end
section
variable {X:Cx}{pins:List (Addr × Obj)}{σ:St}{H:Hp}{s:Shared}
theorem mF (I:ay X pins σ H s){a:Addr}{xs ys:List V}(h:dy X.K H a xs)(g:ca X.K H a ys):False:=by
 obtain⟨its,_,p1,_⟩:=I.tuple h;obtain⟨its2,_,p2,_⟩:=I.list g;exact SeqAt.ne_of_list_tuple p2.isList p1 rfl
mutual
theorem al.inj (I:ay X pins σ H s):∀ (t u:T) (v:V),bY t<1000->bY u<1000->al X.K H t v->al X.K H u v->t=u
 | .non,u,v,_,_,h,g=>by cases (show v=_ from h);cases u with
  | non=>rfl
  | tup ts=>unfold al at g;obtain⟨_,_,e,_⟩:=g;cases e
  | lst ts=>unfold al at g;obtain⟨_,_,e,_⟩:=g;cases e
  | exc c=>unfold al at g;obtain⟨_,_,e,_⟩:=g;cases e
  | _=>cases g
 | .bl b,u,v,_,_,h,g=>by cases (show v=_ from h);cases u with
  | bl c=>cases g;rfl
  | tup ts=>unfold al at g;obtain⟨_,_,e,_⟩:=g;cases e
  | lst ts=>unfold al at g;obtain⟨_,_,e,_⟩:=g;cases e
  | exc c=>unfold al at g;obtain⟨_,_,e,_⟩:=g;cases e
  | _=>cases g
 | .int b,u,v,_,_,h,g=>by cases (show v=_ from h);cases u with
  | int c=>cases g;rfl
  | tup ts=>unfold al at g;obtain⟨_,_,e,_⟩:=g;cases e
  | lst ts=>unfold al at g;obtain⟨_,_,e,_⟩:=g;cases e
  | exc c=>unfold al at g;obtain⟨_,_,e,_⟩:=g;cases e
  | _=>cases g
 | .str b,u,v,_,_,h,g=>by cases (show v=_ from h);cases u with
  | str c=>cases g;rfl
  | tup ts=>unfold al at g;obtain⟨_,_,e,_⟩:=g;cases e
  | lst ts=>unfold al at g;obtain⟨_,_,e,_⟩:=g;cases e
  | exc c=>unfold al at g;obtain⟨_,_,e,_⟩:=g;cases e
  | _=>cases g
 | .tup ts,u,v,d1,d2,h,g=>by
  unfold al at h;obtain⟨a,xs,e,h1,h2⟩:=h;subst e
  cases u with
  | tup us=>
   unfold al at g;obtain⟨b,ys,e,g1,g2⟩:=g
   cases e
   have:=I.tuple_inj h1 g1;subst this;rw[ae.inj I ts us xs (by simp only[bY]at d1;omega) (by simp only[bY]at d2;omega) h2 g2]
  | lst us=>
   unfold al at g;obtain⟨b,ys,e,g1,g2⟩:=g
   cases e
   exact(mF I h1 g1).elim
  | exc c=>simp[bY]at d2
  | _=>cases g
 | .lst ts,u,v,d1,d2,h,g=>by
  unfold al at h;obtain⟨a,xs,e,h1,h2⟩:=h;subst e
  cases u with
  | lst us=>
   unfold al at g;obtain⟨b,ys,e,g1,g2⟩:=g
   cases e
   have:=I.list_inj h1 g1;subst this;rw[ae.inj I ts us xs (by simp only[bY]at d1;omega) (by simp only[bY]at d2;omega) h2 g2]
  | tup us=>
   unfold al at g;obtain⟨b,ys,e,g1,g2⟩:=g
   cases e
   exact(mF I g1 h1).elim
  | exc c=>simp[bY]at d2
  | _=>cases g
 | .exc _,_,_,d1,_,_,_=>by simp[bY]at d1
theorem ae.inj (I:ay X pins σ H s):∀ (ts us:List T) (xs:List V),fC ts<1000->fC us<1000->ae X.K H ts xs->ae X.K H us xs->ts=us
 | [],us,xs,_,_,h,g=>by
  cases (show xs=[] from h)
  cases us with
  | nil=>rfl
  | cons u us=>obtain⟨_,_,e,_⟩:=g;cases e
 | t::ts,us,xs,d1,d2,⟨x,r,e,h1,h2⟩,g=>by
  subst e
  cases us with
  | nil=>cases (show _=[] from g)
  | cons u us=>
   obtain⟨y,r',e,g1,g2⟩:=g
   cases e
   simp only[fC]at d1 d2;rw[al.inj I t u x (by omega) (by omega) h1 g1,ae.inj I ts us r (by omega) (by omega) h2 g2]
end
def gW (ts us:List T)(j:Nat):Bool:=match ts[j]?,us[j]? with
 | some a,some b=>eqT a b
 | _,_=>true
theorem iV (n:Nat)(e:Nat->Bool):(List.range (n+1)).all e=(e 0 && (List.range n).all fun j=>e (j+1)):=by
 rw[List.range_succ_eq_map,List.all_cons,List.all_map];rfl
theorem iE:∀ (ts us:List T),((List.range (min ts.length us.length)).all (gW ts us) && ts.length == us.length)=bt ts us
 | [],[]=>by simp[bt]
 | [],u::us=>by simp[bt]
 | t::ts,[]=>by simp[bt]
 | t::ts,u::us=>by
  have ih:=iE ts us;have e1:min (t::ts).length (u::us).length=min ts.length us.length+1:=by simp only[List.length_cons];omega
  rw[e1,iV];have e2:gW (t::ts) (u::us) 0=eqT t u:=by simp[gW]
  have e3:(fun j=>gW (t::ts) (u::us) (j+1))=gW ts us:=by funext j;simp[gW]
  have e4:((t::ts).length == (u::us).length)=(ts.length == us.length):=by simp
  rw[e2,e3,e4];simp only[bt];rw[<-ih,Bool.and_assoc]
theorem units_in1 (A:Around):A.in1.units=A.units+1:=rfl
theorem me:∀ {ts:List T}{j:Nat}{t:T},ts[j]?=some t->bY t<=fC ts
 | [],_,_,h=>by simp at h
 | t::ts,0,u,h=>by simp at h;subst h;simp only[fC];omega
 | t::ts,j+1,u,h=>by
  have:=me (ts:=ts) (j:=j) (t:=u) (by simpa using h)
  simp only[fC];omega
theorem lE {A:Around}{ts us:List T}{xs ys:List V}{its its2:List Value}(h1:ae X.K H ts xs)(h2:ae X.K H us ys)(r1:aA xs its)(r2:aA ys its2)
  (ih:∀ t u v1 v2 u1 u2,t∈ts->u∈us->al X.K H t v1->al X.K H u v2->RelV v1 u1->RelV v2 u2->SeqAt.EqAt A s u1 u2 (eqT t u)) :
  ∀ j (h1:j<its.toArray.size) (h2:j<its2.toArray.size),SeqAt.EqAt A s its.toArray[j] its2.toArray[j] (gW ts us j):=by
 intro j q1 q2;have l1:=h1.length;have l2:=h2.length;have l3:=r1.length;have l4:=r2.length;rw[List.size_toArray]at q1 q2;have g1:j<ts.length:=by omega
 have g2:j<us.length:=by omega
 obtain⟨x,p1,p2⟩:=h1.get (List.getElem?_eq_getElem g1);obtain⟨y,p3,p4⟩:=h2.get (List.getElem?_eq_getElem g2);obtain⟨w1,p5,p6⟩:=r1.get p1;obtain⟨w2,p7,p8⟩:=r2.get p3;have e1:its.toArray[j]=w1:=by
  have:=List.getElem?_eq_getElem q1;rw[p5]at this;simpa using (Option.some.inj this).symm
 have e2:its2.toArray[j]=w2:=by
  have:=List.getElem?_eq_getElem q2;rw[p7]at this;simpa using (Option.some.inj this).symm
 have e3:gW ts us j=eqT ts[j] us[j]:=by
  unfold gW;rw[List.getElem?_eq_getElem g1,List.getElem?_eq_getElem g2]
 rw[e1,e2,e3];exact ih _ _ x y w1 w2 (List.getElem_mem g1) (List.getElem_mem g2) p2 p4 p6 p8
theorem hZ {ts:List T}{t:T}(h:t∈ts):bY t<=fC ts:=by
 obtain⟨j,hj,rfl⟩:=List.mem_iff_getElem.mp h;exact me (List.getElem?_eq_getElem hj)
theorem n8 {ts us:List T}(h:ts.length=us.length):(List.range ts.length).all (gW ts us)=bt ts us:=by
 have:=iE ts us;rw[<-h]at this;simpa using this
theorem mj:∀ {ts us:List T},ts.length≠us.length->bt ts us=false
 | [],[],h=>absurd rfl h
 | [],_::_,_=>by simp[bt]
 | _::_,[],_=>by simp[bt]
 | t::ts,u::us,h=>by
  simp only[bt];rw[mj (ts:=ts) (us:=us) (by simpa using h),Bool.and_false]
theorem Ej {A:Around}{a b:Addr}{ts us:List T}{xs ys:List V}{its its2:List Value}(p2:ae X.K H ts xs)(g2:ae X.K H us ys)(q1:aA xs its)(q2:aA ys its2)(pl:PyProof.Rows.IsTup s.heap a its.toArray)(pl2:PyProof.Rows.IsTup s.heap b its2.toArray)(hu':A.units<cLine)
  (ih:∀ t u v1 v2 u1 u2,t∈ts->u∈us->al X.K H t v1->al X.K H u v2->RelV v1 u1->RelV v2 u2->SeqAt.EqAt A.in1 s u1 u2 (eqT t u)) :
  SeqAt.RcAt A s (.ref a) (.ref b) (bt ts us)/\SeqAt.RcNeAt A s (.ref a) (.ref b) (!bt ts us):=by
 have h1:=SeqAt.RcAt.tuples (A:=A) (e:=gW ts us) pl pl2 hu' (lE p2 g2 q1 q2 ih);have h2:=SeqAt.RcNeAt.tuples (A:=A) (e:=gW ts us) pl pl2 hu' (lE p2 g2 q1 q2 ih);rw[List.size_toArray,List.size_toArray,<-q1.length,<-q2.length,p2.length,g2.length,iE]at h1 h2;exact⟨h1,h2⟩
theorem Ei {A:Around}{a b:Addr}{ts us:List T}{xs ys:List V}{its its2:List Value}(p2:ae X.K H ts xs)(g2:ae X.K H us ys)(q1:aA xs its)(q2:aA ys its2)(pl:PlainL s.heap a its.toArray)(pl2:PlainL s.heap b its2.toArray)(hu':A.units<cLine)
  (ih:∀ t u v1 v2 u1 u2,t∈ts->u∈us->al X.K H t v1->al X.K H u v2->RelV v1 u1->RelV v2 u2->SeqAt.EqAt A.in1 s u1 u2 (eqT t u)) :
  SeqAt.RcAt A s (.ref a) (.ref b) (bt ts us)/\SeqAt.RcNeAt A s (.ref a) (.ref b) (!bt ts us):=by
 have e1:its.toArray.size=ts.length:=by rw[List.size_toArray,<-q1.length,p2.length]
 have e2:its2.toArray.size=us.length:=by rw[List.size_toArray,<-q2.length,g2.length]
 by_cases hl:ts.length=us.length
 ·have hp:=lE (A:=A.in1) p2 g2 q1 q2 ih;have g1:=SeqAt.RcAt.lists pl.isList pl2.isList (by rw[e1,e2,hl]) hu' hp
  have g2:=SeqAt.RcNeAt.lists pl.isList pl2.isList (by rw[e1,e2,hl]) hu' hp
  rw[e1,n8 hl]at g1 g2;exact⟨g1,g2⟩
 ·have ne:(its.toArray.size != its2.toArray.size)=true:=by rw[e1,e2];simpa using hl
  rw[mj hl];exact⟨SeqAt.RcAt.lists_lengths pl.isList pl2.isList ne hu',SeqAt.RcNeAt.lists_lengths pl.isList pl2.isList ne hu'⟩
theorem nc (I:ay X pins σ H s):∀ (n:Nat) (A:Around) (t u:T) (v1 v2:V) (u1 u2:Value),bY t<=n->bY u<1000->n<1000->A.units+n<cLine->al X.K H t v1->al X.K H u v2->RelV v1 u1->RelV v2 u2 →
  SeqAt.RcAt A s u1 u2 (eqT t u)/\SeqAt.RcNeAt A s u1 u2 (!eqT t u)/\SeqAt.EqAt A s u1 u2 (eqT t u):=by
 intro n
 induction n with
 | zero=>
  intro A t u v1 v2 u1 u2 hd hd2 hn hu h1 h2 r1 r2;have hu':A.units<cLine:=by omega
  cases t with
  | tup ts=>simp only[bY]at hd;omega
  | lst ts=>simp only[bY]at hd;omega
  | exc c=>simp[bY]at hd
  | non=>
   cases h1;cases r1
   cases u with
   | non=>cases h2;cases r2;exact⟨SeqAt.RcAt.none_none,SeqAt.RcNeAt.none_none,SeqAt.EqAt.same _⟩
   | bl b=>cases h2;cases r2;exact⟨SeqAt.RcAt.none_bool b,SeqAt.RcNeAt.none_bool b,SeqAt.EqAt.none_bool b⟩
   | int b=>cases h2;obtain⟨tk,rfl⟩:=r2;exact⟨SeqAt.RcAt.none_int b tk,SeqAt.RcNeAt.none_int b tk,SeqAt.EqAt.none_int b tk⟩
   | str b=>cases h2;obtain⟨tk,rfl⟩:=r2;exact⟨SeqAt.RcAt.none_str b tk,SeqAt.RcNeAt.none_str b tk,SeqAt.EqAt.none_str b tk⟩
   | tup us=>
    unfold al at h2;obtain⟨a,xs,rfl,g1,g2⟩:=h2
    cases r2
    obtain⟨its,_,pl,_⟩:=I.tuple g1;exact⟨SeqAt.RcAt.none_tuple pl hu',SeqAt.RcNeAt.none_tuple pl hu',SeqAt.EqAt.none_tuple pl hu'⟩
   | lst us=>
    unfold al at h2;obtain⟨a,xs,rfl,g1,g2⟩:=h2
    cases r2
    obtain⟨its,_,pl,_⟩:=I.list g1;exact⟨SeqAt.RcAt.none_list pl.isList hu',SeqAt.RcNeAt.none_list pl.isList hu',SeqAt.EqAt.none_list pl.isList hu'⟩
   | exc c=>simp[bY]at hd2
  | bl c=>
   cases h1;cases r1
   cases u with
   | non=>cases h2;cases r2;exact⟨SeqAt.RcAt.bool_none c,SeqAt.RcNeAt.bool_none c,SeqAt.EqAt.bool_none c⟩
   | bl b=>cases h2;cases r2;exact⟨SeqAt.RcAt.bool_bool c b,SeqAt.RcNeAt.bool_bool c b,SeqAt.EqAt.bool_bool c b⟩
   | int b=>cases h2;obtain⟨tk,rfl⟩:=r2;exact⟨SeqAt.RcAt.bool_int c b tk,SeqAt.RcNeAt.bool_int c b tk,SeqAt.EqAt.bool_int c b tk⟩
   | str b=>cases h2;obtain⟨tk,rfl⟩:=r2;exact⟨SeqAt.RcAt.bool_str c b tk,SeqAt.RcNeAt.bool_str c b tk,SeqAt.EqAt.bool_str c b tk⟩
   | tup us=>
    unfold al at h2;obtain⟨a,xs,rfl,g1,g2⟩:=h2
    cases r2
    obtain⟨its,_,pl,_⟩:=I.tuple g1;exact⟨SeqAt.RcAt.bool_tuple c pl hu',SeqAt.RcNeAt.bool_tuple c pl hu',SeqAt.EqAt.bool_tuple c pl hu'⟩
   | lst us=>
    unfold al at h2;obtain⟨a,xs,rfl,g1,g2⟩:=h2
    cases r2
    obtain⟨its,_,pl,_⟩:=I.list g1;exact⟨SeqAt.RcAt.bool_list c pl.isList hu',SeqAt.RcNeAt.bool_list c pl.isList hu',SeqAt.EqAt.bool_list c pl.isList hu'⟩
   | exc c=>simp[bY]at hd2
  | int c=>
   cases h1;obtain⟨tk1,rfl⟩:=r1
   cases u with
   | non=>cases h2;cases r2;exact⟨SeqAt.RcAt.int_none c tk1,SeqAt.RcNeAt.int_none c tk1,SeqAt.EqAt.int_none c tk1⟩
   | bl b=>cases h2;cases r2;exact⟨SeqAt.RcAt.int_bool c tk1 b,SeqAt.RcNeAt.int_bool c tk1 b,SeqAt.EqAt.int_bool c tk1 b⟩
   | int b=>cases h2;obtain⟨tk,rfl⟩:=r2;exact⟨SeqAt.RcAt.int_int c tk1 b tk,SeqAt.RcNeAt.int_int c tk1 b tk,SeqAt.EqAt.int_int c tk1 b tk⟩
   | str b=>cases h2;obtain⟨tk,rfl⟩:=r2;exact⟨SeqAt.RcAt.int_str c tk1 b tk,SeqAt.RcNeAt.int_str c tk1 b tk,SeqAt.EqAt.int_str c tk1 b tk⟩
   | tup us=>
    unfold al at h2;obtain⟨a,xs,rfl,g1,g2⟩:=h2
    cases r2
    obtain⟨its,_,pl,_⟩:=I.tuple g1;exact⟨SeqAt.RcAt.int_tuple c tk1 pl hu',SeqAt.RcNeAt.int_tuple c tk1 pl hu',SeqAt.EqAt.int_tuple c tk1 pl hu'⟩
   | lst us=>
    unfold al at h2;obtain⟨a,xs,rfl,g1,g2⟩:=h2
    cases r2
    obtain⟨its,_,pl,_⟩:=I.list g1;exact⟨SeqAt.RcAt.int_list c tk1 pl.isList hu',SeqAt.RcNeAt.int_list c tk1 pl.isList hu',SeqAt.EqAt.int_list c tk1 pl.isList hu'⟩
   | exc c=>simp[bY]at hd2
  | str c=>
   cases h1;obtain⟨tk1,rfl⟩:=r1
   cases u with
   | non=>cases h2;cases r2;exact⟨SeqAt.RcAt.str_none c tk1,SeqAt.RcNeAt.str_none c tk1,SeqAt.EqAt.str_none c tk1⟩
   | bl b=>cases h2;cases r2;exact⟨SeqAt.RcAt.str_bool c tk1 b,SeqAt.RcNeAt.str_bool c tk1 b,SeqAt.EqAt.str_bool c tk1 b⟩
   | int b=>cases h2;obtain⟨tk,rfl⟩:=r2;exact⟨SeqAt.RcAt.str_int c tk1 b tk,SeqAt.RcNeAt.str_int c tk1 b tk,SeqAt.EqAt.str_int c tk1 b tk⟩
   | str b=>cases h2;obtain⟨tk,rfl⟩:=r2;exact⟨SeqAt.RcAt.str_str c tk1 b tk,SeqAt.RcNeAt.str_str c tk1 b tk,SeqAt.EqAt.str_str c tk1 b tk⟩
   | tup us=>
    unfold al at h2;obtain⟨a,xs,rfl,g1,g2⟩:=h2
    cases r2
    obtain⟨its,_,pl,_⟩:=I.tuple g1;exact⟨SeqAt.RcAt.str_tuple c tk1 pl hu',SeqAt.RcNeAt.str_tuple c tk1 pl hu',SeqAt.EqAt.str_tuple c tk1 pl hu'⟩
   | lst us=>
    unfold al at h2;obtain⟨a,xs,rfl,g1,g2⟩:=h2
    cases r2
    obtain⟨its,_,pl,_⟩:=I.list g1;exact⟨SeqAt.RcAt.str_list c tk1 pl.isList hu',SeqAt.RcNeAt.str_list c tk1 pl.isList hu',SeqAt.EqAt.str_list c tk1 pl.isList hu'⟩
   | exc c=>simp[bY]at hd2
 | succ n ih=>
  intro A t u v1 v2 u1 u2 hd hd2 hn hu h1 h2 r1 r2;have hu':A.units<cLine:=by omega
  have ih:=fun A t u v1 v2 u1 u2 a b=>ih A t u v1 v2 u1 u2 a b (by omega)
  cases t with
  | tup ts=>
   unfold al at h1;obtain⟨a,xs,rfl,p1,p2⟩:=h1
   cases r1
   obtain⟨its,q1,pl,_⟩:=I.tuple p1
   cases u with
   | tup us=>
    unfold al at h2;obtain⟨b,ys,rfl,g1,g2⟩:=h2
    cases r2
    obtain⟨its2,q2,pl2,_⟩:=I.tuple g1;simp only[bY]at hd hd2;have rr:SeqAt.RcAt A s (.ref a) (.ref b) (bt ts us)/\SeqAt.RcNeAt A s (.ref a) (.ref b) (!bt ts us):=
     Ej p2 g2 q1 q2 pl pl2 hu' fun t u v1 v2 u1 u2 ht hu2 k1 k2 k3 k4=>
      (ih A.in1 t u v1 v2 u1 u2 (by have:=hZ ht;omega) (by have:=hZ hu2;omega) (by rw[units_in1];omega) k1 k2 k3 k4).2.2
    refine⟨by simpa only [eqT] using rr.1,by simpa only [eqT] using rr.2,?_⟩
    by_cases hab:a=b
    ·subst hab;have:=I.tuple_inj p1 g1;subst this;have:=ae.inj I ts us xs (by omega) (by omega) p2 g2
     subst this;rw[iD _ (by simp only[bY];omega)]
     exact SeqAt.EqAt.same _
    ·simp only[eqT];exact SeqAt.EqAt.of_refs hab rr.1
   | lst us=>
    unfold al at h2;obtain⟨b,ys,rfl,g1,g2⟩:=h2
    cases r2
    obtain⟨its2,q2,pl2,_⟩:=I.list g1;exact⟨SeqAt.RcAt.tuple_list pl pl2.isList hu',SeqAt.RcNeAt.tuple_list pl pl2.isList hu',SeqAt.EqAt.tuple_list pl pl2.isList hu'⟩
   | non=>cases h2;cases r2;exact⟨SeqAt.RcAt.tuple_none pl hu',SeqAt.RcNeAt.tuple_none pl hu',SeqAt.EqAt.tuple_none pl hu'⟩
   | bl b=>cases h2;cases r2;exact⟨SeqAt.RcAt.tuple_bool b pl hu',SeqAt.RcNeAt.tuple_bool b pl hu',SeqAt.EqAt.tuple_bool b pl hu'⟩
   | int b=>cases h2;obtain⟨tk,rfl⟩:=r2;exact⟨SeqAt.RcAt.tuple_int b tk pl hu',SeqAt.RcNeAt.tuple_int b tk pl hu',SeqAt.EqAt.tuple_int b tk pl hu'⟩
   | str b=>cases h2;obtain⟨tk,rfl⟩:=r2;exact⟨SeqAt.RcAt.tuple_str b tk pl hu',SeqAt.RcNeAt.tuple_str b tk pl hu',SeqAt.EqAt.tuple_str b tk pl hu'⟩
   | exc c=>simp[bY]at hd2
  | lst ts=>
   unfold al at h1;obtain⟨a,xs,rfl,p1,p2⟩:=h1
   cases r1
   obtain⟨its,q1,pl,_⟩:=I.list p1
   cases u with
   | lst us=>
    unfold al at h2;obtain⟨b,ys,rfl,g1,g2⟩:=h2
    cases r2
    obtain⟨its2,q2,pl2,_⟩:=I.list g1;simp only[bY]at hd hd2;have rr:SeqAt.RcAt A s (.ref a) (.ref b) (bt ts us)/\SeqAt.RcNeAt A s (.ref a) (.ref b) (!bt ts us):=
     Ei p2 g2 q1 q2 pl pl2 hu' fun t u v1 v2 u1 u2 ht hu2 k1 k2 k3 k4=>
      (ih A.in1 t u v1 v2 u1 u2 (by have:=hZ ht;omega) (by have:=hZ hu2;omega) (by rw[units_in1];omega) k1 k2 k3 k4).2.2
    refine⟨by simpa only [eqT] using rr.1,by simpa only [eqT] using rr.2,?_⟩
    by_cases hab:a=b
    ·subst hab;have:=I.list_inj p1 g1;subst this;have:=ae.inj I ts us xs (by omega) (by omega) p2 g2
     subst this;rw[iD _ (by simp only[bY];omega)]
     exact SeqAt.EqAt.same _
    ·simp only[eqT];exact SeqAt.EqAt.of_refs hab rr.1
   | tup us=>
    unfold al at h2;obtain⟨b,ys,rfl,g1,g2⟩:=h2
    cases r2
    obtain⟨its2,q2,pl2,_⟩:=I.tuple g1;exact⟨SeqAt.RcAt.list_tuple pl.isList pl2 hu',SeqAt.RcNeAt.list_tuple pl.isList pl2 hu',SeqAt.EqAt.list_tuple pl.isList pl2 hu'⟩
   | non=>cases h2;cases r2;exact⟨SeqAt.RcAt.list_none pl.isList hu',SeqAt.RcNeAt.list_none pl.isList hu',SeqAt.EqAt.list_none pl.isList hu'⟩
   | bl b=>cases h2;cases r2;exact⟨SeqAt.RcAt.list_bool b pl.isList hu',SeqAt.RcNeAt.list_bool b pl.isList hu',SeqAt.EqAt.list_bool b pl.isList hu'⟩
   | int b=>cases h2;obtain⟨tk,rfl⟩:=r2;exact⟨SeqAt.RcAt.list_int b tk pl.isList hu',SeqAt.RcNeAt.list_int b tk pl.isList hu',SeqAt.EqAt.list_int b tk pl.isList hu'⟩
   | str b=>cases h2;obtain⟨tk,rfl⟩:=r2;exact⟨SeqAt.RcAt.list_str b tk pl.isList hu',SeqAt.RcNeAt.list_str b tk pl.isList hu',SeqAt.EqAt.list_str b tk pl.isList hu'⟩
   | exc c=>simp[bY]at hd2
  | exc c=>simp only[bY]at hd;omega
  | non=>exact ih A _ u v1 v2 u1 u2 (by simp only[bY];omega) hd2 (by omega) h1 h2 r1 r2
  | bl c=>exact ih A _ u v1 v2 u1 u2 (by simp only[bY];omega) hd2 (by omega) h1 h2 r1 r2
  | int c=>exact ih A _ u v1 v2 u1 u2 (by simp only[bY];omega) hd2 (by omega) h1 h2 r1 r2
  | str c=>exact ih A _ u v1 v2 u1 u2 (by simp only[bY];omega) hd2 (by omega) h1 h2 r1 r2
end
end DL
namespace DL
open PySem L2
def sh (s:S):Prop:=bY (tr s)<=20
def ES (a b:S):Bool:=eqT (tr a) (tr b)
def b7:S->S->(S->Prop)->Prop:=fun a b R=>sh a/\sh b/\R (.t (.bl (ES a b)))
def b8:S->S->(S->Prop)->Prop:=fun a b R=>sh a/\sh b/\R (.t (.bl (!ES a b)))
abbrev rj:=bf b7
abbrev Cz:=bf b8
def yI (K:PySem.W.Frag)(neg:Bool):R2:=fun x y H Q=>∃ a b,bY a<=20/\bY b<=20/\al K H a x/\al K H b y/\Q (.bl (if neg then !eqT a b else eqT a b)) H
def DU:T->Bool
 | .non=>true
 | _=>false
def Gb (wa:WE):WE:=fun δ R=>wa δ fun s=>R (.t (.bl (DU (tr s))))
def EG (wa:WE):WE:=fun δ R=>wa δ fun s=>R (.t (.bl (!DU (tr s))))
section
variable {X:Cx}
theorem vE (hu:X.A.units+64<cLine):im X (compareOp .Eq) (yI X.K false):=by
 intro pins s σ H x y v u Q I rx ry h;obtain⟨a,b,h1,h2,p1,p2,q⟩:=h;exact(nc I 20 X.A a b x y v u h1 (by omega) (by omega) (by omega) p1 p2 rx ry).1 X.prog X.w X.xe _ ⟨.bl _,H,I,rfl,q⟩
theorem Bx (hu:X.A.units+64<cLine):im X (compareOp .NotEq) (yI X.K true):=by
 intro pins s σ H x y v u Q I rx ry h;obtain⟨a,b,h1,h2,p1,p2,q⟩:=h;exact(nc I 20 X.A a b x y v u h1 (by omega) (by omega) (by omega) p1 p2 rx ry).2.1 X.prog X.w X.xe _ ⟨.bl _,H,I,rfl,q⟩
theorem vD {K:PySem.W.Frag}:zN K (yI K false) b7:=fun F H s1 s2 v1 v2 R Q sb fu p1 p2 h k=>⟨tr s1,tr s2,h.1,h.2.1,p1.tree sb,p2.tree sb,k _ F H (.t (.bl _)) (bX.refl sb fu) rfl h.2.2⟩
theorem Bu {K:PySem.W.Frag}:zN K (yI K true) b8:=fun F H s1 s2 v1 v2 R Q sb fu p1 p2 h k=>⟨tr s1,tr s2,h.1,h.2.1,p1.tree sb,p2.tree sb,k _ F H (.t (.bl _)) (bX.refl sb fu) rfl h.2.2⟩
variable {a b:Expr}{wa wb:WE}{pos:Pos}
theorem zd {k:Nat}(hr:bg k X.A)(ha:PE X a (ah X.K wa))(hb:PE X b (ah X.K wb)):PE X (.Compare a [.Eq] [b] pos) (ah X.K (rj wa wb)):=(yh (vE hr.units) ha hb (gB _)).imp (bU vD)
theorem fG {k:Nat}(hr:bg k X.A)(ha:PE X a (ah X.K wa))(hb:PE X b (ah X.K wb)):PT X (.Compare a [.Eq] [b] pos) (liftT X.K (wB (rj wa wb))):=iy (vE hr.units) vD ha hb (gB _)
theorem mi {k:Nat}(hr:bg k X.A)(ha:PE X a (ah X.K wa))(hb:PE X b (ah X.K wb)):PT X (.Compare a [.NotEq] [b] pos) (liftT X.K (wB (Cz wa wb))):=iy (Bx hr.units) Bu ha hb (gB _)
end
inductive Ty where
 | non|bool|int|str|tup|lst|exc
def Ty.nm:Ty->String
 | .non=>"NoneType" | .bool=>"bool" | .int=>"int" | .str=>"str" | .tup=>"tuple" | .lst=>"list" | .exc=>""
def zE:T->Ty
 | .non=>.non
 | .bl _=>.bool
 | .int _=>.int
 | .str _=>.str
 | .tup _=>.tup
 | .lst _=>.lst
 | .exc _=>.exc
def rh (s:S):Ty:=zE (tr s)
def ba:Ty->Ty->Bool
 | .non,.non=>true
 | .bool,.bool=>true
 | .bool,.int=>true
 | .int,.int=>true
 | .str,.str=>true
 | .tup,.tup=>true
 | .lst,.lst=>true
 | _,_=>false
theorem gA (K:PySem.W.Frag)(a b:Ty)(ha:a≠.exc)(hb:b≠.exc):PySem.W.kitOne K (.type a.nm) (.type b.nm)=some (ba a b):=by
 cases a <;> first|exact absurd rfl ha|(cases b <;> first|exact absurd rfl hb|with_unfolding_all rfl)
def wx (ty:Ty)(we:WE):WE:=fun δ R=>we δ fun s=>rh s≠.exc/\R (.t (.bl (ba (rh s) ty)))
def GO (K:PySem.W.Frag)(ty:Ty):List V->Hp->VK->Prop:=fun xs H Q=>∃ x a,xs=[x,.ty ty.nm]/\zE a≠.exc/\al K H a x/\Q (.bl (ba (zE a) ty)) H
section
variable {X:Cx}
theorem xj {ty:Ty} (ht:ty≠.exc):cS X (.builtin "isinstance") (GO X.K ty):=by
 intro pins s σ H xs us Q I r h;obtain⟨x,a,rfl,hne,p,q⟩:=h;obtain⟨u,w',rfl,r1,r2⟩:=vals2 r
 cases r2
 have fin:∀ tk,EP X pins σ Q (.bool (ba (zE a) ty)) {s with toks:=tk}:=fun tk=>⟨.bl _,H,I.tok _,rfl,q⟩
 cases a with
 | non=>cases p;cases r1;exact PySem.W.kia_one PySem.W.kitx_none I.kIn True.intro (gA X.K .non ty (by simp) ht) (fun z=>nomatch z) fin
 | bl c=>cases p;cases r1;exact PySem.W.kia_one PySem.W.kitx_bool I.kIn True.intro (gA X.K .bool ty (by simp) ht) (fun z=>nomatch z) fin
 | int c=>cases p;obtain⟨t,rfl⟩:=r1;exact PySem.W.kia_one PySem.W.kitx_int I.kIn True.intro (gA X.K .int ty (by simp) ht) (fun z=>nomatch z) fin
 | str c=>cases p;obtain⟨t,rfl⟩:=r1;exact PySem.W.kia_one PySem.W.kitx_str I.kIn True.intro (gA X.K .str ty (by simp) ht) (fun z=>nomatch z) fin
 | tup ts=>
  unfold al at p;obtain⟨b,zs,rfl,p3,p4⟩:=p
  cases r1
  obtain⟨its,_,⟨o,e,c,_⟩,_⟩:=I.tuple p3;exact PySem.W.kia_one PySem.W.kitx_tuple I.kIn ⟨o,e,c⟩ (gA X.K .tup ty (by simp) ht) (fun z=>nomatch z) fin
 | lst ts=>
  unfold al at p;obtain⟨b,zs,rfl,p3,p4⟩:=p
  cases r1
  obtain⟨its,_,⟨o,n,e,c,hd,d⟩,_⟩:=I.list p3;exact PySem.W.kia_one PySem.W.kitx_list I.kIn ⟨o,e,c⟩ (gA X.K .lst ty (by simp) ht) (fun z=>nomatch z) fin
 | exc c=>exact absurd rfl hne
variable {e:Expr}{we:WE}{pos p p2:Pos}
theorem o8 {x:Str} (ty:Ty) (ht:ty≠.exc) (hv:bootBuiltins x=some (.type ty.nm)) (hm:X.mg "isinstance"=none) (hm2:X.mg x=none) (he:PE X e (ah X.K we)) (hg:Gl X "isinstance") (hg2:Gl X x) (hn:x≠"__name__") (hdb:(x == ("__debug__":Str))=false)
  (h1:starEach [e,.Name x p2] X.env=(false,eval e X.env)::starEach [.Name x p2] X.env) (h2:starEach [.Name x p2] X.env=(false,eval (.Name x p2) X.env)::starEach [] X.env) (h3:(backTo pos (starEach [.Name x p2] X.env)).any (·.1)=false) :
  PE X (.Call (.Name "isinstance" p) [e,.Name x p2] [] pos) (ah X.K (wx ty we)):=
 (m9 (xj (ty:=ty) ht) hg hm PyProof.Rows.boot_isinstance (cX he (cX (yg (v:=.ty ty.nm) hg2 hm2 hv rfl hn hdb) iT h2) h1) (by decide) (by decide) h1 h3).imp fun σ H Q ⟨δ,R,F,rl,h,k⟩=>⟨δ,_,F,rl,h,fun v F1 H1 s e p q=>
  ⟨v,tr s,rfl,q.1,(p.val e.sub).tree e.sub,k _ F1 H1 (.t (.bl _)) e rfl q.2⟩⟩
theorem qr (hm:X.mg "isinstance"=none) (hm2:X.mg "int"=none) (he:PE X e (ah X.K we)) (hg:Gl X "isinstance":=by rfl) (hg2:Gl X "int":=by rfl) (h1:starEach [e,.Name "int" p2] X.env=(false,eval e X.env)::starEach [.Name "int" p2] X.env:=by rfl) (h2:starEach [.Name "int" p2] X.env=(false,eval (.Name "int" p2) X.env)::starEach [] X.env:=by rfl) (h3:(backTo pos (starEach [.Name "int" p2] X.env)).any (·.1)=false:=by rfl) :
  PE X (.Call (.Name "isinstance" p) [e,.Name "int" p2] [] pos) (ah X.K (wx .int we)):=o8 .int (by simp) PyProof.Rows.boot_int hm hm2 he hg hg2 (by decide) (by decide) h1 h2 h3
theorem nV (hm:X.mg "isinstance"=none) (hm2:X.mg "bool"=none) (he:PE X e (ah X.K we)) (hg:Gl X "isinstance":=by rfl) (hg2:Gl X "bool":=by rfl) (h1:starEach [e,.Name "bool" p2] X.env=(false,eval e X.env)::starEach [.Name "bool" p2] X.env:=by rfl) (h2:starEach [.Name "bool" p2] X.env=(false,eval (.Name "bool" p2) X.env)::starEach [] X.env:=by rfl) (h3:(backTo pos (starEach [.Name "bool" p2] X.env)).any (·.1)=false:=by rfl) :
  PE X (.Call (.Name "isinstance" p) [e,.Name "bool" p2] [] pos) (ah X.K (wx .bool we)):=o8 .bool (by simp) PyProof.Rows.boot_bool hm hm2 he hg hg2 (by decide) (by decide) h1 h2 h3
theorem md (hm:X.mg "isinstance"=none) (hm2:X.mg "tuple"=none) (he:PE X e (ah X.K we)) (hg:Gl X "isinstance":=by rfl) (hg2:Gl X "tuple":=by rfl) (h1:starEach [e,.Name "tuple" p2] X.env=(false,eval e X.env)::starEach [.Name "tuple" p2] X.env:=by rfl) (h2:starEach [.Name "tuple" p2] X.env=(false,eval (.Name "tuple" p2) X.env)::starEach [] X.env:=by rfl) (h3:(backTo pos (starEach [.Name "tuple" p2] X.env)).any (·.1)=false:=by rfl) :
  PE X (.Call (.Name "isinstance" p) [e,.Name "tuple" p2] [] pos) (ah X.K (wx .tup we)):=o8 .tup (by simp) PyProof.Rows.boot_tuple hm hm2 he hg hg2 (by decide) (by decide) h1 h2 h3
theorem nW (hm:X.mg "isinstance"=none) (hm2:X.mg "list"=none) (he:PE X e (ah X.K we)) (hg:Gl X "isinstance":=by rfl) (hg2:Gl X "list":=by rfl) (h1:starEach [e,.Name "list" p2] X.env=(false,eval e X.env)::starEach [.Name "list" p2] X.env:=by rfl) (h2:starEach [.Name "list" p2] X.env=(false,eval (.Name "list" p2) X.env)::starEach [] X.env:=by rfl) (h3:(backTo pos (starEach [.Name "list" p2] X.env)).any (·.1)=false:=by rfl) :
  PE X (.Call (.Name "isinstance" p) [e,.Name "list" p2] [] pos) (ah X.K (wx .lst we)):=o8 .lst (by simp) PyProof.Rows.boot_list hm hm2 he hg hg2 (by decide) (by decide) h1 h2 h3
end
theorem ul {K:PySem.W.Frag}{F:Hp}{a:Addr}{xs:List V}{ts:List T}(h:dy K F a xs)(r:ae K F ts xs):rD K F (E9 K a) ts:=by
 intro F1 H1 i f1 sb fu;have q:dy K H1 a xs:=ao.sqT sb _ _ (ao.sqT f1 _ _ h);refine⟨fun t ht=>?_,fun hl=>⟨xs,q,by rw[r.length];exact hl⟩⟩
 obtain⟨x,h1,h2⟩:=r.get ht;refine⟨⟨xs,x,q,h1⟩,fun y H2 hy=>?_⟩;obtain⟨e,hy⟩:=hy;subst e;have:=hy xs q;rw[h1]at this
 cases this
 exact⟨F1,bX.refl sb fu,al.same f1 h2⟩
def cR (lo:Int)(n:Nat):List T:=(List.range n).map fun (k:Nat)=>.int (lo+(k:Int))
theorem A5 {K:PySem.W.Frag}{F:Hp}(lo:Int)(n:Nat):rD K F (EL lo n) (cR lo n):=by
 intro F1 H1 i f1 sb fu;refine⟨fun t ht=>?_,fun hl=>(by simpa [cR] using hl:n<=i)⟩
 unfold cR at ht;rw[List.getElem?_map]at ht
 cases e:(List.range n)[i]? with
 | none=>rw[e]at ht;cases ht
 | some k=>
  rw[e]at ht;have hk:k=i/\i<n:=by
   rw[List.getElem?_eq_some_iff]at e;obtain⟨h1,h2⟩:=e;simp at h1 h2;exact⟨h2.symm,h1⟩
  obtain⟨rfl,hn⟩:=hk;have et:t=.int (lo+k):=by simpa using ht.symm
  refine⟨hn,fun x H2 hy=>?_⟩;obtain⟨e1,e2⟩:=hy;subst e1;subst e2;exact⟨F1,bX.refl sb fu,by rw[et];rfl⟩
def Eu (δ:az)(W:List T->az->Prop):S->Prop
 | .t (.tup ts)=>W ts δ
 | .vt (.tup ts)=>W ts (freeze δ)
 | _=>False
def wk (we:WE):WI:=fun δ W=>we δ fun s=>Eu δ W s
def eW (i:Int):Prop:=-(2 ^ 62)<=i/\i<2 ^ 62
def gH (wa:WA):WI:=fun δ W=>wa δ fun ss=>match ss with
 | [.t (.int j)]=>eW j/\W (cR 0 j.toNat) δ
 | _=>False
def Cs (wa:WA):WI:=fun δ W=>wa δ fun ss=>match ss with
 | [.t (.int i),.t (.int j)]=>eW i/\eW j/\W (cR i (j-i).toNat) δ
 | _=>False
section
variable {X:Cx}{e e2 tg:Expr}{we:WE}{wa:WA}{p pos:Pos}
theorem eB (he:PE X e (ah X.K we)):PI X tg e (iN X.K (eA we)):=
 (pJ he).imp fun σ H R ⟨δ,W,F,rl,h,k⟩=>⟨δ,_,F,rl,h,fun v F1 H1 s ex p q=>by
  unfold jW at q
  split at q
  ·unfold bP al at p;obtain⟨a,xs,rfl,h1,h2⟩:=p;exact⟨a,rfl,⟨xs,ex.sub.seq h1⟩,k _ F1 F1 H1 _ δ ex (ao.refl _) (rl.ext ex) (lr h1 h2) q⟩
  ·unfold bP al at p;obtain⟨a,xs,rfl,h1,h2⟩:=p;exact⟨a,rfl,⟨xs,h1⟩,k _ F1 H1 H1 _ (freeze δ) ex ex.sub (rl.ext ex).freeze (lr h1 h2) q⟩
  ·obtain⟨rl2,sm,a,xs,rfl,g1,g2⟩:=rl.thaw ex p;exact⟨a,rfl,⟨xs,rl2.sub.seq g1⟩,k _ _ _ H1 _ δ (ex.frozen rl.sub).1 (ao.refl _) rl2 (lr g1 g2) q⟩
  ·exact q.elim⟩
theorem AD (he:PE X e (ah X.K we)):PI X tg e (iN X.K (wk we)):=
 (BI he).imp fun σ H R ⟨δ,W,F,rl,h,k⟩=>⟨δ,_,F,rl,h,fun v F1 H1 s ex p q=>by
  unfold Eu at q
  split at q
  ·unfold bP al at p;obtain⟨a,xs,rfl,h1,h2⟩:=p;exact⟨a,rfl,⟨xs,ao.sqT ex.sub _ _ h1⟩,k _ F1 F1 H1 _ δ ex (ao.refl _) (rl.ext ex) (ul h1 h2) q⟩
  ·unfold bP al at p;obtain⟨a,xs,rfl,h1,h2⟩:=p;exact⟨a,rfl,⟨xs,h1⟩,k _ F1 H1 H1 _ (freeze δ) ex ex.sub (rl.ext ex).freeze (ul h1 h2) q⟩
  ·exact q.elim⟩
theorem eC (hm:X.mg "range"=none) (ha:PA X [e] (bS X.K wa)) (hg:Gl X "range":=by rfl) (hs:starEach [e] X.env=[(false,eval e X.env)]:=by rfl):PI X tg (.Call (.Name "range" p) [e] [] pos) (iN X.K (gH wa)):=
 (qT hg hm ha hs).imp fun σ H R ⟨δ,W,F,rl,h,k⟩=>⟨δ,_,F,rl,h,fun vs F1 H1 ss ex p q=>by
  split at q
  ·obtain⟨v,r,rfl,p1,p2⟩:=p
   cases (show r=[] from p2)
   cases (show v=_ from p1)
   obtain⟨⟨q1,q2⟩,q3⟩:=q;exact⟨_,rfl,q1,q2,k _ F1 F1 H1 _ δ ex (ao.refl _) (rl.ext ex) (A5 0 _) q3⟩
  ·exact q.elim⟩
end
end DL
namespace DL
open PySem L2
theorem Rel.mutate {K:PySem.W.Frag}{F H:Hp}{σ:St}{δ:az}{i:Nat}{ts us:List T}{a:Addr}{ys:List V}(r:Rel K F H σ δ)(hi:δ[i]?=some (some (.ol ts)))(ha:σ[i]?=some (some (.ref a)))(hF:F a=none)(hH:∃ xs,H a=some (.lst xs))(hy:ae K F us ys) :
  Rel K F (a8 H a (.lst ys)) σ (δ.set i (some (.ol us))):=by
 obtain⟨xs,hH⟩:=hH;have ne:∀ b o,F b=some o->b≠a:=fun b o e z=>by rw[z,hF]at e;cases e
 have lt:i<δ.length:=by
  rw[List.getElem?_eq_some_iff]at hi;exact hi.1
 refine⟨fun b o e=>by rw[aw (ne b o e)];exact r.sub _ _ e,fun b o e=>?_,by rw[List.length_set];exact r.len,fun j s hj=>?_,fun j l b ts1 ts2 hn h1 h2 h3=>?_⟩
 ·unfold a8 at e
  split at e
  ·cases e;exact .inr ⟨ys,rfl⟩
  ·exact r.full _ _ e
 ·by_cases z:i=j
  ·subst z;rw[List.getElem?_set_self lt]at hj
   cases hj
   exact⟨_,ha,a,ys,rfl,hF,aB,hy⟩
  ·rw[List.getElem?_set_ne z]at hj;obtain⟨v,q1,q2⟩:=r.slot j s hj;refine⟨v,q1,?_⟩
   cases s with
   | t x=>exact q2
   | vt zs=>exact q2
   | ol zs=>
    obtain⟨b,bs,e1,e2,e3,e4⟩:=q2;have nb:b≠a:=fun y=>by
     subst y;subst e1;exact r.dist i j b ts zs z hi hj ha q1
    exact⟨b,bs,e1,e2,by rw[aw nb];exact e3,e4⟩
 ·have own:∀ (j:Nat) (ts1:List T),(δ.set i (some (.ol us)))[j]?=some (some (.ol ts1))->∃ ts0:List T,δ[j]?=some (some (.ol ts0)):=fun j ts1 h=>by
   by_cases z:i=j
   ·subst z;exact⟨ts,hi⟩
   ·rw[List.getElem?_set_ne z]at h;exact⟨ts1,h⟩
  obtain⟨t1,g1⟩:=own j ts1 h1;obtain⟨t2,g2⟩:=own l ts2 h2;exact r.dist j l b t1 t2 hn g1 g2 h3
section
variable {X:Cx}{e:Expr}{we wv:WE}{pos:Pos}{H₀:Hp}{i:Nat}{x:Str}{p1 p2:Pos}
theorem hX {n:Nat}(h:n<100000):n<sizeLine:=Nat.lt_trans h (by decide)
theorem gu (he:PE X e (ah X.K we)) (hv:PE X (.Name x p1) (lJ i):=by exact pv _) (hbase:attributeBase (.Name x p1) "append" X.env (eval (.Name x p1) X.env)=eval (.Name x p1) X.env:=by rfl)
  (hfew:((backTo pos (starEach [e] X.env)).all (fun x=>!x.1) && (backToKw pos (keywordEach [] X.env)).all (fun x=>x.1.isSome) && decide ([e].length+([]:List Keyword).length+(if ([]:List Keyword).isEmpty then 0 else 1)<30))=true:=by rfl)
  (hline:(p2.endLine == pos.line)=true:=by rfl) (hs:starEach [e] X.env=(false,eval e X.env)::starEach [] X.env:=by rfl) (hplain:(backTo pos (starEach [] X.env)).any (·.1)=false:=by rfl) {pos':Pos}
  (hsw:swapsWith (.Call (.Attribute (.Name x p1) "append" p2) [e] [] pos) none pos'.line X.env=pure false:=by rfl) :
  PS X (.Expr (.Call (.Attribute (.Name x p1) "append" p2) [e] [] pos) pos') (aP X.K H₀ (eK i we)):=
 (lG (zw PySem.F.plainAttrs_list PySem.F.slot_list_append PySem.F.type_list_append jZ hv (cX he iT hs) hbase hfew hline hs hplain) hsw).imp fun D σ H ⟨δ,D',F,s0,rl,h,ok⟩=>by
  unfold eK at h
  split at h
  ·rename_i ts hi;obtain⟨v,ha,a,xs,rfl,hF,hH,hr⟩:=rl.slot i _ hi;refine⟨_,ha,.inl ⟨rfl,xs,ca.of hH⟩,δ,_,F,rl,h,fun v F1 H1 s e p q=>?_⟩
   cases s with
   | t y=>
    obtain⟨hl,q⟩:=q;have h1:=e.hh _ _ hH;refine⟨a,xs,v,rfl,rfl,h1,by rw[hr.length];exact hX hl,?_⟩
    exact ok.nx σ F1 _ _ e.ff ((rl.ext e).mutate hi ha (e.keep a (by rw[hH];simp) hF) ⟨xs,h1⟩ ((ae.same e.ff hr).append (ae.one p))) q
   | _=>exact q.elim
  ·exact h.elim
theorem sA {v:Expr}(he:PE X e (ah X.K we))(hw:PE X v (ah X.K wv))(hv:PE X (.Name x p1) (lJ i):=by exact pv _)
  (ha:∀ z,assign (.Subscript (.Name x p1) e p2) X.env z=(do
   let ov ← holding [z] (eval (.Name x p1) X.env)
   let iv ← holding [z,ov] (eval e X.env)
   standAt p2
   holding [z,ov,iv] (setItem ov iv z)
   release [z,ov,iv] []):=by intro _;rfl)
  (hs:swapsWithSole [.Subscript (.Name x p1) e p2] v pos.line X.env=pure false:=by rfl) (hsw:swappedStores [.Subscript (.Name x p1) e p2] v X.env=pure none:=by rfl)
  (h1:(assignEach [.Subscript (.Name x p1) e p2] X.env).map (·.2)=[assign (.Subscript (.Name x p1) e p2) X.env]:=by rfl) :
  PS X (.Assign [.Subscript (.Name x p1) e p2] v pos) (aP X.K H₀ (lN i we wv)):=
 (vL hw (BH hv he set_list ha) hs hsw h1).imp fun D σ H ⟨δ,D',F,s0,rl,h,ok⟩=>by
  unfold lN at h
  split at h
  ·rename_i ts hi;obtain⟨v,ha,a,xs,rfl,hF,hH,hr⟩:=rl.slot i _ hi;refine⟨δ,_,F,rl,h,fun v1 F1 H1 s1 e1 p1 q1=>⟨_,ha,δ,_,F1,rl.ext e1,q1,fun v2 F2 H2 s2 e2 p2 q2=>?_⟩⟩;have e12:=e1.trans e2
   split at q2
   ·rename_i y k
    split at q2
    ·rename_i j hj;have h2:=e12.hh _ _ hH;refine⟨a,xs,k,j,rfl,p2,h2,by rw[hr.length];exact hj,?_⟩
     exact ok.nx σ F2 _ _ e12.ff ((rl.ext e12).mutate hi ha (e12.keep a (by rw[hH];simp) hF) ⟨xs,h2⟩ ((ae.same e12.ff hr).set (al.same e2.ff p1) j)) q2
    ·exact q2.elim
   ·exact q2.elim
  ·exact h.elim
end
def nT (R:List T->Prop):S->Prop
 | .t (.lst ts)=>R ts
 | .vt (.lst ts)=>bx ts=true/\R ts
 | .ol ts=>R ts
 | _=>False
def Fv:S->S->(S->Prop)->Prop:=fun a b R=>nT (fun ts=>nT (fun us=>ts.length+us.length<=100000/\R (.ol (ts++us))) b) a
def aO (N:List Str)(ss:List S):az:=ss.map some++List.replicate (N.length-ss.length) none
theorem j8 {K:PySem.W.Frag}{F H:Hp}:∀ {ss:List S}{vs:List V}{i:Nat}{s:S},eV K F H ss vs->ss[i]?=some s->∃ v,vs[i]?=some v/\gT K F H s v
 | [],_,_,_,_,h=>by simp at h
 | s::ss,_,0,u,⟨v,r,e,p,q⟩,h=>by subst e;simp at h;subst h;exact⟨v,by simp,p⟩
 | s::ss,_,i+1,u,⟨v,r,e,p,q⟩,h=>by
  subst e;obtain⟨y,h1,h2⟩:=j8 (i:=i) q (by simpa using h)
  exact⟨y,by simpa using h1,h2⟩
theorem eG {K:PySem.W.Frag}{F H:Hp}:∀ {ss:List S}{vs:List V},eV K F H ss vs->vs.length=ss.length
 | [],_,e=>by cases (show _=[] from e);rfl
 | s::ss,_,⟨v,r,e,p,q⟩=>by subst e;rw[List.length_cons,List.length_cons,eG q]
theorem kf {N:List Str}{ss:List S}{i:Nat}{s:S}(h:(aO N ss)[i]?=some (some s)):ss[i]?=some s:=by
 unfold aO at h
 by_cases hi:i<ss.length
 ·rw[List.getElem?_append_left (by simpa using hi),List.getElem?_map]at h
  cases e:ss[i]? with
  | none=>rw[e]at h;cases h
  | some u=>rw[e]at h;simpa using h
 ·rw[List.getElem?_append_right (by simpa using hi),List.getElem?_replicate]at h
  split at h <;> cases h
theorem j7 {K:PySem.W.Frag}{H:Hp}{N:List Str}{ss:List S}{vs:List V}(hn:ss.length<=N.length)(ha:∀ s∈ss,lV s)(r:eV K H H ss vs):Rel K H H (L2.start N vs) (aO N ss):=by
 have hl:=eG r;refine⟨ao.refl _,fun _ _ h=>.inl h,?_,fun i s h=>?_,fun i j a ts us _ h1=>?_⟩
 ·unfold L2.start aO;rw[List.length_append,List.length_append,List.length_map,List.length_map,List.length_replicate,List.length_replicate];omega
 ·have h1:=kf h;obtain⟨v,h2,h3⟩:=j8 r h1;refine⟨v,?_,?_⟩
  ·unfold L2.start;have hi:i<vs.length:=by rw[List.getElem?_eq_some_iff]at h2;exact h2.1
   rw[List.getElem?_append_left (by simpa using hi),List.getElem?_map,h2]
   rfl
  ·have:=ha s (List.mem_of_getElem? h1)
   cases s with
   | t x=>exact h3
   | vt ts=>exact this.elim
   | ol ts=>exact this.elim
 ·have:=ha _ (List.mem_of_getElem? (kf h1));exact this.elim
section
variable {P:Program}{wd:World}{K:PySem.W.Frag}{mg:Str->Option Value}{base:Heap}
theorem so {x qual:Str}{st:Stmt}{f:Addr}{fd:FuncData}{N ps:List Str}{k:Nat}{sp:aR}{w:WS}(F:y6 K x qual st f fd)(S:aF N ps (ai st))
  (hlen:∀ ss R,sp ss R->ss.length=ps.length)
  (hbody:∀ (cdv:Value) (A:Around) (outer:List Env) (s:Shared) (H:Hp) (E:XK),bg k (A.deeper (PyProof.Rows.envOfC qual (ai st) s.heap.objs.size f cdv))->cy (gU lQ P wd K mg base N qual (ai st) f cdv A outer s H E).nox (bj st) (aP K H w))
  (h:∀ ss R,sp ss R->w {nx:=fun _=>R (.t .non),rt:=R} (aO N ss)):de P wd K mg base lQ (k+1) f fd ps (lK K sp):=by
 have pl:ps.length<=N.length:=by
  have:=congrArg List.length S.pre;rw[List.length_take]at this;omega
 refine F.ok S (fun vs H Q E hs=>?_) (fun cdv A outer s H vs Q E hr hs=>?_)
 ·obtain⟨ss,R,_,r,hs,_⟩:=hs;rw[eG r,hlen ss R hs]
 ·obtain⟨ss,R,ha,r,hs,k⟩:=hs;refine⟨_,hbody cdv A outer s H E hr,aO N ss,_,H,ao.refl _,j7 (by rw[hlen ss R hs];exact pl) ha r,h ss R hs,⟨fun σ' F' H' δ' ff rl q=>?_,fun v H' s' sm rc q=>k v H' s' sm rc q,fun _ _ _ _ _ _ z=>z.elim,fun _ _ _ _ _ _ z=>z.elim⟩⟩
  exact k .non H' (.t .non) (ff.trans rl.sub) rfl q
theorem ql {x qual:Str}{st:Stmt}{f:Addr}{fd:FuncData}{ps:List Str}{k:Nat}{sp:aR}(F:y6 K x qual st f fd)(hm:mg x=some (.ref f))(b:Binds K fd ps [])(h:de P wd K mg base lQ k f fd ps (lK K sp)):Callee P wd K mg base k x sp:=
 ⟨f,fd,ps,hm,h,b,F.kp⟩
def ke:aR:=fun ss R=>∃ ns:List Int,ss=[.t (.lst (ns.map .int))]/\ns.length<=63/\R (.t (.bl true))
theorem Be {K:PySem.W.Frag}{H:Hp}{a:Addr}{ns:List Int}(hl:ns.length<=63)(hS:ca K H a (ns.map V.int)):lK K ke [.ref a] H (fun v _=>v=.bl true) fun _ _ _=>False:=
 ⟨[.t (.lst (ns.map .int))],fun s=>s=.t (.bl true),fun s hs=>by simp at hs;subst hs;exact True.intro,⟨.ref a,[],rfl,by show al K H (.lst _) _;unfold al;exact⟨a,_,rfl,hS,ae.ints ns⟩,rfl⟩,⟨ns,rfl,hl,rfl⟩,fun v H' s _ rc e=>by subst e;exact rc⟩
end
end DL
namespace DL
open PySem L2
def jn (own:Nat)(fr:List Nat)(δ:az):az:=List.replicate own none++fr.map fun i=>(δ[i]?).join
def mB (k:T->Prop):S->Prop
 | .t y=>ji y=true/\k y
 | .ol ts=>bx ts=true/\k (.lst ts)
 | .vt _=>False
def l9 (g:WG)(tc:WT)(te:WE)(ts:List T)(δ:az)(R:List T->Prop):Prop:=∃ I:List T->az->List T->Prop,I ts δ []/\(∀ δ acc,I [] δ acc->R acc)/\∀ x r δ acc,I (x::r) δ acc →
 g x δ fun δ1=>tc δ1 fun ok=>if ok=true then te δ1 fun s=>mB (fun y=>acc.length<100000/\I r δ1 (acc++[y])) s else I r δ1 acc
def fY (own:Nat)(fr:List Nat)(wi:WI)(g:WG)(tc:WT)(te:WE):WE:=fun δ R=>wi δ fun ts δ'=>l9 g tc te ts (jn own fr (freeze δ')) fun acc=>R (.ol acc)
def yW:WT:=fun _ R=>R true
def gk (δ:az):Prop:=∀ (i:Nat) (ts:List T),δ[i]?≠some (some (S.ol ts))
def Cu (g:WG):Prop:=∀ t δ R,gk δ->g t δ R->g t δ fun δ'=>gk δ'/\R δ'
def wD (g:List T->az->(az->Prop)->Prop):Prop:=∀ t δ R,gk δ->g t δ R->g t δ fun δ'=>gk δ'/\R δ'
theorem gk.set {δ:az}(h:gk δ)(i:Nat)(t:T):gk (δ.set i (some (.t t))):=fun j ts e=>by
 by_cases z:i=j
 ·subst z;rw[List.getElem?_set]at e;simp at e
 ·rw[List.getElem?_set_ne z]at e;exact h j ts e
theorem dg {i:Nat}:Cu (aW i):=fun t δ R h q=>⟨h.set i t,q⟩
theorem uf:wD gh:=fun ts δ R h q=>by
 cases ts with
 | nil=>exact⟨h,q⟩
 | cons t r=>exact q
theorem jO {g:WG}{gr:List T->az->(az->Prop)->Prop}(hg:Cu g)(hr:wD gr)(mg:∀ t δ (R R':az->Prop),g t δ R->(∀ δ',R δ'->R' δ')->g t δ R'):wD (cj g gr):=fun ts δ R h q=>by
 cases ts with
 | nil=>exact q
 | cons t r=>exact mg _ _ _ _ (hg t δ _ h q) fun δ' ⟨h1,q1⟩=>hr r δ' R h1 q1
theorem jY {i:Nat}:∀ t δ (R R':az->Prop),aW i t δ R->(∀ δ',R δ'->R' δ')->aW i t δ R':=fun _ _ _ _ q k=>k _ q
theorem xC {g:List T->az->(az->Prop)->Prop}(hg:wD g):Cu (je g):=fun t δ R h q=>by
 cases t with
 | tup ts=>exact hg ts δ R h q
 | _=>exact q
def lT (K:PySem.W.Frag)(H F:Hp)(t:T)(v:V):Prop:=(ji t=true/\al K F t v)\/∃ ts a xs,t=.lst ts/\bx ts=true/\v=.ref a/\H a=none/\F a=some (.lst xs)/\ae K F ts xs
def bQ (K:PySem.W.Frag)(H F:Hp):List T->List V->Prop
 | [],xs=>xs=[]
 | t::ts,xs=>∃ x r,xs=x::r/\lT K H F t x/\bQ K H F ts r
theorem lT.same {K:PySem.W.Frag}{H F F':Hp}(e:ao F F'){t:T}{v:V}(h:lT K H F t v):lT K H F' t v:=by
 rcases h with ⟨p,h⟩|⟨ts,a,xs,h1,h2,h3,h4,h5,h6⟩
 ·exact .inl ⟨p,al.same e h⟩
 ·exact .inr ⟨ts,a,xs,h1,h2,h3,h4,e _ _ h5,ae.same e h6⟩
theorem bQ.same {K:PySem.W.Frag}{H F F':Hp}(e:ao F F'):∀ {ts:List T}{xs:List V},bQ K H F ts xs->bQ K H F' ts xs
 | [],_,h=>h
 | _::_,_,⟨x,r,h1,h2,h3⟩=>⟨x,r,h1,h2.same e,bQ.same e h3⟩
theorem bQ.snoc {K:PySem.W.Frag}{H F:Hp}{t:T}{v:V}(h:lT K H F t v):∀ {ts:List T}{xs:List V},bQ K H F ts xs->bQ K H F (ts++[t]) (xs++[v])
 | [],_,e=>by cases (show _=[] from e);exact⟨v,[],rfl,h,rfl⟩
 | _::_,_,⟨x,r,h1,h2,h3⟩=>by subst h1;exact⟨x,r++[v],rfl,h2,bQ.snoc h h3⟩
theorem bQ.length {K:PySem.W.Frag}{H F:Hp}:∀ {ts:List T}{xs:List V},bQ K H F ts xs->xs.length=ts.length
 | [],_,e=>by cases (show _=[] from e);rfl
 | _::_,_,⟨x,r,h1,_,h3⟩=>by subst h1;rw[List.length_cons,List.length_cons,bQ.length h3]
theorem Rel.other {K:PySem.W.Frag}{F H:Hp}{σ:St}{δ:az}{a:Addr}{ys:List V}(r:Rel K F H σ δ)(hF:F a=none)(no:gk δ):Rel K F (a8 H a (.lst ys)) σ δ:=by
 refine⟨fun b o e=>?_,fun b o e=>?_,r.len,fun j s hj=>?_,fun i j b ts us _ h1=>absurd h1 (no i ts)⟩
 ·have:b≠a:=fun z=>by rw[z,hF]at e;cases e
  rw[aw this];exact r.sub _ _ e
 ·unfold a8 at e
  split at e
  ·cases e;exact .inr ⟨ys,rfl⟩
  ·exact r.full _ _ e
 ·obtain⟨v,q1,q2⟩:=r.slot j s hj;refine⟨v,q1,?_⟩
  cases s with
  | t x=>exact q2
  | vt x=>exact q2
  | ol ts=>exact absurd hj (no j ts)
theorem gK (δ:az):gk (freeze δ):=fun i ts e=>by
 obtain⟨u,_,h⟩:=fj e;exact e6 u ts h.symm
theorem lZ {own:Nat}{fr:List Nat}{δ:az}{i:Nat}{s:S}(h:(jn own fr δ)[i]?=some (some s)):own<=i/\∃ k,fr[i-own]?=some k/\δ[k]?=some (some s):=by
 unfold jn at h
 by_cases hi:i<own
 ·rw[List.getElem?_append_left (by simpa using hi),List.getElem?_replicate,if_pos hi]at h
  cases h
 ·have hi:own<=i:=by omega
  refine⟨hi,?_⟩;rw[List.getElem?_append_right (by simpa using hi),List.length_replicate,List.getElem?_map]at h
  cases ef:fr[i-own]? with
  | none=>rw[ef]at h;cases h
  | some k=>
   rw[ef]at h;refine⟨k,rfl,?_⟩;have ev:(δ[k]?).join=some s:=by simpa using h
   cases q:δ[k]? with
   | none=>rw[q]at ev;cases ev
   | some o=>rw[q]at ev;simpa using ev
theorem gn {own:Nat}{fr:List Nat}{δ:az}(h:gk δ):gk (jn own fr δ):=fun i ts e=>by
 obtain⟨_,k,_,h2⟩:=lZ e;exact h k ts h2
theorem yM {K:PySem.W.Frag}{H:Hp}{σ:St}{δ:az}{own:Nat}{fr:List Nat}{D:Addr}(r:Rel K H H σ δ)(no:gk δ)(hD:H D=none):Rel K H (a8 H D (.lst [])) (wu own fr σ) (jn own fr δ):=by
 have:Rel K H H (wu own fr σ) (jn own fr δ):=by
  refine⟨r.sub,r.full,?_,fun i s h=>?_,fun i j a ts us _ h1=>absurd h1 (gn no i ts)⟩
  ·unfold wu jn;rw[List.length_append,List.length_append,List.length_replicate,List.length_replicate,List.length_map,List.length_map]
  ·obtain⟨hi,k,h1,h2⟩:=lZ h;obtain⟨v,q1,q2⟩:=r.slot k s h2;refine⟨v,?_,q2⟩;unfold wu;rw[List.getElem?_append_right (by simpa using hi),List.length_replicate,List.getElem?_map,h1]
   simp[q1]
 exact this.other hD (gn no)
def g9 (N:List Str)(no:Nat)(fr:List Nat)(NX:List Str)(sc around:Scope):Bool:=
 decide (sc.kind=.function) && sc.names.all (fun y=>decide (y.2≠.cell)) && decide N.Nodup && decide (N.length=no+fr.length) &&
 sc.names.all (fun y=>decide (y.2=.local->sc.names.lookup y.1=some .local)) && sc.names.all (fun y=>decide (y.2=.free->around.names.lookup y.1=some .cell)) &&
 (List.range no).all (fun i=>match N[i]? with|some x=>decide (sc.names.lookup x=some .local)|none=>true) &&
 (List.range fr.length).all (fun j=>match fr[j]?,N[no+j]? with|some i,some x=>decide (NX[i]?=some x/\sc.names.lookup x=some .free)|_,_=>true)
theorem rW {N:List Str}{no:Nat}{fr:List Nat}{NX:List Str}{sc around:Scope}(h:g9 N no fr NX sc around=true):dN N no fr NX sc around:=by
 unfold g9 at h;simp only[Bool.and_eq_true,decide_eq_true_eq,List.all_eq_true,List.mem_range]at h;obtain⟨⟨⟨⟨⟨⟨⟨h1,h2⟩,h3⟩,h4⟩,h5⟩,h6⟩,h7⟩,h8⟩:=h;refine⟨h1,h2,h3,h4,h5,h6,fun i x e hi=>?_,fun j i x e1 e2=>?_⟩
 ·have:=h7 i hi;rw[e]at this;simpa using this
 ·have hj:j<fr.length:=(List.getElem?_eq_some_iff.mp e1).1;have:=h8 j hj;rw[e1,e2]at this;simpa using this
section
variable {X:Cx}{N:List Str}{own:Nat}{fr:List Nat}{scope:Scope}{elt tg iter:Expr}{ifs:List Expr}{pos:Pos}{wi:WI}{g:WG}{tc:WT}{te:WE}
theorem xt {Y:Cx}:wG Y [] (liftT Y.K yW):=fun pins s σ H Q I ⟨δ,R,F,rl,h,k⟩=>yq pins s σ H Q I (k F H true rl.refl h)
theorem hW {Y:Cx}{c:Expr}{t:WT}(h:PT Y c (liftT Y.K t)):wG Y [c] (liftT Y.K t):=yr h
theorem jT (go:Cu g):∀ σ H Q,ah X.K (fY own fr wi g tc te) σ H Q->pT own fr (iN X.K wi) (fP X.K g) (liftT X.K tc) (ah X.K te) σ H Q:=
 fun σ H Q ⟨δ,R,F,rl,h,k⟩=>⟨δ,_,F,rl,h,fun J F0 F1 H1 ts δ1 e0 f01 rl1 it q D hD=>by
  have sH:ao H H1:=e0.hh;obtain⟨W,w0,wend,wstep⟩:=q;refine⟨fun i m σ' H'=>m=ts.length-i/\i<=ts.length/\∃ δ' F' acc xs,ao H1 F'/\F' D=none/\H' D=some (.lst xs)/\Rel X.K F' H' σ' δ'/\gk δ'/\bQ X.K H F' acc xs/\W (ts.drop i) δ' acc,
   ⟨ts.length,by simp,Nat.zero_le _,jn own fr (freeze δ1),H1,[],[],ao.refl _,hD,aB,yM rl1.freeze (gK _) hD,gn (gK _),rfl,by simpa using w0⟩,?_⟩
  rintro i m σ' H' ⟨rfl,hi,δ',F',acc,xs,s1,fD,hH,rl',no,ra,h⟩;obtain⟨hgo,hstop⟩:=it F' H' i (rl1.sub.trans s1) rl'.sub rl'.full
  cases hd:ts.drop i with
  | nil=>
   rw[hd]at h;have:ts.length<=i:=by simpa using hd
   refine .inl ⟨hstop this,?_⟩;have sm:ao H H':=(sH.trans s1).trans rl'.sub;have ex:=fL (x:=some D) rl.sub rl.full sm (fun b z=>by cases z;exact⟨xs,hH⟩)
   have hDn:H D=none:=ax sH hD;refine k _ _ H' (.ol acc) ex ⟨D,xs,rfl,hDn,?_,hH,?_⟩ (wend δ' acc h)
   ·unfold grow;rw[if_pos (by rw[hDn];rfl),if_pos rfl]
   ·have all:∀ {acc:List T}{xs:List V},bQ X.K H F' acc xs->ae X.K (grow F H H' (some D)) acc xs:=by
     intro acc
     induction acc with
     | nil=>intro xs z;exact z
     | cons t r ih=>
      rintro xs ⟨x,r',z1,z2,z3⟩;refine⟨x,r',z1,?_,ih z3⟩
      rcases z2 with ⟨p,z⟩|⟨us,a,ys,rfl,p,rfl,y1,y2,y3⟩
      ·exact al.full ex.full p (al.same rl'.sub z)
      ·unfold al;refine⟨a,ys,rfl,ca.of ?_,ae.full ex.full p (ae.same rl'.sub y3)⟩;have:a≠D:=fun z=>by rw[z,fD]at y2;cases y2
       unfold grow;rw[if_pos (by rw[y1];rfl),if_neg (fun z=>this (Option.some.inj z).symm)]
       exact rl'.sub _ _ y2
    exact all ra
  | cons x r=>
   rw[hd]at h;obtain⟨h1,h2⟩:=fE hd;obtain⟨goes,yld⟩:=hgo x h1;have hlt:i<ts.length:=by
    have:=congrArg List.length hd;simp at this;omega
   refine .inr ⟨goes,fun v H2 y=>?_⟩;obtain⟨F3,e3,p3⟩:=yld v H2 y;have h:=wstep x r δ' acc h;refine⟨x,δ',_,F3,p3,rl'.ext e3,go x δ' _ no h,fun σ2 δ2 rl2 ⟨no2,h⟩=>?_⟩;have D3:F3 D=none:=e3.keep D (by rw[hH];simp) fD
   have H3:=e3.hh _ _ hH;refine⟨δ2,_,F3,rl2,h,fun F4 H4 ok e4 h=>?_⟩;have D4:F4 D=none:=e4.keep D (by rw[H3];simp) D3
   have H4D:=e4.hh _ _ H3;have f4:ao F' F4:=e3.ff.trans e4.ff
   cases ok with
   | false=>
    refine⟨ts.length-(i+1),by omega,rfl,hlt,δ2,F4,acc,xs,s1.trans f4,D4,H4D,rl2.ext e4,no2,ra.same f4,?_⟩
    rw[h2];simpa using h
   | true=>
    simp only[if_true]at h;refine⟨δ2,_,F4,rl2.ext e4,h,fun w F5 H5 s e5 p5 h=>?_⟩;have H5D:=e5.hh _ _ H4D;refine⟨xs,H5D,?_,ts.length-(i+1),by omega,rfl,hlt,?_⟩
    ·rw[ra.length]
     cases s with
     | t y=>exact hX h.2.1
     | ol us=>exact hX h.2.1
     | vt y=>exact h.elim
    ·cases s with
     | t y=>
      have D5:F5 D=none:=e5.keep D (by rw[H4D];simp) D4
      refine⟨δ2,F5,acc++[y],xs++[w],(s1.trans f4).trans e5.ff,D5,aB,((rl2.ext e4).ext e5).other D5 no2,no2,(ra.same (f4.trans e5.ff)).snoc (.inl ⟨h.1,p5⟩),?_⟩;rw[h2];exact h.2.2
     | ol us=>
      obtain⟨ez,sz⟩:=e5.frozen (rl2.ext e4).sub;have D5:grow F5 H4 H5 none D=none:=ez.keep D (by rw[H4D];simp) D4
      obtain⟨a,ys,rfl,q0,q1,q2,q3⟩:=p5;refine⟨δ2,grow F5 H4 H5 none,acc++[.lst us],xs++[.ref a],(s1.trans f4).trans ez.ff,D5,aB,((rl2.ext e4).ext ez).other D5 no2,no2,(ra.same (f4.trans ez.ff)).snoc (.inr ⟨us,a,ys,rfl,h.1,rfl,?_,?_,ae.same sz q3⟩),?_⟩
      ·have s4:ao H H4:=((sH.trans s1).trans f4).trans e4.sub;exact ax s4 q0
      ·unfold grow;rw[if_pos (by rw[q0];rfl),if_neg (by simp)]
       exact q2
      ·rw[h2];exact h.2.2
     | vt y=>exact h.elim⟩
theorem hU {NX:List Str}{ar:Scope}(look:g9 N own fr NX scope ar=true)(hi:PI X tg iter (iN X.K wi))(go:Cu g)
  (hg:∀ cl s H fp,PG (bD X N scope cl s H fp) tg (fP X.K g)) (ht:∀ cl s H fp,wG (bD X N scope cl s H fp) ifs (liftT X.K tc)) (he:∀ cl s H fp,PE (bD X N scope cl s H fp) elt (ah X.K te)) (eN:X.N=NX:=by rfl) (eS:X.env.scope=ar:=by rfl) (hc:X.calm=true:=by rfl)
  (hs:∀ x,foldedSetIterable iter X.env x=pure x:=by intro _;rfl):PE X (.ListComp elt [⟨tg,iter,ifs,0⟩] scope pos) (ah X.K (fY own fr wi g tc te)):=
 (yi (by subst eN;subst eS;exact rW look) hc hi hg ht he hs).imp (jT go)
theorem n4 {H₀:Hp}{NX:List Str}{ar:Scope}{i:Nat}{x:Str}{pos1 pos':Pos}(hN:X.N.Nodup)(look:g9 N own fr NX scope ar=true)(hi:PI X tg iter (iN X.K wi))(go:Cu g)
  (hg:∀ cl s H fp,PG (bD X N scope cl s H fp) tg (fP X.K g)) (ht:∀ cl s H fp,wG (bD X N scope cl s H fp) ifs (liftT X.K tc)) (he:∀ cl s H fp,PE (bD X N scope cl s H fp) elt (ah X.K te)) (eN:X.N=NX:=by rfl) (eS:X.env.scope=ar:=by rfl)
  (hi':X.N[i]?=some x:=by rfl) (hx:Loc X.env.scope x:=by first|exact Or.inl rfl|exact Or.inr rfl) (hw:swapsWith (.ListComp elt [⟨tg,iter,ifs,0⟩] scope pos) (some (.Name x pos')) pos1.line X.env=pure true:=by rfl) (hf:X.fn x=true\/X.env.scope.names.lookup x=some .local:=by first|exact .inl rfl|exact .inr rfl|assumption) (hc:X.calm=true:=by rfl)
  (hs:∀ x,foldedSetIterable iter X.env x=pure x:=by intro _;rfl):PS X (.Assign [.Name x pos'] (.ListComp elt [⟨tg,iter,ifs,0⟩] scope pos) pos1) (aP X.K H₀ (bu i (fY own fr wi g tc te))):=
 (ym (i:=i) hN hi' hx (by subst eN;subst eS;exact rW look) hc hi hg ht he hs hw hf).imp fun D σ H ⟨δ,D',F,s0,rl,h,ok⟩=>jT go σ H _ ⟨δ,_,F,rl,h,fun v F1 H1 s e p q=>by
  obtain⟨F2,ff,r2⟩:=rl.setS i e p;exact ok.nx _ F2 H1 _ ff r2 q⟩
end
end DL
namespace DL
open L2
def look (i:Nat)(δ:az)(k:S->Prop):Prop:=match δ[i]? with
 | some (some s)=>k s
 | _=>False
theorem Bh (s:S)(r:az)(k:S->Prop):look 0 (some s::r) k=k s:=rfl
theorem Bi (i:Nat)(x:Option S)(r:az)(k:S->Prop):look (i+1) (x::r) k=look i r k:=rfl
def iO (i:Nat)(δ:az)(k:List T->Prop):Prop:=match δ[i]? with
 | some (some (.ol ts))=>k ts
 | _=>False
theorem xT (ts:List T)(r:az)(k:List T->Prop):iO 0 (some (.ol ts)::r) k=k ts:=rfl
theorem xU (i:Nat)(x:Option S)(r:az)(k:List T->Prop):iO (i+1) (x::r) k=iO i r k:=rfl
section
variable (D:dP) (δ:az) (R:S->Prop) (w u:WS) (we wa wb wv:WE) (ws:WA) (i j:Nat) (x y:T) (s:S) (t c:WT)
theorem C9:bp w u D δ=w {D with nx:=u D} δ:=rfl
theorem Da:bu i we D δ=we δ fun s=>D.nx (setS i s δ):=rfl
theorem Fo:nt c w u D δ=c δ fun k=>if k=true then w D δ else u D δ:=rfl
theorem C8:dM we D δ=we δ fun s=>D.rt (out s):=rfl
theorem Am:i7 i D δ=look i δ D.rt:=rfl
theorem Al:EI D δ=D.rt (.t .non):=rfl
theorem Af:cx D δ=D.nx δ:=rfl
theorem wM:Ck D δ=D.bk δ:=rfl
theorem zY:ED D δ=D.ct δ:=rfl
theorem zZ:v8 we D δ=we δ fun _=>D.nx δ:=rfl
theorem De:af i δ R=look i δ fun s=>R (seen s):=rfl
theorem GI:wC x δ R=R (.t x):=rfl
theorem C3 (f:S->S->(S->Prop)->Prop):bf f wa wb δ R=wa δ fun x=>wb δ fun y=>f x y R:=rfl
theorem Fq (f:S->(S->Prop)->Prop):zH f wa δ R=wa δ fun x=>f x R:=rfl
theorem GH (C:Int->Int->Prop)(g:Int->Int->T)(i j:Int):fI C g (.t (.int i)) (.t (.int j)) R=(C i j/\R (.t (g i j))):=rfl
theorem Fm (g:Int->Int->T)(i j:Int):zg g (.t (.int i)) (.t (.int j)) R=R (.t (g i j)):=rfl
theorem C1 (i:Int):kI (.t (.int i)) R=R (.t (.int (-i))):=rfl
theorem CW (ts:List T)(i:Int):eD (.t (.tup ts)) (.t (.int i)) R=atT ts i R:=rfl
theorem CU (ts:List T)(i:Int):eD (.t (.lst ts)) (.t (.int i)) R=atT ts i R:=rfl
theorem CZ (ts:List T)(i:Int):eD (.vt (.tup ts)) (.t (.int i)) R=oZ ts i R:=rfl
theorem CY (ts:List T)(i:Int):eD (.vt (.lst ts)) (.t (.int i)) R=oZ ts i R:=rfl
theorem CV (ts:List T)(i:Int):eD (.ol ts) (.t (.int i)) R=atT ts i R:=rfl
theorem gl {ts:List T}{i:Int}{x:T}{R:S->Prop}(h:atI ts i=some x):atT ts i R=R (.t x):=by unfold atT;rw[h]
theorem cb {α:Type}{ts:List α}{n:Nat}{x:α}(h:ts[n]?=some x):atI ts (n:Int)=some x:=xc h
theorem Di (r:List T):atT (x::r) 0 R=R (.t x):=gl (cb (n:=0) rfl)
theorem Dj (r:List T):atT (x::y::r) 1 R=R (.t y):=gl (cb (n:=1) rfl)
theorem Dk (z:T)(r:List T):atT (x::y::z::r) 2 R=R (.t z):=gl (cb (n:=2) rfl)
theorem Dl (z z':T)(r:List T):atT (x::y::z::z'::r) 3 R=R (.t z'):=gl (cb (n:=3) rfl)
theorem fg {ts:List T}{i:Int}{x:T}{R:S->Prop}(h:atI ts i=some x):oZ ts i R=R (norm x):=by unfold oZ;rw[h]
theorem Dm (r:List T):oZ (x::r) 0 R=R (norm x):=fg (cb (n:=0) rfl)
theorem Do (r:List T):oZ (x::y::r) 1 R=R (norm y):=fg (cb (n:=1) rfl)
theorem Dp (z:T)(r:List T):oZ (x::y::z::r) 2 R=R (norm z):=fg (cb (n:=2) rfl)
theorem Dq (z z':T)(r:List T):oZ (x::y::z::z'::r) 3 R=R (norm z'):=fg (cb (n:=3) rfl)
theorem vy:norm .non=.t .non:=rfl
theorem xX (b:Bool):norm (.bl b)=.t (.bl b):=rfl
theorem vw (i:Int):norm (.int i)=.t (.int i):=rfl
theorem vA (i:PySem.Str):norm (.str i)=.t (.str i):=rfl
theorem vv (i:PySem.Str):norm (.exc i)=.t (.exc i):=rfl
theorem vx (ts:List T):norm (.lst ts)=.vt (.lst ts):=rfl
theorem xY (a b:Int):norm (.tup [.int a,.int b])=.t (.tup [.int a,.int b]):=rfl
theorem vz (a b c:Int):norm (.tup [.int a,.int b,.int c])=.t (.tup [.int a,.int b,.int c]):=rfl
theorem xZ (a b c d:Int):norm (.tup [.tup [.int a,.int b],.tup [.int c,.int d]])=.t (.tup [.tup [.int a,.int b],.tup [.int c,.int d]]):=rfl
theorem AU:setS i (.t x) δ=δ.set i (some (.t x)):=rfl
theorem AT (ts:List T):setS i (.ol ts) δ=δ.set i (some (.ol ts)):=rfl
theorem AV:setS i (.vt x) δ=(freeze δ).set i (some (.t x)):=rfl
theorem xv:seen (.t x)=.t x:=rfl
theorem xw:seen (.vt x)=.vt x:=rfl
theorem xu (ts:List T):seen (.ol ts)=.vt (.lst ts):=rfl
theorem AR:out (.t x)=.t x:=rfl
theorem AS:out (.vt x)=.t x:=rfl
theorem AQ (ts:List T):out (.ol ts)=.ol ts:=rfl
theorem AI:eY (.t x)=.t x:=rfl
theorem AJ:eY (.vt x)=.t x:=rfl
theorem AH (ts:List T):eY (.ol ts)=.t (.lst ts):=rfl
theorem AO:got (.t x)=norm x:=rfl
theorem iz (ts:List T)(h:bx ts=true):got (.ol ts)=.ol ts:=if_pos h
theorem AN:cW (.t x)=.t x:=rfl
theorem AL (ts:List T):cW (.ol ts)=.t (.lst ts):=rfl
theorem DA:freeze []=[]:=rfl
theorem AK (r:az):freeze (none::r)=none::freeze r:=rfl
theorem AM (s:S)(r:az):freeze (some s::r)=some (cW s)::freeze r:=rfl
theorem DC:tr (.t x)=x:=rfl
theorem DD:tr (.vt x)=x:=rfl
theorem DB (ts:List T):tr (.ol ts)=.lst ts:=rfl
def Gs (R:Bool->Prop):S->Prop
 | .t (.bl k)=>R k
 | _=>False
theorem GG (R:Bool->Prop):wB we δ R=we δ (Gs R):=rfl
theorem Ap (R:Bool->Prop)(k:Bool):Gs R (.t (.bl k))=R k:=rfl
theorem zT (R:Bool->Prop):nq t c δ R=t δ fun k=>if k=true then c δ R else R false:=rfl
theorem C4 (R:Bool->Prop):yU t c δ R=t δ fun k=>if k=true then R true else c δ R:=rfl
theorem Ah (R:Bool->Prop):nu t δ R=t δ fun k=>R (!k):=rfl
def Dg (B:Prop)(R:S->Prop):S->Prop
 | .t (.bl k)=>if k=true then B else R (.t (.bl false))
 | _=>False
def Gx (B:Prop)(R:S->Prop):S->Prop
 | .t (.bl k)=>if k=true then R (.t (.bl true)) else B
 | _=>False
def DZ (R:S->Prop):S->Prop
 | .t (.bl k)=>R (.t (.bl (!k)))
 | _=>False
theorem zU:v7 wa wb δ R=wa δ (Dg (wb δ R) R):=rfl
theorem C5:Gc wa wb δ R=wa δ (Gx (wb δ R) R):=rfl
theorem Ai:wf wa δ R=wa δ (DZ R):=rfl
theorem xb (B:Prop)(k:Bool):Dg B R (.t (.bl k))=if k=true then B else R (.t (.bl false)):=rfl
theorem BA (B:Prop)(k:Bool):Gx B R (.t (.bl k))=if k=true then R (.t (.bl true)) else B:=rfl
theorem x4 (k:Bool):DZ R (.t (.bl k))=R (.t (.bl (!k))):=rfl
theorem CS:Ga c wa wb δ R=c δ fun k=>if k=true then wa δ R else wb δ R:=rfl
theorem Fn (f:List S->(S->Prop)->Prop):gQ f ws δ R=ws δ fun ss=>f ss R:=rfl
theorem C2 (R:List S->Prop):aE δ R=R []:=rfl
theorem zX (R:List S->Prop):ag wa ws δ R=wa δ fun x=>ws δ fun xs=>R (x::xs):=rfl
def tupK (R:S->Prop)(ss:List S):Prop:=match fW ss with
 | some ts=>if ts.length<=1000 then R (.t (.tup ts)) else False
 | none=>False
def lstK (R:S->Prop)(ss:List S):Prop:=match fW ss with
 | some ts=>if ts.length<=1000 then R (.ol ts) else False
 | none=>False
theorem Dc:fx ws δ R=ws δ (tupK R):=rfl
theorem C0:oG ws δ R=ws δ (lstK R):=rfl
theorem F6:tupK R [.t x]=R (.t (.tup [x])):=rfl
theorem F7:tupK R [.t x,.t y]=R (.t (.tup [x,y])):=rfl
theorem F8 (z:T):tupK R [.t x,.t y,.t z]=R (.t (.tup [x,y,z])):=rfl
theorem FF:lstK R []=R (.ol []):=rfl
theorem FG:lstK R [.t x]=R (.ol [x]):=rfl
theorem FH:lstK R [.t x,.t y]=R (.ol [x,y]):=rfl
theorem FI (z:T):lstK R [.t x,.t y,.t z]=R (.ol [x,y,z]):=rfl
theorem FJ (z z':T):lstK R [.t x,.t y,.t z,.t z']=R (.ol [x,y,z,z']):=rfl
theorem F9 (z z':T):tupK R [.t x,.t y,.t z,.t z']=R (.t (.tup [x,y,z,z'])):=rfl
theorem zV (sp:aR):bE sp ws δ R=ws δ fun ss=>sp (ss.map eY) fun s=>R (got s):=rfl
theorem Aa (ts:List T):dW [.t (.tup ts)] R=R (.t (.int ts.length)):=rfl
theorem z8 (ts:List T):dW [.t (.lst ts)] R=R (.t (.int ts.length)):=rfl
theorem Ac (ts:List T):dW [.vt (.tup ts)] R=R (.t (.int ts.length)):=rfl
theorem Ab (ts:List T):dW [.vt (.lst ts)] R=R (.t (.int ts.length)):=rfl
theorem z9 (ts:List T):dW [.ol ts] R=R (.t (.int ts.length)):=rfl
theorem CN (i:Int):mn [.t (.int i)] R=R (.t (.int (if i<0 then -i else i))):=rfl
theorem Ad (i j:Int):mo [.t (.int i),.t (.int j)] R=R (.t (.int (if j>i then j else i))):=rfl
theorem Ae (i j:Int):jM [.t (.int i),.t (.int j)] R=R (.t (.int (if j<i then j else i))):=rfl
theorem z7 (i:Int):DH [.t (.int i)] R=R (.t (.int i)):=rfl
theorem z6 (b:Bool):DH [.t (.bl b)] R=R (.t (.int (if b then 1 else 0))):=rfl
theorem wU (ts:List T):dA [.t (.lst ts)] R=R (.ol ts):=rfl
theorem wW (ts:List T):dA [.vt (.lst ts)] R=(bx ts=true/\R (.ol ts)):=rfl
theorem wV (ts:List T):dA [.ol ts] R=R (.ol ts):=rfl
theorem DF (i j:Int):b7 (.t (.int i)) (.t (.int j)) R=R (.t (.bl (decide (i=j)))):=by
 have e:(i == j)=decide (i=j):=by cases h:(i == j) <;> simp_all
 show(bY (.int i)<=20/\bY (.int j)<=20/\R (.t (.bl (i == j))))=_;rw[e];exact propext ⟨fun h=>h.2.2,fun h=>⟨Nat.zero_le _,Nat.zero_le _,h⟩⟩
theorem DX (i j:Int):b8 (.t (.int i)) (.t (.int j)) R=R (.t (.bl (!decide (i=j)))):=by
 have e:(i == j)=decide (i=j):=by cases h:(i == j) <;> simp_all
 show(bY (.int i)<=20/\bY (.int j)<=20/\R (.t (.bl (!(i == j)))))=_;rw[e];exact propext ⟨fun h=>h.2.2,fun h=>⟨Nat.zero_le _,Nat.zero_le _,h⟩⟩
theorem Fp (ty:Ty):wx ty we δ R=we δ fun s=>rh s≠.exc/\R (.t (.bl (ba (rh s) ty))):=rfl
theorem Ce:rh (.t .non)=.non:=rfl
theorem Ez (b:Bool):rh (.t (.bl b))=.bool:=rfl
theorem ty_int (i:Int):rh (.t (.int i))=.int:=rfl
theorem ty_str (i:PySem.Str):rh (.t (.str i))=.str:=rfl
theorem Cf (ts:List T):rh (.t (.tup ts))=.tup:=rfl
theorem yS (ts:List T):rh (.vt (.tup ts))=.tup:=rfl
theorem EA (ts:List T):rh (.t (.lst ts))=.lst:=rfl
theorem EC (ts:List T):rh (.vt (.lst ts))=.lst:=rfl
theorem EB (ts:List T):rh (.ol ts)=.lst:=rfl
theorem CT:Gb wa δ R=wa δ fun s=>R (.t (.bl (DU (tr s)))):=rfl
theorem Ag:EG wa δ R=wa δ fun s=>R (.t (.bl (!DU (tr s)))):=rfl
theorem Bk:(Ty.non≠Ty.exc)=True:=by simp
theorem Bl:(Ty.bool≠Ty.exc)=True:=by simp
theorem Bm:(Ty.int≠Ty.exc)=True:=by simp
theorem Bn:(Ty.str≠Ty.exc)=True:=by simp
theorem Bo:(Ty.tup≠Ty.exc)=True:=by simp
theorem Bp:(Ty.lst≠Ty.exc)=True:=by simp
theorem CP (wi:WI)(g:WG):nr wi g w D δ=wi δ fun ts δ'=>t7 g w ts D δ':=rfl
theorem rO (W:List T->az->Prop):eA we δ W=we δ (jW δ W):=rfl
theorem xQ (W:List T->az->Prop)(ts:List T):jW δ W (.t (.lst ts))=W ts δ:=rfl
theorem xS (W:List T->az->Prop)(ts:List T):jW δ W (.vt (.lst ts))=W ts (freeze δ):=rfl
theorem xR (W:List T->az->Prop)(ts:List T):jW δ W (.ol ts)=W ts δ:=rfl
theorem w8 (W:List T->az->Prop):wk we δ W=we δ (Eu δ W):=rfl
theorem Ew (W:List T->az->Prop)(ts:List T):Eu δ W (.t (.tup ts))=W ts δ:=rfl
theorem Ey (W:List T->az->Prop)(ts:List T):Eu δ W (.vt (.tup ts))=W ts (freeze δ):=rfl
def Eg (δ:az)(W:List T->az->Prop):List S->Prop
 | [.t (.int j)]=>eW j/\W (cR 0 j.toNat) δ
 | _=>False
theorem rP (W:List T->az->Prop):gH ws δ W=ws δ (Eg δ W):=rfl
theorem BW (W:List T->az->Prop)(j:Int):Eg δ W [.t (.int j)]=(eW j/\W (cR 0 j.toNat) δ):=rfl
def zC (δ:az)(W:List T->az->Prop):List S->Prop
 | [.t (.int i),.t (.int j)]=>eW i/\eW j/\W (cR i (j-i).toNat) δ
 | _=>False
theorem rQ (W:List T->az->Prop):Cs ws δ W=ws δ (zC δ W):=rfl
theorem BX (W:List T->az->Prop)(i j:Int):zC δ W [.t (.int i),.t (.int j)]=(eW i/\eW j/\W (cR i (j-i).toNat) δ):=rfl
theorem wR (R:az->Prop):aW i x δ R=R (δ.set i (some (.t x))):=rfl
theorem z5 (g:List T->az->(az->Prop)->Prop)(R:az->Prop)(ts:List T):je g (.tup ts) δ R=g ts δ R:=rfl
theorem z4 (R:az->Prop):gh [] δ R=R δ:=rfl
theorem wQ (g:WG)(gr:List T->az->(az->Prop)->Prop)(R:az->Prop)(r:List T):cj g gr (x::r) δ R=g x δ fun δ1=>gr r δ1 R:=rfl
theorem Dd (g:WG):Cq we g D δ=we δ (yT g δ D.nx):=rfl
theorem Ci (g:WG)(N:az->Prop):yT g δ N (.t x)=g x δ N:=rfl
theorem Cj (g:WG)(N:az->Prop):yT g δ N (.vt x)=g x (freeze δ) N:=rfl
def D8 (i j:Nat)(δ:az)(N:az->Prop):List S->Prop
 | [.t x,.t y]=>N ((δ.set i (some (.t x))).set j (some (.t y)))
 | _=>False
theorem C6:yV i j ws D δ=ws δ (D8 i j δ D.nx):=rfl
theorem BB (N:az->Prop):D8 i j δ N [.t x,.t y]=N ((δ.set i (some (.t x))).set j (some (.t y))):=rfl
theorem w4 (wl wh:az->(Option Int->Prop)->Prop):Cp we wl wh δ R=we δ fun s=>wl δ fun lo=>wh δ fun hi=>vX lo hi R s:=rfl
theorem B0 (lo hi:Option Int)(ts:List T):vX lo hi R (.t (.lst ts))=R (.ol (qo ts lo hi)):=rfl
theorem B4 (lo hi:Option Int)(ts:List T):vX lo hi R (.vt (.lst ts))=(bx ts=true/\R (.ol (qo ts lo hi))):=rfl
theorem B3 (lo hi:Option Int)(ts:List T):vX lo hi R (.ol ts)=R (.ol (qo ts lo hi)):=rfl
theorem An:EJ we D δ=we (freeze δ) fun s=>D.rt (out s):=rfl
theorem CO (a b:S):Fv a b R=nT (fun ts=>nT (fun us=>ts.length+us.length<=100000/\R (.ol (ts++us))) b) a:=rfl
theorem Ax (R:List T->Prop)(ts:List T):nT R (.t (.lst ts))=R ts:=rfl
theorem Az (R:List T->Prop)(ts:List T):nT R (.vt (.lst ts))=(bx ts=true/\R ts):=rfl
theorem Ay (R:List T->Prop)(ts:List T):nT R (.ol ts)=R ts:=rfl
theorem zW (own:Nat)(fr:List Nat)(wi:WI)(g:WG)(te:WE):fY own fr wi g t te δ R=wi δ fun ts δ'=>l9 g t te ts (jn own fr (freeze δ')) fun acc=>R (.ol acc):=rfl
theorem Df (R:Bool->Prop):yW δ R=R true:=rfl
theorem xI (k:T->Prop):mB k (.t x)=(ji x=true/\k x):=rfl
theorem xH (k:T->Prop)(ts:List T):mB k (.ol ts)=(bx ts=true/\k (.lst ts)):=rfl
theorem yy:ji .non=true:=rfl
theorem BN (b:Bool):ji (.bl b)=true:=rfl
theorem yt (b:Int):ji (.int b)=true:=rfl
theorem yB (b:PySem.Str):ji (.str b)=true:=rfl
theorem yC (ts:List T):ji (.tup ts)=bx ts:=rfl
theorem yu (ts:List T):ji (.lst ts)=false:=rfl
theorem vO:bx []=true:=rfl
theorem j5 (ts:List T):bx (x::ts)=(ji x && bx ts):=rfl
theorem wY (R:Option Int->Prop):Co δ R=R none:=rfl
def Eb (R:Option Int->Prop):S->Prop
 | .t (.int i)=>R (some i)
 | _=>False
theorem Aj (R:Option Int->Prop):EH we δ R=we δ (Eb R):=rfl
theorem BJ (R:Option Int->Prop)(i:Int):Eb R (.t (.int i))=R (some i):=rfl
def Dh (i:Nat)(δ:az)(N:az->Prop)(ts:List T):S->Prop
 | .t x=>ts.length<100000/\N (δ.set i (some (.ol (ts++[x]))))
 | _=>False
theorem rK:eK i we D δ=iO i δ fun ts=>we δ (Dh i δ D.nx ts):=rfl
theorem Ao (N:az->Prop)(ts:List T):Dh i δ N ts (.t x)=(ts.length<100000/\N (δ.set i (some (.ol (ts++[x]))))):=rfl
theorem C7:Ge i D δ=iO i δ fun ts=>ts≠[]/\D.nx (δ.set i (some (.ol ts.dropLast))):=rfl
def Ek (i:Nat)(δ:az)(N:az->Prop)(ts:List T):S->S->Prop
 | .t x,.t (.int k)=>match qE ts.length k with
  | some j=>N (δ.set i (some (.ol (ts.set j x))))
  | none=>False
 | _,_=>False
theorem wZ:lN i we wv D δ=iO i δ fun ts=>wv δ fun v=>we δ fun s=>Ek i δ D.nx ts v s:=rfl
end
theorem xf {ts:List T}{i:Int}{R:S->Prop}(h0:0<=i)(h1:i<ts.length)(h:∀ x∈ts,R (.t x)):atT ts i R:=by
 have hl:i.toNat<ts.length:=by omega
 have e:i=((i.toNat:Nat):Int):=by omega
 rw[e,gl (cb (x:=ts[i.toNat]) (by simp[hl]))]
 exact h _ (List.getElem_mem hl)
theorem rR {ns:List Int}{i:Int}{R:S->Prop}(h0:0<=i)(h1:i<ns.length)(h:∀ v∈ns,R (.t (.int v))):atT (ns.map .int) i R:=
 xf h0 (by rw[List.length_map];exact h1) fun x hx=>by
  obtain⟨v,hv,rfl⟩:=List.mem_map.mp hx;exact h v hv
theorem sr {i j:Int}(h:j≠0)(h2:j.natAbs.log2<9000):jB i j:=⟨h,PyProof.noPylong_of_log2 h2⟩
theorem Bj {i j:Int}(h1:-18446744073709551616<i)(h2:i<18446744073709551616):MulOk i j:=⟨wy.ok (.inl ⟨by omega,by omega⟩)⟩
theorem DV {i j:Int}(h1:-18446744073709551616<j)(h2:j<18446744073709551616):MulOk i j:=⟨wy.ok (.inr ⟨by omega,by omega⟩)⟩
theorem kq (i:Int):(if i<0 then -i else i)=(i.natAbs:Int):=by split <;> omega
theorem iH (g l:Nat):(g:Int).fmod (l:Int)=((g % l:Nat):Int):=by
 rw[Int.fmod_eq_emod_of_nonneg _ (Int.natCast_nonneg l)];rfl
theorem fmod_lo (c:Int){n:Int}(h:0<n):0<=c.fmod n:=Int.fmod_nonneg_of_pos c h
theorem fmod_hi (c:Int){n:Int}(h:0<n):c.fmod n<n:=Int.fmod_lt_of_pos c h
end DL
namespace DL
open L2
structure Sz (n:Nat) (i:Int):Prop where
 lt:i.natAbs<2 ^ n
theorem Sz.mono {m n:Nat}{i:Int}(h:Sz m i)(l:m<=n):Sz n i:=⟨Nat.lt_of_lt_of_le h.lt (Nat.pow_le_pow_right (by decide) l)⟩
theorem Sz.mul {m n:Nat}{a b:Int}(ha:Sz m a)(hb:Sz n b):Sz (m+n) (a*b):=by
 have ha:=ha.lt;have hb:=hb.lt;refine⟨?_⟩;rw[Int.natAbs_mul,Nat.pow_add];exact Nat.mul_lt_mul_of_lt_of_le ha (Nat.le_of_lt hb) (Nat.pos_of_ne_zero (by have:=Nat.two_pow_pos n;omega))
theorem pW {m n:Nat}{x y:Nat}(ha:x<2 ^ m)(hb:y<2 ^ n):x+y<2 ^ (max m n+1):=by
 have h1:2 ^ m<=2 ^ max m n:=Nat.pow_le_pow_right (by decide) (Nat.le_max_left _ _)
 have h2:2 ^ n<=2 ^ max m n:=Nat.pow_le_pow_right (by decide) (Nat.le_max_right _ _)
 rw[Nat.pow_succ];omega
theorem Sz.add {m n:Nat}{a b:Int}(ha:Sz m a)(hb:Sz n b):Sz (max m n+1) (a+b):=by
 have:=pW ha.lt hb.lt;refine⟨?_⟩;omega
theorem Sz.sub {m n:Nat}{a b:Int}(ha:Sz m a)(hb:Sz n b):Sz (max m n+1) (a-b):=by
 have:=pW ha.lt hb.lt;refine⟨?_⟩;omega
theorem Sz.neg {m:Nat}{a:Int}(ha:Sz m a):Sz m (-a):=by
 refine⟨?_⟩;rw[Int.natAbs_neg];exact ha.lt
theorem natAbs_fdiv_le (a b:Int):(a.fdiv b).natAbs<=a.natAbs:=by
 cases a with
 | ofNat m=>
  cases b with
  | ofNat n=>
   cases m with
   | zero=>show(0:Int).natAbs<=_;simp
   | succ m=>show(Int.ofNat ((m+1) / n)).natAbs<=m+1;exact Nat.div_le_self (m+1) n
  | negSucc n=>
   cases m with
   | zero=>show(0:Int).natAbs<=_;simp
   | succ m=>
    show(Int.negSucc (m / (n+1))).natAbs<=m+1;have:(Int.negSucc (m / (n+1))).natAbs=m / (n+1)+1:=rfl;rw[this];have:=Nat.div_le_self m (n+1);omega
 | negSucc m=>
  cases b with
  | ofNat n=>
   cases n with
   | zero=>show(0:Int).natAbs<=_;simp
   | succ n=>
    show(Int.negSucc (m / (n+1))).natAbs<=m+1;have:(Int.negSucc (m / (n+1))).natAbs=m / (n+1)+1:=rfl;rw[this];have:=Nat.div_le_self m (n+1);omega
  | negSucc n=>
   show(Int.ofNat ((m+1) / (n+1))).natAbs<=m+1;exact Nat.div_le_self (m+1) (n+1)
theorem Sz.fdiv {m:Nat}{a:Int}(ha:Sz m a)(b:Int):Sz m (a.fdiv b):=⟨Nat.lt_of_le_of_lt (natAbs_fdiv_le a b) ha.lt⟩
theorem Sz.fmod {m:Nat}{b:Int}(hb:Sz m b)(h:0<b)(a:Int):Sz m (a.fmod b):=by
 have h1:=Int.fmod_nonneg_of_pos a h;have h2:=Int.fmod_lt_of_pos a h;have:=hb.lt;exact⟨by omega⟩
theorem Sz.of {m:Nat}{a:Int}(h1:-(2 ^ m:Nat)<a)(h2:a<(2 ^ m:Nat)):Sz m a:=⟨by omega⟩
theorem Sz.gcdL {m:Nat}{a b:Int}(ha:Sz m a)(h:a≠0):Sz m (Int.gcd a b):=by
 have:Int.gcd a b<=a.natAbs:=Nat.le_of_dvd (by omega) (Int.gcd_dvd_natAbs_left a b)
 have:=ha.lt;have e:((Int.gcd a b:Nat):Int).natAbs=Int.gcd a b:=rfl;refine⟨?_⟩;rw[e];omega
theorem Sz.gcd {m n:Nat}{a b:Int}(ha:Sz m a)(hb:Sz n b):Sz (max m n) (Int.gcd a b):=by
 by_cases h:a=0
 ·subst h;have e:Int.gcd 0 b=b.natAbs:=Int.gcd_zero_left b;rw[e];exact Sz.mono (show Sz n (b.natAbs:Int) from⟨hb.lt⟩) (Nat.le_max_right _ _)
 ·exact(Sz.gcdL ha h).mono (Nat.le_max_left _ _)
theorem iu {n:Nat}{a:Int}(h:Sz n a)(hn:n<=1048576):PySem.Builtin.Int.intBits a<=2 ^ 20:=by
 unfold PySem.Builtin.Int.intBits;have e:(2:Nat) ^ 20=1048576:=by decide
 rw[e]
 by_cases h0:a.natAbs=0
 ·simp only[h0];split <;> first|omega|simp
 ·have:=(Nat.log2_lt h0).mpr h.lt
  first
   | omega
   | (simp only[h0];omega)
   | (split <;> omega)
theorem mW {m n:Nat}{a b:Int}(ha:Sz m a)(hb:Sz n b)(h1:m<=1048576)(h2:n<=1048576):MulOk a b:=⟨PySem.IntMulOk.of_bits (iu ha h1) (iu hb h2)⟩
theorem Dt {n:Nat}{i j:Int}(h:j≠0)(hs:Sz n j)(hn:n<=9000):jB i j:=by
 refine sr h ?_;have h0:j.natAbs≠0:=by omega
 have:=(Nat.log2_lt h0).mpr hs.lt;omega
theorem nZ {n:Nat}{i j:Int}(h:j≠0)(hs:Sz n i)(hn:n<=13500):jB i j:=by
 refine⟨h,?_⟩;unfold PySem.Builtin.divisionGoesByPylong;simp only[Bool.and_eq_false_iff,decide_eq_false_iff_not]
 by_cases h1:(if (j == 0)=true then 0 else j.natAbs.log2 / 30+1)>300
 ·right
  by_cases h0:(i == 0)=true
  ·rw[if_pos h0];omega
  ·rw[if_neg h0];have h0':i.natAbs≠0:=by simpa using h0
   have:=(Nat.log2_lt h0').mpr hs.lt;omega
 ·left;exact h1
theorem pP {i:Int}(h1:-(2 ^ 62)<=i)(h2:i<2 ^ 62):eW i:=⟨h1,h2⟩
theorem vK {i j:Int}(h1:0<=j)(h2:j<=1000000)(h3:i.natAbs<2 ^ 64):rG i j:=⟨⟨h1,h2,h3⟩⟩
end DL
namespace DL
open L2
abbrev Fr:=Int × Int
abbrev Pt:=Int × Int
abbrev bZ:=Fr × Fr
abbrev Hf:=Int × Int × Int
def aY (p:Pt):T:=.tup [.int p.1,.int p.2]
def ET (p:Fr):T:=.tup [.int p.1,.int p.2]
def spT (s:bZ):T:=.tup [ET s.1,ET s.2]
def aX (h:Hf):T:=.tup [.int h.1,.int h.2.1,.int h.2.2]
theorem yz (p:Pt):ji (aY p)=true:=rfl
theorem cL {α:Type}{f:α->T}(h:∀ a,ji (f a)=true):∀ l:List α,bx (l.map f)=true
 | []=>rfl
 | a::r=>by rw[List.map_cons,j5,h a,cL h r];rfl
theorem dU {α:Type}{f:α->T}{n:Nat}(h:∀ a,bY (f a)<=n):∀ l:List α,fC (l.map f)<=n
 | []=>Nat.zero_le _
 | a::r=>by
  rw[List.map_cons];have:=dU h r;have:=h a;simp only[fC];omega
theorem iF {α:Type}{f:α->T}(h:∀ a b,eqT (f a) (f b)=true↔a=b):∀ l m:List α,bt (l.map f) (m.map f)=true↔l=m
 | [],[]=>by simp[bt]
 | [],_::_=>by simp[bt]
 | _::_,[]=>by simp[bt]
 | a::r,b::s=>by
  simp only[List.map_cons,bt,Bool.and_eq_true,h a b,iF h r s,List.cons.injEq]
theorem aK (a b:Int):eqT (.int a) (.int b)=true↔a=b:=by simp[eqT]
theorem aL (a b:Pt):eqT (aY a) (aY b)=true↔a=b:=by
 simp only[aY,eqT,bt,Bool.and_eq_true,beq_iff_eq,Bool.and_true,Prod.ext_iff]
theorem aM (a b:bZ):eqT (spT a) (spT b)=true↔a=b:=by
 obtain⟨⟨a1,a2⟩,a3,a4⟩:=a;obtain⟨⟨b1,b2⟩,b3,b4⟩:=b;simp only[spT,ET,eqT,bt,Bool.and_eq_true,beq_iff_eq,Bool.and_true,Prod.mk.injEq]
theorem aJ (a b:Hf):eqT (aX a) (aX b)=true↔a=b:=by
 obtain⟨a1,a2,a3⟩:=a;obtain⟨b1,b2,b3⟩:=b;simp only[aX,eqT,bt,Bool.and_eq_true,beq_iff_eq,Bool.and_true,Prod.mk.injEq]
theorem aH (a:Pt):bY (aY a)<=2:=by show 1<=2;decide
theorem aI (a:bZ):bY (spT a)<=2:=by show 2<=2;decide
theorem aG (a:Hf):bY (aX a)<=2:=by show 1<=2;decide
theorem l6 {b:Bool}{P:Prop}[Decidable P](h:b=true↔P):b=decide P:=by
 cases b with
 | true=>exact(decide_eq_true (h.mp rfl)).symm
 | false=>exact(decide_eq_false fun p=>by cases h.mpr p).symm
section
variable (R:S->Prop)
theorem tD {a b:S}{P:Prop}[Decidable P](h1:bY (tr a)<=20)(h2:bY (tr b)<=20)(h:eqT (tr a) (tr b)=true↔P):b7 a b R=R (.t (.bl (decide P))):=by
 unfold b7 ES;rw[l6 h];exact propext ⟨fun z=>z.2.2,fun z=>⟨h1,h2,z⟩⟩
theorem om {a b:S}{P:Prop}[Decidable P](h1:bY (tr a)<=20)(h2:bY (tr b)<=20)(h:eqT (tr a) (tr b)=true↔P):b8 a b R=R (.t (.bl (!decide P))):=by
 unfold b8 ES;rw[l6 h];exact propext ⟨fun z=>z.2.2,fun z=>⟨h1,h2,z⟩⟩
theorem DG (a b c d:Int):b7 (.t (.tup [.int a,.int b])) (.t (.tup [.int c,.int d])) R=R (.t (.bl (decide (a=c/\b=d)))):=tD R (by show 1<=20;decide) (by show 1<=20;decide) (by simp[tr,eqT,bt])
theorem DY (a b c d:Int):b8 (.t (.tup [.int a,.int b])) (.t (.tup [.int c,.int d])) R=R (.t (.bl (!decide (a=c/\b=d)))):=om R (by show 1<=20;decide) (by show 1<=20;decide) (by simp[tr,eqT,bt])
theorem DE (a b c d e f:Int):b7 (.t (.tup [.int a,.int b,.int c])) (.t (.tup [.int d,.int e,.int f])) R=R (.t (.bl (decide (a=d/\b=e/\c=f)))):=tD R (by show 1<=20;decide) (by show 1<=20;decide) (by simp[tr,eqT,bt])
theorem DW (a b c d e f:Int):b8 (.t (.tup [.int a,.int b,.int c])) (.t (.tup [.int d,.int e,.int f])) R=R (.t (.bl (!decide (a=d/\b=e/\c=f)))):=om R (by show 1<=20;decide) (by show 1<=20;decide) (by simp[tr,eqT,bt])
theorem aj {α:Type}[DecidableEq α]{f:α->T}{a b:S}{l m:List α}(hf:∀ a b,eqT (f a) (f b)=true↔a=b)(hd:∀ a,bY (f a)<=2)(ha:tr a=.lst (l.map f))(hb:tr b=.lst (m.map f)):b7 a b R=R (.t (.bl (decide (l=m)))):=
 tD R (by rw[ha];have:=dU hd l;simp only[bY];omega) (by rw[hb];have:=dU hd m;simp only[bY];omega) (by rw[ha,hb];simp only[eqT];exact iF hf l m)
theorem ak {α:Type}[DecidableEq α]{f:α->T}{a b:S}{l m:List α}(hf:∀ a b,eqT (f a) (f b)=true↔a=b)(hd:∀ a,bY (f a)<=2)(ha:tr a=.lst (l.map f))(hb:tr b=.lst (m.map f)):b8 a b R=R (.t (.bl (!decide (l=m)))):=
 om R (by rw[ha];have:=dU hd l;simp only[bY];omega) (by rw[hb];have:=dU hd m;simp only[bY];omega) (by rw[ha,hb];simp only[eqT];exact iF hf l m)
end
def wq (n:Nat)(h:Hf):Prop:=Sz n h.1/\Sz n h.2.1/\Sz n h.2.2
def SzF (n:Nat)(s:Fr):Prop:=Sz n s.1/\Sz n s.2
theorem kZ:ba .non .non=true:=rfl
theorem jv:ba .non .bool=false:=rfl
theorem kX:ba .non .int=false:=rfl
theorem k7:ba .non .str=false:=rfl
theorem k8:ba .non .tup=false:=rfl
theorem kY:ba .non .lst=false:=rfl
theorem jq:ba .bool .non=false:=rfl
theorem iJ:ba .bool .bool=true:=rfl
theorem jo:ba .bool .int=true:=rfl
theorem jr:ba .bool .str=false:=rfl
theorem js:ba .bool .tup=false:=rfl
theorem jp:ba .bool .lst=false:=rfl
theorem kO:ba .int .non=false:=rfl
theorem jt:ba .int .bool=false:=rfl
theorem kM:ba .int .int=true:=rfl
theorem kP:ba .int .str=false:=rfl
theorem kQ:ba .int .tup=false:=rfl
theorem kN:ba .int .lst=false:=rfl
theorem lg:ba .str .non=false:=rfl
theorem jw:ba .str .bool=false:=rfl
theorem k9:ba .str .int=false:=rfl
theorem lh:ba .str .str=true:=rfl
theorem li:ba .str .tup=false:=rfl
theorem lc:ba .str .lst=false:=rfl
theorem lm:ba .tup .non=false:=rfl
theorem jx:ba .tup .bool=false:=rfl
theorem lj:ba .tup .int=false:=rfl
theorem lp:ba .tup .str=false:=rfl
theorem lq:ba .tup .tup=true:=rfl
theorem ll:ba .tup .lst=false:=rfl
theorem kT:ba .lst .non=false:=rfl
theorem ju:ba .lst .bool=false:=rfl
theorem kR:ba .lst .int=false:=rfl
theorem kU:ba .lst .str=false:=rfl
theorem kW:ba .lst .tup=false:=rfl
theorem kS:ba .lst .lst=true:=rfl
theorem pN (l:List Pt):bx (l.map aY)=true:=cL (fun _=>rfl) l
theorem tK (R:S->Prop)(l m:List Pt):b7 (.t (.lst (l.map aY))) (.t (.lst (m.map aY))) R=R (.t (.bl (decide (l=m)))):=aj R aL aH rfl rfl
theorem u7 (R:S->Prop)(l m:List Pt):b8 (.t (.lst (l.map aY))) (.t (.lst (m.map aY))) R=R (.t (.bl (!decide (l=m)))):=ak R aL aH rfl rfl
theorem tL (R:S->Prop)(l m:List Pt):b7 (.t (.lst (l.map aY))) (.vt (.lst (m.map aY))) R=R (.t (.bl (decide (l=m)))):=aj R aL aH rfl rfl
theorem u9 (R:S->Prop)(l m:List Pt):b8 (.t (.lst (l.map aY))) (.vt (.lst (m.map aY))) R=R (.t (.bl (!decide (l=m)))):=ak R aL aH rfl rfl
theorem tJ (R:S->Prop)(l m:List Pt):b7 (.t (.lst (l.map aY))) (.ol (m.map aY)) R=R (.t (.bl (decide (l=m)))):=aj R aL aH rfl rfl
theorem u6 (R:S->Prop)(l m:List Pt):b8 (.t (.lst (l.map aY))) (.ol (m.map aY)) R=R (.t (.bl (!decide (l=m)))):=ak R aL aH rfl rfl
theorem tO (R:S->Prop)(l m:List Pt):b7 (.vt (.lst (l.map aY))) (.t (.lst (m.map aY))) R=R (.t (.bl (decide (l=m)))):=aj R aL aH rfl rfl
theorem vc (R:S->Prop)(l m:List Pt):b8 (.vt (.lst (l.map aY))) (.t (.lst (m.map aY))) R=R (.t (.bl (!decide (l=m)))):=ak R aL aH rfl rfl
theorem tP (R:S->Prop)(l m:List Pt):b7 (.vt (.lst (l.map aY))) (.vt (.lst (m.map aY))) R=R (.t (.bl (decide (l=m)))):=aj R aL aH rfl rfl
theorem vd (R:S->Prop)(l m:List Pt):b8 (.vt (.lst (l.map aY))) (.vt (.lst (m.map aY))) R=R (.t (.bl (!decide (l=m)))):=ak R aL aH rfl rfl
theorem tN (R:S->Prop)(l m:List Pt):b7 (.vt (.lst (l.map aY))) (.ol (m.map aY)) R=R (.t (.bl (decide (l=m)))):=aj R aL aH rfl rfl
theorem vb (R:S->Prop)(l m:List Pt):b8 (.vt (.lst (l.map aY))) (.ol (m.map aY)) R=R (.t (.bl (!decide (l=m)))):=ak R aL aH rfl rfl
theorem tG (R:S->Prop)(l m:List Pt):b7 (.ol (l.map aY)) (.t (.lst (m.map aY))) R=R (.t (.bl (decide (l=m)))):=aj R aL aH rfl rfl
theorem u0 (R:S->Prop)(l m:List Pt):b8 (.ol (l.map aY)) (.t (.lst (m.map aY))) R=R (.t (.bl (!decide (l=m)))):=ak R aL aH rfl rfl
theorem tH (R:S->Prop)(l m:List Pt):b7 (.ol (l.map aY)) (.vt (.lst (m.map aY))) R=R (.t (.bl (decide (l=m)))):=aj R aL aH rfl rfl
theorem u3 (R:S->Prop)(l m:List Pt):b8 (.ol (l.map aY)) (.vt (.lst (m.map aY))) R=R (.t (.bl (!decide (l=m)))):=ak R aL aH rfl rfl
theorem tF (R:S->Prop)(l m:List Pt):b7 (.ol (l.map aY)) (.ol (m.map aY)) R=R (.t (.bl (decide (l=m)))):=aj R aL aH rfl rfl
theorem uZ (R:S->Prop)(l m:List Pt):b8 (.ol (l.map aY)) (.ol (m.map aY)) R=R (.t (.bl (!decide (l=m)))):=ak R aL aH rfl rfl
theorem tI (R:S->Prop)(l:List Pt):b7 (.t (.lst (l.map aY))) (.ol []) R=R (.t (.bl (decide (l=[])))):=aj (m:=[]) R aL aH rfl rfl
theorem u5 (R:S->Prop)(l:List Pt):b8 (.t (.lst (l.map aY))) (.ol []) R=R (.t (.bl (!decide (l=[])))):=ak (m:=[]) R aL aH rfl rfl
theorem tM (R:S->Prop)(l:List Pt):b7 (.vt (.lst (l.map aY))) (.ol []) R=R (.t (.bl (decide (l=[])))):=aj (m:=[]) R aL aH rfl rfl
theorem va (R:S->Prop)(l:List Pt):b8 (.vt (.lst (l.map aY))) (.ol []) R=R (.t (.bl (!decide (l=[])))):=ak (m:=[]) R aL aH rfl rfl
theorem tE (R:S->Prop)(l:List Pt):b7 (.ol (l.map aY)) (.ol []) R=R (.t (.bl (decide (l=[])))):=aj (m:=[]) R aL aH rfl rfl
theorem uY (R:S->Prop)(l:List Pt):b8 (.ol (l.map aY)) (.ol []) R=R (.t (.bl (!decide (l=[])))):=ak (m:=[]) R aL aH rfl rfl
theorem pM (l:List Hf):bx (l.map aX)=true:=cL (fun _=>rfl) l
theorem sQ (R:S->Prop)(l m:List Hf):b7 (.t (.lst (l.map aX))) (.t (.lst (m.map aX))) R=R (.t (.bl (decide (l=m)))):=aj R aJ aG rfl rfl
theorem uG (R:S->Prop)(l m:List Hf):b8 (.t (.lst (l.map aX))) (.t (.lst (m.map aX))) R=R (.t (.bl (!decide (l=m)))):=ak R aJ aG rfl rfl
theorem sR (R:S->Prop)(l m:List Hf):b7 (.t (.lst (l.map aX))) (.vt (.lst (m.map aX))) R=R (.t (.bl (decide (l=m)))):=aj R aJ aG rfl rfl
theorem uH (R:S->Prop)(l m:List Hf):b8 (.t (.lst (l.map aX))) (.vt (.lst (m.map aX))) R=R (.t (.bl (!decide (l=m)))):=ak R aJ aG rfl rfl
theorem sP (R:S->Prop)(l m:List Hf):b7 (.t (.lst (l.map aX))) (.ol (m.map aX)) R=R (.t (.bl (decide (l=m)))):=aj R aJ aG rfl rfl
theorem uF (R:S->Prop)(l m:List Hf):b8 (.t (.lst (l.map aX))) (.ol (m.map aX)) R=R (.t (.bl (!decide (l=m)))):=ak R aJ aG rfl rfl
theorem sU (R:S->Prop)(l m:List Hf):b7 (.vt (.lst (l.map aX))) (.t (.lst (m.map aX))) R=R (.t (.bl (decide (l=m)))):=aj R aJ aG rfl rfl
theorem uK (R:S->Prop)(l m:List Hf):b8 (.vt (.lst (l.map aX))) (.t (.lst (m.map aX))) R=R (.t (.bl (!decide (l=m)))):=ak R aJ aG rfl rfl
theorem sV (R:S->Prop)(l m:List Hf):b7 (.vt (.lst (l.map aX))) (.vt (.lst (m.map aX))) R=R (.t (.bl (decide (l=m)))):=aj R aJ aG rfl rfl
theorem uL (R:S->Prop)(l m:List Hf):b8 (.vt (.lst (l.map aX))) (.vt (.lst (m.map aX))) R=R (.t (.bl (!decide (l=m)))):=ak R aJ aG rfl rfl
theorem sT (R:S->Prop)(l m:List Hf):b7 (.vt (.lst (l.map aX))) (.ol (m.map aX)) R=R (.t (.bl (decide (l=m)))):=aj R aJ aG rfl rfl
theorem uJ (R:S->Prop)(l m:List Hf):b8 (.vt (.lst (l.map aX))) (.ol (m.map aX)) R=R (.t (.bl (!decide (l=m)))):=ak R aJ aG rfl rfl
theorem sM (R:S->Prop)(l m:List Hf):b7 (.ol (l.map aX)) (.t (.lst (m.map aX))) R=R (.t (.bl (decide (l=m)))):=aj R aJ aG rfl rfl
theorem uC (R:S->Prop)(l m:List Hf):b8 (.ol (l.map aX)) (.t (.lst (m.map aX))) R=R (.t (.bl (!decide (l=m)))):=ak R aJ aG rfl rfl
theorem sN (R:S->Prop)(l m:List Hf):b7 (.ol (l.map aX)) (.vt (.lst (m.map aX))) R=R (.t (.bl (decide (l=m)))):=aj R aJ aG rfl rfl
theorem uD (R:S->Prop)(l m:List Hf):b8 (.ol (l.map aX)) (.vt (.lst (m.map aX))) R=R (.t (.bl (!decide (l=m)))):=ak R aJ aG rfl rfl
theorem sL (R:S->Prop)(l m:List Hf):b7 (.ol (l.map aX)) (.ol (m.map aX)) R=R (.t (.bl (decide (l=m)))):=aj R aJ aG rfl rfl
theorem uB (R:S->Prop)(l m:List Hf):b8 (.ol (l.map aX)) (.ol (m.map aX)) R=R (.t (.bl (!decide (l=m)))):=ak R aJ aG rfl rfl
theorem sO (R:S->Prop)(l:List Hf):b7 (.t (.lst (l.map aX))) (.ol []) R=R (.t (.bl (decide (l=[])))):=aj (m:=[]) R aJ aG rfl rfl
theorem uE (R:S->Prop)(l:List Hf):b8 (.t (.lst (l.map aX))) (.ol []) R=R (.t (.bl (!decide (l=[])))):=ak (m:=[]) R aJ aG rfl rfl
theorem sS (R:S->Prop)(l:List Hf):b7 (.vt (.lst (l.map aX))) (.ol []) R=R (.t (.bl (decide (l=[])))):=aj (m:=[]) R aJ aG rfl rfl
theorem uI (R:S->Prop)(l:List Hf):b8 (.vt (.lst (l.map aX))) (.ol []) R=R (.t (.bl (!decide (l=[])))):=ak (m:=[]) R aJ aG rfl rfl
theorem sK (R:S->Prop)(l:List Hf):b7 (.ol (l.map aX)) (.ol []) R=R (.t (.bl (decide (l=[])))):=aj (m:=[]) R aJ aG rfl rfl
theorem uA (R:S->Prop)(l:List Hf):b8 (.ol (l.map aX)) (.ol []) R=R (.t (.bl (!decide (l=[])))):=ak (m:=[]) R aJ aG rfl rfl
theorem yE (l:List bZ):bx (l.map spT)=true:=cL (fun _=>rfl) l
theorem tW (R:S->Prop)(l m:List bZ):b7 (.t (.lst (l.map spT))) (.t (.lst (m.map spT))) R=R (.t (.bl (decide (l=m)))):=aj R aM aI rfl rfl
theorem vk (R:S->Prop)(l m:List bZ):b8 (.t (.lst (l.map spT))) (.t (.lst (m.map spT))) R=R (.t (.bl (!decide (l=m)))):=ak R aM aI rfl rfl
theorem tX (R:S->Prop)(l m:List bZ):b7 (.t (.lst (l.map spT))) (.vt (.lst (m.map spT))) R=R (.t (.bl (decide (l=m)))):=aj R aM aI rfl rfl
theorem vm (R:S->Prop)(l m:List bZ):b8 (.t (.lst (l.map spT))) (.vt (.lst (m.map spT))) R=R (.t (.bl (!decide (l=m)))):=ak R aM aI rfl rfl
theorem tV (R:S->Prop)(l m:List bZ):b7 (.t (.lst (l.map spT))) (.ol (m.map spT)) R=R (.t (.bl (decide (l=m)))):=aj R aM aI rfl rfl
theorem vj (R:S->Prop)(l m:List bZ):b8 (.t (.lst (l.map spT))) (.ol (m.map spT)) R=R (.t (.bl (!decide (l=m)))):=ak R aM aI rfl rfl
theorem t0 (R:S->Prop)(l m:List bZ):b7 (.vt (.lst (l.map spT))) (.t (.lst (m.map spT))) R=R (.t (.bl (decide (l=m)))):=aj R aM aI rfl rfl
theorem vp (R:S->Prop)(l m:List bZ):b8 (.vt (.lst (l.map spT))) (.t (.lst (m.map spT))) R=R (.t (.bl (!decide (l=m)))):=ak R aM aI rfl rfl
theorem t4 (R:S->Prop)(l m:List bZ):b7 (.vt (.lst (l.map spT))) (.vt (.lst (m.map spT))) R=R (.t (.bl (decide (l=m)))):=aj R aM aI rfl rfl
theorem vq (R:S->Prop)(l m:List bZ):b8 (.vt (.lst (l.map spT))) (.vt (.lst (m.map spT))) R=R (.t (.bl (!decide (l=m)))):=ak R aM aI rfl rfl
theorem tZ (R:S->Prop)(l m:List bZ):b7 (.vt (.lst (l.map spT))) (.ol (m.map spT)) R=R (.t (.bl (decide (l=m)))):=aj R aM aI rfl rfl
theorem vo (R:S->Prop)(l m:List bZ):b8 (.vt (.lst (l.map spT))) (.ol (m.map spT)) R=R (.t (.bl (!decide (l=m)))):=ak R aM aI rfl rfl
theorem tS (R:S->Prop)(l m:List bZ):b7 (.ol (l.map spT)) (.t (.lst (m.map spT))) R=R (.t (.bl (decide (l=m)))):=aj R aM aI rfl rfl
theorem vg (R:S->Prop)(l m:List bZ):b8 (.ol (l.map spT)) (.t (.lst (m.map spT))) R=R (.t (.bl (!decide (l=m)))):=ak R aM aI rfl rfl
theorem tT (R:S->Prop)(l m:List bZ):b7 (.ol (l.map spT)) (.vt (.lst (m.map spT))) R=R (.t (.bl (decide (l=m)))):=aj R aM aI rfl rfl
theorem vh (R:S->Prop)(l m:List bZ):b8 (.ol (l.map spT)) (.vt (.lst (m.map spT))) R=R (.t (.bl (!decide (l=m)))):=ak R aM aI rfl rfl
theorem tR (R:S->Prop)(l m:List bZ):b7 (.ol (l.map spT)) (.ol (m.map spT)) R=R (.t (.bl (decide (l=m)))):=aj R aM aI rfl rfl
theorem vf (R:S->Prop)(l m:List bZ):b8 (.ol (l.map spT)) (.ol (m.map spT)) R=R (.t (.bl (!decide (l=m)))):=ak R aM aI rfl rfl
theorem tU (R:S->Prop)(l:List bZ):b7 (.t (.lst (l.map spT))) (.ol []) R=R (.t (.bl (decide (l=[])))):=aj (m:=[]) R aM aI rfl rfl
theorem vi (R:S->Prop)(l:List bZ):b8 (.t (.lst (l.map spT))) (.ol []) R=R (.t (.bl (!decide (l=[])))):=ak (m:=[]) R aM aI rfl rfl
theorem tY (R:S->Prop)(l:List bZ):b7 (.vt (.lst (l.map spT))) (.ol []) R=R (.t (.bl (decide (l=[])))):=aj (m:=[]) R aM aI rfl rfl
theorem vn (R:S->Prop)(l:List bZ):b8 (.vt (.lst (l.map spT))) (.ol []) R=R (.t (.bl (!decide (l=[])))):=ak (m:=[]) R aM aI rfl rfl
theorem tQ (R:S->Prop)(l:List bZ):b7 (.ol (l.map spT)) (.ol []) R=R (.t (.bl (decide (l=[])))):=aj (m:=[]) R aM aI rfl rfl
theorem ve (R:S->Prop)(l:List bZ):b8 (.ol (l.map spT)) (.ol []) R=R (.t (.bl (!decide (l=[])))):=ak (m:=[]) R aM aI rfl rfl
theorem yD (l:List Int):bx (l.map T.int)=true:=cL (fun _=>rfl) l
theorem tm (R:S->Prop)(l m:List Int):b7 (.t (.lst (l.map T.int))) (.t (.lst (m.map T.int))) R=R (.t (.bl (decide (l=m)))):=aj R aK (fun _=>by show 0<=2;decide) rfl rfl
theorem uS (R:S->Prop)(l m:List Int):b8 (.t (.lst (l.map T.int))) (.t (.lst (m.map T.int))) R=R (.t (.bl (!decide (l=m)))):=ak R aK (fun _=>by show 0<=2;decide) rfl rfl
theorem tq (R:S->Prop)(l m:List Int):b7 (.t (.lst (l.map T.int))) (.vt (.lst (m.map T.int))) R=R (.t (.bl (decide (l=m)))):=aj R aK (fun _=>by show 0<=2;decide) rfl rfl
theorem uT (R:S->Prop)(l m:List Int):b8 (.t (.lst (l.map T.int))) (.vt (.lst (m.map T.int))) R=R (.t (.bl (!decide (l=m)))):=ak R aK (fun _=>by show 0<=2;decide) rfl rfl
theorem tj (R:S->Prop)(l m:List Int):b7 (.t (.lst (l.map T.int))) (.ol (m.map T.int)) R=R (.t (.bl (decide (l=m)))):=aj R aK (fun _=>by show 0<=2;decide) rfl rfl
theorem uR (R:S->Prop)(l m:List Int):b8 (.t (.lst (l.map T.int))) (.ol (m.map T.int)) R=R (.t (.bl (!decide (l=m)))):=ak R aK (fun _=>by show 0<=2;decide) rfl rfl
theorem tx (R:S->Prop)(l m:List Int):b7 (.vt (.lst (l.map T.int))) (.t (.lst (m.map T.int))) R=R (.t (.bl (decide (l=m)))):=aj R aK (fun _=>by show 0<=2;decide) rfl rfl
theorem uW (R:S->Prop)(l m:List Int):b8 (.vt (.lst (l.map T.int))) (.t (.lst (m.map T.int))) R=R (.t (.bl (!decide (l=m)))):=ak R aK (fun _=>by show 0<=2;decide) rfl rfl
theorem tz (R:S->Prop)(l m:List Int):b7 (.vt (.lst (l.map T.int))) (.vt (.lst (m.map T.int))) R=R (.t (.bl (decide (l=m)))):=aj R aK (fun _=>by show 0<=2;decide) rfl rfl
theorem uX (R:S->Prop)(l m:List Int):b8 (.vt (.lst (l.map T.int))) (.vt (.lst (m.map T.int))) R=R (.t (.bl (!decide (l=m)))):=ak R aK (fun _=>by show 0<=2;decide) rfl rfl
theorem tw (R:S->Prop)(l m:List Int):b7 (.vt (.lst (l.map T.int))) (.ol (m.map T.int)) R=R (.t (.bl (decide (l=m)))):=aj R aK (fun _=>by show 0<=2;decide) rfl rfl
theorem uV (R:S->Prop)(l m:List Int):b8 (.vt (.lst (l.map T.int))) (.ol (m.map T.int)) R=R (.t (.bl (!decide (l=m)))):=ak R aK (fun _=>by show 0<=2;decide) rfl rfl
theorem sY (R:S->Prop)(l m:List Int):b7 (.ol (l.map T.int)) (.t (.lst (m.map T.int))) R=R (.t (.bl (decide (l=m)))):=aj R aK (fun _=>by show 0<=2;decide) rfl rfl
theorem uO (R:S->Prop)(l m:List Int):b8 (.ol (l.map T.int)) (.t (.lst (m.map T.int))) R=R (.t (.bl (!decide (l=m)))):=ak R aK (fun _=>by show 0<=2;decide) rfl rfl
theorem sZ (R:S->Prop)(l m:List Int):b7 (.ol (l.map T.int)) (.vt (.lst (m.map T.int))) R=R (.t (.bl (decide (l=m)))):=aj R aK (fun _=>by show 0<=2;decide) rfl rfl
theorem uP (R:S->Prop)(l m:List Int):b8 (.ol (l.map T.int)) (.vt (.lst (m.map T.int))) R=R (.t (.bl (!decide (l=m)))):=ak R aK (fun _=>by show 0<=2;decide) rfl rfl
theorem sX (R:S->Prop)(l m:List Int):b7 (.ol (l.map T.int)) (.ol (m.map T.int)) R=R (.t (.bl (decide (l=m)))):=aj R aK (fun _=>by show 0<=2;decide) rfl rfl
theorem uN (R:S->Prop)(l m:List Int):b8 (.ol (l.map T.int)) (.ol (m.map T.int)) R=R (.t (.bl (!decide (l=m)))):=ak R aK (fun _=>by show 0<=2;decide) rfl rfl
theorem tf (R:S->Prop)(l:List Int):b7 (.t (.lst (l.map T.int))) (.ol []) R=R (.t (.bl (decide (l=[])))):=aj (m:=[]) R aK (fun _=>by show 0<=2;decide) rfl rfl
theorem uQ (R:S->Prop)(l:List Int):b8 (.t (.lst (l.map T.int))) (.ol []) R=R (.t (.bl (!decide (l=[])))):=ak (m:=[]) R aK (fun _=>by show 0<=2;decide) rfl rfl
theorem tu (R:S->Prop)(l:List Int):b7 (.vt (.lst (l.map T.int))) (.ol []) R=R (.t (.bl (decide (l=[])))):=aj (m:=[]) R aK (fun _=>by show 0<=2;decide) rfl rfl
theorem uU (R:S->Prop)(l:List Int):b8 (.vt (.lst (l.map T.int))) (.ol []) R=R (.t (.bl (!decide (l=[])))):=ak (m:=[]) R aK (fun _=>by show 0<=2;decide) rfl rfl
theorem sW (R:S->Prop)(l:List Int):b7 (.ol (l.map T.int)) (.ol []) R=R (.t (.bl (decide (l=[])))):=aj (m:=[]) R aK (fun _=>by show 0<=2;decide) rfl rfl
theorem uM (R:S->Prop)(l:List Int):b8 (.ol (l.map T.int)) (.ol []) R=R (.t (.bl (!decide (l=[])))):=ak (m:=[]) R aK (fun _=>by show 0<=2;decide) rfl rfl
end DL
namespace DL
open PySem L2
section
variable {X:Cx}
variable {o e:Expr}{wo we:WE}{apos cpos:Pos}
section
variable (δ:az) (R:S->Prop) (we wo:WE)
end
end
theorem cU {α:Type}{f h:α->T}{p:α->Bool}{g:WG}{tc:WT}{te:WE}{l:List α}{δ0:az}{R:List T->Prop}(P:az->Prop)(hp:∀ a∈l,ji (h a)=true)(hl:l.length<100000)(h0:P δ0)
  (step:∀ a∈l,∀ δ,P δ->∀ (Y:az->S->Prop) (N:az->Prop),(∀ δ1,P δ1->p a=true->Y δ1 (.t (h a)))->(∀ δ1,P δ1->p a=false->N δ1)->g (f a) δ fun δ1=>tc δ1 fun ok=>if ok=true then te δ1 (fun s=>Y δ1 s) else N δ1)
  (fin:R ((l.filter p).map h)):l9 g tc te (l.map f) δ0 R:=by
 refine⟨fun ts δ acc=>∃ pre post,l=pre++post/\ts=post.map f/\P δ/\acc=(pre.filter p).map h,⟨[],l,rfl,rfl,h0,rfl⟩,?_,?_⟩
 ·rintro δ acc ⟨pre,post,e,e2,_,rfl⟩;have:post=[]:=by simpa using e2.symm
  subst this;rw[List.append_nil]at e;subst e;exact fin
 ·rintro x r δ acc ⟨pre,post,e,e2,hP,rfl⟩
  cases post with
  | nil=>cases e2
  | cons a post=>
   rw[List.map_cons]at e2
   cases e2
   have ha:a∈l:=by rw[e];simp
   have hlen:((pre.filter p).map h).length<100000:=by
    rw[List.length_map];have h1:=List.length_filter_le p pre;have h2:l.length=pre.length+(post.length+1):=by rw[e];simp
    omega
   refine step a ha δ hP _ _ (fun δ1 h1 pa=>⟨hp a ha,hlen,pre++[a],post,by rw[e];simp,rfl,h1,?_⟩) (fun δ1 h1 pa=>⟨pre++[a],post,by rw[e];simp,rfl,h1,?_⟩)
   ·rw[List.filter_append,List.map_append];simp[List.filter,pa]
   ·rw[List.filter_append,List.map_append];simp[List.filter,pa]
theorem sj {α:Type}{f h:α->T}{g:WG}{te:WE}{l:List α}{δ0:az}{R:List T->Prop}(P:az->Prop)(hp:∀ a∈l,ji (h a)=true)(hl:l.length<100000)(h0:P δ0)
  (step:∀ a∈l,∀ δ,P δ->∀ (Y:az->S->Prop),(∀ δ1,P δ1->Y δ1 (.t (h a)))->g (f a) δ fun δ1=>te δ1 (fun s=>Y δ1 s))
  (fin:R (l.map h)):l9 g yW te (l.map f) δ0 R:=by
 refine cU (p:=fun _=>true) P hp hl h0 (fun a ha δ hP Y N h1 h2=>?_) (by rw[List.filter_eq_self.mpr (fun _ _=>rfl)];exact fin)
 show g (f a) δ fun δ1=>if true=true then te δ1 (fun s=>Y δ1 s) else N δ1
 simp only[if_true];exact step a ha δ hP Y fun δ1 q=>h1 δ1 q rfl
theorem mO (lo:Int)(n:Nat):(cR lo n).length=n:=by unfold cR;simp
end DL
namespace PyProof.Rows
open PySem
section
variable {prog:Program}{w:World}{A:Around}{E:Value->Shared->Prop}{s:Shared}
end
end PyProof.Rows
namespace L2
open PySem PyProof.Rows
section
variable {X:Cx}{pos:Pos}
end
end L2
namespace DL
open PySem L2
end DL
namespace DL
open PySem L2 PySem.W
abbrev WX:=(Str->az->Prop)->WS
def jC (K:Frag)(x:Str)(C:Addr):Prop:=nsIn K mainGlobals x=some (some (.ref C))
def Fj (K:Frag)(F:Hp)(EX:Str->az->Prop)(Ex:Addr->St->Hp->Prop):Prop:=∀ x C δ' F' σ' H',ao F F'->Rel K F' H' σ' δ'->jC K x C->EX x δ'->Ex C σ' H'
theorem Fj.mono {K:Frag}{F F1:Hp}{EX:Str->az->Prop}{Ex:Addr->St->Hp->Prop}(h:Fj K F EX Ex)(s:ao F F1):Fj K F1 EX Ex:=fun x C δ' F' σ' H' q=>h x C δ' F' σ' H' (s.trans q)
abbrev rJ:=List S->Str->Prop
def Et (K:Frag)(spx:rJ):Sp:=fun vs H _ E=>∃ ss x,(∀ s∈ss,lV s)/\eV K H H ss vs/\spx ss x/\∀ C H',ao H H'->jC K x C->E (.ref C) none H'
structure wz (P:Program) (w:World) (K:Frag) (mg:Str->Option Value) (base:Heap) (k:Nat) (x:Str) (spx:rJ):Prop where
 ex:∃ (f:Addr) (fd:FuncData) (ps:List Str),mg x=some (.ref f)/\de P w K mg base (Gf P w) k f fd ps (Et K spx)/\Binds K fd ps []/\keepIn K (.ref f)=true
structure Fh (K:Frag) (mg:Str->Option Value) (x:Str):Prop where
 ex:∃ C,jC K x C/\Fc K mg x C
structure Fk (K:Frag) (mg:Str->Option Value) (x y:Str):Prop where
 ex:∃ C S,jC K x C/\mg y=some (.ref S)/\mroIn K C (.ref S)=some true
structure Fi (K:Frag) (mg:Str->Option Value) (x y:Str) (b:Bool):Prop where
 ex:∃ C S,jC K x C/\mg y=some (.ref S)/\nE K C/\kitOne K (.ref C) (.ref S)=some b
structure Fl (K:Frag) (x:Str):Prop where
 ex:∃ C,jC K x C/\nE K C/\kitOne K (.ref C) (.type "ValueError")=some true
theorem cT.len {K:Frag}{H F' H':Hp}:∀ {ss:List S}{vs:List V},cT K H F' H' ss vs->vs.length=ss.length
 | [],_,h=>by cases (show _=[] from h);rfl
 | _::_,_,⟨v,r,h1,_,h3⟩=>by subst h1;rw[List.length_cons,List.length_cons,cT.len h3]
section
variable {X:Cx}{H₀:Hp}{Ex:Addr->St->Hp->Prop}{st:Stmt}{rest:List Stmt}{w a b:WX}{pos:Pos}
section
variable {k:Nat}{f:Str}{spx:rJ}{p:Pos}{e:Expr}{es:List Expr}{wa:WA} (C:wz X.prog X.w X.K X.mg X.base k f spx) (hr:bg k X.A) (hx:wH X Ex) (ha:PA X (e::es) (bS X.K wa))
include C hr hx ha
end
end
section
variable {P:Program}{wd:World}{K:Frag}{mg:Str->Option Value}{base:Heap}
end
def FC (x y:Str):Bool:=x == y || y == "SpotError"
section
variable {X:Cx}
structure GF (mg:Str->Option Value) (y:Str):Prop where
 ex:∃ S,mg y=some (.ref S)
inductive zO (mg:Str->Option Value):List Str->List Addr->Prop
 | nil:zO mg [] []
 | cons {y:Str}{S:Addr}{ys:List Str}{Ss:List Addr} (h:mg y=some (.ref S)) (r:zO mg ys Ss):zO mg (y::ys) (S::Ss)
variable {e:Expr}{we:WE}{pos p p2:Pos}
end
structure CM (K:Frag) (mg:Str->Option Value) (rs ys:List Str):Prop where
 cls:∀ y∈ys,Fh K mg y
 sub:∀ x∈rs,Fk K mg x "SpotError"
 isa:∀ x∈rs,∀ y∈ys,Fi K mg x y (FC x y)
 val:∀ x∈rs,Fl K x
theorem CM.at {K:Frag}{mg:Str->Option Value}{rs ys:List Str}(e:CM K mg rs ys){y:Str}(h:y∈ys):GF mg y:=by
 obtain⟨C,_,o⟩:=(e.cls y h).ex;exact⟨C,o.bound⟩
end DL
namespace L2
open PySem PyProof.Rows
section
variable {X:Cx}
end
end L2
namespace DL
open PySem L2
def zo:List T->Option (List Int)
 | []=>some []
 | .int i::r=>match zo r with
  | some l=>some (i::l)
  | none=>none
 | _::_=>none
section
variable {X:Cx}{e:Expr}{wa:WA}{pos p:Pos}
end
def jE (le:Int->Int->Prop)(R:S->Prop)(ts:List T):Prop:=match zo ts with
 | some l=>l≠[]/\∀ m∈l,(∀ x∈l,le x m)->R (.t (.int m))
 | none=>False
def t5 (le:Int->Int->Prop):List S->(S->Prop)->Prop
 | [.t (.lst ts)],R=>jE le R ts
 | [.vt (.lst ts)],R=>jE le R ts
 | [.ol ts],R=>jE le R ts
 | _,_=>False
section
variable {X:Cx}{e:Expr}{wa:WA}{pos p:Pos}
end
theorem wJ (le:Int->Int->Prop)(ts:List T)(R:S->Prop):t5 le [.t (.lst ts)] R=jE le R ts:=rfl
theorem wL (le:Int->Int->Prop)(ts:List T)(R:S->Prop):t5 le [.vt (.lst ts)] R=jE le R ts:=rfl
theorem wK (le:Int->Int->Prop)(ts:List T)(R:S->Prop):t5 le [.ol ts] R=jE le R ts:=rfl
def gI (g:WG)(tc:WT)(te:WE):List T->az->List T->(List T->Prop)->Prop
 | [],_,acc,R=>R acc
 | x::r,δ,acc,R=>g x δ fun δ1=>tc δ1 fun ok=>if ok=true then te δ1 fun s=>mB (fun y=>acc.length<100000/\gI g tc te r δ1 (acc++[y]) R) s else gI g tc te r δ1 acc R
theorem si {g:WG}{tc:WT}{te:WE}{ts:List T}{δ:az}{R:List T->Prop}(h:gI g tc te ts δ [] R):l9 g tc te ts δ R:=⟨fun ts δ acc=>gI g tc te ts δ acc R,h,fun _ _ h=>h,fun _ _ _ _ h=>h⟩
theorem wO (g:WG)(tc:WT)(te:WE)(δ:az)(acc:List T)(R:List T->Prop):gI g tc te [] δ acc R=R acc:=rfl
theorem wN (g:WG)(tc:WT)(te:WE)(x:T)(r:List T)(δ:az)(acc:List T)(R:List T->Prop):gI g tc te (x::r) δ acc R=g x δ fun δ1=>tc δ1 fun ok=>if ok=true then te δ1 fun s=>mB (fun y=>acc.length<100000/\gI g tc te r δ1 (acc++[y]) R) s else gI g tc te r δ1 acc R:=rfl
end DL
namespace L2
open PySem PySem.Spec PyProof.Rows
section
variable {X:Cx}{pins:List (Addr × Obj)}{σ:St}{H:Hp}{s:Shared}
end
structure E4 (z TI TO i1 i2:Addr):Prop where
 TIz:TI≠z
 TOz:TO≠z
 i1z:i1≠z
 i2z:i2≠z
 TITO:TI≠TO
 TIi1:TI≠i1
 TIi2:TI≠i2
 TOi1:TO≠i1
 TOi2:TO≠i2
 i12:i1≠i2
section
variable {X:Cx}{elts:List Expr}{x1:Nat}{tp:Pos}
end
end L2
namespace DL
open PySem L2
section
variable {X:Cx}{e e2:Expr}{we:WE}{wa:WA}{p pos tp:Pos}{elts:List Expr}{x1:Nat}
end
section
variable {X:Cx}{e:Expr}{wa:WA}{pos p:Pos}
end
section
variable {X:Cx}{e:Expr}{we:WE}{lo hi:Option Expr}{wl wh:az->(Option Int->Prop)->Prop}{pos p2:Pos}
end
end DL
namespace ST
open PySem PySem.SetTable
def line (mask:Nat):Nat->Nat->Nat->List Nat
 | 0,_,_=>[]
 | n+1,i,p=>(List.range (runEnd mask i+1-i)).map (i + ·)++line mask n (leap mask i p).1 (leap mask i p).2
def rem (mask N:Nat)(p:Probe):List Nat:=
 (List.range (p.more+1)).map (p.j + ·)++line mask N (leap mask p.i p.perturb).1 (leap mask p.i p.perturb).2
def way (mask:Nat)(h:Int):List Nat:=line mask (mask+14) (bits h % (mask+1)) (bits h)
theorem gE (mask i:Nat):i<=runEnd mask i:=by unfold runEnd;split <;> omega
theorem qX (mask i:Nat):runEnd mask i<=i+9:=by unfold runEnd;split <;> omega
theorem dX (mask:Nat):∀ n i p,(line mask n i p).length<=10*n
 | 0,_,_=>by simp[line]
 | n+1,i,p=>by
  have h1:=dX mask n (leap mask i p).1 (leap mask i p).2;have h2:=qX mask i;simp only[line,List.length_append,List.length_map,List.length_range];omega
theorem qW (t:SetTable)(h:Int)(N:Nat):rem t.mask N (t.probeStart h)=line t.mask (N+1) (bits h % (t.mask+1)) (bits h):=by
 have h1:=gE t.mask (bits h % (t.mask+1));unfold rem probeStart;simp only[line];rw[show runEnd t.mask (bits h % (t.mask+1))-bits h % (t.mask+1)+1=runEnd t.mask (bits h % (t.mask+1))+1-bits h % (t.mask+1) by omega]
theorem pO (t:SetTable)(h:Int):rem t.mask (t.mask+13) (t.probeStart h)=way t.mask h:=qW t h _
theorem iW (m j:Nat):(List.range (m+1+1)).map (j + ·)=j::(List.range (m+1)).map (j+1 + ·):=by
 rw[List.range_succ_eq_map,List.map_cons,List.map_map]
 congr 1
 exact List.map_congr_left fun a _=>by simp only[Function.comp];omega
theorem vV {t:SetTable}{N:Nat}{p:Probe}(h:0<p.more):rem t.mask N p=p.j::rem t.mask N (t.advance p):=by
 obtain⟨j,more,i,per,d⟩:=p
 cases more with
 | zero=>simp at h
 | succ m=>
  simp only[rem,advance,Nat.succ_pos,if_true,gt_iff_lt,Nat.zero_lt_succ];rw[iW]
  rfl
theorem vU {t:SetTable}{N:Nat}{p:Probe}(h:p.more=0):rem t.mask (N+1) p=p.j::rem t.mask N (t.advance p):=by
 obtain⟨j,more,i,per,d⟩:=p;simp only at h;subst h;have h1:=gE t.mask (leap t.mask i per).1;simp only[rem,advance,line,gt_iff_lt,Nat.lt_irrefl,if_false];rw[show runEnd t.mask (leap t.mask i per).1-(leap t.mask i per).1+1=runEnd t.mask (leap t.mask i per).1+1-(leap t.mask i per).1 by omega]
 simp
theorem eX {t:SetTable}{p:Probe}:(t.advance p).dummy=p.dummy:=by
 unfold advance;split <;> rfl
theorem xB {t:SetTable}{hashAt:Nat->Int}{h:Int}(nd:∀ j,t.slot j≠.dummy):∀ (fuel N:Nat) (p:Probe),(rem t.mask N p).length<=fuel->p.dummy=none →
  (∃ j∈rem t.mask N p,t.slot j=.empty) →
  ∃ pre j post,rem t.mask N p=pre++j::post/\(∀ x∈pre,∃ i,t.slot x=.live i/\hashAt i≠h) ∧
   (
    (t.slot j=.empty/\probe.go t hashAt h fuel p=some (.empty j none)) ∨
    (∃ i N' p',t.slot j=.live i/\hashAt i=h/\probe.go t hashAt h fuel p=some (.candidate j i p')/\rem t.mask N' p'=post/\p'.dummy=none)):=by
 intro fuel
 induction fuel with
 | zero=>
  intro N p hl _ ⟨j,hj,_⟩;have:=List.length_pos_of_mem hj;omega
 | succ fuel ih=>
  intro N p hl hd ⟨j,hj,hje⟩;have key:(∃ N',rem t.mask N p=p.j::rem t.mask N' (t.advance p))\/rem t.mask N p=[p.j]:=by
   rcases Nat.eq_zero_or_pos p.more with h0|h0
   ·cases N with
    | zero=>right;simp[rem,h0,line]
    | succ N=>left;exact⟨N,vU h0⟩
   ·left;exact⟨N,vV h0⟩
  cases hs:t.slot p.j with
  | dummy=>exact absurd hs (nd _)
  | empty=>
   have hgo:probe.go t hashAt h (fuel+1) p=some (.empty p.j none):=by
    simp only[probe.go,hs,hd]
   rcases key with ⟨N',e⟩|e
   ·exact⟨[],p.j,_,e,by simp,.inl ⟨hs,hgo⟩⟩
   ·exact⟨[],p.j,[],e,by simp,.inl ⟨hs,hgo⟩⟩
  | live i=>
   rcases key with ⟨N',e⟩|e
   ·by_cases hh:hashAt i=h
    ·refine⟨[],p.j,_,e,by simp,.inr ⟨i,N',t.advance p,hs,hh,?_,rfl,eX.trans hd⟩⟩
     simp only[probe.go,hs,hh,beq_self_eq_true,if_true]
    ·have hgo:probe.go t hashAt h (fuel+1) p=probe.go t hashAt h fuel (t.advance p):=by
      simp only[probe.go,hs];rw[if_neg (by simpa using hh)]
     rw[e]at hj hl;have hj':j∈rem t.mask N' (t.advance p):=by
      rcases List.mem_cons.mp hj with rfl|hj
      ·rw[hje]at hs;exact nomatch hs
      ·exact hj
     simp only[List.length_cons]at hl;obtain⟨pre,j',post,e',hpre,hh'⟩:=ih N' (t.advance p) (by omega) (eX.trans hd) ⟨j,hj',hje⟩
     refine⟨p.j::pre,j',post,by rw[e,e'];rfl,?_,by rw[hgo];exact hh'⟩
     intro x hx
     rcases List.mem_cons.mp hx with rfl|hx
     ·exact⟨i,hs,hh⟩
     ·exact hpre x hx
   ·rw[e]at hj;obtain rfl:=List.mem_singleton.mp hj;rw[hje]at hs;exact nomatch hs
def FK (mask:Nat):Nat->Nat->Nat->Nat
 | 0,_,acc=>acc
 | n+1,i,acc=>FK mask n ((i*5+1) % (mask+1)) (acc ||| (1 <<< i))
theorem xV (mask i:Nat):i∈(List.range (runEnd mask i+1-i)).map (i + ·):=
 List.mem_map.mpr ⟨0,List.mem_range.mpr (by have:=gE mask i;omega),by omega⟩
theorem pH (mask j:Nat):∀ n i acc,(FK mask n i acc).testBit j=true->acc.testBit j=true\/j∈line mask n i 0
 | 0,i,acc,h=>.inl h
 | n+1,i,acc,h=>by
  rcases pH mask j n _ _ h with h|h
  ·rw[Nat.testBit_or,Bool.or_eq_true]at h
   rcases h with h|h
   ·exact .inl h
   ·right
    have:j=i:=by
     rw[Nat.one_shiftLeft,Nat.testBit_two_pow]at h;simpa using (of_decide_eq_true h).symm
    subst this;exact List.mem_append_left _ (xV mask j)
  ·right
   exact List.mem_append_right _ (by simpa [leap] using h)
def x6 (mask:Nat):Prop:=mask=7\/mask=31\/mask=127
theorem yf {mask:Nat}(ok:x6 mask):∀ i,i<mask+1->FK mask (mask+1) i 0=2 ^ (mask+1)-1:=by
 rcases ok with rfl|rfl|rfl <;> decide +kernel
theorem qJ {mask i j:Nat}(ok:x6 mask)(hi:i<mask+1)(hj:j<mask+1):j∈line mask (mask+1) i 0:=by
 rcases pH mask j (mask+1) i 0 (by rw[yf ok i hi,Nat.testBit_two_pow_sub_one];simpa using hj) with h|h
 ·simp at h
 ·exact h
theorem jU {mask n j:Nat}(hz:∀ i,i<mask+1->j∈line mask n i 0):∀ k i p,i<mask+1->p<32 ^ k->j∈line mask (k+n) i p
 | 0,i,p,hi,hp=>by
  have:p=0:=by simpa using hp
  subst this;rw[Nat.zero_add];exact hz i hi
 | k+1,i,p,hi,hp=>by
  rw[Nat.add_right_comm];refine List.mem_append_right _ (jU hz k _ _ (Nat.mod_lt _ (Nat.succ_pos _)) ?_);show p / 32<32 ^ k;rw[Nat.div_lt_iff_lt_mul (by decide)]
  rwa [Nat.pow_succ]at hp
theorem xh (h:Int):bits h<2 ^ 64:=by
 unfold bits;have h1:h % (2 ^ 64:Int)<2 ^ 64:=Int.emod_lt_of_pos _ (by decide)
 have h2:0<=h % (2 ^ 64:Int):=Int.emod_nonneg _ (by decide)
 omega
theorem pZ {mask j:Nat}{h:Int}(ok:x6 mask)(hj:j<=mask):j∈way mask h:=by
 unfold way;rw[show mask+14=13+(mask+1) by omega]
 exact jU (fun i hi=>qJ ok hi (by omega)) 13 _ _ (Nat.mod_lt _ (Nat.succ_pos _)) (Nat.lt_of_lt_of_le (xh h) (by decide))
theorem pE {mask x:Nat}:∀ n i p,i<=mask->x∈line mask n i p->x<=mask
 | 0,_,_,_,h=>by simp[line]at h
 | n+1,i,p,hi,h=>by
  rcases List.mem_append.mp h with h|h
  ·obtain⟨k,hk,rfl⟩:=List.mem_map.mp h;have hk:=List.mem_range.mp hk;unfold runEnd at hk
   split at hk <;> omega
  ·exact pE n _ _ (Nat.le_of_lt_succ (Nat.mod_lt _ (Nat.succ_pos _))) h
theorem oQ {mask x:Nat}{h:Int}(hx:x∈way mask h):x<=mask:=pE _ _ _ (Nat.le_of_lt_succ (Nat.mod_lt _ (Nat.succ_pos _))) hx
theorem rV {xs:Array Nat}{j:Nat}(ris:xs.toList.Pairwise (· < ·)):∀ fuel lo hi,hi-lo<=fuel->lo<=hi->hi<=xs.size →
  (∀ m (h:m<xs.size),m<lo->xs[m]<j)->(∀ m (h:m<xs.size),hi<=m->¬ xs[m]<j) →
  below.go xs j fuel lo hi<=xs.size/\∀ m (h:m<xs.size),m<below.go xs j fuel lo hi↔xs[m]<j:=by
 intro fuel;have mono:∀ a b (ha:a<xs.size) (hb:b<xs.size),a<b->xs[a]<xs[b]:=fun a b ha hb hab=>by
  have:=List.pairwise_iff_getElem.mp ris a b (by simpa using ha) (by simpa using hb) hab
  simpa using this
 induction fuel with
 | zero=>
  intro lo hi hf hl hs h1 h2;have:lo=hi:=by omega
  subst this;refine⟨hs,fun m h=>⟨h1 m h,fun hm=>?_⟩⟩
  rcases Nat.lt_or_ge m lo with hh|hh
  ·exact hh
  ·exact absurd hm (h2 m h hh)
 | succ fuel ih=>
  intro lo hi hf hl hs h1 h2;simp only[below.go]
  by_cases hlt:lo<hi
  ·rw[if_pos hlt];have hm:(lo+hi) / 2<xs.size:=by omega
   have hg:xs.getD ((lo+hi) / 2) j=xs[(lo+hi) / 2]:=by simp[Array.getD,hm]
   rw[hg]
   by_cases hc:xs[(lo+hi) / 2]<j
   ·rw[if_pos hc];refine ih _ _ (by omega) (by omega) hs (fun m h hm'=>?_) h2
    rcases Nat.lt_or_ge m ((lo+hi) / 2) with hh|hh
    ·exact Nat.lt_trans (mono m _ h hm hh) hc
    ·have:m=(lo+hi) / 2:=by omega
     subst this;exact hc
   ·rw[if_neg hc];refine ih _ _ (by omega) (by omega) (by omega) h1 (fun m h hm'=>?_)
    rcases Nat.lt_or_ge ((lo+hi) / 2) m with hh|hh
    ·exact fun hx=>hc (Nat.lt_trans (mono _ m hm h hh) hx)
    ·have:m=(lo+hi) / 2:=by omega
     subst this;exact hc
  ·rw[if_neg hlt];have:lo=hi:=by omega
   subst this;refine⟨hs,fun m h=>⟨h1 m h,fun hm=>?_⟩⟩
   rcases Nat.lt_or_ge m lo with hh|hh
   ·exact hh
   ·exact absurd hm (h2 m h hh)
theorem fA {xs:Array Nat}(j:Nat)(ris:xs.toList.Pairwise (· < ·)) :
  below xs j<=xs.size/\∀ m (h:m<xs.size),m<below xs j↔xs[m]<j:=
 rV ris _ _ _ (by omega) (by omega) (Nat.le_refl _) (fun m _ h=>by omega) (fun m h h'=>by omega)
theorem below_at {xs:Array Nat}(ris:xs.toList.Pairwise (· < ·))(i:Nat)(hi:i<xs.size):below xs xs[i]=i:=by
 obtain⟨h1,h2⟩:=fA xs[i] ris;have mono:∀ a b (ha:a<xs.size) (hb:b<xs.size),a<b->xs[a]<xs[b]:=fun a b ha hb hab=>by
  have:=List.pairwise_iff_getElem.mp ris a b (by simpa using ha) (by simpa using hb) hab
  simpa using this
 rcases Nat.lt_trichotomy (below xs xs[i]) i with h|h|h
 ·have:=(h2 (below xs xs[i]) (by omega)).mpr (mono _ _ (by omega) hi h)
  omega
 ·exact h
 ·have:=(h2 i hi).mp h;omega
theorem pp (j:Nat):has #[] j=false:=by
 unfold has;simp
theorem rb {t:SetTable}(ris:t.place.toList.Pairwise (· < ·))(i:Nat)(hi:i<t.place.size):t.slot t.place[i]=.live i:=by
 unfold slot;simp only[below_at ris i hi];simp[hi]
theorem slot_of {t:SetTable}(ris:t.place.toList.Pairwise (· < ·))(nd:t.dummies=#[])(j:Nat) :
  (t.slot j=.empty/\j∉t.place.toList)\/∃ i,∃ hi:i<t.place.size,t.slot j=.live i/\t.place[i]=j:=by
 by_cases hj:j∈t.place.toList
 ·right
  obtain⟨i,hi,e⟩:=List.getElem_of_mem hj;have hi':i<t.place.size:=by simpa using hi
  have e':t.place[i]=j:=by simpa using e
  exact⟨i,hi',by rw[<-e'];exact rb ris i hi',e'⟩
 ·left
  refine⟨?_,hj⟩;unfold slot;have hne:(t.place[below t.place j]? == some j)=false:=by
   rw[beq_eq_false_iff_ne];intro e;obtain⟨hb,e⟩:=Array.getElem?_eq_some_iff.mp e;exact hj (by rw[<-e];simp)
  simp only[hne,nd,pp];simp
end ST
namespace ST
open PySem PySem.SetTable
structure Tab (t:SetTable) (es:Array (Int × Value)) (ps:List (Nat × (Int × Value))):Prop where
 pl:t.place.toList=ps.map (·.1)
 en:es.toList=ps.map (·.2)
 ris:(ps.map (·.1)).Pairwise (· < ·)
 top:∀ q∈ps,q.1<=t.mask
 dum:t.dummies=#[]
 ok:x6 t.mask
 reach:∀ q∈ps,∃ pre post,way t.mask q.2.1=pre++q.1::post/\∀ x∈pre,x∈ps.map (·.1)
def bg (mask n:Nat):Prop:=(mask=7/\n<=4)\/(mask=31/\n<=18)\/(mask=127/\n<=76)
namespace Tab
variable {t:SetTable}{es:Array (Int × Value)}{ps:List (Nat × (Int × Value))}
theorem psz (T:Tab t es ps):t.place.size=ps.length:=by rw[<-Array.length_toList,T.pl,List.length_map]
theorem esz (T:Tab t es ps):es.size=ps.length:=by rw[<-Array.length_toList,T.en,List.length_map]
theorem ris' (T:Tab t es ps):t.place.toList.Pairwise (· < ·):=by rw[T.pl];exact T.ris
theorem fits (T:Tab t es ps)(r:ps.length<=t.mask):t.fits es.size=true:=by
 simp only[SetTable.fits,SetTable.fill,T.dum,T.psz,T.esz];simpa using r
theorem put (T:Tab t es ps){j:Nat}{e:Int × Value}(hj:j<=t.mask)(hn:j∉ps.map (·.1))
  (hr:∃ pre post,way t.mask e.1=pre++j::post/\∀ x∈pre,x∈ps.map (·.1)) :
  Tab (t.put j).1 (insertAt es (t.put j).2 e) (ps.take (t.put j).2++(j,e)::ps.drop (t.put j).2):=by
 have hmem:∀ x,x∈ps.map (·.1)->x∈(ps.take (t.put j).2++(j,e)::ps.drop (t.put j).2).map (·.1):=fun x hx=>by
  obtain⟨q,hq,rfl⟩:=List.mem_map.mp hx;refine List.mem_map.mpr ⟨q,?_,rfl⟩;rw[<-List.take_append_drop (t.put j).2 ps]at hq
  rcases List.mem_append.mp hq with h|h
  ·exact List.mem_append_left _ h
  ·exact List.mem_append_right _ (List.mem_cons_of_mem _ h)
 have hmem':∀ q,q∈ps.take (t.put j).2++(j,e)::ps.drop (t.put j).2->q=(j,e)\/q∈ps:=fun q hq=>by
  rcases List.mem_append.mp hq with h|h
  ·exact .inr (List.mem_of_mem_take h)
  ·rcases List.mem_cons.mp h with h|h
   ·exact .inl h
   ·exact .inr (List.mem_of_mem_drop h)
 have hb:=fA j T.ris';have hp:(t.put j).2=below t.place j:=rfl;have hm:(t.put j).1.mask=t.mask:=rfl;have hg:∀ m (h:m<(ps.map (·.1)).length),(ps.map (·.1))[m]=t.place[m]'(by rw[T.psz];simpa using h):=fun m h=>by
  have:=T.pl;simp only[<-this];simp
 refine⟨?_,?_,?_,?_,?_,?_,?_⟩
 ·show(insertAt t.place (below t.place j) j).toList=_;rw[toList_insertAt,T.pl,List.map_append,List.map_cons,List.map_take,List.map_drop,hp]
 ·rw[toList_insertAt,T.en,List.map_append,List.map_cons,List.map_take,List.map_drop]
 ·rw[List.map_append,List.map_cons,List.map_take,List.map_drop,hp];rw[List.pairwise_append,List.pairwise_cons];have low:∀ a∈(ps.map (·.1)).take (below t.place j),a<j:=fun a ha=>by
   obtain⟨m,hm,rfl⟩:=List.getElem_of_mem ha;rw[List.length_take]at hm;rw[List.getElem_take,hg];exact(hb.2 m _).mp (by omega)
  have high:∀ a∈(ps.map (·.1)).drop (below t.place j),j<a:=fun a ha=>by
   have hin:=List.mem_of_mem_drop ha;obtain⟨m,hm,rfl⟩:=List.getElem_of_mem ha;rw[List.length_drop]at hm;rw[List.getElem_drop]at hin ⊢;have h1:¬ (ps.map (·.1))[below t.place j+m]<j:=by
    rw[hg];exact fun h=>by have:=(hb.2 _ _).mpr h;omega
   have h2:(ps.map (·.1))[below t.place j+m]≠j:=fun h=>hn (h ▸ hin);omega
  refine⟨T.ris.sublist (List.take_sublist _ _),⟨high,T.ris.sublist (List.drop_sublist _ _)⟩,fun a ha b hb'=>?_⟩
  rcases List.mem_cons.mp hb' with rfl|hb'
  ·exact low a ha
  ·exact Nat.lt_trans (low a ha) (high b hb')
 ·intro q hq
  rcases hmem' q hq with rfl|h
  ·exact hj
  ·exact T.top q h
 ·show(if has t.dummies j=true then _ else t.dummies)=#[]
  rw[T.dum,pp];rfl
 ·exact T.ok
 ·intro q hq
  rcases hmem' q hq with rfl|h
  ·obtain⟨pre,post,e1,h1⟩:=hr;exact⟨pre,post,e1,fun x hx=>hmem x (h1 x hx)⟩
  ·obtain⟨pre,post,e1,h1⟩:=T.reach q h;exact⟨pre,post,e1,fun x hx=>hmem x (h1 x hx)⟩
end Tab
theorem jV (mask:Nat):∀ n i p,∃ r,line mask (n+1) i p=line mask n i p++r
 | 0,i,p=>⟨line mask 1 i p,rfl⟩
 | n+1,i,p=>by
  obtain⟨r,e⟩:=jV mask n (leap mask i p).1 (leap mask i p).2;refine⟨r,?_⟩;show _++line mask (n+1) _ _=(_++line mask n _ _)++r;rw[e,List.append_assoc]
theorem free_eq (mask:Nat)(owner:Array (Option Nat)):∀ fuel i p,layClean.free mask owner fuel i p=(line mask fuel i p).find? (fun j=>(owner.getD j (some 0)).isNone)
 | 0,i,p=>rfl
 | fuel+1,i,p=>by
  simp only[layClean.free,line,List.find?_append,List.find?_map];have e:(fun k=>(owner.getD (i+k) (some 0)).isNone)=((fun j=>(owner.getD j (some 0)).isNone) ∘ fun x=>i+x):=rfl;rw[e]
  cases hf:List.find? ((fun j=>(owner.getD j (some 0)).isNone) ∘ fun x=>i+x) (List.range (runEnd mask i+1-i)) with
  | some k=>rfl
  | none=>
   simp only[Option.map_none,Option.none_or];exact free_eq mask owner fuel _ _
theorem ng:∀ (l:List (Option Nat)) (j k:Nat),l[j]?=some none->List.Perm ((l.set j (some k)).filterMap id) (k::l.filterMap id)
 | [],j,k,h=>by simp at h
 | a::l,0,k,h=>by
  simp only[List.getElem?_cons_zero,Option.some.injEq]at h;subst h;simp
 | a::l,j+1,k,h=>by
  simp only[List.getElem?_cons_succ]at h;have ih:=ng l j k h
  cases a with
  | none=>simpa using ih
  | some b=>
   simp only[List.set_cons_succ,List.filterMap_cons,id];exact(List.Perm.cons b ih).trans (List.Perm.swap k b _)
theorem lU:∀ l:List (Option Nat),(∀ x∈l,x.isSome=true)->(l.filterMap id).length=l.length
 | [],_=>rfl
 | none::l,h=>by have:=h none List.mem_cons_self;simp at this
 | some a::l,h=>by
  simp only[List.filterMap_cons,id,List.length_cons];rw[lU l fun x hx=>h x (List.mem_cons_of_mem _ hx)]
structure Own (mask:Nat) (hs:List Int) (owner:Array (Option Nat)):Prop where
 sz:owner.size=mask+1
 pm:List.Perm (owner.toList.filterMap id) (List.range hs.length)
 rc:∀ j k,owner[j]?=some (some k)->∃ h,hs[k]?=some h/\∃ pre post,way mask h=pre++j::post/\∀ x∈pre,∃ k',owner[x]?=some (some k')
theorem Own.step {mask:Nat}{hs:List Int}{owner:Array (Option Nat)}(O:Own mask hs owner)(ok:x6 mask)(hl:hs.length<mask+1)(h:Int) :
  ∃ j,layClean.free mask owner (turns mask) (bits h % (mask+1)) (bits h)=some j/\Own mask (hs++[h]) (owner.setIfInBounds j (some hs.length)):=by
 have hex:∃ j,j<mask+1/\owner[j]?=some none:=by
  apply Classical.byContradiction;intro hc;have hall:∀ x∈owner.toList,x.isSome=true:=fun x hx=>by
   obtain⟨m,hm,rfl⟩:=List.getElem_of_mem hx;have hm':m<owner.size:=by simpa using hm
   cases hx:owner[m] with
   | some v=>simp[hx]
   | none=>exact absurd ⟨m,by rw[<-O.sz];exact hm',by rw[Array.getElem?_eq_getElem hm',hx]⟩ hc
  have h1:=lU _ hall;have h2:=O.pm.length_eq;rw[List.length_range]at h2;have h3:owner.toList.length=mask+1:=by simpa using O.sz
  have h4:=h1.symm.trans h2;rw[h3]at h4;omega
 obtain⟨j0,hj0,e0⟩:=hex;have hgd:∀ x,x<mask+1->owner.getD x (some 0)=owner[x]?.getD (some 0):=fun x hx=>by
  rw[Array.getD_eq_getD_getElem?]
 have hsome:((way mask h).find? (fun j=>(owner.getD j (some 0)).isNone)).isSome=true:=by
  rw[List.find?_isSome];exact⟨j0,pZ ok (by omega),by rw[hgd j0 hj0,e0];rfl⟩
 obtain⟨j,hj⟩:=Option.isSome_iff_exists.mp hsome;have hfree:layClean.free mask owner (turns mask) (bits h % (mask+1)) (bits h)=some j:=by
  rw[free_eq];obtain⟨r,e⟩:=jV mask (mask+14) (bits h % (mask+1)) (bits h);show(line mask (mask+14+1) _ _).find? _=_;rw[e,List.find?_append];show Option.or ((way mask h).find? _) _=_;rw[hj];rfl
 obtain⟨hjn,pre,post,ew,hpre⟩:=List.find?_eq_some_iff_append.mp hj;have hjm:j<mask+1:=Nat.lt_succ_of_le (oQ (h:=h) (by rw[ew];simp))
 have hjo:owner[j]?=some none:=by
  have hjs:j<owner.size:=by rw[O.sz];exact hjm
  have:=hjn;rw[hgd j hjm,Array.getElem?_eq_getElem hjs]at this;rw[Array.getElem?_eq_getElem hjs];simpa using this
 have hjs:j<owner.size:=by rw[O.sz];exact hjm
 have hset:∀ x,(owner.setIfInBounds j (some hs.length))[x]?=if j=x then some (some hs.length) else owner[x]?:=fun x=>by
  rw[Array.getElem?_setIfInBounds]
  split
  ·rename_i e;subst e;simp[hjs]
  ·rfl
 have hkeep:∀ (x k':Nat),owner[x]?=some (some k')->∃ k'',(owner.setIfInBounds j (some hs.length))[x]?=some (some k''):=fun x k' e=>by
  rw[hset]
  split
  ·exact⟨_,rfl⟩
  ·exact⟨k',e⟩
 refine⟨j,hfree,⟨by simpa using O.sz,?_,?_⟩⟩
 ·rw[Array.toList_setIfInBounds];refine(ng _ _ _ (by simpa using hjo)).trans ?_
  rw[List.length_append,List.length_singleton,List.range_succ];exact(List.Perm.cons _ O.pm).trans (List.perm_append_singleton _ _).symm
 ·intro j' k' e;rw[hset]at e
  split at e
  ·rename_i ej;subst ej;obtain rfl:hs.length=k':=by simpa using e
   refine⟨h,by simp,pre,post,ew,fun x hx=>?_⟩
   have hx1:=hpre x hx;have hxm:x<mask+1:=Nat.lt_succ_of_le (oQ (h:=h) (by rw[ew];exact List.mem_append_left _ hx))
   have hxs:x<owner.size:=by rw[O.sz];exact hxm
   rw[hgd x hxm,Array.getElem?_eq_getElem hxs]at hx1
   cases ho:owner[x] with
   | none=>simp[ho]at hx1
   | some v=>exact hkeep x v (by rw[Array.getElem?_eq_getElem hxs,ho])
  ·obtain⟨h',eh,pre',post',ew',hp'⟩:=O.rc j' k' e;refine⟨h',?_,pre',post',ew',fun x hx=>?_⟩
   ·rw[List.getElem?_append_left (by
     rcases Nat.lt_or_ge k' hs.length with hh|hh
     ·exact hh
     ·rw[List.getElem?_eq_none hh]at eh;simp at eh)]
    exact eh
   ·obtain⟨v,hv⟩:=hp' x hx;exact hkeep x v hv
theorem m8 {mask:Nat}(ok:x6 mask):∀ (l hs:List Int) (owner:Array (Option Nat)),Own mask hs owner->hs.length+l.length<=mask+1 →
  ∃ owner',l.foldl (init:=some (owner,hs.length)) (fun acc h=>do
   let (owner,k) ← acc
   let j ← layClean.free mask owner (turns mask) (bits h % (mask+1)) (bits h)
   pure (owner.setIfInBounds j (some k),k+1))=some (owner',(hs++l).length)/\Own mask (hs++l) owner'
 | [],hs,owner,O,_=>⟨owner,by simp,by simpa using O⟩
 | h::l,hs,owner,O,hl=>by
  simp only[List.length_cons]at hl;obtain⟨j,hj,O'⟩:=O.step ok (by omega) h
  obtain⟨owner',e,O''⟩:=m8 ok l (hs++[h]) _ O' (by simp;omega)
  refine⟨owner',?_,by simpa using O''⟩
  rw[List.foldl_cons];simp only[Option.bind_eq_bind,Option.bind_some,hj,Option.pure_def]at e ⊢;rw[List.append_assoc]at e;simp only[List.length_append,List.length_singleton,List.singleton_append]at e ⊢;exact e
theorem mG {mask:Nat}(ok:x6 mask)(hashes:Array Int)(hl:hashes.size<=mask+1) :
  ∃ owner,layClean mask hashes=some owner/\Own mask hashes.toList owner:=by
 have O:Own mask [] (Array.replicate (mask+1) none):=⟨by simp,by simp,fun j k e=>by
  rw[Array.getElem?_replicate]at e
  split at e <;> simp at e⟩
 obtain⟨owner,e,O'⟩:=m8 ok hashes.toList [] _ O (by simpa using hl)
 refine⟨owner,?_,by simpa using O'⟩
 unfold layClean;rw[<-Array.foldl_toList];simp only[List.length_nil]at e;rw[e];rfl
theorem mP (f:Nat->Option Nat):∀ l:List Nat,(l.filterMap fun j=>(f j).map (j,·)).map (·.1)=l.filter fun j=>(f j).isSome
 | []=>rfl
 | a::l=>by
  have ih:=mP f l
  cases h:f a <;> simp[h]at ih ⊢ <;> exact ih
theorem mQ (f:Nat->Option Nat):∀ l:List Nat,(l.filterMap fun j=>(f j).map (j,·)).map (·.2)=l.filterMap f
 | []=>rfl
 | a::l=>by
  have ih:=mQ f l
  cases h:f a <;> simp[h]at ih ⊢ <;> exact ih
theorem mt {α β:Type}{f g:α->Option β}:∀ l:List α,(∀ x∈l,f x=g x)->l.filterMap f=l.filterMap g
 | [],_=>rfl
 | a::l,h=>by
  rw[List.filterMap_cons,List.filterMap_cons,h a List.mem_cons_self,mt l fun x hx=>h x (List.mem_cons_of_mem _ hx)]
theorem range_getD (o:Array (Option Nat)):(List.range o.size).filterMap (fun j=>o.getD j none)=o.toList.filterMap id:=by
 have e:=filterMap_getElem?_range o;rw[<-e,List.filterMap_filterMap];refine mt _ fun x hx=>?_;have hx:=List.mem_range.mp hx;simp[Array.getD,hx]
theorem xN {mask finger moves:Nat}{led plain:Bool}(ok:x6 mask)(es:Array (Int × Value))(hl:es.size<=mask+1) :
  ∃ t order ps,laid mask finger moves led plain (es.map (·.1))=some (t,order)/\Tab t (order.filterMap (es[·]?)) ps/\t.mask=mask/\t.led=led/\t.plain=plain ∧
   List.Perm (order.filterMap (es[·]?)).toList es.toList:=by
 obtain⟨owner,e,O⟩:=mG ok (es.map (·.1)) (by simpa using hl)
 have hlen:((es.map (·.1)).toList).length=es.size:=by simp
 have hrc:∀ j k,owner[j]?=some (some k)->∃ q:k<es.size,∃ pre post,way mask es[k].1=pre++j::post/\∀ x∈pre,∃ k',owner[x]?=some (some k'):=fun j k ho=>by
  obtain⟨h,eh,r⟩:=O.rc j k ho;have hk:k<es.size:=by
   rcases Nat.lt_or_ge k es.size with hh|hh
   ·exact hh
   ·rw[List.getElem?_eq_none (by simpa using hh)]at eh;simp at eh
  refine⟨hk,?_⟩;have:h=es[k].1:=by simpa [hk] using eh.symm
  rw[<-this];exact r
 let live:=(List.range (mask+1)).filterMap fun j=>(owner.getD j none).map (j,·)
 have hlive:∀ q∈live,q.1<mask+1/\owner[q.1]?=some (some q.2):=fun q hq=>by
  obtain⟨j,hj,e⟩:=List.mem_filterMap.mp hq;have hj:=List.mem_range.mp hj;have hjs:j<owner.size:=by rw[O.sz];exact hj
  cases ho:owner[j] with
  | none=>simp[Array.getD,hjs,ho]at e
  | some k=>
   have:q=(j,k):=by simpa [Array.getD,hjs,ho] using e.symm
   subst this;exact⟨hj,by rw[Array.getElem?_eq_getElem hjs,ho]⟩
 have hfst:live.map (·.1)=(List.range (mask+1)).filter fun j=>(owner.getD j none).isSome:=mP _ _;have hsnd:live.map (·.2)=owner.toList.filterMap id:=by
  rw[<-range_getD,O.sz];exact mQ _ _
 have hperm:List.Perm (live.map (·.2)) (List.range es.size):=by rw[hsnd,<-hlen];exact O.pm
 have hpm:List.Perm ((live.map (·.2)).filterMap (es[·]?)) es.toList:=by
  have:=hperm.filterMap (es[·]?)
  rwa [filterMap_getElem?_range]at this
 let d:Int × Value:=(0,.none)
 have hmapEq:(live.map (·.2)).filterMap (es[·]?)=live.map (fun q=>es.getD q.2 d):=by
  rw[List.filterMap_map];have:∀ (l:List (Nat × Nat)),(∀ q∈l,q.2<es.size)->l.filterMap ((es[·]?) ∘ (·.2))=l.map (fun q=>es.getD q.2 d):=by
   intro l
   induction l with
   | nil=>intro _;rfl
   | cons a l ih=>
    intro h;have ha:=h a List.mem_cons_self;rw[List.filterMap_cons_some (b:=es.getD a.2 d) (by simp[Array.getD,ha]),ih fun q hq=>h q (List.mem_cons_of_mem _ hq)]
    rfl
  exact this live fun q hq=>(hrc q.1 q.2 (hlive q hq).2).1
 refine⟨_,_,live.map (fun q=>(q.1,es.getD q.2 d)),by unfold laid;rw[e];rfl,?_,rfl,rfl,rfl,?_⟩
 ·have hin:∀ x k,owner[x]?=some (some k)->x∈(live.map (fun q=>(q.1,es.getD q.2 d))).map (·.1):=fun x k ho=>by
   have hxs:x<owner.size:=by
    rcases Nat.lt_or_ge x owner.size with hh|hh
    ·exact hh
    ·rw[Array.getElem?_eq_none hh]at ho;simp at ho
   rw[List.map_map];show x∈live.map (·.1);rw[hfst,List.mem_filter];refine⟨List.mem_range.mpr (by rw[<-O.sz];exact hxs),?_⟩
   rw[Array.getElem?_eq_getElem hxs]at ho;simp[Array.getD,hxs,Option.some.inj ho]
  refine⟨?_,?_,?_,?_,rfl,ok,?_⟩
  ·show(live.map (·.1))=_;rw[List.map_map];rfl
  ·rw[Array.toList_filterMap];show(live.map (·.2)).filterMap _=_;rw[hmapEq,List.map_map];rfl
  ·rw[List.map_map];show(live.map (·.1)).Pairwise _;rw[hfst];exact List.pairwise_lt_range.sublist List.filter_sublist
  ·intro q hq;obtain⟨q',hq',rfl⟩:=List.mem_map.mp hq;exact Nat.le_of_lt_succ (hlive q' hq').1
  ·intro q hq;obtain⟨q',hq',rfl⟩:=List.mem_map.mp hq;obtain⟨hk,pre,post,ew,hp⟩:=hrc q'.1 q'.2 (hlive q' hq').2;refine⟨pre,post,?_,fun x hx=>?_⟩
   ·show way mask (es.getD q'.2 d).1=_;simp only[Array.getD,hk,dif_pos];exact ew
   ·obtain⟨k',hk'⟩:=hp x hx;exact hin x k' hk'
 ·rw[Array.toList_filterMap];exact hpm
end ST
namespace ST
open PySem PySem.SetTable
abbrev ik (prog:Program)(w:World):=intKind prog w
structure Holds (prog:Program) (w:World) (h:Heap) (es:Array (Int × Value)) (ms:List (Addr × List Int)):Prop where
 pm:List.Perm es.toList (ms.map fun m=>(tupleKeyHash (ik prog w) m.2,Value.ref m.1))
 key:∀ m∈ms,IsTupleKey (ik prog w) h m.2 m.1
 nd:(ms.map (·.2)).Nodup
theorem nk {j k:Nat}:∀ {pre pre' post post':List Nat},pre++j::post=pre'++k::post'->k∈pre\/j=k\/j∈pre'
 | [],[],_,_,e=>by simp at e;exact .inr (.inl e.1)
 | [],a::pre',_,_,e=>by simp at e;exact .inr (.inr (by rw[e.1];exact List.mem_cons_self))
 | a::pre,[],_,_,e=>by simp at e;exact .inl (by rw[e.1];exact List.mem_cons_self)
 | a::pre,b::pre',_,_,e=>by
  simp only[List.cons_append,List.cons.injEq]at e
  rcases nk e.2 with h|h|h
  ·exact .inl (List.mem_cons_of_mem _ h)
  ·exact .inr (.inl h)
  ·exact .inr (.inr (List.mem_cons_of_mem _ h))
section
variable {prog:Program}{w:World}{A:Around}{E:Value->Shared->Prop}{s:Shared}
theorem gR {ks:List Int}{b:Addr}{Q:Bool->Shared->Prop}(n:Nat)(hk:IsTupleKey (ik prog w) s.heap ks b)(h:Q false s) :
  wpAny (model prog w) A (ofAClassStatement (n+1) (.ref b)) Q E s:=by
 have hT:=hk.typeIs;obtain⟨o,items,m,ho,_,hd,hi⟩:=hk;unfold ofAClassStatement;refine wpAny_bind (wpAny_typeOf hT ?_);dsimp only;rw[if_pos (by decide)]
 refine wpAny_bind (wpAny_pure ?_);simp only[Bool.not_true,Bool.false_eq_true,if_false];refine wpAny_bind (wpAny_seqItems ho hd ?_);dsimp only;refine wpAny_bind ?_;rw[<-Array.forIn_toList];refine wpAny_forIn_list _ (fun rest r s'=>r.1=none/\s'=s/\∀ v∈rest,carriedByValue v=true) _ ?_ ?_ _ _ ⟨rfl,rfl,hi.byValue⟩
 ·rintro v rest r s' ⟨hr,rfl,hall⟩;have hv:=hall v List.mem_cons_self;have e:ofAClassStatement n v=pure false:=by
   cases v with
   | ref a=>simp[carriedByValue]at hv
   | _=>unfold ofAClassStatement;rfl
  rw[e];refine wpAny_bind (wpAny_pure ?_);simp only[Bool.false_eq_true,if_false];exact wpAny_pure ⟨rfl,rfl,fun u hu'=>hall u (List.mem_cons_of_mem _ hu')⟩
 ·rintro⟨r1,r2⟩ s' ⟨hr,rfl,_⟩;simp only at hr;subst hr;exact wpAny_pure h
theorem jf {ks:List Int}{b:Addr}{l:List Value}{Q:Bool->Shared->Prop}(hk:IsTupleKey (ik prog w) s.heap ks b)
  (hl:∀ v∈l,∃ c ks',v=.ref c/\IsTupleKey (ik prog w) s.heap ks' c) (h:Q false s) :
  wpAny (model prog w) A (searchCouldBeSeen (.ref b) l) Q E s:=by
 unfold searchCouldBeSeen;refine wpAny_bind ?_;refine wpAny_forIn_list _ (fun rest r s'=>r.1=none/\s'=s/\∀ v∈rest,∃ c ks',v=.ref c/\IsTupleKey (ik prog w) s.heap ks' c) _ ?_ ?_ _ _ ⟨rfl,rfl,hl⟩
 ·rintro v rest r s' ⟨hr,rfl,hall⟩;obtain⟨c,ks',rfl,hc⟩:=hall v List.mem_cons_self;have htl:∀ v∈rest,∃ c ks',v=.ref c/\IsTupleKey (ik prog w) s'.heap ks' c:=fun u hu'=>hall u (List.mem_cons_of_mem _ hu');dsimp only;refine wpAny_ite_split (fun _=>wpAny_pure ⟨rfl,rfl,htl⟩) (fun _=>?_);refine wpAny_bind (wpAny_eqIsQuiet_tuple hk ?_);simp only[Bool.not_true,Bool.false_eq_true,if_false];refine wpAny_bind (wpAny_eqIsQuiet_tuple hc ?_);simp only[Bool.not_true,Bool.false_eq_true,if_false];refine wpAny_bind (gR 7 hk ?_);simp only[Bool.false_eq_true,if_false];refine wpAny_bind (gR 7 hc ?_);simp only[Bool.false_eq_true,if_false];exact wpAny_pure ⟨rfl,rfl,htl⟩
 ·rintro⟨r1,r2⟩ s' ⟨hr,rfl,_⟩;simp only at hr;subst hr;exact wpAny_pure h
theorem jg {ks:List Int}{b:Addr}{Q:Bool->Shared->Prop}(n:Nat)(hk:IsTupleKey (ik prog w) s.heap ks b)(h:Q true s) :
  wpAny (model prog w) A (hashByValue (n+1) (.ref b)) Q E s:=by
 have hT:=hk.typeIs;obtain⟨o,items,m,ho,_,hd,hi⟩:=hk;unfold hashByValue;refine wpAny_bind (wpAny_specialOf hT F.slot_tuple_hash.lookup ?_);dsimp only;refine wpAny_bind (wpAny_seqItems ho hd ?_);simp only[Option.getD_some];refine wpAny_bind ?_;rw[<-Array.forIn_toList];refine wpAny_forIn_list _ (fun rest r s'=>r.1=none/\s'=s/\∃ ks',ItemsAre (ik prog w) ks' rest) _ ?_ ?_ _ _ ⟨rfl,rfl,ks,hi⟩
 ·rintro v rest r s' ⟨hr,rfl,ks',hall⟩
  cases hall with
  | @cons k _ ks'' _ h1 h2=>
   obtain⟨t,rfl⟩:=Value.isInt_shape h1;have e:hashByValue n (.int k t)=pure true:=by unfold hashByValue;rfl
   rw[e];refine wpAny_bind (wpAny_pure ?_);simp only[Bool.not_true,Bool.false_eq_true,if_false];exact wpAny_pure ⟨rfl,rfl,ks'',h2⟩
 ·rintro⟨r1,r2⟩ s' ⟨hr,rfl,_⟩;simp only at hr;subst hr;exact wpAny_pure h
theorem rz {a b:Addr}{o:Obj}{es:Array (Int × Value)}{ep:Nat}{t:SetTable}{ps:List (Nat × (Int × Value))}{ms:List (Addr × List Int)}{ks:List Int}{Q:SetFound->Shared->Prop}
  (hu:A.units<cLine) (ho:s.heap.get? a=some o) (hd:o.data=.set es ep t) (T:Tab t es ps) (hlen:ps.length<=t.mask) (H:Holds prog w s.heap es ms)
  (hk:IsTupleKey (ik prog w) s.heap ks b)
  (hin:ks∈ms.map (·.2)->Q (.there none) s)
  (hout:ks∉ms.map (·.2)->∀ j pre post,way t.mask (tupleKeyHash (ik prog w) ks)=pre++j::post->(∀ x∈pre,x∈ps.map (·.1))->j∉ps.map (·.1)->Q (.free j false) s) :
  ∀ (fuel N:Nat) (p:Probe) (stand:Option Probe) (done:List Nat),stand.getD (t.probeStart (tupleKeyHash (ik prog w) ks))=p->p.dummy=none →
   way t.mask (tupleKeyHash (ik prog w) ks)=done++rem t.mask N p->(rem t.mask N p).length<fuel →
   (∀ x∈done,∃ q∈ps,q.1=x/\∀ c,q.2.2=.ref c->¬ IsTupleKey (ik prog w) s.heap ks c) →
   wpAny (model prog w) A (setSearchFrom a (.ref b) (tupleKeyHash (ik prog w) ks) true fuel stand) Q E s:=by
 have hf:=T.fits hlen;have hnd:∀ j,t.slot j≠.dummy:=fun j=>by
  rcases slot_of T.ris' T.dum j with ⟨e,_⟩|⟨i,_,e,_⟩ <;> rw[e] <;> exact fun h=>nomatch h
 have hmemb:∀ q∈ps,∃ m∈ms,q.2=(tupleKeyHash (ik prog w) m.2,Value.ref m.1):=fun q hq=>by
  have h1:q.2∈es.toList:=by rw[T.en];exact List.mem_map.mpr ⟨q,hq,rfl⟩
  obtain⟨m,hm,e⟩:=List.mem_map.mp (H.pm.mem_iff.mp h1);exact⟨m,hm,e.symm⟩
 have hemp:∃ j,j<=t.mask/\t.slot j=.empty:=by
  apply Classical.byContradiction;intro hc;have hsub:∀ j,j∈List.range (t.mask+1)->j∈ps.map (·.1):=fun j hj=>by
   have hj:=List.mem_range.mp hj
   rcases slot_of T.ris' T.dum j with ⟨e,_⟩|⟨i,hi,_,e⟩
   ·exact absurd ⟨j,by omega,e⟩ hc
   ·rw[<-T.pl,<-e];simp
  have:=List.nodup_range.length_le_of_subset (l₂:=ps.map (·.1)) (fun j hj=>hsub j hj);simp at this;omega
 intro fuel
 induction fuel with
 | zero=>intro N p stand done _ _ _ hl;omega
 | succ fuel ih=>
  intro N p stand done hst hpd hway hl hdone;unfold setSearchFrom;refine wpAny_bind (wpAny_setState_of ho hd hf ?_);dsimp only;rw[if_neg (by rcases T.ok with e|e|e <;> simp[gaveWay,e])]
  obtain⟨j0,hj0,e0⟩:=hemp;have hj0w:j0∈rem t.mask N p:=by
   have h1:=pZ (h:=tupleKeyHash (ik prog w) ks) T.ok hj0;rw[hway]at h1
   rcases List.mem_append.mp h1 with h1|h1
   ·obtain⟨q,hq,e,_⟩:=hdone _ h1
    rcases slot_of T.ris' T.dum j0 with ⟨_,hn⟩|⟨i,hi,e',_⟩
    ·exact absurd (by rw[T.pl,<-e];exact List.mem_map.mpr ⟨q,hq,rfl⟩) hn
    ·rw[e0]at e';exact nomatch e'
   ·exact h1
  have hlen2:(rem t.mask N p).length<=10*turns t.mask:=by
   have h1:=dX t.mask (t.mask+14) (bits (tupleKeyHash (ik prog w) ks) % (t.mask+1)) (bits (tupleKeyHash (ik prog w) ks));have h2:(way t.mask (tupleKeyHash (ik prog w) ks)).length=done.length+(rem t.mask N p).length:=by rw[hway,List.length_append]
   unfold way at h2;unfold turns;omega
  obtain⟨pre,j,post,erem,hpre,hcase⟩:=xB (hashAt:=fun i=>(es[i]?.map (·.1)).getD 0) (h:=tupleKeyHash (ik prog w) ks) hnd (10*turns t.mask) N p hlen2 hpd ⟨j0,hj0w,e0⟩;have hpre':∀ x∈pre,∃ q∈ps,q.1=x/\∀ c,q.2.2=.ref c->¬ IsTupleKey (ik prog w) s.heap ks c:=fun x hx=>by
   obtain⟨i,hs,hne⟩:=hpre x hx
   rcases slot_of T.ris' T.dum x with ⟨e,_⟩|⟨i',hi',e,e'⟩
   ·rw[e]at hs;exact nomatch hs
   ·rw[e]at hs;obtain rfl:i'=i:=by injection hs
    have hi2:i'<ps.length:=by rw[<-T.psz];exact hi'
    have hpe:ps[i'].1=x:=by
     rw[<-e'];have:=T.pl;have h3:t.place.toList[i']?=(ps.map (·.1))[i']?:=by rw[this]
     simpa [hi',hi2] using h3.symm
    refine⟨ps[i'],List.getElem_mem hi2,hpe,fun c hc hkc=>hne ?_⟩;obtain⟨m,hm,em⟩:=hmemb ps[i'] (List.getElem_mem hi2);rw[em]at hc;obtain rfl:m.1=c:=by injection hc
    have hkm:=(H.key m hm).inj hkc;have h4:es[i']?=some ps[i'].2:=by
     have:es.toList[i']?=(ps.map (·.2))[i']?:=by rw[T.en]
     simpa [hi2] using this
    rw[h4,em,hkm];rfl
  generalize hpr:t.probe _ (tupleKeyHash (ik prog w) ks) (stand.getD _)=pr;rw[hst]at hpr
  rcases hcase with ⟨hs,hgo⟩|⟨i,N',p',hs,hh,hgo,erem',hpd'⟩
  ·obtain rfl:pr=some (.empty j none):=hpr.symm.trans hgo;have hjn:j∉ps.map (·.1):=by
    rcases slot_of T.ris' T.dum j with ⟨_,hn⟩|⟨i,hi,e',_⟩
    ·rw[<-T.pl];exact hn
    ·rw[hs]at e';exact nomatch e'
   have hall:∀ x∈done++pre,∃ q∈ps,q.1=x/\∀ c,q.2.2=.ref c->¬ IsTupleKey (ik prog w) s.heap ks c:=fun x hx=>by
    rcases List.mem_append.mp hx with hx|hx
    ·exact hdone x hx
    ·exact hpre' x hx
   have ecut:way t.mask (tupleKeyHash (ik prog w) ks)=(done++pre)++j::post:=by rw[hway,erem,List.append_assoc]
   refine wpAny_pure (hout (fun hin'=>?_) j (done++pre) post ecut (fun x hx=>?_) hjn)
   ·obtain⟨m,hm,ek⟩:=List.mem_map.mp hin';have he:(tupleKeyHash (ik prog w) m.2,Value.ref m.1)∈es.toList:=H.pm.mem_iff.mpr (List.mem_map.mpr ⟨m,hm,rfl⟩);rw[T.en]at he;obtain⟨q,hq,eq⟩:=List.mem_map.mp he;obtain⟨pre',post',ew,hp'⟩:=T.reach q hq;have eq1:q.2.1=tupleKeyHash (ik prog w) ks:=by rw[eq,ek]
    rw[eq1,ecut]at ew
    rcases nk ew with h|h|h
    ·obtain⟨q',hq',e1,h1⟩:=hall _ h;have:q'=q:=by
      have hnd:=T.ris.imp (fun h=>Nat.ne_of_lt h);obtain⟨i1,hi1,rfl⟩:=List.getElem_of_mem hq';obtain⟨i2,hi2,rfl⟩:=List.getElem_of_mem hq;have:i1=i2:=by
       have h5:=List.pairwise_iff_getElem.mp T.ris
       rcases Nat.lt_trichotomy i1 i2 with h6|h6|h6
       ·have:=h5 i1 i2 (by simpa using hi1) (by simpa using hi2) h6
        simp only[List.getElem_map]at this;omega
       ·exact h6
       ·have:=h5 i2 i1 (by simpa using hi2) (by simpa using hi1) h6
        simp only[List.getElem_map]at this;omega
      subst this;rfl
     subst this;exact h1 m.1 (by rw[eq]) (ek ▸ H.key m hm)
    ·exact hjn (h ▸ List.mem_map.mpr ⟨q,hq,rfl⟩)
    ·exact hjn (hp' j h)
   ·obtain⟨q,hq,e,_⟩:=hall x hx;exact List.mem_map.mpr ⟨q,hq,e⟩
  ·obtain rfl:pr=some (.candidate j i p'):=hpr.symm.trans hgo;dsimp only;obtain⟨i',hi',es1,ej⟩:∃ i',∃ hi:i'<t.place.size,t.slot j=.live i'/\t.place[i']=j:=by
    rcases slot_of T.ris' T.dum j with ⟨e,_⟩|r
    ·rw[e]at hs;exact nomatch hs
    ·exact r
   rw[hs]at es1;obtain rfl:i=i':=by injection es1
   have hi2:i<ps.length:=by rw[<-T.psz];exact hi'
   have hpe:ps[i].1=j:=by
    rw[<-ej];have h3:t.place.toList[i]?=(ps.map (·.1))[i]?:=by rw[T.pl]
    simpa [hi',hi2] using h3.symm
   have h4:es[i]?=some ps[i].2:=by
    have:es.toList[i]?=(ps.map (·.2))[i]?:=by rw[T.en]
    simpa [hi2] using this
   obtain⟨m,hm,em⟩:=hmemb ps[i] (List.getElem_mem hi2);rw[em]at h4;have hseen:∀ v∈(es.filter (·.1 == tupleKeyHash (ik prog w) ks)).toList.map (·.2),∃ c ks',v=.ref c/\IsTupleKey (ik prog w) s.heap ks' c:=fun v hv=>by
    obtain⟨e,he,rfl⟩:=List.mem_map.mp hv;have he2:e∈es.toList:=by
     have:=Array.mem_toList_iff.mp he;exact Array.mem_toList_iff.mpr (Array.mem_filter.mp this).1
    obtain⟨m',hm',em'⟩:=List.mem_map.mp (H.pm.mem_iff.mp he2);exact⟨m'.1,m'.2,by rw[<-em'],H.key m' hm'⟩
   refine wpAny_ite_split (fun _=>wpAny_bind (jf hk hseen ?_)) (fun _=>?_)
   all_goals try simp only[Bool.false_eq_true,if_false]
   all_goals rw[h4]
   all_goals dsimp only
   all_goals refine wpAny_bind (wpAny_holding (wpAny_eqBool_tuple hu (H.key m hm) hk ?_))
   all_goals refine wpAny_bind (wpAny_setState_of ho hd hf ?_)
   all_goals by_cases hkk:m.2=ks
   all_goals try (
    rw[decide_eq_true hkk];simp only[Bool.and_self,if_true];exact wpAny_pure (hin (List.mem_map.mpr ⟨m,hm,hkk⟩)))
   all_goals rw[decide_eq_false hkk]
   all_goals simp only[Bool.and_false,Bool.false_eq_true,if_false,sameMemory,beq_self_eq_true,if_true]
   all_goals rw[hs]
   all_goals dsimp only
   all_goals rw[h4]
   all_goals dsimp only
   all_goals refine wpAny_bind (wpAny_isSame_ref_self ?_)
   all_goals simp only[if_true]
   all_goals refine wpAny_bind (wpAny_pure ?_)
   all_goals dsimp only
   all_goals(
    refine ih N' p' (some p') (done++pre++[j]) rfl hpd' (by rw[erem',hway,erem];simp) ?_ ?_
    ·rw[erem'];have:(rem t.mask N p).length=pre.length+(post.length+1):=by rw[erem];simp
     omega
    ·intro x hx
     rcases List.mem_append.mp hx with hx|hx
     ·rcases List.mem_append.mp hx with hx|hx
      ·exact hdone x hx
      ·exact hpre' x hx
     ·obtain rfl:=List.mem_singleton.mp hx;refine⟨ps[i],List.getElem_mem hi2,hpe,fun c hc hkc=>?_⟩;rw[em]at hc;obtain rfl:m.1=c:=by injection hc
      exact hkk ((H.key m hm).inj hkc))
end
end ST
namespace ST
open PySem PySem.SetTable
def b9 (prog:Program)(w:World)(h:Heap)(a:Addr)(ms:List (Addr × List Int)):Prop:=
 ∃ o es ep t ps,h.get? a=some o/\o.ExactSet/\o.data=.set es ep t/\Tab t es ps/\bg t.mask ps.length/\Holds prog w h es ms/\t.plain=true/\t.led=!(w.params.followText "set-order")
theorem bg.le {mask n:Nat}(r:bg mask n):n<=mask:=by
 rcases r with ⟨e,h⟩|⟨e,h⟩|⟨e,h⟩ <;> omega
section
variable {prog:Program}{w:World}{A:Around}{E:Value->Shared->Prop}{s:Shared}
theorem mE {h h':Heap}{a c:Addr}{ks:List Int}{o:Obj}{es:Array (Int × Value)}{ep:Nat}{t:SetTable}(x:IsTupleKey (ik prog w) h ks c)(ho:h.get? a=some o)(hd:o.data=.set es ep t)
  (hs:Heap.SameBut a h h'):IsTupleKey (ik prog w) h' ks c:=by
 obtain⟨o',items,n,ho',hc,hd',hi⟩:=x;have hne:c≠a:=by
  rintro rfl;obtain rfl:o'=o:=Option.some.inj (ho'.symm.trans ho);rw[hd]at hd';exact nomatch hd'
 exact⟨o',items,n,(hs.2 c hne).trans ho',hc,hd',hi⟩
theorem Holds.len {h:Heap}{es:Array (Int × Value)}{ms:List (Addr × List Int)}(H:Holds prog w h es ms):es.size=ms.length:=by
 rw[<-Array.length_toList,H.pm.length_eq,List.length_map]
def df (ms:List (Addr × List Int))(b:Addr)(ks:List Int):List (Addr × List Int):=if ks∈ms.map (·.2) then ms else ms++[(b,ks)]
theorem Ct {a b:Addr}{ks:List Int}{ms:List (Addr × List Int)}{Q:Bool->Shared->Prop}(hu:A.units<cLine)(hS:b9 prog w s.heap a ms)(hk:IsTupleKey (ik prog w) s.heap ks b)(hroom:ms.length<76)
  (h:∀ h' r,Heap.SameBut a s.heap h'->b9 prog w h' a (df ms b ks)->Q r {s with heap:=h'}) :
  wpAny (model prog w) A (setAddHashed a (.ref b) (tupleKeyHash (ik prog w) ks)) Q E s:=by
 obtain⟨o,es,ep,t,ps,ho,hex,hd,T,R,H,hpl,hled⟩:=id hS;have hf:=T.fits R.le;have hlen:ps.length=ms.length:=by rw[<-T.esz,H.len]
 unfold setAddHashed setAddHashedIn;refine wpAny_holding (wpAny_bind (wpAny_setState_of ho hd hf ?_));dsimp only;rw[if_neg (by simp[byScan,Value.scannable])]
 refine wpAny_bind ?_;unfold setSearch;refine rz hu ho hd T R.le H hk (fun hin=>?_) (fun hout j pre post ew hpre hj=>?_) 100000 (t.mask+13) _ none [] rfl rfl (by rw[Option.getD_none,pO,List.nil_append]) ?_ (fun x hx=>absurd hx List.not_mem_nil)
 ·refine wpAny_pure ?_;have e:s={s with heap:=s.heap}:=by cases s;rfl
  rw[e];exact h s.heap false (Heap.SameBut.refl a s.heap) (by unfold df;rw[if_pos hin];exact hS)
 ·dsimp only;refine wpAny_bind (wpAny_setState_of ho hd hf ?_);dsimp only;have hj':j<=t.mask:=oQ (h:=tupleKeyHash (ik prog w) ks) (by rw[ew];simp)
  have T1:=T.put (e:=(tupleKeyHash (ik prog w) ks,Value.ref b)) hj' hj ⟨pre,post,ew,hpre⟩;have hpl1:(t.put j).1.plain=true:=hpl;rw[if_pos hpl1];refine wpAny_bind (jg 7 hk ?_);simp only[if_true];have hn1:ps.length+1<=(t.put j).1.mask:=by
   show ps.length+1<=t.mask
   rcases R with ⟨e,h⟩|⟨e,h⟩|⟨e,h⟩ <;> omega
  generalize hps1:ps.take (t.put j).2++(j,(tupleKeyHash (ik prog w) ks,Value.ref b))::ps.drop (t.put j).2=ps1 at T1;generalize hes1:insertAt es (t.put j).2 (tupleKeyHash (ik prog w) ks,Value.ref b)=es1 at T1 ⊢;have hl1:ps1.length=ps.length+1:=by
   rw[<-hps1];have:=congrArg List.length (List.take_append_drop (t.put j).2 ps);simp only[List.length_append,List.length_cons]at this ⊢;omega
  have hpm1:List.Perm es1.toList (df ms b ks |>.map fun m=>(tupleKeyHash (ik prog w) m.2,Value.ref m.1)):=by
   unfold df;rw[if_neg hout,<-hes1,List.map_append];refine(SetTable.insertAt_perm _ _ _).trans ?_;rw[Array.toList_push];exact H.pm.append_right _
  have hnd1:((df ms b ks).map (·.2)).Nodup:=by
   unfold df;rw[if_neg hout,List.map_append,List.nodup_append];refine⟨H.nd,by simp,fun x hx y hy=>?_⟩
   obtain rfl:y=ks:=by simpa using hy
   exact fun e=>hout (e ▸ hx)
  have hkey1:∀ m∈df ms b ks,IsTupleKey (ik prog w) s.heap m.2 m.1:=by
   unfold df;rw[if_neg hout];intro m hm
   rcases List.mem_append.mp hm with hm|hm
   ·exact H.key m hm
   ·obtain rfl:=List.mem_singleton.mp hm;exact hk
  have hfin1:(t.put j).1.fits es1.size=true:=T1.fits (by rw[hl1];exact hn1)
  have hes1z:es1.size<=sizeLine:=by
   rw[T1.esz,hl1];have:sizeLine=16777216:=sizeLine_eq;have h0:ps.length=ms.length:=hlen;omega
  refine wpAny_bind (wpAny_storeSet_of ho hd ?_ hes1z);have hsb1:=Heap.SameBut.update s.heap a (Obj.putSet es1 (t.put j).1);have hg1:(s.heap.update a (Obj.putSet es1 (t.put j).1)).get? a=some {o with data:=.set es1 (ep+1) (t.put j).1}:=by
   have:=Heap.get?_update_self (Obj.putSet es1 (t.put j).1) ho (by rw[putSet_of es1 (t.put j).1 hd];rfl)
   rw[putSet_of es1 (t.put j).1 hd]at this;exact this
  have hfill:(t.put j).1.fill=ps.length+1:=by
   show(t.put j).1.place.size+(t.put j).1.dummies.size=_;rw[T1.psz,T1.dum,hl1];rfl
  have hmask:(t.put j).1.mask=t.mask:=rfl;refine wpAny_ite_split (fun hfull=>?_) (fun hfull=>?_)
  ·simp only[Bool.not_false,Bool.true_and,tooFull,hfill,hmask,ge_iff_le,decide_eq_true_eq]at hfull;obtain⟨mk,hmk,okm,hroom'⟩:∃ mk,sizeAbove (grown (es.size+1))=mk+1/\x6 mk/\bg mk (ps.length+1):=by
    rw[T.esz]
    rcases R with ⟨e,h⟩|⟨e,h⟩|⟨e,h⟩
    ·have e4:ps.length=4:=by omega
     rw[e4];exact⟨31,by decide,.inr (.inl rfl),.inr (.inl ⟨rfl,by decide⟩)⟩
    ·have e4:ps.length=18:=by omega
     rw[e4];exact⟨127,by decide,.inr (.inr rfl),.inr (.inr ⟨rfl,by decide⟩)⟩
    ·omega
   refine wpAny_bind ?_;unfold setRelay;refine wpAny_bind (wpAny_setState_of hg1 rfl hfin1 ?_);dsimp only;have hm128:mk<=127:=by rcases okm with e|e|e <;> omega
   rw[hmk,if_neg (by rw[sizeLine_eq];omega)]
   obtain⟨t2,order,ps2,el,T2,em2,el2,epl2,hpm2⟩:=xN (finger:=(t.put j).1.finger) (moves:=(t.put j).1.movedTo mk) (led:=(t.put j).1.led) (plain:=(t.put j).1.plain) okm es1 (by rw[T1.esz,hl1];have:=hroom'.le;omega)
   have erl:(t.put j).1.relaid (es1.map (·.1)) (grown (es.size+1))=some (t2,order):=by
    unfold relaid;rw[hmk,Nat.add_sub_cancel];exact el
   rw[erl];generalize hes2:order.filterMap (es1[·]?)=es2 at T2 hpm2;have hsz2:es2.size=es1.size:=by rw[<-Array.length_toList,hpm2.length_eq,Array.length_toList]
   have hl2:ps2.length=ps.length+1:=by rw[<-T2.esz,hsz2,T1.esz,hl1]
   refine wpAny_bind ?_;show wpAny (model prog w) A (if ((order.filterMap (es1[·]?)).size != es1.size)=true then _ else _) _ _ _
   rw[hes2,if_neg (by rw[hsz2];simp)]
   refine wpAny_pure ?_;dsimp only;refine wpAny_storeSet_of (s:={s with heap:=s.heap.update a (Obj.putSet es1 (t.put j).1)}) hg1 rfl ?_ (by rw[hsz2];exact hes1z)
   have hsb2:=hsb1.trans (Heap.SameBut.update (s.heap.update a (Obj.putSet es1 (t.put j).1)) a (Obj.putSet es2 t2));have hg2:((s.heap.update a (Obj.putSet es1 (t.put j).1)).update a (Obj.putSet es2 t2)).get? a=some {o with data:=.set es2 (ep+1+1) t2}:=by
    have:=Heap.get?_update_self (Obj.putSet es2 t2) hg1 (by rw[putSet_of es2 t2 rfl];rfl)
    rw[putSet_of es2 t2 rfl]at this;exact this
   refine wpAny_pure (h _ true hsb2 ⟨_,es2,ep+1+1,t2,ps2,hg2,hex,rfl,T2,by rw[em2,hl2];exact hroom',⟨hpm2.trans hpm1,fun m hm=>mE (hkey1 m hm) ho hd hsb2,hnd1⟩,by rw[epl2];exact hpl,by rw[el2];exact hled⟩)
  ·refine wpAny_pure (h _ true hsb1 ⟨_,es1,ep+1,(t.put j).1,ps1,hg1,hex,rfl,T1,?_,⟨hpm1,fun m hm=>mE (hkey1 m hm) ho hd hsb1,hnd1⟩,hpl,hled⟩);rw[hl1,hmask];simp only[Bool.not_false,Bool.true_and,tooFull,hfill,hmask,ge_iff_le,decide_eq_true_eq]at hfull
   rcases R with ⟨e,h⟩|⟨e,h⟩|⟨e,h⟩
   ·left;omega
   ·right;left;omega
   ·right;right;omega
 ·rw[Option.getD_none,pO];unfold way;have h1:=dX t.mask (t.mask+14) (bits (tupleKeyHash (ik prog w) ks) % (t.mask+1)) (bits (tupleKeyHash (ik prog w) ks))
  rcases T.ok with e|e|e <;> rw[e]at h1 ⊢ <;> omega
end
end ST
set_option maxHeartbeats 3200000
namespace ST
open PySem PySem.SetTable
def met (km:Nat->Addr × List Int)(i:Nat):List (Addr × List Int):=((List.range i).map km).foldl (fun ms m=>df ms m.1 m.2) []
theorem fS (km:Nat->Addr × List Int)(i:Nat):met km (i+1)=df (met km i) (km i).1 (km i).2:=by
 unfold met;rw[List.range_succ,List.map_append,List.foldl_append];rfl
theorem met_len (km:Nat->Addr × List Int):∀ i,(met km i).length<=i
 | 0=>by simp[met]
 | i+1=>by
  have:=met_len km i;rw[fS];unfold df
  split
  ·omega
  ·simp;omega
theorem met_of (km:Nat->Addr × List Int):∀ i m,m∈met km i->∃ k,k<i/\m=km k
 | 0,m,h=>by simp[met]at h
 | i+1,m,h=>by
  rw[fS]at h;unfold df at h
  split at h
  ·obtain⟨k,hk,e⟩:=met_of km i m h;exact⟨k,by omega,e⟩
  ·rcases List.mem_append.mp h with h|h
   ·obtain⟨k,hk,e⟩:=met_of km i m h;exact⟨k,by omega,e⟩
   ·exact⟨i,by omega,by simpa using h⟩
theorem met_has (km:Nat->Addr × List Int):∀ i k,k<i->(km k).2∈(met km i).map (·.2)
 | 0,k,h=>by omega
 | i+1,k,h=>by
  rw[fS];unfold df
  rcases Nat.lt_or_ge k i with hk|hk
  ·have:=met_has km i k hk
   split
   ·exact this
   ·rw[List.map_append];exact List.mem_append_left _ this
  ·have:k=i:=by omega
   subst this
   split
   ·assumption
   ·simp
section
variable {prog:Program}{w:World}{A:Around}{E:Value->Shared->Prop}{s:Shared}
theorem b9.kept {h h':Heap}{a:Addr}{ms:List (Addr × List Int)}(S:b9 prog w h a ms)(ka:∀ o,h.get? a=some o->h'.get? a=some o)
  (km:∀ m∈ms,∀ o,h.get? m.1=some o->h'.get? m.1=some o):b9 prog w h' a ms:=by
 obtain⟨o,es,ep,t,ps,ho,hex,hd,T,R,H,r⟩:=S;refine⟨o,es,ep,t,ps,ka o ho,hex,hd,T,R,⟨H.pm,fun m hm=>?_,H.nd⟩,r⟩;obtain⟨o',items,n,ho',x⟩:=H.key m hm;exact⟨o',items,n,km m hm o' ho',x⟩
theorem uz {R:Result->Shared->Prop}{I:Addr}{fp wr:List Addr}{G:Array GenState->Array GenState->Prop}{n:Nat}{P:Nat->Value->Prop}{St:Nat->Shared->Prop}
  (W:WalksS prog w A.in1 I fp wr G n P St) (S:Addr) (hSf:S∉fp) (km:Nat->Addr × List Int) (hval:∀ i v,P i v->v=.ref (km i).1) (hnw:∀ i,i<n->(km i).1∉S::wr) (hn:n<=76) (hu:A.in1.units<cLine) :
  ∀ (k i:Nat) (s:Shared),n-i=k->i<=n->St i s->(∀ i,i<n->IsTupleKey (ik prog w) s.heap (km i).2 (km i).1)->b9 prog w s.heap S (met km i) →
   (∀ s',Moved (S::wr) G s s'->b9 prog w s'.heap S (met km n)->R (.ok (.ret .none)) s') →
   codeAny (model prog w) A (.builtin "set.update.loop" ⟨[.ref S,.ref I],[]⟩) R s:=by
 have hSw:S∉wr:=fun h=>hSf (W.sub _ h);have hup:∀ b∈wr,b∈S::wr:=fun b hb=>List.mem_cons_of_mem _ hb;have mv:∀ {s s':Shared} (i:Nat),i<=n->Moved wr G s s'->b9 prog w s.heap S (met km i)->b9 prog w s'.heap S (met km i):=fun i hi hm hS=>
  hS.kept (fun o e=>hm.heap S o hSw e) fun m hmem o e=>by
   obtain⟨k,hk,rfl⟩:=met_of km i m hmem;exact hm.heap _ o (fun hw=>hnw k (by omega) (List.mem_cons_of_mem _ hw)) e
 intro k
 induction k with
 | zero=>
  intro i s hk hi hst hkey hS hR;obtain rfl:i=n:=by omega
  refine codeAny_builtin PyProof.Rows.F.entry_set_update_loop ?_;rw[Around.under_plainId PyProof.Rows.F.plain_set_update_loop _];show wpAny _ A.in1 (pyNext (.ref I) >>= _) _ _ s;refine wpAny_bind (W.done s _ _ hst fun s' hm=>?_);show wpAny _ A.in1 (ret Value.none) _ _ s';exact wpAny_pure (hR s' (hm.mono hup) (mv i (Nat.le_refl _) hm hS))
 | succ k ih=>
  intro i s hk hi hst hkey hS hR;have hlt:i<n:=by omega
  refine codeAny_builtin PyProof.Rows.F.entry_set_update_loop ?_;rw[Around.under_plainId PyProof.Rows.F.plain_set_update_loop _];show wpAny _ A.in1 (pyNext (.ref I) >>= _) _ _ s;refine wpAny_bind (W.item i s _ _ hlt hst fun v s1 hP hst1 hm=>?_);obtain rfl:=hval i v hP;have hS1:=mv i hi hm hS;have hkey1:∀ i,i<n->IsTupleKey (ik prog w) s1.heap (km i).2 (km i).1:=fun i hi=>by
   obtain⟨o',items,m',ho',x⟩:=hkey i hi;exact⟨o',items,m',hm.heap _ o' (fun hw=>hnw i hi (List.mem_cons_of_mem _ hw)) ho',x⟩
  show wpAny _ A.in1 (holding [Value.ref (km i).1] (setAdd S (.ref (km i).1)) >>= _) _ _ s1;refine wpAny_bind (wpAny_holding ?_);unfold setAdd;refine wpAny_holding (wpAny_bind (wpAny_pyHash_tuple hu (hkey1 i hlt) ?_));refine Ct (s:={s1 with toks:=s1.toks+((km i).2.length+1)}) hu hS1 (hkey1 i hlt) (Nat.lt_of_le_of_lt (met_len km i) (by omega)) fun h' r hsb hS2=>?_
  rw[<-fS]at hS2;have hoff:∀ b o,b≠S->s1.heap.get? b=some o->h'.get? b=some o:=fun b o hb e=>(hsb.2 b hb).trans e;refine wpAny_pure ⟨plainId_quiet PyProof.Rows.F.plain_set_update_loop _,ih (i+1) _ (by omega) hlt (W.frame _ s1 h' _ hst1 (Nat.le_add_right _ _) fun b hb o e=>hoff b o (fun hh:b=S=>hSf (hh ▸ hb)) e) (fun i hi=>?_) hS2 fun s2 hm2 hS3=>?_⟩
  ·obtain⟨o',items,m',ho',x⟩:=hkey1 i hi;exact⟨o',items,m',hoff _ o' (fun hh=>hnw i hi (hh ▸ List.mem_cons_self)) ho',x⟩
  ·refine hR s2 (Moved.trans W.gtrans ((hm.mono hup).then_heap (Nat.le_add_right _ _) fun b o hb e=>?_) hm2) hS3;exact hoff b o (fun hh=>hb (hh ▸ List.mem_cons_self)) e
theorem kB (a:Value){Q1:Value->Shared->Prop}
  (h:Q1 (.ref s.heap.objs.size) {s with heap:=s.heap.push {cls:=.type "set",dict:=none,data:=.set #[] 0 (.fresh 0 0 (!(w.params.followText "set-order")))}}) :
  codeAny (model prog w) A (.call (.builtin "set.__new__") ⟨[.type "set",a],[]⟩) (wants Q1 E) s:=by
 refine codeAny_of_tree ?_;show wpAny _ A.in1 (checkBuiltinCall "set.__new__" ⟨[.type "set",a],[]⟩ >>= fun _=>again (.builtin "set.__new__" ⟨[.type "set",a],[]⟩)) _ _ s;refine wpAny_bind (wpAny_of_eq (F.newCall_set_1 a) (wpAny_pure ⟨plainId_quiet F.plain_set_new _,codeAny_builtin F.entry_set_new ?_⟩));rw[Around.under_plainId F.plain_set_new _];unfold Builtin.«set.__new__» Builtin.Frozenset.newClass;have hsub:=sub_set_self;obtain⟨hp,g,d,tk,os⟩:=s;dsimp only
 wp_walk
 refine wpAny_askSetting (wpAny_pure ?_);dsimp only;simp only[newObj];refine wpAny_bind (wpAny_alloc (wpAny_pure ?_));exact wpAny_pure h
theorem qy {h:Heap}{a:Addr} (ho:h.get? a=some {cls:=.type "set",dict:=none,data:=.set #[] 0 (.fresh 0 0 (!(w.params.followText "set-order")))}):b9 prog w h a []:=
 ⟨_,#[],0,_,[],ho,⟨rfl,rfl,rfl⟩,rfl,⟨rfl,rfl,.nil,fun q hq=>absurd hq List.not_mem_nil,rfl,.inl rfl,fun q hq=>absurd hq List.not_mem_nil⟩,.inl ⟨rfl,by decide⟩,
  ⟨.refl _,fun m hm=>absurd hm List.not_mem_nil,.nil⟩,rfl,rfl⟩
theorem call_set_tup {l:Addr}{items:Array Value}{km:Nat->Addr × List Int}{Q:Value->Shared->Prop}
  (hh:A.handled=none) (hu:A.units+10<cLine) (hl:s.heap.IsList l items) (hv:∀ (i:Nat) (v:Value),items[i]?=some v->v=.ref (km i).1) (hkey:∀ i,i<items.size->IsTupleKey (ik prog w) s.heap (km i).2 (km i).1) (hn:items.size<=76)
  (h:∀ (h':Heap) (tk:Nat),b9 prog w h' s.heap.objs.size (met km items.size)->(∀ b o,b<s.heap.objs.size->s.heap.get? b=some o->h'.get? b=some o)->Q (.ref s.heap.objs.size) {s with heap:=h',toks:=tk}) :
  wpAny (model prog w) A (call (.type "set") [.ref l]) Q E s:=by
 obtain⟨c,tl,hmro⟩:=F.called_set.mro;have hmade:=F.called_set.made;have hsub:=F.called_set.sub;refine wpAny_call (codeAny_of_tree ?_);show wpAny _ _ (callAny (.type "set") _) _ _ _;refine wpAny_pure ⟨Code.quiet_builtin _ (by decide +kernel),codeAny_builtin F.entry_type_call ?_⟩
 rw[Around.under_plain (weight_type_call_type "set" [.ref l] []) rfl];have h1:=F.called_set.notType;have h2:=F.called_set.canCreate;have hct:=F.typeCall_set_1 (.ref l)
 repeat (any_goals (first|assumption|wp_step))
 generalize hob:({cls:=.type "set",dict:=none,data:=.set #[] 0 (.fresh 0 0 (!(w.params.followText "set-order")))}:Obj)=ob;refine codeAny_mono (kB (.ref l) (E:=E) (Q1:=fun v s1=>v=.ref s.heap.objs.size/\s1={s with heap:=s.heap.push ob}) (hob ▸ ⟨rfl,rfl⟩)) fun r s1 hr=>?_
 cases r with
 | error e=>exact hr
 | ok fl=>
  cases fl with
  | ret v=>
   obtain⟨rfl,rfl⟩:=hr;have hS:(s.heap.push ob).get? s.heap.objs.size=some ob:=Heap.get?_push_size _ (by rw[<-hob];rfl)
   have hT:Shared.TypeIs {s with heap:=s.heap.push ob} (.ref s.heap.objs.size) "set":=⟨_,hS,by rw[<-hob]⟩
   have hli:=F.called_set.init.lookup;have hbi:=F.called_set.init.bind (.ref s.heap.objs.size)
   repeat (any_goals (first|assumption|wp_step))
   refine codeAny_mono (codeAny_call_builtin (R:=wants (fun r s2=>r=.none/\∃ h' tk,s2={s with heap:=h',toks:=tk}/\b9 prog w h' s.heap.objs.size (met km items.size) ∧
     (∀ b o,b<s.heap.objs.size->s.heap.get? b=some o->h'.get? b=some o)) E) F.called_set.init.plain F.entry_set_init (check_set_init_1 hT ?_)) fun r2 s2 hr2=>?_
   ·obtain⟨ol,hol,hcl,nl,hdl⟩:=id hl;obtain⟨ocls,odict,odata,oslots⟩:=ol;simp only at hcl hdl;subst hcl;subst hdl;have hol':(s.heap.push ob).get? l=some {cls:=.type "list",dict:=odict,data:=.seq items nl,slots:=oslots}:=Heap.get?_push_of_some _ hol;have hsls:=F.sub_list_set;have hslf:=F.sub_list_frozenset;have hne:(Value.type "list" == Value.type "dict")=false:=by decide
    have hl1:(s.heap.push ob).IsList l items:=⟨_,hol',rfl,nl,rfl⟩;subst hob;unfold Builtin.«set.__init__» noKeywords Builtin.Frozenset.updateFrom;generalize hPI:pyIter=PI
    wp_walk
    subst hPI;refine wpAny_pyIter_list hl1 ?_;refine wpAny_bind (wpAny_runValue ?_);generalize hob:({cls:=.type "set",dict:=none,data:=.set #[] 0 (.fresh 0 0 (!(w.params.followText "set-order")))}:Obj)=ob at *;have hlS:l<s.heap.objs.size:=Heap.lt_size hol;have hsz:(s.heap.push ob).objs.size=s.heap.objs.size+1:=by rw[Heap.size_push]
    have hneI:l≠(s.heap.push ob).objs.size:=by rw[hsz];exact Nat.ne_of_lt (Nat.lt_succ_of_lt hlS)
    have hSf:s.heap.objs.size∉[(s.heap.push ob).objs.size,l]:=by
     rw[hsz];intro hm
     rcases List.mem_cons.mp hm with e|hm
     ·exact Nat.ne_of_lt (Nat.lt_succ_self _) e
     ·exact Nat.ne_of_gt hlS (List.mem_singleton.mp hm)
    have off:∀ b:Nat,b<s.heap.objs.size->b∉s.heap.objs.size::[(s.heap.push ob).objs.size]:=fun b hb hm=>by
     rw[hsz]at hm
     rcases List.mem_cons.mp hm with e|hm
     ·exact Nat.ne_of_lt hb e
     ·exact Nat.ne_of_lt (Nat.lt_succ_of_lt hb) (List.mem_singleton.mp hm)
    have hnw:∀ i,i<items.size->(km i).1∉s.heap.objs.size::[(s.heap.push ob).objs.size]:=fun i hi=>off _ (by
     obtain⟨o',_,_,ho',_⟩:=hkey i hi;exact Heap.lt_size ho')
    refine uz ((Walks.list (by simp[hh]) _ l hneI items).toS) s.heap.objs.size hSf km hv hnw hn (by show A.units+1+1+1<cLine;omega) (items.size-0) 0 _ (by omega) (Nat.zero_le _)
     ⟨⟨_,Heap.get?_push_size _ rfl,rfl,rfl⟩,(hl1.push _)⟩ (fun i hi=>?_) ?_ ?_
    ·obtain⟨o',its',m',ho',x⟩:=hkey i hi;exact⟨o',its',m',Heap.get?_push_of_some _ (Heap.get?_push_of_some _ ho'),x⟩
    ·refine qy ?_;rw[hob];exact Heap.get?_push_of_some _ hS
    ·intro s' hm hS';obtain⟨h',g',d',tk',os'⟩:=s';have eg:g'=s.gens:=hm.gens;have ed:d'=s.drawn:=hm.drawn;have eo:os'=s.os:=hm.os;subst eg;subst ed;subst eo;show wpAny _ _ _ _ _ _;refine wpAny_pure ?_;show wpAny _ _ (ret Value.none) _ _ _;refine wpAny_pure ⟨rfl,h',tk',rfl,hS',fun b o hb e=>?_⟩;exact hm.heap b o (off b hb) (Heap.get?_push_of_some _ (Heap.get?_push_of_some _ e))
   ·cases r2 with
    | error e=>exact hr2
    | ok fl2=>
     cases fl2 with
     | ret r=>
      obtain⟨rfl,h',tk,rfl,hS',hk'⟩:=hr2
      repeat (any_goals (first|assumption|wp_step))
      exact h _ _ hS' hk'
     | _=>exact hr2.elim
  | _=>exact hr.elim
end
end ST
set_option maxHeartbeats 3200000
namespace ST
open PySem PySem.SetTable
theorem iG {α:Type}:∀ (l:List α) (i:Nat) (h:i<l.length),List.Perm (l[i]::l.eraseIdx i) l
 | [],i,h=>by simp at h
 | a::l,0,h=>by simp
 | a::l,i+1,h=>by
  simp only[List.getElem_cons_succ,List.eraseIdx_cons_succ];exact(List.Perm.swap _ _ _).trans (List.Perm.cons a (iG l i (by simpa using h)))
theorem pK {α:Type}(next:Nat->Nat):∀ (fuel k:Nat) (left:List α) (out:Array α),left.length=fuel->List.Perm (pickOrder.go next fuel k left out).toList (out.toList++left)
 | 0,k,left,out,h=>by
  have:left=[]:=List.length_eq_zero_iff.mp h;subst this;simp[pickOrder.go]
 | fuel+1,k,left,out,h=>by
  have hi:next k % left.length<left.length:=Nat.mod_lt _ (by omega)
  simp only[pickOrder.go,List.getElem?_eq_getElem hi];refine(pK next fuel (k+1) _ _ (by rw[List.length_eraseIdx_of_lt hi];omega)).trans ?_
  rw[Array.toList_push,List.append_assoc];exact List.Perm.append_left _ (iG _ _ hi)
theorem qU {α:Type}(next:Nat->Nat)(xs:Array α):List.Perm (pickOrder next xs).toList xs.toList:=by
 have:=pK next xs.size 0 xs.toList #[] (by simp)
 simpa [pickOrder] using this
def bI (w:World)(a:Addr)(ep:Nat)(es:Array (Int × Value)):List Value:=
 if w.params.followText "set-order"=true then (pickOrder (w.params.setOrder a ep) es).toList.map (·.2) else es.toList.map (·.2)
theorem kj (w:World)(a:Addr)(ep:Nat)(es:Array (Int × Value)):List.Perm (bI w a ep es) (es.toList.map (·.2)):=by
 unfold bI
 split
 ·exact(qU _ es).map _
 ·exact .refl _
theorem nL {xs:Array Nat}(ris:xs.toList.Pairwise (· < ·)):below xs 0=0:=by
 obtain⟨h1,h2⟩:=fA 0 ris
 rcases Nat.eq_zero_or_pos (below xs 0) with h|h
 ·exact h
 ·have:=(h2 0 (by omega)).mp h
  omega
theorem nK {xs:Array Nat}(ris:xs.toList.Pairwise (· < ·)){i:Nat}(hi:i<xs.size):below xs (xs[i]+1)=i+1:=by
 obtain⟨h1,h2⟩:=fA (xs[i]+1) ris;have mono:∀ a b (ha:a<xs.size) (hb:b<xs.size),a<b->xs[a]<xs[b]:=fun a b ha hb hab=>by
  have:=List.pairwise_iff_getElem.mp ris a b (by simpa using ha) (by simpa using hb) hab
  simpa using this
 rcases Nat.lt_trichotomy (below xs (xs[i]+1)) (i+1) with h|h|h
 ·have:=(h2 i hi).mpr (by omega)
  omega
 ·exact h
 ·have h3:=(h2 (i+1) (by omega)).mp h
  have:=mono i (i+1) hi (by omega) (by omega)
  omega
theorem ck:Slot "set_iterator" "__next__" "set_iterator.__next__":=
 .of (owner:="set_iterator") (n:="__next__") (by rw[typeLookup_type,builtinLookup_eq_fast];kernel_rfl) (by decide +kernel) (by decide +kernel) (by decide +kernel)
  (by first|exact .inl (by decide +kernel)|exact .inr (by decide +kernel)) (by rw[isSubtype_type];kernel_rfl)
theorem iC:entryFor table "set_iterator.__next__"=some Builtin.«set_iterator.__next__»:=entryFor_of_tree (by kernel_rfl)
theorem j1:Manifest.owners.lookup (String.ofList ("set_iterator".toList.reverse).reverse)=some Manifest.sig_set_iterator:=by kernel_rfl
theorem jl (a:Value):argsOk "set_iterator.__next__" ⟨[a],[]⟩:=by
 unfold argsOk;rw[signature?_of (id:="set_iterator.__next__") (n:="__next__".toList.reverse) (o:="set_iterator".toList.reverse) (by kernel_rfl) j1];kernel_rfl
theorem e9:Slot "set_iterator" "__iter__" "set_iterator.__iter__":=
 .of (owner:="set_iterator") (n:="__iter__") (by rw[typeLookup_type,builtinLookup_eq_fast];kernel_rfl) (by decide +kernel) (by decide +kernel) (by decide +kernel)
  (by first|exact .inl (by decide +kernel)|exact .inr (by decide +kernel)) (by rw[isSubtype_type];kernel_rfl)
theorem jk (a:Value):argsOk "set_iterator.__iter__" ⟨[a],[]⟩:=by
 unfold argsOk;rw[signature?_of (id:="set_iterator.__iter__") (n:="__iter__".toList.reverse) (o:="set_iterator".toList.reverse) (by kernel_rfl) j1];kernel_rfl
theorem iB:entryFor table "set_iterator.__iter__"=some Builtin.«dict_keyiterator.__iter__»:=
 entryFor_alias (id':="dict_keyiterator.__iter__") (by kernel_rfl) (by first | rfl | decide +kernel) (by decide +kernel) (by kernel_rfl)
theorem iA:entryFor table "set.__iter__"=some Builtin.«frozenset.__iter__»:=
 entryFor_alias (id':="frozenset.__iter__") (by kernel_rfl) rfl (by decide +kernel) (by kernel_rfl)
structure fe (w:World) (o:Obj) (es:Array (Int × Value)) (ep:Nat) (t:SetTable):Prop where
 ex:o.ExactSet
 dt:o.data=.set es ep t
 fit:t.fits es.size=true
 ris:t.place.toList.Pairwise (· < ·)
 pl:t.plain=true
 led:t.led=!(w.params.followText "set-order")
def fz (h:Heap) (I S:Addr) (sl i n ep:Nat):Prop:=∃ o,h.get? I=some o/\o.cls=.type "set_iterator"/\o.data=.fields #[rawInt sl,rawInt i,.ref S,rawInt n,rawInt ep]
section
variable {prog:Program}{w:World}{A:Around}{E:Value->Shared->Prop}{s:Shared}{o:Obj}{es:Array (Int × Value)}{ep:Nat}{t:SetTable}{S I:Addr}
theorem fz.typeIs {sl i n:Nat} (x:fz s.heap I S sl i n ep):s.TypeIs (.ref I) "set_iterator":=let ⟨o,ho,hc,_⟩:=x;⟨o,ho,hc⟩
theorem fz.at {h h':Heap}{sl i n:Nat}(x:fz h I S sl i n ep)(e:∀ o,h.get? I=some o->h'.get? I=some o):fz h' I S sl i n ep:=let ⟨o,ho,r⟩:=x;⟨o,e _ ho,r⟩
theorem oR {sl i:Nat}{Q:Option (Value × Nat)->Shared->Prop}(W:fe w o es ep t)(ho:s.heap.get? S=some o)
  (hsl:w.params.followText "set-order"=false->below t.place sl=i)
  (hsome:∀ v sl',(bI w S ep es)[i]?=some v->(w.params.followText "set-order"=false->below t.place sl'=i+1)->Q (some (v,sl')) s) (hnone:(bI w S ep es)[i]?=none->Q none s) :
  wpAny (model prog w) A (setNext S sl i ep) Q E s:=by
 unfold setNext;refine wpAny_bind (wpAny_setState_of ho W.dt W.fit ?_);dsimp only;unfold setsByText;refine wpAny_bind (wpAny_bind (wpAny_askSetting (wpAny_pure ?_)))
 by_cases hb:w.params.followText "set-order"=true
 ·show wpAny _ _ (if w.params.followText "set-order"=true then _ else _) _ _ _
  rw[if_pos hb];rw[if_neg (by simp)]
  unfold setWalk;refine wpAny_bind (wpAny_bind (wpAny_setState_of ho W.dt W.fit ?_));dsimp only;unfold setsByText;refine wpAny_bind (wpAny_bind (wpAny_askSetting (wpAny_pure ?_)));show wpAny _ _ (if w.params.followText "set-order"=true then _ else _) _ _ _
  rw[if_pos hb];refine wpAny_bind (wpAny_askSetting (wpAny_pure ?_));refine wpAny_pure ?_;have ew:bI w S ep es=(pickOrder (w.params.setOrder S ep) es).toList.map (·.2):=by unfold bI;rw[if_pos hb]
  show Q (((pickOrder (w.params.setOrder S ep) es)[i]?).map fun e=>(e.2,sl)) s
  cases hp:(pickOrder (w.params.setOrder S ep) es)[i]? with
  | none=>
   have:=hnone (by rw[ew,List.getElem?_map,Array.getElem?_toList,hp];rfl)
   exact this
  | some e=>
   have:=hsome e.2 sl (by rw[ew,List.getElem?_map,Array.getElem?_toList,hp];rfl) (fun h=>by rw[hb]at h;exact nomatch h)
   exact this
 ·have hb':w.params.followText "set-order"=false:=by simpa using hb
  show wpAny _ _ (if w.params.followText "set-order"=true then _ else _) _ _ _
  rw[if_neg hb];show wpAny _ _ (if (!t.plain && decide (es.size>1))=true then _ else _) _ _ _
  rw[if_neg (by simp[W.pl])]
  refine wpAny_bind ?_;show wpAny _ _ (if (!t.led && !es.isEmpty)=true then _ else _) _ _ _
  rw[if_neg (by simp[W.led,hb'])]
  refine wpAny_pure ?_;rw[hsl hb'];refine wpAny_pure ?_;have hps:t.place.size=es.size:=by
   have:=W.fit;simp only[SetTable.fits,Bool.and_eq_true,beq_iff_eq]at this;exact this.1
  have ew:bI w S ep es=es.toList.map (·.2):=by unfold bI;rw[if_neg hb]
  rcases Nat.lt_or_ge i es.size with hi|hi
  ·have hi':i<t.place.size:=by rw[hps];exact hi
   have:=hsome es[i].2 (t.place[i]+1) (by rw[ew];simp[hi]) (fun _=>nK W.ris hi')
   simpa [hi,hi'] using this
  ·have:=hnone (by rw[ew];simpa using hi)
   have hi':t.place.size<=i:=by rw[hps];exact hi
   simpa [Array.getElem?_eq_none hi,Array.getElem?_eq_none hi'] using this
theorem gS {sl i:Nat}{Q:Option Value->Shared->Prop}(hh:A.handled=none)(W:fe w o es ep t)(ho:s.heap.get? S=some o)(hne:S≠I)
  (hit:fz s.heap I S sl i es.size ep) (hsl:w.params.followText "set-order"=false->below t.place sl=i)
  (hsome:∀ v sl' h',(bI w S ep es)[i]?=some v->fz h' I S sl' (i+1) es.size ep->(w.params.followText "set-order"=false->below t.place sl'=i+1)->Heap.ExtBut I s.heap h'->Q (some v) {s with heap:=h'})
  (hnone:∀ h',(bI w S ep es)[i]?=none->Heap.ExtBut I s.heap h'->Q none {s with heap:=h'}) :
  wpAny (model prog w) A (pyNext (.ref I)) Q E s:=by
 obtain⟨oI,hoI,hcI,hdI⟩:=id hit;unfold pyNext;refine wpAny_bind (wpAny_attempt (wpAny_callSpecial?_slot (name:=Str.ofString "__next__") hit.typeIs ck
  (wpAny_call_entry ck hit.typeIs iC ?_ (jl _))))
 unfold Builtin.«set_iterator.__next__»;refine wpAny_bind (wpAny_of_eq (a:=(Value.ref I,[])) rfl ?_);refine wpAny_bind (wpAny_fieldsOf hoI hdI ?_);simp only[rawInt,List.toList_toArray];refine wpAny_bind (wpAny_setEntries_of ho W.dt W.fit ?_);rw[if_neg (by simp)]
 simp only[Int.toNat_natCast];have hlI:∀ {h':Heap},Heap.SameBut I s.heap h'->h'.get? S=some o:=fun hs=>(hs.2 S hne).trans ho;refine wpAny_bind (oR W ho hsl (fun v sl' hv hsl'=>?_) (fun hv=>?_))
 ·dsimp only;refine wpAny_bind (wpAny_setField hoI hdI (by simp) ?_)
  have g1:=Heap.get?_update_self (Obj.mapFields (·.setIfInBounds 0 (Value.int (sl':Int) 0))) hoI (Obj.isFreed_of_fields (Obj.data_mapFields hdI _));have d1:=Obj.data_mapFields hdI (·.setIfInBounds 0 (Value.int (sl':Int) 0));refine wpAny_bind (wpAny_setField (s:={s with heap:=s.heap.update I (Obj.mapFields (·.setIfInBounds 0 (Value.int (sl':Int) 0)))}) g1 d1 (by simp) ?_)
  refine wpAny_pure ⟨v,rfl,wpAny_pure (hsome v sl' _ hv ?_ hsl' ((Heap.SameBut.update ..).trans (Heap.SameBut.update ..)).extBut)⟩;refine⟨_,Heap.get?_update_self _ g1 (Obj.isFreed_of_fields (Obj.data_mapFields d1 _)),(Obj.cls_mapFields ..).trans ((Obj.cls_mapFields ..).trans hcI),?_⟩;rw[Obj.data_mapFields d1];simp[rawInt]
 ·dsimp only;refine wpAny_bind (wpAny_setField hoI hdI (by simp) ?_)
  show wpAny _ _ (newExc (.type "StopIteration") [] >>= _) _ _ _;refine wpAny_bind ?_;simp only[newExc,newTuple];refine wpAny_bind (wpAny_newObj_type ?_ (by size_fits))
  refine wpAny_bind (m:=firstArgMember _ _) (wpAny_of_eq (a:=Value.none) (by first|rfl|(simp only[firstArgMember];rfl)) ?_)
  refine wpAny_newObj_type ?_ (by size_fits)
  simp only[raiseNew];refine wpAny_bind (wpAny_handled ?_);rw[show A.in1.handled=none from hh];refine wpAny_bind (wpAny_pure (wpAny_throw ?_));refine wpAny_bind (wpAny_isInstance (T:="StopIteration") (b:=true) ⟨_,Heap.get?_push_size _ rfl,rfl⟩ isSubtype_stop ?_);exact wpAny_pure (hnone _ hv (((Heap.SameBut.update ..).extBut.push _).push _))
theorem ny {sl i n:Nat}{Q:Value->Shared->Prop}(hit:fz s.heap I S sl i n ep)(h:Q (.ref I) s):wpAny (model prog w) A (pyIter (.ref I)) Q E s:=by
 refine wpAny_pyIter_slot hit.typeIs e9 (wpAny_call_entry e9 hit.typeIs iB ?_ (jk _));show wpAny _ _ (ret (.ref I)) _ _ s;exact wpAny_pure ⟨_,rfl,"set_iterator",_,hit.typeIs,ck.lookup,h⟩
theorem jd (W:fe w o es ep t):(bI w S ep es).length=es.size:=by
 rw[(kj w S ep es).length_eq,List.length_map,Array.length_toList]
theorem rq (hh:A.handled=none)(W:fe w o es ep t)(hne:S≠I) :
  Walks prog w A I [I,S] [I] es.size (fun i v=>(bI w S ep es)[i]?=some v)
   (fun i h=>∃ sl,fz h I S sl i es.size ep/\(w.params.followText "set-order"=false->below t.place sl=i)/\h.get? S=some o) where
 sub:=fun b hb=>by simp at hb;simp[hb]
 frame:=fun _ _ _ ⟨sl,x1,x2,x3⟩ hk=>⟨sl,x1.at fun o e=>hk I (by simp) o e,x2,hk S (by simp) _ x3⟩
 item:=fun i s Q E hi ⟨sl,x1,x2,x3⟩ hQ=>by
  refine gS hh W x3 hne x1 x2 (fun v sl' h' hv hit' hsl' he=>?_) (fun h' hv=>?_)
  ·exact hQ v h' s.toks hv ⟨sl',hit',hsl',he S o hne x3⟩ fun b o' hb e=>he b o' (fun h=>hb (by simp[h])) e
  ·rw[List.getElem?_eq_none_iff,jd W]at hv;omega
 done:=fun s Q E ⟨sl,x1,x2,x3⟩ hQ=>by
  refine gS hh W x3 hne x1 x2 (fun v sl' h' hv hit' hsl' he=>?_) (fun h' hv he=>?_)
  ·have:=List.getElem?_eq_some_iff.mp hv;obtain⟨h1,_⟩:=this;rw[jd W]at h1;omega
  ·exact hQ h' s.toks fun b o' hb e=>he b o' (fun h=>hb (by simp[h])) e
 self:=fun _ _ _ _ ⟨_,x1,_⟩ hQ=>ny x1 hQ
theorem nw {Q:Value->Shared->Prop}(W:fe w o es ep t)(ho:s.heap.get? S=some o)
  (hQ:Q (.ref s.heap.objs.size) {s with heap:=s.heap.push {cls:=.type "set_iterator",data:=.fields #[rawInt (0:Nat),rawInt (0:Nat),.ref S,rawInt es.size,rawInt ep]}}) :
  wpAny (model prog w) A (pyIter (.ref S)) Q E s:=by
 have hT:s.TypeIs (.ref S) "set":=⟨o,ho,W.ex.1⟩;refine wpAny_pyIter_slot hT F.slot_set_iter (wpAny_call_entry F.slot_set_iter hT iA ?_ (F.args_set_iter_1 _));unfold Builtin.«frozenset.__iter__» Builtin.Frozenset.slot0 slotArgs;simp only[List.isEmpty_nil,Bool.not_true,Bool.false_eq_true,↓reduceIte,bind_assoc,List.length_nil,bne_self_eq_false];unfold Builtin.Frozenset.addrOf Builtin.Frozenset.sizeOf;refine wpAny_bind (wpAny_pure ?_)
 try dsimp only
 refine wpAny_bind (wpAny_pure ?_);refine wpAny_bind (wpAny_bind (wpAny_setEntries_of ho W.dt W.fit (wpAny_pure ?_)));unfold setDrawn setsByText;refine wpAny_bind (wpAny_bind (wpAny_setState_of ho W.dt W.fit ?_));dsimp only;refine wpAny_bind (wpAny_bind (wpAny_askSetting (wpAny_pure ?_)));refine wpAny_pure ?_;show wpAny _ _ (if (!(w.params.followText "set-order") && (!t.plain && decide (es.size>1)))=true then _ else _) _ _ _
 rw[if_neg (by simp[W.pl])]
 refine wpAny_bind (wpAny_pure ?_);refine wpAny_bind (wpAny_setEpoch_of ho W.dt W.fit ?_);exact wpAny_bind (wpAny_newObj_type (wpAny_pure ⟨_,rfl,"set_iterator",_,⟨_,Heap.get?_push_size _ rfl,rfl⟩,ck.lookup,hQ⟩))
end
end ST
set_option maxHeartbeats 3200000
namespace SR
variable {α:Type}{rk:α->Int}
def Le (rk:α->Int)(l:List α):Prop:=l.Pairwise fun x y=>rk x<=rk y
theorem le_app {l m:List α}:Le rk (l++m)↔Le rk l/\Le rk m/\∀ x∈l,∀ y∈m,rk x<=rk y:=List.pairwise_append
structure J (rk:α->Int) (a b out A B:List α) (L:α):Prop where
 pm:List.Perm (out++A++B) (a++b)
 sa:Le rk (out++A)
 sb:Le rk (out++B)
 la:A.getLast?=some L
 lb:∀ y∈B,rk y<rk L
theorem J.takeB {a b out A B1 B2:List α}{L:α}(h:J rk a b out A (B1++B2) L)(hx:∀ y∈B1,∀ x∈A,rk y<=rk x):J rk a b (out++B1) A B2 L:=by
 obtain⟨h1,h2,h3,h4,h5⟩:=h;rw[le_app]at h2 h3;rw[le_app]at h3;refine⟨List.Perm.trans ?_ h1,?_,?_,h4,fun y hy=>h5 y (List.mem_append_right _ hy)⟩
 ·have:List.Perm (B1++A) (A++B1):=List.perm_append_comm;have h6:=(this.append_left out).append_right B2;simpa [List.append_assoc] using h6
 ·rw[le_app,le_app];refine⟨⟨h2.1,h3.2.1.1,fun x hx' y hy=>h3.2.2 x hx' y (List.mem_append_left _ hy)⟩,h2.2.1,fun x hx' y hy=>?_⟩
  rcases List.mem_append.mp hx' with q|q
  ·exact h2.2.2 x q y hy
  ·exact hx x q y hy
 ·rw[List.append_assoc,le_app,le_app];exact⟨h3.1,h3.2.1,h3.2.2⟩
theorem J.takeA {a b out A1 A2 B:List α}{L:α}(h:J rk a b out (A1++A2) B L)(hne:A2≠[])(hx:∀ x∈A1,∀ y∈B,rk x<=rk y):J rk a b (out++A1) A2 B L:=by
 obtain⟨h1,h2,h3,h4,h5⟩:=h;refine⟨by simpa [List.append_assoc] using h1,by simpa [List.append_assoc] using h2,?_,?_,h5⟩
 ·rw[le_app]at h2 h3;rw[le_app]at h2;rw[le_app,le_app];refine⟨⟨h2.1,h2.2.1.1,fun x hx' y hy=>h2.2.2 x hx' y (List.mem_append_left _ hy)⟩,h3.2.1,fun x hx' y hy=>?_⟩
  rcases List.mem_append.mp hx' with q|q
  ·exact h3.2.2 x q y hy
  ·exact hx x q y hy
 ·rw[List.getLast?_append]at h4
  cases hA:A2.getLast? with
  | none=>exact absurd (List.getLast?_eq_none_iff.mp hA) hne
  | some z=>rw[hA]at h4;simpa using h4
theorem J.fin {a b out A B:List α}{L:α}(h:J rk a b out A B L)(hB:B=[]):List.Perm (out++A) (a++b)/\Le rk (out++A):=by
 subst hB;exact⟨by simpa using h.pm,h.sa⟩
theorem J.lst {a b out A B:List α}{L:α}(h:J rk a b out A B L)(hA:A.length=1):List.Perm (out++B++A) (a++b)/\Le rk (out++B++A):=by
 obtain⟨h1,h2,h3,h4,h5⟩:=h
 match A,hA with
 | [x],_=>
  obtain rfl:x=L:=by simpa using h4
  refine⟨List.Perm.trans ?_ h1,?_⟩
  ·have:List.Perm (B++[x]) ([x]++B):=List.perm_append_comm;have h6:=this.append_left out;simpa [List.append_assoc] using h6
  ·rw[le_app];rw[le_app]at h2;refine⟨h3,h2.2.1,fun y hy z hz=>?_⟩
   rcases List.mem_append.mp hy with q|q
   ·exact h2.2.2 y q z hz
   ·obtain rfl:=List.mem_singleton.mp hz;exact Int.le_of_lt (h5 y q)
structure Jh (rk:α->Int) (a b ro A B:List α) (F:α):Prop where
 pm:List.Perm (A++B++ro) (a++b)
 sa:Le rk (A++ro)
 sb:Le rk (B++ro)
 fb:B.head?=some F
 lb:∀ x∈A,rk F<rk x
theorem Jh.takeA {a b ro A1 A2 B:List α}{F:α}(h:Jh rk a b ro (A1++A2) B F)(hx:∀ x∈A2,∀ y∈B,rk y<=rk x):Jh rk a b (A2++ro) A1 B F:=by
 obtain⟨h1,h2,h3,h4,h5⟩:=h;refine⟨List.Perm.trans ?_ h1,by simpa [List.append_assoc] using h2,?_,h4,fun y hy=>h5 y (List.mem_append_left _ hy)⟩
 ·have:List.Perm (B++A2) (A2++B):=List.perm_append_comm;have h6:=(this.append_left A1).append_right ro;simpa [List.append_assoc] using h6
 ·rw[le_app]at h2 h3;rw[le_app]at h2;rw[le_app,le_app];refine⟨h3.1,⟨h2.1.2.1,h3.2.1,fun x hx' y hy=>h2.2.2 x (List.mem_append_right _ hx') y hy⟩,fun x hx' y hy=>?_⟩
  rcases List.mem_append.mp hy with q|q
  ·exact hx y q x hx'
  ·exact h3.2.2 x hx' y q
theorem Jh.takeB {a b ro A B1 B2:List α}{F:α}(h:Jh rk a b ro A (B1++B2) F)(hne:B1≠[])(hx:∀ y∈B2,∀ x∈A,rk x<=rk y):Jh rk a b (B2++ro) A B1 F:=by
 obtain⟨h1,h2,h3,h4,h5⟩:=h;refine⟨by simpa [List.append_assoc] using h1,?_,by simpa [List.append_assoc] using h3,?_,h5⟩
 ·rw[le_app]at h2 h3;rw[le_app]at h3;rw[le_app,le_app];refine⟨h2.1,⟨h3.1.2.1,h2.2.1,fun x hx' y hy=>h3.2.2 x (List.mem_append_right _ hx') y hy⟩,fun x hx' y hy=>?_⟩
  rcases List.mem_append.mp hy with q|q
  ·exact hx y q x hx'
  ·exact h2.2.2 x hx' y q
 ·match B1,hne with
  | z::B1,_=>simpa using h4
theorem Jh.fin {a b ro A B:List α}{F:α}(h:Jh rk a b ro A B F)(hA:A=[]):List.Perm (B++ro) (a++b)/\Le rk (B++ro):=by
 subst hA;exact⟨by simpa using h.pm,h.sb⟩
theorem Jh.fst {a b ro A B:List α}{F:α}(h:Jh rk a b ro A B F)(hB:B.length=1):List.Perm (B++A++ro) (a++b)/\Le rk (B++A++ro):=by
 obtain⟨h1,h2,h3,h4,h5⟩:=h
 match B,hB with
 | [x],_=>
  obtain rfl:x=F:=by simpa using h4
  refine⟨List.Perm.trans ?_ h1,?_⟩
  ·have:List.Perm ([x]++A) (A++[x]):=List.perm_append_comm;have h6:=this.append_right ro;simpa [List.append_assoc] using h6
  ·rw[List.append_assoc,le_app];rw[le_app]at h3;refine⟨h3.1,h2,fun y hy z hz=>?_⟩;obtain rfl:=List.mem_singleton.mp hy
   rcases List.mem_append.mp hz with q|q
   ·exact Int.le_of_lt (h5 z q)
   ·exact h3.2.2 y hy z q
theorem mH:∀ (l:List α) (i sa:Nat) (arr:Array α),sa+i+l.length<=arr.size →
  ((l.zipIdx i).foldl (fun a (q:α × Nat)=>a.setIfInBounds (sa+q.2) q.1) arr).toList=arr.toList.take (sa+i)++l++arr.toList.drop (sa+i+l.length)
 | [],i,sa,arr,_=>by simp
 | x::l,i,sa,arr,h=>by
  simp only[List.length_cons]at h;rw[List.zipIdx_cons,List.foldl_cons,mH l (i+1) sa _ (by simp;omega)]
  have hlt:sa+i<arr.toList.length:=by simp;omega
  have e1:((arr.setIfInBounds (sa+i) x).toList.take (sa+(i+1)))=arr.toList.take (sa+i)++[x]:=by
   rw[Array.toList_setIfInBounds,show sa+(i+1)=sa+i+1 by omega,List.take_succ]
   rw[List.take_set_of_le (by omega)]
   have hlt':sa+i<arr.size:=by omega
   simp[hlt']
  have e2:((arr.setIfInBounds (sa+i) x).toList.drop (sa+(i+1)+l.length))=arr.toList.drop (sa+i+(x::l).length):=by
   rw[Array.toList_setIfInBounds,List.drop_set_of_lt (by omega)]
   simp only[List.length_cons]
   congr 1;omega
  rw[e1,e2];simp
end SR
set_option maxHeartbeats 3200000
namespace SR
open PySem PyProof.Rows
def bw:Bool->Keyed->Array Keyed->Nat->Nat->Nat->StateT SortSt Sem (Option Nat):=sortPriv% PySem.Builtin.gallop
def aN:Nat->StateT SortSt Sem Unit:=sortPriv% PySem.Builtin.setMinGallop
def fR:Array Keyed->Array Keyed->StateT SortSt Sem (Array Keyed):=sortPriv% PySem.Builtin.mergeLo
def fQ:Array Keyed->Array Keyed->StateT SortSt Sem (Array Keyed):=sortPriv% PySem.Builtin.mergeHi
def nM (left:Bool)(key:Keyed)(arr:Array Keyed)(base i:Nat):StateT SortSt Sem (Option Bool):=do
 let x ← elem' arr (base+i)
 if left then lt' x key else return (← lt' key x).map (!·)
theorem n9 (left:Bool)(key:Keyed)(arr:Array Keyed)(base n hint:Nat):bw left key arr base n hint=(do
 let mut lastofs:=0
 let mut ofs:=1
 let mut lo:=0
 let mut hi:=0
 let some right ← nM left key arr base hint|return none
 if right then
  let maxofs:=n-hint
  for _ in [0:n] do
   if ofs>=maxofs then break
   let some more ← nM left key arr base (hint+ofs)|return none
   if !more then break
   lastofs:=ofs
   ofs:=2*ofs+1
  lo:=hint+lastofs+1
  hi:=hint+min ofs maxofs
 else
  let maxofs:=hint+1
  for _ in [0:n] do
   if ofs>=maxofs then break
   let some found ← nM left key arr base (hint-ofs)|return none
   if found then break
   lastofs:=ofs
   ofs:=2*ofs+1
  lo:=hint+1-min ofs maxofs
  hi:=hint-lastofs
 for _ in [0:n] do
  if lo>=hi then break
  let m:=lo+(hi-lo) / 2
  let some more ← nM left key arr base m|return none
  if more then lo:=m+1 else hi:=m
 return some hi):=rfl
theorem gF (g:Nat):aN g=modify fun s=>SortSt.mk' (kindOf s) (arrOf s) (pendingOf s) g (failedOf s):=rfl
def b6 (a b out:Array Keyed)(ia ib:Nat):Array Keyed:=out++a.extract ia a.size++b.extract ib b.size
def eZ (a b out:Array Keyed)(ia ib:Nat):Array Keyed:=out++b.extract ib b.size++a.extract ia a.size
theorem mT (a b:Array Keyed):fR a b=(do
 rule "list.sort.merge-lo"
 let total:=a.size+b.size
 let mut out:Array Keyed:=#[<-elem' b 0]
 let mut ia:=0
 let mut ib:=1
 if ib == b.size then return b6 a b out ia ib
 if ia+1 == a.size then return eZ a b out ia ib
 let mut minGallop:=gallopOf (← get)
 for _ in [0:total] do
  let mut acount:=0
  let mut bcount:=0
  for _ in [0:total] do
   let some bWins ← lt' (← elem' b ib) (← elem' a ia)|return b6 a b out ia ib
   if bWins then
    out:=out.push (← elem' b ib);ib:=ib+1;bcount:=bcount+1;acount:=0
    if ib == b.size then return b6 a b out ia ib
    if bcount>=minGallop then break
   else
    out:=out.push (← elem' a ia);ia:=ia+1;acount:=acount+1;bcount:=0
    if ia+1 == a.size then return eZ a b out ia ib
    if acount>=minGallop then break
  rule "list.sort.gallop"
  minGallop:=minGallop+1
  for _ in [0:total] do
   if minGallop>1 then minGallop:=minGallop-1
   aN minGallop
   let some k ← bw false (← elem' b ib) a ia (a.size-ia) 0|return b6 a b out ia ib
   acount:=k
   if k>0 then
    out:=out++a.extract ia (ia+k);ia:=ia+k
    if ia+1 == a.size then return eZ a b out ia ib
    if ia == a.size then return b6 a b out ia ib
   out:=out.push (← elem' b ib);ib:=ib+1
   if ib == b.size then return b6 a b out ia ib
   let some k ← bw true (← elem' a ia) b ib (b.size-ib) 0|return b6 a b out ia ib
   bcount:=k
   if k>0 then
    out:=out++b.extract ib (ib+k);ib:=ib+k
    if ib == b.size then return b6 a b out ia ib
   out:=out.push (← elem' a ia);ia:=ia+1
   if ia+1 == a.size then return eZ a b out ia ib
   if acount<7 && bcount<7 then break
  minGallop:=minGallop+1
  aN minGallop
 unsupported "internal:list.sort.merge-bound"):=rfl
def b0 (a b out:Array Keyed)(na nb:Nat):Array Keyed:=a.extract 0 na++b.extract 0 nb++out.reverse
def c9 (a b out:Array Keyed)(na nb:Nat):Array Keyed:=b.extract 0 nb++a.extract 0 na++out.reverse
theorem mS (a b:Array Keyed):fQ a b=(do
 rule "list.sort.merge-hi"
 let total:=a.size+b.size
 let mut na:=a.size-1
 let mut nb:=b.size
 let mut out:Array Keyed:=#[<-elem' a na]
 if na == 0 then return b0 a b out na nb
 if nb == 1 then return c9 a b out na nb
 let mut minGallop:=gallopOf (← get)
 for _ in [0:total] do
  let mut acount:=0
  let mut bcount:=0
  for _ in [0:total] do
   let some aWins ← lt' (← elem' b (nb-1)) (← elem' a (na-1))|return b0 a b out na nb
   if aWins then
    na:=na-1;out:=out.push (← elem' a na);acount:=acount+1;bcount:=0
    if na == 0 then return b0 a b out na nb
    if acount>=minGallop then break
   else
    nb:=nb-1;out:=out.push (← elem' b nb);bcount:=bcount+1;acount:=0
    if nb == 1 then return c9 a b out na nb
    if bcount>=minGallop then break
  rule "list.sort.gallop"
  minGallop:=minGallop+1
  for _ in [0:total] do
   if minGallop>1 then minGallop:=minGallop-1
   aN minGallop
   let some at_ ← bw false (← elem' b (nb-1)) a 0 na (na-1)|return b0 a b out na nb
   let k:=na-at_
   acount:=k
   if k>0 then
    out:=out++(a.extract at_ na).reverse;na:=at_
    if na == 0 then return b0 a b out na nb
   nb:=nb-1;out:=out.push (← elem' b nb)
   if nb == 1 then return c9 a b out na nb
   let some at_ ← bw true (← elem' a (na-1)) b 0 nb (nb-1)|return b0 a b out na nb
   let k:=nb-at_
   bcount:=k
   if k>0 then
    out:=out++(b.extract at_ nb).reverse;nb:=at_
    if nb == 1 then return c9 a b out na nb
    if nb == 0 then return b0 a b out na nb
   na:=na-1;out:=out.push (← elem' a na)
   if na == 0 then return b0 a b out na nb
   if acount<7 && bcount<7 then break
  minGallop:=minGallop+1
  aN minGallop
 unsupported "internal:list.sort.merge-bound"):=rfl
section
variable {prog:Program}{w:World}{A:Around}{E:Value->Shared->Prop}{s:Shared}{κ:SortKind}{rk:Keyed->Int}{Gd:Keyed->Prop}
def jh (prog:Program)(w:World)(A:Around)(s:Shared)(κ:SortKind)(rk:Keyed->Int)(Gd:Keyed->Prop):Prop:=
 ∀ x y,Gd x->Gd y->∀ Q:Bool->Shared->Prop,Q (decide (rk x<rk y)) s->wpAny (model prog w) A (keyLt' κ x.1 y.1) Q (fun _ _=>False) s
theorem w_lt (hc:jh prog w A s κ rk Gd){x y:Keyed}{a:Array Keyed}{p:Array (Nat × Nat × Nat)}{g:Nat}{Q:Option Bool->SortSt->Prop}(hx:Gd x)(hy:Gd y)(h:Q (some (decide (rk x<rk y))) (SortSt.mk' κ a p g none)) :
  wpS (model prog w) A E s (lt' x y) Q (SortSt.mk' κ a p g none):=by
 rw[lt'_eq];refine wpS_bind (wpS_get ?_);refine wpS_bind (wpS_lift (wpAny_attempt (wpAny_mono (hc x y hx hy (fun c s'=>s'=s/\Q (some c) (SortSt.mk' κ a p g none)) ⟨rfl,h⟩) (fun c s' hq=>?_) fun _ _ hF=>hF.elim)));exact⟨hq.1,wpS_pure hq.2⟩
theorem oO {arr:Array Keyed}{i:Nat}{x:Keyed}{st:SortSt}{Q:Keyed->SortSt->Prop}(he:arr[i]?=some x)(h:Q x st):wpS (model prog w) A E s (elem' arr i) Q st:=by
 rw[elem'_eq,he];exact wpS_pure h
theorem Cr (hc:jh prog w A s κ rk Gd){i j:Nat}{x y:Keyed}{a:Array Keyed}{p:Array (Nat × Nat × Nat)}{g:Nat}{Q:Option Bool->SortSt->Prop}(ei:a[i]?=some x)(ej:a[j]?=some y)(hx:Gd x)(hy:Gd y)
  (h:Q (some (decide (rk x<rk y))) (SortSt.mk' κ a p g none)):wpS (model prog w) A E s (ltAt' i j) Q (SortSt.mk' κ a p g none):=by
 rw[ltAt'_eq];refine wpS_bind (wpS_get ?_);exact wpS_bind (oO ei (wpS_bind (oO ej (w_lt hc hx hy h))))
def G (prog:Program)(w:World)(A:Around)(E:Value->Shared->Prop)(s:Shared)(κ:SortKind)(arr:Array Keyed)(p:Array (Nat × Nat × Nat)){α:Type}(m:StateT SortSt Sem α)(Q:α->Prop):Prop:=
 ∀ g,wpS (model prog w) A E s m (fun a st'=>(∃ g',st'=SortSt.mk' κ arr p g' none)/\Q a) (SortSt.mk' κ arr p g none)
variable {arr:Array Keyed}{p:Array (Nat × Nat × Nat)}
theorem ap {α:Type}{a:α}{Q:α->Prop}(h:Q a):G prog w A E s κ arr p (pure a) Q:=fun g=>wpS_pure ⟨⟨g,rfl⟩,h⟩
theorem au {α β:Type}{m:StateT SortSt Sem α}{f:α->StateT SortSt Sem β}{Q:β->Prop}(h:G prog w A E s κ arr p m fun a=>G prog w A E s κ arr p (f a) Q):G prog w A E s κ arr p (m >>= f) Q:=fun g=>
 wpS_bind (wpS_mono (h g) fun a st' hq=>by
  obtain⟨⟨g',rfl⟩,hq⟩:=hq;exact hq g')
theorem bK {α:Type}{m:StateT SortSt Sem α}{Q Q':α->Prop}(h:G prog w A E s κ arr p m Q)(hq:∀ a,Q a->Q' a):G prog w A E s κ arr p m Q':=fun g=>wpS_mono (h g) fun a st' hh=>⟨hh.1,hq a hh.2⟩
theorem wF (hc:jh prog w A s κ rk Gd){x y:Keyed}{Q:Option Bool->Prop}(hx:Gd x)(hy:Gd y)(h:Q (some (decide (rk x<rk y)))):G prog w A E s κ arr p (lt' x y) Q:=fun g=>w_lt hc hx hy ⟨⟨g,rfl⟩,h⟩
theorem a9 {a:Array Keyed}{i:Nat}{x:Keyed}{Q:Keyed->Prop}(he:a[i]?=some x)(h:Q x):G prog w A E s κ arr p (elem' a i) Q:=fun g=>oO he ⟨⟨g,rfl⟩,h⟩
theorem y8 {Q:SortSt->Prop}(h:∀ st,Q st):G prog w A E s κ arr p get Q:=fun g=>wpS_get ⟨⟨g,rfl⟩,h _⟩
theorem oU {g:Nat}{Q:Unit->Prop}(h:Q ()):G prog w A E s κ arr p (aN g) Q:=fun g'=>by
 rw[gF];exact wpS_modify ⟨⟨g,rfl⟩,h⟩
theorem ko {r:String}{Q:PUnit->Prop}(h:Q ⟨⟩):G prog w A E s κ arr p (liftM (rule r)) Q:=fun g=>wpS_lift (wpAny_rule ⟨rfl,⟨g,rfl⟩,h⟩)
theorem fy {β:Type}{a b:Nat}{f:Nat->β->StateT SortSt Sem (ForInStep β)}(I:Nat->β->Prop){Q:β->Prop}
  (hstep:∀ i c,a<=i->i<b->I i c->G prog w A E s κ arr p (f i c) fun r=>match r with|.done c'=>Q c'|.yield c'=>I (i+1) c')
  (hend:∀ c,I (max a b) c->Q c) {c:β} (h:I a c):G prog w A E s κ arr p (forIn [a:b] c f) Q:=fun g=>by
 refine wpS_forRange (I:=fun x c st=>(∃ g',st=SortSt.mk' κ arr p g' none)/\I x c) (Q:=fun c st=>(∃ g',st=SortSt.mk' κ arr p g' none)/\Q c) ?_ (fun c st hh=>⟨hh.1,hend c hh.2⟩) ⟨⟨g,rfl⟩,h⟩;rintro i c st h1 h2 ⟨⟨g',rfl⟩,h3⟩;refine wpS_mono (hstep i c h1 h2 h3 g') fun r st' hh=>?_
 cases r with
 | done c'=>exact hh
 | yield c'=>exact hh
def jF (rk:Keyed->Int)(left:Bool)(key x:Keyed):Bool:=if left then decide (rk x<rk key) else !(decide (rk key<rk x))
theorem CG (hc:jh prog w A s κ rk Gd){left:Bool}{key x:Keyed}{a:Array Keyed}{base i:Nat}{Q:Option Bool->Prop}(hk:Gd key)(hx:Gd x)(he:a[base+i]?=some x)(h:Q (some (jF rk left key x))) :
  G prog w A E s κ arr p (nM left key a base i) Q:=by
 unfold nM;refine au (a9 he ?_)
 cases left with
 | true=>exact wF hc hx hk h
 | false=>exact au (wF hc hk hx (ap h))
theorem ua (hc:jh prog w A s κ rk Gd){left:Bool}{key:Keyed}{a:Array Keyed}{base n hint:Nat}(P:Nat->Bool)(hk:Gd key)(hh:hint<n)
  (hP:∀ i,i<n->∃ x,a[base+i]?=some x/\Gd x/\jF rk left key x=P i) (hm:∀ i j,i<=j->j<n->P j=true->P i=true) :
  G prog w A E s κ arr p (bw left key a base n hint) fun r=>∃ k,r=some k/\k<=n/\(∀ i,i<k->P i=true)/\∀ i,k<=i->i<n->P i=false:=by
 have ask:∀ i,i<n->∀ {Q:Option Bool->Prop},Q (some (P i))->G prog w A E s κ arr p (nM left key a base i) Q:=fun i hi Q hq=>by
  obtain⟨x,h1,h2,h3⟩:=hP i hi;exact CG hc hk h2 h1 (by rw[h3];exact hq)
 have nofalse:∀ {i j:Nat},i<=j->j<n->P i=false->P j=false:=fun {i j} h1 h2 h3=>by
  cases hj:P j with
  | false=>rfl
  | true=>rw[hm i j h1 h2 hj]at h3;exact absurd h3 (by simp)
 have tail:∀ (f:Nat->Option (Option Nat) × Nat × Nat->StateT SortSt Sem (ForInStep (Option (Option Nat) × Nat × Nat))) (k:Option (Option Nat) × Nat × Nat->StateT SortSt Sem (Option Nat)),
   (∀ x lo hi (Q:ForInStep (Option (Option Nat) × Nat × Nat)->Prop),hi<=n->(lo>=hi->Q (.done (none,lo,hi)))->(lo<hi->P (lo+(hi-lo) / 2)=true->Q (.yield (none,lo+(hi-lo) / 2+1,hi))) →
    (lo<hi->P (lo+(hi-lo) / 2)=false->Q (.yield (none,lo,lo+(hi-lo) / 2)))->G prog w A E s κ arr p (f x (none,lo,hi)) Q)->(∀ lo hi,k (none,lo,hi)=pure (some hi)) →
   ∀ lo hi,lo<=hi->hi<=n->(∀ i,i<lo->P i=true)->(∀ i,hi<=i->i<n->P i=false)->G prog w A E s κ arr p (forIn [0:n] (none,lo,hi) f >>= k)
   fun r=>∃ k,r=some k/\k<=n/\(∀ i,i<k->P i=true)/\∀ i,k<=i->i<n->P i=false:=fun f k hf hk' lo hi hlh hhn h1 h2=>by
  refine au (fy (I:=fun x c=>∃ lo hi,c=(none,lo,hi)/\lo<=hi/\hi<=n/\hi-lo<=n-x/\(∀ i,i<lo->P i=true)/\(∀ i,hi<=i->i<n->P i=false))
   ?_ ?_ ⟨lo,hi,rfl,hlh,hhn,by omega,h1,h2⟩)
  ·rintro x c _ hx ⟨lo,hi,rfl,g1,g2,g3,g4,g5⟩;refine hf x lo hi _ g2 (fun hb=>?_) (fun hl hv=>?_) (fun hl hv=>?_)
   ·have:lo=hi:=by omega
    subst this;dsimp only;rw[hk'];exact ap ⟨lo,rfl,g2,g4,g5⟩
   ·exact⟨_,_,rfl,by omega,g2,by omega,fun i hi'=>hm i _ (by omega) (by omega) hv,g5⟩
   ·exact⟨_,_,rfl,by omega,by omega,by omega,g4,fun i hi' hn=>nofalse hi' hn hv⟩
  ·rintro c ⟨lo,hi,rfl,g1,g2,g3,g4,g5⟩;have:lo=hi:=by omega
   subst this;rw[hk'];exact ap ⟨lo,rfl,g2,g4,g5⟩
 rw[n9];refine au (ask hint hh ?_);dsimp only
 cases hv:P hint with
 | true=>
  simp only[if_true];refine au (bK (fy (I:=fun x c=>∃ la ofs,c=(none,la,ofs)/\la<ofs/\hint+la<n/\P (hint+la)=true/\x<ofs)
   (Q:=fun c=>∃ la ofs,c=(none,la,ofs)/\la<ofs/\hint+la<n/\P (hint+la)=true/\(ofs>=n-hint\/P (hint+ofs)=false)) ?_ ?_ ⟨0,1,rfl,by omega,hh,hv,by omega⟩) ?_)
  ·rintro x c _ hx ⟨la,ofs,rfl,g1,g2,g3,g4⟩;dsimp only
   by_cases hb:ofs>=n-hint
   ·rw[if_pos hb];exact ap ⟨la,ofs,rfl,g1,g2,g3,.inl hb⟩
   ·rw[if_neg hb];refine au (ask _ (by omega) ?_)
    dsimp only
    cases hv2:P (hint+ofs) with
    | false=>
     simp only[Bool.not_false,if_true];exact ap ⟨la,ofs,rfl,g1,g2,g3,.inr hv2⟩
    | true=>
     simp only[Bool.not_true,Bool.false_eq_true,if_false];exact ap ⟨_,_,rfl,by omega,by omega,hv2,by omega⟩
  ·rintro c ⟨la,ofs,rfl,g1,g2,g3,g4⟩;exact⟨la,ofs,rfl,g1,g2,g3,.inl (by omega)⟩
  ·rintro c ⟨la,ofs,rfl,g1,g2,g3,g4⟩;dsimp only;refine tail _ _ (fun x lo hi Q hn h1 h2 h3=>?_) (fun lo hi=>rfl) _ _ (by omega) (by omega) (fun i hi=>hm i _ (by omega) g2 g3) (fun i h1 h2=>?_)
   ·dsimp only
    by_cases hb:lo>=hi
    ·rw[if_pos hb];exact ap (h1 hb)
    ·rw[if_neg hb];refine au (ask _ (by omega) ?_)
     dsimp only
     cases hv:P (lo+(hi-lo) / 2) with
     | true=>exact ap (h2 (by omega) hv)
     | false=>exact ap (h3 (by omega) hv)
   ·rcases g4 with g4|g4
    ·omega
    ·exact nofalse (i:=hint+ofs) (by omega) h2 g4
 | false=>
  simp only[Bool.false_eq_true,if_false];refine au (bK (fy (I:=fun x c=>∃ la ofs,c=(none,la,ofs)/\la<ofs/\la<=hint/\P (hint-la)=false/\x<ofs)
   (Q:=fun c=>∃ la ofs,c=(none,la,ofs)/\la<ofs/\la<=hint/\P (hint-la)=false/\(ofs>=hint+1\/P (hint-ofs)=true)) ?_ ?_ ⟨0,1,rfl,by omega,by omega,hv,by omega⟩) ?_)
  ·rintro x c _ hx ⟨la,ofs,rfl,g1,g2,g3,g4⟩;dsimp only
   by_cases hb:ofs>=hint+1
   ·rw[if_pos hb];exact ap ⟨la,ofs,rfl,g1,g2,g3,.inl hb⟩
   ·rw[if_neg hb];refine au (ask _ (by omega) ?_)
    dsimp only
    cases hv2:P (hint-ofs) with
    | true=>
     simp only[if_true];exact ap ⟨la,ofs,rfl,g1,g2,g3,.inr hv2⟩
    | false=>
     simp only[Bool.false_eq_true,if_false];exact ap ⟨_,_,rfl,by omega,by omega,hv2,by omega⟩
  ·rintro c ⟨la,ofs,rfl,g1,g2,g3,g4⟩;exact⟨la,ofs,rfl,g1,g2,g3,.inl (by omega)⟩
  ·rintro c ⟨la,ofs,rfl,g1,g2,g3,g4⟩;dsimp only;refine tail _ _ (fun x lo hi Q hn h1 h2 h3=>?_) (fun lo hi=>rfl) _ _ (by omega) (by omega) (fun i hi=>?_) (fun i h1 h2=>nofalse h1 h2 g3)
   ·dsimp only
    by_cases hb:lo>=hi
    ·rw[if_pos hb];exact ap (h1 hb)
    ·rw[if_neg hb];refine au (ask _ (by omega) ?_)
     dsimp only
     cases hv:P (lo+(hi-lo) / 2) with
     | true=>exact ap (h2 (by omega) hv)
     | false=>exact ap (h3 (by omega) hv)
   ·rcases g4 with g4|g4
    ·omega
    ·exact hm i _ (by omega) (by omega) g4
end
end SR
set_option maxHeartbeats 3200000
namespace SR
open PySem PyProof.Rows
abbrev LS:=Option (Array Keyed) × Array Keyed × Nat × Nat × Nat × Nat × Nat
abbrev MS:=Option (Array Keyed) × Array Keyed × Nat × Nat × Nat × Nat
section
variable (a b:Array Keyed)
def EV (out:Array Keyed)(ia ib mg k k1:Nat):StateT SortSt Sem (ForInStep LS):=do
 let x ← elem' a ia
 if (ia+1+1 == a.size)=true then pure (.done (some (eZ a b (out.push x) (ia+1) ib),out.push x,ia+1,ib,mg,k,k1))
 else if (decide (k<7) && decide (k1<7))=true then pure (.done (none,out.push x,ia+1,ib,mg,k,k1))
 else pure (.yield (none,out.push x,ia+1,ib,mg,k,k1))
def EU (out:Array Keyed)(ia ib mg k bc:Nat):StateT SortSt Sem (ForInStep LS):=do
 let x ← elem' a ia
 let r ← bw true x b ib (b.size-ib) 0
 match r with
 | some k1=>
  if k1>0 then
   if (ib+k1 == b.size)=true then pure (.done (some (b6 a b (out++b.extract ib (ib+k1)) ia (ib+k1)),out++b.extract ib (ib+k1),ia,ib+k1,mg,k,k1))
   else EV a b (out++b.extract ib (ib+k1)) ia (ib+k1) mg k k1
  else EV a b out ia ib mg k k1
 | _=>pure (.done (some (b6 a b out ia ib),out,ia,ib,mg,k,bc))
def DP (out:Array Keyed)(ia ib mg k bc:Nat):StateT SortSt Sem (ForInStep LS):=do
 let y ← elem' b ib
 if (ib+1 == b.size)=true then pure (.done (some (b6 a b (out.push y) ia (ib+1)),out.push y,ia,ib+1,mg,k,bc))
 else EU a b (out.push y) ia (ib+1) mg k bc
def DO (out:Array Keyed)(ia ib mg ac bc:Nat):StateT SortSt Sem (ForInStep LS):=do
 aN mg
 let y ← elem' b ib
 let r ← bw false y a ia (a.size-ia) 0
 match r with
 | some k=>
  if k>0 then
   if (ia+k+1 == a.size)=true then pure (.done (some (eZ a b (out++a.extract ia (ia+k)) (ia+k) ib),out++a.extract ia (ia+k),ia+k,ib,mg,k,bc))
   else if (ia+k == a.size)=true then pure (.done (some (b6 a b (out++a.extract ia (ia+k)) (ia+k) ib),out++a.extract ia (ia+k),ia+k,ib,mg,k,bc))
   else DP a b (out++a.extract ia (ia+k)) (ia+k) ib mg k bc
  else DP a b out ia ib mg k bc
 | _=>pure (.done (some (b6 a b out ia ib),out,ia,ib,mg,ac,bc))
def Fz (c:LS):StateT SortSt Sem (ForInStep LS):=
 if c.2.2.2.2.1>1 then DO a b c.2.1 c.2.2.1 c.2.2.2.1 (c.2.2.2.2.1-1) c.2.2.2.2.2.1 c.2.2.2.2.2.2
 else DO a b c.2.1 c.2.2.1 c.2.2.2.1 c.2.2.2.2.1 c.2.2.2.2.2.1 c.2.2.2.2.2.2
def ms (mg:Nat)(c:MS):StateT SortSt Sem (ForInStep MS):=do
 let y ← elem' b c.2.2.2.1
 let x ← elem' a c.2.2.1
 let r ← lt' y x
 match r with
 | some bWins=>
  if bWins=true then do
   let y ← elem' b c.2.2.2.1
   if (c.2.2.2.1+1 == b.size)=true then pure (.done (some (b6 a b (c.2.1.push y) c.2.2.1 (c.2.2.2.1+1)),c.2.1.push y,c.2.2.1,c.2.2.2.1+1,0,c.2.2.2.2.2+1))
   else if c.2.2.2.2.2+1>=mg then pure (.done (none,c.2.1.push y,c.2.2.1,c.2.2.2.1+1,0,c.2.2.2.2.2+1))
   else pure (.yield (none,c.2.1.push y,c.2.2.1,c.2.2.2.1+1,0,c.2.2.2.2.2+1))
  else do
   let x ← elem' a c.2.2.1
   if (c.2.2.1+1+1 == a.size)=true then pure (.done (some (eZ a b (c.2.1.push x) (c.2.2.1+1) c.2.2.2.1),c.2.1.push x,c.2.2.1+1,c.2.2.2.1,c.2.2.2.2.1+1,0))
   else if c.2.2.2.2.1+1>=mg then pure (.done (none,c.2.1.push x,c.2.2.1+1,c.2.2.2.1,c.2.2.2.2.1+1,0))
   else pure (.yield (none,c.2.1.push x,c.2.2.1+1,c.2.2.2.1,c.2.2.2.2.1+1,0))
 | _=>pure (.done (some (b6 a b c.2.1 c.2.2.1 c.2.2.2.1),c.2.1,c.2.2.1,c.2.2.2.1,c.2.2.2.2.1,c.2.2.2.2.2))
end
theorem ic {α:Type}{c:Prop}[Decidable c]{x y u v:α}(h1:x=u)(h2:y=v):(if c then x else y)=if c then u else v:=by rw[h1,h2]
theorem iQ (a b:Array Keyed):fR a b=(do
 rule "list.sort.merge-lo"
 let x0 ← elem' b 0
 if (1 == b.size)=true then pure (b6 a b #[x0] 0 1)
 else if (0+1 == a.size)=true then pure (eZ a b #[x0] 0 1)
 else do
  let st ← get
  let c ← forIn [0:a.size+b.size] ((none,#[x0],0,1,gallopOf st):Option (Array Keyed) × Array Keyed × Nat × Nat × Nat) fun _ c=>do
   let d ← forIn [0:a.size+b.size] ((none,c.2.1,c.2.2.1,c.2.2.2.1,0,0):MS) fun _ d=>ms a b c.2.2.2.2 d
   match d.1 with
   | some r=>pure (.done (some r,d.2.1,d.2.2.1,d.2.2.2.1,c.2.2.2.2))
   | none=>do
    liftM (rule "list.sort.gallop")
    let e ← forIn [0:a.size+b.size] ((none,d.2.1,d.2.2.1,d.2.2.2.1,c.2.2.2.2+1,d.2.2.2.2.1,d.2.2.2.2.2):LS) fun _ e=>Fz a b e
    match e.1 with
    | some r=>pure (.done (some r,e.2.1,e.2.2.1,e.2.2.2.1,e.2.2.2.2.1))
    | none=>do
     aN (e.2.2.2.2.1+1)
     pure (.yield (none,e.2.1,e.2.2.1,e.2.2.2.1,e.2.2.2.2.1+1))
  match c.1 with
  | some r=>pure r
  | none=>liftM (unsupported "internal:list.sort.merge-bound":Sem (Array Keyed))):=by
 rw[mT];dsimp only;refine congrArg _ (funext fun _=>?_);refine congrArg _ (funext fun x0=>?_);refine ic rfl (ic rfl ?_);refine congrArg _ (funext fun st=>?_);refine congr (congrArg _ (congrArg _ (funext fun _=>funext fun c=>?_))) (funext fun c=>?_)
 rotate_left
 ·obtain⟨r,_⟩:=c
  cases r <;> rfl
 refine congr (congrArg _ (congrArg _ (funext fun _=>funext fun d=>?_))) (funext fun d=>?_)
 ·unfold ms;refine congrArg _ (funext fun _=>?_);refine congrArg _ (funext fun _=>?_);refine congrArg _ (funext fun r=>?_)
  cases r <;> rfl
 obtain⟨r,d⟩:=d
 cases r with
 | some r=>rfl
 | none=>
  dsimp only;refine congrArg _ (funext fun _=>?_);refine congr (congrArg _ (congrArg _ (funext fun _=>funext fun e=>?_))) (funext fun e=>?_)
  rotate_left
  ·obtain⟨r,_⟩:=e
   cases r <;> rfl
  unfold Fz;refine ic ?_ ?_
  all_goals
   unfold DO;refine congrArg _ (funext fun _=>?_);refine congrArg _ (funext fun _=>?_);refine congrArg _ (funext fun r=>?_)
   cases r with
   | none=>rfl
   | some k=>
    dsimp only;refine ic (ic rfl (ic rfl ?_)) ?_
    all_goals
     unfold DP;refine congrArg _ (funext fun _=>?_);refine ic rfl ?_;unfold EU;refine congrArg _ (funext fun _=>?_);refine congrArg _ (funext fun r=>?_)
     cases r <;> rfl
theorem uv {rk:Keyed->Int}{l:List Keyed}(h:Le rk l){i j:Nat}(hij:i<=j)(hj:j<l.length):rk (l[i]'(by omega))<=rk l[j]:=by
 rcases Nat.lt_or_ge i j with h1|h1
 ·exact List.pairwise_iff_getElem.mp h i j (by omega) hj h1
 ·have:i=j:=by omega
  subst this;exact Int.le_refl _
theorem dC {rk:Keyed->Int}{l:List Keyed}(h:Le rk l)(i:Nat):Le rk (l.drop i):=List.Pairwise.sublist (List.drop_sublist _ _) h
theorem cA {rk:Keyed->Int}{l:List Keyed}(h:Le rk l)(i:Nat):Le rk (l.take i):=List.Pairwise.sublist (List.take_sublist _ _) h
theorem fN {rk:Keyed->Int}{x:Keyed}{l:List Keyed}(h:Le rk (x::l)):∀ y∈x::l,rk x<=rk y:=fun y hy=>by
 rcases List.mem_cons.mp hy with rfl|hy
 ·exact Int.le_refl _
 ·exact(List.pairwise_cons.mp h).1 y hy
section
variable {prog:Program}{w:World}{A:Around}{E:Value->Shared->Prop}{s:Shared}{κ:SortKind}{rk:Keyed->Int}{Gd:Keyed->Prop}{arr:Array Keyed}{p:Array (Nat × Nat × Nat)}
theorem jN (hc:jh prog w A s κ rk Gd){left:Bool}{key:Keyed}{a:Array Keyed}{base n hint:Nat}{Q:Option Nat->Prop}(hk:Gd key)(hG:∀ x∈a.toList,Gd x)(hs:Le rk ((a.toList.drop base).take n))(hn:base+n<=a.size)(hh:hint<n)
  (h:∀ k,k<=n->(∀ x∈(a.toList.drop base).take k,jF rk left key x=true)->(∀ x∈((a.toList.drop base).take n).drop k,jF rk left key x=false)->Q (some k)) :
  G prog w A E s κ arr p (bw left key a base n hint) Q:=by
 have hlen:((a.toList.drop base).take n).length=n:=by simp;omega
 have hat:∀ i (hi:i<n),((a.toList.drop base).take n)[i]'(by omega)=a[base+i]'(by omega):=fun i hi=>by simp
 refine bK (ua hc (fun i=>match a[base+i]? with|some x=>jF rk left key x|none=>false) hk hh (fun i hi=>?_) fun i j hij hj hb=>?_) ?_
 ·have e:a[base+i]?=some (a[base+i]'(by omega)):=Array.getElem?_eq_getElem _
  exact⟨_,e,hG _ (by simp),by rw[e]⟩
 ·have ei:a[base+i]?=some (a[base+i]'(by omega)):=Array.getElem?_eq_getElem _
  have ej:a[base+j]?=some (a[base+j]'(by omega)):=Array.getElem?_eq_getElem _
  have h1:=uv hs hij (by omega)
  rw[hat i (by omega),hat j hj]at h1
  rw[ej]at hb;rw[ei];dsimp only at hb ⊢;unfold jF at hb ⊢
  cases left with
  | true=>simp only[if_true,decide_eq_true_eq]at hb ⊢;omega
  | false=>simp only[Bool.false_eq_true,if_false,Bool.not_eq_true',decide_eq_false_iff_not]at hb ⊢;omega
 ·rintro r ⟨k,rfl,hkn,h1,h2⟩;refine h k hkn (fun x hx=>?_) (fun x hx=>?_)
  ·obtain⟨i,hi,rfl⟩:=List.mem_iff_getElem.mp hx;have hi':i<k:=by simp at hi;omega
   have:=h1 i hi';rw[Array.getElem?_eq_getElem (by omega)]at this
   simpa using this
  ·obtain⟨i,hi,rfl⟩:=List.mem_iff_getElem.mp hx;have hi':k+i<n:=by simp at hi;omega
   have:=h2 (k+i) (by omega) hi'
   rw[Array.getElem?_eq_getElem (by omega)]at this
   simpa using this
variable {a b:Array Keyed}{L:Keyed}{N:Nat}
def dQ (rk:Keyed->Int)(a b r:Array Keyed):Prop:=List.Perm r.toList (a.toList++b.toList)/\Le rk r.toList
structure wn (rk:Keyed->Int) (a b:Array Keyed) (L:Keyed) (N:Nat) (out:Array Keyed) (ia ib:Nat):Prop where
 j:J rk a.toList b.toList out.toList (a.toList.drop ia) (b.toList.drop ib) L
 ha:ia+1<a.size
 hb:ib<b.size
 n:(a.size-ia)+(b.size-ib)<=N
theorem bq {x:Array Keyed}{i:Nat}(h:i<x.size):x.toList.drop i=x[i]::x.toList.drop (i+1):=by
 rw[List.drop_eq_getElem_cons (by simpa using h)];simp
theorem fJ {out:Array Keyed}{ia ib:Nat}(j:J rk a.toList b.toList out.toList (a.toList.drop ia) (b.toList.drop ib) L)(hb:ib=b.size):dQ rk a b (b6 a b out ia ib):=by
 have h:=j.fin (by rw[hb];simp)
 unfold dQ b6;rw[hb];have e:(out++a.extract ia a.size++b.extract b.size b.size).toList=out.toList++a.toList.drop ia:=by simp[List.take_of_length_le]
 rw[e];exact h
theorem fK {out:Array Keyed}{ia ib:Nat}(j:J rk a.toList b.toList out.toList (a.toList.drop ia) (b.toList.drop ib) L)(ha:ia+1=a.size):dQ rk a b (eZ a b out ia ib):=by
 have h:=j.lst (by simp;omega)
 unfold dQ eZ;have e:(out++b.extract ib b.size++a.extract ia a.size).toList=out.toList++b.toList.drop ib++a.toList.drop ia:=by simp[List.take_of_length_le]
 rw[e];exact h
theorem pz {out:Array Keyed}{ia ib:Nat}(j:J rk a.toList b.toList out.toList (a.toList.drop ia) (b.toList.drop ib) L)(ha:ia+1<a.size)(hx:∀ y∈b.toList.drop ib,rk (a[ia]'(by omega))<=rk y) :
  J rk a.toList b.toList (out.push (a[ia]'(by omega))).toList (a.toList.drop (ia+1)) (b.toList.drop ib) L:=by
 rw[Array.toList_push];refine J.takeA (A1:=[a[ia]'(by omega)]) ?_ ?_ fun x hx' y hy=>?_
 ·rw[bq (by omega:ia<a.size)]at j;exact j
 ·intro e;have:=congrArg List.length e;simp at this;omega
 ·obtain rfl:=List.mem_singleton.mp hx';exact hx y hy
theorem pA {out:Array Keyed}{ia ib:Nat}(j:J rk a.toList b.toList out.toList (a.toList.drop ia) (b.toList.drop ib) L)(hb:ib<b.size)(hx:∀ x∈a.toList.drop ia,rk b[ib]<=rk x) :
  J rk a.toList b.toList (out.push b[ib]).toList (a.toList.drop ia) (b.toList.drop (ib+1)) L:=by
 rw[Array.toList_push];refine J.takeB (B1:=[b[ib]]) ?_ fun y hy x hx'=>?_
 ·rw[bq hb]at j;exact j
 ·obtain rfl:=List.mem_singleton.mp hy;exact hx x hx'
theorem A8 {out:Array Keyed}{ia ib k:Nat}(j:J rk a.toList b.toList out.toList (a.toList.drop ia) (b.toList.drop ib) L)(ha:ia+k<a.size)(hx:∀ x∈(a.toList.drop ia).take k,∀ y∈b.toList.drop ib,rk x<=rk y) :
  J rk a.toList b.toList (out++a.extract ia (ia+k)).toList (a.toList.drop (ia+k)) (b.toList.drop ib) L:=by
 have e:(out++a.extract ia (ia+k)).toList=out.toList++(a.toList.drop ia).take k:=by simp
 rw[e];refine J.takeA ?_ ?_ hx
 ·rw[<-List.drop_drop,List.take_append_drop];exact j
 ·intro e;have:=congrArg List.length e;simp at this;omega
theorem um {out:Array Keyed}{ia ib k:Nat}(j:J rk a.toList b.toList out.toList (a.toList.drop ia) (b.toList.drop ib) L)(hx:∀ y∈(b.toList.drop ib).take k,∀ x∈a.toList.drop ia,rk y<=rk x) :
  J rk a.toList b.toList (out++b.extract ib (ib+k)).toList (a.toList.drop ia) (b.toList.drop (ib+k)) L:=by
 have e:(out++b.extract ib (ib+k)).toList=out.toList++(b.toList.drop ib).take k:=by simp
 rw[e];refine J.takeB ?_ hx;rw[<-List.drop_drop,List.take_append_drop];exact j
def EO (rk:Keyed->Int)(a b:Array Keyed)(L:Keyed)(N:Nat)(c:LS):Prop:=c.1=none/\wn rk a b L N c.2.1 c.2.2.1 c.2.2.2.1
def Gn (rk:Keyed->Int)(a b:Array Keyed)(L:Keyed)(N:Nat)(c:LS):Prop:=(∃ r,c.1=some r/\dQ rk a b r)\/EO rk a b L N c
def oX (rk:Keyed->Int)(a b:Array Keyed)(L:Keyed)(N:Nat):ForInStep LS->Prop
 | .done c=>Gn rk a b L N c
 | .yield c=>EO rk a b L N c
theorem zj (hG:∀ x∈a.toList,Gd x){out:Array Keyed}{ia ib mg k k1:Nat}(I:wn rk a b L N out ia ib)(hx:∀ y∈b.toList.drop ib,rk (a[ia]'(by have:=I.ha;omega))<=rk y) :
  G prog w A E s κ arr p (EV a b out ia ib mg k k1) (oX rk a b L N):=by
 obtain⟨j,h1,h2,h3⟩:=I;have j':=pz j h1 hx;unfold EV;refine au (a9 (Array.getElem?_eq_getElem (by omega)) ?_)
 by_cases hl:ia+1+1=a.size
 ·rw[if_pos (by simpa using hl)]
  exact ap (.inl ⟨_,rfl,fK j' hl⟩)
 ·rw[if_neg (by simpa using hl)]
  have st:∀ mg k k1,EO rk a b L N (none,out.push (a[ia]'(by omega)),ia+1,ib,mg,k,k1):=fun mg k k1=>⟨rfl,j',by show ia+1+1<a.size;omega,h2,by show(a.size-(ia+1))+(b.size-ib)<=N;omega⟩
  split
  ·exact ap (.inr (st _ _ _))
  ·exact ap (st _ _ _)
theorem DM (hc:jh prog w A s κ rk Gd)(hG:∀ x∈a.toList,Gd x)(hG2:∀ x∈b.toList,Gd x)(sa:Le rk a.toList)(sb:Le rk b.toList){out:Array Keyed}{ia ib mg k bc:Nat}(I:wn rk a b L N out ia ib) :
  G prog w A E s κ arr p (EU a b out ia ib mg k bc) (oX rk a b L N):=by
 obtain⟨j,h1,h2,h3⟩:=I;have hia:ia<a.size:=by omega
 unfold EU;refine au (a9 (Array.getElem?_eq_getElem hia) ?_);refine au (jN hc (hG _ (by simp)) hG2 (cA (dC sb _) _) (by omega) (by omega) fun k1 hk1 g1 g2=>?_)
 dsimp only;have e:(b.toList.drop ib).take (b.size-ib)=b.toList.drop ib:=List.take_of_length_le (by simp)
 rw[e,List.drop_drop]at g2;have q1:∀ y∈(b.toList.drop ib).take k1,∀ x∈a.toList.drop ia,rk y<=rk x:=fun y hy x hx=>by
  have:=g1 y hy;simp only[jF,if_true,decide_eq_true_eq]at this;rw[bq hia]at hx;have h5:=fN (by rw[<-bq hia];exact dC sa _) x hx
  omega
 have q2:∀ y∈b.toList.drop (ib+k1),rk a[ia]<=rk y:=fun y hy=>by
  have:=g2 y hy;simp only[jF,if_true,decide_eq_false_iff_not]at this;omega
 by_cases hk:k1>0
 ·rw[if_pos hk]
  by_cases hl:ib+k1=b.size
  ·rw[if_pos (by simpa using hl)]
   exact ap (.inl ⟨_,rfl,fJ (um j q1) hl⟩)
  ·rw[if_neg (by simpa using hl)]
   exact zj hG ⟨um j q1,h1,by omega,by omega⟩ q2
 ·rw[if_neg hk];obtain rfl:k1=0:=by omega
  exact zj hG ⟨j,h1,h2,h3⟩ q2
theorem zi (hc:jh prog w A s κ rk Gd)(hG:∀ x∈a.toList,Gd x)(hG2:∀ x∈b.toList,Gd x)(sa:Le rk a.toList)(sb:Le rk b.toList){out:Array Keyed}{ia ib mg k bc:Nat}(I:wn rk a b L N out ia ib)
  (hx:∀ x∈a.toList.drop ia,rk (b[ib]'(I.hb))<=rk x):G prog w A E s κ arr p (DP a b out ia ib mg k bc) (oX rk a b L N):=by
 obtain⟨j,h1,h2,h3⟩:=I;unfold DP;refine au (a9 (Array.getElem?_eq_getElem h2) ?_);have j':=pA j h2 hx
 by_cases hl:ib+1=b.size
 ·rw[if_pos (by simpa using hl)]
  exact ap (.inl ⟨_,rfl,fJ j' hl⟩)
 ·rw[if_neg (by simpa using hl)]
  exact DM hc hG hG2 sa sb ⟨j',h1,by omega,by omega⟩
theorem zh (hc:jh prog w A s κ rk Gd)(hG:∀ x∈a.toList,Gd x)(hG2:∀ x∈b.toList,Gd x)(sa:Le rk a.toList)(sb:Le rk b.toList){out:Array Keyed}{ia ib mg ac bc:Nat}(I:wn rk a b L N out ia ib) :
  G prog w A E s κ arr p (DO a b out ia ib mg ac bc) (oX rk a b L N):=by
 obtain⟨j,h1,h2,h3⟩:=I;unfold DO;refine au (oU ?_);refine au (a9 (Array.getElem?_eq_getElem h2) ?_);refine au (jN hc (hG2 _ (by simp)) hG (cA (dC sa _) _) (by omega) (by omega) fun k hk1 g1 g2=>?_)
 dsimp only;have e:(a.toList.drop ia).take (a.size-ia)=a.toList.drop ia:=List.take_of_length_le (by simp)
 rw[e,List.drop_drop]at g2;have q1:∀ x∈(a.toList.drop ia).take k,∀ y∈b.toList.drop ib,rk x<=rk y:=fun x hx y hy=>by
  have:=g1 x hx;simp only[jF,Bool.false_eq_true,if_false,Bool.not_eq_true',decide_eq_false_iff_not]at this;rw[bq h2]at hy;have h5:=fN (by rw[<-bq h2];exact dC sb _) y hy
  omega
 have q2:∀ x∈a.toList.drop (ia+k),rk b[ib]<=rk x:=fun x hx=>by
  have:=g2 x hx;simp only[jF,Bool.false_eq_true,if_false,Bool.not_eq_false',decide_eq_true_eq]at this;omega
 have hlt:ia+k<a.size:=by
  rcases Nat.lt_or_ge (ia+k) a.size with h|h
  ·exact h
  ·have hk:k=a.size-ia:=by omega
   rw[hk,e]at g1;have hL:L∈a.toList.drop ia:=List.mem_of_getLast? j.la;have h4:=g1 L hL;have h5:=j.lb b[ib] (by rw[bq h2];exact List.mem_cons_self)
   simp only[jF,Bool.false_eq_true,if_false,Bool.not_eq_true',decide_eq_false_iff_not]at h4;omega
 by_cases hk:k>0
 ·rw[if_pos hk];have j':=A8 j hlt q1
  by_cases hl:ia+k+1=a.size
  ·rw[if_pos (by simpa using hl)]
   exact ap (.inl ⟨_,rfl,fK j' hl⟩)
  ·rw[if_neg (by simpa using hl),if_neg (by simp;omega)]
   exact zi hc hG hG2 sa sb ⟨j',by omega,h2,by omega⟩ q2
 ·rw[if_neg hk];obtain rfl:k=0:=by omega
  exact zi hc hG hG2 sa sb ⟨j,h1,h2,h3⟩ q2
def zQ (rk:Keyed->Int)(a b:Array Keyed)(L:Keyed)(N:Nat)(c:MS):Prop:=c.1=none/\wn rk a b L N c.2.1 c.2.2.1 c.2.2.2.1
def Gp (rk:Keyed->Int)(a b:Array Keyed)(L:Keyed)(N:Nat)(c:MS):Prop:=(∃ r,c.1=some r/\dQ rk a b r)\/zQ rk a b L N c
theorem Fy (hc:jh prog w A s κ rk Gd)(hG:∀ x∈a.toList,Gd x)(hG2:∀ x∈b.toList,Gd x)(sa:Le rk a.toList)(sb:Le rk b.toList){mg:Nat}{c:MS}(I:zQ rk a b L (N+1) c) :
  G prog w A E s κ arr p (ms a b mg c) fun r=>match r with|.done c=>Gp rk a b L N c|.yield c=>zQ rk a b L N c:=by
 obtain⟨r,out,ia,ib,ac,bc⟩:=c;obtain⟨hr,j,h1,h2,h3⟩:=I;dsimp only at j h1 h2 h3;have hia:ia<a.size:=by omega
 unfold ms;dsimp only;refine au (a9 (Array.getElem?_eq_getElem h2) ?_);refine au (a9 (Array.getElem?_eq_getElem hia) ?_);refine au (wF hc (hG2 _ (by simp)) (hG _ (by simp)) ?_)
 dsimp only;have ja:=dC sa ia;have jb:=dC sb ib
 by_cases hlt:rk b[ib]<rk a[ia]
 ·rw[decide_eq_true hlt,if_pos rfl];refine au (a9 (Array.getElem?_eq_getElem h2) ?_);have j':=pA j h2 fun x hx=>by
   rw[bq hia]at hx ja;have:=fN ja x hx;omega
  by_cases hl:ib+1=b.size
  ·rw[if_pos (by simpa using hl)]
   exact ap (.inl ⟨_,rfl,fJ j' hl⟩)
  ·rw[if_neg (by simpa using hl)]
   have st:∀ x y,zQ rk a b L N (none,out.push b[ib],ia,ib+1,x,y):=fun x y=>⟨rfl,j',h1,by show ib+1<b.size;omega,by show(a.size-ia)+(b.size-(ib+1))<=N;omega⟩
   split
   ·exact ap (.inr (st _ _))
   ·exact ap (st _ _)
 ·rw[decide_eq_false hlt,if_neg (by simp)]
  refine au (a9 (Array.getElem?_eq_getElem hia) ?_);have j':=pz j h1 fun y hy=>by
   rw[bq h2]at hy jb;have:=fN jb y hy;omega
  by_cases hl:ia+1+1=a.size
  ·rw[if_pos (by simpa using hl)]
   exact ap (.inl ⟨_,rfl,fK j' hl⟩)
  ·rw[if_neg (by simpa using hl)]
   have st:∀ x y,zQ rk a b L N (none,out.push a[ia],ia+1,ib,x,y):=fun x y=>⟨rfl,j',by show ia+1+1<a.size;omega,h2,by show(a.size-(ia+1))+(b.size-ib)<=N;omega⟩
   split
   ·exact ap (.inr (st _ _))
   ·exact ap (st _ _)
theorem wn.weak {out:Array Keyed}{ia ib N M:Nat}(h:wn rk a b L N out ia ib)(hm:N<=M):wn rk a b L M out ia ib:=⟨h.j,h.ha,h.hb,Nat.le_trans h.n hm⟩
theorem qB (hc:jh prog w A s κ rk Gd)(hG:∀ x∈a.toList,Gd x)(hG2:∀ x∈b.toList,Gd x)(sa:Le rk a.toList)(sb:Le rk b.toList)(hb0:0<b.size)(hL:a.toList.getLast?=some L)(hlb:∀ y∈b.toList,rk y<rk L)
  (h0:∀ x∈a.toList,rk b[0]<=rk x):G prog w A E s κ arr p (fR a b) (dQ rk a b):=by
 have ha0:0<a.size:=by
  have:=List.mem_of_getLast? hL;have:=List.length_pos_of_mem this;simpa using this
 have J0:J rk a.toList b.toList (#[b[0]]:Array Keyed).toList (a.toList.drop 0) (b.toList.drop 1) L:=by
  have e:b.toList=b[0]::b.toList.drop 1:=by have:=bq hb0;simpa using this
  refine⟨?_,?_,?_,by simpa using hL,fun y hy=>hlb y (List.mem_of_mem_drop hy)⟩
  ·have h1:List.Perm ([b[0]]++a.toList++b.toList.drop 1) (a.toList++b.toList):=by
    have h2:List.Perm ([b[0]]++a.toList) (a.toList++[b[0]]):=List.perm_append_comm;have h3:=h2.append_right (b.toList.drop 1);rw[List.append_assoc a.toList,show [b[0]]++b.toList.drop 1=b.toList from e.symm]at h3;exact h3
   simpa using h1
  ·refine le_app.mpr ⟨by simp[Le],by simpa using sa,fun x hx y hy=>?_⟩
   obtain rfl:x=b[0]:=by simpa using hx
   exact h0 y (by simpa using hy)
  ·have h1:Le rk (b[0]::b.toList.drop 1):=by rw[<-e];exact sb
   simpa using h1
 rw[iQ];refine au (ko ?_);refine au (a9 (Array.getElem?_eq_getElem hb0) ?_)
 by_cases hb1:1=b.size
 ·rw[if_pos (by simpa using hb1)]
  exact ap (fJ J0 hb1)
 rw[if_neg (by simpa using hb1)]
 by_cases ha1:0+1=a.size
 ·rw[if_pos (by simpa using ha1)]
  exact ap (fK J0 ha1)
 rw[if_neg (by simpa using ha1)]
 refine au (y8 fun st=>?_);refine au (bK (fy (I:=fun i c=>c.1=none/\wn rk a b L (a.size+b.size-i) c.2.1 c.2.2.1 c.2.2.2.1) (Q:=fun c=>∃ r,c.1=some r/\dQ rk a b r) ?step ?fin ⟨rfl,J0,by show 0+1<a.size;omega,by show 1<b.size;omega,by show(a.size-0)+(b.size-1)<=_;omega⟩) ?post)
 case fin=>
  rintro c ⟨_,_,g1,g2,g3⟩;rw[show max 0 (a.size+b.size)=a.size+b.size by omega]at g3
  omega
 case post=>
  rintro⟨r,c⟩ ⟨r',hr,hf⟩;dsimp only at hr;subst hr;exact ap hf
 case step=>
  rintro i ⟨r,out,ia,ib,mg⟩ _ hi ⟨_,I⟩;dsimp only at I ⊢;obtain⟨N,hN⟩:∃ N,a.size+b.size-i=N+1:=⟨a.size+b.size-i-1,by omega⟩
  rw[hN]at I;refine au (bK (fy (I:=fun x d=>zQ rk a b L (N+1) d/\(0<x->zQ rk a b L N d)) (Q:=Gp rk a b L N) ?_ ?_ ⟨⟨rfl,I⟩,fun h=>absurd h (by omega)⟩) ?_)
  ·rintro x d _ hx ⟨g1,g2⟩;refine bK (Fy hc hG hG2 sa sb g1) fun r hr=>?_
   cases r with
   | done c=>exact hr
   | yield c=>exact⟨⟨hr.1,hr.2.weak (by omega)⟩,fun _=>hr⟩
  ·rintro d ⟨_,g2⟩;exact .inr (g2 (by omega))
  ·rintro⟨r,out,ia,ib,ac,bc⟩ (⟨r',hr,hf⟩|⟨hr,I'⟩)
   ·dsimp only at hr;subst hr;exact ap ⟨r',rfl,hf⟩
   ·dsimp only at hr I';subst hr;dsimp only;refine au (ko ?_);refine au (bK (fy (I:=fun x e=>EO rk a b L N e) (Q:=Gn rk a b L N) ?_ ?_ ⟨rfl,I'⟩) ?_)
    ·rintro x e _ hx ⟨he,I2⟩;unfold Fz
     split
     ·refine bK (zh hc hG hG2 sa sb I2) fun r hr=>?_
      cases r with
      | done c=>exact hr
      | yield c=>exact hr
     ·refine bK (zh hc hG hG2 sa sb I2) fun r hr=>?_
      cases r with
      | done c=>exact hr
      | yield c=>exact hr
    ·rintro e he;exact .inr he
    ·rintro⟨r,out,ia,ib,mg',ac,bc⟩ (⟨r',hr,hf⟩|⟨hr,I2⟩)
     ·dsimp only at hr;subst hr;exact ap ⟨r',rfl,hf⟩
     ·dsimp only at hr I2;subst hr;dsimp only;refine au (oU (ap ⟨rfl,I2.weak (by omega)⟩))
end
end SR
set_option maxHeartbeats 3200000
namespace SR
open PySem PyProof.Rows
section
variable (a b:Array Keyed)
def EY (na nb:Nat)(out:Array Keyed)(mg k k1:Nat):StateT SortSt Sem (ForInStep (Option (Array Keyed) × Nat × Nat × Array Keyed × Nat × Nat × Nat)):=do
 let x ← elem' a (na-1)
 if (na-1 == 0)=true then pure (.done (some (b0 a b (out.push x) (na-1) nb),na-1,nb,out.push x,mg,k,k1))
 else if (decide (k<7) && decide (k1<7))=true then pure (.done (none,na-1,nb,out.push x,mg,k,k1))
 else pure (.yield (none,na-1,nb,out.push x,mg,k,k1))
def Cy (na nb:Nat)(out:Array Keyed)(mg k bc:Nat):StateT SortSt Sem (ForInStep (Option (Array Keyed) × Nat × Nat × Array Keyed × Nat × Nat × Nat)):=do
 let x ← elem' a (na-1)
 let r ← bw true x b 0 nb (nb-1)
 match r with
 | some t=>
  if nb-t>0 then
   if (t == 1)=true then pure (.done (some (c9 a b (out++(b.extract t nb).reverse) na t),na,t,out++(b.extract t nb).reverse,mg,k,nb-t))
   else if (t == 0)=true then pure (.done (some (b0 a b (out++(b.extract t nb).reverse) na t),na,t,out++(b.extract t nb).reverse,mg,k,nb-t))
   else EY a b na t (out++(b.extract t nb).reverse) mg k (nb-t)
  else EY a b na nb out mg k (nb-t)
 | _=>pure (.done (some (b0 a b out na nb),na,nb,out,mg,k,bc))
def ww (na nb:Nat)(out:Array Keyed)(mg k bc:Nat):StateT SortSt Sem (ForInStep (Option (Array Keyed) × Nat × Nat × Array Keyed × Nat × Nat × Nat)):=do
 let y ← elem' b (nb-1)
 if (nb-1 == 1)=true then pure (.done (some (c9 a b (out.push y) na (nb-1)),na,nb-1,out.push y,mg,k,bc))
 else Cy a b na (nb-1) (out.push y) mg k bc
def nA (na nb:Nat)(out:Array Keyed)(mg ac bc:Nat):StateT SortSt Sem (ForInStep (Option (Array Keyed) × Nat × Nat × Array Keyed × Nat × Nat × Nat)):=do
 aN mg
 let y ← elem' b (nb-1)
 let r ← bw false y a 0 na (na-1)
 match r with
 | some t=>
  if na-t>0 then
   if (t == 0)=true then pure (.done (some (b0 a b (out++(a.extract t na).reverse) t nb),t,nb,out++(a.extract t na).reverse,mg,na-t,bc))
   else ww a b t nb (out++(a.extract t na).reverse) mg (na-t) bc
  else ww a b na nb out mg (na-t) bc
 | _=>pure (.done (some (b0 a b out na nb),na,nb,out,mg,ac,bc))
def FA (c:Option (Array Keyed) × Nat × Nat × Array Keyed × Nat × Nat × Nat):StateT SortSt Sem (ForInStep (Option (Array Keyed) × Nat × Nat × Array Keyed × Nat × Nat × Nat)):=
 if c.2.2.2.2.1>1 then nA a b c.2.1 c.2.2.1 c.2.2.2.1 (c.2.2.2.2.1-1) c.2.2.2.2.2.1 c.2.2.2.2.2.2
 else nA a b c.2.1 c.2.2.1 c.2.2.2.1 c.2.2.2.2.1 c.2.2.2.2.2.1 c.2.2.2.2.2.2
def hm (mg:Nat)(c:Option (Array Keyed) × Nat × Nat × Array Keyed × Nat × Nat):StateT SortSt Sem (ForInStep (Option (Array Keyed) × Nat × Nat × Array Keyed × Nat × Nat)):=do
 let y ← elem' b (c.2.2.1-1)
 let x ← elem' a (c.2.1-1)
 let r ← lt' y x
 match r with
 | some aWins=>
  if aWins=true then do
   let x ← elem' a (c.2.1-1)
   if (c.2.1-1 == 0)=true then pure (.done (some (b0 a b (c.2.2.2.1.push x) (c.2.1-1) c.2.2.1),c.2.1-1,c.2.2.1,c.2.2.2.1.push x,c.2.2.2.2.1+1,0))
   else if c.2.2.2.2.1+1>=mg then pure (.done (none,c.2.1-1,c.2.2.1,c.2.2.2.1.push x,c.2.2.2.2.1+1,0))
   else pure (.yield (none,c.2.1-1,c.2.2.1,c.2.2.2.1.push x,c.2.2.2.2.1+1,0))
  else do
   let y ← elem' b (c.2.2.1-1)
   if (c.2.2.1-1 == 1)=true then pure (.done (some (c9 a b (c.2.2.2.1.push y) c.2.1 (c.2.2.1-1)),c.2.1,c.2.2.1-1,c.2.2.2.1.push y,0,c.2.2.2.2.2+1))
   else if c.2.2.2.2.2+1>=mg then pure (.done (none,c.2.1,c.2.2.1-1,c.2.2.2.1.push y,0,c.2.2.2.2.2+1))
   else pure (.yield (none,c.2.1,c.2.2.1-1,c.2.2.2.1.push y,0,c.2.2.2.2.2+1))
 | _=>pure (.done (some (b0 a b c.2.2.2.1 c.2.1 c.2.2.1),c.2.1,c.2.2.1,c.2.2.2.1,c.2.2.2.2.1,c.2.2.2.2.2))
end
theorem iP (a b:Array Keyed):fQ a b=(do
 rule "list.sort.merge-hi"
 let x0 ← elem' a (a.size-1)
 if (a.size-1 == 0)=true then pure (b0 a b #[x0] (a.size-1) b.size)
 else if (b.size == 1)=true then pure (c9 a b #[x0] (a.size-1) b.size)
 else do
  let st ← get
  let c ← forIn [0:a.size+b.size] ((none,a.size-1,b.size,#[x0],gallopOf st):Option (Array Keyed) × Nat × Nat × Array Keyed × Nat) fun _ c=>do
   let d ← forIn [0:a.size+b.size] ((none,c.2.1,c.2.2.1,c.2.2.2.1,0,0):Option (Array Keyed) × Nat × Nat × Array Keyed × Nat × Nat) fun _ d=>hm a b c.2.2.2.2 d
   match d.1 with
   | some r=>pure (.done (some r,d.2.1,d.2.2.1,d.2.2.2.1,c.2.2.2.2))
   | none=>do
    liftM (rule "list.sort.gallop")
    let e ← forIn [0:a.size+b.size] ((none,d.2.1,d.2.2.1,d.2.2.2.1,c.2.2.2.2+1,d.2.2.2.2.1,d.2.2.2.2.2):Option (Array Keyed) × Nat × Nat × Array Keyed × Nat × Nat × Nat) fun _ e=>FA a b e
    match e.1 with
    | some r=>pure (.done (some r,e.2.1,e.2.2.1,e.2.2.2.1,e.2.2.2.2.1))
    | none=>do
     aN (e.2.2.2.2.1+1)
     pure (.yield (none,e.2.1,e.2.2.1,e.2.2.2.1,e.2.2.2.2.1+1))
  match c.1 with
  | some r=>pure r
  | none=>liftM (unsupported "internal:list.sort.merge-bound":Sem (Array Keyed))):=by
 rw[mS];dsimp only;refine congrArg _ (funext fun _=>?_);refine congrArg _ (funext fun x0=>?_);refine ic rfl (ic rfl ?_);refine congrArg _ (funext fun st=>?_);refine congr (congrArg _ (congrArg _ (funext fun _=>funext fun c=>?_))) (funext fun c=>?_)
 rotate_left
 ·obtain⟨r,_⟩:=c
  cases r <;> rfl
 refine congr (congrArg _ (congrArg _ (funext fun _=>funext fun d=>?_))) (funext fun d=>?_)
 ·unfold hm;refine congrArg _ (funext fun _=>?_);refine congrArg _ (funext fun _=>?_);refine congrArg _ (funext fun r=>?_)
  cases r <;> rfl
 obtain⟨r,d⟩:=d
 cases r with
 | some r=>rfl
 | none=>
  dsimp only;refine congrArg _ (funext fun _=>?_);refine congr (congrArg _ (congrArg _ (funext fun _=>funext fun e=>?_))) (funext fun e=>?_)
  rotate_left
  ·obtain⟨r,_⟩:=e
   cases r <;> rfl
  unfold FA;refine ic ?_ ?_
  all_goals
   unfold nA;refine congrArg _ (funext fun _=>?_);refine congrArg _ (funext fun _=>?_);refine congrArg _ (funext fun r=>?_)
   cases r with
   | none=>rfl
   | some k=>
    dsimp only;refine ic (ic rfl ?_) ?_
    all_goals
     unfold ww;refine congrArg _ (funext fun _=>?_);refine ic rfl ?_;unfold Cy;refine congrArg _ (funext fun _=>?_);refine congrArg _ (funext fun r=>?_)
     cases r <;> rfl
abbrev HS:=Option (Array Keyed) × Nat × Nat × Array Keyed × Nat × Nat × Nat
abbrev HM:=Option (Array Keyed) × Nat × Nat × Array Keyed × Nat × Nat
section
variable {prog:Program}{w:World}{A:Around}{E:Value->Shared->Prop}{s:Shared}{κ:SortKind}{rk:Keyed->Int}{Gd:Keyed->Prop}{arr:Array Keyed}{p:Array (Nat × Nat × Nat)}
variable {a b:Array Keyed}{F:Keyed}{N:Nat}
structure wm (rk:Keyed->Int) (a b:Array Keyed) (F:Keyed) (N:Nat) (out:Array Keyed) (na nb:Nat):Prop where
 j:Jh rk a.toList b.toList out.toList.reverse (a.toList.take na) (b.toList.take nb) F
 ha:0<na
 ha':na<=a.size
 hb:1<nb
 hb':nb<=b.size
 n:na+nb<=N
theorem bA {x:Array Keyed}{n:Nat}(h0:0<n)(h:n<=x.size):x.toList.take n=x.toList.take (n-1)++[x[n-1]]:=by
 obtain⟨m,rfl⟩:∃ m,n=m+1:=⟨n-1,by omega⟩
 rw[List.take_succ];simp only[Nat.add_sub_cancel];have e:x.toList[m]?=some x[m]:=by rw[Array.getElem?_toList,Array.getElem?_eq_getElem (by omega)]
 rw[e]
 rfl
theorem fO {rk:Keyed->Int}{l:List Keyed}{x:Keyed}(h:Le rk (l++[x])):∀ y∈l++[x],rk y<=rk x:=fun y hy=>by
 rcases List.mem_append.mp hy with q|q
 ·exact(le_app.mp h).2.2 y q x (by simp)
 ·obtain rfl:=List.mem_singleton.mp q;exact Int.le_refl _
theorem eE {out:Array Keyed}{na nb:Nat}(j:Jh rk a.toList b.toList out.toList.reverse (a.toList.take na) (b.toList.take nb) F)(ha:na=0):dQ rk a b (b0 a b out na nb):=by
 have h:=j.fin (by rw[ha];simp)
 unfold dQ b0;rw[ha];have e:(a.extract 0 0++b.extract 0 nb++out.reverse).toList=b.toList.take nb++out.toList.reverse:=by simp
 rw[e];exact h
theorem dB {out:Array Keyed}{na nb:Nat}(j:Jh rk a.toList b.toList out.toList.reverse (a.toList.take na) (b.toList.take nb) F)(hb:nb=1)(hb0:0<b.size):dQ rk a b (c9 a b out na nb):=by
 have h:=j.fst (by rw[hb];simp;omega)
 unfold dQ c9;have e:(b.extract 0 nb++a.extract 0 na++out.reverse).toList=b.toList.take nb++a.toList.take na++out.toList.reverse:=by simp
 rw[e];exact h
theorem mC {out:Array Keyed}{na nb:Nat}(j:Jh rk a.toList b.toList out.toList.reverse (a.toList.take na) (b.toList.take nb) F)(h0:0<na)(ha:na<=a.size)(hx:∀ y∈b.toList.take nb,rk y<=rk a[na-1]) :
  Jh rk a.toList b.toList (out.push a[na-1]).toList.reverse (a.toList.take (na-1)) (b.toList.take nb) F:=by
 have e:(out.push a[na-1]).toList.reverse=[a[na-1]]++out.toList.reverse:=by simp
 rw[e];refine Jh.takeA ?_ fun x hx' y hy=>?_
 ·rw[<-bA h0 ha];exact j
 ·obtain rfl:=List.mem_singleton.mp hx';exact hx y hy
theorem mD {out:Array Keyed}{na nb:Nat}(j:Jh rk a.toList b.toList out.toList.reverse (a.toList.take na) (b.toList.take nb) F)(h0:1<nb)(hb:nb<=b.size)(hx:∀ x∈a.toList.take na,rk x<=rk b[nb-1]) :
  Jh rk a.toList b.toList (out.push b[nb-1]).toList.reverse (a.toList.take na) (b.toList.take (nb-1)) F:=by
 have e:(out.push b[nb-1]).toList.reverse=[b[nb-1]]++out.toList.reverse:=by simp
 rw[e];refine Jh.takeB ?_ ?_ fun y hy x hx'=>?_
 ·rw[<-bA (by omega) hb];exact j
 ·intro e;have:=congrArg List.length e;rw[List.length_take,List.length_nil,Array.length_toList]at this;omega
 ·obtain rfl:=List.mem_singleton.mp hy;exact hx x hx'
theorem xK {out:Array Keyed}{na nb t:Nat}(j:Jh rk a.toList b.toList out.toList.reverse (a.toList.take na) (b.toList.take nb) F)(ht:t<=na)(hx:∀ x∈(a.toList.take na).drop t,∀ y∈b.toList.take nb,rk y<=rk x) :
  Jh rk a.toList b.toList (out++(a.extract t na).reverse).toList.reverse (a.toList.take t) (b.toList.take nb) F:=by
 have e:(out++(a.extract t na).reverse).toList.reverse=(a.toList.take na).drop t++out.toList.reverse:=by simp[List.drop_take]
 rw[e];refine Jh.takeA ?_ hx;have e2:a.toList.take t=(a.toList.take na).take t:=by rw[List.take_take];congr 1;omega
 rw[e2,List.take_append_drop];exact j
theorem xL {out:Array Keyed}{na nb t:Nat}(j:Jh rk a.toList b.toList out.toList.reverse (a.toList.take na) (b.toList.take nb) F)(ht:t<=nb)(ht0:0<t)(hb:nb<=b.size)(hx:∀ y∈(b.toList.take nb).drop t,∀ x∈a.toList.take na,rk x<=rk y) :
  Jh rk a.toList b.toList (out++(b.extract t nb).reverse).toList.reverse (a.toList.take na) (b.toList.take t) F:=by
 have e:(out++(b.extract t nb).reverse).toList.reverse=(b.toList.take nb).drop t++out.toList.reverse:=by simp[List.drop_take]
 rw[e];have e2:b.toList.take t=(b.toList.take nb).take t:=by rw[List.take_take];congr 1;omega
 refine Jh.takeB ?_ ?_ hx
 ·rw[e2,List.take_append_drop];exact j
 ·intro e;have:=congrArg List.length e;rw[List.length_take,List.length_nil,Array.length_toList]at this;omega
def EN (rk:Keyed->Int)(a b:Array Keyed)(F:Keyed)(N:Nat)(c:HS):Prop:=c.1=none/\wm rk a b F N c.2.2.2.1 c.2.1 c.2.2.1
def Gm (rk:Keyed->Int)(a b:Array Keyed)(F:Keyed)(N:Nat)(c:HS):Prop:=(∃ r,c.1=some r/\dQ rk a b r)\/EN rk a b F N c
def oW (rk:Keyed->Int)(a b:Array Keyed)(F:Keyed)(N:Nat):ForInStep HS->Prop
 | .done c=>Gm rk a b F N c
 | .yield c=>EN rk a b F N c
theorem zm {out:Array Keyed}{na nb mg k k1:Nat}(I:wm rk a b F N out na nb)(hx:∀ y∈b.toList.take nb,rk y<=rk (a[na-1]'(by have:=I.ha;have:=I.ha';omega))) :
  G prog w A E s κ arr p (EY a b na nb out mg k k1) (oW rk a b F N):=by
 obtain⟨j,h1,h1',h2,h2',h3⟩:=I;have j':=mC j h1 h1' hx;unfold EY;refine au (a9 (Array.getElem?_eq_getElem (by omega)) ?_)
 by_cases hl:na-1=0
 ·rw[if_pos (by simpa using hl)]
  exact ap (.inl ⟨_,rfl,eE j' hl⟩)
 ·rw[if_neg (by simpa using hl)]
  have st:∀ mg k k1,EN rk a b F N (none,na-1,nb,out.push (a[na-1]'(by omega)),mg,k,k1):=fun mg k k1=>⟨rfl,j',by show 0<na-1;omega,by show na-1<=a.size;omega,h2,h2',by show na-1+nb<=N;omega⟩
  split
  ·exact ap (.inr (st _ _ _))
  ·exact ap (st _ _ _)
theorem DN (hc:jh prog w A s κ rk Gd)(hG:∀ x∈a.toList,Gd x)(hG2:∀ x∈b.toList,Gd x)(sa:Le rk a.toList)(sb:Le rk b.toList){out:Array Keyed}{na nb mg k bc:Nat}(I:wm rk a b F N out na nb) :
  G prog w A E s κ arr p (Cy a b na nb out mg k bc) (oW rk a b F N):=by
 obtain⟨j,h1,h1',h2,h2',h3⟩:=I;have hna:na-1<a.size:=by omega
 unfold Cy;refine au (a9 (Array.getElem?_eq_getElem hna) ?_);refine au (jN hc (hG _ (by simp)) hG2 (by simpa using cA sb nb) (by omega) (by omega) fun t ht g1 g2=>?_)
 dsimp only;rw[List.drop_zero]at g1 g2;have ja:=cA sa na;rw[bA h1 h1']at ja;have q1:∀ y∈(b.toList.take nb).drop t,∀ x∈a.toList.take na,rk x<=rk y:=fun y hy x hx=>by
  have:=g2 y hy;simp only[jF,if_true,decide_eq_false_iff_not]at this;rw[bA h1 h1']at hx;have h5:=fO ja x hx;omega
 have q2:∀ y∈b.toList.take t,rk y<=rk a[na-1]:=fun y hy=>by
  have:=g1 y hy;simp only[jF,if_true,decide_eq_true_eq]at this;omega
 have ht0:0<t:=by
  rcases Nat.lt_or_ge 0 t with h|h
  ·exact h
  ·obtain rfl:t=0:=by omega
   rw[List.drop_zero]at g2;have h4:=g2 F (List.mem_of_mem_head? j.fb);have h5:=j.lb a[na-1] (by rw[bA h1 h1'];simp)
   simp only[jF,if_true,decide_eq_false_iff_not]at h4;omega
 by_cases hk:nb-t>0
 ·rw[if_pos hk];have j':=xL j ht ht0 h2' q1
  by_cases hl:t=1
  ·rw[if_pos (by simpa using hl)]
   exact ap (.inl ⟨_,rfl,dB j' hl (by omega)⟩)
  ·rw[if_neg (by simpa using hl),if_neg (by simp;omega)]
   exact zm ⟨j',h1,h1',by omega,by omega,by omega⟩ q2
 ·rw[if_neg hk];obtain rfl:t=nb:=by omega
  exact zm ⟨j,h1,h1',h2,h2',h3⟩ q2
theorem zl (hc:jh prog w A s κ rk Gd)(hG:∀ x∈a.toList,Gd x)(hG2:∀ x∈b.toList,Gd x)(sa:Le rk a.toList)(sb:Le rk b.toList){out:Array Keyed}{na nb mg k bc:Nat}(I:wm rk a b F N out na nb)
  (hx:∀ x∈a.toList.take na,rk x<=rk (b[nb-1]'(by have:=I.hb;have:=I.hb';omega))):G prog w A E s κ arr p (ww a b na nb out mg k bc) (oW rk a b F N):=by
 obtain⟨j,h1,h1',h2,h2',h3⟩:=I;unfold ww;refine au (a9 (Array.getElem?_eq_getElem (by omega)) ?_)
 have j':=mD j h2 h2' hx
 by_cases hl:nb-1=1
 ·rw[if_pos (by simpa using hl)]
  exact ap (.inl ⟨_,rfl,dB j' hl (by omega)⟩)
 ·rw[if_neg (by simpa using hl)]
  exact DN hc hG hG2 sa sb ⟨j',h1,h1',by omega,by omega,by omega⟩
theorem zk (hc:jh prog w A s κ rk Gd)(hG:∀ x∈a.toList,Gd x)(hG2:∀ x∈b.toList,Gd x)(sa:Le rk a.toList)(sb:Le rk b.toList){out:Array Keyed}{na nb mg ac bc:Nat}(I:wm rk a b F N out na nb) :
  G prog w A E s κ arr p (nA a b na nb out mg ac bc) (oW rk a b F N):=by
 obtain⟨j,h1,h1',h2,h2',h3⟩:=I;have hnb:nb-1<b.size:=by omega
 unfold nA;refine au (oU ?_);refine au (a9 (Array.getElem?_eq_getElem hnb) ?_);refine au (jN hc (hG2 _ (by simp)) hG (by simpa using cA sa na) (by omega) (by omega) fun t ht g1 g2=>?_)
 dsimp only;rw[List.drop_zero]at g1 g2;have jb:=cA sb nb;rw[bA (by omega) h2']at jb
 have q1:∀ x∈(a.toList.take na).drop t,∀ y∈b.toList.take nb,rk y<=rk x:=fun x hx y hy=>by
  have:=g2 x hx;simp only[jF,Bool.false_eq_true,if_false,Bool.not_eq_false',decide_eq_true_eq]at this;rw[bA (by omega) h2']at hy
  have h5:=fO jb y hy;omega
 have q2:∀ x∈a.toList.take t,rk x<=rk b[nb-1]:=fun x hx=>by
  have:=g1 x hx;simp only[jF,Bool.false_eq_true,if_false,Bool.not_eq_true',decide_eq_false_iff_not]at this;omega
 by_cases hk:na-t>0
 ·rw[if_pos hk];have j':=xK j ht q1
  by_cases hl:t=0
  ·rw[if_pos (by simpa using hl)]
   exact ap (.inl ⟨_,rfl,eE j' hl⟩)
  ·rw[if_neg (by simpa using hl)]
   exact zl hc hG hG2 sa sb ⟨j',by omega,by omega,h2,h2',by omega⟩ q2
 ·rw[if_neg hk];obtain rfl:t=na:=by omega
  exact zl hc hG hG2 sa sb ⟨j,h1,h1',h2,h2',h3⟩ q2
def zR (rk:Keyed->Int)(a b:Array Keyed)(F:Keyed)(N:Nat)(c:HM):Prop:=c.1=none/\wm rk a b F N c.2.2.2.1 c.2.1 c.2.2.1
def Gq (rk:Keyed->Int)(a b:Array Keyed)(F:Keyed)(N:Nat)(c:HM):Prop:=(∃ r,c.1=some r/\dQ rk a b r)\/zR rk a b F N c
theorem Fx (hc:jh prog w A s κ rk Gd)(hG:∀ x∈a.toList,Gd x)(hG2:∀ x∈b.toList,Gd x)(sa:Le rk a.toList)(sb:Le rk b.toList){mg:Nat}{c:HM}(I:zR rk a b F (N+1) c) :
  G prog w A E s κ arr p (hm a b mg c) fun r=>match r with|.done c=>Gq rk a b F N c|.yield c=>zR rk a b F N c:=by
 obtain⟨r,na,nb,out,ac,bc⟩:=c;obtain⟨hr,j,h1,h1',h2,h2',h3⟩:=I;dsimp only at j h1 h1' h2 h2' h3;have hna:na-1<a.size:=by omega
 have hnb:nb-1<b.size:=by omega
 unfold hm;dsimp only;refine au (a9 (Array.getElem?_eq_getElem hnb) ?_);refine au (a9 (Array.getElem?_eq_getElem hna) ?_);refine au (wF hc (hG2 _ (by simp)) (hG _ (by simp)) ?_)
 dsimp only;have ja:=cA sa na;have jb:=cA sb nb;rw[bA h1 h1']at ja;rw[bA (by omega) h2']at jb
 by_cases hlt:rk b[nb-1]<rk a[na-1]
 ·rw[decide_eq_true hlt,if_pos rfl];refine au (a9 (Array.getElem?_eq_getElem hna) ?_);have j':=mC j h1 h1' fun y hy=>by
   rw[bA (by omega) h2']at hy
   have:=fO jb y hy;omega
  by_cases hl:na-1=0
  ·rw[if_pos (by simpa using hl)]
   exact ap (.inl ⟨_,rfl,eE j' hl⟩)
  ·rw[if_neg (by simpa using hl)]
   have st:∀ x y,zR rk a b F N (none,na-1,nb,out.push a[na-1],x,y):=fun x y=>⟨rfl,j',by show 0<na-1;omega,by show na-1<=a.size;omega,h2,h2',by show na-1+nb<=N;omega⟩
   split
   ·exact ap (.inr (st _ _))
   ·exact ap (st _ _)
 ·rw[decide_eq_false hlt,if_neg (by simp)]
  refine au (a9 (Array.getElem?_eq_getElem hnb) ?_);have j':=mD j h2 h2' fun x hx=>by
   rw[bA h1 h1']at hx;have:=fO ja x hx;omega
  by_cases hl:nb-1=1
  ·rw[if_pos (by simpa using hl)]
   exact ap (.inl ⟨_,rfl,dB j' hl (by omega)⟩)
  ·rw[if_neg (by simpa using hl)]
   have st:∀ x y,zR rk a b F N (none,na,nb-1,out.push b[nb-1],x,y):=fun x y=>⟨rfl,j',h1,h1',by show 1<nb-1;omega,by show nb-1<=b.size;omega,by show na+(nb-1)<=N;omega⟩
   split
   ·exact ap (.inr (st _ _))
   ·exact ap (st _ _)
theorem wm.weak {out:Array Keyed}{na nb N M:Nat}(h:wm rk a b F N out na nb)(hm:N<=M):wm rk a b F M out na nb:=⟨h.j,h.ha,h.ha',h.hb,h.hb',Nat.le_trans h.n hm⟩
theorem qA (hc:jh prog w A s κ rk Gd)(hG:∀ x∈a.toList,Gd x)(hG2:∀ x∈b.toList,Gd x)(sa:Le rk a.toList)(sb:Le rk b.toList)(ha0:0<a.size)(hF:b.toList.head?=some F)(hlb:∀ x∈a.toList,rk F<rk x)
  (h0:∀ y∈b.toList,rk y<=rk a[a.size-1]):G prog w A E s κ arr p (fQ a b) (dQ rk a b):=by
 have hb0:0<b.size:=by
  have:=List.mem_of_mem_head? hF;have:=List.length_pos_of_mem this;simpa using this
 have ea:a.toList=a.toList.take (a.size-1)++[a[a.size-1]]:=by
  have:=bA ha0 (Nat.le_refl _)
  rwa [List.take_of_length_le (by simp)]at this
 have eb:b.toList.take b.size=b.toList:=List.take_of_length_le (by simp)
 have J0:Jh rk a.toList b.toList (#[a[a.size-1]]:Array Keyed).toList.reverse (a.toList.take (a.size-1)) (b.toList.take b.size) F:=by
  have er:(#[a[a.size-1]]:Array Keyed).toList.reverse=[a[a.size-1]]:=rfl;rw[eb,er];refine⟨?_,?_,?_,hF,fun y hy=>hlb y (List.mem_of_mem_take hy)⟩
  ·have h2:List.Perm (b.toList++[a[a.size-1]]) ([a[a.size-1]]++b.toList):=List.perm_append_comm;have h3:=h2.append_left (a.toList.take (a.size-1));rw[<-List.append_assoc,<-List.append_assoc,<-ea]at h3;exact h3
  ·rw[<-ea];exact sa
  ·refine le_app.mpr ⟨sb,by simp[Le],fun x hx y hy=>?_⟩
   obtain rfl:=List.mem_singleton.mp hy;exact h0 x hx
 rw[iP];refine au (ko ?_);refine au (a9 (Array.getElem?_eq_getElem (by omega)) ?_)
 by_cases ha1:a.size-1=0
 ·rw[if_pos (by simpa using ha1)]
  exact ap (eE J0 ha1)
 rw[if_neg (by simpa using ha1)]
 by_cases hb1:b.size=1
 ·rw[if_pos (by simpa using hb1)]
  exact ap (dB J0 hb1 hb0)
 rw[if_neg (by simpa using hb1)]
 refine au (y8 fun st=>?_);refine au (bK (fy (I:=fun i c=>c.1=none/\wm rk a b F (a.size+b.size-i) c.2.2.2.1 c.2.1 c.2.2.1) (Q:=fun c=>∃ r,c.1=some r/\dQ rk a b r) ?step ?fin ⟨rfl,J0,by show 0<a.size-1;omega,by show a.size-1<=a.size;omega,by show 1<b.size;omega,Nat.le_refl _,by show(a.size-1)+b.size<=_;omega⟩) ?post)
 case fin=>
  rintro c ⟨_,_,g1,g1',g2,g2',g3⟩;rw[show max 0 (a.size+b.size)=a.size+b.size by omega]at g3
  omega
 case post=>
  rintro⟨r,c⟩ ⟨r',hr,hf⟩;dsimp only at hr;subst hr;exact ap hf
 case step=>
  rintro i ⟨r,na,nb,out,mg⟩ _ hi ⟨_,I⟩;dsimp only at I ⊢;obtain⟨N,hN⟩:∃ N,a.size+b.size-i=N+1:=⟨a.size+b.size-i-1,by omega⟩
  rw[hN]at I;refine au (bK (fy (I:=fun x d=>zR rk a b F (N+1) d/\(0<x->zR rk a b F N d)) (Q:=Gq rk a b F N) ?_ ?_ ⟨⟨rfl,I⟩,fun h=>absurd h (by omega)⟩) ?_)
  ·rintro x d _ hx ⟨g1,g2⟩;refine bK (Fx hc hG hG2 sa sb g1) fun r hr=>?_
   cases r with
   | done c=>exact hr
   | yield c=>exact⟨⟨hr.1,hr.2.weak (by omega)⟩,fun _=>hr⟩
  ·rintro d ⟨_,g2⟩;exact .inr (g2 (by omega))
  ·rintro⟨r,na,nb,out,ac,bc⟩ (⟨r',hr,hf⟩|⟨hr,I'⟩)
   ·dsimp only at hr;subst hr;exact ap ⟨r',rfl,hf⟩
   ·dsimp only at hr I';subst hr;dsimp only;refine au (ko ?_);refine au (bK (fy (I:=fun x e=>EN rk a b F N e) (Q:=Gm rk a b F N) ?_ ?_ ⟨rfl,I'⟩) ?_)
    ·rintro x e _ hx ⟨he,I2⟩;unfold FA
     split
     ·refine bK (zk hc hG hG2 sa sb I2) fun r hr=>?_
      cases r with
      | done c=>exact hr
      | yield c=>exact hr
     ·refine bK (zk hc hG hG2 sa sb I2) fun r hr=>?_
      cases r with
      | done c=>exact hr
      | yield c=>exact hr
    ·rintro e he;exact .inr he
    ·rintro⟨r,na,nb,out,mg',ac,bc⟩ (⟨r',hr,hf⟩|⟨hr,I2⟩)
     ·dsimp only at hr;subst hr;exact ap ⟨r',rfl,hf⟩
     ·dsimp only at hr I2;subst hr;dsimp only;refine au (oU (ap ⟨rfl,I2.weak (by omega)⟩))
end
end SR
set_option maxHeartbeats 3200000
namespace SR
open PySem PyProof.Rows
def kk (rk:Keyed->Int)(xs:Array Keyed)(i:Nat):Int:=match xs[i]? with
 | some p=>rk p
 | none=>0
def Up (rk:Keyed->Int)(xs:Array Keyed)(lo hi:Nat):Prop:=∀ i j,lo<=i->i<=j->j<hi->kk rk xs i<=kk rk xs j
def Dn (rk:Keyed->Int)(xs:Array Keyed)(lo hi:Nat):Prop:=∀ i j,lo<=i->i<=j->j<hi->kk rk xs j<=kk rk xs i
section
variable {rk:Keyed->Int}{xs:Array Keyed}{lo hi:Nat}
theorem fM {i:Nat}(h:i<xs.size):kk rk xs i=rk xs[i]:=by unfold kk;rw[Array.getElem?_eq_getElem h]
theorem cH {ys:Array Keyed}{i j:Nat}(h:xs[i]?=ys[j]?):kk rk xs i=kk rk ys j:=by unfold kk;rw[h]
theorem zF (h:Up rk xs lo hi)(hh:hi<=xs.size):Le rk ((xs.toList.drop lo).take (hi-lo)):=by
 refine List.pairwise_iff_getElem.mpr fun i j hi' hj hij=>?_;simp at hi' hj;have:=h (lo+i) (lo+j) (by omega) (by omega) (by omega)
 rw[fM (by omega),fM (by omega)]at this
 simpa using this
theorem zt (h:Le rk ((xs.toList.drop lo).take (hi-lo)))(hh:hi<=xs.size):Up rk xs lo hi:=fun i j h1 h2 h3=>by
 rw[fM (by omega),fM (by omega)]
 have:=uv h (i:=i-lo) (j:=j-lo) (by omega) (by simp;omega)
 simp only[List.getElem_take,List.getElem_drop,Array.getElem_toList]at this;have e1:lo+(i-lo)=i:=by omega
 have e2:lo+(j-lo)=j:=by omega
 simpa only [e1,e2] using this
structure Ar (rk:Keyed->Int) (Gd:Keyed->Prop) (n:Nat) (xs:Array Keyed):Prop where
 sz:xs.size=n
 gd:∀ x∈xs.toList,Gd x
 nd:(xs.toList.map rk).Nodup
variable {Gd:Keyed->Prop}{n:Nat}
theorem Ar.perm {ys:Array Keyed}(h:Ar rk Gd n xs)(hp:ys.toList.Perm xs.toList):Ar rk Gd n ys:=
 ⟨by have:=hp.length_eq;simpa [h.sz] using this,fun x hx=>h.gd x (hp.mem_iff.mp hx),((hp.map rk).nodup_iff).mpr h.nd⟩
theorem Ar.ne (h:Ar rk Gd n xs){i j:Nat}(hi:i<n)(hj:j<n)(hij:i≠j):kk rk xs i≠kk rk xs j:=by
 have e1:=h.sz;rw[fM (by omega),fM (by omega)]
 have hnd:=List.pairwise_iff_getElem.mp h.nd
 rcases Nat.lt_or_gt_of_ne hij with q|q
 ·have:=hnd i j (by simp;omega) (by simp;omega) q
  simpa using this
 ·have:=hnd j i (by simp;omega) (by simp;omega) q
  simp only[List.getElem_map,Array.getElem_toList]at this;exact fun e=>this e.symm
end
section
variable {prog:Program}{w:World}{A:Around}{E:Value->Shared->Prop}{s:Shared}{κ:SortKind}{rk:Keyed->Int}{Gd:Keyed->Prop}{n:Nat}{xs:Array Keyed}{p:Array (Nat × Nat × Nat)}{g:Nat}
theorem rm (hc:jh prog w A s κ rk Gd)(hA:Ar rk Gd n xs){i j:Nat}{Q:Option Bool->SortSt->Prop}(hi:i<n)(hj:j<n)(h:Q (some (decide (kk rk xs i<kk rk xs j))) (SortSt.mk' κ xs p g none)) :
  wpS (model prog w) A E s (ltAt' i j) Q (SortSt.mk' κ xs p g none):=by
 have e:=hA.sz;rw[fM (by omega),fM (by omega)]at h
 exact Cr hc (Array.getElem?_eq_getElem (by omega)) (Array.getElem?_eq_getElem (by omega)) (hA.gd _ (by simp)) (hA.gd _ (by simp)) h
theorem jc (hc:jh prog w A s κ rk Gd)(hA:Ar rk Gd n xs){lo nrem:Nat}{Q:Option Nat->SortSt->Prop}(h1:1<=nrem)(hn:lo+nrem<=n)
  (h:∀ m ys,1<=m->m<=nrem->ys.toList.Perm xs.toList->(∀ k:Nat,k<lo->ys[k]?=xs[k]?)->Up rk ys lo (lo+m)->Q (some m) (SortSt.mk' κ ys p g none)) :
  wpS (model prog w) A E s (countRun' lo nrem) Q (SortSt.mk' κ xs p g none):=by
 have u1:Up rk xs lo (lo+1):=fun i j a1 a2 a3=>by
  have:i=j:=by omega
  subst this;exact Int.le_refl _
 rw[countRun'_eq];dsimp only;refine wpS_bind (wpS_mono (wpS_forRange (I:=fun x c st=>st=SortSt.mk' κ xs p g none/\c=(none,x)/\Up rk xs lo (lo+x))
  (Q:=fun c st=>st=SortSt.mk' κ xs p g none/\∃ m,c=(none,m)/\1<=m/\m<=nrem/\Up rk xs lo (lo+m)/\(m=nrem\/kk rk xs (lo+m)<kk rk xs (lo+m-1))) ?step ?fin ⟨rfl,rfl,u1⟩) ?post)
 case fin=>
  rintro c st ⟨rfl,rfl,hu⟩;rw[show max 1 nrem=nrem by omega]at hu ⊢
  exact⟨rfl,nrem,rfl,h1,Nat.le_refl _,hu,.inl rfl⟩
 case step=>
  rintro x c st hx1 hx2 ⟨rfl,rfl,hu⟩;dsimp only;refine wpS_bind (rm hc hA (by omega) (by omega) ?_)
  dsimp only
  by_cases hlt:kk rk xs (lo+x)<kk rk xs (lo+x-1)
  ·rw[decide_eq_true hlt,if_pos rfl];exact wpS_pure ⟨rfl,x,rfl,hx1,by omega,hu,.inr hlt⟩
  ·rw[decide_eq_false hlt,if_neg (by simp)]
   refine wpS_pure ⟨rfl,rfl,fun i j a1 a2 a3=>?_⟩
   by_cases hj:j<lo+x
   ·exact hu i j a1 a2 hj
   ·have:j=lo+x:=by omega
    subst this
    by_cases hi:i=lo+x
    ·subst hi;exact Int.le_refl _
    ·have:=hu i (lo+x-1) a1 (by omega) (by omega)
     omega
 case post=>
  rintro c st ⟨rfl,m,rfl,hm1,hm2,hu,hor⟩;dsimp only
  by_cases he:m=nrem
  ·rw[if_pos (by simpa using he)]
   exact wpS_pure (h m xs hm1 hm2 (.refl _) (fun _ _=>rfl) hu)
  rw[if_neg (by simpa using he)]
  by_cases hm:m>1
  ·rw[if_pos hm];refine wpS_bind (rm hc hA (by omega) (by omega) ?_)
   dsimp only;have hlt:kk rk xs lo<kk rk xs (lo+m-1):=by
    have g1:=hu lo (lo+m-1) (Nat.le_refl _) (by omega) (by omega)
    have g2:=hA.ne (i:=lo) (j:=lo+m-1) (by omega) (by omega) (by omega)
    omega
   rw[decide_eq_true hlt,if_pos rfl];exact wpS_pure (h m xs hm1 hm2 (.refl _) (fun _ _=>rfl) hu)
  rw[if_neg hm];obtain rfl:m=1:=by omega
  have hlt:=hor.resolve_left he;refine wpS_bind (wpS_lift (wpAny_rule ⟨rfl,?_⟩));have d2:Dn rk xs lo (lo+2):=fun i j a1 a2 a3=>by
   by_cases hj:i=j
   ·subst hj;exact Int.le_refl _
   ·obtain rfl:i=lo:=by omega
    obtain rfl:j=i+1:=by omega
    rw[Nat.add_sub_cancel]at hlt;omega
  refine wpS_bind (wpS_mono (wpS_forRange (I:=fun x c st=>st=SortSt.mk' κ xs p g none/\c=(none,x,0)/\Dn rk xs lo (lo+x))
   (Q:=fun c st=>st=SortSt.mk' κ xs p g none/\∃ m,c=(none,m,0)/\2<=m/\m<=nrem/\Dn rk xs lo (lo+m)) ?step ?fin ⟨rfl,rfl,d2⟩) ?post)
  case fin=>
   rintro c st ⟨rfl,rfl,hd⟩;rw[show max (1+1) nrem=nrem by omega]at hd ⊢
   exact⟨rfl,nrem,rfl,by omega,Nat.le_refl _,hd⟩
  case step=>
   rintro x c st hx1 hx2 ⟨rfl,rfl,hd⟩;dsimp only;refine wpS_bind (rm hc hA (by omega) (by omega) ?_)
   dsimp only
   by_cases hlt2:kk rk xs (lo+x)<kk rk xs (lo+x-1)
   ·rw[decide_eq_true hlt2,if_pos rfl,if_neg (by omega)]
    refine wpS_pure ⟨rfl,rfl,fun i j a1 a2 a3=>?_⟩
    by_cases hj:j<lo+x
    ·exact hd i j a1 a2 hj
    ·have:j=lo+x:=by omega
     subst this
     by_cases hi:i=lo+x
     ·subst hi;exact Int.le_refl _
     ·have:=hd i (lo+x-1) a1 (by omega) (by omega)
      omega
   ·rw[decide_eq_false hlt2,if_neg (by simp)]
    refine wpS_bind (rm hc hA (by omega) (by omega) ?_)
    dsimp only;have hne:=hA.ne (i:=lo+x) (j:=lo+x-1) (by omega) (by omega) (by omega)
    rw[decide_eq_true (by omega:kk rk xs (lo+x-1)<kk rk xs (lo+x)),if_pos rfl]
    exact wpS_pure ⟨rfl,x,rfl,by omega,by omega,hd⟩
  case post=>
   rintro c st ⟨rfl,m,rfl,hm1,hm2,hd⟩;dsimp only;rw[if_neg (by omega),reverseSlice'_eq]
   refine wpS_bind (wpS_modify ?_);have hsz:lo+m<=xs.size:=by have:=hA.sz;omega
   generalize hys:mirror xs lo (lo+m) ((lo+m-lo) / 2)=ys;have hpm:ys.toList.Perm xs.toList:=by rw[<-hys];exact Array.perm_iff_toList_perm.mp (mirror_perm _ _ _ _)
   have hat:∀ k:Nat,ys[k]?=if lo<=k/\k<lo+m then xs[lo+(lo+m)-1-k]? else xs[k]?:=fun k=>by rw[<-hys];exact getElem?_mirror_all hsz k
   have hu':Up rk ys lo (lo+m):=fun i j a1 a2 a3=>by
    have e1:kk rk ys i=kk rk xs (lo+(lo+m)-1-i):=cH (by rw[hat,if_pos ⟨a1,by omega⟩])
    have e2:kk rk ys j=kk rk xs (lo+(lo+m)-1-j):=cH (by rw[hat,if_pos ⟨by omega,a3⟩])
    rw[e1,e2];exact hd _ _ (by omega) (by omega) (by omega)
   have hA':=hA.perm hpm;have hkeep:∀ k:Nat,k<lo->ys[k]?=xs[k]?:=fun k hk=>by rw[hat,if_neg (by omega)]
   show wpS _ _ _ _ _ Q (SortSt.mk' κ ys p g none);refine wpS_bind (wpS_mono (wpS_forRange (I:=fun x c st=>st=SortSt.mk' κ ys p g none/\c=(none,x)/\Up rk ys lo (lo+x))
    (Q:=fun c st=>st=SortSt.mk' κ ys p g none/\∃ m,c=(none,m)/\1<=m/\m<=nrem/\Up rk ys lo (lo+m)) ?_ ?_ ⟨rfl,rfl,hu'⟩) ?_)
   ·rintro x c st hx1 hx2 ⟨rfl,rfl,hu⟩;dsimp only;refine wpS_bind (rm hc hA' (by omega) (by omega) ?_)
    dsimp only
    by_cases hlt:kk rk ys (lo+x)<kk rk ys (lo+x-1)
    ·rw[decide_eq_true hlt,if_pos rfl];exact wpS_pure ⟨rfl,x,rfl,by omega,by omega,hu⟩
    ·rw[decide_eq_false hlt,if_neg (by simp)]
     refine wpS_pure ⟨rfl,rfl,fun i j a1 a2 a3=>?_⟩
     by_cases hj:j<lo+x
     ·exact hu i j a1 a2 hj
     ·have:j=lo+x:=by omega
      subst this
      by_cases hi:i=lo+x
      ·subst hi;exact Int.le_refl _
      ·have:=hu i (lo+x-1) a1 (by omega) (by omega)
       omega
   ·rintro c st ⟨rfl,rfl,hu⟩;rw[show max m nrem=nrem by omega]at hu ⊢
    exact⟨rfl,nrem,rfl,h1,Nat.le_refl _,hu⟩
   ·rintro c st ⟨rfl,m',rfl,g1,g2,hu⟩;exact wpS_pure (h m' ys g1 g2 hpm hkeep hu)
theorem f6 (hc:jh prog w A s κ rk Gd)(hA:Ar rk Gd n xs){lo m ok:Nat}{Q:Bool->SortSt->Prop}(hn:lo+m<=n)(hok:ok<=m)(hu:Up rk xs lo (lo+ok))
  (h:∀ ys:Array Keyed,ys.toList.Perm xs.toList->(∀ k:Nat,k<lo->ys[k]?=xs[k]?)->Up rk ys lo (lo+m)->Q true (SortSt.mk' κ ys p g none)) :
  wpS (model prog w) A E s (binarySort' lo m ok) Q (SortSt.mk' κ xs p g none):=by
 rw[binarySort'_eq];refine wpS_bind (wpS_mono (wpS_forRange (I:=fun k c st=>c=(none,())/\∃ ys:Array Keyed,st=SortSt.mk' κ ys p g none/\ys.toList.Perm xs.toList/\(∀ k:Nat,k<lo->ys[k]?=xs[k]?)/\Up rk ys lo (lo+min k m))
  (Q:=fun c st=>c=(none,())/\∃ ys:Array Keyed,st=SortSt.mk' κ ys p g none/\ys.toList.Perm xs.toList/\(∀ k:Nat,k<lo->ys[k]?=xs[k]?)/\Up rk ys lo (lo+m)) ?step ?fin ?init) ?post)
 case post=>
  rintro c st ⟨rfl,ys,rfl,g1,g2,g3⟩;exact wpS_pure (h ys g1 g2 g3)
 case init=>
  refine⟨rfl,xs,rfl,.refl _,fun _ _=>rfl,fun i j a1 a2 a3=>?_⟩
  by_cases h1:ok=0
  ·have:i=j:=by omega
   subst this;exact Int.le_refl _
  ·exact hu i j a1 a2 (by omega)
 case fin=>
  rintro c st ⟨rfl,ys,rfl,g1,g2,g3⟩;rw[show min (max (max ok 1) m) m=m by omega]at g3
  exact⟨rfl,ys,rfl,g1,g2,g3⟩
 case step=>
  rintro k c st hk1 hk2 ⟨rfl,ys,rfl,g1,g2,g3⟩;rw[show min k m=k by omega]at g3
  have hA':=hA.perm g1;dsimp only;refine wpS_bind (wpS_mono (wpS_forRange (I:=fun x c st=>st=SortSt.mk' κ ys p g none/\∃ l r,c=(none,l,r)/\l<=r/\r<=k/\r-l<=k-x ∧
    (∀ i,lo<=i->i<lo+l->kk rk ys i<=kk rk ys (lo+k))/\(∀ i,lo+r<=i->i<lo+k->kk rk ys (lo+k)<=kk rk ys i))
   (Q:=fun c st=>st=SortSt.mk' κ ys p g none/\∃ l r,c=(none,l,r)/\l<=k ∧
    (∀ i,lo<=i->i<lo+l->kk rk ys i<=kk rk ys (lo+k))/\(∀ i,lo+l<=i->i<lo+k->kk rk ys (lo+k)<=kk rk ys i)) ?is ?ifn ?ii) ?ip)
  case ii=>exact⟨rfl,0,k,rfl,by omega,by omega,by omega,fun i a1 a2=>by omega,fun i a1 a2=>by omega⟩
  case ifn=>
   rintro c st ⟨rfl,l,r,rfl,b1,b2,b3,b4,b5⟩;have:l=r:=by omega
   subst this;exact⟨rfl,l,l,rfl,b2,b4,b5⟩
  case is=>
   rintro x c st _ hx ⟨rfl,l,r,rfl,b1,b2,b3,b4,b5⟩;dsimp only
   by_cases hb:l>=r
   ·rw[if_pos hb];have:l=r:=by omega
    subst this;exact wpS_pure ⟨rfl,l,l,rfl,b2,b4,b5⟩
   ·rw[if_neg hb];refine wpS_bind (rm hc hA' (by omega) (by omega) ?_)
    dsimp only
    by_cases hlt:kk rk ys (lo+k)<kk rk ys (lo+(l+r) / 2)
    ·rw[decide_eq_true hlt,if_pos rfl];refine wpS_pure ⟨rfl,_,_,rfl,by omega,by omega,by omega,b4,fun i a1 a2=>?_⟩
     have:=g3 (lo+(l+r) / 2) i (by omega) a1 a2
     omega
    ·rw[decide_eq_false hlt,if_neg (by simp)]
     refine wpS_pure ⟨rfl,_,_,rfl,by omega,by omega,by omega,fun i a1 a2=>?_,b5⟩
     have:=g3 i (lo+(l+r) / 2) a1 (by omega) (by omega)
     omega
  case ip=>
   rintro c st ⟨rfl,l,r,rfl,b1,b4,b5⟩;dsimp only;rw[moveDown'_eq];have hsz:lo+k<ys.size:=by have:=hA'.sz;omega
   generalize hzs:bubble ys (lo+k) (lo+k-(lo+l))=zs;have hpm:zs.toList.Perm ys.toList:=by rw[<-hzs];exact Array.perm_iff_toList_perm.mp (bubble_perm _ _ _)
   have hat:∀ i:Nat,zs[i]?=if i=lo+l then ys[lo+k]? else if lo+l<i/\i<=lo+k then ys[i-1]? else ys[i]?:=fun i=>by
    rw[<-hzs,getElem?_bubble hsz _ (by omega),show lo+k-(lo+k-(lo+l))=lo+l by omega]
   have hk':∀ i,kk rk zs i=if i=lo+l then kk rk ys (lo+k) else if lo+l<i/\i<=lo+k then kk rk ys (i-1) else kk rk ys i:=fun i=>by
    have e:=hat i
    by_cases q1:i=lo+l
    ·rw[if_pos q1]at e ⊢;exact cH e
    ·rw[if_neg q1]at e ⊢
     by_cases q2:lo+l<i/\i<=lo+k
     ·rw[if_pos q2]at e ⊢;exact cH e
     ·rw[if_neg q2]at e ⊢;exact cH e
   refine wpS_bind (wpS_modify ?_);show wpS _ _ _ _ _ _ (SortSt.mk' κ (bubble ys (lo+k) (lo+k-(lo+l))) p g none);rw[hzs];refine wpS_pure ⟨rfl,zs,rfl,hpm.trans g1,fun i hi=>?_,fun i j a1 a2 a3=>?_⟩
   ·rw[hat,if_neg (by omega),if_neg (by omega)];exact g2 i hi
   ·rw[show min (k+1) m=k+1 by omega]at a3
    rw[hk',hk']
    by_cases hi1:i=lo+l
    ·rw[if_pos hi1]
     by_cases hj1:j=lo+l
     ·rw[if_pos hj1];exact Int.le_refl _
     ·rw[if_neg hj1,if_pos (by omega)]
      exact b5 (j-1) (by omega) (by omega)
    ·rw[if_neg hi1]
     by_cases hi2:lo+l<i/\i<=lo+k
     ·rw[if_pos hi2,if_neg (by omega),if_pos (by omega)]
      exact g3 (i-1) (j-1) (by omega) (by omega) (by omega)
     ·rw[if_neg hi2]
      by_cases hj1:j=lo+l
      ·rw[if_pos hj1];exact b4 i a1 (by omega)
      ·rw[if_neg hj1]
       by_cases hj2:lo+l<j/\j<=lo+k
       ·rw[if_pos hj2]
        by_cases hij:i<=j-1
        ·exact g3 i (j-1) a1 hij (by omega)
        ·omega
       ·rw[if_neg hj2];exact g3 i j a1 a2 (by omega)
end
end SR
set_option maxHeartbeats 3200000
namespace SR
open PySem PyProof.Rows
theorem mR (i:Nat):mergeAt' i=(do
 let s ← get
 let (some (sa,na,power),some (sb,nb,_)):=((pendingOf s)[i]?,(pendingOf s)[i+1]?) | unsupported "internal:list.sort.pending"
 set (setPending s (((pendingOf s).setIfInBounds i (sa,na+nb,power)).eraseIdxIfInBounds (i+1)))
 let some k ← bw false (← elem' (arrOf s) sb) (arrOf s) sa na 0|return false
 let (sa,na):=(sa+k,na-k)
 if na == 0 then return true
 let some nb ← bw true (← elem' (arrOf s) (sa+na-1)) (arrOf s) sb nb (nb-1)|return false
 if nb == 0 then return true
 let x:=(arrOf s).extract sa sb
 let y:=(arrOf s).extract sb (sb+nb)
 let merged ← if na<=nb then fR x y else fQ x y
 modify fun s=>setArr s (merged.toList.zipIdx.foldl (fun a (p,j)=>a.setIfInBounds (sa+j) p) (arrOf s))
 return (failedOf (← get)).isNone):=rfl
theorem yX {M:Model}{A:Around}{E:Value->Shared->Prop}{s:Shared}{σ:Type}{st':σ}{Q:PUnit->σ->Prop}{st:σ}(h:Q ⟨⟩ st'):wpS M A E s (set st':StateT σ Sem PUnit) Q st:=by
 unfold wpS;rw[StateT.run_set];exact wpAny_pure ⟨rfl,h⟩
section
variable {rk:Keyed->Int}
theorem Bg {P X Y R M:List Keyed}(h1:Le rk (P++X))(h2:Le rk (Y++R))(hm:List.Perm M (X++Y))(hM:Le rk M)(h3:∀ x∈P,∀ y∈Y++R,rk x<=rk y)(h4:∀ x∈X,∀ y∈R,rk x<=rk y):Le rk (P++M++R):=by
 rw[le_app]at h1 h2;rw[le_app,le_app];refine⟨⟨h1.1,hM,fun x hx y hy=>?_⟩,h2.2.1,fun x hx y hy=>?_⟩
 ·rcases List.mem_append.mp (hm.mem_iff.mp hy) with q|q
  ·exact h1.2.2 x hx y q
  ·exact h3 x hx y (List.mem_append_left _ q)
 ·rcases List.mem_append.mp hx with q|q
  ·exact h3 x q y (List.mem_append_right _ hy)
  ·rcases List.mem_append.mp (hm.mem_iff.mp q) with q|q
   ·exact h4 x q y hy
   ·exact h2.2.2 x q y hy
end
section
variable {prog:Program}{w:World}{A:Around}{E:Value->Shared->Prop}{s:Shared}{κ:SortKind}{rk:Keyed->Int}{Gd:Keyed->Prop}{n:Nat}{xs:Array Keyed}{p:Array (Nat × Nat × Nat)}{g:Nat}
theorem CB {α β:Type}{m:StateT SortSt Sem α}{f:α->StateT SortSt Sem β}{P:α->Prop}{Q:β->SortSt->Prop}(h:G prog w A E s κ xs p m P)(hq:∀ a g',P a->wpS (model prog w) A E s (f a) Q (SortSt.mk' κ xs p g' none)) :
  wpS (model prog w) A E s (m >>= f) Q (SortSt.mk' κ xs p g none):=
 wpS_bind (wpS_mono (h g) fun a st' hh=>by
  obtain⟨⟨g',rfl⟩,hp⟩:=hh;exact hq a g' hp)
theorem rn (hc:jh prog w A s κ rk Gd)(hA:Ar rk Gd n xs){n1 n2 pw:Nat}{Q:Bool->SortSt->Prop}(h1:1<=n1)(h2:1<=n2)(hn:n1+n2=n)(u1:Up rk xs 0 n1)(u2:Up rk xs n1 n)
  (h:∀ (ys:Array Keyed) g',ys.toList.Perm xs.toList->Up rk ys 0 n->Q true (SortSt.mk' κ ys #[(0,n1+n2,pw)] g' none)) :
  wpS (model prog w) A E s (mergeAt' 0) Q (SortSt.mk' κ xs #[(0,n1,pw),(n1,n2,0)] g none):=by
 have hsz:=hA.sz;have l1:Le rk (xs.toList.take n1):=by have:=zF u1 (by omega);simpa using this
 have l2:Le rk (xs.toList.drop n1):=by
  have:=zF u2 (by omega)
  rwa [List.take_of_length_le (by simp;omega)]at this
 rw[mR];refine wpS_bind (wpS_get ?_);dsimp only;refine wpS_bind (yX ?_);have ep:(((#[(0,n1,pw),(n1,n2,0)]:Array (Nat × Nat × Nat)).setIfInBounds 0 (0,n1+n2,pw)).eraseIdxIfInBounds (0+1))=#[(0,n1+n2,pw)]:=by simp[Array.eraseIdxIfInBounds]
 show wpS _ _ _ _ _ Q (SortSt.mk' κ xs (((#[(0,n1,pw),(n1,n2,0)]:Array (Nat × Nat × Nat)).setIfInBounds 0 (0,n1+n2,pw)).eraseIdxIfInBounds (0+1)) g none);rw[ep];simp only[show arrOf (SortSt.mk' κ xs #[(0,n1,pw),(n1,n2,0)] g none)=xs from rfl,Nat.zero_add];have hn1:n1<xs.size:=by omega
 have y0:∀ y∈xs.toList.drop n1,rk xs[n1]<=rk y:=fun y hy=>by
  rw[bq hn1]at hy;exact fN (by rw[<-bq hn1];exact l2) y hy
 refine CB (P:=(·=xs[n1])) (a9 (Array.getElem?_eq_getElem hn1) rfl) ?_;rintro _ g1 rfl;refine CB (P:=fun r=>∃ k,r=some k/\k<=n1/\(∀ x∈xs.toList.take k,rk x<=rk xs[n1])/\∀ x∈(xs.toList.take n1).drop k,rk xs[n1]<rk x) (jN hc (hA.gd _ (by simp)) hA.gd (by simpa using l1) (by omega) (by omega) fun k hk g1 g2=>⟨k,rfl,hk,fun x hx=>?_,fun x hx=>?_⟩) ?_
 ·have:=g1 x (by simpa using hx)
  simp only[jF,Bool.false_eq_true,if_false,Bool.not_eq_true',decide_eq_false_iff_not]at this;omega
 ·have:=g2 x (by simpa using hx)
  simp only[jF,Bool.false_eq_true,if_false,Bool.not_eq_false',decide_eq_true_eq]at this;omega
 rintro _ g2 ⟨k,rfl,hk,k1,k2⟩;dsimp only
 by_cases hk0:n1-k=0
 ·rw[if_pos (by simpa using hk0)]
  obtain rfl:k=n1:=by omega
  refine wpS_pure (h xs g2 (.refl _) (zt ?_ (by omega)))
  rw[List.drop_zero,List.take_of_length_le (by simp;omega)]
  have:=le_app.mpr ⟨l1,l2,fun x hx y hy=>by have:=k1 x hx;have:=y0 y hy;omega⟩
  rwa [List.take_append_drop]at this
 rw[if_neg (by simpa using hk0)]
 have ekn:k+(n1-k)-1=n1-1:=by omega
 rw[ekn];have hn1':n1-1<xs.size:=by omega
 have etk:(xs.toList.take n1)=xs.toList.take (n1-1)++[xs[n1-1]]:=bA (by omega) (by omega)
 have xl:∀ x∈xs.toList.take n1,rk x<=rk xs[n1-1]:=fun x hx=>by
  rw[etk]at hx l1;exact fO l1 x hx
 refine CB (P:=(·=xs[n1-1])) (a9 (Array.getElem?_eq_getElem hn1') rfl) ?_;rintro _ g3 rfl;have edr:(xs.toList.drop n1).take n2=xs.toList.drop n1:=List.take_of_length_le (by simp;omega)
 refine CB (P:=fun r=>∃ t,r=some t/\t<=n2/\(∀ y∈(xs.toList.drop n1).take t,rk y<rk xs[n1-1])/\∀ y∈xs.toList.drop (n1+t),rk xs[n1-1]<=rk y) (jN hc (hA.gd _ (by simp)) hA.gd (by rw[edr];exact l2) (by omega) (by omega) fun t ht g1 g2=>⟨t,rfl,ht,fun x hx=>?_,fun x hx=>?_⟩) ?_
 ·have:=g1 x hx;simp only[jF,if_true,decide_eq_true_eq]at this;exact this
 ·rw[edr,List.drop_drop]at g2;have:=g2 x hx;simp only[jF,if_true,decide_eq_false_iff_not]at this;omega
 rintro _ g4 ⟨t,rfl,ht,t1,t2⟩;dsimp only;have hmem:xs[n1-1]∈(xs.toList.take n1).drop k:=by
  rw[etk,List.drop_append_of_le_length (by simp;omega)]
  simp
 have hlt:=k2 _ hmem;have ht0:t≠0:=fun e=>by
  subst e;have:=t2 xs[n1] (by rw[Nat.add_zero,bq hn1];simp)
  omega
 rw[if_neg (by simpa using ht0)]
 have ex:(xs.extract k n1).toList=(xs.toList.take n1).drop k:=by simp[List.drop_take]
 have ey:(xs.extract n1 (n1+t)).toList=(xs.toList.drop n1).take t:=by simp
 have sx:Le rk (xs.extract k n1).toList:=by rw[ex];exact dC l1 _
 have sy:Le rk (xs.extract n1 (n1+t)).toList:=by rw[ey];exact cA l2 _
 have gx:∀ x∈(xs.extract k n1).toList,Gd x:=fun x hx=>hA.gd x (by rw[ex]at hx;exact List.mem_of_mem_take (List.mem_of_mem_drop hx))
 have gy:∀ x∈(xs.extract n1 (n1+t)).toList,Gd x:=fun x hx=>hA.gd x (by rw[ey]at hx;exact List.mem_of_mem_drop (List.mem_of_mem_take hx))
 have zx:(xs.extract k n1).size=n1-k:=by simp;omega
 have zy:(xs.extract n1 (n1+t)).size=t:=by simp;omega
 have hxlast:(xs.extract k n1).toList.getLast?=some xs[n1-1]:=by
  rw[ex,etk,List.drop_append_of_le_length (by simp;omega)]
  simp
 have hyhead:(xs.extract n1 (n1+t)).toList.head?=some xs[n1]:=by
  rw[ey,bq hn1];obtain⟨u,rfl⟩:∃ u,t=u+1:=⟨t-1,by omega⟩
  simp
 have fin:∀ (m:Array Keyed) g5,dQ rk (xs.extract k n1) (xs.extract n1 (n1+t)) m->wpS (model prog w) A E s (do
   modify fun s=>setArr s (m.toList.zipIdx.foldl (fun a (q:Keyed × Nat)=>a.setIfInBounds (k+q.2) q.1) (arrOf s))
   let st ← get
   pure (failedOf st).isNone) Q (SortSt.mk' κ xs #[(0,n1+n2,pw)] g5 none):=fun m g5 hm=>by
  refine wpS_bind (wpS_modify (wpS_bind (wpS_get (wpS_pure ?_))));obtain⟨hp,hs⟩:=hm;rw[ex,ey]at hp;have hlen:m.toList.length=n1-k+t:=by
   have:=hp.length_eq;rw[List.length_append,List.length_drop,List.length_take,List.length_take,List.length_drop,Array.length_toList,Array.length_toList]at this;rw[Array.length_toList];omega
  have elay:=mH m.toList 0 k xs (by omega)
  rw[hlen,Nat.add_zero,show k+(n1-k+t)=n1+t by omega]at elay
  have eT:xs.toList=xs.toList.take k++((xs.toList.take n1).drop k++(xs.toList.drop n1).take t)++xs.toList.drop (n1+t):=by
   have c1:xs.toList.take k=(xs.toList.take n1).take k:=by rw[List.take_take];congr 1;omega
   rw[c1,<-List.append_assoc,List.take_append_drop,List.append_assoc,<-List.drop_drop,List.take_append_drop,List.take_append_drop]
  refine h _ g5 ?_ (zt ?_ ?_)
  ·rw[elay];refine List.Perm.trans ((hp.append_left _).append_right _) ?_;rw[<-eT]
  ·rw[List.drop_zero,List.take_of_length_le (by rw[elay,List.length_append,List.length_append,hlen,List.length_take,List.length_drop,Array.length_toList];omega),elay]
   have c1:xs.toList.take k++(xs.toList.take n1).drop k=xs.toList.take n1:=by
    have c1:xs.toList.take k=(xs.toList.take n1).take k:=by rw[List.take_take];congr 1;omega
    rw[c1,List.take_append_drop]
   have c2:(xs.toList.drop n1).take t++xs.toList.drop (n1+t)=xs.toList.drop n1:=by rw[<-List.drop_drop,List.take_append_drop]
   refine Bg (by rw[c1];exact l1) (by rw[c2];exact l2) hp hs (fun x hx y hy=>?_) (fun x hx y hy=>?_)
   ·rw[c2]at hy;have:=k1 x hx;have:=y0 y hy;omega
   ·have:=xl x (List.mem_of_mem_drop hx);have:=t2 y hy;omega
  ·rw[<-Array.length_toList,elay,List.length_append,List.length_append,hlen,List.length_take,List.length_drop,Array.length_toList];omega
 by_cases hle:n1-k<=t
 ·rw[if_pos hle];refine CB (qB hc gx gy sx sy (by omega) hxlast (fun y hy=>t1 y (by rw[ey]at hy;exact hy)) fun x hx=>?_) fun m g5 hm=>fin m g5 hm
  rw[ex]at hx;have e:(xs.extract n1 (n1+t))[0]'(by omega)=xs[n1]:=by simp
  rw[e];exact Int.le_of_lt (k2 x hx)
 ·rw[if_neg hle];refine CB (qA hc gx gy sx sy (by omega) hyhead (fun x hx=>k2 x (by rw[ex]at hx;exact hx)) fun y hy=>?_) fun m g5 hm=>fin m g5 hm
  rw[ey]at hy;have e:(xs.extract k n1)[(xs.extract k n1).size-1]'(by omega)=xs[n1-1]:=by
   simp only[zx,Array.getElem_extract]
   congr 1;omega
  rw[e];exact Int.le_of_lt (t1 y hy)
end
end SR
set_option maxHeartbeats 3200000
namespace SR
open PySem PyProof.Rows
theorem xW {n:Nat}(h1:1<=n)(h2:n<128):n<=2*minRun' n n 0/\minRun' n n 0<=n/\1<=minRun' n n 0:=by
 rcases Nat.lt_or_ge n 64 with h|h
 ·obtain⟨f,rfl⟩:∃ f,n=f+1:=⟨n-1,by omega⟩
  have e:minRun' (f+1) (f+1) 0=f+1:=by rw[minRun'_succ,if_pos h]
  rw[e];omega
 ·obtain⟨f,rfl⟩:∃ f,n=f+2:=⟨n-2,by omega⟩
  have e1:minRun' (f+1+1) (f+2) 0=minRun' (f+1) ((f+2) / 2) (max 0 ((f+2) % 2)):=by rw[minRun'_succ,if_neg (by omega)]
  have e2:minRun' (f+1) ((f+2) / 2) (max 0 ((f+2) % 2))=(f+2) / 2+max 0 ((f+2) % 2):=by rw[minRun'_succ,if_pos (by omega)]
  have e3:minRun' (f+2) (f+2) 0=(f+2) / 2+max 0 ((f+2) % 2):=e1.trans e2;rw[e3];omega
section
variable {prog:Program}{w:World}{A:Around}{E:Value->Shared->Prop}{s:Shared}{κ:SortKind}{rk:Keyed->Int}{Gd:Keyed->Prop}{n:Nat}{xs:Array Keyed}
theorem lL {ys:Array Keyed}{lo:Nat}(h:Up rk xs 0 lo)(hk:∀ k:Nat,k<lo->ys[k]?=xs[k]?):Up rk ys 0 lo:=fun i j h1 h2 h3=>by
 rw[cH (hk i (by omega)),cH (hk j h3)]
 exact h i j h1 h2 h3
theorem oP (hc:jh prog w A s κ rk Gd)(hA:Ar rk Gd n xs)(h64:1<=n)(h128:n<128){g:Nat}{Q:Unit->SortSt->Prop}
  (h:∀ (ys:Array Keyed) p g',ys.toList.Perm xs.toList->Up rk ys 0 n->Q () (SortSt.mk' κ ys p g' none)) :
  wpS (model prog w) A E s sortRuns' Q (SortSt.mk' κ xs #[] g none):=by
 rw[sortRuns'_eq];refine wpS_bind (wpS_get ?_);dsimp only;have hmr:=xW h64 h128;simp only[show(arrOf (SortSt.mk' κ xs #[] g none)).size=n from hA.sz];generalize minRun' n n 0=mr at hmr;refine wpS_bind (wpS_mono (wpS_forRange
  (I:=fun x c st=>(x=0/\c=(none,0)/\st=SortSt.mk' κ xs #[] g none)\/(1<=x/\∃ ys:Array Keyed,∃ n1,c=(none,n1)/\mr<=n1/\n1<n/\st=SortSt.mk' κ ys #[(0,n1,0)] g none/\ys.toList.Perm xs.toList/\Up rk ys 0 n1/\x=1) ∨
   (c=(none,n)/\∃ ys:Array Keyed,ys.toList.Perm xs.toList/\((st=SortSt.mk' κ ys #[(0,n,0)] g none/\Up rk ys 0 n)\/∃ n1 n2 pw,1<=n1/\1<=n2/\n1+n2=n/\st=SortSt.mk' κ ys #[(0,n1,pw),(n1,n2,0)] g none/\Up rk ys 0 n1/\Up rk ys n1 n)))
  (Q:=fun c st=>c=(none,n)/\∃ ys:Array Keyed,ys.toList.Perm xs.toList/\((st=SortSt.mk' κ ys #[(0,n,0)] g none/\Up rk ys 0 n)\/∃ n1 n2 pw,1<=n1/\1<=n2/\n1+n2=n/\st=SortSt.mk' κ ys #[(0,n1,pw),(n1,n2,0)] g none/\Up rk ys 0 n1/\Up rk ys n1 n))
  ?step ?fin (.inl ⟨rfl,rfl,rfl⟩)) ?post)
 case fin=>
  rintro c st (⟨hx,_⟩|⟨_,_,_,_,_,_,_,_,_,hx⟩|hh)
  ·omega
  ·omega
  ·exact hh
 case step=>
  rintro x c st _ hx (⟨rfl,rfl,rfl⟩|⟨hx1,ys,n1,rfl,hm,hl,rfl,hp,hu,rfl⟩|⟨rfl,hh⟩)
  ·dsimp only;rw[if_neg (by omega)]
   refine wpS_bind (jc hc hA (by omega) (by omega) fun m ys hm1 hm2 hp hk hu=>?_)
   dsimp only;rw[Nat.zero_add]at hu;have out:∀ (zs:Array Keyed) n1,mr<=n1->n1<=n->zs.toList.Perm xs.toList->Up rk zs 0 n1 →
     (0+1=0/\((none:Option Unit),0+n1)=(none,0)/\setPending (SortSt.mk' κ zs #[] g none) ((pendingOf (SortSt.mk' κ zs #[] g none)).push (0,n1,0))=SortSt.mk' κ xs #[] g none)\/(1<=0+1/\∃ ys:Array Keyed,∃ n1',((none:Option Unit),0+n1)=(none,n1')/\mr<=n1'/\n1'<n/\setPending (SortSt.mk' κ zs #[] g none) ((pendingOf (SortSt.mk' κ zs #[] g none)).push (0,n1,0))=SortSt.mk' κ ys #[(0,n1',0)] g none/\ys.toList.Perm xs.toList/\Up rk ys 0 n1'/\0+1=1) ∨
     (((none:Option Unit),0+n1)=(none,n)/\∃ ys:Array Keyed,ys.toList.Perm xs.toList/\((setPending (SortSt.mk' κ zs #[] g none) ((pendingOf (SortSt.mk' κ zs #[] g none)).push (0,n1,0))=SortSt.mk' κ ys #[(0,n,0)] g none/\Up rk ys 0 n)\/∃ n1' n2 pw,1<=n1'/\1<=n2/\n1'+n2=n/\setPending (SortSt.mk' κ zs #[] g none) ((pendingOf (SortSt.mk' κ zs #[] g none)).push (0,n1,0))=SortSt.mk' κ ys #[(0,n1',pw),(n1',n2,0)] g none/\Up rk ys 0 n1'/\Up rk ys n1' n)):=fun zs n1 a1 a2 a3 a4=>by
    rcases Nat.lt_or_ge n1 n with q|q
    ·exact .inr (.inl ⟨by omega,zs,n1,by rw[Nat.zero_add],a1,q,rfl,a3,a4,rfl⟩)
    ·obtain rfl:n1=n:=by omega
     exact .inr (.inr ⟨by rw[Nat.zero_add],zs,a3,.inl ⟨rfl,a4⟩⟩)
   by_cases hlt:m<mr
   ·rw[if_pos hlt];refine wpS_bind (wpS_lift (wpAny_rule ⟨rfl,?_⟩));refine wpS_bind (f6 hc (hA.perm hp) (by omega) (by omega) (by rw[Nat.zero_add];exact hu) fun zs hp2 hk2 hu2=>?_)
    rw[if_neg (by simp)]
    refine wpS_bind (wpS_get ?_);rw[show(pendingOf (SortSt.mk' κ zs #[] g none)).back?=none from rfl];dsimp only;refine wpS_bind (wpS_modify (wpS_pure ?_));rw[Nat.zero_add]at hu2;exact out zs _ (by omega) (by omega) (hp2.trans hp) hu2
   ·rw[if_neg hlt];refine wpS_bind (wpS_get ?_);rw[show(pendingOf (SortSt.mk' κ ys #[] g none)).back?=none from rfl];dsimp only;refine wpS_bind (wpS_modify (wpS_pure ?_));exact out ys _ (by omega) (by omega) hp hu
  ·dsimp only;rw[if_neg (by omega)]
   have hA1:=hA.perm hp;refine wpS_bind (jc hc hA1 (by omega) (by omega) fun m zs hm1 hm2 hp2 hk2 hu2=>?_)
   dsimp only;have loop:∀ (zs:Array Keyed) (f:Nat->Option Unit × Unit->StateT SortSt Sem (ForInStep (Option Unit × Unit))) {R:Option Unit × Unit->SortSt->Prop},
     (∀ x (R':ForInStep (Option Unit × Unit)->SortSt->Prop),R' (.done (none,())) (SortSt.mk' κ zs #[(0,n1,0)] g none)->wpS (model prog w) A E s (f x (none,())) R' (SortSt.mk' κ zs #[(0,n1,0)] g none))->R (none,()) (SortSt.mk' κ zs #[(0,n1,0)] g none) →
     wpS (model prog w) A E s (forIn [0:n] ((none:Option Unit),()) f) R (SortSt.mk' κ zs #[(0,n1,0)] g none):=fun zs f R hf hR=>by
    refine wpS_forRange (I:=fun x c st=>c=(none,())/\st=SortSt.mk' κ zs #[(0,n1,0)] g none) ?_ ?_ ⟨rfl,rfl⟩
    ·rintro x c st _ _ ⟨rfl,rfl⟩;exact hf x _ hR
    ·rintro c st ⟨rfl,rfl⟩;exact hR
   have out:∀ (zs:Array Keyed) n2 pw,n1+n2=n->zs.toList.Perm xs.toList->Up rk zs 0 n1->Up rk zs n1 n →
     ∃ n1' n2' pw',1<=n1'/\1<=n2'/\n1'+n2'=n/\SortSt.mk' κ zs #[(0,n1,pw),(n1,n2,0)] g none=SortSt.mk' κ zs #[(0,n1',pw'),(n1',n2',0)] g none/\Up rk zs 0 n1'/\Up rk zs n1' n:=fun zs n2 pw a1 a2 a3 a4=>
    ⟨n1,n2,pw,by omega,by omega,a1,rfl,a3,a4⟩
   by_cases hlt:m<mr
   ·rw[if_pos hlt];refine wpS_bind (wpS_lift (wpAny_rule ⟨rfl,?_⟩));refine wpS_bind (f6 hc (hA1.perm hp2) (by omega) (by omega) hu2 fun vs hp3 hk3 hu3=>?_)
    rw[if_neg (by simp)]
    have en:min (n-n1) (mr)=n-n1:=by omega
    rw[en]at hu3 ⊢;rw[show n1+(n-n1)=n by omega]at hu3
    refine wpS_bind (wpS_get ?_);rw[show(pendingOf (SortSt.mk' κ vs #[(0,n1,0)] g none)).back?=some (0,n1,0) from rfl];dsimp only;refine wpS_bind (loop vs _ (fun x R' hR=>?_) ?_)
    ·refine wpS_bind (wpS_get ?_);rw[if_neg (by show ¬ (1>1);omega)]
     exact wpS_pure hR
    ·refine wpS_bind (wpS_modify (wpS_bind (wpS_modify (wpS_pure ?_))));exact .inr (.inr ⟨by rw[show n1+(n-n1)=n by omega],vs,hp3.trans (hp2.trans hp),.inr (out vs (n-n1) _ (by omega) (hp3.trans (hp2.trans hp)) (lL (lL hu hk2) hk3) hu3)⟩)
   ·rw[if_neg hlt];obtain rfl:m=n-n1:=by omega
    rw[show n1+(n-n1)=n by omega]at hu2
    refine wpS_bind (wpS_get ?_);rw[show(pendingOf (SortSt.mk' κ zs #[(0,n1,0)] g none)).back?=some (0,n1,0) from rfl];dsimp only;refine wpS_bind (loop zs _ (fun x R' hR=>?_) ?_)
    ·refine wpS_bind (wpS_get ?_);rw[if_neg (by show ¬ (1>1);omega)]
     exact wpS_pure hR
    ·refine wpS_bind (wpS_modify (wpS_bind (wpS_modify (wpS_pure ?_))));exact .inr (.inr ⟨by rw[show n1+(n-n1)=n by omega],zs,hp2.trans hp,.inr (out zs (n-n1) _ (by omega) (hp2.trans hp) (lL hu hk2) hu2)⟩)
  ·dsimp only;rw[if_pos (Nat.le_refl _)];exact wpS_pure ⟨rfl,hh⟩
 case post=>
  rintro c st ⟨rfl,ys,hp,hh⟩;dsimp only;refine wpS_bind (wpS_mono (wpS_forRange
   (I:=fun x c st=>c=(none,())/\∃ ys:Array Keyed,ys.toList.Perm xs.toList/\((∃ p g',p.size<=1/\st=SortSt.mk' κ ys p g' none/\Up rk ys 0 n)\/(x=0/\∃ n1 n2 pw,1<=n1/\1<=n2/\n1+n2=n/\st=SortSt.mk' κ ys #[(0,n1,pw),(n1,n2,0)] g none/\Up rk ys 0 n1/\Up rk ys n1 n)))
   (Q:=fun c st=>c=(none,())/\∃ ys:Array Keyed,ys.toList.Perm xs.toList/\∃ p g',st=SortSt.mk' κ ys p g' none/\Up rk ys 0 n) ?s2 ?f2 ?i2) ?p2)
  case i2=>
   refine⟨rfl,ys,hp,?_⟩
   rcases hh with ⟨rfl,hu⟩|hh
   ·exact .inl ⟨#[(0,n,0)],g,by simp,rfl,hu⟩
   ·exact .inr ⟨rfl,hh⟩
  case f2=>
   rintro c st ⟨rfl,zs,hp2,⟨p,g',_,rfl,hu⟩|⟨hx,_⟩⟩
   ·exact⟨rfl,zs,hp2,p,g',rfl,hu⟩
   ·omega
  case p2=>
   rintro c st ⟨rfl,zs,hp2,p,g',rfl,hu⟩;exact wpS_pure (h zs p g' hp2 hu)
  case s2=>
   rintro x c st _ hx ⟨rfl,zs,hp2,⟨p,g',hp1,rfl,hu⟩|⟨rfl,n1,n2,pw,a1,a2,a3,rfl,a4,a5⟩⟩
   ·refine wpS_bind (wpS_get ?_);rw[if_pos (show(pendingOf (SortSt.mk' κ zs p g' none)).size<=1 from hp1)];exact wpS_pure ⟨rfl,zs,hp2,p,g',rfl,hu⟩
   ·refine wpS_bind (wpS_get ?_);rw[if_neg (show ¬ ((pendingOf (SortSt.mk' κ zs #[(0,n1,pw),(n1,n2,0)] g none)).size<=1) by show ¬ (2<=1);omega)]
    refine wpS_bind ?_;show wpS (model prog w) A E s (mergeAt' 0) _ _;refine rn hc (hA.perm hp2) a1 a2 a3 a4 a5 fun vs g' hp3 hu=>?_;rw[if_neg (by simp)]
    exact wpS_pure ⟨rfl,vs,hp3.trans hp2,.inl ⟨#[(0,n1+n2,pw)],g',by simp,rfl,hu⟩⟩
end
end SR
set_option maxHeartbeats 3200000
namespace SR
open PySem PyProof.Rows
theorem perm_up {α β:Type}{f:α->β}:∀ (ms:List α) (l:List β),List.Perm l (ms.map f)->∃ ms1,List.Perm ms1 ms/\l=ms1.map f
 | [],l,h=>⟨[],.refl _,by simpa using h⟩
 | m::ms,l,h=>by
  rw[List.map_cons]at h;obtain⟨l1,l2,rfl⟩:=List.append_of_mem (h.mem_iff.mpr List.mem_cons_self);have h2:List.Perm (l1++l2) (ms.map f):=List.Perm.cons_inv (a:=f m) (List.perm_middle.symm.trans h);obtain⟨ms1,hp,e⟩:=perm_up ms _ h2;obtain⟨a,b,rfl,ea,eb⟩:=List.append_eq_map_iff.mp e;refine⟨a++m::b,List.perm_middle.trans (List.Perm.cons m hp),?_⟩;rw[List.map_append,List.map_cons,ea,eb]
theorem sd {p q:Nat->Bool}:∀ l:List Nat,(∀ x∈l,p x=true->q x=true)->l.countP p<=l.countP q:=fun l h=>List.countP_mono_left h
theorem se {p q:Nat->Bool}:∀ l:List Nat,(∀ x∈l,p x=true->q x=true)->∀ y∈l,p y=false->q y=true->l.countP p<l.countP q
 | [],_,y,hy,_,_=>absurd hy List.not_mem_nil
 | x::l,h,y,hy,h1,h2=>by
  rw[List.countP_cons,List.countP_cons];have hl:=sd l fun z hz=>h z (List.mem_cons_of_mem _ hz)
  rcases List.mem_cons.mp hy with rfl|hy
  ·rw[h1,h2];simp;omega
  ·have:=se l (fun z hz=>h z (List.mem_cons_of_mem _ hz)) y hy h1 h2;have hx:=h x List.mem_cons_self
   cases hp:p x with
   | false=>simp;split <;> omega
   | true=>rw[hx hp];simp;omega
section
variable {prog:Program}{w:World}{A:Around}{E:Value->Shared->Prop}{s:Shared}{κ:SortKind}
theorem w_run {vs:List Value}{lt:Nat->Nat->Bool}(h64:1<=vs.length)(h128:vs.length<128)
  (hinj:∀ i j,i<vs.length->j<vs.length->vs.getD i Value.none=vs.getD j Value.none->i=j)
  (hirr:∀ i,lt i i=false) (htr:∀ i j k,lt i j=true->lt j k=true->lt i k=true) (hneg:∀ i j k,lt i k=true->lt i j=true\/lt j k=true)
  (htot:∀ i j,i<vs.length->j<vs.length->lt i j=false->lt j i=false->i=j)
  (hcmp:∀ i j,i<vs.length->j<vs.length->∀ Q:Bool->Shared->Prop,Q (lt i j) s->wpAny (model prog w) A (keyLt' κ (vs.getD i Value.none) (vs.getD j Value.none)) Q (fun _ _=>False) s) :
  wpS (model prog w) A E s sortRuns' (fun _ st=>∃ p:Array Nat,arrOf st=p.map (fun i=>(vs.getD i Value.none,vs.getD i Value.none))/\failedOf st=none/\List.Perm p.toList (List.range vs.length) ∧
   ∀ i j,i<=j->j<vs.length->lt (p.getD j 0) (p.getD i 0)=false) (SortSt.mk' κ (vs.toArray.zip vs.toArray) #[] 7 none):=by
 generalize hn:vs.length=n at h64 h128 hinj htot hcmp
 classical
 let it:Nat->Keyed:=fun i=>(vs.getD i Value.none,vs.getD i Value.none)
 let ri:Nat->Int:=fun i=>((List.range n).countP fun j=>lt j i:Nat)
 let rk:Keyed->Int:=fun x=>if h:∃ i,i<n/\it i=x then ri (Classical.choose h) else 0
 have hit:∀ i j,i<n->j<n->it i=it j->i=j:=fun i j hi hj e=>hinj i j hi hj (congrArg Prod.fst e);have hrk:∀ i,i<n->rk (it i)=ri i:=fun i hi=>by
  have hx:∃ j,j<n/\it j=it i:=⟨i,hi,rfl⟩;show(if h:∃ j,j<n/\it j=it i then ri (Classical.choose h) else 0)=ri i
  rw[dif_pos hx];have hs:=Classical.choose_spec hx;rw[hit _ _ hs.1 hi hs.2]
 have hlt:∀ i j,i<n->lt i j=decide (ri i<ri j):=fun i j hi=>by
  cases hb:lt i j with
  | true=>
   have:=se (p:=fun k=>lt k i) (q:=fun k=>lt k j) (List.range n) (fun k _ hk=>htr k i j hk hb) i (by simpa using hi) (hirr i) hb
   exact(decide_eq_true (by show((_:Nat):Int)<((_:Nat):Int);omega)).symm
  | false=>
   have:=sd (p:=fun k=>lt k j) (q:=fun k=>lt k i) (List.range n) (fun k _ hk=>(hneg k i j hk).resolve_right (by rw[hb];simp))
   exact(decide_eq_false (by show ¬ (((_:Nat):Int)<((_:Nat):Int));omega)).symm
 let Gd:Keyed->Prop:=fun x=>∃ i,i<n/\x=it i
 have hc:jh prog w A s κ rk Gd:=by
  rintro x y ⟨i,hi,rfl⟩ ⟨j,hj,rfl⟩ Q hq;rw[hrk i hi,hrk j hj,<-hlt i j hi]at hq;exact hcmp i j hi hj Q hq
 have hzip:(vs.toArray.zip vs.toArray).toList=(List.range n).map it:=by
  apply List.ext_getElem?;intro i
  rcases Nat.lt_or_ge i n with h|h
  ·have h1:i<vs.length:=by omega
   simp[h,it,h1]
  ·have h1:vs.length<=i:=by omega
   simp[h,h1]
 have hA:Ar rk Gd n (vs.toArray.zip vs.toArray):=by
  refine⟨by simp[hn],fun x hx=>?_,?_⟩
  ·rw[hzip]at hx;obtain⟨i,hi,rfl⟩:=List.mem_map.mp hx;exact⟨i,by simpa using hi,rfl⟩
  ·rw[hzip,List.map_map];have e:(List.range n).map (rk ∘ it)=(List.range n).map ri:=List.map_congr_left fun i hi=>hrk i (by simpa using hi)
   rw[e];refine List.pairwise_map.mpr (List.Pairwise.imp_of_mem (fun {i j} hi hj hij e=>?_) List.nodup_range);have hi':i<n:=by simpa using hi
   have hj':j<n:=by simpa using hj
   refine hij (htot i j hi' hj' ?_ ?_)
   ·rw[hlt i j hi'];exact decide_eq_false (by omega)
   ·rw[hlt j i hj'];exact decide_eq_false (by omega)
 refine oP hc hA h64 h128 fun ys p g' hp hu=>?_;rw[hzip]at hp;obtain⟨q,hq,e⟩:=perm_up _ _ hp;have hql:q.length=n:=by rw[hq.length_eq,List.length_range]
 refine⟨q.toArray,?_,rfl,by simpa using hq,fun i j hij hj=>?_⟩
 ·show ys=_;apply Array.toList_inj.mp;rw[e];simp[it]
 ·have hi:i<n:=by omega
  have hys:ys.size=n:=by rw[<-Array.length_toList,e,List.length_map,hql]
  have h1:=hu i j (Nat.zero_le _) hij hj;have at_:∀ k (hk:k<n),kk rk ys k=ri (q[k]'(by omega))/\q[k]'(by omega)<n:=fun k hk=>by
   have hm:q[k]'(by omega)<n:=by simpa using hq.mem_iff.mp (List.getElem_mem (by omega:k<q.length))
   refine⟨?_,hm⟩;rw[fM (by omega)]
   have e2:ys[k]'(by omega)=it (q[k]'(by omega)):=by
    have:ys.toList[k]'(by simp;omega)=(q.map it)[k]'(by simp;omega):=by simp only[e]
    simpa using this
   rw[e2,hrk _ hm]
  rw[(at_ i hi).1,(at_ j hj).1]at h1;have gi:q.toArray.getD i 0=q[i]'(by omega):=by simp[Array.getD,hql,hi]
  have gj:q.toArray.getD j 0=q[j]'(by omega):=by simp[Array.getD,hql,hj]
  rw[gi,gj,hlt _ _ (at_ j hj).2];exact decide_eq_false (by omega)
end
end SR
set_option maxHeartbeats 3200000
namespace ST
open PySem PySem.W PyProof.Rows
def lexB:List Int->List Int->Bool
 | [],[]=>false
 | [],_::_=>true
 | _::_,[]=>false
 | a::x,b::y=>if a=b then lexB x y else decide (a<b)
theorem lex_irr:∀ a,lexB a a=false
 | []=>rfl
 | a::x=>by simp[lexB,lex_irr x]
theorem lex_trans:∀ a b c,lexB a b=true->lexB b c=true->lexB a c=true
 | [],[],c,h1,h2=>h2
 | [],_::_,[],h1,h2=>by simp[lexB]at h2
 | [],_::_,_::_,h1,h2=>rfl
 | _::_,[],c,h1,h2=>by simp[lexB]at h1
 | _::_,_::_,[],h1,h2=>by simp[lexB]at h2
 | a::x,b::y,c::z,h1,h2=>by
  simp only[lexB]at h1 h2 ⊢
  by_cases e1:a=b
  ·subst e1
   by_cases e2:a=c
   ·subst e2;simp only[if_true]at h1 h2 ⊢;exact lex_trans x y z h1 h2
   ·simp only[if_true,e2,if_false]at h1 h2 ⊢;exact h2
  ·by_cases e2:b=c
   ·subst e2;simp only[e1,if_false,if_true]at h1 h2 ⊢;exact h1
   ·simp only[e1,e2,if_false,decide_eq_true_eq]at h1 h2 ⊢;have:a≠c:=by omega
    simp only[this,if_false,decide_eq_true_eq];omega
theorem pC:∀ a b c,lexB a c=true->lexB a b=true\/lexB b c=true
 | [],[],c,h=>.inr h
 | [],_::_,c,h=>.inl rfl
 | _::_,b,[],h=>by simp[lexB]at h
 | _::_,[],_::_,h=>.inr rfl
 | a::x,b::y,c::z,h=>by
  simp only[lexB]at h ⊢
  by_cases e1:a=b
  ·subst e1
   by_cases e2:a=c
   ·subst e2;simp only[if_true]at h ⊢;exact pC x y z h
   ·simp only[e2,if_false]at h ⊢;exact .inr h
  ·by_cases e2:b=c
   ·subst e2;simp only[e1,if_false]at h ⊢;exact .inl h
   ·simp only[e1,e2,if_false,decide_eq_true_eq]at h ⊢
    by_cases e3:a=c
    ·subst e3;omega
    ·simp only[e3,if_false,decide_eq_true_eq]at h;omega
theorem eF:∀ a b,lexB a b=false->lexB b a=false->a=b
 | [],[],_,_=>rfl
 | [],_::_,h,_=>by simp[lexB]at h
 | _::_,[],_,h=>by simp[lexB]at h
 | a::x,b::y,h1,h2=>by
  simp only[lexB]at h1 h2
  by_cases e:a=b
  ·subst e;simp only[if_true]at h1 h2;rw[eF x y h1 h2]
  ·have e':b≠a:=fun h=>e h.symm;simp only[e,e',if_false,decide_eq_false_iff_not]at h1 h2;omega
def rH (key:Nat->List Int)(p:Array Nat)(n:Nat):Prop:=∀ i j,i<=j->j<n->lexB (key (p.getD j 0)) (key (p.getD i 0))=false
section
variable {prog:Program}{w:World}{A:Around}{E:Value->Shared->Prop}{s:Shared}
theorem uy {b:Bool}{Q:Bool->Shared->Prop}:∀ (ks ls:List Int) (xs ys:List Value) (i:Nat),ItemsAre (ik prog w) ks xs->ItemsAre (ik prog w) ls ys->ks.length=ls.length->Q (lexB ks ls) s →
  KatLex prog w A b false Q (xs.zip ys) i s
 | _,_,_,_,i,.nil,.nil,_,h=>h
 | _,_,_,_,i,.nil,.cons _ _,e,h=>by simp at e
 | _,_,_,_,i,.cons _ _,.nil,e,h=>by simp at e
 | _,_,_,_,i,.cons (k:=k) (v:=v) (ks:=ks) (vs:=vs) h1 h2,.cons (k:=k') (v:=v') (ks:=ks') (vs:=vs') h3 h4,e,h=>by
  obtain⟨t,rfl⟩:=Value.isInt_shape h1;obtain⟨t',rfl⟩:=Value.isInt_shape h3;refine kat_cons (wpAny_eqBool_int ?_)
  by_cases hk:k=k'
  ·subst hk;rw[beq_self_eq_true];refine kat_yes (uy ks ks' vs vs' (i+1) h2 h4 (by simpa using e) ?_)
   simpa [lexB] using h
  ·rw[beq_eq_false_iff_ne.mpr hk];refine kat_no ?_;have h':Q (decide (k<k')) s:=by simpa [lexB,hk] using h
   cases hb:(b && i == 0) with
   | true=>exact oneLt_int h'
   | false=>exact kat_one _ _ (wpAny_lt_int h')
theorem pV {h:Heap}:∀ (vs:List Value) (km:Nat->Addr × List Int),(∀ i,i<vs.length->vs.getD i Value.none=.ref (km i).1/\IsTupleKey (ik prog w) h (km i).2 (km i).1/\0<(km i).2.length) →
  ∃ fs,KatTups h vs fs/\fs.length=vs.length/\∀ v∈fs,∃ k t,v=Value.int k t
 | [],km,_=>⟨[],.nil,rfl,fun v hv=>absurd hv List.not_mem_nil⟩
 | v::vs,km,hk=>by
  obtain⟨fs,h1,h2,h3⟩:=pV vs (fun i=>km (i+1)) fun i hi=>by
   have:=hk (i+1) (by simpa using hi)
   simpa using this
  obtain⟨e,⟨o,items,m,ho,hc,hd,hi⟩,hpos⟩:=hk 0 (by simp)
  have ev:v=.ref (km 0).1:=by simpa using e
  subst ev;generalize (km 0).2=kk at hi hpos;obtain⟨k,t,rest,hit⟩:∃ k t rest,items.toList=Value.int k t::rest:=by
   generalize items.toList=il at hi
   cases hi with
   | nil=>simp at hpos
   | @cons k v _ vs' h1 _=>
    obtain⟨t,rfl⟩:=Value.isInt_shape h1;exact⟨k,t,vs',rfl⟩
  refine⟨Value.int k t::fs,.cons ho hc hd (f:=Value.int k t) ?_ h1,by simp[h2],fun u hu=>?_⟩
  ·rw[<-Array.getElem?_toList,hit];rfl
  ·rcases List.mem_cons.mp hu with rfl|hu
   ·exact⟨k,t,rfl⟩
   ·exact h3 u hu
theorem qQ:∀ vs:List Value,vs.length<2->(vs.toArray.zip vs.toArray).map (·.2)=((List.range vs.length).toArray.toList.map fun i=>vs.getD i Value.none).toArray
 | [],_=>by simp
 | [v],_=>by simp[List.range_succ]
 | _::_::_,h=>absurd h (by simp only[List.length_cons];omega)
theorem jQ {prog:Program}{w:World}:∀ {ks ls:List Int}{xs:List Value},ItemsAre (ik prog w) ks xs->ItemsAre (ik prog w) ls xs->ks=ls
 | _,_,_,.nil,.nil=>rfl
 | _,_,_,.cons (k:=k) (v:=v) (ks:=ks) (vs:=vs) h1 h2,.cons (k:=k') (ks:=ks') h3 h4=>by
  obtain⟨t',e'⟩:=Value.isInt_shape h3;obtain⟨t,e⟩:=Value.isInt_shape h1;rw[e]at e';rw[jQ h2 h4,(Value.int.inj e').1]
theorem xM {h:Heap}{ks ls:List Int}{a:Addr}(h1:IsTupleKey (ik prog w) h ks a)(h2:IsTupleKey (ik prog w) h ls a):ks=ls:=by
 obtain⟨o,its,m,ho,hc,hd,hi⟩:=h1;obtain⟨o',its',m',ho',hc',hd',hi'⟩:=h2;rw[ho]at ho';obtain rfl:=Option.some.inj ho';rw[hd]at hd';obtain⟨rfl,_⟩:=Data.seq.inj hd';exact jQ hi hi'
theorem nh {a:Addr}{n d:Nat}{vs:List Value}{km:Nat->Addr × List Int}{P:PySem.Fin->Shared->Prop} (ho:s.heap.get? a=some (seqObj "list" vs.toArray n)) (h64:vs.length<128/\∀ i j,i<vs.length->j<vs.length->(km i).2=(km j).2->i=j) (hd0:0<d)
  (hk:∀ i,i<vs.length->vs.getD i Value.none=.ref (km i).1/\IsTupleKey (ik prog w) s.heap (km i).2 (km i).1/\(km i).2.length=d)
  (h:∀ h' (p:Array Nat) e,(∀ b o,b≠a->s.heap.get? b=some o->h'.get? b=some o)->h'.get? a=some (seqObj "list" (p.toList.map fun i=>vs.getD i Value.none).toArray e) →
   List.Perm p.toList (List.range vs.length)->rH (fun i=>(km i).2) p vs.length->P (.done (.ret .none)) {s with heap:=h'}) :
  wpAny (model prog w) A (Builtin.«list.sort» ⟨[.ref a],[]⟩) P E s:=by
 have ha:a<s.heap.objs.size:=Heap.lt_size ho;have s1:=Heap.SameBut.update s.heap a (Obj.mapSeq fun _=>(#[]:Array Value));obtain⟨e1,ho1⟩:∃ e1,(s.heap.update a (Obj.mapSeq fun _=>(#[]:Array Value))).get? a=some (seqObj "list" #[] e1):=⟨_,get?_update_seq ho fun _=>#[]⟩;generalize hh3:((s.heap.update a (Obj.mapSeq fun _=>(#[]:Array Value))).push (seqObj "tuple" vs.toArray 0)).push (seqObj "list" #[] 0)=h3;have k3:∀ b o,b≠a->s.heap.get? b=some o->h3.get? b=some o:=fun b o hb e=>by
  rw[<-hh3];exact Heap.get?_push_of_some _ (Heap.get?_push_of_some _ ((s1.2 b hb).trans e))
 have a3:h3.get? a=some (seqObj "list" #[] e1):=by rw[<-hh3];exact Heap.get?_push_of_some _ (Heap.get?_push_of_some _ ho1)
 have hk3:∀ i,i<vs.length->vs.getD i Value.none=.ref (km i).1/\IsTupleKey (ik prog w) h3 (km i).2 (km i).1/\(km i).2.length=d:=fun i hi=>by
  obtain⟨x1,⟨o',items,m',ho',hc',hd',hi'⟩,x3⟩:=hk i hi;refine⟨x1,⟨o',items,m',k3 _ o' (fun e=>?_) ho',hc',hd',hi'⟩,x3⟩;rw[e,ho]at ho';obtain rfl:=Option.some.inj ho';exact absurd hc' (by simp[seqObj])
 have fin:∀ p:Array Nat,List.Perm p.toList (List.range vs.length)->rH (fun i=>(km i).2) p vs.length->∃ e,
   (h3.update a (Obj.mapSeq fun _=>(p.toList.map fun i=>vs.getD i Value.none).toArray)).get? a=some (seqObj "list" (p.toList.map fun i=>vs.getD i Value.none).toArray e) ∧
   P (.done (.ret .none)) {s with heap:=h3.update a (Obj.mapSeq fun _=>(p.toList.map fun i=>vs.getD i Value.none).toArray)}:=fun p hp hs=>by
  have hg:=get?_update_seq a3 fun _=>(p.toList.map fun i=>vs.getD i Value.none).toArray;exact⟨_,hg,h _ p _ (fun b o hb e=>((Heap.SameBut.update h3 a _).2 b hb).trans (k3 b o hb e)) hg hp hs⟩
 rw[list_sort_plain];refine wpAny_bind (listItems_at ho rfl ?_);refine wpAny_bind (listUpdate_at ho rfl ?_ (by rw[List.size_toArray,sizeLine_eq];omega) (Nat.zero_le _))
 refine wpAny_bind (seqEpoch_at ho1 rfl ?_);refine wpAny_bind (wpAny_newTuple ?_ (by show vs.length<=_;rw[sizeLine_eq];omega))
 refine wpAny_bind (wpAny_newList ?_ (Nat.zero_le _));refine wpAny_holding ?_;show wpAny (model prog w) A _ P E {s with heap:=((s.heap.update a (Obj.mapSeq fun _=>(#[]:Array Value))).push (seqObj "tuple" vs.toArray 0)).push (seqObj "list" #[] 0)};rw[hh3];dsimp only
 by_cases h2:vs.toArray.size<2
 ·rw[if_pos h2,if_pos h2];refine wpAny_bind (wpAny_pure ?_);rw[StateT.run_pure];refine wpAny_bind (wpAny_pure ?_);dsimp only;have hout:(arrOf (SortSt.mk' general' (vs.toArray.zip vs.toArray) #[] 7 none)).map (·.2)=((List.range vs.length).toArray.toList.map fun i=>vs.getD i Value.none).toArray:=by
   exact qQ vs (by simpa using h2)
  obtain⟨e,hg,hP⟩:=fin (List.range vs.length).toArray (.refl _) (fun i j hij hj=>by
   have h2':vs.length<2:=by simpa using h2
   have:i=j:=by omega
   subst this;exact lex_irr _)
  rw[hout];refine wpAny_bind (seqEpoch_at a3 rfl ?_);refine wpAny_bind (listUpdate_at a3 rfl ?_ (Nat.zero_le _) (by simp[sizeLine_eq];omega))
  simp only[bne_self_eq_false,Bool.false_eq_true,if_false];exact wpAny_pure hP
 ·rw[if_neg h2,if_neg h2];have h2':2<=vs.length:=by simpa using h2
  obtain⟨fs,t1,t2,t3⟩:=pV (prog:=prog) (w:=w) (h:=h3) vs km fun i hi=>⟨(hk3 i hi).1,(hk3 i hi).2.1,by rw[(hk3 i hi).2.2];exact hd0⟩
  refine wpAny_bind (kat_kind (T:=.type "int") t1 (by omega) (fun v hv=>by
   obtain⟨k,t,rfl⟩:=t3 v hv;exact Looks.of_pure rfl) (by decide) ?_)
  have cmp:∀ i j,i<vs.length->j<vs.length->∀ C:Bool->Shared->Prop,C (lexB (km i).2 (km j).2) {s with heap:=h3} →
    wpAny (model prog w) A (keyLt' (tuples' (Value.type "int" != Value.type "tuple")) (vs.getD i Value.none) (vs.getD j Value.none)) C (fun _ _=>False) {s with heap:=h3}:=fun i j hi hj C hC=>by
   obtain⟨x1,⟨o1,it1,m1,ho1',hc1,hd1,hi1⟩,x3⟩:=hk3 i hi;obtain⟨y1,⟨o2,it2,m2,ho2',hc2,hd2,hi2⟩,y3⟩:=hk3 j hj;rw[x1,y1];have hsz:decide (it1.size<it2.size)=false:=by
    have e1:=hi1.length;have e2:=hi2.length;simp only[Array.length_toList]at e1 e2;simp only[decide_eq_false_iff_not];omega
   refine kat_lt ho1' hd1 ho2' hd2 ?_;rw[hsz];exact uy _ _ _ _ 0 hi1 hi2 (x3.trans y3.symm) hC
  have run:wpAny (model prog w) A (sortRuns'.run (SortSt.mk' (tuples' (Value.type "int" != Value.type "tuple")) (vs.toArray.zip vs.toArray) #[] 7 none))
    (fun r s'=>∃ p:Array Nat,arrOf r.2=p.map (kas_item (vs.toArray.zip vs.toArray))/\failedOf r.2=none/\s'={s with heap:=h3}/\List.Perm p.toList (List.range vs.length)/\rH (fun i=>(km i).2) p vs.length) E {s with heap:=h3}:=by
   ·obtain⟨h128,hdist⟩:=h64;have hinj:∀ i j,i<vs.length->j<vs.length->vs.getD i Value.none=vs.getD j Value.none->i=j:=fun i j hi hj e=>by
     refine hdist i j hi hj ?_;obtain⟨x1,x2,_⟩:=hk3 i hi;obtain⟨y1,y2,_⟩:=hk3 j hj;rw[x1,y1]at e;rw[Value.ref.inj e]at x2;exact xM x2 y2
    refine wpAny_mono (SR.w_run (s:={s with heap:=h3}) (lt:=fun i j=>lexB (km i).2 (km j).2) (by omega) h128 hinj (fun i=>lex_irr _) (fun i j k=>lex_trans _ _ _) (fun i j k=>pC _ _ _) (fun i j hi hj h1 h2=>hdist i j hi hj (eF _ _ h1 h2)) cmp) ?_ fun _ _ e=>e
    rintro⟨u,st'⟩ s' ⟨rfl,p,h1,h2,h3,h4⟩;refine⟨p,?_,h2,rfl,h3,fun i j hij hj=>h4 i j hij hj⟩;rw[h1];apply Array.toList_inj.mp;rw[Array.toList_map,Array.toList_map];exact List.map_congr_left fun i _=>(kat_item rfl i).symm
  refine wpAny_bind (wpAny_mono run ?_ fun _ _ e=>e)
  ·rintro⟨⟨⟩,st'⟩ s' ⟨p,har,hf,rfl,hp,hs⟩;dsimp only;obtain⟨e,hg,hP⟩:=fin p hp hs;have hout:=kat_snds (ks:=vs) (vs:=vs) rfl har;rw[hout];refine wpAny_bind (seqEpoch_at a3 rfl ?_);refine wpAny_bind (listUpdate_at a3 rfl ?_ (Nat.zero_le _) (by
    rw[List.size_toArray,List.length_map,hp.length_eq,List.length_range,sizeLine_eq];omega))
   rw[hf];simp only[bne_self_eq_false,Bool.false_eq_true,if_false];exact wpAny_pure hP
end
end ST
set_option maxHeartbeats 3200000
namespace ST
open PySem PySem.W PyProof.Rows
section
variable {prog:Program}{w:World}{A:Around}{E:Value->Shared->Prop}{s:Shared}{o:Obj}{es:Array (Int × Value)}{ep:Nat}{t:SetTable}{S:Addr}
theorem uj {Q:Bool->Shared->Prop} (hT:s.TypeIs (.ref S) "set") (h:Q false s):wpAny (model prog w) A (Builtin.List.listLengthHint (.ref S)) Q E s:=by
 unfold Builtin.List.listLengthHint;refine wpAny_bind (wpAny_specialOf hT F.slot_set_len.lookup ?_);generalize hid:("set.__len__":String)=id0
 wp_delta
 rw[show splitId id0=some ("set","__len__") from by subst hid;decide +kernel]
 subst hid;refine wpAny_bind (wpAny_isInstance (T:="set") (b:=true) hT sub_set_self ?_);refine wpAny_ite_split (fun hab=>absurd hab (by decide)) (fun _=>?_)
 refine wpAny_ite_split (fun _=>?_) (fun hab=>absurd (by decide +kernel) hab)
 refine wpAny_bind (wpAny_typeOf hT ?_);exact wpAny_pure h
theorem oe {ws:List Value}{acc:Array Value}(h:ItemsOf (fun i v=>ws[i]?=some v) acc ws.length):acc=ws.toArray:=by
 obtain⟨h1,h2⟩:=h;have e:acc.toList=ws:=by
  apply List.ext_getElem?;intro i
  by_cases hi:i<acc.size
  ·have h3:=h2 i acc[i] (Array.getElem?_eq_getElem hi);rw[Array.getElem?_toList,Array.getElem?_eq_getElem hi,h3]
  ·rw[List.getElem?_eq_none (by simpa using Nat.le_of_not_lt hi),List.getElem?_eq_none (by rw[<-h1];exact Nat.le_of_not_lt hi)]
 rw[<-e]
theorem l8 {Q:List Value->Shared->Prop}(hh:A.handled=none)(W:fe w o es ep t)(ho:s.heap.get? S=some o)(hz:es.size<=76)
  (h:∀ h' tk,(∀ b o,s.heap.get? b=some o->h'.get? b=some o)->s.heap.objs.size<=h'.objs.size->Q (bI w S ep es) {s with heap:=h',toks:=tk}) :
  wpAny (model prog w) A (collect (.ref S)) Q E s:=by
 have hS0:S<s.heap.objs.size:=Heap.lt_size ho;unfold collect;refine wpAny_bind (wpAny_runValue (codeAny_builtin entry_proto_collect' ?_));show wpAny _ _ (newList [] >>= fun l=>again (.builtin "list.__iadd__" ⟨[l,.ref S],[]⟩)) _ _ s;refine wpAny_bind (wpAny_newList (wpAny_pure ⟨Code.quiet_builtin _ (by decide +kernel),codeAny_builtin entry_list_iadd' ?_⟩))
 show wpAny _ _ (Builtin.List.listExtendWith (.ref s.heap.objs.size) (.ref S) (.ref s.heap.objs.size)) _ _ {s with heap:=s.heap.push (seqObj "list" #[] 0)};have ho1:(s.heap.push (seqObj "list" #[] 0)).get? S=some o:=Heap.get?_push_of_some _ ho;have hT1:Shared.TypeIs {s with heap:=s.heap.push (seqObj "list" #[] 0)} (.ref S) "set":=⟨o,ho1,W.ex.1⟩;unfold Builtin.List.listExtendWith;refine wpAny_bind (wpAny_typeOf hT1 ?_);have b1:Builtin.List.listSameRef (.ref s.heap.objs.size) (.ref S)=false:=by
  have:s.heap.objs.size≠S:=Nat.ne_of_gt hS0;simp[Builtin.List.listSameRef,this]
 have b2:(Value.type "set" == Value.type "list")=false:=by decide
 have b3:(Value.type "set" == Value.type "tuple")=false:=by decide
 simp only[b1,b2,b3,Bool.or_false,Bool.false_eq_true,if_false];refine wpAny_bind (nw W ho1 ?_);generalize hio:({cls:=.type "set_iterator",data:=.fields #[rawInt (0:Nat),rawInt (0:Nat),.ref S,rawInt es.size,rawInt ep]}:Obj)=io;have hsz1:(s.heap.push (seqObj "list" #[] 0)).objs.size=s.heap.objs.size+1:=size_push' ..;dsimp only;rw[hsz1];have ho2:((s.heap.push (seqObj "list" #[] 0)).push io).get? S=some o:=Heap.get?_push_of_some _ ho1;refine wpAny_bind (wpAny_holding (uj ⟨o,ho2,W.ex.1⟩ ?_));refine wpAny_ite_split (fun _=>?_) (fun hab=>absurd (by decide +kernel) hab)
 refine wpAny_bind (wpAny_rule ?_);have hL2:((s.heap.push (seqObj "list" #[] 0)).push io).get? s.heap.objs.size=some (seqObj "list" #[] 0):=Heap.get?_push_of_some _ (Heap.get?_push_size _ rfl);unfold Builtin.List.listTouch;refine wpAny_bind (wpAny_bind (listUpdate_at hL2 rfl ?_ (Nat.zero_le _) (by simp[sizeLine_eq])))
 have hL3:=get?_update_seq hL2 (·.push Value.none);refine listUpdate_at (s:={s with heap:=((s.heap.push (seqObj "list" #[] 0)).push io).update s.heap.objs.size (Obj.mapSeq (·.push Value.none))}) hL3 rfl ?_ (by simp[sizeLine_eq]) (by simp[sizeLine_eq])
 have hL4:=get?_update_seq hL3 (·.pop);generalize hh4:(((s.heap.push (seqObj "list" #[] 0)).push io).update s.heap.objs.size (Obj.mapSeq (·.push Value.none))).update s.heap.objs.size (Obj.mapSeq (·.pop))=h4 at hL4 ⊢;obtain⟨c4,hL4⟩:∃ c4,h4.get? s.heap.objs.size=some (seqObj "list" #[] c4):=⟨_,hL4⟩;have k4:∀ b o,b≠s.heap.objs.size->((s.heap.push (seqObj "list" #[] 0)).push io).get? b=some o->h4.get? b=some o:=fun b o hb e=>by
  rw[<-hh4];exact((Heap.SameBut.update _ _ _).2 b hb).trans (((Heap.SameBut.update _ _ _).2 b hb).trans e)
 have hI4:h4.get? (s.heap.objs.size+1)=some io:=k4 _ _ (Nat.succ_ne_self _) (by
  have:=Heap.get?_push_size (s.heap.push (seqObj "list" #[] 0)) (o:=io) (by rw[<-hio];rfl)
  rwa [hsz1]at this)
 have hne:S≠s.heap.objs.size+1:=Nat.ne_of_lt (Nat.lt_succ_of_lt hS0);have hSf:s.heap.objs.size∉[s.heap.objs.size+1,S]:=fun hm=>by
  rcases List.mem_cons.mp hm with e|hm
  ·exact Nat.ne_of_lt (Nat.lt_succ_self _) e
  ·exact Nat.ne_of_gt hS0 (List.mem_singleton.mp hm)
 refine wpAny_pure ⟨plainId_quiet F.plain_extend_loop _,?_⟩;refine codeAny_extend_loopS ((rq (by simp[hh]) W hne).toS) (by rw[sizeLine_eq];omega) s.heap.objs.size hSf _ es.size 0 _ #[] c4 rfl (Nat.zero_le _)
  ⟨0,⟨_,hI4,by rw[<-hio],by rw[<-hio]⟩,fun _=>nL W.ris,k4 S o (Nat.ne_of_lt hS0) ho2⟩ hL4 (ItemsOf.nil _) fun s' acc' c' hm hS' hacc=>?_
 have hacc':acc'=(bI w S ep es).toArray:=oe (by rw[jd W];exact hacc)
 subst hacc';have key:∀ b o,s.heap.get? b=some o->s'.heap.get? b=some o:=fun b o e=>by
  have hb:b<s.heap.objs.size:=Heap.lt_size e;refine hm.heap b o (fun hmem=>?_) (k4 b o (Nat.ne_of_lt hb) (Heap.get?_push_of_some _ (Heap.get?_push_of_some _ e)))
  rcases List.mem_cons.mp hmem with e'|hmem
  ·exact Nat.ne_of_lt hb e'
  ·exact Nat.ne_of_lt (Nat.lt_succ_of_lt hb) (List.mem_singleton.mp hmem)
 rw[Moved.eq_with hm];show wpAny (model prog w) A (load s.heap.objs.size >>= fun o=>match o.data with
   | .seq xs _=>pure xs.toList
   | _=>unsupported "internal:collect") Q E {s with heap:=s'.heap,toks:=s'.toks}
 refine wpAny_bind (wpAny_load hS' ?_);exact wpAny_pure (h s'.heap s'.toks key (Nat.le_of_lt (Heap.lt_size hS')))
theorem qS {α β:Type}{f:α->β}(ms:List α)(l:List β)(h:List.Perm l (ms.map f)):∃ ms1,List.Perm ms1 ms/\l=ms1.map f:=SR.perm_up ms l h
theorem gN {α:Type}(l:List α)(d:α):(List.range l.length).map (fun i=>l.getD i d)=l:=by
 apply List.ext_getElem?;intro i;rw[List.getElem?_map]
 rcases Nat.lt_or_ge i l.length with h|h
 ·simp[h]
 ·simp[h]
theorem call_sorted_set {Q:Value->Shared->Prop}{ms:List (Addr × List Int)}{d:Nat}(hh:A.handled=none)(hS:b9 prog w s.heap S ms)(h64:ms.length<=76)(hd0:0<d)(hd:∀ m∈ms,m.2.length=d)
  (h:∀ h' tk D e (ns:List (Addr × List Int)),List.Perm ns ms->ns.Pairwise (fun a b=>lexB a.2 b.2=true)->(∀ b o,s.heap.get? b=some o->h'.get? b=some o)->s.heap.objs.size<=D →
   h'.get? D=some (seqObj "list" (ns.map fun m=>Value.ref m.1).toArray e)->Q (.ref D) {s with heap:=h',toks:=tk}) :
  wpAny (model prog w) A (call (.builtin "sorted") [.ref S]) Q E s:=by
 obtain⟨o,es,ep,t,ps,ho,hex,hdt,T,R,H,hpl,hled⟩:=hS;have W:fe w o es ep t:=⟨hex,hdt,T.fits R.le,T.ris',hpl,hled⟩;have hes:es.size=ms.length:=H.len;refine Calls.call_function_entry kind_sorted plain_sorted entry_sorted (args_sorted1 _) ?_;unfold Builtin.«sorted»;refine wpAny_bind (m:=checkCount "sorted" 1 1 _) (wpAny_pure ?_);refine wpAny_bind (l8 (by simp[hh]) W ho (by omega) fun h1 tk k1 le1=>?_)
 have hwp:List.Perm (bI w S ep es) (ms.map fun m=>Value.ref m.1):=by
  refine(kj w S ep es).trans ?_;have:=H.pm.map (·.2);rw[List.map_map]at this;exact this
 obtain⟨ms1,hpm1,ews⟩:∃ ms1:List (Addr × List Int),List.Perm ms1 ms/\bI w S ep es=ms1.map fun m=>Value.ref m.1:=qS ms _ hwp;have hlen1:ms1.length=ms.length:=hpm1.length_eq;rw[ews];refine wpAny_bind (wpAny_newList ?_ (by rw[List.length_map,sizeLine_eq];omega))
 dsimp only;have hoL:(h1.push (seqObj "list" (ms1.map fun m=>Value.ref m.1).toArray 0)).get? h1.objs.size=some (seqObj "list" (ms1.map fun m=>Value.ref m.1).toArray 0):=Heap.get?_push_size _ rfl;refine wpAny_bind (wpAny_holding (wpAny_call_entry slot_list_sort ⟨_,hoL,rfl⟩ entry_list_sort ?_ (args_list_sort _)));refine nh (s:={s with heap:=h1.push (seqObj "list" (ms1.map fun m=>Value.ref m.1).toArray 0),toks:=tk}) (km:=fun i=>ms1.getD i (0,[])) hoL ⟨by rw[List.length_map];omega,fun i j hi hj e=>?_⟩ hd0 (fun i hi=>?_) fun h' p e hk hg hp hs=>?_
 ·have hi':i<ms1.length:=by simpa using hi
  have hj':j<ms1.length:=by simpa using hj
  have nd1:(ms1.map (·.2)).Nodup:=(hpm1.map (·.2)).nodup_iff.mpr H.nd;have e':(ms1.map (·.2))[i]'(by simpa using hi')=(ms1.map (·.2))[j]'(by simpa using hj'):=by
   simpa [hi',hj'] using e
  exact(List.getElem_inj nd1).mp e'
 ·have hi':i<ms1.length:=by simpa using hi
  have hm:ms1.getD i (0,[])=ms1[i]:=by simp[hi']
  have hmem:ms1[i]∈ms:=hpm1.mem_iff.mp (List.getElem_mem hi');dsimp only;rw[hm];refine⟨by simp[hi'],?_,hd _ hmem⟩
  obtain⟨o',its,m',ho',x⟩:=H.key _ hmem;exact⟨o',its,m',Heap.get?_push_of_some _ (k1 _ _ ho'),x⟩
 ·refine⟨_,rfl,wpAny_pure ⟨_,rfl,?_⟩⟩;rw[List.length_map]at hp hs;have hns:(p.toList.map fun i=>(ms1.map fun m=>Value.ref m.1).getD i Value.none)=(p.toList.map fun i=>ms1.getD i (0,[])).map fun m=>Value.ref m.1:=by
   rw[List.map_map];refine List.map_congr_left fun i hi=>?_;have hi':i<ms1.length:=by simpa using hp.mem_iff.mp hi
   simp[hi']
  have hpn:List.Perm (p.toList.map fun i=>ms1.getD i (0,[])) ms1:=by
   have:=hp.map fun i=>ms1.getD i ((0:Addr),([]:List Int))
   rwa [gN]at this
  rw[hns]at hg;refine h h' tk _ e _ (hpn.trans hpm1) ?_ (fun b o e=>hk b o (fun hb=>?_) (Heap.get?_push_of_some _ (k1 b o e))) ?_ hg
  ·have hnd:((p.toList.map fun i=>ms1.getD i ((0:Addr),([]:List Int))).map (·.2)).Nodup:=((hpn.trans hpm1).map (·.2)).nodup_iff.mpr H.nd;have hpl:p.toList.length=ms1.length:=by rw[hp.length_eq,List.length_range]
   rw[List.pairwise_iff_getElem];intro i j hi hj hij;rw[List.length_map]at hi hj;have h1:=hs i j (Nat.le_of_lt hij) (by omega)
   have ei:p.getD i 0=p.toList[i]:=by simp at hi;simp[Array.getD,hi]
   have ej:p.getD j 0=p.toList[j]:=by simp at hj;simp[Array.getD,hj]
   have hne:=List.pairwise_iff_getElem.mp hnd i j (by simpa using hi) (by simpa using hj) hij
   simp only[List.getElem_map]at hne ⊢;rw[ei,ej]at h1
   cases hb:lexB (ms1.getD p.toList[i] (0,[])).2 (ms1.getD p.toList[j] (0,[])).2 with
   | true=>rfl
   | false=>exact absurd (eF _ _ hb h1) hne
  ·exact Nat.ne_of_lt (Heap.lt_size (k1 b o e)) hb
  ·exact le1
end
end ST
set_option maxHeartbeats 4000000
namespace DL
open PySem PySem.Spec L2 PyProof.Rows
def yk:Expr->Bool
 | .Starred ..=>false
 | _=>true
theorem dF {e:Expr}{es:List Expr}{env:Env}(h:yk e=true):starEach (e::es) env=(false,eval e env)::starEach es env:=by
 cases e <;> first|rfl|cases h
section
variable {prog:Program}{w:World}{A:Around}{E:Value->Shared->Prop}{s:Shared}
end
section
variable {X:Cx}{e:Expr}{te:TE}{p1 p2 pos1 pos2:Pos}
def vW (R:S->Prop)(s:S):Prop:=match items s with
 | some ts=>bx ts=true/\R (.ol ts.reverse)
 | none=>False
def v9 (we:WE):WE:=fun δ R=>we δ (vW R)
end
theorem qa (we:WE)(δ:az)(R:S->Prop):v9 we δ R=we δ (vW R):=rfl
theorem BS (R:S->Prop)(ts:List T):vW R (.t (.lst ts))=(bx ts=true/\R (.ol ts.reverse)):=rfl
theorem BV (R:S->Prop)(ts:List T):vW R (.vt (.lst ts))=(bx ts=true/\R (.ol ts.reverse)):=rfl
theorem BU (R:S->Prop)(ts:List T):vW R (.ol ts)=(bx ts=true/\R (.ol ts.reverse)):=rfl
def refs (km:List (Addr × List Int)):List V:=km.map fun m=>V.ref m.1
def v5 (K:PySem.W.Frag)(te:TE):TE:=fun σ H Q=>te σ H fun x H1=>∃ p d,∃ km:List (Addr × List Int),x=.ref p/\ca K H1 p (refs km)/\km.length<=76/\0<d ∧
 (∀ m∈km,dy K H1 m.1 (m.2.map V.int)/\m.2.length=d) ∧
 ∀ ns:List (Addr × List Int),(∀ m∈ns,m∈km)->(∀ m∈km,m.2∈ns.map (·.2))->ns.Pairwise (fun a b=>ST.lexB a.2 b.2=true)->∀ l,H1 l=none->Q (.ref l) (a8 H1 l (.lst (refs ns)))
theorem gD:∀ {km:List (Addr × List Int)}{us:List Value},aA (refs km) us->us=km.map fun m=>Value.ref m.1
 | [],_,.nil=>rfl
 | m::km,_,.cons r t=>by cases r;rw[gD t];rfl
theorem lu:∀ km:List (Addr × List Int),aA (refs km) (km.map fun m=>Value.ref m.1)
 | []=>.nil
 | m::km=>.cons rfl (lu km)
section
variable {X:Cx}{e:Expr}{te:TE}{p1 p2 pos1 pos2:Pos}
theorem iK {prog:Program}{w:World}:∀ {ks:List Int}{us:List Value},aA (ks.map V.int) us->ItemsAre (intKind prog w) ks us
 | [],_,.nil=>.nil
 | k::ks,_,.cons r t=>by obtain⟨tk,rfl⟩:=r;exact .cons (intKind_is _ _ _ _) (iK t)
theorem pU {pins:List (Addr × Obj)}{σ:L2.St}{H:Hp}{s:Shared}(I:ay X pins σ H s){a:Addr}{ks:List Int}(h:dy X.K H a (ks.map V.int)):IsTupleKey (ST.ik X.prog X.w) s.heap ks a:=by
 obtain⟨its,r,⟨o,ho,hc,n,hd⟩,_⟩:=I.tuple h;exact⟨o,its.toArray,n,ho,hc,hd,by simpa using iK r⟩
theorem ox {k:Nat} (hr:bg k X.A) (hm1:X.mg "sorted"=none) (hm2:X.mg "set"=none) (hd:X.A.handled=none) (he:PE X e te) (hg1:Gl X "sorted":=by rfl) (hg2:Gl X "set":=by rfl)
  (ww:starEach [e] X.env=(false,eval e X.env)::starEach [] X.env:=by exact dF rfl) (nA:starEach [.Call (.Name "set" p2) [e] [] pos2] X.env=(false,eval (.Call (.Name "set" p2) [e] [] pos2) X.env)::starEach [] X.env:=by rfl) :
  PE X (.Call (.Name "sorted" p1) [.Call (.Name "set" p2) [e] [] pos2] [] pos1) (v5 X.K te):=by
 intro pins s σ H Q I h;refine wpAny_Call_Name_kw (fk I hg1 hm1 PyProof.Rows.boot_sorted ?_);refine PyProof.Rows.callWith_builtin1 ?_ nA;rw[nA];show wpAny _ _ (spliced ((false,eval (.Call (.Name "set" p2) [e] [] pos2) X.env)::backTo pos1 (starEach [] X.env))) _ _ s;refine Calls.spliced_cons ?_;refine wpAny_Call_Name_kw (fk I hg2 hm2 PyProof.Rows.boot_set ?_);refine PyProof.Rows.callWith_type1 ?_ ww;rw[ww];show wpAny _ _ (spliced ((false,eval e X.env)::backTo pos2 (starEach [] X.env))) _ _ s;refine Calls.spliced_cons (bB (he pins s σ H _ I h) fun u s1 ⟨x,H1,I1,r1,q1⟩=>?_);obtain⟨p,d,km,rfl,hq,hlen,hd0,hkm,fin⟩:=q1
 cases r1
 refine Calls.spliced_nil ?_;obtain⟨its,r,pl,hz⟩:=I1.list hq;have eits:=gD r;subst eits;have hsz:((km.map fun m=>Value.ref m.1).toArray).size=km.length:=by simp
 refine ST.call_set_tup (km:=fun i=>km.getD i (0,[])) hd (by have:=hr.units;omega) pl.isList (fun i v hv=>?_) (fun i hi=>?_) (by rw[hsz];omega) fun h2 tk2 hS k2=>?_
 ·rw[List.getElem?_toArray,List.getElem?_map]at hv
  cases hk:km[i]? with
  | none=>rw[hk]at hv;simp at hv
  | some m=>
   rw[hk]at hv;simp only[List.getD_eq_getElem?_getD,hk,Option.getD_some];simpa using hv.symm
 ·rw[hsz]at hi;have e1:km.getD i (0,[])=km[i]:=by simp[hi]
  rw[e1];exact pU I1 (hkm _ (List.getElem_mem hi)).1
 refine Calls.spliced_nil ?_;rw[hsz]at hS;have hmet:∀ m∈ST.met (fun i=>km.getD i (0,[])) km.length,m∈km:=fun m hm=>by
  obtain⟨i,hi,rfl⟩:=ST.met_of _ _ m hm;have e1:km.getD i (0,[])=km[i]:=by simp[hi]
  rw[e1];exact List.getElem_mem hi
 refine ST.call_sorted_set (s:={s1 with heap:=h2,toks:=tk2}) hd hS (Nat.le_trans (ST.met_len _ _) hlen) hd0 (fun m hm=>(hkm m (hmet m hm)).2) fun h3 tk3 D c3 ns hpm hpw k3 le3 hD=>?_;have keep:∀ b o,s1.heap.get? b=some o->h3.get? b=some o:=fun b o e=>k3 b o (k2 b o (Heap.lt_size e) e);have le:s1.heap.objs.size<=D:=by
  obtain⟨o2,_,_,_,_,ho2,_⟩:=hS;exact Nat.le_trans (Nat.le_of_lt (Heap.lt_size ho2)) le3
 have hnl:ns.length<=76:=by rw[hpm.length_eq];exact Nat.le_trans (ST.met_len _ _) hlen
 refine⟨.ref D,_,I1.laid (t':=tk3) keep le (show bh X.prog X.w _ h3 _ (.lst (refs ns)) from⟨?_,_,c3,lu ns,hD⟩),rfl,fin ns (fun m hm=>hmet m (hpm.mem_iff.mp hm)) (fun m hm=>?_) hpw _ (I1.hok.fresh le)⟩
 ·unfold refs;rw[List.length_map];exact Nat.le_trans hnl (by decide)
 ·obtain⟨i,hi,rfl⟩:=List.getElem_of_mem hm;have h1:=ST.met_has (fun i=>km.getD i (0,[])) km.length i hi;have e1:km.getD i (0,[])=km[i]:=by simp[hi]
  rw[e1]at h1;exact(hpm.map (·.2)).mem_iff.mpr h1
end
def eU (ks:List Int):T:=.tup (ks.map T.int)
def FN (R:S->Prop)(s:S):Prop:=match items s with
 | some ts=>∃ (d:Nat) (kss:List (List Int)),0<d/\ts=kss.map eU/\(∀ ks∈kss,ks.length=d)/\kss.length<=76 ∧
   ∀ ns:List (List Int),(∀ k∈ns,k∈kss)->(∀ k∈kss,k∈ns)->ns.Pairwise (fun a b=>ST.lexB a b=true)->R (.ol (ns.map eU))
 | none=>False
def i9 (we:WE):WE:=fun δ R=>we δ (FN R)
theorem j6:∀ ks:List Int,bx (ks.map T.int)=true
 | []=>rfl
 | k::ks=>by simp only[List.map_cons,bx,ji,Bool.true_and];exact j6 ks
theorem gC:∀ kss:List (List Int),bx (kss.map eU)=true
 | []=>rfl
 | k::kss=>by
  simp only[List.map_cons,bx,Bool.and_eq_true];exact⟨by unfold eU;simp only[ji];exact j6 k,gC kss⟩
theorem gP {K:PySem.W.Frag}{H:Hp}:∀ {ks:List Int}{xs:List V},ae K H (ks.map T.int) xs->xs=ks.map V.int
 | [],_,h=>h
 | k::ks,_,⟨x,r,e,p,q⟩=>by subst e;cases p;rw[gP q];rfl
theorem iZ {K:PySem.W.Frag}{H:Hp}:∀ {kss:List (List Int)}{xs:List V},ae K H (kss.map eU) xs →
  ∃ km:List (Addr × List Int),km.map (·.2)=kss/\xs=refs km/\∀ m∈km,dy K H m.1 (m.2.map V.int)/\al K H (eU m.2) (.ref m.1)
 | [],_,h=>⟨[],rfl,h,fun m hm=>absurd hm List.not_mem_nil⟩
 | k::kss,_,⟨x,r,e,p,q⟩=>by
  subst e;obtain⟨km,e1,e2,h1⟩:=iZ q;obtain⟨a,ys,e3,sq,ty⟩:=id p;subst e3;have e4:=gP ty;subst e4;refine⟨(a,k)::km,by rw[List.map_cons,e1],by rw[e2];rfl,fun m hm=>?_⟩
  rcases List.mem_cons.mp hm with rfl|hm
  ·exact⟨sq,p⟩
  ·exact h1 m hm
theorem iM {K:PySem.W.Frag}{H:Hp}:∀ ns:List (Addr × List Int),(∀ m∈ns,al K H (eU m.2) (.ref m.1))->ae K H ((ns.map (·.2)).map eU) (refs ns)
 | [],_=>rfl
 | m::ns,h=>⟨.ref m.1,refs ns,rfl,h m List.mem_cons_self,iM ns fun m' hm=>h m' (List.mem_cons_of_mem _ hm)⟩
section
variable {X:Cx}{e:Expr}{p1 p2 pos1 pos2:Pos}
theorem nX {k:Nat}{we:WE} (hr:bg k X.A) (hm1:X.mg "sorted"=none) (hm2:X.mg "set"=none) (hd:X.A.handled=none) (he:PE X e (ah X.K we)) (hg1:Gl X "sorted":=by rfl) (hg2:Gl X "set":=by rfl)
  (ww:starEach [e] X.env=(false,eval e X.env)::starEach [] X.env:=by exact dF rfl) (nA:starEach [.Call (.Name "set" p2) [e] [] pos2] X.env=(false,eval (.Call (.Name "set" p2) [e] [] pos2) X.env)::starEach [] X.env:=by rfl) :
  PE X (.Call (.Name "sorted" p1) [.Call (.Name "set" p2) [e] [] pos2] [] pos1) (ah X.K (i9 we)):=
 (ox hr hm1 hm2 hd he hg1 hg2 ww nA).imp fun σ H Q ⟨δ,R,F,rl,h,k⟩=>⟨δ,_,F,rl,h,fun v F1 H1 s ex p q=>by
  unfold FN at q
  split at q
  ·rename_i ts hi;obtain⟨a,xs,rfl,sq,tp⟩:=(p.val ex.sub).list ex.sub hi;obtain⟨d,kss,hd0,rfl,hlen,h63,fin⟩:=q;obtain⟨km,e1,e2,h1⟩:=iZ tp;subst e2;have hkm:∀ m∈km,m.2∈kss:=fun m hm=>by rw[<-e1];exact List.mem_map.mpr ⟨m,hm,rfl⟩
   refine⟨a,d,km,rfl,sq,by rw[<-e1,List.length_map]at h63;exact h63,hd0,fun m hm=>⟨(h1 m hm).1,hlen _ (hkm m hm)⟩,fun ns n1 n2 n3 l hl=>?_⟩
   have e2:=bX.newL (refs ns) ex.sub ex.full hl;have hp:ae X.K F1 ((ns.map (·.2)).map eU) (refs ns):=ae.full ex.full (gC _) (iM ns fun m hm=>(h1 m (n1 m hm)).2);exact k _ F1 _ (.ol ((ns.map (·.2)).map eU)) (ex.trans e2) ⟨l,refs ns,rfl,ax ex.hh hl,ax ex.sub hl,aB,hp⟩
    (fin _ (fun k hk=>by obtain⟨m,hm,rfl⟩:=List.mem_map.mp hk;exact hkm m (n1 m hm)) (fun k hk=>by
     rw[<-e1]at hk;obtain⟨m,hm,rfl⟩:=List.mem_map.mp hk;exact n2 m hm) (List.pairwise_map.mpr n3))
  ·exact q.elim⟩
end
theorem qb (we:WE)(δ:az)(R:S->Prop):i9 we δ R=we δ (FN R):=rfl
end DL
set_option maxHeartbeats 4000000
namespace DL
open PySem PySem.Spec L2 PyProof.Rows
def AW (i:Nat)(δ:az)(N:az->Prop)(ts:List T):S->Prop
 | .ol us=>ts.length+us.length<100000/\N (δ.set i (some (.ol (ts++us))))
 | _=>False
def ig (i:Nat)(we:WE):WS:=fun D δ=>match δ[i]? with
 | some (some (.ol ts))=>we δ (AW i δ D.nx ts)
 | _=>False
theorem rL {i:Nat}{we:WE}{D:dP}{δ:az}:ig i we D δ=iO i δ fun ts=>we δ (AW i δ D.nx ts):=rfl
theorem AX {i:Nat}{δ:az}(N:az->Prop)(ts us:List T):AW i δ N ts (.ol us)=(ts.length+us.length<100000/\N (δ.set i (some (.ol (ts++us))))):=rfl
section
variable {X:Cx}{e:Expr}{we:WE}{pos:Pos}{H₀:Hp}{i:Nat}{x:Str}{p1 p2:Pos}
theorem qv (he:PE X e (ah X.K we)) (hv:PE X (.Name x p1) (lJ i):=by exact pv _) (hbase:attributeBase (.Name x p1) "extend" X.env (eval (.Name x p1) X.env)=eval (.Name x p1) X.env:=by rfl)
  (hfew:((backTo pos (starEach [e] X.env)).all (fun x=>!x.1) && (backToKw pos (keywordEach [] X.env)).all (fun x=>x.1.isSome) && decide ([e].length+([]:List Keyword).length+(if ([]:List Keyword).isEmpty then 0 else 1)<30))=true:=by rfl)
  (hline:(p2.endLine == pos.line)=true:=by rfl) (hs:starEach [e] X.env=(false,eval e X.env)::starEach [] X.env:=by rfl) (hplain:(backTo pos (starEach [] X.env)).any (·.1)=false:=by rfl) {pos':Pos}
  (hsw:swapsWith (.Call (.Attribute (.Name x p1) "extend" p2) [e] [] pos) none pos'.line X.env=pure false:=by rfl) :
  PS X (.Expr (.Call (.Attribute (.Name x p1) "extend" p2) [e] [] pos) pos') (aP X.K H₀ (ig i we)):=
 (lG (zw PySem.F.plainAttrs_list PySem.F.slot_list_extend PySem.F.type_list_extend qL hv (cX he iT hs) hbase hfew hline hs hplain) hsw).imp fun D σ H ⟨δ,D',F,s0,rl,h,ok⟩=>by
  unfold ig at h
  split at h
  ·rename_i ts hi;obtain⟨v,ha,a,xs,rfl,hF,hH,hr⟩:=rl.slot i _ hi;refine⟨_,ha,.inl ⟨rfl,xs,ca.of hH⟩,δ,_,F,rl,h,fun v F1 H1 s e p q=>?_⟩
   cases s with
   | ol us=>
    obtain⟨hl,q⟩:=q;obtain⟨b,zs,rfl,_,hFb,hHb,hr2⟩:=p;have h1:=e.hh _ _ hH;refine⟨a,b,xs,zs,rfl,rfl,h1,hHb,by rw[hr.length,hr2.length];exact Nat.le_of_lt (hX hl),?_⟩
    exact ok.nx σ F1 _ _ e.ff ((rl.ext e).mutate hi ha (e.keep a (by rw[hH];simp) hF) ⟨xs,h1⟩ ((ae.same e.ff hr).append hr2)) q
   | _=>exact q.elim
  ·exact h.elim
end
end DL
namespace DL
open PySem PySem.Spec L2 PyProof.Rows
section
variable {X:Cx}{H₀:Hp}{Ex:Addr->L2.St->Hp->Prop}{st:Stmt}{a b:WX}{pos:Pos}
end
end DL
open L2 DL
def zI:List String:=("rL AX qa BS BV BU qb Bh Bi xT xU C9 Da Fo C8 Am Al Af wM zY zZ De GI C3 Fq GH Fm C1 CW CU CY CV Di Dj Dk Dl AU AT AV xv xw xu AR AS AQ AI AJ AH AO iz AN AL DA AK AM GG Ap zT C4 Ah zU C5 Ai xb BA x4 CS Fn C2 zX Dc C0 F6 F7 F8 FF FG FH FI FJ zV Aa z8 Ab z9 CN Ad Ae z7 z6 wU wW wV DF DX Fp Ce Ez ty_int Cf EA EC EB kZ jv kX k7 k8 kY jq iJ jo jr js jp kO jt kM kP kQ kN lg jw k9 lh li lc lm jx lj lp lq ll kT ju kR kU kW kS CP rO xQ xS xR w8 Ew rP BW rQ BX wR z5 z4 wQ Dd Ci C6 BB w4 B0 B4 B3 wY Aj BJ rK Ao C7 wZ List.set_cons_zero List.set_cons_succ List.map_cons List.map_nil if_true if_false true_and and_true Bool.not_true Bool.not_false Bool.not_eq_true decide_eq_true_eq decide_eq_false_iff_not Bool.not_not Bool.false_eq_true Bool.true_eq_false ite_true ite_false Int.reducePow Int.reduceToNat Int.reduceNeg Int.reduceMul Int.reduceAdd Int.reduceSub List.length_cons List.length_nil Nat.zero_add Nat.reduceAdd ite_not Dm Do Dp Dq vy xX vw vA vv vx xY vz xZ DC DD DB CZ Ac F9 ty_str yS CT Ag DU Bk Bl Bm Bn Bo Bp Ey Cj An CO Ax Az Ay zW Df xI xH yy BN yt yB yC yu vO j5 Bool.and_true Bool.true_and Bool.and_self pN tK u7 tL u9 tJ u6 tO vc tP vd tN vb tG u0 tH u3 tF uZ tI u5 tM va tE uY pM sQ uG sR uH sP uF sU uK sV uL sT uJ sM uC sN uD sL uB sO uE sS uI sK uA yE tW vk tX vm tV vj t0 vp t4 vq tZ vo tS vg tT vh tR vf tU vi tY vn tQ ve yD tm uS tq uT tj uR tx uW tz uX tw uV sY uO sZ uP sX uN tf uQ tu uU sW uM aX aY ET spT DG DY DE DW jn List.replicate_succ List.replicate_zero List.cons_append List.nil_append List.getElem?_cons_succ List.getElem?_cons_zero Option.join_some Option.join_none wJ wL wK wO wN".splitOn " ")
local macro_rules | `(tactic| walk_at "dl")=>do {let ids:Array (Lean.TSyntax `ident):=zI.toArray.map (fun x=>Lean.mkIdent x.toName);`(tactic| try simp only[$[$ids:ident],*])}
local macro_rules | `(tactic| walk_at "db")=>do {let ids:Array (Lean.TSyntax `ident):=zI.toArray.map (fun x=>Lean.mkIdent x.toName);`(tactic| try simp (config:={implicitDefEqProofs:=false}) only [$[$ids:ident],*])}
local macro_rules | `(tactic| walk_at "sz")=>`(tactic| first | assumption | with_reducible exact Sz.of (m:=250) (by omega) (by omega) | with_reducible exact Sz.mul (by walk_at "sz") (by walk_at "sz") | with_reducible exact Sz.add (by walk_at "sz") (by walk_at "sz") | with_reducible exact Sz.sub (by walk_at "sz") (by walk_at "sz") | with_reducible exact Sz.neg (by walk_at "sz"))
local macro_rules | `(tactic| walk_at "szk")=>`(tactic| first | assumption | exact Sz.mono (by walk_at "sz") (by decide))
local macro_rules | `(tactic| walk_at "mul")=>`(tactic| first | with_reducible exact Bj (by decide) (by decide) | with_reducible exact mW (by walk_at "sz") (by walk_at "sz") (by decide) (by decide) | with_reducible exact Bj (by omega) (by omega) | with_reducible exact DV (by omega) (by omega))
local macro_rules | `(tactic| walk_at "side")=>`(tactic| first | decide | with_reducible exact vK (by decide) (by decide) (by decide) | with_reducible exact sr (by decide) (by decide +kernel) | walk_at "mul" | omega | assumption)
local macro_rules | `(tactic| walk_at "pre")=>`(tactic| repeat ((with_reducible apply And.intro);(case left=>walk_at "side")))
local macro_rules | `(tactic| walk_at "go")=>`(tactic| (walk_at "dl";walk_at "pre"))
local macro_rules | `(tactic| walk_at "gb")=>`(tactic| (walk_at "db";walk_at "pre"))
namespace Law
open L2 DL
def bL:aR:=fun ss R=>∃ a b:Int,ss=[.t (.int a),.t (.int b)]/\R (.t (.int (Int.gcd a b)))
def aU:aR:=bL
def ci:aR:=fun ss R=>∃ s,ss=[.t s]/\zE s≠.exc/\R (.t (.bl (ba (zE s) .int && !ba (zE s) .bool)))
theorem mJ:∀ ss R,bL ss R->ss.length=2:=by rintro ss R ⟨a,b,rfl,_⟩;rfl
theorem jy:∀ ss R,aU ss R->ss.length=2:=by rintro ss R ⟨a,b,rfl,_⟩;rfl
theorem mM:∀ ss R,ci ss R->ss.length=1:=by rintro ss R ⟨a,rfl,_⟩;rfl
theorem xP:∀ ss R,ke ss R->ss.length=1:=by rintro ss R ⟨a,rfl,_⟩;rfl
def eM:WS:=
 (bp (bu 2 (gQ mn (ag (af 0) aE)))
 (bp (bu 3 (gQ mn (ag (af 1) aE)))
 (cZ (oN (wB (Cz (af 3) (wC (.int 0)))) (bp (bu 4 (ee (af 2) (af 3)))
 (bp (bu 2 (af 3))
 (bu 3 (af 4)))))
 (i7 2))))
def eP:WS:=
 (dM (v7 (wx .int (af 0)) (wf (wx .bool (af 0)))))
def c6:WS:=
 (bp (bu 0 (gQ mn (ag (af 0) aE)))
 (bp (bu 1 (gQ mn (ag (af 1) aE)))
 (cZ (oN (wB (EF (af 1) (wC (.int 0)))) (yV 0 1 (ag (af 1) (ag (ee (af 0) (af 1)) aE))))
 (i7 0))))
theorem my (g l:Nat):Nat.gcd l (g % l)=Nat.gcd g l:=by
 rw[Nat.gcd_comm l (g % l),<-Nat.gcd_rec,Nat.gcd_comm]
theorem oq:∀ ss R,bL ss R->eM {nx:=fun _=>R (.t .non),rt:=R} (aO ["one","other","greater","lesser","rest"] ss):=by
 rintro ss R ⟨a,b,rfl,h⟩;show eM _ [some (.t (.int a)),some (.t (.int b)),none,none,none];unfold eM;walk_at "dl";rw[kq,kq];refine⟨fun δ=>∃ r,δ=[some (.t (.int a)),some (.t (.int b)),some (.t (.int (Int.gcd a b))),some (.t (.int 0)),r],?_,fun δ ⟨r,e⟩=>by subst e;walk_at "dl";exact h⟩
 refine⟨fun n δ=>∃ (g l:Nat) (r:Option S),δ=[some (.t (.int a)),some (.t (.int b)),some (.t (.int g)),some (.t (.int l)),r]/\l=n/\Nat.gcd g l=Int.gcd a b,⟨_,_,_,none,rfl,rfl,rfl⟩,?_⟩;rintro n δ ⟨g,l,r,rfl,rfl,hg⟩;walk_at "dl"
 cases l with
 | zero=>rw[if_neg (by simp)];exact⟨r,by rw[<-hg];simp⟩
 | succ l=>
  rw[if_pos (by simp;omega)]
  refine⟨by omega,?_⟩
  rw[iH];exact⟨_,Nat.mod_lt g (by omega),_,_,_,rfl,rfl,by rw[my];exact hg⟩
theorem lB:∀ ss R,aU ss R->c6 {nx:=fun _=>R (.t .non),rt:=R} (aO ["_law_one","_law_other"] ss):=by
 rintro ss R ⟨a,b,rfl,h⟩;show c6 _ [some (.t (.int a)),some (.t (.int b))];unfold c6;walk_at "dl";rw[kq,kq];refine⟨fun δ=>δ=[some (.t (.int (Int.gcd a b))),some (.t (.int 0))],?_,fun δ e=>by subst e;walk_at "dl";exact h⟩
 refine⟨fun n δ=>∃ (g l:Nat),δ=[some (.t (.int g)),some (.t (.int l))]/\l=n/\Nat.gcd g l=Int.gcd a b,⟨_,_,_,rfl,rfl,rfl⟩,?_⟩;rintro n δ ⟨g,l,rfl,rfl,hg⟩;walk_at "dl"
 cases l with
 | zero=>rw[if_neg (by simp)];rw[<-hg];simp
 | succ l=>
  rw[if_pos (by omega)]
  refine⟨by omega,?_⟩
  rw[iH];exact⟨_,Nat.mod_lt g (by omega),_,_,rfl,rfl,by rw[my];exact hg⟩
theorem ou:∀ ss R,ci ss R->eP {nx:=fun _=>R (.t .non),rt:=R} (aO ["_law_found"] ss):=by
 rintro ss R ⟨s,rfl,hx,h⟩;show eP _ [some (.t s)];unfold eP
 cases s with
 | exc c=>exact absurd rfl hx
 | _=>walk_at "dl";exact h
theorem gG (v:Int)(R:S->Prop)(h:R (.t (.bl true))):ci [.t (.int v)] R:=⟨_,rfl,by simp[zE],h⟩
end Law
namespace Law
open L2 DL
def ml (h:Hf)(s:bZ):Int:=h.1*s.1.1*s.2.2+h.2.1*s.2.1*s.1.2-h.2.2*(s.1.2*s.2.2)
def sgn (i:Int):Int:=if i>0 then 1 else if i<0 then -1 else 0
end Law
namespace Law
open L2 DL
theorem fH {a d:Int}(h:d ∣ a):a.fdiv d*d=a:=by
 obtain⟨k,rfl⟩:=h
 by_cases hd:d=0
 ·subst hd;simp
 ·rw[Int.mul_fdiv_cancel_left _ hd,Int.mul_comm]
theorem ph {a d:Int}(h:d ∣ a)(ha:a≠0):a.fdiv d≠0:=fun e=>by
 have:=fH h;rw[e]at this;omega
def bn (a b c:Int):Nat:=Int.gcd (Int.gcd a b) c
theorem ub (a b c:Int):(bn a b c:Int) ∣ a:=Int.dvd_trans (Int.gcd_dvd_left _ _) (Int.gcd_dvd_left _ _)
theorem uc (a b c:Int):(bn a b c:Int) ∣ b:=Int.dvd_trans (Int.gcd_dvd_left _ _) (Int.gcd_dvd_right _ _)
theorem AZ (a b c:Int):(bn a b c:Int) ∣ c:=Int.gcd_dvd_right _ _
theorem ue {a b:Int}(h:a≠0\/b≠0):(Int.gcd a b:Int)≠0:=fun e=>by
 have e':Int.gcd a b=0:=by omega
 rw[Int.gcd_eq_zero_iff]at e';omega
theorem kJ {a b c:Int}(h:a≠0\/b≠0):(bn a b c:Int)≠0:=ue (.inl (ue h))
def xE (a b c:Int):Hf:=(a.fdiv (bn a b c),b.fdiv (bn a b c),c.fdiv (bn a b c))
def Gu (a b:Int):Int:=if b<0 then -(Int.gcd a b:Int) else (Int.gcd a b:Int)
def GL (a b:Int):Int × Int:=(a.fdiv (Gu a b),b.fdiv (Gu a b))
def rB (p q:Pt):Hf:=xE (p.2-q.2) (q.1-p.1) ((p.2-q.2)*p.1+(q.1-p.1)*p.2)
def fU:aR:=fun ss R=>∃ a b c:Int,ss=[.t (.int a),.t (.int b),.t (.int c)]/\(a≠0\/b≠0)/\wq 9000 (a,b,c)/\R (.t (aX (xE a b c)))
def cO:aR:=fun ss R=>∃ p q:Pt,ss=[.t (aY p),.t (aY q)]/\p≠q/\SzF 4000 p/\SzF 4000 q/\R (.t (aX (rB p q)))
def lO:WS:=
 (bp (nt (CA (nq (wB (rj (af 0) (wC (.int 0)))) (wB (rj (af 1) (wC (.int 0)))))) oH cx)
 (bp (bu 3 (bE bL (ag (bE bL (ag (af 0) (ag (af 1) aE))) (ag (af 2) aE))))
 (dM (fx (ag (fc (af 0) (af 3)) (ag (fc (af 1) (af 3)) (ag (fc (af 2) (af 3)) aE)))))))
def eL:WS:=
 (bp (bu 2 (fZ (bf eD (af 0) (wC (.int 1))) (bf eD (af 1) (wC (.int 1)))))
 (bp (bu 3 (fZ (bf eD (af 1) (wC (.int 0))) (bf eD (af 0) (wC (.int 0)))))
 (dM (bE fU (ag (af 2) (ag (af 3) (ag (fw (eu (af 2) (bf eD (af 0) (wC (.int 0)))) (eu (af 3) (bf eD (af 0) (wC (.int 1))))) aE)))))))
theorem uw:∀ ss R,fU ss R->ss.length=3:=by rintro ss R ⟨a,b,c,rfl,_⟩;rfl
theorem mI:∀ ss R,cO ss R->ss.length=2:=by rintro ss R ⟨a,b,rfl,_⟩;rfl
theorem x8:∀ ss R,fU ss R->lO {nx:=fun _=>R (.t .non),rt:=R} (aO ["a","b","c","common"] ss):=by
 rintro ss R ⟨a,b,c,rfl,hne,⟨sa,sb,sc⟩,h⟩;dsimp only at sa sb sc;show lO _ [some (.t (.int a)),some (.t (.int b)),some (.t (.int c)),none]
 delta lO
 walk_at "dl";refine⟨fun k=>k=false,?_,?_⟩
 ·walk_at "dl"
  split
  ·rename_i e;omega
  ·trivial
 rintro k rfl;walk_at "dl";refine⟨_,_,rfl,?_⟩;walk_at "dl";refine⟨_,_,rfl,?_⟩;walk_at "dl";have hg:(bn a b c:Int)≠0:=kJ hne;have sg:Sz 9000 (bn a b c:Int):=(Sz.gcd (Sz.gcd sa sb) sc).mono (by decide)
 have dv:∀ z,jB z (bn a b c:Int):=fun z=>Dt hg sg (by decide)
 exact⟨dv _,dv _,dv _,h⟩
theorem oo:∀ ss R,cO ss R->eL {nx:=fun _=>R (.t .non),rt:=R} (aO ["one","other","a","b"] ss):=by
 rintro ss R ⟨⟨u,v⟩,⟨x,y⟩,rfl,hne,⟨s1,s2⟩,⟨s3,s4⟩,h⟩;dsimp only at s1 s2 s3 s4;show eL _ [some (.t (.tup [.int u,.int v])),some (.t (.tup [.int x,.int y])),none,none]
 delta eL
 walk_at "dl";have sa:Sz 4001 (v-y):=by walk_at "szk"
 have sb:Sz 4001 (x-u):=by walk_at "szk"
 have sc:Sz 9000 ((v-y)*u+(x-u)*v):=by walk_at "szk"
 refine⟨mW sa s1 (by decide) (by decide),mW sb s2 (by decide) (by decide),_,_,_,rfl,?_,⟨sa.mono (by decide),sb.mono (by decide),sc⟩,h⟩
 by_cases e:v-y=0
 ·right
  intro e2;exact hne (by rw[show u=x by omega,show v=y by omega])
 ·exact .inl e
end Law
namespace Law
open L2 DL
def oD (s:bZ):Hf:=(s.1.1*s.2.2,s.2.1*s.1.2,s.1.2*s.2.2)
end Law
namespace Law
open L2 DL
def cr (p q r:Pt):Int:=(q.1-p.1)*(r.2-p.2)-(q.2-p.2)*(r.1-p.1)
def fn (m p:Pt):Int:=m.1*p.1+m.2*p.2
theorem A4 (m z t p q:Pt):(fn m t-fn m z)*cr t p q=(fn m p-fn m t)*cr z t q-(fn m q-fn m t)*cr z t p:=by unfold cr fn;grind
theorem A0 (m a b c p:Pt):(fn m c-fn m b)*cr a b p=(fn m p-fn m b)*cr a b c+(fn m b-fn m a)*cr b c p:=by unfold cr fn;grind
theorem uk (m a b v u w:Pt):(fn m b-fn m v)*cr u w a+(fn m v-fn m a)*cr u w b=(fn m b-fn m a)*cr u w v-fn m (w.1-u.1,w.2-u.2)*cr a b v:=by unfold cr fn;grind
theorem xm (a b:Pt):cr a b b=0:=by unfold cr;grind
theorem sk (a b:Pt):cr a b a=0:=by unfold cr;grind
def zJ:List Pt->Prop
 | c::b::a::r=>0<cr a b c/\zJ (b::a::r)
 | _=>True
def Lf (q:Pt):List Pt->Prop
 | b::a::r=>0<=cr a b q/\Lf q (a::r)
 | _=>True
def Dn (m:Pt)(k:List Pt):Prop:=k.Pairwise fun b a=>fn m a<fn m b
structure Off (m:Pt) (D:List Pt) (p p0:Pt) (t:Pt) (k:List Pt):Prop where
 dn:Dn m (t::k)
 cv:zJ (t::k)
 lf:∀ q∈D,Lf q (t::k)
 sb:∀ x∈t::k,x∈D
 ls:(t::k).getLast?=some p0
 ne:∀ q∈D,fn m t<=fn m q->0<=cr t p q
structure Ch (m:Pt) (D:List Pt) (p0 t:Pt) (k:List Pt):Prop where
 dn:Dn m (t::k)
 cv:zJ (t::k)
 lf:∀ q∈D,Lf q (t::k)
 sb:∀ x∈t::k,x∈D
 ls:(t::k).getLast?=some p0
 hi:∀ q∈D,q≠t->fn m q<fn m t
 lo:∀ q∈D,fn m p0<=fn m q
end Law
namespace Law
open L2 DL
theorem A3 (m a v u w:Pt):(fn m a-fn m v)*cr u v w=(fn m w-fn m v)*cr u v a-(fn m v-fn m u)*cr v w a:=by unfold cr fn;grind
structure yZ (m:Pt) (S C:List Pt):Prop where
 left:∀ i (h:i+1<C.length),∀ q∈S,0<=cr C[i] C[i+1] q
 conv:∀ i (h:i+2<C.length),0<cr C[i] C[i+1] C[i+2]
 up:∀ i j (hi:i<C.length) (hj:j<C.length),i<j->fn m C[i]<fn m C[j]
 sub:∀ x∈C,x∈S
 lo:∀ q∈S,∀ h:0<C.length,fn m C[0]<=fn m q
 hi:∀ q∈S,∀ h:C.length-1<C.length,fn m q<=fn m C[C.length-1]
theorem strict {m m':Pt}{S C C':List Pt}(A:yZ m S C)(A':yZ m' S C')(hc:1<C.length)(hc':1<C'.length)(e1:C'[0]=C[C.length-1])(e2:C'[C'.length-1]=C[0])
  (inj:∀ a∈S,∀ b∈S,fn m a=fn m b->a=b) {i:Nat} (hi:i+1<C.length) {v:Pt} (hv:v∈C\/v∈C') (h1:v≠C[i]) (h2:v≠C[i+1]):0<cr C[i] C[i+1] v:=by
 have hvS:v∈S:=by
  rcases hv with h|h
  ·exact A.sub v h
  ·exact A'.sub v h
 have haS:C[i]∈S:=A.sub _ (List.getElem_mem _);have hbS:C[i+1]∈S:=A.sub _ (List.getElem_mem _);have hge:=A.left i hi v hvS;have hab:=A.up i (i+1) (by omega) hi (by omega)
 rcases Int.lt_or_eq_of_le hge with h|h
 ·exact h
 exfalso;have h0:cr C[i] C[i+1] v=0:=h.symm;have na:fn m v≠fn m C[i]:=fun e=>h1 (inj _ hvS _ haS e);have nb:fn m v≠fn m C[i+1]:=fun e=>h2 (inj _ hvS _ hbS e)
 rcases Int.lt_or_le (fn m C[i+1]) (fn m v) with hgt|hle
 ·rcases Nat.lt_or_ge (i+2) C.length with hl|hl
  ·have c1:=A.conv i hl
   have c2:=A.left (i+1) hl v hvS;have id:=A0 m C[i] C[i+1] C[i+2] v;rw[h0,Int.mul_zero]at id;have g1:0<(fn m v-fn m C[i+1])*cr C[i] C[i+1] C[i+2]:=Int.mul_pos (by omega) c1
   have g2:0<=(fn m C[i+1]-fn m C[i])*cr C[i+1] C[i+2] v:=Int.mul_nonneg (by omega) c2
   omega
  ·have:=A.hi v hvS (by omega)
   have e:C.length-1=i+1:=by omega
   simp only[e]at this;omega
 rcases Int.lt_or_le (fn m v) (fn m C[i]) with hlt|hge2
 ·cases i with
  | zero=>have:=A.lo v hvS (by omega);omega
  | succ i=>
   have c1:=A.conv i (by omega)
   have c2:=A.left i (by omega) v hvS
   have hzt:=A.up i (i+1) (by omega) (by omega) (by omega)
   have id:=A4 m C[i] C[i+1] C[i+1+1] v;rw[h0,Int.mul_zero]at id;have g1:0<=(fn m C[i+1+1]-fn m C[i+1])*cr C[i] C[i+1] v:=Int.mul_nonneg (by omega) c2
   have g2:(fn m v-fn m C[i+1])*cr C[i] C[i+1] C[i+1+1]<0:=Int.mul_neg_of_neg_of_pos (by omega) c1
   omega
 have hav:fn m C[i]<fn m v:=by omega
 have hvb:fn m v<fn m C[i+1]:=by omega
 rcases hv with hv|hv
 ·obtain⟨j,hj,rfl⟩:=List.getElem_of_mem hv
  rcases Nat.lt_trichotomy j i with h|h|h
  ·have:=A.up j i hj (by omega) h;omega
  ·subst h;omega
  ·rcases Nat.lt_or_ge (i+1) j with h'|h'
   ·have:=A.up (i+1) j hi hj h';omega
   ·have:j=i+1:=by omega
    subst this;omega
 ·obtain⟨j,hj,rfl⟩:=List.getElem_of_mem hv;have hj0:j≠0:=fun e=>by
   subst e;rw[e1]at hvb;have:=A.hi C[i+1] hbS (by omega)
   omega
  have hjl:j≠C'.length-1:=fun e=>by
   subst e;rw[e2]at hav;have:=A.lo C[i] haS (by omega)
   omega
  obtain⟨j,rfl⟩:∃ j',j=j'+1:=⟨j-1,by omega⟩
  have hl:j+2<C'.length:=by omega
  have cv:=A'.conv j hl
  have l1:=A'.left j (by omega) C[i] haS
  have l2:=A'.left j (by omega) C[i+1] hbS
  have l3:=A'.left (j+1) hl C[i] haS;have l4:=A'.left (j+1) hl C[i+1] hbS;have i1:=uk m C[i] C[i+1] C'[j+1] C'[j] C'[j+1];have i2:=uk m C[i] C[i+1] C'[j+1] C'[j+1] C'[j+2];rw[h0,xm,Int.mul_zero,Int.mul_zero]at i1;rw[h0,sk,Int.mul_zero,Int.mul_zero]at i2;have g1:0<=(fn m C[i+1]-fn m C'[j+1])*cr C'[j] C'[j+1] C[i]:=Int.mul_nonneg (by omega) l1
  have g2:0<=(fn m C'[j+1]-fn m C[i])*cr C'[j] C'[j+1] C[i+1]:=Int.mul_nonneg (by omega) l2
  have g3:0<=(fn m C[i+1]-fn m C'[j+1])*cr C'[j+1] C'[j+2] C[i]:=Int.mul_nonneg (by omega) l3
  have g4:0<=(fn m C'[j+1]-fn m C[i])*cr C'[j+1] C'[j+2] C[i+1]:=Int.mul_nonneg (by omega) l4
  have z1:cr C'[j] C'[j+1] C[i]=0:=by
   have:(fn m C[i+1]-fn m C'[j+1])*cr C'[j] C'[j+1] C[i]=0:=by omega
   rcases Int.mul_eq_zero.mp this with h|h
   ·omega
   ·exact h
  have z2:cr C'[j+1] C'[j+2] C[i]=0:=by
   have:(fn m C[i+1]-fn m C'[j+1])*cr C'[j+1] C'[j+2] C[i]=0:=by omega
   rcases Int.mul_eq_zero.mp this with h|h
   ·omega
   ·exact h
  have i3:=A3 m C[i] C'[j+1] C'[j] C'[j+2];rw[z1,z2,Int.mul_zero,Int.mul_zero]at i3
  rcases Int.mul_eq_zero.mp (show(fn m C[i]-fn m C'[j+1])*cr C'[j] C'[j+1] C'[j+2]=0 by omega) with h|h
  ·omega
  ·omega
def FL (H:List Pt)(k:Nat)(hk:k<H.length):Pt:=if h:k=0 then H[H.length-1] else H[k-1]
structure Gr (S H:List Pt):Prop where
 left:∀ k (hk:k<H.length),∀ q∈S,0<=cr (FL H k hk) H[k] q
 strict:∀ k (hk:k<H.length),∀ v∈H,v≠FL H k hk->v≠H[k]->0<cr (FL H k hk) H[k] v
 sub:∀ x∈H,x∈S
 fst:∀ k (hk:k<H.length),0<k->H[k]≠H[0]
 two:∀ h:H.length=2,∀ q∈S,cr H[0] H[1] q=0/\∃ m:Pt,fn m H[0]<=fn m q/\fn m q<=fn m H[1]/\S.Pairwise fun a b=>fn m a<fn m b
 len:2<=H.length
def neg (m:Pt):Pt:=(-m.1,-m.2)
end Law
namespace Law
open L2 DL
theorem _root_.DL.SzF.mono3 {n m:Nat}{p:Pt}(h:SzF n p)(l:n<=m):SzF m p:=⟨h.1.mono l,h.2.mono l⟩
end Law
namespace Law
open L2 DL
def rE (a b:Pt):Prop:=a.1<b.1\/(a.1=b.1/\a.2<b.2)
def SetOf (ps S:List Pt):Prop:=(∀ p∈S,p∈ps)/\(∀ p∈ps,p∈S)/\S.Pairwise rE
end Law
namespace Law
open L2 DL
def Dw (a b c:Hf):Int:=a.1*(b.2.1*c.2.2-c.2.1*b.2.2)-a.2.1*(b.1*c.2.2-c.1*b.2.2)+a.2.2*(b.1*c.2.1-c.1*b.2.1)
def Ft (a b:Hf):Bool:=if a.1*b.2.2≠b.1*a.2.2 then decide (a.1*b.2.2<b.1*a.2.2) else decide (a.2.1*b.2.2<b.2.1*a.2.2)
def CF (s:Fr):Prop:=0<s.2/\Int.gcd s.1 s.2=1
def zP (s:bZ):Prop:=CF s.1/\CF s.2
end Law
namespace Law
open L2 DL
def yF {α:Type}(H:List α)(k:Nat)(hk:k<H.length):α:=if h:k=0 then H[H.length-1] else H[k-1]
structure CL (F:List Hf):Prop where
 fst:∀ k (hk:k<F.length),0<k->Ft F[0] F[k]=true
 trn:2<F.length->∀ k (hk:k<F.length),∀ v∈F,v≠F[k]->v≠yF F k hk->0<Dw (yF F k hk) F[k] v
structure rC (F:List Hf) (q:Hf):Prop where
 ne:0<F.length
 few:F.length<3->Dw F[0] F[F.length-1] q=0/\Ft q F[0]=false/\Ft F[F.length-1] q=false
 all:3<=F.length->∀ k (hk:k<F.length),0<=Dw (yF F k hk) F[k] q
theorem v4 {n m:Nat}{s:Hf}(h:wq n s)(l:n<=m):wq m s:=⟨h.1.mono l,h.2.1.mono l,h.2.2.mono l⟩
theorem xA {α:Type}{f:α->T}{l:List α}{g:WG}{wb:WS}{D:dP}{δ:az}(M:az->Prop)(h0:M δ)(hend:∀ δ,M δ->D.nx δ)
  (step:∀ a∈l,∀ δ,M δ->∀ N:az->Prop,(∀ δ1,M δ1->N δ1)->g (f a) δ fun δ1=>wb {nx:=N,rt:=D.rt,bk:=D.nx,ct:=N} δ1):t7 g wb (l.map f) D δ:=by
 refine⟨fun ts δ=>(∀ t∈ts,∃ a∈l,t=f a)/\M δ,⟨fun t ht=>?_,h0⟩,fun δ h=>hend δ h.2,?_⟩
 ·obtain⟨a,ha,rfl⟩:=List.mem_map.mp ht;exact⟨a,ha,rfl⟩
 ·rintro x r δ ⟨ht,hM⟩;obtain⟨a,ha,rfl⟩:=ht x List.mem_cons_self;exact step a ha δ hM _ fun δ1 h1=>⟨fun t ht'=>ht t (List.mem_cons_of_mem _ ht'),h1⟩
end Law
namespace Law
open L2 DL
set_option maxHeartbeats 4000000
end Law
namespace Law
open L2 DL
set_option maxHeartbeats 1000000
def Ff (P:Nat->Hf)(n:Nat):Prop:=∀ a b c,a<b->b<c->c<n->0<Dw (P a) (P b) (P c)
def GN (n i:Nat):Nat:=if i=0 then n-1 else i-1
def lo (n:Nat)(s:Bool)(i:Nat):Nat:=if s=true then GN n i else i
def Fe (F:List Hf):Prop:=∀ a b c (_:a<b) (_:b<c) (h3:c<F.length),0<Dw F[a] F[b] F[c]
end Law
namespace Law
open L2 DL
set_option maxHeartbeats 1000000
def ER (x:Int):Int:=if x<0 then -x else x
def Gw (p q:Fr)(a b:Int):Fr:=GL (p.1*q.2*a+q.1*p.2*b) (p.2*q.2*(a+b))
def Cw (h:Hf)(p q:bZ):bZ:=(Gw p.1 q.1 (ER (ml h q)*(p.1.2*p.2.2)) (ER (ml h p)*(q.1.2*q.2.2)),Gw p.2 q.2 (ER (ml h q)*(p.1.2*p.2.2)) (ER (ml h p)*(q.1.2*q.2.2)))
def D1 (h:Hf)(p q:bZ):Prop:=sgn (ml h p)*sgn (ml h q)<0
def Gv (h:Hf)(q:bZ):Prop:=sgn (ml h q)>=0
instance (h:Hf) (p q:bZ):Decidable (D1 h p q):=inferInstanceAs (Decidable (_<_))
instance (h:Hf) (q:bZ):Decidable (Gv h q):=inferInstanceAs (Decidable (_>=_))
theorem fT {x a y b z c:Int}(hb:0<b)(ha:0<a)(hc:0<c)(h1:x*b<=y*a)(h2:y*c<=z*b):x*c<=z*a/\((x*b<y*a\/y*c<z*b)->x*c<z*a):=by
 have m1:=Int.mul_le_mul_of_nonneg_right h1 (Int.le_of_lt hc);have m2:=Int.mul_le_mul_of_nonneg_right h2 (Int.le_of_lt ha);have t1:x*b*c=x*c*b:=by grind
 have t2:z*b*a=z*a*b:=by grind
 have t3:y*a*c=y*c*a:=by grind
 refine⟨Int.le_of_mul_le_mul_right (show x*c*b<=z*a*b by omega) hb,fun h=>Int.lt_of_mul_lt_mul_right (a:=b) ?_ (Int.le_of_lt hb)⟩
 rcases h with h|h
 ·have:=Int.mul_lt_mul_of_pos_right h hc;omega
 ·have:=Int.mul_lt_mul_of_pos_right h ha;omega
def Bf (a b:Hf):Prop:=a.1*b.2.2<b.1*a.2.2\/(a.1*b.2.2=b.1*a.2.2/\a.2.1*b.2.2<b.2.1*a.2.2)
theorem Bf.trans {a b c:Hf}(ha:0<a.2.2)(hb:0<b.2.2)(hc:0<c.2.2)(h1:Bf a b)(h2:Bf b c):Bf a c:=by
 unfold Bf at *
 rcases h1 with h1|⟨h1,h1'⟩
 ·left
  refine(fT hb ha hc (Int.le_of_lt h1) ?_).2 (.inl h1);omega
 ·rcases h2 with h2|⟨h2,h2'⟩
  ·left
   exact(fT hb ha hc (by omega) (Int.le_of_lt h2)).2 (.inr h2)
  ·right
   have k1:=(fT (x:=a.1) (y:=b.1) (z:=c.1) hb ha hc (by omega) (by omega)).1
   have k2:=(fT (x:=-a.1) (y:=-b.1) (z:=-c.1) hb ha hc (by rw[Int.neg_mul,Int.neg_mul];omega) (by rw[Int.neg_mul,Int.neg_mul];omega)).1
   rw[Int.neg_mul,Int.neg_mul]at k2;exact⟨by omega,(fT hb ha hc (Int.le_of_lt h1') (Int.le_of_lt h2')).2 (.inl h1')⟩
def Fb (Q:Hf->Prop)(l:Hf)(s:bZ):Prop:=Q l/\(l.1≠0\/l.2.1≠0)/\ml l s=0
abbrev Gj (l:Hf)(s:bZ):Prop:=Fb (wq 300) l s
def Cn (s:bZ):Prop:=∃ l m:Hf,Gj l s/\Gj m s/\l.1*m.2.1-l.2.1*m.1≠0
def Gh (Q:Hf->Prop)(p q:bZ):Prop:=∃ l:Hf,Fb Q l p/\Fb Q l q
abbrev Lk (p q:bZ):Prop:=Gh (wq 300) p q
end Law
namespace Law
open L2 DL
set_option maxHeartbeats 1000000
def s0:bZ:=((0,1),(0,1))
def FO (h:Hf)(ks:List bZ)(x:bZ × bZ):List bZ:=
 if Gv h x.2 then (if D1 h x.1 x.2/\¬ Cw h x.1 x.2∈ks then ks++[Cw h x.1 x.2] else ks)++[x.2] else (if D1 h x.1 x.2/\¬ Cw h x.1 x.2∈ks then ks++[Cw h x.1 x.2] else ks)
def gt (L:List bZ)(i:Nat):bZ:=L.getD i s0
section
variable {h:Hf}{G:Nat->bZ}{n:Nat} (hn:3<=n) (ok:∀ i,i<n->zP (G i)) (hT:Ff (fun i=>oD (G i)) n)
include hn ok hT
end
end Law
namespace Law
open L2 DL
set_option maxHeartbeats 1000000
def E6 (Q:Hf->Prop)(h:Hf):Prop:=Q h/\(h.1≠0\/h.2.1≠0)
abbrev dR (h:Hf):Prop:=E6 (wq 300) h
def E3 (Q:Hf->Prop)(A:List bZ):Prop:=∀ k (h:k+1<A.length),Gh Q A[k] A[k+1]
structure GB (Q:Hf->Prop) (h:Hf) (q0 qm:bZ) (A:List bZ):Prop where
 adj:E3 Q A
 inn:0<=ml h qm->A.getLast?=some qm
 out:ml h qm<0->∀ x,A.getLast?=some x->ml h x=0
 hd:ml h q0<0->∀ y,A.head?=some y->ml h y=0
structure GD (L:List bZ):Prop where
 ok:∀ s∈L,zP s
 reg:CL (L.map oD)
 cn:∀ s∈L,Cn s
 lk:∀ k (hk:k<L.length),Lk (yF L k hk) L[k]
structure GA (h:Hf) (L K:List bZ):Prop where
 ok:∀ u∈K,zP u
 nd:K.Nodup
 tri:Fe (K.map oD)
 cn:∀ u∈K,Cn u
 lk:∀ k (hk:k<K.length),Lk (yF K k hk) K[k]
 len:K.length<=L.length+2
 hold:∀ u∈K,rC (L.map oD) (oD u)/\0<=ml h u
 kept:∀ s∈L,0<=ml h s->s∈K
 cross:∀ k (hk:k<L.length),D1 h (yF L k hk) L[k]->Cw h (yF L k hk) L[k]∈K
end Law
namespace Law
open L2 DL
def fl (p:Pt):Hf:=(p.1,p.2,1)
theorem lex_irr (a:Pt):¬ rE a a:=by unfold rE;omega
structure E7 (S H:List Pt):Prop where
 reg:CL (H.map fl)
 hold:∀ p∈S,rC (H.map fl) (fl p)
 sub:∀ p∈H,p∈S
 ne:H≠[]
end Law
namespace Law
open L2 DL
set_option maxHeartbeats 1000000
structure GU (h:Hf) (L K:List bZ):Prop where
 reg:GD K
 len:K.length<=L.length+2
 hold:∀ u∈K,rC (L.map oD) (oD u)/\0<=ml h u
 kept:∀ s∈L,0<=ml h s->s∈K
 cross:∀ k (hk:k<L.length),D1 h (yF L k hk) L[k]->Cw h (yF L k hk) L[k]∈K
theorem vZ {n:Nat}(h:1<=n):Sz n 1:=⟨by show 1<2 ^ n;exact Nat.one_lt_two_pow (by omega)⟩
theorem yR {n:Nat}:Sz n 0:=⟨Nat.two_pow_pos n⟩
end Law
namespace Law
open L2 DL
set_option maxHeartbeats 1000000
end Law
namespace Law
open L2 DL
set_option maxHeartbeats 1000000
end Law
namespace Law
open L2 DL
set_option maxHeartbeats 1000000
end Law
namespace Law
open L2 DL
set_option maxHeartbeats 1000000
theorem DQ {a b c:Int}(hne:a≠0\/b≠0)(hz:wq 300 (a,b,c)):dR (xE a b c):=by
 refine⟨⟨hz.1.fdiv _,hz.2.1.fdiv _,hz.2.2.fdiv _⟩,?_⟩
 rcases hne with h|h
 ·exact .inl (ph (ub a b c) h)
 ·exact .inr (ph (uc a b c) h)
theorem Ds {p q:Pt}(hne:p≠q)(zp:SzF 110 p)(zq:SzF 110 q):dR (rB p q):=by
 have n:p.2-q.2≠0\/q.1-p.1≠0:=by
  by_cases a:p.2-q.2=0
  ·exact .inr fun b=>hne (Prod.ext (by omega) (by omega))
  ·exact .inl a
 have za:Sz 120 (p.2-q.2):=(Sz.sub zp.2 zq.2).mono (by decide)
 have zb:Sz 120 (q.1-p.1):=(Sz.sub zq.1 zp.1).mono (by decide)
 have zc:Sz 300 ((p.2-q.2)*p.1+(q.1-p.1)*p.2):=(Sz.add (Sz.mul za zp.1) (Sz.mul zb zp.2)).mono (by decide)
 exact DQ n ⟨za.mono (by decide),zb.mono (by decide),zc⟩
end Law
namespace Law
open L2 DL
set_option maxHeartbeats 4000000
end Law
namespace Law
open L2 DL
set_option maxHeartbeats 4000000
end Law
namespace Law
open L2 DL
def Fu (v f:Pt):Int:=v.1*f.1+v.2*f.2
def GK (u v:Pt):Int:=u.1*v.2-u.2*v.1
def lf (u v:Pt):Bool:=decide (0<GK u v)
def bound (u:Pt):List Pt->Int
 | []=>1
 | v::r=>1+(Fu u v).natAbs+bound u r
end Law
namespace Law
open L2 DL
def oa (h:Hf)(p:Pt):Bool:=decide (h.2.2<=h.1*p.1+h.2.1*p.2)
def jX (h:Hf)(ps:List Pt):Nat:=ps.countP (oa h)
def cQ:aR:=fun ss R=>∃ (h:Hf) (ps:List Pt),ss=[.t (aX h),.t (.lst (ps.map aY))]/\wq 60000 h/\(∀ p∈ps,SzF 60000 p)/\ps.length<10000/\R (.t (.int (jX h ps)))
def eQ:WS:=
 (dM (gQ dW (ag (fY 1 [0] (eA (af 1)) (aW 0) (wB (EE (fw (eu (bf eD (af 1) (wC (.int 0))) (bf eD (af 0) (wC (.int 0)))) (eu (bf eD (af 1) (wC (.int 1))) (bf eD (af 0) (wC (.int 1))))) (bf eD (af 1) (wC (.int 2))))) (af 0)) aE)))
theorem mN:∀ ss R,cQ ss R->ss.length=2:=by rintro ss R ⟨a,b,rfl,_⟩;rfl
theorem ow:∀ ss R,cQ ss R->eQ {nx:=fun _=>R (.t .non),rt:=R} (aO ["half","points"] ss):=by
 rintro ss R ⟨⟨a,b,c⟩,ps,rfl,⟨y1,y2,y3⟩,hs,hl,h⟩;dsimp only at y1 y2 y3;show eQ _ [some (.t (.tup [.int a,.int b,.int c])),some (.t (.lst (ps.map aY)))]
 delta eQ
 walk_at "dl";refine cU (f:=aY) (h:=aY) (p:=oa (a,b,c)) (fun δ=>∃ r,δ=[r,some (.t (.tup [.int a,.int b,.int c]))]) (fun p _=>yz p) (by omega) ⟨_,rfl⟩ ?_ ?_
 ·rintro⟨x,y⟩ hp δ ⟨r,rfl⟩ Y N h1 h2;obtain⟨z1,z2⟩:=hs _ hp;dsimp only at z1 z2;walk_at "go"
  split
  ·rename_i hc;exact h1 _ ⟨_,rfl⟩ (by simp[oa];exact hc)
  ·rename_i hc;exact h2 _ ⟨_,rfl⟩ (by simp[oa];omega)
 ·walk_at "dl";rw[List.length_map,<-List.countP_eq_length_filter];exact h
end Law
namespace Law
open L2 DL
set_option maxHeartbeats 1000000
def nn (p:Pt):List Hf:=[(1,0,p.1),(-1,0,-p.1),(0,1,p.2),(0,-1,-p.2)]
def dI (ps:List Pt)(h:Hf):Prop:=(∃ p∈ps,h∈nn p)\/∃ p∈ps,∃ q∈ps,p≠q/\h=rB p q
theorem dI.sub {B ps:List Pt}(hs:∀ p∈B,p∈ps){h:Hf}(hb:dI B h):dI ps h:=by
 rcases hb with ⟨p,hp,hh⟩|⟨p,hp,q,hq,hne,e⟩
 ·exact .inl ⟨p,hs p hp,hh⟩
 ·exact .inr ⟨p,hs p hp,q,hs q hq,hne,e⟩
instance FE (a b:Pt):Decidable (rE a b):=inferInstanceAs (Decidable (_\/_))
def ins (p:Pt):List Pt->List Pt
 | []=>[p]
 | q::l=>if rE p q then p::q::l else if p=q then q::l else q::ins p l
theorem xk {α:Type}(p:α->Bool)(l:List α):l.countP p+l.countP (fun x=>!p x)=l.length:=by
 induction l with
 | nil=>rfl
 | cons x l ih=>
  rw[List.countP_cons,List.countP_cons,List.length_cons]
  cases p x <;> simp <;> omega
theorem o3 {ps:List Pt}(hz:∀ p∈ps,SzF 110 p){h:Hf}(hb:dI ps h):dR h:=by
 rcases hb with ⟨p,hp,hh⟩|⟨p,hp,q,hq,hne,rfl⟩
 ·have z:=hz p hp;have o0:Sz 300 (0:Int):=yR;have o1:Sz 300 (1:Int):=vZ (by decide)
  have o2:Sz 300 (-1:Int):=(vZ (n:=300) (by decide)).neg
  simp only[nn,List.mem_cons,List.not_mem_nil,or_false]at hh
  rcases hh with rfl|rfl|rfl|rfl
  ·exact⟨⟨o1,o0,z.1.mono (by decide)⟩,.inl (show(1:Int)≠0 by decide)⟩
  ·exact⟨⟨o2,o0,z.1.neg.mono (by decide)⟩,.inl (show(-1:Int)≠0 by decide)⟩
  ·exact⟨⟨o0,o1,z.2.mono (by decide)⟩,.inr (show(1:Int)≠0 by decide)⟩
  ·exact⟨⟨o0,o2,z.2.neg.mono (by decide)⟩,.inr (show(-1:Int)≠0 by decide)⟩
 ·exact Ds hne (hz p hp) (hz q hq)
end Law
namespace Law
open L2 DL
set_option maxHeartbeats 1000000
end Law
namespace Law
open L2 DL
set_option maxHeartbeats 4000000
def gL (h:Hf):List Int:=[h.1,h.2.1,h.2.2]
def yY (ps:List Pt)(hs:List Hf):Prop:=(∀ h,h∈hs↔dI ps h)/\hs.length<=70/\hs.Pairwise (fun a b=>ST.lexB (gL a) (gL b)=true)
def ie (m:Int)(ps:List Pt)(hs:List Hf):List Hf:=hs.filter fun g=>decide (m<=jX g ps)
def aQ:aR:=fun ss R=>∃ p:Pt,ss=[.t (aY p)]/\R (.ol ((nn p).map aX))
def cu:aR:=fun ss R=>∃ ps:List Pt,ss=[.t (.lst (ps.map aY))]/\ps.length<=7/\(∀ p∈ps,SzF 100 p)/\∀ hs:List Hf,yY ps hs->R (.ol (hs.map aX))
def bd:aR:=fun ss R=>∃ (t:T) (ts:List T),ss=[.t (.lst (t::ts))]/\R (.t .non)
def du:aR:=fun ss R=>∃ (ps:List Pt) (m:Int),ss=[.t (.lst (ps.map aY)),.t (.int m)]/\ps≠[]/\ps.length<=7/\(∀ p∈ps,SzF 100 p)/\∀ hs:List Hf,yY ps hs->R (.ol ((ie m ps hs).map aX))
def bb:WS:=
 (bp (bu 1 (bf eD (af 0) (wC (.int 0))))
 (bp (bu 2 (bf eD (af 0) (wC (.int 1))))
 (dM (oG (ag (fx (ag (wC (.int 1)) (ag (wC (.int 0)) (ag (af 1) aE)))) (ag (fx (ag (zH kI (wC (.int 1))) (ag (wC (.int 0)) (ag (zH kI (af 1)) aE)))) (ag (fx (ag (wC (.int 0)) (ag (wC (.int 1)) (ag (af 2) aE)))) (ag (fx (ag (wC (.int 0)) (ag (zH kI (wC (.int 1))) (ag (zH kI (af 2)) aE)))) aE))))))))
def dG:WS:=
 (bp (bu 1 (oG aE))
 (cZ (nr (eA (af 0)) (aW 2) (bp (ig 1 (bE aQ (ag (af 2) aE)))
 (nr (eA (af 0)) (aW 3) (nt (wB (Cz (af 2) (af 3))) (eK 1 (bE cO (ag (af 2) (ag (af 3) aE)))) cx))))
 (dM (i9 (af 1)))))
def cm:WS:=
 (nt (wB (rj (gQ dW (ag (af 0) aE)) (wC (.int 0)))) oH cx)
def gf:WS:=
 (bp (v8 (bE bd (ag (af 0) aE)))
 (dM (fY 1 [0,1] (eA (bE cu (ag (af 0) aE))) (aW 0) (wB (EE (bE cQ (ag (af 0) (ag (af 1) aE))) (af 2))) (af 0))))
theorem dL:∀ ss R,aQ ss R->ss.length=1:=by rintro ss R ⟨a,rfl,_⟩;rfl
theorem lv:∀ ss R,cu ss R->ss.length=1:=by rintro ss R ⟨a,rfl,_⟩;rfl
theorem gZ:∀ ss R,bd ss R->ss.length=1:=by rintro ss R ⟨a,b,rfl,_⟩;rfl
theorem oh:∀ ss R,du ss R->ss.length=2:=by rintro ss R ⟨a,b,rfl,_⟩;rfl
theorem dY:∀ ss R,aQ ss R->bb {nx:=fun _=>R (.t .non),rt:=R} (aO ["point","x","y"] ss):=by
 rintro ss R ⟨⟨x,y⟩,rfl,h⟩;show bb _ [some (.t (.tup [.int x,.int y])),none,none]
 delta bb
 walk_at "dl";exact h
theorem iR:∀ ss R,bd ss R->cm {nx:=fun _=>R (.t .non),rt:=R} (aO ["points"] ss):=by
 rintro ss R ⟨t,ts,rfl,h⟩;show cm _ [some (.t (.lst (t::ts)))]
 delta cm
 walk_at "dl";rw[if_neg (by omega)]
 exact h
theorem iI {hs:List Hf}:∀ ns:List (List Int),(∀ k∈ns,k∈hs.map gL)->∃ gs:List Hf,ns=gs.map gL/\∀ g∈gs,g∈hs
 | [],_=>⟨[],rfl,fun p hp=>by cases hp⟩
 | k::ns,h=>by
  obtain⟨gs,e,hg⟩:=iI ns fun k hk=>h k (List.mem_cons_of_mem _ hk);obtain⟨p,hp,rfl⟩:=List.mem_map.mp (h k List.mem_cons_self);exact⟨p::gs,by rw[e];rfl,fun q hq=>by
   rcases List.mem_cons.mp hq with rfl|hq
   ·exact hp
   ·exact hg q hq⟩
theorem oi {ns:List (List Int)}(h:ns.Pairwise (fun a b=>ST.lexB a b=true)):ns.Nodup:=h.imp fun h e=>by
 subst e;rw[ST.lex_irr]at h;exact nomatch h
theorem kL {a b:Hf}(h:gL a=gL b):a=b:=by
 unfold gL at h;simp only[List.cons.injEq,and_true]at h;exact Prod.ext h.1 (Prod.ext h.2.1 h.2.2)
theorem sf {p:Pt}:∀ {ps:List Pt},p∈ps->ps.countP (fun q=>decide (q≠p))+1<=ps.length:=fun {ps} h=>by
 have h1:=xk (fun q=>decide (q≠p)) ps;have h2:0<ps.countP fun q=>!decide (q≠p):=List.countP_pos_iff.mpr ⟨p,h,by simp⟩
 omega
theorem mZ:∀ ss R,cu ss R->dG {nx:=fun _=>R (.t .non),rt:=R} (aO ["points","found","one","other"] ss):=by
 rintro ss R ⟨ps,rfl,hl,hz,h⟩;show dG _ [some (.t (.lst (ps.map aY))),none,none,none]
 delta dG
 walk_at "dl"
 let M:List Pt->List Hf->Prop:=fun pre hs=>hs.length<=pre.length*10/\(∀ h∈hs,dI ps h)/\∀ p∈pre,(∀ h∈nn p,h∈hs)/\∀ q∈ps,p≠q->rB p q∈hs
 refine⟨fun δ=>∃ (hs:List Hf) (r2 r3:Option S),δ=[some (.t (.lst (ps.map aY))),some (.ol (hs.map aX)),r2,r3]/\M ps hs,?_,?_⟩
 ·refine⟨fun ts δ=>∃ (pre post:List Pt) (hs:List Hf) (r2 r3:Option S),ps=pre++post/\ts=post.map aY/\δ=[some (.t (.lst (ps.map aY))),some (.ol (hs.map aX)),r2,r3]/\M pre hs,⟨[],ps,[],_,_,rfl,rfl,rfl,by simp,fun h hh=>(nomatch hh),fun p hp=>(nomatch hp)⟩,?_,?_⟩
  ·rintro δ ⟨pre,post,hs,r2,r3,e1,e2,rfl,hM⟩;have:post=[]:=by simpa using e2.symm
   subst this;rw[List.append_nil]at e1;subst e1;exact⟨hs,r2,r3,rfl,hM⟩
  ·rintro x ts δ ⟨pre,post,hs,r2,r3,e1,e2,rfl,h1,h2,h3⟩
   cases post with
   | nil=>cases e2
   | cons p post=>
    rw[List.map_cons]at e2
    cases e2
    have hpm:p∈ps:=by rw[e1];simp
    have hpz:SzF 100 p:=hz p hpm;have hln:ps.length=pre.length+(post.length+1):=by rw[e1];simp
    walk_at "dl";refine⟨p,rfl,?_⟩;dsimp only;rw[iz _ (cL (fun _=>rfl) _)];walk_at "dl";refine⟨by simp only[List.length_map];show hs.length+4<100000;omega,?_⟩
    rw[<-List.map_append]
    let N:List Pt->List Hf->Prop:=fun p2 gs=>gs.length<=hs.length+4+p2.countP (fun q=>decide (q≠p))/\(∀ h∈gs,dI ps h)/\(∀ h∈hs,h∈gs)/\(∀ h∈nn p,h∈gs)/\∀ q∈p2,p≠q->rB p q∈gs
    refine⟨fun ts δ=>∃ (p2 q2:List Pt) (gs:List Hf) (r3:Option S),ps=p2++q2/\ts=q2.map aY/\δ=[some (.t (.lst (ps.map aY))),some (.ol (gs.map aX)),some (.t (aY p)),r3]/\N p2 gs,⟨[],ps,hs++nn p,_,rfl,rfl,rfl,by simp[nn],fun h hh=>?_,fun h hh=>List.mem_append_left _ hh,fun h hh=>List.mem_append_right _ hh,fun q hq=>(nomatch hq)⟩,?_,?_⟩
    ·rcases List.mem_append.mp hh with hh|hh
     ·exact h2 h hh
     ·exact .inl ⟨p,hpm,hh⟩
    ·rintro δ ⟨p2,q2,gs,r3,e3,e4,rfl,g1,g2,g3,g4,g5⟩;have:q2=[]:=by simpa using e4.symm
     subst this;rw[List.append_nil]at e3;subst e3;have hc:=sf hpm;refine⟨pre++[p],post,gs,_,_,by rw[List.append_assoc];exact e1,rfl,rfl,by rw[List.length_append,List.length_singleton];omega,g2,fun p' hp'=>?_⟩
     rcases List.mem_append.mp hp' with hp'|hp'
     ·exact⟨fun h hh=>g3 h ((h3 p' hp').1 h hh),fun q hq hne=>g3 _ ((h3 p' hp').2 q hq hne)⟩
     ·rw[List.mem_singleton.mp hp'];exact⟨g4,g5⟩
    ·rintro x ts δ ⟨p2,q2,gs,r3,e3,e4,rfl,g1,g2,g3,g4,g5⟩
     cases q2 with
     | nil=>cases e4
     | cons q q2=>
      rw[List.map_cons]at e4
      cases e4
      have hqm:q∈ps:=by rw[e3];simp
      have hqz:SzF 100 q:=hz q hqm;have hln2:ps.length=p2.length+(q2.length+1):=by rw[e3];simp
      have hcl:p2.countP (fun q=>decide (q≠p))<=p2.length:=List.countP_le_length;walk_at "dl"
      by_cases hpq:p.1=q.1/\p.2=q.2
      ·rw[decide_eq_true hpq,if_neg (by decide)]
       have epq:q=p:=(Prod.ext hpq.1 hpq.2).symm;refine⟨p2++[q],q2,gs,_,by rw[List.append_assoc];exact e3,rfl,rfl,?_,g2,g3,g4,fun q' hq' hne=>?_⟩
       ·rw[List.countP_append];omega
       ·rcases List.mem_append.mp hq' with hq'|hq'
        ·exact g5 q' hq' hne
        ·rw[List.mem_singleton.mp hq',epq]at hne;exact absurd rfl hne
      ·rw[decide_eq_false hpq,if_pos (by decide)]
       have hne:p≠q:=fun e=>hpq ⟨by rw[e],by rw[e]⟩
       refine⟨p,q,rfl,hne,hpz.mono3 (by decide),hqz.mono3 (by decide),?_⟩
       walk_at "dl";refine⟨by rw[List.length_map];omega,p2++[q],q2,gs++[rB p q],_,by rw[List.append_assoc];exact e3,rfl,by rw[List.map_append];rfl,?_,fun g hg=>?_,fun g hg=>List.mem_append_left _ (g3 g hg),fun g hg=>List.mem_append_left _ (g4 g hg),fun q' hq' hne'=>?_⟩
       ·rw[List.length_append,List.length_singleton,List.countP_append,List.countP_singleton,if_pos (by simpa using hne.symm)];omega
       ·rcases List.mem_append.mp hg with hg|hg
        ·exact g2 g hg
        ·rw[List.mem_singleton.mp hg];exact .inr ⟨p,hpm,q,hqm,hne,rfl⟩
       ·rcases List.mem_append.mp hq' with hq'|hq'
        ·exact List.mem_append_left _ (g5 q' hq' hne')
        ·rw[List.mem_singleton.mp hq'];exact List.mem_append_right _ (List.mem_singleton.mpr rfl)
 ·rintro δ ⟨hs,r2,r3,rfl,h1,h2,h3⟩;walk_at "dl";refine⟨3,hs.map gL,by decide,by rw[List.map_map];rfl,fun ks hk=>by obtain⟨p,_,rfl⟩:=List.mem_map.mp hk;rfl,by rw[List.length_map];omega,fun ns n1 n2 n3=>?_⟩
  obtain⟨gs,rfl,hg⟩:=iI ns n1;have hgl:gs.length<=hs.length:=by
   have:=List.Nodup.length_le_of_subset (oi n3) n1;simpa using this
  have e:(gs.map gL).map eU=gs.map aX:=by rw[List.map_map];rfl
  rw[e];walk_at "dl";refine h gs ⟨fun g=>⟨fun hg'=>h2 g (hg g hg'),fun hb=>?_⟩,by omega,List.pairwise_map.mp n3⟩
  have hin:g∈hs:=by
   rcases hb with ⟨p,hp,hh⟩|⟨p,hp,q,hq,hne,rfl⟩
   ·exact(h3 p hp).1 g hh
   ·exact(h3 p hp).2 q hq hne
  obtain⟨g',hg',e'⟩:=List.mem_map.mp (n2 (gL g) (List.mem_map.mpr ⟨g,hin,rfl⟩));rw[<-kL e'];exact hg'
theorem o6 {ps:List Pt}(hz:∀ p∈ps,SzF 100 p){h:Hf}(hb:dI ps h):wq 300 h:=(o3 (fun p hp=>(hz p hp).mono3 (by decide)) hb).1
theorem qP:∀ ss R,du ss R->gf {nx:=fun _=>R (.t .non),rt:=R} (aO ["points","many"] ss):=by
 rintro ss R ⟨ps,m,rfl,hne,hl,hz,h⟩;obtain⟨p0,pr,rfl⟩:∃ p0 pr,ps=p0::pr:=by
  cases ps with
  | nil=>exact absurd rfl hne
  | cons a b=>exact⟨a,b,rfl⟩
 show gf _ [some (.t (.lst ((p0::pr).map aY))),some (.t (.int m))]
 delta gf
 generalize hps:p0::pr=ps at *;have hnp:∀ R:S->Prop,R (.t .non)->bd [.t (.lst (ps.map aY))] R:=fun R hR=>⟨aY p0,pr.map aY,by rw[<-hps];rfl,hR⟩
 walk_at "dl";refine hnp _ ?_;walk_at "dl";refine⟨ps,rfl,hl,hz,fun hs hsB=>?_⟩;dsimp only;rw[iz _ (cL (fun _=>rfl) _)];walk_at "dl";have nA:=hsB.2.1;refine cU (f:=aX) (h:=aX) (p:=fun g=>decide (m<=jX g ps)) (fun δ=>∃ r,δ=[r,some (.t (.lst (ps.map aY))),some (.t (.int m))]) (fun _ _=>rfl) (by omega) ⟨_,rfl⟩ ?_ ?_
 ·rintro g hg δ ⟨r,rfl⟩ Y N h1 h2;walk_at "dl";refine⟨g,ps,rfl,v4 (o6 hz ((hsB.1 g).mp hg)) (by decide),fun p hp=>(hz p hp).mono3 (by decide),by omega,?_⟩
  walk_at "dl"
  split
  ·rename_i hc;exact h1 _ ⟨_,rfl⟩ (by simpa using hc)
  ·rename_i hc;exact h2 _ ⟨_,rfl⟩ (by simpa using hc)
 ·walk_at "dl";exact h hs hsB
end Law
namespace Law
open L2 DL
set_option maxHeartbeats 4000000
theorem Aq {α:Type}{f:α->T}{l:List α}{k:Nat}{x:α}{R:S->Prop}(e:l[k]?=some x):atT (l.map f) (k:Int) R=R (.t (f x)):=
 gl (cb (by rw[List.getElem?_map,e];rfl))
theorem j9 (k n:Nat):cR (k:Int) (n+1)=.int k::cR ((k+1:Nat):Int) n:=by
 unfold cR;rw[List.range_succ_eq_map,List.map_cons,List.map_map]
 congr 1
 ·simp;intro a _;omega
theorem mw {g:WG}{wb:WS}{D:dP}{δ:az}{n m:Nat}(e:m=n)(I:Nat->az->Prop)(h0:I 0 δ)(hend:∀ δ,I n δ->D.nx δ)
  (hstep:∀ k δ,k<n->I k δ->g (.int (k:Int)) δ fun δ1=>wb {nx:=I (k+1),rt:=D.rt,bk:=D.nx,ct:=I (k+1)} δ1):t7 g wb (cR 0 m) D δ:=by
 subst e;refine⟨fun ts δ=>∃ k j:Nat,ts=cR (k:Int) j/\k+j=m/\I k δ,⟨0,m,rfl,by omega,h0⟩,?_,?_⟩
 ·rintro δ ⟨k,j,e,hk,h⟩
  cases j with
  | zero=>exact hend δ (by rw[Nat.add_zero]at hk;rw[<-hk];exact h)
  | succ j=>rw[j9]at e;cases e
 ·rintro x r δ ⟨k,j,e,hk,h⟩
  cases j with
  | zero=>cases e
  | succ j=>
   rw[j9]at e;obtain⟨rfl,rfl⟩:=List.cons.inj e;have q:=hstep k δ (by omega) h
   have z:I (k+1)=fun δ=>∃ k' j':Nat,cR ((k+1:Nat):Int) j=cR (k':Int) j'/\k'+j'=m/\I k' δ:=by
    funext δ'
    refine propext ⟨fun hi=>⟨k+1,j,rfl,by omega,hi⟩,?_⟩
    rintro⟨k',j',e',hk',hi⟩;have:=congrArg List.length e';rw[mO,mO]at this;have:k'=k+1:=by omega
    rw[<-this];exact hi
   show g _ δ fun δ1=>wb {nx:=fun δ=>∃ k' j':Nat,cR ((k+1:Nat):Int) j=cR (k':Int) j'/\k'+j'=m/\I k' δ,rt:=D.rt,bk:=D.nx,ct:=fun δ=>∃ k' j':Nat,cR ((k+1:Nat):Int) j=cR (k':Int) j'/\k'+j'=m/\I k' δ} δ1;rw[<-z];exact q
theorem BZ {i:Nat}{δ:az}{N:az->Prop}{vs:List Int}{x:Int}{j:Nat}(h:j<vs.length):Ek i δ N (vs.map .int) (.t (.int x)) (.t (.int (j:Int)))=N (δ.set i (some (.ol ((vs.set j x).map .int)))):=by
 have:qE (vs.map T.int).length (j:Int)=some j:=by unfold qE;rw[if_pos (by omega),if_pos (by rw[List.length_map];omega)];rfl
 show(match qE _ _ with|some j=>_|none=>False)=_
 rw[this,List.map_set]
abbrev big:Int:=1000000000000000000000000000000000000000000000000000000000007
theorem g8:(0:Int)<big:=by decide
def lR (x:Int):Prop:=-1000000000000000000<=x/\x<=1000000000000000000
theorem sJ {x:Int}(h:lR x):Sz 60 x:=by unfold lR at h;exact Sz.of (by omega) (by omega)
def bW:aR:=fun ss R=>∃ (ns:List Int) (m:Nat),ss=[.t (.lst (ns.map .int)),.t (.int (m:Int))]/\ns.length<=63/\0<m/\m<=100/\∀ vs:List Int,vs.length=m->(∀ v∈vs,0<=v/\v<big)->R (.ol (vs.map .int))
def cP:aR:=fun ss R=>∃ n b k:Int,ss=[.t (.int n),.t (.int b),.t (.int k)]/\b=5/\0<=k/\k<1000/\∀ v:Int,R (.t (.int v))
def cw:aR:=fun ss R=>∃ (hd:List Int) (m:Int),ss=[.t (.lst (hd.map .int)),.t (.int m)]/\4+m<=hd.length/\(∀ v∈hd,0<=v/\v<big)/\1<=m/\m<=8/\∀ ps:List Pt,ps.length=m.toNat->(∀ p∈ps,lR p.1/\lR p.2)->R (.ol (ps.map aY))
def c8:WS:=
 (bp (bu 2 (fY 1 [] (gH (ag (af 1) aE)) (aW 0) yW (wC (.int 0))))
 (cZ (nr (gH (ag (gQ mo (ag (af 1) (ag (gQ jM (ag (gQ dW (ag (af 0) aE)) (ag (wC (.int 63)) aE))) aE))) aE)) (aW 3) (bp (bu 4 (wC (.int 0)))
 (cZ (nt (wB (EF (gQ dW (ag (af 0) aE)) (wC (.int 0)))) (bu 4 (ee (bf eD (af 0) (ee (af 3) (gQ jM (ag (gQ dW (ag (af 0) aE)) (ag (wC (.int 63)) aE))))) (fw (oK (wC (.int 10)) (wC (.int 60))) (wC (.int 7))))) cx)
 (bp (bu 5 (ee (af 3) (af 1)))
 (lN 2 (af 5) (ee (fw (fw (eu (bf eD (af 2) (af 5)) (wC (.int 48271))) (af 4)) (eu (af 3) (af 3))) (fw (oK (wC (.int 10)) (wC (.int 60))) (wC (.int 7)))))))))
 (i7 2)))
def eO:WS:=
 (cZ (nr (gH (ag (af 2) aE)) (aW 3) (bu 0 (fc (af 0) (af 1))))
 (dM (ee (af 0) (af 1))))
def dH:WS:=
 (bp (bu 2 (oG aE))
 (bp (bu 3 (ee (bf eD (af 0) (wC (.int 0))) (wC (.int 8))))
 (cZ (nr (gH (ag (af 1) aE)) (aW 4) (bp (bu 5 (bf eD (af 0) (fw (wC (.int 4)) (af 4))))
 (bp (bu 6 (fZ (ee (af 5) (wC (.int 7))) (wC (.int 3))))
 (bp (bu 7 (fZ (ee (fc (af 5) (wC (.int 7))) (wC (.int 7))) (wC (.int 3))))
 (cZ (nt (wB (rj (af 3) (wC (.int 1)))) (bu 7 (fZ (eu (wC (.int 2)) (af 6)) (wC (.int 1)))) cx)
 (cZ (nt (wB (rj (af 3) (wC (.int 2)))) (bu 6 (wC (.int 1))) cx)
 (cZ (nt (wB (rj (af 3) (wC (.int 3)))) (yV 6 7 (ag (fZ (ee (af 5) (wC (.int 3))) (wC (.int 1))) (ag (fZ (ee (fc (af 5) (wC (.int 3))) (wC (.int 3))) (wC (.int 1))) aE))) cx)
 (cZ (nt (wB (EF (af 3) (wC (.int 5)))) (bp (bu 6 (fZ (ee (af 5) (fw (eu (wC (.int 2)) (oK (wC (.int 10)) (wC (.int 18)))) (wC (.int 1)))) (oK (wC (.int 10)) (wC (.int 18)))))
 (bu 7 (fZ (ee (eu (af 5) (wC (.int 69621))) (fw (eu (wC (.int 2)) (oK (wC (.int 10)) (wC (.int 18)))) (wC (.int 1)))) (oK (wC (.int 10)) (wC (.int 18)))))) cx)
 (cZ (nt (CA (nq (wB (EF (af 4) (wC (.int 0)))) (wB (rj (bE cP (ag (bf eD (af 0) (wC (.int 1))) (ag (wC (.int 5)) (ag (af 4) aE)))) (wC (.int 1)))))) (Cq (bf eD (af 2) (fZ (af 4) (wC (.int 1)))) (je (cj (aW 6) (cj (aW 7) gh)))) cx)
 (eK 2 (fx (ag (af 6) (ag (af 7) aE)))))))))))))
 (i7 2))))
theorem jA:∀ ss R,bW ss R->ss.length=2:=by rintro ss R ⟨_,_,rfl,_⟩;rfl
theorem mL:∀ ss R,cP ss R->ss.length=3:=by rintro ss R ⟨a,b,c,rfl,_⟩;rfl
theorem lw:∀ ss R,cw ss R->ss.length=2:=by rintro ss R ⟨a,b,rfl,_⟩;rfl
theorem yP {vs:List Int}{P:Int->Prop}{j:Nat}{x:Int}(h:∀ v∈vs,P v)(hx:P x):∀ v∈vs.set j x,P v:=fun v hv=>by
 rcases List.mem_or_eq_of_mem_set hv with z|z
 ·exact h v z
 ·rw[z];exact hx
theorem yN (m:Nat):(List.range m).map (fun _=>T.int 0)=(List.replicate m (0:Int)).map T.int:=by
 rw[List.map_replicate];exact List.eq_replicate_iff.mpr ⟨by simp,fun b hb=>by simp at hb;exact hb.2.symm⟩
theorem lD:∀ ss R,bW ss R->c8 {nx:=fun _=>R (.t .non),rt:=R} (aO ["_law_script","_law_many","_law_found","_law_k","_law_cell","_law_at"] ss):=by
 rintro ss R ⟨ns,m,rfl,hl,m0,m1,h⟩;show c8 _ [some (.t (.lst (ns.map .int))),some (.t (.int (m:Int))),none,none,none,none]
 delta c8
 walk_at "dl";refine⟨pP (by omega) (by omega),?_⟩
 rw[Int.toNat_natCast];refine sj (f:=fun k:Nat=>.int (0+(k:Int))) (h:=fun _=>.int 0) (l:=List.range m) (fun δ=>∃ r,δ=[r]) (fun _ _=>rfl) (by rw[List.length_range];omega) ⟨_,rfl⟩ ?_ ?_
 ·rintro k hk δ ⟨r,rfl⟩ Y hY;walk_at "dl";exact hY _ ⟨_,rfl⟩
 rw[yN]
 let I:az->Prop:=fun δ=>∃ (vs:List Int) (r3 r4 r5:Option S),δ=[some (.t (.lst (ns.map .int))),some (.t (.int (m:Int))),some (.ol (vs.map .int)),r3,r4,r5]/\vs.length=m/\∀ v∈vs,0<=v/\v<big
 have i0:∀ v∈List.replicate m (0:Int),0<=v/\v<big:=fun v hv=>by
  rw[List.eq_of_mem_replicate hv];decide
 refine⟨I,?_,?_⟩
 ·walk_at "dl";simp only[List.length_map];refine⟨pP (by(repeat' split) <;> omega) (by(repeat' split) <;> omega),mw rfl (fun _=>I) ⟨_,_,_,_,rfl,by simp,i0⟩ (fun _ z=>z) ?_⟩
  rintro k δ hk ⟨vs,r3,r4,r5,rfl,vl,hv⟩;have hk:k<1000:=by revert hk;(repeat' split) <;> omega
  walk_at "dl"
  try simp only[List.length_map]
  refine⟨fun δ=>∃ c:Int,δ=[some (.t (.lst (ns.map .int))),some (.t (.int (m:Int))),some (.ol (vs.map .int)),some (.t (.int k)),some (.t (.int c)),r5]/\0<=c/\c<big,?_,?_⟩
  ·walk_at "dl"
   try simp only[List.length_map]
   split
   ·rename_i c;have hq:∃ q:Int,(if 63<(ns.length:Int) then (63:Int) else ns.length)=q/\0<q/\q<=ns.length:=⟨_,rfl,by split <;> omega,by split <;> omega⟩
    obtain⟨q,eq,q0,q1⟩:=hq;rw[eq];have f1:=fmod_lo (k:Int) q0;have f2:=fmod_hi (k:Int) q0;walk_at "dl";refine⟨by omega,rR f1 (by omega) fun v _=>?_⟩
    walk_at "dl";refine⟨vK (by decide) (by decide) (by decide),by decide,?_⟩
    exact⟨v.fmod big,rfl,fmod_lo v g8,fmod_hi v g8⟩
   ·exact⟨0,rfl,by decide,by decide⟩
  rintro δ ⟨c,rfl,c0,c1⟩;have ea:(k:Int).fmod (m:Int)=((k % m:Nat):Int):=iH k m;have hj:k % m<vs.length:=by rw[vl];exact Nat.mod_lt _ m0
  have ev:vs[k % m]?=some (vs[k % m]'hj):=List.getElem?_eq_getElem _;generalize vs[k % m]'hj=v at ev;walk_at "dl";refine⟨by omega,?_⟩
  rw[ea];rw[fg (cb (show(vs.map T.int)[k % m]?=some (.int v) by rw[List.getElem?_map,ev];rfl))]
  walk_at "dl";refine⟨DV (by decide) (by decide),Bj (by omega) (by omega),vK (by decide) (by decide) (by decide),by decide,?_⟩
  rw[BZ hj];exact⟨_,_,_,_,rfl,by rw[List.length_set];exact vl,yP hv ⟨fmod_lo (n:=big) _ g8,fmod_hi (n:=big) _ g8⟩⟩
 ·rintro δ ⟨vs,r3,r4,r5,rfl,vl,hv⟩;walk_at "dl";exact h vs vl hv
theorem ot:∀ ss R,cP ss R->eO {nx:=fun _=>R (.t .non),rt:=R} (aO ["_law_number","_law_base","_law_place","_law_k"] ss):=by
 rintro ss R ⟨n,b,k,rfl,rfl,k0,k1,h⟩;show eO _ [some (.t (.int n)),some (.t (.int 5)),some (.t (.int k)),none]
 delta eO
 walk_at "dl";refine⟨fun δ=>∃ (v:Int) (r:Option S),δ=[some (.t (.int v)),some (.t (.int 5)),some (.t (.int k)),r],?_,?_⟩
 ·walk_at "dl";refine⟨pP (by omega) (by omega),fun ts δ=>∃ (v:Int) (r:Option S),δ=[some (.t (.int v)),some (.t (.int 5)),some (.t (.int k)),r],⟨_,_,rfl⟩,fun _ q=>q,?_⟩
  rintro t ts δ ⟨v,r,rfl⟩;walk_at "dl";exact⟨sr (by decide) (by decide +kernel),_,_,rfl⟩
 rintro δ ⟨v,r,rfl⟩;walk_at "dl";exact⟨by decide,h _⟩
theorem ug {hd:List Int}{i:Nat}{R:S->Prop}(hi:i<hd.length)(hb:∀ v∈hd,0<=v/\v<big)(h:∀ v,0<=v->v<big->R (.t (.int v))):atT (hd.map T.int) (i:Int) R:=by
 have e:hd[i]?=some (hd[i]'(by omega)):=List.getElem?_eq_getElem _
 rw[Aq e];have:=hb _ (List.mem_of_getElem? e);exact h _ this.1 this.2
theorem uh {hd:List Int}{i:Nat}{R:S->Prop}(hi:i<hd.length)(hb:∀ v∈hd,0<=v/\v<big)(h:∀ v,0<=v->v<big->R (.t (.int v))):oZ (hd.map T.int) (i:Int) R:=by
 have e:hd[i]?=some (hd[i]'(by omega)):=List.getElem?_eq_getElem _
 rw[fg (cb (show(hd.map T.int)[i]?=some (.int _) by rw[List.getElem?_map,e];rfl))]
 have:=hb _ (List.mem_of_getElem? e);exact h _ this.1 this.2
theorem As {l:List Pt}{k:Nat}{x:Pt}{R:S->Prop}(e:l[k]?=some x):oZ (l.map aY) (k:Int) R=R (.t (aY x)):=by
 rw[fg (cb (x:=aY x) (by rw[List.getElem?_map,e];rfl))];rfl
theorem m7:∀ ss R,cw ss R->dH {nx:=fun _=>R (.t .non),rt:=R} (aO ["_law_head","_law_many","_law_found","_law_way","_law_k","_law_number","_law_x","_law_y"] ss):=by
 rintro ss R ⟨hd,m,rfl,hl,hb,m0,m1,h⟩;have dummy:Sz 1 0:=⟨by decide⟩
 show dH _ [some (.t (.lst (hd.map .int))),some (.t (.int m)),none,none,none,none,none,none]
 delta dH
 walk_at "dl";refine ug (i:=0) (by omega) hb fun v0 _ _=>?_
 walk_at "go";generalize v0.fmod 8=way
 let M (n:Nat):az->Prop:=fun δ=>∃ (ps:List Pt) (r4 r5 r6 r7:Option S),δ=[some (.t (.lst (hd.map .int))),some (.t (.int m)),some (.ol (ps.map aY)),some (.t (.int way)),r4,r5,r6,r7]/\ps.length=n/\∀ p∈ps,lR p.1/\lR p.2
 refine⟨M m.toNat,?_,?_⟩
 ·walk_at "dl";refine⟨pP (by omega) (by omega),mw rfl M ⟨[],_,_,_,_,rfl,rfl,fun p hp=>by cases hp⟩ (fun _ z=>z) ?_⟩
  rintro k δ hk ⟨ps,r4,r5,r6,r7,rfl,pl,hs⟩;have hk8:k<8:=by omega
  walk_at "dl";rw[show(4+(k:Int))=((4+k:Nat):Int) by omega]
  refine ug (i:=4+k) (by omega) hb fun v v0 v1=>?_
  have a1:=fmod_lo v (n:=7) (by decide)
  have a2:=fmod_hi v (n:=7) (by decide)
  have a3:=fmod_lo (v.fdiv 7) (n:=7) (by decide)
  have a4:=fmod_hi (v.fdiv 7) (n:=7) (by decide)
  have b1:=fmod_lo v (n:=3) (by decide)
  have b2:=fmod_hi v (n:=3) (by decide)
  have b3:=fmod_lo (v.fdiv 3) (n:=3) (by decide)
  have b4:=fmod_hi (v.fdiv 3) (n:=3) (by decide)
  have c1:=fmod_lo v (n:=2000000000000000001) (by decide)
  have c2:=fmod_hi v (n:=2000000000000000001) (by decide)
  have c3:=fmod_lo (v*69621) (n:=2000000000000000001) (by decide)
  have c4:=fmod_hi (v*69621) (n:=2000000000000000001) (by decide)
  let N:az->Prop:=fun δ=>∃ x y:Int,δ=[some (.t (.lst (hd.map .int))),some (.t (.int m)),some (.ol (ps.map aY)),some (.t (.int way)),some (.t (.int k)),some (.t (.int v)),some (.t (.int x)),some (.t (.int y))]/\lR x/\lR y
  walk_at "go";refine⟨N,?_,?_⟩
  ·walk_at "go"
   split
   ·walk_at "go";exact⟨_,_,rfl,(by unfold lR;omega),(by unfold lR;omega)⟩
   ·exact⟨_,_,rfl,(by unfold lR;omega),(by unfold lR;omega)⟩
  rintro δ ⟨x,y,rfl,sx,sy⟩;walk_at "dl";refine⟨N,?_,?_⟩
  ·walk_at "go"
   split
   ·exact⟨_,_,rfl,(by unfold lR;omega),sy⟩
   ·exact⟨_,_,rfl,sx,sy⟩
  clear sx sy x y;rintro δ ⟨x,y,rfl,sx,sy⟩;walk_at "dl";refine⟨N,?_,?_⟩
  ·walk_at "go"
   split
   ·walk_at "go";exact⟨_,_,rfl,(by unfold lR;omega),(by unfold lR;omega)⟩
   ·exact⟨_,_,rfl,sx,sy⟩
  clear sx sy x y;rintro δ ⟨x,y,rfl,sx,sy⟩;walk_at "dl";refine⟨N,?_,?_⟩
  ·walk_at "go"
   split
   ·walk_at "go";exact⟨_,_,rfl,(by unfold lR;omega),(by unfold lR;omega)⟩
   ·exact⟨_,_,rfl,sx,sy⟩
  clear sx sy x y;rintro δ ⟨x,y,rfl,sx,sy⟩;walk_at "dl";refine⟨N,?_,?_⟩
  ·walk_at "dl";refine⟨fun b=>b=true->0<k,?_,?_⟩
   ·walk_at "dl"
    split
    ·refine ug (i:=1) (by omega) hb fun d0 _ _=>?_
     walk_at "dl";refine⟨_,5,k,rfl,rfl,by omega,by omega,fun d=>?_⟩
     walk_at "dl";intro _;omega
    ·exact fun z=>z.elim
   ·rintro b hb1;walk_at "dl"
    split
    ·rename_i hb2;have k0:=hb1 hb2;have e:ps[k-1]?=some (ps[k-1]'(by omega)):=List.getElem?_eq_getElem _
     have hm:=hs _ (List.mem_of_getElem? e);generalize ps[k-1]'(by omega)=q at e hm
     rw[show((k:Int)-1)=((k-1:Nat):Int) by omega,As e]
     walk_at "dl";exact⟨_,_,rfl,hm.1,hm.2⟩
    ·exact⟨_,_,rfl,sx,sy⟩
  clear sx sy x y;rintro δ ⟨x,y,rfl,sx,sy⟩;walk_at "dl";refine⟨by rw[List.length_map,pl];omega,ps++[(x,y)],_,_,_,_,by rw[List.map_append];rfl,by simp[pl],fun q hq=>?_⟩
  rcases List.mem_append.mp hq with z|z
  ·exact hs q z
  ·have z:=List.mem_singleton.mp z;subst z;exact⟨sx,sy⟩
 rintro δ ⟨ps,r4,r5,r6,r7,rfl,pl,hs⟩;walk_at "dl";exact h ps pl hs
end Law
namespace L2
open PySem PySem.Spec PyProof.Rows
section
variable {κ:Type} [DecidableEq κ]
def g6 (kvs:List (κ × V))(k:κ):Option V:=(kvs.find? fun kv=>decide (kv.1=k)).map (·.2)
def putK (kvs:List (κ × V))(k:κ)(v:V):List (κ × V):=
 if (kvs.any fun kv=>decide (kv.1=k))=true then kvs.map (fun kv=>if kv.1=k then (kv.1,v) else kv) else kvs++[(k,v)]
def ze (kvs:List (κ × V))(k:κ):List (κ × V):=kvs.filter fun kv=>decide (kv.1≠k)
theorem i5 {p:κ × V}{r:List (κ × V)}{k:κ}(e:p.1=k):g6 (p::r) k=some p.2:=by simp[g6,List.find?_cons,e]
theorem i4 {p:κ × V}{r:List (κ × V)}{k:κ}(e:¬ p.1=k):g6 (p::r) k=g6 r k:=by simp[g6,List.find?_cons,e]
theorem np (k:κ):∀ kvs:List (κ × V),(kvs.any fun kv=>decide (kv.1=k))=(g6 kvs k).isSome
 | []=>rfl
 | p::r=>by
  rw[List.any_cons]
  by_cases e:p.1=k
  ·simp only[i5 e,decide_eq_true e,Bool.true_or,Option.isSome_some]
  ·rw[i4 e,decide_eq_false e,Bool.false_or];exact np k r
theorem gM (kvs:List (κ × V))(k:κ)(v:V):(putK kvs k v).length<=kvs.length+1:=by
 unfold putK
 split
 ·rw[List.length_map];omega
 ·rw[List.length_append,List.length_cons,List.length_nil];omega
theorem lS.isSome_eq {o:Option V}{u:Option Value}(r:lS o u):o.isSome=u.isSome:=by
 cases o with
 | none=>cases u with
  | none=>rfl
  | some _=>exact(show False from r).elim
 | some _=>cases u with
  | none=>exact(show False from r).elim
  | some _=>rfl
theorem lS.getD {o:Option V}{u:Option Value}{d:V}{d':Value}(r:lS o u)(rd:RelV d d'):RelV (o.getD d) (u.getD d'):=by
 cases o with
 | none=>cases u with
  | none=>exact rd
  | some _=>exact(show False from r).elim
 | some _=>cases u with
  | none=>exact(show False from r).elim
  | some _=>exact r
theorem KV.val {kvs:List (κ × V)}{vs:List (κ × Value)}(r:KV kvs vs)(k:κ):lS (g6 kvs k) (valueAt vs k):=by
 unfold KV at r
 induction r with
 | nil=>exact True.intro
 | @cons p q ps qs h t ih=>
  obtain⟨h1,h2⟩:=h
  by_cases e:p.1=k
  ·have e':q.1=k:=h1.symm.trans e;have b:valueAt (q::qs) k=some q.2:=by simp[valueAt,List.find?_cons,e']
   rw[i5 e,b];exact h2
  ·have e':¬ q.1=k:=fun z=>e (h1.trans z);have b:valueAt (q::qs) k=valueAt qs k:=by simp[valueAt,List.find?_cons,e']
   rw[i4 e,b];exact ih
theorem KV.any {kvs:List (κ × V)}{vs:List (κ × Value)}(r:KV kvs vs)(k:κ):(kvs.any fun kv=>decide (kv.1=k))=vs.any fun kv=>decide (kv.1=k):=by
 unfold KV at r
 induction r with
 | nil=>rfl
 | cons h t ih=>rw[List.any_cons,List.any_cons,ih,h.1]
theorem KV.repl {kvs:List (κ × V)}{vs:List (κ × Value)}(r:KV kvs vs)(k:κ){y:V}{u:Value}(ry:RelV y u) :
  KV (kvs.map fun kv=>if kv.1=k then (kv.1,y) else kv) (vs.map fun kv=>if kv.1=k then (kv.1,u) else kv):=by
 unfold KV at r ⊢
 induction r with
 | nil=>exact .nil
 | @cons p q ps qs h t ih=>
  rw[List.map_cons,List.map_cons];refine .cons ?_ ih;obtain⟨h1,h2⟩:=h
  by_cases e:p.1=k
  ·rw[if_pos e,if_pos (h1.symm.trans e)];exact⟨h1,ry⟩
  ·rw[if_neg e,if_neg (fun z=>e (h1.trans z))];exact⟨h1,h2⟩
theorem KV.put {kvs:List (κ × V)}{vs:List (κ × Value)}(r:KV kvs vs)(k:κ){y:V}{u:Value}(ry:RelV y u):KV (putK kvs k y) (stored vs k u):=by
 unfold putK stored;rw[r.any k]
 by_cases e:(vs.any fun kv=>decide (kv.1=k))=true
 ·rw[if_pos e,if_pos e];exact r.repl k ry
 ·rw[if_neg e,if_neg e];exact Paired.snoc r ⟨rfl,ry⟩
theorem KV.drop {kvs:List (κ × V)}{vs:List (κ × Value)}(r:KV kvs vs)(k:κ):KV (ze kvs k) (without vs k):=by
 unfold KV at r ⊢;unfold ze without
 induction r with
 | nil=>exact .nil
 | @cons p q ps qs h t ih=>
  obtain⟨h1,h2⟩:=h;rw[List.filter_cons,List.filter_cons]
  by_cases e:p.1=k
  ·have a:¬ decide (p.1≠k)=true:=by simp[e]
   have b:¬ decide (q.1≠k)=true:=by simp[h1.symm.trans e]
   rw[if_neg a,if_neg b];exact ih
  ·have e':¬ q.1=k:=fun z=>e (h1.trans z);have a:decide (p.1≠k)=true:=by simp[e]
   have b:decide (q.1≠k)=true:=by simp[e']
   rw[if_pos a,if_pos b];exact .cons ⟨h1,h2⟩ ih
theorem KV.length {kvs:List (κ × V)}{vs:List (κ × Value)}(r:KV kvs vs):kvs.length=vs.length:=Paired.length r
end
theorem zr {P:Program}{w:World}{k:Key}{u:Value}(r:RelV (kV k) u):(br P w).is k u=true:=by
 cases k with
 | inl i=>obtain⟨t,e⟩:=(show ∃ t,u=Value.int i t from r);subst e;exact mU P w i t
 | inr x=>obtain⟨t,e⟩:=(show ∃ t,u=Value.str x t from r);subst e;exact mV P w x t
theorem jP {P:Program}{w:World}:∀ {ks:List Key}{us:List Value},aA (ks.map kV) us->ItemsAre (br P w) ks us
 | [],_,r=>by rw[List.map_nil]at r;cases r;exact .nil
 | k::ks,_,r=>by
  rw[List.map_cons]at r
  cases r with
  | cons h t=>exact .cons (zr h) (jP t)
abbrev KT (H:Hp):List (List Key × V)->List (List Key × Addr × Value)->Prop:=Paired fun p q=>p.1=q.1/\H q.2.1=some (.tup (p.1.map kV))/\RelV p.2 q.2.2
theorem KT.val {H:Hp}{kvs:List (List Key × V)}{xs:List (List Key × Addr × Value)}(r:KT H kvs xs)(k:List Key):lS (g6 kvs k) ((atKey xs k).map (·.2)):=by
 induction r with
 | nil=>exact True.intro
 | @cons p q ps qs h t ih=>
  obtain⟨h1,_,h2⟩:=h
  by_cases e:p.1=k
  ·have e':q.1=k:=h1.symm.trans e;have b:atKey (q::qs) k=some q.2:=by simp[atKey,List.find?_cons,e']
   rw[i5 e,b];exact h2
  ·have e':¬ q.1=k:=fun z=>e (h1.trans z);have b:atKey (q::qs) k=atKey qs k:=by simp[atKey,List.find?_cons,e']
   rw[i4 e,b];exact ih
theorem KT.repl {H:Hp}{kvs:List (List Key × V)}{xs:List (List Key × Addr × Value)}(r:KT H kvs xs)(k:List Key){y:V}{u:Value}(ry:RelV y u) :
  KT H (kvs.map fun kv=>if kv.1=k then (kv.1,y) else kv) (xs.map (putAt k u)):=by
 induction r with
 | nil=>exact .nil
 | @cons p q ps qs h t ih=>
  rw[List.map_cons,List.map_cons];refine .cons ?_ ih;obtain⟨h1,h2,h3⟩:=h;unfold putAt
  by_cases e:p.1=k
  ·rw[if_pos e,if_pos (h1.symm.trans e)];exact⟨h1,h2,ry⟩
  ·rw[if_neg e,if_neg (fun z=>e (h1.trans z))];exact⟨h1,h2,h3⟩
theorem KT.put {H:Hp}{kvs:List (List Key × V)}{xs:List (List Key × Addr × Value)}(r:KT H kvs xs)(k:List Key){b:Addr}{y:V}{u:Value}(hb:H b=some (.tup (k.map kV)))(ry:RelV y u) :
  KT H (putK kvs k y) (storedH xs k b u):=by
 have e:(kvs.any fun kv=>decide (kv.1=k))=(atKey xs k).isSome:=by
  rw[np,(r.val k).isSome_eq,Option.isSome_map]
 unfold putK storedH;rw[e]
 by_cases q:(atKey xs k).isSome=true
 ·rw[if_pos q,if_pos q];exact r.repl k ry
 ·rw[if_neg q,if_neg q];exact Paired.snoc r ⟨rfl,hb,ry⟩
theorem KT.keeps {H H':Hp}{kvs:List (List Key × V)}{xs:List (List Key × Addr × Value)}(r:KT H kvs xs)(ht:∀ b ys,H b=some (.tup ys)->H' b=some (.tup ys)):KT H' kvs xs:=
 Paired.mapP r fun _ _ z=>⟨z.1,ht _ _ z.2.1,z.2.2⟩
section
variable {P:Program}{w:World}{H:Hp}{h:Heap}{a:Addr}
theorem zB {u:HO}(ok:dR P w H h)(e:Rd H a u):bh P w H h a u:=e.ok ok
theorem Dv {kvs:List (Key × V)}(ok:dR P w H h)(e:Rd H a (.dK kvs)):kvs.length<=sizeLine/\(a == sysModules)=false/\∃ vs,KV kvs vs/\h.DictOf (br P w) a vs:=
 show bh P w H h a (.dK kvs) from zB ok e
theorem Du {kvs:List (Key × V)}(ok:dR P w H h)(e:H a=some (.dK kvs)):kvs.length<=sizeLine/\(a == sysModules)=false/\∃ vs,KV kvs vs/\h.DictOf (br P w) a vs:=Dv ok (.inl e)
theorem uq {ks:List Key}(ok:dR P w H h)(e:H a=some (.tup (ks.map kV))):(tupleKind (br P w)).is h ks a:=by
 obtain⟨_,its,r,o,h1,h2,n,h3⟩:=(show bh P w H h a (.tup (ks.map kV)) from ok a _ e);exact⟨o,its.toArray,n,h1,h2,h3,by simpa using jP r⟩
theorem Dz {kvs:List (List Key × V)}(ok:dR P w H h)(e:Rd H a (.dT kvs)):kvs.length<=sizeLine/\(a == sysModules)=false ∧
  ∃ xs,KT H kvs xs/\h.DictOfH (tupleKind (br P w)) a xs:=by
 obtain⟨z,y,xs,r,o,es,ep,h1,h2,h3,h4,h5⟩:=(show bh P w H h a (.dT kvs) from zB ok e);refine⟨z,y,xs,r,o,es,ep,h1,h2,h3,h4,fun x hx=>?_,h5⟩;have all:∀ {l:List (List Key × V)}{m:List (List Key × Addr × Value)},KT H l m->∀ x∈m,(tupleKind (br P w)).is h x.1 x.2.1:=by
  intro l m q
  induction q with
  | nil=>intro x hx;exact nomatch hx
  | @cons p q ps qs hq t ih=>
   intro x hx
   rcases List.mem_cons.mp hx with e|hx
   ·subst e;exact uq ok (by rw[<-hq.1];exact hq.2.1)
   ·exact ih x hx
 exact all r x hx
theorem Dy {kvs:List (List Key × V)}(ok:dR P w H h)(e:H a=some (.dT kvs)):kvs.length<=sizeLine/\(a == sysModules)=false ∧
  ∃ xs,KT H kvs xs/\h.DictOfH (tupleKind (br P w)) a xs:=Dz ok (.inl e)
end
def wA (H:Hp)(a:Addr)(y:V)(r:Option V):Prop:=
 (∃ kvs k,Rd H a (.dK kvs)/\y=kV k/\r=g6 kvs k)\/∃ kvs k b,Rd H a (.dT kvs)/\y=.ref b/\H b=some (.tup (k.map kV))/\r=g6 kvs k
def nB (H:Hp)(a:Addr)(y v:V)(H':Hp):Prop:=
 (∃ kvs k,H a=some (.dK kvs)/\y=kV k/\kvs.length<sizeLine/\H'=a8 H a (.dK (putK kvs k v))) ∨
 ∃ kvs k b,H a=some (.dT kvs)/\y=.ref b/\H b=some (.tup (k.map kV))/\kvs.length<sizeLine/\H'=a8 H a (.dT (putK kvs k v))
theorem wA.k {H:Hp}{a:Addr}{kvs:List (Key × V)}{k:Key}(e:H a=some (.dK kvs)):wA H a (kV k) (g6 kvs k):=.inl ⟨kvs,k,.inl e,rfl,rfl⟩
theorem wA.t {H:Hp}{a b:Addr}{kvs:List (List Key × V)}{k:List Key}(e:H a=some (.dT kvs))(eb:H b=some (.tup (k.map kV))):wA H a (.ref b) (g6 kvs k):=.inr ⟨kvs,k,b,.inl e,rfl,eb,rfl⟩
theorem nB.k {H:Hp}{a:Addr}{kvs:List (Key × V)}{k:Key}{v:V}(e:H a=some (.dK kvs))(hl:kvs.length<sizeLine):nB H a (kV k) v (a8 H a (.dK (putK kvs k v))):=.inl ⟨kvs,k,e,rfl,hl,rfl⟩
theorem nB.t {H:Hp}{a b:Addr}{kvs:List (List Key × V)}{k:List Key}{v:V}(e:H a=some (.dT kvs))(eb:H b=some (.tup (k.map kV)))(hl:kvs.length<sizeLine) :
  nB H a (.ref b) v (a8 H a (.dT (putK kvs k v))):=.inr ⟨kvs,k,b,e,rfl,eb,hl,rfl⟩
section
variable {X:Cx}{pins:List (Addr × Obj)}{σ:St}{H:Hp}{s:Shared}{a:Addr}{y v:V}{u r:Value}{o:Option V}{A:Around}{E:Value->Shared->Prop}
theorem ay.big (I:ay X pins σ H s):sysModules<s.heap.objs.size:=by
 have h:mainGlobals<s.heap.objs.size:=(I.mod.glob.keeps I.bk).lt;exact Nat.lt_trans (by decide) h
theorem o7 {h':Heap}{t':Nat}{ob:HO}(I:ay X pins σ H s)(mu:CI (H a))(hs:Heap.SameBut a s.heap h')(he:∃ q,h'.get? a=some q)(new:bh X.prog X.w (a8 H a ob) h' a ob) :
  ay X pins σ (a8 H a ob) {s with heap:=h',toks:=t'}:=
 I.write (x:=a) (e:=a) mu (.inl rfl) (fun b q hb z=>(hs.2 b hb).trans z) he new
theorem AE {P:Program}{w:World}{H':Hp}{h':Heap}{kvs:List (Key × V)}{vs:List (Key × Value)}(z:kvs.length<=sizeLine)(hd:(a == sysModules)=false)(rel:KV kvs vs)(dd:h'.DictOf (br P w) a vs) :
  bh P w H' h' a (.dK kvs):=⟨z,hd,vs,rel,dd⟩
theorem qp {H':Hp}{Q:Unit->Shared->Prop}(hu:A.units+1<cLine)(I:ay X pins σ H s)(g:nB H a y v H')(ry:RelV y u)(rv:RelV v r)(h:∀ s',ay X pins σ H' s'->Q () s') :
  wpAny (model X.prog X.w) A (setItem (.ref a) u r) Q E s:=by
 rcases g with ⟨kvs,k,e,ey,l,eH⟩|⟨kvs,k,b,e,ey,eb,l,eH⟩
 ·subst ey eH;obtain⟨z,hd,vs,rel,dd⟩:=Du I.hok e;have hz:vs.length<=sizeLine:=by rw[<-rel.length];exact z
  have hl:(putK kvs k v).length<=sizeLine:=by have:=gM kvs k v;omega
  refine wpAny_setItem_pairs (hsz:=hz) (zr ry) dd fun h' dd' hs=>h _ ?_;have he:∃ q,h'.get? a=some q:=let ⟨q,_,_,hq,_⟩:=dd';⟨q,hq⟩;exact o7 I (by rw[e];exact True.intro) hs he (AE hl hd (rel.put k rv) dd')
 ·subst ey eH
  cases (show u=Value.ref b from ry)
  obtain⟨z,hd,xs,rel,dd⟩:=Dy I.hok e;have hz:xs.length<=sizeLine:=by rw[<-Paired.length rel];exact z
  have hl:(putK kvs k v).length<=sizeLine:=by have:=gM kvs k v;omega
  refine wpAny_setItem_heap (hsz:=hz) (tupleKind_room_in1 hu) (uq I.hok eb) dd fun h' dd' hs=>h _ ?_;obtain⟨q,es,ep,hq,h2,h3,h4,_,h5⟩:=dd';refine o7 I (by rw[e];exact True.intro) hs ⟨q,hq⟩ ⟨hl,hd,_,(rel.put k eb rv).keeps fun c ys ec=>?_,q,es,ep,hq,h2,h3,h4,h5⟩
  rw[aw (dh ec e (fun z=>nomatch z))];exact ec
end
section
variable {X:Cx}{pins:List (Addr × Obj)}{σ:St}{H:Hp}{s:Shared}{a:Addr}{kvs:List (Key × V)}{k:Key}{u:Value}{A:Around}{E:Value->Shared->Prop}
end
def Eh (td ty tv:TE):TS:=fun D σ H=>tv σ H fun v H1=>td σ H1 fun x H2=>ty σ H2 fun y H3=>∃ a H4,x=.ref a/\nB H3 a y v H4/\D.nx σ H4
section
variable {X:Cx}{o i e value:Expr}{pos pos' tpos:Pos}{td ty tv:TE}
theorem yn (hu:X.A.units+1<cLine)(ho:PE X o td)(hi:PE X i ty)(hv:PE X value tv)(hs:swapsWith value (some (.Subscript o i pos')) pos.line X.env=pure false) :
  PS X (.Assign [.Subscript o i pos'] value pos) (Eh td ty tv):=by
 intro pins s σ H D I h;refine wpAny_Assign_Subscript (bB (hv pins s σ H _ I h) fun r s1 ⟨v,H1,I1,rv,q1⟩=>bB (ho pins s1 σ H1 _ I1 q1) fun u s2 ⟨x,H2,I2,rx,q2⟩=>bB (hi pins s2 σ H2 _ I2 q2) fun iv s3 ⟨y,H3,I3,ry,a,H4,ex,g,q3⟩=>?_) hs;subst ex;obtain rfl:u=Value.ref a:=rx;exact qp hu I3 g ry rv fun s4 I4=>⟨σ,H4,I4,q3⟩
end
theorem sG {P:Program}{w:World}{H:Hp} (h:Heap) (hb:sysModules<h.objs.size):bh P w H (h.push {cls:=.type "dict",data:=.dict #[]}) h.objs.size (.dT []):=
 ⟨Nat.zero_le _,beq_eq_false_iff_ne.mpr (Ne.symm (Nat.ne_of_lt hb)),[],.nil,_,#[],0,Heap.get?_push_size _ rfl,⟨rfl,rfl,rfl⟩,rfl,rfl,List.nodup_nil⟩
def B7:TE:=fun _ H Q=>∀ p,H p=none->Q (.ref p) (a8 H p (.dT []))
section
variable {X:Cx}{pos:Pos}
theorem vG:PE X (.Dict [] [] pos) B7:=fun pins s σ H Q I h=>
 wpAny_Dict_empty ⟨.ref s.heap.objs.size,_,I.laid (a:=s.heap.objs.size) (o:=.dT []) (t':=s.toks) (fun _ _ q=>Heap.get?_push_of_some _ q) (Nat.le_refl _) (sG s.heap I.big),rfl,h _ (I.hok.fresh (Nat.le_refl _))⟩
end
end L2
set_option maxHeartbeats 1000000
namespace PySem
def Raw (h:Heap)(d:Addr)(es:Array DictEntry)(ep:Nat):Prop:=∃ o,h.get? d=some o/\o.ExactDict/\o.data=.dict es ep
section
variable {prog:Program}{w:World}{A:Around}{E:Value->Shared->Prop}{s:Shared}{it d:Addr}{i ep:Nat}{es:Array DictEntry}
theorem vS {Q:Value->Shared->Prop}(hd:(d == sysModules)=false)(hm:Raw s.heap d es ep)
  (hQ:Q (.ref s.heap.objs.size) {s with heap:=s.heap.push {cls:=.type "dict_keyiterator",data:=.fields #[.ref d,.int 0 0,.int es.size 0,.int ep 0]}}):wpAny (model prog w) A (pyIter (.ref d)) Q E s:=by
 obtain⟨o,ho,hc,hdat⟩:=hm;have hT:s.TypeIs (.ref d) "dict":=⟨o,ho,hc.1⟩;refine wpAny_pyIter_slot hT F.slot_dict_iter (wpAny_call_entry F.slot_dict_iter hT F.entry_dict_iter ?_ (F.args_dict_iter_1 _));unfold Builtin.«dict.__iter__»;refine wpAny_bind ?_;unfold Builtin.Dict.dictSlotNone;refine wpAny_bind (wpAny_notOrdered_dict hT ?_);show wpAny _ _ (pure (Value.ref d)) _ _ s;refine wpAny_pure ?_;show wpAny _ _ (Builtin.Dict.showsAll d >>= _) _ _ s;unfold Builtin.Dict.showsAll;rw[if_neg (by rw[hd];exact Bool.false_ne_true)]
 refine wpAny_bind (wpAny_pure (wpAny_bind (wpAny_dictEntries ho hdat (wpAny_bind (wpAny_dictEpoch ho hdat ?_)))));refine wpAny_bind (wpAny_newObj_type (wpAny_pure ⟨_,rfl,"dict_keyiterator",_,⟨_,Heap.get?_push_size _ rfl,rfl⟩,F.slot_dict_keyiterator_next.lookup,?_⟩));simpa [rawInt] using hQ
theorem vR {Q:Option Value->Shared->Prop}(hit:s.heap.IsKeyIter it d i es.size ep)(hm:Raw s.heap d es ep){e:DictEntry}(hx:es[i]?=some e)
  (hQ:∀ h',h'.IsKeyIter it d (i+1) es.size ep->Heap.SameBut it s.heap h'->Q (some e.key) {s with heap:=h'}):wpAny (model prog w) A (pyNext (.ref it)) Q E s:=by
 obtain⟨o,ho,hc,hd⟩:=id hit;obtain⟨od,hod,hcd,hdd⟩:=id hm;unfold pyNext;refine wpAny_bind (wpAny_attempt (wpAny_callSpecial?_slot (name:=Str.ofString "__next__") hit.typeIs F.slot_dict_keyiterator_next (wpAny_call_entry F.slot_dict_keyiterator_next hit.typeIs F.entry_dict_keyiterator_next ?_ (F.args_dict_keyiterator_next_1 _))));refine wpAny_bind (wpAny_pure (wpAny_bind (wpAny_bind ?_)))
 first|refine wpAny_bind (wpAny_typeNameOfWhole_keyiter hit.typeIs (wpAny_pure ?_))|refine wpAny_bind (wpAny_typeNameOf_keyiter hit.typeIs (wpAny_pure ?_))
 refine wpAny_bind (wpAny_fieldsOf ho hd ?_);have hown:Builtin.Dict_items.ownsTuple "dict_keyiterator"=false:=by decide
 simp only[hown,Bool.false_eq_true,if_false];show wpAny _ _ (if (Value.ref d == Value.none)=true then _ else _) _ _ s;rw[if_neg (show ¬ ((Value.ref d == Value.none)=true) from Bool.false_ne_true)]
 refine wpAny_bind (wpAny_pure (wpAny_bind (wpAny_dictEntries hod hdd ?_)));rw[if_neg (by simp)]
 refine wpAny_bind (wpAny_pure (wpAny_bind (wpAny_dictEpoch hod hdd ?_)));rw[if_neg (by simp)];refine wpAny_pure ?_
 have hlt:i<es.size:=by rw[Array.getElem?_eq_some_iff]at hx;exact hx.1
 have he:es[i]=e:=by rw[Array.getElem?_eq_getElem hlt]at hx;exact Option.some.inj hx
 simp only[show ¬ ((i:Int)<0) from by omega,if_false,Int.toNat_natCast,Array.getElem?_eq_getElem hlt]
 refine wpAny_bind ?_;first|refine wpAny_bind (wpAny_typeNameOfWhole_keyiter hit.typeIs (wpAny_pure ?_))|refine wpAny_bind (wpAny_typeNameOf_keyiter hit.typeIs (wpAny_pure ?_))
 refine wpAny_bind (wpAny_isOneOf_keyiter hit.typeIs ?_);show wpAny _ _ (setField (.ref it) 1 (rawInt ((i:Int)+1)) >>= _) _ _ s;refine wpAny_bind (wpAny_setField ho hd (by simp) ?_)
 have hit':(s.heap.update it (Obj.mapFields (·.setIfInBounds 1 (rawInt ((i:Int)+1))))).IsKeyIter it d (i+1) es.size ep:=
  ⟨_,Heap.get?_update_self _ ho (Obj.isFreed_of_fields (Obj.data_mapFields hd _)),(Obj.cls_mapFields ..).trans hc,by rw[Obj.data_mapFields hd];simp[rawInt]⟩
 refine wpAny_bind (wpAny_holding (wpAny_bind (wpAny_isOneOf_keyiter (s:={s with heap:=s.heap.update it (Obj.mapFields (·.setIfInBounds 1 (rawInt ((i:Int)+1))))}) hit'.typeIs ?_)));show wpAny _ _ (pure es[i].key) _ _ _;rw[he];exact wpAny_pure (wpAny_pure ⟨_,rfl,wpAny_pure (hQ _ hit' (Heap.SameBut.update ..))⟩)
theorem yL {Q:Option Value->Shared->Prop}(hh:A.handled=none)(hit:s.heap.IsKeyIter it d i es.size ep)(hm:Raw s.heap d es ep)(hx:es.size<=i)
  (hQ:∀ h',Heap.ExtBut it s.heap h'->Q none {s with heap:=h'}):wpAny (model prog w) A (pyNext (.ref it)) Q E s:=by
 obtain⟨o,ho,hc,hd⟩:=id hit;obtain⟨od,hod,hcd,hdd⟩:=id hm;unfold pyNext;refine wpAny_bind (wpAny_attempt (wpAny_callSpecial?_slot (name:=Str.ofString "__next__") hit.typeIs F.slot_dict_keyiterator_next (wpAny_call_entry F.slot_dict_keyiterator_next hit.typeIs F.entry_dict_keyiterator_next ?_ (F.args_dict_keyiterator_next_1 _))));refine wpAny_bind (wpAny_pure (wpAny_bind (wpAny_bind ?_)))
 first|refine wpAny_bind (wpAny_typeNameOfWhole_keyiter hit.typeIs (wpAny_pure ?_))|refine wpAny_bind (wpAny_typeNameOf_keyiter hit.typeIs (wpAny_pure ?_))
 refine wpAny_bind (wpAny_fieldsOf ho hd ?_);have hown:Builtin.Dict_items.ownsTuple "dict_keyiterator"=false:=by decide
 simp only[hown,Bool.false_eq_true,if_false];show wpAny _ _ (if (Value.ref d == Value.none)=true then _ else _) _ _ s;rw[if_neg (show ¬ ((Value.ref d == Value.none)=true) from Bool.false_ne_true)]
 refine wpAny_bind (wpAny_pure (wpAny_bind (wpAny_dictEntries hod hdd ?_)));rw[if_neg (by simp)]
 refine wpAny_bind (wpAny_pure (wpAny_bind (wpAny_dictEpoch hod hdd ?_)));rw[if_neg (by simp)];refine wpAny_pure ?_
 simp only[show ¬ ((i:Int)<0) from by omega,if_false,Int.toNat_natCast,Array.getElem?_eq_none hx]
 refine wpAny_bind ?_;first|refine wpAny_bind (wpAny_typeNameOfWhole_keyiter hit.typeIs (wpAny_pure ?_))|refine wpAny_bind (wpAny_typeNameOf_keyiter hit.typeIs (wpAny_pure ?_))
 show wpAny _ _ (setField (.ref it) 0 .none >>= _) _ _ s;refine wpAny_bind (wpAny_setField ho hd (by simp) ?_)
 show wpAny _ _ (newExc (.type "StopIteration") [] >>= _) _ _ _;refine wpAny_bind ?_;simp only[newExc,newTuple];refine wpAny_bind (wpAny_newObj_type (wpAny_bind (m:=firstArgMember _ _) (wpAny_of_eq (a:=Value.none) (by first | rfl | (simp only[firstArgMember];rfl)) (wpAny_newObj_type ?_ (by size_fits)))) (by size_fits))
 simp only[raiseNew];refine wpAny_bind (wpAny_handled ?_);rw[show A.in1.handled=none from hh];refine wpAny_bind (wpAny_pure (wpAny_throw ?_));refine wpAny_bind (wpAny_isInstance (T:="StopIteration") (b:=true) ⟨_,Heap.get?_push_size _ rfl,rfl⟩ isSubtype_stop ?_);exact wpAny_pure (hQ _ (((Heap.SameBut.update ..).extBut.push _).push _))
end
end PySem
set_option maxHeartbeats 1000000
namespace L2
open PySem PySem.Spec PyProof.Rows
def EK (a:Addr)(ob:Obj)(kvs:List (List Key × V)):It where
 go:=fun i H=>H a=some (.frz ob (.dT kvs))/\i<kvs.length
 yld:=fun i H x H'=>H'=H/\∃ b k v,kvs[i]?=some (k,v)/\x=.ref b/\H b=some (.tup (k.map kV))
 stop:=fun i H=>H a=some (.frz ob (.dT kvs))/\kvs.length<=i
theorem j3 {α β:Type}{F:α->β->Prop}:∀ {l:List α}{m:List β}{i:Nat}{x:α},Paired F l m->l[i]?=some x->∃ y,m[i]?=some y/\F x y
 | _,_,_,_,.nil,h=>by simp at h
 | _,_,0,_,.cons h _,e=>by simp at e;subst e;exact⟨_,by simp,h⟩
 | _,_,i+1,_,.cons _ t,e=>by
  obtain⟨y,h1,h2⟩:=j3 (i:=i) t (by simpa using e)
  exact⟨y,by simpa using h1,h2⟩
theorem fm {α β:Type}{F:α->β->Prop}:∀ {l:List α}{m:List β},Paired F l m->l.length=m.length
 | _,_,.nil=>rfl
 | _,_,.cons _ t=>by rw[List.length_cons,List.length_cons,fm t]
theorem pj {P:Program}{w:World}{H:Hp}{h:Heap}{a:Addr}{ob:Obj}{kvs:List (List Key × V)}(ok:dR P w H h)(e:H a=some (.frz ob (.dT kvs))){es:Array DictEntry}{ep:Nat}(hd:ob.data=.dict es ep) :
  Raw h a es ep/\es.size=kvs.length/\∀ (i:Nat) k v,kvs[i]?=some (k,v)->∃ b q,es[i]?=some q/\q.key=.ref b/\H b=some (.tup (k.map kV)):=by
 obtain⟨h0,_,_,xs,r,o,es',ep',h1,h2,h3,h4,h5⟩:=(show bh P w H h a (.frz ob (.dT kvs)) from ok a _ e);rw[h0]at h1
 cases h1
 rw[hd]at h3
 cases h3
 refine⟨⟨ob,h0,h2,hd⟩,?_,fun i k v hx=>?_⟩
 ·rw[<-Array.length_toList,h4,List.length_map,fm r]
 ·obtain⟨y,q1,q2,q3,q4⟩:=j3 r hx;refine⟨y.2.1,entryOfKey (tupleKind (br P w)) y,?_,rfl,q3⟩;rw[<-Array.getElem?_toList,h4,List.getElem?_map,q1]
  rfl
theorem rf {P:Program}{w:World}{K:PySem.W.Frag}{tg:Expr}{a it:Addr}{ob:Obj}{kvs:List (List Key × V)}{es:Array DictEntry}{ep:Nat}(hd:ob.data=.dict es ep)(hsz:es.size=kvs.length) :
  Turn P w K tg (EK a ob kvs) [it] it (fun i h=>h.IsKeyIter it a i es.size ep) where
 mem:=by simp
 obj:=fun i h st b hb=>by
  have e:b=it:=by simpa using hb
  subst e;obtain⟨o,e,c,d⟩:=st;exact⟨o,e,fun v z=>by rw[d]at z;cases z⟩
 keep:=fun i h h' st k=>st.at fun o e=>k it (by simp) o e
 item:=by
  intro X hP hw hK hc i pins s σ H E I hf st hg;subst hP hw hK;obtain⟨hH,hi⟩:=hg;obtain⟨raw,_,all⟩:=pj I.hok hH hd;obtain⟨⟨k,v⟩,hx⟩:∃ kv,kvs[i]?=some kv:=⟨_,List.getElem?_eq_getElem hi⟩;obtain⟨b,q,e1,e2,e3⟩:=all i k v hx;obtain⟨f0,f1,f2,f3,f4,f5⟩:=hf it (by simp)
  refine vR st raw e1 fun h' st' sb=>?_;have I1:ay X pins σ H {s with heap:=h'}:=I.turned (t':=s.toks) (fun b o hb e=>(sb.2 b hb).trans e) f0 f1 f3 f4 f5;obtain⟨o,e,c,d⟩:=id st';rw[e2];exact⟨.ref b,rfl,pk (s:={s with heap:=h'}) e c d (by decide) ⟨.ref b,H,I1,rfl,⟨rfl,b,k,v,hx,rfl,e3⟩,st',fun b hb=>(hf b hb).1⟩⟩
 done:=by
  intro X hP hw hK hc i pins s σ H E I hf st hg;subst hP hw hK;obtain⟨hH,hi⟩:=hg;obtain⟨raw,_,_⟩:=pj I.hok hH hd;obtain⟨f0,f1,f2,f3,f4,f5⟩:=hf it (by simp)
  exact yL (I.ok.hd hc) st raw (by omega) fun h' eb=>⟨rfl,I.turned (t':=s.toks) (fun b o hb e=>eb b o hb e) f0 f1 f3 f4 f5⟩
 self:=fun _ _ _ _ _ st h=>wpAny_pyIter_keyiter st h
def DR (td:TE):TI:=fun σ H R=>td σ H fun x H1=>∃ a kvs,x=.ref a/\H1 a=some (.dT kvs)/\∀ ob,R (EK a ob kvs) (a8 H1 a (.frz ob (.dT kvs)))
theorem yj {X:Cx}{tg e:Expr}{td:TE}(he:PE X e td):PI X tg e (DR td):=by
 intro pins s σ H R I h;refine bB (he pins s σ H _ I h) fun v s1 ⟨x,H1,I1,r1,q1⟩=>?_;obtain⟨a,kvs,rfl,hH,q⟩:=q1
 cases r1
 obtain⟨z,y,xs,r,o,es,ep,h1,h2,h3,h4,h5⟩:=(show bh X.prog X.w H1 s1.heap a (.dT kvs) from I1.hok a _ hH);have hsz:es.size=kvs.length:=by rw[<-Array.length_toList,h4,List.length_map,fm r]
 have kt:KT (a8 H1 a (.frz o (.dT kvs))) kvs xs:=KT.keeps r fun b ys q=>by
  rw[aw (dh q hH (by simp))];exact q
 have I2:ay X pins σ (a8 H1 a (.frz o (.dT kvs))) s1:=I1.write (x:=a) (e:=a) (h':=s1.heap) (t':=s1.toks) (by rw[hH];exact trivial) (.inl rfl) (fun b u _ q=>q) ⟨o,h1⟩ ⟨h1,z,y,xs,kt,o,es,ep,h1,h2,h3,h4,h5⟩
 refine vS y ⟨o,h1,h2,h3⟩ ?_;refine⟨s1.heap.objs.size,[s1.heap.objs.size],_,_,_,rfl,I2.kept (t':=s1.toks) fun b o e=>Heap.get?_push_of_some _ e,rf h3 hsz,⟨_,Heap.get?_push_size _ rfl,rfl,rfl⟩,fun b hb=>?_,q o⟩;have e:b=s1.heap.objs.size:=by simpa using hb
 subst e;exact I2.fpOk (Nat.le_refl _) (I2.hok.fresh (Nat.le_refl _))
end L2
namespace DL
open PySem L2
structure zK (K:PySem.W.Frag) (H₀ H:Hp) (v:V) (x0 x1:T) (t2 t3:List T):Prop where
 ex:∃ (t:Addr) (v0 v1 v2 v3:V),v=.ref t/\H t=some (.tup [v0,v1,v2,v3])/\al K H x0 v0/\al K H x1 v1/\al K H (.lst t2) v2/\al K H (.lst t3) v3 ∧
  (t2=[]->t3=[]/\∃ a2 a3,v2=.ref a2/\v3=.ref a3/\H a2=some (.lst [])/\H a3=some (.lst [])/\H₀ a2=none/\H₀ a3=none/\a2≠a3)
structure Gg (K:PySem.W.Frag) (H₀ F:Hp) (D':dP) (D:Ends):Prop where
 nx:∀ σ' F' H' δ',ao F F'->Rel K F' H' σ' δ'->D'.nx δ'->D.nx σ' H'
 rt:∀ v H' x0 x1 t2 t3,ao H₀ H'->zK K H₀ H' v x0 x1 t2 t3->D'.rt (.t (.tup [x0,x1,.lst t2,.lst t3]))->D.rt v H'
section
variable {X:Cx}{st:Stmt}{rest:List Stmt}{w u:WS}{pos:Pos}{H₀:Hp}
end
structure g7 (P:Program) (w:World) (K:PySem.W.Frag) (mg:Str->Option Value) (base:Heap) (k:Nat) (x:Str) (sp:Sp):Prop where
 ex:∃ (f:Addr) (fd:FuncData) (ps:List Str),mg x=some (.ref f)/\de P w K mg base lQ k f fd ps sp/\Binds K fd ps []/\PySem.W.keepIn K (.ref f)=true
section
variable {P:Program}{wd:World}{K:PySem.W.Frag}{mg:Str->Option Value}{base:Heap}
end
theorem Rel.lose {K:PySem.W.Frag}{F H:Hp}{σ:St}{δ:az}{i:Nat}{v:V}(r:Rel K F H σ δ):Rel K F H (σ.set i (some v)) (δ.set i none):=by
 have ne:∀ {j:Nat}{s:S},(δ.set i none)[j]?=some (some s)->i≠j/\δ[j]?=some (some s):=fun {j s} h=>by
  by_cases e:i=j
  ·subst e;rw[List.getElem?_set_self']at h
   cases q:δ[i]? with
   | none=>rw[q]at h;cases h
   | some u=>rw[q]at h;cases h
  ·rw[List.getElem?_set_ne e]at h;exact⟨e,h⟩
 refine⟨r.sub,r.full,by rw[List.length_set,List.length_set];exact r.len,fun j s h=>?_,fun j l a ts us hn h1 h2 h3=>?_⟩
 ·obtain⟨e,h⟩:=ne h;rw[List.getElem?_set_ne e];exact r.slot j s h
 ·obtain⟨e1,h1⟩:=ne h1;obtain⟨e2,h2⟩:=ne h2;rw[List.getElem?_set_ne e1]at h3;rw[List.getElem?_set_ne e2];exact r.dist j l a ts us hn h1 h2 h3
section
variable {X:Cx}{e1 c tg:Expr}{wa:WE}{wt:WT}{u:WS}{a rest:List Stmt}{pos pos1 pos2 pos3 p1 p2 p3:Pos}{H₀:Hp}{x y:Str}{k:Nat}{sp:aR}{ta:TS}
end
section
variable {X:Cx}{e7 e8 e2 e5:Expr}{pos p p2:Pos}{H₀:Hp}{x:Str}{k:Nat}{sp:aR}
end
end DL
set_option maxHeartbeats 1000000
namespace DL
open PySem L2
def gY:Key->T
 | .inl i=>.int i
 | .inr x=>.str x
def bM (kvs:List (List Key × V)):List T:=kvs.map fun p=>.tup (p.1.map gY)
abbrev jj:=(List T->az->Prop)->List T->az->Prop
def bC (a:Addr)(F F':Hp):Prop:=∀ c o,c≠a->F c=some o->F' c=some o
theorem bC.refl (a:Addr)(F:Hp):bC a F F:=fun _ _ _ q=>q
theorem bC.trans {a:Addr}{F G H:Hp}(x:bC a F G)(y:bC a G H):bC a F H:=fun c o n q=>y c o n (x c o n q)
theorem bC.of {a:Addr}{F G:Hp}(x:ao F G):bC a F G:=fun c o _ q=>x c o q
theorem bC.same {a:Addr}{H₀ F G:Hp}(s0:ao H₀ F)(n0:H₀ a=none)(x:bC a F G):ao H₀ G:=fun c o q=>x c o (fun z=>by rw[z,n0]at q;cases q) (s0 c o q)
theorem bC.sqL {K:PySem.W.Frag}{a b:Addr}{F G:Hp}{xs:List V}{kvs:List (List Key × V)}(x:bC a F G)(hF:F a=some (.dT kvs))(h:ca K F b xs):ca K G b xs:=by
 rcases h with (h|⟨o,h⟩)|h
 ·exact .inl (.inl (x _ _ (dh h hF (by simp)) h))
 ·exact .inl (.inr ⟨o,x _ _ (dh h hF (by simp)) h⟩)
 ·exact .inr h
theorem bC.sqT {K:PySem.W.Frag}{a b:Addr}{F G:Hp}{xs:List V}{kvs:List (List Key × V)}(x:bC a F G)(hF:F a=some (.dT kvs))(h:dy K F b xs):dy K G b xs:=by
 rcases h with (h|⟨o,h⟩)|h
 ·exact .inl (.inl (x _ _ (dh h hF (by simp)) h))
 ·exact .inl (.inr ⟨o,x _ _ (dh h hF (by simp)) h⟩)
 ·exact .inr h
theorem bC.treps {K:PySem.W.Frag}{a:Addr}{F G:Hp}{ts:List T}{xs:List V}{kvs:List (List Key × V)}(x:bC a F G)(hF:F a=some (.dT kvs))(h:ae K F ts xs):ae K G ts xs:=
 ae.mono (fun _ _ q=>x.sqT hF q) (fun _ _ q=>x.sqL hF q) (fun c d q=>by unfold ExcAt at *;exact x _ _ (dh q hF (by simp)) q) _ _ h
structure oT (K:PySem.W.Frag) (F:Hp) (a:Addr) (N:List T->az->Prop) (D:Ends):Prop where
 nx:∀ σ' F' H' δ' kvs',bC a F F'->F' a=some (.dT kvs')->Rel K F' H' σ' δ'->σ'[2]?=some (some (.ref a))->N (bM kvs') δ'->D.nx σ' H'
theorem oT.mono {K:PySem.W.Frag}{F F1:Hp}{a:Addr}{N:List T->az->Prop}{D:Ends}(e:oT K F a N D)(s:bC a F F1):oT K F1 a N D:=⟨fun σ' F' H' δ' kvs' q=>e.nx σ' F' H' δ' kvs' (s.trans q)⟩
def bT (K:PySem.W.Frag)(w:jj):TS:=fun D σ H=>∃ δ N F a kvs,F a=some (.dT kvs)/\Rel K F H σ δ/\σ[2]?=some (some (.ref a))/\w N (bM kvs) δ/\oT K F a N D
def nv (w u:jj):jj:=fun N ks δ=>w (u N) ks δ
def oJ:jj:=fun N ks δ=>N ks δ
def i8 (i:Nat)(we:WE):jj:=fun N ks δ=>we δ fun s=>N ks (setS i s δ)
def Cm (t:WT)(w u:jj):jj:=fun N ks δ=>t δ fun b=>if b=true then w N ks δ else u N ks δ
section
variable {X:Cx}{st:Stmt}{rest a b:List Stmt}{w u:jj}{pos:Pos}{e c:Expr}{we:WE}{t:WT}
theorem gw (h1:PS X st (bT X.K w))(h2:cy X rest (bT X.K u)):cy X (st::rest) (bT X.K (nv w u)):=
 (cK h1 h2).imp fun D σ H ⟨δ,N,F,a,kvs,hF,rl,h2,h,ok⟩=>⟨δ,_,F,a,kvs,hF,rl,h2,h,⟨fun σ' F' H' δ' kvs' s' hF' rl' h2' h'=>⟨δ',N,F',a,kvs',hF',rl',h2',h',ok.mono s'⟩⟩⟩
theorem fF (h1:PS X st (bT X.K w)):cy X [st] (bT X.K w):=lH h1
theorem sC:cy X [] (bT X.K oJ):=pL.imp fun D σ H ⟨δ,N,F,a,kvs,hF,rl,h2,h,ok⟩=>ok.nx σ F H δ kvs (.refl _ _) hF rl h2 h
theorem kF {i:Nat}{x:Str}{pos':Pos}(i2:i≠2)(hN:X.N.Nodup)(he:PE X e (ah X.K we))(hi:X.N[i]?=some x:=by rfl)(hx:Loc X.env.scope x:=by first|exact Or.inl rfl|exact Or.inr rfl)(hs:swapsWith e (some (.Name x pos')) pos.line X.env=pure false:=by rfl)(hf:X.fn x=true\/X.env.scope.names.lookup x=some .local:=by first|exact .inl rfl|exact .inr rfl|assumption) :
  PS X (.Assign [.Name x pos'] e pos) (bT X.K (i8 i we)):=
 (oA hN hi hx he hs hf).imp fun D σ H ⟨δ,N,F,a,kvs,hF,rl,h2,h,ok⟩=>⟨δ,_,F,rl,h,fun v F1 H1 s e p q=>by
  obtain⟨F2,ff,r2⟩:=rl.setS i e p;exact ok.nx _ F2 H1 _ kvs (.of ff) (ff _ _ hF) r2 (by rw[List.getElem?_set_ne i2];exact h2) q⟩
theorem AF (hc:PT X c (liftT X.K t))(ha:cy X a (bT X.K w))(hb:cy X b (bT X.K u)):PS X (.If c a b pos) (bT X.K (Cm t w u)):=
 (zz hc ha hb).imp fun D σ H ⟨δ,N,F,a,kvs,hF,rl,h2,h,ok⟩=>⟨δ,_,F,rl,h,fun F1 H1 k e q=>by
  cases k with
  | true=>exact⟨δ,N,F1,a,kvs,e.ff _ _ hF,rl.ext e,h2,by simpa using q,ok.mono (.of e.ff)⟩
  | false=>exact⟨δ,N,F1,a,kvs,e.ff _ _ hF,rl.ext e,h2,by simpa using q,ok.mono (.of e.ff)⟩⟩
theorem pS {K:PySem.W.Frag}{F:Hp}{a:Addr}{kvs kvs':List (List Key × V)}(hF:F a=some (.dT kvs))(b:Addr)(xs:List V)(h:dy K F b xs):dy K (a8 F a (.dT kvs')) b xs:=by
 rcases h with (h|⟨o,h⟩)|h
 ·exact .inl (.inl (by rw[aw (dh h hF (by simp))];exact h))
 ·exact .inl (.inr ⟨o,by rw[aw (dh h hF (by simp))];exact h⟩)
 ·exact .inr h
theorem pR {K:PySem.W.Frag}{F:Hp}{a:Addr}{kvs kvs':List (List Key × V)}(hF:F a=some (.dT kvs))(b:Addr)(xs:List V)(h:ca K F b xs):ca K (a8 F a (.dT kvs')) b xs:=by
 rcases h with (h|⟨o,h⟩)|h
 ·exact .inl (.inl (by rw[aw (dh h hF (by simp))];exact h))
 ·exact .inl (.inr ⟨o,by rw[aw (dh h hF (by simp))];exact h⟩)
 ·exact .inr h
theorem pf {F:Hp}{a:Addr}{kvs kvs':List (List Key × V)}(hF:F a=some (.dT kvs))(b c:Addr)(h:ExcAt F b c):ExcAt (a8 F a (.dT kvs')) b c:=by
 unfold ExcAt at *;rw[aw (dh h hF (by simp))];exact h
theorem v6 {K:PySem.W.Frag}{F:Hp}{a:Addr}{kvs kvs':List (List Key × V)}(hF:F a=some (.dT kvs)){t:T}{v:V}(h:al K F t v):al K (a8 F a (.dT kvs')) t v:=
 al.mono (pS hF) (pR hF) (pf hF) _ _ h
theorem re {K:PySem.W.Frag}{F:Hp}{a:Addr}{kvs kvs':List (List Key × V)}(hF:F a=some (.dT kvs)){ts:List T}{xs:List V}(h:ae K F ts xs):ae K (a8 F a (.dT kvs')) ts xs:=
 ae.mono (pS hF) (pR hF) (pf hF) _ _ h
theorem Rel.updD {K:PySem.W.Frag}{F H:Hp}{σ:St}{δ:az}{a:Addr}{kvs:List (List Key × V)}(kvs':List (List Key × V))(r:Rel K F H σ δ)(hF:F a=some (.dT kvs)):Rel K (a8 F a (.dT kvs')) (a8 H a (.dT kvs')) σ δ:=by
 have hH:=r.sub _ _ hF;refine⟨fun b o q=>?_,fun b o q=>?_,r.len,fun i s h=>?_,r.dist⟩
 ·by_cases e:b=a
  ·subst e;rw[aB]at q ⊢;exact q
  ·rw[aw e]at q ⊢;exact r.sub _ _ q
 ·by_cases e:b=a
  ·subst e;rw[aB]at q ⊢;exact .inl q
  ·rw[aw e]at q ⊢;exact r.full _ _ q
 ·obtain⟨v,h1,h2⟩:=r.slot i s h;refine⟨v,h1,?_⟩
  cases s with
  | t x=>exact v6 hF h2
  | vt x=>exact h2.elim
  | ol ts=>
   obtain⟨b,xs,rfl,n1,n2,n3⟩:=h2;have hb:b≠a:=fun e=>by rw[e,hF]at n1;cases n1
   exact⟨b,xs,rfl,by rw[aw hb];exact n1,by rw[aw hb];exact n2,re hF n3⟩
end
structure CD (K:PySem.W.Frag) (H₀ F:Hp) (D':dP) (D:Ends):Prop where
 nx:∀ σ' F' H' δ',ao F F'->Rel K F' H' σ' δ'->D'.nx δ'->D.nx σ' H'
 rt:∀ b H' (is:List Int),ao H₀ H'->H' b=some (.tup (is.map V.int))->D'.rt (.t (.tup (is.map .int)))->D.rt (.ref b) H'
def da (K:PySem.W.Frag)(H₀:Hp)(w:WS):TS:=fun D σ H=>∃ δ D' F,ao H₀ F/\Rel K F H σ δ/\w D' δ/\CD K H₀ F D' D
def wg (w0 w1 w2:WE):WS:=fun D δ=>w0 δ fun s0=>w1 δ fun s1=>w2 δ fun s2=>∃ i j k:Int,s0=.t (.int i)/\s1=.t (.int j)/\s2=.t (.int k)/\D.rt (.t (.tup [.int i,.int j,.int k]))
def kh (K:PySem.W.Frag)(sp:aR):Sp:=fun vs H Q _=>∃ ss R,(∀ s∈ss,lV s)/\eV K H H ss vs/\sp ss R/\∀ b H' (is:List Int),ao H H'->H' b=some (.tup (is.map V.int))->R (.t (.tup (is.map .int)))->Q (.ref b) H'
section
variable {X:Cx}{st:Stmt}{rest:List Stmt}{w u:WS}{pos:Pos}{H₀:Hp}
theorem GM (h:PS X st (aP X.K H₀ w))(hw:∀ D δ,w D δ->w {nx:=D.nx,rt:=fun _=>False} δ):PS X st (da X.K H₀ w):=
 h.imp fun D σ H ⟨δ,D',F,s0,rl,h,ok⟩=>⟨δ,_,F,s0,rl,hw D' δ h,⟨ok.nx,fun _ _ _ _ _ z=>z.elim,fun _ _ _ _ _ _ z=>z.elim,fun _ _ _ _ _ _ z=>z.elim⟩⟩
theorem qx (h1:PS X st (da X.K H₀ w))(h2:cy X rest (da X.K H₀ u)):cy X (st::rest) (da X.K H₀ (bp w u)):=
 (cK h1 h2).imp fun D σ H ⟨δ,D',F,s0,rl,h,ok⟩=>⟨δ,_,F,s0,rl,h,⟨fun σ' F' H' δ' ff rl' h'=>⟨δ',D',F',s0.trans ff,rl',h',⟨fun a b c d q=>ok.nx a b c d (ff.trans q),ok.rt⟩⟩,ok.rt⟩⟩
theorem sD (h1:PS X st (da X.K H₀ w)):cy X [st] (da X.K H₀ w):=lH h1
theorem xq {e0 e1 e2:Expr}{w0 w1 w2:WE}{x1:Nat}{p1:Pos}(h0:PE X e0 (ah X.K w0))(h1:PE X e1 (ah X.K w1))(h2:PE X e2 (ah X.K w2))
  (z0:starEach [e0,e1,e2] X.env=(false,eval e0 X.env)::starEach [e1,e2] X.env:=by rfl) (z1:starEach [e1,e2] X.env=(false,eval e1 X.env)::starEach [e2] X.env:=by rfl) (z2:starEach [e2] X.env=(false,eval e2 X.env)::starEach [] X.env:=by rfl) :
  PS X (.Return (some (.Tuple [e0,e1,e2] x1 p1)) pos) (da X.K H₀ (wg w0 w1 w2)):=
 (oz (vI (cX h0 (cX h1 (cX h2 iT z2) z1) z0))).imp fun D σ H ⟨δ,D',F,s0,rl,h,ok⟩=>
  ⟨δ,_,F,rl,h,fun v0 F1 H1 s0' e0 p0 q0=>⟨δ,_,F1,rl.ext e0,q0,fun v1 F2 H2 s1 e1 p1 q1=>⟨δ,_,F2,(rl.ext e0).ext e1,q1,fun v2 F3 H3 s2 e2 p2 q2=>by
   obtain⟨i,j,k,rfl,rfl,rfl,hr⟩:=q2
   cases (show v0=.int i from p0)
   cases (show v1=.int j from p1)
   cases (show v2=.int k from p2)
   refine⟨(by decide:3<=sizeLine),fun t ht=>?_⟩
   have up:ao H3 (a8 H3 t (.tup [.int i,.int j,.int k])):=fun b o q=>by rw[aw (bo q ht)];exact q
   exact ok.rt t _ [i,j,k] ((((s0.trans rl.sub).trans e0.hh).trans (e1.hh.trans e2.hh)).trans up) aB hr⟩⟩⟩
end
section
variable {P:Program}{wd:World}{K:PySem.W.Frag}{mg:Str->Option Value}{base:Heap}
theorem xo {x qual:Str}{st:Stmt}{f:Addr}{fd:FuncData}{N ps:List Str}{k:Nat}{sp:aR}{w:WS}(F:y6 K x qual st f fd)(S:aF N ps (ai st))
  (hlen:∀ ss R,sp ss R->ss.length=ps.length)
  (hbody:∀ (cdv:Value) (A:Around) (outer:List Env) (s:Shared) (H:Hp) (E:XK),bg k (A.deeper (PyProof.Rows.envOfC qual (ai st) s.heap.objs.size f cdv))->cy (gU lQ P wd K mg base N qual (ai st) f cdv A outer s H E).nox (bj st) (da K H w))
  (h:∀ ss R,sp ss R->w {nx:=fun _=>False,rt:=R} (aO N ss)):de P wd K mg base lQ (k+1) f fd ps (kh K sp):=by
 have pl:ps.length<=N.length:=by
  have:=congrArg List.length S.pre;rw[List.length_take]at this;omega
 refine F.ok S (fun vs H Q E hs=>?_) (fun cdv A outer s H vs Q E hr hs=>?_)
 ·obtain⟨ss,R,_,r,hs,_⟩:=hs;rw[eG r,hlen ss R hs]
 ·obtain⟨ss,R,ha,r,hs,k⟩:=hs;exact⟨_,hbody cdv A outer s H E hr,aO N ss,_,H,ao.refl _,j7 (by rw[hlen ss R hs];exact pl) ha r,h ss R hs,⟨fun σ' F' H' δ' ff rl q=>q.elim,fun b H' is sm f q=>k b H' is sm f q⟩⟩
end
theorem uo:∀ {a b:Key},gY a=gY b->a=b
 | .inl _,.inl _,e=>by cases e;rfl
 | .inr _,.inr _,e=>by cases e;rfl
 | .inl _,.inr _,e=>by cases e
 | .inr _,.inl _,e=>by cases e
theorem jS:∀ {a b:List Key},a.map gY=b.map gY->a=b
 | [],[],_=>rfl
 | [],_::_,e=>by cases e
 | _::_,[],e=>by cases e
 | x::a,y::b,e=>by
  rw[List.map_cons,List.map_cons]at e;obtain⟨e1,e2⟩:=List.cons.inj e;rw[uo e1,jS e2]
theorem ut (kvs:List (List Key × V))(k:List Key)(v:V):((.tup (k.map gY))∈bM kvs/\bM (putK kvs k v)=bM kvs)\/((.tup (k.map gY))∉bM kvs/\bM (putK kvs k v)=bM kvs++[.tup (k.map gY)]):=by
 have mem:∀ l:List (List Key × V),(.tup (k.map gY))∈bM l↔∃ p∈l,p.1=k:=fun l=>by
  unfold bM;rw[List.mem_map];constructor
  ·rintro⟨p,hp,e⟩;exact⟨p,hp,jS (T.tup.inj e)⟩
  ·rintro⟨p,hp,rfl⟩;exact⟨p,hp,rfl⟩
 unfold putK
 split
 ·rename_i h
  left
  rw[List.any_eq_true]at h;obtain⟨p,hp,e⟩:=h;refine⟨(mem kvs).mpr ⟨p,hp,of_decide_eq_true e⟩,?_⟩;unfold bM;rw[List.map_map];refine List.map_congr_left fun p _=>?_;show T.tup (List.map gY (if p.1=k then (p.1,v) else p).1)=_
  split <;> rfl
 ·rename_i h
  right
  refine⟨fun z=>?_,by unfold bM;rw[List.map_append];rfl⟩
  obtain⟨p,hp,e⟩:=(mem kvs).mp z;exact h (List.any_eq_true.mpr ⟨p,hp,decide_eq_true e⟩)
theorem mz:∀ {a b:List Int},a.map T.int=b.map T.int->a=b
 | [],[],_=>rfl
 | [],_::_,e=>by cases e
 | _::_,[],e=>by cases e
 | x::a,y::b,e=>by
  rw[List.map_cons,List.map_cons]at e;obtain⟨e1,e2⟩:=List.cons.inj e
  cases e1
  rw[mz e2]
def pX (sp:aR)(wa:WA):jj:=fun N ks δ=>wa δ fun ss=>sp (ss.map eY) fun s=>∃ is:List Int,s=.t (.tup (is.map .int))/\ks.length<1000/\((.tup (is.map .int))∈ks->N ks δ)/\((.tup (is.map .int))∉ks->N (ks++[.tup (is.map .int)]) δ)
section
variable {X:Cx}{e:Expr}{es:List Expr}{wa:WA}{pos pos1 pos2 p p1 p2:Pos}{x y:Str}{k:Nat}{sp:aR}
theorem pc {j:Nat}{pb:Pos} (hu:X.A.units+1<cLine) (C:g7 X.prog X.w X.K X.mg X.base k x (kh X.K sp)) (hr:bg k X.A) (hg:Gl X x) (ha:PA X (e::es) (bS X.K wa)) (hv:PE X (.Name y p1) (lJ 2):=by exact pv _) (hd:(x == ("__debug__":Str))=false:=by decide)
  (he:starEach (e::es) X.env=(false,eval e X.env)::starEach es X.env:=by rfl) (hpl:(backTo p2 (starEach es X.env)).any (·.1)=false:=by rfl)
  (hs:swapsWith (.Constant (.bool true) j pb) (some (.Subscript (.Name y p1) (.Call (.Name x p) (e::es) [] p2) pos1)) pos.line X.env=pure false:=by rfl) :
  PS X (.Assign [.Subscript (.Name y p1) (.Call (.Name x p) (e::es) [] p2) pos1] (.Constant (.bool true) j pb) pos) (bT X.K (pX sp wa)):=by
 obtain⟨f1,fd1,ps1,m1,F1,b1,kp1⟩:=C.ex;refine(yn hu hv (pI F1 hr hg m1 kp1 b1 .nil (E:=E0) zu ha hd he hpl) zv hs).imp fun D σ H ⟨δ,N,F,a,kvs,hF,rl,h2,h,ok⟩=>?_;refine⟨.ref a,h2,δ,_,F,rl,h,fun vs F1 H1 ss ex p q=>?_⟩;show kh X.K sp (vs++[]) H1 _ E0;rw[List.append_nil];obtain⟨a1,a2⟩:=kr ex.sub p;refine⟨ss.map eY,_,a1,a2,q,fun b H2 is sm hb hR=>?_⟩;obtain⟨is',e1,hl,hA,hB⟩:=hR;have ei:is=is':=by
  have:=T.tup.inj (S.t.inj e1);exact mz this
 subst ei;have exg:=fL (x:=none) ex.sub ex.full sm (fun _ z=>by cases z)
 have rl2:=(rl.ext ex).ext exg;have hF2:=exg.ff _ _ (ex.ff _ _ hF);have hH2:=rl2.sub _ _ hF2;have ek:(is.map (Sum.inl:Int->Key)).map kV=is.map V.int:=by rw[List.map_map];rfl
 have et:(is.map (Sum.inl:Int->Key)).map gY=is.map T.int:=by rw[List.map_map];rfl
 have hlen:kvs.length<1000:=by have:=hl;unfold bM at this;rw[List.length_map]at this;exact this
 refine⟨a,_,rfl,nB.t hH2 (k:=is.map Sum.inl) (by rw[ek];exact hb) (kc (Nat.le_of_lt hlen)),?_⟩
 refine ok.nx σ _ _ δ _ (fun c o n z=>?_) aB (rl2.updD (putK kvs (is.map Sum.inl) (.bl true)) hF2) h2 ?_
 ·rw[aw n];exact exg.ff _ _ (ex.ff _ _ z)
 ·rcases ut kvs (is.map Sum.inl) (.bl true) with ⟨m,e⟩|⟨m,e⟩
  ·rw[e];exact hA (by rw[<-et];exact m)
  ·rw[e,et];exact hB (by rw[<-et];exact m)
end
def AY (i j:Nat)(wb:jj)(ts:List T):jj:=fun N ks δ=>∃ I:List T->List T->az->Prop,I ts ks δ/\(∀ ks δ,I [] ks δ->N ks δ)/\∀ x r ks δ,I (x::r) ks δ->∃ a b,x=.tup [a,b]/\wb (I r) ks ((δ.set i (some (.t a))).set j (some (.t b)))
def i6 (we:WE)(i j:Nat)(wb:jj):jj:=fun N ks δ=>we δ fun s=>∃ ts,(s=.t (.lst ts)\/s=.ol ts)/\AY i j wb ts N ks δ
section
variable {X:Cx}{tg iter:Expr}{body:List Stmt}{we:WE}{wb:jj}{pos:Pos}{i j:Nat}
theorem kE (hp:PassesOwn (model X.prog X.w) X.A X.env X.xe)(i2:i≠2)(j2:j≠2)(hi:PE X iter (ah X.K we))(hg:PG X tg (DK X.K 2 (t8 (mx i) (t8 (mx j) DJ))))(hb:cy X body (bT X.K wb))(hc:X.calm=true:=by rfl)
  (hs:∀ x,foldedSetIterable iter X.env x=pure x:=by intro _;rfl):PS X (.For tg iter body [] pos) (bT X.K (i6 we i j wb)):=
 (oy hp hc (pJ hi) hg hb hs).imp fun D σ H ⟨δ,N,F,a,kvs,hF,rl,h2,h,ok⟩=>⟨δ,_,F,rl,h,fun v F1 H1 s ex p q=>by
  obtain⟨ts,hts,W,w0,wend,wstep⟩:=q;obtain⟨F2,b,xs,rfl,ff,rl2,hq,hr⟩:∃ F2 b xs,v=.ref b/\ao F F2/\Rel X.K F2 H1 σ δ/\ca X.K F2 b xs/\ae X.K F2 ts xs:=by
   rcases hts with rfl|rfl
   ·obtain⟨b,xs,e,hq,hr⟩:=p;exact⟨F1,b,xs,e,ex.ff,rl.ext ex,hq,hr⟩
   ·obtain⟨r2,ff,b,xs,e,hq,hr⟩:=rl.thaw ex p;exact⟨_,b,xs,e,ff,r2,hq,hr⟩
  refine⟨b,rfl,⟨xs,rl2.sub.seq hq⟩,fun n m σ H=>m=ts.length-n/\n<=ts.length/\∃ δ F3 kvs,bC a F F3/\F3 a=some (.dT kvs)/\Rel X.K F3 H σ δ/\σ[2]?=some (some (.ref a))/\ca X.K F3 b xs/\ae X.K F3 ts xs/\W (ts.drop n) (bM kvs) δ,⟨ts.length,by simp,Nat.zero_le _,δ,F2,kvs,.of ff,ff _ _ hF,rl2,h2,hq,hr,by simpa using w0⟩,?_⟩
  rintro n m σ H ⟨rfl,hn,δ,F3,kvs,sB,hF3,rl,h2,hq,hr,h⟩;have hqH:=rl.sub.seq hq;have hlx:=hr.length
  cases hd:ts.drop n with
  | nil=>
   rw[hd]at h;have:ts.length<=n:=by simpa using hd
   exact .inl ⟨⟨xs,hqH,by omega⟩,ok.nx σ F3 H δ kvs sB hF3 rl h2 (wend _ δ h)⟩
  | cons x r=>
   rw[hd]at h;obtain⟨g1,g2⟩:=fE hd;obtain⟨y,gy,ry⟩:=hr.get g1;have hlt:n<ts.length:=by
    have:=congrArg List.length hd;simp at this;omega
   refine .inr ⟨⟨xs,y,hqH,gy⟩,fun σ' H'=>∃ δ F4 kvs,bC a F F4/\F4 a=some (.dT kvs)/\Rel X.K F4 H' σ' δ/\σ'[2]?=some (some (.ref a))/\ca X.K F4 b xs/\ae X.K F4 ts xs/\W r (bM kvs) δ,fun σ' H' ⟨δ',F4,kvs',q1,q2,q3,q4,q5,q6,q7⟩=>⟨ts.length-(n+1),by omega,rfl,hlt,δ',F4,kvs',q1,q2,q3,q4,q5,q6,by rw[g2];exact q7⟩,fun v H2 yl=>?_⟩
   obtain⟨rfl,yv⟩:=yl;have ev:v=y:=by
    have:=yv xs hqH;rw[gy]at this;exact(Option.some.inj this).symm
   subst ev;obtain⟨t1,t2,rfl,hw⟩:=wstep x r _ δ h;obtain⟨c,ys,rfl,hsq,u1,ur1,rfl,p1,u2,ur2,rfl,p2,e3⟩:=ry
   cases (show ur2=[] from e3)
   refine⟨c,_,rfl,ao.sqT rl.sub c _ hsq,rfl,u1,_,rfl,u2,_,rfl,rfl,?_⟩;have rA:=(rl.put (i:=i) (s:=.t t1) p1 (fun _ z=>by cases z)).put (i:=j) (s:=.t t2) p2 (fun _ z=>by cases z)
   exact⟨_,_,F3,a,kvs,hF3,rA,by rw[List.getElem?_set_ne j2,List.getElem?_set_ne i2];exact h2,hw,⟨fun σ'' F'' H'' δ'' kvs'' q1 q2 q3 q4 q5=>⟨δ'',F'',kvs'',sB.trans q1,q2,q3,q4,q1.sqL hF3 hq,q1.treps hF3 hr,q5⟩⟩⟩⟩
end
end DL
set_option maxHeartbeats 1000000
namespace DL
open PySem L2
theorem nj {K:PySem.W.Frag}{F:Hp}{a:Addr}{kvs:List (List Key × V)}{o:HO}(hF:F a=some (.dT kvs))(b:Addr)(xs:List V)(h:dy K F b xs):dy K (a8 F a o) b xs:=
 bC.sqT (a:=a) (fun c p n q=>by rw[aw n];exact q) hF h
theorem ni {K:PySem.W.Frag}{F:Hp}{a:Addr}{kvs:List (List Key × V)}{o:HO}(hF:F a=some (.dT kvs))(b:Addr)(xs:List V)(h:ca K F b xs):ca K (a8 F a o) b xs:=
 bC.sqL (a:=a) (fun c p n q=>by rw[aw n];exact q) hF h
theorem mm {F:Hp}{a:Addr}{kvs:List (List Key × V)}{o:HO}(hF:F a=some (.dT kvs))(b c:Addr)(h:ExcAt F b c):ExcAt (a8 F a o) b c:=by
 unfold ExcAt at *;rw[aw (dh h hF (by simp))];exact h
theorem Rel.updO {K:PySem.W.Frag}{F H:Hp}{σ:St}{δ:az}{a:Addr}{kvs:List (List Key × V)}(o:HO)(r:Rel K F H σ δ)(hF:F a=some (.dT kvs)):Rel K (a8 F a o) (a8 H a o) σ δ:=by
 refine⟨fun b o q=>?_,fun b o q=>?_,r.len,fun i s h=>?_,r.dist⟩
 ·by_cases e:b=a
  ·subst e;rw[aB]at q ⊢;exact q
  ·rw[aw e]at q ⊢;exact r.sub _ _ q
 ·by_cases e:b=a
  ·subst e;rw[aB]at q ⊢;exact .inl q
  ·rw[aw e]at q ⊢;exact r.full _ _ q
 ·obtain⟨v,h1,h2⟩:=r.slot i s h;refine⟨v,h1,?_⟩
  cases s with
  | t x=>exact al.mono (nj hF) (ni hF) (mm hF) _ _ h2
  | vt x=>exact h2.elim
  | ol ts=>
   obtain⟨b,xs,rfl,n1,n2,n3⟩:=h2;have hb:b≠a:=fun e=>by rw[e,hF]at n1;cases n1
   exact⟨b,xs,rfl,by rw[aw hb];exact n1,by rw[aw hb];exact n2,ae.mono (nj hF) (ni hF) (mm hF) _ _ n3⟩
theorem iL {K:PySem.W.Frag}{F:Hp}:∀ k:List Key,ae K F (k.map gY) (k.map kV)
 | []=>rfl
 | .inl i::r=>⟨_,_,rfl,rfl,iL r⟩
 | .inr x::r=>⟨_,_,rfl,rfl,iL r⟩
theorem A6 {K:PySem.W.Frag}{F:Hp}{a:Addr}{ob:Obj}{kvs:List (List Key × V)}(hF:F a=some (.frz ob (.dT kvs))):rD K F (EK a ob kvs) (bM kvs):=by
 intro F1 H1 i f1 sb fu;have hH:=sb _ _ (f1 _ _ hF);refine⟨fun t ht=>?_,fun hl=>⟨hH,by unfold bM at hl;rw[List.length_map]at hl;exact hl⟩⟩
 unfold bM at ht;rw[List.getElem?_map]at ht
 cases e:kvs[i]? with
 | none=>rw[e]at ht;cases ht
 | some p=>
  rw[e]at ht
  cases ht
  refine⟨⟨hH,by rw[List.getElem?_eq_some_iff]at e;exact e.1⟩,fun x H2 y=>?_⟩
  obtain⟨rfl,b,k,v,e1,rfl,hb⟩:=y;rw[e]at e1
  cases e1
  refine⟨F1,bX.refl sb fu,?_⟩;have:F1 b=some (.tup (k.map kV)):=by
   rcases fu _ _ hb with q|⟨ys,q⟩
   ·exact q
   ·cases q
  unfold al;exact⟨b,_,rfl,dy.of this,iL k⟩
abbrev Cv:=List T->(S->Prop)->az->Prop
def lz (K:PySem.W.Frag)(H₀:Hp)(u:Cv):TS:=fun D σ H=>∃ δ R F a kvs,ao H₀ F/\H₀ a=none/\F a=some (.dT kvs)/\Rel K F H σ δ/\σ[2]?=some (some (.ref a))/\u (bM kvs) R δ/\∀ v H' s,ao H₀ H'->p9 K H₀ H' s v->R s->D.rt v H'
def wj (w:jj)(u:Cv):Cv:=fun ks R δ=>w (fun ks' δ'=>u ks' R δ') ks δ
def zG (u:Cv):WS:=fun D δ=>2<δ.length/\u [] D.rt (δ.set 2 none)
def lM (g:WG)(wb ur:WS):Cv:=fun ks R δ=>∃ M:az->Prop,t7 g wb ks {nx:=M,rt:=R} δ/\∀ δ',M δ'->ur {nx:=fun _=>False,rt:=R} δ'
section
variable {X:Cx}{st:Stmt}{rest body:List Stmt}{w:jj}{u:Cv}{wb ur:WS}{g:WG}{pos p1:Pos}{H₀:Hp}{tg:Expr}{y:Str}
theorem jL (h1:PS X st (bT X.K w))(h2:cy X rest (lz X.K H₀ u)):cy X (st::rest) (lz X.K H₀ (wj w u)):=
 (cK h1 h2).imp fun D σ H ⟨δ,R,F,a,kvs,s0,n0,hF,rl,h2,h,ok⟩=>⟨δ,_,F,a,kvs,hF,rl,h2,h,⟨fun σ' F' H' δ' kvs' s' hF' rl' h2' h'=>⟨δ',R,F',a,kvs',s'.same s0 n0,n0,hF',rl',h2',h',ok⟩⟩⟩
theorem xr {pos':Pos}(hN:X.N.Nodup)(h2:cy X rest (lz X.K H₀ u))(hi:X.N[2]?=some y:=by rfl)(hx:Loc X.env.scope y:=by first|exact Or.inl rfl|exact Or.inr rfl)(hs:swapsWith (.Dict [] [] p1) (some (.Name y pos')) pos.line X.env=pure false:=by rfl)(hf:X.fn y=true\/X.env.scope.names.lookup y=some .local:=by first|exact .inl rfl|exact .inr rfl|assumption) :
  cy X (.Assign [.Name y pos'] (.Dict [] [] p1) pos::rest) (aP X.K H₀ (zG u)):=
 (cK (oA (i:=2) hN hi hx vG hs hf) h2).imp fun D σ H ⟨δ,D',F,s0,rl,⟨hl,h⟩,ok⟩=>fun p hp=>by
  have nF:F p=none:=ax rl.sub hp;have sF:ao F (a8 F p (.dT [])):=fun b o q=>by rw[aw (bo q nF)];exact q
  have rl1:Rel X.K (a8 F p (.dT [])) (a8 H p (.dT [])) σ δ:=by
   refine rl.ext ⟨fun b o q=>by rw[aw (bo q hp)];exact q,sF,fun b o q=>?_,fun b o q=>?_,fun b h1 h2=>?_⟩
   ·by_cases e:b=p
    ·subst e;rw[aB]at q ⊢;exact q
    ·rw[aw e]at q ⊢;exact rl.sub _ _ q
   ·by_cases e:b=p
    ·subst e;rw[aB]at q ⊢;exact .inl q
    ·rw[aw e]at q ⊢;exact rl.full _ _ q
   ·have e:b≠p:=fun e=>by rw[e]at h1;exact h1 hp
    rw[aw e];exact h2
  exact⟨_,D'.rt,_,p,[],s0.trans sF,ax s0 nF,aB,rl1.lose (i:=2),by rw[List.getElem?_set_self (by rw[rl.len];exact hl)],h,ok.rt⟩
theorem qw (hp:PassesOwn (model X.prog X.w) X.A X.env X.xe)(hg:PG X tg (fP X.K g))(hb:cy X body (aP X.K H₀ wb))(hr:cy X rest (aP X.K H₀ ur))(hv:PE X (.Name y p1) (lJ 2):=by exact pv _)(hc:X.calm=true:=by rfl)
  (hs:∀ x,foldedSetIterable (.Name y p1) X.env x=pure x:=by intro _;rfl):cy X (.For tg (.Name y p1) body [] pos::rest) (lz X.K H₀ (lM g wb ur)):=
 (cK (oy hp hc (yj hv) hg hb hs) hr).imp fun D σ H ⟨δ,R,F,a,kvs,s0,n0,hF,rl,h2,⟨M,⟨W,w0,wend,wstep⟩,hM⟩,ok⟩=>⟨.ref a,h2,a,kvs,rfl,rl.sub _ _ hF,fun ob=>by
  have rl1:=rl.updO (.frz ob (.dT kvs)) hF;have it:=A6 (K:=X.K) (F:=a8 F a (.frz ob (.dT kvs))) (ob:=ob) (kvs:=kvs) aB;have s1:ao H₀ (a8 F a (.frz ob (.dT kvs))):=fun c o q=>by rw[aw (fun z=>by rw[z,n0]at q;cases q)];exact s0 _ _ q
  generalize a8 F a (.frz ob (.dT kvs))=F1 at *;generalize a8 H a (.frz ob (.dT kvs))=H1 at *;generalize bM kvs=ts at *;generalize EK a ob kvs=J at *;have fin:∀ σ' F' H' δ',ao F1 F'->Rel X.K F' H' σ' δ'->M δ'->aP X.K H₀ ur D σ' H':=fun σ' F' H' δ' ff rl' h'=>⟨δ',_,F',s1.trans ff,rl',hM δ' h',⟨fun _ _ _ _ _ _ z=>z.elim,ok,fun _ _ _ _ _ _ z=>z.elim,fun _ _ _ _ _ _ z=>z.elim⟩⟩;refine⟨fun i m σ H=>m=ts.length-i/\i<=ts.length/\∃ δ F2,ao F1 F2/\Rel X.K F2 H σ δ/\W (ts.drop i) δ,⟨ts.length,by simp,Nat.zero_le _,δ,F1,ao.refl _,rl1,by simpa using w0⟩,?_⟩
  rintro i m σ H ⟨rfl,hi,δ,F2,f2,rl,h⟩;obtain⟨hgo,hstop⟩:=it F2 H i f2 rl.sub rl.full
  cases hd:ts.drop i with
  | nil=>
   rw[hd]at h;have:ts.length<=i:=by simpa using hd
   exact .inl ⟨hstop this,fin σ F2 H δ f2 rl (wend δ h)⟩
  | cons x r=>
   rw[hd]at h;obtain⟨h1,h2⟩:=fE hd;obtain⟨go,yld⟩:=hgo x h1;have hlt:i<ts.length:=by
    have:=congrArg List.length hd;simp at this;omega
   refine .inr ⟨go,fun σ' H'=>∃ δ F2,ao F1 F2/\Rel X.K F2 H' σ' δ/\W r δ,fun σ' H' ⟨δ',F',ff,rl',h'⟩=>⟨ts.length-(i+1),by omega,rfl,hlt,δ',F',ff,rl',by rw[h2];exact h'⟩,fun v H2 y=>?_⟩
   obtain⟨F3,e3,p3⟩:=yld v H2 y;refine⟨x,δ,_,F3,p3,rl.ext e3,wstep x r δ h,fun σ' δ' rl' h'=>?_⟩;exact⟨δ',_,F3,(s1.trans f2).trans e3.ff,rl',h',⟨fun σ'' F'' H'' δ'' ff rl'' h''=>⟨δ'',F'',(f2.trans e3.ff).trans ff,rl'',h''⟩,ok,fun σ'' F'' H'' δ'' ff rl'' h''=>fin σ'' F'' H'' δ'' ((f2.trans e3.ff).trans ff) rl'' h'',fun σ'' F'' H'' δ'' ff rl'' h''=>⟨δ'',F'',(f2.trans e3.ff).trans ff,rl'',h''⟩⟩⟩⟩
end
end DL
set_option maxHeartbeats 3200000
namespace ST
open PySem PySem.W PyProof.Rows
section
variable {prog:Program}{w:World}{A:Around}{E:Value->Shared->Prop}{s:Shared}{l:Addr}
theorem call_sorted_list {Q:Value->Shared->Prop}{ms:List (Addr × List Int)}{d:Nat}(hl:s.heap.IsList l (ms.map fun m=>Value.ref m.1).toArray)(hk:∀ m∈ms,IsTupleKey (ik prog w) s.heap m.2 m.1)(nd:(ms.map (·.2)).Nodup)(h64:ms.length<=76)(hd0:0<d)(hd:∀ m∈ms,m.2.length=d)
  (h:∀ h' D e (ns:List (Addr × List Int)),List.Perm ns ms->ns.Pairwise (fun a b=>lexB a.2 b.2=true)->(∀ b o,s.heap.get? b=some o->h'.get? b=some o)->s.heap.objs.size<=D →
   h'.get? D=some (seqObj "list" (ns.map fun m=>Value.ref m.1).toArray e)->Q (.ref D) {s with heap:=h'}) :
  wpAny (model prog w) A (call (.builtin "sorted") [.ref l]) Q E s:=by
 refine Calls.call_function_entry kind_sorted plain_sorted entry_sorted (args_sorted1 _) ?_;unfold Builtin.«sorted»;refine wpAny_bind (m:=checkCount "sorted" 1 1 _) (wpAny_pure ?_);refine wpAny_bind (collect_list hl ?_ (by rw[List.length_map,sizeLine_eq];omega))
 have k1:∀ b o,s.heap.get? b=some o->((s.heap.push (seqObj "list" #[] 0)).update s.heap.objs.size (Obj.mapSeq (·++(ms.map fun m=>Value.ref m.1).toArray))).get? b=some o:=fun b o e=>by
  have hb:b≠s.heap.objs.size:=Nat.ne_of_lt (Heap.lt_size e);exact((Heap.SameBut.update ..).2 b hb).trans (Heap.get?_push_of_some _ e)
 have le1:s.heap.objs.size<=((s.heap.push (seqObj "list" #[] 0)).update s.heap.objs.size (Obj.mapSeq (·++(ms.map fun m=>Value.ref m.1).toArray))).objs.size:=by
  rw[Heap.size_update];simp[Heap.push]
 generalize (s.heap.push (seqObj "list" #[] 0)).update s.heap.objs.size (Obj.mapSeq (·++(ms.map fun m=>Value.ref m.1).toArray))=h1 at *;refine wpAny_bind (wpAny_newList ?_ (by rw[List.length_map,sizeLine_eq];omega))
 dsimp only;have hoL:(h1.push (seqObj "list" (ms.map fun m=>Value.ref m.1).toArray 0)).get? h1.objs.size=some (seqObj "list" (ms.map fun m=>Value.ref m.1).toArray 0):=Heap.get?_push_size _ rfl;refine wpAny_bind (wpAny_holding (wpAny_call_entry slot_list_sort ⟨_,hoL,rfl⟩ entry_list_sort ?_ (args_list_sort _)));refine nh (s:={s with heap:=h1.push (seqObj "list" (ms.map fun m=>Value.ref m.1).toArray 0)}) (km:=fun i=>ms.getD i (0,[])) hoL ⟨by rw[List.length_map];omega,fun i j hi hj e=>?_⟩ hd0 (fun i hi=>?_) fun h' p e hk' hg hp hs=>?_
 ·have hi':i<ms.length:=by simpa using hi
  have hj':j<ms.length:=by simpa using hj
  have e':(ms.map (·.2))[i]'(by simpa using hi')=(ms.map (·.2))[j]'(by simpa using hj'):=by
   simpa [hi',hj'] using e
  exact(List.getElem_inj nd).mp e'
 ·have hi':i<ms.length:=by simpa using hi
  have hm:ms.getD i (0,[])=ms[i]:=by simp[hi']
  dsimp only;rw[hm];refine⟨by simp[hi'],?_,hd _ (List.getElem_mem hi')⟩
  obtain⟨o',its,m',ho',x⟩:=hk _ (List.getElem_mem hi');exact⟨o',its,m',Heap.get?_push_of_some _ (k1 _ _ ho'),x⟩
 ·refine⟨_,rfl,wpAny_pure ⟨_,rfl,?_⟩⟩;rw[List.length_map]at hp hs;have hns:(p.toList.map fun i=>(ms.map fun m=>Value.ref m.1).getD i Value.none)=(p.toList.map fun i=>ms.getD i (0,[])).map fun m=>Value.ref m.1:=by
   rw[List.map_map];refine List.map_congr_left fun i hi=>?_;have hi':i<ms.length:=by simpa using hp.mem_iff.mp hi
   simp[hi']
  have hpn:List.Perm (p.toList.map fun i=>ms.getD i (0,[])) ms:=by
   have:=hp.map fun i=>ms.getD i ((0:Addr),([]:List Int))
   rwa [gN]at this
  rw[hns]at hg;refine h h' _ e _ hpn ?_ (fun b o e=>hk' b o (fun hb=>?_) (Heap.get?_push_of_some _ (k1 b o e))) ?_ hg
  ·have hnd:((p.toList.map fun i=>ms.getD i ((0:Addr),([]:List Int))).map (·.2)).Nodup:=(hpn.map (·.2)).nodup_iff.mpr nd;rw[List.pairwise_iff_getElem];intro i j hi hj hij;rw[List.length_map]at hi hj;have hpl:p.toList.length=ms.length:=by rw[hp.length_eq,List.length_range]
   have h1:=hs i j (Nat.le_of_lt hij) (by omega)
   have ei:p.getD i 0=p.toList[i]:=by simp at hi;simp[Array.getD,hi]
   have ej:p.getD j 0=p.toList[j]:=by simp at hj;simp[Array.getD,hj]
   have hne:=List.pairwise_iff_getElem.mp hnd i j (by simpa using hi) (by simpa using hj) hij
   simp only[List.getElem_map]at hne ⊢;rw[ei,ej]at h1
   cases hb:lexB (ms.getD p.toList[i] (0,[])).2 (ms.getD p.toList[j] (0,[])).2 with
   | true=>rfl
   | false=>exact absurd (eF _ _ hb h1) hne
  ·exact Nat.ne_of_lt (Heap.lt_size (k1 b o e)) hb
  ·exact le1
end
end ST
namespace DL
open PySem PySem.Spec L2 PyProof.Rows
def B9 (K:PySem.W.Frag)(te:TE):TE:=fun σ H Q=>te σ H fun x H1=>∃ p d,∃ km:List (Addr × List Int),x=.ref p/\ca K H1 p (refs km)/\km.length<=76/\0<d ∧
 (∀ m∈km,dy K H1 m.1 (m.2.map V.int)/\m.2.length=d)/\(km.map (·.2)).Nodup ∧
 ∀ ns:List (Addr × List Int),List.Perm ns km->ns.Pairwise (fun a b=>ST.lexB a.2 b.2=true)->∀ l,H1 l=none->Q (.ref l) (a8 H1 l (.lst (refs ns)))
section
variable {X:Cx}{e:Expr}{te:TE}{p1 pos1:Pos}
theorem vH (hm1:X.mg "sorted"=none) (he:PE X e te) (hg1:Gl X "sorted":=by rfl) (nA:starEach [e] X.env=(false,eval e X.env)::starEach [] X.env:=by exact dF rfl) :
  PE X (.Call (.Name "sorted" p1) [e] [] pos1) (B9 X.K te):=by
 intro pins s σ H Q I h;refine wpAny_Call_Name_kw (fk I hg1 hm1 PyProof.Rows.boot_sorted ?_);refine PyProof.Rows.callWith_builtin1 ?_ nA;rw[nA];show wpAny _ _ (spliced ((false,eval e X.env)::backTo pos1 (starEach [] X.env))) _ _ s;refine Calls.spliced_cons (bB (he pins s σ H _ I h) fun u s1 ⟨x,H1,I1,r1,q1⟩=>?_);obtain⟨p,d,km,rfl,hq,hlen,hd0,hkm,nd,fin⟩:=q1
 cases r1
 refine Calls.spliced_nil ?_;obtain⟨its,r,pl,hz⟩:=I1.list hq;have eits:=gD r;subst eits;refine ST.call_sorted_list (ms:=km) pl.isList (fun m hm=>pU I1 (hkm m hm).1) nd hlen hd0 (fun m hm=>(hkm m hm).2) fun h3 D c3 ns hpm hpw keep le hD=>?_;have hnl:ns.length<=76:=by rw[hpm.length_eq];exact hlen
 refine⟨.ref D,_,I1.laid (t':=s1.toks) keep le (show bh X.prog X.w _ h3 _ (.lst (refs ns)) from⟨?_,_,c3,lu ns,hD⟩),rfl,fin ns hpm hpw _ (I1.hok.fresh le)⟩;unfold refs;rw[List.length_map];exact Nat.le_trans hnl (by decide)
end
def FM (R:S->Prop)(s:S):Prop:=match items s with
 | some ts=>∃ (d:Nat) (kss:List (List Int)),0<d/\ts=kss.map eU/\(∀ ks∈kss,ks.length=d)/\kss.length<=76/\kss.Nodup ∧
   ∀ ns:List (List Int),List.Perm ns kss->ns.Pairwise (fun a b=>ST.lexB a b=true)->R (.ol (ns.map eU))
 | none=>False
def oM (we:WE):WE:=fun δ R=>we δ (FM R)
section
variable {X:Cx}{e:Expr}{p1 pos1:Pos}
theorem sn {we:WE} (hm1:X.mg "sorted"=none) (he:PE X e (ah X.K we)) (hg1:Gl X "sorted":=by rfl) (nA:starEach [e] X.env=(false,eval e X.env)::starEach [] X.env:=by exact dF rfl) :
  PE X (.Call (.Name "sorted" p1) [e] [] pos1) (ah X.K (oM we)):=
 (vH hm1 he hg1 nA).imp fun σ H Q ⟨δ,R,F,rl,h,k⟩=>⟨δ,_,F,rl,h,fun v F1 H1 s ex p q=>by
  unfold FM at q
  split at q
  ·rename_i ts hi;obtain⟨a,xs,rfl,sq,tp⟩:=(p.val ex.sub).list ex.sub hi;obtain⟨d,kss,hd0,rfl,hlen,h63,nd,fin⟩:=q;obtain⟨km,e1,e2,h1⟩:=iZ tp;subst e2;have hkm:∀ m∈km,m.2∈kss:=fun m hm=>by rw[<-e1];exact List.mem_map.mpr ⟨m,hm,rfl⟩
   refine⟨a,d,km,rfl,sq,by rw[<-e1,List.length_map]at h63;exact h63,hd0,fun m hm=>⟨(h1 m hm).1,hlen _ (hkm m hm)⟩,by rw[e1];exact nd,fun ns n1 n3 l hl=>?_⟩
   have e2:=bX.newL (refs ns) ex.sub ex.full hl;have hp:ae X.K F1 ((ns.map (·.2)).map eU) (refs ns):=ae.full ex.full (gC _) (iM ns fun m hm=>(h1 m (n1.mem_iff.mp hm)).2);exact k _ F1 _ (.ol ((ns.map (·.2)).map eU)) (ex.trans e2) ⟨l,refs ns,rfl,ax ex.hh hl,ax ex.sub hl,aB,hp⟩
    (fin _ (by rw[<-e1];exact n1.map _) (List.pairwise_map.mpr n3))
  ·exact q.elim⟩
end
theorem w6 (we:WE)(δ:az)(R:S->Prop):oM we δ R=we δ (FM R):=rfl
end DL
namespace Law
open L2 DL
set_option maxHeartbeats 4000000
theorem ud {a b c:Int}(h:a≠0\/b≠0):bn (a.fdiv (bn a b c)) (b.fdiv (bn a b c)) (c.fdiv (bn a b c))=1:=by
 have hg:=kJ (c:=c) h;have ga:=fH (ub a b c);have gb:=fH (uc a b c);have gc:=fH (AZ a b c);generalize hx:a.fdiv (bn a b c:Int)=x at ga ⊢;generalize hy:b.fdiv (bn a b c:Int)=y at gb ⊢;generalize hz:c.fdiv (bn a b c:Int)=z at gc ⊢;have e:bn a b c=bn a b c*bn x y z:=by
  have e1:bn (x*(bn a b c:Int)) (y*(bn a b c:Int)) (z*(bn a b c:Int))=bn x y z*bn a b c:=by
   show Int.gcd (Int.gcd (x*(bn a b c:Int)) (y*(bn a b c:Int)):Int) (z*(bn a b c:Int))=_;rw[Int.gcd_mul_right,Int.natAbs_natCast,Int.natCast_mul,Int.gcd_mul_right,Int.natAbs_natCast]
   rfl
  rw[ga,gb,gc]at e1;rw[Nat.mul_comm];exact e1
 have g0:0<bn a b c:=by omega
 exact(Nat.eq_of_mul_eq_mul_left g0 (by rw[Nat.mul_one];exact e.symm))
theorem rY {ps:List Pt}{h:Hf}(hb:dI ps h):bn h.1 h.2.1 h.2.2=1:=by
 rcases hb with ⟨p,hp,hh⟩|⟨p,hp,q,hq,hne,rfl⟩
 ·simp only[nn,List.mem_cons,List.not_mem_nil,or_false]at hh
  rcases hh with rfl|rfl|rfl|rfl <;> (unfold bn;simp)
 ·unfold rB xE;refine ud ?_
  rcases Decidable.em (p.2=q.2) with e|e
  ·exact .inr fun z=>hne (Prod.ext (by omega) e)
  ·exact .inl (by omega)
def bV:aR:=fun ss R=>∃ h:Hf,ss=[.t (aX h)]/\(h.1≠0\/h.2.1≠0)/\bn h.1 h.2.1 h.2.2=1/\R (.t (.bl true))
def cg:aR:=fun ss R=>∃ a b c:Int,ss=[.t (.int a),.t (.int b),.t (.int c)]/\(a≠0\/b≠0)/\wq 9000 (a,b,c)/\R (.t (.tup ((gL (xE a b c)).map .int)))
def dZ:aR:=fun ss R=>∃ (ps:List Pt) (m:Int),ss=[.t (.lst (ps.map aY)),.t (.int m)]/\ps.length<=7/\(∀ p∈ps,SzF 100 p)/\∀ gs:List Hf,(∀ h,h∈gs↔dI ps h/\m<=jX h ps)->gs.Pairwise (fun a b=>ST.lexB (gL a) (gL b)=true)->R (.ol (gs.map aX))
def f7:WS:=
 (bp (bu 3 (bE aU (ag (bE aU (ag (af 0) (ag (af 1) aE))) (ag (af 2) aE))))
 (wg (fc (af 0) (af 3)) (fc (af 1) (af 3)) (fc (af 2) (af 3))))
def c7:WS:=
 (bp (nt (CA (yU (nu (wB (wx .tup (af 0)))) (wB (Cz (gQ dW (ag (af 0) aE)) (wC (.int 3)))))) (dM (wC (.bl false))) cx)
 (bp (nt (wB (Gz (gQ dW (ag (fY 1 [] (wk (af 0)) (aW 0) (wB (bE ci (ag (af 0) aE))) (af 0)) aE)) (wC (.int 3)))) (dM (wC (.bl false))) cx)
 (bp (nt (CA (nq (wB (rj (bf eD (af 0) (wC (.int 0))) (wC (.int 0)))) (wB (rj (bf eD (af 0) (wC (.int 1))) (wC (.int 0)))))) (dM (wC (.bl false))) cx)
 (dM (rj (bE aU (ag (bE aU (ag (bf eD (af 0) (wC (.int 0))) (ag (bf eD (af 0) (wC (.int 1))) aE))) (ag (bf eD (af 0) (wC (.int 2))) aE))) (wC (.int 1)))))))
theorem og:∀ ss R,cg ss R->ss.length=3:=by rintro ss R ⟨_,_,_,rfl,_⟩;rfl
theorem qH:∀ ss R,dZ ss R->ss.length=2:=by rintro ss R ⟨_,_,rfl,_⟩;rfl
theorem jz:∀ ss R,bV ss R->ss.length=1:=by rintro ss R ⟨a,rfl,_⟩;rfl
theorem lC:∀ ss R,bV ss R->c7 {nx:=fun _=>R (.t .non),rt:=R} (aO ["_law_found"] ss):=by
 rintro ss R ⟨⟨x,y,z⟩,rfl,hne,h1,h⟩;show c7 _ [some (.t (.tup [.int x,.int y,.int z]))]
 delta c7
 walk_at "dl";refine⟨fun k=>k=false,?_,?_⟩
 ·walk_at "dl";simp
 rintro k rfl;walk_at "dl";refine si ?_;walk_at "dl";refine gG x _ ?_;walk_at "dl"
 try refine⟨by simp,?_⟩
 refine gG y _ ?_;walk_at "dl"
 try refine⟨by simp,?_⟩
 refine gG z _ ?_;walk_at "dl"
 try refine⟨by simp,?_⟩
 rw[if_neg (by decide)]
 refine⟨fun k=>k=false,?_,?_⟩
 ·walk_at "dl";have hne:x≠0\/y≠0:=hne
  split
  ·rename_i e;omega
  ·trivial
 rintro k rfl;walk_at "dl";refine⟨_,_,rfl,?_⟩;walk_at "dl";refine⟨_,_,rfl,?_⟩;walk_at "dl";rw[show(Int.gcd (Int.gcd x y:Int) z)=1 from h1];exact h
theorem Ak (w0 w1 w2:WE)(D:dP)(δ:az):wg w0 w1 w2 D δ=w0 δ fun s0=>w1 δ fun s1=>w2 δ fun s2=>∃ i j k:Int,s0=.t (.int i)/\s1=.t (.int j)/\s2=.t (.int k)/\D.rt (.t (.tup [.int i,.int j,.int k])):=rfl
theorem qN:∀ ss R,cg ss R->f7 {nx:=fun _=>False,rt:=R} (aO ["_law_a","_law_b","_law_c","_law_most"] ss):=by
 rintro ss R ⟨a,b,c,rfl,hn,⟨z1,z2,z3⟩,h⟩;show f7 _ [some (.t (.int a)),some (.t (.int b)),some (.t (.int c)),none]
 delta f7
 walk_at "dl";refine⟨_,_,rfl,?_⟩;walk_at "dl";refine⟨_,_,rfl,?_⟩;walk_at "dl";rw[Ak];walk_at "dl";have g:((Int.gcd (Int.gcd a b:Int) c:Nat):Int)≠0:=kJ hn;exact⟨nZ g z1 (by decide),nZ g z2 (by decide),nZ g z3 (by decide),_,_,_,rfl,rfl,rfl,h⟩
end Law
namespace Law
open L2 DL
set_option maxHeartbeats 4000000
def gJ (i j:Nat)(wb:jj)(N:List T->az->Prop):List T->List T->az->Prop
 | [],ks,δ=>N ks δ
 | x::r,ks,δ=>∃ a b,x=.tup [a,b]/\wb (gJ i j wb N r) ks ((δ.set i (some (.t a))).set j (some (.t b)))
theorem xy {i j:Nat}{wb:jj}{N:List T->az->Prop}{ts ks:List T}{δ:az}(h:gJ i j wb N ts ks δ):AY i j wb ts N ks δ:=⟨gJ i j wb N,h,fun _ _ z=>z,fun _ _ _ _ z=>z⟩
theorem xD {a b:Hf}(h:aX a=aX b):a=b:=by
 obtain⟨a1,a2,a3⟩:=a;obtain⟨b1,b2,b3⟩:=b
 cases h
 rfl
theorem pF {kk:List Hf}{h:Hf}:aX h∈kk.map aX↔h∈kk:=by
 rw[List.mem_map];exact⟨fun ⟨g,hg,e⟩=>xD e ▸ hg,fun hg=>⟨h,hg,rfl⟩⟩
theorem BO {kk:List Hf}{h:Hf}{N:List T->az->Prop}{δ:az}(nd:kk.Nodup)(hl:kk.length<1000)(hN:∀ kk':List Hf,kk'.Nodup->(∀ g,g∈kk'↔g∈kk\/g=h)->kk'.length<=kk.length+1->N (kk'.map aX) δ) :
  ∃ is:List Int,S.t (.tup ((gL h).map .int))=.t (.tup (is.map .int))/\(kk.map aX).length<1000/\((.tup (is.map .int))∈kk.map aX->N (kk.map aX) δ)/\((.tup (is.map .int))∉kk.map aX->N (kk.map aX++[.tup (is.map .int)]) δ):=by
 refine⟨gL h,rfl,by rw[List.length_map];exact hl,fun m=>?_,fun m=>?_⟩
 ·have hm:=pF.mp (show aX h∈kk.map aX from m);exact hN kk nd (fun g=>⟨.inl,fun z=>z.elim id fun e=>e ▸ hm⟩) (by omega)
 ·have hm:h∉kk:=fun z=>m (show aX h∈kk.map aX from pF.mpr z);have:=hN (kk++[h]) (List.nodup_append.mpr ⟨nd,List.nodup_cons.mpr ⟨by simp,List.nodup_nil⟩,fun a ha b hb e=>by rw[List.mem_singleton]at hb;subst hb;subst e;exact hm ha⟩) (fun g=>by rw[List.mem_append,List.mem_singleton]) (by simp)
  rw[List.map_append]at this;exact this
theorem xF {a b c:Int}(h:bn a b c=1):xE a b c=(a,b,c):=by
 unfold xE;rw[h];simp
theorem nH (we:WE)(i j:Nat)(wb:jj)(N:List T->az->Prop)(ks:List T)(δ:az):i6 we i j wb N ks δ=we δ fun s=>∃ ts,(s=.t (.lst ts)\/s=.ol ts)/\AY i j wb ts N ks δ:=rfl
theorem ir (sp:aR)(wa:WA)(N:List T->az->Prop)(ks:List T)(δ:az):pX sp wa N ks δ=wa δ fun ss=>sp (ss.map eY) fun s=>∃ is:List Int,s=.t (.tup (is.map .int))/\ks.length<1000/\((.tup (is.map .int))∈ks->N ks δ)/\((.tup (is.map .int))∉ks->N (ks++[.tup (is.map .int)]) δ):=rfl
end Law
namespace Law
open L2 DL
set_option maxHeartbeats 4000000
def ij:WS:=
 (zG (wj (i6 (af 0) 3 4 (nv (i6 (oG (ag (fx (ag (wC (.int 1)) (ag (wC (.int 0)) aE))) (ag (fx (ag (zH kI (wC (.int 1))) (ag (wC (.int 0)) aE))) (ag (fx (ag (wC (.int 0)) (ag (wC (.int 1)) aE))) (ag (fx (ag (wC (.int 0)) (ag (zH kI (wC (.int 1))) aE))) aE))))) 5 6 (pX cg (ag (af 5) (ag (af 6) (ag (fw (eu (af 5) (af 3)) (eu (af 6) (af 4))) aE)))))
 (i6 (af 0) 7 8 (Cm (wB (Cz (fx (ag (af 7) (ag (af 8) aE))) (fx (ag (af 3) (ag (af 4) aE))))) (nv (i8 5 (fZ (af 4) (af 8)))
 (nv (i8 6 (fZ (af 7) (af 3)))
 (pX cg (ag (af 5) (ag (af 6) (ag (fw (eu (af 5) (af 3)) (eu (af 6) (af 4))) aE)))))) oJ))))
 (wj (i8 9 (oG aE))
 (lM (je (cj (aW 5) (cj (aW 6) (cj (aW 10) gh)))) (nt (wB (EE (gQ dW (ag (fY 2 [5,6,10] (eA (af 0)) (je (cj (aW 0) (cj (aW 1) gh))) (wB (EE (fw (eu (af 2) (af 0)) (eu (af 3) (af 1))) (af 4))) (af 0)) aE)) (af 1))) (eK 9 (fx (ag (af 5) (ag (af 6) (ag (af 10) aE))))) cx)
 (dM (oM (af 9)))))))
theorem mK {α β:Type}{f:α->List β}{c:Nat}:∀ {l:List α},(∀ x∈l,(f x).length<=c)->(l.flatMap f).length<=l.length*c
 | [],_=>by simp
 | x::l,h=>by
  have h1:=h x List.mem_cons_self;have h2:=mK (l:=l) fun y hy=>h y (List.mem_cons_of_mem _ hy);rw[List.flatMap_cons,List.length_append,List.length_cons,Nat.succ_mul];omega
theorem cD {ps:List Pt}{kk:List Hf}(hl:ps.length<=7)(nd:kk.Nodup)(hb:∀ g∈kk,dI ps g):kk.length<=70:=by
 have h1:kk.length<=(ps.flatMap fun p=>nn p++(ps.filter fun q=>decide (q≠p)).map (rB p)).length:=by
  refine List.Nodup.length_le_of_subset nd fun g hg=>?_;rw[List.mem_flatMap]
  rcases hb g hg with ⟨p,hp,hh⟩|⟨p,hp,q,hq,hne,rfl⟩
  ·exact⟨p,hp,List.mem_append_left _ hh⟩
  ·exact⟨p,hp,List.mem_append_right _ (List.mem_map.mpr ⟨q,List.mem_filter.mpr ⟨hq,by simpa using fun e=>hne e.symm⟩,rfl⟩)⟩
 have h2:=mK (l:=ps) (f:=fun p=>nn p++(ps.filter fun q=>decide (q≠p)).map (rB p)) (c:=10) fun p hp=>by
  have:=sf hp;rw[List.length_append,List.length_map,<-List.countP_eq_length_filter];show 4+_<=10;omega
 omega
theorem vP {a b c:Int}{h:Hf}{kk:List Hf}{N:List T->az->Prop}{δ:az}(e:xE a b c=h)(hn:a≠0\/b≠0)(z1:Sz 9000 a)(z2:Sz 9000 b)(z3:Sz 9000 c)(nd:kk.Nodup)(hl:kk.length<=70)
  (hN:∀ kk':List Hf,kk'.Nodup->(∀ g,g∈kk'↔g∈kk\/g=h)->N (kk'.map aX) δ) :
  cg [.t (.int a),.t (.int b),.t (.int c)] fun s=>∃ is:List Int,s=.t (.tup (is.map .int))/\(kk.map aX).length<1000/\((.tup (is.map .int))∈kk.map aX->N (kk.map aX) δ)/\((.tup (is.map .int))∉kk.map aX->N (kk.map aX++[.tup (is.map .int)]) δ):=
 ⟨a,b,c,rfl,hn,⟨z1,z2,z3⟩,by rw[e];exact BO nd (by omega) fun kk' h1 h2 _=>hN kk' h1 h2⟩
theorem EW {a b c c':Int}(h:bn a b c'=1)(e:c=c'):xE a b c=(a,b,c'):=by rw[e];exact xF h
theorem CQ (t:WT)(w u:jj)(N:List T->az->Prop)(ks:List T)(δ:az):Cm t w u N ks δ=t δ fun b=>if b=true then w N ks δ else u N ks δ:=rfl
theorem rM (w u:jj)(N:List T->az->Prop)(ks:List T)(δ:az):nv w u N ks δ=w (u N) ks δ:=rfl
theorem rN (i:Nat)(we:WE)(N:List T->az->Prop)(ks:List T)(δ:az):i8 i we N ks δ=we δ fun s=>N ks (setS i s δ):=rfl
theorem wX (N:List T->az->Prop)(ks:List T)(δ:az):oJ N ks δ=N ks δ:=rfl
theorem yQ {m:Int}{ps:List Pt}{pre:List Hf}{g:Hf}(h:m<=(jX g ps:Int)):ie m ps (pre++[g])=ie m ps pre++[g]:=by unfold ie;rw[List.filter_append];simp[h]
theorem B5 {m:Int}{ps:List Pt}{pre:List Hf}{g:Hf}(h:¬ m<=(jX g ps:Int)):ie m ps (pre++[g])=ie m ps pre:=by unfold ie;rw[List.filter_append];simp[h]
theorem vC:∀ ss R,dZ ss R->ij {nx:=fun _=>R (.t .non),rt:=R} (aO ["_law_points_here","_law_many","_law_due_here","_law_x","_law_y","_law_a","_law_b","_law_p","_law_q","_law_found","_law_c"] ss):=by
 rintro ss R ⟨ps,m,rfl,hl,hz,h⟩;show ij _ [some (.t (.lst (ps.map aY))),some (.t (.int m)),none,none,none,none,none,none,none,none,none]
 delta ij
 refine⟨by show 2<11;decide,?_⟩
 let St:List T->List Hf->az->Prop:=fun ks kk δ=>∃ r3 r4 r5 r6 r7 r8:Option S,ks=kk.map aX/\kk.Nodup/\(∀ g∈kk,dI ps g)/\δ=[some (.t (.lst (ps.map aY))),some (.t (.int m)),none,r3,r4,r5,r6,r7,r8,none,none]
 let M:List Pt->List Hf->Prop:=fun pre kk=>∀ p∈pre,(∀ g∈nn p,g∈kk)/\∀ q∈ps,p≠q->rB p q∈kk
 show i6 _ _ _ _ _ _ _;rw[nH];walk_at "dl";refine⟨ps.map aY,.inl rfl,fun ts ks δ=>∃ (pre post:List Pt) (kk:List Hf),ps=pre++post/\ts=post.map aY/\St ks kk δ/\M pre kk,⟨[],ps,[],rfl,rfl,⟨_,_,_,_,_,_,rfl,List.nodup_nil,fun g hg=>(by cases hg),rfl⟩,fun p hp=>(by cases hp)⟩,?_,?_⟩
 ·rintro ks δ ⟨pre,post,kk,e1,e2,⟨r3,r4,r5,r6,r7,r8,rfl,nd,hb,rfl⟩,hm2⟩;have:post=[]:=by simpa using e2.symm
  subst this;rw[List.append_nil]at e1;subst e1;show i8 _ _ _ _ _;unfold i8;walk_at "dl";show lM _ _ _ _ _ _;unfold lM;refine⟨fun δ=>∃ r3 r4 r5 r6 r7 r8 r10:Option S,δ=[some (.t (.lst (ps.map aY))),some (.t (.int m)),none,r3,r4,r5,r6,r7,r8,some (.ol ((ie m ps kk).map aX)),r10],?_,?_⟩
  ·refine⟨fun ts δ=>∃ (pre post:List Hf) (r3 r4 r5 r6 r7 r8 r10:Option S),kk=pre++post/\ts=post.map aX/\δ=[some (.t (.lst (ps.map aY))),some (.t (.int m)),none,r3,r4,r5,r6,r7,r8,some (.ol ((ie m ps pre).map aX)),r10],⟨[],kk,_,_,_,_,_,_,_,rfl,rfl,rfl⟩,?_,?_⟩
   ·rintro δ ⟨pre,post,r3,r4,r5,r6,r7,r8,r10,e3,e4,rfl⟩;have:post=[]:=by simpa using e4.symm
    subst this;rw[List.append_nil]at e3;subst e3;exact⟨_,_,_,_,_,_,_,rfl⟩
   ·rintro z r δ ⟨pre,post,r3,r4,r5,r6,r7,r8,r10,e3,e4,rfl⟩
    cases post with
    | nil=>cases e4
    | cons g post=>
     rw[List.map_cons]at e4
     cases e4
     have hgm:g∈kk:=by rw[e3];simp
     have ok:=o6 hz (hb g hgm);have hpl:(ie m ps pre).length<=70:=by
      have h1:=cD hl nd hb;have h2:(ie m ps pre).length<=pre.length:=List.length_filter_le _ _;rw[e3,List.length_append]at h1;omega
     obtain⟨a,b,c⟩:=g;obtain⟨sa,sb,sc⟩:=ok;dsimp only at sa sb sc;walk_at "dl";refine cU (f:=aY) (h:=fun p=>.int p.1) (p:=oa (a,b,c)) (l:=ps) (fun δ=>∃ r0 r1,δ=[r0,r1,some (.t (.int a)),some (.t (.int b)),some (.t (.int c))]) (fun _ _=>rfl) (by omega) ⟨_,_,rfl⟩ ?_ ?_
     ·rintro⟨x,y⟩ hm δ ⟨r0,r1,rfl⟩ Y M hY hN;obtain⟨sx,sy⟩:=hz _ hm;walk_at "dl";refine⟨mW sa sx (by decide) (by decide),mW sb sy (by decide) (by decide),?_⟩
      split
      ·rename_i c;exact hY _ ⟨_,_,rfl⟩ (by unfold oa;simp;omega)
      ·rename_i c;exact hN _ ⟨_,_,rfl⟩ (by unfold oa;simp;omega)
     ·walk_at "dl";rw[List.length_map,<-List.countP_eq_length_filter];have e5:kk=(pre++[(a,b,c)])++post:=by rw[List.append_assoc];exact e3
      split
      ·rename_i hm;have es:ie m ps (pre++[(a,b,c)])=ie m ps pre++[(a,b,c)]:=yQ hm;exact⟨by rw[List.length_map];omega,pre++[(a,b,c)],post,_,_,_,_,_,_,_,e5,rfl,by rw[es,List.map_append];rfl⟩
      ·rename_i hm;have es:ie m ps (pre++[(a,b,c)])=ie m ps pre:=B5 hm;exact⟨pre++[(a,b,c)],post,_,_,_,_,_,_,_,e5,rfl,by rw[es]⟩
  ·rintro δ ⟨r3,r4,r5,r6,r7,r8,r10,rfl⟩;walk_at "dl";rw[w6];walk_at "dl";have hk:=cD hl nd hb;have nds:((ie m ps kk).map gL).Nodup:=List.pairwise_map.mpr ((nd.filter _).imp fun h e=>h (kL e));refine⟨3,(ie m ps kk).map gL,by decide,by rw[List.map_map];rfl,fun ks hk=>by obtain⟨p,_,rfl⟩:=List.mem_map.mp hk;rfl,by have:(ie m ps kk).length<=kk.length:=List.length_filter_le _ _;rw[List.length_map];omega,nds,fun ns n1 n3=>?_⟩
   obtain⟨gs,rfl,hg⟩:=iI ns fun k hk=>n1.mem_iff.mp hk;rw[show(gs.map gL).map eU=gs.map aX by rw[List.map_map];rfl]
   walk_at "dl";refine h gs (fun g=>⟨fun hg'=>?_,fun hb'=>?_⟩) (List.pairwise_map.mp n3)
   ·have:=hg g hg';unfold ie at this;rw[List.mem_filter,decide_eq_true_eq]at this;exact⟨hb g this.1,this.2⟩
   ·have hin:g∈kk:=by
     rcases hb'.1 with ⟨p,hp,hh⟩|⟨p,hp,q,hq,hne,rfl⟩
     ·exact(hm2 p hp).1 g hh
     ·exact(hm2 p hp).2 q hq hne
    have:gL g∈(ie m ps kk).map gL:=List.mem_map.mpr ⟨g,List.mem_filter.mpr ⟨hin,decide_eq_true hb'.2⟩,rfl⟩;obtain⟨g',hg',e'⟩:=List.mem_map.mp (n1.mem_iff.mpr this);rw[<-kL e'];exact hg'
 ·rintro x r ks δ ⟨pre,post,kk,e1,e2,⟨r3,r4,r5,r6,r7,r8,rfl,nd,hb,rfl⟩,hm2⟩
  cases post with
  | nil=>cases e2
  | cons p post=>
   rw[List.map_cons]at e2
   cases e2
   obtain⟨x,y⟩:=p;have hpm:(x,y)∈ps:=by rw[e1];simp
   obtain⟨sx,sy⟩:=hz _ hpm;dsimp only at sx sy;refine⟨.int x,.int y,rfl,?_⟩;show i6 _ _ _ _ _ _ _;rw[nH];walk_at "dl";refine⟨_,.inr rfl,xy ?_⟩;have dummy:Sz 1 0:=⟨by decide⟩
   unfold gJ;refine⟨_,_,rfl,?_⟩;rw[ir];walk_at "dl";refine⟨by walk_at "mul",by walk_at "mul",vP (h:=(1,0,x)) (EW (by unfold bn;simp) (by omega)) (.inl (by decide)) (by walk_at "szk") (by walk_at "szk") (by walk_at "szk") nd (cD hl nd hb) fun k1 nd1 m1=>?_⟩
   have b1:∀ g∈k1,dI ps g:=fun g hg=>((m1 g).mp hg).elim (hb g) fun e=>.inl ⟨_,hpm,by rw[e];simp[nn]⟩
   unfold gJ;refine⟨_,_,rfl,?_⟩;rw[ir];walk_at "dl";refine⟨by walk_at "mul",by walk_at "mul",vP (h:=(-1,0,-x)) (EW (by unfold bn;simp) (by omega)) (.inl (by decide)) (by walk_at "szk") (by walk_at "szk") (by walk_at "szk") nd1 (cD hl nd1 b1) fun k2 nd2 m2=>?_⟩
   have b2:∀ g∈k2,dI ps g:=fun g hg=>((m2 g).mp hg).elim (b1 g) fun e=>.inl ⟨_,hpm,by rw[e];simp[nn]⟩
   unfold gJ;refine⟨_,_,rfl,?_⟩;rw[ir];walk_at "dl";refine⟨by walk_at "mul",by walk_at "mul",vP (h:=(0,1,y)) (EW (by unfold bn;simp) (by omega)) (.inr (by decide)) (by walk_at "szk") (by walk_at "szk") (by walk_at "szk") nd2 (cD hl nd2 b2) fun k3 nd3 m3=>?_⟩
   have b3:∀ g∈k3,dI ps g:=fun g hg=>((m3 g).mp hg).elim (b2 g) fun e=>.inl ⟨_,hpm,by rw[e];simp[nn]⟩
   unfold gJ;refine⟨_,_,rfl,?_⟩;rw[ir];walk_at "dl";refine⟨by walk_at "mul",by walk_at "mul",vP (h:=(0,-1,-y)) (EW (by unfold bn;simp) (by omega)) (.inr (by decide)) (by walk_at "szk") (by walk_at "szk") (by walk_at "szk") nd3 (cD hl nd3 b3) fun k4 nd4 m4=>?_⟩
   have b4:∀ g∈k4,dI ps g:=fun g hg=>((m4 g).mp hg).elim (b3 g) fun e=>.inl ⟨_,hpm,by rw[e];simp[nn]⟩
   have u4:∀ g∈nn (x,y),g∈k4:=fun g hg=>by
    simp only[nn,List.mem_cons,List.not_mem_nil,or_false]at hg;rw[m4,m3,m2,m1]
    rcases hg with rfl|rfl|rfl|rfl <;> simp
   have o4:∀ g∈kk,g∈k4:=fun g hg=>by rw[m4,m3,m2,m1];exact .inl (.inl (.inl (.inl hg)))
   unfold gJ
   let J:List T->List T->az->Prop:=fun ts ks δ=>∃ (p2 q2:List Pt) (k5:List Hf) (r5 r6 r7 r8:Option S),ps=p2++q2/\ts=q2.map aY/\ks=k5.map aX/\k5.Nodup/\(∀ g∈k5,dI ps g)/\(∀ g∈k4,g∈k5)/\(∀ q∈p2,(x,y)≠q->rB (x,y) q∈k5)/\δ=[some (.t (.lst (ps.map aY))),some (.t (.int m)),none,some (.t (.int x)),some (.t (.int y)),r5,r6,r7,r8,none,none]
   rw[nH];walk_at "dl";refine⟨ps.map aY,.inl rfl,J,⟨[],ps,k4,_,_,_,_,rfl,rfl,rfl,nd4,b4,fun g hg=>hg,fun q hq=>(by cases hq),rfl⟩,?_,?_⟩
   ·rintro ks δ ⟨p2,q2,k5,r5,r6,r7,r8,e3,e4,rfl,nd5,b5,o5,c5,rfl⟩;have:q2=[]:=by simpa using e4.symm
    subst this;rw[List.append_nil]at e3;subst e3;refine⟨pre++[(x,y)],post,k5,by rw[List.append_assoc];exact e1,rfl,⟨_,_,_,_,_,_,rfl,nd5,b5,rfl⟩,fun p hp=>?_⟩
    rcases List.mem_append.mp hp with hp|hp
    ·exact⟨fun g hg=>o5 g (o4 g ((hm2 p hp).1 g hg)),fun q hq hne=>o5 _ (o4 _ ((hm2 p hp).2 q hq hne))⟩
    ·rw[List.mem_singleton.mp hp];exact⟨fun g hg=>o5 g (u4 g hg),c5⟩
   ·rintro z r ks δ ⟨p2,q2,k5,r5,r6,r7,r8,e3,e4,rfl,nd5,b5,o5,c5,rfl⟩
    cases q2 with
    | nil=>cases e4
    | cons q q2=>
     rw[List.map_cons]at e4
     cases e4
     obtain⟨u,v⟩:=q;have hqm:(u,v)∈ps:=by rw[e3];simp
     obtain⟨su,sv⟩:=hz _ hqm;dsimp only at su sv;refine⟨.int u,.int v,rfl,?_⟩;rw[CQ];walk_at "dl"
     by_cases hpq:u=x/\v=y
     ·obtain⟨rfl,rfl⟩:=hpq;rw[if_neg (by simp),wX]
      refine⟨p2++[(u,v)],q2,k5,_,_,_,_,by rw[List.append_assoc];exact e3,rfl,rfl,nd5,b5,o5,fun q' hq' hne=>?_,rfl⟩
      rcases List.mem_append.mp hq' with hq'|hq'
      ·exact c5 q' hq' hne
      ·exact absurd (List.mem_singleton.mp hq').symm hne
     ·rw[if_pos (by rw[decide_eq_false hpq];rfl)]
      have hne:((x,y):Pt)≠(u,v):=fun e=>by cases e;exact hpq ⟨rfl,rfl⟩
      have hn:y-v≠0\/u-x≠0:=by omega
      rw[rM,rN];walk_at "dl";rw[rM,rN];walk_at "dl";rw[ir];walk_at "dl";refine⟨by walk_at "mul",by walk_at "mul",vP (a:=y-v) (b:=u-x) (c:=(y-v)*x+(u-x)*y) (h:=rB (x,y) (u,v)) rfl hn (by walk_at "szk") (by walk_at "szk") (by walk_at "szk") nd5 (cD hl nd5 b5) fun k6 nd6 m6=>?_⟩
      refine⟨p2++[(u,v)],q2,k6,_,_,_,_,by rw[List.append_assoc];exact e3,rfl,rfl,nd6,fun g hg=>((m6 g).mp hg).elim (b5 g) fun e=>.inr ⟨_,hpm,_,hqm,hne,e⟩,fun g hg=>(m6 g).mpr (.inl (o5 g hg)),fun q' hq' hne'=>?_,rfl⟩
      rcases List.mem_append.mp hq' with hq'|hq'
      ·exact(m6 _).mpr (.inl (c5 q' hq' hne'))
      ·rw[List.mem_singleton.mp hq'];exact(m6 _).mpr (.inr rfl)
end Law
namespace Law
open L2 DL
set_option maxHeartbeats 4000000
def pY:WS:=
 (bp (bu 1 (bE bW (ag (af 0) (ag (wC (.int 12)) aE))))
 (bp (bu 2 (bE cw (ag (af 1) (ag (fw (wC (.int 1)) (ee (bf eD (af 1) (wC (.int 2))) (wC (.int 7)))) aE))))
 (bp (bu 3 (fZ (ee (bf eD (af 1) (wC (.int 3))) (fw (gQ dW (ag (af 2) aE)) (wC (.int 3)))) (wC (.int 1))))
 (bp (bu 4 (gQ dA (ag (af 2) aE)))
 (bp (bu 5 (bE du (ag (af 4) (ag (af 3) aE))))
 (bp (nt (CA (yU (nu (wB (wx .lst (af 5)))) (wB (Cz (af 4) (af 2))))) (dM (wC (.bl false))) cx)
 (cZ (nr (eA (af 5)) (aW 6) (nt (nu (wB (bE bV (ag (af 6) aE)))) (dM (wC (.bl false))) cx))
 (dM (rj (af 5) (bE dZ (ag (af 2) (ag (af 3) aE))))))))))))
theorem ux {l m:List Hf}(hl:l.Pairwise fun a b=>ST.lexB (gL a) (gL b)=true)(hm:m.Pairwise fun a b=>ST.lexB (gL a) (gL b)=true)(h:∀ g,g∈l↔g∈m):l=m:=by
 have nd:∀ {l:List Hf},(l.Pairwise fun a b=>ST.lexB (gL a) (gL b)=true)->l.Nodup:=fun h=>h.imp fun z e=>by
  subst e;rw[ST.lex_irr]at z;exact nomatch z
 refine((List.perm_ext_iff_of_nodup (nd hl) (nd hm)).mpr h).eq_of_pairwise (fun a b _ _ z1 z2=>?_) hl hm;have:=ST.lex_trans _ _ _ z1 z2;rw[ST.lex_irr]at this;exact nomatch this
theorem Br:∀ ss R,ke ss R->pY {nx:=fun _=>R (.t .non),rt:=R} (aO ["_law_script","_law_head","_law_points_here","_law_many","_law_handed","_law_found","_law_one"] ss):=by
 rintro ss R ⟨ns,rfl,hn,h⟩;have dummy:Sz 1 0:=⟨by decide⟩
 show pY _ [some (.t (.lst (ns.map .int))),none,none,none,none,none,none]
 delta pY
 walk_at "dl";refine⟨ns,12,rfl,hn,by decide,by decide,fun hd hdl hdb=>?_⟩
 walk_at "dl";refine uh (i:=2) (by omega) hdb fun v2 _ _=>?_
 have b1:=fmod_lo v2 (n:=7) (by decide)
 have b2:=fmod_hi v2 (n:=7) (by decide)
 walk_at "go";refine⟨hd,_,rfl,by omega,hdb,by omega,by omega,fun ps hl hE=>?_⟩
 have g:∀ l:List Pt,got (.ol (l.map aY))=.ol (l.map aY):=fun l=>iz _ (pN l);dsimp only;rw[g];walk_at "dl";have hps:ps≠[]:=fun e=>by rw[e]at hl;simp at hl;omega
 have hl7:ps.length<=7:=by omega
 have hz:∀ p∈ps,SzF 100 p:=fun p hp=>⟨(sJ (hE p hp).1).mono (by decide),(sJ (hE p hp).2).mono (by decide)⟩
 have g2:∀ l:List Hf,got (.ol (l.map aX))=.ol (l.map aX):=fun l=>iz _ (pM l);refine uh (i:=3) (by omega) hdb fun v3 _ _=>?_
 walk_at "go";generalize v3.fmod (((ps.map aY).length:Int)+3)-1=m;refine⟨ps,m,rfl,hps,hl7,hz,fun hs hB=>?_⟩;dsimp only;rw[g2];walk_at "dl";refine⟨fun b=>b=false,?_,?_⟩
 ·walk_at "dl";simp
 rintro b rfl;walk_at "dl";have hst:∀ g∈ie m ps hs,dI ps g:=fun g hg=>(hB.1 g).mp (List.mem_filter.mp hg).1
 let M:az->Prop:=fun δ=>∃ r6:Option S,δ=[some (.t (.lst (ns.map .int))),some (.t (.lst (hd.map .int))),some (.t (.lst (ps.map aY))),some (.t (.int m)),some (.t (.lst (ps.map aY))),some (.t (.lst ((ie m ps hs).map aX))),r6]
 refine⟨M,?_,?_⟩
 ·walk_at "dl";refine xA (f:=aX) M ⟨_,rfl⟩ (fun δ z=>z) ?_;rintro c hc δ ⟨r6,rfl⟩ N hN;have ok:=o3 (fun p hp=>(hz p hp).mono3 (by decide)) (hst c hc)
  walk_at "dl";refine⟨c,rfl,ok.2,rY (hst c hc),?_⟩;walk_at "dl";exact hN _ ⟨_,rfl⟩
 ·rintro δ ⟨r6,rfl⟩;walk_at "dl";refine⟨ps,m,rfl,hl7,hz,fun gs g1 g3=>?_⟩;dsimp only;rw[g2];walk_at "dl";have e:ie m ps hs=gs:=ux (hB.2.2.filter _) g3 fun g=>by rw[g1,<-hB.1];unfold ie;rw[List.mem_filter,decide_eq_true_eq]
  rw[decide_eq_true e];exact h
end Law
namespace Law
open PySem PyProof.Rows L2 DL
set_option maxHeartbeats 4000000
def top (i:Nat):Stmt:=PySem.Challenge.pw_deepspot_k41_strong_halves.main.body.getD i (.Pass ⟨0,0,0,0⟩)
abbrev Rm (A:Around)(s:Shared)(f:Addr)(cdv:Value)(k:Nat)(n:Str)(st:Stmt):Prop:=bg k (A.deeper (envOfC n (ai st) s.heap.objs.size f cdv))
abbrev Bd (P:Program)(w:World)(K:PySem.W.Frag)(mg:Str->Option Value)(base:Heap)(f:Addr)(cdv:Value)(A:Around)(outer:List Env)(s:Shared)(H:Hp)(E:XK)(N:List Str)(n:Str)(st:Stmt)(u:WS):Prop:=cy (gU lQ P w K mg base N n (ai st) f cdv A outer s H E).nox (bj st) (aP K H u)
section
variable {P:Program}{w:World}{K:PySem.W.Frag}{mg:Str->Option Value}{base:Heap}{f:Addr}{cdv:Value}{A:Around}{outer:List Env}{s:Shared}{H:Hp}{E:XK}
abbrev dj:Stmt:=top 5
theorem cf:aF ["one","other","greater","lesser","rest"] ["one","other"] (ai dj):=⟨rfl,rfl,rfl,by decide +kernel,rfl,by decide +kernel,by decide +kernel⟩
theorem qd (m_abs:mg "abs"=none) (hr:Rm A s f cdv 0 "divisor" dj):Bd P w K mg base f cdv A outer s H E ["one","other","greater","lesser","rest"] "divisor" dj eM:=
 (av (aD (i:=2) cf.nd (kC m_abs (aa (dv 0) am)))
 (av (aD (i:=3) cf.nd (kC m_abs (aa (dv 1) am)))
 (aV (mh PassesOwn.never (mi hr (dv 3) ab) (av (aD (i:=4) cf.nd (bF (dv 2) (dv 3)))
 (av (aD (i:=2) cf.nd (dv 3))
 (aq (aD (i:=3) cf.nd (dv 4))))))
 (aq (hV (pv 2))))))
abbrev iX:Stmt:=top 7
theorem pQ:aF ["a","b","c","common"] ["a","b","c"] (ai iX):=⟨rfl,rfl,rfl,by decide +kernel,rfl,by decide +kernel,by decide +kernel⟩
theorem Au (c_divisor:Callee P w K mg base 1 "divisor" bL) (hr:Rm A s f cdv 1 "half" iX):Bd P w K mg base f cdv A outer s H E ["a","b","c","common"] "half" iX lO:=
 (av (cG (sE (PW.pt (n6 (fG hr (dv 0) ab) (kH (fG hr (dv 1) ab))))) (aq mf) bm)
 (av (aD (i:=3) pQ.nd (aT c_divisor (hr.mono (by decide)) rfl (aa (aT c_divisor (hr.mono (by decide)) rfl (aa (dv 0) (aa (dv 1) am))) (aa (dv 2) am))))
 (aq (bH (ce (aa (cz (dv 0) (dv 3)) (aa (cz (dv 1) (dv 3)) (aa (cz (dv 2) (dv 3)) am))))))))
abbrev di:Stmt:=top 8
theorem fq:aF ["one","other","a","b"] ["one","other"] (ai di):=⟨rfl,rfl,rfl,by decide +kernel,rfl,by decide +kernel,by decide +kernel⟩
theorem qc (c_half:Callee P w K mg base 2 "half" fU) (hr:Rm A s f cdv 2 "between" di):Bd P w K mg base f cdv A outer s H E ["one","other","a","b"] "between" di eL:=
 (av (aD (i:=2) fq.nd (cc (bi (dv 0) ab) (bi (dv 1) ab)))
 (av (aD (i:=3) fq.nd (cc (bi (dv 1) ab) (bi (dv 0) ab)))
 (aq (bH (aT c_half (hr.mono (by decide)) rfl (aa (dv 2) (aa (dv 3) (aa (bR (bG (dv 2) (bi (dv 0) ab)) (bG (dv 3) (bi (dv 0) ab))) am))))))))
abbrev cC:Stmt:=top 9
theorem oC:aF ["half","points"] ["half","points"] (ai cC):=⟨rfl,rfl,rfl,by decide +kernel,rfl,by decide +kernel,by decide +kernel⟩
theorem qg (m_len:mg "len"=none) (hr:Rm A s f cdv 0 "many_in" cC):Bd P w K mg base f cdv A outer s H E ["half","points"] "many_in" cC eQ:=
 (aq (bH (dz m_len (aa (hU (N:=["point","half"]) (own:=1) (fr:=[0]) (NX:=["half","points"]) (ar:=ai cC) (by decide +kernel) (eB (dv 1)) dg (fun _ _ _ _=>(aZ (i:=0) (show List.Nodup (["point","half"]:List Str) by decide))) (fun _ _ _ _=>(hW (pd (bR (bG (bi (dv 1) ab) (bi (dv 0) ab)) (bG (bi (dv 1) ab) (bi (dv 0) ab))) (bi (dv 1) ab)))) (fun _ _ _ _=>(dv 0))) am))))
abbrev aS:Stmt:=top 11
theorem bv:aF ["point","x","y"] ["point"] (ai aS):=⟨rfl,rfl,rfl,by decide +kernel,rfl,by decide +kernel,by decide +kernel⟩
theorem eR (hr:Rm A s f cdv 0 "upright_and_level" aS):Bd P w K mg base f cdv A outer s H E ["point","x","y"] "upright_and_level" aS bb:=
 (av (aD (i:=1) bv.nd (bi (dv 0) ab))
 (av (aD (i:=2) bv.nd (bi (dv 0) ab))
 (aq (bH (ix (aa (ce (aa ab (aa ab (aa (dv 1) am)))) (aa (ce (aa (gp ab) (aa ab (aa (gp (dv 1)) am)))) (aa (ce (aa ab (aa ab (aa (dv 2) am)))) (aa (ce (aa ab (aa (gp ab) (aa (gp (dv 2)) am)))) am)))))))))
abbrev cM:Stmt:=top 12
theorem cY:aF ["points","found","one","other"] ["points"] (ai cM):=⟨rfl,rfl,rfl,by decide +kernel,rfl,by decide +kernel,by decide +kernel⟩
theorem nI (m_sorted:mg "sorted"=none) (m_set:mg "set"=none) (c_upright_and_level:Callee P w K mg base 1 "upright_and_level" aQ) (c_between:Callee P w K mg base 3 "between" cO) (hr:Rm A s f cdv 3 "bordered" cM):Bd P w K mg base f cdv A outer s H E ["points","found","one","other"] "bordered" cM dG:=
 (av (aD (i:=1) cY.nd (ix am))
 (aV (gv PassesOwn.never (eB (dv 0)) (aZ (i:=2) cY.nd) (av (qv (i:=1) (aT c_upright_and_level (hr.mono (by decide)) (by rfl) (aa (dv 2) am)))
 (aq (gv PassesOwn.never (eB (dv 0)) (aZ (i:=3) cY.nd) (aq (cG (mi hr (dv 2) (dv 3)) (aq (gu (i:=1) (aT c_between (hr.mono (by decide)) (by rfl) (aa (dv 2) (aa (dv 3) am))))) bm))))))
 (aq (bH (nX hr m_sorted m_set hr.hd (dv 1))))))
abbrev bJ:Stmt:=top 13
theorem iY:aF ["points"] ["points"] (ai bJ):=⟨rfl,rfl,rfl,by decide +kernel,rfl,by decide +kernel,by decide +kernel⟩
theorem jm (m_len:mg "len"=none) (hr:Rm A s f cdv 0 "need_points" bJ):Bd P w K mg base f cdv A outer s H E ["points"] "need_points" bJ cm:=
 (aq (cG (fG hr (dz m_len (aa (dv 0) am)) ab) (aq mf) bm))
abbrev dr:Stmt:=top 14
theorem qY:aF ["points","many"] ["points","many"] (ai dr):=⟨rfl,rfl,rfl,by decide +kernel,rfl,by decide +kernel,by decide +kernel⟩
theorem rT (c_need_points:Callee P w K mg base 1 "need_points" bd) (c_bordered:Callee P w K mg base 4 "bordered" cu) (c_many_in:Callee P w K mg base 1 "many_in" cQ) (hr:Rm A s f cdv 4 "strong" dr):Bd P w K mg base f cdv A outer s H E ["points","many"] "strong" dr gf:=
 (av (xp (aT c_need_points (hr.mono (by decide)) rfl (aa (dv 0) am)))
 (aq (bH (hU (N:=["found","points","many"]) (own:=1) (fr:=[0,1]) (NX:=["points","many"]) (ar:=ai dr) (by decide +kernel) (eB (aT c_bordered (hr.mono (by decide)) rfl (aa (dv 0) am))) dg (fun _ _ _ _=>(aZ (i:=0) (show List.Nodup (["found","points","many"]:List Str) by decide))) (fun _ _ _ _=>(hW (pd (aT c_many_in (hr.mono (by decide)) rfl (aa (dv 0) (aa (dv 1) am))) (dv 2)))) (fun _ _ _ _=>(dv 0))))))
abbrev dq:Stmt:=top 16
theorem oB:aF ["_law_found"] ["_law_found"] (ai dq):=⟨rfl,rfl,rfl,by decide +kernel,rfl,by decide +kernel,by decide +kernel⟩
theorem qf (m_isinstance:mg "isinstance"=none) (m_int:mg "int"=none) (m_bool:mg "bool"=none) (hr:Rm A s f cdv 0 "_law_whole" dq):Bd P w K mg base f cdv A outer s H E ["_law_found"] "_law_whole" dq eP:=
 (aq (bH (AA (qr m_isinstance m_int (dv 0)) (AC (AB (nV m_isinstance m_bool (dv 0)))))))
abbrev bO:Stmt:=top 17
theorem bz:aF ["_law_script","_law_many","_law_found","_law_k","_law_cell","_law_at"] ["_law_script","_law_many"] (ai bO):=⟨rfl,rfl,rfl,by decide +kernel,rfl,by decide +kernel,by decide +kernel⟩
theorem lY (m_range:mg "range"=none) (m_max:mg "max"=none) (m_min:mg "min"=none) (m_len:mg "len"=none) (hr:Rm A s f cdv 0 "_law_numbers" bO):Bd P w K mg base f cdv A outer s H E ["_law_script","_law_many","_law_found","_law_k","_law_cell","_law_at"] "_law_numbers" bO c8:=
 (av (n4 (i:=2) bz.nd (N:=["_law_k"]) (own:=1) (fr:=[]) (NX:=["_law_script","_law_many","_law_found","_law_k","_law_cell","_law_at"]) (ar:=ai bO) (by decide +kernel) (eC m_range (aa (dv 1) am)) dg (fun _ _ _ _=>(aZ (i:=0) (show List.Nodup (["_law_k"]:List Str) by decide))) (fun _ _ _ _=>xt) (fun _ _ _ _=>ab))
 (aV (gv PassesOwn.never (eC m_range (aa (xn m_max (aa (dv 1) (aa (o9 m_min (aa (dz m_len (aa (dv 0) am)) (aa ab am))) am))) am)) (aZ (i:=3) bz.nd) (av (aD (i:=4) bz.nd ab)
 (aV (cG (pe (dz m_len (aa (dv 0) am)) ab) (aq (aD (i:=4) bz.nd (bF (bi (dv 0) (bF (dv 3) (o9 m_min (aa (dz m_len (aa (dv 0) am)) (aa ab am))))) (bR (gq ab ab) ab)))) bm)
 (av (aD (i:=5) bz.nd (bF (dv 3) (dv 1)))
 (aq (sA (i:=2) (dv 5) (bF (bR (bR (bG (bi (dv 2) (dv 5)) ab) (dv 4)) (bG (dv 3) (dv 3))) (bR (gq ab ab) ab))))))))
 (aq (hV (pv 2)))))
abbrev cq:Stmt:=top 18
theorem cB:aF ["_law_one","_law_other"] ["_law_one","_law_other"] (ai cq):=⟨rfl,rfl,rfl,by decide +kernel,rfl,by decide +kernel,by decide +kernel⟩
theorem lW (m_abs:mg "abs"=none) (hr:Rm A s f cdv 0 "_law_divisor" cq):Bd P w K mg base f cdv A outer s H E ["_law_one","_law_other"] "_law_divisor" cq c6:=
 (av (aD (i:=0) cB.nd (kC m_abs (aa (dv 0) am)))
 (av (aD (i:=1) cB.nd (kC m_abs (aa (dv 1) am)))
 (aV (mh PassesOwn.never (pe (dv 1) ab) (aq (sw (i:=0) (j:=1) cB.nd (aa (dv 1) (aa (bF (dv 0) (dv 1)) am)))))
 (aq (hV (pv 0))))))
abbrev dk:Stmt:=top 19
theorem ft:aF ["_law_number","_law_base","_law_place","_law_k"] ["_law_number","_law_base","_law_place"] (ai dk):=⟨rfl,rfl,rfl,by decide +kernel,rfl,by decide +kernel,by decide +kernel⟩
theorem qe (m_range:mg "range"=none) (hr:Rm A s f cdv 0 "_law_digit" dk):Bd P w K mg base f cdv A outer s H E ["_law_number","_law_base","_law_place","_law_k"] "_law_digit" dk eO:=
 (aV (gv PassesOwn.never (eC m_range (aa (dv 2) am)) (aZ (i:=3) ft.nd) (aq (aD (i:=0) ft.nd (cz (dv 0) (dv 1)))))
 (aq (bH (bF (dv 0) (dv 1)))))
abbrev bN:Stmt:=top 20
theorem lI:aF ["_law_found"] ["_law_found"] (ai bN):=⟨rfl,rfl,rfl,by decide +kernel,rfl,by decide +kernel,by decide +kernel⟩
theorem lX (m_isinstance:mg "isinstance"=none) (m_tuple:mg "tuple"=none) (m_len:mg "len"=none) (c_l_whole:Callee P w K mg base 1 "_law_whole" ci) (c_l_divisor:Callee P w K mg base 1 "_law_divisor" aU) (hr:Rm A s f cdv 1 "_law_is_half" bN):Bd P w K mg base f cdv A outer s H E ["_law_found"] "_law_is_half" bN c7:=
 (av (cG (sE (PW.pt (zf (n5 (kG (md m_isinstance m_tuple (dv 0)))) (sI (mi hr (dz m_len (aa (dv 0) am)) ab))))) (aq (bH ma)) bm)
 (av (cG (Dx (dz m_len (aa (hU (N:=["_law_number"]) (own:=1) (fr:=[]) (NX:=["_law_found"]) (ar:=ai bN) (by decide +kernel) (AD (dv 0)) dg (fun _ _ _ _=>(aZ (i:=0) (show List.Nodup (["_law_number"]:List Str) by decide))) (fun _ _ _ _=>(hW (kG (aT c_l_whole (hr.mono (by decide)) rfl (aa (dv 0) am))))) (fun _ _ _ _=>(dv 0))) am)) ab) (aq (bH ma)) bm)
 (av (cG (sE (PW.pt (n6 (fG hr (bi (dv 0) ab) ab) (kH (fG hr (bi (dv 0) ab) ab))))) (aq (bH ma)) bm)
 (aq (bH (zd hr (aT c_l_divisor (hr.mono (by decide)) rfl (aa (aT c_l_divisor (hr.mono (by decide)) rfl (aa (bi (dv 0) ab) (aa (bi (dv 0) ab) am))) (aa (bi (dv 0) ab) am))) ab))))))
abbrev dm:Stmt:=top 21
theorem kb:aF ["_law_a","_law_b","_law_c","_law_most"] ["_law_a","_law_b","_law_c"] (ai dm):=⟨rfl,rfl,rfl,by decide +kernel,rfl,by decide +kernel,by decide +kernel⟩
theorem rS (c_l_divisor:Callee P w K mg base 1 "_law_divisor" aU) (hr:bg 1 (A.deeper (envOfC "_law_half" (ai dm) s.heap.objs.size f cdv))) :
  cy (gU lQ P w K mg base ["_law_a","_law_b","_law_c","_law_most"] "_law_half" (ai dm) f cdv A outer s H E).nox (bj dm) (da K H f7):=
 (qx (GM (aD (i:=3) kb.nd (aT c_l_divisor (hr.mono (by decide)) rfl (aa (aT c_l_divisor (hr.mono (by decide)) rfl (aa (dv 0) (aa (dv 1) am))) (aa (dv 2) am)))) (fun _ _ h=>h))
 (sD (xq (cz (dv 0) (dv 3)) (cz (dv 1) (dv 3)) (cz (dv 2) (dv 3)))))
abbrev cN:Stmt:=top 22
theorem aC:aF ["_law_head","_law_many","_law_found","_law_way","_law_k","_law_number","_law_x","_law_y"] ["_law_head","_law_many"] (ai cN):=⟨rfl,rfl,rfl,by decide +kernel,rfl,by decide +kernel,by decide +kernel⟩
theorem nJ (m_range:mg "range"=none) (c_l_digit:Callee P w K mg base 1 "_law_digit" cP) (hr:Rm A s f cdv 1 "_law_points" cN):Bd P w K mg base f cdv A outer s H E ["_law_head","_law_many","_law_found","_law_way","_law_k","_law_number","_law_x","_law_y"] "_law_points" cN dH:=
 (av (aD (i:=2) aC.nd (ix am))
 (av (aD (i:=3) aC.nd (bF (bi (dv 0) ab) ab))
 (aV (gv PassesOwn.never (eC m_range (aa (dv 1) am)) (aZ (i:=4) aC.nd) (av (aD (i:=5) aC.nd (bi (dv 0) (bR ab (dv 4))))
 (av (aD (i:=6) aC.nd (cc (bF (dv 5) ab) ab))
 (av (aD (i:=7) aC.nd (cc (bF (cz (dv 5) ab) ab) ab))
 (aV (cG (fG hr (dv 3) ab) (aq (aD (i:=7) aC.nd (cc (bG ab (dv 6)) ab))) bm)
 (aV (cG (fG hr (dv 3) ab) (aq (aD (i:=6) aC.nd ab)) bm)
 (aV (cG (fG hr (dv 3) ab) (aq (sw (i:=6) (j:=7) aC.nd (aa (cc (bF (dv 5) ab) ab) (aa (cc (bF (cz (dv 5) ab) ab) ab) am)))) bm)
 (aV (cG (pe (dv 3) ab) (av (aD (i:=6) aC.nd (cc (bF (dv 5) (bR (bG ab (gq ab ab)) ab)) (gq ab ab)))
 (aq (aD (i:=7) aC.nd (cc (bF (bG (dv 5) ab) (bR (bG ab (gq ab ab)) ab)) (gq ab ab))))) bm)
 (aV (cG (sE (PW.pt (n6 (pe (dv 4) ab) (kH (fG hr (aT c_l_digit (hr.mono (by decide)) rfl (aa (bi (dv 0) ab) (aa ab (aa (dv 4) am)))) ab))))) (aq (AG (bi (dv 2) (cc (dv 4) ab)) (nY (cF (aZ (i:=6) aC.nd) (cF (aZ (i:=7) aC.nd) kD)) (cI (cI lx))))) bm)
 (aq (gu (i:=2) (ce (aa (dv 6) (aa (dv 7) am))))))))))))))
 (aq (hV (pv 2))))))
abbrev eI:Stmt:=top 23
theorem a7:aF ["_law_points_here","_law_many","_law_due_here","_law_x","_law_y","_law_a","_law_b","_law_p","_law_q","_law_found","_law_c"] ["_law_points_here","_law_many"] (ai eI):=⟨rfl,rfl,rfl,by decide +kernel,rfl,by decide +kernel,by decide +kernel⟩
theorem xg (m_len:mg "len"=none) (m_sorted:mg "sorted"=none) (c_l_half:g7 P w K mg base 2 "_law_half" (kh K cg)) (hr:Rm A s f cdv 2 "_law_due" eI):Bd P w K mg base f cdv A outer s H E ["_law_points_here","_law_many","_law_due_here","_law_x","_law_y","_law_a","_law_b","_law_p","_law_q","_law_found","_law_c"] "_law_due" eI ij:=
 (xr a7.nd
 (jL (kE PassesOwn.never (by decide) (by decide) (dv 0) (lF rfl (cJ (dE (i:=3) a7.nd rfl (by first|exact Or.inl rfl|exact Or.inr rfl)) (cJ (dE (i:=4) a7.nd rfl (by first|exact Or.inl rfl|exact Or.inr rfl)) h9))) (gw (kE PassesOwn.never (by decide) (by decide) (ix (aa (ce (aa ab (aa ab am))) (aa (ce (aa (gp ab) (aa ab am))) (aa (ce (aa ab (aa ab am))) (aa (ce (aa ab (aa (gp ab) am))) am))))) (lF rfl (cJ (dE (i:=5) a7.nd rfl (by first|exact Or.inl rfl|exact Or.inr rfl)) (cJ (dE (i:=6) a7.nd rfl (by first|exact Or.inl rfl|exact Or.inr rfl)) h9))) (fF (pc (zn hr) c_l_half (hr.mono (by decide)) rfl (aa (dv 5) (aa (dv 6) (aa (bR (bG (dv 5) (dv 3)) (bG (dv 6) (dv 4))) am))))))
 (fF (kE PassesOwn.never (by decide) (by decide) (dv 0) (lF rfl (cJ (dE (i:=7) a7.nd rfl (by first|exact Or.inl rfl|exact Or.inr rfl)) (cJ (dE (i:=8) a7.nd rfl (by first|exact Or.inl rfl|exact Or.inr rfl)) h9))) (fF (AF (mi hr (ce (aa (dv 7) (aa (dv 8) am))) (ce (aa (dv 3) (aa (dv 4) am)))) (gw (kF (i:=5) (by decide) a7.nd (cc (dv 4) (dv 8)))
 (gw (kF (i:=6) (by decide) a7.nd (cc (dv 7) (dv 3)))
 (fF (pc (zn hr) c_l_half (hr.mono (by decide)) rfl (aa (dv 5) (aa (dv 6) (aa (bR (bG (dv 5) (dv 3)) (bG (dv 6) (dv 4))) am))))))) sC))))))
 (jL (kF (i:=9) (by decide) a7.nd (ix am))
 (qw PassesOwn.never (nY (cF (aZ (i:=5) a7.nd) (cF (aZ (i:=6) a7.nd) (cF (aZ (i:=10) a7.nd) kD))) (cI (cI (cI lx)))) (aq (cG (pd (dz m_len (aa (hU (N:=["_law_x","_law_y","_law_a","_law_b","_law_c"]) (own:=2) (fr:=[5,6,10]) (NX:=["_law_points_here","_law_many","_law_due_here","_law_x","_law_y","_law_a","_law_b","_law_p","_law_q","_law_found","_law_c"]) (ar:=ai eI) (by decide +kernel) (eB (dv 0)) (xC (jO dg (jO dg uf jY) jY)) (fun _ _ _ _=>(nY (cF (aZ (i:=0) (show List.Nodup (["_law_x","_law_y","_law_a","_law_b","_law_c"]:List Str) by decide)) (cF (aZ (i:=1) (show List.Nodup (["_law_x","_law_y","_law_a","_law_b","_law_c"]:List Str) by decide)) kD)) (cI (cI lx)))) (fun _ _ _ _=>(hW (pd (bR (bG (dv 2) (dv 0)) (bG (dv 3) (dv 1))) (dv 4)))) (fun _ _ _ _=>(dv 0))) am)) (dv 1)) (aq (gu (i:=9) (ce (aa (dv 5) (aa (dv 6) (aa (dv 10) am)))))) bm))
 (aq (bH (sn m_sorted (dv 9))))))))
abbrev gO:Stmt:=top 24
theorem fv:aF ["_law_script","_law_head","_law_points_here","_law_many","_law_handed","_law_found","_law_one"] ["_law_script"] (ai gO):=⟨rfl,rfl,rfl,by decide +kernel,rfl,by decide +kernel,by decide +kernel⟩
theorem Dr (m_len:mg "len"=none) (m_list:mg "list"=none) (m_isinstance:mg "isinstance"=none) (c_l_numbers:Callee P w K mg base 1 "_law_numbers" bW) (c_l_points:Callee P w K mg base 2 "_law_points" cw) (c_strong:Callee P w K mg base 5 "strong" du) (c_l_is_half:Callee P w K mg base 2 "_law_is_half" bV) (c_l_due:Callee P w K mg base 3 "_law_due" dZ) (hr:Rm A s f cdv 5 "law" gO):Bd P w K mg base f cdv A outer s H E ["_law_script","_law_head","_law_points_here","_law_many","_law_handed","_law_found","_law_one"] "law" gO pY:=
 (av (aD (i:=1) fv.nd (aT c_l_numbers (hr.mono (by decide)) rfl (aa (dv 0) (aa ab am))))
 (av (aD (i:=2) fv.nd (aT c_l_points (hr.mono (by decide)) rfl (aa (dv 1) (aa (bR ab (bF (bi (dv 1) ab) ab)) am))))
 (av (aD (i:=3) fv.nd (cc (bF (bi (dv 1) ab) (bR (dz m_len (aa (dv 2) am)) ab)) ab))
 (av (aD (i:=4) fv.nd (qt m_list (aa (dv 2) am)))
 (av (aD (i:=5) fv.nd (aT c_strong (hr.mono (by decide)) rfl (aa (dv 4) (aa (dv 3) am))))
 (av (cG (sE (PW.pt (zf (n5 (kG (nW m_isinstance m_list (dv 5)))) (sI (mi hr (dv 4) (dv 2)))))) (aq (bH ma)) bm)
 (aV (gv PassesOwn.never (eB (dv 5)) (aZ (i:=6) fv.nd) (aq (cG (n5 (kG (aT c_l_is_half (hr.mono (by decide)) rfl (aa (dv 6) am)))) (aq (bH ma)) bm)))
 (aq (bH (zd hr (dv 5) (aT c_l_due (hr.mono (by decide)) rfl (aa (dv 2) (aa (dv 3) am)))))))))))))
end
def Fd (K:PySem.W.Frag)(n:Str)(st:Stmt)(f:Addr):Prop:=∃ (oc:Value) (od:Option Addr) (sl:Array (Option Value)) (kV dc pm:Value) (an:Option Addr) (cd ct:Value),PySem.W.nsIn K mainGlobals n=some (some (.ref f))/\K.lookup f=some ⟨oc,od,.func (PySem.W.fnOf n n (cV st) (bj st) (ai st) .none kV dc pm an cd ct),sl⟩/\PySem.W.codeIn K cd n=true/\PySem.W.keepIn K (.ref f)=true
theorem fd_mk {K:PySem.W.Frag}{n:Str}{st:Stmt}{f:Addr}{oc:Value}{od:Option Addr}{sl:Array (Option Value)}{kV dc pm:Value}{an:Option Addr}{cd ct:Value}(a:PySem.W.nsIn K mainGlobals n=some (some (.ref f)))(l:K.lookup f=some ⟨oc,od,.func (PySem.W.fnOf n n (cV st) (bj st) (ai st) .none kV dc pm an cd ct),sl⟩)(e:PySem.W.codeIn K cd n=true)(k:PySem.W.keepIn K (.ref f)=true):Fd K n st f:=⟨_,_,_,_,_,_,_,_,_,a,l,e,k⟩
def lP (n:Str)(st:Stmt)(ps:List Str):Prop:=∀ (kV doc pm:Value) (an:Option Addr) (cdv ct:Value) (us:List Value),us.length=ps.length->bindArgs (PySem.W.fnOf n n (cV st) (bj st) (ai st) .none kV doc pm an cdv ct) ⟨us,[]⟩=pure (ps.zip us)
section
variable {P:Program}{wd:World}{K:PySem.W.Frag}{mg:Str->Option Value}{base h:Heap}{x:Str}{st:Stmt}{f:Addr}{N ps:List Str}{k:Nat}{sp:aR}{w:WS}
theorem cE (X:K.In h)(G:h.Ns mainGlobals mg)(d:Fd K x st f)(S:aF N ps (ai st))(hlen:∀ ss R,sp ss R->ss.length=ps.length)(hb:lP x st ps)(hbody:∀ (cdv:Value) (A:Around) (outer:List Env) (s:Shared) (H:Hp) (E:XK),bg k (A.deeper (envOfC x (ai st) s.heap.objs.size f cdv))->cy (gU lQ P wd K mg base N x (ai st) f cdv A outer s H E).nox (bj st) (aP K H w))(hk:∀ ss R,sp ss R->w {nx:=fun _=>R (.t .non),rt:=R} (aO N ss)):Callee P wd K mg base (k+1) x sp:=by
 obtain⟨oc,od,sl,kV,dc,pm,an,cd,ct,a,l,e,q⟩:=d;exact ql (fi l e q) (PySem.W.mg_of X G a) ((fi l e q).binds hb) (so (fi l e q) S hlen hbody hk)
theorem Aw (X:K.In h)(G:h.Ns mainGlobals mg)(d:Fd K x st f)(S:aF N ps (ai st))(hlen:∀ ss R,sp ss R->ss.length=ps.length)(hb:lP x st ps)(hbody:∀ (cdv:Value) (A:Around) (outer:List Env) (s:Shared) (H:Hp) (E:XK),bg k (A.deeper (envOfC x (ai st) s.heap.objs.size f cdv))->cy (gU lQ P wd K mg base N x (ai st) f cdv A outer s H E).nox (bj st) (da K H w))(hk:∀ ss R,sp ss R->w {nx:=fun _=>False,rt:=R} (aO N ss)):g7 P wd K mg base (k+1) x (kh K sp):=by
 obtain⟨oc,od,sl,kV,dc,pm,an,cd,ct,a,l,e,q⟩:=d;exact⟨_,_,_,PySem.W.mg_of X G a,xo (fi l e q) S hlen hbody hk,(fi l e q).binds hb,(fi l e q).kp⟩
end
theorem nP:lP "divisor" dj ["one","other"]:=fun _ _ _ _ _ _ us hl=>match us,hl with | [_,_],_=>rfl
theorem xi:lP "half" iX ["a","b","c"]:=fun _ _ _ _ _ _ us hl=>match us,hl with | [_,_,_],_=>rfl
theorem nO:lP "between" di ["one","other"]:=fun _ _ _ _ _ _ us hl=>match us,hl with | [_,_],_=>rfl
theorem nS:lP "many_in" cC ["half","points"]:=fun _ _ _ _ _ _ us hl=>match us,hl with | [_,_],_=>rfl
theorem dS:lP "upright_and_level" aS ["point"]:=fun _ _ _ _ _ _ us hl=>match us,hl with | [_],_=>rfl
theorem l0:lP "bordered" cM ["points"]:=fun _ _ _ _ _ _ us hl=>match us,hl with | [_],_=>rfl
theorem iw:lP "need_points" bJ ["points"]:=fun _ _ _ _ _ _ us hl=>match us,hl with | [_],_=>rfl
theorem qi:lP "strong" dr ["points","many"]:=fun _ _ _ _ _ _ us hl=>match us,hl with | [_,_],_=>rfl
theorem nR:lP "_law_whole" dq ["_law_found"]:=fun _ _ _ _ _ _ us hl=>match us,hl with | [_],_=>rfl
theorem ky:lP "_law_numbers" bO ["_law_script","_law_many"]:=fun _ _ _ _ _ _ us hl=>match us,hl with | [_,_],_=>rfl
theorem ku:lP "_law_divisor" cq ["_law_one","_law_other"]:=fun _ _ _ _ _ _ us hl=>match us,hl with | [_,_],_=>rfl
theorem nQ:lP "_law_digit" dk ["_law_number","_law_base","_law_place"]:=fun _ _ _ _ _ _ us hl=>match us,hl with | [_,_,_],_=>rfl
theorem kx:lP "_law_is_half" bN ["_law_found"]:=fun _ _ _ _ _ _ us hl=>match us,hl with | [_],_=>rfl
theorem qh:lP "_law_half" dm ["_law_a","_law_b","_law_c"]:=fun _ _ _ _ _ _ us hl=>match us,hl with | [_,_,_],_=>rfl
theorem l5:lP "_law_points" cN ["_law_head","_law_many"]:=fun _ _ _ _ _ _ us hl=>match us,hl with | [_,_],_=>rfl
theorem rX:lP "_law_due" eI ["_law_points_here","_law_many"]:=fun _ _ _ _ _ _ us hl=>match us,hl with | [_,_],_=>rfl
theorem all_mk {l:PySem.W.OpenLaw}{w:World}{K:PySem.W.Frag}{h:Heap}{mg:Str->Option Value}{fa f_0 f_1 f_2 f_3 f_4 f_5 f_6 f_7 f_8 f_9 f_10 f_11 f_12 f_13 f_14 f_15 f_16:Addr} (X:K.In h) (G:h.Ns mainGlobals mg) (hfa:mg "law"=some (.ref fa))
  (d0:Fd K "divisor" dj f_0)
  (d1:Fd K "half" iX f_1)
  (d2:Fd K "between" di f_2)
  (d3:Fd K "many_in" cC f_3)
  (d4:Fd K "upright_and_level" aS f_4)
  (d5:Fd K "bordered" cM f_5)
  (d6:Fd K "need_points" bJ f_6)
  (d7:Fd K "strong" dr f_7)
  (d8:Fd K "_law_whole" dq f_8)
  (d9:Fd K "_law_numbers" bO f_9)
  (d10:Fd K "_law_divisor" cq f_10)
  (d11:Fd K "_law_digit" dk f_11)
  (d12:Fd K "_law_is_half" bN f_12)
  (d13:Fd K "_law_half" dm f_13)
  (d14:Fd K "_law_points" cN f_14)
  (d15:Fd K "_law_due" eI f_15)
  (d16:Fd K "law" gO f_16)
  (z_abs:PySem.W.nsIn K mainGlobals "abs"=some none)
  (z_len:PySem.W.nsIn K mainGlobals "len"=some none)
  (z_sorted:PySem.W.nsIn K mainGlobals "sorted"=some none)
  (z_set:PySem.W.nsIn K mainGlobals "set"=some none)
  (z_isinstance:PySem.W.nsIn K mainGlobals "isinstance"=some none)
  (z_int:PySem.W.nsIn K mainGlobals "int"=some none)
  (z_bool:PySem.W.nsIn K mainGlobals "bool"=some none)
  (z_range:PySem.W.nsIn K mainGlobals "range"=some none)
  (z_max:PySem.W.nsIn K mainGlobals "max"=some none)
  (z_min:PySem.W.nsIn K mainGlobals "min"=some none)
  (z_tuple:PySem.W.nsIn K mainGlobals "tuple"=some none)
  (z_list:PySem.W.nsIn K mainGlobals "list"=some none)
 :∃ fd:FuncData,(∀ (s:Shared) (v:Value),BindsTo s fd ⟨[v],[]⟩ [("_law_script",v)])/\∀ base:Heap,K.In base->base.Ns mainGlobals mg->de l.prog w K mg base lQ 6 fa fd ["_law_script"] (lK K ke):=by
 obtain⟨oc16,od16,sl16,kV16,dc16,pm16,an16,cd16,ct16,a16,l16,e16,k16⟩:=d16;have e:=hfa.symm.trans (PySem.W.mg_of X G a16)
 cases e
 have F_law:=fi (st:=gO) l16 e16 k16;have m_abs:=PySem.W.mg_none_of X G z_abs;have m_len:=PySem.W.mg_none_of X G z_len;have m_sorted:=PySem.W.mg_none_of X G z_sorted;have m_set:=PySem.W.mg_none_of X G z_set;have m_isinstance:=PySem.W.mg_none_of X G z_isinstance;have m_int:=PySem.W.mg_none_of X G z_int;have m_bool:=PySem.W.mg_none_of X G z_bool;have m_range:=PySem.W.mg_none_of X G z_range;have m_max:=PySem.W.mg_none_of X G z_max;have m_min:=PySem.W.mg_none_of X G z_min;have m_tuple:=PySem.W.mg_none_of X G z_tuple;have m_list:=PySem.W.mg_none_of X G z_list;refine⟨PySem.W.fnOf "law" "law" (cV gO) (bj gO) (ai gO) .none kV16 dc16 pm16 an16 cd16 ct16,fun s v=>.of_eq rfl,fun base _ _=>?_⟩;have c_l_numbers:Callee l.prog w K mg base 1 "_law_numbers" bW:=cE X G d9 bz jA ky (fun cdv A outer s H E hr=>lY m_range m_max m_min m_len hr) lD;have c_l_digit:Callee l.prog w K mg base 1 "_law_digit" cP:=cE X G d11 ft mL nQ (fun cdv A outer s H E hr=>qe m_range hr) ot;have c_l_points:Callee l.prog w K mg base 2 "_law_points" cw:=cE X G d14 aC lw l5 (fun cdv A outer s H E hr=>nJ m_range c_l_digit hr) m7;have c_need_points:Callee l.prog w K mg base 1 "need_points" bd:=cE X G d6 iY gZ iw (fun cdv A outer s H E hr=>jm m_len hr) iR;have c_upright_and_level:Callee l.prog w K mg base 1 "upright_and_level" aQ:=cE X G d4 bv dL dS (fun cdv A outer s H E hr=>eR hr) dY;have c_divisor:Callee l.prog w K mg base 1 "divisor" bL:=cE X G d0 cf mJ nP (fun cdv A outer s H E hr=>qd m_abs hr) oq;have c_half:Callee l.prog w K mg base 2 "half" fU:=cE X G d1 pQ uw xi (fun cdv A outer s H E hr=>Au c_divisor hr) x8
 have c_between:Callee l.prog w K mg base 3 "between" cO:=cE X G d2 fq mI nO (fun cdv A outer s H E hr=>qc c_half hr) oo;have c_bordered:Callee l.prog w K mg base 4 "bordered" cu:=cE X G d5 cY lv l0 (fun cdv A outer s H E hr=>nI m_sorted m_set c_upright_and_level c_between hr) mZ;have c_many_in:Callee l.prog w K mg base 1 "many_in" cQ:=cE X G d3 oC mN nS (fun cdv A outer s H E hr=>qg m_len hr) ow;have c_strong:Callee l.prog w K mg base 5 "strong" du:=cE X G d7 qY oh qi (fun cdv A outer s H E hr=>rT c_need_points c_bordered c_many_in hr) qP;have c_l_whole:Callee l.prog w K mg base 1 "_law_whole" ci:=cE X G d8 oB mM nR (fun cdv A outer s H E hr=>qf m_isinstance m_int m_bool hr) ou;have c_l_divisor:Callee l.prog w K mg base 1 "_law_divisor" aU:=cE X G d10 cB jy ku (fun cdv A outer s H E hr=>lW m_abs hr) lB;have c_l_is_half:Callee l.prog w K mg base 2 "_law_is_half" bV:=cE X G d12 lI jz kx (fun cdv A outer s H E hr=>lX m_isinstance m_tuple m_len c_l_whole c_l_divisor hr) lC;have c_l_half:g7 l.prog w K mg base 2 "_law_half" (kh K cg):=Aw X G d13 kb og qh (fun cdv A outer s H E hr=>rS c_l_divisor hr) qN;have c_l_due:Callee l.prog w K mg base 3 "_law_due" dZ:=cE X G d15 a7 qH rX (fun cdv A outer s H E hr=>xg m_len m_sorted c_l_half hr) vC;exact so F_law fv xP (fun cdv A outer s H E hr=>Dr m_len m_list m_isinstance c_l_numbers c_l_points c_strong c_l_is_half c_l_due hr) Br
theorem walk {l:PySem.W.OpenLaw}{q:Program}{loose:List Str}{XP:(Str->Option Value)->Heap->Prop}{YP:World->Heap->Prop}{d:DefRec}{K:Params->PySem.W.Frag}(hn:l.most=some 63)(hdf:d.params.defaults=[])
  (hY:∀ (w:World) (h:Heap),YP w h->(K w.params).In h)
  (F:∀ (w:World) (mg:Str->Option Value) (fa:Addr) (h:Heap),(K w.params).In h->h.Ns mainGlobals mg->mg d.name=some (.ref fa) →
   ∃ fd:FuncData,(∀ (s:Shared) (u:Value),BindsTo s fd ⟨[u],[]⟩ [("_law_script",u)])/\∀ base:Heap,(K w.params).In base->base.Ns mainGlobals mg->de l.prog w (K w.params) mg base lQ 6 fa fd ["_law_script"] (lK (K w.params) ke)) :
  PySem.W.WalkO q loose XP YP l.row.toRowW d [] (fun f vs=>PySem.call f vs):=
 L2.walk_of (n:=63) (k:=6) (x:="_law_script") (CX:=fun _=>lQ) (sp:=fun w=>lK (K w.params) ke) hn (by decide) hdf ⟨rfl,by decide,by decide⟩ hY F (fun _ _ a ns hl _ hS=>Be hl hS) fun _ _ _ _ _ z=>z
end Law
open PySem PySem.W PyProof.Rows
set_option maxRecDepth 100000 in
set_option maxHeartbeats 0 in
theorem PySem.Challenge.cw_deepspot_k41_strong_halves_holds : PySem.Challenge.rw_deepspot_k41_strong_halves.Holds := by
 w_on;o_law;k_head;(case hw=>w_witness2)
 k_fill
 refine Law.walk (l:=PySem.Challenge.rw_deepspot_k41_strong_halves) rfl rfl (fun w h Y=>by first|exact PySem.W.kIn_of Y|exact PySem.W.km_in_of Y) ?F
 case F=>
  intro w mg fa h KX G hmg;refine' Law.all_mk KX G hmg (Law.fd_mk ?_ ?_ ?_ ?_) (Law.fd_mk ?_ ?_ ?_ ?_) (Law.fd_mk ?_ ?_ ?_ ?_) (Law.fd_mk ?_ ?_ ?_ ?_) (Law.fd_mk ?_ ?_ ?_ ?_) (Law.fd_mk ?_ ?_ ?_ ?_) (Law.fd_mk ?_ ?_ ?_ ?_) (Law.fd_mk ?_ ?_ ?_ ?_) (Law.fd_mk ?_ ?_ ?_ ?_) (Law.fd_mk ?_ ?_ ?_ ?_) (Law.fd_mk ?_ ?_ ?_ ?_) (Law.fd_mk ?_ ?_ ?_ ?_) (Law.fd_mk ?_ ?_ ?_ ?_) (Law.fd_mk ?_ ?_ ?_ ?_) (Law.fd_mk ?_ ?_ ?_ ?_) (Law.fd_mk ?_ ?_ ?_ ?_) (Law.fd_mk ?_ ?_ ?_ ?_) ?_ ?_ ?_ ?_ ?_ ?_ ?_ ?_ ?_ ?_ ?_ ?_
  all_goals(try k_is)

import PyProof.Rows.All
import Wide.All
import OpenK.AllK
import Wide.FinOn
import Lean
import PyProof.EqAt
import PyProof.EqKinds
import PyProof.TupleCall
import PyProof.CompFree
import PyProof.SetScanFacts
import PyProof.TupleKey
import PyProof.SetKind
import PyProof.DictStraight
import PyProof.IsRules
import PyProof.WalkLemmas
import PyProof.Rows.SetFrom
import KE.KRevIter
import KE.KSortTup
import PyProof.ListNew
import PyProof.ExcArgsOwn
import KE.KIsAll
import PyProof.NsDelKeeps
import PyProof.NeKinds
import PyProof.FitsBits
import KE.LcSums
import PyProof.ZipIter
import PyProof.EnumFor
import PyProof.EnumStmt
import PyProof.Rows.EnumRows
import PyProof.Rows.FactsT2
import PyProof.Rows.SortWalk
import PyProof.Rows.FactsT3
import PyProof.LayNew
import KE.RegKIsAll
import PySem.Challenge.RW_deepspot_k14_whole_clipped_in_any_order
-- CHANGE: your row's module here,as the last of these rows
set_option Elab.async false
set_option linter.all false
set_option maxRecDepth 100000
namespace L2
open PySem PySem.Spec PyProof.Rows
abbrev Key:=Sum Int Str
def keyIs:Key->Value->Bool
 | .inl k,v=>Value.isInt k v
 | .inr x,v=>Value.isStrOf x v
def keyH (w:World):Key->Int
 | .inl k=>hashInt k
 | .inr x=>hashStr w x
theorem keyIs_shape:∀ {k:Key} {v:Value},keyIs k v=true->(∃ i t,k=Sum.inl i/\v=Value.int i t)\/(∃ x t,k=Sum.inr x/\v=Value.str x t)
 | .inl i,v,h=>by
  obtain ⟨t,e⟩:=Value.isInt_shape (k:=i) (v:=v) h
  exact .inl ⟨i,t,rfl,e⟩
 | .inr x,v,h=>by
  obtain ⟨t,e⟩:=Value.isStrOf_shape (x:=x) (v:=v) h
  exact .inr ⟨x,t,rfl,e⟩
theorem key_ll (a b:Int):decide ((Sum.inl a:Key)=Sum.inl b)=(a == b):=by
 by_cases e:a=b
 ·subst e;simp
 ·have h:¬ (Sum.inl a:Key)=Sum.inl b:=fun q=>e (Sum.inl.inj q)
  rw [decide_eq_false h]
  exact (beq_eq_false_iff_ne.mpr e).symm
theorem key_rr (a b:Str):decide ((Sum.inr a:Key)=Sum.inr b)=decide (a=b):=by
 by_cases e:a=b
 ·subst e;simp
 ·have h:¬ (Sum.inr a:Key)=Sum.inr b:=fun q=>e (Sum.inr.inj q)
  rw [decide_eq_false h,decide_eq_false e]
theorem key_lr (a:Int) (b:Str):decide ((Sum.inl a:Key)=Sum.inr b)=false:=decide_eq_false (fun q=>nomatch q)
theorem key_rl (a:Str) (b:Int):decide ((Sum.inr a:Key)=Sum.inl b)=false:=decide_eq_false (fun q=>nomatch q)
def mixKind (prog:Program) (w:World):PySem.KeyKind prog w Key where
 is:=keyIs
 hash:=keyH w
 inj:=fun v a b ha hb=>by
  rcases keyIs_shape ha with ⟨i,t,rfl,rfl⟩ | ⟨x,t,rfl,rfl⟩
  ·rcases keyIs_shape hb with ⟨j,u,rfl,e⟩ | ⟨y,u,rfl,e⟩
   ·injection e with e1 _;rw [e1]
   ·exact nomatch e
  ·rcases keyIs_shape hb with ⟨j,u,rfl,e⟩ | ⟨y,u,rfl,e⟩
   ·exact nomatch e
   ·injection e with e1 _;rw [e1]
 byValue:=fun k v h=>by
  rcases keyIs_shape h with ⟨i,t,rfl,rfl⟩ | ⟨x,t,rfl,rfl⟩ <;> rfl
 pyHash:=fun hv h=>by
  rcases keyIs_shape hv with ⟨i,t,rfl,rfl⟩ | ⟨x,t,rfl,rfl⟩
  ·exact wpAny_pyHash_int h
  ·exact wpAny_pyHash_str h
 eqBool:=fun hu hv h=>by
  rcases keyIs_shape hu with ⟨i,t,rfl,rfl⟩ | ⟨x,t,rfl,rfl⟩
  ·rcases keyIs_shape hv with ⟨j,u,rfl,rfl⟩ | ⟨y,u,rfl,rfl⟩
   ·rw [key_ll] at h;exact wpAny_eqBool_int h
   ·rw [key_lr] at h;exact SeqAt.EqAt.int_str i t y u _ _ _ _ h
  ·rcases keyIs_shape hv with ⟨j,u,rfl,rfl⟩ | ⟨y,u,rfl,rfl⟩
   ·rw [key_rl] at h;exact SeqAt.EqAt.str_int x t j u _ _ _ _ h
   ·rw [key_rr] at h;exact wpAny_eqBool_str h
 «strs»:=fun k x t v h=>by
  rcases keyIs_shape h with ⟨i,u,rfl,e⟩ | ⟨y,u,rfl,e⟩
  ·exact nomatch e
  ·injection e with e1 _
   subst e1
   cases v <;> rfl
end L2
namespace L2
open PySem PySem.Spec PyProof.Rows
inductive V where
 | non | bl (b:Bool) | int (i:Int) | str (x:Str) | byt (b:Array UInt8) | flt (b:UInt64) | ref (a:Addr) | ty (n:String)
 deriving DecidableEq
def RelV:V->Value->Prop
 | .non,u=>u=Value.none
 | .bl b,u=>u=Value.bool b
 | .int i,u=>∃ t,u=Value.int i t
 | .str x,u=>∃ t,u=Value.str x t
 | .byt b,u=>∃ t,u=Value.bytes b t
 | .flt b,u=>∃ t,u=Value.float b t
 | .ref a,u=>u=Value.ref a
 | .ty n,u=>u=Value.type n
abbrev Vals:List V->List Value->Prop:=Paired RelV
theorem Vals.length {xs:List V} {us:List Value} (r:Vals xs us):xs.length=us.length:=Paired.length r
theorem Vals.get:∀ {xs:List V} {us:List Value} {i:Nat} {x:V},Vals xs us->xs[i]?=some x->∃ u,us[i]?=some u/\RelV x u
 | _,_,_,_,.nil,e=>by simp at e
 | _,_,0,_,.cons r _,e=>by simp at e;subst e;exact ⟨_,rfl,r⟩
 | _,_,i + 1,x,.cons _ t,e=>by
  obtain ⟨u,h1,h2⟩:=Vals.get (i:=i) (x:=x) t (by simpa using e)
  exact ⟨u,by simpa using h1,h2⟩
theorem Vals.set {x:V} {u:Value} (r:RelV x u):∀ {xs:List V} {us:List Value} (i:Nat),Vals xs us->Vals (xs.set i x) (us.set i u)
 | _,_,_,.nil=>.nil
 | _,_,0,.cons _ t=>.cons r t
 | _,_,i + 1,.cons q t=>.cons q (Vals.set r i t)
theorem Vals.append:∀ {xs ys:List V} {us ws:List Value},Vals xs us->Vals ys ws->Vals (xs++ys) (us++ws)
 | _,_,_,_,.nil,s=>s
 | _,_,_,_,.cons r t,s=>.cons r (Vals.append t s)
theorem Vals.take:∀ {xs:List V} {us:List Value} (n:Nat),Vals xs us->Vals (xs.take n) (us.take n)
 | _,_,0,_=>.nil
 | _,_,_ + 1,.nil=>.nil
 | _,_,n + 1,.cons r t=>.cons r (Vals.take n t)
theorem Vals.drop:∀ {xs:List V} {us:List Value} (n:Nat),Vals xs us->Vals (xs.drop n) (us.drop n)
 | _,_,0,r=>r
 | _,_,_ + 1,.nil=>.nil
 | _,_,n + 1,.cons _ t=>Vals.drop n t
def RelO:Option V->Option Value->Prop
 | some v,some u=>RelV v u
 | none,none=>True
 | _,_=>False
def KV {κ:Type}:List (κ × V)->List (κ × Value)->Prop:=Paired fun (p:κ × V) (q:κ × Value)=>p.1=q.1/\RelV p.2 q.2
def kV:Key->V
 | .inl i=>.int i
 | .inr x=>.str x
inductive HO where
  | lst (xs:List V)
  | tup (xs:List V)
  | dK (kvs:List (Key × V)) | dT (kvs:List (List Key × V))
  | set (S:Int->Bool) (n:Nat)
  | ins (C dx:Addr) (fs:List (Str × V))
  | own (x:Addr)
  | xd (fs:List (Str × V))
  | met (f x:Addr)
  | rng (lo hi:Int)
  | frz (o:Obj) (u:HO)
  | tbl (ps:Array Value)
  | ext (φ:Heap->Prop)
abbrev Hp:=Addr->Option HO
def upd (H:Hp) (a:Addr) (o:HO):Hp:=fun b=>if b=a then some o else H b
theorem upd_same {H:Hp} {a:Addr} {o:HO}:upd H a o a=some o:=by unfold upd;rw [if_pos rfl]
theorem upd_ne {H:Hp} {a b:Addr} {o:HO} (h:b ≠ a):upd H a o b=H b:=by unfold upd;rw [if_neg h]
theorem ne_of_none {H:Hp} {a b:Addr} {o:HO} (h:H a=some o) (h':H b=none):a ≠ b:=by
 intro e;subst e;rw [h] at h';cases h'
section
variable (P:Program) (w:World)
def ObjOk (H:Hp) (h:Heap) (a:Addr):HO->Prop
 | .lst xs=>xs.length<=sizeLine/\∃ (its:List Value) (n:Nat),Vals xs its/\h.get? a=some { cls:=.type "list",data:=.seq its.toArray n }
 | .tup xs=>xs.length<=sizeLine/\∃ its:List Value,Vals xs its/\IsTup h a its.toArray
 | .dK kvs=>kvs.length<=sizeLine/\(a == sysModules)=false/\∃ vs,KV kvs vs/\h.DictOf (mixKind P w) a vs
 | .dT kvs=>kvs.length<=sizeLine/\(a == sysModules)=false/\∃ xs:List (List Key × Addr × Value),
   Paired (fun (p:List Key × V) (q:List Key × Addr × Value)=>p.1=q.1/\H q.2.1=some (.tup (p.1.map kV))/\RelV p.2 q.2.2) kvs xs ∧
   ∃ o es ep,h.get? a=some o/\o.ExactDict/\o.data=.dict es ep/\es.toList=xs.map (entryOfKey (tupleKind (mixKind P w)))/\(xs.map (·.1)).Nodup
 | .set S n=>h.SetOf (intKind P w) a S n
 | .ins C dx fs=>H dx=some (.own a)/\fs.length<=1000/\dx ≠ a/\h.get? a=some (PySem.W.instObj C dx) ∧
   ∃ mA,h.Ns1 dx mA/\(∀ f,RelO (fs.lookup f) (mA f))/\PySem.Within mA (fs.map (·.1))
 | .own _=>∃ o,h.get? a=some o
 | .xd fs=>∃ mA,h.Ns1 a mA/\∀ f,RelO (fs.lookup f) (mA f)
 | .rng lo hi=>∃ t u v,h.get? a=some { cls:=.type "range",data:=.fields #[.int lo t,.int hi u,.int 1 v] }
 | .frz o u=>h.get? a=some o/\ObjOk H h a u
 | .tbl ps=>h.get? a=some { cls:=.none,data:=.fields ps }
 | .met f x=>h.get? a=some (PySem.W.methodObj (.ref f) (.ref x))
 | .ext φ=>φ h/\(∃ o,h.get? a=some o)/\∀ h1 h2:Heap,φ h1->(∀ o,h1.get? a=some o->h2.get? a=some o)->φ h2
def HOk (H:Hp) (h:Heap):Prop:=∀ a o,H a=some o->ObjOk P w H h a o
end
section
variable {P:Program} {w:World} {H H':Hp} {h h':Heap} {a:Addr} {o:HO}
theorem ObjOk.lt (x:ObjOk P w H h a o):a < h.objs.size:=by
 cases o with
 | lst xs=>obtain ⟨_,_,_,_,e⟩:=x;exact Heap.lt_size e
 | tup xs=>obtain ⟨_,_,_,p⟩:=x;exact p.lt
 | dK kvs=>obtain ⟨_,_,_,_,o,_,_,e,_⟩:=x;exact Heap.lt_size e
 | dT kvs=>obtain ⟨_,_,_,_,o,_,_,e,_⟩:=x;exact Heap.lt_size e
 | set S n=>obtain ⟨o,_,_,_,e,_⟩:=x;exact Heap.lt_size e
 | ins C dx fs=>obtain ⟨_,_,_,e,_⟩:=x;exact Heap.lt_size e
 | own y=>obtain ⟨_,e⟩:=x;exact Heap.lt_size e
 | xd fs=>obtain ⟨_,⟨_,_,_,e,_⟩,_⟩:=x;exact Heap.lt_size e
 | rng lo hi=>obtain ⟨_,_,_,e⟩:=x;exact Heap.lt_size e
 | frz ob u=>obtain ⟨e,_⟩:=x;exact Heap.lt_size e
 | tbl ps=>exact Heap.lt_size (show h.get? a=some _ from x)
 | met f y=>exact Heap.lt_size (show h.get? a=some _ from x)
 | ext φ=>obtain ⟨_,⟨_,e⟩,_⟩:=x;exact Heap.lt_size e
theorem Paired.mapP {α β:Type} {F G:α->β->Prop}:∀ {l₁:List α} {l₂:List β},Paired F l₁ l₂->(∀ a b,F a b->G a b)->Paired G l₁ l₂
 | _,_,.nil,_=>.nil
 | _,_,.cons r t,f=>.cons (f _ _ r) (Paired.mapP t f)
theorem ObjOk.stay (x:ObjOk P w H h a o) (k:∀ b u,(b=a\/H b=some (.own a))->h.get? b=some u->h'.get? b=some u)
  (ho:∀ b,H b=some (.own a)->H' b=some (.own a)) (ht:∀ b xs,H b=some (.tup xs)->H' b=some (.tup xs)):ObjOk P w H' h' a o:=by
 induction o with
 | lst xs=>obtain ⟨z,its,n,r,e⟩:=x;exact ⟨z,its,n,r,k _ _ (.inl rfl) e⟩
 | tup xs=>obtain ⟨z,its,r,ob,e,c⟩:=x;exact ⟨z,its,r,ob,k _ _ (.inl rfl) e,c⟩
 | dK kvs=>obtain ⟨z,y,vs,r,ob,es,ep,e,c⟩:=x;exact ⟨z,y,vs,r,ob,es,ep,k _ _ (.inl rfl) e,c⟩
 | dT kvs=>
  obtain ⟨z,y,xs,r,ob,es,ep,e,c⟩:=x
  exact ⟨z,y,xs,Paired.mapP r fun p q z=>⟨z.1,ht _ _ z.2.1,z.2.2⟩,ob,es,ep,k _ _ (.inl rfl) e,c⟩
 | set S n=>obtain ⟨ob,es,ep,t,e,c⟩:=x;exact ⟨ob,es,ep,t,k _ _ (.inl rfl) e,c⟩
 | ins C dx fs=>
  obtain ⟨d,z,ne,e,mA,⟨od,es,ep,e2,c⟩,r⟩:=x
  exact ⟨ho _ d,z,ne,k _ _ (.inl rfl) e,mA,⟨od,es,ep,k _ _ (.inr d) e2,c⟩,r⟩
 | own y=>obtain ⟨ob,e⟩:=x;exact ⟨ob,k _ _ (.inl rfl) e⟩
 | xd fs=>obtain ⟨mA,⟨od,es,ep,e,c⟩,r⟩:=x;exact ⟨mA,⟨od,es,ep,k _ _ (.inl rfl) e,c⟩,r⟩
 | rng lo hi=>obtain ⟨t,u,v,e⟩:=x;exact ⟨t,u,v,k _ _ (.inl rfl) e⟩
 | frz ob u ih=>obtain ⟨e,q⟩:=x;exact ⟨k _ _ (.inl rfl) e,ih q⟩
 | tbl ps=>
  have e:h.get? a=some { cls:=.none,data:=.fields ps }:=x
  show h'.get? a=some { cls:=.none,data:=.fields ps }
  exact k a _ (.inl rfl) e
 | met f y=>
  have e:h.get? a=some (PySem.W.methodObj (.ref f) (.ref y)):=x
  show h'.get? a=some (PySem.W.methodObj (.ref f) (.ref y))
  exact k a _ (.inl rfl) e
 | ext φ=>obtain ⟨p,⟨o,e⟩,st⟩:=x;exact ⟨st _ _ p fun o q=>k _ _ (.inl rfl) q,⟨o,k _ _ (.inl rfl) e⟩,st⟩
theorem HOk.lt (x:HOk P w H h) (e:H a=some o):a < h.objs.size:=(x a o e).lt
theorem HOk.fresh (x:HOk P w H h) (e:h.objs.size<=a):H a=none:=by
 cases q:H a with
 | none=>rfl
 | some u=>exact absurd (Nat.lt_of_lt_of_le (x.lt q) e) (Nat.lt_irrefl _)
theorem HOk.kept (x:HOk P w H h) (k:∀ b u,h.get? b=some u->h'.get? b=some u):HOk P w H h':=fun a o e=>
 (x a o e).stay (fun b u _ q=>k b u q) (fun _ q=>q) fun _ _ q=>q
theorem HOk.laid (x:HOk P w H h) (k:∀ b u,h.get? b=some u->h'.get? b=some u) (hp:h.objs.size<=a) (new:ObjOk P w (upd H a o) h' a o):HOk P w (upd H a o) h':=fun b u e=>by
 have hn:=x.fresh hp
 by_cases hb:b=a
 ·subst hb;rw [upd_same] at e;cases e;exact new
 ·rw [upd_ne hb] at e
  exact (x b u e).stay (fun c v _ q=>k c v q) (fun c q=>by rw [upd_ne (ne_of_none q hn)];exact q) fun c xs q=>by rw [upd_ne (ne_of_none q hn)];exact q
end
def Rd (H:Hp) (a:Addr) (u:HO):Prop:=H a=some u\/∃ o,H a=some (.frz o u)
theorem Rd.of {H:Hp} {a:Addr} {u:HO} (h:H a=some u):Rd H a u:=.inl h
theorem Rd.ok {P:Program} {w:World} {H:Hp} {h:Heap} {a:Addr} {u:HO} (r:Rd H a u) (x:HOk P w H h):ObjOk P w H h a u:=by
 rcases r with r | ⟨o,r⟩
 ·exact x a u r
 ·obtain ⟨_,q⟩:=x a _ r
  exact q
def Mut:Option HO->Prop
 | some (.lst _)=>True
 | some (.dK _)=>True
 | some (.dT _)=>True
 | some (.set _ _)=>True
 | some (.ins _ _ _)=>True
 | some (.ext _)=>True
 | _=>False
section
variable {P:Program} {w:World} {H:Hp} {h h':Heap} {x e:Addr} {o':HO}
theorem HOk.write (ok:HOk P w H h) (mu:Mut (H x)) (he:e=x\/H e=some (.own x)) (k:∀ b u,b ≠ e->h.get? b=some u->h'.get? b=some u) (heo:∃ u,h'.get? e=some u)
  (new:ObjOk P w (upd H x o') h' x o'):HOk P w (upd H x o') h':=fun b u q=>by
 have nown:∀ c y,H c=some (.own y)->c ≠ x:=fun c y r z=>by subst z;rw [r] at mu;exact mu
 have ntup:∀ c xs,H c=some (.tup xs)->c ≠ x:=fun c xs r z=>by subst z;rw [r] at mu;exact mu
 by_cases hb:b=x
 ·subst hb;rw [upd_same] at q;cases q;exact new
 ·rw [upd_ne hb] at q
  by_cases hbe:b=e
  ·have q':H b=some (.own x):=by
    rcases he with z | z
    ·exact absurd (hbe.trans z) hb
    ·rw [hbe];exact z
   rw [q] at q';cases q'
   obtain ⟨v,hv⟩:=heo
   exact ⟨v,by rw [hbe];exact hv⟩
  ·refine (ok b u q).stay (fun c v hc r=>k c v ?_ r) (fun c r=>by rw [upd_ne (nown c b r)];exact r) fun c xs r=>by rw [upd_ne (ntup c xs r)];exact r
   rcases hc with rfl | hc
   ·exact hbe
   ·rintro rfl
    rcases he with z | z
    ·exact nown c b hc z
    ·rw [hc] at z;cases z;exact hb rfl
end
structure Un (fs ex:List Addr) (H H':Hp) (h h':Heap):Prop where
 keep:∀ b o,h.get? b=some o->H b=none->b ∉ fs->b ∉ ex->h'.get? b=some o
 slot:∀ b o,h.get? b=some o->H b=none->b∈fs->b ∉ ex->∃ sl,h'.get? b=some { o with slots:=sl }
 free:∀ b o,h.get? b=some o->H b=none->b ∉ ex->H' b=none
 there:∀ b o,h.get? b=some o->b ∉ ex->∃ o',h'.get? b=some o'
 tups:∀ b xs,H b=some (.tup xs)->H' b=some (.tup xs)
 frzs:∀ b o u,H b=some (.frz o u)->H' b=some (.frz o u)
 tbls:∀ b ps,H b=some (.tbl ps)->∃ more,H' b=some (.tbl (ps++more))
section
variable {fs fs' ex ex':List Addr} {H H1 H2:Hp} {h h1 h2 h':Heap} {a x e:Addr} {o:HO}
theorem Un.any (u:Un fs ex H H1 h h1) {b:Addr} {ob:Obj} (q:h.get? b=some ob) (n:H b=none) (hx:b ∉ ex):∃ sl,h1.get? b=some { ob with slots:=sl }:=by
 by_cases hb:b∈fs
 ·exact u.slot b ob q n hb hx
 ·exact ⟨ob.slots,u.keep b ob q n hb hx⟩
theorem Un.trans (a:Un fs ex H H1 h h1) (b:Un fs ex H1 H2 h1 h2):Un fs ex H H2 h h2 where
 keep:=fun c ob q n hc hx=>b.keep c ob (a.keep c ob q n hc hx) (a.free c ob q n hx) hc hx
 slot:=fun c ob q n hc hx=>by
  obtain ⟨sl,e1⟩:=a.slot c ob q n hc hx
  obtain ⟨sl',e2⟩:=b.slot c _ e1 (a.free c ob q n hx) hc hx
  exact ⟨sl',e2⟩
 free:=fun c ob q n hx=>by
  obtain ⟨o',e1⟩:=a.there c ob q hx
  exact b.free c o' e1 (a.free c ob q n hx) hx
 there:=fun c ob q hx=>by
  obtain ⟨o',e1⟩:=a.there c ob q hx
  exact b.there c o' e1 hx
 tups:=fun c xs q=>b.tups c xs (a.tups c xs q)
 frzs:=fun c ob xs q=>b.frzs c ob xs (a.frzs c ob xs q)
 tbls:=fun c ps q=>by
  obtain ⟨m1,e1⟩:=a.tbls c ps q
  obtain ⟨m2,e2⟩:=b.tbls c _ e1
  exact ⟨m1++m2,by rw [e2,Array.append_assoc]⟩
theorem Un.kept (k:∀ b u,h.get? b=some u->h'.get? b=some u):Un fs ex H H h h':=
 ⟨fun b ob q _ _ _=>k b ob q,fun b ob q _ _ _=>⟨ob.slots,k b ob q⟩,fun _ _ _ n _=>n,fun b ob q _=>⟨ob,k b ob q⟩,fun _ _ q=>q,fun _ _ _ q=>q,fun _ ps q=>⟨#[],by rw [q];simp⟩⟩
theorem Un.refl:Un fs ex H H h h:=Un.kept fun _ _ q=>q
theorem Un.laid (k:∀ b u,h.get? b=some u->h'.get? b=some u) (hp:h.objs.size<=a) (hn:H a=none):Un fs ex H (upd H a o) h h' where
 keep:=fun b u q _ _ _=>k b u q
 slot:=fun b u q _ _ _=>⟨u.slots,k b u q⟩
 free:=fun b u q n _=>by rw [upd_ne (Nat.ne_of_lt (Nat.lt_of_lt_of_le (Heap.lt_size q) hp))];exact n
 there:=fun b u q _=>⟨u,k b u q⟩
 tups:=fun b xs q=>by rw [upd_ne (ne_of_none q hn)];exact q
 frzs:=fun b u xs q=>by rw [upd_ne (ne_of_none q hn)];exact q
 tbls:=fun b ps q=>⟨#[],by rw [upd_ne (ne_of_none q hn),q];simp⟩
theorem Un.write (mu:Mut (H x)) (he:e=x\/H e=some (.own x)) (k:∀ b u,b ≠ e->h.get? b=some u->h'.get? b=some u) (heo:∃ u,h'.get? e=some u):Un fs ex H (upd H x o) h h':=by
 have hx:∀ b,H b=none->b ≠ x:=fun b n z=>by subst z;rw [n] at mu;exact mu
 have hb:∀ b,H b=none->b ≠ e:=fun b n z=>by
  subst z
  rcases he with r | r
  ·exact hx b n r
  ·rw [n] at r;cases r
 have hm:∀ b u,H b=some u->¬ Mut (some u)->b ≠ x:=fun b u q nm z=>by subst z;rw [q] at mu;exact nm mu
 refine ⟨fun b u q n _ _=>k b u (hb b n) q,fun b u q n _ _=>⟨u.slots,k b u (hb b n) q⟩,fun b u q n _=>by rw [upd_ne (hx b n)];exact n,fun b u q _=>?_,
  fun b xs q=>by rw [upd_ne (hm b _ q fun z=>z)];exact q,fun b u xs q=>by rw [upd_ne (hm b _ q fun z=>z)];exact q,fun b ps q=>⟨#[],by rw [upd_ne (hm b _ q fun z=>z),q];simp⟩⟩
 by_cases hbe:b=e
 ·subst hbe;exact heo
 ·exact ⟨u,k b u hbe q⟩
theorem Un.mono (u:Un fs ex H H1 h h1) (hs:∀ b∈fs,b∈fs') (hx:∀ b∈ex,b∈ex'):Un fs' ex' H H1 h h1:=
 ⟨fun b ob q n hb he=>u.keep b ob q n (fun z=>hb (hs b z)) fun z=>he (hx b z),fun _ _ q n _ he=>u.any q n fun z=>he (hx _ z),fun b ob q n he=>u.free b ob q n fun z=>he (hx b z),fun b ob q he=>u.there b ob q fun z=>he (hx b z),u.tups,u.frzs,u.tbls⟩
end
def trk (h:Heap) (H:Hp):List Addr:=(List.range h.objs.size).filter fun a=>(H a).isSome
def hidT (h:Heap) (H:Hp):Heap:=PySem.W.hideAll h (trk h H)
theorem hidT_size (h:Heap) (H:Hp):(hidT h H).objs.size=h.objs.size:=PySem.W.hideAll_size _ _
theorem hidT_get {h:Heap} {H:Hp} {b:Addr} {o:Obj} (e:h.get? b=some o) (n:H b=none):(hidT h H).get? b=some o:=
 PySem.W.hideAll_get _ e fun hm=>by
  have q:(H b).isSome=true:=(List.mem_filter.mp hm).2
  rw [n] at q;simp at q
theorem of_hidT {h:Heap} {H:Hp} {b:Addr} {o:Obj} (e:(hidT h H).get? b=some o):h.get? b=some o/\H b=none:=by
 have e':h.get? b=some o:=PySem.W.of_hideAll (trk h H) e
 refine ⟨e',?_⟩
 cases q:H b with
 | none=>rfl
 | some x=>
  have hm:b∈trk h H:=List.mem_filter.mpr ⟨List.mem_range.mpr (Heap.lt_size e'),by simp [q]⟩
  have z:(hidT h H).get? b=none:=PySem.W.hideAll_none (trk h H) hm
  rw [z] at e;cases e
def allNews (g h:Heap) (L:Addr):List (Addr × Obj):=(List.range h.objs.size).filterMap fun a=>if a=L\/(g.get? a).isSome=true then none else (h.get? a).map fun o=>(a,o)
def rest (g h:Heap) (L d:Addr):List (Addr × Obj):=(allNews g h L).filter fun p=>decide (p.1 ≠ d)
end L2
namespace L2
open PySem PySem.Spec PyProof.Rows
structure Mod (K:PySem.W.Frag) (mg:Str->Option Value) (base:Heap):Prop where
 kin:K.In base
 glob:base.Ns mainGlobals mg
 blt:∃ mb,base.Ns builtinsNs mb/\∀ x:Str,x ≠ "__name__"->mb x=bootBuiltins x
 nolimit:base.NoLimit
structure Cx where
 prog:Program
 w:World
 K:PySem.W.Frag
 mg:Str->Option Value
 base:Heap
 A:Around
 N:List Str
 s₀:Shared
 H₀:Hp
 env:Env
 outer:List Env
 stack:List Env
 ex:List Addr
 fn:Str->Bool
 calm:Bool
 pn:List (Addr × Obj)
 xe:Value->Shared->Prop
def frs (l:List Env):List Addr:=l.filterMap (·.frame)
abbrev Cx.fs (X:Cx):List Addr:=frs X.outer
def Vis (sc:Scope) (x:Str):Prop:=sc.names.lookup x=some .local\/sc.names.lookup x=some .cell\/sc.names.lookup x=some .free
def Loc (sc:Scope) (x:Str):Prop:=sc.names.lookup x=some .local\/sc.names.lookup x=some .cell
def Look (env:Env) (h:Heap) (m:Str->Option Value) (x:Str) (u:Value):Prop:=
 (env.kindOf x=some .local/\m x=some u)\/((env.kindOf x=some .cell\/env.kindOf x=some .free)/\∃ c,env.cells.lookup x=some c/\h.IsCell c (some u))
structure Cx.Ok (X:Cx):Prop where
 mod:Mod X.K X.mg X.base
 kind:X.env.scope.kind=.function
 glob:X.env.globals=mainGlobals
 blt:X.env.builtins=builtinsNs
 above:X.s₀.heap.objs.size<=X.env.locals
 inj:∀ x y c,X.env.cells.lookup x=some c->X.env.cells.lookup y=some c->x=y
 has:∀ x,(X.env.kindOf x=some .cell\/X.env.kindOf x=some .free)->∃ c,X.env.cells.lookup x=some c
 cab:∀ x c,X.fn x=true->X.env.cells.lookup x=some c->X.s₀.heap.objs.size<=c
 hd:X.calm=true->X.A.handled=none
 frames:X.A.frames=some X.stack
 stk:X.stack=X.outer\/(X.stack=X.env::X.outer/\X.env.frame=some X.env.locals)
 exf:∀ b∈X.ex,b ≠ X.env.locals/\∀ x c,X.env.cells.lookup x=some c->c ≠ b
 bs:∀ b o,X.base.get? b=some o->X.s₀.heap.get? b=some o/\X.H₀ b=none
 bsz:X.base.objs.size<=X.s₀.heap.objs.size
 noex:∀ b o,X.base.get? b=some o->b ∉ X.ex
 exfs:∀ b∈X.ex,b ∉ X.fs
 funs:X.s₀.heap.FunFrames X.base X.outer
 frf:∀ b∈X.fs,X.H₀ b=none
structure Inv (X:Cx) (pins:List (Addr × Obj)) (σ:List (Option V)) (H:Hp) (s:Shared):Prop where
 ok:X.Ok
 os:s.os=X.s₀.os
 bare:AllBare s.gens
 base:Un X.fs X.ex X.H₀ H X.s₀.heap s.heap
 loc:∃ m,s.heap.Ns X.env.locals m/\∀ (i:Nat) (x:Str) (v:V),X.N[i]?=some x->σ[i]?=some (some v)->Vis X.env.scope x->∃ u,RelV v u/\Look X.env s.heap m x u
 cell:∀ x c,X.env.cells.lookup x=some c->∃ v,s.heap.IsCell c v
 free:H X.env.locals=none
 freeC:∀ x c,X.env.cells.lookup x=some c->H c=none
 pin:∀ p∈X.pn++pins,s.heap.get? p.1=some p.2/\H p.1=none/\p.1 ≠ X.env.locals/\p.1 ∉ X.fs/\∀ v,p.2.data ≠ .cell v
 hok:HOk X.prog X.w H s.heap
 len:σ.length=X.N.length
section
variable {X:Cx} {pins:List (Addr × Obj)} {σ:List (Option V)} {H H':Hp} {s:Shared} {h':Heap}
theorem Cx.Ok.nofr (ok:X.Ok) {b:Addr} {o:Obj} (e:X.base.get? b=some o):b ∉ X.fs:=fun hb=>by
 have:=(ok.funs.mem hb).1
 rw [e] at this;cases this
theorem Inv.bs (I:Inv X pins σ H s):∀ b o,X.base.get? b=some o->s.heap.get? b=some o/\H b=none:=fun b o e=>
 ⟨I.base.keep b o (I.ok.bs b o e).1 (I.ok.bs b o e).2 (I.ok.nofr e) (I.ok.noex b o e),I.base.free b o (I.ok.bs b o e).1 (I.ok.bs b o e).2 (I.ok.noex b o e)⟩
theorem Inv.bk (I:Inv X pins σ H s):∀ b o,X.base.get? b=some o->s.heap.get? b=some o:=fun b o e=>(I.bs b o e).1
theorem Inv.mod (I:Inv X pins σ H s):Mod X.K X.mg X.base:=I.ok.mod
theorem Inv.kIn (I:Inv X pins σ H s):X.K.In s.heap:=I.ok.mod.kin.keeps I.bk
theorem Inv.nolimit (I:Inv X pins σ H s):s.heap.NoLimit:=I.ok.mod.nolimit.keeps I.bk
theorem Inv.fr (I:Inv X pins σ H s):∃ m,Fr X.base X.env.locals s.heap m:=
 let ⟨m,hn,_⟩:=I.loc
 ⟨m,hn,I.bk,Nat.le_trans I.ok.bsz I.ok.above⟩
theorem Inv.lt (I:Inv X pins σ H s):X.env.locals < s.heap.objs.size:=let ⟨_,hn,_⟩:=I.loc;hn.lt
theorem Inv.sz (I:Inv X pins σ H s):X.s₀.heap.objs.size<=s.heap.objs.size:=Nat.le_trans I.ok.above (Nat.le_of_lt I.lt)
theorem Inv.nofs (I:Inv X pins σ H s) {a:Addr} (h:s.heap.objs.size<=a):a ∉ X.fs:=fun hb=>by
 obtain ⟨_,o,ho,_⟩:=I.ok.funs.mem hb
 exact absurd (Nat.lt_of_lt_of_le (Heap.lt_size ho) (Nat.le_trans I.sz h)) (Nat.lt_irrefl _)
theorem Inv.cne (I:Inv X pins σ H s):∀ x c,X.env.cells.lookup x=some c->c ≠ X.env.locals:=fun x c e z=>by
 obtain ⟨v,o,ho,hd⟩:=I.cell x c e
 obtain ⟨m,⟨o',es,ep,ho',hd',_⟩,_⟩:=I.loc
 rw [z,ho'] at ho;cases ho;rw [hd'] at hd;cases hd
theorem Inv.funs (I:Inv X pins σ H s):s.heap.FunFrames X.base X.outer:=by
 have all:∀ (l:List Env),(∀ b∈frs l,b∈X.fs)->X.s₀.heap.FunFrames X.base l->s.heap.FunFrames X.base l:=by
  intro l
  induction l with
  | nil=>intro _ _;trivial
  | cons env r ih=>
   intro hs hl
   obtain ⟨hk,⟨L,o,hf,hn,ho,hd⟩,hr⟩:=hl
   have hL:L∈X.fs:=hs L (by unfold frs;rw [List.filterMap_cons,hf];exact List.mem_cons_self)
   obtain ⟨sl,e⟩:=I.base.slot L o ho (I.ok.frf L hL) hL fun z=>I.ok.exfs L z hL
   exact ⟨hk,⟨L,_,hf,hn,e,hd⟩,ih (fun b hb=>hs b (by unfold frs;rw [List.filterMap_cons,hf];exact List.mem_cons_of_mem _ hb)) hr⟩
 exact all X.outer (fun _ hb=>hb) I.ok.funs
theorem Inv.stack (I:Inv X pins σ H s):s.heap.FunFrames X.base X.stack:=by
 rcases I.ok.stk with e | ⟨e,hf⟩
 ·rw [e];exact I.funs
 ·rw [e]
  obtain ⟨m,hn,_⟩:=I.loc
  refine .cons (by rw [I.ok.kind];decide) hf hn ?_ I.funs
  exact Heap.get?_none_of_le (Nat.le_trans I.ok.bsz I.ok.above)
theorem Inv.stkSub (I:Inv X pins σ H s):∀ b∈frs X.stack,b∈X.env.locals::X.fs:=fun b hb=>by
 rcases I.ok.stk with e | ⟨e,hf⟩
 ·rw [e] at hb;exact List.mem_cons_of_mem _ hb
 ·rw [e] at hb
  unfold frs at hb
  rw [List.filterMap_cons,hf] at hb
  exact hb
theorem Inv.stkFree (I:Inv X pins σ H s):∀ b∈frs X.stack,H b=none:=fun b hb=>by
 rcases List.mem_cons.mp (I.stkSub b hb) with e | hb
 ·rw [e];exact I.free
 ·obtain ⟨_,o,ho,_⟩:=I.ok.funs.mem hb
  exact I.base.free b o ho (I.ok.frf b hb) fun z=>I.ok.exfs b z hb
theorem Inv.step {g':Array GenState} {t':Nat} {d':Drawn} {ch:List Addr} (I:Inv X pins σ H s)
  (hch:∀ b∈ch,(b∈X.ex\/X.s₀.heap.objs.size<=b)/\b ≠ X.env.locals/\(∀ x c,X.env.cells.lookup x=some c->c ≠ b)/\∀ p∈X.pn++pins,p.1 ≠ b)
  (keep:∀ b o,b ≠ X.env.locals->b ∉ X.fs->b ∉ ch->s.heap.get? b=some o->H b=none->h'.get? b=some o)
  (slot:∀ b o,b ≠ X.env.locals->b∈X.fs->b ∉ ch->s.heap.get? b=some o->H b=none->∃ sl,h'.get? b=some { o with slots:=sl }) (free:∀ b o,b ∉ ch->s.heap.get? b=some o->H b=none->H' b=none)
  (there:∀ b o,b ∉ ch->s.heap.get? b=some o->∃ o',h'.get? b=some o')
  (tups:∀ b xs,H b=some (.tup xs)->H' b=some (.tup xs)) (frzs:∀ b o u,H b=some (.frz o u)->H' b=some (.frz o u)) (tbls:∀ b ps,H b=some (.tbl ps)->∃ more,H' b=some (.tbl (ps++more)))
  (ns:∀ m,s.heap.Ns X.env.locals m->h'.Ns X.env.locals m) (hok:HOk X.prog X.w H' h') (hg:AllBare g') :
  Inv X pins σ H' { s with heap:=h',gens:=g',drawn:=d',toks:=t' }:=by
 have neL:∀ b o,X.s₀.heap.get? b=some o->b ≠ X.env.locals:=fun b o e=>Nat.ne_of_lt (Nat.lt_of_lt_of_le (Heap.lt_size e) I.ok.above)
 have neC:∀ b o,X.s₀.heap.get? b=some o->b ∉ X.ex->b ∉ ch:=fun b o e hx hb=>by
  rcases (hch b hb).1 with z | z
  ·exact hx z
  ·exact absurd (Nat.lt_of_lt_of_le (Heap.lt_size e) z) (Nat.lt_irrefl _)
 have cellK:∀ x c,X.env.cells.lookup x=some c->∀ v,s.heap.IsCell c v->h'.IsCell c v:=fun x c e v ⟨o,ho,hd⟩=>by
  have nch:c ∉ ch:=fun z=>(hch c z).2.2.1 x c e rfl
  by_cases hc:c∈X.fs
  ·obtain ⟨sl,q⟩:=slot c o (I.cne x c e) hc nch ho (I.freeC x c e)
   exact ⟨_,q,hd⟩
  ·exact ⟨o,keep c o (I.cne x c e) hc nch ho (I.freeC x c e),hd⟩
 refine ⟨I.ok,I.os,hg,⟨fun b o e n hb hx=>?_,fun b o e n hb hx=>?_,fun b o e n hx=>?_,fun b o e hx=>?_,fun b xs e=>tups b xs (I.base.tups b xs e),fun b o xs e=>frzs b o xs (I.base.frzs b o xs e),fun b ps e=>?_⟩,?_,fun x c e=>?_,?_,fun x c e=>?_,fun p hp=>?_,hok,I.len⟩
 ·exact keep b o (neL b o e) hb (neC b o e hx) (I.base.keep b o e n hb hx) (I.base.free b o e n hx)
 ·obtain ⟨sl,e1⟩:=I.base.slot b o e n hb hx
  obtain ⟨sl',e2⟩:=slot b _ (neL b o e) hb (neC b o e hx) e1 (I.base.free b o e n hx)
  exact ⟨sl',e2⟩
 ·obtain ⟨o',e1⟩:=I.base.there b o e hx
  exact free b o' (neC b o e hx) e1 (I.base.free b o e n hx)
 ·obtain ⟨o',e1⟩:=I.base.there b o e hx
  exact there b o' (neC b o e hx) e1
 ·obtain ⟨m1,e1⟩:=I.base.tbls b ps e
  obtain ⟨m2,e2⟩:=tbls b _ e1
  exact ⟨m1++m2,by rw [e2,Array.append_assoc]⟩
 ·obtain ⟨m,hn,hl⟩:=I.loc
  refine ⟨m,ns m hn,fun i x v e1 e2 e3=>?_⟩
  obtain ⟨u,r,l⟩:=hl i x v e1 e2 e3
  refine ⟨u,r,?_⟩
  rcases l with l | ⟨k,c,e,z⟩
  ·exact .inl l
  ·exact .inr ⟨k,c,e,cellK x c e _ z⟩
 ·obtain ⟨v,z⟩:=I.cell x c e
  exact ⟨v,cellK x c e v z⟩
 ·obtain ⟨m,⟨o,_,_,ho,_⟩,_⟩:=I.loc
  exact free _ o (fun z=>(hch _ z).2.1 rfl) ho I.free
 ·obtain ⟨v,o,ho,hd⟩:=I.cell x c e
  exact free c o (fun z=>(hch c z).2.2.1 x c e rfl) ho (I.freeC x c e)
 ·obtain ⟨e,n,ne,nf,d⟩:=I.pin p hp
  have nch:p.1 ∉ ch:=fun z=>(hch p.1 z).2.2.2 p hp rfl
  exact ⟨keep p.1 p.2 ne nf nch e n,free p.1 p.2 nch e n,ne,nf,d⟩
theorem Inv.un {t':Nat} (I:Inv X pins σ H s) (u:Un X.fs [] H H' s.heap h') (hok:HOk X.prog X.w H' h'):Inv X pins σ H' { s with heap:=h',toks:=t' }:=by
 obtain ⟨m,⟨o,es,ep,ho,r⟩,_⟩:=id I.loc
 obtain ⟨sl,hL⟩:=u.any ho I.free (by simp)
 exact I.step (g':=s.gens) (d':=s.drawn) (ch:=[]) (fun _ z=>nomatch z) (fun b o _ hb _ e n=>u.keep b o e n hb (by simp)) (fun b o _ hb _ e n=>u.slot b o e n hb (by simp)) (fun b o _ e n=>u.free b o e n (by simp)) (fun b o _ e=>u.there b o e (by simp)) u.tups u.frzs u.tbls (fun m' hm=>by
  obtain ⟨o',es',ep',ho',r'⟩:=hm
  rw [ho] at ho';cases ho'
  exact ⟨_,es',ep',hL,r'⟩) hok I.bare
theorem Inv.call {g':Array GenState} {t':Nat} {d':Drawn} {ch:List Addr} (I:Inv X pins σ H s) (u:Un (frs X.stack) ch H H' s.heap h') (hok:HOk X.prog X.w H' h') (hg:AllBare g')
  (hch:∀ b∈ch,(b∈X.ex\/X.s₀.heap.objs.size<=b)/\b ≠ X.env.locals/\(∀ x c,X.env.cells.lookup x=some c->c ≠ b)/\∀ p∈X.pn++pins,p.1 ≠ b) :
  Inv X pins σ H' { s with heap:=h',gens:=g',drawn:=d',toks:=t' }:=by
 obtain ⟨m,⟨o,es,ep,ho,r⟩,_⟩:=id I.loc
 obtain ⟨sl,hL⟩:=u.any ho I.free fun z=>(hch _ z).2.1 rfl
 exact I.step (ch:=ch) hch (fun b o hL hb hc e n=>u.keep b o e n (fun z=>(List.mem_cons.mp (I.stkSub b z)).elim hL hb) hc) (fun b o _ _ hc e n=>u.any e n hc) (fun b o hc e n=>u.free b o e n hc) (fun b o hc e=>u.there b o e hc) u.tups u.frzs u.tbls (fun m' hm=>by
  obtain ⟨o',es',ep',ho',r'⟩:=hm
  rw [ho] at ho';cases ho'
  exact ⟨_,es',ep',hL,r'⟩) hok hg
theorem Inv.turned {t':Nat} {it:Addr} (I:Inv X pins σ H s) (k:∀ b o,b ≠ it->s.heap.get? b=some o->h'.get? b=some o) (hn:H it=none) (hL:it ≠ X.env.locals)
  (h1:it∈X.ex\/X.s₀.heap.objs.size<=it) (h2:∀ x c,X.env.cells.lookup x=some c->c ≠ it) (h3:∀ p∈X.pn++pins,p.1 ≠ it):Inv X pins σ H { s with heap:=h',toks:=t' }:=by
 have nit:∀ b u,H b=some u->b ≠ it:=fun b u e z=>by rw [z,hn] at e;cases e
 refine I.step (g':=s.gens) (d':=s.drawn) (ch:=[it]) (fun b hb=>?_) (fun b o _ _ hc e _=>k b o (fun z=>hc (by simp [z])) e) (fun b o _ _ hc e _=>⟨o.slots,k b o (fun z=>hc (by simp [z])) e⟩) (fun _ _ _ _ n=>n)
  (fun b o hc e=>⟨o,k b o (fun z=>hc (by simp [z])) e⟩) (fun _ _ e=>e) (fun _ _ _ e=>e) (fun b ps e=>⟨#[],by rw [e];simp⟩) (fun m hm=>?_) (fun b u e=>?_) I.bare
 ·have e:b=it:=by simpa using hb
  subst e
  exact ⟨h1,hL,h2,h3⟩
 ·obtain ⟨o,es,ep,ho,r⟩:=hm
  exact ⟨o,es,ep,k _ o (Ne.symm hL) ho,r⟩
 ·refine (I.hok b u e).stay (fun c v hc q=>k c v ?_ q) (fun _ q=>q) fun _ _ q=>q
  rcases hc with z | z
  ·rw [z];exact nit b u e
  ·exact nit c _ z
theorem Inv.tok (I:Inv X pins σ H s) (t:Nat):Inv X pins σ H { s with toks:=t }:=I.un (h':=s.heap) (t':=t) Un.refl I.hok
theorem Inv.kept {t':Nat} (I:Inv X pins σ H s) (k:∀ b u,s.heap.get? b=some u->h'.get? b=some u):Inv X pins σ H { s with heap:=h',toks:=t' }:=I.un (Un.kept k) (I.hok.kept k)
theorem Inv.laid {a:Addr} {o:HO} {t':Nat} (I:Inv X pins σ H s) (k:∀ b u,s.heap.get? b=some u->h'.get? b=some u) (hp:s.heap.objs.size<=a) (new:ObjOk X.prog X.w (upd H a o) h' a o) :
  Inv X pins σ (upd H a o) { s with heap:=h',toks:=t' }:=I.un (Un.laid k hp (I.hok.fresh hp)) (I.hok.laid k hp new)
theorem Inv.write {x e:Addr} {o:HO} {t':Nat} (I:Inv X pins σ H s) (mu:Mut (H x)) (he:e=x\/H e=some (.own x)) (k:∀ b u,b ≠ e->s.heap.get? b=some u->h'.get? b=some u) (heo:∃ u,h'.get? e=some u)
  (new:ObjOk X.prog X.w (upd H x o) h' x o):Inv X pins σ (upd H x o) { s with heap:=h',toks:=t' }:=I.un (Un.write mu he k heo) (I.hok.write mu he k heo new)
theorem Inv.pins_of {pins':List (Addr × Obj)} (I:Inv X pins σ H s) (h:∀ p∈pins',s.heap.get? p.1=some p.2/\H p.1=none/\p.1 ≠ X.env.locals/\p.1 ∉ X.fs/\∀ v,p.2.data ≠ .cell v):Inv X pins' σ H s:=
 ⟨I.ok,I.os,I.bare,I.base,I.loc,I.cell,I.free,I.freeC,fun p hp=>(List.mem_append.mp hp).elim (fun z=>I.pin p (List.mem_append_left _ z)) (h p),I.hok,I.len⟩
theorem nodup_ix {N:List Str} (hN:N.Nodup) {i j:Nat} {x:Str} (a:N[i]?=some x) (b:N[j]?=some x):i=j:=by
 obtain ⟨h1,e1⟩:=List.getElem?_eq_some_iff.mp a
 obtain ⟨h2,e2⟩:=List.getElem?_eq_some_iff.mp b
 exact (List.getElem_inj hN).mp (e1.trans e2.symm)
theorem store_ok2 {M:Model} {A:Around} {E:Value->Shared->Prop} {i:Nat} {x:Str} {v:V} {u:Value} {Q:Unit->Shared->Prop} (I:Inv X pins σ H s) (hN:X.N.Nodup) (hi:X.N[i]?=some x) (hx:Loc X.env.scope x) (r:RelV v u)
  (h:∀ s',Inv X pins (σ.set i (some v)) H s'->(∃ a,Heap.SameBut a s.heap s'.heap/\(a=X.env.locals\/X.env.cells.lookup x=some a))->Q () s') (hf:X.fn x=true\/X.env.scope.names.lookup x=some .local:=by first | exact .inl rfl | exact .inr rfl | assumption):wpAny M A (storeName X.env x u) Q E s:=by
 obtain ⟨m,hn,hl⟩:=id I.loc
 have hcls:(X.env.scope.kind == .class || (X.env.scope.kind == .module && X.env.locals != X.env.globals))=false:=by rw [I.ok.kind];rfl
 have hiσ:i < σ.length:=by rw [I.len];exact (List.getElem?_eq_some_iff.mp hi).1
 have cne:=I.cne
 have tracked:∀ {a:Addr} {h':Heap},(∃ o,s.heap.get? a=some o/\H a=none)->Heap.SameBut a s.heap h'->HOk X.prog X.w H h':=fun {a h'} ha hs b ob e=>by
  obtain ⟨_,_,hfree⟩:=ha
  refine (I.hok b ob e).stay (fun c w' hc q=>(hs.2 c ?_).trans q) (fun _ q=>q) fun _ _ q=>q
  rintro rfl
  rcases hc with rfl | hc
  ·rw [hfree] at e;cases e
  ·rw [hfree] at hc;cases hc
 rcases hx with hk | hk
 ·refine wpAny_storeName_local hk hn (fun h' hn' hs=>?_) hcls
  obtain ⟨oL,_,_,hoL,_⟩:=id hn
  refine h _ ⟨I.ok,I.os,I.bare,⟨fun b o e n hb hx=>?_,fun b o e n hb hx=>?_,I.base.free,fun b o e hx=>?_,I.base.tups,I.base.frzs,I.base.tbls⟩,⟨_,hn',fun j y v' e1 e2 e3=>?_⟩,fun y c e=>?_,I.free,I.freeC,fun p hp=>?_,tracked ⟨oL,hoL,I.free⟩ hs,by simpa using I.len⟩ ⟨_,hs,.inl rfl⟩
  ·exact (hs.2 b (Nat.ne_of_lt (Nat.lt_of_lt_of_le (Heap.lt_size e) I.ok.above))).trans (I.base.keep b o e n hb hx)
  ·obtain ⟨sl,e1⟩:=I.base.slot b o e n hb hx
   exact ⟨sl,(hs.2 b (Nat.ne_of_lt (Nat.lt_of_lt_of_le (Heap.lt_size e) I.ok.above))).trans e1⟩
  ·obtain ⟨o',e1⟩:=I.base.there b o e hx
   exact ⟨o',(hs.2 b (Nat.ne_of_lt (Nat.lt_of_lt_of_le (Heap.lt_size e) I.ok.above))).trans e1⟩
  ·by_cases hj:j=i
   ·subst hj
    rw [hi] at e1;cases e1
    rw [List.getElem?_set_self hiσ] at e2
    cases e2
    exact ⟨u,r,.inl ⟨hk,by simp⟩⟩
   ·rw [List.getElem?_set_ne (Ne.symm hj)] at e2
    obtain ⟨u',r',q⟩:=hl j y v' e1 e2 e3
    refine ⟨u',r',?_⟩
    rcases q with ⟨k,e⟩ | ⟨k,c,e,z⟩
    ·refine .inl ⟨k,?_⟩
     have:y ≠ x:=fun e=>hj (nodup_ix hN e1 (e ▸ hi))
     simp [this,e]
    ·exact .inr ⟨k,c,e,z.sameBut hs (cne y c e)⟩
  ·obtain ⟨w',z⟩:=I.cell y c e
   exact ⟨w',z.sameBut hs (cne y c e)⟩
  ·obtain ⟨e,n,ne,nf,d⟩:=I.pin p hp
   exact ⟨(hs.2 p.1 ne).trans e,n,ne,nf,d⟩
 ·have hfn:X.fn x=true:=by
   rcases hf with z | z
   ·exact z
   ·rw [z] at hk;cases hk
  obtain ⟨c,hc⟩:=I.ok.has x (.inl hk)
  obtain ⟨w',z⟩:=I.cell x c hc
  refine wpAny_storeName_cell I.ok.kind hk hc z (fun h' hc' hs=>?_)
  obtain ⟨oc,hoc,hocd⟩:=id z
  refine h { s with heap:=h' } ⟨I.ok,I.os,I.bare,⟨fun b o e n hb hx=>?_,fun b o e n hb hx=>?_,I.base.free,fun b o e hx=>?_,I.base.tups,I.base.frzs,I.base.tbls⟩,⟨m,hn.sameBut hs (Ne.symm (cne x c hc)),fun j y v' e1 e2 e3=>?_⟩,fun y c' e=>?_,I.free,I.freeC,fun p hp=>?_,tracked ⟨oc,hoc,I.freeC x c hc⟩ hs,by simpa using I.len⟩ ⟨c,hs,.inr hc⟩
  ·exact (hs.2 b (Nat.ne_of_lt (Nat.lt_of_lt_of_le (Heap.lt_size e) (I.ok.cab x c hfn hc)))).trans (I.base.keep b o e n hb hx)
  ·obtain ⟨sl,e1⟩:=I.base.slot b o e n hb hx
   exact ⟨sl,(hs.2 b (Nat.ne_of_lt (Nat.lt_of_lt_of_le (Heap.lt_size e) (I.ok.cab x c hfn hc)))).trans e1⟩
  ·obtain ⟨o',e1⟩:=I.base.there b o e hx
   exact ⟨o',(hs.2 b (Nat.ne_of_lt (Nat.lt_of_lt_of_le (Heap.lt_size e) (I.ok.cab x c hfn hc)))).trans e1⟩
  ·by_cases hj:j=i
   ·subst hj
    rw [hi] at e1;cases e1
    rw [List.getElem?_set_self hiσ] at e2
    cases e2
    exact ⟨u,r,.inr ⟨.inl hk,c,hc,hc'⟩⟩
   ·rw [List.getElem?_set_ne (Ne.symm hj)] at e2
    obtain ⟨u',r',q⟩:=hl j y v' e1 e2 e3
    refine ⟨u',r',?_⟩
    rcases q with q | ⟨k,c',e,z'⟩
    ·exact .inl q
    ·refine .inr ⟨k,c',e,z'.sameBut hs ?_⟩
     rintro rfl
     exact hj (nodup_ix hN e1 (I.ok.inj _ _ _ e hc ▸ hi))
  ·by_cases hcc:c'=c
   ·subst hcc;exact ⟨_,hc'⟩
   ·obtain ⟨w2,z2⟩:=I.cell y c' e
    exact ⟨w2,z2.sameBut hs hcc⟩
  ·obtain ⟨e,n,ne,nf,d⟩:=I.pin p hp
   refine ⟨(hs.2 p.1 ?_).trans e,n,ne,nf,d⟩
   intro q
   rw [q,hoc] at e
   have q':oc=p.2:=Option.some.inj e
   exact d w' (by rw [<-q'];exact hocd)
theorem store_ok {M:Model} {A:Around} {E:Value->Shared->Prop} {i:Nat} {x:Str} {v:V} {u:Value} {Q:Unit->Shared->Prop} (I:Inv X pins σ H s) (hN:X.N.Nodup) (hi:X.N[i]?=some x) (hx:Loc X.env.scope x) (r:RelV v u)
  (h:∀ s',Inv X pins (σ.set i (some v)) H s'->Q () s') (hf:X.fn x=true\/X.env.scope.names.lookup x=some .local:=by first | exact .inl rfl | exact .inr rfl | assumption):wpAny M A (storeName X.env x u) Q E s:=
 store_ok2 I hN hi hx r (fun s' I' _=>h s' I') hf
end
abbrev XK:=Value->Option Addr->Hp->Prop
abbrev St:=List (Option V)
abbrev VK:=V->Hp->Prop
abbrev TE:=St->Hp->VK->Prop
abbrev TT:=St->Hp->(Bool->Hp->Prop)->Prop
abbrev TA:=St->Hp->(List V->Hp->Prop)->Prop
structure Ends where
 nx:St->Hp->Prop
 rt:VK
 bk:St->Hp->Prop:=fun _ _=>False
 ct:St->Hp->Prop:=fun _ _=>False
abbrev TS:=Ends->St->Hp->Prop
def EP (X:Cx) (pins:List (Addr × Obj)) (σ:St) (Q:VK) (u:Value) (s':Shared):Prop:=∃ v H',Inv X pins σ H' s'/\RelV v u/\Q v H'
def TP (X:Cx) (pins:List (Addr × Obj)) (σ:St) (Q:Bool->Hp->Prop) (b:Bool) (s':Shared):Prop:=∃ H',Inv X pins σ H' s'/\Q b H'
def AP (X:Cx) (pins:List (Addr × Obj)) (σ:St) (Q:List V->Hp->Prop) (us:List Value) (s':Shared):Prop:=∃ vs H',Inv X pins σ H' s'/\Vals vs us/\Q vs H'
def SP (X:Cx) (pins:List (Addr × Obj)) (D:Ends) (f:Flow) (s':Shared):Prop:=
 match f with
 | .next=>∃ σ' H',Inv X pins σ' H' s'/\D.nx σ' H'
 | .brk=>∃ σ' H',Inv X pins σ' H' s'/\D.bk σ' H'
 | .cont=>∃ σ' H',Inv X pins σ' H' s'/\D.ct σ' H'
 | .ret u=>∃ v σ' H',Inv X pins σ' H' s'/\RelV v u/\D.rt v H'
def PE (X:Cx) (e:Expr) (t:TE):Prop:=
 ∀ (pins:List (Addr × Obj)) (s:Shared) (σ:St) (H:Hp) (Q:VK),Inv X pins σ H s->t σ H Q->wpAny (model X.prog X.w) X.A (eval e X.env) (EP X pins σ Q) X.xe s
def PT (X:Cx) (e:Expr) (t:TT):Prop:=
 ∀ (pins:List (Addr × Obj)) (s:Shared) (σ:St) (H:Hp) (Q:Bool->Hp->Prop),Inv X pins σ H s->t σ H Q->wpAny (model X.prog X.w) X.A (isTrue e X.env (eval e X.env)) (TP X pins σ Q) X.xe s
def PW (X:Cx) (e:Expr) (t:TT):Prop:=
 ∀ (whole:Sem Value) (pins:List (Addr × Obj)) (s:Shared) (σ:St) (H:Hp) (Q:Bool->Hp->Prop),Inv X pins σ H s->t σ H Q->wpAny (model X.prog X.w) X.A (isTrue e X.env whole) (TP X pins σ Q) X.xe s
theorem PW.pt {X:Cx} {e:Expr} {t:TT} (h:PW X e t):PT X e t:=h _
def PA (X:Cx) (es:List Expr) (t:TA):Prop:=
 ∀ (pos:Pos) (pins:List (Addr × Obj)) (s:Shared) (σ:St) (H:Hp) (Q:List V->Hp->Prop),Inv X pins σ H s->t σ H Q->wpAny (model X.prog X.w) X.A (spliced (backTo pos (starEach es X.env))) (AP X pins σ Q) X.xe s
def PS (X:Cx) (st:Stmt) (t:TS):Prop:=
 ∀ (pins:List (Addr × Obj)) (s:Shared) (σ:St) (H:Hp) (D:Ends),Inv X pins σ H s->t D σ H->wpAny (model X.prog X.w) X.A (exec st X.env) (SP X pins D) X.xe s
def PSs (X:Cx) (st:List Stmt) (t:TS):Prop:=
 ∀ (pins:List (Addr × Obj)) (s:Shared) (σ:St) (H:Hp) (D:Ends),Inv X pins σ H s->t D σ H->wpAny (model X.prog X.w) X.A (execs st X.env) (SP X pins D) X.xe s
theorem thn {α:Type} {t:Sem α} {Q Q':α->Shared->Prop} {M:Model} {A:Around} {E:Value->Shared->Prop} {s:Shared} (h:wpAny M A t Q E s) (hQ:∀ a s,Q a s->Q' a s):wpAny M A t Q' E s:=wpAny_mono h hQ fun _ _ x=>x
end L2
namespace L2
open PySem PySem.Spec PyProof.Rows
section
variable {X:Cx}
def tVar (i:Nat):TE:=fun σ H Q=>∃ v,σ[i]?=some (some v)/\Q v H
def tC (v:V):TE:=fun _ H Q=>Q v H
theorem pe_var {i:Nat} {x:Str} {pos:Pos} (hN:X.N[i]?=some x) (hv:Vis X.env.scope x) (hd:(x == ("__debug__":Str))=false:=by decide) (hcd:(x == ("__classdict__":Str))=false:=by decide):PE X (.Name x pos) (tVar i):=by
 intro pins s σ H Q I h
 obtain ⟨v,e,h⟩:=h
 obtain ⟨m,hn,hl⟩:=I.loc
 obtain ⟨u,r,l⟩:=hl i x v hN e hv
 have fin:EP X pins σ Q u s:=⟨v,H,I,r,h⟩
 rcases l with ⟨hk,hm⟩ | ⟨hk,c,hc,hcell⟩
 ·exact wpAny_Name (wpAny_loadName_local I.ok.kind hk hn hm fin) hd
 ·rcases hk with hk | hk
  ·exact wpAny_Name (wpAny_loadName_cell I.ok.kind hk hc hcell fin) hd
  ·exact wpAny_Name (wpAny_loadName_free I.ok.kind hk hc hcell fin hcd) hd
theorem pe_int {i j pos}:PE X (.Constant (.int i) j pos) (tC (.int i)):=fun _ _ _ H _ I h=>wpAny_Constant_int ⟨.int i,H,I.tok _,⟨_,rfl⟩,h⟩
theorem pe_bl {b j pos}:PE X (.Constant (.bool b) j pos) (tC (.bl b)):=fun _ _ _ H _ I h=>Constant_bool ⟨.bl b,H,I,rfl,h⟩
def Gl (X:Cx) (x:Str):Prop:=X.env.kindOf x=some .globalImplicit
theorem ld_glob {E:Value->Shared->Prop} {pins:List (Addr × Obj)} {s:Shared} {σ:St} {H:Hp} {x:Str} {u:Value} {pos:Pos} {Q:Value->Shared->Prop} (I:Inv X pins σ H s) (hg:Gl X x) (hm:X.mg x=some u) (h:Q u s)
  (hd:(x == ("__debug__":Str))=false:=by decide):wpAny (model X.prog X.w) X.A (eval (.Name x pos) X.env) Q E s:=
 Calls.Name_function_global I.ok.kind hg (Calls.loadGlobal_global (by rw [I.ok.glob];exact I.mod.glob.keeps I.bk) hm h) hd
theorem ld_blt {E:Value->Shared->Prop} {pins:List (Addr × Obj)} {s:Shared} {σ:St} {H:Hp} {x:Str} {u:Value} {pos:Pos} {Q:Value->Shared->Prop} (I:Inv X pins σ H s) (hg:Gl X x) (hm:X.mg x=none) (hv:bootBuiltins x=some u) (h:Q u s)
  (hn:x ≠ "__name__":=by decide) (hd:(x == ("__debug__":Str))=false:=by decide):wpAny (model X.prog X.w) X.A (eval (.Name x pos) X.env) Q E s:=by
 obtain ⟨mb,h1,h2⟩:=I.mod.blt
 exact Calls.Name_function_global I.ok.kind hg (Calls.loadGlobal_builtin (by rw [I.ok.glob];exact I.mod.glob.keeps I.bk) hm (by rw [I.ok.blt];exact h1.keeps I.bk) ((h2 x hn).trans hv) h) hd
theorem pe_bltn {x:Str} {v:V} {u:Value} {pos:Pos} (hg:Gl X x) (hm:X.mg x=none) (hv:bootBuiltins x=some u) (r:RelV v u) (hn:x ≠ "__name__":=by decide) (hd:(x == ("__debug__":Str))=false:=by decide):PE X (.Name x pos) (tC v):=
 fun _ _ _ H _ I h=>ld_blt I hg hm hv ⟨v,H,I,r,h⟩ hn hd
variable {a b:Expr} {ta tb:TE} {pos:Pos}
def tB (t:TE):TT:=fun σ H Q=>t σ H fun x H1=>∃ c,x=.bl c/\Q c H1
theorem pt_val {e:Expr} {t:TE} (h:PE X e t) (he:∀ whole,isTrue e X.env whole=(do let v ← whole;standAt e.pos;holding [v] (truthy v)):=by intro _;rfl):PT X e (tB t):=by
 intro pins s σ H Q I hw
 refine isTrue_plain (thn (h pins s σ H _ I hw) fun v s1 ⟨x,H1,I1,r1,q1⟩=>?_) (he _)
 obtain ⟨d,rfl,q⟩:=q1
 cases r1
 exact wpAny_truthy_bool ⟨H1,I1,q⟩
variable {tA tB':TT} {rest:List Expr}
def tAnd (t u:TT):TT:=fun σ H Q=>t σ H fun c H1=>if c=true then u σ H1 Q else Q false H1
def tOr (t u:TT):TT:=fun σ H Q=>t σ H fun c H1=>if c=true then Q true H1 else u σ H1 Q
def tNot (t:TT):TT:=fun σ H Q=>t σ H fun c H1=>Q (!c) H1
theorem pw_and1 (ha:PT X a tA):PW X (.BoolOp .And [a] pos) tA:=by
 intro wh pins s σ H Q I h
 refine isTrue_and (thn (ha pins s σ H Q I h) fun c s1 e=>?_)
 cases c with
 | true=>exact isTrue_and_nil e
 | false=>exact e
theorem pw_or1 (ha:PT X a tA):PW X (.BoolOp .Or [a] pos) tA:=by
 intro wh pins s σ H Q I h
 refine isTrue_or (thn (ha pins s σ H Q I h) fun c s1 e=>?_)
 cases c with
 | false=>exact isTrue_or_nil e
 | true=>exact e
theorem pw_and (ha:PT X a tA) (hb:PW X (.BoolOp .And (b::rest) pos) tB'):PW X (.BoolOp .And (a::b::rest) pos) (tAnd tA tB'):=by
 intro wh pins s σ H Q I h
 refine isTrue_and (thn (ha pins s σ H _ I h) fun c s1 ⟨H1,I1,q1⟩=>?_)
 cases c with
 | true=>exact hb wh pins s1 σ H1 Q I1 q1
 | false=>exact ⟨H1,I1,q1⟩
theorem pw_or (ha:PT X a tA) (hb:PW X (.BoolOp .Or (b::rest) pos) tB'):PW X (.BoolOp .Or (a::b::rest) pos) (tOr tA tB'):=by
 intro wh pins s σ H Q I h
 refine isTrue_or (thn (ha pins s σ H _ I h) fun c s1 ⟨H1,I1,q1⟩=>?_)
 cases c with
 | true=>exact ⟨H1,I1,q1⟩
 | false=>exact hb wh pins s1 σ H1 Q I1 q1
theorem pt_not (ha:PT X a tA):PT X (.UnaryOp .Not a pos) (tNot tA):=by
 intro pins s σ H Q I h
 exact isTrue_not (ha pins s σ H (fun c H1=>Q (!c) H1) I h)
def tAndV (ta tb:TE):TE:=fun σ H Q=>ta σ H fun x H1=>∃ c,x=.bl c/\if c=true then tb σ H1 Q else Q (.bl false) H1
def tNotV (ta:TE):TE:=fun σ H Q=>ta σ H fun x H1=>∃ c,x=.bl c/\Q (.bl (!c)) H1
theorem pe_one {op} {t:TE} (h:PE X a t):PE X (.BoolOp op [a] pos) t:=fun pins s σ H Q I hw=>BoolOp_one (h pins s σ H Q I hw)
theorem pe_and (ha:PE X a ta) (hb:PE X (.BoolOp .And (b::rest) pos) tb):PE X (.BoolOp .And (a::b::rest) pos) (tAndV ta tb):=by
 intro pins s σ H Q I h
 refine BoolOp_and (thn (ha pins s σ H _ I h) fun v s1 ⟨x,H1,I1,r1,q1⟩=>?_)
 obtain ⟨c,rfl,q1⟩:=q1
 cases r1
 refine wpAny_truthy_bool ?_
 cases c with
 | true=>exact hb pins s1 σ H1 Q I1 q1
 | false=>exact ⟨.bl false,H1,I1,rfl,q1⟩
theorem pe_not (ha:PE X a ta):PE X (.UnaryOp .Not a pos) (tNotV ta):=by
 intro pins s σ H Q I h
 refine UnaryOp_ (thn (ha pins s σ H _ I h) fun v s1 ⟨x,H1,I1,r1,q1⟩=>?_)
 obtain ⟨c,rfl,q1⟩:=q1
 cases r1
 exact not_of (wpAny_truthy_bool ⟨.bl (!c),H1,I1,rfl,q1⟩)
end
end L2
namespace L2
open PySem PySem.Spec PyProof.Rows
def SqL (K:PySem.W.Frag) (H:Hp) (a:Addr) (xs:List V):Prop:=
 Rd H a (.lst xs) ∨
  ∃ (o:Obj) (its:Array Value) (n:Nat),K.lookup a=some o/\o.cls=.type "list"/\o.dict=none/\o.data=.seq its n/\its.size<=sizeLine/\Vals xs its.toList
def SqT (K:PySem.W.Frag) (H:Hp) (a:Addr) (xs:List V):Prop:=
 Rd H a (.tup xs) ∨
  ∃ (o:Obj) (its:Array Value) (n:Nat),K.lookup a=some o/\o.cls=.type "tuple"/\o.data=.seq its n/\its.size<=sizeLine/\Vals xs its.toList
def absV:Value->Option V
 | .none=>some .non
 | .bool b=>some (.bl b)
 | .int i _=>some (.int i)
 | .str x _=>some (.str x)
 | .bytes b _=>some (.byt b)
 | .float b _=>some (.flt b)
 | .ref a=>some (.ref a)
 | .type n=>some (.ty n)
 | _=>none
theorem RelV.abs {x:V} {u:Value} (r:RelV x u):absV u=some x:=by
 cases x with
 | non=>cases r;rfl
 | bl _=>cases r;rfl
 | int _=>obtain ⟨t,rfl⟩:=r;rfl
 | str _=>obtain ⟨t,rfl⟩:=r;rfl
 | byt _=>obtain ⟨t,rfl⟩:=r;rfl
 | flt _=>obtain ⟨t,rfl⟩:=r;rfl
 | ref _=>cases r;rfl
 | ty _=>cases r;rfl
theorem RelV.inj {x y:V} {u:Value} (r:RelV x u) (q:RelV y u):x=y:=Option.some.inj (r.abs.symm.trans q.abs)
theorem Vals.inj:∀ {xs ys:List V} {us:List Value},Vals xs us->Vals ys us->xs=ys
 | _,_,_,.nil,.nil=>rfl
 | _,_,_,.cons r t,.cons r' t'=>by rw [r.inj r',Vals.inj t t']
section
variable {X:Cx} {pins:List (Addr × Obj)} {σ:St} {H:Hp} {s:Shared} {a:Addr} {xs ys:List V}
theorem SqL.of {K:PySem.W.Frag} (h:H a=some (.lst xs)):SqL K H a xs:=.inl (.inl h)
theorem SqT.of {K:PySem.W.Frag} (h:H a=some (.tup xs)):SqT K H a xs:=.inl (.inl h)
theorem Inv.list (I:Inv X pins σ H s) (h:SqL X.K H a xs):∃ its:List Value,Vals xs its/\PlainL s.heap a its.toArray/\xs.length<=sizeLine:=by
 rcases h with h | ⟨o,its,n,hk,hc,hd,hs,hz,r⟩
 ·obtain ⟨z,its,n,r,e⟩:=h.ok I.hok
  exact ⟨its,r,⟨_,n,e,rfl,rfl,rfl⟩,z⟩
 ·refine ⟨its.toList,r,⟨o,n,I.kIn a o hk,hc,hd,by simpa using hs⟩,?_⟩
  have e:=r.length
  simp only [Array.length_toList] at e
  omega
theorem Inv.tuple (I:Inv X pins σ H s) (h:SqT X.K H a xs):∃ its:List Value,Vals xs its/\IsTup s.heap a its.toArray/\xs.length<=sizeLine:=by
 rcases h with h | ⟨o,its,n,hk,hc,hs,hz,r⟩
 ·obtain ⟨z,its,r,p⟩:=h.ok I.hok
  exact ⟨its,r,p,z⟩
 ·refine ⟨its.toList,r,⟨o,I.kIn a o hk,hc,n,by simpa using hs⟩,?_⟩
  have e:=r.length
  simp only [Array.length_toList] at e
  omega
theorem Inv.list_inj (I:Inv X pins σ H s) (h:SqL X.K H a xs) (h':SqL X.K H a ys):xs=ys:=by
 obtain ⟨its,r,⟨o,n,e,_,_,d⟩,_⟩:=I.list h
 obtain ⟨its',r',⟨o',n',e',_,_,d'⟩,_⟩:=I.list h'
 rw [e] at e';cases e'
 rw [d] at d'
 injection d' with d1 _
 have:its=its':=by simpa using congrArg Array.toList d1
 subst this
 exact r.inj r'
theorem Inv.tuple_inj (I:Inv X pins σ H s) (h:SqT X.K H a xs) (h':SqT X.K H a ys):xs=ys:=by
 obtain ⟨its,r,⟨o,e,_,n,d⟩,_⟩:=I.tuple h
 obtain ⟨its',r',⟨o',e',_,n',d'⟩,_⟩:=I.tuple h'
 rw [e] at e';cases e'
 rw [d] at d'
 injection d' with d1 _
 have:its=its':=by simpa using congrArg Array.toList d1
 subst this
 exact r.inj r'
end
abbrev Cx.wish (X:Cx) (E:Value->Shared->Prop):Cx:={ X with xe:=E }
abbrev Cx.nox (X:Cx):Cx:=X.wish fun _ _=>False
theorem Cx.Ok.wish {X:Cx} (ok:X.Ok) (E:Value->Shared->Prop):(X.wish E).Ok:=
 ⟨ok.mod,ok.kind,ok.glob,ok.blt,ok.above,ok.inj,ok.has,ok.cab,ok.hd,ok.frames,ok.stk,ok.exf,ok.bs,ok.bsz,ok.noex,ok.exfs,ok.funs,ok.frf⟩
theorem Cx.Ok.unwish {X:Cx} {E:Value->Shared->Prop} (ok:(X.wish E).Ok):X.Ok:=
 ⟨ok.mod,ok.kind,ok.glob,ok.blt,ok.above,ok.inj,ok.has,ok.cab,ok.hd,ok.frames,ok.stk,ok.exf,ok.bs,ok.bsz,ok.noex,ok.exfs,ok.funs,ok.frf⟩
section
variable {X:Cx} {pins:List (Addr × Obj)} {σ:St} {H:Hp} {s:Shared} {E:Value->Shared->Prop}
theorem Inv.wish (I:Inv X pins σ H s) (E:Value->Shared->Prop):Inv (X.wish E) pins σ H s:=⟨I.ok.wish E,I.os,I.bare,I.base,I.loc,I.cell,I.free,I.freeC,I.pin,I.hok,I.len⟩
theorem Inv.unwish (I:Inv (X.wish E) pins σ H s):Inv X pins σ H s:=⟨I.ok.unwish,I.os,I.bare,I.base,I.loc,I.cell,I.free,I.freeC,I.pin,I.hok,I.len⟩
theorem SP.unwish {D:Ends} {f:Flow} {s':Shared} (h:SP (X.wish E) pins D f s'):SP X pins D f s':=by
 cases f with
 | next=>obtain ⟨σ',H',I,q⟩:=h;exact ⟨σ',H',I.unwish,q⟩
 | brk=>obtain ⟨σ',H',I,q⟩:=h;exact ⟨σ',H',I.unwish,q⟩
 | cont=>obtain ⟨σ',H',I,q⟩:=h;exact ⟨σ',H',I.unwish,q⟩
 | ret u=>obtain ⟨v,σ',H',I,r,q⟩:=h;exact ⟨v,σ',H',I.unwish,r,q⟩
theorem PE.nox {e:Expr} {t:TE} (h:PE X.nox e t):PE X e t:=fun pins s σ H Q I hw=>
 wpAny_mono (h pins s σ H Q (I.wish _) hw) (fun _ _ ⟨v,H',I',r,q⟩=>⟨v,H',I'.unwish,r,q⟩) fun _ _ z=>False.elim z
theorem PT.nox {e:Expr} {t:TT} (h:PT X.nox e t):PT X e t:=fun pins s σ H Q I hw=>
 wpAny_mono (h pins s σ H Q (I.wish _) hw) (fun _ _ ⟨H',I',q⟩=>⟨H',I'.unwish,q⟩) fun _ _ z=>False.elim z
theorem PSs.nox {st:List Stmt} {t:TS} (h:PSs X.nox st t):PSs X st t:=fun pins s σ H D I hw=>
 wpAny_mono (h pins s σ H D (I.wish _) hw) (fun _ _ q=>q.unwish) fun _ _ z=>False.elim z
end
section
variable {X:Cx} {st:Stmt} {rest:List Stmt} {t u:TS} {e:Expr} {te:TE} {pos:Pos}
def tNext:TS:=fun D σ H=>D.nx σ H
def tSeq (t u:TS):TS:=fun D σ H=>t { D with nx:=u D } σ H
theorem pss_nil:PSs X [] tNext:=fun _ _ σ H _ I h=>wpAny_execs_nil ⟨σ,H,I,h⟩
theorem pss_cons (h1:PS X st t) (h2:PSs X rest u):PSs X (st::rest) (tSeq t u):=by
 intro pins s σ H D I h
 refine wpAny_execs_cons (thn (h1 pins s σ H { D with nx:=u D } I h) fun f s1 q=>?_)
 cases f with
 | next=>
  obtain ⟨σ',H',I',q⟩:=q
  exact h2 pins s1 σ' H' D I' q
 | ret v=>exact q
 | brk=>exact q
 | cont=>exact q
theorem pss_one (h1:PS X st t):PSs X [st] t:=by
 intro pins s σ H D I h
 refine wpAny_execs_cons (thn (h1 pins s σ H D I h) fun f s1 q=>?_)
 cases f with
 | next=>exact wpAny_execs_nil q
 | ret v=>exact q
 | brk=>exact q
 | cont=>exact q
theorem Inv.quiet {pins:List (Addr × Obj)} {σ:St} {H:Hp} {s:Shared} (I:Inv X pins σ H s):interactive X.env=false:=by simp [interactive,I.ok.kind]
def tDrop (te:TE):TS:=fun D σ H=>te σ H fun _ H1=>D.nx σ H1
theorem ps_expr (he:PE X e te) (hs:swapsWith e none pos.line X.env=pure false:=by rfl):PS X (.Expr e pos) (tDrop te):=by
 intro pins s σ H D I h
 exact wpAny_Expr_any (thn (he pins s σ H _ I h) fun v s1 ⟨x,H1,I1,r1,q1⟩=>⟨σ,H1,I1,q1⟩) I.quiet hs
def tRet (te:TE):TS:=fun D σ H=>te σ H D.rt
theorem ps_ret (he:PE X e te):PS X (.Return (some e) pos) (tRet te):=by
 intro pins s σ H D I h
 exact wpAny_Return_some (thn (he pins s σ H _ I h) fun v s1 ⟨x,H1,I1,r1,q1⟩=>⟨x,σ,H1,I1,r1,q1⟩)
def tIfS (c:TT) (t u:TS):TS:=fun D σ H=>c σ H fun b H1=>if b=true then t D σ H1 else u D σ H1
theorem ps_if {c:Expr} {a b:List Stmt} {tc:TT} (hc:PT X c tc) (ha:PSs X a t) (hb:PSs X b u):PS X (.If c a b pos) (tIfS tc t u):=by
 intro pins s σ H D I h
 refine wpAny_If (thn (hc pins s σ H _ I h) fun d s1 ⟨H1,I1,q1⟩=>?_)
 cases d with
 | true=>exact ha pins s1 σ H1 D I1 q1
 | false=>exact hb pins s1 σ H1 D I1 q1
def tNever:TS:=fun _ _ _=>False
theorem ps_never:PS X st tNever:=fun _ _ _ _ _ _ h=>h.elim
end
abbrev TG:=V->St->Hp->(St->Hp->Prop)->Prop
abbrev TGs:=List V->St->Hp->(St->Hp->Prop)->Prop
def PG (X:Cx) (target:Expr) (t:TG):Prop:=
 ∀ (pins:List (Addr × Obj)) (s:Shared) (σ:St) (H:Hp) (v:V) (u:Value) (Q:St->Hp->Prop),Inv X pins σ H s->RelV v u->t v σ H Q →
  wpAny (model X.prog X.w) X.A (assign target X.env u) (fun _ s'=>∃ σ' H',Inv X pins σ' H' s'/\Q σ' H') X.xe s
def PGs (X:Cx) (ts:List Expr) (t:TGs):Prop:=
 ∀ (pins:List (Addr × Obj)) (s:Shared) (σ:St) (H:Hp) (vs:List V) (us:List Value) (Q:St->Hp->Prop),Inv X pins σ H s->Vals vs us->t vs σ H Q →
  wpAny (model X.prog X.w) X.A (assignInOrder ((assignEach ts X.env).map (·.2)) us) (fun _ s'=>∃ σ' H',Inv X pins σ' H' s'/\Q σ' H') X.xe s
section
variable {X:Cx} {pos:Pos}
def gName (i:Nat):TG:=fun v σ H Q=>Q (σ.set i (some v)) H
theorem pg_name {i:Nat} {x:Str} (hN:X.N.Nodup) (hi:X.N[i]?=some x) (hx:Loc X.env.scope x) (hf:X.fn x=true\/X.env.scope.names.lookup x=some .local:=by first | exact .inl rfl | exact .inr rfl | assumption):PG X (.Name x pos) (gName i):=by
 intro pins s σ H v u Q I r h
 exact wpAny_assign_Name (store_ok I hN hi hx r (fun s' I'=>⟨_,H,I',h⟩) hf)
def gNil:TGs:=fun vs σ H Q=>vs=[]/\Q σ H
def gCons (t:TG) (u:TGs):TGs:=fun vs σ H Q=>∃ v r,vs=v::r/\t v σ H fun σ' H'=>u r σ' H' Q
theorem pgs_nil:PGs X [] gNil:=by
 intro pins s σ H vs us Q I r h
 obtain ⟨e,h⟩:=h
 subst e
 cases r
 exact assignInOrder_nil ⟨σ,H,I,h⟩
theorem pgs_cons {e:Expr} {es:List Expr} {t:TG} {u:TGs} (h1:PG X e t) (h2:PGs X es u)
  (hs:(assignEach (e::es) X.env).map (·.2)=assign e X.env::(assignEach es X.env).map (·.2):=by rfl):PGs X (e::es) (gCons t u):=by
 intro pins s σ H vs us Q I r h
 obtain ⟨v,vr,e1,h⟩:=h
 subst e1
 cases r with
 | cons r rr=>
  rw [hs]
  refine assignInOrder_cons (thn (h1 pins s σ H _ _ _ I r h) fun _ s1 ⟨σ1,H1,I1,q1⟩=>?_)
  exact h2 pins s1 σ1 H1 _ _ Q I1 rr q1
def gTup (K:PySem.W.Frag) (n:Nat) (t:TGs):TG:=fun v σ H Q=>∃ a xs,v=.ref a/\SqT K H a xs/\xs.length=n/\t xs σ H Q
theorem pg_tup {es:List Expr} {k:Nat} {t:TGs} {n:Nat} (hc:X.calm=true) (h:PGs X es t)
  (hn:(assignEach es X.env).length=n:=by rfl) (hst:(assignEach es X.env).findIdx? (·.1)=none:=by rfl):PG X (.Tuple es k pos) (gTup X.K n t):=by
 intro pins s σ H v u Q I r hw
 obtain ⟨a,xs,e1,hq,hl,hw⟩:=hw
 subst e1
 cases r
 obtain ⟨its,rv,ht,hz⟩:=I.tuple hq
 refine assign_Tuple_tuple (I.ok.hd hc) ht (by simp [hn,<-hl,rv.length]) hst fun h' hx=>?_
 have I1:Inv X pins σ H { s with heap:=h' }:=I.kept (t':=s.toks) fun b o e=>hx b o (Nat.ne_of_lt (Heap.lt_size e)) e
 exact h pins _ σ H xs _ Q I1 (by simpa using rv) hw
def tAsg (te:TE) (g:TG):TS:=fun D σ H=>te σ H fun x H1=>g x σ H1 D.nx
theorem ps_asg {tg e:Expr} {te:TE} {g:TG} (he:PE X e te) (hg:PG X tg g) (hs:swapsWithSole [tg] e pos.line X.env=pure false:=by rfl) (hw:swappedStores [tg] e X.env=pure none:=by rfl)
  (h1:(assignEach [tg] X.env).map (·.2)=[assign tg X.env]:=by rfl):PS X (.Assign [tg] e pos) (tAsg te g):=by
 intro pins s σ H D I h
 refine wpAny_Assign_stores (thn (he pins s σ H _ I h) fun v s1 ⟨x,H1,I1,r1,q1⟩=>?_) hs hw
 rw [h1]
 exact thn (hg pins s1 σ H1 x v _ I1 r1 q1) fun _ s2 q=>q
theorem ps_set {i:Nat} {x:Str} {e:Expr} {te:TE} {pos':Pos} (hN:X.N.Nodup) (hi:X.N[i]?=some x) (hx:Loc X.env.scope x) (he:PE X e te) (hs:swapsWith e (some (.Name x pos')) pos.line X.env=pure false:=by rfl) (hf:X.fn x=true\/X.env.scope.names.lookup x=some .local:=by first | exact .inl rfl | exact .inr rfl | assumption) :
  PS X (.Assign [.Name x pos'] e pos) (tAsg te (gName i)):=by
 intro pins s σ H D I h
 refine wpAny_Assign_Name (thn (he pins s σ H _ I h) fun v s1 ⟨y,H1,I1,r1,q1⟩=>?_) hs
 exact store_ok I1 hN hi hx r1 (fun s2 I2=>⟨_,H1,I2,q1⟩) hf
def tPar (i j:Nat) (ta:TA):TS:=fun D σ H=>ta σ H fun vs H1=>∃ v w,vs=[v,w]/\D.nx ((σ.set i (some v)).set j (some w)) H1
theorem ps_par {i j:Nat} {x y:Str} {a b:Expr} {ta:TA} {px py pt:Pos} {kt k2 pt2} (hc:X.calm=true) (hN:X.N.Nodup) (hi:X.N[i]?=some x) (hj:X.N[j]?=some y) (hij:i ≠ j)
  (hx:X.env.scope.names.lookup x=some .local) (hy:X.env.scope.names.lookup y=some .local) (ha:PA X [a,b] ta)
  (hw:swappedStores [.Tuple [.Name x px,.Name y py] kt pt] (.Tuple [a,b] k2 pt2) X.env=pure (some [x,y]))
  (hs:swapsWithSole [.Tuple [.Name x px,.Name y py] kt pt] (.Tuple [a,b] k2 pt2) pos.line X.env=pure false:=by rfl) :
  PS X (.Assign [.Tuple [.Name x px,.Name y py] kt pt] (.Tuple [a,b] k2 pt2) pos) (tPar i j ta):=by
 intro pins s σ H D I h
 rw [exec_Assign_arm]
 refine wpAny_bind (wpAny_standAt ?_)
 rw [hs]
 refine wpAny_bind (wpAny_pure ?_)
 rw [if_neg (by decide)]
 refine wpAny_bind (Tuple_ (thn (ha _ pins s σ H _ I h) fun us s1 ⟨vs,H1,I1,r1,q1⟩=>?_))
 obtain ⟨v,w,e1,q1⟩:=q1
 subst e1
 obtain ⟨u1,u2,rfl,rv,rw'⟩:∃ u1 u2,us=[u1,u2]/\RelV v u1/\RelV w u2:=by
  cases r1 with
  | cons p q=>
   cases q with
   | cons p' q'=>
    cases q'
    exact ⟨_,_,rfl,p,p'⟩
 refine wpAny_newObj_type ?_ (by show 2<=sizeLine;decide)
 have I2:Inv X pins σ H1 { s1 with heap:=s1.heap.push { cls:=.type "tuple",data:=.seq [u1,u2].toArray } }:=I1.kept (t':=s1.toks) fun b o e=>Heap.get?_push_of_some _ e
 rw [hw]
 refine wpAny_bind (wpAny_pure ?_)
 show wpAny (model X.prog X.w) X.A (do rule "assign.swapped-stores";let items ← unpackItems (.ref s1.heap.objs.size) 2 none;assignInOrder [fun v=>bindName X.env y v,fun v=>bindName X.env x v] items.reverse;pure Flow.next) _ _ _
 refine wpAny_bind (wpAny_rule (wpAny_bind (unpackItems_tuple (items:=#[u1,u2]) (I.ok.hd hc) (IsTup.new s1.heap _) fun h' hx'=>?_)))
 have I3:=I2.kept (h':=h') (t':=s1.toks) fun b o e=>hx' b o (Nat.ne_of_lt (Heap.lt_size e)) e
 show wpAny _ _ (assignInOrder [fun v=>bindName X.env y v,fun v=>bindName X.env x v] [u2,u1] >>= fun _=>pure Flow.next) _ _ _
 refine wpAny_bind (assignInOrder_cons (wpAny_bindName (store_ok I3 hN hj (.inl hy) rw' (fun s2 I4=>?_) (.inr hy))))
 refine assignInOrder_cons (wpAny_bindName (store_ok I4 hN hi (.inl hx) rv (fun s3 I5=>assignInOrder_nil (wpAny_pure ?_)) (.inr hx)))
 rw [List.set_comm _ _ (Ne.symm hij)] at I5
 exact ⟨_,H1,I5,q1⟩
end
section
variable {X:Cx} {pos:Pos}
def tWhile (c:TT) (tb:TS):TS:=fun D σ H=>∃ W:Nat->St->Hp->Prop,(∃ m,W m σ H)/\∀ m σ H,W m σ H →
 c σ H fun b H1=>if b=true then ∃ N:St->Hp->Prop,(∀ σ' H',N σ' H'->∃ m',m' < m/\W m' σ' H')/\tb { D with nx:=N,ct:=N,bk:=D.nx } σ H1 else D.nx σ H1
theorem ps_while {c:Expr} {body:List Stmt} {tc:TT} {tb:TS} (hp:PassesOwn (model X.prog X.w) X.A X.env X.xe) (hc:PT X c tc) (hb:PSs X body tb):PS X (.While c body [] pos) (tWhile tc tb):=by
 intro pins s σ H D I h
 obtain ⟨W,⟨m0,w0⟩,turn⟩:=h
 refine wpAny_While (codeAny_whileLoop (fun n s'=>∃ σ' H',Inv X pins σ' H' s'/\W n σ' H') ?_ m0 ⟨σ,H,I,w0⟩)
 rintro n s1 ⟨σ1,H1,I1,w1⟩
 refine wpAny_passesOwn hp (thn (hc pins s1 σ1 H1 _ I1 (turn n σ1 H1 w1)) fun b s2 ⟨H2,I2,q2⟩=>?_)
 cases b with
 | true=>
  obtain ⟨N,hN,q2⟩:=q2
  rw [if_pos rfl]
  refine wpAny_passesOwn hp (thn (hb pins s2 σ1 H2 _ I2 q2) fun f s3 q3=>?_)
  cases f with
  | next=>
   obtain ⟨σ3,H3,I3,n3⟩:=q3
   obtain ⟨m',hm,w3⟩:=hN σ3 H3 n3
   exact ⟨m',hm,σ3,H3,I3,w3⟩
  | cont=>
   obtain ⟨σ3,H3,I3,n3⟩:=q3
   obtain ⟨m',hm,w3⟩:=hN σ3 H3 n3
   exact ⟨m',hm,σ3,H3,I3,w3⟩
  | brk=>exact q3
  | ret v=>exact q3
 | false=>
  rw [if_neg Bool.false_ne_true]
  exact wpAny_execs_nil ⟨σ1,H2,I2,q2⟩
end
structure It where
 go:Nat->Hp->Prop
 yld:Nat->Hp->V->Hp->Prop
 stop:Nat->Hp->Prop
def FpOk (X:Cx) (pins:List (Addr × Obj)) (H:Hp) (b:Addr):Prop:=
 H b=none/\b ≠ X.env.locals/\b ∉ X.fs/\(b∈X.ex\/X.s₀.heap.objs.size<=b)/\(∀ x c,X.env.cells.lookup x=some c->c ≠ b)/\∀ p∈X.pn++pins,p.1 ≠ b
theorem Inv.fpOk {X:Cx} {pins:List (Addr × Obj)} {σ:St} {H H':Hp} {s:Shared} {b:Addr} (I:Inv X pins σ H s) (hb:s.heap.objs.size<=b) (hn:H' b=none):FpOk X pins H' b:=by
 refine ⟨hn,Nat.ne_of_gt (Nat.lt_of_lt_of_le I.lt hb),I.nofs hb,.inr (Nat.le_trans I.sz hb),fun x c e z=>?_,fun p hp z=>?_⟩
 ·obtain ⟨v,q⟩:=I.cell x c e
  exact absurd (Nat.lt_of_lt_of_le q.lt (by rw [z];exact hb)) (Nat.lt_irrefl _)
 ·exact absurd (Nat.lt_of_lt_of_le (Heap.lt_size (I.pin p hp).1) (by rw [z];exact hb)) (Nat.lt_irrefl _)
structure Turn (P:Program) (w:World) (K:PySem.W.Frag) (tg:Expr) (J:It) (fp:List Addr) (it:Addr) (tn:Nat->Heap->Prop):Prop where
 mem:it∈fp
 obj:∀ i h,tn i h->∀ b∈fp,∃ o,h.get? b=some o/\∀ v,o.data ≠ .cell v
 keep:∀ i h h',tn i h->(∀ b∈fp,∀ o,h.get? b=some o->h'.get? b=some o)->tn i h'
 item:∀ (X:Cx),X.prog=P->X.w=w->X.K=K->X.calm=true->∀ (i:Nat) (pins:List (Addr × Obj)) (s:Shared) (σ:St) (H:Hp) (E:Value->Shared->Prop),Inv X pins σ H s->(∀ b∈fp,FpOk X pins H b)->tn i s.heap->J.go i H →
  wpAny (model P w) X.A (pyNext (.ref it)) (fun r s1=>∃ u,r=some u ∧
   wpAny (model P w) X.A (letOwnedTupleGo tg (.ref it) u) (fun _ s2=>∃ x H',Inv X pins σ H' s2/\RelV x u/\J.yld i H x H'/\tn (i + 1) s2.heap/\∀ b∈fp,H' b=none) E s1) E s
 done:∀ (X:Cx),X.prog=P->X.w=w->X.K=K->X.calm=true->∀ (i:Nat) (pins:List (Addr × Obj)) (s:Shared) (σ:St) (H:Hp) (E:Value->Shared->Prop),Inv X pins σ H s->(∀ b∈fp,FpOk X pins H b)->tn i s.heap->J.stop i H →
  wpAny (model P w) X.A (pyNext (.ref it)) (fun r s1=>r=none/\Inv X pins σ H s1) E s
 self:∀ (A:Around) (i:Nat) (s:Shared) (Q:Value->Shared->Prop) (E:Value->Shared->Prop),tn i s.heap->Q (.ref it) s->wpAny (model P w) A (pyIter (.ref it)) Q E s
abbrev TI:=St->Hp->(It->Hp->Prop)->Prop
def PIE (X:Cx) (pins:List (Addr × Obj)) (σ:St) (tg:Expr) (R:It->Hp->Prop) (itv:Value) (s2:Shared):Prop:=
 ∃ (it:Addr) (fp:List Addr) (tn:Nat->Heap->Prop) (J:It) (H':Hp),itv=.ref it/\Inv X pins σ H' s2/\Turn X.prog X.w X.K tg J fp it tn/\tn 0 s2.heap/\(∀ b∈fp,FpOk X pins H' b)/\R J H'
def PI (X:Cx) (tg iter:Expr) (wi:TI):Prop:=
 ∀ (pins:List (Addr × Obj)) (s:Shared) (σ:St) (H:Hp) (R:It->Hp->Prop),Inv X pins σ H s->wi σ H R →
  wpAny (model X.prog X.w) X.A (eval iter X.env) (fun v s1=>wpAny (model X.prog X.w) X.A (pyIter v) (PIE X pins σ tg R) X.xe s1) X.xe s
theorem go_of {M:Model} {A:Around} {E:Value->Shared->Prop} {s:Shared} {tg:Expr} {it:Addr} {u:Value} {o:Obj} {n:String} {vs:Array Value} {Q:Unit->Shared->Prop} (ho:s.heap.get? it=some o) (hc:o.cls=.type n) (hd:o.data=.fields vs)
  (hn:["enumerate","zip","dict_itemiterator","dict_reverseitemiterator","odict_iterator","itertools.zip_longest","itertools.pairwise"].contains n=false) (hQ:Q () s):wpAny M A (letOwnedTupleGo tg (.ref it) u) Q E s:=by
 unfold letOwnedTupleGo
 cases tg <;> first
  | exact wpAny_pure hQ
  | (cases u <;> first
    | exact wpAny_pure hQ
    | (
      refine wpAny_bind (wpAny_load ho ?_)
      rw [hc,hd]
      show wpAny M A (if (["enumerate","zip","dict_itemiterator","dict_reverseitemiterator","odict_iterator","itertools.zip_longest","itertools.pairwise"].contains n && vs[0]? == some (rawInt _))=true then _ else _) Q E s
      rw [if_neg (by intro h;rw [hn,Bool.false_and] at h;cases h)]
      exact wpAny_pure hQ))
def Itl (K:PySem.W.Frag) (a:Addr):It:=
 ⟨fun i H=>∃ xs x,SqL K H a xs/\xs[i]?=some x,fun i H x H'=>H'=H/\∀ xs,SqL K H a xs->xs[i]?=some x,fun i H=>∃ xs,SqL K H a xs/\xs.length<=i⟩
def Itt (K:PySem.W.Frag) (a:Addr):It:=
 ⟨fun i H=>∃ xs x,SqT K H a xs/\xs[i]?=some x,fun i H x H'=>H'=H/\∀ xs,SqT K H a xs->xs[i]?=some x,fun i H=>∃ xs,SqT K H a xs/\xs.length<=i⟩
def Itr (lo:Int) (n:Nat):It:=⟨fun i _=>i < n,fun i H x H'=>H'=H/\x=.int (lo + i),fun i _=>n<=i⟩
theorem turn_list {P:Program} {w:World} {K:PySem.W.Frag} {tg:Expr} (a it:Addr):Turn P w K tg (Itl K a) [it] it (fun i h=>h.IsListIter it a i) where
 mem:=by simp
 obj:=fun i h st b hb=>by
  have e:b=it:=by simpa using hb
  subst e
  obtain ⟨o,e,c,d⟩:=st
  exact ⟨o,e,fun v z=>by rw [d] at z;cases z⟩
 keep:=fun i h h' st k=>st.at fun o e=>k it (by simp) o e
 item:=by
  intro X hP hw hK hc i pins s σ H E I hf st hg
  subst hP hw hK
  obtain ⟨xs,x,hq,hx⟩:=hg
  obtain ⟨its,rv,p,hz⟩:=I.list hq
  obtain ⟨u,hu,ru⟩:=rv.get hx
  obtain ⟨f0,f1,f2,f3,f4,f5⟩:=hf it (by simp)
  refine wpAny_pyNext_list_item st p.isList (x:=u) (by simpa using hu) fun h' st' sb=>?_
  have I1:Inv X pins σ H { s with heap:=h' }:=I.turned (t':=s.toks) (fun b o hb e=>(sb.2 b hb).trans e) f0 f1 f3 f4 f5
  obtain ⟨o,e,c,d⟩:=id st'
  exact ⟨u,rfl,go_of (s:={ s with heap:=h' }) e c d (by decide) ⟨x,H,I1,ru,⟨rfl,fun ys hy=>by rw [I.list_inj hy hq];exact hx⟩,st',fun b hb=>(hf b hb).1⟩⟩
 done:=by
  intro X hP hw hK hc i pins s σ H E I hf st hg
  subst hP hw hK
  obtain ⟨xs,hq,hx⟩:=hg
  obtain ⟨its,rv,p,hz⟩:=I.list hq
  obtain ⟨f0,f1,f2,f3,f4,f5⟩:=hf it (by simp)
  have hl:=rv.length
  exact wpAny_pyNext_list_end (I.ok.hd hc) st p.isList (by simp;omega) fun h' eb=>⟨rfl,I.turned (t':=s.toks) (fun b o hb e=>eb b o hb e) f0 f1 f3 f4 f5⟩
 self:=fun _ _ _ _ _ st h=>wpAny_pyIter_listiter st h
theorem turn_tuple {P:Program} {w:World} {K:PySem.W.Frag} {tg:Expr} (a it:Addr):Turn P w K tg (Itt K a) [it] it (fun i h=>h.IsTupleIter it a i) where
 mem:=by simp
 obj:=fun i h st b hb=>by
  have e:b=it:=by simpa using hb
  subst e
  obtain ⟨o,e,c,d⟩:=st
  exact ⟨o,e,fun v z=>by rw [d] at z;cases z⟩
 keep:=fun i h h' st k=>st.at fun o e=>k it (by simp) o e
 item:=by
  intro X hP hw hK hc i pins s σ H E I hf st hg
  subst hP hw hK
  obtain ⟨xs,x,hq,hx⟩:=hg
  obtain ⟨its,rv,p,hz⟩:=I.tuple hq
  obtain ⟨u,hu,ru⟩:=rv.get hx
  obtain ⟨f0,f1,f2,f3,f4,f5⟩:=hf it (by simp)
  refine wpAny_pyNext_tuple_item st (show s.heap.IsTuple a its.toArray from p) (x:=u) (by simpa using hu) fun h' st' sb=>?_
  have I1:Inv X pins σ H { s with heap:=h' }:=I.turned (t':=s.toks) (fun b o hb e=>(sb.2 b hb).trans e) f0 f1 f3 f4 f5
  obtain ⟨o,e,c,d⟩:=id st'
  exact ⟨u,rfl,go_of (s:={ s with heap:=h' }) e c d (by decide) ⟨x,H,I1,ru,⟨rfl,fun ys hy=>by rw [I.tuple_inj hy hq];exact hx⟩,st',fun b hb=>(hf b hb).1⟩⟩
 done:=by
  intro X hP hw hK hc i pins s σ H E I hf st hg
  subst hP hw hK
  obtain ⟨xs,hq,hx⟩:=hg
  obtain ⟨its,rv,p,hz⟩:=I.tuple hq
  obtain ⟨f0,f1,f2,f3,f4,f5⟩:=hf it (by simp)
  have hl:=rv.length
  exact wpAny_pyNext_tuple_end (I.ok.hd hc) st (show s.heap.IsTuple a its.toArray from p) (by simp;omega) fun h' eb=>⟨rfl,I.turned (t':=s.toks) (fun b o hb e=>eb b o hb e) f0 f1 f3 f4 f5⟩
 self:=fun _ _ _ _ _ st h=>wpAny_pyIter_tupleiter st h
theorem turn_range {P:Program} {w:World} {K:PySem.W.Frag} {tg:Expr} (it:Addr) (lo:Int) (n:Nat):Turn P w K tg (Itr lo n) [it] it (fun i h=>IsRangeIter h it (lo + (i:Nat)*1) ((n:Int) - (i:Nat)) 1) where
 mem:=by simp
 obj:=fun i h st b hb=>by
  have e:b=it:=by simpa using hb
  subst e
  exact ⟨_,st,fun v z=>by
   have z':Data.fields _=Data.cell v:=z
   cases z'⟩
 keep:=fun i h h' st k=>k it (by simp) _ st
 item:=by
  intro X hP hw hK hc i pins s σ H E I hf st hg
  subst hP hw hK
  obtain ⟨f0,f1,f2,f3,f4,f5⟩:=hf it (by simp)
  have W:=Walks.range (prog:=X.prog) (w:=X.w) (I.ok.hd hc) it lo 1 n
  refine W.item i s _ _ hg st fun v h' tk hv st' kk=>?_
  obtain ⟨t,rfl⟩:=hv
  have I1:Inv X pins σ H { s with heap:=h',toks:=tk }:=I.turned (fun b o hb e=>kk b o (by simpa using hb) e) f0 f1 f3 f4 f5
  refine ⟨_,rfl,go_of (s:={ s with heap:=h',toks:=tk }) (n:="range_iterator") st' rfl rfl (by decide) ⟨.int (lo + i),H,I1,⟨t,?_⟩,⟨rfl,rfl⟩,st',fun b hb=>(hf b hb).1⟩⟩
  rw [Int.mul_one]
 done:=by
  intro X hP hw hK hc i pins s σ H E I hf st hg
  subst hP hw hK
  obtain ⟨f0,f1,f2,f3,f4,f5⟩:=hf it (by simp)
  exact wpAny_pyNext_range_end (I.ok.hd hc) st (by have:n<=i:=hg;omega) fun h' eb=>⟨rfl,I.turned (t':=s.toks) (fun b o hb e=>eb b o hb e) f0 f1 f3 f4 f5⟩
 self:=fun _ _ _ _ _ st h=>wpAny_pyIter_rangeiter st h
end L2
namespace L2
open PySem PySem.Spec PyProof.Rows
section
variable {X:Cx} {tg:Expr}
def iList (K:PySem.W.Frag) (tl:TE):TI:=fun σ H R=>tl σ H fun x H1=>∃ a,x=.ref a/\(∃ xs,SqL K H1 a xs)/\R (Itl K a) H1
def iTup (K:PySem.W.Frag) (tl:TE):TI:=fun σ H R=>tl σ H fun x H1=>∃ a,x=.ref a/\(∃ xs,SqT K H1 a xs)/\R (Itt K a) H1
theorem pi_list {l:Expr} {tl:TE} (hl:PE X l tl):PI X tg l (iList X.K tl):=by
 intro pins s σ H R I h
 refine thn (hl pins s σ H _ I h) fun v s1 ⟨x,H1,I1,r1,q1⟩=>?_
 obtain ⟨a,e,⟨xs,hq⟩,q⟩:=q1
 subst e
 cases r1
 obtain ⟨its,rv,p,hz⟩:=I1.list hq
 refine wpAny_pyIter_list p.isList ?_
 refine ⟨s1.heap.objs.size,[s1.heap.objs.size],_,_,H1,rfl,I1.kept (t':=s1.toks) fun b o e=>Heap.get?_push_of_some _ e,turn_list a _,⟨_,Heap.get?_push_size _ rfl,rfl,rfl⟩,fun b hb=>?_,q⟩
 have e:b=s1.heap.objs.size:=by simpa using hb
 subst e
 exact I1.fpOk (Nat.le_refl _) (I1.hok.fresh (Nat.le_refl _))
theorem pi_tup {l:Expr} {tl:TE} (hl:PE X l tl):PI X tg l (iTup X.K tl):=by
 intro pins s σ H R I h
 refine thn (hl pins s σ H _ I h) fun v s1 ⟨x,H1,I1,r1,q1⟩=>?_
 obtain ⟨a,e,⟨xs,hq⟩,q⟩:=q1
 subst e
 cases r1
 obtain ⟨its,rv,p,hz⟩:=I1.tuple hq
 refine wpAny_pyIter_tuple (show s1.heap.IsTuple a its.toArray from p) ?_
 refine ⟨s1.heap.objs.size,[s1.heap.objs.size],_,_,H1,rfl,I1.kept (t':=s1.toks) fun b o e=>Heap.get?_push_of_some _ e,turn_tuple a _,⟨_,Heap.get?_push_size _ rfl,rfl,rfl⟩,fun b hb=>?_,q⟩
 have e:b=s1.heap.objs.size:=by simpa using hb
 subst e
 exact I1.fpOk (Nat.le_refl _) (I1.hok.fresh (Nat.le_refl _))
theorem range_it {pins:List (Addr × Obj)} {σ:St} {H:Hp} {s:Shared} {R:It->Hp->Prop} {E:Value->Shared->Prop} {lo hi:Int} {t u v:Tok} {tk:Nat} (I:Inv X pins σ H s) (h1:-(2 ^ 62)<=lo) (h2:lo < 2 ^ 62) (h3:-(2 ^ 62)<=hi) (h4:hi < 2 ^ 62)
  (q:R (Itr lo (hi - lo).toNat) H):wpAny (model X.prog X.w) X.A (pyIter (.ref s.heap.objs.size)) (PIE X pins σ tg R) E { s with heap:=s.heap.push { cls:=.type "range",data:=.fields #[.int lo t,.int hi u,.int 1 v] },toks:=tk }:=by
 refine wpAny_pyIter_range (IsRange.new ..) (small_one h1 h2 h3 h4) ?_
 have I1:Inv X pins σ H { s with heap:=s.heap.push { cls:=.type "range",data:=.fields #[.int lo t,.int hi u,.int 1 v] },toks:=tk }:=I.kept fun b o e=>Heap.get?_push_of_some _ e
 refine ⟨(s.heap.push { cls:=.type "range",data:=.fields #[.int lo t,.int hi u,.int 1 v] }).objs.size,[(s.heap.push { cls:=.type "range",data:=.fields #[.int lo t,.int hi u,.int 1 v] }).objs.size],_,_,H,rfl,
  I1.kept (t':=tk) fun b o e=>Heap.get?_push_of_some _ e,turn_range _ lo (hi - lo).toNat,?_,fun b hb=>?_,q⟩
 ·have e1:lo + ((0:Nat):Int)*1=lo:=by simp
  have e2:(((hi - lo).toNat:Nat):Int) - ((0:Nat):Int)=Builtin.Range.rangeSize lo hi 1:=by rw [rangeSize_one];split <;> omega
  show IsRangeIter _ _ (lo + ((0:Nat):Int)*1) ((((hi - lo).toNat:Nat):Int) - ((0:Nat):Int)) 1
  rw [e1,e2]
  exact Heap.get?_push_size _ rfl
 ·have e:b=(s.heap.push { cls:=.type "range",data:=.fields #[.int lo t,.int hi u,.int 1 v] }).objs.size:=by simpa using hb
  subst e
  exact I1.fpOk (Nat.le_refl _) (I1.hok.fresh (Nat.le_refl _))
def iRng1 (ta:TA):TI:=fun σ H R=>ta σ H fun vs H1=>∃ j:Int,vs=[.int j]/\-(2 ^ 62)<=j/\j < 2 ^ 62/\R (Itr 0 j.toNat) H1
def iRng2 (ta:TA):TI:=fun σ H R=>ta σ H fun vs H1=>∃ i j:Int,vs=[.int i,.int j]/\(-(2 ^ 62)<=i/\i < 2 ^ 62/\-(2 ^ 62)<=j/\j < 2 ^ 62)/\R (Itr i (j - i).toNat) H1
theorem pi_range1 {a:Expr} {ta:TA} {p pos:Pos} (hg:Gl X "range") (hm:X.mg "range"=none) (ha:PA X [a] ta) (hs:starEach [a] X.env=[(false,eval a X.env)]:=by rfl):PI X tg (.Call (.Name "range" p) [a] [] pos) (iRng1 ta):=by
 intro pins s σ H R I h
 refine Call_ (ld_blt I hg hm boot_range (PyProof.Rows.callWith_type1 (thn (ha pos pins s σ H _ I h) fun us s1 ⟨vs,H1,I1,r1,q1⟩=>?_) hs rfl))
 obtain ⟨j,e,q1,q2,q⟩:=q1
 subst e
 cases r1 with
 | cons r rr=>
  cases rr
  obtain ⟨t,rfl⟩:=r
  exact call_range_1 (range_it I1 (by omega) (by omega) q1 q2 (by simpa using q))
theorem pi_range2 {a b:Expr} {ta:TA} {p pos:Pos} (hg:Gl X "range") (hm:X.mg "range"=none) (ha:PA X [a,b] ta) (hs:starEach [a,b] X.env=[(false,eval a X.env),(false,eval b X.env)]:=by rfl) (hs2:starEach [b] X.env=[(false,eval b X.env)]:=by rfl) :
  PI X tg (.Call (.Name "range" p) [a,b] [] pos) (iRng2 ta):=by
 intro pins s σ H R I h
 refine Call_ (ld_blt I hg hm boot_range (PyProof.Rows.callWith_type1 (thn (ha pos pins s σ H _ I h) fun us s1 ⟨vs,H1,I1,r1,q1⟩=>?_) (by rw [hs,hs2]) (by rw [hs2];rfl)))
 obtain ⟨i,j,e,⟨q1,q2,q3,q4⟩,q⟩:=q1
 subst e
 cases r1 with
 | cons r rr=>
  cases rr with
  | cons r' rr=>
   cases rr
   obtain ⟨t,rfl⟩:=r
   obtain ⟨t',rfl⟩:=r'
   exact call_range_2 (range_it I1 q1 q2 q3 q4 q)
def tFor (wi:TI) (g:TG) (tb:TS):TS:=fun D σ H=>wi σ H fun J H1=>∃ W:Nat->Nat->St->Hp->Prop,(∃ m,W 0 m σ H1)/\∀ i m σ H,W i m σ H →
 (J.stop i H/\D.nx σ H)\/(J.go i H/\∃ N:St->Hp->Prop,(∀ σ' H',N σ' H'->∃ m',m' < m/\W (i + 1) m' σ' H')/\∀ x H',J.yld i H x H'->g x σ H' fun σ2 H2=>tb { D with nx:=N,ct:=N,bk:=D.nx } σ2 H2)
def pinsAt (fp:List Addr) (h:Heap):List (Addr × Obj):=fp.filterMap fun b=>(h.get? b).map fun o=>(b,o)
theorem mem_pinsAt {fp:List Addr} {h:Heap} {b:Addr} {o:Obj} (hb:b∈fp) (e:h.get? b=some o):(b,o)∈pinsAt fp h:=List.mem_filterMap.mpr ⟨b,hb,by rw [e];rfl⟩
theorem of_pinsAt {fp:List Addr} {h:Heap} {p:Addr × Obj} (hp:p∈pinsAt fp h):p.1∈fp/\h.get? p.1=some p.2:=by
 obtain ⟨b,hb,e⟩:=List.mem_filterMap.mp hp
 cases q:h.get? b with
 | none=>rw [q] at e;cases e
 | some o=>
  rw [q] at e
  have e':(b,o)=p:=Option.some.inj e
  subst e'
  exact ⟨hb,q⟩
theorem Inv.pinned {pins:List (Addr × Obj)} {σ:St} {H:Hp} {s:Shared} {fp:List Addr} (I:Inv X pins σ H s) (hf:∀ b∈fp,FpOk X pins H b) (ho:∀ b∈fp,∃ o,s.heap.get? b=some o/\∀ v,o.data ≠ .cell v):Inv X (pins++pinsAt fp s.heap) σ H s:=
 I.pins_of fun p hp=>(List.mem_append.mp hp).elim (fun z=>I.pin p (List.mem_append_right _ z)) fun z=>by
  obtain ⟨hb,e⟩:=of_pinsAt z
  obtain ⟨f0,f1,f2,_⟩:=hf p.1 hb
  obtain ⟨o,e',d⟩:=ho p.1 hb
  rw [e] at e';cases e'
  exact ⟨e,f0,f1,f2,d⟩
theorem Inv.unpinned {pins pl:List (Addr × Obj)} {σ:St} {H:Hp} {s:Shared} (I:Inv X (pins++pl) σ H s):Inv X pins σ H s:=I.pins_of fun p hp=>I.pin p (List.mem_append_right _ (List.mem_append_left _ hp))
theorem ps_for {iter:Expr} {body:List Stmt} {wi:TI} {g:TG} {tb:TS} {pos:Pos} (hp:PassesOwn (model X.prog X.w) X.A X.env X.xe) (hc:X.calm=true) (hi:PI X tg iter wi) (hg:PG X tg g) (hb:PSs X body tb)
  (hs:∀ x,foldedSetIterable iter X.env x=pure x:=by intro _;rfl):PS X (.For tg iter body [] pos) (tFor wi g tb):=by
 intro pins s σ H D I h
 refine wpAny_For (thn (hi pins s σ H _ I h) fun v s1 h1=>thn h1 fun itv s2 h2=>?_) hs
 obtain ⟨it,fp,tn,J,H2,e,I2,T,st2,f2,W,⟨m0,w0⟩,turn⟩:=h2
 subst e
 -- what stays true of the iterator's objects through the loop
 have stat:∀ {H':Hp},(∀ b∈fp,H' b=none)->∀ b∈fp,FpOk X pins H' b:=fun hn b hb=>⟨hn b hb,(f2 b hb).2⟩
 refine codeAny_forLoop_any (fun n s'=>∃ i σ' H',Inv X pins σ' H' s'/\tn i s'.heap/\(∀ b∈fp,H' b=none)/\W i n σ' H') ?_ m0 ⟨0,σ,H2,I2,st2,fun b hb=>(f2 b hb).1,w0⟩
 rintro n s3 ⟨i,σ3,H3,I3,st3,fr3,w3⟩
 rcases turn i n σ3 H3 w3 with ⟨stop,qn⟩ | ⟨go,N,hN,step⟩
 ·refine wpAny_passesOwn hp (thn (T.done X rfl rfl rfl hc i pins s3 σ3 H3 X.xe I3 (stat fr3) st3 stop) fun r s4 ⟨hr,I4⟩=>?_)
  subst hr
  exact wpAny_execs_nil ⟨σ3,H3,I4,qn⟩
 ·refine wpAny_passesOwn hp (thn (T.item X rfl rfl rfl hc i pins s3 σ3 H3 X.xe I3 (stat fr3) st3 go) fun r s4 ⟨u,hr,h4⟩=>?_)
  subst hr
  refine wpAny_passesOwn hp (thn h4 fun _ s5 ⟨x,H5,I5,r5,y5,st5,fr5⟩=>?_)
  have I5':=I5.pinned (stat fr5) (T.obj _ _ st5)
  refine wpAny_passesOwn hp (thn (hg _ s5 σ3 H5 x u _ I5' r5 (step x H5 y5)) fun _ s6 ⟨σ6,H6,I6,q6⟩=>?_)
  refine wpAny_passesOwn hp (thn (hb _ s6 σ6 H6 _ I6 q6) fun f s7 q7=>?_)
  have again:∀ {σ7:St} {H7:Hp},Inv X (pins++pinsAt fp s5.heap) σ7 H7 s7->N σ7 H7->∃ m,m < n/\∃ i σ' H',Inv X pins σ' H' s7/\tn i s7.heap/\(∀ b∈fp,H' b=none)/\W i m σ' H':=fun {σ7 H7} I7 n7=>by
   obtain ⟨m',hm,w7⟩:=hN σ7 H7 n7
   refine ⟨m',hm,i + 1,σ7,H7,I7.unpinned,T.keep _ _ _ st5 fun b hb o e=>(I7.pin (b,o) (List.mem_append_right _ (List.mem_append_right _ (mem_pinsAt hb e)))).1,fun b hb=>?_,w7⟩
   obtain ⟨o,e,d⟩:=T.obj _ _ st5 b hb
   exact (I7.pin (b,o) (List.mem_append_right _ (List.mem_append_right _ (mem_pinsAt hb e)))).2.1
  cases f with
  | next=>obtain ⟨σ7,H7,I7,n7⟩:=q7;exact again I7 n7
  | cont=>obtain ⟨σ7,H7,I7,n7⟩:=q7;exact again I7 n7
  | brk=>obtain ⟨σ7,H7,I7,q7⟩:=q7;exact ⟨σ7,H7,I7.unpinned,q7⟩
  | ret v=>obtain ⟨x7,σ7,H7,I7,r7,q7⟩:=q7;exact ⟨x7,σ7,H7,I7.unpinned,r7,q7⟩
end
end L2
namespace L2
open PySem PySem.Spec PyProof.Rows
abbrev R2:=V->V->Hp->VK->Prop
def OpR (X:Cx) (f:Value->Value->Sem Value) (r:R2):Prop:=
 ∀ (pins:List (Addr × Obj)) (s:Shared) (σ:St) (H:Hp) (x y:V) (v u:Value) (Q:VK),Inv X pins σ H s->RelV x v->RelV y u->r x y H Q →
  wpAny (model X.prog X.w) X.A (f v u) (EP X pins σ Q) X.xe s
def UnR (X:Cx) (f:Value->Sem Value) (r:V->Hp->VK->Prop):Prop:=
 ∀ (pins:List (Addr × Obj)) (s:Shared) (σ:St) (H:Hp) (x:V) (v:Value) (Q:VK),Inv X pins σ H s->RelV x v->r x H Q →
  wpAny (model X.prog X.w) X.A (f v) (EP X pins σ Q) X.xe s
def CallR (X:Cx) (f:Value) (r:List V->Hp->VK->Prop):Prop:=
 ∀ (pins:List (Addr × Obj)) (s:Shared) (σ:St) (H:Hp) (xs:List V) (us:List Value) (Q:VK),Inv X pins σ H s->Vals xs us->r xs H Q →
  wpAny (model X.prog X.w) X.A (call f us) (EP X pins σ Q) X.xe s
def tOp (r:R2) (ta tb:TE):TE:=fun σ H Q=>ta σ H fun x H1=>tb σ H1 fun y H2=>r x y H2 Q
def tUn (r:V->Hp->VK->Prop) (ta:TE):TE:=fun σ H Q=>ta σ H fun x H1=>r x H1 Q
def rI (C:Int->Int->Prop) (g:Int->Int->V):R2:=fun x y H Q=>∃ i j,x=.int i/\y=.int j/\C i j/\Q (g i j) H
def rI0 (g:Int->Int->V):R2:=fun x y H Q=>∃ i j,x=.int i/\y=.int j/\Q (g i j) H
def rU (g:Int->V):V->Hp->VK->Prop:=fun x H Q=>∃ i,x=.int i/\Q (g i) H
section
variable {X:Cx} {a b c:Expr} {ta tb tc:TE} {pos:Pos}
theorem binT (ha:PE X a ta) (hb:PE X b tb) {pins:List (Addr × Obj)} {s:Shared} {σ:St} {H:Hp} {R:V->V->Hp->Prop} (I:Inv X pins σ H s)
  (h:ta σ H fun x H1=>tb σ H1 fun y H2=>R x y H2) {Q:Value->Shared->Prop} {f:Value->Value->Sem Value}
  (hf:∀ v u s2 x y H2,Inv X pins σ H2 s2->RelV x v->RelV y u->R x y H2->wpAny (model X.prog X.w) X.A (f v u) Q X.xe s2) :
  wpAny (model X.prog X.w) X.A (eval a X.env) (fun v s₁=>wpAny (model X.prog X.w) X.A (eval b X.env) (fun u s₂=>wpAny (model X.prog X.w) X.A (f v u) Q X.xe s₂) X.xe s₁) X.xe s:=by
 refine thn (ha pins s σ H _ I h) fun v s1 ⟨x,H1,I1,r1,q1⟩=>?_
 refine thn (hb pins s1 σ H1 _ I1 q1) fun u s2 ⟨y,H2,I2,r2,q2⟩=>?_
 exact hf v u s2 x y H2 I2 r1 r2 q2
theorem pe_op {op:Operator} {r:R2} (ho:OpR X (binaryOp op) r) (ha:PE X a ta) (hb:PE X b tb):PE X (.BinOp a op b pos) (tOp r ta tb):=by
 intro pins s σ H Q I h
 exact wpAny_BinOp (binT ha hb I h fun v u s2 x y H2 I2 rx ry q=>ho pins s2 σ H2 x y v u Q I2 rx ry q)
theorem pe_un {op:UnaryOp} {r:V->Hp->VK->Prop} (ho:UnR X (unaryOp op) r) (ha:PE X a ta):PE X (.UnaryOp op a pos) (tUn r ta):=by
 intro pins s σ H Q I h
 exact UnaryOp_ (thn (ha pins s σ H _ I h) fun v s1 ⟨x,H1,I1,r1,q1⟩=>ho pins s1 σ H1 x v Q I1 r1 q1)
theorem opI {f:Value->Value->Sem Value} {C:Int->Int->Prop} {g:Int->Int->Int}
  (rule:∀ (i j:Int) (t u:Tok) (s:Shared) (Q:Value->Shared->Prop) (E:Value->Shared->Prop),C i j->Q (.int (g i j) s.toks) { s with toks:=s.toks + 1 }->wpAny (model X.prog X.w) X.A (f (.int i t) (.int j u)) Q E s) :
  OpR X f (rI C fun i j=>.int (g i j)):=by
 intro pins s σ H x y v u Q I rx ry h
 obtain ⟨i,j,rfl,rfl,hc,q⟩:=h
 obtain ⟨t,rfl⟩:=rx
 obtain ⟨t',rfl⟩:=ry
 exact rule i j t t' s _ _ hc ⟨.int (g i j),H,I.tok _,⟨_,rfl⟩,q⟩
theorem opI0 {f:Value->Value->Sem Value} {g:Int->Int->Int}
  (rule:∀ (i j:Int) (t u:Tok) (s:Shared) (Q:Value->Shared->Prop) (E:Value->Shared->Prop),Q (.int (g i j) s.toks) { s with toks:=s.toks + 1 }->wpAny (model X.prog X.w) X.A (f (.int i t) (.int j u)) Q E s) :
  OpR X f (rI0 fun i j=>.int (g i j)):=by
 intro pins s σ H x y v u Q I rx ry h
 obtain ⟨i,j,rfl,rfl,q⟩:=h
 obtain ⟨t,rfl⟩:=rx
 obtain ⟨t',rfl⟩:=ry
 exact rule i j t t' s _ _ ⟨.int (g i j),H,I.tok _,⟨_,rfl⟩,q⟩
theorem opB0 {f:Value->Value->Sem Value} {g:Int->Int->Bool}
  (rule:∀ (i j:Int) (t u:Tok) (s:Shared) (Q:Value->Shared->Prop) (E:Value->Shared->Prop),Q (.bool (g i j)) s->wpAny (model X.prog X.w) X.A (f (.int i t) (.int j u)) Q E s) :
  OpR X f (rI0 fun i j=>.bl (g i j)):=by
 intro pins s σ H x y v u Q I rx ry h
 obtain ⟨i,j,rfl,rfl,q⟩:=h
 obtain ⟨t,rfl⟩:=rx
 obtain ⟨t',rfl⟩:=ry
 exact rule i j t t' s _ _ ⟨.bl (g i j),H,I,rfl,q⟩
def CPow (i j:Int):Prop:=0<=j/\j<=1000000/\i.natAbs < 2 ^ 64
def CMul (i j:Int):Prop:=(-(2 ^ 64) < i/\i < 2 ^ 64)\/(-(2 ^ 64) < j/\j < 2 ^ 64)
theorem CMul.ok {i j:Int} (h:CMul i j):IntMulOk i j:=by
 rcases h with ⟨h1,h2⟩ | ⟨h1,h2⟩
 ·exact .of_left (intBits_le_64 h1 h2)
 ·exact .of_right (intBits_le_64 h1 h2)
theorem op_add:OpR X (binaryOp .Add) (rI0 fun i j=>.int (i + j)):=opI0 fun _ _ _ _ _ _ _ q=>add_int q
theorem op_sub:OpR X (binaryOp .Sub) (rI0 fun i j=>.int (i - j)):=opI0 fun _ _ _ _ _ _ _ q=>sub_int q
theorem op_modN:OpR X (binaryOp .Mod) (rI (fun _ j=>j ≠ 0) fun i j=>.int (i.fmod j)):=opI fun _ _ _ _ _ _ _ hc q=>mod_int' hc q
theorem op_pow:OpR X (binaryOp .Pow) (rI CPow fun i j=>.int (i ^ j.toNat)):=opI fun _ _ _ _ _ _ _ hc q=>pow_int_small hc.1 hc.2.1 hc.2.2 q
theorem unI {f:Value->Sem Value} {g:Int->Int}
  (rule:∀ (i:Int) (t:Tok) (s:Shared) (Q:Value->Shared->Prop) (E:Value->Shared->Prop),Q (.int (g i) s.toks) { s with toks:=s.toks + 1 }->wpAny (model X.prog X.w) X.A (f (.int i t)) Q E s) :
  UnR X f (rU fun i=>.int (g i)):=by
 intro pins s σ H x v Q I rx h
 obtain ⟨i,rfl,q⟩:=h
 obtain ⟨t,rfl⟩:=rx
 exact rule i t s _ _ ⟨.int (g i),H,I.tok _,⟨_,rfl⟩,q⟩
theorem un_neg:UnR X (unaryOp .USub) (rU fun i=>.int (-i)):=unI fun _ _ _ _ _ q=>neg_int q
end
section
variable {X:Cx} {a b c:Expr} {ta tb tc:TE} {pos:Pos}
theorem op_lt:OpR X (compareOp .Lt) (rI0 fun i j=>.bl (decide (i < j))):=opB0 fun _ _ _ _ _ _ _ q=>lt_int q
theorem op_le:OpR X (compareOp .LtE) (rI0 fun i j=>.bl (decide (i<=j))):=opB0 fun _ _ _ _ _ _ _ q=>le_int q
theorem op_gt:OpR X (compareOp .Gt) (rI0 fun i j=>.bl (decide (j < i))):=opB0 fun _ _ _ _ _ _ _ q=>gt_int q
theorem op_ge:OpR X (compareOp .GtE) (rI0 fun i j=>.bl (decide (j<=i))):=opB0 fun _ _ _ _ _ _ _ q=>ge_int q
theorem OpR.or {f:Value->Value->Sem Value} {r r':R2} (h:OpR X f r) (h':OpR X f r'):OpR X f (fun x y H Q=>r x y H Q\/r' x y H Q):=by
 intro pins s σ H x y v u Q I rx ry q
 rcases q with q | q
 ·exact h pins s σ H x y v u Q I rx ry q
 ·exact h' pins s σ H x y v u Q I rx ry q
theorem nomark (b:Expr) {op:CmpOp} (h:op ≠ .In:=by decide) (h2:op ≠ .NotIn:=by decide):behindInMarks op b=false:=by
 have e1:(op == CmpOp.In)=false:=by cases op <;> first | rfl | exact absurd rfl h
 have e2:(op == CmpOp.NotIn)=false:=by cases op <;> first | rfl | exact absurd rfl h2
 cases b <;> simp [behindInMarks,e1,e2]
theorem pe_cmpR {op:CmpOp} {r:R2} (ho:OpR X (compareOp op) r) (ha:PE X a ta) (hb:PE X b tb) (hm:behindInMarks op b=false):PE X (.Compare a [op] [b] pos) (tOp r ta tb):=by
 intro pins s σ H Q I h
 exact wpAny_Compare1 (binT ha hb I h fun v u s2 x y H2 I2 rx ry q=>ho pins s2 σ H2 x y v u Q I2 rx ry q) hm
def tTest (t:TE):TT:=fun σ H Q=>t σ H fun x H'=>∃ k,x=.bl k/\Q k H'
theorem pt_cmpR {op:CmpOp} {r:R2} (ho:OpR X (compareOp op) r) (ha:PE X a ta) (hb:PE X b tb) (hm:behindInMarks op b=false):PT X (.Compare a [op] [b] pos) (tTest (tOp r ta tb)):=by
 intro pins s σ H Q I h
 refine wpAny_isTrue_Compare1 (thn (ha pins s σ H _ I h) fun v s1 ⟨x,H1,I1,r1,q1⟩=>thn (hb pins s1 σ H1 _ I1 q1) fun u s2 ⟨y,H2,I2,r2,q2⟩=>
  thn (ho pins s2 σ H2 x y v u _ I2 r1 r2 q2) fun c s3 ⟨z,H3,I3,r3,k,e,q3⟩=>?_) hm
 subst e
 cases r3
 exact wpAny_truthy_bool ⟨H3,I3,q3⟩
theorem line63:(sizeLine:Nat) < 2 ^ 63:=by rw [sizeLine_eq];decide
theorem vals1 {x:V} {us:List Value} (r:Vals [x] us):∃ u,us=[u]/\RelV x u:=by
 cases r with
 | cons r1 r2=>cases r2;exact ⟨_,rfl,r1⟩
theorem vals2 {x y:V} {us:List Value} (r:Vals [x,y] us):∃ u w',us=[u,w']/\RelV x u/\RelV y w':=by
 cases r with
 | cons r1 r2=>
  cases r2 with
  | cons r3 r4=>cases r4;exact ⟨_,_,rfl,r1,r3⟩
theorem call_abs:CallR X (.builtin "abs") (fun xs H Q=>∃ i,xs=[.int i]/\Q (.int (if i < 0 then -i else i)) H):=by
 intro pins s σ H xs us Q I r h
 obtain ⟨i,rfl,q⟩:=h
 obtain ⟨u,rfl,t,rfl⟩:=vals1 r
 exact call_abs_int fun u tk=>⟨.int (if i < 0 then -i else i),H,I.tok _,⟨_,rfl⟩,q⟩
theorem call_max2 (hc:X.calm=true):CallR X (.builtin "max") (fun xs H Q=>∃ i j,xs=[.int i,.int j]/\Q (.int (if j > i then j else i)) H):=by
 intro pins s σ H xs us Q I r h
 obtain ⟨i,j,rfl,q⟩:=h
 obtain ⟨u,w',rfl,⟨t,rfl⟩,⟨t',rfl⟩⟩:=vals2 r
 refine max_two_ints (I.ok.hd hc) fun h' tk k=>⟨_,H,I.kept k,?_,q⟩
 by_cases hj:j > i
 ·rw [if_pos hj,if_pos hj];exact ⟨_,rfl⟩
 ·rw [if_neg hj,if_neg hj];exact ⟨_,rfl⟩
theorem call_min2 (hc:X.calm=true):CallR X (.builtin "min") (fun xs H Q=>∃ i j,xs=[.int i,.int j]/\Q (.int (if j < i then j else i)) H):=by
 intro pins s σ H xs us Q I r h
 obtain ⟨i,j,rfl,q⟩:=h
 obtain ⟨u,w',rfl,⟨t,rfl⟩,⟨t',rfl⟩⟩:=vals2 r
 refine min_two_ints (I.ok.hd hc) fun h' tk k=>⟨_,H,I.kept k,?_,q⟩
 by_cases hj:j < i
 ·rw [if_pos hj,if_pos hj];exact ⟨_,rfl⟩
 ·rw [if_neg hj,if_neg hj];exact ⟨_,rfl⟩
end
end L2
namespace L2
open PySem PySem.Spec PyProof.Rows
structure ObjM (h:Heap) (x dx C:Addr) (mA:Str->Option Value):Prop where
 obj:h.get? x=some (PySem.W.instObj C dx)
 ns:h.Ns1 dx mA
 ne:dx ≠ x
theorem lookIn_ns {h:Heap} {dx:Addr} {mA:Str->Option Value} (n:h.Ns1 dx mA):∃ od,h.get? dx=some od/\∀ name,PySem.W.lookIn name od=some (mA name):=by
 obtain ⟨o,es,ep,ho,hd,hk,_,hm⟩:=n
 refine ⟨o,ho,fun name=>?_⟩
 have e:=hm name
 unfold nsFind findBy at e
 rw [<-Array.find?_toList] at e
 unfold PySem.W.lookIn
 rw [hd]
 dsimp only
 split
 ·rename_i y q
  rw [q] at e
  exact congrArg some e
 ·rename_i q
  rw [q] at e
  have a:es.toList.any (·.refKey)=false:=by
   rw [List.any_eq_false]
   intro y hy
   obtain ⟨z,t,hkey⟩:=hk y (Array.mem_toList_iff.mp hy)
   simp [DictEntry.refKey,hkey]
  have a':¬ es.toList.any (·.refKey)=true:=by rw [a];exact Bool.false_ne_true
  rw [if_neg a']
  exact congrArg some e
theorem ObjM.look {h:Heap} {x dx C:Addr} {mA:Str->Option Value} (I:ObjM h x dx C mA):∃ od,PySem.W.InstAt h x (PySem.W.instObj C dx) C (some od)/\∀ name,PySem.W.lookIn name od=some (mA name):=
 let ⟨od,ho,hl⟩:=lookIn_ns I.ns
 ⟨od,⟨I.obj,rfl,rfl,ho⟩,hl⟩
section
variable {prog:Program} {w:World} {A:Around} {E:Value->Shared->Prop} {s:Shared} {K:PySem.W.Frag} {x dx C f:Addr} {mA:Str->Option Value} {name:Str} {v:Value}
end
section
variable {P:Program} {w:World} {H H':Hp} {h h':Heap} {a C dx:Addr} {fs fs':List (Str × V)}
end
structure Cls (K:PySem.W.Frag) (C:Addr):Prop where
 pg:PySem.W.plainGet K C Str.empty=true
 hd:PySem.W.hasDictIn K C=true
 po:PySem.W.plainOver K C=true
 sa:PySem.W.findIn K (.ref C) "__setattr__"=some (some (.builtin "object.__setattr__"))
theorem Cls.get {K:PySem.W.Frag} {C:Addr} (c:Cls K C) (f:Str):PySem.W.plainGet K C f=true:=c.pg
structure Con (K:PySem.W.Frag) (C:Addr) (f:Str) (v:V) (u:Value):Prop where
 at_:PySem.W.findIn K (.ref C) f=some (some u)
 rel:RelV v u
 get:PySem.W.specialIn K u "__get__"=some none
 cp:PySem.W.copiedNames.contains f=false
structure Meth (K:PySem.W.Frag) (C:Addr) (m:Str) (f:Addr):Prop where
 at_:PySem.W.findIn K (.ref C) m=some (some (.ref f))
 fn:PySem.W.isFn K (.ref f)=true
 kp:PySem.W.keepIn K (.ref f)=true
section
variable {X:Cx} {pins:List (Addr × Obj)} {σ:St} {H:Hp} {s:Shared} {a C dx:Addr} {fs:List (Str × V)} {f:Str} {v:V} {A:Around} {E:Value->Shared->Prop}
theorem Inv.made (I:Inv X pins σ H s):Inv X pins σ (upd (upd H s.heap.objs.size (.own (s.heap.objs.size + 1))) (s.heap.objs.size + 1) (.ins C s.heap.objs.size []))
  { s with heap:=(s.heap.push PySem.W.emptyDict).push (PySem.W.instObj C s.heap.objs.size) }:=by
 have e1:(s.heap.push PySem.W.emptyDict).get? s.heap.objs.size=some PySem.W.emptyDict:=Heap.get?_push_size s.heap rfl
 have e2:((s.heap.push PySem.W.emptyDict).push (PySem.W.instObj C s.heap.objs.size)).get? (s.heap.objs.size + 1)=some (PySem.W.instObj C s.heap.objs.size):=by
  have:=Heap.get?_push_size (s.heap.push PySem.W.emptyDict) (o:=PySem.W.instObj C s.heap.objs.size) rfl
  rwa [Heap.size_push] at this
 have e3:(s.heap.push PySem.W.emptyDict).Ns s.heap.objs.size (fun _=>none):=⟨PySem.W.emptyDict,#[],_,e1,rfl,(fun e he=>absurd he (by simp)),fun _=>rfl⟩
 have I1:=I.laid (a:=s.heap.objs.size) (o:=.own (s.heap.objs.size + 1)) (h':=s.heap.push PySem.W.emptyDict) (t':=s.toks) (fun b u q=>Heap.get?_push_of_some _ q) (Nat.le_refl _) ⟨_,e1⟩
 refine I1.laid (a:=s.heap.objs.size + 1) (o:=.ins C s.heap.objs.size []) (t':=s.toks) (fun b u q=>Heap.get?_push_of_some _ q) (Nat.le_of_eq (Heap.size_push _ _)) ?_
 have ne:s.heap.objs.size ≠ s.heap.objs.size + 1:=Nat.ne_of_lt (Nat.lt_succ_self _)
 refine ⟨by rw [upd_ne ne,upd_same],Nat.zero_le _,ne,e2,fun _=>none,(Heap.Ns1.of_empty e3).at fun o q=>Heap.get?_push_of_some _ q,fun _=>True.intro,fun y hy=>absurd rfl hy⟩
end
section
variable {X:Cx} {o e value:Expr} {f:Str} {pos pos' tpos:Pos} {ta tv:TE}
end
section
variable {X:Cx} {pins:List (Addr × Obj)} {σ:St} {H:Hp} {s:Shared} {A:Around} {E:Value->Shared->Prop} {Q:Value->Shared->Prop} {c:Value} {b:Bool}
inductive TyOf (K:PySem.W.Frag) (H:Hp):V->Value->Prop where
 | non:TyOf K H .non (.type "NoneType")
 | bl (x:Bool):TyOf K H (.bl x) (.type "bool")
 | int (i:Int):TyOf K H (.int i) (.type "int")
 | str (x:Str):TyOf K H (.str x) (.type "str")
 | flt (x:UInt64):TyOf K H (.flt x) (.type "float")
 | lst {a:Addr} {xs:List V} (e:H a=some (.lst xs)):TyOf K H (.ref a) (.type "list")
 | frz {a:Addr} {o:Obj} {xs:List V} (e:H a=some (.frz o (.lst xs))):TyOf K H (.ref a) (.type "list")
 | tup {a:Addr} {xs:List V} (e:H a=some (.tup xs)):TyOf K H (.ref a) (.type "tuple")
 | dK {a:Addr} {kvs:List (Key × V)} (e:H a=some (.dK kvs)):TyOf K H (.ref a) (.type "dict")
 | dT {a:Addr} {kvs:List (List Key × V)} (e:H a=some (.dT kvs)):TyOf K H (.ref a) (.type "dict")
 | ins {a C dx:Addr} {fs:List (Str × V)} (e:H a=some (.ins C dx fs)) (cl:Cls K C) (ha:PySem.W.findIn K (.ref C) "__class__"=some (some (.builtin "object.__class__")))
   (hn:PySem.W.specialIn K (.builtin "object.__class__") "__get__"=some (some (.builtin "getset_descriptor.__get__"))) (htk:PySem.W.takesIn K (.builtin "object.__class__")=some true)
   (hm:PySem.W.mroIn K C (.type "object")=some true):TyOf K H (.ref a) (.ref C)
end
end L2
namespace L2
open PySem PySem.Spec PyProof.Rows
structure Room (k:Nat) (A:Around):Prop where
 hd:A.handled=none
 dp:A.depth + 3*k + 5 < recursionLimit
 un:A.units + 16*k + 200 < cLine
theorem Room.mono {j k:Nat} {A:Around} (r:Room k A) (h:j<=k):Room j A:=⟨r.hd,by have:=r.dp;omega,by have:=r.un;omega⟩
theorem Room.deeper {k:Nat} {A:Around} (r:Room (k + 1) A) (env:Env):Room k (A.deeper env):=
 ⟨r.hd,by have:=r.dp;show A.depth + 1 + 3*k + 5 < _;omega,by have:=r.un;show A.units + 3 + 16*k + 200 < _;omega⟩
theorem Room.in1 {k:Nat} {A:Around} (r:Room (k + 1) A):Room k A.in1:=
 ⟨r.hd,by have:=r.dp;show A.depth + 3*k + 5 < _;omega,by have:=r.un;show A.units + 1 + 16*k + 200 < _;omega⟩
theorem Room.depth {k:Nat} {A:Around} (r:Room k A):A.depth < recursionLimit:=by have:=r.dp;omega
theorem Room.units {k:Nat} {A:Around} (r:Room k A):A.units + 64 < cLine:=by have:=r.un;omega
def tNil:TA:=fun _ H Q=>Q [] H
def tCons (ta:TE) (tr:TA):TA:=fun σ H Q=>ta σ H fun x H1=>tr σ H1 fun xs H2=>Q (x::xs) H2
section
variable {X:Cx} {e:Expr} {es:List Expr} {te:TE} {t:TA} {pos:Pos}
theorem pa_nil:PA X [] tNil:=fun _ _ _ _ H Q I h=>Calls.spliced_nil ⟨[],H,I,.nil,h⟩
theorem pa_cons (ha:PE X e te) (hr:PA X es t) (hs:starEach (e::es) X.env=(false,eval e X.env)::starEach es X.env:=by rfl):PA X (e::es) (tCons te t):=by
 intro pos pins s σ H Q I h
 rw [hs]
 show wpAny _ _ (spliced ((false,eval e X.env)::backTo pos (starEach es X.env))) _ _ s
 refine Calls.spliced_cons (thn (ha pins s σ H _ I h) fun u s1 ⟨x,H1,I1,r1,q1⟩=>?_)
 exact thn (hr pos pins s1 σ H1 _ I1 q1) fun us s2 ⟨xs,H2,I2,r2,q2⟩=>⟨x::xs,H2,I2,.cons r1 r2,q2⟩
def tTup (t:TA):TE:=fun σ H Q=>t σ H fun xs H1=>xs.length<=sizeLine/\∀ p,H1 p=none->Q (.ref p) (upd H1 p (.tup xs))
def tLst (t:TA):TE:=fun σ H Q=>t σ H fun xs H1=>xs.length<=sizeLine/\∀ p,H1 p=none->Q (.ref p) (upd H1 p (.lst xs))
theorem pe_tup {x1} (h:PA X es t):PE X (.Tuple es x1 pos) (tTup t):=by
 intro pins s σ H Q I hq
 refine wpAny_Tuple_spliced (thn (h pos pins s σ H _ I hq) fun us s1 ⟨xs,H1,I1,r,z,q⟩=>⟨by rw [<-r.length];exact z,?_⟩)
 have hf:H1 s1.heap.objs.size=none:=I1.hok.fresh (Nat.le_refl _)
 refine ⟨.ref s1.heap.objs.size,upd H1 s1.heap.objs.size (.tup xs),I1.laid (t':=s1.toks) (fun b u e=>Heap.get?_push_of_some _ e) (Nat.le_refl _) ?_,rfl,q _ hf⟩
 exact ⟨z,us,r,⟨_,Heap.get?_push_size _ rfl,rfl,_,rfl⟩⟩
theorem pe_lst (h:PA X es t):PE X (.List es pos) (tLst t):=by
 intro pins s σ H Q I hq
 refine wpAny_List_spliced (thn (h pos pins s σ H _ I hq) fun us s1 ⟨xs,H1,I1,r,z,q⟩=>⟨by rw [<-r.length];exact z,?_⟩)
 have hf:H1 s1.heap.objs.size=none:=I1.hok.fresh (Nat.le_refl _)
 refine ⟨.ref s1.heap.objs.size,upd H1 s1.heap.objs.size (.lst xs),I1.laid (t':=s1.toks) (fun b u e=>Heap.get?_push_of_some _ e) (Nat.le_refl _) ?_,rfl,q _ hf⟩
 exact ⟨z,us,0,r,Heap.get?_push_size _ rfl⟩
end
abbrev Sp:=List V->Hp->VK->XK->Prop
abbrev CXT:=List Env->Hp->Shared->XK->Value->Shared->Prop
structure Env0 (P:Program) (w:World) (K:PySem.W.Frag) (mg:Str->Option Value) (base:Heap) (A:Around) (outer:List Env) (s:Shared) (H:Hp):Prop where
 frames:A.frames=some outer
 mod:Mod K mg base
 bs:∀ b o,base.get? b=some o->s.heap.get? b=some o/\H b=none
 bsz:base.objs.size<=s.heap.objs.size
 funs:s.heap.FunFrames base outer
 frf:∀ b∈frs outer,H b=none
 hok:HOk P w H s.heap
 bare:AllBare s.gens
def CE (outer:List Env) (P:Program) (w:World) (H:Hp) (s:Shared) (Q:VK) (u:Value) (s':Shared):Prop:=
 ∃ v H',s'.os=s.os/\AllBare s'.gens/\Un (frs outer) [] H H' s.heap s'.heap/\HOk P w H' s'.heap/\RelV v u/\Q v H'
def CR (CX:CXT) (outer:List Env) (P:Program) (w:World) (H:Hp) (s:Shared) (Q:VK) (E:XK) (r:Result) (s':Shared):Prop:=
 match r with
 | .ok (.ret u)=>CE outer P w H s Q u s'
 | .ok _=>False
 | .error e=>CX outer H s E e s'
structure FnOk (P:Program) (w:World) (K:PySem.W.Frag) (mg:Str->Option Value) (base:Heap) (CX:CXT) (k:Nat) (f:Addr) (fd:FuncData) (ps:List Str) (sp:Sp):Prop where
 len:∀ vs H Q E,sp vs H Q E->vs.length=ps.length
 run:∀ (A:Around) (outer:List Env) (s:Shared) (H:Hp) (args:Args) (us:List Value) (vs:List V) (Q:VK) (E:XK),Room k A->Env0 P w K mg base A outer s H->BindsTo s fd args (ps.zip us)->Vals vs us->sp vs H Q E →
  codeAny (model P w) A (.call (.ref f) args) (CR CX outer P w H s Q E) s
theorem FnOk.mono {P:Program} {w:World} {K:PySem.W.Frag} {mg:Str->Option Value} {base:Heap} {CX:CXT} {j k:Nat} {f:Addr} {fd:FuncData} {ps:List Str} {sp:Sp} (F:FnOk P w K mg base CX j f fd ps sp) (h:j<=k) :
  FnOk P w K mg base CX k f fd ps sp:=⟨F.len,fun A outer s H args us vs Q E hr=>F.run A outer s H args us vs Q E (hr.mono h)⟩
theorem FnOk.imp {P:Program} {w:World} {K:PySem.W.Frag} {mg:Str->Option Value} {base:Heap} {CX:CXT} {k:Nat} {f:Addr} {fd:FuncData} {ps:List Str} {sp sp':Sp} (F:FnOk P w K mg base CX k f fd ps sp)
  (h:∀ vs H Q E,sp' vs H Q E->sp vs H Q E):FnOk P w K mg base CX k f fd ps sp':=
 ⟨fun vs H Q E q=>F.len vs H Q E (h _ _ _ _ q),fun A outer s H args us vs Q E hr he hb hv hs=>F.run A outer s H args us vs Q E hr he hb hv (h _ _ _ _ hs)⟩
theorem Env0.in1 {P:Program} {w:World} {K:PySem.W.Frag} {mg:Str->Option Value} {base:Heap} {A:Around} {outer:List Env} {s:Shared} {H:Hp} (e:Env0 P w K mg base A outer s H) :
  Env0 P w K mg base A.in1 outer s H:=⟨e.frames,e.mod,e.bs,e.bsz,e.funs,e.frf,e.hok,e.bare⟩
section
variable {X:Cx} {pins:List (Addr × Obj)} {σ:St} {H:Hp} {s s':Shared}
theorem Inv.env0 (I:Inv X pins σ H s):Env0 X.prog X.w X.K X.mg X.base X.A X.stack s H:=
 ⟨I.ok.frames,I.ok.mod,I.bs,Nat.le_trans I.ok.bsz I.sz,I.stack,I.stkFree,I.hok,I.bare⟩
theorem Inv.after {Q:VK} {u:Value} (I:Inv X pins σ H s) (h:CE X.stack X.prog X.w H s Q u s'):EP X pins σ Q u s':=by
 obtain ⟨v,H',os,bare,un,hok,r,q⟩:=h
 obtain ⟨hh,g,d,t,os'⟩:=s'
 obtain rfl:os'=s.os:=os
 exact ⟨v,H',I.call (h':=hh) (g':=g) (d':=d) (t':=t) (ch:=[]) un hok bare (fun b z=>absurd z (by simp)),r,q⟩
end
def tCall (sp:Sp) (dvs:List V) (E:XK) (t:TA):TE:=fun σ H Q=>t σ H fun vs H1=>sp (vs++dvs) H1 Q E
def Binds (K:PySem.W.Frag) (fd:FuncData) (ps:List Str) (ds:List Value):Prop:=
 ∀ (s:Shared) (us:List Value),K.In s.heap->(us++ds).length=ps.length->BindsTo s fd ⟨us,[]⟩ (ps.zip (us++ds))
theorem Binds.all {K:PySem.W.Frag} {fd:FuncData} {ps:List Str} (h:∀ us:List Value,us.length=ps.length->bindArgs fd ⟨us,[]⟩=pure (ps.zip us)):Binds K fd ps []:=fun s us _ hl=>by
 rw [List.append_nil] at hl ⊢
 exact .of_eq (h us hl)
def Passes (CX:CXT) (X:Cx) (E:XK):Prop:=∀ (pins:List (Addr × Obj)) (σ:St) (H:Hp) (s:Shared) (e:Value) (s':Shared),Inv X pins σ H s->CX X.stack H s E e s'->X.xe e s'
section
variable {X:Cx} {CX:CXT} {k:Nat} {f C:Addr} {fd:FuncData} {ps:List Str} {sp:Sp} {dvs:List V} {ds:List Value} {E:XK} {x m:Str} {p pos apos:Pos} {e o:Expr} {es:List Expr} {ta:TE} {t:TA}
theorem run_fn {pins:List (Addr × Obj)} {σ:St} {H:Hp} {s:Shared} {Q:VK} {us:List Value} {vs:List V} (F:FnOk X.prog X.w X.K X.mg X.base CX k f fd ps sp) (hr:Room k X.A) (hb:Binds X.K fd ps ds) (hd:Vals dvs ds) (hx:Passes CX X E)
  (I:Inv X pins σ H s) (r:Vals vs us) (h:sp (vs++dvs) H Q E):wpAny (model X.prog X.w) X.A (call (.ref f) us) (EP X pins σ Q) X.xe s:=by
 have r2:Vals (vs++dvs) (us++ds):=r.append hd
 have hl:(us++ds).length=ps.length:=by rw [<-r2.length];exact F.len _ _ _ _ h
 refine wpAny_call (codeAny_mono (F.run X.A X.stack s H ⟨us,[]⟩ (us++ds) (vs++dvs) Q E hr I.env0 (hb s us I.kIn hl) r2 h) fun r s' hq=>?_)
 cases r with
 | error e=>exact hx pins σ H s e s' I hq
 | ok fl=>
  cases fl with
  | ret u=>exact I.after hq
  | next=>exact False.elim hq
  | brk=>exact False.elim hq
  | cont=>exact False.elim hq
theorem pe_call (F:FnOk X.prog X.w X.K X.mg X.base CX k f fd ps sp) (hr:Room k X.A) (hg:Gl X x) (hm:X.mg x=some (.ref f)) (hk:PySem.W.keepIn X.K (.ref f)=true) (hb:Binds X.K fd ps ds) (hd:Vals dvs ds) (hx:Passes CX X E)
  (ha:PA X (e::es) t) (hdb:(x == ("__debug__":Str))=false:=by decide) (he:starEach (e::es) X.env=(false,eval e X.env)::starEach es X.env:=by rfl) (hpl:(backTo pos (starEach es X.env)).any (·.1)=false:=by rfl) :
  PE X (.Call (.Name x p) (e::es) [] pos) (tCall sp dvs E t):=by
 intro pins s σ H Q I h
 refine wpAny_Call_Name_kw (ld_glob I hg hm ?_ hdb)
 refine PySem.W.callWith_K (h₀:=X.base) I.ok.mod.kin hk (thn (ha pos pins s σ H _ I h) fun us s1 ⟨vs,H1,I1,r,q⟩=>⟨I1.kIn,?_⟩) he hpl
 exact run_fn F hr hb hd hx I1 r q
structure Mk (K:PySem.W.Frag) (C f:Addr):Prop where
 makes:PySem.W.makesIn K C=true
 init:PySem.W.findIn K (.ref C) "__init__"=some (some (.ref f))
 fn:PySem.W.isFn K (.ref f)=true
 kp:PySem.W.keepIn K (.ref C)=true
end
section
variable {X:Cx} {CX:CXT} {k:Nat} {f C:Addr} {fd:FuncData} {ps ks:List Str} {sp:Sp} {E:XK} {x m:Str} {p pos apos kpos:Pos} {e o:Expr} {es:List Expr} {kws:List Keyword} {te ta:TE} {t tk:TA} {nm:Option Str}
structure KBinds (K:PySem.W.Frag) (fd:FuncData) (ps ks:List Str) (g:List Value->List Value->List Value) (gV:List V->List V->List V):Prop where
 to:∀ (s:Shared) (us ws:List Value),K.In s.heap->(g us ws).length=ps.length->BindsTo s fd ⟨us,ks.zip ws⟩ (ps.zip (g us ws))
 rel:∀ {vs:List V} {us:List Value} {zs:List V} {ws:List Value},Vals vs us->Vals zs ws->Vals (gV vs zs) (g us ws)
variable {g:List Value->List Value->List Value} {gV:List V->List V->List V}
end
structure FnScope (N P:List Str) (sc:Scope):Prop where
 kind:sc.kind=.function
 co:sc.isCoroutine=false
 gen:sc.isGenerator=false
 nd:N.Nodup
 pre:N.take P.length=P
 par:∀ x∈P,sc.names.lookup x=some .local\/sc.names.lookup x=some .cell
 nofree:∀ y∈sc.names,y.2 ≠ .free
theorem bindL_out {kindOf:Str->Option NameKind} {x:Str}:∀ {binds:List (Str × Value)} {m:Str->Option Value},(∀ v,(x,v) ∉ binds)->bindL kindOf binds m x=m x
 | [],_,_=>rfl
 | (n,v)::r,m,h=>by
  unfold bindL
  rw [bindL_out fun w hw=>h w (List.mem_cons_of_mem _ hw)]
  split
  ·have:x ≠ n:=by rintro rfl;exact h v List.mem_cons_self
   simp [this]
  ·rfl
theorem bindC_out {kindOf:Str->Option NameKind} {x:Str}:∀ {binds:List (Str × Value)} {m:Str->Option Value},(∀ v,(x,v) ∉ binds)->bindC kindOf binds m x=m x
 | [],_,_=>rfl
 | (n,v)::r,m,h=>by
  unfold bindC
  rw [bindC_out fun w hw=>h w (List.mem_cons_of_mem _ hw)]
  split
  ·rfl
  ·have:x ≠ n:=by rintro rfl;exact h v List.mem_cons_self
   simp [this]
theorem bindL_get {kindOf:Str->Option NameKind} {x:Str} {v:Value}:∀ {P:List Str} {vs:List Value} {i:Nat} {m:Str->Option Value},P.Nodup->P[i]?=some x->vs[i]?=some v->kindOf x=some .local →
  bindL kindOf (P.zip vs) m x=some v
 | [],_,_,_,_,h,_,_=>by simp at h
 | _::_,[],_,_,_,_,h,_=>by simp at h
 | p::P,w::vs,0,m,nd,h1,h2,hk=>by
  simp at h1 h2;subst h1;subst h2
  show bindL kindOf ((p,w)::P.zip vs) m p=_
  unfold bindL
  rw [bindL_out fun v hv=>(List.nodup_cons.mp nd).1 (List.of_mem_zip hv).1,if_pos hk]
  simp
 | p::P,w::vs,i + 1,m,nd,h1,h2,hk=>by
  show bindL kindOf ((p,w)::P.zip vs) m x=_
  unfold bindL
  exact bindL_get (i:=i) (List.nodup_cons.mp nd).2 (by simpa using h1) (by simpa using h2) hk
theorem bindC_get {kindOf:Str->Option NameKind} {x:Str} {v:Value}:∀ {P:List Str} {vs:List Value} {i:Nat} {m:Str->Option Value},P.Nodup->P[i]?=some x->vs[i]?=some v->kindOf x ≠ some .local →
  bindC kindOf (P.zip vs) m x=some v
 | [],_,_,_,_,h,_,_=>by simp at h
 | _::_,[],_,_,_,_,h,_=>by simp at h
 | p::P,w::vs,0,m,nd,h1,h2,hk=>by
  simp at h1 h2;subst h1;subst h2
  show bindC kindOf ((p,w)::P.zip vs) m p=_
  unfold bindC
  rw [bindC_out fun v hv=>(List.nodup_cons.mp nd).1 (List.of_mem_zip hv).1,if_neg hk]
  simp
 | p::P,w::vs,i + 1,m,nd,h1,h2,hk=>by
  show bindC kindOf ((p,w)::P.zip vs) m x=_
  unfold bindC
  exact bindC_get (i:=i) (List.nodup_cons.mp nd).2 (by simpa using h1) (by simpa using h2) hk
def start (N:List Str) (vs:List V):St:=vs.map some++List.replicate (N.length - vs.length) none
def cxOf (CX:CXT) (P:Program) (w:World) (K:PySem.W.Frag) (mg:Str->Option Value) (base:Heap) (N:List Str) (qual:Str) (scope:Scope) (f:Addr) (cd:Value) (A:Around) (outer:List Env) (s:Shared) (H:Hp) (E:XK):Cx where
 prog:=P
 w:=w
 K:=K
 mg:=mg
 base:=base
 A:=A.deeper (envOfC qual scope s.heap.objs.size f cd)
 N:=N
 s₀:=s
 H₀:=H
 env:=envOfC qual scope s.heap.objs.size f cd
 outer:=outer
 stack:=envOfC qual scope s.heap.objs.size f cd::outer
 ex:=[]
 calm:=true
 fn:=fun _=>true
 pn:=[]
 xe:=fun e s'=>wpAny (model P w) (A.deeper (envOfC qual scope s.heap.objs.size f cd)) (leaving (envOfC qual scope s.heap.objs.size f cd) e) (fun _ s''=>CX outer H s E e s'') (fun e' s''=>CX outer H s E e' s'') s'
theorem cell_has {sc:Scope} {n:Nat} {x:Str} (h:sc.names.lookup x=some .cell):∃ c,(cellsFrom n sc.names []).lookup x=some c:=by
 have q:=PySem.W.cellsFrom_some sc.names n [] (.inl h)
 exact Option.isSome_iff_exists.mp q
theorem inv_start {CX:CXT} {P:Program} {w:World} {K:PySem.W.Frag} {mg:Str->Option Value} {base:Heap} {N ps:List Str} {qual:Str} {scope:Scope} {f:Addr} {cd:Value} {A:Around} {outer:List Env} {s s1:Shared} {H:Hp} {E:XK} {us:List Value} {vs:List V}
  (S:FnScope N ps scope) (hd:A.handled=none) (e0:Env0 P w K mg base A outer s H) (hl:vs.length=ps.length) (r:Vals vs us)
  (x:InCallC s s.heap.objs.size (bindL (envOfC qual scope s.heap.objs.size f cd).kindOf (ps.zip us) fun _=>none) (cellsFrom (s.heap.objs.size + 1) scope.names []) (bindC (envOfC qual scope s.heap.objs.size f cd).kindOf (ps.zip us) fun _=>none) s1) :
  Inv (cxOf CX P w K mg base N qual scope f cd A outer s H E) [] (start N vs) H s1:=by
 have hpl:ps.length<=N.length:=by have:=congrArg List.length S.pre;rw [List.length_take] at this;omega
 obtain ⟨h1,tk,rfl,hk⟩:=x.done
 have noA:∀ b:Addr,b ∉ (cxOf CX P w K mg base N qual scope f cd A outer s H E).ex:=fun b z=>absurd (show b∈([]:List Addr) from z) (by simp)
 refine ⟨⟨e0.mod,S.kind,rfl,rfl,Nat.le_refl _,fun y z c h1 h2=>?_,fun y hy=>?_,fun y c _ h=>?_,fun _=>hd,Around.frames_deeper e0.frames,.inr ⟨rfl,rfl⟩,fun b z=>absurd z (noA b),e0.bs,e0.bsz,fun b _ _=>noA b,fun b z=>absurd z (noA b),e0.funs,e0.frf⟩,
  rfl,e0.bare,Un.kept hk,⟨_,x.toInCall.ns,fun i y v h1 h2 h3=>?_⟩,fun y c h=>⟨_,x.cell y c h⟩,e0.hok.fresh (Nat.le_refl _),fun y c h=>?_,fun p hp=>absurd (show p∈([]:List (Addr × Obj)) from hp) (by simp),e0.hok.kept hk,?_⟩
 ·exact name_of_addr x.apart (PySem.mem_of_lookup h1) (PySem.mem_of_lookup h2)
 ·have hy:scope.names.lookup y=some .cell\/scope.names.lookup y=some .free:=hy
  rcases hy with hy | hy
  ·exact cell_has hy
  ·exact absurd rfl (S.nofree _ (PySem.mem_of_lookup hy))
 ·exact Nat.le_of_lt (x.above y c (PySem.mem_of_lookup h))
 ·have hi:i < vs.length:=by
   unfold start at h2
   by_cases hi:i < vs.length
   ·exact hi
   ·rw [List.getElem?_append_right (by simpa using hi)] at h2
    rw [List.getElem?_replicate] at h2
    split at h2 <;> cases h2
  have ha:vs[i]?=some v:=by
   unfold start at h2
   rw [List.getElem?_append_left (by simpa using hi),List.getElem?_map] at h2
   cases e:vs[i]? with
   | none=>rw [e] at h2;cases h2
   | some a=>rw [e] at h2;cases h2;rfl
  obtain ⟨u,hu,rv⟩:=r.get ha
  have hp:ps[i]?=some y:=by
   rw [<-S.pre,List.getElem?_take_of_lt (by omega)];exact h1
  have ndP:ps.Nodup:=by rw [<-S.pre];exact S.nd.sublist (List.take_sublist _ _)
  refine ⟨u,rv,?_⟩
  rcases S.par y (List.mem_of_getElem? hp) with k | k
  ·exact .inl ⟨k,bindL_get ndP hp hu k⟩
  ·obtain ⟨c,e⟩:=cell_has (n:=s.heap.objs.size + 1) k
   refine .inr ⟨.inl k,c,e,?_⟩
   have q:=x.cell y c e
   rw [bindC_get ndP hp hu (by show scope.names.lookup y ≠ _;rw [k];decide)] at q
   exact q
 ·exact e0.hok.fresh (Nat.le_of_lt (x.above y c (PySem.mem_of_lookup h)))
 ·unfold start
  show _=N.length
  rw [List.length_append,List.length_map,List.length_replicate]
  omega
theorem fn_of {CX:CXT} {P:Program} {w:World} {K:PySem.W.Frag} {mg:Str->Option Value} {base:Heap} {k:Nat} {f:Addr} {name qual:Str} {params:Arguments} {body:List Stmt} {scope:Scope} {dV kV doc pm cdv ct oc:Value} {an od:Option Addr}
  {osl:Array (Option Value)} {N ps:List Str} {sp:Sp} (lk:K.lookup f=some ⟨oc,od,.func (PySem.W.fnOf name qual params body scope dV kV doc pm an cdv ct),osl⟩) (hcd:PySem.W.codeIn K cdv qual=true) (S:FnScope N ps scope)
  (len:∀ vs H Q E,sp vs H Q E->vs.length=ps.length)
  (hbody:∀ (A:Around) (outer:List Env) (s:Shared) (H:Hp) (vs:List V) (Q:VK) (E:XK),Room k (A.deeper (envOfC qual scope s.heap.objs.size f cdv))->sp vs H Q E →
   ∃ t,PSs (cxOf CX P w K mg base N qual scope f cdv A outer s H E) body t/\t { nx:=fun _ H'=>Q .non H',rt:=Q } (start N vs) H) :
  FnOk P w K mg base CX (k + 1) f (PySem.W.fnOf name qual params body scope dV kV doc pm an cdv ct) ps sp:=by
 refine ⟨len,fun A outer s H args us vs Q E hr e0 hb r hsp=>?_⟩
 have hl:=len _ _ _ _ hsp
 have KX:K.In s.heap:=e0.mod.kin.keeps fun b o e=>(e0.bs b o e).1
 have lim:s.heap.NoLimit:=e0.mod.nolimit.keeps fun b o e=>(e0.bs b o e).1
 have hkind:∀ y∈ps.zip us,scope.names.lookup y.1=some .local\/(scope.names.lookup y.1=some .cell/\((cellsFrom (s.heap.objs.size + 1) scope.names []).lookup y.1).isSome=true):=fun ⟨n,v⟩ hy=>by
  rcases S.par n (List.of_mem_zip hy).1 with q | q
  ·exact .inl q
  ·exact .inr ⟨q,PySem.W.cellsFrom_some _ _ _ (.inl q)⟩
 refine codeAny_call_function hr.depth (KX _ _ lk) rfl S.co S.gen rfl (PySem.W.codeRec_of KX hcd) (hb _ _ _ _ ?_)
 refine wpAny_newFunctionEnv_cells S.kind hkind fun env he s1 x=>?_
 subst he
 refine ⟨lim.keeps x.toInCall.keep,codeAny_func ?_⟩
 obtain ⟨t,ht,hq⟩:=hbody A outer s H vs Q E (hr.deeper _) hsp
 have I:Inv (cxOf CX P w K mg base N qual scope f cdv A outer s H E) [] (start N vs) H s1:=inv_start S hr.hd e0 hl r x
 refine wpAny_mono (ht [] s1 (start N vs) H _ I hq) (fun fl s' hs=>?_) fun e s' hs=>hs
 have fin:∀ {σ':St} {H':Hp} {v:V} {u:Value},Inv (cxOf CX P w K mg base N qual scope f cdv A outer s H E) [] σ' H' s'->RelV v u->Q v H'->CE outer P w H s Q u s':=
  fun {σ' H' v u} J rv q=>⟨v,H',J.os,J.bare,J.base,J.hok,rv,q⟩
 cases fl with
 | ret u=>
  obtain ⟨v,σ',H',J,rv,q⟩:=hs
  exact fin J rv q
 | next=>
  obtain ⟨σ',H',J,q⟩:=hs
  exact fin (v:=V.non) (u:=Value.none) J rfl q
 | brk=>
  obtain ⟨_,_,_,q⟩:=hs
  exact False.elim q
 | cont=>
  obtain ⟨_,_,_,q⟩:=hs
  exact False.elim q
end L2
namespace L2
open PySem PySem.Spec PyProof.Rows
section
variable {X:Cx} {x:Str} {p pos:Pos} {e:Expr} {es:List Expr} {t:TA} {id T:String} {r:List V->Hp->VK->Prop}
def tCB (r:List V->Hp->VK->Prop) (t:TA):TE:=fun σ H Q=>t σ H fun vs H1=>r vs H1 Q
theorem pe_callB (hc:CallR X (.builtin id) r) (hg:Gl X x) (hm:X.mg x=none) (hv:bootBuiltins x=some (.builtin id)) (ha:PA X (e::es) t) (hn:x ≠ "__name__":=by decide) (hdb:(x == ("__debug__":Str))=false:=by decide)
  (he:starEach (e::es) X.env=(false,eval e X.env)::starEach es X.env:=by rfl) (hpl:(backTo pos (starEach es X.env)).any (·.1)=false:=by rfl):PE X (.Call (.Name x p) (e::es) [] pos) (tCB r t):=by
 intro pins s σ H Q I h
 refine wpAny_Call_Name_kw (ld_blt I hg hm hv ?_ hn hdb)
 exact PyProof.Rows.callWith_builtin1 (thn (ha pos pins s σ H _ I h) fun us s1 ⟨vs,H1,I1,r1,q1⟩=>hc pins s1 σ H1 vs us Q I1 r1 q1) he hpl
end
end L2
namespace HT
open PySem PyProof.Rows
section
open PySem.SeqAt
open PySem.AutoSeq1 (wpAny_loadPart')
open PySem.MeetsSeq PySem.MeetsSeq2 PySem.MeetsSeq3
end
section
variable {prog:Program} {w:World} {A:Around} {E:Value->Shared->Prop} {s:Shared}
def sIx (n d:Nat):Option Int->Nat
 | none=>d
 | some v=>if v < 0 then (v + (n:Int)).toNat else min v.toNat n
theorem sIx_none (n d:Nat):sIx n d none=d:=rfl
theorem sIx_nat (n d k:Nat):sIx n d (some (k:Int))=min k n:=by
 show (if (k:Int) < 0 then ((k:Int) + (n:Int)).toNat else min (k:Int).toNat n)=min k n
 rw [if_neg (by omega),Int.toNat_natCast]
end
end HT
namespace L2
open PySem PySem.Spec PyProof.Rows
abbrev TO:=St->Hp->(Option Int->Hp->Prop)->Prop
def PO (X:Cx) (e:Option Expr) (t:TO):Prop:=
 ∀ (pins:List (Addr × Obj)) (s:Shared) (σ:St) (H:Hp) (Q:Option Int->Hp->Prop),Inv X pins σ H s->t σ H Q →
  wpAny (model X.prog X.w) X.A (evalPart e X.env) (fun u s'=>∃ o H',Inv X pins σ H' s'/\IsPart u o/\Q o H') X.xe s
def tNoPart:TO:=fun _ H Q=>Q none H
def tPart (t:TE):TO:=fun σ H Q=>t σ H fun x H1=>∃ i,x=.int i/\Q (some i) H1
section
variable {X:Cx} {e:Expr} {te:TE} {lo hi:Option Expr} {tl th:TO} {pos p2:Pos}
theorem po_none:PO X none tNoPart:=by
 intro pins s σ H Q I h
 rw [evalPart_none]
 exact wpAny_pure ⟨none,H,I,.none,h⟩
theorem po_some (h:PE X e te):PO X (some e) (tPart te):=by
 intro pins s σ H Q I hw
 rw [evalPart_some]
 refine thn (h pins s σ H _ I hw) fun u s1 ⟨x,H1,I1,r1,q1⟩=>?_
 obtain ⟨i,rfl,q⟩:=q1
 obtain ⟨t,rfl⟩:=r1
 exact ⟨some i,H1,I1,.int i t,q⟩
def SlR (X:Cx) (r:V->Option Int->Option Int->Hp->VK->Prop):Prop:=
 ∀ (pins:List (Addr × Obj)) (s:Shared) (σ:St) (H:Hp) (x:V) (v vl vu:Value) (lo hi:Option Int) (sl:Addr) (Q:VK),Inv X pins σ H s->RelV x v->s.heap.IsSliceOf sl vl vu .none->IsPart vl lo->IsPart vu hi->r x lo hi H Q →
  ∃ T id,typeLookup (.type T) "__getitem__"=pure (some (.builtin id))/\s.TypeIs v T/\wpAny (model X.prog X.w) X.A (getItem v (.ref sl)) (EP X pins σ Q) X.xe s
theorem SlR.or {r r':V->Option Int->Option Int->Hp->VK->Prop} (h:SlR X r) (h':SlR X r'):SlR X (fun x lo hi H Q=>r x lo hi H Q\/r' x lo hi H Q):=by
 intro pins s σ H x v vl vu lo hi sl Q I rx hs pl pu q
 rcases q with q | q
 ·exact h pins s σ H x v vl vu lo hi sl Q I rx hs pl pu q
 ·exact h' pins s σ H x v vl vu lo hi sl Q I rx hs pl pu q
def tSl (r:V->Option Int->Option Int->Hp->VK->Prop) (te:TE) (tl th:TO):TE:=fun σ H Q=>te σ H fun x H1=>tl σ H1 fun l H2=>th σ H2 fun u H3=>r x l u H3 Q
theorem pe_slice {r:V->Option Int->Option Int->Hp->VK->Prop} (hr:SlR X r) (he:PE X e te) (hl:PO X lo tl) (hu:PO X hi th):PE X (.Subscript e (.Slice lo hi none p2) pos) (tSl r te tl th):=by
 intro pins s σ H Q I h
 refine Subscript_ (thn (he pins s σ H _ I h) fun v s1 ⟨x,H1,I1,r1,q1⟩=>?_)
 refine wpAny_Slice (thn (hl pins s1 σ H1 _ I1 q1) fun vl s2 ⟨l,H2,I2,pl,q2⟩=>thn (hu pins s2 σ H2 _ I2 q2) fun vu s3 ⟨u,H3,I3,pu,q3⟩=>?_)
 rw [evalPart_none]
 refine wpAny_pure ?_
 have I4:Inv X pins σ H3 { s3 with heap:=s3.heap.push { cls:=.type "slice",data:=.fields #[vl,vu,.none] } }:=I3.kept (t':=s3.toks) fun b ob q=>Heap.get?_push_of_some _ q
 obtain ⟨T,id,hT,ht,hg⟩:=hr pins { s3 with heap:=s3.heap.push { cls:=.type "slice",data:=.fields #[vl,vu,.none] } } σ H3 x v vl vu l u s3.heap.objs.size Q I4 r1 (Heap.IsSliceOf.new ..) pl pu q3
 show wpAny (model X.prog X.w) X.A (subscriptTail e (.Slice lo hi none p2) v (.ref s3.heap.objs.size)) (EP X pins σ Q) X.xe { s3 with heap:=s3.heap.push { cls:=.type "slice",data:=.fields #[vl,vu,.none] } }
 exact tail_any (ops:=[.ref s3.heap.objs.size,v]) ht hT hg (by with_unfolding_all rfl)
def cutV (xs:List V) (lo hi:Option Int):List V:=(xs.drop (HT.sIx xs.length 0 lo)).take (HT.sIx xs.length xs.length hi - HT.sIx xs.length 0 lo)
theorem cutV_length (xs:List V) (lo hi:Option Int):(cutV xs lo hi).length<=xs.length:=by
 unfold cutV
 rw [List.length_take,List.length_drop]
 omega
end
end L2
namespace L2
open PySem PySem.Spec PyProof.Rows
def ixN (n:Nat) (i:Int):Option Nat:=if 0<=i then (if i < n then some i.toNat else none) else if -(n:Int)<=i then some (i + n).toNat else none
def atI {α:Type} (xs:List α) (i:Int):Option α:=(ixN xs.length i).bind fun j=>xs[j]?
theorem ixN_seq {n:Nat} {i:Int} {j:Nat} (h:ixN n i=some j):seqIndex? i n=some j/\j < n/\-(n:Int)<=i/\i < n:=by
 unfold ixN at h
 by_cases h0:0<=i
 ·rw [if_pos h0] at h
  by_cases h1:i < n
  ·rw [if_pos h1] at h
   have e:i.toNat=j:=Option.some.inj h
   exact ⟨by rw [seqIndex_of h0 h1,e],by omega,by omega,h1⟩
  ·rw [if_neg h1] at h;cases h
 ·rw [if_neg h0] at h
  by_cases h1:-(n:Int)<=i
  ·rw [if_pos h1] at h
   have e:(i + n).toNat=j:=Option.some.inj h
   exact ⟨by rw [seqIndex_neg (by omega) h1,e],by omega,h1,by omega⟩
  ·rw [if_neg h1] at h;cases h
theorem atI_get {α:Type} {xs:List α} {i:Int} {v:α} (h:atI xs i=some v):∃ j,seqIndex? i xs.length=some j/\xs[j]?=some v/\j < xs.length/\-(xs.length:Int)<=i/\i < xs.length:=by
 unfold atI at h
 cases e:ixN xs.length i with
 | none=>rw [e] at h;cases h
 | some j=>
  rw [e] at h
  obtain ⟨h1,h2,h3,h4⟩:=ixN_seq e
  exact ⟨j,h1,h,h2,h3,h4⟩
theorem atI_nat {α:Type} {xs:List α} {j:Nat} {v:α} (h:xs[j]?=some v):atI xs (j:Int)=some v:=by
 have hj:j < xs.length:=(List.getElem?_eq_some_iff.mp h).1
 have e:ixN xs.length (j:Int)=some j:=by
  unfold ixN
  rw [if_pos (by omega),if_pos (by omega)];simp
 unfold atI;rw [e];exact h
theorem atI_last {α:Type} (xs:List α) (v:α):atI (xs++[v]) (-1)=some v:=by
 have hl:(xs++[v]).length=xs.length + 1:=by simp
 have e:ixN (xs++[v]).length (-1)=some xs.length:=by
  unfold ixN
  rw [hl,if_neg (by decide),if_pos (by omega)]
  congr 1
  omega
 unfold atI
 rw [e]
 show (xs++[v])[xs.length]?=some v
 simp
def PlainIx (b:Expr):Prop:=∀ o i,subscripted b false o i=operate [o,i] (getItem o i)
def IxR (X:Cx) (r:R2):Prop:=
 ∀ (value slice:Expr) (pins:List (Addr × Obj)) (s:Shared) (σ:St) (H:Hp) (x y:V) (v u:Value) (Q:VK),Inv X pins σ H s->RelV x v->RelV y u->r x y H Q →
  subscripted slice false v u=operate [v,u] (getItem v u)->wpAny (model X.prog X.w) X.A (subscriptTail value slice v u) (EP X pins σ Q) X.xe s
def MtR (X:Cx) (id:String) (r:V->List V->Hp->VK->Prop):Prop:=
 ∀ (pins:List (Addr × Obj)) (s:Shared) (σ:St) (H:Hp) (x:V) (xs:List V) (v:Value) (us:List Value) (Q:VK),Inv X pins σ H s->RelV x v->Vals xs us->r x xs H Q →
  wpAny (model X.prog X.w) X.A (call (.builtin id) (v::us)) (EP X pins σ Q) X.xe s
section
variable {X:Cx} {a b:Expr} {ta tb:TE} {pos:Pos}
theorem IxR.or {r r':R2} (h:IxR X r) (h':IxR X r'):IxR X (fun x y H Q=>r x y H Q\/r' x y H Q):=by
 intro value slice pins s σ H x y v u Q I rx ry q hs
 rcases q with q | q
 ·exact h value slice pins s σ H x y v u Q I rx ry q hs
 ·exact h' value slice pins s σ H x y v u Q I rx ry q hs
theorem MtR.or {id:String} {r r':V->List V->Hp->VK->Prop} (h:MtR X id r) (h':MtR X id r'):MtR X id (fun x xs H Q=>r x xs H Q\/r' x xs H Q):=by
 intro pins s σ H x xs v us Q I rx rs q
 rcases q with q | q
 ·exact h pins s σ H x xs v us Q I rx rs q
 ·exact h' pins s σ H x xs v us Q I rx rs q
theorem pe_ix {r:R2} (hr:IxR X r) (ha:PE X a ta) (hb:PE X b tb) (hs:PlainIx b):PE X (.Subscript a b pos) (tOp r ta tb):=by
 intro pins s σ H Q I h
 exact Subscript_ (binT ha hb I h fun v u s2 x y H2 I2 rx ry q=>hr a b pins s2 σ H2 x y v u Q I2 rx ry q (hs _ _))
def rIxL (K:PySem.W.Frag):R2:=fun x y H Q=>∃ p xs i v,x=.ref p/\y=.int i/\SqL K H p xs/\atI xs i=some v/\Q v H
def rIxT (K:PySem.W.Frag):R2:=fun x y H Q=>∃ p xs i v,x=.ref p/\y=.int i/\SqT K H p xs/\atI xs i=some v/\Q v H
theorem ix_list:IxR X (rIxL X.K):=by
 intro value slice pins s σ H x y v u Q I rx ry h hs
 obtain ⟨p,xs,i,z,rfl,rfl,hq,he,q⟩:=h
 cases rx
 obtain ⟨t,rfl⟩:=ry
 obtain ⟨its,r,pl,hz⟩:=I.list hq
 obtain ⟨j,h1,h2,h3,h4,h5⟩:=atI_get he
 obtain ⟨w,ew,rw'⟩:=r.get h2
 have hl:=r.length
 have hn:=line63
 have fin:EP X pins σ Q w s:=⟨z,H,I,rw',q⟩
 by_cases h0:0<=i
 ·have hj:i.toNat=j:=by
   rw [seqIndex_of h0 h5] at h1
   exact Option.some.inj h1
  exact item_listR pl.isList h0 (by omega) (by rw [hj];simpa using ew) fin hs
 ·have hj:(i + (its.toArray.size:Int)).toNat=j:=by
   rw [seqIndex_neg (by omega) h4] at h1
   rw [List.size_toArray,<-hl]
   exact Option.some.inj h1
  exact subscriptTail_builtinR (x:=w) pl.isList.typeIs slot_list_getitem.lookup
   (wpAny_getItem_list_neg (Q:=fun r s'=>r=w/\EP X pins σ Q r s') pl.isList (by omega) (by rw [List.size_toArray] <;> omega) (by omega) (by rw [hj];simpa using ew) ⟨rfl,fin⟩) hs
theorem ix_tup:IxR X (rIxT X.K):=by
 intro value slice pins s σ H x y v u Q I rx ry h hs
 obtain ⟨p,xs,i,z,rfl,rfl,hq,he,q⟩:=h
 cases rx
 obtain ⟨t,rfl⟩:=ry
 obtain ⟨its,r,pl,hz⟩:=I.tuple hq
 obtain ⟨j,h1,h2,h3,h4,h5⟩:=atI_get he
 obtain ⟨w,ew,rw'⟩:=r.get h2
 have hl:=r.length
 have hn:=line63
 have fin:EP X pins σ Q w s:=⟨z,H,I,rw',q⟩
 exact subscriptTail_builtinR (x:=w) pl.typeIs slot_tuple_getitem.lookup
  (getItem_tuple (j:=j) (Q:=fun r s'=>r=w/\EP X pins σ Q r s') pl (by omega) (by omega) (by rw [List.size_toArray,<-hl];exact h1) (by simpa using ew) ⟨rfl,fin⟩) hs
theorem Inv.lst {pins:List (Addr × Obj)} {σ:St} {H:Hp} {s:Shared} {p:Addr} {xs:List V} (I:Inv X pins σ H s) (h:H p=some (.lst xs)) :
  ∃ (its:List Value) (n:Nat),Vals xs its/\s.heap.get? p=some { cls:=.type "list",data:=.seq its.toArray n }/\xs.length<=sizeLine:=by
 obtain ⟨z,its,n,r,e⟩:=I.hok p _ h
 exact ⟨its,n,r,e,z⟩
theorem slice_bounds (lo hi:Option Int) (n:Nat):(sliceBounds lo hi none n).1=((HT.sIx n 0 lo:Nat):Int)/\(sliceBounds lo hi none n).2.1=((HT.sIx n n hi:Nat):Int)/\(sliceBounds lo hi none n).2.2=1:=by
 refine ⟨?_,?_,rfl⟩
 ·cases lo with
  | none=>simp [sliceBounds,HT.sIx]
  | some i=>
   simp only [sliceBounds,HT.sIx,Option.getD_none,show (1:Int) > 0 by decide,if_true]
   by_cases h:i < 0
   ·simp only [h,if_true] <;> omega
   ·simp only [h,if_false] <;> omega
 ·cases hi with
  | none=>simp [sliceBounds,HT.sIx]
  | some i=>
   simp only [sliceBounds,HT.sIx,Option.getD_none,show (1:Int) > 0 by decide,if_true]
   by_cases h:i < 0
   ·simp only [h,if_true] <;> omega
   ·simp only [h,if_false] <;> omega
theorem slicePick_cut (its:List Value) (lo hi:Option Int):slicePick its.toArray lo hi none=((its.drop (HT.sIx its.length 0 lo)).take (HT.sIx its.length its.length hi - HT.sIx its.length 0 lo)).toArray:=by
 obtain ⟨h1,h2,h3⟩:=slice_bounds lo hi its.toArray.size
 unfold slicePick
 rw [h1,h2,h3]
 simp only [sliceRange_one,pick_run,List.size_toArray] <;> rfl
def rSlL (K:PySem.W.Frag):V->Option Int->Option Int->Hp->VK->Prop:=fun x lo hi H Q=>∃ a xs,x=.ref a/\SqL K H a xs/\∀ p,H p=none->Q (.ref p) (upd H p (.lst (cutV xs lo hi)))
theorem sl_list:SlR X (rSlL X.K):=by
 intro pins s σ H x v vl vu lo hi sl Q I rx hs pl pu h
 obtain ⟨a,xs,rfl,hx,q⟩:=h
 cases rx
 obtain ⟨its,r,ht,hz⟩:=I.list hx
 have hlen:=r.length
 refine ⟨"list",_,slot_list_getitem.lookup,ht.isList.typeIs,?_⟩
 refine wpAny_getItem_list_slice ht.isList hs pl pu .none (by simp) ?_ (by rw [List.size_toArray] <;> omega)
 rw [slicePick_cut,<-hlen]
 refine ⟨.ref s.heap.objs.size,_,I.laid (t':=s.toks) (o:=.lst (cutV xs lo hi)) (fun b ob q=>Heap.get?_push_of_some _ q) (Nat.le_refl _) ?_,rfl,q _ (I.hok.fresh (Nat.le_refl _))⟩
 exact ⟨Nat.le_trans (cutV_length xs lo hi) hz,_,0,(r.drop (HT.sIx xs.length 0 lo)).take (HT.sIx xs.length xs.length hi - HT.sIx xs.length 0 lo),Heap.get?_push_size _ rfl⟩
theorem call_len_seq:CallR X (.builtin "len") (fun xs H Q=>∃ p ys,xs=[.ref p]/\(SqL X.K H p ys\/SqT X.K H p ys)/\Q (.int ys.length) H):=by
 intro pins s σ H xs us Q I r h
 obtain ⟨p,ys,rfl,hq,q⟩:=h
 obtain ⟨u,rfl,rx⟩:=vals1 r
 cases rx
 have hn:=line63
 rcases hq with hq | hq
 ·obtain ⟨its,r',pl,hz⟩:=I.list hq
  have hlen:=r'.length
  exact Calls.call_len_list pl.isList (by simp only [List.size_toArray] <;> omega) ⟨.int ys.length,H,I.tok _,⟨s.toks + 1,by rw [List.size_toArray,hlen]⟩,q⟩
 ·obtain ⟨its,r',pl,hz⟩:=I.tuple hq
  have hlen:=r'.length
  exact len_tuple pl (by simp only [List.size_toArray] <;> omega) ⟨.int ys.length,H,I.tok _,⟨s.toks + 1,by rw [List.size_toArray,hlen]⟩,q⟩
theorem CallR.or {f:Value} {r r':List V->Hp->VK->Prop} (h:CallR X f r) (h':CallR X f r'):CallR X f (fun xs H Q=>r xs H Q\/r' xs H Q):=by
 intro pins s σ H xs us Q I rs q
 rcases q with q | q
 ·exact h pins s σ H xs us Q I rs q
 ·exact h' pins s σ H xs us Q I rs q
def tyV (K:PySem.W.Frag) (T:String) (x:V) (H:Hp):Prop:=match x with
 | .str _=>T="str"
 | .int _=>T="int"
 | .ref p=>(T="list"/\∃ xs,SqL K H p xs)\/(T="tuple"/\∃ o,K.lookup p=some o/\o.cls=.type "tuple"/\o.dict=none) ∨
   (T="dict"/\((∃ kvs,H p=some (.dK kvs))\/∃ kvs,H p=some (.dT kvs)))\/(T="set"/\∃ S n,H p=some (.set S n))
 | _=>False
theorem tyV_is {pins:List (Addr × Obj)} {σ:St} {H:Hp} {s:Shared} {T:String} {x:V} {v:Value} (I:Inv X pins σ H s) (r:RelV x v) (ty:tyV X.K T x H) :
  s.TypeIs v T/\∀ a,v=.ref a->∃ ob,s.heap.get? a=some ob/\ob.dict=none:=by
 cases x with
 | str z=>
  obtain ⟨t,rfl⟩:=r
  cases (show T="str" from ty)
  exact ⟨typeIs_str s z t,fun _ e=>nomatch e⟩
 | int i=>
  obtain ⟨t,rfl⟩:=r
  cases (show T="int" from ty)
  exact ⟨typeIs_int s i t,fun _ e=>nomatch e⟩
 | ref p=>
  cases r
  rcases ty with ⟨rfl,xs,hq⟩ | ⟨rfl,o,hk,hc,hd⟩ | ⟨rfl,hk⟩ | ⟨rfl,S,n,hk⟩
  ·obtain ⟨its,_,pl,_⟩:=I.list hq
   refine ⟨pl.isList.typeIs,fun a e=>?_⟩
   cases e
   obtain ⟨o,n,e,c,hd,_⟩:=pl
   exact ⟨o,e,hd⟩
  ·refine ⟨⟨o,I.kIn p o hk,hc⟩,fun a e=>?_⟩
   cases e
   exact ⟨o,I.kIn _ o hk,hd⟩
  ·have z:∃ o,s.heap.get? p=some o/\o.ExactDict:=by
    rcases hk with ⟨kvs,hk⟩ | ⟨kvs,hk⟩
    ·obtain ⟨_,_,_,_,o,_,_,e,ex,_⟩:=I.hok p _ hk
     exact ⟨o,e,ex⟩
    ·obtain ⟨_,_,_,_,o,_,_,e,ex,_⟩:=I.hok p _ hk
     exact ⟨o,e,ex⟩
   obtain ⟨o,e,ex⟩:=z
   refine ⟨⟨o,e,ex.1⟩,fun a e2=>?_⟩
   cases e2
   exact ⟨o,e,ex.2.1⟩
  ·obtain ⟨o,_,_,_,e,ex,_⟩:=I.hok p _ hk
   refine ⟨⟨o,e,ex.1⟩,fun a e2=>?_⟩
   cases e2
   exact ⟨o,e,ex.2.1⟩
 | _=>exact False.elim ty
def tBM0 (K:PySem.W.Frag) (T:String) (r:V->List V->Hp->VK->Prop) (to:TE):TE:=fun σ H Q=>to σ H fun x H1=>tyV K T x H1/\r x [] H1 Q
def tBM (K:PySem.W.Frag) (T:String) (r:V->List V->Hp->VK->Prop) (to:TE) (t:TA):TE:=fun σ H Q=>to σ H fun x H1=>tyV K T x H1/\t σ H1 fun xs H2=>r x xs H2 Q
variable {o e:Expr} {es:List Expr} {to:TE} {t:TA} {name:Str} {apos cpos:Pos} {T id:String} {r:V->List V->Hp->VK->Prop}
theorem pe_bm0 (pa:PlainAttrs T) (slot:Slot T name id) (hty:typeOf (.builtin id)=pure (.type "method_descriptor")) (hm:MtR X id r) (ho:PE X o to)
  (hbase:attributeBase o name X.env (eval o X.env)=eval o X.env:=by rfl) (hline:(apos.endLine == cpos.line)=true:=by rfl):PE X (.Call (.Attribute o name apos) [] [] cpos) (tBM0 X.K T r to):=by
 intro pins s σ H Q I h
 refine wpAny_Call_method0_late hbase hline (thn (ho pins s σ H _ I h) fun v s1 ⟨x,H1,I1,r1,ty,q1⟩=>?_)
 obtain ⟨h1,h2⟩:=tyV_is I1 r1 ty
 exact ⟨T,id,pa,slot,hty,h1,h2,Calls.callWith_builtin rfl (PySem.evalArgs_none (hm pins s1 σ H1 x [] v [] Q I1 r1 .nil q1))⟩
theorem pe_bm (pa:PlainAttrs T) (slot:Slot T name id) (hty:typeOf (.builtin id)=pure (.type "method_descriptor")) (hm:MtR X id r) (ho:PE X o to) (ha:PA X (e::es) t)
  (hbase:attributeBase o name X.env (eval o X.env)=eval o X.env:=by rfl)
  (hfew:((backTo cpos (starEach (e::es) X.env)).all (fun x=>!x.1) && (backToKw cpos (keywordEach [] X.env)).all (fun x=>x.1.isSome)
   && decide ((e::es).length + ([]:List Keyword).length + (if ([]:List Keyword).isEmpty then 0 else 1) < 30))=true:=by rfl)
  (hline:(apos.endLine == cpos.line)=true:=by rfl) (hs:starEach (e::es) X.env=(false,eval e X.env)::starEach es X.env:=by rfl) (hplain:(backTo cpos (starEach es X.env)).any (·.1)=false:=by rfl) :
  PE X (.Call (.Attribute o name apos) (e::es) [] cpos) (tBM X.K T r to t):=by
 intro pins s σ H Q I h
 refine wpAny_Call_method_late hbase hfew hline rfl (thn (ho pins s σ H _ I h) fun v s1 ⟨x,H1,I1,r1,ty,q1⟩=>?_)
 obtain ⟨h1,h2⟩:=tyV_is I1 r1 ty
 refine ⟨T,id,pa,slot,hty,h1,h2,?_⟩
 have hA:=ha cpos pins s1 σ H1 _ I1 q1
 rw [hs] at hA ⊢
 refine Calls.callWith_builtin (by show (false || (backTo cpos (starEach es X.env)).any (·.1))=false;rw [hplain] <;> rfl) (Calls.evalArgs_plain ?_)
 exact thn hA fun us s2 ⟨vs,H2,I2,r2,q2⟩=>hm pins s2 σ H2 x vs v us Q I2 r1 r2 q2
/- xs.append(e),list.index on a module's tuple .. are MtR facts of 06m -/
end
end L2
namespace L2
open PySem PySem.Spec PyProof.Rows
def MtM (X:Cx) (id:String) (r:V->List V->Hp->VK->Prop):Prop:=
 ∀ (pins:List (Addr × Obj)) (s:Shared) (σ:St) (H:Hp) (x:V) (xs:List V) (v:Value) (us:List Value) (Q:VK),Inv X pins σ H s->RelV x v->Vals xs us->r x xs H Q →
  wpAny (model X.prog X.w) X.A (call (.builtin id) (v::us)) (EP X pins σ Q) X.xe s
theorem Vals.one:∀ {x:V} {us:List Value},Vals [x] us->∃ u,us=[u]/\RelV x u
 | _,_,.cons r .nil=>⟨_,rfl,r⟩
theorem Vals.two:∀ {x y:V} {us:List Value},Vals [x,y] us->∃ u v,us=[u,v]/\RelV x u/\RelV y v
 | _,_,_,.cons r (.cons q .nil)=>⟨_,_,rfl,r,q⟩
theorem Vals.zero:∀ {us:List Value},Vals [] us->us=[]
 | _,.nil=>rfl
theorem Vals.dropLast {xs:List V} {us:List Value} (h:Vals xs us):Vals xs.dropLast us.dropLast:=by
 induction h with
 | nil=>exact .nil
 | cons r t ih=>
  cases t with
  | nil=>exact .nil
  | cons q t'=>exact .cons r ih
theorem Vals.eraseIdx:∀ {xs:List V} {us:List Value} (i:Nat),Vals xs us->Vals (xs.eraseIdx i) (us.eraseIdx i)
 | _,_,_,.nil=>.nil
 | _,_,0,.cons _ t=>t
 | _,_,i + 1,.cons r t=>.cons r (Vals.eraseIdx i t)
theorem Vals.reverse {xs:List V} {us:List Value} (h:Vals xs us):Vals xs.reverse us.reverse:=by
 induction h with
 | nil=>exact .nil
 | cons r t ih=>rw [List.reverse_cons,List.reverse_cons];exact Vals.append ih (.cons r .nil)
theorem erase_last {α:Type} (l:List α):l.eraseIdx (l.length - 1)=l.dropLast:=by
 induction l with
 | nil=>rfl
 | cons a r ih=>
  cases r with
  | nil=>rfl
  | cons b r=>
   have e:(a::b::r).length - 1=((b::r).length - 1) + 1:=by
    have h1:(a::b::r).length=r.length + 2:=rfl
    have h2:(b::r).length=r.length + 1:=rfl
    omega
   rw [e,List.eraseIdx_cons_succ,ih]
   all_goals rfl
section
variable {X:Cx} {pins:List (Addr × Obj)} {σ:St} {H:Hp} {s:Shared} {l b:Addr} {xs ys zs:List V}
theorem Inv.lset {its its':List Value} {n:Nat} {f:Array Value->Array Value} {t':Nat} (I:Inv X pins σ H s) (hH:H l=some (.lst xs))
  (e:s.heap.get? l=some { cls:=.type "list",data:=.seq its.toArray n }) (hf:f its.toArray=its'.toArray) (hv:Vals ys its') (hz:ys.length<=sizeLine) :
  Inv X pins σ (upd H l (.lst ys)) { s with heap:=s.heap.update l (Obj.mapSeq f),toks:=t' }:=by
 have q:=PySem.IsL.update e f
 rw [hf] at q
 refine I.write (x:=l) (e:=l) (by rw [hH];exact trivial) (.inl rfl) (fun b' u hb hu=>(Heap.get?_update_other s.heap (Obj.mapSeq f) (Ne.symm hb)).trans hu) ⟨_,q⟩ ?_
 exact ⟨hz,its',_,hv,q⟩
theorem Inv.lnew {its:List Value} {t':Nat} (I:Inv X pins σ H s) (hv:Vals ys its) (hz:ys.length<=sizeLine) :
  Inv X pins σ (upd H s.heap.objs.size (.lst ys)) { s with heap:=s.heap.push { cls:=.type "list",data:=.seq its.toArray },toks:=t' }:=
 I.laid (fun _ _ q=>Heap.get?_push_of_some _ q) (Nat.le_refl _) ⟨hz,its,0,hv,Heap.get?_push_size _ rfl⟩
theorem Inv.fresh (I:Inv X pins σ H s):H s.heap.objs.size=none:=I.hok.fresh (Nat.le_refl _)
theorem Inv.lstM (I:Inv X pins σ H s) (hH:H l=some (.lst xs)):xs.length<=sizeLine/\∃ (its:List Value) (n:Nat),Vals xs its/\xs.length=its.length/\s.heap.get? l=some { cls:=.type "list",data:=.seq its.toArray n }:=by
 obtain ⟨z,its,n,r,e⟩:=I.hok l _ hH
 exact ⟨z,its,n,r,r.length,e⟩
end
section
variable {X:Cx}
def rAppend:V->List V->Hp->VK->Prop:=fun x vs H Q=>∃ l xs y,x=.ref l/\vs=[y]/\H l=some (.lst xs)/\xs.length < sizeLine/\Q .non (upd H l (.lst (xs++[y])))
theorem mt_append:MtM X "list.append" rAppend:=by
 intro pins s σ H x vs v us Q I rx rv h
 obtain ⟨l,xs,y,rfl,rfl,hH,hz,q⟩:=h
 cases rx
 obtain ⟨u,rfl,ru⟩:=rv.one
 obtain ⟨z,its,n,r,hl,e⟩:=I.lstM hH
 refine call_meets F.slot_list_append ⟨_,e,rfl⟩ F.entry_list_append (F.args_list_append_2 _ _) (PySem.list_append l its.toArray n u (by rw [List.size_toArray];omega)) ⟨e,?_⟩
 refine ⟨.non,_,I.lset (its':=its++[u]) hH e (by simp) (r.append (.cons ru .nil)) ?_,rfl,q⟩
 rw [List.length_append,List.length_singleton]
 omega
def rPop:V->List V->Hp->VK->Prop:=fun x vs H Q=>∃ l xs y,x=.ref l/\vs=[]/\H l=some (.lst xs)/\xs[xs.length - 1]?=some y/\Q y (upd H l (.lst xs.dropLast))
theorem mt_pop:MtM X "list.pop" rPop:=by
 intro pins s σ H x vs v us Q I rx rv h
 obtain ⟨l,xs,y,rfl,rfl,hH,hy,q⟩:=h
 cases rx
 have hus:=rv.zero
 subst hus
 obtain ⟨z,its,n,r,hl,e⟩:=I.lstM hH
 obtain ⟨u,hu,ru⟩:=r.get hy
 have hy':its.toArray[its.toArray.size - 1]?=some u:=by
  show its.toArray[its.length - 1]?=some u
  rw [<-Array.getElem?_toList,<-hl]
  exact hu
 refine call_meets F.slot_list_pop ⟨_,e,rfl⟩ F.entry_list_pop (F.args_list_pop_1 _) (MeetsSeq.list_pop_last l its.toArray n u hy' (by rw [List.size_toArray];omega)) ⟨e,?_⟩
 refine ⟨y,_,I.lset (its':=its.dropLast) hH e ?_ r.dropLast ?_,ru,q⟩
 ·show its.toArray.eraseIdxIfInBounds (its.toArray.size - 1)=its.dropLast.toArray
  rw [List.size_toArray,List.eraseIdxIfInBounds_toArray,erase_last]
 ·rw [List.length_dropLast]
  omega
end
section
variable {prog:Program} {w:World} {A:Around} {E:Value->Shared->Prop} {s:Shared}
end
section
variable {X:Cx}
end
end L2
namespace Att
open PySem PySem.W PySem.Calls PyProof.Rows
theorem ints_of_wellAll {P:Params} {h:Heap}:∀ (ns:List Int) (vs:List Value),WellAll P h vs (ns.map WData.int)->IntsAre vs ns:=by
 intro ns
 induction ns with
 | nil=>
  intro vs w
  rw [List.map_nil] at w
  cases w
  exact .nil
 | cons n ns ih=>
  intro vs w
  rw [List.map_cons] at w
  cases w with
  | cons a b=>
   cases a
   exact .cons _ _ (ih _ b)
theorem script_of {l:OpenLaw} {n:Nat} (hn:l.most=some n) {P:Params} {h:Heap} {args:List WData} {vals:List Value}
  (hpre:l.row.toRowW.claim.pre args=true) (hwl:WellAll P h vals args) :
  ∃ a vs ns,vals=[Value.ref a]/\args=[WData.list (ns.map WData.int)]/\h.get? a=some { cls:=.type "list",data:=.seq vs.toArray }/\IntsAre vs ns/\ns.length<=n:=by
 have hsh:WShape.hasAll [] args [.list .int]=true:=(pre_splitW hpre).1
 have hc:l.pre.holds [] { args:=args }=true:=(pre_splitW hpre).2
 obtain ⟨d,r,rfl,h1,h2⟩:=hasAllW_cons hsh
 obtain rfl:=hasAllW_nil h2
 obtain ⟨xs,rfl,h3⟩:=hasW_list h1
 obtain ⟨ns,rfl⟩:=items_int h3
 have hlen:ns.length<=n:=by
  unfold OpenLaw.pre at hc
  have h4:(WTm.not (.lt (.lit (.int (n:Int))) (.len (.arg 0)))).holds [] { args:=[.list (ns.map .int)] }=true:=by
   have h4:=(holds_andW hc).1
   rw [hn] at h4
   exact h4
  have h5:=condW_of h4 (w_not (w_lt w_lit (w_len_list (w_arg rfl))))
  rw [List.length_map] at h5
  refine Nat.le_of_not_lt fun q=>?_
  have q':(n:Int) < ((ns.length:Nat):Int):=by omega
  first
   | (rw [decide_eq_true q'] at h5;exact absurd h5 (by decide))
   | (simp at h5;omega)
 cases hwl with
 | cons w1 w2=>
  cases w2
  cases w1 with
  | list ho hall=>exact ⟨_,_,ns,rfl,rfl,ho,ints_of_wellAll ns _ hall,hlen⟩
theorem post_true (l:OpenLaw) (args:List WData):l.row.toRowW.claim.post args (.bool true) args=true:=
 postW_of (r:=l.row.toRowW) (X:=(true == true))
  (show WShape.has [] (.bool true) .bool=true by first | rfl | decide | simp [WShape.has,WShape.arms,WShape.armsAll])
  (show (WTm.eq .res (.lit (.bool true))).value [] { args:=args,res:=some (.bool true),after:=args }=some (.bool (true == true)) from w_eq_bool (w_res rfl) w_lit) rfl
theorem attach_call {l:OpenLaw} {n:Nat} {q:Program} {loose:List Str} {XP:(Str->Option Value)->Heap->Prop} {YP:World->Heap->Prop} {d:DefRec}
  (hn:l.most=some n) (hdf:d.params.defaults=[])
  (call:∀ (w:World) (s₀ s₁:Shared) (mg mb:Str->Option Value) (fa:Addr) (o:Obj) (pm cd doc:Value) (a:Addr) (vs:List Value) (ns:List Int),
   Ground q loose [] XP w s₀ mg mb s₁.heap->YP w s₁.heap →
   s₁.heap.get? fa=some o->o.data=.func (docDef d.name d.params d.body d.scope pm cd doc)->s₁.heap.CodeRec cd d.name->mg d.name=some (.ref fa) →
   s₁.heap.get? a=some { cls:=.type "list",data:=.seq vs.toArray }->IntsAre vs ns->ns.length<=n->s₁.gens=#[] →
   codeAny (model l.prog w) callerA (.call (.ref fa) ⟨[.ref a],[]⟩) (fun r s'=>r=.ok (.ret (.bool true))/\OldK s₁.heap s'.heap/\s'.os=s₁.os/\AllBare s'.gens) s₁) :
  WalkO q loose XP YP l.row.toRowW d [] (fun f vs=>PySem.call f vs):=by
 intro w s₀ s₁ mg mb G Y fa o pm cd doc dV kV ho hd hcd hD hmg hg args vals as hpre hlay hrd hwl hlo
 obtain rfl:dV=.none:=Dflts.none hD hdf
 obtain rfl:kV=.none:=Dflts.noKw hD
 obtain ⟨a,vs,ns,rfl,rfl,hobj,hints,hlen⟩:=script_of hn hpre hwl
 refine enter_call (codeAny_mono (call w s₀ s₁ mg mb fa o pm cd doc a vs ns G Y ho (fd_plain hd) hcd hmg hobj hints hlen hg) fun r s' hq=>?_)
 obtain ⟨rfl,h2,h3,h4⟩:=hq
 exact ⟨.inl ⟨.bool true,.bool true,[],rfl,fun _=>rfl,.bool true,post_true l _,fun _=>⟨List.Pairwise.nil,fun _ hm=>(nomatch hm)⟩⟩,h2,h3,h4⟩
section
variable {prog:Program} {w:World} {A:Around} {E:Value->Shared->Prop} {s:Shared} {K:Frag}
end
end Att
namespace L2
open PySem PySem.Spec PyProof.Rows
theorem vals_ints:∀ {vs:List Value} {ns:List Int},IntsAre vs ns->Vals (ns.map V.int) vs
 | _,_,.nil=>.nil
 | _,_,.cons n t h=>.cons ⟨t,rfl⟩ (vals_ints h)
def Only (H:Hp):Prop:=∀ b,H b=none\/∃ o xs,H b=some (.frz o (.lst xs))
theorem law_call {P:Program} {w:World} {K:PySem.W.Frag} {mg mb:Str->Option Value} {CX:CXT} {k:Nat} {fa a:Addr} {fd:FuncData} {x:Str} {sp:Sp} {s₁:Shared} {vs:List Value} {ns:List Int}
  (KX:K.In s₁.heap) (hns:s₁.heap.Ns mainGlobals mg) (hb:s₁.heap.Ns builtinsNs mb) (hbb:∀ x:Str,x ≠ "__name__"->mb x=bootBuiltins x) (hlim:s₁.heap.NoLimit) (hg:s₁.gens=#[])
  (ha:s₁.heap.get? a=some { cls:=.type "list",data:=.seq vs.toArray }) (hi:IntsAre vs ns) (hl:ns.length<=sizeLine) (hr:Room k callerA)
  (F:∀ base:Heap,K.In base->base.Ns mainGlobals mg->FnOk P w K mg base CX k fa fd [x] sp) (hbind:∀ (s:Shared) (u:Value),BindsTo s fd ⟨[u],[]⟩ [(x,u)])
  (hsp:∀ H:Hp,Only H->SqL K H a (ns.map V.int)->sp [.ref a] H (fun v _=>v=.bl true) fun _ _ _=>False)
  (hCX:∀ H e s',CX [] H s₁ (fun _ _ _=>False) e s'->False) :
  codeAny (model P w) callerA (.call (.ref fa) ⟨[.ref a],[]⟩) (fun r s'=>r=.ok (.ret (.bool true))/\OldK s₁.heap s'.heap/\s'.os=s₁.os/\AllBare s'.gens) s₁:=by
 have rv:=vals_ints hi
 have lenV:=hi.length
 -- from an abstract heap in which nothing but the script may be tracked
 have core:∀ H:Hp,Only H->SqL K H a (ns.map V.int)->HOk P w H s₁.heap->(∀ b,H b ≠ none->b=a)->(H a ≠ none->K.lookup a=none) →
   codeAny (model P w) callerA (.call (.ref fa) ⟨[.ref a],[]⟩) (fun r s'=>r=.ok (.ret (.bool true))/\OldK s₁.heap s'.heap/\s'.os=s₁.os/\AllBare s'.gens) s₁:=by
  intro H hO hS hok hA hK
  have base_of:∀ {b:Addr} {o:Obj},s₁.heap.get? b=some o->H b=none->(hidT s₁.heap H).get? b=some o:=fun e n=>hidT_get e n
  have noA:∀ {b:Addr} {o:Obj} {es:Array DictEntry} {ep:Nat},s₁.heap.get? b=some o->o.data=.dict es ep->H b=none:=fun {b o es ep} e d=>by
   cases q:H b with
   | none=>rfl
   | some u=>
    have e':b=a:=hA b (by rw [q];simp)
    subst e'
    rw [ha] at e;cases e
    have d':Data.seq vs.toArray _=Data.dict es ep:=d
    cases d'
  have nsK:∀ {b:Addr} {m:Str->Option Value},s₁.heap.Ns b m->(hidT s₁.heap H).Ns b m:=fun {b m} ⟨o,es,ep,e,d,r⟩=>⟨o,es,ep,base_of e (noA e d),d,r⟩
  have hKb:K.In (hidT s₁.heap H):=fun b o e=>base_of (KX b o e) (by
   cases q:H b with
   | none=>rfl
   | some u=>
    have e':b=a:=hA b (by rw [q];simp)
    subst e'
    rw [hK (by rw [q];simp)] at e;cases e)
  have hM:Mod K mg (hidT s₁.heap H):=⟨hKb,nsK hns,⟨mb,nsK hb,hbb⟩,let ⟨mc,h1,h2⟩:=hlim;⟨mc,nsK h1,h2⟩⟩
  have e0:Env0 P w K mg (hidT s₁.heap H) callerA [] s₁ H:=⟨rfl,hM,fun b o e=>of_hidT e,Nat.le_of_eq (hidT_size _ _),trivial,fun b hb=>absurd (show b∈([]:List Addr) from hb) (by simp),hok,.of_eq hg⟩
  refine codeAny_mono ((F _ hKb (nsK hns)).run callerA [] s₁ H ⟨[.ref a],[]⟩ [.ref a] [.ref a] _ _ hr e0 (hbind s₁ (.ref a)) (.cons rfl .nil) (hsp H hO hS)) fun r s' h=>?_
  cases r with
  | error e=>exact (hCX H e s' h).elim
  | ok fl=>
   cases fl with
   | next=>exact False.elim h
   | brk=>exact False.elim h
   | cont=>exact False.elim h
   | ret u=>
    obtain ⟨v,H',os,bare,un,hok',r',q⟩:=h
    have q':v=.bl true:=q
    subst q'
    obtain rfl:u=Value.bool true:=r'
    refine ⟨rfl,OldK.of_keep fun b o e=>?_,os,bare⟩
    cases q:H b with
    | none=>exact un.keep b o e q (by intro z;exact absurd (show b∈([]:List Addr) from z) (by simp)) (by simp)
    | some u=>
     rcases hO b with z | ⟨ob,xs,z⟩
     ·rw [q] at z;cases z
     ·have z2:=un.frzs b ob _ z
      obtain ⟨e1,_⟩:=hok b _ z
      obtain ⟨e2,_⟩:=hok' b _ z2
      rw [e] at e1;cases e1
      exact e2
 cases hk:K.lookup a with
 | some o=>
  -- the script is one of the module's own objects
  have e:=KX a o hk
  rw [ha] at e
  cases e
  refine core (fun _=>none) (fun _=>.inl rfl) (.inr ⟨_,vs.toArray,_,hk,rfl,rfl,rfl,by rw [List.size_toArray,lenV];exact hl,by simpa using rv⟩) (fun b u z=>by have z':(none:Option HO)=some u:=z;cases z') (fun b z=>absurd rfl z) fun z=>absurd rfl z
 | none=>
  refine core (fun b=>if b=a then some (.frz { cls:=.type "list",data:=.seq vs.toArray } (.lst (ns.map V.int))) else none) (fun b=>?_) (.inl (.inr ⟨{ cls:=.type "list",data:=.seq vs.toArray },if_pos rfl⟩)) (fun b u z=>?_) (fun b z=>?_) fun _=>hk
  ·by_cases hb:b=a
   ·exact .inr ⟨_,_,if_pos hb⟩
   ·exact .inl (if_neg hb)
  ·by_cases hb:b=a
   ·have z':=(if_pos hb).symm.trans z
    cases z'
    subst hb
    exact ⟨ha,by rw [List.length_map];exact hl,vs,_,rv,ha⟩
   ·have z':=(if_neg hb).symm.trans z
    cases z'
  ·by_cases hb:b=a
   ·exact hb
   ·exact absurd (if_neg hb) z
end L2
namespace L2
open PySem PySem.Spec PyProof.Rows
theorem walk_of {l:PySem.W.OpenLaw} {n k:Nat} {q:Program} {loose:List Str} {XP:(Str->Option Value)->Heap->Prop} {YP:World->Heap->Prop} {d:DefRec} {K:Params->PySem.W.Frag} {CX:World->CXT} {sp:World->Sp} {x:Str}
  (hn:l.most=some n) (hn2:n<=sizeLine) (hdf:d.params.defaults=[]) (hr:Room k callerA)
  (hY:∀ (w:World) (h:Heap),YP w h->(K w.params).In h)
  (F:∀ (w:World) (mg:Str->Option Value) (fa:Addr) (h:Heap),(K w.params).In h->h.Ns mainGlobals mg->mg d.name=some (.ref fa) →
   ∃ fd:FuncData,(∀ (s:Shared) (u:Value),BindsTo s fd ⟨[u],[]⟩ [(x,u)]) ∧
    ∀ base:Heap,(K w.params).In base->base.Ns mainGlobals mg->FnOk l.prog w (K w.params) mg base (CX w) k fa fd [x] (sp w))
  (hsp:∀ (w:World) (H:Hp) (a:Addr) (ns:List Int),ns.length<=n->Only H->SqL (K w.params) H a (ns.map V.int)->sp w [.ref a] H (fun v _=>v=.bl true) fun _ _ _=>False)
  (hCX:∀ (w:World) (H:Hp) (s:Shared) (e:Value) (s':Shared),CX w [] H s (fun _ _ _=>False) e s'->False) :
  PySem.W.WalkO q loose XP YP l.row.toRowW d [] (fun f vs=>PySem.call f vs):=by
 refine Att.attach_call hn hdf fun w s₀ s₁ mg mb fa o pm cd doc a vs ns G Y ho hd hcd hmg hobj hints hlen hg=>?_
 have KX:=hY w _ Y
 obtain ⟨fd,hb,hF⟩:=F w mg fa _ KX G.T.g hmg
 exact law_call KX G.T.g G.T.b G.T.builtins G.T.nolimit hg hobj hints (Nat.le_trans hlen hn2) hr hF hb (fun H hO hS=>hsp w H a ns hlen hO hS) fun H e s'=>hCX w H s₁ e s'
end L2
/- THE LAST THEOREM (shape;LID,My.* are yours):
  My.Adr: a structure of the addresses that your layer names (classes,functions);My.Txt K t: a structure (Prop) of the equations over K;
  My.txt_mk:{K} {implicit addresses ..} (e1:nsIn K mainGlobals "law"=some (some (.ref f))) (e2:K.lookup f=some ⟨oc,od,.func (fnOf "law" "law" params body scope dV kV doc pm an cdv ct),sl⟩) (e3:codeIn K cdv "law"=true) ..:∃ t,My.Txt K t
set_option maxRecDepth 100000 in
set_option maxHeartbeats 0 in
theorem PySem.Challenge.cw_LID_holds : PySem.Challenge.rw_LID.Holds := by
 w_on;o_law;k_head;(case hw=>w_witness2)
 k_fill
 refine L2.walk_of (l:=PySem.Challenge.rw_LID) (n:=63) (k:=40) (x:="script") (CX:=fun w=>..) (sp:=fun _=>My.sp_law) rfl (by decide) rfl ⟨rfl,by decide,by decide⟩ (fun w h Y=>PySem.W.kIn_of Y) ?F ?S ?C
 case F=>
  intro w mg fa h KX G hmg
  have T:∃ t,My.Txt (L2.KOf KX) t:=by
   dsimp only [L2.KOf]                          -- K must stand as «<heap const> w.params» for k_is
   refine' My.txt_mk ?e1 ?e2 ?e3 ..
   (case e1=>PySem.W.k_is)                    -- in the order: a name -> its address -> its object -> its parts
   (case e2=>PySem.W.k_is)
   ..
  obtain ⟨t,T⟩:=T
  have e0:=hmg.symm.trans (PySem.W.mg_of KX G T.law)
  cases e0                                       -- fa is the law's own address
  exact ⟨_,fun s u=>.of_eq rfl,fun base kb nb=>My.law_fn T kb nb⟩     -- if «.of_eq rfl» comes too early: refine' ⟨_,?b,fun base kb nb=>My.law_fn T kb nb⟩;exact fun s u=>.of_eq rfl
 case S=>exact fun w H a ns hl hO hS=>..
 case C=>exact ..
(the tactic k_is has no namespace: write k_is) -/
namespace L2
open PySem PySem.Spec PyProof.Rows
def defArgs (s:Stmt):Arguments:=match s with
 | .FunctionDef _ a _ _ _ _ _ _ _ _=>a
 | _=>{ posonlyargs:=[],args:=[],vararg:=none,kwonlyargs:=[],kw_defaults:=[],kwarg:=none,defaults:=[] }
def defBody (s:Stmt):List Stmt:=match s with
 | .FunctionDef _ _ b _ _ _ _ _ _ _=>b
 | _=>[]
def defScope (s:Stmt):Scope:=match s with
 | .FunctionDef _ _ _ _ _ _ sc _ _ _=>sc
 | _=>{ kind:=.function,names:=[],isGenerator:=false,isCoroutine:=false }
abbrev CX0:CXT:=fun _ _ _ _ _ _=>False
abbrev E0:XK:=fun _ _ _=>False
theorem pass0 {X:Cx}:Passes CX0 X E0:=fun _ _ _ _ _ _ _ h=>h.elim
structure Fun (K:PySem.W.Frag) (x qual:Str) (st:Stmt) (f:Addr) (fd:FuncData):Prop where
 ex:∃ (oc:Value) (od:Option Addr) (kV doc pm:Value) (an:Option Addr) (cdv ct:Value) (osl:Array (Option Value)),
  fd=PySem.W.fnOf x qual (defArgs st) (defBody st) (defScope st) .none kV doc pm an cdv ct/\K.lookup f=some ⟨oc,od,.func fd,osl⟩/\PySem.W.codeIn K cdv qual=true
 kp:PySem.W.keepIn K (.ref f)=true
section
variable {P:Program} {w:World} {K:PySem.W.Frag} {mg:Str->Option Value} {base:Heap}
theorem Fun.ok {x qual:Str} {st:Stmt} {f:Addr} {fd:FuncData} {N ps:List Str} {k:Nat} {sp:Sp} (F:Fun K x qual st f fd) (S:FnScope N ps (defScope st)) (len:∀ vs H Q E,sp vs H Q E->vs.length=ps.length)
  (hbody:∀ (cdv:Value) (A:Around) (outer:List Env) (s:Shared) (H:Hp) (vs:List V) (Q:VK) (E:XK),Room k (A.deeper (envOfC qual (defScope st) s.heap.objs.size f cdv))->sp vs H Q E →
   ∃ t,PSs (cxOf CX0 P w K mg base N qual (defScope st) f cdv A outer s H E).nox (defBody st) t/\t { nx:=fun _ H'=>Q .non H',rt:=Q } (start N vs) H):FnOk P w K mg base CX0 (k + 1) f fd ps sp:=by
 obtain ⟨oc,od,kV,doc,pm,an,cdv,ct,osl,rfl,lk,hcd⟩:=F.ex
 refine fn_of lk hcd S len fun A outer s H vs Q E hr hsp=>?_
 obtain ⟨t,h,q⟩:=hbody cdv A outer s H vs Q E hr hsp
 exact ⟨t,h.nox,q⟩
theorem Fun.binds {x qual:Str} {st:Stmt} {f:Addr} {fd:FuncData} {ps:List Str} (F:Fun K x qual st f fd)
  (h:∀ (kV doc pm:Value) (an:Option Addr) (cdv ct:Value) (us:List Value),us.length=ps.length->bindArgs (PySem.W.fnOf x qual (defArgs st) (defBody st) (defScope st) .none kV doc pm an cdv ct) ⟨us,[]⟩=pure (ps.zip us)):Binds K fd ps []:=by
 obtain ⟨oc,od,kV,doc,pm,an,cdv,ct,osl,rfl,lk,hcd⟩:=F.ex
 exact .all (h kV doc pm an cdv ct)
theorem fun_mk {x qual:Str} {st:Stmt} {f:Addr} {oc:Value} {od an:Option Addr} {osl:Array (Option Value)} {kV doc pm cdv ct:Value} (l:K.lookup f=some ⟨oc,od,.func (PySem.W.fnOf x qual (defArgs st) (defBody st) (defScope st) .none kV doc pm an cdv ct),osl⟩)
  (c:PySem.W.codeIn K cdv qual=true) (k:PySem.W.keepIn K (.ref f)=true):Fun K x qual st f (PySem.W.fnOf x qual (defArgs st) (defBody st) (defScope st) .none kV doc pm an cdv ct):=⟨⟨oc,od,kV,doc,pm,an,cdv,ct,osl,rfl,l,c⟩,k⟩
end
theorem small1000 {n:Nat} (h:n<=1000):n < sizeLine:=Nat.lt_of_le_of_lt h (by decide)
section
variable {X:Cx}
theorem pv (i:Nat) {x:Str} {pos:Pos} (hN:X.N[i]?=some x:=by rfl) (hv:Vis X.env.scope x:=by first | exact Or.inl rfl | exact Or.inr (Or.inl rfl) | exact Or.inr (Or.inr rfl)) (hd:(x == ("__debug__":Str))=false:=by decide)
  (hcd:(x == ("__classdict__":Str))=false:=by decide):PE X (.Name x pos) (tVar i):=pe_var hN hv hd hcd
end
def Same (H H':Hp):Prop:=∀ b o,H b=some o->H' b=some o
theorem Same.refl (H:Hp):Same H H:=fun _ _ h=>h
theorem Same.trans {H H1 H2:Hp} (a:Same H H1) (b:Same H1 H2):Same H H2:=fun c o h=>b c o (a c o h)
theorem Same.free {H H':Hp} (e:Same H H') {l:Addr} (h:H' l=Option.none):H l=Option.none:=by
 cases q:H l with
 | none=>rfl
 | some o=>
  rw [e l o q] at h
  cases h
theorem Same.seq {K:PySem.W.Frag} {H H':Hp} {a:Addr} {xs:List V} (e:Same H H') (h:SqL K H a xs):SqL K H' a xs:=by
 rcases h with (h | ⟨o,h⟩) | h
 ·exact .inl (.inl (e _ _ h))
 ·exact .inl (.inr ⟨o,e _ _ h⟩)
 ·exact .inr h
end L2
namespace L2
open PySem PySem.Spec PyProof.Rows
theorem closure_go {env:Env}:∀ (names:List (Str × NameKind)) (cs:List (Str × Addr)),(∀ y∈names,y.2=.free->∃ c,env.cells.lookup y.1=some c)->(∀ x c,cs.lookup x=some c->env.cells.lookup x=some c) →
  ∃ cl:List (Str × Addr),(forIn names cs (fun (y:Str × NameKind) (r:List (Str × Addr))=>(if (y.2 == NameKind.free)=true then (cellOf env y.1 >>= fun a=>pure (ForInStep.yield ((y.1,a)::r))) else pure (ForInStep.yield r):Sem (ForInStep (List (Str × Addr))))))=(pure cl:Sem (List (Str × Addr))) ∧
   (∀ x c,cl.lookup x=some c->env.cells.lookup x=some c)/\(∀ x,(cs.lookup x).isSome=true->(cl.lookup x).isSome=true)/\∀ y∈names,y.2=.free->(cl.lookup y.1).isSome=true
 | [],cs,_,hc=>⟨cs,by rw [List.forIn_nil],hc,fun _ h=>h,fun y hy=>by cases hy⟩
 | (n,k)::r,cs,h,hc=>by
  by_cases hk:(k == NameKind.free)=true
  ·have hk':k=.free:=by simpa using hk
   obtain ⟨a,ha⟩:=h (n,k) List.mem_cons_self hk'
   obtain ⟨cl,h1,h2,h3,h4⟩:=closure_go (env:=env) r ((n,a)::cs) (fun y hy=>h y (List.mem_cons_of_mem _ hy)) (fun x c e=>by
    rw [List.lookup_cons] at e
    split at e
    ·rename_i z
     have:x=n:=by simpa using z
     subst this
     cases e
     exact ha
    ·exact hc x c e)
   have up:∀ x,(cs.lookup x).isSome=true->(((n,a)::cs).lookup x).isSome=true:=fun x z=>by
    rw [List.lookup_cons]
    split
    ·rfl
    ·exact z
   refine ⟨cl,?_,h2,fun x z=>h3 x (up x z),fun y hy hf=>?_⟩
   ·rw [List.forIn_cons]
    simp only [hk,if_true]
    have:cellOf env n=pure a:=by unfold cellOf;rw [ha]
    rw [this]
    exact h1
   ·rcases List.mem_cons.mp hy with e | e
    ·subst e
     exact h3 n (by rw [List.lookup_cons];simp)
    ·exact h4 y e hf
  ·obtain ⟨cl,h1,h2,h3,h4⟩:=closure_go (env:=env) r cs (fun y hy=>h y (List.mem_cons_of_mem _ hy)) hc
   refine ⟨cl,?_,h2,h3,fun y hy hf=>?_⟩
   ·rw [List.forIn_cons]
    simp only [hk,if_false]
    exact h1
   ·rcases List.mem_cons.mp hy with e | e
    ·subst e
     exact absurd (by simpa using hf) hk
    ·exact h4 y e hf
theorem closure_ok {scope:Scope} {env:Env} (h:∀ y∈scope.names,y.2=.free->∃ c,env.cells.lookup y.1=some c) :
  ∃ cl,closureFor scope env=pure cl/\(∀ x c,cl.lookup x=some c->env.cells.lookup x=some c)/\∀ y∈scope.names,y.2=.free->(cl.lookup y.1).isSome=true:=by
 obtain ⟨cl,h1,h2,_,h4⟩:=closure_go (env:=env) scope.names [] h (fun x c e=>by cases e)
 refine ⟨cl,?_,h2,h4⟩
 unfold closureFor
 exact (congrArg (fun z=>z >>= fun r=>pure r) h1)
structure BlkScope (N:List Str) (no:Nat) (fr:List Nat) (NX:List Str) (sc around:Scope):Prop where
 kind:sc.kind=.function
 nocell:∀ y∈sc.names,y.2 ≠ .cell
 nd:N.Nodup
 len:N.length=no + fr.length
 loc:∀ y∈sc.names,y.2=.local->sc.names.lookup y.1=some .local
 free:∀ y∈sc.names,y.2=.free->around.names.lookup y.1=some .cell
 own:∀ (i:Nat) (x:Str),N[i]?=some x->i < no->sc.names.lookup x=some .local
 out:∀ (j i:Nat) (x:Str),fr[j]?=some i->N[no + j]?=some x->NX[i]?=some x/\sc.names.lookup x=some .free
def blk (own:Nat) (fr:List Nat) (σ:St):St:=List.replicate own none++fr.map fun i=>(σ[i]?).join
def cxBlk (X:Cx) (N:List Str) (scope:Scope) (cl:List (Str × Addr)) (s:Shared) (H:Hp) (fp:List Addr):Cx:=
 { X with N:=N,s₀:=s,H₀:=H,env:=compEnvC scope cl s.heap.objs.size X.env,outer:=X.stack,ex:=fp,fn:=fun _=>false,pn:=[],xe:=fun _ _=>False }
theorem rel_lookup {env:Env}:∀ (names:List (Str × NameKind)) (x:Str),(names.map fun (n,k)=>if (k == NameKind.free && env.scope.kind == .function && env.kindOf n == some .cell) then (n,NameKind.cell) else (n,k)).lookup x =
  (names.lookup x).map fun k=>if (k == NameKind.free && env.scope.kind == .function && env.kindOf x == some .cell) then NameKind.cell else k
 | [],_=>rfl
 | (n,k)::r,x=>by
  rw [List.map_cons]
  show List.lookup x ((if (k == NameKind.free && env.scope.kind == .function && env.kindOf n == some .cell)=true then (n,NameKind.cell) else (n,k))::_)=_
  cases hx:x == n with
  | true=>
   have e:x=n:=by simpa using hx
   subst e
   by_cases hc:(k == NameKind.free && env.scope.kind == .function && env.kindOf x == some .cell)=true
   ·rw [if_pos hc];simp only [List.lookup_cons,hx];simp only [Option.map_some,hc,if_true]
   ·rw [if_neg hc];simp only [List.lookup_cons,hx];simp only [Option.map_some];rw [if_neg hc]
  | false=>
   by_cases hc:(k == NameKind.free && env.scope.kind == .function && env.kindOf n == some .cell)=true
   ·rw [if_pos hc];simp only [List.lookup_cons,hx];exact rel_lookup r x
   ·rw [if_neg hc];simp only [List.lookup_cons,hx];exact rel_lookup r x
theorem rel_name {scope:Scope} {env:Env} (x:Str):(relabel scope env).names.lookup x=(scope.names.lookup x).map fun k=>if (k == NameKind.free && env.scope.kind == .function && env.kindOf x == some .cell) then NameKind.cell else k:=rel_lookup _ _
section
variable {X:Cx} {pins:List (Addr × Obj)} {σ:St} {H:Hp} {s:Shared} {N:List Str} {own:Nat} {fr:List Nat} {scope:Scope} {cl:List (Str × Addr)} {fp:List Addr}
theorem inv_blk (S:BlkScope N own fr X.N scope X.env.scope) (I:Inv X pins σ H s) (hcl:∀ x c,cl.lookup x=some c->X.env.cells.lookup x=some c) (hcf:∀ y∈scope.names,y.2=.free->(cl.lookup y.1).isSome=true)
  (hfp:∀ b∈fp,FpOk X pins H b/\b < s.heap.objs.size) {h':Heap} {t:Nat} {m:Str->Option Value} (hns:h'.Ns s.heap.objs.size m) (hk:∀ b o,s.heap.get? b=some o->h'.get? b=some o) :
  Inv (cxBlk X N scope cl s H fp) [] (blk own fr σ) H { s with heap:=h',toks:=t }:=by
 have kd:∀ x,(cxBlk X N scope cl s H fp).env.kindOf x=(scope.names.lookup x).map fun k=>if (k == NameKind.free && X.env.scope.kind == .function && X.env.kindOf x == some .cell) then NameKind.cell else k:=fun x=>rel_name x
 have memOf:∀ {l:List (Str × NameKind)} {x:Str} {k:NameKind},l.lookup x=some k->(x,k)∈l:=fun {l x k} e=>PySem.mem_of_lookup e
 have isf:∀ x,((cxBlk X N scope cl s H fp).env.kindOf x=some .cell\/(cxBlk X N scope cl s H fp).env.kindOf x=some .free)->scope.names.lookup x=some .free:=fun x h=>by
  rw [kd] at h
  cases e:scope.names.lookup x with
  | none=>rw [e] at h;simp at h
  | some k=>
   rw [e] at h
   simp only [Option.map_some,Option.some.injEq] at h
   by_cases hc:(k == NameKind.free && X.env.scope.kind == .function && X.env.kindOf x == some .cell)=true
   ·have:k=.free:=by
     rw [Bool.and_eq_true,Bool.and_eq_true] at hc
     simpa using hc.1.1
    rw [this]
   ·rw [if_neg hc] at h
    rcases h with h | h
    ·exact absurd h (S.nocell _ (memOf e))
    ·rw [h]
 have cellX:∀ x c,cl.lookup x=some c->∃ v,s.heap.IsCell c v:=fun x c e=>I.cell x c (hcl x c e)
 have cellLt:∀ x c,cl.lookup x=some c->c < s.heap.objs.size:=fun x c e=>let ⟨v,q⟩:=cellX x c e;q.lt
 refine ⟨⟨I.ok.mod,S.kind,I.ok.glob,I.ok.blt,Nat.le_refl _,fun x y c h1 h2=>I.ok.inj x y c (hcl x c h1) (hcl y c h2),fun x hx=>?_,(fun x c h=>by cases h),I.ok.hd,I.ok.frames,.inl rfl,fun b hb=>⟨Nat.ne_of_lt (hfp b hb).2,fun x c e=>(hfp b hb).1.2.2.2.2.1 x c (hcl x c e)⟩,
   I.bs,Nat.le_trans I.ok.bsz I.sz,fun b o e hb=>?_,fun b hb z=>?_,I.stack,I.stkFree⟩,rfl,I.bare,Un.kept hk,⟨m,hns,fun i x v e1 e2 e3=>?_⟩,fun x c e=>?_,I.hok.fresh (Nat.le_refl _),fun x c e=>I.freeC x c (hcl x c e),fun p hp=>absurd (show p∈([]:List (Addr × Obj)) from hp) (by simp),I.hok.kept hk,?_⟩
 ·have:=hcf _ (memOf (isf x hx)) rfl
  exact Option.isSome_iff_exists.mp this
 ·rcases (hfp b hb).1.2.2.2.1 with z | z
  ·exact I.ok.noex b o e z
  ·exact absurd (Nat.lt_of_lt_of_le (Heap.lt_size e) (Nat.le_trans I.ok.bsz z)) (Nat.lt_irrefl _)
 ·rcases List.mem_cons.mp (I.stkSub b z) with q | q
  ·exact (hfp b hb).1.2.1 q
  ·exact (hfp b hb).1.2.2.1 q
 ·-- a name of the block that has a value: one of the frame around
  have e2':(List.replicate own none++fr.map fun i=>(σ[i]?).join)[i]?=some (some v):=e2
  have hi:own<=i:=by
   by_cases hi:i < own
   ·rw [List.getElem?_append_left (by simpa using hi),List.getElem?_replicate,if_pos hi] at e2'
    cases e2'
   ·omega
  rw [List.getElem?_append_right (by simpa using hi),List.length_replicate,List.getElem?_map] at e2'
  cases ef:fr[i - own]? with
  | none=>rw [ef] at e2';cases e2'
  | some k=>
   rw [ef] at e2'
   have ev:(σ[k]?).join=some v:=by simpa using e2'
   have ev':σ[k]?=some (some v):=by
    cases q:σ[k]? with
    | none=>rw [q] at ev;cases ev
    | some o=>rw [q] at ev;simpa using ev
   have eN:N[own + (i - own)]?=some x:=by
    rw [show own + (i - own)=i by omega];exact e1
   obtain ⟨q1,q2⟩:=S.out (i - own) k x ef eN
   have q3:X.env.scope.names.lookup x=some .cell:=S.free (x,.free) (memOf q2) rfl
   obtain ⟨mX,_,hl⟩:=I.loc
   obtain ⟨u,r,l⟩:=hl k x v q1 ev' (.inr (.inl q3))
   refine ⟨u,r,?_⟩
   rcases l with ⟨l1,_⟩ | ⟨_,c,l2,l3⟩
   ·have:X.env.scope.names.lookup x=some .local:=l1
    rw [q3] at this;cases this
   ·have hkd:(cxBlk X N scope cl s H fp).env.kindOf x=some .cell:=by
     rw [kd,q2]
     simp only [Option.map_some]
     have e1:X.env.scope.kind=.function:=I.ok.kind
     have e2:X.env.kindOf x=some .cell:=q3
     rw [e1,e2]
     rfl
    have hc:=Option.isSome_iff_exists.mp (hcf (x,.free) (memOf q2) rfl)
    obtain ⟨c',hc'⟩:=hc
    have:c'=c:=by
     have:=hcl x c' hc'
     rw [l2] at this
     exact (Option.some.inj this).symm
    subst this
    exact .inr ⟨.inl hkd,c',hc',l3.keeps hk⟩
 ·obtain ⟨v,q⟩:=cellX x c e
  exact ⟨v,q.keeps hk⟩
 ·show (blk own fr σ).length=N.length
  unfold blk
  rw [List.length_append,List.length_replicate,List.length_map,S.len]
end
abbrev NoX:Value->Shared->Prop:=fun _ _=>False
section
variable {P:Program} {w:World} {A:Around} {R:Result->Shared->Prop}
def tst (ifs:List Expr) (env:Env):Sem Bool:=
 forIn ifs true fun c r=>if r=true then do
                        let ok ← isTrue c env (eval c env)
                        pure (ForInStep.yield ok) else pure (ForInStep.yield r)
theorem tests0 {env:Env} {s:Shared} {E:Value->Shared->Prop} {Q:Bool->Shared->Prop} (h:Q true s):wpAny (model P w) A (tst [] env) Q E s:=wpAny_tests_nil h
theorem tests1 {env:Env} {c:Expr} {s:Shared} {E:Value->Shared->Prop} {Q:Bool->Shared->Prop} (h:wpAny (model P w) A (isTrue c env (eval c env)) Q E s):wpAny (model P w) A (tst [c] env) Q E s:=wpAny_tests_one h
theorem block_loop {elt tg iter:Expr} {ifs:List Expr} {sc:Scope} {pos:Pos} {it acc:Value} {env:Env} {s:Shared} (J:Nat->Shared->Prop)
  (go:∀ n s,J n s->wpAny (model P w) A (pyNext it) (fun r s1=>match r with
   | none=>R (.ok .next) s1
   | some v=>wpAny (model P w) A (letOwnedTupleGo tg it v) (fun _ s2=>wpAny (model P w) A (assign tg env v) (fun _ s3=>wpAny (model P w) A (tst ifs env) (fun ok s4=>
     if ok=true then wpAny (model P w) A (eval elt env) (fun x s5=>wpAny (model P w) A (call (.builtin "list.append") [acc,x]) (fun _ s6=>∃ m,m < n/\J m s6) NoX s5) NoX s4
     else ∃ m,m < n/\J m s4) NoX s3) NoX s2) NoX s1) NoX s)
  (n:Nat) (h:J n s):codeAny (model P w) A (.compLoop (.ListComp elt [⟨tg,iter,ifs,0⟩] sc pos) 0 it acc env) R s:=by
 have ex:∀ {α:Type} {t:Sem α} {Q:α->Shared->Prop} {s:Shared} {E:Value->Shared->Prop},wpAny (model P w) A t Q NoX s->wpAny (model P w) A t Q E s:=fun hh=>wpAny_mono hh (fun _ _ q=>q) fun _ _ z=>z.elim
 refine codeAny_loop rfl J (fun n s hJ=>?_) n h
 show wpAny _ _ ((compTurn _ 0 it acc env).onRaise (fun x=>do noteFrame x env;theTreesLotGoes x)) _ _ s
 refine wpAny_noted ?_
 rw [compTurn_list]
 refine wpAny_bind (wpAny_standAt (wpAny_bind (thn (ex (go n s hJ)) fun r s1 h1=>?_)))
 cases r with
 | none=>exact wpAny_pure h1
 | some v=>
  refine wpAny_bind (thn (ex h1) fun _ s2 h2=>wpAny_bind (thn (ex h2) fun _ s3 h3=>?_))
  refine wpAny_bind (thn (ex h3) fun ok s4 h4=>?_)
  cases ok with
  | false=>exact wpAny_pure ⟨rfl,h4⟩
  | true=>
   exact wpAny_bind (wpAny_bind (thn (ex h4) fun x s5 h5=>wpAny_bind (thn (ex h5) fun _ s6 h6=>wpAny_pure (wpAny_pure ⟨rfl,h6⟩))))
end
def tComp (own:Nat) (fr:List Nat) (wi:TI) (g:TG) (tc:TT) (te:TE):TE:=fun σ H Q=>wi σ H fun J H1=>∀ D,H1 D=none->∃ W:Nat->Nat->St->Hp->Prop,(∃ m,W 0 m (blk own fr σ) (upd H1 D (.lst [])))/\∀ i m σ' H',W i m σ' H' →
 (J.stop i H'/\Q (.ref D) H')\/(J.go i H'/\∀ x H2,J.yld i H' x H2->g x σ' H2 fun σ2 H3=>tc σ2 H3 fun ok H4=>
  if ok=true then te σ2 H4 fun v H5=>∃ xs,H5 D=some (.lst xs)/\xs.length < sizeLine/\∃ m',m' < m/\W (i + 1) m' σ2 (upd H5 D (.lst (xs++[v])))
  else ∃ m',m' < m/\W (i + 1) m' σ2 H4)
def PTs (Y:Cx) (ifs:List Expr) (t:TT):Prop:=
 ∀ (pins:List (Addr × Obj)) (s:Shared) (σ:St) (H:Hp) (Q:Bool->Hp->Prop),Inv Y pins σ H s->t σ H Q->wpAny (model Y.prog Y.w) Y.A (tst ifs Y.env) (TP Y pins σ Q) Y.xe s
theorem pts_nil {Y:Cx}:PTs Y [] (fun σ H Q=>Q true H):=fun _ _ σ H _ I h=>tests0 ⟨H,I,h⟩
theorem pts_one {Y:Cx} {c:Expr} {t:TT} (h:PT Y c t):PTs Y [c] t:=fun pins s σ H Q I q=>tests1 (h pins s σ H Q I q)
section
variable {X:Cx} {N:List Str} {own:Nat} {fr:List Nat} {scope:Scope} {elt tg iter:Expr} {ifs:List Expr} {pos:Pos} {wi:TI} {g:TG} {tc:TT} {te:TE}
theorem Turn.fpLt {P:Program} {w:World} {K:PySem.W.Frag} {J:It} {fp:List Addr} {it:Addr} {tn:Nat->Heap->Prop} (T:Turn P w K tg J fp it tn) {i:Nat} {h:Heap} (st:tn i h):∀ b∈fp,b < h.objs.size:=fun b hb=>by
 obtain ⟨o,e,_⟩:=T.obj i h st b hb
 exact Heap.lt_size e
def CompEnd (X:Cx) (pins:List (Addr × Obj)) (σ:St) (Q:VK) (use:Option (Value->Sem Unit)) (QQ:Value->Shared->Prop):Prop:=
 ∀ (D C:Addr) (H':Hp) (s5:Shared) (m5:Str->Option Value),(∀ h6,Heap.SameBut C s5.heap h6->Inv X pins σ H' { s5 with heap:=h6 })->s5.heap.Ns C m5->H' C=none->X.s₀.heap.objs.size<=C->X.env.locals ≠ C->(∀ x c,X.env.cells.lookup x=some c->c ≠ C)->(∀ p∈X.pn++pins,p.1 ≠ C)->Q (.ref D) H' →
  compPost (model X.prog X.w) X.A X.xe use QQ (.ref D) C (.ok .next) s5
theorem comp_core {use:Option (Value->Sem Unit)} {QQ:Value->Shared->Prop} {ps:Pos} (S:BlkScope N own fr X.N scope X.env.scope) (hc:X.calm=true) (hi:PI X tg iter wi)
  (hg:∀ cl s H fp,PG (cxBlk X N scope cl s H fp) tg g) (ht:∀ cl s H fp,PTs (cxBlk X N scope cl s H fp) ifs tc) (he:∀ cl s H fp,PE (cxBlk X N scope cl s H fp) elt te)
  (hs:∀ x,foldedSetIterable iter X.env x=pure x) {pins:List (Addr × Obj)} {s:Shared} {σ:St} {H:Hp} {Q:VK} (I:Inv X pins σ H s) (h:tComp own fr wi g tc te σ H Q) (finish:CompEnd X pins σ Q use QQ) :
  wpAny (model X.prog X.w) X.A (comprehension (.ListComp elt [⟨tg,iter,ifs,0⟩] scope pos) scope X.env ps (newList []) false (eval iter X.env) use) QQ X.xe s:=by
 obtain ⟨cl,hclos,hcl,hcf⟩:=closure_ok (scope:=scope) (env:=X.env) fun y hy hf=>I.ok.has y.1 (.inl (S.free y hy hf))
 refine wpAny_comprehension_free (use:=use) rfl hs hclos S.kind S.loc (thn (hi pins s σ H _ I h) fun v s1 h1=>thn h1 fun itv s2 h2=>?_)
 obtain ⟨it,fp,tn,J,H2,e,I2,T,st2,f2,h2⟩:=h2
 subst e
 -- the list
 refine wpAny_newObj_type ?_ (Nat.zero_le _)
 have fr2:H2 s2.heap.objs.size=none:=I2.hok.fresh (Nat.le_refl _)
 obtain ⟨W,⟨m0,w0⟩,turn⟩:=h2 s2.heap.objs.size fr2
 have I3:Inv X pins σ (upd H2 s2.heap.objs.size (.lst [])) { s2 with heap:=s2.heap.push { cls:=.type "list",data:=.seq ([]:List Value).toArray } }:=I2.lnew (t':=s2.toks) (its:=[]) .nil (Nat.zero_le _)
 have st3:tn 0 (s2.heap.push { cls:=.type "list",data:=.seq ([]:List Value).toArray }):=T.keep _ _ _ st2 fun b _ o e=>Heap.get?_push_of_some _ e
 generalize hs3:({ s2 with heap:=s2.heap.push { cls:=.type "list",data:=.seq ([]:List Value).toArray } }:Shared)=s3 at I3
 have st3':tn 0 s3.heap:=by rw [<-hs3];exact st3
 have f3:∀ b∈fp,FpOk X pins (upd H2 s2.heap.objs.size (.lst [])) b:=fun b hb=>by
  obtain ⟨q0,q⟩:=f2 b hb
  refine ⟨?_,q⟩
  rw [upd_ne (Nat.ne_of_lt (T.fpLt st2 b hb))]
  exact q0
 -- the block's frame
 refine wpAny_newFunctionEnv S.nocell (fun y hy=>by cases hy) (fun h4 hns4 hsb4=>?_) S.kind
 have hk4:∀ b o,s3.heap.get? b=some o->h4.get? b=some o:=fun b o e=>hsb4.extBut b o (Nat.ne_of_lt (Heap.lt_size e)) (Heap.get?_push_of_some _ e)
 have I4:Inv (cxBlk X N scope cl s3 (upd H2 s2.heap.objs.size (.lst [])) fp) [] (blk own fr σ) (upd H2 s2.heap.objs.size (.lst [])) { s3 with heap:=h4,toks:=s3.toks + ([]:List (Str × Value)).length }:=
  inv_blk S I3 hcl hcf (fun b hb=>⟨f3 b hb,T.fpLt st3' b hb⟩) hns4 hk4
 have st4:tn 0 h4:=T.keep _ _ _ st3' fun b _ o e=>hk4 b o e
 -- the loop
 generalize hY:cxBlk X N scope cl s3 (upd H2 s2.heap.objs.size (.lst [])) fp=Y at I4
 have hg':=hg cl s3 (upd H2 s2.heap.objs.size (.lst [])) fp
 have ht':=ht cl s3 (upd H2 s2.heap.objs.size (.lst [])) fp
 have he':=he cl s3 (upd H2 s2.heap.objs.size (.lst [])) fp
 rw [hY] at hg' ht' he'
 have yp:Y.prog=X.prog:=by rw [<-hY];rfl
 have yw:Y.w=X.w:=by rw [<-hY];rfl
 have yK:Y.K=X.K:=by rw [<-hY];rfl
 have yA:Y.A=X.A:=by rw [<-hY];rfl
 have yc:Y.calm=true:=by rw [<-hY];exact hc
 have yx:Y.xe=NoX:=by rw [<-hY];rfl
 have ye:Y.env=compEnvC scope cl s3.heap.objs.size X.env:=by rw [<-hY];rfl
 have fin:∀ {σ':St} {H':Hp} {s5:Shared},Inv Y [] σ' H' s5->Q (.ref s2.heap.objs.size) H'->compPost (model X.prog X.w) X.A X.xe use QQ (.ref s2.heap.objs.size) s3.heap.objs.size (.ok .next) s5:=fun {σ' H' s5} I5 q=>by
  obtain ⟨m5,hn5,_⟩:=I5.loc
  have yl:Y.env.locals=s3.heap.objs.size:=by rw [ye];rfl
  rw [yl] at hn5
  have un:=I5.base
  have y1:Y.fs=frs X.stack:=by rw [<-hY];rfl
  have y2:Y.ex=fp:=by rw [<-hY];rfl
  have y3:Y.H₀=upd H2 s2.heap.objs.size (.lst []):=by rw [<-hY];rfl
  have y4:Y.s₀=s3:=by rw [<-hY];rfl
  rw [y1,y2,y3,y4] at un
  have free6:H' s3.heap.objs.size=none:=by rw [<-yl];exact I5.free
  refine finish s2.heap.objs.size s3.heap.objs.size H' s5 m5 (fun h6 hs6=>?_) hn5 free6 I3.sz (Nat.ne_of_lt I3.lt) (fun x c e=>?_) (fun p hp=>?_) q
  ·have k6:∀ b o,b ≠ s3.heap.objs.size->s5.heap.get? b=some o->h6.get? b=some o:=fun b o hb e=>hs6.extBut b o hb e
   have old:∀ b o,s3.heap.get? b=some o->b ≠ s3.heap.objs.size:=fun b o e=>Nat.ne_of_lt (Heap.lt_size e)
   have un6:Un (frs X.stack) fp (upd H2 s2.heap.objs.size (.lst [])) H' s3.heap h6:=
    ⟨fun b o e n hb hx=>k6 b o (old b o e) (un.keep b o e n hb hx),fun b o e n hb hx=>by obtain ⟨sl,q⟩:=un.slot b o e n hb hx;exact ⟨sl,k6 b _ (old b o e) q⟩,un.free,fun b o e hx=>by obtain ⟨o',q⟩:=un.there b o e hx;exact ⟨o',k6 b o' (old b o e) q⟩,un.tups,un.frzs,un.tbls⟩
   have hok6:HOk X.prog X.w H' h6:=by
    have:=I5.hok
    rw [yp,yw] at this
    refine fun a o e=>(this a o e).stay (fun b u hb q=>k6 b u ?_ q) (fun _ z=>z) fun _ _ z=>z
    rcases hb with z | z
    ·subst z;intro z;rw [z,free6] at e;cases e
    ·intro y;rw [y,free6] at z;cases z
   obtain ⟨hh,gg,dd,tt,os'⟩:=s5
   have ho:os'=s3.os:=by have:=I5.os;rw [y4] at this;exact this
   subst ho
   refine Inv.call (s:=s3) I3 (h':=h6) (g':=gg) (d':=dd) (t':=tt) (ch:=fp) un6 hok6 I5.bare (fun b hb=>?_)
   obtain ⟨_,q1,_,q3,q4,q5⟩:=f3 b hb
   exact ⟨q3,q1,q4,q5⟩
  ·obtain ⟨v,oc,ho,_⟩:=I3.cell x c e
   exact Nat.ne_of_lt (Heap.lt_size ho)
  ·obtain ⟨e,_⟩:=I3.pin p hp
   exact Nat.ne_of_lt (Heap.lt_size e)
 have loop:∀ s4:Shared,Inv Y [] (blk own fr σ) (upd H2 s2.heap.objs.size (.lst [])) s4->tn 0 s4.heap->codeAny (model X.prog X.w) X.A (.compLoop (.ListComp elt [⟨tg,iter,ifs,0⟩] scope pos) 0 (.ref it) (.ref s2.heap.objs.size) (compEnvC scope cl s3.heap.objs.size X.env))
   (compPost (model X.prog X.w) X.A X.xe use QQ (.ref s2.heap.objs.size) s3.heap.objs.size) s4:=by
  intro s4 I4 st4
  have stat:∀ {H':Hp},(∀ b∈fp,H' b=none)->∀ b∈fp,FpOk Y [] H' b:=fun {H'} hn b hb=>by
   obtain ⟨_,q1,q2,q3,q4,q5⟩:=f3 b hb
   refine ⟨hn b hb,?_,?_,?_,fun x c e=>?_,fun p hp=>?_⟩
   ·rw [ye];exact Nat.ne_of_lt (T.fpLt st3' b hb)
   ·have:Y.fs=frs X.stack:=by rw [<-hY];rfl
    rw [this]
    intro z
    rcases List.mem_cons.mp (I3.stkSub b z) with q | q
    ·exact q1 q
    ·exact q2 q
   ·left;rw [<-hY];exact hb
   ·rw [ye] at e;exact q4 x c (hcl x c e)
   ·rw [<-hY] at hp;cases hp
  refine block_loop (fun n s'=>∃ i σ' H',Inv Y [] σ' H' s'/\tn i s'.heap/\(∀ b∈fp,H' b=none)/\W i n σ' H') ?_ m0 ⟨0,_,_,I4,st4,fun b hb=>(f3 b hb).1,w0⟩
  rintro n s5 ⟨i,σ5,H5,I5,st5,fr5,w5⟩
  rw [<-yp,<-yw,<-yA,<-ye,<-yx]
  have T':Turn Y.prog Y.w Y.K tg J fp it tn:=by rw [yp,yw,yK];exact T
  rcases turn i n σ5 H5 w5 with ⟨stop,qn⟩ | ⟨go,step⟩
  ·refine thn (T'.done Y rfl rfl rfl yc i [] s5 σ5 H5 Y.xe I5 (stat fr5) st5 stop) fun r s6 ⟨hr,I6⟩=>?_
   subst hr
   have q:=fin I6 qn
   rw [<-yp,<-yw,<-yA] at q
   exact q
  ·refine thn (T'.item Y rfl rfl rfl yc i [] s5 σ5 H5 Y.xe I5 (stat fr5) st5 go) fun r s6 ⟨u,hr,h6⟩=>?_
   subst hr
   refine thn h6 fun _ s7 ⟨x,H7,I7,r7,y7,st7,fr7⟩=>?_
   have I7':=I7.pinned (stat fr7) (T.obj _ _ st7)
   have stay:∀ {σ8:St} {H8:Hp} {s8:Shared},Inv Y ([]++pinsAt fp s7.heap) σ8 H8 s8->tn (i + 1) s8.heap/\∀ b∈fp,H8 b=none:=fun {σ8 H8 s8} I8=>by
    refine ⟨T.keep _ _ _ st7 fun b hb o e=>(I8.pin (b,o) (List.mem_append_right _ (List.mem_append_right _ (mem_pinsAt hb e)))).1,fun b hb=>?_⟩
    obtain ⟨o,e,d⟩:=T.obj _ _ st7 b hb
    exact (I8.pin (b,o) (List.mem_append_right _ (List.mem_append_right _ (mem_pinsAt hb e)))).2.1
   refine thn (hg' _ s7 σ5 H7 x u _ I7' r7 (step x H7 y7)) fun _ s8 ⟨σ8,H8,I8,q8⟩=>?_
   refine thn (ht' _ s8 σ8 H8 _ I8 q8) fun ok s9 ⟨H9,I9,q9⟩=>?_
   cases ok with
   | false=>
    obtain ⟨m',hm,w9⟩:=q9
    obtain ⟨t9,f9⟩:=stay I9
    exact ⟨m',hm,i + 1,σ8,H9,I9.unpinned,t9,f9,w9⟩
   | true=>
    refine thn (he' _ s9 σ8 H9 _ I9 q9) fun y s10 ⟨v,H10,I10,r10,xs,hD,hz,m',hm,w10⟩=>?_
    refine thn (mt_append (X:=Y) _ s10 σ8 H10 (.ref s2.heap.objs.size) [v] (.ref s2.heap.objs.size) [y] (fun _ H'=>H'=upd H10 s2.heap.objs.size (.lst (xs++[v]))) I10 rfl (.cons r10 .nil) ⟨_,xs,v,rfl,rfl,hD,hz,rfl⟩) fun _ s11 ⟨_,H11,I11,_,q11⟩=>?_
    subst q11
    obtain ⟨t11,f11⟩:=stay I11
    exact ⟨m',hm,i + 1,σ8,_,I11.unpinned,t11,f11,w10⟩
 have stp:codeAny (model X.prog X.w) X.A (.compLoop (.ListComp elt [⟨tg,iter,ifs,0⟩] scope pos) 0 (.ref it) (.ref s2.heap.objs.size) (compEnvC scope cl s3.heap.objs.size X.env)) (compPost (model X.prog X.w) X.A X.xe use QQ (.ref s2.heap.objs.size) s3.heap.objs.size) { s3 with heap:=h4,toks:=s3.toks + ([]:List (Str × Value)).length }:=
  loop _ I4 st4
 exact codeAny_compStart_list stp (T.self X.A 0 _ _ _ st4 stp)
theorem pe_comp (S:BlkScope N own fr X.N scope X.env.scope) (hc:X.calm=true) (hi:PI X tg iter wi)
  (hg:∀ cl s H fp,PG (cxBlk X N scope cl s H fp) tg g) (ht:∀ cl s H fp,PTs (cxBlk X N scope cl s H fp) ifs tc) (he:∀ cl s H fp,PE (cxBlk X N scope cl s H fp) elt te)
  (hs:∀ x,foldedSetIterable iter X.env x=pure x:=by intro _;rfl):PE X (.ListComp elt [⟨tg,iter,ifs,0⟩] scope pos) (tComp own fr wi g tc te):=by
 intro pins s σ H Q I h
 rw [eval_ListComp]
 exact comp_core S hc hi hg ht he hs I h fun D C H' s5 m5 hI hn _ _ _ _ _ q=>⟨m5,hn,fun h6 hs6=>⟨.ref D,H',hI h6 hs6,rfl,q⟩⟩
theorem ps_comp {i:Nat} {x:Str} {pos1 pos':Pos} (hN:X.N.Nodup) (hi':X.N[i]?=some x) (hx:Loc X.env.scope x) (S:BlkScope N own fr X.N scope X.env.scope) (hc:X.calm=true) (hi:PI X tg iter wi)
  (hg:∀ cl s H fp,PG (cxBlk X N scope cl s H fp) tg g) (ht:∀ cl s H fp,PTs (cxBlk X N scope cl s H fp) ifs tc) (he:∀ cl s H fp,PE (cxBlk X N scope cl s H fp) elt te)
  (hs:∀ x,foldedSetIterable iter X.env x=pure x:=by intro _;rfl) (hw:swapsWith (.ListComp elt [⟨tg,iter,ifs,0⟩] scope pos) (some (.Name x pos')) pos1.line X.env=pure true:=by rfl) (hf:X.fn x=true\/X.env.scope.names.lookup x=some .local:=by first | exact .inl rfl | exact .inr rfl | assumption) :
  PS X (.Assign [.Name x pos'] (.ListComp elt [⟨tg,iter,ifs,0⟩] scope pos) pos1) (tAsg (tComp own fr wi g tc te) (gName i)):=by
 intro pins s σ H D I h
 rw [exec_Assign_Name_used x pos' _ pos1 hw]
 refine wpAny_bind (wpAny_standAt (wpAny_bind ?_))
 rw [arm_evalThenUse_ListComp]
 refine wpAny_bind (thn (comp_core (use:=some (assign (.Name x pos') X.env)) (QQ:=fun _ s'=>SP X pins D .next s') S hc hi hg ht he hs I h fun D' C H' s5 m5 hI hn hfree hsz hL hcs hps q=>?_) fun _ s' h=>wpAny_pure (wpAny_pure h))
 show wpAny _ _ (assign (.Name x pos') X.env (.ref D')) _ _ s5
 refine wpAny_assign_Name (store_ok2 (hI s5.heap (.refl ..)) hN hi' hx (show RelV (.ref D') (.ref D') from rfl) (fun s6 I6 ⟨a,hsb,ha⟩=>?_) hf)
 have nC:a ≠ C:=by
  rcases ha with z | z
  ·rw [z];exact hL
  ·exact hcs x a z
 refine ⟨m5,hn.sameBut hsb (Ne.symm nC),fun h6 hs6=>?_⟩
 exact ⟨_,H',I6.turned (t':=s6.toks) (it:=C) (fun b o hb e=>hs6.extBut b o hb e) hfree (Ne.symm hL) (.inr hsz) hcs hps,q⟩
end
end L2
namespace ST
open PySem PySem.SetTable
def line (mask:Nat):Nat->Nat->Nat->List Nat
 | 0,_,_=>[]
 | n + 1,i,p=>(List.range (runEnd mask i + 1 - i)).map (i + ·)++line mask n (leap mask i p).1 (leap mask i p).2
def rem (mask N:Nat) (p:Probe):List Nat:=
 (List.range (p.more + 1)).map (p.j + ·)++line mask N (leap mask p.i p.perturb).1 (leap mask p.i p.perturb).2
def way (mask:Nat) (h:Int):List Nat:=line mask (mask + 14) (bits h % (mask + 1)) (bits h)
theorem runEnd_ge (mask i:Nat):i<=runEnd mask i:=by unfold runEnd;split <;> omega
theorem runEnd_le (mask i:Nat):runEnd mask i<=i + 9:=by unfold runEnd;split <;> omega
theorem line_length (mask:Nat):∀ n i p,(line mask n i p).length<=10*n
 | 0,_,_=>by simp [line]
 | n + 1,i,p=>by
  have h1:=line_length mask n (leap mask i p).1 (leap mask i p).2
  have h2:=runEnd_le mask i
  simp only [line,List.length_append,List.length_map,List.length_range]
  omega
theorem rem_start (t:SetTable) (h:Int) (N:Nat):rem t.mask N (t.probeStart h)=line t.mask (N + 1) (bits h % (t.mask + 1)) (bits h):=by
 have h1:=runEnd_ge t.mask (bits h % (t.mask + 1))
 unfold rem probeStart
 simp only [line]
 rw [show runEnd t.mask (bits h % (t.mask + 1)) - bits h % (t.mask + 1) + 1=runEnd t.mask (bits h % (t.mask + 1)) + 1 - bits h % (t.mask + 1) by omega]
theorem rem_way (t:SetTable) (h:Int):rem t.mask (t.mask + 13) (t.probeStart h)=way t.mask h:=rem_start t h _
theorem range_map_cons (m j:Nat):(List.range (m + 1 + 1)).map (j + ·)=j::(List.range (m + 1)).map (j + 1 + ·):=by
 rw [List.range_succ_eq_map,List.map_cons,List.map_map]
 congr 1
 exact List.map_congr_left fun a _=>by simp only [Function.comp];omega
theorem rem_more {t:SetTable} {N:Nat} {p:Probe} (h:0 < p.more):rem t.mask N p=p.j::rem t.mask N (t.advance p):=by
 obtain ⟨j,more,i,per,d⟩:=p
 cases more with
 | zero=>simp at h
 | succ m=>
  simp only [rem,advance,Nat.succ_pos,if_true,gt_iff_lt,Nat.zero_lt_succ]
  rw [range_map_cons]
  rfl
theorem rem_leap {t:SetTable} {N:Nat} {p:Probe} (h:p.more=0):rem t.mask (N + 1) p=p.j::rem t.mask N (t.advance p):=by
 obtain ⟨j,more,i,per,d⟩:=p
 simp only at h
 subst h
 have h1:=runEnd_ge t.mask (leap t.mask i per).1
 simp only [rem,advance,line,gt_iff_lt,Nat.lt_irrefl,if_false]
 rw [show runEnd t.mask (leap t.mask i per).1 - (leap t.mask i per).1 + 1=runEnd t.mask (leap t.mask i per).1 + 1 - (leap t.mask i per).1 by omega]
 simp
theorem advance_dummy {t:SetTable} {p:Probe}:(t.advance p).dummy=p.dummy:=by
 unfold advance;split <;> rfl
theorem go_spec {t:SetTable} {hashAt:Nat->Int} {h:Int} (nd:∀ j,t.slot j ≠ .dummy):∀ (fuel N:Nat) (p:Probe),(rem t.mask N p).length<=fuel->p.dummy=none →
  (∃ j∈rem t.mask N p,t.slot j=.empty) →
  ∃ pre j post,rem t.mask N p=pre++j::post/\(∀ x∈pre,∃ i,t.slot x=.live i/\hashAt i ≠ h) ∧
   (
    (t.slot j=.empty/\probe.go t hashAt h fuel p=some (.empty j none)) ∨
    (∃ i N' p',t.slot j=.live i/\hashAt i=h/\probe.go t hashAt h fuel p=some (.candidate j i p')/\rem t.mask N' p'=post/\p'.dummy=none)):=by
 intro fuel
 induction fuel with
 | zero=>
  intro N p hl _ ⟨j,hj,_⟩
  have:=List.length_pos_of_mem hj
  omega
 | succ fuel ih=>
  intro N p hl hd ⟨j,hj,hje⟩
  -- the first slot and the others
  have key:(∃ N',rem t.mask N p=p.j::rem t.mask N' (t.advance p))\/rem t.mask N p=[p.j]:=by
   rcases Nat.eq_zero_or_pos p.more with h0 | h0
   ·cases N with
    | zero=>right;simp [rem,h0,line]
    | succ N=>left;exact ⟨N,rem_leap h0⟩
   ·left;exact ⟨N,rem_more h0⟩
  cases hs:t.slot p.j with
  | dummy=>exact absurd hs (nd _)
  | empty=>
   have hgo:probe.go t hashAt h (fuel + 1) p=some (.empty p.j none):=by
    simp only [probe.go,hs,hd]
   rcases key with ⟨N',e⟩ | e
   ·exact ⟨[],p.j,_,e,by simp,.inl ⟨hs,hgo⟩⟩
   ·exact ⟨[],p.j,[],e,by simp,.inl ⟨hs,hgo⟩⟩
  | live i=>
   rcases key with ⟨N',e⟩ | e
   ·by_cases hh:hashAt i=h
    ·refine ⟨[],p.j,_,e,by simp,.inr ⟨i,N',t.advance p,hs,hh,?_,rfl,advance_dummy.trans hd⟩⟩
     simp only [probe.go,hs,hh,beq_self_eq_true,if_true]
    ·have hgo:probe.go t hashAt h (fuel + 1) p=probe.go t hashAt h fuel (t.advance p):=by
      simp only [probe.go,hs]
      rw [if_neg (by simpa using hh)]
     rw [e] at hj hl
     have hj':j∈rem t.mask N' (t.advance p):=by
      rcases List.mem_cons.mp hj with rfl | hj
      ·rw [hje] at hs;exact nomatch hs
      ·exact hj
     simp only [List.length_cons] at hl
     obtain ⟨pre,j',post,e',hpre,hh'⟩:=ih N' (t.advance p) (by omega) (advance_dummy.trans hd) ⟨j,hj',hje⟩
     refine ⟨p.j::pre,j',post,by rw [e,e'];rfl,?_,by rw [hgo];exact hh'⟩
     intro x hx
     rcases List.mem_cons.mp hx with rfl | hx
     ·exact ⟨i,hs,hh⟩
     ·exact hpre x hx
   ·rw [e] at hj
    obtain rfl:=List.mem_singleton.mp hj
    rw [hje] at hs;exact nomatch hs
def orb (mask:Nat):Nat->Nat->Nat->Nat
 | 0,_,acc=>acc
 | n + 1,i,acc=>orb mask n ((i*5 + 1) % (mask + 1)) (acc ||| (1 <<< i))
theorem mem_run (mask i:Nat):i∈(List.range (runEnd mask i + 1 - i)).map (i + ·):=
 List.mem_map.mpr ⟨0,List.mem_range.mpr (by have:=runEnd_ge mask i;omega),by omega⟩
theorem orb_mem (mask j:Nat):∀ n i acc,(orb mask n i acc).testBit j=true->acc.testBit j=true\/j∈line mask n i 0
 | 0,i,acc,h=>.inl h
 | n + 1,i,acc,h=>by
  rcases orb_mem mask j n _ _ h with h | h
  ·rw [Nat.testBit_or,Bool.or_eq_true] at h
   rcases h with h | h
   ·exact .inl h
   ·right
    have:j=i:=by
     rw [Nat.one_shiftLeft,Nat.testBit_two_pow] at h
     simpa using (of_decide_eq_true h).symm
    subst this
    exact List.mem_append_left _ (mem_run mask j)
  ·right
   exact List.mem_append_right _ (by simpa [leap] using h)
def okM (mask:Nat):Prop:=mask=7\/mask=31\/mask=127
theorem orb_all {mask:Nat} (ok:okM mask):∀ i,i < mask + 1->orb mask (mask + 1) i 0=2 ^ (mask + 1) - 1:=by
 rcases ok with rfl | rfl | rfl <;> decide +kernel
theorem line_zero {mask i j:Nat} (ok:okM mask) (hi:i < mask + 1) (hj:j < mask + 1):j∈line mask (mask + 1) i 0:=by
 rcases orb_mem mask j (mask + 1) i 0 (by rw [orb_all ok i hi,Nat.testBit_two_pow_sub_one];simpa using hj) with h | h
 ·simp at h
 ·exact h
theorem line_skip {mask n j:Nat} (hz:∀ i,i < mask + 1->j∈line mask n i 0):∀ k i p,i < mask + 1->p < 32 ^ k->j∈line mask (k + n) i p
 | 0,i,p,hi,hp=>by
  have:p=0:=by simpa using hp
  subst this
  rw [Nat.zero_add];exact hz i hi
 | k + 1,i,p,hi,hp=>by
  rw [Nat.add_right_comm]
  refine List.mem_append_right _ (line_skip hz k _ _ (Nat.mod_lt _ (Nat.succ_pos _)) ?_)
  show p / 32 < 32 ^ k
  rw [Nat.div_lt_iff_lt_mul (by decide)]
  rwa [Nat.pow_succ] at hp
theorem bits_lt (h:Int):bits h < 2 ^ 64:=by
 unfold bits
 have h1:h % (2 ^ 64:Int) < 2 ^ 64:=Int.emod_lt_of_pos _ (by decide)
 have h2:0<=h % (2 ^ 64:Int):=Int.emod_nonneg _ (by decide)
 omega
theorem way_all {mask j:Nat} {h:Int} (ok:okM mask) (hj:j<=mask):j∈way mask h:=by
 unfold way
 rw [show mask + 14=13 + (mask + 1) by omega]
 exact line_skip (fun i hi=>line_zero ok hi (by omega)) 13 _ _ (Nat.mod_lt _ (Nat.succ_pos _)) (Nat.lt_of_lt_of_le (bits_lt h) (by decide))
theorem line_le {mask x:Nat}:∀ n i p,i<=mask->x∈line mask n i p->x<=mask
 | 0,_,_,_,h=>by simp [line] at h
 | n + 1,i,p,hi,h=>by
  rcases List.mem_append.mp h with h | h
  ·obtain ⟨k,hk,rfl⟩:=List.mem_map.mp h
   have hk:=List.mem_range.mp hk
   unfold runEnd at hk
   split at hk <;> omega
  ·exact line_le n _ _ (Nat.le_of_lt_succ (Nat.mod_lt _ (Nat.succ_pos _))) h
theorem way_le {mask x:Nat} {h:Int} (hx:x∈way mask h):x<=mask:=line_le _ _ _ (Nat.le_of_lt_succ (Nat.mod_lt _ (Nat.succ_pos _))) hx
theorem below_go {xs:Array Nat} {j:Nat} (ris:xs.toList.Pairwise (· < ·)):∀ fuel lo hi,hi - lo<=fuel->lo<=hi->hi<=xs.size →
  (∀ m (h:m < xs.size),m < lo->xs[m] < j)->(∀ m (h:m < xs.size),hi<=m->¬ xs[m] < j) →
  below.go xs j fuel lo hi<=xs.size/\∀ m (h:m < xs.size),m < below.go xs j fuel lo hi ↔ xs[m] < j:=by
 intro fuel
 have mono:∀ a b (ha:a < xs.size) (hb:b < xs.size),a < b->xs[a] < xs[b]:=fun a b ha hb hab=>by
  have:=List.pairwise_iff_getElem.mp ris a b (by simpa using ha) (by simpa using hb) hab
  simpa using this
 induction fuel with
 | zero=>
  intro lo hi hf hl hs h1 h2
  have:lo=hi:=by omega
  subst this
  refine ⟨hs,fun m h=>⟨h1 m h,fun hm=>?_⟩⟩
  rcases Nat.lt_or_ge m lo with hh | hh
  ·exact hh
  ·exact absurd hm (h2 m h hh)
 | succ fuel ih=>
  intro lo hi hf hl hs h1 h2
  simp only [below.go]
  by_cases hlt:lo < hi
  ·rw [if_pos hlt]
   have hm:(lo + hi) / 2 < xs.size:=by omega
   have hg:xs.getD ((lo + hi) / 2) j=xs[(lo + hi) / 2]:=by simp [Array.getD,hm]
   rw [hg]
   by_cases hc:xs[(lo + hi) / 2] < j
   ·rw [if_pos hc]
    refine ih _ _ (by omega) (by omega) hs (fun m h hm'=>?_) h2
    rcases Nat.lt_or_ge m ((lo + hi) / 2) with hh | hh
    ·exact Nat.lt_trans (mono m _ h hm hh) hc
    ·have:m=(lo + hi) / 2:=by omega
     subst this;exact hc
   ·rw [if_neg hc]
    refine ih _ _ (by omega) (by omega) (by omega) h1 (fun m h hm'=>?_)
    rcases Nat.lt_or_ge ((lo + hi) / 2) m with hh | hh
    ·exact fun hx=>hc (Nat.lt_trans (mono _ m hm h hh) hx)
    ·have:m=(lo + hi) / 2:=by omega
     subst this;exact hc
  ·rw [if_neg hlt]
   have:lo=hi:=by omega
   subst this
   refine ⟨hs,fun m h=>⟨h1 m h,fun hm=>?_⟩⟩
   rcases Nat.lt_or_ge m lo with hh | hh
   ·exact hh
   ·exact absurd hm (h2 m h hh)
theorem below_ok {xs:Array Nat} (j:Nat) (ris:xs.toList.Pairwise (· < ·)) :
  below xs j<=xs.size/\∀ m (h:m < xs.size),m < below xs j ↔ xs[m] < j:=
 below_go ris _ _ _ (by omega) (by omega) (Nat.le_refl _) (fun m _ h=>by omega) (fun m h h'=>by omega)
theorem below_at {xs:Array Nat} (ris:xs.toList.Pairwise (· < ·)) (i:Nat) (hi:i < xs.size):below xs xs[i]=i:=by
 obtain ⟨h1,h2⟩:=below_ok xs[i] ris
 have mono:∀ a b (ha:a < xs.size) (hb:b < xs.size),a < b->xs[a] < xs[b]:=fun a b ha hb hab=>by
  have:=List.pairwise_iff_getElem.mp ris a b (by simpa using ha) (by simpa using hb) hab
  simpa using this
 rcases Nat.lt_trichotomy (below xs xs[i]) i with h | h | h
 ·have:=(h2 (below xs xs[i]) (by omega)).mpr (mono _ _ (by omega) hi h)
  omega
 ·exact h
 ·have:=(h2 i hi).mp h
  omega
theorem has_nil (j:Nat):has #[] j=false:=by
 unfold has;simp
theorem slot_live {t:SetTable} (ris:t.place.toList.Pairwise (· < ·)) (i:Nat) (hi:i < t.place.size):t.slot t.place[i]=.live i:=by
 unfold slot
 simp only [below_at ris i hi]
 simp [hi]
theorem slot_of {t:SetTable} (ris:t.place.toList.Pairwise (· < ·)) (nd:t.dummies=#[]) (j:Nat) :
  (t.slot j=.empty/\j ∉ t.place.toList)\/∃ i,∃ hi:i < t.place.size,t.slot j=.live i/\t.place[i]=j:=by
 by_cases hj:j∈t.place.toList
 ·right
  obtain ⟨i,hi,e⟩:=List.getElem_of_mem hj
  have hi':i < t.place.size:=by simpa using hi
  have e':t.place[i]=j:=by simpa using e
  exact ⟨i,hi',by rw [<-e'];exact slot_live ris i hi',e'⟩
 ·left
  refine ⟨?_,hj⟩
  unfold slot
  have hne:(t.place[below t.place j]? == some j)=false:=by
   rw [beq_eq_false_iff_ne]
   intro e
   obtain ⟨hb,e⟩:=Array.getElem?_eq_some_iff.mp e
   exact hj (by rw [<-e];simp)
  simp only [hne,nd,has_nil]
  simp
end ST
namespace ST
open PySem PySem.SetTable
structure Tab (t:SetTable) (es:Array (Int × Value)) (ps:List (Nat × (Int × Value))):Prop where
 pl:t.place.toList=ps.map (·.1)
 en:es.toList=ps.map (·.2)
 ris:(ps.map (·.1)).Pairwise (· < ·)
 top:∀ q∈ps,q.1<=t.mask
 dum:t.dummies=#[]
 ok:okM t.mask
 reach:∀ q∈ps,∃ pre post,way t.mask q.2.1=pre++q.1::post/\∀ x∈pre,x∈ps.map (·.1)
def Room (mask n:Nat):Prop:=(mask=7/\n<=4)\/(mask=31/\n<=18)\/(mask=127/\n<=76)
namespace Tab
variable {t:SetTable} {es:Array (Int × Value)} {ps:List (Nat × (Int × Value))}
theorem psz (T:Tab t es ps):t.place.size=ps.length:=by rw [<-Array.length_toList,T.pl,List.length_map]
theorem esz (T:Tab t es ps):es.size=ps.length:=by rw [<-Array.length_toList,T.en,List.length_map]
theorem ris' (T:Tab t es ps):t.place.toList.Pairwise (· < ·):=by rw [T.pl];exact T.ris
theorem fits (T:Tab t es ps) (r:ps.length<=t.mask):t.fits es.size=true:=by
 simp only [SetTable.fits,SetTable.fill,T.dum,T.psz,T.esz]
 simpa using r
theorem put (T:Tab t es ps) {j:Nat} {e:Int × Value} (hj:j<=t.mask) (hn:j ∉ ps.map (·.1))
  (hr:∃ pre post,way t.mask e.1=pre++j::post/\∀ x∈pre,x∈ps.map (·.1)) :
  Tab (t.put j).1 (insertAt es (t.put j).2 e) (ps.take (t.put j).2++(j,e)::ps.drop (t.put j).2):=by
 have hmem:∀ x,x∈ps.map (·.1)->x∈(ps.take (t.put j).2++(j,e)::ps.drop (t.put j).2).map (·.1):=fun x hx=>by
  obtain ⟨q,hq,rfl⟩:=List.mem_map.mp hx
  refine List.mem_map.mpr ⟨q,?_,rfl⟩
  rw [<-List.take_append_drop (t.put j).2 ps] at hq
  rcases List.mem_append.mp hq with h | h
  ·exact List.mem_append_left _ h
  ·exact List.mem_append_right _ (List.mem_cons_of_mem _ h)
 have hmem':∀ q,q∈ps.take (t.put j).2++(j,e)::ps.drop (t.put j).2->q=(j,e)\/q∈ps:=fun q hq=>by
  rcases List.mem_append.mp hq with h | h
  ·exact .inr (List.mem_of_mem_take h)
  ·rcases List.mem_cons.mp h with h | h
   ·exact .inl h
   ·exact .inr (List.mem_of_mem_drop h)
 have hb:=below_ok j T.ris'
 have hp:(t.put j).2=below t.place j:=rfl
 have hm:(t.put j).1.mask=t.mask:=rfl
 have hg:∀ m (h:m < (ps.map (·.1)).length),(ps.map (·.1))[m]=t.place[m]'(by rw [T.psz];simpa using h):=fun m h=>by
  have:=T.pl
  simp only [<-this];simp
 refine ⟨?_,?_,?_,?_,?_,?_,?_⟩
 ·show (insertAt t.place (below t.place j) j).toList=_
  rw [toList_insertAt,T.pl,List.map_append,List.map_cons,List.map_take,List.map_drop,hp]
 ·rw [toList_insertAt,T.en,List.map_append,List.map_cons,List.map_take,List.map_drop]
 ·rw [List.map_append,List.map_cons,List.map_take,List.map_drop,hp]
  rw [List.pairwise_append,List.pairwise_cons]
  have low:∀ a∈(ps.map (·.1)).take (below t.place j),a < j:=fun a ha=>by
   obtain ⟨m,hm,rfl⟩:=List.getElem_of_mem ha
   rw [List.length_take] at hm
   rw [List.getElem_take,hg]
   exact (hb.2 m _).mp (by omega)
  have high:∀ a∈(ps.map (·.1)).drop (below t.place j),j < a:=fun a ha=>by
   have hin:=List.mem_of_mem_drop ha
   obtain ⟨m,hm,rfl⟩:=List.getElem_of_mem ha
   rw [List.length_drop] at hm
   rw [List.getElem_drop] at hin ⊢
   have h1:¬ (ps.map (·.1))[below t.place j + m] < j:=by
    rw [hg]
    exact fun h=>by have:=(hb.2 _ _).mpr h;omega
   have h2:(ps.map (·.1))[below t.place j + m] ≠ j:=fun h=>hn (h ▸ hin)
   omega
  refine ⟨T.ris.sublist (List.take_sublist _ _),⟨high,T.ris.sublist (List.drop_sublist _ _)⟩,fun a ha b hb'=>?_⟩
  rcases List.mem_cons.mp hb' with rfl | hb'
  ·exact low a ha
  ·exact Nat.lt_trans (low a ha) (high b hb')
 ·intro q hq
  rcases hmem' q hq with rfl | h
  ·exact hj
  ·exact T.top q h
 ·show (if has t.dummies j=true then _ else t.dummies)=#[]
  rw [T.dum,has_nil];rfl
 ·exact T.ok
 ·intro q hq
  rcases hmem' q hq with rfl | h
  ·obtain ⟨pre,post,e1,h1⟩:=hr
   exact ⟨pre,post,e1,fun x hx=>hmem x (h1 x hx)⟩
  ·obtain ⟨pre,post,e1,h1⟩:=T.reach q h
   exact ⟨pre,post,e1,fun x hx=>hmem x (h1 x hx)⟩
end Tab
theorem line_succ (mask:Nat):∀ n i p,∃ r,line mask (n + 1) i p=line mask n i p++r
 | 0,i,p=>⟨line mask 1 i p,rfl⟩
 | n + 1,i,p=>by
  obtain ⟨r,e⟩:=line_succ mask n (leap mask i p).1 (leap mask i p).2
  refine ⟨r,?_⟩
  show _++line mask (n + 1) _ _=(_++line mask n _ _)++r
  rw [e,List.append_assoc]
theorem free_eq (mask:Nat) (owner:Array (Option Nat)):∀ fuel i p,layClean.free mask owner fuel i p=(line mask fuel i p).find? (fun j=>(owner.getD j (some 0)).isNone)
 | 0,i,p=>rfl
 | fuel + 1,i,p=>by
  simp only [layClean.free,line,List.find?_append,List.find?_map]
  have e:(fun k=>(owner.getD (i + k) (some 0)).isNone)=((fun j=>(owner.getD j (some 0)).isNone) ∘ fun x=>i + x):=rfl
  rw [e]
  cases hf:List.find? ((fun j=>(owner.getD j (some 0)).isNone) ∘ fun x=>i + x) (List.range (runEnd mask i + 1 - i)) with
  | some k=>rfl
  | none=>
   simp only [Option.map_none,Option.none_or]
   exact free_eq mask owner fuel _ _
theorem set_perm:∀ (l:List (Option Nat)) (j k:Nat),l[j]?=some none->List.Perm ((l.set j (some k)).filterMap id) (k::l.filterMap id)
 | [],j,k,h=>by simp at h
 | a::l,0,k,h=>by
  simp only [List.getElem?_cons_zero,Option.some.injEq] at h
  subst h
  simp
 | a::l,j + 1,k,h=>by
  simp only [List.getElem?_cons_succ] at h
  have ih:=set_perm l j k h
  cases a with
  | none=>simpa using ih
  | some b=>
   simp only [List.set_cons_succ,List.filterMap_cons,id]
   exact (List.Perm.cons b ih).trans (List.Perm.swap k b _)
theorem all_some:∀ l:List (Option Nat),(∀ x∈l,x.isSome=true)->(l.filterMap id).length=l.length
 | [],_=>rfl
 | none::l,h=>by have:=h none List.mem_cons_self;simp at this
 | some a::l,h=>by
  simp only [List.filterMap_cons,id,List.length_cons]
  rw [all_some l fun x hx=>h x (List.mem_cons_of_mem _ hx)]
structure Own (mask:Nat) (hs:List Int) (owner:Array (Option Nat)):Prop where
 sz:owner.size=mask + 1
 pm:List.Perm (owner.toList.filterMap id) (List.range hs.length)
 rc:∀ j k,owner[j]?=some (some k)->∃ h,hs[k]?=some h/\∃ pre post,way mask h=pre++j::post/\∀ x∈pre,∃ k',owner[x]?=some (some k')
theorem Own.step {mask:Nat} {hs:List Int} {owner:Array (Option Nat)} (O:Own mask hs owner) (ok:okM mask) (hl:hs.length < mask + 1) (h:Int) :
  ∃ j,layClean.free mask owner (turns mask) (bits h % (mask + 1)) (bits h)=some j/\Own mask (hs++[h]) (owner.setIfInBounds j (some hs.length)):=by
 have hex:∃ j,j < mask + 1/\owner[j]?=some none:=by
  apply Classical.byContradiction
  intro hc
  have hall:∀ x∈owner.toList,x.isSome=true:=fun x hx=>by
   obtain ⟨m,hm,rfl⟩:=List.getElem_of_mem hx
   have hm':m < owner.size:=by simpa using hm
   cases hx:owner[m] with
   | some v=>simp [hx]
   | none=>exact absurd ⟨m,by rw [<-O.sz];exact hm',by rw [Array.getElem?_eq_getElem hm',hx]⟩ hc
  have h1:=all_some _ hall
  have h2:=O.pm.length_eq
  rw [List.length_range] at h2
  have h3:owner.toList.length=mask + 1:=by simpa using O.sz
  have h4:=h1.symm.trans h2
  rw [h3] at h4
  omega
 obtain ⟨j0,hj0,e0⟩:=hex
 have hgd:∀ x,x < mask + 1->owner.getD x (some 0)=owner[x]?.getD (some 0):=fun x hx=>by
  rw [Array.getD_eq_getD_getElem?]
 have hsome:((way mask h).find? (fun j=>(owner.getD j (some 0)).isNone)).isSome=true:=by
  rw [List.find?_isSome]
  exact ⟨j0,way_all ok (by omega),by rw [hgd j0 hj0,e0];rfl⟩
 obtain ⟨j,hj⟩:=Option.isSome_iff_exists.mp hsome
 have hfree:layClean.free mask owner (turns mask) (bits h % (mask + 1)) (bits h)=some j:=by
  rw [free_eq]
  obtain ⟨r,e⟩:=line_succ mask (mask + 14) (bits h % (mask + 1)) (bits h)
  show (line mask (mask + 14 + 1) _ _).find? _=_
  rw [e,List.find?_append]
  show Option.or ((way mask h).find? _) _=_
  rw [hj];rfl
 obtain ⟨hjn,pre,post,ew,hpre⟩:=List.find?_eq_some_iff_append.mp hj
 have hjm:j < mask + 1:=Nat.lt_succ_of_le (way_le (h:=h) (by rw [ew];simp))
 have hjo:owner[j]?=some none:=by
  have hjs:j < owner.size:=by rw [O.sz];exact hjm
  have:=hjn
  rw [hgd j hjm,Array.getElem?_eq_getElem hjs] at this
  rw [Array.getElem?_eq_getElem hjs]
  simpa using this
 have hjs:j < owner.size:=by rw [O.sz];exact hjm
 have hset:∀ x,(owner.setIfInBounds j (some hs.length))[x]?=if j=x then some (some hs.length) else owner[x]?:=fun x=>by
  rw [Array.getElem?_setIfInBounds]
  split
  ·rename_i e;subst e;simp [hjs]
  ·rfl
 have hkeep:∀ (x k':Nat),owner[x]?=some (some k')->∃ k'',(owner.setIfInBounds j (some hs.length))[x]?=some (some k''):=fun x k' e=>by
  rw [hset]
  split
  ·exact ⟨_,rfl⟩
  ·exact ⟨k',e⟩
 refine ⟨j,hfree,⟨by simpa using O.sz,?_,?_⟩⟩
 ·rw [Array.toList_setIfInBounds]
  refine (set_perm _ _ _ (by simpa using hjo)).trans ?_
  rw [List.length_append,List.length_singleton,List.range_succ]
  exact (List.Perm.cons _ O.pm).trans (List.perm_append_singleton _ _).symm
 ·intro j' k' e
  rw [hset] at e
  split at e
  ·rename_i ej
   subst ej
   obtain rfl:hs.length=k':=by simpa using e
   refine ⟨h,by simp,pre,post,ew,fun x hx=>?_⟩
   have hx1:=hpre x hx
   have hxm:x < mask + 1:=Nat.lt_succ_of_le (way_le (h:=h) (by rw [ew];exact List.mem_append_left _ hx))
   have hxs:x < owner.size:=by rw [O.sz];exact hxm
   rw [hgd x hxm,Array.getElem?_eq_getElem hxs] at hx1
   cases ho:owner[x] with
   | none=>simp [ho] at hx1
   | some v=>exact hkeep x v (by rw [Array.getElem?_eq_getElem hxs,ho])
  ·obtain ⟨h',eh,pre',post',ew',hp'⟩:=O.rc j' k' e
   refine ⟨h',?_,pre',post',ew',fun x hx=>?_⟩
   ·rw [List.getElem?_append_left (by
     rcases Nat.lt_or_ge k' hs.length with hh | hh
     ·exact hh
     ·rw [List.getElem?_eq_none hh] at eh;simp at eh)]
    exact eh
   ·obtain ⟨v,hv⟩:=hp' x hx
    exact hkeep x v hv
theorem own_fold {mask:Nat} (ok:okM mask):∀ (l hs:List Int) (owner:Array (Option Nat)),Own mask hs owner->hs.length + l.length<=mask + 1 →
  ∃ owner',l.foldl (init:=some (owner,hs.length)) (fun acc h=>do
   let (owner,k) ← acc
   let j ← layClean.free mask owner (turns mask) (bits h % (mask + 1)) (bits h)
   pure (owner.setIfInBounds j (some k),k + 1))=some (owner',(hs++l).length)/\Own mask (hs++l) owner'
 | [],hs,owner,O,_=>⟨owner,by simp,by simpa using O⟩
 | h::l,hs,owner,O,hl=>by
  simp only [List.length_cons] at hl
  obtain ⟨j,hj,O'⟩:=O.step ok (by omega) h
  obtain ⟨owner',e,O''⟩:=own_fold ok l (hs++[h]) _ O' (by simp;omega)
  refine ⟨owner',?_,by simpa using O''⟩
  rw [List.foldl_cons]
  simp only [Option.bind_eq_bind,Option.bind_some,hj,Option.pure_def] at e ⊢
  rw [List.append_assoc] at e
  simp only [List.length_append,List.length_singleton,List.singleton_append] at e ⊢
  exact e
theorem layClean_ok {mask:Nat} (ok:okM mask) (hashes:Array Int) (hl:hashes.size<=mask + 1) :
  ∃ owner,layClean mask hashes=some owner/\Own mask hashes.toList owner:=by
 have O:Own mask [] (Array.replicate (mask + 1) none):=⟨by simp,by simp,fun j k e=>by
  rw [Array.getElem?_replicate] at e
  split at e <;> simp at e⟩
 obtain ⟨owner,e,O'⟩:=own_fold ok hashes.toList [] _ O (by simpa using hl)
 refine ⟨owner,?_,by simpa using O'⟩
 unfold layClean
 rw [<-Array.foldl_toList]
 simp only [List.length_nil] at e
 rw [e];rfl
theorem live_fst (f:Nat->Option Nat):∀ l:List Nat,(l.filterMap fun j=>(f j).map (j,·)).map (·.1)=l.filter fun j=>(f j).isSome
 | []=>rfl
 | a::l=>by
  have ih:=live_fst f l
  cases h:f a <;> simp [h] at ih ⊢ <;> exact ih
theorem live_snd (f:Nat->Option Nat):∀ l:List Nat,(l.filterMap fun j=>(f j).map (j,·)).map (·.2)=l.filterMap f
 | []=>rfl
 | a::l=>by
  have ih:=live_snd f l
  cases h:f a <;> simp [h] at ih ⊢ <;> exact ih
theorem fm_congr {α β:Type} {f g:α->Option β}:∀ l:List α,(∀ x∈l,f x=g x)->l.filterMap f=l.filterMap g
 | [],_=>rfl
 | a::l,h=>by
  rw [List.filterMap_cons,List.filterMap_cons,h a List.mem_cons_self,fm_congr l fun x hx=>h x (List.mem_cons_of_mem _ hx)]
theorem range_getD (o:Array (Option Nat)):(List.range o.size).filterMap (fun j=>o.getD j none)=o.toList.filterMap id:=by
 have e:=filterMap_getElem?_range o
 rw [<-e,List.filterMap_filterMap]
 refine fm_congr _ fun x hx=>?_
 have hx:=List.mem_range.mp hx
 simp [Array.getD,hx]
theorem laid_ok {mask finger moves:Nat} {led plain:Bool} (ok:okM mask) (es:Array (Int × Value)) (hl:es.size<=mask + 1) :
  ∃ t order ps,laid mask finger moves led plain (es.map (·.1))=some (t,order)/\Tab t (order.filterMap (es[·]?)) ps/\t.mask=mask/\t.led=led/\t.plain=plain ∧
   List.Perm (order.filterMap (es[·]?)).toList es.toList:=by
 obtain ⟨owner,e,O⟩:=layClean_ok ok (es.map (·.1)) (by simpa using hl)
 have hlen:((es.map (·.1)).toList).length=es.size:=by simp
 have hrc:∀ j k,owner[j]?=some (some k)->∃ q:k < es.size,∃ pre post,way mask es[k].1=pre++j::post/\∀ x∈pre,∃ k',owner[x]?=some (some k'):=fun j k ho=>by
  obtain ⟨h,eh,r⟩:=O.rc j k ho
  have hk:k < es.size:=by
   rcases Nat.lt_or_ge k es.size with hh | hh
   ·exact hh
   ·rw [List.getElem?_eq_none (by simpa using hh)] at eh;simp at eh
  refine ⟨hk,?_⟩
  have:h=es[k].1:=by simpa [hk] using eh.symm
  rw [<-this];exact r
 let live:=(List.range (mask + 1)).filterMap fun j=>(owner.getD j none).map (j,·)
 have hlive:∀ q∈live,q.1 < mask + 1/\owner[q.1]?=some (some q.2):=fun q hq=>by
  obtain ⟨j,hj,e⟩:=List.mem_filterMap.mp hq
  have hj:=List.mem_range.mp hj
  have hjs:j < owner.size:=by rw [O.sz];exact hj
  cases ho:owner[j] with
  | none=>simp [Array.getD,hjs,ho] at e
  | some k=>
   have:q=(j,k):=by simpa [Array.getD,hjs,ho] using e.symm
   subst this
   exact ⟨hj,by rw [Array.getElem?_eq_getElem hjs,ho]⟩
 have hfst:live.map (·.1)=(List.range (mask + 1)).filter fun j=>(owner.getD j none).isSome:=live_fst _ _
 have hsnd:live.map (·.2)=owner.toList.filterMap id:=by
  rw [<-range_getD,O.sz];exact live_snd _ _
 have hperm:List.Perm (live.map (·.2)) (List.range es.size):=by rw [hsnd,<-hlen];exact O.pm
 have hpm:List.Perm ((live.map (·.2)).filterMap (es[·]?)) es.toList:=by
  have:=hperm.filterMap (es[·]?)
  rwa [filterMap_getElem?_range] at this
 let d:Int × Value:=(0,.none)
 have hmapEq:(live.map (·.2)).filterMap (es[·]?)=live.map (fun q=>es.getD q.2 d):=by
  rw [List.filterMap_map]
  have:∀ (l:List (Nat × Nat)),(∀ q∈l,q.2 < es.size)->l.filterMap ((es[·]?) ∘ (·.2))=l.map (fun q=>es.getD q.2 d):=by
   intro l
   induction l with
   | nil=>intro _;rfl
   | cons a l ih=>
    intro h
    have ha:=h a List.mem_cons_self
    rw [List.filterMap_cons_some (b:=es.getD a.2 d) (by simp [Array.getD,ha]),ih fun q hq=>h q (List.mem_cons_of_mem _ hq)]
    rfl
  exact this live fun q hq=>(hrc q.1 q.2 (hlive q hq).2).1
 refine ⟨_,_,live.map (fun q=>(q.1,es.getD q.2 d)),by unfold laid;rw [e];rfl,?_,rfl,rfl,rfl,?_⟩
 ·have hin:∀ x k,owner[x]?=some (some k)->x∈(live.map (fun q=>(q.1,es.getD q.2 d))).map (·.1):=fun x k ho=>by
   have hxs:x < owner.size:=by
    rcases Nat.lt_or_ge x owner.size with hh | hh
    ·exact hh
    ·rw [Array.getElem?_eq_none hh] at ho;simp at ho
   rw [List.map_map]
   show x∈live.map (·.1)
   rw [hfst,List.mem_filter]
   refine ⟨List.mem_range.mpr (by rw [<-O.sz];exact hxs),?_⟩
   rw [Array.getElem?_eq_getElem hxs] at ho
   simp [Array.getD,hxs,Option.some.inj ho]
  refine ⟨?_,?_,?_,?_,rfl,ok,?_⟩
  ·show (live.map (·.1))=_
   rw [List.map_map];rfl
  ·rw [Array.toList_filterMap]
   show (live.map (·.2)).filterMap _=_
   rw [hmapEq,List.map_map];rfl
  ·rw [List.map_map]
   show (live.map (·.1)).Pairwise _
   rw [hfst]
   exact List.pairwise_lt_range.sublist List.filter_sublist
  ·intro q hq
   obtain ⟨q',hq',rfl⟩:=List.mem_map.mp hq
   exact Nat.le_of_lt_succ (hlive q' hq').1
  ·intro q hq
   obtain ⟨q',hq',rfl⟩:=List.mem_map.mp hq
   obtain ⟨hk,pre,post,ew,hp⟩:=hrc q'.1 q'.2 (hlive q' hq').2
   refine ⟨pre,post,?_,fun x hx=>?_⟩
   ·show way mask (es.getD q'.2 d).1=_
    simp only [Array.getD,hk,dif_pos];exact ew
   ·obtain ⟨k',hk'⟩:=hp x hx
    exact hin x k' hk'
 ·rw [Array.toList_filterMap];exact hpm
end ST
namespace ST
open PySem PySem.SetTable
abbrev ik (prog:Program) (w:World):=intKind prog w
structure Holds (prog:Program) (w:World) (h:Heap) (es:Array (Int × Value)) (ms:List (Addr × List Int)):Prop where
 pm:List.Perm es.toList (ms.map fun m=>(tupleKeyHash (ik prog w) m.2,Value.ref m.1))
 key:∀ m∈ms,IsTupleKey (ik prog w) h m.2 m.1
 nd:(ms.map (·.2)).Nodup
theorem two_cuts {j k:Nat}:∀ {pre pre' post post':List Nat},pre++j::post=pre'++k::post'->k∈pre\/j=k\/j∈pre'
 | [],[],_,_,e=>by simp at e;exact .inr (.inl e.1)
 | [],a::pre',_,_,e=>by simp at e;exact .inr (.inr (by rw [e.1];exact List.mem_cons_self))
 | a::pre,[],_,_,e=>by simp at e;exact .inl (by rw [e.1];exact List.mem_cons_self)
 | a::pre,b::pre',_,_,e=>by
  simp only [List.cons_append,List.cons.injEq] at e
  rcases two_cuts e.2 with h | h | h
  ·exact .inl (List.mem_cons_of_mem _ h)
  ·exact .inr (.inl h)
  ·exact .inr (.inr (List.mem_cons_of_mem _ h))
section
variable {prog:Program} {w:World} {A:Around} {E:Value->Shared->Prop} {s:Shared}
theorem wp_ofAClass {ks:List Int} {b:Addr} {Q:Bool->Shared->Prop} (n:Nat) (hk:IsTupleKey (ik prog w) s.heap ks b) (h:Q false s) :
  wpAny (model prog w) A (ofAClassStatement (n + 1) (.ref b)) Q E s:=by
 have hT:=hk.typeIs
 obtain ⟨o,items,m,ho,_,hd,hi⟩:=hk
 unfold ofAClassStatement
 refine wpAny_bind (wpAny_typeOf hT ?_)
 dsimp only
 rw [if_pos (by decide)]
 refine wpAny_bind (wpAny_pure ?_)
 simp only [Bool.not_true,Bool.false_eq_true,if_false]
 refine wpAny_bind (wpAny_seqItems ho hd ?_)
 dsimp only
 refine wpAny_bind ?_
 rw [<-Array.forIn_toList]
 refine wpAny_forIn_list _ (fun rest r s'=>r.1=none/\s'=s/\∀ v∈rest,carriedByValue v=true) _ ?_ ?_ _ _ ⟨rfl,rfl,hi.byValue⟩
 ·rintro v rest r s' ⟨hr,rfl,hall⟩
  have hv:=hall v List.mem_cons_self
  have e:ofAClassStatement n v=pure false:=by
   cases v with
   | ref a=>simp [carriedByValue] at hv
   | _=>unfold ofAClassStatement;rfl
  rw [e]
  refine wpAny_bind (wpAny_pure ?_)
  simp only [Bool.false_eq_true,if_false]
  exact wpAny_pure ⟨rfl,rfl,fun u hu'=>hall u (List.mem_cons_of_mem _ hu')⟩
 ·rintro ⟨r1,r2⟩ s' ⟨hr,rfl,_⟩
  simp only at hr
  subst hr
  exact wpAny_pure h
theorem wp_couldBeSeen {ks:List Int} {b:Addr} {l:List Value} {Q:Bool->Shared->Prop} (hk:IsTupleKey (ik prog w) s.heap ks b)
  (hl:∀ v∈l,∃ c ks',v=.ref c/\IsTupleKey (ik prog w) s.heap ks' c) (h:Q false s) :
  wpAny (model prog w) A (searchCouldBeSeen (.ref b) l) Q E s:=by
 unfold searchCouldBeSeen
 refine wpAny_bind ?_
 refine wpAny_forIn_list _ (fun rest r s'=>r.1=none/\s'=s/\∀ v∈rest,∃ c ks',v=.ref c/\IsTupleKey (ik prog w) s.heap ks' c) _ ?_ ?_ _ _ ⟨rfl,rfl,hl⟩
 ·rintro v rest r s' ⟨hr,rfl,hall⟩
  obtain ⟨c,ks',rfl,hc⟩:=hall v List.mem_cons_self
  have htl:∀ v∈rest,∃ c ks',v=.ref c/\IsTupleKey (ik prog w) s'.heap ks' c:=fun u hu'=>hall u (List.mem_cons_of_mem _ hu')
  dsimp only
  refine wpAny_ite_split (fun _=>wpAny_pure ⟨rfl,rfl,htl⟩) (fun _=>?_)
  refine wpAny_bind (wpAny_eqIsQuiet_tuple hk ?_)
  simp only [Bool.not_true,Bool.false_eq_true,if_false]
  refine wpAny_bind (wpAny_eqIsQuiet_tuple hc ?_)
  simp only [Bool.not_true,Bool.false_eq_true,if_false]
  refine wpAny_bind (wp_ofAClass 7 hk ?_)
  simp only [Bool.false_eq_true,if_false]
  refine wpAny_bind (wp_ofAClass 7 hc ?_)
  simp only [Bool.false_eq_true,if_false]
  exact wpAny_pure ⟨rfl,rfl,htl⟩
 ·rintro ⟨r1,r2⟩ s' ⟨hr,rfl,_⟩
  simp only at hr
  subst hr
  exact wpAny_pure h
theorem wp_hashByValue {ks:List Int} {b:Addr} {Q:Bool->Shared->Prop} (n:Nat) (hk:IsTupleKey (ik prog w) s.heap ks b) (h:Q true s) :
  wpAny (model prog w) A (hashByValue (n + 1) (.ref b)) Q E s:=by
 have hT:=hk.typeIs
 obtain ⟨o,items,m,ho,_,hd,hi⟩:=hk
 unfold hashByValue
 refine wpAny_bind (wpAny_specialOf hT F.slot_tuple_hash.lookup ?_)
 dsimp only
 refine wpAny_bind (wpAny_seqItems ho hd ?_)
 simp only [Option.getD_some]
 refine wpAny_bind ?_
 rw [<-Array.forIn_toList]
 refine wpAny_forIn_list _ (fun rest r s'=>r.1=none/\s'=s/\∃ ks',ItemsAre (ik prog w) ks' rest) _ ?_ ?_ _ _ ⟨rfl,rfl,ks,hi⟩
 ·rintro v rest r s' ⟨hr,rfl,ks',hall⟩
  cases hall with
  | @cons k _ ks'' _ h1 h2=>
   obtain ⟨t,rfl⟩:=Value.isInt_shape h1
   have e:hashByValue n (.int k t)=pure true:=by unfold hashByValue;rfl
   rw [e]
   refine wpAny_bind (wpAny_pure ?_)
   simp only [Bool.not_true,Bool.false_eq_true,if_false]
   exact wpAny_pure ⟨rfl,rfl,ks'',h2⟩
 ·rintro ⟨r1,r2⟩ s' ⟨hr,rfl,_⟩
  simp only at hr
  subst hr
  exact wpAny_pure h
theorem wp_search {a b:Addr} {o:Obj} {es:Array (Int × Value)} {ep:Nat} {t:SetTable} {ps:List (Nat × (Int × Value))} {ms:List (Addr × List Int)} {ks:List Int} {Q:SetFound->Shared->Prop}
  (hu:A.units < cLine) (ho:s.heap.get? a=some o) (hd:o.data=.set es ep t) (T:Tab t es ps) (hlen:ps.length<=t.mask) (H:Holds prog w s.heap es ms)
  (hk:IsTupleKey (ik prog w) s.heap ks b)
  (hin:ks∈ms.map (·.2)->Q (.there none) s)
  (hout:ks ∉ ms.map (·.2)->∀ j pre post,way t.mask (tupleKeyHash (ik prog w) ks)=pre++j::post->(∀ x∈pre,x∈ps.map (·.1))->j ∉ ps.map (·.1)->Q (.free j false) s) :
  ∀ (fuel N:Nat) (p:Probe) (stand:Option Probe) (done:List Nat),stand.getD (t.probeStart (tupleKeyHash (ik prog w) ks))=p->p.dummy=none →
   way t.mask (tupleKeyHash (ik prog w) ks)=done++rem t.mask N p->(rem t.mask N p).length < fuel →
   (∀ x∈done,∃ q∈ps,q.1=x/\∀ c,q.2.2=.ref c->¬ IsTupleKey (ik prog w) s.heap ks c) →
   wpAny (model prog w) A (setSearchFrom a (.ref b) (tupleKeyHash (ik prog w) ks) true fuel stand) Q E s:=by
 have hf:=T.fits hlen
 have hnd:∀ j,t.slot j ≠ .dummy:=fun j=>by
  rcases slot_of T.ris' T.dum j with ⟨e,_⟩ | ⟨i,_,e,_⟩ <;> rw [e] <;> exact fun h=>nomatch h
 have hmemb:∀ q∈ps,∃ m∈ms,q.2=(tupleKeyHash (ik prog w) m.2,Value.ref m.1):=fun q hq=>by
  have h1:q.2∈es.toList:=by rw [T.en];exact List.mem_map.mpr ⟨q,hq,rfl⟩
  obtain ⟨m,hm,e⟩:=List.mem_map.mp (H.pm.mem_iff.mp h1)
  exact ⟨m,hm,e.symm⟩
 have hemp:∃ j,j<=t.mask/\t.slot j=.empty:=by
  apply Classical.byContradiction
  intro hc
  have hsub:∀ j,j∈List.range (t.mask + 1)->j∈ps.map (·.1):=fun j hj=>by
   have hj:=List.mem_range.mp hj
   rcases slot_of T.ris' T.dum j with ⟨e,_⟩ | ⟨i,hi,_,e⟩
   ·exact absurd ⟨j,by omega,e⟩ hc
   ·rw [<-T.pl,<-e];simp
  have:=List.nodup_range.length_le_of_subset (l₂:=ps.map (·.1)) (fun j hj=>hsub j hj)
  simp at this
  omega
 intro fuel
 induction fuel with
 | zero=>intro N p stand done _ _ _ hl;omega
 | succ fuel ih=>
  intro N p stand done hst hpd hway hl hdone
  unfold setSearchFrom
  refine wpAny_bind (wpAny_setState_of ho hd hf ?_)
  dsimp only
  rw [if_neg (by rcases T.ok with e | e | e <;> simp [gaveWay,e])]
  obtain ⟨j0,hj0,e0⟩:=hemp
  have hj0w:j0∈rem t.mask N p:=by
   have h1:=way_all (h:=tupleKeyHash (ik prog w) ks) T.ok hj0
   rw [hway] at h1
   rcases List.mem_append.mp h1 with h1 | h1
   ·obtain ⟨q,hq,e,_⟩:=hdone _ h1
    rcases slot_of T.ris' T.dum j0 with ⟨_,hn⟩ | ⟨i,hi,e',_⟩
    ·exact absurd (by rw [T.pl,<-e];exact List.mem_map.mpr ⟨q,hq,rfl⟩) hn
    ·rw [e0] at e';exact nomatch e'
   ·exact h1
  have hlen2:(rem t.mask N p).length<=10*turns t.mask:=by
   have h1:=line_length t.mask (t.mask + 14) (bits (tupleKeyHash (ik prog w) ks) % (t.mask + 1)) (bits (tupleKeyHash (ik prog w) ks))
   have h2:(way t.mask (tupleKeyHash (ik prog w) ks)).length=done.length + (rem t.mask N p).length:=by rw [hway,List.length_append]
   unfold way at h2
   unfold turns
   omega
  obtain ⟨pre,j,post,erem,hpre,hcase⟩:=go_spec (hashAt:=fun i=>(es[i]?.map (·.1)).getD 0) (h:=tupleKeyHash (ik prog w) ks) hnd (10*turns t.mask) N p hlen2 hpd ⟨j0,hj0w,e0⟩
  have hpre':∀ x∈pre,∃ q∈ps,q.1=x/\∀ c,q.2.2=.ref c->¬ IsTupleKey (ik prog w) s.heap ks c:=fun x hx=>by
   obtain ⟨i,hs,hne⟩:=hpre x hx
   rcases slot_of T.ris' T.dum x with ⟨e,_⟩ | ⟨i',hi',e,e'⟩
   ·rw [e] at hs;exact nomatch hs
   ·rw [e] at hs
    obtain rfl:i'=i:=by injection hs
    have hi2:i' < ps.length:=by rw [<-T.psz];exact hi'
    have hpe:ps[i'].1=x:=by
     rw [<-e']
     have:=T.pl
     have h3:t.place.toList[i']?=(ps.map (·.1))[i']?:=by rw [this]
     simpa [hi',hi2] using h3.symm
    refine ⟨ps[i'],List.getElem_mem hi2,hpe,fun c hc hkc=>hne ?_⟩
    obtain ⟨m,hm,em⟩:=hmemb ps[i'] (List.getElem_mem hi2)
    rw [em] at hc
    obtain rfl:m.1=c:=by injection hc
    have hkm:=(H.key m hm).inj hkc
    have h4:es[i']?=some ps[i'].2:=by
     have:es.toList[i']?=(ps.map (·.2))[i']?:=by rw [T.en]
     simpa [hi2] using this
    rw [h4,em,hkm];rfl
  generalize hpr:t.probe _ (tupleKeyHash (ik prog w) ks) (stand.getD _)=pr
  rw [hst] at hpr
  rcases hcase with ⟨hs,hgo⟩ | ⟨i,N',p',hs,hh,hgo,erem',hpd'⟩
  ·obtain rfl:pr=some (.empty j none):=hpr.symm.trans hgo
   have hjn:j ∉ ps.map (·.1):=by
    rcases slot_of T.ris' T.dum j with ⟨_,hn⟩ | ⟨i,hi,e',_⟩
    ·rw [<-T.pl];exact hn
    ·rw [hs] at e';exact nomatch e'
   have hall:∀ x∈done++pre,∃ q∈ps,q.1=x/\∀ c,q.2.2=.ref c->¬ IsTupleKey (ik prog w) s.heap ks c:=fun x hx=>by
    rcases List.mem_append.mp hx with hx | hx
    ·exact hdone x hx
    ·exact hpre' x hx
   have ecut:way t.mask (tupleKeyHash (ik prog w) ks)=(done++pre)++j::post:=by rw [hway,erem,List.append_assoc]
   refine wpAny_pure (hout (fun hin'=>?_) j (done++pre) post ecut (fun x hx=>?_) hjn)
   ·obtain ⟨m,hm,ek⟩:=List.mem_map.mp hin'
    have he:(tupleKeyHash (ik prog w) m.2,Value.ref m.1)∈es.toList:=H.pm.mem_iff.mpr (List.mem_map.mpr ⟨m,hm,rfl⟩)
    rw [T.en] at he
    obtain ⟨q,hq,eq⟩:=List.mem_map.mp he
    obtain ⟨pre',post',ew,hp'⟩:=T.reach q hq
    have eq1:q.2.1=tupleKeyHash (ik prog w) ks:=by rw [eq,ek]
    rw [eq1,ecut] at ew
    rcases two_cuts ew with h | h | h
    ·obtain ⟨q',hq',e1,h1⟩:=hall _ h
     have:q'=q:=by
      have hnd:=T.ris.imp (fun h=>Nat.ne_of_lt h)
      obtain ⟨i1,hi1,rfl⟩:=List.getElem_of_mem hq'
      obtain ⟨i2,hi2,rfl⟩:=List.getElem_of_mem hq
      have:i1=i2:=by
       have h5:=List.pairwise_iff_getElem.mp T.ris
       rcases Nat.lt_trichotomy i1 i2 with h6 | h6 | h6
       ·have:=h5 i1 i2 (by simpa using hi1) (by simpa using hi2) h6
        simp only [List.getElem_map] at this;omega
       ·exact h6
       ·have:=h5 i2 i1 (by simpa using hi2) (by simpa using hi1) h6
        simp only [List.getElem_map] at this;omega
      subst this;rfl
     subst this
     exact h1 m.1 (by rw [eq]) (ek ▸ H.key m hm)
    ·exact hjn (h ▸ List.mem_map.mpr ⟨q,hq,rfl⟩)
    ·exact hjn (hp' j h)
   ·obtain ⟨q,hq,e,_⟩:=hall x hx
    exact List.mem_map.mpr ⟨q,hq,e⟩
  ·obtain rfl:pr=some (.candidate j i p'):=hpr.symm.trans hgo
   dsimp only
   -- the entry
   obtain ⟨i',hi',es1,ej⟩:∃ i',∃ hi:i' < t.place.size,t.slot j=.live i'/\t.place[i']=j:=by
    rcases slot_of T.ris' T.dum j with ⟨e,_⟩ | r
    ·rw [e] at hs;exact nomatch hs
    ·exact r
   rw [hs] at es1
   obtain rfl:i=i':=by injection es1
   have hi2:i < ps.length:=by rw [<-T.psz];exact hi'
   have hpe:ps[i].1=j:=by
    rw [<-ej]
    have h3:t.place.toList[i]?=(ps.map (·.1))[i]?:=by rw [T.pl]
    simpa [hi',hi2] using h3.symm
   have h4:es[i]?=some ps[i].2:=by
    have:es.toList[i]?=(ps.map (·.2))[i]?:=by rw [T.en]
    simpa [hi2] using this
   obtain ⟨m,hm,em⟩:=hmemb ps[i] (List.getElem_mem hi2)
   rw [em] at h4
   have hseen:∀ v∈(es.filter (·.1 == tupleKeyHash (ik prog w) ks)).toList.map (·.2),∃ c ks',v=.ref c/\IsTupleKey (ik prog w) s.heap ks' c:=fun v hv=>by
    obtain ⟨e,he,rfl⟩:=List.mem_map.mp hv
    have he2:e∈es.toList:=by
     have:=Array.mem_toList_iff.mp he
     exact Array.mem_toList_iff.mpr (Array.mem_filter.mp this).1
    obtain ⟨m',hm',em'⟩:=List.mem_map.mp (H.pm.mem_iff.mp he2)
    exact ⟨m'.1,m'.2,by rw [<-em'],H.key m' hm'⟩
   refine wpAny_ite_split (fun _=>wpAny_bind (wp_couldBeSeen hk hseen ?_)) (fun _=>?_)
   all_goals try simp only [Bool.false_eq_true,if_false]
   all_goals rw [h4]
   all_goals dsimp only
   all_goals refine wpAny_bind (wpAny_holding (wpAny_eqBool_tuple hu (H.key m hm) hk ?_))
   all_goals refine wpAny_bind (wpAny_setState_of ho hd hf ?_)
   all_goals by_cases hkk:m.2=ks
   all_goals try (
    rw [decide_eq_true hkk]
    simp only [Bool.and_self,if_true]
    exact wpAny_pure (hin (List.mem_map.mpr ⟨m,hm,hkk⟩)))
   all_goals rw [decide_eq_false hkk]
   all_goals simp only [Bool.and_false,Bool.false_eq_true,if_false,sameMemory,beq_self_eq_true,if_true]
   all_goals rw [hs]
   all_goals dsimp only
   all_goals rw [h4]
   all_goals dsimp only
   all_goals refine wpAny_bind (wpAny_isSame_ref_self ?_)
   all_goals simp only [if_true]
   all_goals refine wpAny_bind (wpAny_pure ?_)
   all_goals dsimp only
   all_goals (
    refine ih N' p' (some p') (done++pre++[j]) rfl hpd' (by rw [erem',hway,erem];simp) ?_ ?_
    ·rw [erem']
     have:(rem t.mask N p).length=pre.length + (post.length + 1):=by rw [erem];simp
     omega
    ·intro x hx
     rcases List.mem_append.mp hx with hx | hx
     ·rcases List.mem_append.mp hx with hx | hx
      ·exact hdone x hx
      ·exact hpre' x hx
     ·obtain rfl:=List.mem_singleton.mp hx
      refine ⟨ps[i],List.getElem_mem hi2,hpe,fun c hc hkc=>?_⟩
      rw [em] at hc
      obtain rfl:m.1=c:=by injection hc
      exact hkk ((H.key m hm).inj hkc))
end
end ST
namespace ST
open PySem PySem.SetTable
def SetTup (prog:Program) (w:World) (h:Heap) (a:Addr) (ms:List (Addr × List Int)):Prop:=
 ∃ o es ep t ps,h.get? a=some o/\o.ExactSet/\o.data=.set es ep t/\Tab t es ps/\Room t.mask ps.length/\Holds prog w h es ms/\t.plain=true/\t.led=!(w.params.followText "set-order")
theorem Room.le {mask n:Nat} (r:Room mask n):n<=mask:=by
 rcases r with ⟨e,h⟩ | ⟨e,h⟩ | ⟨e,h⟩ <;> omega
section
variable {prog:Program} {w:World} {A:Around} {E:Value->Shared->Prop} {s:Shared}
theorem key_keep {h h':Heap} {a c:Addr} {ks:List Int} {o:Obj} {es:Array (Int × Value)} {ep:Nat} {t:SetTable} (x:IsTupleKey (ik prog w) h ks c) (ho:h.get? a=some o) (hd:o.data=.set es ep t)
  (hs:Heap.SameBut a h h'):IsTupleKey (ik prog w) h' ks c:=by
 obtain ⟨o',items,n,ho',hc,hd',hi⟩:=x
 have hne:c ≠ a:=by
  rintro rfl
  obtain rfl:o'=o:=Option.some.inj (ho'.symm.trans ho)
  rw [hd] at hd';exact nomatch hd'
 exact ⟨o',items,n,(hs.2 c hne).trans ho',hc,hd',hi⟩
theorem Holds.len {h:Heap} {es:Array (Int × Value)} {ms:List (Addr × List Int)} (H:Holds prog w h es ms):es.size=ms.length:=by
 rw [<-Array.length_toList,H.pm.length_eq,List.length_map]
def addTo (ms:List (Addr × List Int)) (b:Addr) (ks:List Int):List (Addr × List Int):=if ks∈ms.map (·.2) then ms else ms++[(b,ks)]
theorem wp_add {a b:Addr} {ks:List Int} {ms:List (Addr × List Int)} {Q:Bool->Shared->Prop} (hu:A.units < cLine) (hS:SetTup prog w s.heap a ms) (hk:IsTupleKey (ik prog w) s.heap ks b) (hroom:ms.length < 76)
  (h:∀ h' r,Heap.SameBut a s.heap h'->SetTup prog w h' a (addTo ms b ks)->Q r { s with heap:=h' }) :
  wpAny (model prog w) A (setAddHashed a (.ref b) (tupleKeyHash (ik prog w) ks)) Q E s:=by
 obtain ⟨o,es,ep,t,ps,ho,hex,hd,T,R,H,hpl,hled⟩:=id hS
 have hf:=T.fits R.le
 have hlen:ps.length=ms.length:=by rw [<-T.esz,H.len]
 unfold setAddHashed setAddHashedIn
 refine wpAny_holding (wpAny_bind (wpAny_setState_of ho hd hf ?_))
 dsimp only
 rw [if_neg (by simp [byScan,Value.scannable])]
 refine wpAny_bind ?_
 unfold setSearch
 refine wp_search hu ho hd T R.le H hk (fun hin=>?_) (fun hout j pre post ew hpre hj=>?_) 100000 (t.mask + 13) _ none [] rfl rfl (by rw [Option.getD_none,rem_way,List.nil_append]) ?_ (fun x hx=>absurd hx List.not_mem_nil)
 ·refine wpAny_pure ?_
  have e:s={ s with heap:=s.heap }:=by cases s;rfl
  rw [e]
  exact h s.heap false (Heap.SameBut.refl a s.heap) (by unfold addTo;rw [if_pos hin];exact hS)
 ·dsimp only
  refine wpAny_bind (wpAny_setState_of ho hd hf ?_)
  dsimp only
  have hj':j<=t.mask:=way_le (h:=tupleKeyHash (ik prog w) ks) (by rw [ew];simp)
  have T1:=T.put (e:=(tupleKeyHash (ik prog w) ks,Value.ref b)) hj' hj ⟨pre,post,ew,hpre⟩
  have hpl1:(t.put j).1.plain=true:=hpl
  rw [if_pos hpl1]
  refine wpAny_bind (wp_hashByValue 7 hk ?_)
  simp only [if_true]
  have hn1:ps.length + 1<=(t.put j).1.mask:=by
   show ps.length + 1<=t.mask
   rcases R with ⟨e,h⟩ | ⟨e,h⟩ | ⟨e,h⟩ <;> omega
  generalize hps1:ps.take (t.put j).2++(j,(tupleKeyHash (ik prog w) ks,Value.ref b))::ps.drop (t.put j).2=ps1 at T1
  generalize hes1:insertAt es (t.put j).2 (tupleKeyHash (ik prog w) ks,Value.ref b)=es1 at T1 ⊢
  have hl1:ps1.length=ps.length + 1:=by
   rw [<-hps1]
   have:=congrArg List.length (List.take_append_drop (t.put j).2 ps)
   simp only [List.length_append,List.length_cons] at this ⊢
   omega
  have hpm1:List.Perm es1.toList (addTo ms b ks |>.map fun m=>(tupleKeyHash (ik prog w) m.2,Value.ref m.1)):=by
   unfold addTo
   rw [if_neg hout,<-hes1,List.map_append]
   refine (SetTable.insertAt_perm _ _ _).trans ?_
   rw [Array.toList_push]
   exact H.pm.append_right _
  have hnd1:((addTo ms b ks).map (·.2)).Nodup:=by
   unfold addTo
   rw [if_neg hout,List.map_append,List.nodup_append]
   refine ⟨H.nd,by simp,fun x hx y hy=>?_⟩
   obtain rfl:y=ks:=by simpa using hy
   exact fun e=>hout (e ▸ hx)
  have hkey1:∀ m∈addTo ms b ks,IsTupleKey (ik prog w) s.heap m.2 m.1:=by
   unfold addTo
   rw [if_neg hout]
   intro m hm
   rcases List.mem_append.mp hm with hm | hm
   ·exact H.key m hm
   ·obtain rfl:=List.mem_singleton.mp hm;exact hk
  have hfin1:(t.put j).1.fits es1.size=true:=T1.fits (by rw [hl1];exact hn1)
  have hes1z:es1.size<=sizeLine:=by
   rw [T1.esz,hl1]
   have:sizeLine=16777216:=sizeLine_eq
   have h0:ps.length=ms.length:=hlen
   omega
  refine wpAny_bind (wpAny_storeSet_of ho hd ?_ hes1z)
  have hsb1:=Heap.SameBut.update s.heap a (Obj.putSet es1 (t.put j).1)
  have hg1:(s.heap.update a (Obj.putSet es1 (t.put j).1)).get? a=some { o with data:=.set es1 (ep + 1) (t.put j).1 }:=by
   have:=Heap.get?_update_self (Obj.putSet es1 (t.put j).1) ho (by rw [putSet_of es1 (t.put j).1 hd];rfl)
   rw [putSet_of es1 (t.put j).1 hd] at this;exact this
  have hfill:(t.put j).1.fill=ps.length + 1:=by
   show (t.put j).1.place.size + (t.put j).1.dummies.size=_
   rw [T1.psz,T1.dum,hl1];rfl
  have hmask:(t.put j).1.mask=t.mask:=rfl
  refine wpAny_ite_split (fun hfull=>?_) (fun hfull=>?_)
  ·simp only [Bool.not_false,Bool.true_and,tooFull,hfill,hmask,ge_iff_le,decide_eq_true_eq] at hfull
   obtain ⟨mk,hmk,okm,hroom'⟩:∃ mk,sizeAbove (grown (es.size + 1))=mk + 1/\okM mk/\Room mk (ps.length + 1):=by
    rw [T.esz]
    rcases R with ⟨e,h⟩ | ⟨e,h⟩ | ⟨e,h⟩
    ·have e4:ps.length=4:=by omega
     rw [e4]
     exact ⟨31,by decide,.inr (.inl rfl),.inr (.inl ⟨rfl,by decide⟩)⟩
    ·have e4:ps.length=18:=by omega
     rw [e4]
     exact ⟨127,by decide,.inr (.inr rfl),.inr (.inr ⟨rfl,by decide⟩)⟩
    ·omega
   refine wpAny_bind ?_
   unfold setRelay
   refine wpAny_bind (wpAny_setState_of hg1 rfl hfin1 ?_)
   dsimp only
   have hm128:mk<=127:=by rcases okm with e | e | e <;> omega
   rw [hmk,if_neg (by rw [sizeLine_eq];omega)]
   obtain ⟨t2,order,ps2,el,T2,em2,el2,epl2,hpm2⟩:=laid_ok (finger:=(t.put j).1.finger) (moves:=(t.put j).1.movedTo mk) (led:=(t.put j).1.led) (plain:=(t.put j).1.plain) okm es1 (by rw [T1.esz,hl1];have:=hroom'.le;omega)
   have erl:(t.put j).1.relaid (es1.map (·.1)) (grown (es.size + 1))=some (t2,order):=by
    unfold relaid
    rw [hmk,Nat.add_sub_cancel];exact el
   rw [erl]
   generalize hes2:order.filterMap (es1[·]?)=es2 at T2 hpm2
   have hsz2:es2.size=es1.size:=by rw [<-Array.length_toList,hpm2.length_eq,Array.length_toList]
   have hl2:ps2.length=ps.length + 1:=by rw [<-T2.esz,hsz2,T1.esz,hl1]
   refine wpAny_bind ?_
   show wpAny (model prog w) A (if ((order.filterMap (es1[·]?)).size != es1.size)=true then _ else _) _ _ _
   rw [hes2,if_neg (by rw [hsz2];simp)]
   refine wpAny_pure ?_
   dsimp only
   refine wpAny_storeSet_of (s:={ s with heap:=s.heap.update a (Obj.putSet es1 (t.put j).1) }) hg1 rfl ?_ (by rw [hsz2];exact hes1z)
   have hsb2:=hsb1.trans (Heap.SameBut.update (s.heap.update a (Obj.putSet es1 (t.put j).1)) a (Obj.putSet es2 t2))
   have hg2:((s.heap.update a (Obj.putSet es1 (t.put j).1)).update a (Obj.putSet es2 t2)).get? a=some { o with data:=.set es2 (ep + 1 + 1) t2 }:=by
    have:=Heap.get?_update_self (Obj.putSet es2 t2) hg1 (by rw [putSet_of es2 t2 rfl];rfl)
    rw [putSet_of es2 t2 rfl] at this;exact this
   refine wpAny_pure (h _ true hsb2 ⟨_,es2,ep + 1 + 1,t2,ps2,hg2,hex,rfl,T2,by rw [em2,hl2];exact hroom',⟨hpm2.trans hpm1,fun m hm=>key_keep (hkey1 m hm) ho hd hsb2,hnd1⟩,by rw [epl2];exact hpl,by rw [el2];exact hled⟩)
  ·refine wpAny_pure (h _ true hsb1 ⟨_,es1,ep + 1,(t.put j).1,ps1,hg1,hex,rfl,T1,?_,⟨hpm1,fun m hm=>key_keep (hkey1 m hm) ho hd hsb1,hnd1⟩,hpl,hled⟩)
   rw [hl1,hmask]
   simp only [Bool.not_false,Bool.true_and,tooFull,hfill,hmask,ge_iff_le,decide_eq_true_eq] at hfull
   rcases R with ⟨e,h⟩ | ⟨e,h⟩ | ⟨e,h⟩
   ·left;omega
   ·right;left;omega
   ·right;right;omega
 ·rw [Option.getD_none,rem_way]
  unfold way
  have h1:=line_length t.mask (t.mask + 14) (bits (tupleKeyHash (ik prog w) ks) % (t.mask + 1)) (bits (tupleKeyHash (ik prog w) ks))
  rcases T.ok with e | e | e <;> rw [e] at h1 ⊢ <;> omega
end
end ST
set_option maxHeartbeats 3200000
namespace ST
open PySem PySem.SetTable
def met (km:Nat->Addr × List Int) (i:Nat):List (Addr × List Int):=((List.range i).map km).foldl (fun ms m=>addTo ms m.1 m.2) []
theorem met_succ (km:Nat->Addr × List Int) (i:Nat):met km (i + 1)=addTo (met km i) (km i).1 (km i).2:=by
 unfold met;rw [List.range_succ,List.map_append,List.foldl_append];rfl
theorem met_len (km:Nat->Addr × List Int):∀ i,(met km i).length<=i
 | 0=>by simp [met]
 | i + 1=>by
  have:=met_len km i
  rw [met_succ];unfold addTo
  split
  ·omega
  ·simp;omega
theorem met_of (km:Nat->Addr × List Int):∀ i m,m∈met km i->∃ k,k < i/\m=km k
 | 0,m,h=>by simp [met] at h
 | i + 1,m,h=>by
  rw [met_succ] at h;unfold addTo at h
  split at h
  ·obtain ⟨k,hk,e⟩:=met_of km i m h;exact ⟨k,by omega,e⟩
  ·rcases List.mem_append.mp h with h | h
   ·obtain ⟨k,hk,e⟩:=met_of km i m h;exact ⟨k,by omega,e⟩
   ·exact ⟨i,by omega,by simpa using h⟩
theorem met_has (km:Nat->Addr × List Int):∀ i k,k < i->(km k).2∈(met km i).map (·.2)
 | 0,k,h=>by omega
 | i + 1,k,h=>by
  rw [met_succ];unfold addTo
  rcases Nat.lt_or_ge k i with hk | hk
  ·have:=met_has km i k hk
   split
   ·exact this
   ·rw [List.map_append];exact List.mem_append_left _ this
  ·have:k=i:=by omega
   subst this
   split
   ·assumption
   ·simp
section
variable {prog:Program} {w:World} {A:Around} {E:Value->Shared->Prop} {s:Shared}
theorem SetTup.kept {h h':Heap} {a:Addr} {ms:List (Addr × List Int)} (S:SetTup prog w h a ms) (ka:∀ o,h.get? a=some o->h'.get? a=some o)
  (km:∀ m∈ms,∀ o,h.get? m.1=some o->h'.get? m.1=some o):SetTup prog w h' a ms:=by
 obtain ⟨o,es,ep,t,ps,ho,hex,hd,T,R,H,r⟩:=S
 refine ⟨o,es,ep,t,ps,ka o ho,hex,hd,T,R,⟨H.pm,fun m hm=>?_,H.nd⟩,r⟩
 obtain ⟨o',items,n,ho',x⟩:=H.key m hm
 exact ⟨o',items,n,km m hm o' ho',x⟩
theorem loop_tup {R:Result->Shared->Prop} {I:Addr} {fp wr:List Addr} {G:Array GenState->Array GenState->Prop} {n:Nat} {P:Nat->Value->Prop} {St:Nat->Shared->Prop}
  (W:WalksS prog w A.in1 I fp wr G n P St) (S:Addr) (hSf:S ∉ fp) (km:Nat->Addr × List Int) (hval:∀ i v,P i v->v=.ref (km i).1) (hnw:∀ i,i < n->(km i).1 ∉ S::wr) (hn:n<=76) (hu:A.in1.units < cLine) :
  ∀ (k i:Nat) (s:Shared),n - i=k->i<=n->St i s->(∀ i,i < n->IsTupleKey (ik prog w) s.heap (km i).2 (km i).1)->SetTup prog w s.heap S (met km i) →
   (∀ s',Moved (S::wr) G s s'->SetTup prog w s'.heap S (met km n)->R (.ok (.ret .none)) s') →
   codeAny (model prog w) A (.builtin "set.update.loop" ⟨[.ref S,.ref I],[]⟩) R s:=by
 have hSw:S ∉ wr:=fun h=>hSf (W.sub _ h)
 have hup:∀ b∈wr,b∈S::wr:=fun b hb=>List.mem_cons_of_mem _ hb
 have mv:∀ {s s':Shared} (i:Nat),i<=n->Moved wr G s s'->SetTup prog w s.heap S (met km i)->SetTup prog w s'.heap S (met km i):=fun i hi hm hS=>
  hS.kept (fun o e=>hm.heap S o hSw e) fun m hmem o e=>by
   obtain ⟨k,hk,rfl⟩:=met_of km i m hmem
   exact hm.heap _ o (fun hw=>hnw k (by omega) (List.mem_cons_of_mem _ hw)) e
 intro k
 induction k with
 | zero=>
  intro i s hk hi hst hkey hS hR
  obtain rfl:i=n:=by omega
  refine codeAny_builtin PyProof.Rows.F.entry_set_update_loop ?_
  rw [Around.under_plainId PyProof.Rows.F.plain_set_update_loop _]
  show wpAny _ A.in1 (pyNext (.ref I) >>= _) _ _ s
  refine wpAny_bind (W.done s _ _ hst fun s' hm=>?_)
  show wpAny _ A.in1 (ret Value.none) _ _ s'
  exact wpAny_pure (hR s' (hm.mono hup) (mv i (Nat.le_refl _) hm hS))
 | succ k ih=>
  intro i s hk hi hst hkey hS hR
  have hlt:i < n:=by omega
  refine codeAny_builtin PyProof.Rows.F.entry_set_update_loop ?_
  rw [Around.under_plainId PyProof.Rows.F.plain_set_update_loop _]
  show wpAny _ A.in1 (pyNext (.ref I) >>= _) _ _ s
  refine wpAny_bind (W.item i s _ _ hlt hst fun v s1 hP hst1 hm=>?_)
  obtain rfl:=hval i v hP
  have hS1:=mv i hi hm hS
  have hkey1:∀ i,i < n->IsTupleKey (ik prog w) s1.heap (km i).2 (km i).1:=fun i hi=>by
   obtain ⟨o',items,m',ho',x⟩:=hkey i hi
   exact ⟨o',items,m',hm.heap _ o' (fun hw=>hnw i hi (List.mem_cons_of_mem _ hw)) ho',x⟩
  show wpAny _ A.in1 (holding [Value.ref (km i).1] (setAdd S (.ref (km i).1)) >>= _) _ _ s1
  refine wpAny_bind (wpAny_holding ?_)
  unfold setAdd
  refine wpAny_holding (wpAny_bind (wpAny_pyHash_tuple hu (hkey1 i hlt) ?_))
  refine wp_add (s:={ s1 with toks:=s1.toks + ((km i).2.length + 1) }) hu hS1 (hkey1 i hlt) (Nat.lt_of_le_of_lt (met_len km i) (by omega)) fun h' r hsb hS2=>?_
  rw [<-met_succ] at hS2
  have hoff:∀ b o,b ≠ S->s1.heap.get? b=some o->h'.get? b=some o:=fun b o hb e=>(hsb.2 b hb).trans e
  refine wpAny_pure ⟨plainId_quiet PyProof.Rows.F.plain_set_update_loop _,ih (i + 1) _ (by omega) hlt (W.frame _ s1 h' _ hst1 (Nat.le_add_right _ _) fun b hb o e=>hoff b o (fun hh:b=S=>hSf (hh ▸ hb)) e) (fun i hi=>?_) hS2 fun s2 hm2 hS3=>?_⟩
  ·obtain ⟨o',items,m',ho',x⟩:=hkey1 i hi
   exact ⟨o',items,m',hoff _ o' (fun hh=>hnw i hi (hh ▸ List.mem_cons_self)) ho',x⟩
  ·refine hR s2 (Moved.trans W.gtrans ((hm.mono hup).then_heap (Nat.le_add_right _ _) fun b o hb e=>?_) hm2) hS3
   exact hoff b o (fun hh=>hb (hh ▸ List.mem_cons_self)) e
theorem code_new_set (a:Value) {Q1:Value->Shared->Prop}
  (h:Q1 (.ref s.heap.objs.size) { s with heap:=s.heap.push { cls:=.type "set",dict:=none,data:=.set #[] 0 (.fresh 0 0 (!(w.params.followText "set-order"))) } }) :
  codeAny (model prog w) A (.call (.builtin "set.__new__") ⟨[.type "set",a],[]⟩) (wants Q1 E) s:=by
 refine codeAny_of_tree ?_
 show wpAny _ A.in1 (checkBuiltinCall "set.__new__" ⟨[.type "set",a],[]⟩ >>= fun _=>again (.builtin "set.__new__" ⟨[.type "set",a],[]⟩)) _ _ s
 refine wpAny_bind (wpAny_of_eq (F.newCall_set_1 a) (wpAny_pure ⟨plainId_quiet F.plain_set_new _,codeAny_builtin F.entry_set_new ?_⟩))
 rw [Around.under_plainId F.plain_set_new _]
 unfold Builtin.«set.__new__» Builtin.Frozenset.newClass
 have hsub:=sub_set_self
 obtain ⟨hp,g,d,tk,os⟩:=s
 dsimp only
 wp_walk
 refine wpAny_askSetting (wpAny_pure ?_)
 dsimp only
 simp only [newObj]
 refine wpAny_bind (wpAny_alloc (wpAny_pure ?_))
 exact wpAny_pure h
theorem fresh_tup {h:Heap} {a:Addr} (ho:h.get? a=some { cls:=.type "set",dict:=none,data:=.set #[] 0 (.fresh 0 0 (!(w.params.followText "set-order"))) }):SetTup prog w h a []:=
 ⟨_,#[],0,_,[],ho,⟨rfl,rfl,rfl⟩,rfl,⟨rfl,rfl,.nil,fun q hq=>absurd hq List.not_mem_nil,rfl,.inl rfl,fun q hq=>absurd hq List.not_mem_nil⟩,.inl ⟨rfl,by decide⟩,
  ⟨.refl _,fun m hm=>absurd hm List.not_mem_nil,.nil⟩,rfl,rfl⟩
theorem call_set_tup {l:Addr} {items:Array Value} {km:Nat->Addr × List Int} {Q:Value->Shared->Prop}
  (hh:A.handled=none) (hu:A.units + 10 < cLine) (hl:s.heap.IsList l items) (hv:∀ (i:Nat) (v:Value),items[i]?=some v->v=.ref (km i).1) (hkey:∀ i,i < items.size->IsTupleKey (ik prog w) s.heap (km i).2 (km i).1) (hn:items.size<=76)
  (h:∀ (h':Heap) (tk:Nat),SetTup prog w h' s.heap.objs.size (met km items.size)->(∀ b o,b < s.heap.objs.size->s.heap.get? b=some o->h'.get? b=some o)->Q (.ref s.heap.objs.size) { s with heap:=h',toks:=tk }) :
  wpAny (model prog w) A (call (.type "set") [.ref l]) Q E s:=by
 obtain ⟨c,tl,hmro⟩:=F.called_set.mro
 have hmade:=F.called_set.made
 have hsub:=F.called_set.sub
 refine wpAny_call (codeAny_of_tree ?_)
 show wpAny _ _ (callAny (.type "set") _) _ _ _
 refine wpAny_pure ⟨Code.quiet_builtin _ (by decide +kernel),codeAny_builtin F.entry_type_call ?_⟩
 rw [Around.under_plain (weight_type_call_type "set" [.ref l] []) rfl]
 have h1:=F.called_set.notType
 have h2:=F.called_set.canCreate
 have hct:=F.typeCall_set_1 (.ref l)
 repeat (any_goals (first | assumption | wp_step))
 generalize hob:({ cls:=.type "set",dict:=none,data:=.set #[] 0 (.fresh 0 0 (!(w.params.followText "set-order"))) }:Obj)=ob
 refine codeAny_mono (code_new_set (.ref l) (E:=E) (Q1:=fun v s1=>v=.ref s.heap.objs.size/\s1={ s with heap:=s.heap.push ob }) (hob ▸ ⟨rfl,rfl⟩)) fun r s1 hr=>?_
 cases r with
 | error e=>exact hr
 | ok fl=>
  cases fl with
  | ret v=>
   obtain ⟨rfl,rfl⟩:=hr
   have hS:(s.heap.push ob).get? s.heap.objs.size=some ob:=Heap.get?_push_size _ (by rw [<-hob];rfl)
   have hT:Shared.TypeIs { s with heap:=s.heap.push ob } (.ref s.heap.objs.size) "set":=⟨_,hS,by rw [<-hob]⟩
   have hli:=F.called_set.init.lookup
   have hbi:=F.called_set.init.bind (.ref s.heap.objs.size)
   repeat (any_goals (first | assumption | wp_step))
   refine codeAny_mono (codeAny_call_builtin (R:=wants (fun r s2=>r=.none/\∃ h' tk,s2={ s with heap:=h',toks:=tk }/\SetTup prog w h' s.heap.objs.size (met km items.size) ∧
     (∀ b o,b < s.heap.objs.size->s.heap.get? b=some o->h'.get? b=some o)) E) F.called_set.init.plain F.entry_set_init (check_set_init_1 hT ?_)) fun r2 s2 hr2=>?_
   ·obtain ⟨ol,hol,hcl,nl,hdl⟩:=id hl
    obtain ⟨ocls,odict,odata,oslots⟩:=ol
    simp only at hcl hdl
    subst hcl;subst hdl
    have hol':(s.heap.push ob).get? l=some { cls:=.type "list",dict:=odict,data:=.seq items nl,slots:=oslots }:=Heap.get?_push_of_some _ hol
    have hsls:=F.sub_list_set
    have hslf:=F.sub_list_frozenset
    have hne:(Value.type "list" == Value.type "dict")=false:=by decide
    have hl1:(s.heap.push ob).IsList l items:=⟨_,hol',rfl,nl,rfl⟩
    subst hob
    unfold Builtin.«set.__init__» noKeywords Builtin.Frozenset.updateFrom
    generalize hPI:pyIter=PI
    wp_walk
    subst hPI
    refine wpAny_pyIter_list hl1 ?_
    refine wpAny_bind (wpAny_runValue ?_)
    generalize hob:({ cls:=.type "set",dict:=none,data:=.set #[] 0 (.fresh 0 0 (!(w.params.followText "set-order"))) }:Obj)=ob at *
    have hlS:l < s.heap.objs.size:=Heap.lt_size hol
    have hsz:(s.heap.push ob).objs.size=s.heap.objs.size + 1:=by rw [Heap.size_push]
    have hneI:l ≠ (s.heap.push ob).objs.size:=by rw [hsz];exact Nat.ne_of_lt (Nat.lt_succ_of_lt hlS)
    have hSf:s.heap.objs.size ∉ [(s.heap.push ob).objs.size,l]:=by
     rw [hsz]
     intro hm
     rcases List.mem_cons.mp hm with e | hm
     ·exact Nat.ne_of_lt (Nat.lt_succ_self _) e
     ·exact Nat.ne_of_gt hlS (List.mem_singleton.mp hm)
    have off:∀ b:Nat,b < s.heap.objs.size->b ∉ s.heap.objs.size::[(s.heap.push ob).objs.size]:=fun b hb hm=>by
     rw [hsz] at hm
     rcases List.mem_cons.mp hm with e | hm
     ·exact Nat.ne_of_lt hb e
     ·exact Nat.ne_of_lt (Nat.lt_succ_of_lt hb) (List.mem_singleton.mp hm)
    have hnw:∀ i,i < items.size->(km i).1 ∉ s.heap.objs.size::[(s.heap.push ob).objs.size]:=fun i hi=>off _ (by
     obtain ⟨o',_,_,ho',_⟩:=hkey i hi
     exact Heap.lt_size ho')
    refine loop_tup ((Walks.list (by simp [hh]) _ l hneI items).toS) s.heap.objs.size hSf km hv hnw hn (by show A.units + 1 + 1 + 1 < cLine;omega) (items.size - 0) 0 _ (by omega) (Nat.zero_le _)
     ⟨⟨_,Heap.get?_push_size _ rfl,rfl,rfl⟩,(hl1.push _)⟩ (fun i hi=>?_) ?_ ?_
    ·obtain ⟨o',its',m',ho',x⟩:=hkey i hi
     exact ⟨o',its',m',Heap.get?_push_of_some _ (Heap.get?_push_of_some _ ho'),x⟩
    ·refine fresh_tup ?_
     rw [hob]
     exact Heap.get?_push_of_some _ hS
    ·intro s' hm hS'
     obtain ⟨h',g',d',tk',os'⟩:=s'
     have eg:g'=s.gens:=hm.gens
     have ed:d'=s.drawn:=hm.drawn
     have eo:os'=s.os:=hm.os
     subst eg;subst ed;subst eo
     show wpAny _ _ _ _ _ _
     refine wpAny_pure ?_
     show wpAny _ _ (ret Value.none) _ _ _
     refine wpAny_pure ⟨rfl,h',tk',rfl,hS',fun b o hb e=>?_⟩
     exact hm.heap b o (off b hb) (Heap.get?_push_of_some _ (Heap.get?_push_of_some _ e))
   ·cases r2 with
    | error e=>exact hr2
    | ok fl2=>
     cases fl2 with
     | ret r=>
      obtain ⟨rfl,h',tk,rfl,hS',hk'⟩:=hr2
      repeat (any_goals (first | assumption | wp_step))
      exact h _ _ hS' hk'
     | _=>exact hr2.elim
  | _=>exact hr.elim
end
end ST
set_option maxHeartbeats 3200000
namespace ST
open PySem PySem.SetTable
theorem erase_perm {α:Type}:∀ (l:List α) (i:Nat) (h:i < l.length),List.Perm (l[i]::l.eraseIdx i) l
 | [],i,h=>by simp at h
 | a::l,0,h=>by simp
 | a::l,i + 1,h=>by
  simp only [List.getElem_cons_succ,List.eraseIdx_cons_succ]
  exact (List.Perm.swap _ _ _).trans (List.Perm.cons a (erase_perm l i (by simpa using h)))
theorem pick_go {α:Type} (next:Nat->Nat):∀ (fuel k:Nat) (left:List α) (out:Array α),left.length=fuel->List.Perm (pickOrder.go next fuel k left out).toList (out.toList++left)
 | 0,k,left,out,h=>by
  have:left=[]:=List.length_eq_zero_iff.mp h
  subst this
  simp [pickOrder.go]
 | fuel + 1,k,left,out,h=>by
  have hi:next k % left.length < left.length:=Nat.mod_lt _ (by omega)
  simp only [pickOrder.go,List.getElem?_eq_getElem hi]
  refine (pick_go next fuel (k + 1) _ _ (by rw [List.length_eraseIdx_of_lt hi];omega)).trans ?_
  rw [Array.toList_push,List.append_assoc]
  exact List.Perm.append_left _ (erase_perm _ _ hi)
theorem pick_perm {α:Type} (next:Nat->Nat) (xs:Array α):List.Perm (pickOrder next xs).toList xs.toList:=by
 have:=pick_go next xs.size 0 xs.toList #[] (by simp)
 simpa [pickOrder] using this
def walkOf (w:World) (a:Addr) (ep:Nat) (es:Array (Int × Value)):List Value:=
 if w.params.followText "set-order"=true then (pickOrder (w.params.setOrder a ep) es).toList.map (·.2) else es.toList.map (·.2)
theorem walk_perm (w:World) (a:Addr) (ep:Nat) (es:Array (Int × Value)):List.Perm (walkOf w a ep es) (es.toList.map (·.2)):=by
 unfold walkOf
 split
 ·exact (pick_perm _ es).map _
 ·exact .refl _
theorem below_zero {xs:Array Nat} (ris:xs.toList.Pairwise (· < ·)):below xs 0=0:=by
 obtain ⟨h1,h2⟩:=below_ok 0 ris
 rcases Nat.eq_zero_or_pos (below xs 0) with h | h
 ·exact h
 ·have:=(h2 0 (by omega)).mp h
  omega
theorem below_next {xs:Array Nat} (ris:xs.toList.Pairwise (· < ·)) {i:Nat} (hi:i < xs.size):below xs (xs[i] + 1)=i + 1:=by
 obtain ⟨h1,h2⟩:=below_ok (xs[i] + 1) ris
 have mono:∀ a b (ha:a < xs.size) (hb:b < xs.size),a < b->xs[a] < xs[b]:=fun a b ha hb hab=>by
  have:=List.pairwise_iff_getElem.mp ris a b (by simpa using ha) (by simpa using hb) hab
  simpa using this
 rcases Nat.lt_trichotomy (below xs (xs[i] + 1)) (i + 1) with h | h | h
 ·have:=(h2 i hi).mpr (by omega)
  omega
 ·exact h
 ·have h3:=(h2 (i + 1) (by omega)).mp h
  have:=mono i (i + 1) hi (by omega) (by omega)
  omega
theorem slot_sit_next:Slot "set_iterator" "__next__" "set_iterator.__next__":=
 .of (owner:="set_iterator") (n:="__next__") (by rw [typeLookup_type,builtinLookup_eq_fast];kernel_rfl) (by decide +kernel) (by decide +kernel) (by decide +kernel)
  (by first | exact .inl (by decide +kernel) | exact .inr (by decide +kernel)) (by rw [isSubtype_type];kernel_rfl)
theorem entry_sit_next:entryFor table "set_iterator.__next__"=some Builtin.«set_iterator.__next__»:=entryFor_of_tree (by kernel_rfl)
theorem owner_sit:Manifest.owners.lookup (String.ofList ("set_iterator".toList.reverse).reverse)=some Manifest.sig_set_iterator:=by kernel_rfl
theorem args_sit_next (a:Value):argsOk "set_iterator.__next__" ⟨[a],[]⟩:=by
 unfold argsOk;rw [signature?_of (id:="set_iterator.__next__") (n:="__next__".toList.reverse) (o:="set_iterator".toList.reverse) (by kernel_rfl) owner_sit];kernel_rfl
theorem slot_sit_iter:Slot "set_iterator" "__iter__" "set_iterator.__iter__":=
 .of (owner:="set_iterator") (n:="__iter__") (by rw [typeLookup_type,builtinLookup_eq_fast];kernel_rfl) (by decide +kernel) (by decide +kernel) (by decide +kernel)
  (by first | exact .inl (by decide +kernel) | exact .inr (by decide +kernel)) (by rw [isSubtype_type];kernel_rfl)
theorem args_sit_iter (a:Value):argsOk "set_iterator.__iter__" ⟨[a],[]⟩:=by
 unfold argsOk;rw [signature?_of (id:="set_iterator.__iter__") (n:="__iter__".toList.reverse) (o:="set_iterator".toList.reverse) (by kernel_rfl) owner_sit];kernel_rfl
theorem entry_sit_iter:entryFor table "set_iterator.__iter__"=some Builtin.«dict_keyiterator.__iter__»:=
 entryFor_alias (id':="dict_keyiterator.__iter__") (by kernel_rfl) (by first | rfl | decide +kernel) (by decide +kernel) (by kernel_rfl)
theorem entry_set_iter:entryFor table "set.__iter__"=some Builtin.«frozenset.__iter__»:=
 entryFor_alias (id':="frozenset.__iter__") (by kernel_rfl) rfl (by decide +kernel) (by kernel_rfl)
structure Walked (w:World) (o:Obj) (es:Array (Int × Value)) (ep:Nat) (t:SetTable):Prop where
 ex:o.ExactSet
 dt:o.data=.set es ep t
 fit:t.fits es.size=true
 ris:t.place.toList.Pairwise (· < ·)
 pl:t.plain=true
 led:t.led=!(w.params.followText "set-order")
def IsSit (h:Heap) (I S:Addr) (sl i n ep:Nat):Prop:=∃ o,h.get? I=some o/\o.cls=.type "set_iterator"/\o.data=.fields #[rawInt sl,rawInt i,.ref S,rawInt n,rawInt ep]
section
variable {prog:Program} {w:World} {A:Around} {E:Value->Shared->Prop} {s:Shared} {o:Obj} {es:Array (Int × Value)} {ep:Nat} {t:SetTable} {S I:Addr}
theorem IsSit.typeIs {sl i n:Nat} (x:IsSit s.heap I S sl i n ep):s.TypeIs (.ref I) "set_iterator":=let ⟨o,ho,hc,_⟩:=x;⟨o,ho,hc⟩
theorem IsSit.at {h h':Heap} {sl i n:Nat} (x:IsSit h I S sl i n ep) (e:∀ o,h.get? I=some o->h'.get? I=some o):IsSit h' I S sl i n ep:=let ⟨o,ho,r⟩:=x;⟨o,e _ ho,r⟩
theorem wp_setNext {sl i:Nat} {Q:Option (Value × Nat)->Shared->Prop} (W:Walked w o es ep t) (ho:s.heap.get? S=some o)
  (hsl:w.params.followText "set-order"=false->below t.place sl=i)
  (hsome:∀ v sl',(walkOf w S ep es)[i]?=some v->(w.params.followText "set-order"=false->below t.place sl'=i + 1)->Q (some (v,sl')) s) (hnone:(walkOf w S ep es)[i]?=none->Q none s) :
  wpAny (model prog w) A (setNext S sl i ep) Q E s:=by
 unfold setNext
 refine wpAny_bind (wpAny_setState_of ho W.dt W.fit ?_)
 dsimp only
 unfold setsByText
 refine wpAny_bind (wpAny_bind (wpAny_askSetting (wpAny_pure ?_)))
 by_cases hb:w.params.followText "set-order"=true
 ·show wpAny _ _ (if w.params.followText "set-order"=true then _ else _) _ _ _
  rw [if_pos hb]
  rw [if_neg (by simp)]
  unfold setWalk
  refine wpAny_bind (wpAny_bind (wpAny_setState_of ho W.dt W.fit ?_))
  dsimp only
  unfold setsByText
  refine wpAny_bind (wpAny_bind (wpAny_askSetting (wpAny_pure ?_)))
  show wpAny _ _ (if w.params.followText "set-order"=true then _ else _) _ _ _
  rw [if_pos hb]
  refine wpAny_bind (wpAny_askSetting (wpAny_pure ?_))
  refine wpAny_pure ?_
  have ew:walkOf w S ep es=(pickOrder (w.params.setOrder S ep) es).toList.map (·.2):=by unfold walkOf;rw [if_pos hb]
  show Q (((pickOrder (w.params.setOrder S ep) es)[i]?).map fun e=>(e.2,sl)) s
  cases hp:(pickOrder (w.params.setOrder S ep) es)[i]? with
  | none=>
   have:=hnone (by rw [ew,List.getElem?_map,Array.getElem?_toList,hp];rfl)
   exact this
  | some e=>
   have:=hsome e.2 sl (by rw [ew,List.getElem?_map,Array.getElem?_toList,hp];rfl) (fun h=>by rw [hb] at h;exact nomatch h)
   exact this
 ·have hb':w.params.followText "set-order"=false:=by simpa using hb
  show wpAny _ _ (if w.params.followText "set-order"=true then _ else _) _ _ _
  rw [if_neg hb]
  show wpAny _ _ (if (!t.plain && decide (es.size > 1))=true then _ else _) _ _ _
  rw [if_neg (by simp [W.pl])]
  refine wpAny_bind ?_
  show wpAny _ _ (if (!t.led && !es.isEmpty)=true then _ else _) _ _ _
  rw [if_neg (by simp [W.led,hb'])]
  refine wpAny_pure ?_
  rw [hsl hb']
  refine wpAny_pure ?_
  have hps:t.place.size=es.size:=by
   have:=W.fit
   simp only [SetTable.fits,Bool.and_eq_true,beq_iff_eq] at this
   exact this.1
  have ew:walkOf w S ep es=es.toList.map (·.2):=by unfold walkOf;rw [if_neg hb]
  rcases Nat.lt_or_ge i es.size with hi | hi
  ·have hi':i < t.place.size:=by rw [hps];exact hi
   have:=hsome es[i].2 (t.place[i] + 1) (by rw [ew];simp [hi]) (fun _=>below_next W.ris hi')
   simpa [hi,hi'] using this
  ·have:=hnone (by rw [ew];simpa using hi)
   have hi':t.place.size<=i:=by rw [hps];exact hi
   simpa [Array.getElem?_eq_none hi,Array.getElem?_eq_none hi'] using this
theorem wp_sit_next {sl i:Nat} {Q:Option Value->Shared->Prop} (hh:A.handled=none) (W:Walked w o es ep t) (ho:s.heap.get? S=some o) (hne:S ≠ I)
  (hit:IsSit s.heap I S sl i es.size ep) (hsl:w.params.followText "set-order"=false->below t.place sl=i)
  (hsome:∀ v sl' h',(walkOf w S ep es)[i]?=some v->IsSit h' I S sl' (i + 1) es.size ep->(w.params.followText "set-order"=false->below t.place sl'=i + 1)->Heap.ExtBut I s.heap h'->Q (some v) { s with heap:=h' })
  (hnone:∀ h',(walkOf w S ep es)[i]?=none->Heap.ExtBut I s.heap h'->Q none { s with heap:=h' }) :
  wpAny (model prog w) A (pyNext (.ref I)) Q E s:=by
 obtain ⟨oI,hoI,hcI,hdI⟩:=id hit
 unfold pyNext
 refine wpAny_bind (wpAny_attempt (wpAny_callSpecial?_slot (name:=Str.ofString "__next__") hit.typeIs slot_sit_next
  (wpAny_call_entry slot_sit_next hit.typeIs entry_sit_next ?_ (args_sit_next _))))
 unfold Builtin.«set_iterator.__next__»
 refine wpAny_bind (wpAny_of_eq (a:=(Value.ref I,[])) rfl ?_)
 refine wpAny_bind (wpAny_fieldsOf hoI hdI ?_)
 simp only [rawInt,List.toList_toArray]
 refine wpAny_bind (wpAny_setEntries_of ho W.dt W.fit ?_)
 rw [if_neg (by simp)]
 simp only [Int.toNat_natCast]
 have hlI:∀ {h':Heap},Heap.SameBut I s.heap h'->h'.get? S=some o:=fun hs=>(hs.2 S hne).trans ho
 refine wpAny_bind (wp_setNext W ho hsl (fun v sl' hv hsl'=>?_) (fun hv=>?_))
 ·dsimp only
  refine wpAny_bind (wpAny_setField hoI hdI (by simp) ?_)
  have g1:=Heap.get?_update_self (Obj.mapFields (·.setIfInBounds 0 (Value.int (sl':Int) 0))) hoI (Obj.isFreed_of_fields (Obj.data_mapFields hdI _))
  have d1:=Obj.data_mapFields hdI (·.setIfInBounds 0 (Value.int (sl':Int) 0))
  refine wpAny_bind (wpAny_setField (s:={ s with heap:=s.heap.update I (Obj.mapFields (·.setIfInBounds 0 (Value.int (sl':Int) 0))) }) g1 d1 (by simp) ?_)
  refine wpAny_pure ⟨v,rfl,wpAny_pure (hsome v sl' _ hv ?_ hsl' ((Heap.SameBut.update ..).trans (Heap.SameBut.update ..)).extBut)⟩
  refine ⟨_,Heap.get?_update_self _ g1 (Obj.isFreed_of_fields (Obj.data_mapFields d1 _)),(Obj.cls_mapFields ..).trans ((Obj.cls_mapFields ..).trans hcI),?_⟩
  rw [Obj.data_mapFields d1]
  simp [rawInt]
 ·dsimp only
  refine wpAny_bind (wpAny_setField hoI hdI (by simp) ?_)
  show wpAny _ _ (newExc (.type "StopIteration") [] >>= _) _ _ _
  refine wpAny_bind ?_
  simp only [newExc,newTuple]
  refine wpAny_bind (wpAny_newObj_type ?_ (by size_fits))
  refine wpAny_bind (m:=firstArgMember _ _) (wpAny_of_eq (a:=Value.none) (by first | rfl | (simp only [firstArgMember];rfl)) ?_)
  refine wpAny_newObj_type ?_ (by size_fits)
  simp only [raiseNew]
  refine wpAny_bind (wpAny_handled ?_)
  rw [show A.in1.handled=none from hh]
  refine wpAny_bind (wpAny_pure (wpAny_throw ?_))
  refine wpAny_bind (wpAny_isInstance (T:="StopIteration") (b:=true) ⟨_,Heap.get?_push_size _ rfl,rfl⟩ isSubtype_stop ?_)
  exact wpAny_pure (hnone _ hv (((Heap.SameBut.update ..).extBut.push _).push _))
theorem wp_sit_iter {sl i n:Nat} {Q:Value->Shared->Prop} (hit:IsSit s.heap I S sl i n ep) (h:Q (.ref I) s):wpAny (model prog w) A (pyIter (.ref I)) Q E s:=by
 refine wpAny_pyIter_slot hit.typeIs slot_sit_iter (wpAny_call_entry slot_sit_iter hit.typeIs entry_sit_iter ?_ (args_sit_iter _))
 show wpAny _ _ (ret (.ref I)) _ _ s
 exact wpAny_pure ⟨_,rfl,"set_iterator",_,hit.typeIs,slot_sit_next.lookup,h⟩
theorem walk_len (W:Walked w o es ep t):(walkOf w S ep es).length=es.size:=by
 rw [(walk_perm w S ep es).length_eq,List.length_map,Array.length_toList]
theorem walks_set (hh:A.handled=none) (W:Walked w o es ep t) (hne:S ≠ I) :
  Walks prog w A I [I,S] [I] es.size (fun i v=>(walkOf w S ep es)[i]?=some v)
   (fun i h=>∃ sl,IsSit h I S sl i es.size ep/\(w.params.followText "set-order"=false->below t.place sl=i)/\h.get? S=some o) where
 sub:=fun b hb=>by simp at hb;simp [hb]
 frame:=fun _ _ _ ⟨sl,x1,x2,x3⟩ hk=>⟨sl,x1.at fun o e=>hk I (by simp) o e,x2,hk S (by simp) _ x3⟩
 item:=fun i s Q E hi ⟨sl,x1,x2,x3⟩ hQ=>by
  refine wp_sit_next hh W x3 hne x1 x2 (fun v sl' h' hv hit' hsl' he=>?_) (fun h' hv=>?_)
  ·exact hQ v h' s.toks hv ⟨sl',hit',hsl',he S o hne x3⟩ fun b o' hb e=>he b o' (fun h=>hb (by simp [h])) e
  ·rw [List.getElem?_eq_none_iff,walk_len W] at hv;omega
 done:=fun s Q E ⟨sl,x1,x2,x3⟩ hQ=>by
  refine wp_sit_next hh W x3 hne x1 x2 (fun v sl' h' hv hit' hsl' he=>?_) (fun h' hv he=>?_)
  ·have:=List.getElem?_eq_some_iff.mp hv
   obtain ⟨h1,_⟩:=this
   rw [walk_len W] at h1;omega
  ·exact hQ h' s.toks fun b o' hb e=>he b o' (fun h=>hb (by simp [h])) e
 self:=fun _ _ _ _ ⟨_,x1,_⟩ hQ=>wp_sit_iter x1 hQ
theorem wp_iter_set {Q:Value->Shared->Prop} (W:Walked w o es ep t) (ho:s.heap.get? S=some o)
  (hQ:Q (.ref s.heap.objs.size) { s with heap:=s.heap.push { cls:=.type "set_iterator",data:=.fields #[rawInt (0:Nat),rawInt (0:Nat),.ref S,rawInt es.size,rawInt ep] } }) :
  wpAny (model prog w) A (pyIter (.ref S)) Q E s:=by
 have hT:s.TypeIs (.ref S) "set":=⟨o,ho,W.ex.1⟩
 refine wpAny_pyIter_slot hT F.slot_set_iter (wpAny_call_entry F.slot_set_iter hT entry_set_iter ?_ (F.args_set_iter_1 _))
 unfold Builtin.«frozenset.__iter__» Builtin.Frozenset.slot0 slotArgs
 simp only [List.isEmpty_nil,Bool.not_true,Bool.false_eq_true,↓reduceIte,bind_assoc,List.length_nil,bne_self_eq_false]
 unfold Builtin.Frozenset.addrOf Builtin.Frozenset.sizeOf
 refine wpAny_bind (wpAny_pure ?_)
 try dsimp only
 refine wpAny_bind (wpAny_pure ?_)
 refine wpAny_bind (wpAny_bind (wpAny_setEntries_of ho W.dt W.fit (wpAny_pure ?_)))
 unfold setDrawn setsByText
 refine wpAny_bind (wpAny_bind (wpAny_setState_of ho W.dt W.fit ?_))
 dsimp only
 refine wpAny_bind (wpAny_bind (wpAny_askSetting (wpAny_pure ?_)))
 refine wpAny_pure ?_
 show wpAny _ _ (if (!(w.params.followText "set-order") && (!t.plain && decide (es.size > 1)))=true then _ else _) _ _ _
 rw [if_neg (by simp [W.pl])]
 refine wpAny_bind (wpAny_pure ?_)
 refine wpAny_bind (wpAny_setEpoch_of ho W.dt W.fit ?_)
 exact wpAny_bind (wpAny_newObj_type (wpAny_pure ⟨_,rfl,"set_iterator",_,⟨_,Heap.get?_push_size _ rfl,rfl⟩,slot_sit_next.lookup,hQ⟩))
end
end ST
namespace ST
open PySem PySem.W PyProof.Rows
section
variable (O:KeyOrd) (key:Nat->O.α) (n:Nat)
def c0 (i j:Nat) (C:Bool->Shared->Prop) (s:Shared):Prop:=i < n/\j < n/\C (O.blt (key i) (key j)) s
def Rk (p:Array Nat) (k:Nat):O.α:=key (p.getD k 0)
def Small (p:Array Nat):Prop:=∀ k,p.getD k 0 < n
def SortedP (p:Array Nat) (m:Nat):Prop:=∀ i j,i<=j->j < m->O.kle (Rk O key p i) (Rk O key p j)
variable {O key n}
variable {s:Shared}
theorem getD_of {p q:Array Nat} {i j:Nat} (h:p[i]?=q[j]?):p.getD i 0=q.getD j 0:=by
 rw [Array.getD_eq_getD_getElem?,Array.getD_eq_getD_getElem?,h]
theorem small_of {p:Array Nat} (hn:0 < n) (h:∀ x∈p.toList,x < n):Small n p:=fun k=>by
 rw [Array.getD_eq_getD_getElem?]
 cases e:p[k]? with
 | none=>simpa using hn
 | some x=>
  obtain ⟨hk,rfl⟩:=Array.getElem?_eq_some_iff.mp e
  exact h _ (by simp)
theorem rk_rev {p:Array Nat} {i j:Nat} (hj:j<=p.size) (k:Nat):Rk O key (kas_rev p i j) k=if i<=k/\k < j then Rk O key p (i + j - 1 - k) else Rk O key p k:=by
 have e:=getElem?_mirror_all (i:=i) hj k
 unfold Rk kas_rev
 by_cases h1:i<=k/\k < j
 ·rw [if_pos h1] at e ⊢;rw [getD_of e]
 ·rw [if_neg h1] at e ⊢;rw [getD_of e]
theorem rk_bub {p:Array Nat} {src d:Nat} (hs:src < p.size) (hd:d<=src) (k:Nat) :
  Rk O key (bubble p src d) k=if k=src - d then Rk O key p src else if src - d < k/\k<=src then Rk O key p (k - 1) else Rk O key p k:=by
 have e:=getElem?_bubble hs d hd k
 unfold Rk
 by_cases h1:k=src - d
 ·rw [if_pos h1] at e ⊢;rw [getD_of e]
 ·rw [if_neg h1] at e ⊢
  by_cases h2:src - d < k/\k<=src
  ·rw [if_pos h2] at e ⊢;rw [getD_of e]
  ·rw [if_neg h2] at e ⊢;rw [getD_of e]
theorem asc_ok {Q:Nat->Shared->Prop}:∀ (f m:Nat) (p:Array Nat),Small n p->1<=m →
  (∀ m',m<=m'->m'<=m + f->(∀ k,m<=k->k < m'->O.kle (Rk O key p (k - 1)) (Rk O key p k))->(m' < m + f->O.klt (Rk O key p m') (Rk O key p (m' - 1)))->Q m' s) →
  (kas_asc p f m).kasWp (c0 O key n) Q s
 | 0,m,p,hs,h1,h=>h m (Nat.le_refl _) (by omega) (fun k _ _=>by omega) (fun _=>by omega)
 | f + 1,m,p,hs,h1,h=>by
  refine ⟨hs _,hs _,?_⟩
  cases hb:O.blt (key (p.getD m 0)) (key (p.getD (m - 1) 0)) with
  | true=>
   simp only [if_true]
   exact h m (Nat.le_refl _) (by omega) (fun k _ _=>by omega) (fun _=>hb)
  | false=>
   simp only [Bool.false_eq_true,if_false]
   refine asc_ok f (m + 1) p hs (by omega) fun m' a1 a2 a3 a4=>h m' (by omega) (by omega) (fun k b1 b2=>?_) (fun hlt=>a4 (by omega))
   rcases Nat.lt_or_ge m k with hk | hk
   ·exact a3 k hk b2
   ·have:k=m:=by omega
    subst this;exact hb
structure Down (p:Array Nat) (m q:Nat):Prop where
 ni:∀ i j,i<=j->j < m->O.kle (Rk O key p j) (Rk O key p i)
 eq:∀ k,m - (q + 1)<=k->k < m->Rk O key p k=Rk O key p (m - 1)
 le:q + 1<=m
theorem rk_rev_eq {p:Array Nat} {i j:Nat} (hj:j<=p.size) (heq:∀ k,i<=k->k < j->Rk O key p k=Rk O key p (j - 1)) (k:Nat):Rk O key (kas_rev p i j) k=Rk O key p k:=by
 rw [rk_rev hj]
 split
 ·rw [heq _ (by omega) (by omega),heq k (by omega) (by omega)]
 ·rfl
theorem small_perm {p q:Array Nat} (hn:0 < n) (h:q.Perm p) (hp:∀ x∈p.toList,x < n):Small n q:=
 small_of hn fun x hx=>hp x ((Array.perm_iff_toList_perm.mp h).mem_iff.mp hx)
theorem down_step {p:Array Nat} {m:Nat} (D:∀ i j,i<=j->j < m->O.kle (Rk O key p j) (Rk O key p i)) (h1:1<=m) (hl:O.kle (Rk O key p m) (Rk O key p (m - 1))) :
  ∀ i j,i<=j->j < m + 1->O.kle (Rk O key p j) (Rk O key p i):=fun i j hij hj=>by
 rcases Nat.lt_or_ge j m with h | h
 ·exact D i j hij h
 ·have:j=m:=by omega
  subst this
  rcases Nat.lt_or_ge i j with h' | h'
  ·exact KeyOrd.kle_trans hl (D i (j - 1) (by omega) (by omega))
  ·have:i=j:=by omega
   subst this;exact KeyOrd.kle_refl _
theorem desc_ok {Q:Array Nat × Nat × Nat->Shared->Prop} {p0:Array Nat} (hn:0 < n) (h0:∀ x∈p0.toList,x < n):∀ (f:Nat) (p:Array Nat) (m q:Nat),p.Perm p0->Down (O:=O) (key:=key) p m q->m + f<=p0.size →
  (∀ p' m' q',p'.Perm p0->m<=m'->m'<=m + f->Down (O:=O) (key:=key) p' m' q'->Q (p',m',q') s) →
  (kas_desc f p m q).kasWp (c0 O key n) Q s
 | 0,p,m,q,hp,D,hf,h=>h p m q hp (Nat.le_refl _) (by omega) D
 | f + 1,p,m,q,hp,D,hf,h=>by
  have hsm:=small_perm hn hp h0
  have hsz:p.size=p0.size:=hp.size_eq
  have hm1:1<=m:=by have:=D.le;omega
  refine ⟨hsm _,hsm _,?_⟩
  cases hb:O.blt (key (p.getD m 0)) (key (p.getD (m - 1) 0)) with
  | true=>
   simp only [if_true]
   have hlt:O.klt (Rk O key p m) (Rk O key p (m - 1)):=hb
   split
   ·have hr:∀ k,Rk O key (kas_rev p (m - (q + 1)) m) k=Rk O key p k:=rk_rev_eq (by omega) D.eq
    refine desc_ok hn h0 f _ (m + 1) 0 ((mirror_perm ..).trans hp) ⟨fun i j hij hj=>?_,fun k b1 b2=>?_,by omega⟩ (by omega) fun p' m' q' a1 a2 a3 a4=>h p' m' q' a1 (by omega) (by omega) a4
    ·rw [hr,hr];exact down_step D.ni hm1 (KeyOrd.kle_of_klt hlt) i j hij hj
    ·have:k=m + 1 - 1:=by omega
     rw [this]
   ·refine desc_ok hn h0 f p (m + 1) 0 hp ⟨down_step D.ni hm1 (KeyOrd.kle_of_klt hlt),fun k b1 b2=>?_,by omega⟩ (by omega) fun p' m' q' a1 a2 a3 a4=>h p' m' q' a1 (by omega) (by omega) a4
    have:k=m + 1 - 1:=by omega
    rw [this]
  | false=>
   simp only [Bool.false_eq_true,if_false]
   refine ⟨hsm _,hsm _,?_⟩
   cases hd:O.blt (key (p.getD (m - 1) 0)) (key (p.getD m 0)) with
   | true=>
    simp only [if_true]
    exact h p m q hp (Nat.le_refl _) (by omega) D
   | false=>
    simp only [Bool.false_eq_true,if_false]
    have he:Rk O key p m=Rk O key p (m - 1):=O.total _ _ hb hd
    refine desc_ok hn h0 f p (m + 1) (q + 1) hp ⟨down_step D.ni hm1 (by rw [he];exact KeyOrd.kle_refl _),fun k b1 b2=>?_,by have:=D.le;omega⟩ (by omega) fun p' m' q' a1 a2 a3 a4=>h p' m' q' a1 (by omega) (by omega) a4
    rw [Nat.add_sub_cancel,he]
    rcases Nat.lt_or_ge k m with hk | hk
    ·exact D.eq k (by omega) hk
    ·have:k=m:=by omega
     subst this;exact he
theorem asc_sorted {p:Array Nat} {m m':Nat} (h1:1<=m) (hs:SortedP O key p m) (ha:∀ k,m<=k->k < m'->O.kle (Rk O key p (k - 1)) (Rk O key p k)):SortedP O key p m':=by
 intro i j hij hj
 induction j with
 | zero=>
      have:i=0:=by omega
      subst this;exact KeyOrd.kle_refl _
 | succ j ih=>
  rcases Nat.lt_or_ge (j + 1) m with h | h
  ·exact hs i (j + 1) hij h
  ·rcases Nat.lt_or_ge i (j + 1) with h' | h'
   ·exact KeyOrd.kle_trans (ih (by omega) (by omega)) (ha (j + 1) h hj)
   ·have:i=j + 1:=by omega
    subst this;exact KeyOrd.kle_refl _
theorem tail_ok {Q:Nat × Array Nat->Shared->Prop} {p p0:Array Nat} {m nrem:Nat} (hn:0 < n) (h0:∀ x∈p0.toList,x < n) (hp:p.Perm p0) (h1:1<=m) (hm:m<=nrem) (hr:nrem<=p0.size)
  (hD:∀ i j,i<=j->j < m->O.kle (Rk O key p j) (Rk O key p i)) (h:∀ m' p',p'.Perm p0->1<=m'->m'<=nrem->SortedP O key p' m'->Q (m',p') s):(kas_tail3 m nrem p).kasWp (c0 O key n) Q s:=by
 have hsz:p.size=p0.size:=hp.size_eq
 have hp':(kas_rev p 0 m).Perm p0:=(mirror_perm ..).trans hp
 unfold kas_tail3
 rw [KasT.kasWp_bind]
 refine asc_ok _ _ _ (small_perm hn hp' h0) h1 fun m' a1 a2 a3 _=>h m' _ hp' (by omega) (by omega) (asc_sorted h1 ?_ a3)
 intro i j hij hj
 rw [rk_rev (by omega),rk_rev (by omega),if_pos (by omega),if_pos (by omega)]
 exact hD _ _ (by omega) (by omega)
theorem descPart_ok {Q:Nat × Array Nat->Shared->Prop} {p p0:Array Nat} {m nrem:Nat} (hn:0 < n) (h0:∀ x∈p0.toList,x < n) (hp:p.Perm p0) (h1:1<=m) (hm:m < nrem) (hr:nrem<=p0.size)
  (hD:∀ i j,i<=j->j < m + 1->O.kle (Rk O key p j) (Rk O key p i)) (h:∀ m' p',p'.Perm p0->1<=m'->m'<=nrem->SortedP O key p' m'->Q (m',p') s):(kas_descPart m nrem p).kasWp (c0 O key n) Q s:=by
 unfold kas_descPart
 rw [KasT.kasWp_bind]
 refine desc_ok hn h0 _ p (m + 1) 0 hp ⟨hD,fun k b1 b2=>by rw [show k=m + 1 - 1 by omega],by omega⟩ (by omega) fun p' m' q' a1 a2 a3 D=>?_
 have hsz:p'.size=p0.size:=a1.size_eq
 dsimp only
 split
 ·have hrv:∀ k,Rk O key (kas_rev p' (m' - (q' + 1)) m') k=Rk O key p' k:=rk_rev_eq (by omega) D.eq
  exact tail_ok hn h0 ((mirror_perm ..).trans a1) (by omega) (by omega) hr (fun i j hij hj=>by rw [hrv,hrv];exact D.ni i j hij hj) h
 ·exact tail_ok hn h0 a1 (by omega) (by omega) hr D.ni h
theorem count_ok {Q:Nat × Array Nat->Shared->Prop} {p0:Array Nat} {nrem:Nat} (hn:0 < n) (h0:∀ x∈p0.toList,x < n) (h1:1<=nrem) (hr:nrem<=p0.size)
  (h:∀ m' p',p'.Perm p0->1<=m'->m'<=nrem->SortedP O key p' m'->Q (m',p') s):(kas_count nrem p0).kasWp (c0 O key n) Q s:=by
 unfold kas_count
 rw [KasT.kasWp_bind]
 refine asc_ok _ _ _ (small_perm hn (Array.Perm.refl _) h0) (Nat.le_refl _) fun m a1 a2 a3 a4=>?_
 have hso:SortedP O key p0 m:=asc_sorted (m:=1) (Nat.le_refl _) (fun i j hij hj=>by
  have:i=j:=by omega
  subst this;exact KeyOrd.kle_refl _) a3
 by_cases he:m=nrem
 ·rw [if_pos (by simpa using he)]
  exact h m p0 (Array.Perm.refl _) a1 (by omega) hso
 ·rw [if_neg (by simpa using he)]
  have hlt:=a4 (by omega)
  split
  ·refine ⟨small_perm hn (Array.Perm.refl _) h0 _,small_perm hn (Array.Perm.refl _) h0 _,?_⟩
   cases hb:O.blt (key (p0.getD 0 0)) (key (p0.getD (m - 1) 0)) with
   | true=>
    simp only [if_true]
    exact h m p0 (Array.Perm.refl _) a1 (by omega) hso
   | false=>
    simp only [Bool.false_eq_true,if_false]
    have hle:O.kle (Rk O key p0 (m - 1)) (Rk O key p0 0):=hb
    have heq:∀ k,k < m->Rk O key p0 k=Rk O key p0 (m - 1):=fun k hk=>
     KeyOrd.kle_antisymm (hso k (m - 1) (by omega) (by omega)) (KeyOrd.kle_trans hle (hso 0 k (by omega) hk))
    have hrv:∀ k,Rk O key (kas_rev p0 0 m) k=Rk O key p0 k:=rk_rev_eq (by omega) fun k _ hk=>heq k hk
    refine descPart_ok hn h0 (mirror_perm ..) a1 (by omega) hr (fun i j hij hj=>?_) h
    rw [hrv,hrv]
    refine down_step (m:=m) (fun i j hij hj=>?_) a1 (KeyOrd.kle_of_klt hlt) i j hij hj
    rw [heq i (by omega),heq j hj];exact KeyOrd.kle_refl _
  ·have hm1:m=1:=by omega
   subst hm1
   refine descPart_ok hn h0 (Array.Perm.refl _) a1 (by omega) hr (down_step (fun i j hij hj=>?_) (Nat.le_refl _) (KeyOrd.kle_of_klt hlt)) h
   have:i=j:=by omega
   subst this;exact KeyOrd.kle_refl _
theorem place_ok {Q:Nat->Shared->Prop} {p:Array Nat} {k:Nat} (hsm:Small n p) (hso:SortedP O key p k):∀ (f l r:Nat),l<=r->r<=k->r - l<=f →
  (∀ i,i < l->O.kle (Rk O key p i) (Rk O key p k))->(∀ i,r<=i->i < k->O.klt (Rk O key p k) (Rk O key p i)) →
  (∀ l',l'<=k->(∀ i,i < l'->O.kle (Rk O key p i) (Rk O key p k))->(∀ i,l'<=i->i < k->O.klt (Rk O key p k) (Rk O key p i))->Q l' s) →
  (kas_place p k f l r).kasWp (c0 O key n) Q s
 | 0,l,r,hlr,hrk,hf,h1,h2,h=>by
  have:l=r:=by omega
  subst this
  exact h l hrk h1 h2
 | f + 1,l,r,hlr,hrk,hf,h1,h2,h=>by
  unfold kas_place
  split
  ·have:l=r:=by omega
   subst this
   exact h l hrk h1 h2
  ·refine ⟨hsm _,hsm _,?_⟩
   cases hb:O.blt (key (p.getD k 0)) (key (p.getD ((l + r) / 2) 0)) with
   | true=>
    simp only [if_true]
    refine place_ok hsm hso f l ((l + r) / 2) (by omega) (by omega) (by omega) h1 (fun i a1 a2=>?_) h
    exact KeyOrd.klt_of_klt_of_kle hb (hso _ _ a1 a2)
   | false=>
    simp only [Bool.false_eq_true,if_false]
    refine place_ok hsm hso f ((l + r) / 2 + 1) r (by omega) hrk (by omega) (fun i a1=>?_) h2 h
    exact KeyOrd.kle_trans (hso i ((l + r) / 2) (by omega) (by omega)) hb
theorem bin_ok {Q:Array Nat->Shared->Prop} {p0:Array Nat} (hn:0 < n) (h0:∀ x∈p0.toList,x < n):∀ (f:Nat) (p:Array Nat) (k:Nat),p.Perm p0->k + f=p0.size->SortedP O key p k →
  (∀ p',p'.Perm p0->SortedP O key p' p0.size->Q p' s)->(kas_bin f p k).kasWp (c0 O key n) Q s
 | 0,p,k,hp,hk,hso,h=>h p hp (by rw [<-hk];exact hso)
 | f + 1,p,k,hp,hk,hso,h=>by
  have hsz:p.size=p0.size:=hp.size_eq
  unfold kas_bin
  rw [KasT.kasWp_bind]
  refine place_ok (small_perm hn hp h0) hso k 0 k (by omega) (Nat.le_refl _) (by omega) (fun i hi=>by omega) (fun i a1 a2=>by omega) fun l hl b1 b2=>?_
  refine bin_ok hn h0 f _ (k + 1) ((bubble_perm ..).trans hp) (by omega) (fun i j hij hj=>?_) h
  rw [rk_bub (by omega) (by omega),rk_bub (by omega) (by omega),show k - (k - l)=l by omega]
  rcases Nat.lt_trichotomy i l with hi | hi | hi
  ·rw [if_neg (by omega),if_neg (by omega)]
   split
   ·exact b1 i hi
   ·split
    ·exact hso i (j - 1) (by omega) (by omega)
    ·exact hso i j hij (by omega)
  ·rw [if_pos hi]
   split
   ·exact KeyOrd.kle_refl _
   ·rw [if_pos (by omega)]
    exact KeyOrd.kle_of_klt (b2 (j - 1) (by omega) (by omega))
  ·rw [if_neg (by omega),if_pos (by omega),if_neg (by omega),if_pos (by omega)]
   exact hso _ _ (by omega) (by omega)
theorem sort_ok {Q:Array Nat->Shared->Prop} (hn:0 < n) (h:∀ p,List.Perm p.toList (List.range n)->SortedP O key p n->Q p s):(kas_sort n).kasWp (c0 O key n) Q s:=by
 have h0:∀ x∈(List.range n).toArray.toList,x < n:=fun x hx=>by simpa using hx
 have hs0:(List.range n).toArray.size=n:=by simp
 unfold kas_sort
 rw [KasT.kasWp_bind]
 refine count_ok hn h0 hn (by omega) fun m p hp h1 hm hso=>?_
 have fin:∀ p',p'.Perm (List.range n).toArray->SortedP O key p' n->Q p' s:=fun p' a b=>h p' (by simpa using Array.perm_iff_toList_perm.mp a) b
 dsimp only
 split
 ·refine bin_ok hn h0 _ p _ hp (by omega) (by rw [show max m 1=m by omega];exact hso) fun p' a b=>fin p' a (by rw [hs0] at b;exact b)
 ·have:m=n:=by omega
  subst this
  exact fin p hp hso
end
end ST
set_option maxHeartbeats 3200000
namespace ST
open PySem PySem.W PyProof.Rows
def lexB:List Int->List Int->Bool
 | [],[]=>false
 | [],_::_=>true
 | _::_,[]=>false
 | a::x,b::y=>if a=b then lexB x y else decide (a < b)
theorem lex_irr:∀ a,lexB a a=false
 | []=>rfl
 | a::x=>by simp [lexB,lex_irr x]
theorem lex_trans:∀ a b c,lexB a b=true->lexB b c=true->lexB a c=true
 | [],[],c,h1,h2=>h2
 | [],_::_,[],h1,h2=>by simp [lexB] at h2
 | [],_::_,_::_,h1,h2=>rfl
 | _::_,[],c,h1,h2=>by simp [lexB] at h1
 | _::_,_::_,[],h1,h2=>by simp [lexB] at h2
 | a::x,b::y,c::z,h1,h2=>by
  simp only [lexB] at h1 h2 ⊢
  by_cases e1:a=b
  ·subst e1
   by_cases e2:a=c
   ·subst e2
    simp only [if_true] at h1 h2 ⊢
    exact lex_trans x y z h1 h2
   ·simp only [if_true,e2,if_false] at h1 h2 ⊢
    exact h2
  ·by_cases e2:b=c
   ·subst e2
    simp only [e1,if_false,if_true] at h1 h2 ⊢
    exact h1
   ·simp only [e1,e2,if_false,decide_eq_true_eq] at h1 h2 ⊢
    have:a ≠ c:=by omega
    simp only [this,if_false,decide_eq_true_eq]
    omega
theorem lex_neg:∀ a b c,lexB a c=true->lexB a b=true\/lexB b c=true
 | [],[],c,h=>.inr h
 | [],_::_,c,h=>.inl rfl
 | _::_,b,[],h=>by simp [lexB] at h
 | _::_,[],_::_,h=>.inr rfl
 | a::x,b::y,c::z,h=>by
  simp only [lexB] at h ⊢
  by_cases e1:a=b
  ·subst e1
   by_cases e2:a=c
   ·subst e2
    simp only [if_true] at h ⊢
    exact lex_neg x y z h
   ·simp only [e2,if_false] at h ⊢
    exact .inr h
  ·by_cases e2:b=c
   ·subst e2
    simp only [e1,if_false] at h ⊢
    exact .inl h
   ·simp only [e1,e2,if_false,decide_eq_true_eq] at h ⊢
    by_cases e3:a=c
    ·subst e3;omega
    ·simp only [e3,if_false,decide_eq_true_eq] at h
     omega
theorem lex_total:∀ a b,lexB a b=false->lexB b a=false->a=b
 | [],[],_,_=>rfl
 | [],_::_,h,_=>by simp [lexB] at h
 | _::_,[],_,h=>by simp [lexB] at h
 | a::x,b::y,h1,h2=>by
  simp only [lexB] at h1 h2
  by_cases e:a=b
  ·subst e
   simp only [if_true] at h1 h2
   rw [lex_total x y h1 h2]
  ·have e':b ≠ a:=fun h=>e h.symm
   simp only [e,e',if_false,decide_eq_false_iff_not] at h1 h2
   omega
def lexO:KeyOrd:=⟨List Int,lexB,lex_irr,lex_trans,lex_neg,lex_total⟩
theorem wp_at {O:KeyOrd} {key:Nat->O.α} {n:Nat} {α:Type} {c':Nat->Nat->(Bool->Shared->Prop)->Shared->Prop} {s:Shared} (hc:∀ i j C,i < n->j < n->C (O.blt (key i) (key j)) s->c' i j C s) {Q:α->Shared->Prop} :
  ∀ t:KasT α,t.kasWp (c0 O key n) Q s->t.kasWp c' Q s
 | .ret a,h=>h
 | .ask i j k,⟨h1,h2,h3⟩=>hc i j _ h1 h2 (wp_at hc (k _) h3)
section
variable {prog:Program} {w:World} {A:Around} {E:Value->Shared->Prop} {s:Shared}
theorem lex_wp {b:Bool} {Q:Bool->Shared->Prop}:∀ (ks ls:List Int) (xs ys:List Value) (i:Nat),ItemsAre (ik prog w) ks xs->ItemsAre (ik prog w) ls ys->ks.length=ls.length->Q (lexB ks ls) s →
  KatLex prog w A b false Q (xs.zip ys) i s
 | _,_,_,_,i,.nil,.nil,_,h=>h
 | _,_,_,_,i,.nil,.cons _ _,e,h=>by simp at e
 | _,_,_,_,i,.cons _ _,.nil,e,h=>by simp at e
 | _,_,_,_,i,.cons (k:=k) (v:=v) (ks:=ks) (vs:=vs) h1 h2,.cons (k:=k') (v:=v') (ks:=ks') (vs:=vs') h3 h4,e,h=>by
  obtain ⟨t,rfl⟩:=Value.isInt_shape h1
  obtain ⟨t',rfl⟩:=Value.isInt_shape h3
  refine kat_cons (wpAny_eqBool_int ?_)
  by_cases hk:k=k'
  ·subst hk
   rw [beq_self_eq_true]
   refine kat_yes (lex_wp ks ks' vs vs' (i + 1) h2 h4 (by simpa using e) ?_)
   simpa [lexB] using h
  ·rw [beq_eq_false_iff_ne.mpr hk]
   refine kat_no ?_
   have h':Q (decide (k < k')) s:=by simpa [lexB,hk] using h
   cases hb:(b && i == 0) with
   | true=>exact oneLt_int h'
   | false=>exact kat_one _ _ (wpAny_lt_int h')
theorem tups_of {h:Heap}:∀ (vs:List Value) (km:Nat->Addr × List Int),(∀ i,i < vs.length->vs.getD i Value.none=.ref (km i).1/\IsTupleKey (ik prog w) h (km i).2 (km i).1/\0 < (km i).2.length) →
  ∃ fs,KatTups h vs fs/\fs.length=vs.length/\∀ v∈fs,∃ k t,v=Value.int k t
 | [],km,_=>⟨[],.nil,rfl,fun v hv=>absurd hv List.not_mem_nil⟩
 | v::vs,km,hk=>by
  obtain ⟨fs,h1,h2,h3⟩:=tups_of vs (fun i=>km (i + 1)) fun i hi=>by
   have:=hk (i + 1) (by simpa using hi)
   simpa using this
  obtain ⟨e,⟨o,items,m,ho,hc,hd,hi⟩,hpos⟩:=hk 0 (by simp)
  have ev:v=.ref (km 0).1:=by simpa using e
  subst ev
  generalize (km 0).2=kk at hi hpos
  obtain ⟨k,t,rest,hit⟩:∃ k t rest,items.toList=Value.int k t::rest:=by
   generalize items.toList=il at hi
   cases hi with
   | nil=>simp at hpos
   | @cons k v _ vs' h1 _=>
    obtain ⟨t,rfl⟩:=Value.isInt_shape h1
    exact ⟨k,t,vs',rfl⟩
  refine ⟨Value.int k t::fs,.cons ho hc hd (f:=Value.int k t) ?_ h1,by simp [h2],fun u hu=>?_⟩
  ·rw [<-Array.getElem?_toList,hit];rfl
  ·rcases List.mem_cons.mp hu with rfl | hu
   ·exact ⟨k,t,rfl⟩
   ·exact h3 u hu
theorem out_small:∀ vs:List Value,vs.length < 2->(vs.toArray.zip vs.toArray).map (·.2)=((List.range vs.length).toArray.toList.map fun i=>vs.getD i Value.none).toArray
 | [],_=>by simp
 | [v],_=>by simp [List.range_succ]
 | _::_::_,h=>absurd h (by simp only [List.length_cons];omega)
theorem sort_tup {a:Addr} {n d:Nat} {vs:List Value} {km:Nat->Addr × List Int} {P:PySem.Fin->Shared->Prop} (ho:s.heap.get? a=some (seqObj "list" vs.toArray n)) (h64:vs.length < 64) (hd0:0 < d)
  (hk:∀ i,i < vs.length->vs.getD i Value.none=.ref (km i).1/\IsTupleKey (ik prog w) s.heap (km i).2 (km i).1/\(km i).2.length=d)
  (h:∀ h' (p:Array Nat) e,(∀ b o,b ≠ a->s.heap.get? b=some o->h'.get? b=some o)->h'.get? a=some (seqObj "list" (p.toList.map fun i=>vs.getD i Value.none).toArray e) →
   List.Perm p.toList (List.range vs.length)->SortedP lexO (fun i=>(km i).2) p vs.length->P (.done (.ret .none)) { s with heap:=h' }) :
  wpAny (model prog w) A (Builtin.«list.sort» ⟨[.ref a],[]⟩) P E s:=by
 have ha:a < s.heap.objs.size:=Heap.lt_size ho
 have s1:=Heap.SameBut.update s.heap a (Obj.mapSeq fun _=>(#[]:Array Value))
 obtain ⟨e1,ho1⟩:∃ e1,(s.heap.update a (Obj.mapSeq fun _=>(#[]:Array Value))).get? a=some (seqObj "list" #[] e1):=⟨_,get?_update_seq ho fun _=>#[]⟩
 generalize hh3:((s.heap.update a (Obj.mapSeq fun _=>(#[]:Array Value))).push (seqObj "tuple" vs.toArray 0)).push (seqObj "list" #[] 0)=h3
 have k3:∀ b o,b ≠ a->s.heap.get? b=some o->h3.get? b=some o:=fun b o hb e=>by
  rw [<-hh3];exact Heap.get?_push_of_some _ (Heap.get?_push_of_some _ ((s1.2 b hb).trans e))
 have a3:h3.get? a=some (seqObj "list" #[] e1):=by rw [<-hh3];exact Heap.get?_push_of_some _ (Heap.get?_push_of_some _ ho1)
 have hk3:∀ i,i < vs.length->vs.getD i Value.none=.ref (km i).1/\IsTupleKey (ik prog w) h3 (km i).2 (km i).1/\(km i).2.length=d:=fun i hi=>by
  obtain ⟨x1,⟨o',items,m',ho',hc',hd',hi'⟩,x3⟩:=hk i hi
  refine ⟨x1,⟨o',items,m',k3 _ o' (fun e=>?_) ho',hc',hd',hi'⟩,x3⟩
  rw [e,ho] at ho'
  obtain rfl:=Option.some.inj ho'
  exact absurd hc' (by simp [seqObj])
 -- what is left once the order is found
 have fin:∀ p:Array Nat,List.Perm p.toList (List.range vs.length)->SortedP lexO (fun i=>(km i).2) p vs.length->∃ e,
   (h3.update a (Obj.mapSeq fun _=>(p.toList.map fun i=>vs.getD i Value.none).toArray)).get? a=some (seqObj "list" (p.toList.map fun i=>vs.getD i Value.none).toArray e) ∧
   P (.done (.ret .none)) { s with heap:=h3.update a (Obj.mapSeq fun _=>(p.toList.map fun i=>vs.getD i Value.none).toArray) }:=fun p hp hs=>by
  have hg:=get?_update_seq a3 fun _=>(p.toList.map fun i=>vs.getD i Value.none).toArray
  exact ⟨_,hg,h _ p _ (fun b o hb e=>((Heap.SameBut.update h3 a _).2 b hb).trans (k3 b o hb e)) hg hp hs⟩
 rw [list_sort_plain]
 refine wpAny_bind (listItems_at ho rfl ?_)
 refine wpAny_bind (listUpdate_at ho rfl ?_ (by rw [List.size_toArray,sizeLine_eq];omega) (Nat.zero_le _))
 refine wpAny_bind (seqEpoch_at ho1 rfl ?_)
 refine wpAny_bind (wpAny_newTuple ?_ (by show vs.length<=_;rw [sizeLine_eq];omega))
 refine wpAny_bind (wpAny_newList ?_ (Nat.zero_le _))
 refine wpAny_holding ?_
 show wpAny (model prog w) A _ P E { s with heap:=((s.heap.update a (Obj.mapSeq fun _=>(#[]:Array Value))).push (seqObj "tuple" vs.toArray 0)).push (seqObj "list" #[] 0) }
 rw [hh3]
 dsimp only
 by_cases h2:vs.toArray.size < 2
 ·rw [if_pos h2,if_pos h2]
  refine wpAny_bind (wpAny_pure ?_)
  rw [StateT.run_pure]
  refine wpAny_bind (wpAny_pure ?_)
  dsimp only
  have hout:(arrOf (SortSt.mk' general' (vs.toArray.zip vs.toArray) #[] 7 none)).map (·.2)=((List.range vs.length).toArray.toList.map fun i=>vs.getD i Value.none).toArray:=by
   exact out_small vs (by simpa using h2)
  obtain ⟨e,hg,hP⟩:=fin (List.range vs.length).toArray (.refl _) (fun i j hij hj=>by
   have h2':vs.length < 2:=by simpa using h2
   have:i=j:=by omega
   subst this;exact KeyOrd.kle_refl _)
  rw [hout]
  refine wpAny_bind (seqEpoch_at a3 rfl ?_)
  refine wpAny_bind (listUpdate_at a3 rfl ?_ (Nat.zero_le _) (by simp [sizeLine_eq];omega))
  simp only [bne_self_eq_false,Bool.false_eq_true,if_false]
  exact wpAny_pure hP
 ·rw [if_neg h2,if_neg h2]
  have h2':2<=vs.length:=by simpa using h2
  obtain ⟨fs,t1,t2,t3⟩:=tups_of (prog:=prog) (w:=w) (h:=h3) vs km fun i hi=>⟨(hk3 i hi).1,(hk3 i hi).2.1,by rw [(hk3 i hi).2.2];exact hd0⟩
  refine wpAny_bind (kat_kind (T:=.type "int") t1 (by omega) (fun v hv=>by
   obtain ⟨k,t,rfl⟩:=t3 v hv
   exact Looks.of_pure rfl) (by decide) ?_)
  refine wpAny_bind (wpAny_mono (kat_run (Q:=fun st' s'=>∃ p:Array Nat,arrOf st'=p.map (kas_item (vs.toArray.zip vs.toArray))/\failedOf st'=none/\s'={ s with heap:=h3 }/\List.Perm p.toList (List.range vs.length)/\SortedP lexO (fun i=>(km i).2) p vs.length)
   (G:=fun p s'=>s'={ s with heap:=h3 }/\List.Perm p.toList (List.range vs.length)/\SortedP lexO (fun i=>(km i).2) p vs.length)
   rfl h2' h64 (fun p' st' s' a1 a2 a3 a4=>⟨p',a2,a3,a4⟩) ?_) ?_ fun _ _ e=>e)
  ·refine wp_at (O:=lexO) (key:=fun i=>(km i).2) (n:=vs.length) (fun i j C hi hj hC=>?_) _ (sort_ok (by omega) fun p hp hs=>⟨rfl,hp,hs⟩)
   obtain ⟨x1,⟨o1,it1,m1,ho1',hc1,hd1,hi1⟩,x3⟩:=hk3 i hi
   obtain ⟨y1,⟨o2,it2,m2,ho2',hc2,hd2,hi2⟩,y3⟩:=hk3 j hj
   unfold kas_ask
   rw [x1,y1]
   have hsz:decide (it1.size < it2.size)=false:=by
    have e1:=hi1.length
    have e2:=hi2.length
    simp only [Array.length_toList] at e1 e2
    simp only [decide_eq_false_iff_not]
    omega
   refine kat_lt ho1' hd1 ho2' hd2 ?_
   rw [hsz]
   exact lex_wp _ _ _ _ 0 hi1 hi2 (x3.trans y3.symm) hC
  ·rintro ⟨⟨⟩,st'⟩ s' ⟨p,har,hf,rfl,hp,hs⟩
   dsimp only
   obtain ⟨e,hg,hP⟩:=fin p hp hs
   have hout:=kat_snds (ks:=vs) (vs:=vs) rfl har
   rw [hout]
   refine wpAny_bind (seqEpoch_at a3 rfl ?_)
   refine wpAny_bind (listUpdate_at a3 rfl ?_ (Nat.zero_le _) (by
    rw [List.size_toArray,List.length_map,hp.length_eq,List.length_range,sizeLine_eq];omega))
   rw [hf]
   simp only [bne_self_eq_false,Bool.false_eq_true,if_false]
   exact wpAny_pure hP
end
end ST
set_option maxHeartbeats 3200000
namespace ST
open PySem PySem.W PyProof.Rows
section
variable {prog:Program} {w:World} {A:Around} {E:Value->Shared->Prop} {s:Shared} {o:Obj} {es:Array (Int × Value)} {ep:Nat} {t:SetTable} {S:Addr}
theorem hint_set {Q:Bool->Shared->Prop} (hT:s.TypeIs (.ref S) "set") (h:Q false s):wpAny (model prog w) A (Builtin.List.listLengthHint (.ref S)) Q E s:=by
 unfold Builtin.List.listLengthHint
 refine wpAny_bind (wpAny_specialOf hT F.slot_set_len.lookup ?_)
 generalize hid:("set.__len__":String)=id0
 wp_delta
 rw [show splitId id0=some ("set","__len__") from by subst hid;decide +kernel]
 subst hid
 refine wpAny_bind (wpAny_isInstance (T:="set") (b:=true) hT sub_set_self ?_)
 refine wpAny_ite_split (fun hab=>absurd hab (by decide)) (fun _=>?_)
 refine wpAny_ite_split (fun _=>?_) (fun hab=>absurd (by decide +kernel) hab)
 refine wpAny_bind (wpAny_typeOf hT ?_)
 exact wpAny_pure h
theorem items_walk {ws:List Value} {acc:Array Value} (h:ItemsOf (fun i v=>ws[i]?=some v) acc ws.length):acc=ws.toArray:=by
 obtain ⟨h1,h2⟩:=h
 have e:acc.toList=ws:=by
  apply List.ext_getElem?
  intro i
  by_cases hi:i < acc.size
  ·have h3:=h2 i acc[i] (Array.getElem?_eq_getElem hi)
   rw [Array.getElem?_toList,Array.getElem?_eq_getElem hi,h3]
  ·rw [List.getElem?_eq_none (by simpa using Nat.le_of_not_lt hi),List.getElem?_eq_none (by rw [<-h1];exact Nat.le_of_not_lt hi)]
 rw [<-e]
theorem collect_set {Q:List Value->Shared->Prop} (hh:A.handled=none) (W:Walked w o es ep t) (ho:s.heap.get? S=some o) (hz:es.size<=76)
  (h:∀ h' tk,(∀ b o,s.heap.get? b=some o->h'.get? b=some o)->s.heap.objs.size<=h'.objs.size->Q (walkOf w S ep es) { s with heap:=h',toks:=tk }) :
  wpAny (model prog w) A (collect (.ref S)) Q E s:=by
 have hS0:S < s.heap.objs.size:=Heap.lt_size ho
 unfold collect
 refine wpAny_bind (wpAny_runValue (codeAny_builtin entry_proto_collect' ?_))
 show wpAny _ _ (newList [] >>= fun l=>again (.builtin "list.__iadd__" ⟨[l,.ref S],[]⟩)) _ _ s
 refine wpAny_bind (wpAny_newList (wpAny_pure ⟨Code.quiet_builtin _ (by decide +kernel),codeAny_builtin entry_list_iadd' ?_⟩))
 show wpAny _ _ (Builtin.List.listExtendWith (.ref s.heap.objs.size) (.ref S) (.ref s.heap.objs.size)) _ _ { s with heap:=s.heap.push (seqObj "list" #[] 0) }
 have ho1:(s.heap.push (seqObj "list" #[] 0)).get? S=some o:=Heap.get?_push_of_some _ ho
 have hT1:Shared.TypeIs { s with heap:=s.heap.push (seqObj "list" #[] 0) } (.ref S) "set":=⟨o,ho1,W.ex.1⟩
 unfold Builtin.List.listExtendWith
 refine wpAny_bind (wpAny_typeOf hT1 ?_)
 have b1:Builtin.List.listSameRef (.ref s.heap.objs.size) (.ref S)=false:=by
  have:s.heap.objs.size ≠ S:=Nat.ne_of_gt hS0
  simp [Builtin.List.listSameRef,this]
 have b2:(Value.type "set" == Value.type "list")=false:=by decide
 have b3:(Value.type "set" == Value.type "tuple")=false:=by decide
 simp only [b1,b2,b3,Bool.or_false,Bool.false_eq_true,if_false]
 refine wpAny_bind (wp_iter_set W ho1 ?_)
 generalize hio:({ cls:=.type "set_iterator",data:=.fields #[rawInt (0:Nat),rawInt (0:Nat),.ref S,rawInt es.size,rawInt ep] }:Obj)=io
 have hsz1:(s.heap.push (seqObj "list" #[] 0)).objs.size=s.heap.objs.size + 1:=size_push' ..
 dsimp only
 rw [hsz1]
 have ho2:((s.heap.push (seqObj "list" #[] 0)).push io).get? S=some o:=Heap.get?_push_of_some _ ho1
 refine wpAny_bind (wpAny_holding (hint_set ⟨o,ho2,W.ex.1⟩ ?_))
 refine wpAny_ite_split (fun _=>?_) (fun hab=>absurd (by decide +kernel) hab)
 refine wpAny_bind (wpAny_rule ?_)
 have hL2:((s.heap.push (seqObj "list" #[] 0)).push io).get? s.heap.objs.size=some (seqObj "list" #[] 0):=Heap.get?_push_of_some _ (Heap.get?_push_size _ rfl)
 unfold Builtin.List.listTouch
 refine wpAny_bind (wpAny_bind (listUpdate_at hL2 rfl ?_ (Nat.zero_le _) (by simp [sizeLine_eq])))
 have hL3:=get?_update_seq hL2 (·.push Value.none)
 refine listUpdate_at (s:={ s with heap:=((s.heap.push (seqObj "list" #[] 0)).push io).update s.heap.objs.size (Obj.mapSeq (·.push Value.none)) }) hL3 rfl ?_ (by simp [sizeLine_eq]) (by simp [sizeLine_eq])
 have hL4:=get?_update_seq hL3 (·.pop)
 generalize hh4:(((s.heap.push (seqObj "list" #[] 0)).push io).update s.heap.objs.size (Obj.mapSeq (·.push Value.none))).update s.heap.objs.size (Obj.mapSeq (·.pop))=h4 at hL4 ⊢
 obtain ⟨c4,hL4⟩:∃ c4,h4.get? s.heap.objs.size=some (seqObj "list" #[] c4):=⟨_,hL4⟩
 have k4:∀ b o,b ≠ s.heap.objs.size->((s.heap.push (seqObj "list" #[] 0)).push io).get? b=some o->h4.get? b=some o:=fun b o hb e=>by
  rw [<-hh4]
  exact ((Heap.SameBut.update _ _ _).2 b hb).trans (((Heap.SameBut.update _ _ _).2 b hb).trans e)
 have hI4:h4.get? (s.heap.objs.size + 1)=some io:=k4 _ _ (Nat.succ_ne_self _) (by
  have:=Heap.get?_push_size (s.heap.push (seqObj "list" #[] 0)) (o:=io) (by rw [<-hio];rfl)
  rwa [hsz1] at this)
 have hne:S ≠ s.heap.objs.size + 1:=Nat.ne_of_lt (Nat.lt_succ_of_lt hS0)
 have hSf:s.heap.objs.size ∉ [s.heap.objs.size + 1,S]:=fun hm=>by
  rcases List.mem_cons.mp hm with e | hm
  ·exact Nat.ne_of_lt (Nat.lt_succ_self _) e
  ·exact Nat.ne_of_gt hS0 (List.mem_singleton.mp hm)
 refine wpAny_pure ⟨plainId_quiet F.plain_extend_loop _,?_⟩
 refine codeAny_extend_loopS ((walks_set (by simp [hh]) W hne).toS) (by rw [sizeLine_eq];omega) s.heap.objs.size hSf _ es.size 0 _ #[] c4 rfl (Nat.zero_le _)
  ⟨0,⟨_,hI4,by rw [<-hio],by rw [<-hio]⟩,fun _=>below_zero W.ris,k4 S o (Nat.ne_of_lt hS0) ho2⟩ hL4 (ItemsOf.nil _) fun s' acc' c' hm hS' hacc=>?_
 have hacc':acc'=(walkOf w S ep es).toArray:=items_walk (by rw [walk_len W];exact hacc)
 subst hacc'
 have key:∀ b o,s.heap.get? b=some o->s'.heap.get? b=some o:=fun b o e=>by
  have hb:b < s.heap.objs.size:=Heap.lt_size e
  refine hm.heap b o (fun hmem=>?_) (k4 b o (Nat.ne_of_lt hb) (Heap.get?_push_of_some _ (Heap.get?_push_of_some _ e)))
  rcases List.mem_cons.mp hmem with e' | hmem
  ·exact Nat.ne_of_lt hb e'
  ·exact Nat.ne_of_lt (Nat.lt_succ_of_lt hb) (List.mem_singleton.mp hmem)
 rw [Moved.eq_with hm]
 show wpAny (model prog w) A (load s.heap.objs.size >>= fun o=>match o.data with
   | .seq xs _=>pure xs.toList
   | _=>unsupported "internal:collect") Q E { s with heap:=s'.heap,toks:=s'.toks }
 refine wpAny_bind (wpAny_load hS' ?_)
 exact wpAny_pure (h s'.heap s'.toks key (Nat.le_of_lt (Heap.lt_size hS')))
theorem perm_lift {α β:Type} {f:α->β}:∀ (ms:List α) (l:List β),List.Perm l (ms.map f)->∃ ms1,List.Perm ms1 ms/\l=ms1.map f
 | [],l,h=>⟨[],.refl _,by simpa using h⟩
 | m::ms,l,h=>by
  rw [List.map_cons] at h
  obtain ⟨l1,l2,rfl⟩:=List.append_of_mem (h.mem_iff.mpr List.mem_cons_self)
  have h2:List.Perm (l1++l2) (ms.map f):=List.Perm.cons_inv (a:=f m) (List.perm_middle.symm.trans h)
  obtain ⟨ms1,hp,e⟩:=perm_lift ms _ h2
  obtain ⟨a,b,rfl,ea,eb⟩:=List.append_eq_map_iff.mp e
  refine ⟨a++m::b,List.perm_middle.trans (List.Perm.cons m hp),?_⟩
  rw [List.map_append,List.map_cons,ea,eb]
theorem lrange_getD {α:Type} (l:List α) (d:α):(List.range l.length).map (fun i=>l.getD i d)=l:=by
 apply List.ext_getElem?
 intro i
 rw [List.getElem?_map]
 rcases Nat.lt_or_ge i l.length with h | h
 ·simp [h]
 ·simp [h]
theorem call_sorted_set {Q:Value->Shared->Prop} {ms:List (Addr × List Int)} {d:Nat} (hh:A.handled=none) (hS:SetTup prog w s.heap S ms) (h64:ms.length < 64) (hd0:0 < d) (hd:∀ m∈ms,m.2.length=d)
  (h:∀ h' tk D e (ns:List (Addr × List Int)),List.Perm ns ms->ns.Pairwise (fun a b=>lexB a.2 b.2=true)->(∀ b o,s.heap.get? b=some o->h'.get? b=some o)->s.heap.objs.size<=D →
   h'.get? D=some (seqObj "list" (ns.map fun m=>Value.ref m.1).toArray e)->Q (.ref D) { s with heap:=h',toks:=tk }) :
  wpAny (model prog w) A (call (.builtin "sorted") [.ref S]) Q E s:=by
 obtain ⟨o,es,ep,t,ps,ho,hex,hdt,T,R,H,hpl,hled⟩:=hS
 have W:Walked w o es ep t:=⟨hex,hdt,T.fits R.le,T.ris',hpl,hled⟩
 have hes:es.size=ms.length:=H.len
 refine Calls.call_function_entry kind_sorted plain_sorted entry_sorted (args_sorted1 _) ?_
 unfold Builtin.«sorted»
 refine wpAny_bind (m:=checkCount "sorted" 1 1 _) (wpAny_pure ?_)
 refine wpAny_bind (collect_set (by simp [hh]) W ho (by omega) fun h1 tk k1 le1=>?_)
 -- the walk,by addresses
 have hwp:List.Perm (walkOf w S ep es) (ms.map fun m=>Value.ref m.1):=by
  refine (walk_perm w S ep es).trans ?_
  have:=H.pm.map (·.2)
  rw [List.map_map] at this
  exact this
 obtain ⟨ms1,hpm1,ews⟩:∃ ms1:List (Addr × List Int),List.Perm ms1 ms/\walkOf w S ep es=ms1.map fun m=>Value.ref m.1:=perm_lift ms _ hwp
 have hlen1:ms1.length=ms.length:=hpm1.length_eq
 rw [ews]
 refine wpAny_bind (wpAny_newList ?_ (by rw [List.length_map,sizeLine_eq];omega))
 dsimp only
 have hoL:(h1.push (seqObj "list" (ms1.map fun m=>Value.ref m.1).toArray 0)).get? h1.objs.size=some (seqObj "list" (ms1.map fun m=>Value.ref m.1).toArray 0):=Heap.get?_push_size _ rfl
 refine wpAny_bind (wpAny_holding (wpAny_call_entry slot_list_sort ⟨_,hoL,rfl⟩ entry_list_sort ?_ (args_list_sort _)))
 refine sort_tup (s:={ s with heap:=h1.push (seqObj "list" (ms1.map fun m=>Value.ref m.1).toArray 0),toks:=tk }) (km:=fun i=>ms1.getD i (0,[])) hoL (by rw [List.length_map];omega) hd0 (fun i hi=>?_) fun h' p e hk hg hp hs=>?_
 ·have hi':i < ms1.length:=by simpa using hi
  have hm:ms1.getD i (0,[])=ms1[i]:=by simp [hi']
  have hmem:ms1[i]∈ms:=hpm1.mem_iff.mp (List.getElem_mem hi')
  dsimp only
  rw [hm]
  refine ⟨by simp [hi'],?_,hd _ hmem⟩
  obtain ⟨o',its,m',ho',x⟩:=H.key _ hmem
  exact ⟨o',its,m',Heap.get?_push_of_some _ (k1 _ _ ho'),x⟩
 ·refine ⟨_,rfl,wpAny_pure ⟨_,rfl,?_⟩⟩
  rw [List.length_map] at hp hs
  have hns:(p.toList.map fun i=>(ms1.map fun m=>Value.ref m.1).getD i Value.none)=(p.toList.map fun i=>ms1.getD i (0,[])).map fun m=>Value.ref m.1:=by
   rw [List.map_map]
   refine List.map_congr_left fun i hi=>?_
   have hi':i < ms1.length:=by simpa using hp.mem_iff.mp hi
   simp [hi']
  have hpn:List.Perm (p.toList.map fun i=>ms1.getD i (0,[])) ms1:=by
   have:=hp.map fun i=>ms1.getD i ((0:Addr),([]:List Int))
   rwa [lrange_getD] at this
  rw [hns] at hg
  refine h h' tk _ e _ (hpn.trans hpm1) ?_ (fun b o e=>hk b o (fun hb=>?_) (Heap.get?_push_of_some _ (k1 b o e))) ?_ hg
  ·have hnd:((p.toList.map fun i=>ms1.getD i ((0:Addr),([]:List Int))).map (·.2)).Nodup:=((hpn.trans hpm1).map (·.2)).nodup_iff.mpr H.nd
   have hpl:p.toList.length=ms1.length:=by rw [hp.length_eq,List.length_range]
   rw [List.pairwise_iff_getElem]
   intro i j hi hj hij
   rw [List.length_map] at hi hj
   have h1:=hs i j (Nat.le_of_lt hij) (by omega)
   have ei:p.getD i 0=p.toList[i]:=by simp at hi;simp [Array.getD,hi]
   have ej:p.getD j 0=p.toList[j]:=by simp at hj;simp [Array.getD,hj]
   have hne:=List.pairwise_iff_getElem.mp hnd i j (by simpa using hi) (by simpa using hj) hij
   simp only [List.getElem_map] at hne ⊢
   unfold KeyOrd.kle Rk at h1
   rw [ei,ej] at h1
   cases hb:lexB (ms1.getD p.toList[i] (0,[])).2 (ms1.getD p.toList[j] (0,[])).2 with
   | true=>rfl
   | false=>exact absurd (lex_total _ _ hb h1) hne
  ·exact Nat.ne_of_lt (Heap.lt_size (k1 b o e)) hb
  ·exact le1
end
end ST
namespace L2
open PySem PySem.Spec PySem.W PyProof.Rows
structure ExcCls (K:Frag) (C:Addr):Prop where
 ga:findIn K (.ref C) "__getattribute__"=some (some (.builtin "BaseException.__getattribute__"))
 gt:findIn K (.ref C) "__getattr__"=some none
 cl:findIn K (.ref C) "__class__"=some (some (.builtin "object.__class__"))
 be:mroIn K C (.type "BaseException")=some true
 ob:mroIn K C (.type "object")=some true
section
variable {prog:Program} {w:World} {A:Around} {E:Value->Shared->Prop} {K:Frag} {h:Heap} {g:Array GenState} {d:Drawn} {t:Nat} {os:OsState} {a C:Addr} {o:Obj}
end
end L2
namespace L2
open PySem PySem.Spec PySem.W PyProof.Rows
theorem ObjOk.there {P:Program} {w:World} {H:Hp} {h:Heap} {a:Addr}:∀ {o:HO},ObjOk P w H h a o->∃ ob,h.get? a=some ob:=by
 intro o x
 cases o with
 | lst xs=>obtain ⟨_,_,_,_,e⟩:=x;exact ⟨_,e⟩
 | tup xs=>obtain ⟨_,_,_,ob,e,_⟩:=x;exact ⟨_,e⟩
 | dK kvs=>obtain ⟨_,_,_,_,o,_,_,e,_⟩:=x;exact ⟨_,e⟩
 | dT kvs=>obtain ⟨_,_,_,_,o,_,_,e,_⟩:=x;exact ⟨_,e⟩
 | set S n=>obtain ⟨o,_,_,_,e,_⟩:=x;exact ⟨_,e⟩
 | ins C dx fs=>obtain ⟨_,_,_,e,_⟩:=x;exact ⟨_,e⟩
 | own y=>obtain ⟨_,e⟩:=x;exact ⟨_,e⟩
 | xd fs=>obtain ⟨_,⟨_,_,_,e,_⟩,_⟩:=x;exact ⟨_,e⟩
 | rng lo hi=>obtain ⟨_,_,_,e⟩:=x;exact ⟨_,e⟩
 | frz ob u=>obtain ⟨e,_⟩:=x;exact ⟨_,e⟩
 | tbl ps=>exact ⟨_,(show h.get? a=some _ from x)⟩
 | met f y=>exact ⟨_,(show h.get? a=some _ from x)⟩
 | ext φ=>obtain ⟨_,⟨_,e⟩,_⟩:=x;exact ⟨_,e⟩
def CX1 (P:Program) (w:World):CXT:=fun outer H s E e s'=>∃ (ea C:Addr) (B:Heap) (a0:Value) (H':Hp),e=.ref ea/\s'.os=s.os/\AllBare s'.gens/\Un (frs outer) [] H H' s.heap s'.heap/\HOk P w H' s'.heap/\H' ea=none ∧
 Heap.FlyingW B outer ea (.ref C) a0 s'.heap/\(∀ b o,s.heap.get? b=some o->b ∉ frs outer->H b=none->B.get? b=some o)/\(∀ b o ob,H' b=some o->s'.heap.get? b=some ob->B.get? b=some ob)/\(∀ b o,s.heap.get? b=some o->b ∉ frs outer->∃ ob,B.get? b=some ob)/\E (.ref C) none H'
def Passes1 (X:Cx) (Ex:Addr->St->Hp->Prop):Prop:=∀ pins σ H s e s' E,Inv X pins σ H s->CX1 X.prog X.w X.stack H s E e s'->(∀ C H',E (.ref C) none H'->Ex C σ H')->X.xe e s'
section
variable {P:Program} {w:World} {K:Frag} {mg:Str->Option Value} {base:Heap} {N:List Str} {qual:Str} {scope:Scope} {f:Addr} {cdv:Value} {A:Around} {outer:List Env} {s:Shared} {H:Hp} {E:XK}
end
end L2
namespace L2
open PySem PySem.Spec PySem.W PyProof.Rows
abbrev bmV:List Value:=[.type "ValueError",.type "Exception",.type "BaseException",.type "object"]
structure OwnX (K:Frag) (mg:Str->Option Value) (x:Str) (C:Addr):Prop where
 bound:mg x=some (.ref C)
 exc:excIn K C bmV "ValueError.__new__"=true
 cls:ExcCls K C
section
variable {X:Cx}
end
end L2
namespace L2
open PySem PySem.Spec PySem.W PyProof.Rows
section
variable {M:Model} {A:Around} {E:Value->Shared->Prop}
end
section
variable {X:Cx}
end
end L2
namespace DL
open PySem L2
inductive T where
 | non | bl (b:Bool) | int (i:Int) | str (x:Str) | tup (xs:List T) | lst (xs:List T) | exc (x:Str)
inductive S where
 | t (x:T) | vt (x:T) | ol (xs:List T)
def ExcAt (H:Hp) (a c:Addr):Prop:=H a=some (.ext fun h=>∃ o,h.get? a=some o/\o.cls=.ref c)
mutual
def TRep (K:PySem.W.Frag) (H:Hp):T->V->Prop
 | .non,v=>v=.non
 | .bl b,v=>v=.bl b
 | .int i,v=>v=.int i
 | .str x,v=>v=.str x
 | .tup ts,v=>∃ a xs,v=.ref a/\SqT K H a xs/\TReps K H ts xs
 | .lst ts,v=>∃ a xs,v=.ref a/\SqL K H a xs/\TReps K H ts xs
 | .exc x,v=>∃ a C,v=.ref a/\PySem.W.nsIn K mainGlobals x=some (some (.ref C))/\ExcAt H a C
def TReps (K:PySem.W.Frag) (H:Hp):List T->List V->Prop
 | [],xs=>xs=[]
 | t::ts,xs=>∃ x r,xs=x::r/\TRep K H t x/\TReps K H ts r
end
mutual
def pur:T->Bool
 | .tup ts=>purs ts
 | .lst _=>false
 | _=>true
def purs:List T->Bool
 | []=>true
 | t::ts=>pur t && purs ts
end
mutual
theorem TRep.mono {K:PySem.W.Frag} {H H':Hp} (h:∀ a xs,SqT K H a xs->SqT K H' a xs) (hl:∀ a xs,SqL K H a xs->SqL K H' a xs) (he:∀ a c,ExcAt H a c->ExcAt H' a c):∀ (t:T) (v:V),TRep K H t v->TRep K H' t v
 | .non,_,e=>e
 | .bl _,_,e=>e
 | .int _,_,e=>e
 | .str _,_,e=>e
 | .tup ts,_,⟨a,xs,e,q,r⟩=>⟨a,xs,e,h a xs q,TReps.mono h hl he ts xs r⟩
 | .lst ts,_,⟨a,xs,e,q,r⟩=>⟨a,xs,e,hl a xs q,TReps.mono h hl he ts xs r⟩
 | .exc c,_,⟨a,C,e,z,q⟩=>⟨a,C,e,z,he a C q⟩
theorem TReps.mono {K:PySem.W.Frag} {H H':Hp} (h:∀ a xs,SqT K H a xs->SqT K H' a xs) (hl:∀ a xs,SqL K H a xs->SqL K H' a xs) (he:∀ a c,ExcAt H a c->ExcAt H' a c):∀ (ts:List T) (xs:List V),TReps K H ts xs->TReps K H' ts xs
 | [],_,e=>e
 | t::ts,_,⟨x,r,e,p,q⟩=>⟨x,r,e,TRep.mono h hl he t x p,TReps.mono h hl he ts r q⟩
end
theorem Same.sqT {K:PySem.W.Frag} {H H':Hp} (e:Same H H') (a:Addr) (xs:List V) (h:SqT K H a xs):SqT K H' a xs:=by
 rcases h with (h | ⟨o,h⟩) | h
 ·exact .inl (.inl (e _ _ h))
 ·exact .inl (.inr ⟨o,e _ _ h⟩)
 ·exact .inr h
theorem TRep.same {K:PySem.W.Frag} {H H':Hp} (e:Same H H') {t:T} {v:V} (h:TRep K H t v):TRep K H' t v:=TRep.mono (fun a xs q=>Same.sqT e a xs q) (fun a xs q=>e.seq q) (fun a c q=>e _ _ q) t v h
theorem TReps.same {K:PySem.W.Frag} {H H':Hp} (e:Same H H') {ts:List T} {xs:List V} (h:TReps K H ts xs):TReps K H' ts xs:=TReps.mono (fun a xs q=>Same.sqT e a xs q) (fun a xs q=>e.seq q) (fun a c q=>e _ _ q) ts xs h
def Full (F H:Hp):Prop:=∀ b o,H b=some o->F b=some o\/∃ xs,o=.lst xs
theorem Full.sqT {K:PySem.W.Frag} {F H:Hp} (f:Full F H) (a:Addr) (xs:List V) (h:SqT K H a xs):SqT K F a xs:=by
 rcases h with (h | ⟨o,h⟩) | h
 ·rcases f _ _ h with q | ⟨ys,q⟩
  ·exact .inl (.inl q)
  ·cases q
 ·rcases f _ _ h with q | ⟨ys,q⟩
  ·exact .inl (.inr ⟨o,q⟩)
  ·cases q
 ·exact .inr h
theorem Full.exc {F H:Hp} (f:Full F H) {a c:Addr} (h:ExcAt H a c):ExcAt F a c:=by
 rcases f _ _ h with q | ⟨ys,q⟩
 ·exact q
 ·cases q
mutual
theorem TRep.fullM {K:PySem.W.Frag} {F H:Hp} (e:Full F H):∀ (t:T) (v:V),pur t=true->TRep K H t v->TRep K F t v
 | .non,_,_,h=>h
 | .bl _,_,_,h=>h
 | .int _,_,_,h=>h
 | .str _,_,_,h=>h
 | .tup ts,_,p,⟨a,xs,h1,h2,h3⟩=>⟨a,xs,h1,e.sqT a xs h2,TReps.fullM e ts xs (by simpa only [pur] using p) h3⟩
 | .lst _,_,p,_=>by simp [pur] at p
 | .exc _,_,_,⟨a,C,h1,z,h2⟩=>⟨a,C,h1,z,e.exc h2⟩
theorem TReps.fullM {K:PySem.W.Frag} {F H:Hp} (e:Full F H):∀ (ts:List T) (xs:List V),purs ts=true->TReps K H ts xs->TReps K F ts xs
 | [],_,_,h=>h
 | t::ts,_,p,⟨x,r,h1,h2,h3⟩=>by
  simp only [purs,Bool.and_eq_true] at p
  exact ⟨x,r,h1,TRep.fullM e t x p.1 h2,TReps.fullM e ts r p.2 h3⟩
end
theorem TRep.full {K:PySem.W.Frag} {F H:Hp} (e:Full F H) {t:T} {v:V} (p:pur t=true) (h:TRep K H t v):TRep K F t v:=TRep.fullM e t v p h
theorem TReps.full {K:PySem.W.Frag} {F H:Hp} (e:Full F H) {ts:List T} {xs:List V} (p:purs ts=true) (h:TReps K H ts xs):TReps K F ts xs:=TReps.fullM e ts xs p h
def norm (x:T):S:=if pur x=true then .t x else .vt x
theorem TReps.length {K:PySem.W.Frag} {H:Hp}:∀ {ts:List T} {xs:List V},TReps K H ts xs->xs.length=ts.length
 | [],_,e=>by cases (show _=[] from e);rfl
 | t::ts,_,⟨x,r,e,_,q⟩=>by subst e;rw [List.length_cons,List.length_cons,TReps.length q]
theorem TReps.get {K:PySem.W.Frag} {H:Hp}:∀ {ts:List T} {xs:List V} {i:Nat} {t:T},TReps K H ts xs->ts[i]?=some t->∃ x,xs[i]?=some x/\TRep K H t x
 | [],_,_,_,_,e=>by simp at e
 | t::ts,_,0,u,⟨x,r,e,p,q⟩,h=>by subst e;simp at h;subst h;exact ⟨x,by simp,p⟩
 | t::ts,_,i + 1,u,⟨x,r,e,p,q⟩,h=>by
  subst e
  obtain ⟨y,h1,h2⟩:=TReps.get (i:=i) q (by simpa using h)
  exact ⟨y,by simpa using h1,h2⟩
theorem TReps.append {K:PySem.W.Frag} {H:Hp}:∀ {ts us:List T} {xs ys:List V},TReps K H ts xs->TReps K H us ys->TReps K H (ts++us) (xs++ys)
 | [],_,_,_,e,q=>by cases (show _=[] from e);exact q
 | t::ts,_,_,_,⟨x,r,e,p,q⟩,h=>by subst e;exact ⟨x,r++_,rfl,p,TReps.append q h⟩
theorem TReps.one {K:PySem.W.Frag} {H:Hp} {t:T} {x:V} (h:TRep K H t x):TReps K H [t] [x]:=⟨x,[],rfl,h,rfl⟩
theorem TReps.take {K:PySem.W.Frag} {H:Hp}:∀ {ts:List T} {xs:List V} (n:Nat),TReps K H ts xs->TReps K H (ts.take n) (xs.take n)
 | _,_,0,_=>by simp only [List.take_zero];rfl
 | [],_,_ + 1,e=>by cases (show _=[] from e);rfl
 | t::ts,_,n + 1,⟨x,r,e,p,q⟩=>by subst e;exact ⟨x,r.take n,rfl,p,TReps.take n q⟩
theorem TReps.drop {K:PySem.W.Frag} {H:Hp}:∀ {ts:List T} {xs:List V} (n:Nat),TReps K H ts xs->TReps K H (ts.drop n) (xs.drop n)
 | _,_,0,h=>by simp only [List.drop_zero];exact h
 | [],_,_ + 1,e=>by cases (show _=[] from e);rfl
 | t::ts,_,n + 1,⟨x,r,e,p,q⟩=>by subst e;exact TReps.drop n q
theorem TReps.set {K:PySem.W.Frag} {H:Hp} {u:T} {y:V} (h:TRep K H u y):∀ {ts:List T} {xs:List V} (n:Nat),TReps K H ts xs->TReps K H (ts.set n u) (xs.set n y)
 | [],_,_,e=>by cases (show _=[] from e);rfl
 | t::ts,_,0,⟨x,r,e,p,q⟩=>by subst e;exact ⟨y,r,rfl,h,q⟩
 | t::ts,_,n + 1,⟨x,r,e,p,q⟩=>by subst e;exact ⟨x,r.set n y,rfl,p,TReps.set h n q⟩
theorem TReps.dropLast {K:PySem.W.Frag} {H:Hp} {ts:List T} {xs:List V} (h:TReps K H ts xs):TReps K H ts.dropLast xs.dropLast:=by
 rw [List.dropLast_eq_take,List.dropLast_eq_take,h.length]
 exact h.take _
theorem TReps.reverse {K:PySem.W.Frag} {H:Hp}:∀ {ts:List T} {xs:List V},TReps K H ts xs->TReps K H ts.reverse xs.reverse
 | [],_,e=>by cases (show _=[] from e);rfl
 | t::ts,_,⟨x,r,e,p,q⟩=>by subst e;rw [List.reverse_cons,List.reverse_cons];exact TReps.append (TReps.reverse q) (TReps.one p)
theorem TReps.ints {K:PySem.W.Frag} {H:Hp}:∀ (ns:List Int),TReps K H (ns.map T.int) (ns.map V.int)
 | []=>rfl
 | n::ns=>⟨.int n,ns.map V.int,rfl,rfl,TReps.ints ns⟩
abbrev DSt:=List (Option S)
abbrev WE:=DSt->(S->Prop)->Prop
abbrev WT:=DSt->(Bool->Prop)->Prop
abbrev WA:=DSt->(List S->Prop)->Prop
structure DEnds where
 nx:DSt->Prop
 rt:S->Prop
 bk:DSt->Prop:=fun _=>False
 ct:DSt->Prop:=fun _=>False
abbrev WS:=DEnds->DSt->Prop
def SlotOk (K:PySem.W.Frag) (F H:Hp):S->V->Prop
 | .t x,v=>TRep K F x v
 | .vt _,_=>False
 | .ol ts,v=>∃ a xs,v=.ref a/\F a=none/\H a=some (.lst xs)/\TReps K F ts xs
structure Rel (K:PySem.W.Frag) (F H:Hp) (σ:St) (δ:DSt):Prop where
 sub:Same F H
 full:Full F H
 len:σ.length=δ.length
 slot:∀ (i:Nat) (s:S),δ[i]?=some (some s)->∃ v,σ[i]?=some (some v)/\SlotOk K F H s v
 dist:∀ (i j:Nat) (a:Addr) (ts us:List T),i ≠ j->δ[i]?=some (some (.ol ts))->δ[j]?=some (some (.ol us))->σ[i]?=some (some (.ref a))->σ[j]? ≠ some (some (.ref a))
structure Ext (F H F' H':Hp):Prop where
 hh:Same H H'
 ff:Same F F'
 sub:Same F' H'
 full:Full F' H'
 keep:∀ b,H b ≠ none->F b=none->F' b=none
theorem none_of_same {H H':Hp} (e:Same H H') {b:Addr} (h:H' b=none):H b=none:=e.free h
theorem Ext.refl {F H:Hp} (a:Same F H) (b:Full F H):Ext F H F H:=⟨Same.refl _,Same.refl _,a,b,fun _ _ h=>h⟩
theorem Ext.trans {F H F1 H1 F2 H2:Hp} (a:Ext F H F1 H1) (b:Ext F1 H1 F2 H2):Ext F H F2 H2:=
 ⟨a.hh.trans b.hh,a.ff.trans b.ff,b.sub,b.full,fun c h1 h2=>b.keep c (fun z=>h1 (none_of_same a.hh z)) (a.keep c h1 h2)⟩
theorem SlotOk.ext {K:PySem.W.Frag} {F H F' H':Hp} (e:Ext F H F' H'):∀ {s:S} {v:V},SlotOk K F H s v->SlotOk K F' H' s v
 | .t _,_,h=>TRep.same e.ff h
 | .vt _,_,h=>h
 | .ol _,_,⟨a,xs,h1,h2,h3,h4⟩=>⟨a,xs,h1,e.keep a (by rw [h3];simp) h2,e.hh _ _ h3,TReps.same e.ff h4⟩
theorem Rel.ext {K:PySem.W.Frag} {F H F' H':Hp} {σ:St} {δ:DSt} (r:Rel K F H σ δ) (e:Ext F H F' H'):Rel K F' H' σ δ:=
 ⟨e.sub,e.full,r.len,fun i s h=>let ⟨v,h1,h2⟩:=r.slot i s h;⟨v,h1,h2.ext e⟩,r.dist⟩
theorem Rel.refl {K:PySem.W.Frag} {F H:Hp} {σ:St} {δ:DSt} (r:Rel K F H σ δ):Ext F H F H:=Ext.refl r.sub r.full
def RepE (K:PySem.W.Frag) (H F' H':Hp):S->V->Prop
 | .t x,v=>TRep K F' x v
 | .vt x,v=>TRep K H' x v
 | .ol ts,v=>∃ a xs,v=.ref a/\H a=none/\F' a=none/\H' a=some (.lst xs)/\TReps K F' ts xs
theorem RepE.ext {K:PySem.W.Frag} {H F1 H1 F2 H2:Hp} (e:Ext F1 H1 F2 H2):∀ {s:S} {v:V},RepE K H F1 H1 s v->RepE K H F2 H2 s v
 | .t _,_,h=>TRep.same e.ff h
 | .vt _,_,h=>TRep.same e.hh h
 | .ol _,_,⟨a,xs,h1,h2,h3,h4⟩=>⟨a,xs,h1,h2,e.keep a (by rw [h4.1];simp) h3,e.hh _ _ h4.1,TReps.same e.ff h4.2⟩
theorem RepE.start {K:PySem.W.Frag} {H0 H F' H':Hp} (e:Same H0 H):∀ {s:S} {v:V},RepE K H F' H' s v->RepE K H0 F' H' s v
 | .t _,_,h=>h
 | .vt _,_,h=>h
 | .ol _,_,⟨a,xs,h1,h2,h3⟩=>⟨a,xs,h1,none_of_same e h2,h3⟩
theorem RepE.norm {K:PySem.W.Frag} {H F H':Hp} (f:Full F H') {x:T} {v:V} (h:TRep K H' x v):RepE K H F H' (norm x) v:=by
 unfold DL.norm
 split
 ·rename_i p;exact TRep.full f p h
 ·exact h
def RepV (K:PySem.W.Frag) (F H:Hp):S->V->Prop
 | .t x,v=>TRep K F x v
 | .vt x,v=>TRep K H x v
 | .ol ts,v=>∃ a xs,v=.ref a/\SqL K H a xs/\TReps K F ts xs
theorem RepE.val {K:PySem.W.Frag} {H0 F H:Hp} (e:Same F H):∀ {s:S} {v:V},RepE K H0 F H s v->RepV K F H s v
 | .t _,_,h=>h
 | .vt _,_,h=>h
 | .ol _,_,⟨a,xs,h1,_,_,h2,h3⟩=>⟨a,xs,h1,SqL.of h2,h3⟩
def tr:S->T
 | .t x=>x
 | .vt x=>x
 | .ol ts=>.lst ts
theorem RepV.tree {K:PySem.W.Frag} {F H:Hp} (e:Same F H):∀ {s:S} {v:V},RepV K F H s v->TRep K H (tr s) v
 | .t _,_,h=>TRep.same e h
 | .vt _,_,h=>h
 | .ol _,_,⟨a,xs,h1,h2,h3⟩=>⟨a,xs,h1,h2,TReps.same e h3⟩
def items:S->Option (List T)
 | .t (.lst ts)=>some ts
 | .vt (.lst ts)=>some ts
 | .ol ts=>some ts
 | _=>none
theorem RepV.list {K:PySem.W.Frag} {F H:Hp} (e:Same F H) {s:S} {v:V} {ts:List T} (h:RepV K F H s v) (q:items s=some ts):∃ a xs,v=.ref a/\SqL K H a xs/\TReps K H ts xs:=by
 cases s with
 | t x=>
  cases x with
  | lst us=>
   have e1:us=ts:=Option.some.inj q
   subst e1
   unfold RepV TRep at h
   obtain ⟨a,xs,h1,h2,h3⟩:=h
   exact ⟨a,xs,h1,e.seq h2,TReps.same e h3⟩
  | _=>cases q
 | vt x=>
  cases x with
  | lst us=>
   have e1:us=ts:=Option.some.inj q
   subst e1
   unfold RepV TRep at h
   exact h
  | _=>cases q
 | ol us=>
  have e1:us=ts:=Option.some.inj q
  subst e1
  unfold RepV at h
  obtain ⟨a,xs,h1,h2,h3⟩:=h
  exact ⟨a,xs,h1,h2,TReps.same e h3⟩
def liftE (K:PySem.W.Frag) (w:WE):TE:=fun σ H Q=>∃ δ R F,Rel K F H σ δ/\w δ R/\∀ v F' H' s,Ext F H F' H'->RepE K H F' H' s v->R s->Q v H'
def liftT (K:PySem.W.Frag) (w:WT):TT:=fun σ H Q=>∃ δ R F,Rel K F H σ δ/\w δ R/\∀ F' H' b,Ext F H F' H'->R b->Q b H'
def RepEs (K:PySem.W.Frag) (H F' H':Hp):List S->List V->Prop
 | [],vs=>vs=[]
 | s::ss,vs=>∃ v r,vs=v::r/\RepE K H F' H' s v/\RepEs K H F' H' ss r
theorem RepEs.start {K:PySem.W.Frag} {H0 H F' H':Hp} (e:Same H0 H):∀ {ss:List S} {vs:List V},RepEs K H F' H' ss vs->RepEs K H0 F' H' ss vs
 | [],_,h=>h
 | _::_,_,⟨v,r,h1,h2,h3⟩=>⟨v,r,h1,h2.start e,RepEs.start e h3⟩
def liftA (K:PySem.W.Frag) (w:WA):TA:=fun σ H Q=>∃ δ R F,Rel K F H σ δ/\w δ R/\∀ vs F' H' ss,Ext F H F' H'->RepEs K H F' H' ss vs->R ss->Q vs H'
def RepC (K:PySem.W.Frag) (H₀ H':Hp):S->V->Prop
 | .t x,v=>TRep K H' x v
 | .vt _,_=>False
 | .ol ts,v=>∃ a xs,v=.ref a/\H₀ a=none/\H' a=some (.lst xs)/\TReps K H' ts xs
structure EndsOk (K:PySem.W.Frag) (H₀ F:Hp) (D':DEnds) (D:Ends):Prop where
 nx:∀ σ' F' H' δ',Same F F'->Rel K F' H' σ' δ'->D'.nx δ'->D.nx σ' H'
 rt:∀ v H' s,Same H₀ H'->RepC K H₀ H' s v->D'.rt s->D.rt v H'
 bk:∀ σ' F' H' δ',Same F F'->Rel K F' H' σ' δ'->D'.bk δ'->D.bk σ' H'
 ct:∀ σ' F' H' δ',Same F F'->Rel K F' H' σ' δ'->D'.ct δ'->D.ct σ' H'
theorem EndsOk.mono {K:PySem.W.Frag} {H₀ F F1:Hp} {D':DEnds} {D:Ends} (e:EndsOk K H₀ F D' D) (s:Same F F1):EndsOk K H₀ F1 D' D:=
 ⟨fun _ _ _ _ h=>e.nx _ _ _ _ (s.trans h),e.rt,fun _ _ _ _ h=>e.bk _ _ _ _ (s.trans h),fun _ _ _ _ h=>e.ct _ _ _ _ (s.trans h)⟩
def liftS (K:PySem.W.Frag) (H₀:Hp) (w:WS):TS:=fun D σ H=>∃ δ D' F,Same H₀ F/\Rel K F H σ δ/\w D' δ/\EndsOk K H₀ F D' D
end DL
namespace L2
open PySem
section
variable {X:Cx} {e:Expr} {t t':TE}
theorem PE.imp (h:PE X e t) (i:∀ σ H Q,t' σ H Q->t σ H Q):PE X e t':=fun pins s σ H Q I q=>h pins s σ H Q I (i σ H Q q)
theorem PT.imp {t t':TT} (h:PT X e t) (i:∀ σ H Q,t' σ H Q->t σ H Q):PT X e t':=fun pins s σ H Q I q=>h pins s σ H Q I (i σ H Q q)
theorem PW.imp {t t':TT} (h:PW X e t) (i:∀ σ H Q,t' σ H Q->t σ H Q):PW X e t':=fun wh pins s σ H Q I q=>h wh pins s σ H Q I (i σ H Q q)
theorem PA.imp {es:List Expr} {t t':TA} (h:PA X es t) (i:∀ σ H Q,t' σ H Q->t σ H Q):PA X es t':=fun pos pins s σ H Q I q=>h pos pins s σ H Q I (i σ H Q q)
theorem PS.imp {st:Stmt} {t t':TS} (h:PS X st t) (i:∀ D σ H,t' D σ H->t D σ H):PS X st t':=fun pins s σ H D I q=>h pins s σ H D I (i D σ H q)
theorem PSs.imp {st:List Stmt} {t t':TS} (h:PSs X st t) (i:∀ D σ H,t' D σ H->t D σ H):PSs X st t':=fun pins s σ H D I q=>h pins s σ H D I (i D σ H q)
theorem PG.imp {tg:Expr} {t t':TG} (h:PG X tg t) (i:∀ v σ H Q,t' v σ H Q->t v σ H Q):PG X tg t':=fun pins s σ H v u Q I r q=>h pins s σ H v u Q I r (i v σ H Q q)
theorem PGs.imp {tg:List Expr} {t t':TGs} (h:PGs X tg t) (i:∀ v σ H Q,t' v σ H Q->t v σ H Q):PGs X tg t':=fun pins s σ H v u Q I r q=>h pins s σ H v u Q I r (i v σ H Q q)
theorem PI.imp {tg iter:Expr} {t t':TI} (h:PI X tg iter t) (i:∀ σ H Q,t' σ H Q->t σ H Q):PI X tg iter t':=fun pins s σ H R I q=>h pins s σ H R I (i σ H R q)
end
end L2
namespace DL
open PySem L2
def wC (x:T):WE:=fun _ R=>R (.t x)
def seen:S->S
 | .ol ts=>.vt (.lst ts)
 | .t x=>.t x
 | .vt x=>.vt x
def wVar (i:Nat):WE:=fun δ R=>match δ[i]? with
 | some (some s)=>R (seen s)
 | _=>False
section
variable {X:Cx} {a b c:Expr} {wa wb wc:WE} {pos:Pos}
theorem de_int {i j pos}:PE X (.Constant (.int i) j pos) (liftE X.K (wC (.int i))):=pe_int.imp fun _ _ _ ⟨_,_,_,r,h,k⟩=>k _ _ _ (.t (.int i)) r.refl rfl h
theorem de_bl {i j pos}:PE X (.Constant (.bool i) j pos) (liftE X.K (wC (.bl i))):=pe_bl.imp fun _ _ _ ⟨_,_,_,r,h,k⟩=>k _ _ _ (.t (.bl i)) r.refl rfl h
theorem seen_ok {K:PySem.W.Frag} {F H:Hp} (e:Same F H):∀ {s:S} {v:V},SlotOk K F H s v->RepE K H F H (seen s) v
 | .t _,_,h=>h
 | .vt _,_,h=>False.elim h
 | .ol _,_,⟨a,xs,h1,_,h3,h4⟩=>⟨a,xs,h1,SqL.of h3,TReps.same e h4⟩
theorem de_of_var {e:Expr} {i:Nat} (h:PE X e (tVar i)):PE X e (liftE X.K (wVar i)):=h.imp fun σ H Q ⟨δ,R,F,r,h,k⟩=>by
 unfold wVar at h
 split at h
 ·rename_i s hs
  obtain ⟨v,h1,h2⟩:=r.slot i s hs
  exact ⟨v,h1,k _ _ _ _ r.refl (seen_ok r.sub h2) h⟩
 ·exact h.elim
theorem dv (i:Nat) {x:Str} {pos:Pos} (hN:X.N[i]?=some x:=by rfl) (hv:Vis X.env.scope x:=by first | exact Or.inl rfl | exact Or.inr (Or.inl rfl) | exact Or.inr (Or.inr rfl)) (hd:(x == ("__debug__":Str))=false:=by decide)
  (hcd:(x == ("__classdict__":Str))=false:=by decide):PE X (.Name x pos) (liftE X.K (wVar i)):=de_of_var (pe_var hN hv hd hcd)
def wOp2 (f:S->S->(S->Prop)->Prop) (wa wb:WE):WE:=fun δ R=>wa δ fun x=>wb δ fun y=>f x y R
def Op2 (K:PySem.W.Frag) (r:R2) (f:S->S->(S->Prop)->Prop):Prop:=
 ∀ F H s1 s2 v1 v2 R Q,Same F H->Full F H->RepV K F H s1 v1->RepV K F H s2 v2->f s1 s2 R->(∀ v F' H' s,Ext F H F' H'->RepE K H F' H' s v->R s->Q v H')->r v1 v2 H Q
theorem lift_op2 {K:PySem.W.Frag} {r:R2} {f:S->S->(S->Prop)->Prop} (ho:Op2 K r f):∀ σ H Q,liftE K (wOp2 f wa wb) σ H Q->tOp r (liftE K wa) (liftE K wb) σ H Q:=by
 rintro σ H Q ⟨δ,R,F,rl,h,k⟩
 refine ⟨δ,_,F,rl,h,fun v1 F1 H1 s1 e1 p1 h1=>?_⟩
 refine ⟨δ,_,F1,rl.ext e1,h1,fun v2 F2 H2 s2 e2 p2 h2=>?_⟩
 refine ho F2 H2 s1 s2 v1 v2 R Q e2.sub e2.full ((p1.ext e2).val e2.sub) (p2.val e2.sub) h2 fun v F' H' s e p q=>?_
 exact k v F' H' s ((e1.trans e2).trans e) (p.start (e1.trans e2).hh) q
def fI (C:Int->Int->Prop) (g:Int->Int->T):S->S->(S->Prop)->Prop
 | .t (.int i),.t (.int j),R=>C i j/\R (.t (g i j))
 | _,_,_=>False
def fI0 (g:Int->Int->T):S->S->(S->Prop)->Prop
 | .t (.int i),.t (.int j),R=>R (.t (g i j))
 | _,_,_=>False
theorem fI_ints {C:Int->Int->Prop} {g:Int->Int->T}:∀ {s1 s2:S} {R:S->Prop},fI C g s1 s2 R->∃ i j,s1=.t (.int i)/\s2=.t (.int j)/\C i j/\R (.t (g i j))
 | .t (.int i),.t (.int j),_,h=>⟨i,j,rfl,rfl,h.1,h.2⟩
theorem fI0_ints {g:Int->Int->T}:∀ {s1 s2:S} {R:S->Prop},fI0 g s1 s2 R->∃ i j,s1=.t (.int i)/\s2=.t (.int j)/\R (.t (g i j))
 | .t (.int i),.t (.int j),_,h=>⟨i,j,rfl,rfl,h⟩
def toV:T->V
 | .bl b=>.bl b
 | .int i=>.int i
 | .str x=>.str x
 | _=>.non
def flat:T->Bool
 | .tup _=>false
 | .lst _=>false
 | .exc _=>false
 | _=>true
theorem flat_rep {K:PySem.W.Frag} {F:Hp}:∀ {x:T},flat x=true->TRep K F x (toV x)
 | .non,_=>rfl
 | .bl _,_=>rfl
 | .int _,_=>rfl
 | .str _,_=>rfl
theorem op2_I {K:PySem.W.Frag} {C:Int->Int->Prop} {g:Int->Int->T} (hg:∀ i j,flat (g i j)=true):Op2 K (rI C fun i j=>toV (g i j)) (fI C g):=by
 intro F H s1 s2 v1 v2 R Q sb fu p1 p2 h k
 obtain ⟨i,j,rfl,rfl,hc,hr⟩:=fI_ints h
 exact ⟨i,j,p1,p2,hc,k _ F H (.t (g i j)) (Ext.refl sb fu) (flat_rep (hg i j)) hr⟩
theorem op2_I0 {K:PySem.W.Frag} {g:Int->Int->T} (hg:∀ i j,flat (g i j)=true):Op2 K (rI0 fun i j=>toV (g i j)) (fI0 g):=by
 intro F H s1 s2 v1 v2 R Q sb fu p1 p2 h k
 obtain ⟨i,j,rfl,rfl,hr⟩:=fI0_ints h
 exact ⟨i,j,p1,p2,k _ F H (.t (g i j)) (Ext.refl sb fu) (flat_rep (hg i j)) hr⟩
abbrev wAdd:=wOp2 (fI0 fun i j=>.int (i + j))
abbrev wSub:=wOp2 (fI0 fun i j=>.int (i - j))
structure MulOk (i j:Int):Prop where
 ok:IntMulOk i j
structure PowOk (i j:Int):Prop where
 ok:CPow i j
abbrev wMul:=wOp2 (fI MulOk fun i j=>.int (i*j))
structure DivOk (i j:Int):Prop where
 ne:j ≠ 0
 short:Builtin.divisionGoesByPylong i j=false
abbrev wFdiv:=wOp2 (fI DivOk fun i j=>.int (i.fdiv j))
abbrev wMod:=wOp2 (fI (fun _ j=>j ≠ 0) fun i j=>.int (i.fmod j))
abbrev wPow:=wOp2 (fI PowOk fun i j=>.int (i ^ j.toNat))
theorem op_mulW:OpR X (binaryOp .Mult) (rI MulOk fun i j=>.int (i*j)):=opI fun _ _ _ _ _ _ _ hc q=>PyProof.Rows.mul_int q hc.ok
theorem op_fdivW:OpR X (binaryOp .FloorDiv) (rI DivOk fun i j=>.int (i.fdiv j)):=opI fun _ _ _ _ _ _ _ hc q=>PyProof.Rows.floordiv_int hc.ne q (.inl hc.short)
theorem de_add (ha:PE X a (liftE X.K wa)) (hb:PE X b (liftE X.K wb)):PE X (.BinOp a .Add b pos) (liftE X.K (wAdd wa wb)):=(pe_op op_add ha hb).imp (lift_op2 (op2_I0 fun _ _=>rfl))
theorem de_sub (ha:PE X a (liftE X.K wa)) (hb:PE X b (liftE X.K wb)):PE X (.BinOp a .Sub b pos) (liftE X.K (wSub wa wb)):=(pe_op op_sub ha hb).imp (lift_op2 (op2_I0 fun _ _=>rfl))
theorem de_mul (ha:PE X a (liftE X.K wa)) (hb:PE X b (liftE X.K wb)):PE X (.BinOp a .Mult b pos) (liftE X.K (wMul wa wb)):=(pe_op op_mulW ha hb).imp (lift_op2 (op2_I fun _ _=>rfl))
theorem de_fdiv (ha:PE X a (liftE X.K wa)) (hb:PE X b (liftE X.K wb)):PE X (.BinOp a .FloorDiv b pos) (liftE X.K (wFdiv wa wb)):=(pe_op op_fdivW ha hb).imp (lift_op2 (op2_I fun _ _=>rfl))
theorem de_mod (ha:PE X a (liftE X.K wa)) (hb:PE X b (liftE X.K wb)):PE X (.BinOp a .Mod b pos) (liftE X.K (wMod wa wb)):=(pe_op op_modN ha hb).imp (lift_op2 (op2_I fun _ _=>rfl))
theorem de_pow (ha:PE X a (liftE X.K wa)) (hb:PE X b (liftE X.K wb)):PE X (.BinOp a .Pow b pos) (liftE X.K (wPow wa wb)):=(pe_op (show OpR X (binaryOp .Pow) (rI PowOk fun i j=>.int (i ^ j.toNat)) from fun pins s σ H x y v u Q I rx ry ⟨i,j,e1,e2,hc,q⟩=>op_pow pins s σ H x y v u Q I rx ry ⟨i,j,e1,e2,hc.ok,q⟩) ha hb).imp (lift_op2 (op2_I fun _ _=>rfl))
abbrev wLt:=wOp2 (fI0 fun i j=>.bl (decide (i < j)))
abbrev wLe:=wOp2 (fI0 fun i j=>.bl (decide (i<=j)))
abbrev wGt:=wOp2 (fI0 fun i j=>.bl (decide (j < i)))
abbrev wGe:=wOp2 (fI0 fun i j=>.bl (decide (j<=i)))
theorem de_lt (ha:PE X a (liftE X.K wa)) (hb:PE X b (liftE X.K wb)):PE X (.Compare a [.Lt] [b] pos) (liftE X.K (wLt wa wb)):=(pe_cmpR op_lt ha hb (nomark _)).imp (lift_op2 (op2_I0 fun _ _=>rfl))
def wB (w:WE):WT:=fun δ R=>w δ fun s=>match s with
 | .t (.bl k)=>R k
 | _=>False
theorem dt_cmp {op:CmpOp} {r:R2} {f:S->S->(S->Prop)->Prop} (ho:OpR X (compareOp op) r) (hf:Op2 X.K r f) (ha:PE X a (liftE X.K wa)) (hb:PE X b (liftE X.K wb)) (hm:behindInMarks op b=false):PT X (.Compare a [op] [b] pos) (liftT X.K (wB (wOp2 f wa wb))):=
 (pt_cmpR ho ha hb hm).imp fun σ H Q h=>by
  obtain ⟨δ,R,F,rl,h,k⟩:=h
  refine lift_op2 hf σ H _ ⟨δ,_,F,rl,h,fun v F1 H1 s e p q=>?_⟩
  split at q
  ·exact ⟨_,p,k F1 H1 _ e q⟩
  ·exact q.elim
theorem dt_lt (ha:PE X a (liftE X.K wa)) (hb:PE X b (liftE X.K wb)):PT X (.Compare a [.Lt] [b] pos) (liftT X.K (wB (wLt wa wb))):=dt_cmp op_lt (op2_I0 fun _ _=>rfl) ha hb (nomark _)
theorem dt_le (ha:PE X a (liftE X.K wa)) (hb:PE X b (liftE X.K wb)):PT X (.Compare a [.LtE] [b] pos) (liftT X.K (wB (wLe wa wb))):=dt_cmp op_le (op2_I0 fun _ _=>rfl) ha hb (nomark _)
theorem dt_gt (ha:PE X a (liftE X.K wa)) (hb:PE X b (liftE X.K wb)):PT X (.Compare a [.Gt] [b] pos) (liftT X.K (wB (wGt wa wb))):=dt_cmp op_gt (op2_I0 fun _ _=>rfl) ha hb (nomark _)
theorem dt_ge (ha:PE X a (liftE X.K wa)) (hb:PE X b (liftE X.K wb)):PT X (.Compare a [.GtE] [b] pos) (liftT X.K (wB (wGe wa wb))):=dt_cmp op_ge (op2_I0 fun _ _=>rfl) ha hb (nomark _)
theorem dt_val {e:Expr} {w:WE} (h:PE X e (liftE X.K w)) (he:∀ whole,isTrue e X.env whole=(do let v ← whole;standAt e.pos;holding [v] (truthy v)):=by intro _;rfl):PT X e (liftT X.K (wB w)):=
 (pt_val h he).imp fun σ H Q h=>by
  obtain ⟨δ,R,F,rl,h,k⟩:=h
  refine ⟨δ,_,F,rl,h,fun v F1 H1 s e p q=>?_⟩
  split at q
  ·exact ⟨_,p,k F1 H1 _ e q⟩
  ·exact q.elim
def wAndT (t u:WT):WT:=fun δ R=>t δ fun k=>if k=true then u δ R else R false
def wOrT (t u:WT):WT:=fun δ R=>t δ fun k=>if k=true then R true else u δ R
def wNotT (t:WT):WT:=fun δ R=>t δ fun k=>R (!k)
theorem dw_and1 {t:WT} (ha:PT X a (liftT X.K t)):PW X (.BoolOp .And [a] pos) (liftT X.K t):=pw_and1 ha
theorem dw_or1 {t:WT} (ha:PT X a (liftT X.K t)):PW X (.BoolOp .Or [a] pos) (liftT X.K t):=pw_or1 ha
theorem dw_and {rest:List Expr} {t u:WT} (ha:PT X a (liftT X.K t)) (hb:PW X (.BoolOp .And (b::rest) pos) (liftT X.K u)):PW X (.BoolOp .And (a::b::rest) pos) (liftT X.K (wAndT t u)):=
 (pw_and ha hb).imp fun σ H Q ⟨δ,R,F,rl,h,k⟩=>⟨δ,_,F,rl,h,fun F1 H1 c e q=>by
  cases c with
  | true=>exact ⟨δ,R,F1,rl.ext e,by simpa using q,fun F2 H2 c e2 q=>k F2 H2 c (e.trans e2) q⟩
  | false=>exact k F1 H1 false e (by simpa using q)⟩
theorem dw_or {rest:List Expr} {t u:WT} (ha:PT X a (liftT X.K t)) (hb:PW X (.BoolOp .Or (b::rest) pos) (liftT X.K u)):PW X (.BoolOp .Or (a::b::rest) pos) (liftT X.K (wOrT t u)):=
 (pw_or ha hb).imp fun σ H Q ⟨δ,R,F,rl,h,k⟩=>⟨δ,_,F,rl,h,fun F1 H1 c e q=>by
  cases c with
  | false=>exact ⟨δ,R,F1,rl.ext e,by simpa using q,fun F2 H2 c e2 q=>k F2 H2 c (e.trans e2) q⟩
  | true=>exact k F1 H1 true e (by simpa using q)⟩
theorem dt_not {t:WT} (ha:PT X a (liftT X.K t)):PT X (.UnaryOp .Not a pos) (liftT X.K (wNotT t)):=
 (pt_not ha).imp fun σ H Q ⟨δ,R,F,rl,h,k⟩=>⟨δ,_,F,rl,h,fun F1 H1 c e q=>k F1 H1 (!c) e q⟩
def wT1 (t:WT):WT:=fun δ R=>∃ P:Bool->Prop,t δ P/\∀ k,P k->R k
theorem dt_1 {t:WT} (ha:PT X a (liftT X.K t)):PT X a (liftT X.K (wT1 t)):=ha.imp fun σ H Q ⟨δ,R,F,rl,⟨P,h,k1⟩,k⟩=>⟨δ,P,F,rl,h,fun F1 H1 c e q=>k F1 H1 c e (k1 c q)⟩
def wAndV (wa wb:WE):WE:=fun δ R=>wa δ fun s=>match s with
 | .t (.bl k)=>if k=true then wb δ R else R (.t (.bl false))
 | _=>False
def wOrV (wa wb:WE):WE:=fun δ R=>wa δ fun s=>match s with
 | .t (.bl k)=>if k=true then R (.t (.bl true)) else wb δ R
 | _=>False
def wNotV (wa:WE):WE:=fun δ R=>wa δ fun s=>match s with
 | .t (.bl k)=>R (.t (.bl (!k)))
 | _=>False
def wIfE (c:WT) (wa wb:WE):WE:=fun δ R=>c δ fun k=>if k=true then wa δ R else wb δ R
theorem de_one {op} (h:PE X a (liftE X.K wa)):PE X (.BoolOp op [a] pos) (liftE X.K wa):=pe_one h
theorem de_and {rest:List Expr} (ha:PE X a (liftE X.K wa)) (hb:PE X (.BoolOp .And (b::rest) pos) (liftE X.K wb)):PE X (.BoolOp .And (a::b::rest) pos) (liftE X.K (wAndV wa wb)):=
 (pe_and ha hb).imp fun σ H Q ⟨δ,R,F,rl,h,k⟩=>⟨δ,_,F,rl,h,fun v F1 H1 s e p q=>by
  split at q
  ·rename_i c
   refine ⟨c,p,?_⟩
   cases c with
   | true=>exact ⟨δ,R,F1,rl.ext e,by simpa using q,fun v F2 H2 s e2 p q=>k v F2 H2 s (e.trans e2) (p.start e.hh) q⟩
   | false=>exact k _ F1 H1 (.t (.bl false)) e rfl (by simpa using q)
  ·exact q.elim⟩
theorem de_not (ha:PE X a (liftE X.K wa)):PE X (.UnaryOp .Not a pos) (liftE X.K (wNotV wa)):=
 (pe_not ha).imp fun σ H Q ⟨δ,R,F,rl,h,k⟩=>⟨δ,_,F,rl,h,fun v F1 H1 s e p q=>by
  split at q
  ·exact ⟨_,p,k _ F1 H1 (.t (.bl _)) e rfl q⟩
  ·exact q.elim⟩
def wUn (f:S->(S->Prop)->Prop) (wa:WE):WE:=fun δ R=>wa δ fun x=>f x R
def fNeg:S->(S->Prop)->Prop
 | .t (.int i),R=>R (.t (.int (-i)))
 | _,_=>False
theorem de_neg (ha:PE X a (liftE X.K wa)):PE X (.UnaryOp .USub a pos) (liftE X.K (wUn fNeg wa)):=
 (pe_un un_neg ha).imp fun σ H Q ⟨δ,R,F,rl,h,k⟩=>⟨δ,_,F,rl,h,fun v F1 H1 s e p q=>by
  unfold fNeg at q
  split at q
  ·exact ⟨_,p,k _ F1 H1 (.t (.int _)) e rfl q⟩
  ·exact q.elim⟩
def atT (ts:List T) (i:Int) (R:S->Prop):Prop:=match atI ts i with
 | some x=>R (.t x)
 | none=>False
def atV (ts:List T) (i:Int) (R:S->Prop):Prop:=match atI ts i with
 | some x=>R (norm x)
 | none=>False
def fIx:S->S->(S->Prop)->Prop
 | .t (.tup ts),.t (.int i),R=>atT ts i R
 | .t (.lst ts),.t (.int i),R=>atT ts i R
 | .vt (.tup ts),.t (.int i),R=>atV ts i R
 | .vt (.lst ts),.t (.int i),R=>atV ts i R
 | .ol ts,.t (.int i),R=>atT ts i R
 | _,_,_=>False
theorem TReps.atI {K:PySem.W.Frag} {H:Hp} {ts:List T} {xs:List V} {i:Int} {t:T} (h:TReps K H ts xs) (e:atI ts i=some t):∃ x,atI xs i=some x/\TRep K H t x:=by
 unfold L2.atI at e ⊢
 rw [h.length]
 cases q:ixN ts.length i with
 | none=>rw [q] at e;cases e
 | some j=>
  rw [q] at e
  obtain ⟨x,h1,h2⟩:=h.get (i:=j) (by simpa using e)
  exact ⟨x,by simpa using h1,h2⟩
theorem atT_shape {ts:List T} {i:Int} {R:S->Prop} (h:atT ts i R):∃ x,atI ts i=some x/\R (.t x):=by
 unfold atT at h
 cases e:atI ts i with
 | none=>simp only [e] at h
 | some x=>simp only [e] at h;exact ⟨x,rfl,h⟩
theorem atV_shape {ts:List T} {i:Int} {R:S->Prop} (h:atV ts i R):∃ x,atI ts i=some x/\R (norm x):=by
 unfold atV at h
 cases e:atI ts i with
 | none=>simp only [e] at h
 | some x=>simp only [e] at h;exact ⟨x,rfl,h⟩
theorem op2_ix {K:PySem.W.Frag}:Op2 K (fun x y H Q=>rIxL K x y H Q\/rIxT K x y H Q) fIx:=by
 intro F H s1 s2 v1 v2 R Q sb fu p1 p2 h k
 unfold fIx at h
 split at h
 ·obtain ⟨x,hx,hr⟩:=atT_shape h
  obtain ⟨a,xs,e1,h1,h2⟩:=p1
  obtain ⟨y,h3,h4⟩:=h2.atI hx
  exact .inr ⟨a,xs,_,y,e1,p2,Same.sqT sb a xs h1,h3,k _ F H (.t x) (Ext.refl sb fu) h4 hr⟩
 ·obtain ⟨x,hx,hr⟩:=atT_shape h
  obtain ⟨a,xs,e1,h1,h2⟩:=p1
  obtain ⟨y,h3,h4⟩:=h2.atI hx
  exact .inl ⟨a,xs,_,y,e1,p2,sb.seq h1,h3,k _ F H (.t x) (Ext.refl sb fu) h4 hr⟩
 ·obtain ⟨x,hx,hr⟩:=atV_shape h
  obtain ⟨a,xs,e1,h1,h2⟩:=p1
  obtain ⟨y,h3,h4⟩:=h2.atI hx
  exact .inr ⟨a,xs,_,y,e1,p2,h1,h3,k _ F H _ (Ext.refl sb fu) (RepE.norm fu h4) hr⟩
 ·obtain ⟨x,hx,hr⟩:=atV_shape h
  obtain ⟨a,xs,e1,h1,h2⟩:=p1
  obtain ⟨y,h3,h4⟩:=h2.atI hx
  exact .inl ⟨a,xs,_,y,e1,p2,h1,h3,k _ F H _ (Ext.refl sb fu) (RepE.norm fu h4) hr⟩
 ·obtain ⟨x,hx,hr⟩:=atT_shape h
  obtain ⟨a,xs,e1,h1,h2⟩:=p1
  obtain ⟨y,h3,h4⟩:=h2.atI hx
  exact .inl ⟨a,xs,_,y,e1,p2,h1,h3,k _ F H (.t x) (Ext.refl sb fu) h4 hr⟩
 ·exact h.elim
theorem de_ix (ha:PE X a (liftE X.K wa)) (hb:PE X b (liftE X.K wb)) (hs:PlainIx b:=by exact fun _ _=>rfl):PE X (.Subscript a b pos) (liftE X.K (wOp2 fIx wa wb)):=
 (pe_ix (ix_list.or ix_tup) ha hb hs).imp (lift_op2 op2_ix)
end
end DL
namespace DL
open PySem L2
theorem upd_some {H:Hp} {p:Addr} {o:HO} (hp:H p=none):Same H (upd H p o):=fun b u q=>by rw [upd_ne (ne_of_none q hp)];exact q
theorem Ext.new {F H:Hp} {p:Addr} (o:HO) (sb:Same F H) (fu:Full F H) (hp:H p=none):Ext F H (upd F p o) (upd H p o):=by
 have fp:F p=none:=none_of_same sb hp
 refine ⟨upd_some hp,upd_some fp,fun b u q=>?_,fun b u q=>?_,fun b h1 h2=>?_⟩
 ·unfold upd at q ⊢
  split
  ·rename_i e;rw [if_pos e] at q;exact q
  ·rename_i e;rw [if_neg e] at q;exact sb _ _ q
 ·unfold upd at q ⊢
  by_cases e:b=p
  ·rw [if_pos e] at q;exact .inl (by rw [if_pos e];exact q)
  ·rw [if_neg e] at q;rw [if_neg e];exact fu _ _ q
 ·have:b ≠ p:=fun e=>h1 (by rw [e];exact hp)
  rw [upd_ne this];exact h2
theorem Ext.newL {F H:Hp} {p:Addr} (xs:List V) (sb:Same F H) (fu:Full F H) (hp:H p=none):Ext F H F (upd H p (.lst xs)):=by
 have fp:F p=none:=none_of_same sb hp
 refine ⟨upd_some hp,Same.refl _,sb.trans (upd_some hp),fun b u q=>?_,fun b _ h2=>h2⟩
 unfold upd at q
 by_cases e:b=p
 ·rw [if_pos e] at q;cases q;exact .inr ⟨xs,rfl⟩
 ·rw [if_neg e] at q;exact fu _ _ q
def wNil:WA:=fun _ R=>R []
def wCons (wa:WE) (wr:WA):WA:=fun δ R=>wa δ fun x=>wr δ fun xs=>R (x::xs)
def grow (F H H':Hp) (x:Option Addr):Hp:=fun b=>if (H b).isNone=true then (if x=some b then none else H' b) else F b
theorem grow_ext {F H H':Hp} {x:Option Addr} (sb:Same F H) (fu:Full F H) (s:Same H H') (hx:∀ a,x=some a->∃ xs,H' a=some (.lst xs)):Ext F H (grow F H H' x) H':=by
 have hs:∀ {b:Addr} {o:HO},H b=some o->(H b).isNone=true->False:=fun {b o} e h=>by rw [e] at h;cases h
 refine ⟨s,fun b o q=>?_,fun b o q=>?_,fun b o q=>?_,fun b h1 h2=>?_⟩
 ·unfold grow
  rw [if_neg (fun z=>hs (sb _ _ q) z)];exact q
 ·unfold grow at q
  split at q
  ·split at q
   ·cases q
   ·exact q
  ·exact s _ _ (sb _ _ q)
 ·unfold grow
  cases e:H b with
  | none=>
   rw [if_pos (show (none:Option HO).isNone=true from rfl)]
   by_cases z:x=some b
   ·obtain ⟨xs,q'⟩:=hx b z
    rw [q] at q';cases q'
    exact .inr ⟨xs,rfl⟩
   ·rw [if_neg z];exact .inl q
  | some o'=>
   rw [if_neg (by simp)]
   have:=s _ _ e
   rw [q] at this;cases this
   exact fu _ _ e
 ·unfold grow
  rw [if_neg (fun z=>h1 (Option.isNone_iff_eq_none.mp z))];exact h2
theorem Ext.frozen {F H F1 H1:Hp} (sb:Same F H) (e:Ext F H F1 H1):Ext F H (grow F1 H H1 none) H1/\Same F1 (grow F1 H H1 none):=by
 have hs:∀ {b:Addr} {o:HO},H b=some o->(H b).isNone=true->False:=fun {b o} e h=>by rw [e] at h;cases h
 refine ⟨⟨e.hh,fun b o q=>?_,fun b o q=>?_,fun b o q=>?_,fun b h1 h2=>?_⟩,fun b o q=>?_⟩
 ·unfold grow
  rw [if_neg (fun z=>hs (sb _ _ q) z)];exact e.ff _ _ q
 ·unfold grow at q
  split at q
  ·split at q
   ·cases q
   ·exact q
  ·exact e.sub _ _ q
 ·unfold grow
  cases z:H b with
  | none=>exact .inl (by rw [if_pos (show (none:Option HO).isNone=true from rfl),if_neg (by simp)];exact q)
  | some o'=>rw [if_neg (by simp)];exact e.full _ _ q
 ·unfold grow
  rw [if_neg (fun z=>h1 (Option.isNone_iff_eq_none.mp z))];exact e.keep b h1 h2
 ·unfold grow
  split
  ·rw [if_neg (by simp)];exact e.sub _ _ q
  ·exact q
def trees:List S->Option (List T)
 | []=>some []
 | .t x::r=>match trees r with
  | some ts=>some (x::ts)
  | none=>none
 | .ol us::r=>match trees r with
  | some ts=>some (.lst us::ts)
  | none=>none
 | .vt _::_=>none
def wTup (wa:WA):WE:=fun δ R=>wa δ fun ss=>match trees ss with
 | some ts=>if ts.length<=1000 then R (.t (.tup ts)) else False
 | none=>False
def wLst (wa:WA):WE:=fun δ R=>wa δ fun ss=>match trees ss with
 | some ts=>if ts.length<=1000 then R (.ol ts) else False
 | none=>False
theorem trees_rep {K:PySem.W.Frag} {H F' H':Hp} (sm:Same F' (grow F' H H' none)):∀ {ss:List S} {vs:List V} {ts:List T},RepEs K H F' H' ss vs->trees ss=some ts->TReps K (grow F' H H' none) ts vs
 | [],_,_,h,e=>by cases e;exact h
 | .t x::r,_,ts,⟨v,vr,e1,h1,h2⟩,e=>by
  subst e1
  unfold trees at e
  split at e
  ·rename_i us hu
   cases e
   exact ⟨v,vr,rfl,TRep.same sm h1,trees_rep sm h2 hu⟩
  ·cases e
 | .vt _::_,_,_,_,e=>by cases e
 | .ol zs::r,_,_,⟨v,vr,e1,h1,h2⟩,e=>by
  subst e1
  unfold trees at e
  split at e
  ·rename_i us hu
   cases e
   refine ⟨v,vr,rfl,?_,trees_rep sm h2 hu⟩
   unfold RepE at h1
   obtain ⟨a,xs,q1,q2,q3,q4,q5⟩:=h1
   unfold TRep
   refine ⟨a,xs,q1,SqL.of ?_,TReps.same sm q5⟩
   unfold grow
   rw [if_pos (by rw [q2];rfl),if_neg (by simp)]
   exact q4
  ·cases e
theorem le_line {n:Nat} (h:n<=1000):n<=sizeLine:=Nat.le_of_lt (small1000 h)
def wCB (f:List S->(S->Prop)->Prop) (wa:WA):WE:=fun δ R=>wa δ fun ss=>f ss R
def RepVs (K:PySem.W.Frag) (F H:Hp):List S->List V->Prop
 | [],vs=>vs=[]
 | s::ss,vs=>∃ v r,vs=v::r/\RepV K F H s v/\RepVs K F H ss r
theorem RepEs.val {K:PySem.W.Frag} {H0 F H:Hp} (e:Same F H):∀ {ss:List S} {vs:List V},RepEs K H0 F H ss vs->RepVs K F H ss vs
 | [],_,h=>h
 | _::_,_,⟨v,r,h1,h2,h3⟩=>⟨v,r,h1,h2.val e,RepEs.val e h3⟩
def CallOk (K:PySem.W.Frag) (r:List V->Hp->VK->Prop) (f:List S->(S->Prop)->Prop):Prop:=
 ∀ F H ss vs R Q,Same F H->Full F H->RepVs K F H ss vs->f ss R->(∀ v F' H' s,Ext F H F' H'->RepE K H F' H' s v->R s->Q v H')->r vs H Q
theorem lift_cb {K:PySem.W.Frag} {r:List V->Hp->VK->Prop} {f:List S->(S->Prop)->Prop} {wa:WA} (ho:CallOk K r f):∀ σ H Q,liftE K (wCB f wa) σ H Q->tCB r (liftA K wa) σ H Q:=by
 rintro σ H Q ⟨δ,R,F,rl,h,k⟩
 refine ⟨δ,_,F,rl,h,fun vs F1 H1 ss e p q=>?_⟩
 exact ho F1 H1 ss vs R Q e.sub e.full (p.val e.sub) q fun v F' H' s e2 p2 q2=>k v F' H' s (e.trans e2) (p2.start e.hh) q2
abbrev DSpec:=List S->(S->Prop)->Prop
def asArg:S->S
 | .vt x=>.t x
 | .ol ts=>.t (.lst ts)
 | .t x=>.t x
def got:S->S
 | .t x=>norm x
 | .vt x=>.vt x
 | .ol ts=>if purs ts=true then .ol ts else .vt (.lst ts)
def argOk:S->Prop
 | .t _=>True
 | _=>False
def toSp (K:PySem.W.Frag) (sp:DSpec):Sp:=fun vs H Q _=>∃ ss R,(∀ s∈ss,argOk s)/\RepVs K H H ss vs/\sp ss R/\∀ v H' s,Same H H'->RepC K H H' s v->R s->Q v H'
def wCall (sp:DSpec) (wa:WA):WE:=fun δ R=>wa δ fun ss=>sp (ss.map asArg) fun s=>R (got s)
theorem args_ok {K:PySem.W.Frag} {H0 F H:Hp} (sb:Same F H):∀ {ss:List S} {vs:List V},RepEs K H0 F H ss vs->(∀ s∈ss.map asArg,argOk s)/\RepVs K H H (ss.map asArg) vs
 | [],_,h=>⟨fun s hs=>by simp at hs,h⟩
 | s::ss,_,⟨v,r,h1,h2,h3⟩=>by
  obtain ⟨a1,a2⟩:=args_ok sb h3
  refine ⟨fun u hu=>?_,v,r,h1,?_,a2⟩
  ·rw [List.map_cons] at hu
   rcases List.mem_cons.mp hu with e | e
   ·subst e
    cases s <;> exact True.intro
   ·exact a1 u e
  ·cases s with
   | t x=>exact TRep.same sb h2
   | vt x=>exact h2
   | ol ts=>
    unfold RepE at h2
    obtain ⟨a,xs,q1,_,_,q2,q3⟩:=h2
    show TRep K H (.lst ts) v
    unfold TRep
    exact ⟨a,xs,q1,SqL.of q2,TReps.same sb q3⟩
theorem lift_call {K:PySem.W.Frag} {sp:DSpec} {wa:WA} {E:XK}:∀ σ H Q,liftE K (wCall sp wa) σ H Q->tCall (toSp K sp) [] E (liftA K wa) σ H Q:=by
 rintro σ H Q ⟨δ,R,F,rl,h,k⟩
 refine ⟨δ,_,F,rl,h,fun vs F1 H1 ss e p q=>?_⟩
 show toSp K sp (vs++[]) H1 Q E
 rw [List.append_nil]
 obtain ⟨a1,a2⟩:=args_ok e.sub p
 refine ⟨_,_,a1,a2,q,fun v H' s sm rc hr=>?_⟩
 cases s with
 | t x=>
  have ex:=grow_ext (x:=none) e.sub e.full sm (fun _ z=>by cases z)
  exact k v _ H' (norm x) (e.trans ex) (RepE.norm ex.full rc) hr
 | vt x=>exact False.elim rc
 | ol ts=>
  unfold RepC at rc
  obtain ⟨a,xs,q1,q2,q3,q4⟩:=rc
  have ex:=grow_ext (x:=some a) e.sub e.full sm (fun b z=>by cases z;exact ⟨xs,q3⟩)
  have hr':R (if purs ts=true then .ol ts else .vt (.lst ts)):=hr
  split at hr'
  ·rename_i hp
   refine k v _ H' (.ol ts) (e.trans ex) ⟨a,xs,q1,none_of_same e.hh q2,?_,q3,TReps.full ex.full hp q4⟩ hr'
   unfold grow
   rw [if_pos (by rw [q2];rfl),if_pos rfl]
  ·refine k v _ H' (.vt (.lst ts)) (e.trans ex) ?_ hr'
   unfold RepE TRep
   exact ⟨a,xs,q1,SqL.of q3,q4⟩
section
variable {X:Cx} {e:Expr} {es:List Expr} {we:WE} {wr wa:WA} {pos:Pos}
theorem da_nil:PA X [] (liftA X.K wNil):=pa_nil.imp fun σ H Q ⟨δ,R,F,rl,h,k⟩=>k [] F H [] rl.refl rfl h
theorem da_cons (ha:PE X e (liftE X.K we)) (hr:PA X es (liftA X.K wr)) (hs:starEach (e::es) X.env=(false,eval e X.env)::starEach es X.env:=by rfl):PA X (e::es) (liftA X.K (wCons we wr)):=
 (pa_cons ha hr hs).imp fun σ H Q ⟨δ,R,F,rl,h,k⟩=>⟨δ,_,F,rl,h,fun v F1 H1 s e p q=>⟨δ,_,F1,rl.ext e,q,fun vs F2 H2 ss e2 ps q2=>k (v::vs) F2 H2 (s::ss) (e.trans e2) ⟨v,vs,rfl,p.ext e2,ps.start e.hh⟩ q2⟩⟩
theorem de_tup {x1} (h:PA X es (liftA X.K wa)):PE X (.Tuple es x1 pos) (liftE X.K (wTup wa)):=
 (pe_tup h).imp fun σ H Q ⟨δ,R,F,rl,h,k⟩=>⟨δ,_,F,rl,h,fun vs F1 H1 ss e p q=>by
  split at q
  ·rename_i ts ht
   obtain ⟨ez,sz⟩:=e.frozen rl.sub
   have r:=trees_rep sz p ht
   split at q
   ·rename_i hl
    refine ⟨by rw [r.length];exact le_line hl,fun a ha=>?_⟩
    have ex:=Ext.new (.tup vs) ez.sub ez.full ha
    refine k _ _ _ (.t (.tup ts)) (ez.trans ex) ?_ q
    unfold RepE TRep
    exact ⟨a,vs,rfl,SqT.of upd_same,TReps.same ex.ff r⟩
   ·exact q.elim
  ·exact q.elim⟩
theorem de_lst (h:PA X es (liftA X.K wa)):PE X (.List es pos) (liftE X.K (wLst wa)):=
 (pe_lst h).imp fun σ H Q ⟨δ,R,F,rl,h,k⟩=>⟨δ,_,F,rl,h,fun vs F1 H1 ss e p q=>by
  split at q
  ·rename_i ts ht
   obtain ⟨ez,sz⟩:=e.frozen rl.sub
   have r:=trees_rep sz p ht
   split at q
   ·rename_i hl
    refine ⟨by rw [r.length];exact le_line hl,fun a ha=>?_⟩
    have ex:=Ext.newL vs ez.sub ez.full ha
    exact k _ _ _ (.ol ts) (ez.trans ex) ⟨a,vs,rfl,none_of_same e.hh ha,none_of_same ez.sub ha,upd_same,r⟩ q
   ·exact q.elim
  ·exact q.elim⟩
structure Callee (P:Program) (w:World) (K:PySem.W.Frag) (mg:Str->Option Value) (base:Heap) (k:Nat) (x:Str) (sp:DSpec):Prop where
 ex:∃ (f:Addr) (fd:FuncData) (ps:List Str),mg x=some (.ref f)/\FnOk P w K mg base CX0 k f fd ps (toSp K sp)/\Binds K fd ps []/\PySem.W.keepIn K (.ref f)=true
theorem de_call {k:Nat} {x:Str} {sp:DSpec} {p:Pos} (C:Callee X.prog X.w X.K X.mg X.base k x sp) (hr:Room k X.A) (hg:Gl X x) (ha:PA X (e::es) (liftA X.K wa)) (hdb:(x == ("__debug__":Str))=false:=by decide)
  (he:starEach (e::es) X.env=(false,eval e X.env)::starEach es X.env:=by rfl) (hpl:(backTo pos (starEach es X.env)).any (·.1)=false:=by rfl):PE X (.Call (.Name x p) (e::es) [] pos) (liftE X.K (wCall sp wa)):=by
 obtain ⟨f,fd,ps,hm,F,hb,hk⟩:=C.ex
 exact (pe_call F hr hg hm hk hb .nil (E:=E0) pass0 ha hdb he hpl).imp lift_call
theorem de_callB {x:Str} {p:Pos} {id:String} {r:List V->Hp->VK->Prop} {f:List S->(S->Prop)->Prop} (hc:CallR X (.builtin id) r) (hf:CallOk X.K r f) (hm:X.mg x=none) (hv:bootBuiltins x=some (.builtin id)) (ha:PA X (e::es) (liftA X.K wa)) (hg:Gl X x:=by rfl) (hn:x ≠ "__name__":=by decide) (hdb:(x == ("__debug__":Str))=false:=by decide)
  (he:starEach (e::es) X.env=(false,eval e X.env)::starEach es X.env:=by rfl) (hpl:(backTo pos (starEach es X.env)).any (·.1)=false:=by rfl):PE X (.Call (.Name x p) (e::es) [] pos) (liftE X.K (wCB f wa)):=
 (pe_callB hc hg hm hv ha hn hdb he hpl).imp (lift_cb hf)
end
def fLen:List S->(S->Prop)->Prop
 | [.t (.tup ts)],R=>R (.t (.int ts.length))
 | [.t (.lst ts)],R=>R (.t (.int ts.length))
 | [.vt (.tup ts)],R=>R (.t (.int ts.length))
 | [.vt (.lst ts)],R=>R (.t (.int ts.length))
 | [.ol ts],R=>R (.t (.int ts.length))
 | _,_=>False
theorem ok_len {K:PySem.W.Frag}:CallOk K (fun xs H Q=>∃ p ys,xs=[.ref p]/\(SqL K H p ys\/SqT K H p ys)/\Q (.int ys.length) H) fLen:=by
 intro F H ss vs R Q sb fu rp h k
 unfold fLen at h
 split at h
 ·obtain ⟨v,r,rfl,⟨a,xs,rfl,h1,h2⟩,h3⟩:=rp
  cases (show r=[] from h3)
  exact ⟨a,xs,rfl,.inr (Same.sqT sb a xs h1),k _ F H (.t (.int _)) (Ext.refl sb fu) (by show _=_;rw [h2.length]) h⟩
 ·obtain ⟨v,r,rfl,⟨a,xs,rfl,h1,h2⟩,h3⟩:=rp
  cases (show r=[] from h3)
  exact ⟨a,xs,rfl,.inl (sb.seq h1),k _ F H (.t (.int _)) (Ext.refl sb fu) (by show _=_;rw [h2.length]) h⟩
 ·obtain ⟨v,r,rfl,⟨a,xs,rfl,h1,h2⟩,h3⟩:=rp
  cases (show r=[] from h3)
  exact ⟨a,xs,rfl,.inr h1,k _ F H (.t (.int _)) (Ext.refl sb fu) (by show _=_;rw [h2.length]) h⟩
 ·obtain ⟨v,r,rfl,⟨a,xs,rfl,h1,h2⟩,h3⟩:=rp
  cases (show r=[] from h3)
  exact ⟨a,xs,rfl,.inl h1,k _ F H (.t (.int _)) (Ext.refl sb fu) (by show _=_;rw [h2.length]) h⟩
 ·obtain ⟨v,r,rfl,⟨a,xs,rfl,h1,h2⟩,h3⟩:=rp
  cases (show r=[] from h3)
  exact ⟨a,xs,rfl,.inl h1,k _ F H (.t (.int _)) (Ext.refl sb fu) (by show _=_;rw [h2.length]) h⟩
 ·exact h.elim
def fAbs:List S->(S->Prop)->Prop
 | [.t (.int i)],R=>R (.t (.int (if i < 0 then -i else i)))
 | _,_=>False
theorem ok_abs {K:PySem.W.Frag}:CallOk K (fun xs H Q=>∃ i,xs=[.int i]/\Q (.int (if i < 0 then -i else i)) H) fAbs:=by
 intro F H ss vs R Q sb fu rp h k
 unfold fAbs at h
 split at h
 ·obtain ⟨v,r,rfl,rfl,h3⟩:=rp
  cases (show r=[] from h3)
  exact ⟨_,rfl,k _ F H (.t (.int _)) (Ext.refl sb fu) rfl h⟩
 ·exact h.elim
def fMax2:List S->(S->Prop)->Prop
 | [.t (.int i),.t (.int j)],R=>R (.t (.int (if j > i then j else i)))
 | _,_=>False
def fMin2:List S->(S->Prop)->Prop
 | [.t (.int i),.t (.int j)],R=>R (.t (.int (if j < i then j else i)))
 | _,_=>False
theorem ok_max2 {K:PySem.W.Frag}:CallOk K (fun xs H Q=>∃ i j,xs=[.int i,.int j]/\Q (.int (if j > i then j else i)) H) fMax2:=by
 intro F H ss vs R Q sb fu rp h k
 unfold fMax2 at h
 split at h
 ·obtain ⟨v,r,rfl,rfl,v2,r2,rfl,rfl,h3⟩:=rp
  cases (show r2=[] from h3)
  exact ⟨_,_,rfl,k _ F H (.t (.int _)) (Ext.refl sb fu) rfl h⟩
 ·exact h.elim
theorem ok_min2 {K:PySem.W.Frag}:CallOk K (fun xs H Q=>∃ i j,xs=[.int i,.int j]/\Q (.int (if j < i then j else i)) H) fMin2:=by
 intro F H ss vs R Q sb fu rp h k
 unfold fMin2 at h
 split at h
 ·obtain ⟨v,r,rfl,rfl,v2,r2,rfl,rfl,h3⟩:=rp
  cases (show r2=[] from h3)
  exact ⟨_,_,rfl,k _ F H (.t (.int _)) (Ext.refl sb fu) rfl h⟩
 ·exact h.elim
def fInt:List S->(S->Prop)->Prop
 | [.t (.int i)],R=>R (.t (.int i))
 | [.t (.bl b)],R=>R (.t (.int (if b then 1 else 0)))
 | _,_=>False
def fListOf:List S->(S->Prop)->Prop
 | [.t (.tup ts)],R=>R (.ol ts)
 | [.t (.lst ts)],R=>R (.ol ts)
 | [.vt (.lst ts)],R=>purs ts=true/\R (.ol ts)
 | [.ol ts],R=>R (.ol ts)
 | _,_=>False
section
variable {X:Cx} {e:Expr} {es:List Expr} {we:WE} {wr wa:WA} {pos p:Pos}
theorem de_len (hm:X.mg "len"=none) (ha:PA X [e] (liftA X.K wa)) (hg:Gl X "len":=by rfl) (he:starEach [e] X.env=(false,eval e X.env)::starEach [] X.env:=by rfl):PE X (.Call (.Name "len" p) [e] [] pos) (liftE X.K (wCB fLen wa)):=
 de_callB call_len_seq ok_len hm PySem.boot_len ha hg (he:=he) (hpl:=rfl)
theorem de_abs (hm:X.mg "abs"=none) (ha:PA X [e] (liftA X.K wa)) (hg:Gl X "abs":=by rfl) (he:starEach [e] X.env=(false,eval e X.env)::starEach [] X.env:=by rfl):PE X (.Call (.Name "abs" p) [e] [] pos) (liftE X.K (wCB fAbs wa)):=
 de_callB call_abs ok_abs hm PyProof.Rows.boot_abs ha hg (he:=he) (hpl:=rfl)
theorem de_max2 {e2:Expr} (hm:X.mg "max"=none) (ha:PA X [e,e2] (liftA X.K wa)) (hg:Gl X "max":=by rfl) (hc:X.calm=true:=by rfl) (he:starEach [e,e2] X.env=(false,eval e X.env)::starEach [e2] X.env:=by rfl) (hpl:(backTo pos (starEach [e2] X.env)).any (·.1)=false:=by rfl):PE X (.Call (.Name "max" p) [e,e2] [] pos) (liftE X.K (wCB fMax2 wa)):=
 de_callB (call_max2 hc) ok_max2 hm PyProof.Rows.boot_max ha hg (he:=he) (hpl:=hpl)
theorem de_min2 {e2:Expr} (hm:X.mg "min"=none) (ha:PA X [e,e2] (liftA X.K wa)) (hg:Gl X "min":=by rfl) (hc:X.calm=true:=by rfl) (he:starEach [e,e2] X.env=(false,eval e X.env)::starEach [e2] X.env:=by rfl) (hpl:(backTo pos (starEach [e2] X.env)).any (·.1)=false:=by rfl):PE X (.Call (.Name "min" p) [e,e2] [] pos) (liftE X.K (wCB fMin2 wa)):=
 de_callB (call_min2 hc) ok_min2 hm PyProof.Rows.boot_min ha hg (he:=he) (hpl:=hpl)
end
end DL
namespace DL
open PySem L2
def wPart0:DSt->(Option Int->Prop)->Prop:=fun _ R=>R none
def wPart (we:WE):DSt->(Option Int->Prop)->Prop:=fun δ R=>we δ fun s=>match s with
 | .t (.int i)=>R (some i)
 | _=>False
def liftO (K:PySem.W.Frag) (w:DSt->(Option Int->Prop)->Prop):TO:=fun σ H Q=>∃ δ R F,Rel K F H σ δ/\w δ R/\∀ F' H' o,Ext F H F' H'->R o->Q o H'
def cutT (ts:List T) (lo hi:Option Int):List T:=(ts.drop (HT.sIx ts.length 0 lo)).take (HT.sIx ts.length ts.length hi - HT.sIx ts.length 0 lo)
def slcK (lo hi:Option Int) (R:S->Prop):S->Prop
 | .t (.lst ts)=>R (.ol (cutT ts lo hi))
 | .vt (.lst ts)=>purs ts=true/\R (.ol (cutT ts lo hi))
 | .ol ts=>R (.ol (cutT ts lo hi))
 | _=>False
def wSlice (we:WE) (wl wh:DSt->(Option Int->Prop)->Prop):WE:=fun δ R=>we δ fun s=>wl δ fun lo=>wh δ fun hi=>slcK lo hi R s
theorem slcK_shape {K:PySem.W.Frag} {F H:Hp} {lo hi:Option Int} {R:S->Prop} {s:S} {v:V} (sb:Same F H) (fu:Full F H) (h:slcK lo hi R s) (p:RepV K F H s v):∃ ts a xs,v=.ref a/\SqL K H a xs/\TReps K F ts xs/\R (.ol (cutT ts lo hi)):=by
 unfold slcK at h
 split at h
 ·unfold RepV TRep at p
  obtain ⟨a,xs,h1,h2,h3⟩:=p
  exact ⟨_,a,xs,h1,sb.seq h2,h3,h⟩
 ·unfold RepV TRep at p
  obtain ⟨a,xs,h1,h2,h3⟩:=p
  exact ⟨_,a,xs,h1,h2,TReps.full fu h.1 h3,h.2⟩
 ·unfold RepV at p
  obtain ⟨a,xs,h1,h2,h3⟩:=p
  exact ⟨_,a,xs,h1,h2,h3,h⟩
 ·exact h.elim
theorem cut_rep {K:PySem.W.Frag} {F:Hp} {ts:List T} {xs:List V} (h:TReps K F ts xs) (lo hi:Option Int):TReps K F (cutT ts lo hi) (cutV xs lo hi):=by
 unfold cutT cutV
 rw [h.length]
 exact (h.drop _).take _
section
variable {X:Cx} {e:Expr} {we:WE} {lo hi:Option Expr} {wl wh:DSt->(Option Int->Prop)->Prop} {pos p2:Pos}
theorem do_none:PO X none (liftO X.K wPart0):=fun pins s σ H Q I ⟨δ,R,F,rl,h,k⟩=>po_none pins s σ H Q I (k F H none rl.refl h)
theorem do_some (h:PE X e (liftE X.K we)):PO X (some e) (liftO X.K (wPart we)):=fun pins s σ H Q I ⟨δ,R,F,rl,hw,k⟩=>
 po_some h pins s σ H Q I ⟨δ,_,F,rl,hw,fun v F1 H1 s e p q=>by
  split at q
  ·exact ⟨_,p,k F1 H1 _ e q⟩
  ·exact q.elim⟩
theorem de_slice (he:PE X e (liftE X.K we)) (hl:PO X lo (liftO X.K wl)) (hu:PO X hi (liftO X.K wh)):PE X (.Subscript e (.Slice lo hi none p2) pos) (liftE X.K (wSlice we wl wh)):=
 (pe_slice sl_list he hl hu).imp fun σ H Q ⟨δ,R,F,rl,h,k⟩=>⟨δ,_,F,rl,h,fun v F1 H1 s e1 p1 q=>⟨δ,_,F1,rl.ext e1,q,fun F2 H2 o e2 q2=>⟨δ,_,F2,(rl.ext e1).ext e2,q2,fun F3 H3 o3 e3 q3=>by
  have e12:=e1.trans (e2.trans e3)
  obtain ⟨ts,a,xs,rfl,h1,h2,h4⟩:=slcK_shape e3.sub e3.full q3 ((p1.ext (e2.trans e3)).val e3.sub)
  refine ⟨a,xs,rfl,h1,fun l hl=>?_⟩
  exact k _ F3 _ (.ol _) (e12.trans (Ext.newL _ e3.sub e3.full hl)) ⟨l,_,rfl,none_of_same e12.hh hl,none_of_same e3.sub hl,upd_same,cut_rep h2 _ _⟩ h4⟩⟩⟩
end
def freezeS:S->S
 | .ol ts=>.t (.lst ts)
 | .t x=>.t x
 | .vt x=>.vt x
def freeze (δ:DSt):DSt:=δ.map (Option.map freezeS)
def setS (i:Nat) (s:S) (δ:DSt):DSt:=match s with
 | .vt x=>(freeze δ).set i (some (.t x))
 | .t x=>δ.set i (some (.t x))
 | .ol ts=>δ.set i (some (.ol ts))
theorem get_freeze {δ:DSt} {i:Nat} {s:S} (h:(freeze δ)[i]?=some (some s)):∃ u,δ[i]?=some (some u)/\s=freezeS u:=by
 unfold freeze at h
 rw [List.getElem?_map] at h
 cases e:δ[i]? with
 | none=>rw [e] at h;cases h
 | some o=>
  rw [e] at h
  cases o with
  | none=>cases h
  | some u=>exact ⟨u,rfl,by simpa using h.symm⟩
theorem frozen_ok {K:PySem.W.Frag} {F H:Hp} (sb:Same F H):∀ {s:S} {v:V},SlotOk K F H s v->SlotOk K H H (freezeS s) v
 | .t _,_,h=>TRep.same sb h
 | .vt _,_,h=>False.elim h
 | .ol _,_,⟨a,xs,h1,_,h3,h4⟩=>by
  show TRep K H (.lst _) _
  unfold TRep
  exact ⟨a,xs,h1,SqL.of h3,TReps.same sb h4⟩
theorem not_ol_freeze (s:S) (ts:List T):freezeS s ≠ .ol ts:=by cases s <;> simp [freezeS]
theorem Rel.freeze {K:PySem.W.Frag} {F H:Hp} {σ:St} {δ:DSt} (r:Rel K F H σ δ):Rel K H H σ (freeze δ):=by
 refine ⟨Same.refl _,fun b o h=>.inl h,?_,fun i s h=>?_,fun i j a ts us _ h1=>?_⟩
 ·unfold DL.freeze;rw [List.length_map];exact r.len
 ·obtain ⟨u,h1,rfl⟩:=get_freeze h
  obtain ⟨v,h2,h3⟩:=r.slot i u h1
  exact ⟨v,h2,frozen_ok r.sub h3⟩
 ·obtain ⟨u,_,e⟩:=get_freeze h1
  exact absurd e.symm (not_ol_freeze u ts)
theorem Rel.put {K:PySem.W.Frag} {F H:Hp} {σ:St} {δ:DSt} {i:Nat} {s:S} {v:V} (r:Rel K F H σ δ) (h:SlotOk K F H s v) (hs:∀ ts,s ≠ .ol ts):Rel K F H (σ.set i (some v)) (δ.set i (some s)):=by
 refine ⟨r.sub,r.full,by rw [List.length_set,List.length_set];exact r.len,fun j u hu=>?_,fun j l a ts us hn h1 h2 h3=>?_⟩
 ·by_cases e:i=j
  ·subst e
   have hi:i < δ.length:=by
    rw [List.getElem?_set] at hu
    simp at hu
    exact hu.1
   rw [List.getElem?_set_self hi] at hu
   cases hu
   exact ⟨v,List.getElem?_set_self (by rw [r.len];exact hi),h⟩
  ·rw [List.getElem?_set_ne e] at hu
   obtain ⟨w,h1,h2⟩:=r.slot j u hu
   exact ⟨w,by rw [List.getElem?_set_ne e];exact h1,h2⟩
 ·have n1:i ≠ j:=fun e=>by
   subst e
   have hi:i < δ.length:=by
    rw [List.getElem?_set] at h1;simp at h1;exact h1.1
   rw [List.getElem?_set_self hi] at h1
   cases h1
   exact hs ts rfl
  have n2:i ≠ l:=fun e=>by
   subst e
   have hi:i < δ.length:=by
    rw [List.getElem?_set] at h2;simp at h2;exact h2.1
   rw [List.getElem?_set_self hi] at h2
   cases h2
   exact hs us rfl
  rw [List.getElem?_set_ne n1] at h1 h3
  rw [List.getElem?_set_ne n2] at h2 ⊢
  exact r.dist j l a ts us hn h1 h2 h3
theorem Rel.putOl {K:PySem.W.Frag} {F H F' H':Hp} {σ:St} {δ:DSt} {i:Nat} {ts:List T} {a:Addr} {xs:List V} (r:Rel K F H σ δ) (e:Ext F H F' H') (h0:H a=none) (h1:F' a=none) (h2:H' a=some (.lst xs)) (h3:TReps K F' ts xs) :
  Rel K F' H' (σ.set i (some (.ref a))) (δ.set i (some (.ol ts))):=by
 have r':=r.ext e
 have old:∀ (j:Nat) (us:List T) (b:Addr),δ[j]?=some (some (.ol us))->σ[j]?=some (some (.ref b))->b ≠ a:=fun j us b q1 q2 z=>by
  obtain ⟨v,p1,c,ys,p2,p3,p4,_⟩:=r.slot j _ q1
  rw [q2] at p1
  cases p1
  cases p2
  rw [z,h0] at p4
  cases p4
 refine ⟨r'.sub,r'.full,by rw [List.length_set,List.length_set];exact r.len,fun j u hu=>?_,fun j l b us ws hn q1 q2 q3=>?_⟩
 ·by_cases z:i=j
  ·subst z
   have hi:i < δ.length:=by
    rw [List.getElem?_set] at hu;simp at hu;exact hu.1
   rw [List.getElem?_set_self hi] at hu
   cases hu
   exact ⟨_,List.getElem?_set_self (by rw [r.len];exact hi),a,xs,rfl,h1,h2,h3⟩
  ·rw [List.getElem?_set_ne z] at hu
   obtain ⟨w,p1,p2⟩:=r'.slot j u hu
   exact ⟨w,by rw [List.getElem?_set_ne z];exact p1,p2⟩
 ·by_cases z:i=j
  ·subst z
   have hi:i < δ.length:=by
    rw [List.getElem?_set] at q1;simp at q1;exact q1.1
   rw [List.getElem?_set_self (by rw [r.len];exact hi)] at q3
   cases q3
   rw [List.getElem?_set_ne hn] at q2 ⊢
   exact fun q=>old l ws a q2 q rfl
  ·rw [List.getElem?_set_ne z] at q1 q3
   by_cases z2:i=l
   ·subst z2
    have hi:i < δ.length:=by
     rw [List.getElem?_set] at q2;simp at q2;exact q2.1
    rw [List.getElem?_set_self (by rw [r.len];exact hi)]
    intro q
    cases q
    exact old j us a q1 q3 rfl
   ·rw [List.getElem?_set_ne z2] at q2 ⊢
    exact r.dist j l b us ws hn q1 q2 q3
theorem Rel.setS {K:PySem.W.Frag} {F H F' H':Hp} {σ:St} {δ:DSt} {s:S} {v:V} (i:Nat) (r:Rel K F H σ δ) (e:Ext F H F' H') (p:RepE K H F' H' s v):∃ F2,Same F F2/\Rel K F2 H' (σ.set i (some v)) (setS i s δ):=by
 cases s with
 | t x=>exact ⟨F',e.ff,(r.ext e).put (s:=.t x) p (fun _ z=>by cases z)⟩
 | vt x=>exact ⟨H',e.ff.trans e.sub,(r.ext e).freeze.put (s:=.t x) p (fun _ z=>by cases z)⟩
 | ol ts=>
  obtain ⟨a,xs,rfl,h0,h1,h2,h3⟩:=p
  exact ⟨F',e.ff,r.putOl e h0 h1 h2 h3⟩
theorem Rel.thaw {K:PySem.W.Frag} {F H F1 H1:Hp} {σ:St} {δ:DSt} {ts:List T} {v:V} (rl:Rel K F H σ δ) (ex:Ext F H F1 H1) (p:RepE K H F1 H1 (.ol ts) v) :
  Rel K (grow F1 H H1 none) H1 σ δ/\Same F (grow F1 H H1 none)/\∃ a xs,v=.ref a/\SqL K (grow F1 H H1 none) a xs/\TReps K (grow F1 H H1 none) ts xs:=by
 obtain ⟨ez,sz⟩:=ex.frozen rl.sub
 refine ⟨rl.ext ez,ez.ff,?_⟩
 obtain ⟨a,xs,rfl,h0,h1,h2,h3⟩:=p
 refine ⟨a,xs,rfl,SqL.of ?_,TReps.same sz h3⟩
 unfold grow
 rw [if_pos (by rw [h0];rfl),if_neg (by simp)]
 exact h2
def wNext:WS:=fun D δ=>D.nx δ
def wSeq (w u:WS):WS:=fun D δ=>w { D with nx:=u D } δ
def wSeqM (w u:WS):WS:=fun D δ=>∃ M:DSt->Prop,w { D with nx:=M } δ/\∀ δ',M δ'->u D δ'
def wSet (i:Nat) (we:WE):WS:=fun D δ=>we δ fun s=>D.nx (setS i s δ)
def wIf (c:WT) (w u:WS):WS:=fun D δ=>c δ fun k=>if k=true then w D δ else u D δ
def out:S->S
 | .vt x=>.t x
 | .t x=>.t x
 | .ol ts=>.ol ts
def wRet (we:WE):WS:=fun D δ=>we δ fun s=>D.rt (out s)
def wRetV (i:Nat):WS:=fun D δ=>match δ[i]? with
 | some (some s)=>D.rt s
 | _=>False
def wRetN:WS:=fun D _=>D.rt (.t .non)
def wBreak:WS:=fun D δ=>D.bk δ
def wCont:WS:=fun D δ=>D.ct δ
def wDrop (we:WE):WS:=fun D δ=>we δ fun _=>D.nx δ
def wNever:WS:=fun _ _=>False
def wWhile (c:WT) (wb:WS):WS:=fun D δ=>∃ I:Nat->DSt->Prop,(∃ n,I n δ)/\∀ n δ,I n δ->c δ fun k=>if k=true then wb { nx:=fun δ'=>∃ m,m < n/\I m δ',rt:=D.rt,bk:=D.nx,ct:=fun δ'=>∃ m,m < n/\I m δ' } δ else D.nx δ
abbrev WG:=T->DSt->(DSt->Prop)->Prop
def forW (g:WG) (wb:WS):List T->DEnds->DSt->Prop
 | [],D,δ=>D.nx δ
 | x::r,D,δ=>g x δ fun δ1=>wb { nx:=fun δ2=>forW g wb r D δ2,rt:=D.rt,bk:=D.nx,ct:=fun δ2=>forW g wb r D δ2 } δ1
abbrev WI:=DSt->(List T->DSt->Prop)->Prop
def forI (g:WG) (wb:WS) (ts:List T) (D:DEnds) (δ:DSt):Prop:=∃ I:List T->DSt->Prop,I ts δ/\(∀ δ,I [] δ->D.nx δ)/\∀ x r δ,I (x::r) δ->g x δ fun δ1=>wb { nx:=I r,rt:=D.rt,bk:=D.nx,ct:=I r } δ1
theorem forI_of {g:WG} {wb:WS} {ts:List T} {D:DEnds} {δ:DSt} (h:forW g wb ts D δ):forI g wb ts D δ:=⟨fun r δ=>forW g wb r D δ,h,fun _ h=>h,fun _ _ _ h=>h⟩
def wFor (wi:WI) (g:WG) (wb:WS):WS:=fun D δ=>wi δ fun ts δ'=>forI g wb ts D δ'
def wgName (i:Nat):WG:=fun t δ R=>R (δ.set i (some (.t t)))
def wgTup (g:List T->DSt->(DSt->Prop)->Prop):WG:=fun t δ R=>match t with
 | .tup ts=>g ts δ R
 | _=>False
def wgNil:List T->DSt->(DSt->Prop)->Prop:=fun ts δ R=>match ts with
 | []=>R δ
 | _=>False
def wgCons (g:WG) (gr:List T->DSt->(DSt->Prop)->Prop):List T->DSt->(DSt->Prop)->Prop:=fun ts δ R=>match ts with
 | t::r=>g t δ fun δ1=>gr r δ1 R
 | []=>False
def unpK (g:WG) (δ:DSt) (N:DSt->Prop):S->Prop
 | .t t=>g t δ N
 | .vt t=>g t (freeze δ) N
 | .ol ts=>g (.lst ts) δ N
def wUnp (we:WE) (g:WG):WS:=fun D δ=>we δ fun s=>unpK g δ D.nx s
def wPar (i j:Nat) (wa:WA):WS:=fun D δ=>wa δ fun ss=>match ss with
 | [.t x,.t y]=>D.nx ((δ.set i (some (.t x))).set j (some (.t y)))
 | _=>False
def wAppend (i:Nat) (we:WE):WS:=fun D δ=>match δ[i]? with
 | some (some (.ol ts))=>we δ fun s=>match s with
  | .t x=>ts.length < 100000/\D.nx (δ.set i (some (.ol (ts++[x]))))
  | _=>False
 | _=>False
def wPop (i:Nat):WS:=fun D δ=>match δ[i]? with
 | some (some (.ol ts))=>ts ≠ []/\D.nx (δ.set i (some (.ol ts.dropLast)))
 | _=>False
section
variable {X:Cx} {st:Stmt} {rest:List Stmt} {w u:WS} {e:Expr} {we:WE} {pos:Pos} {H₀:Hp}
theorem dss_nil:PSs X [] (liftS X.K H₀ wNext):=pss_nil.imp fun D σ H ⟨δ,D',F,_,rl,h,ok⟩=>ok.nx σ F H δ (Same.refl _) rl h
theorem dss_cons (h1:PS X st (liftS X.K H₀ w)) (h2:PSs X rest (liftS X.K H₀ u)):PSs X (st::rest) (liftS X.K H₀ (wSeq w u)):=
 (pss_cons h1 h2).imp fun D σ H ⟨δ,D',F,s0,rl,h,ok⟩=>⟨δ,_,F,s0,rl,h,⟨fun σ' F' H' δ' ff rl' h'=>⟨δ',D',F',s0.trans ff,rl',h',ok.mono ff⟩,ok.rt,ok.bk,ok.ct⟩⟩
theorem dss_consM (h1:PS X st (liftS X.K H₀ w)) (h2:PSs X rest (liftS X.K H₀ u)):PSs X (st::rest) (liftS X.K H₀ (wSeqM w u)):=
 (pss_cons h1 h2).imp fun D σ H ⟨δ,D',F,s0,rl,⟨M,h,hk⟩,ok⟩=>⟨δ,_,F,s0,rl,h,⟨fun σ' F' H' δ' ff rl' h'=>⟨δ',D',F',s0.trans ff,rl',hk δ' h',ok.mono ff⟩,ok.rt,ok.bk,ok.ct⟩⟩
theorem dss_one (h1:PS X st (liftS X.K H₀ w)):PSs X [st] (liftS X.K H₀ w):=pss_one h1
theorem ds_never:PS X st (liftS X.K H₀ wNever):=ps_never.imp fun D σ H ⟨δ,D',F,_,rl,h,ok⟩=>h
theorem ds_set {i:Nat} {x:Str} {pos':Pos} (hN:X.N.Nodup) (he:PE X e (liftE X.K we)) (hi:X.N[i]?=some x:=by rfl) (hx:Loc X.env.scope x:=by first | exact Or.inl rfl | exact Or.inr rfl) (hs:swapsWith e (some (.Name x pos')) pos.line X.env=pure false:=by rfl) (hf:X.fn x=true\/X.env.scope.names.lookup x=some .local:=by first | exact .inl rfl | exact .inr rfl | assumption) :
  PS X (.Assign [.Name x pos'] e pos) (liftS X.K H₀ (wSet i we)):=
 (ps_set hN hi hx he hs hf).imp fun D σ H ⟨δ,D',F,s0,rl,h,ok⟩=>⟨δ,_,F,rl,h,fun v F1 H1 s e p q=>by
  obtain ⟨F2,ff,r2⟩:=rl.setS i e p
  exact ok.nx _ F2 H1 _ ff r2 q⟩
theorem ds_if {c:Expr} {a b:List Stmt} {t:WT} (hc:PT X c (liftT X.K t)) (ha:PSs X a (liftS X.K H₀ w)) (hb:PSs X b (liftS X.K H₀ u)):PS X (.If c a b pos) (liftS X.K H₀ (wIf t w u)):=
 (ps_if hc ha hb).imp fun D σ H ⟨δ,D',F,s0,rl,h,ok⟩=>⟨δ,_,F,rl,h,fun F1 H1 k e q=>by
  cases k with
  | true=>exact ⟨δ,D',F1,s0.trans e.ff,rl.ext e,by simpa using q,ok.mono e.ff⟩
  | false=>exact ⟨δ,D',F1,s0.trans e.ff,rl.ext e,by simpa using q,ok.mono e.ff⟩⟩
theorem ret_ok {K:PySem.W.Frag} {F H F1 H1:Hp} (s0:Same H₀ H) (e:Ext F H F1 H1):∀ {s:S} {v:V},RepE K H F1 H1 s v->RepC K H₀ H1 (out s) v
 | .t _,_,h=>TRep.same e.sub h
 | .vt _,_,h=>h
 | .ol _,_,⟨a,xs,h1,h2,_,h3,h4⟩=>⟨a,xs,h1,none_of_same s0 h2,h3,TReps.same e.sub h4⟩
theorem ds_ret (he:PE X e (liftE X.K we)):PS X (.Return (some e) pos) (liftS X.K H₀ (wRet we)):=
 (ps_ret he).imp fun D σ H ⟨δ,D',F,s0,rl,h,ok⟩=>⟨δ,_,F,rl,h,fun v F1 H1 s e p q=>ok.rt v H1 _ ((s0.trans rl.sub).trans e.hh) (ret_ok (s0.trans rl.sub) e p) q⟩
theorem slot_out {K:PySem.W.Frag} {F H:Hp} (s0:Same H₀ F) (sb:Same F H):∀ {s:S} {v:V},SlotOk K F H s v->RepC K H₀ H s v
 | .t _,_,h=>TRep.same sb h
 | .vt _,_,h=>False.elim h
 | .ol _,_,⟨a,xs,h1,h2,h3,h4⟩=>⟨a,xs,h1,none_of_same s0 h2,h3,TReps.same sb h4⟩
def wRetZ (we:WE):WS:=fun D δ=>we (freeze δ) fun s=>D.rt (out s)
theorem ds_retV {i:Nat} (he:PE X e (tVar i)):PS X (.Return (some e) pos) (liftS X.K H₀ (wRetV i)):=
 (ps_ret he).imp fun D σ H ⟨δ,D',F,s0,rl,h,ok⟩=>by
  unfold wRetV at h
  split at h
  ·rename_i s hs
   obtain ⟨v,h1,h2⟩:=rl.slot i s hs
   exact ⟨v,h1,ok.rt v H s (s0.trans rl.sub) (slot_out s0 rl.sub h2) h⟩
  ·exact h.elim
theorem ds_while {c:Expr} {body:List Stmt} {t:WT} {wb:WS} (hp:PassesOwn (model X.prog X.w) X.A X.env X.xe) (hc:PT X c (liftT X.K t)) (hb:PSs X body (liftS X.K H₀ wb)):PS X (.While c body [] pos) (liftS X.K H₀ (wWhile t wb)):=
 (ps_while hp hc hb).imp fun D σ H ⟨δ,D',F,s0,rl,⟨I,⟨n,h⟩,step⟩,ok⟩=>by
  refine ⟨fun m σ H=>∃ δ F1,Same F F1/\Rel X.K F1 H σ δ/\I m δ,⟨n,δ,F,Same.refl _,rl,h⟩,?_⟩
  rintro m σ H ⟨δ,F1,f1,rl,h⟩
  refine ⟨δ,_,F1,rl,step m δ h,fun F2 H2 k e q=>?_⟩
  cases k with
  | true=>
   refine ⟨fun σ' H'=>∃ δ F1 j,j < m/\Same F F1/\Rel X.K F1 H' σ' δ/\I j δ,fun σ' H' ⟨δ',F',j,hj,a1,a2,a3⟩=>⟨j,hj,δ',F',a1,a2,a3⟩,?_⟩
   refine ⟨δ,{ nx:=fun δ'=>∃ j,j < m/\I j δ',rt:=D'.rt,bk:=D'.nx,ct:=fun δ'=>∃ j,j < m/\I j δ' },F2,(s0.trans f1).trans e.ff,rl.ext e,by simpa using q,⟨fun σ' F' H' δ' ff r' ⟨j,hj,h'⟩=>⟨δ',F',j,hj,(f1.trans e.ff).trans ff,r',h'⟩,ok.rt,fun σ' F' H' δ' ff r' h'=>ok.nx σ' F' H' δ' ((f1.trans e.ff).trans ff) r' h',fun σ' F' H' δ' ff r' ⟨j,hj,h'⟩=>⟨δ',F',j,hj,(f1.trans e.ff).trans ff,r',h'⟩⟩⟩
  | false=>exact ok.nx σ F2 H2 δ (f1.trans e.ff) (rl.ext e) (by simpa using q)
end
def liftG (K:PySem.W.Frag) (g:WG):TG:=fun v σ H Q=>∃ t δ R F,TRep K F t v/\Rel K F H σ δ/\g t δ R/\∀ σ' δ',Rel K F H σ' δ'->R δ'->Q σ' H
def liftGs (K:PySem.W.Frag) (g:List T->DSt->(DSt->Prop)->Prop):TGs:=fun vs σ H Q=>∃ ts δ R F,TReps K F ts vs/\Rel K F H σ δ/\g ts δ R/\∀ σ' δ',Rel K F H σ' δ'->R δ'->Q σ' H
section
variable {X:Cx} {pos:Pos} {H₀:Hp}
theorem dg_name {i:Nat} {x:Str} (hN:X.N.Nodup) (hi:X.N[i]?=some x:=by rfl) (hx:Loc X.env.scope x:=by first | exact Or.inl rfl | exact Or.inr rfl) (hf:X.fn x=true\/X.env.scope.names.lookup x=some .local:=by first | exact .inl rfl | exact .inr rfl | assumption):PG X (.Name x pos) (liftG X.K (wgName i)):=
 (pg_name hN hi hx hf).imp fun v σ H Q ⟨t,δ,R,F,p,rl,h,k⟩=>k _ _ (rl.put (s:=.t t) p (fun _ z=>by cases z)) h
theorem dgs_nil:PGs X [] (liftGs X.K wgNil):=pgs_nil.imp fun v σ H Q ⟨ts,δ,R,F,p,rl,h,k⟩=>by
 unfold wgNil at h
 split at h
 ·cases (show v=[] from p)
  exact ⟨rfl,k σ δ rl h⟩
 ·exact h.elim
theorem dgs_cons {e:Expr} {es:List Expr} {g:WG} {gr:List T->DSt->(DSt->Prop)->Prop} (h1:PG X e (liftG X.K g)) (h2:PGs X es (liftGs X.K gr))
  (hs:(assignEach (e::es) X.env).map (·.2)=assign e X.env::(assignEach es X.env).map (·.2):=by rfl):PGs X (e::es) (liftGs X.K (wgCons g gr)):=
 (pgs_cons h1 h2 hs).imp fun v σ H Q ⟨ts,δ,R,F,p,rl,h,k⟩=>by
  unfold wgCons at h
  split at h
  ·rename_i t r
   obtain ⟨x,vr,e1,p1,p2⟩:=p
   exact ⟨x,vr,e1,t,δ,_,F,p1,rl,h,fun σ' δ' rl' h'=>⟨r,δ',R,F,p2,rl',h',k⟩⟩
  ·exact h.elim
theorem dg_tup {es:List Expr} {k:Nat} {g:List T->DSt->(DSt->Prop)->Prop} {n:Nat} (h:PGs X es (liftGs X.K g)) (hl:∀ ts δ R,g ts δ R->ts.length=n) (hc:X.calm=true:=by rfl)
  (hn:(assignEach es X.env).length=n:=by rfl) (hst:(assignEach es X.env).findIdx? (·.1)=none:=by rfl):PG X (.Tuple es k pos) (liftG X.K (wgTup g)):=
 (pg_tup hc h hn hst).imp fun v σ H Q ⟨t,δ,R,F,p,rl,h,k⟩=>by
  unfold wgTup at h
  split at h
  ·rename_i ts
   obtain ⟨a,xs,e1,p1,p2⟩:=p
   exact ⟨a,xs,e1,Same.sqT rl.sub a xs p1,by rw [p2.length];exact hl ts δ R h,ts,δ,R,F,p2,rl,h,k⟩
  ·exact h.elim
theorem len_nil:∀ ts δ R,wgNil ts δ R->ts.length=0:=fun ts δ R h=>by
 unfold wgNil at h
 split at h
 ·rfl
 ·exact h.elim
theorem len_cons {n:Nat} {i:Nat} {gr:List T->DSt->(DSt->Prop)->Prop} (hr:∀ ts δ R,gr ts δ R->ts.length=n):∀ ts δ R,wgCons (wgName i) gr ts δ R->ts.length=n + 1:=fun ts δ R h=>by
 unfold wgCons at h
 split at h
 ·rw [List.length_cons,hr _ _ _ h]
 ·exact h.elim
theorem ds_unp {tg e:Expr} {we:WE} {g:WG} (he:PE X e (liftE X.K we)) (hg:PG X tg (liftG X.K g)) (hs:swapsWithSole [tg] e pos.line X.env=pure false:=by rfl) (hw:swappedStores [tg] e X.env=pure none:=by rfl)
  (h1:(assignEach [tg] X.env).map (·.2)=[assign tg X.env]:=by rfl):PS X (.Assign [tg] e pos) (liftS X.K H₀ (wUnp we g)):=
 (ps_asg he hg hs hw h1).imp fun D σ H ⟨δ,D',F,s0,rl,h,ok⟩=>⟨δ,_,F,rl,h,fun v F1 H1 s e p q=>by
  cases s with
  | t t=>exact ⟨t,δ,_,F1,p,rl.ext e,q,fun σ' δ' rl' h'=>ok.nx σ' F1 H1 δ' e.ff rl' h'⟩
  | vt t=>exact ⟨t,freeze δ,_,H1,p,(rl.ext e).freeze,q,fun σ' δ' rl' h'=>ok.nx σ' H1 H1 δ' (e.ff.trans e.sub) rl' h'⟩
  | ol ts=>
   obtain ⟨rl2,r2⟩:=rl.thaw e p
   refine ⟨.lst ts,δ,_,_,?_,rl2,q,fun σ' δ' rl' h'=>ok.nx σ' _ H1 δ' r2.1 rl' h'⟩
   unfold TRep
   exact r2.2⟩
theorem ds_par {i j:Nat} {x y:Str} {a b:Expr} {wa:WA} {px py pt:Pos} {kt k2 pt2} (hN:X.N.Nodup) (ha:PA X [a,b] (liftA X.K wa)) (hi:X.N[i]?=some x:=by rfl) (hj:X.N[j]?=some y:=by rfl) (hij:i ≠ j:=by decide)
  (hx:X.env.scope.names.lookup x=some .local:=by rfl) (hy:X.env.scope.names.lookup y=some .local:=by rfl)
  (hw:swappedStores [.Tuple [.Name x px,.Name y py] kt pt] (.Tuple [a,b] k2 pt2) X.env=pure (some [x,y]):=by rfl) (hc:X.calm=true:=by rfl)
  (hs:swapsWithSole [.Tuple [.Name x px,.Name y py] kt pt] (.Tuple [a,b] k2 pt2) pos.line X.env=pure false:=by rfl) :
  PS X (.Assign [.Tuple [.Name x px,.Name y py] kt pt] (.Tuple [a,b] k2 pt2) pos) (liftS X.K H₀ (wPar i j wa)):=
 (ps_par hc hN hi hj hij hx hy ha hw hs).imp fun D σ H ⟨δ,D',F,s0,rl,h,ok⟩=>⟨δ,_,F,rl,h,fun vs F1 H1 ss e p q=>by
  split at q
  ·rename_i t u
   obtain ⟨v1,r1,e1,p1,v2,r2,e2,p2,p3⟩:=p
   cases (show r2=[] from p3)
   exact ⟨v1,v2,by rw [e1,e2],ok.nx _ F1 H1 _ e.ff (((rl.ext e).put (i:=i) (s:=.t t) p1 (fun _ z=>by cases z)).put (i:=j) (s:=.t u) p2 (fun _ z=>by cases z)) q⟩
  ·exact q.elim⟩
end
def ItOk (K:PySem.W.Frag) (F:Hp) (J:It) (ts:List T):Prop:=
 ∀ F1 H1 i,Same F F1->Same F1 H1->Full F1 H1->(∀ t,ts[i]?=some t->J.go i H1/\∀ x H2,J.yld i H1 x H2->∃ F2,Ext F1 H1 F2 H2/\TRep K F2 t x)/\(ts.length<=i->J.stop i H1)
def liftI (K:PySem.W.Frag) (w:WI):TI:=fun σ H R=>∃ δ W F,Rel K F H σ δ/\w δ W/\∀ J F0 F' H' ts δ',Ext F H F0 H'->Same F0 F'->Rel K F' H' σ δ'->ItOk K F' J ts->W ts δ'->R J H'
theorem drop_get {α:Type} {l:List α} {i:Nat} {x:α} {r:List α} (h:l.drop i=x::r):l[i]?=some x/\l.drop (i + 1)=r:=by
 constructor
 ·rw [<-List.head?_drop,h];rfl
 ·rw [<-List.tail_drop,h];rfl
section
variable {X:Cx} {pos:Pos} {H₀:Hp} {tg:Expr}
theorem ds_for {iter:Expr} {body:List Stmt} {wi:WI} {g:WG} {wb:WS} (hp:PassesOwn (model X.prog X.w) X.A X.env X.xe) (hi:PI X tg iter (liftI X.K wi)) (hg:PG X tg (liftG X.K g)) (hb:PSs X body (liftS X.K H₀ wb)) (hc:X.calm=true:=by rfl)
  (hs:∀ x,foldedSetIterable iter X.env x=pure x:=by intro _;rfl):PS X (.For tg iter body [] pos) (liftS X.K H₀ (wFor wi g wb)):=
 (ps_for hp hc hi hg hb hs).imp fun D σ H ⟨δ,D',F,s0,rl,h,ok⟩=>⟨δ,_,F,rl,h,fun J F0 F1 H1 ts δ1 e0 f01 rl1 it q=>by
  have f1:Same F F1:=e0.ff.trans f01
  obtain ⟨W,w0,wend,wstep⟩:=q
  refine ⟨fun i m σ H=>m=ts.length - i/\i<=ts.length/\∃ δ F2,Same F1 F2/\Rel X.K F2 H σ δ/\W (ts.drop i) δ,⟨ts.length,by simp,Nat.zero_le _,δ1,F1,Same.refl _,rl1,by simpa using w0⟩,?_⟩
  rintro i m σ H ⟨rfl,hi,δ,F2,f2,rl,h⟩
  obtain ⟨hgo,hstop⟩:=it F2 H i f2 rl.sub rl.full
  cases hd:ts.drop i with
  | nil=>
   rw [hd] at h
   have:ts.length<=i:=by simpa using hd
   exact .inl ⟨hstop this,ok.nx σ F2 H δ (f1.trans f2) rl (wend δ h)⟩
  | cons x r=>
   rw [hd] at h
   obtain ⟨h1,h2⟩:=drop_get hd
   obtain ⟨go,yld⟩:=hgo x h1
   have hlt:i < ts.length:=by
    have:=congrArg List.length hd
    simp at this
    omega
   have nexts:∀ σ' F' H' δ',Same F1 F'->Rel X.K F' H' σ' δ'->W r δ'->∃ m',m' < ts.length - i/\(m'=ts.length - (i + 1)/\i + 1<=ts.length/\∃ δ F2,Same F1 F2/\Rel X.K F2 H' σ' δ/\W (ts.drop (i + 1)) δ):=
    fun σ' F' H' δ' ff rl' h'=>⟨ts.length - (i + 1),by omega,rfl,hlt,δ',F',ff,rl',by rw [h2];exact h'⟩
   refine .inr ⟨go,fun σ' H'=>∃ δ F2,Same F1 F2/\Rel X.K F2 H' σ' δ/\W r δ,fun σ' H' ⟨δ',F',ff,rl',h'⟩=>nexts σ' F' H' δ' ff rl' h',fun v H2 y=>?_⟩
   obtain ⟨F3,e3,p3⟩:=yld v H2 y
   refine ⟨x,δ,_,F3,p3,rl.ext e3,wstep x r δ h,fun σ' δ' rl' h'=>?_⟩
   exact ⟨δ',_,F3,((s0.trans f1).trans f2).trans e3.ff,rl',h',⟨fun σ'' F'' H'' δ'' ff rl'' h''=>⟨δ'',F'',(f2.trans e3.ff).trans ff,rl'',h''⟩,ok.rt,fun σ'' F'' H'' δ'' ff rl'' h''=>ok.nx σ'' F'' H'' δ'' (((f1.trans f2).trans e3.ff).trans ff) rl'' h'',fun σ'' F'' H'' δ'' ff rl'' h''=>⟨δ'',F'',(f2.trans e3.ff).trans ff,rl'',h''⟩⟩⟩⟩
def listK (δ:DSt) (W:List T->DSt->Prop):S->Prop
 | .t (.lst ts)=>W ts δ
 | .vt (.lst ts)=>W ts (freeze δ)
 | .ol ts=>W ts δ
 | _=>False
def wiList (we:WE):WI:=fun δ W=>we δ fun s=>listK δ W s
theorem it_list {K:PySem.W.Frag} {F:Hp} {a:Addr} {xs:List V} {ts:List T} (h:SqL K F a xs) (r:TReps K F ts xs):ItOk K F (Itl K a) ts:=by
 intro F1 H1 i f1 sb fu
 have q:SqL K H1 a xs:=sb.seq (f1.seq h)
 refine ⟨fun t ht=>?_,fun hl=>⟨xs,q,by rw [r.length];exact hl⟩⟩
 obtain ⟨x,h1,h2⟩:=r.get ht
 refine ⟨⟨xs,x,q,h1⟩,fun y H2 hy=>?_⟩
 obtain ⟨e,hy⟩:=hy
 subst e
 have:=hy xs q
 rw [h1] at this
 cases this
 exact ⟨F1,Ext.refl sb fu,TRep.same f1 h2⟩
end
end DL
namespace DL
open PySem L2
mutual
def eqT:T->T->Bool
 | .non,.non=>true
 | .bl a,.bl b=>a == b
 | .bl a,.int b=>(if a then 1 else 0) == b
 | .int a,.bl b=>a == (if b then 1 else 0)
 | .int a,.int b=>a == b
 | .str a,.str b=>a == b
 | .tup a,.tup b=>eqTs a b
 | .lst a,.lst b=>eqTs a b
 | _,_=>false
def eqTs:List T->List T->Bool
 | [],[]=>true
 | a::r,b::s=>eqT a b && eqTs r s
 | _,_=>false
end
mutual
def dep:T->Nat
 | .tup ts=>deps ts + 1
 | .lst ts=>deps ts + 1
 | .exc _=>1000
 | _=>0
def deps:List T->Nat
 | []=>0
 | t::r=>max (dep t) (deps r)
end
mutual
theorem eqT_refl:∀ t:T,dep t < 1000->eqT t t=true
 | .non,_=>rfl
 | .bl b,_=>by simp [eqT]
 | .int i,_=>by simp [eqT]
 | .str x,_=>by simp [eqT]
 | .tup ts,h=>by simp only [eqT];exact eqTs_refl ts (by simp only [dep] at h;omega)
 | .lst ts,h=>by simp only [eqT];exact eqTs_refl ts (by simp only [dep] at h;omega)
 | .exc _,h=>by simp [dep] at h
theorem eqTs_refl:∀ ts:List T,deps ts < 1000->eqTs ts ts=true
 | [],_=>by simp [eqTs]
 | t::r,h=>by
  simp only [deps] at h
  simp only [eqTs,eqT_refl t (by omega),eqTs_refl r (by omega)];rfl
end
section
variable {X:Cx} {pins:List (Addr × Obj)} {σ:St} {H:Hp} {s:Shared}
theorem kinds_ne (I:Inv X pins σ H s) {a:Addr} {xs ys:List V} (h:SqT X.K H a xs) (g:SqL X.K H a ys):False:=by
 obtain ⟨its,_,p1,_⟩:=I.tuple h
 obtain ⟨its2,_,p2,_⟩:=I.list g
 exact SeqAt.ne_of_list_tuple p2.isList p1 rfl
mutual
theorem TRep.inj (I:Inv X pins σ H s):∀ (t u:T) (v:V),dep t < 1000->dep u < 1000->TRep X.K H t v->TRep X.K H u v->t=u
 | .non,u,v,_,_,h,g=>by cases (show v=_ from h);cases u with
  | non=>rfl
  | tup ts=>unfold TRep at g;obtain ⟨_,_,e,_⟩:=g;cases e
  | lst ts=>unfold TRep at g;obtain ⟨_,_,e,_⟩:=g;cases e
  | exc c=>unfold TRep at g;obtain ⟨_,_,e,_⟩:=g;cases e
  | _=>cases g
 | .bl b,u,v,_,_,h,g=>by cases (show v=_ from h);cases u with
  | bl c=>cases g;rfl
  | tup ts=>unfold TRep at g;obtain ⟨_,_,e,_⟩:=g;cases e
  | lst ts=>unfold TRep at g;obtain ⟨_,_,e,_⟩:=g;cases e
  | exc c=>unfold TRep at g;obtain ⟨_,_,e,_⟩:=g;cases e
  | _=>cases g
 | .int b,u,v,_,_,h,g=>by cases (show v=_ from h);cases u with
  | int c=>cases g;rfl
  | tup ts=>unfold TRep at g;obtain ⟨_,_,e,_⟩:=g;cases e
  | lst ts=>unfold TRep at g;obtain ⟨_,_,e,_⟩:=g;cases e
  | exc c=>unfold TRep at g;obtain ⟨_,_,e,_⟩:=g;cases e
  | _=>cases g
 | .str b,u,v,_,_,h,g=>by cases (show v=_ from h);cases u with
  | str c=>cases g;rfl
  | tup ts=>unfold TRep at g;obtain ⟨_,_,e,_⟩:=g;cases e
  | lst ts=>unfold TRep at g;obtain ⟨_,_,e,_⟩:=g;cases e
  | exc c=>unfold TRep at g;obtain ⟨_,_,e,_⟩:=g;cases e
  | _=>cases g
 | .tup ts,u,v,d1,d2,h,g=>by
  unfold TRep at h
  obtain ⟨a,xs,e,h1,h2⟩:=h
  subst e
  cases u with
  | tup us=>
   unfold TRep at g
   obtain ⟨b,ys,e,g1,g2⟩:=g
   cases e
   have:=I.tuple_inj h1 g1
   subst this
   rw [TReps.inj I ts us xs (by simp only [dep] at d1;omega) (by simp only [dep] at d2;omega) h2 g2]
  | lst us=>
   unfold TRep at g
   obtain ⟨b,ys,e,g1,g2⟩:=g
   cases e
   exact (kinds_ne I h1 g1).elim
  | exc c=>simp [dep] at d2
  | _=>cases g
 | .lst ts,u,v,d1,d2,h,g=>by
  unfold TRep at h
  obtain ⟨a,xs,e,h1,h2⟩:=h
  subst e
  cases u with
  | lst us=>
   unfold TRep at g
   obtain ⟨b,ys,e,g1,g2⟩:=g
   cases e
   have:=I.list_inj h1 g1
   subst this
   rw [TReps.inj I ts us xs (by simp only [dep] at d1;omega) (by simp only [dep] at d2;omega) h2 g2]
  | tup us=>
   unfold TRep at g
   obtain ⟨b,ys,e,g1,g2⟩:=g
   cases e
   exact (kinds_ne I g1 h1).elim
  | exc c=>simp [dep] at d2
  | _=>cases g
 | .exc _,_,_,d1,_,_,_=>by simp [dep] at d1
theorem TReps.inj (I:Inv X pins σ H s):∀ (ts us:List T) (xs:List V),deps ts < 1000->deps us < 1000->TReps X.K H ts xs->TReps X.K H us xs->ts=us
 | [],us,xs,_,_,h,g=>by
  cases (show xs=[] from h)
  cases us with
  | nil=>rfl
  | cons u us=>obtain ⟨_,_,e,_⟩:=g;cases e
 | t::ts,us,xs,d1,d2,⟨x,r,e,h1,h2⟩,g=>by
  subst e
  cases us with
  | nil=>cases (show _=[] from g)
  | cons u us=>
   obtain ⟨y,r',e,g1,g2⟩:=g
   cases e
   simp only [deps] at d1 d2
   rw [TRep.inj I t u x (by omega) (by omega) h1 g1,TReps.inj I ts us r (by omega) (by omega) h2 g2]
end
def eqAt (ts us:List T) (j:Nat):Bool:=match ts[j]?,us[j]? with
 | some a,some b=>eqT a b
 | _,_=>true
theorem range_all_succ (n:Nat) (e:Nat->Bool):(List.range (n + 1)).all e=(e 0 && (List.range n).all fun j=>e (j + 1)):=by
 rw [List.range_succ_eq_map,List.all_cons,List.all_map];rfl
theorem eqTs_all:∀ (ts us:List T),((List.range (min ts.length us.length)).all (eqAt ts us) && ts.length == us.length)=eqTs ts us
 | [],[]=>by simp [eqTs]
 | [],u::us=>by simp [eqTs]
 | t::ts,[]=>by simp [eqTs]
 | t::ts,u::us=>by
  have ih:=eqTs_all ts us
  have e1:min (t::ts).length (u::us).length=min ts.length us.length + 1:=by simp only [List.length_cons];omega
  rw [e1,range_all_succ]
  have e2:eqAt (t::ts) (u::us) 0=eqT t u:=by simp [eqAt]
  have e3:(fun j=>eqAt (t::ts) (u::us) (j + 1))=eqAt ts us:=by funext j;simp [eqAt]
  have e4:((t::ts).length == (u::us).length)=(ts.length == us.length):=by simp
  rw [e2,e3,e4]
  simp only [eqTs]
  rw [<-ih,Bool.and_assoc]
theorem units_in1 (A:Around):A.in1.units=A.units + 1:=rfl
theorem deps_get:∀ {ts:List T} {j:Nat} {t:T},ts[j]?=some t->dep t<=deps ts
 | [],_,_,h=>by simp at h
 | t::ts,0,u,h=>by simp at h;subst h;simp only [deps];omega
 | t::ts,j + 1,u,h=>by
  have:=deps_get (ts:=ts) (j:=j) (t:=u) (by simpa using h)
  simp only [deps];omega
theorem pair_ok {A:Around} {ts us:List T} {xs ys:List V} {its its2:List Value} (h1:TReps X.K H ts xs) (h2:TReps X.K H us ys) (r1:Vals xs its) (r2:Vals ys its2)
  (ih:∀ t u v1 v2 u1 u2,t∈ts->u∈us->TRep X.K H t v1->TRep X.K H u v2->RelV v1 u1->RelV v2 u2->SeqAt.EqAt A s u1 u2 (eqT t u)) :
  ∀ j (h1:j < its.toArray.size) (h2:j < its2.toArray.size),SeqAt.EqAt A s its.toArray[j] its2.toArray[j] (eqAt ts us j):=by
 intro j q1 q2
 have l1:=h1.length
 have l2:=h2.length
 have l3:=r1.length
 have l4:=r2.length
 rw [List.size_toArray] at q1 q2
 have g1:j < ts.length:=by omega
 have g2:j < us.length:=by omega
 obtain ⟨x,p1,p2⟩:=h1.get (List.getElem?_eq_getElem g1)
 obtain ⟨y,p3,p4⟩:=h2.get (List.getElem?_eq_getElem g2)
 obtain ⟨w1,p5,p6⟩:=r1.get p1
 obtain ⟨w2,p7,p8⟩:=r2.get p3
 have e1:its.toArray[j]=w1:=by
  have:=List.getElem?_eq_getElem q1
  rw [p5] at this
  simpa using (Option.some.inj this).symm
 have e2:its2.toArray[j]=w2:=by
  have:=List.getElem?_eq_getElem q2
  rw [p7] at this
  simpa using (Option.some.inj this).symm
 have e3:eqAt ts us j=eqT ts[j] us[j]:=by
  unfold eqAt
  rw [List.getElem?_eq_getElem g1,List.getElem?_eq_getElem g2]
 rw [e1,e2,e3]
 exact ih _ _ x y w1 w2 (List.getElem_mem g1) (List.getElem_mem g2) p2 p4 p6 p8
theorem mem_dep {ts:List T} {t:T} (h:t∈ts):dep t<=deps ts:=by
 obtain ⟨j,hj,rfl⟩:=List.mem_iff_getElem.mp h
 exact deps_get (List.getElem?_eq_getElem hj)
theorem eqTs_range {ts us:List T} (h:ts.length=us.length):(List.range ts.length).all (eqAt ts us)=eqTs ts us:=by
 have:=eqTs_all ts us
 rw [<-h] at this
 simpa using this
theorem eqTs_len:∀ {ts us:List T},ts.length ≠ us.length->eqTs ts us=false
 | [],[],h=>absurd rfl h
 | [],_::_,_=>by simp [eqTs]
 | _::_,[],_=>by simp [eqTs]
 | t::ts,u::us,h=>by
  simp only [eqTs]
  rw [eqTs_len (ts:=ts) (us:=us) (by simpa using h),Bool.and_false]
theorem seq_t {A:Around} {a b:Addr} {ts us:List T} {xs ys:List V} {its its2:List Value} (p2:TReps X.K H ts xs) (g2:TReps X.K H us ys) (q1:Vals xs its) (q2:Vals ys its2) (pl:PyProof.Rows.IsTup s.heap a its.toArray) (pl2:PyProof.Rows.IsTup s.heap b its2.toArray) (hu':A.units < cLine)
  (ih:∀ t u v1 v2 u1 u2,t∈ts->u∈us->TRep X.K H t v1->TRep X.K H u v2->RelV v1 u1->RelV v2 u2->SeqAt.EqAt A.in1 s u1 u2 (eqT t u)) :
  SeqAt.RcAt A s (.ref a) (.ref b) (eqTs ts us)/\SeqAt.RcNeAt A s (.ref a) (.ref b) (!eqTs ts us):=by
 have h1:=SeqAt.RcAt.tuples (A:=A) (e:=eqAt ts us) pl pl2 hu' (pair_ok p2 g2 q1 q2 ih)
 have h2:=SeqAt.RcNeAt.tuples (A:=A) (e:=eqAt ts us) pl pl2 hu' (pair_ok p2 g2 q1 q2 ih)
 rw [List.size_toArray,List.size_toArray,<-q1.length,<-q2.length,p2.length,g2.length,eqTs_all] at h1 h2
 exact ⟨h1,h2⟩
theorem seq_l {A:Around} {a b:Addr} {ts us:List T} {xs ys:List V} {its its2:List Value} (p2:TReps X.K H ts xs) (g2:TReps X.K H us ys) (q1:Vals xs its) (q2:Vals ys its2) (pl:PlainL s.heap a its.toArray) (pl2:PlainL s.heap b its2.toArray) (hu':A.units < cLine)
  (ih:∀ t u v1 v2 u1 u2,t∈ts->u∈us->TRep X.K H t v1->TRep X.K H u v2->RelV v1 u1->RelV v2 u2->SeqAt.EqAt A.in1 s u1 u2 (eqT t u)) :
  SeqAt.RcAt A s (.ref a) (.ref b) (eqTs ts us)/\SeqAt.RcNeAt A s (.ref a) (.ref b) (!eqTs ts us):=by
 have e1:its.toArray.size=ts.length:=by rw [List.size_toArray,<-q1.length,p2.length]
 have e2:its2.toArray.size=us.length:=by rw [List.size_toArray,<-q2.length,g2.length]
 by_cases hl:ts.length=us.length
 ·have hp:=pair_ok (A:=A.in1) p2 g2 q1 q2 ih
  have g1:=SeqAt.RcAt.lists pl.isList pl2.isList (by rw [e1,e2,hl]) hu' hp
  have g2:=SeqAt.RcNeAt.lists pl.isList pl2.isList (by rw [e1,e2,hl]) hu' hp
  rw [e1,eqTs_range hl] at g1 g2
  exact ⟨g1,g2⟩
 ·have ne:(its.toArray.size != its2.toArray.size)=true:=by rw [e1,e2];simpa using hl
  rw [eqTs_len hl]
  exact ⟨SeqAt.RcAt.lists_lengths pl.isList pl2.isList ne hu',SeqAt.RcNeAt.lists_lengths pl.isList pl2.isList ne hu'⟩
theorem rc_trees (I:Inv X pins σ H s):∀ (n:Nat) (A:Around) (t u:T) (v1 v2:V) (u1 u2:Value),dep t<=n->dep u < 1000->n < 1000->A.units + n < cLine->TRep X.K H t v1->TRep X.K H u v2->RelV v1 u1->RelV v2 u2 →
  SeqAt.RcAt A s u1 u2 (eqT t u)/\SeqAt.RcNeAt A s u1 u2 (!eqT t u)/\SeqAt.EqAt A s u1 u2 (eqT t u):=by
 intro n
 induction n with
 | zero=>
  intro A t u v1 v2 u1 u2 hd hd2 hn hu h1 h2 r1 r2
  have hu':A.units < cLine:=by omega
  cases t with
  | tup ts=>simp only [dep] at hd;omega
  | lst ts=>simp only [dep] at hd;omega
  | exc c=>simp [dep] at hd
  | non=>
   cases h1;cases r1
   cases u with
   | non=>cases h2;cases r2;exact ⟨SeqAt.RcAt.none_none,SeqAt.RcNeAt.none_none,SeqAt.EqAt.same _⟩
   | bl b=>cases h2;cases r2;exact ⟨SeqAt.RcAt.none_bool b,SeqAt.RcNeAt.none_bool b,SeqAt.EqAt.none_bool b⟩
   | int b=>cases h2;obtain ⟨tk,rfl⟩:=r2;exact ⟨SeqAt.RcAt.none_int b tk,SeqAt.RcNeAt.none_int b tk,SeqAt.EqAt.none_int b tk⟩
   | str b=>cases h2;obtain ⟨tk,rfl⟩:=r2;exact ⟨SeqAt.RcAt.none_str b tk,SeqAt.RcNeAt.none_str b tk,SeqAt.EqAt.none_str b tk⟩
   | tup us=>
    unfold TRep at h2
    obtain ⟨a,xs,rfl,g1,g2⟩:=h2
    cases r2
    obtain ⟨its,_,pl,_⟩:=I.tuple g1
    exact ⟨SeqAt.RcAt.none_tuple pl hu',SeqAt.RcNeAt.none_tuple pl hu',SeqAt.EqAt.none_tuple pl hu'⟩
   | lst us=>
    unfold TRep at h2
    obtain ⟨a,xs,rfl,g1,g2⟩:=h2
    cases r2
    obtain ⟨its,_,pl,_⟩:=I.list g1
    exact ⟨SeqAt.RcAt.none_list pl.isList hu',SeqAt.RcNeAt.none_list pl.isList hu',SeqAt.EqAt.none_list pl.isList hu'⟩
   | exc c=>simp [dep] at hd2
  | bl c=>
   cases h1;cases r1
   cases u with
   | non=>cases h2;cases r2;exact ⟨SeqAt.RcAt.bool_none c,SeqAt.RcNeAt.bool_none c,SeqAt.EqAt.bool_none c⟩
   | bl b=>cases h2;cases r2;exact ⟨SeqAt.RcAt.bool_bool c b,SeqAt.RcNeAt.bool_bool c b,SeqAt.EqAt.bool_bool c b⟩
   | int b=>cases h2;obtain ⟨tk,rfl⟩:=r2;exact ⟨SeqAt.RcAt.bool_int c b tk,SeqAt.RcNeAt.bool_int c b tk,SeqAt.EqAt.bool_int c b tk⟩
   | str b=>cases h2;obtain ⟨tk,rfl⟩:=r2;exact ⟨SeqAt.RcAt.bool_str c b tk,SeqAt.RcNeAt.bool_str c b tk,SeqAt.EqAt.bool_str c b tk⟩
   | tup us=>
    unfold TRep at h2
    obtain ⟨a,xs,rfl,g1,g2⟩:=h2
    cases r2
    obtain ⟨its,_,pl,_⟩:=I.tuple g1
    exact ⟨SeqAt.RcAt.bool_tuple c pl hu',SeqAt.RcNeAt.bool_tuple c pl hu',SeqAt.EqAt.bool_tuple c pl hu'⟩
   | lst us=>
    unfold TRep at h2
    obtain ⟨a,xs,rfl,g1,g2⟩:=h2
    cases r2
    obtain ⟨its,_,pl,_⟩:=I.list g1
    exact ⟨SeqAt.RcAt.bool_list c pl.isList hu',SeqAt.RcNeAt.bool_list c pl.isList hu',SeqAt.EqAt.bool_list c pl.isList hu'⟩
   | exc c=>simp [dep] at hd2
  | int c=>
   cases h1;obtain ⟨tk1,rfl⟩:=r1
   cases u with
   | non=>cases h2;cases r2;exact ⟨SeqAt.RcAt.int_none c tk1,SeqAt.RcNeAt.int_none c tk1,SeqAt.EqAt.int_none c tk1⟩
   | bl b=>cases h2;cases r2;exact ⟨SeqAt.RcAt.int_bool c tk1 b,SeqAt.RcNeAt.int_bool c tk1 b,SeqAt.EqAt.int_bool c tk1 b⟩
   | int b=>cases h2;obtain ⟨tk,rfl⟩:=r2;exact ⟨SeqAt.RcAt.int_int c tk1 b tk,SeqAt.RcNeAt.int_int c tk1 b tk,SeqAt.EqAt.int_int c tk1 b tk⟩
   | str b=>cases h2;obtain ⟨tk,rfl⟩:=r2;exact ⟨SeqAt.RcAt.int_str c tk1 b tk,SeqAt.RcNeAt.int_str c tk1 b tk,SeqAt.EqAt.int_str c tk1 b tk⟩
   | tup us=>
    unfold TRep at h2
    obtain ⟨a,xs,rfl,g1,g2⟩:=h2
    cases r2
    obtain ⟨its,_,pl,_⟩:=I.tuple g1
    exact ⟨SeqAt.RcAt.int_tuple c tk1 pl hu',SeqAt.RcNeAt.int_tuple c tk1 pl hu',SeqAt.EqAt.int_tuple c tk1 pl hu'⟩
   | lst us=>
    unfold TRep at h2
    obtain ⟨a,xs,rfl,g1,g2⟩:=h2
    cases r2
    obtain ⟨its,_,pl,_⟩:=I.list g1
    exact ⟨SeqAt.RcAt.int_list c tk1 pl.isList hu',SeqAt.RcNeAt.int_list c tk1 pl.isList hu',SeqAt.EqAt.int_list c tk1 pl.isList hu'⟩
   | exc c=>simp [dep] at hd2
  | str c=>
   cases h1;obtain ⟨tk1,rfl⟩:=r1
   cases u with
   | non=>cases h2;cases r2;exact ⟨SeqAt.RcAt.str_none c tk1,SeqAt.RcNeAt.str_none c tk1,SeqAt.EqAt.str_none c tk1⟩
   | bl b=>cases h2;cases r2;exact ⟨SeqAt.RcAt.str_bool c tk1 b,SeqAt.RcNeAt.str_bool c tk1 b,SeqAt.EqAt.str_bool c tk1 b⟩
   | int b=>cases h2;obtain ⟨tk,rfl⟩:=r2;exact ⟨SeqAt.RcAt.str_int c tk1 b tk,SeqAt.RcNeAt.str_int c tk1 b tk,SeqAt.EqAt.str_int c tk1 b tk⟩
   | str b=>cases h2;obtain ⟨tk,rfl⟩:=r2;exact ⟨SeqAt.RcAt.str_str c tk1 b tk,SeqAt.RcNeAt.str_str c tk1 b tk,SeqAt.EqAt.str_str c tk1 b tk⟩
   | tup us=>
    unfold TRep at h2
    obtain ⟨a,xs,rfl,g1,g2⟩:=h2
    cases r2
    obtain ⟨its,_,pl,_⟩:=I.tuple g1
    exact ⟨SeqAt.RcAt.str_tuple c tk1 pl hu',SeqAt.RcNeAt.str_tuple c tk1 pl hu',SeqAt.EqAt.str_tuple c tk1 pl hu'⟩
   | lst us=>
    unfold TRep at h2
    obtain ⟨a,xs,rfl,g1,g2⟩:=h2
    cases r2
    obtain ⟨its,_,pl,_⟩:=I.list g1
    exact ⟨SeqAt.RcAt.str_list c tk1 pl.isList hu',SeqAt.RcNeAt.str_list c tk1 pl.isList hu',SeqAt.EqAt.str_list c tk1 pl.isList hu'⟩
   | exc c=>simp [dep] at hd2
 | succ n ih=>
  intro A t u v1 v2 u1 u2 hd hd2 hn hu h1 h2 r1 r2
  have hu':A.units < cLine:=by omega
  have ih:=fun A t u v1 v2 u1 u2 a b=>ih A t u v1 v2 u1 u2 a b (by omega)
  cases t with
  | tup ts=>
   unfold TRep at h1
   obtain ⟨a,xs,rfl,p1,p2⟩:=h1
   cases r1
   obtain ⟨its,q1,pl,_⟩:=I.tuple p1
   cases u with
   | tup us=>
    unfold TRep at h2
    obtain ⟨b,ys,rfl,g1,g2⟩:=h2
    cases r2
    obtain ⟨its2,q2,pl2,_⟩:=I.tuple g1
    simp only [dep] at hd hd2
    have rr:SeqAt.RcAt A s (.ref a) (.ref b) (eqTs ts us)/\SeqAt.RcNeAt A s (.ref a) (.ref b) (!eqTs ts us):=
     seq_t p2 g2 q1 q2 pl pl2 hu' fun t u v1 v2 u1 u2 ht hu2 k1 k2 k3 k4=>
      (ih A.in1 t u v1 v2 u1 u2 (by have:=mem_dep ht;omega) (by have:=mem_dep hu2;omega) (by rw [units_in1];omega) k1 k2 k3 k4).2.2
    refine ⟨by simpa only [eqT] using rr.1,by simpa only [eqT] using rr.2,?_⟩
    by_cases hab:a=b
    ·subst hab
     have:=I.tuple_inj p1 g1
     subst this
     have:=TReps.inj I ts us xs (by omega) (by omega) p2 g2
     subst this
     rw [eqT_refl _ (by simp only [dep];omega)]
     exact SeqAt.EqAt.same _
    ·simp only [eqT]
     exact SeqAt.EqAt.of_refs hab rr.1
   | lst us=>
    unfold TRep at h2
    obtain ⟨b,ys,rfl,g1,g2⟩:=h2
    cases r2
    obtain ⟨its2,q2,pl2,_⟩:=I.list g1
    exact ⟨SeqAt.RcAt.tuple_list pl pl2.isList hu',SeqAt.RcNeAt.tuple_list pl pl2.isList hu',SeqAt.EqAt.tuple_list pl pl2.isList hu'⟩
   | non=>cases h2;cases r2;exact ⟨SeqAt.RcAt.tuple_none pl hu',SeqAt.RcNeAt.tuple_none pl hu',SeqAt.EqAt.tuple_none pl hu'⟩
   | bl b=>cases h2;cases r2;exact ⟨SeqAt.RcAt.tuple_bool b pl hu',SeqAt.RcNeAt.tuple_bool b pl hu',SeqAt.EqAt.tuple_bool b pl hu'⟩
   | int b=>cases h2;obtain ⟨tk,rfl⟩:=r2;exact ⟨SeqAt.RcAt.tuple_int b tk pl hu',SeqAt.RcNeAt.tuple_int b tk pl hu',SeqAt.EqAt.tuple_int b tk pl hu'⟩
   | str b=>cases h2;obtain ⟨tk,rfl⟩:=r2;exact ⟨SeqAt.RcAt.tuple_str b tk pl hu',SeqAt.RcNeAt.tuple_str b tk pl hu',SeqAt.EqAt.tuple_str b tk pl hu'⟩
   | exc c=>simp [dep] at hd2
  | lst ts=>
   unfold TRep at h1
   obtain ⟨a,xs,rfl,p1,p2⟩:=h1
   cases r1
   obtain ⟨its,q1,pl,_⟩:=I.list p1
   cases u with
   | lst us=>
    unfold TRep at h2
    obtain ⟨b,ys,rfl,g1,g2⟩:=h2
    cases r2
    obtain ⟨its2,q2,pl2,_⟩:=I.list g1
    simp only [dep] at hd hd2
    have rr:SeqAt.RcAt A s (.ref a) (.ref b) (eqTs ts us)/\SeqAt.RcNeAt A s (.ref a) (.ref b) (!eqTs ts us):=
     seq_l p2 g2 q1 q2 pl pl2 hu' fun t u v1 v2 u1 u2 ht hu2 k1 k2 k3 k4=>
      (ih A.in1 t u v1 v2 u1 u2 (by have:=mem_dep ht;omega) (by have:=mem_dep hu2;omega) (by rw [units_in1];omega) k1 k2 k3 k4).2.2
    refine ⟨by simpa only [eqT] using rr.1,by simpa only [eqT] using rr.2,?_⟩
    by_cases hab:a=b
    ·subst hab
     have:=I.list_inj p1 g1
     subst this
     have:=TReps.inj I ts us xs (by omega) (by omega) p2 g2
     subst this
     rw [eqT_refl _ (by simp only [dep];omega)]
     exact SeqAt.EqAt.same _
    ·simp only [eqT]
     exact SeqAt.EqAt.of_refs hab rr.1
   | tup us=>
    unfold TRep at h2
    obtain ⟨b,ys,rfl,g1,g2⟩:=h2
    cases r2
    obtain ⟨its2,q2,pl2,_⟩:=I.tuple g1
    exact ⟨SeqAt.RcAt.list_tuple pl.isList pl2 hu',SeqAt.RcNeAt.list_tuple pl.isList pl2 hu',SeqAt.EqAt.list_tuple pl.isList pl2 hu'⟩
   | non=>cases h2;cases r2;exact ⟨SeqAt.RcAt.list_none pl.isList hu',SeqAt.RcNeAt.list_none pl.isList hu',SeqAt.EqAt.list_none pl.isList hu'⟩
   | bl b=>cases h2;cases r2;exact ⟨SeqAt.RcAt.list_bool b pl.isList hu',SeqAt.RcNeAt.list_bool b pl.isList hu',SeqAt.EqAt.list_bool b pl.isList hu'⟩
   | int b=>cases h2;obtain ⟨tk,rfl⟩:=r2;exact ⟨SeqAt.RcAt.list_int b tk pl.isList hu',SeqAt.RcNeAt.list_int b tk pl.isList hu',SeqAt.EqAt.list_int b tk pl.isList hu'⟩
   | str b=>cases h2;obtain ⟨tk,rfl⟩:=r2;exact ⟨SeqAt.RcAt.list_str b tk pl.isList hu',SeqAt.RcNeAt.list_str b tk pl.isList hu',SeqAt.EqAt.list_str b tk pl.isList hu'⟩
   | exc c=>simp [dep] at hd2
  | exc c=>simp only [dep] at hd;omega
  | non=>exact ih A _ u v1 v2 u1 u2 (by simp only [dep];omega) hd2 (by omega) h1 h2 r1 r2
  | bl c=>exact ih A _ u v1 v2 u1 u2 (by simp only [dep];omega) hd2 (by omega) h1 h2 r1 r2
  | int c=>exact ih A _ u v1 v2 u1 u2 (by simp only [dep];omega) hd2 (by omega) h1 h2 r1 r2
  | str c=>exact ih A _ u v1 v2 u1 u2 (by simp only [dep];omega) hd2 (by omega) h1 h2 r1 r2
end
end DL
namespace DL
open PySem L2
def sh (s:S):Prop:=dep (tr s)<=20
def eqS (a b:S):Bool:=eqT (tr a) (tr b)
def fEq:S->S->(S->Prop)->Prop:=fun a b R=>sh a/\sh b/\R (.t (.bl (eqS a b)))
def fNe:S->S->(S->Prop)->Prop:=fun a b R=>sh a/\sh b/\R (.t (.bl (!eqS a b)))
abbrev wEq:=wOp2 fEq
abbrev wNe:=wOp2 fNe
def rEqD (K:PySem.W.Frag) (neg:Bool):R2:=fun x y H Q=>∃ a b,dep a<=20/\dep b<=20/\TRep K H a x/\TRep K H b y/\Q (.bl (if neg then !eqT a b else eqT a b)) H
def inT (x:T) (ts:List T):Bool:=ts.any fun t=>eqT t x
def fNotIn:S->S->(S->Prop)->Prop:=fun a b R=>match tr b with
 | .lst ts=>sh a/\deps ts<=20/\R (.t (.bl (!inT (tr a) ts)))
 | .tup ts=>sh a/\deps ts<=20/\R (.t (.bl (!inT (tr a) ts)))
 | _=>False
abbrev wNotIn:=wOp2 fNotIn
def rInD (K:PySem.W.Frag) (neg:Bool):R2:=fun x y H Q=>∃ a p xs ts,dep a<=20/\deps ts<=20/\TRep K H a x/\y=.ref p/\(SqL K H p xs\/SqT K H p xs)/\TReps K H ts xs/\Q (.bl (if neg then !inT a ts else inT a ts)) H
def isN:T->Bool
 | .non=>true
 | _=>false
def wIsN (wa:WE):WE:=fun δ R=>wa δ fun s=>R (.t (.bl (isN (tr s))))
def wNotN (wa:WE):WE:=fun δ R=>wa δ fun s=>R (.t (.bl (!isN (tr s))))
section
variable {X:Cx}
theorem op_eqD (hu:X.A.units + 64 < cLine):OpR X (compareOp .Eq) (rEqD X.K false):=by
 intro pins s σ H x y v u Q I rx ry h
 obtain ⟨a,b,h1,h2,p1,p2,q⟩:=h
 exact (rc_trees I 20 X.A a b x y v u h1 (by omega) (by omega) (by omega) p1 p2 rx ry).1 X.prog X.w X.xe _ ⟨.bl _,H,I,rfl,q⟩
theorem op_neD (hu:X.A.units + 64 < cLine):OpR X (compareOp .NotEq) (rEqD X.K true):=by
 intro pins s σ H x y v u Q I rx ry h
 obtain ⟨a,b,h1,h2,p1,p2,q⟩:=h
 exact (rc_trees I 20 X.A a b x y v u h1 (by omega) (by omega) (by omega) p1 p2 rx ry).2.1 X.prog X.w X.xe _ ⟨.bl _,H,I,rfl,q⟩
theorem op2_eq {K:PySem.W.Frag}:Op2 K (rEqD K false) fEq:=fun F H s1 s2 v1 v2 R Q sb fu p1 p2 h k=>⟨tr s1,tr s2,h.1,h.2.1,p1.tree sb,p2.tree sb,k _ F H (.t (.bl _)) (Ext.refl sb fu) rfl h.2.2⟩
theorem op2_ne {K:PySem.W.Frag}:Op2 K (rEqD K true) fNe:=fun F H s1 s2 v1 v2 R Q sb fu p1 p2 h k=>⟨tr s1,tr s2,h.1,h.2.1,p1.tree sb,p2.tree sb,k _ F H (.t (.bl _)) (Ext.refl sb fu) rfl h.2.2⟩
noncomputable def eqW (X:Cx) (H:Hp) (a:T) (ts:List T) (u:Value):Bool:=open Classical in decide (∃ t v,t∈ts/\TRep X.K H t v/\RelV v u/\eqT t a=true)
theorem relV_inj {v w:V} {u:Value} (h:RelV v u) (g:RelV w u):v=w:=RelV.inj h g
theorem eqW_of {pins:List (Addr × Obj)} {σ:St} {H:Hp} {s:Shared} (I:Inv X pins σ H s) {a:T} {ts:List T} (hd:deps ts < 1000) {t:T} {v:V} {u:Value} (ht:t∈ts) (h:TRep X.K H t v) (r:RelV v u):eqW X H a ts u=eqT t a:=by
 unfold eqW
 cases e:eqT t a with
 | true=>exact @decide_eq_true _ (Classical.propDecidable _) ⟨t,v,ht,h,r,e⟩
 | false=>
  refine @decide_eq_false _ (Classical.propDecidable _) ?_
  rintro ⟨t',v',ht',h',r',e'⟩
  have:=relV_inj r r'
  subst this
  have d1:=mem_dep ht
  have d2:=mem_dep ht'
  have:=TRep.inj I t t' v (by omega) (by omega) h h'
  subst this
  rw [e] at e';cases e'
theorem eqW_any {pins:List (Addr × Obj)} {σ:St} {H:Hp} {s:Shared} (I:Inv X pins σ H s) {a:T} {us:List T} (hd:deps us < 1000):∀ {ts:List T} {xs:List V} {its:List Value},(∀ t∈ts,t∈us)->TReps X.K H ts xs->Vals xs its->its.any (eqW X H a us)=ts.any fun t=>eqT t a
 | [],_,_,_,h,r=>by cases (show _=[] from h);cases r;rfl
 | t::ts,_,_,hm,⟨x,r,e,p,q⟩,rv=>by
  subst e
  cases rv with
  | cons r1 r2=>
   rw [List.any_cons,List.any_cons,eqW_of I hd (hm t List.mem_cons_self) p r1,eqW_any I hd (fun z hz=>hm z (List.mem_cons_of_mem _ hz)) q r2]
theorem mem_reps {K:PySem.W.Frag} {H:Hp}:∀ {ts:List T} {xs:List V} {its:List Value} {u:Value},TReps K H ts xs->Vals xs its->u∈its->∃ t v,t∈ts/\TRep K H t v/\RelV v u
 | [],_,_,_,h,r,m=>by cases (show _=[] from h);cases r;cases m
 | t::ts,_,_,_,⟨x,r,e,p,q⟩,rv,m=>by
  subst e
  cases rv with
  | cons r1 r2=>
   rcases List.mem_cons.mp m with rfl | m
   ·exact ⟨t,x,List.mem_cons_self,p,r1⟩
   ·obtain ⟨t',v',h1,h2,h3⟩:=mem_reps q r2 m
    exact ⟨t',v',List.mem_cons_of_mem _ h1,h2,h3⟩
theorem in_items {pins:List (Addr × Obj)} {σ:St} {H:Hp} {s:Shared} (I:Inv X pins σ H s) (hu:X.A.units + 64 < cLine) {a:T} {ts:List T} {x:V} {v:Value} {xs:List V} {its:List Value} (h1:dep a<=20) (h2:deps ts<=20) (p1:TRep X.K H a x) (rx:RelV x v) (p2:TReps X.K H ts xs) (r:Vals xs its) :
  (∀ y,y∈its.toArray->SeqAt.EqAt X.A.in1 s y v (eqW X H a ts y))/\its.toArray.any (eqW X H a ts)=inT a ts:=by
 refine ⟨fun y hy=>?_,?_⟩
 ·obtain ⟨t,w,m1,m2,m3⟩:=mem_reps p2 r (by simpa using hy)
  have d:=mem_dep m1
  rw [eqW_of I (by omega) m1 m2 m3]
  exact (rc_trees I 20 X.A.in1 t a w x y v (by omega) (by omega) (by omega) (by rw [units_in1];omega) m2 p1 m3 rx).2.2
 ·rw [show its.toArray.any (eqW X H a ts)=its.any (eqW X H a ts) by simp,eqW_any I (by omega) (fun _ h=>h) p2 r]
  rfl
theorem op_notInD (hu:X.A.units + 64 < cLine):OpR X (compareOp .NotIn) (rInD X.K true):=by
 intro pins s σ H x y v u Q I rx ry h
 obtain ⟨a,p,xs,ts,h1,h2,p1,rfl,hq,p2,q⟩:=h
 cases ry
 rcases hq with hq | hq
 ·obtain ⟨its,r,pl,hz⟩:=I.list hq
  obtain ⟨g1,g2⟩:=in_items I hu h1 h2 p1 rx p2 r
  refine SeqAt.notIn_listAt (eqW X H a ts) pl.isList g1 ⟨.bl _,H,I,rfl,?_⟩
  rw [g2];exact q
 ·obtain ⟨its,r,pl,hz⟩:=I.tuple hq
  obtain ⟨g1,g2⟩:=in_items I hu h1 h2 p1 rx p2 r
  refine SeqAt.notIn_tupleAt (eqW X H a ts) pl g1 ⟨.bl _,H,I,rfl,?_⟩
  rw [g2];exact q
theorem op2_notIn {K:PySem.W.Frag}:Op2 K (rInD K true) fNotIn:=fun F H s1 s2 v1 v2 R Q sb fu p1 p2 h k=>by
 have t2:=p2.tree sb
 unfold fNotIn at h
 split at h
 ·rename_i ts e
  rw [e] at t2;unfold TRep at t2
  obtain ⟨p,xs,q1,q2,q3⟩:=t2
  exact ⟨tr s1,p,xs,ts,h.1,h.2.1,p1.tree sb,q1,.inl q2,q3,k _ F H (.t (.bl _)) (Ext.refl sb fu) rfl h.2.2⟩
 ·rename_i ts e
  rw [e] at t2;unfold TRep at t2
  obtain ⟨p,xs,q1,q2,q3⟩:=t2
  exact ⟨tr s1,p,xs,ts,h.1,h.2.1,p1.tree sb,q1,.inr q2,q3,k _ F H (.t (.bl _)) (Ext.refl sb fu) rfl h.2.2⟩
 ·exact h.elim
variable {a b:Expr} {wa wb:WE} {pos:Pos}
theorem de_eq {k:Nat} (hr:Room k X.A) (ha:PE X a (liftE X.K wa)) (hb:PE X b (liftE X.K wb)):PE X (.Compare a [.Eq] [b] pos) (liftE X.K (wEq wa wb)):=(pe_cmpR (op_eqD hr.units) ha hb (nomark _)).imp (lift_op2 op2_eq)
theorem dt_eq {k:Nat} (hr:Room k X.A) (ha:PE X a (liftE X.K wa)) (hb:PE X b (liftE X.K wb)):PT X (.Compare a [.Eq] [b] pos) (liftT X.K (wB (wEq wa wb))):=dt_cmp (op_eqD hr.units) op2_eq ha hb (nomark _)
theorem dt_ne {k:Nat} (hr:Room k X.A) (ha:PE X a (liftE X.K wa)) (hb:PE X b (liftE X.K wb)):PT X (.Compare a [.NotEq] [b] pos) (liftT X.K (wB (wNe wa wb))):=dt_cmp (op_neD hr.units) op2_ne ha hb (nomark _)
theorem dt_notIn {k:Nat} (hr:Room k X.A) (ha:PE X a (liftE X.K wa)) (hb:PE X b (liftE X.K wb)) (hm:behindInMarks .NotIn b=false:=by rfl):PT X (.Compare a [.NotIn] [b] pos) (liftT X.K (wB (wNotIn wa wb))):=dt_cmp (op_notInD hr.units) op2_notIn ha hb hm
end
inductive Ty where
 | non | bool | int | str | tup | lst | exc
def Ty.nm:Ty->String
 | .non=>"NoneType" | .bool=>"bool" | .int=>"int" | .str=>"str" | .tup=>"tuple" | .lst=>"list" | .exc=>""
def tyT:T->Ty
 | .non=>.non
 | .bl _=>.bool
 | .int _=>.int
 | .str _=>.str
 | .tup _=>.tup
 | .lst _=>.lst
 | .exc _=>.exc
def tyS (s:S):Ty:=tyT (tr s)
def isTy:Ty->Ty->Bool
 | .non,.non=>true
 | .bool,.bool=>true
 | .bool,.int=>true
 | .int,.int=>true
 | .str,.str=>true
 | .tup,.tup=>true
 | .lst,.lst=>true
 | _,_=>false
theorem kit_ty (K:PySem.W.Frag) (a b:Ty) (ha:a ≠ .exc) (hb:b ≠ .exc):PySem.W.kitOne K (.type a.nm) (.type b.nm)=some (isTy a b):=by
 cases a <;> first | exact absurd rfl ha | (cases b <;> first | exact absurd rfl hb | with_unfolding_all rfl)
def wIs (ty:Ty) (we:WE):WE:=fun δ R=>we δ fun s=>tyS s ≠ .exc/\R (.t (.bl (isTy (tyS s) ty)))
def rIs (K:PySem.W.Frag) (ty:Ty):List V->Hp->VK->Prop:=fun xs H Q=>∃ x a,xs=[x,.ty ty.nm]/\tyT a ≠ .exc/\TRep K H a x/\Q (.bl (isTy (tyT a) ty)) H
section
variable {X:Cx}
theorem call_is {ty:Ty} (ht:ty ≠ .exc):CallR X (.builtin "isinstance") (rIs X.K ty):=by
 intro pins s σ H xs us Q I r h
 obtain ⟨x,a,rfl,hne,p,q⟩:=h
 obtain ⟨u,w',rfl,r1,r2⟩:=vals2 r
 cases r2
 have fin:∀ tk,EP X pins σ Q (.bool (isTy (tyT a) ty)) { s with toks:=tk }:=fun tk=>⟨.bl _,H,I.tok _,rfl,q⟩
 cases a with
 | non=>cases p;cases r1;exact PySem.W.kia_one PySem.W.kitx_none I.kIn True.intro (kit_ty X.K .non ty (by simp) ht) (fun z=>nomatch z) fin
 | bl c=>cases p;cases r1;exact PySem.W.kia_one PySem.W.kitx_bool I.kIn True.intro (kit_ty X.K .bool ty (by simp) ht) (fun z=>nomatch z) fin
 | int c=>cases p;obtain ⟨t,rfl⟩:=r1;exact PySem.W.kia_one PySem.W.kitx_int I.kIn True.intro (kit_ty X.K .int ty (by simp) ht) (fun z=>nomatch z) fin
 | str c=>cases p;obtain ⟨t,rfl⟩:=r1;exact PySem.W.kia_one PySem.W.kitx_str I.kIn True.intro (kit_ty X.K .str ty (by simp) ht) (fun z=>nomatch z) fin
 | tup ts=>
  unfold TRep at p
  obtain ⟨b,zs,rfl,p3,p4⟩:=p
  cases r1
  obtain ⟨its,_,⟨o,e,c,_⟩,_⟩:=I.tuple p3
  exact PySem.W.kia_one PySem.W.kitx_tuple I.kIn ⟨o,e,c⟩ (kit_ty X.K .tup ty (by simp) ht) (fun z=>nomatch z) fin
 | lst ts=>
  unfold TRep at p
  obtain ⟨b,zs,rfl,p3,p4⟩:=p
  cases r1
  obtain ⟨its,_,⟨o,n,e,c,hd,d⟩,_⟩:=I.list p3
  exact PySem.W.kia_one PySem.W.kitx_list I.kIn ⟨o,e,c⟩ (kit_ty X.K .lst ty (by simp) ht) (fun z=>nomatch z) fin
 | exc c=>exact absurd rfl hne
variable {e:Expr} {we:WE} {pos p p2:Pos}
theorem de_is {x:Str} (ty:Ty) (ht:ty ≠ .exc) (hv:bootBuiltins x=some (.type ty.nm)) (hm:X.mg "isinstance"=none) (hm2:X.mg x=none) (he:PE X e (liftE X.K we)) (hg:Gl X "isinstance") (hg2:Gl X x) (hn:x ≠ "__name__") (hdb:(x == ("__debug__":Str))=false)
  (h1:starEach [e,.Name x p2] X.env=(false,eval e X.env)::starEach [.Name x p2] X.env) (h2:starEach [.Name x p2] X.env=(false,eval (.Name x p2) X.env)::starEach [] X.env) (h3:(backTo pos (starEach [.Name x p2] X.env)).any (·.1)=false) :
  PE X (.Call (.Name "isinstance" p) [e,.Name x p2] [] pos) (liftE X.K (wIs ty we)):=
 (pe_callB (call_is (ty:=ty) ht) hg hm PyProof.Rows.boot_isinstance (pa_cons he (pa_cons (pe_bltn (v:=.ty ty.nm) hg2 hm2 hv rfl hn hdb) pa_nil h2) h1) (by decide) (by decide) h1 h3).imp fun σ H Q ⟨δ,R,F,rl,h,k⟩=>⟨δ,_,F,rl,h,fun v F1 H1 s e p q=>
  ⟨v,tr s,rfl,q.1,(p.val e.sub).tree e.sub,k _ F1 H1 (.t (.bl _)) e rfl q.2⟩⟩
theorem de_is_int (hm:X.mg "isinstance"=none) (hm2:X.mg "int"=none) (he:PE X e (liftE X.K we)) (hg:Gl X "isinstance":=by rfl) (hg2:Gl X "int":=by rfl) (h1:starEach [e,.Name "int" p2] X.env=(false,eval e X.env)::starEach [.Name "int" p2] X.env:=by rfl) (h2:starEach [.Name "int" p2] X.env=(false,eval (.Name "int" p2) X.env)::starEach [] X.env:=by rfl) (h3:(backTo pos (starEach [.Name "int" p2] X.env)).any (·.1)=false:=by rfl) :
  PE X (.Call (.Name "isinstance" p) [e,.Name "int" p2] [] pos) (liftE X.K (wIs .int we)):=de_is .int (by simp) PyProof.Rows.boot_int hm hm2 he hg hg2 (by decide) (by decide) h1 h2 h3
theorem de_is_bool (hm:X.mg "isinstance"=none) (hm2:X.mg "bool"=none) (he:PE X e (liftE X.K we)) (hg:Gl X "isinstance":=by rfl) (hg2:Gl X "bool":=by rfl) (h1:starEach [e,.Name "bool" p2] X.env=(false,eval e X.env)::starEach [.Name "bool" p2] X.env:=by rfl) (h2:starEach [.Name "bool" p2] X.env=(false,eval (.Name "bool" p2) X.env)::starEach [] X.env:=by rfl) (h3:(backTo pos (starEach [.Name "bool" p2] X.env)).any (·.1)=false:=by rfl) :
  PE X (.Call (.Name "isinstance" p) [e,.Name "bool" p2] [] pos) (liftE X.K (wIs .bool we)):=de_is .bool (by simp) PyProof.Rows.boot_bool hm hm2 he hg hg2 (by decide) (by decide) h1 h2 h3
theorem de_is_tuple (hm:X.mg "isinstance"=none) (hm2:X.mg "tuple"=none) (he:PE X e (liftE X.K we)) (hg:Gl X "isinstance":=by rfl) (hg2:Gl X "tuple":=by rfl) (h1:starEach [e,.Name "tuple" p2] X.env=(false,eval e X.env)::starEach [.Name "tuple" p2] X.env:=by rfl) (h2:starEach [.Name "tuple" p2] X.env=(false,eval (.Name "tuple" p2) X.env)::starEach [] X.env:=by rfl) (h3:(backTo pos (starEach [.Name "tuple" p2] X.env)).any (·.1)=false:=by rfl) :
  PE X (.Call (.Name "isinstance" p) [e,.Name "tuple" p2] [] pos) (liftE X.K (wIs .tup we)):=de_is .tup (by simp) PyProof.Rows.boot_tuple hm hm2 he hg hg2 (by decide) (by decide) h1 h2 h3
theorem de_is_list (hm:X.mg "isinstance"=none) (hm2:X.mg "list"=none) (he:PE X e (liftE X.K we)) (hg:Gl X "isinstance":=by rfl) (hg2:Gl X "list":=by rfl) (h1:starEach [e,.Name "list" p2] X.env=(false,eval e X.env)::starEach [.Name "list" p2] X.env:=by rfl) (h2:starEach [.Name "list" p2] X.env=(false,eval (.Name "list" p2) X.env)::starEach [] X.env:=by rfl) (h3:(backTo pos (starEach [.Name "list" p2] X.env)).any (·.1)=false:=by rfl) :
  PE X (.Call (.Name "isinstance" p) [e,.Name "list" p2] [] pos) (liftE X.K (wIs .lst we)):=de_is .lst (by simp) PyProof.Rows.boot_list hm hm2 he hg hg2 (by decide) (by decide) h1 h2 h3
end
theorem it_tup {K:PySem.W.Frag} {F:Hp} {a:Addr} {xs:List V} {ts:List T} (h:SqT K F a xs) (r:TReps K F ts xs):ItOk K F (Itt K a) ts:=by
 intro F1 H1 i f1 sb fu
 have q:SqT K H1 a xs:=Same.sqT sb _ _ (Same.sqT f1 _ _ h)
 refine ⟨fun t ht=>?_,fun hl=>⟨xs,q,by rw [r.length];exact hl⟩⟩
 obtain ⟨x,h1,h2⟩:=r.get ht
 refine ⟨⟨xs,x,q,h1⟩,fun y H2 hy=>?_⟩
 obtain ⟨e,hy⟩:=hy
 subst e
 have:=hy xs q
 rw [h1] at this
 cases this
 exact ⟨F1,Ext.refl sb fu,TRep.same f1 h2⟩
def rngT (lo:Int) (n:Nat):List T:=(List.range n).map fun (k:Nat)=>.int (lo + (k:Int))
theorem it_rng {K:PySem.W.Frag} {F:Hp} (lo:Int) (n:Nat):ItOk K F (Itr lo n) (rngT lo n):=by
 intro F1 H1 i f1 sb fu
 refine ⟨fun t ht=>?_,fun hl=>(by simpa [rngT] using hl:n<=i)⟩
 unfold rngT at ht
 rw [List.getElem?_map] at ht
 cases e:(List.range n)[i]? with
 | none=>rw [e] at ht;cases ht
 | some k=>
  rw [e] at ht
  have hk:k=i/\i < n:=by
   rw [List.getElem?_eq_some_iff] at e
   obtain ⟨h1,h2⟩:=e
   simp at h1 h2
   exact ⟨h2.symm,h1⟩
  obtain ⟨rfl,hn⟩:=hk
  have et:t=.int (lo + k):=by simpa using ht.symm
  refine ⟨hn,fun x H2 hy=>?_⟩
  obtain ⟨e1,e2⟩:=hy
  subst e1;subst e2
  exact ⟨F1,Ext.refl sb fu,by rw [et];rfl⟩
def tpK (δ:DSt) (W:List T->DSt->Prop):S->Prop
 | .t (.tup ts)=>W ts δ
 | .vt (.tup ts)=>W ts (freeze δ)
 | _=>False
def wiTup (we:WE):WI:=fun δ W=>we δ fun s=>tpK δ W s
def RngOk (i:Int):Prop:=-(2 ^ 62)<=i/\i < 2 ^ 62
def wiRng1 (wa:WA):WI:=fun δ W=>wa δ fun ss=>match ss with
 | [.t (.int j)]=>RngOk j/\W (rngT 0 j.toNat) δ
 | _=>False
def wiRng2 (wa:WA):WI:=fun δ W=>wa δ fun ss=>match ss with
 | [.t (.int i),.t (.int j)]=>RngOk i/\RngOk j/\W (rngT i (j - i).toNat) δ
 | _=>False
section
variable {X:Cx} {e e2 tg:Expr} {we:WE} {wa:WA} {p pos:Pos}
theorem di_list (he:PE X e (liftE X.K we)):PI X tg e (liftI X.K (wiList we)):=
 (pi_list he).imp fun σ H R ⟨δ,W,F,rl,h,k⟩=>⟨δ,_,F,rl,h,fun v F1 H1 s ex p q=>by
  unfold listK at q
  split at q
  ·unfold RepE TRep at p
   obtain ⟨a,xs,rfl,h1,h2⟩:=p
   exact ⟨a,rfl,⟨xs,ex.sub.seq h1⟩,k _ F1 F1 H1 _ δ ex (Same.refl _) (rl.ext ex) (it_list h1 h2) q⟩
  ·unfold RepE TRep at p
   obtain ⟨a,xs,rfl,h1,h2⟩:=p
   exact ⟨a,rfl,⟨xs,h1⟩,k _ F1 H1 H1 _ (freeze δ) ex ex.sub (rl.ext ex).freeze (it_list h1 h2) q⟩
  ·obtain ⟨rl2,sm,a,xs,rfl,g1,g2⟩:=rl.thaw ex p
   exact ⟨a,rfl,⟨xs,rl2.sub.seq g1⟩,k _ _ _ H1 _ δ (ex.frozen rl.sub).1 (Same.refl _) rl2 (it_list g1 g2) q⟩
  ·exact q.elim⟩
theorem di_tup (he:PE X e (liftE X.K we)):PI X tg e (liftI X.K (wiTup we)):=
 (pi_tup he).imp fun σ H R ⟨δ,W,F,rl,h,k⟩=>⟨δ,_,F,rl,h,fun v F1 H1 s ex p q=>by
  unfold tpK at q
  split at q
  ·unfold RepE TRep at p
   obtain ⟨a,xs,rfl,h1,h2⟩:=p
   exact ⟨a,rfl,⟨xs,Same.sqT ex.sub _ _ h1⟩,k _ F1 F1 H1 _ δ ex (Same.refl _) (rl.ext ex) (it_tup h1 h2) q⟩
  ·unfold RepE TRep at p
   obtain ⟨a,xs,rfl,h1,h2⟩:=p
   exact ⟨a,rfl,⟨xs,h1⟩,k _ F1 H1 H1 _ (freeze δ) ex ex.sub (rl.ext ex).freeze (it_tup h1 h2) q⟩
  ·exact q.elim⟩
theorem di_range1 (hm:X.mg "range"=none) (ha:PA X [e] (liftA X.K wa)) (hg:Gl X "range":=by rfl) (hs:starEach [e] X.env=[(false,eval e X.env)]:=by rfl):PI X tg (.Call (.Name "range" p) [e] [] pos) (liftI X.K (wiRng1 wa)):=
 (pi_range1 hg hm ha hs).imp fun σ H R ⟨δ,W,F,rl,h,k⟩=>⟨δ,_,F,rl,h,fun vs F1 H1 ss ex p q=>by
  split at q
  ·obtain ⟨v,r,rfl,p1,p2⟩:=p
   cases (show r=[] from p2)
   cases (show v=_ from p1)
   obtain ⟨⟨q1,q2⟩,q3⟩:=q
   exact ⟨_,rfl,q1,q2,k _ F1 F1 H1 _ δ ex (Same.refl _) (rl.ext ex) (it_rng 0 _) q3⟩
  ·exact q.elim⟩
theorem di_range2 (hm:X.mg "range"=none) (ha:PA X [e,e2] (liftA X.K wa)) (hg:Gl X "range":=by rfl) (hs:starEach [e,e2] X.env=[(false,eval e X.env),(false,eval e2 X.env)]:=by rfl) (hs2:starEach [e2] X.env=[(false,eval e2 X.env)]:=by rfl):PI X tg (.Call (.Name "range" p) [e,e2] [] pos) (liftI X.K (wiRng2 wa)):=
 (pi_range2 hg hm ha hs hs2).imp fun σ H R ⟨δ,W,F,rl,h,k⟩=>⟨δ,_,F,rl,h,fun vs F1 H1 ss ex p q=>by
  split at q
  ·obtain ⟨v,r,rfl,p1,v2,r2,rfl,p2,p3⟩:=p
   cases (show r2=[] from p3)
   cases (show v=_ from p1)
   cases (show v2=_ from p2)
   obtain ⟨⟨q1,q2⟩,⟨q3,q4⟩,q5⟩:=q
   exact ⟨_,_,rfl,⟨q1,q2,q3,q4⟩,k _ F1 F1 H1 _ δ ex (Same.refl _) (rl.ext ex) (it_rng _ _) q5⟩
  ·exact q.elim⟩
end
end DL
namespace DL
open PySem L2
theorem Rel.mutate {K:PySem.W.Frag} {F H:Hp} {σ:St} {δ:DSt} {i:Nat} {ts us:List T} {a:Addr} {ys:List V} (r:Rel K F H σ δ) (hi:δ[i]?=some (some (.ol ts))) (ha:σ[i]?=some (some (.ref a))) (hF:F a=none) (hH:∃ xs,H a=some (.lst xs)) (hy:TReps K F us ys) :
  Rel K F (upd H a (.lst ys)) σ (δ.set i (some (.ol us))):=by
 obtain ⟨xs,hH⟩:=hH
 have ne:∀ b o,F b=some o->b ≠ a:=fun b o e z=>by rw [z,hF] at e;cases e
 have lt:i < δ.length:=by
  rw [List.getElem?_eq_some_iff] at hi
  exact hi.1
 refine ⟨fun b o e=>by rw [upd_ne (ne b o e)];exact r.sub _ _ e,fun b o e=>?_,by rw [List.length_set];exact r.len,fun j s hj=>?_,fun j l b ts1 ts2 hn h1 h2 h3=>?_⟩
 ·unfold upd at e
  split at e
  ·cases e;exact .inr ⟨ys,rfl⟩
  ·exact r.full _ _ e
 ·by_cases z:i=j
  ·subst z
   rw [List.getElem?_set_self lt] at hj
   cases hj
   exact ⟨_,ha,a,ys,rfl,hF,upd_same,hy⟩
  ·rw [List.getElem?_set_ne z] at hj
   obtain ⟨v,q1,q2⟩:=r.slot j s hj
   refine ⟨v,q1,?_⟩
   cases s with
   | t x=>exact q2
   | vt zs=>exact q2
   | ol zs=>
    obtain ⟨b,bs,e1,e2,e3,e4⟩:=q2
    have nb:b ≠ a:=fun y=>by
     subst y;subst e1
     exact r.dist i j b ts zs z hi hj ha q1
    exact ⟨b,bs,e1,e2,by rw [upd_ne nb];exact e3,e4⟩
 ·have own:∀ (j:Nat) (ts1:List T),(δ.set i (some (.ol us)))[j]?=some (some (.ol ts1))->∃ ts0:List T,δ[j]?=some (some (.ol ts0)):=fun j ts1 h=>by
   by_cases z:i=j
   ·subst z;exact ⟨ts,hi⟩
   ·rw [List.getElem?_set_ne z] at h;exact ⟨ts1,h⟩
  obtain ⟨t1,g1⟩:=own j ts1 h1
  obtain ⟨t2,g2⟩:=own l ts2 h2
  exact r.dist j l b t1 t2 hn g1 g2 h3
section
variable {X:Cx} {e:Expr} {we wv:WE} {pos:Pos} {H₀:Hp} {i:Nat} {x:Str} {p1 p2:Pos}
theorem lt_line {n:Nat} (h:n < 100000):n < sizeLine:=Nat.lt_trans h (by decide)
theorem ds_append (he:PE X e (liftE X.K we)) (hv:PE X (.Name x p1) (tVar i):=by exact pv _) (hbase:attributeBase (.Name x p1) "append" X.env (eval (.Name x p1) X.env)=eval (.Name x p1) X.env:=by rfl)
  (hfew:((backTo pos (starEach [e] X.env)).all (fun x=>!x.1) && (backToKw pos (keywordEach [] X.env)).all (fun x=>x.1.isSome) && decide ([e].length + ([]:List Keyword).length + (if ([]:List Keyword).isEmpty then 0 else 1) < 30))=true:=by rfl)
  (hline:(p2.endLine == pos.line)=true:=by rfl) (hs:starEach [e] X.env=(false,eval e X.env)::starEach [] X.env:=by rfl) (hplain:(backTo pos (starEach [] X.env)).any (·.1)=false:=by rfl) {pos':Pos}
  (hsw:swapsWith (.Call (.Attribute (.Name x p1) "append" p2) [e] [] pos) none pos'.line X.env=pure false:=by rfl) :
  PS X (.Expr (.Call (.Attribute (.Name x p1) "append" p2) [e] [] pos) pos') (liftS X.K H₀ (wAppend i we)):=
 (ps_expr (pe_bm PySem.F.plainAttrs_list PySem.F.slot_list_append PySem.F.type_list_append mt_append hv (pa_cons he pa_nil hs) hbase hfew hline hs hplain) hsw).imp fun D σ H ⟨δ,D',F,s0,rl,h,ok⟩=>by
  unfold wAppend at h
  split at h
  ·rename_i ts hi
   obtain ⟨v,ha,a,xs,rfl,hF,hH,hr⟩:=rl.slot i _ hi
   refine ⟨_,ha,.inl ⟨rfl,xs,SqL.of hH⟩,δ,_,F,rl,h,fun v F1 H1 s e p q=>?_⟩
   cases s with
   | t y=>
    obtain ⟨hl,q⟩:=q
    have h1:=e.hh _ _ hH
    refine ⟨a,xs,v,rfl,rfl,h1,by rw [hr.length];exact lt_line hl,?_⟩
    exact ok.nx σ F1 _ _ e.ff ((rl.ext e).mutate hi ha (e.keep a (by rw [hH];simp) hF) ⟨xs,h1⟩ ((TReps.same e.ff hr).append (TReps.one p))) q
   | _=>exact q.elim
  ·exact h.elim
theorem last_get {α:Type} {l:List α} (h:l ≠ []):∃ x,l[l.length - 1]?=some x:=by
 cases l with
 | nil=>exact absurd rfl h
 | cons a r=>exact ⟨_,List.getElem?_eq_getElem (by simp)⟩
theorem ds_pop (hv:PE X (.Name x p1) (tVar i):=by exact pv _) (hbase:attributeBase (.Name x p1) "pop" X.env (eval (.Name x p1) X.env)=eval (.Name x p1) X.env:=by rfl) (hline:(p2.endLine == pos.line)=true:=by rfl) {pos':Pos}
  (hsw:swapsWith (.Call (.Attribute (.Name x p1) "pop" p2) [] [] pos) none pos'.line X.env=pure false:=by rfl):PS X (.Expr (.Call (.Attribute (.Name x p1) "pop" p2) [] [] pos) pos') (liftS X.K H₀ (wPop i)):=
 (ps_expr (pe_bm0 PySem.F.plainAttrs_list PySem.F.slot_list_pop PySem.F.type_list_pop mt_pop hv hbase hline) hsw).imp fun D σ H ⟨δ,D',F,s0,rl,h,ok⟩=>by
  unfold wPop at h
  split at h
  ·rename_i ts hi
   obtain ⟨v,ha,a,xs,rfl,hF,hH,hr⟩:=rl.slot i _ hi
   obtain ⟨hne,h⟩:=h
   obtain ⟨t,ht⟩:=last_get hne
   obtain ⟨y,hy,_⟩:=hr.get ht
   rw [<-hr.length] at hy
   refine ⟨_,ha,.inl ⟨rfl,xs,SqL.of hH⟩,a,xs,y,rfl,rfl,hH,hy,?_⟩
   exact ok.nx σ F _ _ (Same.refl _) (rl.mutate hi ha hF ⟨xs,hH⟩ hr.dropLast) h
  ·exact h.elim
end
def catK (R:List T->Prop):S->Prop
 | .t (.lst ts)=>R ts
 | .vt (.lst ts)=>purs ts=true/\R ts
 | .ol ts=>R ts
 | _=>False
def fCat:S->S->(S->Prop)->Prop:=fun a b R=>catK (fun ts=>catK (fun us=>ts.length + us.length<=100000/\R (.ol (ts++us))) b) a
def rCatD (K:PySem.W.Frag):R2:=fun x y H Q=>∃ l b xs zs,x=.ref l/\y=.ref b/\SqL K H l xs/\SqL K H b zs/\xs.length + zs.length<=sizeLine/\∀ p,H p=none->Q (.ref p) (upd H p (.lst (xs++zs)))
theorem op_catD {X:Cx}:OpR X (binaryOp .Add) (rCatD X.K):=by
 intro pins s σ H x y v u Q I rx ry h
 obtain ⟨l,b,xs,zs,rfl,rfl,h1,h2,hz,q⟩:=h
 cases rx
 cases ry
 obtain ⟨its,r,pl,z⟩:=I.list h1
 obtain ⟨its2,r2,pl2,z2⟩:=I.list h2
 obtain ⟨⟨cls,dd,data,sl⟩,ho,hc,n,hd⟩:=pl.isList
 obtain ⟨⟨cls2,dd2,data2,sl2⟩,ho2,hc2,n2,hd2⟩:=pl2.isList
 simp only at hc hd hc2 hd2
 subst hc hd hc2 hd2
 have l1:=r.length
 have l2:=r2.length
 refine PySem.concat_meets ⟨_,ho,rfl⟩ ⟨_,ho2,rfl⟩ PySem.noFill_list_add PySem.seq_list_add PySem.F.slot_list_add PySem.F.entry_list_add (PySem.F.args_list_add_2 _ _) (PyProof.Rows.list_addW l b its.toArray its2.toArray n n2 dd dd2 sl sl2 (by rw [List.size_toArray,List.size_toArray];omega)) ⟨ho,ho2,?_⟩
 have ea:its.toArray++its2.toArray=(its++its2).toArray:=by simp
 rw [ea]
 exact ⟨.ref _,_,I.lnew (t':=s.toks) (r.append r2) (by rw [List.length_append];omega),rfl,q _ I.fresh⟩
theorem catK_shape {K:PySem.W.Frag} {F H:Hp} {R:List T->Prop} {s:S} {v:V} (sb:Same F H) (fu:Full F H) (h:catK R s) (p:RepV K F H s v):∃ ts a xs,v=.ref a/\SqL K H a xs/\TReps K F ts xs/\R ts:=by
 unfold catK at h
 split at h
 ·unfold RepV TRep at p
  obtain ⟨a,xs,h1,h2,h3⟩:=p
  exact ⟨_,a,xs,h1,sb.seq h2,h3,h⟩
 ·unfold RepV TRep at p
  obtain ⟨a,xs,h1,h2,h3⟩:=p
  exact ⟨_,a,xs,h1,h2,TReps.full fu h.1 h3,h.2⟩
 ·unfold RepV at p
  obtain ⟨a,xs,h1,h2,h3⟩:=p
  exact ⟨_,a,xs,h1,h2,h3,h⟩
 ·exact h.elim
theorem op2_cat {K:PySem.W.Frag}:Op2 K (rCatD K) fCat:=fun F H s1 s2 v1 v2 R Q sb fu p1 p2 h k=>by
 obtain ⟨ts,a,xs,rfl,h1,h2,h⟩:=catK_shape sb fu h p1
 obtain ⟨us,b,ys,rfl,h3,h4,hl,h⟩:=catK_shape sb fu h p2
 refine ⟨a,b,xs,ys,rfl,rfl,h1,h3,by rw [h2.length,h4.length];exact Nat.le_trans hl (by decide),fun p hp=>?_⟩
 exact k _ F _ (.ol _) (Ext.newL _ sb fu hp) ⟨p,_,rfl,hp,none_of_same sb hp,upd_same,h2.append h4⟩ h
theorem de_cat {X:Cx} {a b:Expr} {wa wb:WE} {pos:Pos} (ha:PE X a (liftE X.K wa)) (hb:PE X b (liftE X.K wb)):PE X (.BinOp a .Add b pos) (liftE X.K (wOp2 fCat wa wb)):=(pe_op op_catD ha hb).imp (lift_op2 op2_cat)
def startD (N:List Str) (ss:List S):DSt:=ss.map some++List.replicate (N.length - ss.length) none
theorem repVs_get {K:PySem.W.Frag} {F H:Hp}:∀ {ss:List S} {vs:List V} {i:Nat} {s:S},RepVs K F H ss vs->ss[i]?=some s->∃ v,vs[i]?=some v/\RepV K F H s v
 | [],_,_,_,_,h=>by simp at h
 | s::ss,_,0,u,⟨v,r,e,p,q⟩,h=>by subst e;simp at h;subst h;exact ⟨v,by simp,p⟩
 | s::ss,_,i + 1,u,⟨v,r,e,p,q⟩,h=>by
  subst e
  obtain ⟨y,h1,h2⟩:=repVs_get (i:=i) q (by simpa using h)
  exact ⟨y,by simpa using h1,h2⟩
theorem repVs_len {K:PySem.W.Frag} {F H:Hp}:∀ {ss:List S} {vs:List V},RepVs K F H ss vs->vs.length=ss.length
 | [],_,e=>by cases (show _=[] from e);rfl
 | s::ss,_,⟨v,r,e,p,q⟩=>by subst e;rw [List.length_cons,List.length_cons,repVs_len q]
theorem start_get {N:List Str} {ss:List S} {i:Nat} {s:S} (h:(startD N ss)[i]?=some (some s)):ss[i]?=some s:=by
 unfold startD at h
 by_cases hi:i < ss.length
 ·rw [List.getElem?_append_left (by simpa using hi),List.getElem?_map] at h
  cases e:ss[i]? with
  | none=>rw [e] at h;cases h
  | some u=>rw [e] at h;simpa using h
 ·rw [List.getElem?_append_right (by simpa using hi),List.getElem?_replicate] at h
  split at h <;> cases h
theorem rel_start {K:PySem.W.Frag} {H:Hp} {N:List Str} {ss:List S} {vs:List V} (hn:ss.length<=N.length) (ha:∀ s∈ss,argOk s) (r:RepVs K H H ss vs):Rel K H H (L2.start N vs) (startD N ss):=by
 have hl:=repVs_len r
 refine ⟨Same.refl _,fun _ _ h=>.inl h,?_,fun i s h=>?_,fun i j a ts us _ h1=>?_⟩
 ·unfold L2.start startD
  rw [List.length_append,List.length_append,List.length_map,List.length_map,List.length_replicate,List.length_replicate]
  omega
 ·have h1:=start_get h
  obtain ⟨v,h2,h3⟩:=repVs_get r h1
  refine ⟨v,?_,?_⟩
  ·unfold L2.start
   have hi:i < vs.length:=by rw [List.getElem?_eq_some_iff] at h2;exact h2.1
   rw [List.getElem?_append_left (by simpa using hi),List.getElem?_map,h2]
   rfl
  ·have:=ha s (List.mem_of_getElem? h1)
   cases s with
   | t x=>exact h3
   | vt ts=>exact this.elim
   | ol ts=>exact this.elim
 ·have:=ha _ (List.mem_of_getElem? (start_get h1))
  exact this.elim
section
variable {P:Program} {wd:World} {K:PySem.W.Frag} {mg:Str->Option Value} {base:Heap}
theorem def_ok {x qual:Str} {st:Stmt} {f:Addr} {fd:FuncData} {N ps:List Str} {k:Nat} {sp:DSpec} {w:WS} (F:Fun K x qual st f fd) (S:FnScope N ps (defScope st))
  (hlen:∀ ss R,sp ss R->ss.length=ps.length)
  (hbody:∀ (cdv:Value) (A:Around) (outer:List Env) (s:Shared) (H:Hp) (E:XK),Room k (A.deeper (PyProof.Rows.envOfC qual (defScope st) s.heap.objs.size f cdv))->PSs (cxOf CX0 P wd K mg base N qual (defScope st) f cdv A outer s H E).nox (defBody st) (liftS K H w))
  (h:∀ ss R,sp ss R->w { nx:=fun _=>R (.t .non),rt:=R } (startD N ss)):FnOk P wd K mg base CX0 (k + 1) f fd ps (toSp K sp):=by
 have pl:ps.length<=N.length:=by
  have:=congrArg List.length S.pre
  rw [List.length_take] at this
  omega
 refine F.ok S (fun vs H Q E hs=>?_) (fun cdv A outer s H vs Q E hr hs=>?_)
 ·obtain ⟨ss,R,_,r,hs,_⟩:=hs
  rw [repVs_len r,hlen ss R hs]
 ·obtain ⟨ss,R,ha,r,hs,k⟩:=hs
  refine ⟨_,hbody cdv A outer s H E hr,startD N ss,_,H,Same.refl _,rel_start (by rw [hlen ss R hs];exact pl) ha r,h ss R hs,⟨fun σ' F' H' δ' ff rl q=>?_,fun v H' s' sm rc q=>k v H' s' sm rc q,fun _ _ _ _ _ _ z=>z.elim,fun _ _ _ _ _ _ z=>z.elim⟩⟩
  exact k .non H' (.t .non) (ff.trans rl.sub) rfl q
theorem callee_of {x qual:Str} {st:Stmt} {f:Addr} {fd:FuncData} {ps:List Str} {k:Nat} {sp:DSpec} (F:Fun K x qual st f fd) (hm:mg x=some (.ref f)) (b:Binds K fd ps []) (h:FnOk P wd K mg base CX0 k f fd ps (toSp K sp)):Callee P wd K mg base k x sp:=
 ⟨f,fd,ps,hm,h,b,F.kp⟩
def spLaw:DSpec:=fun ss R=>∃ ns:List Int,ss=[.t (.lst (ns.map .int))]/\ns.length<=63/\R (.t (.bl true))
theorem law_sp {K:PySem.W.Frag} {H:Hp} {a:Addr} {ns:List Int} (hl:ns.length<=63) (hS:SqL K H a (ns.map V.int)):toSp K spLaw [.ref a] H (fun v _=>v=.bl true) fun _ _ _=>False:=
 ⟨[.t (.lst (ns.map .int))],fun s=>s=.t (.bl true),fun s hs=>by simp at hs;subst hs;exact True.intro,⟨.ref a,[],rfl,by show TRep K H (.lst _) _;unfold TRep;exact ⟨a,_,rfl,hS,TReps.ints ns⟩,rfl⟩,⟨ns,rfl,hl,rfl⟩,fun v H' s _ rc e=>by subst e;exact rc⟩
end
end DL
namespace DL
open PySem L2
def blkD (own:Nat) (fr:List Nat) (δ:DSt):DSt:=List.replicate own none++fr.map fun i=>(δ[i]?).join
def itemK (k:T->Prop):S->Prop
 | .t y=>pur y=true/\k y
 | .ol ts=>purs ts=true/\k (.lst ts)
 | .vt _=>False
def compI (g:WG) (tc:WT) (te:WE) (ts:List T) (δ:DSt) (R:List T->Prop):Prop:=∃ I:List T->DSt->List T->Prop,I ts δ []/\(∀ δ acc,I [] δ acc->R acc)/\∀ x r δ acc,I (x::r) δ acc →
 g x δ fun δ1=>tc δ1 fun ok=>if ok=true then te δ1 fun s=>itemK (fun y=>acc.length < 100000/\I r δ1 (acc++[y])) s else I r δ1 acc
def wComp (own:Nat) (fr:List Nat) (wi:WI) (g:WG) (tc:WT) (te:WE):WE:=fun δ R=>wi δ fun ts δ'=>compI g tc te ts (blkD own fr (freeze δ')) fun acc=>R (.ol acc)
def wYes:WT:=fun _ R=>R true
def NoOl (δ:DSt):Prop:=∀ (i:Nat) (ts:List T),δ[i]? ≠ some (some (S.ol ts))
def GOk (g:WG):Prop:=∀ t δ R,NoOl δ->g t δ R->g t δ fun δ'=>NoOl δ'/\R δ'
theorem NoOl.set {δ:DSt} (h:NoOl δ) (i:Nat) (t:T):NoOl (δ.set i (some (.t t))):=fun j ts e=>by
 by_cases z:i=j
 ·subst z
  rw [List.getElem?_set] at e
  simp at e
 ·rw [List.getElem?_set_ne z] at e
  exact h j ts e
theorem gok_name {i:Nat}:GOk (wgName i):=fun t δ R h q=>⟨h.set i t,q⟩
def TRepN (K:PySem.W.Frag) (H F:Hp) (t:T) (v:V):Prop:=(pur t=true/\TRep K F t v)\/∃ ts a xs,t=.lst ts/\purs ts=true/\v=.ref a/\H a=none/\F a=some (.lst xs)/\TReps K F ts xs
def TRepsN (K:PySem.W.Frag) (H F:Hp):List T->List V->Prop
 | [],xs=>xs=[]
 | t::ts,xs=>∃ x r,xs=x::r/\TRepN K H F t x/\TRepsN K H F ts r
theorem TRepN.same {K:PySem.W.Frag} {H F F':Hp} (e:Same F F') {t:T} {v:V} (h:TRepN K H F t v):TRepN K H F' t v:=by
 rcases h with ⟨p,h⟩ | ⟨ts,a,xs,h1,h2,h3,h4,h5,h6⟩
 ·exact .inl ⟨p,TRep.same e h⟩
 ·exact .inr ⟨ts,a,xs,h1,h2,h3,h4,e _ _ h5,TReps.same e h6⟩
theorem TRepsN.same {K:PySem.W.Frag} {H F F':Hp} (e:Same F F'):∀ {ts:List T} {xs:List V},TRepsN K H F ts xs->TRepsN K H F' ts xs
 | [],_,h=>h
 | _::_,_,⟨x,r,h1,h2,h3⟩=>⟨x,r,h1,h2.same e,TRepsN.same e h3⟩
theorem TRepsN.snoc {K:PySem.W.Frag} {H F:Hp} {t:T} {v:V} (h:TRepN K H F t v):∀ {ts:List T} {xs:List V},TRepsN K H F ts xs->TRepsN K H F (ts++[t]) (xs++[v])
 | [],_,e=>by cases (show _=[] from e);exact ⟨v,[],rfl,h,rfl⟩
 | _::_,_,⟨x,r,h1,h2,h3⟩=>by subst h1;exact ⟨x,r++[v],rfl,h2,TRepsN.snoc h h3⟩
theorem TRepsN.length {K:PySem.W.Frag} {H F:Hp}:∀ {ts:List T} {xs:List V},TRepsN K H F ts xs->xs.length=ts.length
 | [],_,e=>by cases (show _=[] from e);rfl
 | _::_,_,⟨x,r,h1,_,h3⟩=>by subst h1;rw [List.length_cons,List.length_cons,TRepsN.length h3]
theorem Rel.other {K:PySem.W.Frag} {F H:Hp} {σ:St} {δ:DSt} {a:Addr} {ys:List V} (r:Rel K F H σ δ) (hF:F a=none) (no:NoOl δ):Rel K F (upd H a (.lst ys)) σ δ:=by
 refine ⟨fun b o e=>?_,fun b o e=>?_,r.len,fun j s hj=>?_,fun i j b ts us _ h1=>absurd h1 (no i ts)⟩
 ·have:b ≠ a:=fun z=>by rw [z,hF] at e;cases e
  rw [upd_ne this];exact r.sub _ _ e
 ·unfold upd at e
  split at e
  ·cases e;exact .inr ⟨ys,rfl⟩
  ·exact r.full _ _ e
 ·obtain ⟨v,q1,q2⟩:=r.slot j s hj
  refine ⟨v,q1,?_⟩
  cases s with
  | t x=>exact q2
  | vt x=>exact q2
  | ol ts=>exact absurd hj (no j ts)
theorem frozen_noOl (δ:DSt):NoOl (freeze δ):=fun i ts e=>by
 obtain ⟨u,_,h⟩:=get_freeze e
 exact not_ol_freeze u ts h.symm
theorem blkD_get {own:Nat} {fr:List Nat} {δ:DSt} {i:Nat} {s:S} (h:(blkD own fr δ)[i]?=some (some s)):own<=i/\∃ k,fr[i - own]?=some k/\δ[k]?=some (some s):=by
 unfold blkD at h
 by_cases hi:i < own
 ·rw [List.getElem?_append_left (by simpa using hi),List.getElem?_replicate,if_pos hi] at h
  cases h
 ·have hi:own<=i:=by omega
  refine ⟨hi,?_⟩
  rw [List.getElem?_append_right (by simpa using hi),List.length_replicate,List.getElem?_map] at h
  cases ef:fr[i - own]? with
  | none=>rw [ef] at h;cases h
  | some k=>
   rw [ef] at h
   refine ⟨k,rfl,?_⟩
   have ev:(δ[k]?).join=some s:=by simpa using h
   cases q:δ[k]? with
   | none=>rw [q] at ev;cases ev
   | some o=>rw [q] at ev;simpa using ev
theorem blkD_noOl {own:Nat} {fr:List Nat} {δ:DSt} (h:NoOl δ):NoOl (blkD own fr δ):=fun i ts e=>by
 obtain ⟨_,k,_,h2⟩:=blkD_get e
 exact h k ts h2
theorem rel_blk {K:PySem.W.Frag} {H:Hp} {σ:St} {δ:DSt} {own:Nat} {fr:List Nat} {D:Addr} (r:Rel K H H σ δ) (no:NoOl δ) (hD:H D=none):Rel K H (upd H D (.lst [])) (blk own fr σ) (blkD own fr δ):=by
 have:Rel K H H (blk own fr σ) (blkD own fr δ):=by
  refine ⟨r.sub,r.full,?_,fun i s h=>?_,fun i j a ts us _ h1=>absurd h1 (blkD_noOl no i ts)⟩
  ·unfold blk blkD
   rw [List.length_append,List.length_append,List.length_replicate,List.length_replicate,List.length_map,List.length_map]
  ·obtain ⟨hi,k,h1,h2⟩:=blkD_get h
   obtain ⟨v,q1,q2⟩:=r.slot k s h2
   refine ⟨v,?_,q2⟩
   unfold blk
   rw [List.getElem?_append_right (by simpa using hi),List.length_replicate,List.getElem?_map,h1]
   simp [q1]
 exact this.other hD (blkD_noOl no)
def blkLook (N:List Str) (no:Nat) (fr:List Nat) (NX:List Str) (sc around:Scope):Bool:=
 decide (sc.kind=.function) && sc.names.all (fun y=>decide (y.2 ≠ .cell)) && decide N.Nodup && decide (N.length=no + fr.length) &&
 sc.names.all (fun y=>decide (y.2=.local->sc.names.lookup y.1=some .local)) && sc.names.all (fun y=>decide (y.2=.free->around.names.lookup y.1=some .cell)) &&
 (List.range no).all (fun i=>match N[i]? with | some x=>decide (sc.names.lookup x=some .local) | none=>true) &&
 (List.range fr.length).all (fun j=>match fr[j]?,N[no + j]? with | some i,some x=>decide (NX[i]?=some x/\sc.names.lookup x=some .free) | _,_=>true)
theorem blk_of {N:List Str} {no:Nat} {fr:List Nat} {NX:List Str} {sc around:Scope} (h:blkLook N no fr NX sc around=true):BlkScope N no fr NX sc around:=by
 unfold blkLook at h
 simp only [Bool.and_eq_true,decide_eq_true_eq,List.all_eq_true,List.mem_range] at h
 obtain ⟨⟨⟨⟨⟨⟨⟨h1,h2⟩,h3⟩,h4⟩,h5⟩,h6⟩,h7⟩,h8⟩:=h
 refine ⟨h1,h2,h3,h4,h5,h6,fun i x e hi=>?_,fun j i x e1 e2=>?_⟩
 ·have:=h7 i hi
  rw [e] at this
  simpa using this
 ·have hj:j < fr.length:=(List.getElem?_eq_some_iff.mp e1).1
  have:=h8 j hj
  rw [e1,e2] at this
  simpa using this
section
variable {X:Cx} {N:List Str} {own:Nat} {fr:List Nat} {scope:Scope} {elt tg iter:Expr} {ifs:List Expr} {pos:Pos} {wi:WI} {g:WG} {tc:WT} {te:WE}
theorem dts_nil {Y:Cx}:PTs Y [] (liftT Y.K wYes):=fun pins s σ H Q I ⟨δ,R,F,rl,h,k⟩=>pts_nil pins s σ H Q I (k F H true rl.refl h)
theorem dts_one {Y:Cx} {c:Expr} {t:WT} (h:PT Y c (liftT Y.K t)):PTs Y [c] (liftT Y.K t):=pts_one h
theorem lift_comp (go:GOk g):∀ σ H Q,liftE X.K (wComp own fr wi g tc te) σ H Q->tComp own fr (liftI X.K wi) (liftG X.K g) (liftT X.K tc) (liftE X.K te) σ H Q:=
 fun σ H Q ⟨δ,R,F,rl,h,k⟩=>⟨δ,_,F,rl,h,fun J F0 F1 H1 ts δ1 e0 f01 rl1 it q D hD=>by
  have sH:Same H H1:=e0.hh
  obtain ⟨W,w0,wend,wstep⟩:=q
  refine ⟨fun i m σ' H'=>m=ts.length - i/\i<=ts.length/\∃ δ' F' acc xs,Same H1 F'/\F' D=none/\H' D=some (.lst xs)/\Rel X.K F' H' σ' δ'/\NoOl δ'/\TRepsN X.K H F' acc xs/\W (ts.drop i) δ' acc,
   ⟨ts.length,by simp,Nat.zero_le _,blkD own fr (freeze δ1),H1,[],[],Same.refl _,hD,upd_same,rel_blk rl1.freeze (frozen_noOl _) hD,blkD_noOl (frozen_noOl _),rfl,by simpa using w0⟩,?_⟩
  rintro i m σ' H' ⟨rfl,hi,δ',F',acc,xs,s1,fD,hH,rl',no,ra,h⟩
  obtain ⟨hgo,hstop⟩:=it F' H' i (rl1.sub.trans s1) rl'.sub rl'.full
  cases hd:ts.drop i with
  | nil=>
   rw [hd] at h
   have:ts.length<=i:=by simpa using hd
   refine .inl ⟨hstop this,?_⟩
   have sm:Same H H':=(sH.trans s1).trans rl'.sub
   have ex:=grow_ext (x:=some D) rl.sub rl.full sm (fun b z=>by cases z;exact ⟨xs,hH⟩)
   have hDn:H D=none:=none_of_same sH hD
   refine k _ _ H' (.ol acc) ex ⟨D,xs,rfl,hDn,?_,hH,?_⟩ (wend δ' acc h)
   ·unfold grow
    rw [if_pos (by rw [hDn];rfl),if_pos rfl]
   ·have all:∀ {acc:List T} {xs:List V},TRepsN X.K H F' acc xs->TReps X.K (grow F H H' (some D)) acc xs:=by
     intro acc
     induction acc with
     | nil=>intro xs z;exact z
     | cons t r ih=>
      rintro xs ⟨x,r',z1,z2,z3⟩
      refine ⟨x,r',z1,?_,ih z3⟩
      rcases z2 with ⟨p,z⟩ | ⟨us,a,ys,rfl,p,rfl,y1,y2,y3⟩
      ·exact TRep.full ex.full p (TRep.same rl'.sub z)
      ·unfold TRep
       refine ⟨a,ys,rfl,SqL.of ?_,TReps.full ex.full p (TReps.same rl'.sub y3)⟩
       have:a ≠ D:=fun z=>by rw [z,fD] at y2;cases y2
       unfold grow
       rw [if_pos (by rw [y1];rfl),if_neg (fun z=>this (Option.some.inj z).symm)]
       exact rl'.sub _ _ y2
    exact all ra
  | cons x r=>
   rw [hd] at h
   obtain ⟨h1,h2⟩:=drop_get hd
   obtain ⟨goes,yld⟩:=hgo x h1
   have hlt:i < ts.length:=by
    have:=congrArg List.length hd
    simp at this
    omega
   refine .inr ⟨goes,fun v H2 y=>?_⟩
   obtain ⟨F3,e3,p3⟩:=yld v H2 y
   have h:=wstep x r δ' acc h
   refine ⟨x,δ',_,F3,p3,rl'.ext e3,go x δ' _ no h,fun σ2 δ2 rl2 ⟨no2,h⟩=>?_⟩
   have D3:F3 D=none:=e3.keep D (by rw [hH];simp) fD
   have H3:=e3.hh _ _ hH
   refine ⟨δ2,_,F3,rl2,h,fun F4 H4 ok e4 h=>?_⟩
   have D4:F4 D=none:=e4.keep D (by rw [H3];simp) D3
   have H4D:=e4.hh _ _ H3
   have f4:Same F' F4:=e3.ff.trans e4.ff
   cases ok with
   | false=>
    refine ⟨ts.length - (i + 1),by omega,rfl,hlt,δ2,F4,acc,xs,s1.trans f4,D4,H4D,rl2.ext e4,no2,ra.same f4,?_⟩
    rw [h2];simpa using h
   | true=>
    simp only [if_true] at h
    refine ⟨δ2,_,F4,rl2.ext e4,h,fun w F5 H5 s e5 p5 h=>?_⟩
    have H5D:=e5.hh _ _ H4D
    refine ⟨xs,H5D,?_,ts.length - (i + 1),by omega,rfl,hlt,?_⟩
    ·rw [ra.length]
     cases s with
     | t y=>exact lt_line h.2.1
     | ol us=>exact lt_line h.2.1
     | vt y=>exact h.elim
    ·cases s with
     | t y=>
      have D5:F5 D=none:=e5.keep D (by rw [H4D];simp) D4
      refine ⟨δ2,F5,acc++[y],xs++[w],(s1.trans f4).trans e5.ff,D5,upd_same,((rl2.ext e4).ext e5).other D5 no2,no2,(ra.same (f4.trans e5.ff)).snoc (.inl ⟨h.1,p5⟩),?_⟩
      rw [h2];exact h.2.2
     | ol us=>
      obtain ⟨ez,sz⟩:=e5.frozen (rl2.ext e4).sub
      have D5:grow F5 H4 H5 none D=none:=ez.keep D (by rw [H4D];simp) D4
      obtain ⟨a,ys,rfl,q0,q1,q2,q3⟩:=p5
      refine ⟨δ2,grow F5 H4 H5 none,acc++[.lst us],xs++[.ref a],(s1.trans f4).trans ez.ff,D5,upd_same,((rl2.ext e4).ext ez).other D5 no2,no2,(ra.same (f4.trans ez.ff)).snoc (.inr ⟨us,a,ys,rfl,h.1,rfl,?_,?_,TReps.same sz q3⟩),?_⟩
      ·have s4:Same H H4:=((sH.trans s1).trans f4).trans e4.sub
       exact none_of_same s4 q0
      ·unfold grow
       rw [if_pos (by rw [q0];rfl),if_neg (by simp)]
       exact q2
      ·rw [h2];exact h.2.2
     | vt y=>exact h.elim⟩
theorem de_comp {NX:List Str} {ar:Scope} (look:blkLook N own fr NX scope ar=true) (hi:PI X tg iter (liftI X.K wi)) (go:GOk g)
  (hg:∀ cl s H fp,PG (cxBlk X N scope cl s H fp) tg (liftG X.K g)) (ht:∀ cl s H fp,PTs (cxBlk X N scope cl s H fp) ifs (liftT X.K tc)) (he:∀ cl s H fp,PE (cxBlk X N scope cl s H fp) elt (liftE X.K te)) (eN:X.N=NX:=by rfl) (eS:X.env.scope=ar:=by rfl) (hc:X.calm=true:=by rfl)
  (hs:∀ x,foldedSetIterable iter X.env x=pure x:=by intro _;rfl):PE X (.ListComp elt [⟨tg,iter,ifs,0⟩] scope pos) (liftE X.K (wComp own fr wi g tc te)):=
 (pe_comp (by subst eN;subst eS;exact blk_of look) hc hi hg ht he hs).imp (lift_comp go)
theorem ds_setComp {H₀:Hp} {NX:List Str} {ar:Scope} {i:Nat} {x:Str} {pos1 pos':Pos} (hN:X.N.Nodup) (look:blkLook N own fr NX scope ar=true) (hi:PI X tg iter (liftI X.K wi)) (go:GOk g)
  (hg:∀ cl s H fp,PG (cxBlk X N scope cl s H fp) tg (liftG X.K g)) (ht:∀ cl s H fp,PTs (cxBlk X N scope cl s H fp) ifs (liftT X.K tc)) (he:∀ cl s H fp,PE (cxBlk X N scope cl s H fp) elt (liftE X.K te)) (eN:X.N=NX:=by rfl) (eS:X.env.scope=ar:=by rfl)
  (hi':X.N[i]?=some x:=by rfl) (hx:Loc X.env.scope x:=by first | exact Or.inl rfl | exact Or.inr rfl) (hw:swapsWith (.ListComp elt [⟨tg,iter,ifs,0⟩] scope pos) (some (.Name x pos')) pos1.line X.env=pure true:=by rfl) (hf:X.fn x=true\/X.env.scope.names.lookup x=some .local:=by first | exact .inl rfl | exact .inr rfl | assumption) (hc:X.calm=true:=by rfl)
  (hs:∀ x,foldedSetIterable iter X.env x=pure x:=by intro _;rfl):PS X (.Assign [.Name x pos'] (.ListComp elt [⟨tg,iter,ifs,0⟩] scope pos) pos1) (liftS X.K H₀ (wSet i (wComp own fr wi g tc te))):=
 (ps_comp (i:=i) hN hi' hx (by subst eN;subst eS;exact blk_of look) hc hi hg ht he hs hw hf).imp fun D σ H ⟨δ,D',F,s0,rl,h,ok⟩=>lift_comp go σ H _ ⟨δ,_,F,rl,h,fun v F1 H1 s e p q=>by
  obtain ⟨F2,ff,r2⟩:=rl.setS i e p
  exact ok.nx _ F2 H1 _ ff r2 q⟩
end
end DL
namespace DL
open L2
def look (i:Nat) (δ:DSt) (k:S->Prop):Prop:=match δ[i]? with
 | some (some s)=>k s
 | _=>False
theorem look_0 (s:S) (r:DSt) (k:S->Prop):look 0 (some s::r) k=k s:=rfl
theorem look_s (i:Nat) (x:Option S) (r:DSt) (k:S->Prop):look (i + 1) (x::r) k=look i r k:=rfl
def lookO (i:Nat) (δ:DSt) (k:List T->Prop):Prop:=match δ[i]? with
 | some (some (.ol ts))=>k ts
 | _=>False
theorem lookO_0 (ts:List T) (r:DSt) (k:List T->Prop):lookO 0 (some (.ol ts)::r) k=k ts:=rfl
theorem lookO_s (i:Nat) (x:Option S) (r:DSt) (k:List T->Prop):lookO (i + 1) (x::r) k=lookO i r k:=rfl
section
variable (D:DEnds) (δ:DSt) (R:S->Prop) (w u:WS) (we wa wb wv:WE) (ws:WA) (i j:Nat) (x y:T) (s:S) (t c:WT)
theorem a_seq:wSeq w u D δ=w { D with nx:=u D } δ:=rfl
theorem a_set:wSet i we D δ=we δ fun s=>D.nx (setS i s δ):=rfl
theorem a_if:wIf c w u D δ=c δ fun k=>if k=true then w D δ else u D δ:=rfl
theorem a_ret:wRet we D δ=we δ fun s=>D.rt (out s):=rfl
theorem a_retV:wRetV i D δ=look i δ D.rt:=rfl
theorem a_retN:wRetN D δ=D.rt (.t .non):=rfl
theorem a_next:wNext D δ=D.nx δ:=rfl
theorem a_break:wBreak D δ=D.bk δ:=rfl
theorem a_cont:wCont D δ=D.ct δ:=rfl
theorem a_drop:wDrop we D δ=we δ fun _=>D.nx δ:=rfl
theorem a_var:wVar i δ R=look i δ fun s=>R (seen s):=rfl
theorem a_c:wC x δ R=R (.t x):=rfl
theorem a_op2 (f:S->S->(S->Prop)->Prop):wOp2 f wa wb δ R=wa δ fun x=>wb δ fun y=>f x y R:=rfl
theorem a_un (f:S->(S->Prop)->Prop):wUn f wa δ R=wa δ fun x=>f x R:=rfl
theorem a_I (C:Int->Int->Prop) (g:Int->Int->T) (i j:Int):fI C g (.t (.int i)) (.t (.int j)) R=(C i j/\R (.t (g i j))):=rfl
theorem a_I0 (g:Int->Int->T) (i j:Int):fI0 g (.t (.int i)) (.t (.int j)) R=R (.t (g i j)):=rfl
theorem a_neg (i:Int):fNeg (.t (.int i)) R=R (.t (.int (-i))):=rfl
theorem a_ixT (ts:List T) (i:Int):fIx (.t (.tup ts)) (.t (.int i)) R=atT ts i R:=rfl
theorem a_ixF (ts:List T) (i:Int):fIx (.t (.lst ts)) (.t (.int i)) R=atT ts i R:=rfl
theorem a_ixW (ts:List T) (i:Int):fIx (.vt (.tup ts)) (.t (.int i)) R=atV ts i R:=rfl
theorem a_ixV (ts:List T) (i:Int):fIx (.vt (.lst ts)) (.t (.int i)) R=atV ts i R:=rfl
theorem a_ixO (ts:List T) (i:Int):fIx (.ol ts) (.t (.int i)) R=atT ts i R:=rfl
theorem atT_of {ts:List T} {i:Int} {x:T} {R:S->Prop} (h:atI ts i=some x):atT ts i R=R (.t x):=by unfold atT;rw [h]
theorem atI_of {α:Type} {ts:List α} {n:Nat} {x:α} (h:ts[n]?=some x):atI ts (n:Int)=some x:=atI_nat h
theorem atT_0 (r:List T):atT (x::r) 0 R=R (.t x):=atT_of (atI_of (n:=0) rfl)
theorem atT_1 (r:List T):atT (x::y::r) 1 R=R (.t y):=atT_of (atI_of (n:=1) rfl)
theorem atT_2 (z:T) (r:List T):atT (x::y::z::r) 2 R=R (.t z):=atT_of (atI_of (n:=2) rfl)
theorem atT_3 (z z':T) (r:List T):atT (x::y::z::z'::r) 3 R=R (.t z'):=atT_of (atI_of (n:=3) rfl)
theorem atV_of {ts:List T} {i:Int} {x:T} {R:S->Prop} (h:atI ts i=some x):atV ts i R=R (norm x):=by unfold atV;rw [h]
theorem atV_0 (r:List T):atV (x::r) 0 R=R (norm x):=atV_of (atI_of (n:=0) rfl)
theorem atV_1 (r:List T):atV (x::y::r) 1 R=R (norm y):=atV_of (atI_of (n:=1) rfl)
theorem atV_2 (z:T) (r:List T):atV (x::y::z::r) 2 R=R (norm z):=atV_of (atI_of (n:=2) rfl)
theorem atV_3 (z z':T) (r:List T):atV (x::y::z::z'::r) 3 R=R (norm z'):=atV_of (atI_of (n:=3) rfl)
theorem norm_of {x:T} (h:pur x=true):norm x=.t x:=if_pos h
theorem norm_non:norm .non=.t .non:=rfl
theorem norm_bl (b:Bool):norm (.bl b)=.t (.bl b):=rfl
theorem norm_int (i:Int):norm (.int i)=.t (.int i):=rfl
theorem norm_str (i:PySem.Str):norm (.str i)=.t (.str i):=rfl
theorem norm_exc (i:PySem.Str):norm (.exc i)=.t (.exc i):=rfl
theorem norm_lst (ts:List T):norm (.lst ts)=.vt (.lst ts):=rfl
theorem norm_pt (a b:Int):norm (.tup [.int a,.int b])=.t (.tup [.int a,.int b]):=rfl
theorem norm_pt3 (a b c:Int):norm (.tup [.int a,.int b,.int c])=.t (.tup [.int a,.int b,.int c]):=rfl
theorem norm_sp (a b c d:Int):norm (.tup [.tup [.int a,.int b],.tup [.int c,.int d]])=.t (.tup [.tup [.int a,.int b],.tup [.int c,.int d]]):=rfl
theorem e_setT:setS i (.t x) δ=δ.set i (some (.t x)):=rfl
theorem e_setO (ts:List T):setS i (.ol ts) δ=δ.set i (some (.ol ts)):=rfl
theorem e_setV:setS i (.vt x) δ=(freeze δ).set i (some (.t x)):=rfl
theorem e_seenT:seen (.t x)=.t x:=rfl
theorem e_seenV:seen (.vt x)=.vt x:=rfl
theorem e_seenO (ts:List T):seen (.ol ts)=.vt (.lst ts):=rfl
theorem e_outT:out (.t x)=.t x:=rfl
theorem e_outV:out (.vt x)=.t x:=rfl
theorem e_outO (ts:List T):out (.ol ts)=.ol ts:=rfl
theorem e_argT:asArg (.t x)=.t x:=rfl
theorem e_argV:asArg (.vt x)=.t x:=rfl
theorem e_argO (ts:List T):asArg (.ol ts)=.t (.lst ts):=rfl
theorem e_gotT:got (.t x)=norm x:=rfl
theorem e_gotO (ts:List T) (h:purs ts=true):got (.ol ts)=.ol ts:=if_pos h
theorem e_frzT:freezeS (.t x)=.t x:=rfl
theorem e_frzO (ts:List T):freezeS (.ol ts)=.t (.lst ts):=rfl
theorem e_frz:freeze []=[]:=rfl
theorem e_frzN (r:DSt):freeze (none::r)=none::freeze r:=rfl
theorem e_frzS (s:S) (r:DSt):freeze (some s::r)=some (freezeS s)::freeze r:=rfl
theorem e_trT:tr (.t x)=x:=rfl
theorem e_trV:tr (.vt x)=x:=rfl
theorem e_trO (ts:List T):tr (.ol ts)=.lst ts:=rfl
def asB (R:Bool->Prop):S->Prop
 | .t (.bl k)=>R k
 | _=>False
theorem a_B (R:Bool->Prop):wB we δ R=we δ (asB R):=rfl
theorem asB_bl (R:Bool->Prop) (k:Bool):asB R (.t (.bl k))=R k:=rfl
theorem a_andT (R:Bool->Prop):wAndT t c δ R=t δ fun k=>if k=true then c δ R else R false:=rfl
theorem a_orT (R:Bool->Prop):wOrT t c δ R=t δ fun k=>if k=true then R true else c δ R:=rfl
theorem a_notT (R:Bool->Prop):wNotT t δ R=t δ fun k=>R (!k):=rfl
def andK (B:Prop) (R:S->Prop):S->Prop
 | .t (.bl k)=>if k=true then B else R (.t (.bl false))
 | _=>False
def orK (B:Prop) (R:S->Prop):S->Prop
 | .t (.bl k)=>if k=true then R (.t (.bl true)) else B
 | _=>False
def notK (R:S->Prop):S->Prop
 | .t (.bl k)=>R (.t (.bl (!k)))
 | _=>False
theorem a_andV:wAndV wa wb δ R=wa δ (andK (wb δ R) R):=rfl
theorem a_orV:wOrV wa wb δ R=wa δ (orK (wb δ R) R):=rfl
theorem a_notV:wNotV wa δ R=wa δ (notK R):=rfl
theorem andK_bl (B:Prop) (k:Bool):andK B R (.t (.bl k))=if k=true then B else R (.t (.bl false)):=rfl
theorem orK_bl (B:Prop) (k:Bool):orK B R (.t (.bl k))=if k=true then R (.t (.bl true)) else B:=rfl
theorem notK_bl (k:Bool):notK R (.t (.bl k))=R (.t (.bl (!k))):=rfl
theorem a_ifE:wIfE c wa wb δ R=c δ fun k=>if k=true then wa δ R else wb δ R:=rfl
theorem a_cb (f:List S->(S->Prop)->Prop):wCB f ws δ R=ws δ fun ss=>f ss R:=rfl
theorem a_nil (R:List S->Prop):wNil δ R=R []:=rfl
theorem a_cons (R:List S->Prop):wCons wa ws δ R=wa δ fun x=>ws δ fun xs=>R (x::xs):=rfl
def tupK (R:S->Prop) (ss:List S):Prop:=match trees ss with
 | some ts=>if ts.length<=1000 then R (.t (.tup ts)) else False
 | none=>False
def lstK (R:S->Prop) (ss:List S):Prop:=match trees ss with
 | some ts=>if ts.length<=1000 then R (.ol ts) else False
 | none=>False
theorem a_tup:wTup ws δ R=ws δ (tupK R):=rfl
theorem a_lst:wLst ws δ R=ws δ (lstK R):=rfl
theorem tup1:tupK R [.t x]=R (.t (.tup [x])):=rfl
theorem tup2:tupK R [.t x,.t y]=R (.t (.tup [x,y])):=rfl
theorem tup3 (z:T):tupK R [.t x,.t y,.t z]=R (.t (.tup [x,y,z])):=rfl
theorem lst0:lstK R []=R (.ol []):=rfl
theorem lst1:lstK R [.t x]=R (.ol [x]):=rfl
theorem lst2:lstK R [.t x,.t y]=R (.ol [x,y]):=rfl
theorem lst3 (z:T):lstK R [.t x,.t y,.t z]=R (.ol [x,y,z]):=rfl
theorem lst4 (z z':T):lstK R [.t x,.t y,.t z,.t z']=R (.ol [x,y,z,z']):=rfl
theorem tup4 (z z':T):tupK R [.t x,.t y,.t z,.t z']=R (.t (.tup [x,y,z,z'])):=rfl
theorem a_call (sp:DSpec):wCall sp ws δ R=ws δ fun ss=>sp (ss.map asArg) fun s=>R (got s):=rfl
theorem a_lenT (ts:List T):fLen [.t (.tup ts)] R=R (.t (.int ts.length)):=rfl
theorem a_lenF (ts:List T):fLen [.t (.lst ts)] R=R (.t (.int ts.length)):=rfl
theorem a_lenW (ts:List T):fLen [.vt (.tup ts)] R=R (.t (.int ts.length)):=rfl
theorem a_lenV (ts:List T):fLen [.vt (.lst ts)] R=R (.t (.int ts.length)):=rfl
theorem a_lenO (ts:List T):fLen [.ol ts] R=R (.t (.int ts.length)):=rfl
theorem a_abs (i:Int):fAbs [.t (.int i)] R=R (.t (.int (if i < 0 then -i else i))):=rfl
theorem a_max2 (i j:Int):fMax2 [.t (.int i),.t (.int j)] R=R (.t (.int (if j > i then j else i))):=rfl
theorem a_min2 (i j:Int):fMin2 [.t (.int i),.t (.int j)] R=R (.t (.int (if j < i then j else i))):=rfl
theorem a_intI (i:Int):fInt [.t (.int i)] R=R (.t (.int i)):=rfl
theorem a_intB (b:Bool):fInt [.t (.bl b)] R=R (.t (.int (if b then 1 else 0))):=rfl
theorem a_listF (ts:List T):fListOf [.t (.lst ts)] R=R (.ol ts):=rfl
theorem a_listV (ts:List T):fListOf [.vt (.lst ts)] R=(purs ts=true/\R (.ol ts)):=rfl
theorem a_listO (ts:List T):fListOf [.ol ts] R=R (.ol ts):=rfl
theorem eq_ii (i j:Int):fEq (.t (.int i)) (.t (.int j)) R=R (.t (.bl (decide (i=j)))):=by
 have e:(i == j)=decide (i=j):=by cases h:(i == j) <;> simp_all
 show (dep (.int i)<=20/\dep (.int j)<=20/\R (.t (.bl (i == j))))=_
 rw [e]
 exact propext ⟨fun h=>h.2.2,fun h=>⟨Nat.zero_le _,Nat.zero_le _,h⟩⟩
theorem ne_ii (i j:Int):fNe (.t (.int i)) (.t (.int j)) R=R (.t (.bl (!decide (i=j)))):=by
 have e:(i == j)=decide (i=j):=by cases h:(i == j) <;> simp_all
 show (dep (.int i)<=20/\dep (.int j)<=20/\R (.t (.bl (!(i == j)))))=_
 rw [e]
 exact propext ⟨fun h=>h.2.2,fun h=>⟨Nat.zero_le _,Nat.zero_le _,h⟩⟩
theorem a_is (ty:Ty):wIs ty we δ R=we δ fun s=>tyS s ≠ .exc/\R (.t (.bl (isTy (tyS s) ty))):=rfl
theorem ty_non:tyS (.t .non)=.non:=rfl
theorem ty_bl (b:Bool):tyS (.t (.bl b))=.bool:=rfl
theorem ty_int (i:Int):tyS (.t (.int i))=.int:=rfl
theorem ty_str (i:PySem.Str):tyS (.t (.str i))=.str:=rfl
theorem ty_tup (ts:List T):tyS (.t (.tup ts))=.tup:=rfl
theorem ty_tupV (ts:List T):tyS (.vt (.tup ts))=.tup:=rfl
theorem ty_fl (ts:List T):tyS (.t (.lst ts))=.lst:=rfl
theorem ty_vw (ts:List T):tyS (.vt (.lst ts))=.lst:=rfl
theorem ty_ol (ts:List T):tyS (.ol ts)=.lst:=rfl
theorem a_isN:wIsN wa δ R=wa δ fun s=>R (.t (.bl (isN (tr s)))):=rfl
theorem a_notN:wNotN wa δ R=wa δ fun s=>R (.t (.bl (!isN (tr s)))):=rfl
theorem ne_ty1:(Ty.non ≠ Ty.exc)=True:=by simp
theorem ne_ty2:(Ty.bool ≠ Ty.exc)=True:=by simp
theorem ne_ty3:(Ty.int ≠ Ty.exc)=True:=by simp
theorem ne_ty4:(Ty.str ≠ Ty.exc)=True:=by simp
theorem ne_ty5:(Ty.tup ≠ Ty.exc)=True:=by simp
theorem ne_ty6:(Ty.lst ≠ Ty.exc)=True:=by simp
theorem a_for (wi:WI) (g:WG):wFor wi g w D δ=wi δ fun ts δ'=>forI g w ts D δ':=rfl
theorem a_wiList (W:List T->DSt->Prop):wiList we δ W=we δ (listK δ W):=rfl
theorem listK_F (W:List T->DSt->Prop) (ts:List T):listK δ W (.t (.lst ts))=W ts δ:=rfl
theorem listK_V (W:List T->DSt->Prop) (ts:List T):listK δ W (.vt (.lst ts))=W ts (freeze δ):=rfl
theorem listK_O (W:List T->DSt->Prop) (ts:List T):listK δ W (.ol ts)=W ts δ:=rfl
theorem a_wiTup (W:List T->DSt->Prop):wiTup we δ W=we δ (tpK δ W):=rfl
theorem tpK_T (W:List T->DSt->Prop) (ts:List T):tpK δ W (.t (.tup ts))=W ts δ:=rfl
theorem tpK_V (W:List T->DSt->Prop) (ts:List T):tpK δ W (.vt (.tup ts))=W ts (freeze δ):=rfl
def rngK (δ:DSt) (W:List T->DSt->Prop):List S->Prop
 | [.t (.int j)]=>RngOk j/\W (rngT 0 j.toNat) δ
 | _=>False
theorem a_wiRng1 (W:List T->DSt->Prop):wiRng1 ws δ W=ws δ (rngK δ W):=rfl
theorem rngK_1 (W:List T->DSt->Prop) (j:Int):rngK δ W [.t (.int j)]=(RngOk j/\W (rngT 0 j.toNat) δ):=rfl
def rng2K (δ:DSt) (W:List T->DSt->Prop):List S->Prop
 | [.t (.int i),.t (.int j)]=>RngOk i/\RngOk j/\W (rngT i (j - i).toNat) δ
 | _=>False
theorem a_wiRng2 (W:List T->DSt->Prop):wiRng2 ws δ W=ws δ (rng2K δ W):=rfl
theorem rngK_2 (W:List T->DSt->Prop) (i j:Int):rng2K δ W [.t (.int i),.t (.int j)]=(RngOk i/\RngOk j/\W (rngT i (j - i).toNat) δ):=rfl
theorem a_gName (R:DSt->Prop):wgName i x δ R=R (δ.set i (some (.t x))):=rfl
theorem a_gTup (g:List T->DSt->(DSt->Prop)->Prop) (R:DSt->Prop) (ts:List T):wgTup g (.tup ts) δ R=g ts δ R:=rfl
theorem a_gNil (R:DSt->Prop):wgNil [] δ R=R δ:=rfl
theorem a_gCons (g:WG) (gr:List T->DSt->(DSt->Prop)->Prop) (R:DSt->Prop) (r:List T):wgCons g gr (x::r) δ R=g x δ fun δ1=>gr r δ1 R:=rfl
theorem a_unp (g:WG):wUnp we g D δ=we δ (unpK g δ D.nx):=rfl
theorem unpK_t (g:WG) (N:DSt->Prop):unpK g δ N (.t x)=g x δ N:=rfl
theorem unpK_v (g:WG) (N:DSt->Prop):unpK g δ N (.vt x)=g x (freeze δ) N:=rfl
def parK (i j:Nat) (δ:DSt) (N:DSt->Prop):List S->Prop
 | [.t x,.t y]=>N ((δ.set i (some (.t x))).set j (some (.t y)))
 | _=>False
theorem a_par:wPar i j ws D δ=ws δ (parK i j δ D.nx):=rfl
theorem parK_2 (N:DSt->Prop):parK i j δ N [.t x,.t y]=N ((δ.set i (some (.t x))).set j (some (.t y))):=rfl
theorem a_slice (wl wh:DSt->(Option Int->Prop)->Prop):wSlice we wl wh δ R=we δ fun s=>wl δ fun lo=>wh δ fun hi=>slcK lo hi R s:=rfl
theorem slcK_F (lo hi:Option Int) (ts:List T):slcK lo hi R (.t (.lst ts))=R (.ol (cutT ts lo hi)):=rfl
theorem slcK_V (lo hi:Option Int) (ts:List T):slcK lo hi R (.vt (.lst ts))=(purs ts=true/\R (.ol (cutT ts lo hi))):=rfl
theorem slcK_O (lo hi:Option Int) (ts:List T):slcK lo hi R (.ol ts)=R (.ol (cutT ts lo hi)):=rfl
theorem a_retZ:wRetZ we D δ=we (freeze δ) fun s=>D.rt (out s):=rfl
theorem a_cat (a b:S):fCat a b R=catK (fun ts=>catK (fun us=>ts.length + us.length<=100000/\R (.ol (ts++us))) b) a:=rfl
theorem catK_F (R:List T->Prop) (ts:List T):catK R (.t (.lst ts))=R ts:=rfl
theorem catK_V (R:List T->Prop) (ts:List T):catK R (.vt (.lst ts))=(purs ts=true/\R ts):=rfl
theorem catK_O (R:List T->Prop) (ts:List T):catK R (.ol ts)=R ts:=rfl
theorem a_comp (own:Nat) (fr:List Nat) (wi:WI) (g:WG) (te:WE):wComp own fr wi g t te δ R=wi δ fun ts δ'=>compI g t te ts (blkD own fr (freeze δ')) fun acc=>R (.ol acc):=rfl
theorem a_yes (R:Bool->Prop):wYes δ R=R true:=rfl
theorem itemK_t (k:T->Prop):itemK k (.t x)=(pur x=true/\k x):=rfl
theorem itemK_o (k:T->Prop) (ts:List T):itemK k (.ol ts)=(purs ts=true/\k (.lst ts)):=rfl
theorem pur_non:pur .non=true:=rfl
theorem pur_bl (b:Bool):pur (.bl b)=true:=rfl
theorem pur_int (b:Int):pur (.int b)=true:=rfl
theorem pur_str (b:PySem.Str):pur (.str b)=true:=rfl
theorem pur_tup (ts:List T):pur (.tup ts)=purs ts:=rfl
theorem pur_lst (ts:List T):pur (.lst ts)=false:=rfl
theorem purs_nil:purs []=true:=rfl
theorem purs_cons (ts:List T):purs (x::ts)=(pur x && purs ts):=rfl
theorem a_part0 (R:Option Int->Prop):wPart0 δ R=R none:=rfl
def prtK (R:Option Int->Prop):S->Prop
 | .t (.int i)=>R (some i)
 | _=>False
theorem a_part (R:Option Int->Prop):wPart we δ R=we δ (prtK R):=rfl
theorem prtK_i (R:Option Int->Prop) (i:Int):prtK R (.t (.int i))=R (some i):=rfl
def appK (i:Nat) (δ:DSt) (N:DSt->Prop) (ts:List T):S->Prop
 | .t x=>ts.length < 100000/\N (δ.set i (some (.ol (ts++[x]))))
 | _=>False
theorem a_append:wAppend i we D δ=lookO i δ fun ts=>we δ (appK i δ D.nx ts):=rfl
theorem appK_t (N:DSt->Prop) (ts:List T):appK i δ N ts (.t x)=(ts.length < 100000/\N (δ.set i (some (.ol (ts++[x]))))):=rfl
theorem a_pop:wPop i D δ=lookO i δ fun ts=>ts ≠ []/\D.nx (δ.set i (some (.ol ts.dropLast))):=rfl
end
theorem atT_all {ts:List T} {i:Int} {R:S->Prop} (h0:0<=i) (h1:i < ts.length) (h:∀ x∈ts,R (.t x)):atT ts i R:=by
 have hl:i.toNat < ts.length:=by omega
 have e:i=((i.toNat:Nat):Int):=by omega
 rw [e,atT_of (atI_of (x:=ts[i.toNat]) (by simp [hl]))]
 exact h _ (List.getElem_mem hl)
theorem atT_ints {ns:List Int} {i:Int} {R:S->Prop} (h0:0<=i) (h1:i < ns.length) (h:∀ v∈ns,R (.t (.int v))):atT (ns.map .int) i R:=
 atT_all h0 (by rw [List.length_map];exact h1) fun x hx=>by
  obtain ⟨v,hv,rfl⟩:=List.mem_map.mp hx
  exact h v hv
theorem divOk {i j:Int} (h:j ≠ 0) (h2:j.natAbs.log2 < 9000):DivOk i j:=⟨h,PyProof.noPylong_of_log2 h2⟩
theorem mulL {i j:Int} (h1:-18446744073709551616 < i) (h2:i < 18446744073709551616):MulOk i j:=⟨CMul.ok (.inl ⟨by omega,by omega⟩)⟩
theorem mulR {i j:Int} (h1:-18446744073709551616 < j) (h2:j < 18446744073709551616):MulOk i j:=⟨CMul.ok (.inr ⟨by omega,by omega⟩)⟩
theorem abs_eq (i:Int):(if i < 0 then -i else i)=(i.natAbs:Int):=by split <;> omega
theorem fmod_nat (g l:Nat):(g:Int).fmod (l:Int)=((g % l:Nat):Int):=by
 rw [Int.fmod_eq_emod_of_nonneg _ (Int.natCast_nonneg l)];rfl
theorem fmod_lo (c:Int) {n:Int} (h:0 < n):0<=c.fmod n:=Int.fmod_nonneg_of_pos c h
theorem fmod_hi (c:Int) {n:Int} (h:0 < n):c.fmod n < n:=Int.fmod_lt_of_pos c h
end DL
namespace DL
open L2
structure Sz (n:Nat) (i:Int):Prop where
 lt:i.natAbs < 2 ^ n
theorem Sz.mono {m n:Nat} {i:Int} (h:Sz m i) (l:m<=n):Sz n i:=⟨Nat.lt_of_lt_of_le h.lt (Nat.pow_le_pow_right (by decide) l)⟩
theorem Sz.mul {m n:Nat} {a b:Int} (ha:Sz m a) (hb:Sz n b):Sz (m + n) (a*b):=by
 have ha:=ha.lt
 have hb:=hb.lt
 refine ⟨?_⟩
 rw [Int.natAbs_mul,Nat.pow_add]
 exact Nat.mul_lt_mul_of_lt_of_le ha (Nat.le_of_lt hb) (Nat.pos_of_ne_zero (by have:=Nat.two_pow_pos n;omega))
theorem two_max {m n:Nat} {x y:Nat} (ha:x < 2 ^ m) (hb:y < 2 ^ n):x + y < 2 ^ (max m n + 1):=by
 have h1:2 ^ m<=2 ^ max m n:=Nat.pow_le_pow_right (by decide) (Nat.le_max_left _ _)
 have h2:2 ^ n<=2 ^ max m n:=Nat.pow_le_pow_right (by decide) (Nat.le_max_right _ _)
 rw [Nat.pow_succ];omega
theorem Sz.add {m n:Nat} {a b:Int} (ha:Sz m a) (hb:Sz n b):Sz (max m n + 1) (a + b):=by
 have:=two_max ha.lt hb.lt
 refine ⟨?_⟩
 omega
theorem Sz.sub {m n:Nat} {a b:Int} (ha:Sz m a) (hb:Sz n b):Sz (max m n + 1) (a - b):=by
 have:=two_max ha.lt hb.lt
 refine ⟨?_⟩
 omega
theorem Sz.neg {m:Nat} {a:Int} (ha:Sz m a):Sz m (-a):=by
 refine ⟨?_⟩;rw [Int.natAbs_neg];exact ha.lt
theorem natAbs_fdiv_le (a b:Int):(a.fdiv b).natAbs<=a.natAbs:=by
 cases a with
 | ofNat m=>
  cases b with
  | ofNat n=>
   cases m with
   | zero=>show (0:Int).natAbs<=_;simp
   | succ m=>show (Int.ofNat ((m + 1) / n)).natAbs<=m + 1;exact Nat.div_le_self (m + 1) n
  | negSucc n=>
   cases m with
   | zero=>show (0:Int).natAbs<=_;simp
   | succ m=>
    show (Int.negSucc (m / (n + 1))).natAbs<=m + 1
    have:(Int.negSucc (m / (n + 1))).natAbs=m / (n + 1) + 1:=rfl
    rw [this]
    have:=Nat.div_le_self m (n + 1)
    omega
 | negSucc m=>
  cases b with
  | ofNat n=>
   cases n with
   | zero=>show (0:Int).natAbs<=_;simp
   | succ n=>
    show (Int.negSucc (m / (n + 1))).natAbs<=m + 1
    have:(Int.negSucc (m / (n + 1))).natAbs=m / (n + 1) + 1:=rfl
    rw [this]
    have:=Nat.div_le_self m (n + 1)
    omega
  | negSucc n=>
   show (Int.ofNat ((m + 1) / (n + 1))).natAbs<=m + 1
   exact Nat.div_le_self (m + 1) (n + 1)
theorem Sz.fdiv {m:Nat} {a:Int} (ha:Sz m a) (b:Int):Sz m (a.fdiv b):=⟨Nat.lt_of_le_of_lt (natAbs_fdiv_le a b) ha.lt⟩
theorem Sz.fmod {m:Nat} {b:Int} (hb:Sz m b) (h:0 < b) (a:Int):Sz m (a.fmod b):=by
 have h1:=Int.fmod_nonneg_of_pos a h
 have h2:=Int.fmod_lt_of_pos a h
 have:=hb.lt
 exact ⟨by omega⟩
theorem Sz.of {m:Nat} {a:Int} (h1:-(2 ^ m:Nat) < a) (h2:a < (2 ^ m:Nat)):Sz m a:=⟨by omega⟩
theorem Sz.gcdL {m:Nat} {a b:Int} (ha:Sz m a) (h:a ≠ 0):Sz m (Int.gcd a b):=by
 have:Int.gcd a b<=a.natAbs:=Nat.le_of_dvd (by omega) (Int.gcd_dvd_natAbs_left a b)
 have:=ha.lt
 have e:((Int.gcd a b:Nat):Int).natAbs=Int.gcd a b:=rfl
 refine ⟨?_⟩
 rw [e];omega
theorem Sz.gcd {m n:Nat} {a b:Int} (ha:Sz m a) (hb:Sz n b):Sz (max m n) (Int.gcd a b):=by
 by_cases h:a=0
 ·subst h
  have e:Int.gcd 0 b=b.natAbs:=Int.gcd_zero_left b
  rw [e]
  exact Sz.mono (show Sz n (b.natAbs:Int) from ⟨hb.lt⟩) (Nat.le_max_right _ _)
 ·exact (Sz.gcdL ha h).mono (Nat.le_max_left _ _)
theorem bits_of_sz {n:Nat} {a:Int} (h:Sz n a) (hn:n<=1048576):PySem.Builtin.Int.intBits a<=2 ^ 20:=by
 unfold PySem.Builtin.Int.intBits
 have e:(2:Nat) ^ 20=1048576:=by decide
 rw [e]
 by_cases h0:a.natAbs=0
 ·simp only [h0];split <;> first | omega | simp
 ·have:=(Nat.log2_lt h0).mpr h.lt
  first
   | omega
   | (simp only [h0];omega)
   | (split <;> omega)
theorem mulSz {m n:Nat} {a b:Int} (ha:Sz m a) (hb:Sz n b) (h1:m<=1048576) (h2:n<=1048576):MulOk a b:=⟨PySem.IntMulOk.of_bits (bits_of_sz ha h1) (bits_of_sz hb h2)⟩
theorem divSz {n:Nat} {i j:Int} (h:j ≠ 0) (hs:Sz n j) (hn:n<=9000):DivOk i j:=by
 refine divOk h ?_
 have h0:j.natAbs ≠ 0:=by omega
 have:=(Nat.log2_lt h0).mpr hs.lt
 omega
theorem mem_rngT {lo:Int} {n:Nat} {t:T} (h:t∈rngT lo n):∃ k:Int,t=.int k/\lo<=k/\k < lo + n:=by
 unfold rngT at h
 obtain ⟨k,hk,rfl⟩:=List.mem_map.mp h
 have:=List.mem_range.mp hk
 exact ⟨_,rfl,by omega,by omega⟩
theorem rngOk {i:Int} (h1:-(2 ^ 62)<=i) (h2:i < 2 ^ 62):RngOk i:=⟨h1,h2⟩
theorem powOk {i j:Int} (h1:0<=j) (h2:j<=1000000) (h3:i.natAbs < 2 ^ 64):PowOk i j:=⟨⟨h1,h2,h3⟩⟩
end DL
namespace DL
open L2
abbrev Fr:=Int × Int
abbrev Pt:=Int × Int
abbrev Spo:=Fr × Fr
abbrev Hf:=Int × Int × Int
def ptT (p:Pt):T:=.tup [.int p.1,.int p.2]
def frT (p:Fr):T:=.tup [.int p.1,.int p.2]
def spT (s:Spo):T:=.tup [frT s.1,frT s.2]
def hfT (h:Hf):T:=.tup [.int h.1,.int h.2.1,.int h.2.2]
theorem purs_map {α:Type} {f:α->T} (h:∀ a,pur (f a)=true):∀ l:List α,purs (l.map f)=true
 | []=>rfl
 | a::r=>by rw [List.map_cons,purs_cons,h a,purs_map h r];rfl
theorem deps_map {α:Type} {f:α->T} {n:Nat} (h:∀ a,dep (f a)<=n):∀ l:List α,deps (l.map f)<=n
 | []=>Nat.zero_le _
 | a::r=>by
  rw [List.map_cons]
  have:=deps_map h r
  have:=h a
  simp only [deps]
  omega
theorem eqTs_map {α:Type} {f:α->T} (h:∀ a b,eqT (f a) (f b)=true ↔ a=b):∀ l m:List α,eqTs (l.map f) (m.map f)=true ↔ l=m
 | [],[]=>by simp [eqTs]
 | [],_::_=>by simp [eqTs]
 | _::_,[]=>by simp [eqTs]
 | a::r,b::s=>by
  simp only [List.map_cons,eqTs,Bool.and_eq_true,h a b,eqTs_map h r s,List.cons.injEq]
theorem eqT_int (a b:Int):eqT (.int a) (.int b)=true ↔ a=b:=by simp [eqT]
theorem eqT_ptT (a b:Pt):eqT (ptT a) (ptT b)=true ↔ a=b:=by
 simp only [ptT,eqT,eqTs,Bool.and_eq_true,beq_iff_eq,Bool.and_true,Prod.ext_iff]
theorem eqT_spT (a b:Spo):eqT (spT a) (spT b)=true ↔ a=b:=by
 obtain ⟨⟨a1,a2⟩,a3,a4⟩:=a
 obtain ⟨⟨b1,b2⟩,b3,b4⟩:=b
 simp only [spT,frT,eqT,eqTs,Bool.and_eq_true,beq_iff_eq,Bool.and_true,Prod.mk.injEq]
theorem eqT_hfT (a b:Hf):eqT (hfT a) (hfT b)=true ↔ a=b:=by
 obtain ⟨a1,a2,a3⟩:=a
 obtain ⟨b1,b2,b3⟩:=b
 simp only [hfT,eqT,eqTs,Bool.and_eq_true,beq_iff_eq,Bool.and_true,Prod.mk.injEq]
theorem dep_ptT (a:Pt):dep (ptT a)<=2:=by show 1<=2;decide
theorem dep_spT (a:Spo):dep (spT a)<=2:=by show 2<=2;decide
theorem dep_hfT (a:Hf):dep (hfT a)<=2:=by show 1<=2;decide
theorem bool_dec {b:Bool} {P:Prop} [Decidable P] (h:b=true ↔ P):b=decide P:=by
 cases b with
 | true=>exact (decide_eq_true (h.mp rfl)).symm
 | false=>exact (decide_eq_false fun p=>by cases h.mpr p).symm
section
variable (R:S->Prop)
theorem eq_of {a b:S} {P:Prop} [Decidable P] (h1:dep (tr a)<=20) (h2:dep (tr b)<=20) (h:eqT (tr a) (tr b)=true ↔ P):fEq a b R=R (.t (.bl (decide P))):=by
 unfold fEq eqS
 rw [bool_dec h]
 exact propext ⟨fun z=>z.2.2,fun z=>⟨h1,h2,z⟩⟩
theorem ne_of' {a b:S} {P:Prop} [Decidable P] (h1:dep (tr a)<=20) (h2:dep (tr b)<=20) (h:eqT (tr a) (tr b)=true ↔ P):fNe a b R=R (.t (.bl (!decide P))):=by
 unfold fNe eqS
 rw [bool_dec h]
 exact propext ⟨fun z=>z.2.2,fun z=>⟨h1,h2,z⟩⟩
theorem eq_tt (a b c d:Int):fEq (.t (.tup [.int a,.int b])) (.t (.tup [.int c,.int d])) R=R (.t (.bl (decide (a=c/\b=d)))):=eq_of R (by show 1<=20;decide) (by show 1<=20;decide) (by simp [tr,eqT,eqTs])
theorem ne_tt (a b c d:Int):fNe (.t (.tup [.int a,.int b])) (.t (.tup [.int c,.int d])) R=R (.t (.bl (!decide (a=c/\b=d)))):=ne_of' R (by show 1<=20;decide) (by show 1<=20;decide) (by simp [tr,eqT,eqTs])
theorem eq_hh (a b c d e f:Int):fEq (.t (.tup [.int a,.int b,.int c])) (.t (.tup [.int d,.int e,.int f])) R=R (.t (.bl (decide (a=d/\b=e/\c=f)))):=eq_of R (by show 1<=20;decide) (by show 1<=20;decide) (by simp [tr,eqT,eqTs])
theorem ne_hh (a b c d e f:Int):fNe (.t (.tup [.int a,.int b,.int c])) (.t (.tup [.int d,.int e,.int f])) R=R (.t (.bl (!decide (a=d/\b=e/\c=f)))):=ne_of' R (by show 1<=20;decide) (by show 1<=20;decide) (by simp [tr,eqT,eqTs])
theorem eq_lists {α:Type} [DecidableEq α] {f:α->T} {a b:S} {l m:List α} (hf:∀ a b,eqT (f a) (f b)=true ↔ a=b) (hd:∀ a,dep (f a)<=2) (ha:tr a=.lst (l.map f)) (hb:tr b=.lst (m.map f)):fEq a b R=R (.t (.bl (decide (l=m)))):=
 eq_of R (by rw [ha];have:=deps_map hd l;simp only [dep];omega) (by rw [hb];have:=deps_map hd m;simp only [dep];omega) (by rw [ha,hb];simp only [eqT];exact eqTs_map hf l m)
theorem ne_lists {α:Type} [DecidableEq α] {f:α->T} {a b:S} {l m:List α} (hf:∀ a b,eqT (f a) (f b)=true ↔ a=b) (hd:∀ a,dep (f a)<=2) (ha:tr a=.lst (l.map f)) (hb:tr b=.lst (m.map f)):fNe a b R=R (.t (.bl (!decide (l=m)))):=
 ne_of' R (by rw [ha];have:=deps_map hd l;simp only [dep];omega) (by rw [hb];have:=deps_map hd m;simp only [dep];omega) (by rw [ha,hb];simp only [eqT];exact eqTs_map hf l m)
end
def SzH (n:Nat) (h:Hf):Prop:=Sz n h.1/\Sz n h.2.1/\Sz n h.2.2
def SzF (n:Nat) (s:Fr):Prop:=Sz n s.1/\Sz n s.2
def SzS (n:Nat) (s:Spo):Prop:=SzF n s.1/\SzF n s.2
theorem isTy_non_non:isTy .non .non=true:=rfl
theorem isTy_non_bool:isTy .non .bool=false:=rfl
theorem isTy_non_int:isTy .non .int=false:=rfl
theorem isTy_non_str:isTy .non .str=false:=rfl
theorem isTy_non_tup:isTy .non .tup=false:=rfl
theorem isTy_non_lst:isTy .non .lst=false:=rfl
theorem isTy_bool_non:isTy .bool .non=false:=rfl
theorem isTy_bool_bool:isTy .bool .bool=true:=rfl
theorem isTy_bool_int:isTy .bool .int=true:=rfl
theorem isTy_bool_str:isTy .bool .str=false:=rfl
theorem isTy_bool_tup:isTy .bool .tup=false:=rfl
theorem isTy_bool_lst:isTy .bool .lst=false:=rfl
theorem isTy_int_non:isTy .int .non=false:=rfl
theorem isTy_int_bool:isTy .int .bool=false:=rfl
theorem isTy_int_int:isTy .int .int=true:=rfl
theorem isTy_int_str:isTy .int .str=false:=rfl
theorem isTy_int_tup:isTy .int .tup=false:=rfl
theorem isTy_int_lst:isTy .int .lst=false:=rfl
theorem isTy_str_non:isTy .str .non=false:=rfl
theorem isTy_str_bool:isTy .str .bool=false:=rfl
theorem isTy_str_int:isTy .str .int=false:=rfl
theorem isTy_str_str:isTy .str .str=true:=rfl
theorem isTy_str_tup:isTy .str .tup=false:=rfl
theorem isTy_str_lst:isTy .str .lst=false:=rfl
theorem isTy_tup_non:isTy .tup .non=false:=rfl
theorem isTy_tup_bool:isTy .tup .bool=false:=rfl
theorem isTy_tup_int:isTy .tup .int=false:=rfl
theorem isTy_tup_str:isTy .tup .str=false:=rfl
theorem isTy_tup_tup:isTy .tup .tup=true:=rfl
theorem isTy_tup_lst:isTy .tup .lst=false:=rfl
theorem isTy_lst_non:isTy .lst .non=false:=rfl
theorem isTy_lst_bool:isTy .lst .bool=false:=rfl
theorem isTy_lst_int:isTy .lst .int=false:=rfl
theorem isTy_lst_str:isTy .lst .str=false:=rfl
theorem isTy_lst_tup:isTy .lst .tup=false:=rfl
theorem isTy_lst_lst:isTy .lst .lst=true:=rfl
theorem purs_pt (l:List Pt):purs (l.map ptT)=true:=purs_map (fun _=>rfl) l
theorem eq_pt_tt (R:S->Prop) (l m:List Pt):fEq (.t (.lst (l.map ptT))) (.t (.lst (m.map ptT))) R=R (.t (.bl (decide (l=m)))):=eq_lists R eqT_ptT dep_ptT rfl rfl
theorem ne_pt_tt (R:S->Prop) (l m:List Pt):fNe (.t (.lst (l.map ptT))) (.t (.lst (m.map ptT))) R=R (.t (.bl (!decide (l=m)))):=ne_lists R eqT_ptT dep_ptT rfl rfl
theorem eq_pt_tv (R:S->Prop) (l m:List Pt):fEq (.t (.lst (l.map ptT))) (.vt (.lst (m.map ptT))) R=R (.t (.bl (decide (l=m)))):=eq_lists R eqT_ptT dep_ptT rfl rfl
theorem ne_pt_tv (R:S->Prop) (l m:List Pt):fNe (.t (.lst (l.map ptT))) (.vt (.lst (m.map ptT))) R=R (.t (.bl (!decide (l=m)))):=ne_lists R eqT_ptT dep_ptT rfl rfl
theorem eq_pt_to (R:S->Prop) (l m:List Pt):fEq (.t (.lst (l.map ptT))) (.ol (m.map ptT)) R=R (.t (.bl (decide (l=m)))):=eq_lists R eqT_ptT dep_ptT rfl rfl
theorem ne_pt_to (R:S->Prop) (l m:List Pt):fNe (.t (.lst (l.map ptT))) (.ol (m.map ptT)) R=R (.t (.bl (!decide (l=m)))):=ne_lists R eqT_ptT dep_ptT rfl rfl
theorem eq_pt_vt (R:S->Prop) (l m:List Pt):fEq (.vt (.lst (l.map ptT))) (.t (.lst (m.map ptT))) R=R (.t (.bl (decide (l=m)))):=eq_lists R eqT_ptT dep_ptT rfl rfl
theorem ne_pt_vt (R:S->Prop) (l m:List Pt):fNe (.vt (.lst (l.map ptT))) (.t (.lst (m.map ptT))) R=R (.t (.bl (!decide (l=m)))):=ne_lists R eqT_ptT dep_ptT rfl rfl
theorem eq_pt_vv (R:S->Prop) (l m:List Pt):fEq (.vt (.lst (l.map ptT))) (.vt (.lst (m.map ptT))) R=R (.t (.bl (decide (l=m)))):=eq_lists R eqT_ptT dep_ptT rfl rfl
theorem ne_pt_vv (R:S->Prop) (l m:List Pt):fNe (.vt (.lst (l.map ptT))) (.vt (.lst (m.map ptT))) R=R (.t (.bl (!decide (l=m)))):=ne_lists R eqT_ptT dep_ptT rfl rfl
theorem eq_pt_vo (R:S->Prop) (l m:List Pt):fEq (.vt (.lst (l.map ptT))) (.ol (m.map ptT)) R=R (.t (.bl (decide (l=m)))):=eq_lists R eqT_ptT dep_ptT rfl rfl
theorem ne_pt_vo (R:S->Prop) (l m:List Pt):fNe (.vt (.lst (l.map ptT))) (.ol (m.map ptT)) R=R (.t (.bl (!decide (l=m)))):=ne_lists R eqT_ptT dep_ptT rfl rfl
theorem eq_pt_ot (R:S->Prop) (l m:List Pt):fEq (.ol (l.map ptT)) (.t (.lst (m.map ptT))) R=R (.t (.bl (decide (l=m)))):=eq_lists R eqT_ptT dep_ptT rfl rfl
theorem ne_pt_ot (R:S->Prop) (l m:List Pt):fNe (.ol (l.map ptT)) (.t (.lst (m.map ptT))) R=R (.t (.bl (!decide (l=m)))):=ne_lists R eqT_ptT dep_ptT rfl rfl
theorem eq_pt_ov (R:S->Prop) (l m:List Pt):fEq (.ol (l.map ptT)) (.vt (.lst (m.map ptT))) R=R (.t (.bl (decide (l=m)))):=eq_lists R eqT_ptT dep_ptT rfl rfl
theorem ne_pt_ov (R:S->Prop) (l m:List Pt):fNe (.ol (l.map ptT)) (.vt (.lst (m.map ptT))) R=R (.t (.bl (!decide (l=m)))):=ne_lists R eqT_ptT dep_ptT rfl rfl
theorem eq_pt_oo (R:S->Prop) (l m:List Pt):fEq (.ol (l.map ptT)) (.ol (m.map ptT)) R=R (.t (.bl (decide (l=m)))):=eq_lists R eqT_ptT dep_ptT rfl rfl
theorem ne_pt_oo (R:S->Prop) (l m:List Pt):fNe (.ol (l.map ptT)) (.ol (m.map ptT)) R=R (.t (.bl (!decide (l=m)))):=ne_lists R eqT_ptT dep_ptT rfl rfl
theorem eq_pt_t0 (R:S->Prop) (l:List Pt):fEq (.t (.lst (l.map ptT))) (.ol []) R=R (.t (.bl (decide (l=[])))):=eq_lists (m:=[]) R eqT_ptT dep_ptT rfl rfl
theorem ne_pt_t0 (R:S->Prop) (l:List Pt):fNe (.t (.lst (l.map ptT))) (.ol []) R=R (.t (.bl (!decide (l=[])))):=ne_lists (m:=[]) R eqT_ptT dep_ptT rfl rfl
theorem eq_pt_v0 (R:S->Prop) (l:List Pt):fEq (.vt (.lst (l.map ptT))) (.ol []) R=R (.t (.bl (decide (l=[])))):=eq_lists (m:=[]) R eqT_ptT dep_ptT rfl rfl
theorem ne_pt_v0 (R:S->Prop) (l:List Pt):fNe (.vt (.lst (l.map ptT))) (.ol []) R=R (.t (.bl (!decide (l=[])))):=ne_lists (m:=[]) R eqT_ptT dep_ptT rfl rfl
theorem eq_pt_o0 (R:S->Prop) (l:List Pt):fEq (.ol (l.map ptT)) (.ol []) R=R (.t (.bl (decide (l=[])))):=eq_lists (m:=[]) R eqT_ptT dep_ptT rfl rfl
theorem ne_pt_o0 (R:S->Prop) (l:List Pt):fNe (.ol (l.map ptT)) (.ol []) R=R (.t (.bl (!decide (l=[])))):=ne_lists (m:=[]) R eqT_ptT dep_ptT rfl rfl
theorem purs_hf (l:List Hf):purs (l.map hfT)=true:=purs_map (fun _=>rfl) l
theorem eq_hf_tt (R:S->Prop) (l m:List Hf):fEq (.t (.lst (l.map hfT))) (.t (.lst (m.map hfT))) R=R (.t (.bl (decide (l=m)))):=eq_lists R eqT_hfT dep_hfT rfl rfl
theorem ne_hf_tt (R:S->Prop) (l m:List Hf):fNe (.t (.lst (l.map hfT))) (.t (.lst (m.map hfT))) R=R (.t (.bl (!decide (l=m)))):=ne_lists R eqT_hfT dep_hfT rfl rfl
theorem eq_hf_tv (R:S->Prop) (l m:List Hf):fEq (.t (.lst (l.map hfT))) (.vt (.lst (m.map hfT))) R=R (.t (.bl (decide (l=m)))):=eq_lists R eqT_hfT dep_hfT rfl rfl
theorem ne_hf_tv (R:S->Prop) (l m:List Hf):fNe (.t (.lst (l.map hfT))) (.vt (.lst (m.map hfT))) R=R (.t (.bl (!decide (l=m)))):=ne_lists R eqT_hfT dep_hfT rfl rfl
theorem eq_hf_to (R:S->Prop) (l m:List Hf):fEq (.t (.lst (l.map hfT))) (.ol (m.map hfT)) R=R (.t (.bl (decide (l=m)))):=eq_lists R eqT_hfT dep_hfT rfl rfl
theorem ne_hf_to (R:S->Prop) (l m:List Hf):fNe (.t (.lst (l.map hfT))) (.ol (m.map hfT)) R=R (.t (.bl (!decide (l=m)))):=ne_lists R eqT_hfT dep_hfT rfl rfl
theorem eq_hf_vt (R:S->Prop) (l m:List Hf):fEq (.vt (.lst (l.map hfT))) (.t (.lst (m.map hfT))) R=R (.t (.bl (decide (l=m)))):=eq_lists R eqT_hfT dep_hfT rfl rfl
theorem ne_hf_vt (R:S->Prop) (l m:List Hf):fNe (.vt (.lst (l.map hfT))) (.t (.lst (m.map hfT))) R=R (.t (.bl (!decide (l=m)))):=ne_lists R eqT_hfT dep_hfT rfl rfl
theorem eq_hf_vv (R:S->Prop) (l m:List Hf):fEq (.vt (.lst (l.map hfT))) (.vt (.lst (m.map hfT))) R=R (.t (.bl (decide (l=m)))):=eq_lists R eqT_hfT dep_hfT rfl rfl
theorem ne_hf_vv (R:S->Prop) (l m:List Hf):fNe (.vt (.lst (l.map hfT))) (.vt (.lst (m.map hfT))) R=R (.t (.bl (!decide (l=m)))):=ne_lists R eqT_hfT dep_hfT rfl rfl
theorem eq_hf_vo (R:S->Prop) (l m:List Hf):fEq (.vt (.lst (l.map hfT))) (.ol (m.map hfT)) R=R (.t (.bl (decide (l=m)))):=eq_lists R eqT_hfT dep_hfT rfl rfl
theorem ne_hf_vo (R:S->Prop) (l m:List Hf):fNe (.vt (.lst (l.map hfT))) (.ol (m.map hfT)) R=R (.t (.bl (!decide (l=m)))):=ne_lists R eqT_hfT dep_hfT rfl rfl
theorem eq_hf_ot (R:S->Prop) (l m:List Hf):fEq (.ol (l.map hfT)) (.t (.lst (m.map hfT))) R=R (.t (.bl (decide (l=m)))):=eq_lists R eqT_hfT dep_hfT rfl rfl
theorem ne_hf_ot (R:S->Prop) (l m:List Hf):fNe (.ol (l.map hfT)) (.t (.lst (m.map hfT))) R=R (.t (.bl (!decide (l=m)))):=ne_lists R eqT_hfT dep_hfT rfl rfl
theorem eq_hf_ov (R:S->Prop) (l m:List Hf):fEq (.ol (l.map hfT)) (.vt (.lst (m.map hfT))) R=R (.t (.bl (decide (l=m)))):=eq_lists R eqT_hfT dep_hfT rfl rfl
theorem ne_hf_ov (R:S->Prop) (l m:List Hf):fNe (.ol (l.map hfT)) (.vt (.lst (m.map hfT))) R=R (.t (.bl (!decide (l=m)))):=ne_lists R eqT_hfT dep_hfT rfl rfl
theorem eq_hf_oo (R:S->Prop) (l m:List Hf):fEq (.ol (l.map hfT)) (.ol (m.map hfT)) R=R (.t (.bl (decide (l=m)))):=eq_lists R eqT_hfT dep_hfT rfl rfl
theorem ne_hf_oo (R:S->Prop) (l m:List Hf):fNe (.ol (l.map hfT)) (.ol (m.map hfT)) R=R (.t (.bl (!decide (l=m)))):=ne_lists R eqT_hfT dep_hfT rfl rfl
theorem eq_hf_t0 (R:S->Prop) (l:List Hf):fEq (.t (.lst (l.map hfT))) (.ol []) R=R (.t (.bl (decide (l=[])))):=eq_lists (m:=[]) R eqT_hfT dep_hfT rfl rfl
theorem ne_hf_t0 (R:S->Prop) (l:List Hf):fNe (.t (.lst (l.map hfT))) (.ol []) R=R (.t (.bl (!decide (l=[])))):=ne_lists (m:=[]) R eqT_hfT dep_hfT rfl rfl
theorem eq_hf_v0 (R:S->Prop) (l:List Hf):fEq (.vt (.lst (l.map hfT))) (.ol []) R=R (.t (.bl (decide (l=[])))):=eq_lists (m:=[]) R eqT_hfT dep_hfT rfl rfl
theorem ne_hf_v0 (R:S->Prop) (l:List Hf):fNe (.vt (.lst (l.map hfT))) (.ol []) R=R (.t (.bl (!decide (l=[])))):=ne_lists (m:=[]) R eqT_hfT dep_hfT rfl rfl
theorem eq_hf_o0 (R:S->Prop) (l:List Hf):fEq (.ol (l.map hfT)) (.ol []) R=R (.t (.bl (decide (l=[])))):=eq_lists (m:=[]) R eqT_hfT dep_hfT rfl rfl
theorem ne_hf_o0 (R:S->Prop) (l:List Hf):fNe (.ol (l.map hfT)) (.ol []) R=R (.t (.bl (!decide (l=[])))):=ne_lists (m:=[]) R eqT_hfT dep_hfT rfl rfl
theorem purs_sp (l:List Spo):purs (l.map spT)=true:=purs_map (fun _=>rfl) l
theorem eq_sp_tt (R:S->Prop) (l m:List Spo):fEq (.t (.lst (l.map spT))) (.t (.lst (m.map spT))) R=R (.t (.bl (decide (l=m)))):=eq_lists R eqT_spT dep_spT rfl rfl
theorem ne_sp_tt (R:S->Prop) (l m:List Spo):fNe (.t (.lst (l.map spT))) (.t (.lst (m.map spT))) R=R (.t (.bl (!decide (l=m)))):=ne_lists R eqT_spT dep_spT rfl rfl
theorem eq_sp_tv (R:S->Prop) (l m:List Spo):fEq (.t (.lst (l.map spT))) (.vt (.lst (m.map spT))) R=R (.t (.bl (decide (l=m)))):=eq_lists R eqT_spT dep_spT rfl rfl
theorem ne_sp_tv (R:S->Prop) (l m:List Spo):fNe (.t (.lst (l.map spT))) (.vt (.lst (m.map spT))) R=R (.t (.bl (!decide (l=m)))):=ne_lists R eqT_spT dep_spT rfl rfl
theorem eq_sp_to (R:S->Prop) (l m:List Spo):fEq (.t (.lst (l.map spT))) (.ol (m.map spT)) R=R (.t (.bl (decide (l=m)))):=eq_lists R eqT_spT dep_spT rfl rfl
theorem ne_sp_to (R:S->Prop) (l m:List Spo):fNe (.t (.lst (l.map spT))) (.ol (m.map spT)) R=R (.t (.bl (!decide (l=m)))):=ne_lists R eqT_spT dep_spT rfl rfl
theorem eq_sp_vt (R:S->Prop) (l m:List Spo):fEq (.vt (.lst (l.map spT))) (.t (.lst (m.map spT))) R=R (.t (.bl (decide (l=m)))):=eq_lists R eqT_spT dep_spT rfl rfl
theorem ne_sp_vt (R:S->Prop) (l m:List Spo):fNe (.vt (.lst (l.map spT))) (.t (.lst (m.map spT))) R=R (.t (.bl (!decide (l=m)))):=ne_lists R eqT_spT dep_spT rfl rfl
theorem eq_sp_vv (R:S->Prop) (l m:List Spo):fEq (.vt (.lst (l.map spT))) (.vt (.lst (m.map spT))) R=R (.t (.bl (decide (l=m)))):=eq_lists R eqT_spT dep_spT rfl rfl
theorem ne_sp_vv (R:S->Prop) (l m:List Spo):fNe (.vt (.lst (l.map spT))) (.vt (.lst (m.map spT))) R=R (.t (.bl (!decide (l=m)))):=ne_lists R eqT_spT dep_spT rfl rfl
theorem eq_sp_vo (R:S->Prop) (l m:List Spo):fEq (.vt (.lst (l.map spT))) (.ol (m.map spT)) R=R (.t (.bl (decide (l=m)))):=eq_lists R eqT_spT dep_spT rfl rfl
theorem ne_sp_vo (R:S->Prop) (l m:List Spo):fNe (.vt (.lst (l.map spT))) (.ol (m.map spT)) R=R (.t (.bl (!decide (l=m)))):=ne_lists R eqT_spT dep_spT rfl rfl
theorem eq_sp_ot (R:S->Prop) (l m:List Spo):fEq (.ol (l.map spT)) (.t (.lst (m.map spT))) R=R (.t (.bl (decide (l=m)))):=eq_lists R eqT_spT dep_spT rfl rfl
theorem ne_sp_ot (R:S->Prop) (l m:List Spo):fNe (.ol (l.map spT)) (.t (.lst (m.map spT))) R=R (.t (.bl (!decide (l=m)))):=ne_lists R eqT_spT dep_spT rfl rfl
theorem eq_sp_ov (R:S->Prop) (l m:List Spo):fEq (.ol (l.map spT)) (.vt (.lst (m.map spT))) R=R (.t (.bl (decide (l=m)))):=eq_lists R eqT_spT dep_spT rfl rfl
theorem ne_sp_ov (R:S->Prop) (l m:List Spo):fNe (.ol (l.map spT)) (.vt (.lst (m.map spT))) R=R (.t (.bl (!decide (l=m)))):=ne_lists R eqT_spT dep_spT rfl rfl
theorem eq_sp_oo (R:S->Prop) (l m:List Spo):fEq (.ol (l.map spT)) (.ol (m.map spT)) R=R (.t (.bl (decide (l=m)))):=eq_lists R eqT_spT dep_spT rfl rfl
theorem ne_sp_oo (R:S->Prop) (l m:List Spo):fNe (.ol (l.map spT)) (.ol (m.map spT)) R=R (.t (.bl (!decide (l=m)))):=ne_lists R eqT_spT dep_spT rfl rfl
theorem eq_sp_t0 (R:S->Prop) (l:List Spo):fEq (.t (.lst (l.map spT))) (.ol []) R=R (.t (.bl (decide (l=[])))):=eq_lists (m:=[]) R eqT_spT dep_spT rfl rfl
theorem ne_sp_t0 (R:S->Prop) (l:List Spo):fNe (.t (.lst (l.map spT))) (.ol []) R=R (.t (.bl (!decide (l=[])))):=ne_lists (m:=[]) R eqT_spT dep_spT rfl rfl
theorem eq_sp_v0 (R:S->Prop) (l:List Spo):fEq (.vt (.lst (l.map spT))) (.ol []) R=R (.t (.bl (decide (l=[])))):=eq_lists (m:=[]) R eqT_spT dep_spT rfl rfl
theorem ne_sp_v0 (R:S->Prop) (l:List Spo):fNe (.vt (.lst (l.map spT))) (.ol []) R=R (.t (.bl (!decide (l=[])))):=ne_lists (m:=[]) R eqT_spT dep_spT rfl rfl
theorem eq_sp_o0 (R:S->Prop) (l:List Spo):fEq (.ol (l.map spT)) (.ol []) R=R (.t (.bl (decide (l=[])))):=eq_lists (m:=[]) R eqT_spT dep_spT rfl rfl
theorem ne_sp_o0 (R:S->Prop) (l:List Spo):fNe (.ol (l.map spT)) (.ol []) R=R (.t (.bl (!decide (l=[])))):=ne_lists (m:=[]) R eqT_spT dep_spT rfl rfl
theorem purs_in (l:List Int):purs (l.map T.int)=true:=purs_map (fun _=>rfl) l
theorem eq_in_tt (R:S->Prop) (l m:List Int):fEq (.t (.lst (l.map T.int))) (.t (.lst (m.map T.int))) R=R (.t (.bl (decide (l=m)))):=eq_lists R eqT_int (fun _=>by show 0<=2;decide) rfl rfl
theorem ne_in_tt (R:S->Prop) (l m:List Int):fNe (.t (.lst (l.map T.int))) (.t (.lst (m.map T.int))) R=R (.t (.bl (!decide (l=m)))):=ne_lists R eqT_int (fun _=>by show 0<=2;decide) rfl rfl
theorem eq_in_tv (R:S->Prop) (l m:List Int):fEq (.t (.lst (l.map T.int))) (.vt (.lst (m.map T.int))) R=R (.t (.bl (decide (l=m)))):=eq_lists R eqT_int (fun _=>by show 0<=2;decide) rfl rfl
theorem ne_in_tv (R:S->Prop) (l m:List Int):fNe (.t (.lst (l.map T.int))) (.vt (.lst (m.map T.int))) R=R (.t (.bl (!decide (l=m)))):=ne_lists R eqT_int (fun _=>by show 0<=2;decide) rfl rfl
theorem eq_in_to (R:S->Prop) (l m:List Int):fEq (.t (.lst (l.map T.int))) (.ol (m.map T.int)) R=R (.t (.bl (decide (l=m)))):=eq_lists R eqT_int (fun _=>by show 0<=2;decide) rfl rfl
theorem ne_in_to (R:S->Prop) (l m:List Int):fNe (.t (.lst (l.map T.int))) (.ol (m.map T.int)) R=R (.t (.bl (!decide (l=m)))):=ne_lists R eqT_int (fun _=>by show 0<=2;decide) rfl rfl
theorem eq_in_vt (R:S->Prop) (l m:List Int):fEq (.vt (.lst (l.map T.int))) (.t (.lst (m.map T.int))) R=R (.t (.bl (decide (l=m)))):=eq_lists R eqT_int (fun _=>by show 0<=2;decide) rfl rfl
theorem ne_in_vt (R:S->Prop) (l m:List Int):fNe (.vt (.lst (l.map T.int))) (.t (.lst (m.map T.int))) R=R (.t (.bl (!decide (l=m)))):=ne_lists R eqT_int (fun _=>by show 0<=2;decide) rfl rfl
theorem eq_in_vv (R:S->Prop) (l m:List Int):fEq (.vt (.lst (l.map T.int))) (.vt (.lst (m.map T.int))) R=R (.t (.bl (decide (l=m)))):=eq_lists R eqT_int (fun _=>by show 0<=2;decide) rfl rfl
theorem ne_in_vv (R:S->Prop) (l m:List Int):fNe (.vt (.lst (l.map T.int))) (.vt (.lst (m.map T.int))) R=R (.t (.bl (!decide (l=m)))):=ne_lists R eqT_int (fun _=>by show 0<=2;decide) rfl rfl
theorem eq_in_vo (R:S->Prop) (l m:List Int):fEq (.vt (.lst (l.map T.int))) (.ol (m.map T.int)) R=R (.t (.bl (decide (l=m)))):=eq_lists R eqT_int (fun _=>by show 0<=2;decide) rfl rfl
theorem ne_in_vo (R:S->Prop) (l m:List Int):fNe (.vt (.lst (l.map T.int))) (.ol (m.map T.int)) R=R (.t (.bl (!decide (l=m)))):=ne_lists R eqT_int (fun _=>by show 0<=2;decide) rfl rfl
theorem eq_in_ot (R:S->Prop) (l m:List Int):fEq (.ol (l.map T.int)) (.t (.lst (m.map T.int))) R=R (.t (.bl (decide (l=m)))):=eq_lists R eqT_int (fun _=>by show 0<=2;decide) rfl rfl
theorem ne_in_ot (R:S->Prop) (l m:List Int):fNe (.ol (l.map T.int)) (.t (.lst (m.map T.int))) R=R (.t (.bl (!decide (l=m)))):=ne_lists R eqT_int (fun _=>by show 0<=2;decide) rfl rfl
theorem eq_in_ov (R:S->Prop) (l m:List Int):fEq (.ol (l.map T.int)) (.vt (.lst (m.map T.int))) R=R (.t (.bl (decide (l=m)))):=eq_lists R eqT_int (fun _=>by show 0<=2;decide) rfl rfl
theorem ne_in_ov (R:S->Prop) (l m:List Int):fNe (.ol (l.map T.int)) (.vt (.lst (m.map T.int))) R=R (.t (.bl (!decide (l=m)))):=ne_lists R eqT_int (fun _=>by show 0<=2;decide) rfl rfl
theorem eq_in_oo (R:S->Prop) (l m:List Int):fEq (.ol (l.map T.int)) (.ol (m.map T.int)) R=R (.t (.bl (decide (l=m)))):=eq_lists R eqT_int (fun _=>by show 0<=2;decide) rfl rfl
theorem ne_in_oo (R:S->Prop) (l m:List Int):fNe (.ol (l.map T.int)) (.ol (m.map T.int)) R=R (.t (.bl (!decide (l=m)))):=ne_lists R eqT_int (fun _=>by show 0<=2;decide) rfl rfl
theorem eq_in_t0 (R:S->Prop) (l:List Int):fEq (.t (.lst (l.map T.int))) (.ol []) R=R (.t (.bl (decide (l=[])))):=eq_lists (m:=[]) R eqT_int (fun _=>by show 0<=2;decide) rfl rfl
theorem ne_in_t0 (R:S->Prop) (l:List Int):fNe (.t (.lst (l.map T.int))) (.ol []) R=R (.t (.bl (!decide (l=[])))):=ne_lists (m:=[]) R eqT_int (fun _=>by show 0<=2;decide) rfl rfl
theorem eq_in_v0 (R:S->Prop) (l:List Int):fEq (.vt (.lst (l.map T.int))) (.ol []) R=R (.t (.bl (decide (l=[])))):=eq_lists (m:=[]) R eqT_int (fun _=>by show 0<=2;decide) rfl rfl
theorem ne_in_v0 (R:S->Prop) (l:List Int):fNe (.vt (.lst (l.map T.int))) (.ol []) R=R (.t (.bl (!decide (l=[])))):=ne_lists (m:=[]) R eqT_int (fun _=>by show 0<=2;decide) rfl rfl
theorem eq_in_o0 (R:S->Prop) (l:List Int):fEq (.ol (l.map T.int)) (.ol []) R=R (.t (.bl (decide (l=[])))):=eq_lists (m:=[]) R eqT_int (fun _=>by show 0<=2;decide) rfl rfl
theorem ne_in_o0 (R:S->Prop) (l:List Int):fNe (.ol (l.map T.int)) (.ol []) R=R (.t (.bl (!decide (l=[])))):=ne_lists (m:=[]) R eqT_int (fun _=>by show 0<=2;decide) rfl rfl
end DL
namespace DL
open PySem L2
section
variable {X:Cx}
variable {o e:Expr} {wo we:WE} {apos cpos:Pos}
section
variable (δ:DSt) (R:S->Prop) (we wo:WE)
end
end
theorem comp_filter {α:Type} {f h:α->T} {p:α->Bool} {g:WG} {tc:WT} {te:WE} {l:List α} {δ0:DSt} {R:List T->Prop} (P:DSt->Prop) (hp:∀ a∈l,pur (h a)=true) (hl:l.length < 100000) (h0:P δ0)
  (step:∀ a∈l,∀ δ,P δ->∀ (Y:DSt->S->Prop) (N:DSt->Prop),(∀ δ1,P δ1->p a=true->Y δ1 (.t (h a)))->(∀ δ1,P δ1->p a=false->N δ1)->g (f a) δ fun δ1=>tc δ1 fun ok=>if ok=true then te δ1 (fun s=>Y δ1 s) else N δ1)
  (fin:R ((l.filter p).map h)):compI g tc te (l.map f) δ0 R:=by
 refine ⟨fun ts δ acc=>∃ pre post,l=pre++post/\ts=post.map f/\P δ/\acc=(pre.filter p).map h,⟨[],l,rfl,rfl,h0,rfl⟩,?_,?_⟩
 ·rintro δ acc ⟨pre,post,e,e2,_,rfl⟩
  have:post=[]:=by simpa using e2.symm
  subst this
  rw [List.append_nil] at e
  subst e
  exact fin
 ·rintro x r δ acc ⟨pre,post,e,e2,hP,rfl⟩
  cases post with
  | nil=>cases e2
  | cons a post=>
   rw [List.map_cons] at e2
   cases e2
   have ha:a∈l:=by rw [e];simp
   have hlen:((pre.filter p).map h).length < 100000:=by
    rw [List.length_map]
    have h1:=List.length_filter_le p pre
    have h2:l.length=pre.length + (post.length + 1):=by rw [e];simp
    omega
   refine step a ha δ hP _ _ (fun δ1 h1 pa=>⟨hp a ha,hlen,pre++[a],post,by rw [e];simp,rfl,h1,?_⟩) (fun δ1 h1 pa=>⟨pre++[a],post,by rw [e];simp,rfl,h1,?_⟩)
   ·rw [List.filter_append,List.map_append];simp [List.filter,pa]
   ·rw [List.filter_append,List.map_append];simp [List.filter,pa]
theorem comp_map {α:Type} {f h:α->T} {g:WG} {te:WE} {l:List α} {δ0:DSt} {R:List T->Prop} (P:DSt->Prop) (hp:∀ a∈l,pur (h a)=true) (hl:l.length < 100000) (h0:P δ0)
  (step:∀ a∈l,∀ δ,P δ->∀ (Y:DSt->S->Prop),(∀ δ1,P δ1->Y δ1 (.t (h a)))->g (f a) δ fun δ1=>te δ1 (fun s=>Y δ1 s))
  (fin:R (l.map h)):compI g wYes te (l.map f) δ0 R:=by
 refine comp_filter (p:=fun _=>true) P hp hl h0 (fun a ha δ hP Y N h1 h2=>?_) (by rw [List.filter_eq_self.mpr (fun _ _=>rfl)];exact fin)
 show g (f a) δ fun δ1=>if true=true then te δ1 (fun s=>Y δ1 s) else N δ1
 simp only [if_true]
 exact step a ha δ hP Y fun δ1 q=>h1 δ1 q rfl
theorem len_rngT (lo:Int) (n:Nat):(rngT lo n).length=n:=by unfold rngT;simp
end DL
namespace PyProof.Rows
open PySem
section
variable {prog:Program} {w:World} {A:Around} {E:Value->Shared->Prop} {s:Shared}
end
end PyProof.Rows
namespace L2
open PySem PyProof.Rows
section
variable {X:Cx} {pos:Pos}
end
end L2
namespace DL
open PySem L2
end DL
namespace DL
open PySem L2 PySem.W
abbrev WX:=(Str->DSt->Prop)->WS
def ErrAt (K:Frag) (x:Str) (C:Addr):Prop:=nsIn K mainGlobals x=some (some (.ref C))
def XOk (K:Frag) (F:Hp) (EX:Str->DSt->Prop) (Ex:Addr->St->Hp->Prop):Prop:=∀ x C δ' F' σ' H',Same F F'->Rel K F' H' σ' δ'->ErrAt K x C->EX x δ'->Ex C σ' H'
theorem XOk.mono {K:Frag} {F F1:Hp} {EX:Str->DSt->Prop} {Ex:Addr->St->Hp->Prop} (h:XOk K F EX Ex) (s:Same F F1):XOk K F1 EX Ex:=fun x C δ' F' σ' H' q=>h x C δ' F' σ' H' (s.trans q)
abbrev XSpec:=List S->Str->Prop
def toSpX (K:Frag) (spx:XSpec):Sp:=fun vs H _ E=>∃ ss x,(∀ s∈ss,argOk s)/\RepVs K H H ss vs/\spx ss x/\∀ C H',Same H H'->ErrAt K x C->E (.ref C) none H'
structure CalleeX (P:Program) (w:World) (K:Frag) (mg:Str->Option Value) (base:Heap) (k:Nat) (x:Str) (spx:XSpec):Prop where
 ex:∃ (f:Addr) (fd:FuncData) (ps:List Str),mg x=some (.ref f)/\FnOk P w K mg base (CX1 P w) k f fd ps (toSpX K spx)/\Binds K fd ps []/\keepIn K (.ref f)=true
structure XCls (K:Frag) (mg:Str->Option Value) (x:Str):Prop where
 ex:∃ C,ErrAt K x C/\OwnX K mg x C
structure XSub (K:Frag) (mg:Str->Option Value) (x y:Str):Prop where
 ex:∃ C S,ErrAt K x C/\mg y=some (.ref S)/\mroIn K C (.ref S)=some true
structure XIsa (K:Frag) (mg:Str->Option Value) (x y:Str) (b:Bool):Prop where
 ex:∃ C S,ErrAt K x C/\mg y=some (.ref S)/\ExcCls K C/\kitOne K (.ref C) (.ref S)=some b
structure XVal (K:Frag) (x:Str):Prop where
 ex:∃ C,ErrAt K x C/\ExcCls K C/\kitOne K (.ref C) (.type "ValueError")=some true
theorem RepEs.len {K:Frag} {H F' H':Hp}:∀ {ss:List S} {vs:List V},RepEs K H F' H' ss vs->vs.length=ss.length
 | [],_,h=>by cases (show _=[] from h);rfl
 | _::_,_,⟨v,r,h1,_,h3⟩=>by subst h1;rw [List.length_cons,List.length_cons,RepEs.len h3]
section
variable {X:Cx} {H₀:Hp} {Ex:Addr->St->Hp->Prop} {st:Stmt} {rest:List Stmt} {w a b:WX} {pos:Pos}
section
variable {k:Nat} {f:Str} {spx:XSpec} {p:Pos} {e:Expr} {es:List Expr} {wa:WA} (C:CalleeX X.prog X.w X.K X.mg X.base k f spx) (hr:Room k X.A) (hx:Passes1 X Ex) (ha:PA X (e::es) (liftA X.K wa))
include C hr hx ha
end
end
section
variable {P:Program} {wd:World} {K:Frag} {mg:Str->Option Value} {base:Heap}
end
def isaB (x y:Str):Bool:=x == y || y == "SpotError"
section
variable {X:Cx}
structure XAt (mg:Str->Option Value) (y:Str):Prop where
 ex:∃ S,mg y=some (.ref S)
inductive Refs (mg:Str->Option Value):List Str->List Addr->Prop
 | nil:Refs mg [] []
 | cons {y:Str} {S:Addr} {ys:List Str} {Ss:List Addr} (h:mg y=some (.ref S)) (r:Refs mg ys Ss):Refs mg (y::ys) (S::Ss)
variable {e:Expr} {we:WE} {pos p p2:Pos}
end
structure XEnv (K:Frag) (mg:Str->Option Value) (rs ys:List Str):Prop where
 cls:∀ y∈ys,XCls K mg y
 sub:∀ x∈rs,XSub K mg x "SpotError"
 isa:∀ x∈rs,∀ y∈ys,XIsa K mg x y (isaB x y)
 val:∀ x∈rs,XVal K x
theorem XEnv.at {K:Frag} {mg:Str->Option Value} {rs ys:List Str} (e:XEnv K mg rs ys) {y:Str} (h:y∈ys):XAt mg y:=by
 obtain ⟨C,_,o⟩:=(e.cls y h).ex
 exact ⟨C,o.bound⟩
end DL
namespace L2
open PySem PyProof.Rows
section
variable {X:Cx}
end
end L2
namespace DL
open PySem L2
section
variable {X:Cx} {e:Expr} {wa:WA} {pos p:Pos}
end
section
variable {X:Cx} {e:Expr} {wa:WA} {pos p:Pos}
end
end DL
namespace L2
open PySem PySem.Spec PyProof.Rows
section
variable {X:Cx} {pins:List (Addr × Obj)} {σ:St} {H:Hp} {s:Shared}
end
structure Apart5 (z TI TO i1 i2:Addr):Prop where
 TIz:TI ≠ z
 TOz:TO ≠ z
 i1z:i1 ≠ z
 i2z:i2 ≠ z
 TITO:TI ≠ TO
 TIi1:TI ≠ i1
 TIi2:TI ≠ i2
 TOi1:TO ≠ i1
 TOi2:TO ≠ i2
 i12:i1 ≠ i2
section
variable {X:Cx} {elts:List Expr} {x1:Nat} {tp:Pos}
end
end L2
namespace DL
open PySem L2
section
variable {X:Cx} {e e2:Expr} {we:WE} {wa:WA} {p pos tp:Pos} {elts:List Expr} {x1:Nat}
end
section
variable {X:Cx} {e:Expr} {wa:WA} {pos p:Pos}
end
section
variable {X:Cx} {e:Expr} {we:WE} {lo hi:Option Expr} {wl wh:DSt->(Option Int->Prop)->Prop} {pos p2:Pos}
end
end DL
set_option maxHeartbeats 4000000
namespace DL
open PySem PySem.Spec L2 PyProof.Rows
def plainHd:Expr->Bool
 | .Starred ..=>false
 | _=>true
theorem star_plain {e:Expr} {es:List Expr} {env:Env} (h:plainHd e=true):starEach (e::es) env=(false,eval e env)::starEach es env:=by
 cases e <;> first | rfl | cases h
theorem lri_no_len:typeLookup (.type "list_reverseiterator") "__len__"=pure none:=by rw [typeLookup_type,builtinLookup_eq_fast];kernel_rfl
theorem slot_lri_hint:Slot "list_reverseiterator" "__length_hint__" "list_reverseiterator.__length_hint__":=
 .of (owner:="list_reverseiterator") (n:="__length_hint__") (by rw [typeLookup_type,builtinLookup_eq_fast];kernel_rfl) (by decide +kernel) (by decide +kernel) (by decide +kernel)
  (by first | exact .inl (by decide +kernel) | exact .inr (by decide +kernel)) (by rw [isSubtype_type];kernel_rfl)
section
variable {prog:Program} {w:World} {A:Around} {E:Value->Shared->Prop} {s:Shared}
theorem wpAny_hint_rev {it l:Addr} {i:Int} {Q:Bool->Shared->Prop} (hit:s.heap.IsRevIter it l i) (h:Q false s):wpAny (model prog w) A (Builtin.List.listLengthHint (.ref it)) Q E s:=by
 unfold Builtin.List.listLengthHint
 refine wpAny_bind (wpAny_specialOf hit.typeIs lri_no_len ?_)
 show wpAny _ A (specialOf (Value.ref it) (Str.ofString "__length_hint__") >>= _) _ _ _
 refine wpAny_bind (wpAny_specialOf hit.typeIs slot_lri_hint.lookup ?_)
 generalize hid:("list_reverseiterator.__length_hint__":String)=id0
 wp_delta
 rw [show splitId id0=some ("list_reverseiterator","__length_hint__") from by subst hid;decide +kernel]
 subst hid
 refine wpAny_bind (wpAny_isInstance (T:="list_reverseiterator") (b:=true) hit.typeIs (by rw [isSubtype_type];kernel_rfl) ?_)
 refine wpAny_ite_split (fun hab=>absurd hab (by decide)) (fun _=>?_)
 refine wpAny_ite_split (fun _=>?_) (fun hab=>absurd (by decide +kernel) hab)
 refine wpAny_ite_split (fun hab=>absurd hab (by decide +kernel)) (fun _=>?_)
 exact wpAny_pure h
theorem wpAny_extend_rev {R:Result->Shared->Prop} {I l:Addr} {items:Array Value} (hh:A.handled=none) (hit:s.heap.IsRevIter I l ((items.size:Int) - 1)) (hl:s.heap.IsList l items) (hz:items.size<=sizeLine) (S:Addr) (res:Value) (c₀:Nat) (hS:s.heap.get? S=some { cls:=.type "list",data:=.seq #[] c₀ }) (hlI:l ≠ I) (hSI:S ≠ I) (hSl:S ≠ l)
  (hR:∀ h' tk acc' c',(∀ b o,b ≠ S->b ≠ I->s.heap.get? b=some o->h'.get? b=some o)->h'.get? S=some { cls:=.type "list",dict:=none,data:=.seq acc' c',slots:=#[] } →
   ItemsOf (fun i v=>items[items.size - 1 - i]?=some v) acc' items.size->R (.ok (.ret res)) { s with heap:=h',toks:=tk }) :
  wpAny (model prog w) A.in1 (Builtin.List.listExtendWith (.ref S) (.ref I) res)
   (fun fin s'=>match fin with | .done f=>R (.ok f) s' | .again c'=>c'.quiet=true/\codeAny (model prog w) A c' R s') (fun e s'=>R (.error e) s') s:=by
 have W:=(Walks.listRev (prog:=prog) (w:=w) (A:=A.in1) hh I l hlI items).toS
 have hSf:S ∉ [I,l]:=fun hm=>by
  rcases List.mem_cons.mp hm with e | e
  ·exact hSI e
  ·exact hSl (List.mem_singleton.mp e)
 unfold Builtin.List.listExtendWith
 refine wpAny_bind (wpAny_typeOf hit.typeIs ?_)
 have h1:Builtin.List.listSameRef (.ref S) (.ref I)=false:=by simp [Builtin.List.listSameRef,hSI]
 have h2:(Value.type "list_reverseiterator" == Value.type "list")=false:=by decide
 have h3:(Value.type "list_reverseiterator" == Value.type "tuple")=false:=by decide
 simp only [h1,h2,h3,Bool.or_false,Bool.false_eq_true,if_false]
 refine wpAny_bind (wpAny_pyIter_revIter hit ?_)
 refine wpAny_bind (wpAny_holding (wpAny_hint_rev hit ?_))
 refine wpAny_ite_split (fun hab=>absurd hab (by decide)) (fun _=>wpAny_pure ⟨plainId_quiet F.plain_extend_loop _,?_⟩)
 have e0:(items.size:Int) - 1 - ((0:Nat):Int)=(items.size:Int) - 1:=by omega
 refine codeAny_extend_loopS W hz S hSf res items.size 0 s #[] c₀ rfl (Nat.zero_le _) ⟨Nat.zero_le _,by rw [e0];exact hit,hl⟩ hS (ItemsOf.nil _) fun s' acc' c' hm hS' hacc=>?_
 rw [Moved.eq_with hm]
 refine hR s'.heap s'.toks acc' c' (fun b o hb hb2 e=>hm.heap b o (fun hmem=>?_) e) hS' hacc
 rcases List.mem_cons.mp hmem with e' | hmem
 ·exact hb e'
 ·exact hb2 (List.mem_singleton.mp hmem)
theorem wpAny_list_init_rev {R:Result->Shared->Prop} {I l:Addr} {items:Array Value} (hh:A.handled=none) (hit:s.heap.IsRevIter I l ((items.size:Int) - 1)) (hl:s.heap.IsList l items) (hz:items.size<=sizeLine) (S:Addr) (hS:s.heap.get? S=some { cls:=.type "list",data:=.seq #[] }) (hlI:l ≠ I) (hSI:S ≠ I) (hSl:S ≠ l)
  (hR:∀ h' tk acc' c',(∀ b o,b ≠ S->b ≠ I->s.heap.get? b=some o->h'.get? b=some o)->h'.get? S=some { cls:=.type "list",dict:=none,data:=.seq acc' c',slots:=#[] } →
   ItemsOf (fun i v=>items[items.size - 1 - i]?=some v) acc' items.size->R (.ok (.ret .none)) { s with heap:=h',toks:=tk }) :
  wpAny (model prog w) A.in1 (Builtin.«list.__init__» ⟨[.ref S,.ref I],[]⟩)
   (fun fin s'=>match fin with | .done f=>R (.ok f) s' | .again c'=>c'.quiet=true/\codeAny (model prog w) A c' R s') (fun e s'=>R (.error e) s') s:=by
 show wpAny _ _ (do let old ← Builtin.List.listItems (.ref S);Builtin.List.listUpdate (.ref S) (fun _=>#[]);letGo old.toList.reverse;Builtin.List.listExtendWith (.ref S) (.ref I) .none) _ _ s
 refine wpAny_bind ?_
 unfold Builtin.List.listItems
 refine wpAny_bind (wpAny_seqItems hS rfl (wpAny_pure ?_))
 show wpAny _ _ (updateSeq S (fun _=>#[]) >>= fun _=>letGo (#[]:Array Value).toList.reverse >>= fun _=>Builtin.List.listExtendWith (.ref S) (.ref I) .none) _ _ s
 refine wpAny_bind (wpAny_updateSeq hS rfl ?_)
 have hS₂:=Heap.get?_update_self (Obj.mapSeq (fun _=>(#[]:Array Value))) hS rfl
 have oth:∀ b o,b ≠ S->s.heap.get? b=some o->(s.heap.update S (Obj.mapSeq (fun _=>(#[]:Array Value)))).get? b=some o:=
  fun b o hb e=>(Heap.get?_update_other _ _ (Ne.symm hb)).trans e
 refine wpAny_bind (wpAny_letGo ?_)
 refine wpAny_extend_rev hh (hit.at fun o e=>oth I o (Ne.symm hSI) e) (hl.at fun o e=>oth l o (Ne.symm hSl) e) hz S .none _ hS₂ hlI hSI hSl fun h' tk acc' c' hk hS' hacc=>?_
 exact hR h' tk acc' c' (fun b o hb hb2 e=>hk b o hb hb2 (oth b o hb e)) hS' hacc
theorem call_list_rev {Q:Value->Shared->Prop} {I l:Addr} {items:Array Value} (hh:A.handled=none) (hit:s.heap.IsRevIter I l ((items.size:Int) - 1)) (hl:s.heap.IsList l items) (hz:items.size<=sizeLine) (hlI:l ≠ I)
  (hQ:∀ h' tk acc' c',(∀ b o,b ≠ I->s.heap.get? b=some o->h'.get? b=some o) →
   h'.get? s.heap.objs.size=some { cls:=.type "list",dict:=none,data:=.seq acc' c',slots:=#[] }->ItemsOf (fun i v=>items[items.size - 1 - i]?=some v) acc' items.size->Q (.ref s.heap.objs.size) { s with heap:=h',toks:=tk }) :
  wpAny (model prog w) A (call (.type "list") [.ref I]) Q E s:=by
 obtain ⟨oI,hoI,_⟩:=id hit
 obtain ⟨ol,hol,_⟩:=id hl
 refine callType_codes (Q₁:=fun obj s₁=>obj=.ref s.heap.objs.size/\s₁={ s with heap:=s.heap.push { cls:=.type "list",data:=.seq #[] } }) F.called_list (F.typeCall_list_1 _) F.entry_list_init
  (code_list_new _ ⟨rfl,rfl⟩) fun obj s₁ h₁=>?_
 obtain ⟨rfl,rfl⟩:=h₁
 have hS:(s.heap.push { cls:=.type "list",data:=.seq #[] }).get? s.heap.objs.size=some { cls:=.type "list",data:=.seq #[] }:=Heap.get?_push_size _ rfl
 refine ⟨⟨_,hS,rfl⟩,F.args_list_init_2 _ _,wpAny_list_init_rev (A:=A.in1) hh (hit.at fun o e=>Heap.get?_push_of_some _ e) (hl.at fun o e=>Heap.get?_push_of_some _ e) hz _ hS hlI (fun e=>Nat.ne_of_lt (Heap.lt_size hoI) e.symm) (fun e=>Nat.ne_of_lt (Heap.lt_size hol) e.symm) fun h' tk acc' c' hk hS' hacc=>?_⟩
 exact ⟨rfl,hQ h' tk acc' c' (fun b o hb e=>hk b o (Nat.ne_of_lt (Heap.lt_size e)) hb (Heap.get?_push_of_some _ e)) hS' hacc⟩
theorem items_rev {its:List Value} {acc:Array Value} (h:ItemsOf (fun i v=>its.toArray[its.toArray.size - 1 - i]?=some v) acc its.toArray.size):acc=its.reverse.toArray:=by
 obtain ⟨h1,h2⟩:=h
 have e:acc.toList=its.reverse:=by
  apply List.ext_getElem?
  intro i
  by_cases hi:i < acc.size
  ·have h3:=h2 i acc[i] (Array.getElem?_eq_getElem hi)
   have hi':i < its.length:=by simpa [h1] using hi
   rw [Array.getElem?_toList,Array.getElem?_eq_getElem hi,List.getElem?_reverse hi']
   simpa using h3.symm
  ·rw [List.getElem?_eq_none (by simpa using Nat.le_of_not_lt hi),List.getElem?_eq_none (by simp [h1] at hi;simpa using hi)]
 rw [<-e]
theorem vals_rev:∀ {xs:List V} {us:List Value},Vals xs us->Vals xs.reverse us.reverse
 | [],_,.nil=>.nil
 | x::xs,u::us,.cons r t=>by
  rw [List.reverse_cons,List.reverse_cons]
  exact (vals_rev t).append (.cons r .nil)
end
def tListRev (K:PySem.W.Frag) (te:TE):TE:=fun σ H Q=>te σ H fun x H1=>∃ p ys,x=.ref p/\SqL K H1 p ys/\∀ l,H1 l=none->Q (.ref l) (upd H1 l (.lst ys.reverse))
section
variable {X:Cx} {e:Expr} {te:TE} {p1 p2 pos1 pos2:Pos}
theorem pe_listRev (hm1:X.mg "list"=none) (hm2:X.mg "reversed"=none) (hd:X.A.handled=none) (he:PE X e te) (hg1:Gl X "list":=by rfl) (hg2:Gl X "reversed":=by rfl)
  (hs2:starEach [e] X.env=(false,eval e X.env)::starEach [] X.env:=by exact star_plain rfl) (hs1:starEach [.Call (.Name "reversed" p2) [e] [] pos2] X.env=(false,eval (.Call (.Name "reversed" p2) [e] [] pos2) X.env)::starEach [] X.env:=by rfl) :
  PE X (.Call (.Name "list" p1) [.Call (.Name "reversed" p2) [e] [] pos2] [] pos1) (tListRev X.K te):=by
 intro pins s σ H Q I h
 refine wpAny_Call_Name_kw (ld_blt I hg1 hm1 PyProof.Rows.boot_list ?_)
 refine PyProof.Rows.callWith_type1 ?_ hs1
 rw [hs1]
 show wpAny _ _ (spliced ((false,eval (.Call (.Name "reversed" p2) [e] [] pos2) X.env)::backTo pos1 (starEach [] X.env))) _ _ s
 refine Calls.spliced_cons ?_
 refine wpAny_Call_Name_kw (ld_blt I hg2 hm2 PyProof.Rows.boot_reversed ?_)
 refine PyProof.Rows.callWith_type1 ?_ hs2
 rw [hs2]
 show wpAny _ _ (spliced ((false,eval e X.env)::backTo pos2 (starEach [] X.env))) _ _ s
 refine Calls.spliced_cons (thn (he pins s σ H _ I h) fun u s1 ⟨x,H1,I1,r1,q1⟩=>?_)
 obtain ⟨p,ys,rfl,hq,fin⟩:=q1
 cases r1
 refine Calls.spliced_nil ?_
 obtain ⟨its,r,pl,hz⟩:=I1.list hq
 have hl:=pl.isList
 obtain ⟨ol,hol,_⟩:=id hl
 refine call_reversed_list hl ?_
 have hit:((s1.heap.push (revObj p ((its.toArray.size:Int) - 1))).IsRevIter s1.heap.objs.size p ((its.toArray.size:Int) - 1)):=⟨_,Heap.get?_push_size _ rfl,rfl,rfl⟩
 refine Calls.spliced_nil ?_
 have hlen:=r.length
 refine call_list_rev hd hit (hl.at fun o e=>Heap.get?_push_of_some _ e) (by rw [List.size_toArray];omega) (Nat.ne_of_lt (Heap.lt_size hol)) fun h' tk acc' c' hk hS' hacc=>?_
 have hacc':=items_rev hacc
 subst hacc'
 have keep:∀ b o,s1.heap.get? b=some o->h'.get? b=some o:=fun b o e=>hk b o (Nat.ne_of_lt (Heap.lt_size e)) (Heap.get?_push_of_some _ e)
 have hsz:(s1.heap.push (revObj p ((its.toArray.size:Int) - 1))).objs.size=s1.heap.objs.size + 1:=size_push' ..
 rw [hsz] at hS' ⊢
 have le:s1.heap.objs.size<=s1.heap.objs.size + 1:=Nat.le_succ _
 exact ⟨.ref (s1.heap.objs.size + 1),_,I1.laid (t':=tk) keep le (show ObjOk X.prog X.w _ h' _ (.lst ys.reverse) from ⟨by rw [List.length_reverse];exact hz,its.reverse,c',vals_rev r,hS'⟩),rfl,fin _ (I1.hok.fresh le)⟩
def revK (R:S->Prop) (s:S):Prop:=match items s with
 | some ts=>purs ts=true/\R (.ol ts.reverse)
 | none=>False
def wListRev (we:WE):WE:=fun δ R=>we δ (revK R)
theorem de_listRev {we:WE} (hm1:X.mg "list"=none) (hm2:X.mg "reversed"=none) (hd:X.A.handled=none) (he:PE X e (liftE X.K we)) (hg1:Gl X "list":=by rfl) (hg2:Gl X "reversed":=by rfl)
  (hs2:starEach [e] X.env=(false,eval e X.env)::starEach [] X.env:=by exact star_plain rfl) (hs1:starEach [.Call (.Name "reversed" p2) [e] [] pos2] X.env=(false,eval (.Call (.Name "reversed" p2) [e] [] pos2) X.env)::starEach [] X.env:=by rfl) :
  PE X (.Call (.Name "list" p1) [.Call (.Name "reversed" p2) [e] [] pos2] [] pos1) (liftE X.K (wListRev we)):=
 (pe_listRev hm1 hm2 hd he hg1 hg2 hs2 hs1).imp fun σ H Q ⟨δ,R,F,rl,h,k⟩=>⟨δ,_,F,rl,h,fun v F1 H1 s ex p q=>by
  unfold revK at q
  split at q
  ·rename_i ts hi
   obtain ⟨a,xs,rfl,sq,tp⟩:=(p.val ex.sub).list ex.sub hi
   refine ⟨a,xs,rfl,sq,fun l hl=>?_⟩
   have e2:=Ext.newL xs.reverse ex.sub ex.full hl
   exact k _ F1 _ (.ol ts.reverse) (ex.trans e2) ⟨l,xs.reverse,rfl,none_of_same ex.hh hl,none_of_same ex.sub hl,upd_same,(TReps.full ex.full q.1 tp).reverse⟩ q.2
  ·exact q.elim⟩
end
theorem a_listRev (we:WE) (δ:DSt) (R:S->Prop):wListRev we δ R=we δ (revK R):=rfl
theorem revK_F (R:S->Prop) (ts:List T):revK R (.t (.lst ts))=(purs ts=true/\R (.ol ts.reverse)):=rfl
theorem revK_V (R:S->Prop) (ts:List T):revK R (.vt (.lst ts))=(purs ts=true/\R (.ol ts.reverse)):=rfl
theorem revK_O (R:S->Prop) (ts:List T):revK R (.ol ts)=(purs ts=true/\R (.ol ts.reverse)):=rfl
def refs (km:List (Addr × List Int)):List V:=km.map fun m=>V.ref m.1
def tSortSet (K:PySem.W.Frag) (te:TE):TE:=fun σ H Q=>te σ H fun x H1=>∃ p d,∃ km:List (Addr × List Int),x=.ref p/\SqL K H1 p (refs km)/\km.length<=63/\0 < d ∧
 (∀ m∈km,SqT K H1 m.1 (m.2.map V.int)/\m.2.length=d) ∧
 ∀ ns:List (Addr × List Int),(∀ m∈ns,m∈km)->(∀ m∈km,m.2∈ns.map (·.2))->ns.Pairwise (fun a b=>ST.lexB a.2 b.2=true)->∀ l,H1 l=none->Q (.ref l) (upd H1 l (.lst (refs ns)))
theorem refs_vals:∀ {km:List (Addr × List Int)} {us:List Value},Vals (refs km) us->us=km.map fun m=>Value.ref m.1
 | [],_,.nil=>rfl
 | m::km,_,.cons r t=>by cases r;rw [refs_vals t];rfl
theorem km_vals:∀ km:List (Addr × List Int),Vals (refs km) (km.map fun m=>Value.ref m.1)
 | []=>.nil
 | m::km=>.cons rfl (km_vals km)
section
variable {X:Cx} {e:Expr} {te:TE} {p1 p2 pos1 pos2:Pos}
theorem items_ints {prog:Program} {w:World}:∀ {ks:List Int} {us:List Value},Vals (ks.map V.int) us->ItemsAre (intKind prog w) ks us
 | [],_,.nil=>.nil
 | k::ks,_,.cons r t=>by obtain ⟨tk,rfl⟩:=r;exact .cons (intKind_is _ _ _ _) (items_ints t)
theorem tup_key {pins:List (Addr × Obj)} {σ:L2.St} {H:Hp} {s:Shared} (I:Inv X pins σ H s) {a:Addr} {ks:List Int} (h:SqT X.K H a (ks.map V.int)):IsTupleKey (ST.ik X.prog X.w) s.heap ks a:=by
 obtain ⟨its,r,⟨o,ho,hc,n,hd⟩,_⟩:=I.tuple h
 exact ⟨o,its.toArray,n,ho,hc,hd,by simpa using items_ints r⟩
theorem pe_sortSet {k:Nat} (hr:Room k X.A) (hm1:X.mg "sorted"=none) (hm2:X.mg "set"=none) (hd:X.A.handled=none) (he:PE X e te) (hg1:Gl X "sorted":=by rfl) (hg2:Gl X "set":=by rfl)
  (hs2:starEach [e] X.env=(false,eval e X.env)::starEach [] X.env:=by exact star_plain rfl) (hs1:starEach [.Call (.Name "set" p2) [e] [] pos2] X.env=(false,eval (.Call (.Name "set" p2) [e] [] pos2) X.env)::starEach [] X.env:=by rfl) :
  PE X (.Call (.Name "sorted" p1) [.Call (.Name "set" p2) [e] [] pos2] [] pos1) (tSortSet X.K te):=by
 intro pins s σ H Q I h
 refine wpAny_Call_Name_kw (ld_blt I hg1 hm1 PyProof.Rows.boot_sorted ?_)
 refine PyProof.Rows.callWith_builtin1 ?_ hs1
 rw [hs1]
 show wpAny _ _ (spliced ((false,eval (.Call (.Name "set" p2) [e] [] pos2) X.env)::backTo pos1 (starEach [] X.env))) _ _ s
 refine Calls.spliced_cons ?_
 refine wpAny_Call_Name_kw (ld_blt I hg2 hm2 PyProof.Rows.boot_set ?_)
 refine PyProof.Rows.callWith_type1 ?_ hs2
 rw [hs2]
 show wpAny _ _ (spliced ((false,eval e X.env)::backTo pos2 (starEach [] X.env))) _ _ s
 refine Calls.spliced_cons (thn (he pins s σ H _ I h) fun u s1 ⟨x,H1,I1,r1,q1⟩=>?_)
 obtain ⟨p,d,km,rfl,hq,hlen,hd0,hkm,fin⟩:=q1
 cases r1
 refine Calls.spliced_nil ?_
 obtain ⟨its,r,pl,hz⟩:=I1.list hq
 have eits:=refs_vals r
 subst eits
 have hsz:((km.map fun m=>Value.ref m.1).toArray).size=km.length:=by simp
 refine ST.call_set_tup (km:=fun i=>km.getD i (0,[])) hd (by have:=hr.units;omega) pl.isList (fun i v hv=>?_) (fun i hi=>?_) (by rw [hsz];omega) fun h2 tk2 hS k2=>?_
 ·rw [List.getElem?_toArray,List.getElem?_map] at hv
  cases hk:km[i]? with
  | none=>rw [hk] at hv;simp at hv
  | some m=>
   rw [hk] at hv
   simp only [List.getD_eq_getElem?_getD,hk,Option.getD_some]
   simpa using hv.symm
 ·rw [hsz] at hi
  have e1:km.getD i (0,[])=km[i]:=by simp [hi]
  rw [e1]
  exact tup_key I1 (hkm _ (List.getElem_mem hi)).1
 refine Calls.spliced_nil ?_
 rw [hsz] at hS
 have hmet:∀ m∈ST.met (fun i=>km.getD i (0,[])) km.length,m∈km:=fun m hm=>by
  obtain ⟨i,hi,rfl⟩:=ST.met_of _ _ m hm
  have e1:km.getD i (0,[])=km[i]:=by simp [hi]
  rw [e1];exact List.getElem_mem hi
 refine ST.call_sorted_set (s:={ s1 with heap:=h2,toks:=tk2 }) hd hS (Nat.lt_of_le_of_lt (ST.met_len _ _) (by omega)) hd0 (fun m hm=>(hkm m (hmet m hm)).2) fun h3 tk3 D c3 ns hpm hpw k3 le3 hD=>?_
 have keep:∀ b o,s1.heap.get? b=some o->h3.get? b=some o:=fun b o e=>k3 b o (k2 b o (Heap.lt_size e) e)
 have le:s1.heap.objs.size<=D:=by
  obtain ⟨o2,_,_,_,_,ho2,_⟩:=hS
  exact Nat.le_trans (Nat.le_of_lt (Heap.lt_size ho2)) le3
 have hnl:ns.length<=63:=by rw [hpm.length_eq];exact Nat.le_trans (ST.met_len _ _) hlen
 refine ⟨.ref D,_,I1.laid (t':=tk3) keep le (show ObjOk X.prog X.w _ h3 _ (.lst (refs ns)) from ⟨?_,_,c3,km_vals ns,hD⟩),rfl,fin ns (fun m hm=>hmet m (hpm.mem_iff.mp hm)) (fun m hm=>?_) hpw _ (I1.hok.fresh le)⟩
 ·unfold refs;rw [List.length_map];exact Nat.le_trans hnl (by decide)
 ·obtain ⟨i,hi,rfl⟩:=List.getElem_of_mem hm
  have h1:=ST.met_has (fun i=>km.getD i (0,[])) km.length i hi
  have e1:km.getD i (0,[])=km[i]:=by simp [hi]
  rw [e1] at h1
  exact (hpm.map (·.2)).mem_iff.mpr h1
end
def tupI (ks:List Int):T:=.tup (ks.map T.int)
def ssK (R:S->Prop) (s:S):Prop:=match items s with
 | some ts=>∃ (d:Nat) (kss:List (List Int)),0 < d/\ts=kss.map tupI/\(∀ ks∈kss,ks.length=d)/\kss.length<=63 ∧
   ∀ ns:List (List Int),(∀ k∈ns,k∈kss)->(∀ k∈kss,k∈ns)->ns.Pairwise (fun a b=>ST.lexB a b=true)->R (.ol (ns.map tupI))
 | none=>False
def wSortSet (we:WE):WE:=fun δ R=>we δ (ssK R)
theorem purs_ints:∀ ks:List Int,purs (ks.map T.int)=true
 | []=>rfl
 | k::ks=>by simp only [List.map_cons,purs,pur,Bool.true_and];exact purs_ints ks
theorem purs_tups:∀ kss:List (List Int),purs (kss.map tupI)=true
 | []=>rfl
 | k::kss=>by
  simp only [List.map_cons,purs,Bool.and_eq_true]
  exact ⟨by unfold tupI;simp only [pur];exact purs_ints k,purs_tups kss⟩
theorem treps_intsV {K:PySem.W.Frag} {H:Hp}:∀ {ks:List Int} {xs:List V},TReps K H (ks.map T.int) xs->xs=ks.map V.int
 | [],_,h=>h
 | k::ks,_,⟨x,r,e,p,q⟩=>by subst e;cases p;rw [treps_intsV q];rfl
theorem treps_km {K:PySem.W.Frag} {H:Hp}:∀ {kss:List (List Int)} {xs:List V},TReps K H (kss.map tupI) xs →
  ∃ km:List (Addr × List Int),km.map (·.2)=kss/\xs=refs km/\∀ m∈km,SqT K H m.1 (m.2.map V.int)/\TRep K H (tupI m.2) (.ref m.1)
 | [],_,h=>⟨[],rfl,h,fun m hm=>absurd hm List.not_mem_nil⟩
 | k::kss,_,⟨x,r,e,p,q⟩=>by
  subst e
  obtain ⟨km,e1,e2,h1⟩:=treps_km q
  obtain ⟨a,ys,e3,sq,ty⟩:=id p
  subst e3
  have e4:=treps_intsV ty
  subst e4
  refine ⟨(a,k)::km,by rw [List.map_cons,e1],by rw [e2];rfl,fun m hm=>?_⟩
  rcases List.mem_cons.mp hm with rfl | hm
  ·exact ⟨sq,p⟩
  ·exact h1 m hm
theorem km_treps {K:PySem.W.Frag} {H:Hp}:∀ ns:List (Addr × List Int),(∀ m∈ns,TRep K H (tupI m.2) (.ref m.1))->TReps K H ((ns.map (·.2)).map tupI) (refs ns)
 | [],_=>rfl
 | m::ns,h=>⟨.ref m.1,refs ns,rfl,h m List.mem_cons_self,km_treps ns fun m' hm=>h m' (List.mem_cons_of_mem _ hm)⟩
section
variable {X:Cx} {e:Expr} {p1 p2 pos1 pos2:Pos}
theorem de_sortSet {k:Nat} {we:WE} (hr:Room k X.A) (hm1:X.mg "sorted"=none) (hm2:X.mg "set"=none) (hd:X.A.handled=none) (he:PE X e (liftE X.K we)) (hg1:Gl X "sorted":=by rfl) (hg2:Gl X "set":=by rfl)
  (hs2:starEach [e] X.env=(false,eval e X.env)::starEach [] X.env:=by exact star_plain rfl) (hs1:starEach [.Call (.Name "set" p2) [e] [] pos2] X.env=(false,eval (.Call (.Name "set" p2) [e] [] pos2) X.env)::starEach [] X.env:=by rfl) :
  PE X (.Call (.Name "sorted" p1) [.Call (.Name "set" p2) [e] [] pos2] [] pos1) (liftE X.K (wSortSet we)):=
 (pe_sortSet hr hm1 hm2 hd he hg1 hg2 hs2 hs1).imp fun σ H Q ⟨δ,R,F,rl,h,k⟩=>⟨δ,_,F,rl,h,fun v F1 H1 s ex p q=>by
  unfold ssK at q
  split at q
  ·rename_i ts hi
   obtain ⟨a,xs,rfl,sq,tp⟩:=(p.val ex.sub).list ex.sub hi
   obtain ⟨d,kss,hd0,rfl,hlen,h63,fin⟩:=q
   obtain ⟨km,e1,e2,h1⟩:=treps_km tp
   subst e2
   have hkm:∀ m∈km,m.2∈kss:=fun m hm=>by rw [<-e1];exact List.mem_map.mpr ⟨m,hm,rfl⟩
   refine ⟨a,d,km,rfl,sq,by rw [<-e1,List.length_map] at h63;exact h63,hd0,fun m hm=>⟨(h1 m hm).1,hlen _ (hkm m hm)⟩,fun ns n1 n2 n3 l hl=>?_⟩
   have e2:=Ext.newL (refs ns) ex.sub ex.full hl
   have hp:TReps X.K F1 ((ns.map (·.2)).map tupI) (refs ns):=TReps.full ex.full (purs_tups _) (km_treps ns fun m hm=>(h1 m (n1 m hm)).2)
   exact k _ F1 _ (.ol ((ns.map (·.2)).map tupI)) (ex.trans e2) ⟨l,refs ns,rfl,none_of_same ex.hh hl,none_of_same ex.sub hl,upd_same,hp⟩
    (fin _ (fun k hk=>by obtain ⟨m,hm,rfl⟩:=List.mem_map.mp hk;exact hkm m (n1 m hm)) (fun k hk=>by
     rw [<-e1] at hk
     obtain ⟨m,hm,rfl⟩:=List.mem_map.mp hk
     exact n2 m hm) (List.pairwise_map.mpr n3))
  ·exact q.elim⟩
end
theorem a_sortSet (we:WE) (δ:DSt) (R:S->Prop):wSortSet we δ R=we δ (ssK R):=rfl
end DL
set_option maxHeartbeats 4000000
namespace DL
open PySem PySem.Spec L2 PyProof.Rows
section
variable {X:Cx} {e:Expr} {we:WE} {pos:Pos} {H₀:Hp} {i:Nat} {x:Str} {p1 p2:Pos}
end
end DL
namespace DL
open PySem PySem.Spec L2 PyProof.Rows
section
variable {X:Cx} {H₀:Hp} {Ex:Addr->L2.St->Hp->Prop} {st:Stmt} {a b:WX} {pos:Pos}
end
end DL
open L2 DL
local macro_rules | `(tactic| walk_at "dl")=>do { let ids:Array (Lean.TSyntax `ident):=("a_listRev revK_F revK_V revK_O a_sortSet look_0 look_s lookO_0 lookO_s a_seq a_set a_if a_ret a_retV a_retN a_next a_break a_cont a_drop a_var a_c a_op2 a_un a_I a_I0 a_neg a_ixT a_ixF a_ixV a_ixO atT_0 atT_1 atT_2 atT_3 e_setT e_setO e_setV e_seenT e_seenV e_seenO e_outT e_outV e_outO e_argT e_argV e_argO e_gotT e_gotO e_frzT e_frzO e_frz e_frzN e_frzS a_B asB_bl a_andT a_orT a_notT a_andV a_orV a_notV andK_bl orK_bl notK_bl a_ifE a_cb a_nil a_cons a_tup a_lst tup1 tup2 tup3 lst0 lst1 lst2 lst3 lst4 a_call a_lenT a_lenF a_lenV a_lenO a_abs a_max2 a_min2 a_intI a_intB a_listF a_listV a_listO eq_ii ne_ii a_is ty_non ty_bl ty_int ty_tup ty_fl ty_vw ty_ol isTy_non_non isTy_non_bool isTy_non_int isTy_non_str isTy_non_tup isTy_non_lst isTy_bool_non isTy_bool_bool isTy_bool_int isTy_bool_str isTy_bool_tup isTy_bool_lst isTy_int_non isTy_int_bool isTy_int_int isTy_int_str isTy_int_tup isTy_int_lst isTy_str_non isTy_str_bool isTy_str_int isTy_str_str isTy_str_tup isTy_str_lst isTy_tup_non isTy_tup_bool isTy_tup_int isTy_tup_str isTy_tup_tup isTy_tup_lst isTy_lst_non isTy_lst_bool isTy_lst_int isTy_lst_str isTy_lst_tup isTy_lst_lst a_for a_wiList listK_F listK_V listK_O a_wiTup tpK_T a_wiRng1 rngK_1 a_wiRng2 rngK_2 a_gName a_gTup a_gNil a_gCons a_unp unpK_t a_par parK_2 a_slice slcK_F slcK_V slcK_O a_part0 a_part prtK_i a_append appK_t a_pop List.set_cons_zero List.set_cons_succ List.map_cons List.map_nil if_true if_false true_and and_true Bool.not_true Bool.not_false Bool.not_eq_true decide_eq_true_eq decide_eq_false_iff_not Bool.not_not Bool.false_eq_true Bool.true_eq_false ite_true ite_false Int.reducePow Int.reduceToNat Int.reduceNeg Int.reduceMul Int.reduceAdd Int.reduceSub List.length_cons List.length_nil Nat.zero_add Nat.reduceAdd ite_not atV_0 atV_1 atV_2 atV_3 norm_non norm_bl norm_int norm_str norm_exc norm_lst norm_pt norm_pt3 norm_sp e_trT e_trV e_trO a_ixW a_lenW tup4 ty_str ty_tupV a_isN a_notN isN ne_ty1 ne_ty2 ne_ty3 ne_ty4 ne_ty5 ne_ty6 tpK_V unpK_v a_retZ a_cat catK_F catK_V catK_O a_comp a_yes itemK_t itemK_o pur_non pur_bl pur_int pur_str pur_tup pur_lst purs_nil purs_cons Bool.and_true Bool.true_and Bool.and_self purs_pt eq_pt_tt ne_pt_tt eq_pt_tv ne_pt_tv eq_pt_to ne_pt_to eq_pt_vt ne_pt_vt eq_pt_vv ne_pt_vv eq_pt_vo ne_pt_vo eq_pt_ot ne_pt_ot eq_pt_ov ne_pt_ov eq_pt_oo ne_pt_oo eq_pt_t0 ne_pt_t0 eq_pt_v0 ne_pt_v0 eq_pt_o0 ne_pt_o0 purs_hf eq_hf_tt ne_hf_tt eq_hf_tv ne_hf_tv eq_hf_to ne_hf_to eq_hf_vt ne_hf_vt eq_hf_vv ne_hf_vv eq_hf_vo ne_hf_vo eq_hf_ot ne_hf_ot eq_hf_ov ne_hf_ov eq_hf_oo ne_hf_oo eq_hf_t0 ne_hf_t0 eq_hf_v0 ne_hf_v0 eq_hf_o0 ne_hf_o0 purs_sp eq_sp_tt ne_sp_tt eq_sp_tv ne_sp_tv eq_sp_to ne_sp_to eq_sp_vt ne_sp_vt eq_sp_vv ne_sp_vv eq_sp_vo ne_sp_vo eq_sp_ot ne_sp_ot eq_sp_ov ne_sp_ov eq_sp_oo ne_sp_oo eq_sp_t0 ne_sp_t0 eq_sp_v0 ne_sp_v0 eq_sp_o0 ne_sp_o0 purs_in eq_in_tt ne_in_tt eq_in_tv ne_in_tv eq_in_to ne_in_to eq_in_vt ne_in_vt eq_in_vv ne_in_vv eq_in_vo ne_in_vo eq_in_ot ne_in_ot eq_in_ov ne_in_ov eq_in_oo ne_in_oo eq_in_t0 ne_in_t0 eq_in_v0 ne_in_v0 eq_in_o0 ne_in_o0 hfT ptT frT spT eq_tt ne_tt eq_hh ne_hh blkD List.replicate_succ List.replicate_zero List.cons_append List.nil_append List.getElem?_cons_succ List.getElem?_cons_zero Option.join_some Option.join_none".splitOn " ").toArray.map (fun x=>Lean.mkIdent x.toName);`(tactic| try simp (config:={implicitDefEqProofs:=false}) only [$[$ids:ident],*]) }
local macro_rules | `(tactic| walk_at "sz")=>`(tactic| first | assumption | with_reducible exact Sz.of (m:=250) (by omega) (by omega) | with_reducible exact Sz.mul (by walk_at "sz") (by walk_at "sz") | with_reducible exact Sz.add (by walk_at "sz") (by walk_at "sz") | with_reducible exact Sz.sub (by walk_at "sz") (by walk_at "sz") | with_reducible exact Sz.neg (by walk_at "sz"))
local macro_rules | `(tactic| walk_at "szk")=>`(tactic| first | assumption | exact Sz.mono (by walk_at "sz") (by decide))
local macro_rules | `(tactic| walk_at "mul")=>`(tactic| first | with_reducible exact mulL (by decide) (by decide) | with_reducible exact mulSz (by walk_at "sz") (by walk_at "sz") (by decide) (by decide) | with_reducible exact mulL (by omega) (by omega) | with_reducible exact mulR (by omega) (by omega))
local macro_rules | `(tactic| walk_at "side")=>`(tactic| first | decide | with_reducible exact powOk (by decide) (by decide) (by decide) | with_reducible exact divOk (by decide) (by decide +kernel) | walk_at "mul" | omega | assumption)
local macro_rules | `(tactic| walk_at "pre")=>`(tactic| repeat ((with_reducible apply And.intro);(case left=>walk_at "side")))
local macro_rules | `(tactic| walk_at "go")=>`(tactic| (walk_at "dl";walk_at "pre"))
namespace Law
open L2 DL
def sp_divisor:DSpec:=fun ss R=>∃ a b:Int,ss=[.t (.int a),.t (.int b)]/\R (.t (.int (Int.gcd a b)))
def sp_l_divisor:DSpec:=sp_divisor
def sp_l_cell_at:DSpec:=fun ss R=>∃ (ns:List Int) (k:Int),ss=[.t (.lst (ns.map .int)),.t (.int k)]/\0<=k/\∀ v:Int,R (.t (.int v))
def sp_l_whole:DSpec:=fun ss R=>∃ s,ss=[.t s]/\tyT s ≠ .exc/\R (.t (.bl (isTy (tyT s) .int && !isTy (tyT s) .bool)))
def sp_l_block:DSpec:=fun ss R=>∃ (ns:List Int) (k:Int),ss=[.t (.lst (ns.map .int)),.t (.int k)]/\0<=k/\∀ v:Int,R (.t (.int v))
def sp_l_mixed:DSpec:=fun ss R=>∃ (ns:List Int) (k:Int),ss=[.t (.lst (ns.map .int)),.t (.int k)]/\0<=k/\k < 1000000/\∀ v:Int,0<=v->v < 2147483587->R (.t (.int v))
theorem len_divisor:∀ ss R,sp_divisor ss R->ss.length=2:=by rintro ss R ⟨a,b,rfl,_⟩;rfl
theorem len_l_divisor:∀ ss R,sp_l_divisor ss R->ss.length=2:=by rintro ss R ⟨a,b,rfl,_⟩;rfl
theorem len_l_cell_at:∀ ss R,sp_l_cell_at ss R->ss.length=2:=by rintro ss R ⟨a,b,rfl,_⟩;rfl
theorem len_l_whole:∀ ss R,sp_l_whole ss R->ss.length=1:=by rintro ss R ⟨a,rfl,_⟩;rfl
theorem len_l_block:∀ ss R,sp_l_block ss R->ss.length=2:=by rintro ss R ⟨a,b,rfl,_⟩;rfl
theorem len_l_mixed:∀ ss R,sp_l_mixed ss R->ss.length=2:=by rintro ss R ⟨a,b,rfl,_⟩;rfl
theorem len_law:∀ ss R,spLaw ss R->ss.length=1:=by rintro ss R ⟨a,rfl,_⟩;rfl
def w_divisor:WS:=
 (wSeq (wSet 2 (wCB fAbs (wCons (wVar 0) wNil)))
 (wSeq (wSet 3 (wCB fAbs (wCons (wVar 1) wNil)))
 (wSeqM (wWhile (wB (wNe (wVar 3) (wC (.int 0)))) (wSeq (wSet 4 (wMod (wVar 2) (wVar 3)))
 (wSeq (wSet 2 (wVar 3))
 (wSet 3 (wVar 4)))))
 (wRetV 2))))
def w_l_cell_at:WS:=
 (wSeq (wIf (wB (wLt (wVar 1) (wCB fLen (wCons (wVar 0) wNil)))) (wRet (wOp2 fIx (wVar 0) (wVar 1))) wNext)
 (wRet (wC (.int 0))))
def w_l_whole:WS:=
 (wRet (wAndV (wIs .int (wVar 0)) (wNotV (wIs .bool (wVar 0)))))
def w_l_block:WS:=
 (wSeq (wSet 2 (wC (.int 0)))
 (wSeqM (wIf (wB (wLt (wAdd (wC (.int 1)) (wMod (wFdiv (wVar 1) (wC (.int 8))) (wC (.int 62)))) (wCB fLen (wCons (wVar 0) wNil)))) (wSet 2 (wFdiv (wOp2 fIx (wVar 0) (wAdd (wC (.int 1)) (wMod (wFdiv (wVar 1) (wC (.int 8))) (wC (.int 62))))) (wPow (wC (.int 10)) (wC (.int 64))))) wNext)
 (wSeqM (wFor (wiRng1 (wCons (wMod (wVar 1) (wC (.int 8))) wNil)) (wgName 3) (wSet 2 (wFdiv (wVar 2) (wC (.int 2147483587)))))
 (wRetV 2))))
def w_l_mixed:WS:=
 (wSeq (wSet 2 (wC (.int 0)))
 (wSeqM (wIf (wB (wGt (wCB fLen (wCons (wVar 0) wNil)) (wC (.int 0)))) (wSet 2 (wOp2 fIx (wVar 0) (wC (.int 0)))) wNext)
 (wSeq (wIf (wT1 (wAndT (wB (wEq (wMod (wFdiv (wVar 2) (wPow (wC (.int 10)) (wC (.int 6)))) (wC (.int 2))) (wC (.int 1)))) (wB (wNe (wCall sp_l_block (wCons (wVar 0) (wCons (wVar 1) wNil))) (wC (.int 0)))))) (wRet (wMod (wCall sp_l_block (wCons (wVar 0) (wCons (wVar 1) wNil))) (wC (.int 2147483587)))) wNext)
 (wSeqM (wIf (wB (wGt (wCB fLen (wCons (wVar 0) wNil)) (wC (.int 0)))) (wSet 2 (wOp2 fIx (wVar 0) (wMod (wVar 1) (wCB fMin2 (wCons (wC (.int 63)) (wCons (wCB fLen (wCons (wVar 0) wNil)) wNil)))))) wNext)
 (wSeq (wSet 3 (wAdd (wMod (wVar 2) (wPow (wC (.int 10)) (wC (.int 18)))) (wMul (wC (.int 48271)) (wAdd (wVar 1) (wC (.int 1))))))
 (wSeq (wSet 3 (wAdd (wMod (wMul (wVar 3) (wVar 3)) (wC (.int 2147483629))) (wMul (wC (.int 69621)) (wVar 1))))
 (wRet (wMod (wMul (wVar 3) (wVar 3)) (wC (.int 2147483587))))))))))
def w_l_divisor:WS:=
 (wSeq (wSet 0 (wCB fAbs (wCons (wVar 0) wNil)))
 (wSeq (wSet 1 (wCB fAbs (wCons (wVar 1) wNil)))
 (wSeqM (wWhile (wB (wGt (wVar 1) (wC (.int 0)))) (wPar 0 1 (wCons (wVar 1) (wCons (wMod (wVar 0) (wVar 1)) wNil))))
 (wRetV 0))))
theorem gcd_step (g l:Nat):Nat.gcd l (g % l)=Nat.gcd g l:=by
 rw [Nat.gcd_comm l (g % l),<-Nat.gcd_rec,Nat.gcd_comm]
theorem ok_divisor:∀ ss R,sp_divisor ss R->w_divisor { nx:=fun _=>R (.t .non),rt:=R } (startD ["one","other","greater","lesser","rest"] ss):=by
 rintro ss R ⟨a,b,rfl,h⟩
 show w_divisor _ [some (.t (.int a)),some (.t (.int b)),none,none,none]
 unfold w_divisor
 walk_at "dl"
 rw [abs_eq,abs_eq]
 refine ⟨fun δ=>∃ r,δ=[some (.t (.int a)),some (.t (.int b)),some (.t (.int (Int.gcd a b))),some (.t (.int 0)),r],?_,fun δ ⟨r,e⟩=>by subst e;walk_at "dl";exact h⟩
 refine ⟨fun n δ=>∃ (g l:Nat) (r:Option S),δ=[some (.t (.int a)),some (.t (.int b)),some (.t (.int g)),some (.t (.int l)),r]/\l=n/\Nat.gcd g l=Int.gcd a b,⟨_,_,_,none,rfl,rfl,rfl⟩,?_⟩
 rintro n δ ⟨g,l,r,rfl,rfl,hg⟩
 walk_at "dl"
 cases l with
 | zero=>rw [if_neg (by simp)];exact ⟨r,by rw [<-hg];simp⟩
 | succ l=>
  rw [if_pos (by simp;omega)]
  refine ⟨by omega,?_⟩
  rw [fmod_nat]
  exact ⟨_,Nat.mod_lt g (by omega),_,_,_,rfl,rfl,by rw [gcd_step];exact hg⟩
theorem ok_l_divisor:∀ ss R,sp_l_divisor ss R->w_l_divisor { nx:=fun _=>R (.t .non),rt:=R } (startD ["_law_one","_law_other"] ss):=by
 rintro ss R ⟨a,b,rfl,h⟩
 show w_l_divisor _ [some (.t (.int a)),some (.t (.int b))]
 unfold w_l_divisor
 walk_at "dl"
 rw [abs_eq,abs_eq]
 refine ⟨fun δ=>δ=[some (.t (.int (Int.gcd a b))),some (.t (.int 0))],?_,fun δ e=>by subst e;walk_at "dl";exact h⟩
 refine ⟨fun n δ=>∃ (g l:Nat),δ=[some (.t (.int g)),some (.t (.int l))]/\l=n/\Nat.gcd g l=Int.gcd a b,⟨_,_,_,rfl,rfl,rfl⟩,?_⟩
 rintro n δ ⟨g,l,rfl,rfl,hg⟩
 walk_at "dl"
 cases l with
 | zero=>rw [if_neg (by simp)];rw [<-hg];simp
 | succ l=>
  rw [if_pos (by omega)]
  refine ⟨by omega,?_⟩
  rw [fmod_nat]
  exact ⟨_,Nat.mod_lt g (by omega),_,_,rfl,rfl,by rw [gcd_step];exact hg⟩
theorem ok_l_cell_at:∀ ss R,sp_l_cell_at ss R->w_l_cell_at { nx:=fun _=>R (.t .non),rt:=R } (startD ["_law_script","_law_k"] ss):=by
 rintro ss R ⟨ns,k,rfl,h0,h⟩
 show w_l_cell_at _ [some (.t (.lst (ns.map .int))),some (.t (.int k))]
 unfold w_l_cell_at
 walk_at "dl"
 split
 ·rename_i hk
  exact atT_ints h0 (by simpa using hk) fun v _=>h v
 ·exact h 0
theorem ok_l_whole:∀ ss R,sp_l_whole ss R->w_l_whole { nx:=fun _=>R (.t .non),rt:=R } (startD ["_law_found"] ss):=by
 rintro ss R ⟨s,rfl,hx,h⟩
 show w_l_whole _ [some (.t s)]
 unfold w_l_whole
 cases s with
 | exc c=>exact absurd rfl hx
 | _=>walk_at "dl";exact h
theorem whole_int (v:Int) (R:S->Prop) (h:R (.t (.bl true))):sp_l_whole [.t (.int v)] R:=⟨_,rfl,by simp [tyT],h⟩
theorem ok_l_block:∀ ss R,sp_l_block ss R->w_l_block { nx:=fun _=>R (.t .non),rt:=R } (startD ["_law_script","_law_k","_law_cell","_law_j"] ss):=by
 rintro ss R ⟨ns,k,rfl,h0,h⟩
 show w_l_block _ [some (.t (.lst (ns.map .int))),some (.t (.int k)),none,none]
 unfold w_l_block
 have g1:=fmod_lo (k.fdiv 8) (n:=62) (by decide)
 have g2:=fmod_hi (k.fdiv 8) (n:=62) (by decide)
 have m1:=fmod_lo k (n:=8) (by decide)
 have m2:=fmod_hi k (n:=8) (by decide)
 have rg:RngOk (k.fmod 8):=⟨by omega,by omega⟩
 walk_at "dl"
 refine ⟨fun δ=>∃ v:Int,δ=[some (.t (.lst (ns.map .int))),some (.t (.int k)),some (.t (.int v)),none],?_,?_⟩
 ·walk_at "dl"
  refine ⟨divOk (by decide) (by decide),by decide,?_⟩
  split
  ·rename_i hk
   refine ⟨divOk (by decide) (by decide),by decide,?_⟩
   refine atT_ints (by omega) (by simpa using hk) fun v _=>?_
   walk_at "dl"
   exact ⟨powOk (by decide) (by decide) (by decide),divOk (by decide) (by decide +kernel),_,rfl⟩
  ·exact ⟨_,rfl⟩
 ·rintro δ ⟨v,rfl⟩
  refine ⟨fun δ=>∃ (v:Int) (r:Option S),δ=[some (.t (.lst (ns.map .int))),some (.t (.int k)),some (.t (.int v)),r],?_,fun δ ⟨v,r,e⟩=>by subst e;walk_at "dl";exact h v⟩
  walk_at "dl"
  refine ⟨by decide,rg,fun _ δ=>∃ (v:Int) (r:Option S),δ=[some (.t (.lst (ns.map .int))),some (.t (.int k)),some (.t (.int v)),r],⟨v,none,rfl⟩,fun _ h=>h,?_⟩
  rintro x r δ ⟨v,r,rfl⟩
  walk_at "dl"
  exact ⟨divOk (by decide) (by decide),_,_,rfl⟩
theorem ok_l_mixed:∀ ss R,sp_l_mixed ss R->w_l_mixed { nx:=fun _=>R (.t .non),rt:=R } (startD ["_law_script","_law_k","_law_cell","_law_number"] ss):=by
 rintro ss R ⟨ns,k,rfl,h0,hk,h⟩
 show w_l_mixed _ [some (.t (.lst (ns.map .int))),some (.t (.int k)),none,none]
 unfold w_l_mixed
 have fin:∀ c:Int,0<=c.fmod 2147483587/\c.fmod 2147483587 < 2147483587:=fun c=>⟨fmod_lo c (by decide),fmod_hi c (by decide)⟩
 walk_at "dl"
 refine ⟨fun δ=>∃ v:Int,δ=[some (.t (.lst (ns.map .int))),some (.t (.int k)),some (.t (.int v)),none],?_,?_⟩
 ·walk_at "dl"
  split
  ·rename_i hl
   exact atT_ints (by omega) (by simpa using hl) fun v _=>⟨v,rfl⟩
  ·exact ⟨_,rfl⟩
 rintro δ ⟨c,rfl⟩
 walk_at "dl"
 refine ⟨fun _=>True,?_,?_⟩
 ·walk_at "dl"
  refine ⟨powOk (by decide) (by decide) (by decide),divOk (by decide) (by decide),by decide,?_⟩
  split
  ·refine ⟨ns,k,rfl,h0,fun v=>?_⟩
   walk_at "dl"
  ·trivial
 rintro b -
 cases b with
 | true=>
  walk_at "dl"
  refine ⟨ns,k,rfl,h0,fun v=>?_⟩
  walk_at "dl"
  exact ⟨by decide,h _ (fin _).1 (fin _).2⟩
 | false=>
 walk_at "dl"
 refine ⟨fun δ=>∃ v:Int,δ=[some (.t (.lst (ns.map .int))),some (.t (.int k)),some (.t (.int v)),none],?_,?_⟩
 ·walk_at "dl"
  split
  ·rename_i hl
   have hl:(0:Int) < ns.length:=by simpa using hl
   simp only [List.length_map]
   generalize hm:(if (ns.length:Int) < 63 then (ns.length:Int) else 63)=m
   have m0:0 < m:=by rw [<-hm];split <;> omega
   have m1:m<=ns.length:=by rw [<-hm];split <;> omega
   exact ⟨by omega,atT_ints (fmod_lo k m0) (by have:=fmod_hi k m0;omega) fun v _=>⟨v,rfl⟩⟩
  ·exact ⟨_,rfl⟩
 rintro δ ⟨c,rfl⟩
 walk_at "dl"
 have a1:=fmod_lo c (n:=1000000000000000000) (by decide)
 have a2:=fmod_hi c (n:=1000000000000000000) (by decide)
 refine ⟨powOk (by decide) (by decide) (by decide),by decide,mulL (by decide) (by decide),mulL (by omega) (by omega),by decide,mulL (by decide) (by decide),?_⟩
 generalize c.fmod 1000000000000000000 + 48271*(k + 1)=z at a1 a2 ⊢
 have b1:=fmod_lo (z*z) (n:=2147483629) (by decide)
 have b2:=fmod_hi (z*z) (n:=2147483629) (by decide)
 exact ⟨mulL (by omega) (by omega),by decide,h _ (fin _).1 (fin _).2⟩
end Law
set_option maxHeartbeats 4000000
namespace L2
open PySem PySem.Spec PyProof.Rows
def Itv (K:PySem.W.Frag) (a:Addr) (n:Nat):It:=
 ⟨fun i H=>i < n/\∃ xs x,SqL K H a xs/\xs[n - 1 - i]?=some x,fun i H x H'=>H'=H/\∀ xs,SqL K H a xs->xs[n - 1 - i]?=some x,fun i H=>n<=i⟩
theorem turn_rev {P:Program} {w:World} {K:PySem.W.Frag} {tg:Expr} (a it:Addr) (n:Nat):Turn P w K tg (Itv K a n) [it] it (fun i h=>i<=n/\h.IsRevIter it a ((n:Int) - 1 - (i:Int))) where
 mem:=by simp
 obj:=fun i h st b hb=>by
  have e:b=it:=by simpa using hb
  subst e
  obtain ⟨_,o,e,c,d⟩:=st
  exact ⟨o,e,fun v z=>by rw [d] at z;cases z⟩
 keep:=fun i h h' st k=>⟨st.1,st.2.at fun o e=>k it (by simp) o e⟩
 item:=by
  intro X hP hw hK hc i pins s σ H E I hf st hg
  subst hP hw hK
  obtain ⟨hin,xs,x,hq,hx⟩:=hg
  obtain ⟨its,rv,p,hz⟩:=I.list hq
  obtain ⟨u,hu,ru⟩:=rv.get hx
  obtain ⟨f0,f1,f2,f3,f4,f5⟩:=hf it (by simp)
  have e:(n:Int) - 1 - (i:Int)=((n - 1 - i:Nat):Int):=by omega
  have hit:=st.2
  rw [e] at hit
  refine wpAny_pyNext_rev_item hit p.isList (x:=u) (by simpa using hu) fun h' st' sb=>?_
  have I1:Inv X pins σ H { s with heap:=h' }:=I.turned (t':=s.toks) (fun b o hb e=>(sb.2 b hb).trans e) f0 f1 f3 f4 f5
  have e2:((n - 1 - i:Nat):Int) - 1=(n:Int) - 1 - ((i + 1:Nat):Int):=by omega
  rw [e2] at st'
  obtain ⟨o,e,c,d⟩:=id st'
  exact ⟨u,rfl,go_of (s:={ s with heap:=h' }) e c d (by decide) ⟨x,H,I1,ru,⟨rfl,fun ys hy=>by rw [I.list_inj hy hq];exact hx⟩,⟨hin,st'⟩,fun b hb=>(hf b hb).1⟩⟩
 done:=by
  intro X hP hw hK hc i pins s σ H E I hf st hg
  subst hP hw hK
  have hg:n<=i:=hg
  obtain ⟨f0,f1,f2,f3,f4,f5⟩:=hf it (by simp)
  have e:(n:Int) - 1 - (i:Int)=-1:=by have:=st.1;omega
  have hit:=st.2
  rw [e] at hit
  exact wpAny_pyNext_rev_end (I.ok.hd hc) hit fun h' eb=>⟨rfl,I.turned (t':=s.toks) (fun b o hb e=>eb b o hb e) f0 f1 f3 f4 f5⟩
 self:=fun _ _ _ _ _ st h=>wpAny_pyIter_revIter st.2 h
section
variable {X:Cx} {tg:Expr} {e:Expr} {te:TE} {p2 pos2:Pos}
def iRev (K:PySem.W.Frag) (te:TE):TI:=fun σ H R=>te σ H fun x H1=>∃ a xs,x=.ref a/\SqL K H1 a xs/\R (Itv K a xs.length) H1
theorem pi_rev (hm2:X.mg "reversed"=none) (he:PE X e te) (hg2:Gl X "reversed") (hs2:starEach [e] X.env=(false,eval e X.env)::starEach [] X.env) :
  PI X tg (.Call (.Name "reversed" p2) [e] [] pos2) (iRev X.K te):=by
 intro pins s σ H R I h
 refine wpAny_Call_Name_kw (ld_blt I hg2 hm2 PyProof.Rows.boot_reversed ?_)
 refine PyProof.Rows.callWith_type1 ?_ hs2
 rw [hs2]
 show wpAny _ _ (spliced ((false,eval e X.env)::backTo pos2 (starEach [] X.env))) _ _ s
 refine Calls.spliced_cons (thn (he pins s σ H _ I h) fun u s1 ⟨x,H1,I1,r1,q1⟩=>?_)
 obtain ⟨p,ys,rfl,hq,fin⟩:=q1
 cases r1
 refine Calls.spliced_nil ?_
 obtain ⟨its,r,pl,hz⟩:=I1.list hq
 have hl:=pl.isList
 refine call_reversed_list hl ?_
 have hlen:=r.length
 have hsz:its.toArray.size=ys.length:=by rw [List.size_toArray];omega
 rw [hsz]
 have hit:((s1.heap.push (revObj p ((ys.length:Int) - 1))).IsRevIter s1.heap.objs.size p ((ys.length:Int) - 1)):=⟨_,Heap.get?_push_size _ rfl,rfl,rfl⟩
 refine wpAny_pyIter_revIter (s:={ s1 with heap:=s1.heap.push (revObj p ((ys.length:Int) - 1)) }) hit ?_
 refine ⟨s1.heap.objs.size,[s1.heap.objs.size],_,_,H1,rfl,I1.kept (t':=s1.toks) fun b o e=>Heap.get?_push_of_some _ e,turn_rev p _ ys.length,⟨Nat.zero_le _,by simpa using hit⟩,fun b hb=>?_,fin⟩
 have e:b=s1.heap.objs.size:=by simpa using hb
 subst e
 exact I1.fpOk (Nat.le_refl _) (I1.hok.fresh (Nat.le_refl _))
end
end L2
namespace DL
open PySem PySem.Spec L2 PyProof.Rows
theorem it_rev {K:PySem.W.Frag} {F:Hp} {a:Addr} {xs:List V} {ts:List T} (h:SqL K F a xs) (r:TReps K F ts xs):ItOk K F (Itv K a xs.length) ts.reverse:=by
 intro F1 H1 i f1 sb fu
 have q:SqL K H1 a xs:=sb.seq (f1.seq h)
 have hl:=r.length
 refine ⟨fun t ht=>?_,fun hle=>by rw [List.length_reverse] at hle;show xs.length<=i;omega⟩
 have hi:i < ts.length:=by
  obtain ⟨hh,_⟩:=List.getElem?_eq_some_iff.mp ht
  simpa using hh
 rw [List.getElem?_reverse hi] at ht
 obtain ⟨x,h1,h2⟩:=r.get ht
 have e:ts.length - 1 - i=xs.length - 1 - i:=by omega
 rw [e] at h1
 refine ⟨⟨by omega,xs,x,q,h1⟩,fun y H2 hy=>?_⟩
 obtain ⟨e,hy⟩:=hy
 subst e
 have:=hy xs q
 rw [h1] at this
 cases this
 exact ⟨F1,Ext.refl sb fu,TRep.same f1 h2⟩
def revI (δ:DSt) (W:List T->DSt->Prop):S->Prop
 | .t (.lst ts)=>W ts.reverse δ
 | .vt (.lst ts)=>W ts.reverse (freeze δ)
 | .ol ts=>W ts.reverse δ
 | _=>False
def wiRev (we:WE):WI:=fun δ W=>we δ fun s=>revI δ W s
section
variable {X:Cx} {tg e:Expr} {we:WE} {p2 pos2:Pos}
theorem di_rev (hm:X.mg "reversed"=none) (he:PE X e (liftE X.K we)) (hg:Gl X "reversed":=by rfl) (hs2:starEach [e] X.env=(false,eval e X.env)::starEach [] X.env:=by exact star_plain rfl):PI X tg (.Call (.Name "reversed" p2) [e] [] pos2) (liftI X.K (wiRev we)):=
 (pi_rev hm he hg hs2).imp fun σ H R ⟨δ,W,F,rl,h,k⟩=>⟨δ,_,F,rl,h,fun v F1 H1 s ex p q=>by
  unfold revI at q
  split at q
  ·unfold RepE TRep at p
   obtain ⟨a,xs,rfl,h1,h2⟩:=p
   exact ⟨a,xs,rfl,ex.sub.seq h1,k _ F1 F1 H1 _ δ ex (Same.refl _) (rl.ext ex) (it_rev h1 h2) q⟩
  ·unfold RepE TRep at p
   obtain ⟨a,xs,rfl,h1,h2⟩:=p
   exact ⟨a,xs,rfl,h1,k _ F1 H1 H1 _ (freeze δ) ex ex.sub (rl.ext ex).freeze (it_rev h1 h2) q⟩
  ·obtain ⟨rl2,sm,a,xs,rfl,g1,g2⟩:=rl.thaw ex p
   exact ⟨a,xs,rfl,rl2.sub.seq g1,k _ _ _ H1 _ δ (ex.frozen rl.sub).1 (Same.refl _) rl2 (it_rev g1 g2) q⟩
  ·exact q.elim⟩
end
theorem a_wiRev (we:WE) (δ:DSt) (W:List T->DSt->Prop):wiRev we δ W=we δ fun s=>revI δ W s:=rfl
theorem revI_F (δ:DSt) (W:List T->DSt->Prop) (ts:List T):revI δ W (.t (.lst ts))=W ts.reverse δ:=rfl
end DL
namespace Law
open L2 DL
def exV (h:Hf) (s:Spo):Int:=h.1*s.1.1*s.2.2 + h.2.1*s.2.1*s.1.2 - h.2.2*(s.1.2*s.2.2)
def sgn (i:Int):Int:=if i > 0 then 1 else if i < 0 then -1 else 0
def sp_bottoms:DSpec:=fun ss R=>∃ s:Spo,ss=[.t (spT s)]/\SzS 60000 s/\R (.t (.int (s.1.2*s.2.2)))
def sp_excess:DSpec:=fun ss R=>∃ (h:Hf) (s:Spo),ss=[.t (hfT h),.t (spT s)]/\SzH 300000 h/\SzS 60000 s/\R (.t (.int (exV h s)))
def sp_sign:DSpec:=fun ss R=>∃ i:Int,ss=[.t (.int i)]/\R (.t (.int (sgn i)))
def sp_side:DSpec:=fun ss R=>∃ (h:Hf) (s:Spo),ss=[.t (hfT h),.t (spT s)]/\SzH 300000 h/\SzS 60000 s/\R (.t (.int (sgn (exV h s))))
def w_bottoms:WS:=
 (wRet (wMul (wOp2 fIx (wOp2 fIx (wVar 0) (wC (.int 0))) (wC (.int 1))) (wOp2 fIx (wOp2 fIx (wVar 0) (wC (.int 1))) (wC (.int 1)))))
def w_excess:WS:=
 (wSeq (wSet 2 (wOp2 fIx (wVar 1) (wC (.int 0))))
 (wSeq (wSet 3 (wOp2 fIx (wVar 1) (wC (.int 1))))
 (wRet (wSub (wAdd (wMul (wMul (wOp2 fIx (wVar 0) (wC (.int 0))) (wOp2 fIx (wVar 2) (wC (.int 0)))) (wOp2 fIx (wVar 3) (wC (.int 1)))) (wMul (wMul (wOp2 fIx (wVar 0) (wC (.int 1))) (wOp2 fIx (wVar 3) (wC (.int 0)))) (wOp2 fIx (wVar 2) (wC (.int 1))))) (wMul (wOp2 fIx (wVar 0) (wC (.int 2))) (wCall sp_bottoms (wCons (wVar 1) wNil)))))))
def w_sign:WS:=
 (wSeq (wIf (wB (wGt (wVar 0) (wC (.int 0)))) (wRet (wC (.int 1))) wNext)
 (wSeq (wIf (wB (wLt (wVar 0) (wC (.int 0)))) (wRet (wUn fNeg (wC (.int 1)))) wNext)
 (wRet (wC (.int 0)))))
def w_side:WS:=
 (wRet (wCall sp_sign (wCons (wCall sp_excess (wCons (wVar 0) (wCons (wVar 1) wNil))) wNil)))
theorem len_bottoms:∀ ss R,sp_bottoms ss R->ss.length=1:=by rintro ss R ⟨a,rfl,_⟩;rfl
theorem len_excess:∀ ss R,sp_excess ss R->ss.length=2:=by rintro ss R ⟨a,b,rfl,_⟩;rfl
theorem len_sign:∀ ss R,sp_sign ss R->ss.length=1:=by rintro ss R ⟨a,rfl,_⟩;rfl
theorem len_side:∀ ss R,sp_side ss R->ss.length=2:=by rintro ss R ⟨a,b,rfl,_⟩;rfl
theorem ok_bottoms:∀ ss R,sp_bottoms ss R->w_bottoms { nx:=fun _=>R (.t .non),rt:=R } (startD ["spot"] ss):=by
 rintro ss R ⟨⟨⟨x,p⟩,y,q⟩,rfl,⟨⟨z1,z2⟩,z3,z4⟩,h⟩
 dsimp only at z1 z2 z3 z4
 show w_bottoms _ [some (.t (.tup [.tup [.int x,.int p],.tup [.int y,.int q]]))]
 unfold w_bottoms
 walk_at "dl"
 exact ⟨mulSz z2 z4 (by decide) (by decide),h⟩
theorem ok_excess:∀ ss R,sp_excess ss R->w_excess { nx:=fun _=>R (.t .non),rt:=R } (startD ["half","spot","x","y"] ss):=by
 rintro ss R ⟨⟨a,b,c⟩,⟨⟨x,p⟩,y,q⟩,rfl,⟨y1,y2,y3⟩,⟨⟨z1,z2⟩,z3,z4⟩,h⟩
 dsimp only at y1 y2 y3 z1 z2 z3 z4
 show w_excess _ [some (.t (.tup [.int a,.int b,.int c])),some (.t (.tup [.tup [.int x,.int p],.tup [.int y,.int q]])),none,none]
 unfold w_excess
 walk_at "dl"
 refine ⟨by walk_at "mul",by walk_at "mul",by walk_at "mul",by walk_at "mul",⟨(x,p),(y,q)⟩,rfl,⟨⟨z1,z2⟩,z3,z4⟩,?_⟩
 walk_at "dl"
 exact ⟨by walk_at "mul",h⟩
theorem ok_sign:∀ ss R,sp_sign ss R->w_sign { nx:=fun _=>R (.t .non),rt:=R } (startD ["number"] ss):=by
 rintro ss R ⟨i,rfl,h⟩
 show w_sign _ [some (.t (.int i))]
 unfold w_sign
 unfold sgn at h
 walk_at "dl"
 split
 ·rename_i hi
  rw [if_pos hi] at h;exact h
 ·rename_i hi
  rw [if_neg hi] at h
  split
  ·rename_i hj
   rw [if_pos hj] at h;exact h
  ·rename_i hj
   rw [if_neg hj] at h;exact h
theorem ok_side:∀ ss R,sp_side ss R->w_side { nx:=fun _=>R (.t .non),rt:=R } (startD ["half","spot"] ss):=by
 rintro ss R ⟨a,s,rfl,y,z,h⟩
 show w_side _ [some (.t (hfT a)),some (.t (spT s))]
 unfold w_side
 walk_at "dl"
 refine ⟨a,s,rfl,y,z,?_⟩
 walk_at "dl"
 refine ⟨_,rfl,?_⟩
 walk_at "dl"
 exact h
end Law
namespace Law
open L2 DL
theorem fdiv_dvd {a d:Int} (h:d ∣ a):a.fdiv d*d=a:=by
 obtain ⟨k,rfl⟩:=h
 by_cases hd:d=0
 ·subst hd;simp
 ·rw [Int.mul_fdiv_cancel_left _ hd,Int.mul_comm]
def gcd3 (a b c:Int):Nat:=Int.gcd (Int.gcd a b) c
theorem gcd3_a (a b c:Int):(gcd3 a b c:Int) ∣ a:=Int.dvd_trans (Int.gcd_dvd_left _ _) (Int.gcd_dvd_left _ _)
theorem gcd3_b (a b c:Int):(gcd3 a b c:Int) ∣ b:=Int.dvd_trans (Int.gcd_dvd_left _ _) (Int.gcd_dvd_right _ _)
theorem gcd_ne {a b:Int} (h:a ≠ 0\/b ≠ 0):(Int.gcd a b:Int) ≠ 0:=fun e=>by
 have e':Int.gcd a b=0:=by omega
 rw [Int.gcd_eq_zero_iff] at e'
 omega
theorem gcd3_ne {a b c:Int} (h:a ≠ 0\/b ≠ 0):(gcd3 a b c:Int) ≠ 0:=gcd_ne (.inl (gcd_ne h))
def cmn (a b:Int):Int:=if b < 0 then -(Int.gcd a b:Int) else (Int.gcd a b:Int)
def frV (a b:Int):Int × Int:=(a.fdiv (cmn a b),b.fdiv (cmn a b))
def sp_ratio:DSpec:=fun ss R=>∃ a b:Int,ss=[.t (.int a),.t (.int b)]/\b ≠ 0/\Sz 9000 b/\R (.t (frT (frV a b)))
def sp_below:DSpec:=fun ss R=>∃ p q:Int × Int,ss=[.t (frT p),.t (frT q)]/\SzF 60000 p/\SzF 60000 q/\R (.t (.bl (decide (p.1*q.2 < q.1*p.2))))
def w_ratio:WS:=
 (wSeq (wIf (wB (wEq (wVar 1) (wC (.int 0)))) wNever wNext)
 (wSeq (wSet 2 (wCall sp_divisor (wCons (wVar 0) (wCons (wVar 1) wNil))))
 (wSeqM (wIf (wB (wLt (wVar 1) (wC (.int 0)))) (wSet 2 (wUn fNeg (wVar 2))) wNext)
 (wRet (wTup (wCons (wFdiv (wVar 0) (wVar 2)) (wCons (wFdiv (wVar 1) (wVar 2)) wNil)))))))
def w_below:WS:=
 (wRet (wLt (wMul (wOp2 fIx (wVar 0) (wC (.int 0))) (wOp2 fIx (wVar 1) (wC (.int 1)))) (wMul (wOp2 fIx (wVar 1) (wC (.int 0))) (wOp2 fIx (wVar 0) (wC (.int 1))))))
theorem len_ratio:∀ ss R,sp_ratio ss R->ss.length=2:=by rintro ss R ⟨a,b,rfl,_⟩;rfl
theorem len_below:∀ ss R,sp_below ss R->ss.length=2:=by rintro ss R ⟨a,b,rfl,_⟩;rfl
theorem ok_ratio:∀ ss R,sp_ratio ss R->w_ratio { nx:=fun _=>R (.t .non),rt:=R } (startD ["top","bottom","common"] ss):=by
 rintro ss R ⟨a,b,rfl,hne,sb,h⟩
 show w_ratio _ [some (.t (.int a)),some (.t (.int b)),none]
 unfold w_ratio
 walk_at "dl"
 rw [if_neg (by simpa using hne)]
 refine ⟨_,_,rfl,?_⟩
 walk_at "dl"
 refine ⟨fun δ=>δ=[some (.t (.int a)),some (.t (.int b)),some (.t (.int (cmn a b)))],?_,?_⟩
 ·walk_at "dl"
  unfold cmn
  split <;> rfl
 rintro δ rfl
 walk_at "dl"
 have hg:cmn a b ≠ 0:=by
  have:=gcd_ne (a:=a) (.inr hne)
  unfold cmn;split <;> omega
 have sg:Sz 9000 (cmn a b):=by
  have q:Sz 9000 (Int.gcd a b:Int):=by rw [Int.gcd_comm];exact Sz.gcdL sb hne
  unfold cmn
  split
  ·exact Sz.neg q
  ·exact q
 have dv:∀ z,DivOk z (cmn a b):=fun z=>divSz hg sg (by decide)
 exact ⟨dv _,dv _,h⟩
theorem ok_below:∀ ss R,sp_below ss R->w_below { nx:=fun _=>R (.t .non),rt:=R } (startD ["one","other"] ss):=by
 rintro ss R ⟨⟨a,b⟩,⟨c,d⟩,rfl,⟨s1,s2⟩,⟨s3,s4⟩,h⟩
 dsimp only at s1 s2 s3 s4
 show w_below _ [some (.t (.tup [.int a,.int b])),some (.t (.tup [.int c,.int d]))]
 unfold w_below
 walk_at "dl"
 exact ⟨mulSz s1 s4 (by decide) (by decide),mulSz s3 s2 (by decide) (by decide),h⟩
end Law
namespace Law
open L2 DL
def asV (p:Pt):Spo:=((p.1,1),(p.2,1))
def strV (s:Spo):Hf:=(s.1.1*s.2.2,s.2.1*s.1.2,s.1.2*s.2.2)
def lnV (u v:Hf):Hf:=(u.2.1*v.2.2 - u.2.2*v.2.1,u.2.2*v.1 - u.1*v.2.2,u.2.1*v.1 - u.1*v.2.1)
def tuV (a b c:Spo):Int:=exV (lnV (strV a) (strV b)) c
def tuI (p q r:Pt):Int:=tuV (asV p) (asV q) (asV r)
theorem tuI_eq (p q r:Pt):tuI p q r=(p.2 - q.2)*r.1 + (q.1 - p.1)*r.2 - (p.2*q.1 - p.1*q.2):=by
 unfold tuI tuV exV lnV strV asV
 simp only [Int.mul_one,Int.one_mul]
def sp_as_spot:DSpec:=fun ss R=>∃ p:Pt,ss=[.t (ptT p)]/\R (.t (spT (asV p)))
def sp_stretched:DSpec:=fun ss R=>∃ s:Spo,ss=[.t (spT s)]/\SzS 30000 s/\R (.t (hfT (strV s)))
def sp_turn:DSpec:=fun ss R=>∃ a b c:Spo,ss=[.t (spT a),.t (spT b),.t (spT c)]/\SzS 30000 a/\SzS 30000 b/\SzS 30000 c/\R (.t (.int (tuV a b c)))
def w_as_spot:WS:=
 (wRet (wTup (wCons (wTup (wCons (wOp2 fIx (wVar 0) (wC (.int 0))) (wCons (wC (.int 1)) wNil))) (wCons (wTup (wCons (wOp2 fIx (wVar 0) (wC (.int 1))) (wCons (wC (.int 1)) wNil))) wNil))))
def w_stretched:WS:=
 (wRet (wTup (wCons (wMul (wOp2 fIx (wOp2 fIx (wVar 0) (wC (.int 0))) (wC (.int 0))) (wOp2 fIx (wOp2 fIx (wVar 0) (wC (.int 1))) (wC (.int 1)))) (wCons (wMul (wOp2 fIx (wOp2 fIx (wVar 0) (wC (.int 1))) (wC (.int 0))) (wOp2 fIx (wOp2 fIx (wVar 0) (wC (.int 0))) (wC (.int 1)))) (wCons (wCall sp_bottoms (wCons (wVar 0) wNil)) wNil)))))
def w_turn:WS:=
 (wSeq (wSet 3 (wCall sp_stretched (wCons (wVar 0) wNil)))
 (wSeq (wSet 4 (wCall sp_stretched (wCons (wVar 1) wNil)))
 (wSeq (wSet 5 (wSub (wMul (wOp2 fIx (wVar 3) (wC (.int 1))) (wOp2 fIx (wVar 4) (wC (.int 2)))) (wMul (wOp2 fIx (wVar 3) (wC (.int 2))) (wOp2 fIx (wVar 4) (wC (.int 1))))))
 (wSeq (wSet 6 (wSub (wMul (wOp2 fIx (wVar 3) (wC (.int 2))) (wOp2 fIx (wVar 4) (wC (.int 0)))) (wMul (wOp2 fIx (wVar 3) (wC (.int 0))) (wOp2 fIx (wVar 4) (wC (.int 2))))))
 (wSeq (wSet 7 (wSub (wMul (wOp2 fIx (wVar 3) (wC (.int 1))) (wOp2 fIx (wVar 4) (wC (.int 0)))) (wMul (wOp2 fIx (wVar 3) (wC (.int 0))) (wOp2 fIx (wVar 4) (wC (.int 1))))))
 (wRet (wCall sp_excess (wCons (wTup (wCons (wVar 5) (wCons (wVar 6) (wCons (wVar 7) wNil)))) (wCons (wVar 2) wNil)))))))))
theorem len_as_spot:∀ ss R,sp_as_spot ss R->ss.length=1:=by rintro ss R ⟨a,rfl,_⟩;rfl
theorem len_stretched:∀ ss R,sp_stretched ss R->ss.length=1:=by rintro ss R ⟨a,rfl,_⟩;rfl
theorem len_turn:∀ ss R,sp_turn ss R->ss.length=3:=by rintro ss R ⟨a,b,c,rfl,_⟩;rfl
theorem ok_as_spot:∀ ss R,sp_as_spot ss R->w_as_spot { nx:=fun _=>R (.t .non),rt:=R } (startD ["point"] ss):=by
 rintro ss R ⟨⟨x,y⟩,rfl,h⟩
 show w_as_spot _ [some (.t (.tup [.int x,.int y]))]
 unfold w_as_spot
 walk_at "go"
 exact h
theorem ok_stretched:∀ ss R,sp_stretched ss R->w_stretched { nx:=fun _=>R (.t .non),rt:=R } (startD ["spot"] ss):=by
 rintro ss R ⟨⟨⟨x,p⟩,y,q⟩,rfl,⟨⟨z1,z2⟩,z3,z4⟩,h⟩
 dsimp only at z1 z2 z3 z4
 show w_stretched _ [some (.t (.tup [.tup [.int x,.int p],.tup [.int y,.int q]]))]
 unfold w_stretched
 walk_at "dl"
 refine ⟨mulSz z1 z4 (by decide) (by decide),mulSz z3 z2 (by decide) (by decide),((x,p),(y,q)),rfl,⟨⟨z1.mono (by decide),z2.mono (by decide)⟩,z3.mono (by decide),z4.mono (by decide)⟩,?_⟩
 walk_at "dl"
 exact h
theorem ok_turn:∀ ss R,sp_turn ss R->w_turn { nx:=fun _=>R (.t .non),rt:=R } (startD ["one","other","third","here","there","a","b","c"] ss):=by
 rintro ss R ⟨s,t,u,rfl,zs,zt,zu,h⟩
 show w_turn _ [some (.t (spT s)),some (.t (spT t)),some (.t (spT u)),none,none,none,none,none]
 unfold w_turn
 have ss3:SzH 60000 (strV s):=⟨(Sz.mul zs.1.1 zs.2.2).mono (by decide),(Sz.mul zs.2.1 zs.1.2).mono (by decide),(Sz.mul zs.1.2 zs.2.2).mono (by decide)⟩
 have tt3:SzH 60000 (strV t):=⟨(Sz.mul zt.1.1 zt.2.2).mono (by decide),(Sz.mul zt.2.1 zt.1.2).mono (by decide),(Sz.mul zt.1.2 zt.2.2).mono (by decide)⟩
 walk_at "dl"
 refine ⟨s,rfl,zs,?_⟩
 obtain ⟨a1,a2,a3⟩:=ss3
 generalize he:strV s=hs at a1 a2 a3 ⊢
 obtain ⟨x1,y1,w1⟩:=hs
 dsimp only at a1 a2 a3
 walk_at "dl"
 refine ⟨t,rfl,zt,?_⟩
 obtain ⟨b1,b2,b3⟩:=tt3
 generalize hf:strV t=ht at b1 b2 b3 ⊢
 obtain ⟨x2,y2,w2⟩:=ht
 dsimp only at b1 b2 b3
 walk_at "dl"
 refine ⟨mulSz a2 b3 (by decide) (by decide),mulSz a3 b2 (by decide) (by decide),mulSz a3 b1 (by decide) (by decide),mulSz a1 b3 (by decide) (by decide),mulSz a2 b1 (by decide) (by decide),mulSz a1 b2 (by decide) (by decide),(y1*w2 - w1*y2,w1*x2 - x1*w2,y1*x2 - x1*y2),u,rfl,⟨by walk_at "szk",by walk_at "szk",by walk_at "szk"⟩,⟨⟨zu.1.1.mono (by decide),zu.1.2.mono (by decide)⟩,zu.2.1.mono (by decide),zu.2.2.mono (by decide)⟩,?_⟩
 unfold tuV lnV at h
 rw [he,hf] at h
 exact h
end Law
namespace Law
open L2 DL
def cr (p q r:Pt):Int:=(q.1 - p.1)*(r.2 - p.2) - (q.2 - p.2)*(r.1 - p.1)
def fn (m p:Pt):Int:=m.1*p.1 + m.2*p.2
theorem tuI_cr (p q r:Pt):tuI p q r=cr p q r:=by
 rw [tuI_eq];unfold cr;grind
theorem id_sum (a b p q:Pt):cr a p q=cr a b q - cr a b p + cr b p q:=by unfold cr;grind
theorem id_two (m a b p q:Pt):(fn m b - fn m a)*cr a p q=(fn m p - fn m a)*cr a b q - (fn m q - fn m a)*cr a b p:=by unfold cr fn;grind
theorem id_thr (m z t p q:Pt):(fn m t - fn m z)*cr t p q=(fn m p - fn m t)*cr z t q - (fn m q - fn m t)*cr z t p:=by unfold cr fn;grind
theorem id_fou (m a b c p:Pt):(fn m c - fn m b)*cr a b p=(fn m p - fn m b)*cr a b c + (fn m b - fn m a)*cr b c p:=by unfold cr fn;grind
theorem id_bet (m a b v u w:Pt):(fn m b - fn m v)*cr u w a + (fn m v - fn m a)*cr u w b=(fn m b - fn m a)*cr u w v - fn m (w.1 - u.1,w.2 - u.2)*cr a b v:=by unfold cr fn;grind
theorem cr_self (a b:Pt):cr a b b=0:=by unfold cr;grind
theorem cr_self' (a b:Pt):cr a b a=0:=by unfold cr;grind
theorem cr_swap (a b q:Pt):cr b a q=-cr a b q:=by unfold cr;grind
theorem nonneg_of {f x:Int} (hf:0 < f) (h:0<=f*x):0<=x:=by
 rcases Int.lt_or_le x 0 with hx | hx
 ·have:=Int.mul_neg_of_pos_of_neg hf hx
  omega
 ·exact hx
theorem nonpos_mul {a b:Int} (ha:a<=0) (hb:0<=b):a*b<=0:=Int.mul_nonpos_of_nonpos_of_nonneg ha hb
def Conv:List Pt->Prop
 | c::b::a::r=>0 < cr a b c/\Conv (b::a::r)
 | _=>True
def Lf (q:Pt):List Pt->Prop
 | b::a::r=>0<=cr a b q/\Lf q (a::r)
 | _=>True
def Dn (m:Pt) (k:List Pt):Prop:=k.Pairwise fun b a=>fn m a < fn m b
def popTo (p:Pt):List Pt->List Pt
 | b::a::r=>if cr a b p<=0 then popTo p (a::r) else b::a::r
 | k=>k
def chS (ps:List Pt):List Pt:=ps.foldl (fun k p=>p::popTo p k) []
theorem conv_tail:∀ {b:Pt} {k:List Pt},Conv (b::k)->Conv k
 | _,[],_=>trivial
 | _,[_],_=>trivial
 | _,_::_::_,h=>h.2
theorem lf_tail:∀ {q b:Pt} {k:List Pt},Lf q (b::k)->Lf q k
 | _,_,[],_=>trivial
 | _,_,_::_,h=>h.2
structure Off (m:Pt) (D:List Pt) (p p0:Pt) (t:Pt) (k:List Pt):Prop where
 dn:Dn m (t::k)
 cv:Conv (t::k)
 lf:∀ q∈D,Lf q (t::k)
 sb:∀ x∈t::k,x∈D
 ls:(t::k).getLast?=some p0
 ne:∀ q∈D,fn m t<=fn m q->0<=cr t p q
theorem off_pop {m p p0 b a:Pt} {D r:List Pt} (hp:∀ q∈D,fn m q < fn m p) (O:Off m D p p0 b (a::r)) (hle:cr a b p<=0):Off m D p p0 a r:=by
 have hab:fn m a < fn m b:=(List.pairwise_cons.mp O.dn).1 a List.mem_cons_self
 refine ⟨(List.pairwise_cons.mp O.dn).2,conv_tail O.cv,fun q hq=>lf_tail (O.lf q hq),fun x hx=>O.sb x (List.mem_cons_of_mem _ hx),by simpa using O.ls,fun q hq hqa=>?_⟩
 have h1:0<=cr a b q:=(O.lf q hq).1
 rcases Int.lt_or_le (fn m q) (fn m b) with hqb | hqb
 ·have hap:fn m a < fn m p:=hp a (O.sb a (by simp))
  have i:=id_two m a b p q
  have g1:0<=(fn m p - fn m a)*cr a b q:=Int.mul_nonneg (by omega) h1
  have g2:(fn m q - fn m a)*cr a b p<=0:=Int.mul_nonpos_of_nonneg_of_nonpos (by omega) hle
  exact nonneg_of (f:=fn m b - fn m a) (by omega) (by omega)
 ·have h2:=O.ne q hq hqb
  have i:=id_sum a b p q
  omega
theorem pop_ok {m p p0:Pt} {D:List Pt} (hp:∀ q∈D,fn m q < fn m p):∀ (k:List Pt) (t:Pt),Off m D p p0 t k →
  ∃ t' k',popTo p (t::k)=t'::k'/\Off m D p p0 t' k'/\∀ z r,k'=z::r->0 < cr z t' p
 | [],t,O=>⟨t,[],rfl,O,fun z r e=>nomatch e⟩
 | a::r,t,O=>by
  by_cases h:cr a t p<=0
  ·obtain ⟨t',k',e,O',h'⟩:=pop_ok hp r a (off_pop hp O h)
   exact ⟨t',k',by simp only [popTo,if_pos h];exact e,O',h'⟩
  ·refine ⟨t,a::r,by simp only [popTo,if_neg h],O,fun z r' e=>?_⟩
   cases e;omega
theorem push_lf {m p:Pt}:∀ (k:List Pt) (t:Pt),Dn m (t::k)->Conv (t::k)->(∀ x∈t::k,fn m x < fn m p)->(∀ z r,k=z::r->0<=cr z t p)->Lf p (t::k)
 | [],t,_,_,_,_=>trivial
 | z::r,t,hd,hc,hx,h=>by
  refine ⟨h z r rfl,push_lf r z (List.pairwise_cons.mp hd).2 (conv_tail hc) (fun x hx'=>hx x (List.mem_cons_of_mem _ hx')) fun y r' e=>?_⟩
  subst e
  have h1:0 < cr y z t:=hc.1
  have hzt:fn m z < fn m t:=(List.pairwise_cons.mp hd).1 z List.mem_cons_self
  have hyz:fn m y < fn m z:=(List.pairwise_cons.mp (List.pairwise_cons.mp hd).2).1 y List.mem_cons_self
  have hzp:=hx z (by simp)
  have i:=id_fou m y z t p
  have g1:0<=(fn m p - fn m z)*cr y z t:=Int.mul_nonneg (by omega) (by omega)
  have g2:0<=(fn m z - fn m y)*cr z t p:=Int.mul_nonneg (by omega) (h z (y::r') rfl)
  exact nonneg_of (f:=fn m t - fn m z) (by omega) (by omega)
structure Ch (m:Pt) (D:List Pt) (p0 t:Pt) (k:List Pt):Prop where
 dn:Dn m (t::k)
 cv:Conv (t::k)
 lf:∀ q∈D,Lf q (t::k)
 sb:∀ x∈t::k,x∈D
 ls:(t::k).getLast?=some p0
 hi:∀ q∈D,q ≠ t->fn m q < fn m t
 lo:∀ q∈D,fn m p0<=fn m q
theorem ch_step {m p p0 t:Pt} {D k:List Pt} (C:Ch m D p0 t k) (hp:∀ q∈D,fn m q < fn m p):∃ k',popTo p (t::k)=k'/\Ch m (D++[p]) p0 p k':=by
 have O:Off m D p p0 t k:=⟨C.dn,C.cv,C.lf,C.sb,C.ls,fun q hq h=>by
  by_cases e:q=t
  ·subst e;rw [cr_self'];exact Int.le_refl _
  ·have:=C.hi q hq e;omega⟩
 obtain ⟨t',k',e,O',h'⟩:=pop_ok hp k t O
 have hall:∀ q∈D,0<=cr t' p q:=fun q hq=>by
  rcases Int.lt_or_le (fn m q) (fn m t') with h | h
  ·cases k' with
   | nil=>
    have:t'=p0:=by simpa using O'.ls
    subst this
    have:=C.lo q hq
    omega
   | cons z r=>
    have hz:=h' z r rfl
    have hzt:fn m z < fn m t':=(List.pairwise_cons.mp O'.dn).1 z List.mem_cons_self
    have h1:0<=cr z t' q:=(O'.lf q hq).1
    have htp:=hp t' (O'.sb t' (by simp))
    have i:=id_thr m z t' p q
    have g1:0<=(fn m p - fn m t')*cr z t' q:=Int.mul_nonneg (by omega) h1
    have g2:(fn m q - fn m t')*cr z t' p<=0:=nonpos_mul (by omega) (by omega)
    exact nonneg_of (f:=fn m t' - fn m z) (by omega) (by omega)
  ·exact O'.ne q hq h
 refine ⟨_,e,List.pairwise_cons.mpr ⟨fun x hx=>hp x (O'.sb x hx),O'.dn⟩,?_,fun q hq=>?_,fun x hx=>?_,?_,fun q hq hne=>?_,fun q hq=>?_⟩
 ·cases k' with
  | nil=>trivial
  | cons z r=>exact ⟨h' z r rfl,O'.cv⟩
 ·rcases List.mem_append.mp hq with hq | hq
  ·exact ⟨hall q hq,O'.lf q hq⟩
  ·obtain rfl:=List.mem_singleton.mp hq
   refine ⟨by rw [cr_self];exact Int.le_refl _,push_lf (m:=m) k' t' O'.dn O'.cv (fun x hx=>hp x (O'.sb x hx)) fun z r e=>Int.le_of_lt (h' z r e)⟩
 ·rcases List.mem_cons.mp hx with rfl | hx
  ·simp
  ·exact List.mem_append_left _ (O'.sb x hx)
 ·have:=O'.ls
  simpa using this
 ·rcases List.mem_append.mp hq with hq | hq
  ·exact hp q hq
  ·exact absurd (List.mem_singleton.mp hq) hne
 ·rcases List.mem_append.mp hq with hq | hq
  ·exact C.lo q hq
  ·obtain rfl:=List.mem_singleton.mp hq
   have hh:p0∈D:=O'.sb p0 (List.mem_of_getLast? O'.ls)
   exact Int.le_of_lt (hp p0 hh)
theorem ch_fold {m p0:Pt}:∀ (l D:List Pt) (t:Pt) (k:List Pt),Ch m D p0 t k->(D++l).Pairwise (fun a b=>fn m a < fn m b) →
  ∃ t' k',l.foldl (fun k p=>p::popTo p k) (t::k)=t'::k'/\Ch m (D++l) p0 t' k'/\(l ≠ []->l.getLast?=some t')/\(l=[]->t'=t)
 | [],D,t,k,C,_=>⟨t,k,rfl,by simpa using C,fun h=>absurd rfl h,fun _=>rfl⟩
 | p::l,D,t,k,C,hs=>by
  have hp:∀ q∈D,fn m q < fn m p:=fun q hq=>(List.pairwise_append.mp hs).2.2 q hq p List.mem_cons_self
  obtain ⟨k',e,C'⟩:=ch_step C hp
  obtain ⟨t',k2,e2,C2,h1,h2⟩:=ch_fold l (D++[p]) p k' C' (by simpa using hs)
  refine ⟨t',k2,by rw [List.foldl_cons,e];exact e2,by simpa using C2,fun _=>?_,fun h=>nomatch h⟩
  cases l with
  | nil=>rw [h2 rfl];rfl
  | cons x l=>simpa using h1 (by simp)
theorem chS_ok {m p0:Pt} {l:List Pt} (hs:(p0::l).Pairwise (fun a b=>fn m a < fn m b)):∃ t k,chS (p0::l)=t::k/\Ch m (p0::l) p0 t k/\(p0::l).getLast?=some t:=by
 have C0:Ch m [p0] p0 p0 []:=⟨List.pairwise_singleton _ _,trivial,fun q hq=>trivial,fun x hx=>hx,rfl,fun q hq hne=>absurd (List.mem_singleton.mp hq) hne,fun q hq=>by rw [List.mem_singleton.mp hq];exact Int.le_refl _⟩
 obtain ⟨t,k,e,C,h1,h2⟩:=ch_fold l [p0] p0 [] C0 hs
 refine ⟨t,k,e,C,?_⟩
 cases l with
 | nil=>rw [h2 rfl];rfl
 | cons x l=>simpa using h1 (by simp)
end Law
namespace Law
open L2 DL
theorem id_las (m a v u w:Pt):(fn m a - fn m v)*cr u v w=(fn m w - fn m v)*cr u v a - (fn m v - fn m u)*cr v w a:=by unfold cr fn;grind
structure Chain (m:Pt) (S C:List Pt):Prop where
 left:∀ i (h:i + 1 < C.length),∀ q∈S,0<=cr C[i] C[i + 1] q
 conv:∀ i (h:i + 2 < C.length),0 < cr C[i] C[i + 1] C[i + 2]
 up:∀ i j (hi:i < C.length) (hj:j < C.length),i < j->fn m C[i] < fn m C[j]
 sub:∀ x∈C,x∈S
 lo:∀ q∈S,∀ h:0 < C.length,fn m C[0]<=fn m q
 hi:∀ q∈S,∀ h:C.length - 1 < C.length,fn m q<=fn m C[C.length - 1]
theorem lf_idx {q:Pt}:∀ (k:List Pt),Lf q k->∀ i (h:i + 1 < k.length),0<=cr k[i + 1] k[i] q
 | [],_,i,h=>by simp at h
 | [a],_,i,h=>by simp at h
 | b::a::r,hl,0,h=>hl.1
 | b::a::r,hl,i + 1,h=>lf_idx (a::r) hl.2 i (by simpa using h)
theorem conv_idx:∀ (k:List Pt),Conv k->∀ i (h:i + 2 < k.length),0 < cr k[i + 2] k[i + 1] k[i]
 | [],_,i,h=>by simp at h
 | [a],_,i,h=>by simp at h
 | [a,b],_,i,h=>absurd h (by simp only [List.length_cons,List.length_nil];omega)
 | c::b::a::r,hl,0,h=>hl.1
 | c::b::a::r,hl,i + 1,h=>conv_idx (b::a::r) hl.2 i (by simpa using h)
theorem chain_of {m p0 t:Pt} {S k:List Pt} (C:Ch m S p0 t k):Chain m S (t::k).reverse:=by
 have hr:∀ i (h:i < (t::k).reverse.length),(t::k).reverse[i]=(t::k)[(t::k).length - 1 - i]'(by simp at h ⊢;omega):=fun i h=>List.getElem_reverse h
 have hdn:=List.pairwise_iff_getElem.mp C.dn
 refine ⟨fun i h q hq=>?_,fun i h=>?_,fun i j hi hj hij=>?_,fun x hx=>C.sb x (List.mem_reverse.mp hx),fun q hq h=>?_,fun q hq h=>?_⟩
 ·rw [hr,hr]
  simp only [List.length_reverse] at h
  have:=lf_idx _ (C.lf q hq) ((t::k).length - 1 - (i + 1)) (by omega)
  have e:(t::k).length - 1 - (i + 1) + 1=(t::k).length - 1 - i:=by omega
  simpa only [e] using this
 ·rw [hr,hr,hr]
  simp only [List.length_reverse] at h
  have:=conv_idx _ C.cv ((t::k).length - 1 - (i + 2)) (by omega)
  have e:(t::k).length - 1 - (i + 2) + 1=(t::k).length - 1 - (i + 1):=by omega
  have e2:(t::k).length - 1 - (i + 2) + 2=(t::k).length - 1 - i:=by omega
  simpa only [e,e2] using this
 ·rw [hr,hr]
  simp only [List.length_reverse] at hi hj
  exact hdn _ _ (by omega) (by omega) (by omega)
 ·have e:(t::k).reverse[0]=p0:=by
   have h1:=C.ls
   rw [<-List.head?_reverse] at h1
   rw [List.head?_eq_getElem?,List.getElem?_eq_getElem h] at h1
   exact Option.some.inj h1
  rw [e];exact C.lo q hq
 ·have e:(t::k).reverse[(t::k).reverse.length - 1]=t:=by
   rw [hr]
   simp
  rw [e]
  by_cases hqt:q=t
  ·rw [hqt];exact Int.le_refl _
  ·exact Int.le_of_lt (C.hi q hq hqt)
theorem strict {m m':Pt} {S C C':List Pt} (A:Chain m S C) (A':Chain m' S C') (hc:1 < C.length) (hc':1 < C'.length) (e1:C'[0]=C[C.length - 1]) (e2:C'[C'.length - 1]=C[0])
  (inj:∀ a∈S,∀ b∈S,fn m a=fn m b->a=b) {i:Nat} (hi:i + 1 < C.length) {v:Pt} (hv:v∈C\/v∈C') (h1:v ≠ C[i]) (h2:v ≠ C[i + 1]):0 < cr C[i] C[i + 1] v:=by
 have hvS:v∈S:=by
  rcases hv with h | h
  ·exact A.sub v h
  ·exact A'.sub v h
 have haS:C[i]∈S:=A.sub _ (List.getElem_mem _)
 have hbS:C[i + 1]∈S:=A.sub _ (List.getElem_mem _)
 have hge:=A.left i hi v hvS
 have hab:=A.up i (i + 1) (by omega) hi (by omega)
 rcases Int.lt_or_eq_of_le hge with h | h
 ·exact h
 exfalso
 have h0:cr C[i] C[i + 1] v=0:=h.symm
 have na:fn m v ≠ fn m C[i]:=fun e=>h1 (inj _ hvS _ haS e)
 have nb:fn m v ≠ fn m C[i + 1]:=fun e=>h2 (inj _ hvS _ hbS e)
 rcases Int.lt_or_le (fn m C[i + 1]) (fn m v) with hgt | hle
 ·rcases Nat.lt_or_ge (i + 2) C.length with hl | hl
  ·have c1:=A.conv i hl
   have c2:=A.left (i + 1) hl v hvS
   have id:=id_fou m C[i] C[i + 1] C[i + 2] v
   rw [h0,Int.mul_zero] at id
   have g1:0 < (fn m v - fn m C[i + 1])*cr C[i] C[i + 1] C[i + 2]:=Int.mul_pos (by omega) c1
   have g2:0<=(fn m C[i + 1] - fn m C[i])*cr C[i + 1] C[i + 2] v:=Int.mul_nonneg (by omega) c2
   omega
  ·have:=A.hi v hvS (by omega)
   have e:C.length - 1=i + 1:=by omega
   simp only [e] at this
   omega
 rcases Int.lt_or_le (fn m v) (fn m C[i]) with hlt | hge2
 ·cases i with
  | zero=>have:=A.lo v hvS (by omega);omega
  | succ i=>
   have c1:=A.conv i (by omega)
   have c2:=A.left i (by omega) v hvS
   have hzt:=A.up i (i + 1) (by omega) (by omega) (by omega)
   have id:=id_thr m C[i] C[i + 1] C[i + 1 + 1] v
   rw [h0,Int.mul_zero] at id
   have g1:0<=(fn m C[i + 1 + 1] - fn m C[i + 1])*cr C[i] C[i + 1] v:=Int.mul_nonneg (by omega) c2
   have g2:(fn m v - fn m C[i + 1])*cr C[i] C[i + 1] C[i + 1 + 1] < 0:=Int.mul_neg_of_neg_of_pos (by omega) c1
   omega
 have hav:fn m C[i] < fn m v:=by omega
 have hvb:fn m v < fn m C[i + 1]:=by omega
 rcases hv with hv | hv
 ·obtain ⟨j,hj,rfl⟩:=List.getElem_of_mem hv
  rcases Nat.lt_trichotomy j i with h | h | h
  ·have:=A.up j i hj (by omega) h;omega
  ·subst h;omega
  ·rcases Nat.lt_or_ge (i + 1) j with h' | h'
   ·have:=A.up (i + 1) j hi hj h';omega
   ·have:j=i + 1:=by omega
    subst this;omega
 ·obtain ⟨j,hj,rfl⟩:=List.getElem_of_mem hv
  have hj0:j ≠ 0:=fun e=>by
   subst e
   rw [e1] at hvb
   have:=A.hi C[i + 1] hbS (by omega)
   omega
  have hjl:j ≠ C'.length - 1:=fun e=>by
   subst e
   rw [e2] at hav
   have:=A.lo C[i] haS (by omega)
   omega
  obtain ⟨j,rfl⟩:∃ j',j=j' + 1:=⟨j - 1,by omega⟩
  have hl:j + 2 < C'.length:=by omega
  have cv:=A'.conv j hl
  have l1:=A'.left j (by omega) C[i] haS
  have l2:=A'.left j (by omega) C[i + 1] hbS
  have l3:=A'.left (j + 1) hl C[i] haS
  have l4:=A'.left (j + 1) hl C[i + 1] hbS
  have i1:=id_bet m C[i] C[i + 1] C'[j + 1] C'[j] C'[j + 1]
  have i2:=id_bet m C[i] C[i + 1] C'[j + 1] C'[j + 1] C'[j + 2]
  rw [h0,cr_self,Int.mul_zero,Int.mul_zero] at i1
  rw [h0,cr_self',Int.mul_zero,Int.mul_zero] at i2
  have g1:0<=(fn m C[i + 1] - fn m C'[j + 1])*cr C'[j] C'[j + 1] C[i]:=Int.mul_nonneg (by omega) l1
  have g2:0<=(fn m C'[j + 1] - fn m C[i])*cr C'[j] C'[j + 1] C[i + 1]:=Int.mul_nonneg (by omega) l2
  have g3:0<=(fn m C[i + 1] - fn m C'[j + 1])*cr C'[j + 1] C'[j + 2] C[i]:=Int.mul_nonneg (by omega) l3
  have g4:0<=(fn m C'[j + 1] - fn m C[i])*cr C'[j + 1] C'[j + 2] C[i + 1]:=Int.mul_nonneg (by omega) l4
  have z1:cr C'[j] C'[j + 1] C[i]=0:=by
   have:(fn m C[i + 1] - fn m C'[j + 1])*cr C'[j] C'[j + 1] C[i]=0:=by omega
   rcases Int.mul_eq_zero.mp this with h | h
   ·omega
   ·exact h
  have z2:cr C'[j + 1] C'[j + 2] C[i]=0:=by
   have:(fn m C[i + 1] - fn m C'[j + 1])*cr C'[j + 1] C'[j + 2] C[i]=0:=by omega
   rcases Int.mul_eq_zero.mp this with h | h
   ·omega
   ·exact h
  have i3:=id_las m C[i] C'[j + 1] C'[j] C'[j + 2]
  rw [z1,z2,Int.mul_zero,Int.mul_zero] at i3
  rcases Int.mul_eq_zero.mp (show (fn m C[i] - fn m C'[j + 1])*cr C'[j] C'[j + 1] C'[j + 2]=0 by omega) with h | h
  ·omega
  ·omega
def pvP (H:List Pt) (k:Nat) (hk:k < H.length):Pt:=if h:k=0 then H[H.length - 1] else H[k - 1]
structure Round (S H:List Pt):Prop where
 left:∀ k (hk:k < H.length),∀ q∈S,0<=cr (pvP H k hk) H[k] q
 strict:∀ k (hk:k < H.length),∀ v∈H,v ≠ pvP H k hk->v ≠ H[k]->0 < cr (pvP H k hk) H[k] v
 sub:∀ x∈H,x∈S
 fst:∀ k (hk:k < H.length),0 < k->H[k] ≠ H[0]
 two:∀ h:H.length=2,∀ q∈S,cr H[0] H[1] q=0/\∃ m:Pt,fn m H[0]<=fn m q/\fn m q<=fn m H[1]/\S.Pairwise fun a b=>fn m a < fn m b
 len:2<=H.length
def hullL (S:List Pt):List Pt:=(chS S).reverse.dropLast++(chS S.reverse).reverse.dropLast
def neg (m:Pt):Pt:=(-m.1,-m.2)
theorem fn_neg (m p:Pt):fn (neg m) p=-fn m p:=by unfold fn neg;grind
theorem round_of {m p0 p1:Pt} {l:List Pt} (hs:(p0::p1::l).Pairwise (fun a b=>fn m a < fn m b)):Round (p0::p1::l) (hullL (p0::p1::l))/\∀ h:0 < (hullL (p0::p1::l)).length,(hullL (p0::p1::l))[0]=p0:=by
 obtain ⟨t,k,e,C,hl⟩:=chS_ok hs
 generalize hS:p0::p1::l=S at *
 have hrev:S.reverse.Pairwise (fun a b=>fn (neg m) a < fn (neg m) b):=by
  rw [List.pairwise_reverse]
  exact hs.imp fun h=>by rw [fn_neg,fn_neg];omega
 obtain ⟨z,r,hr⟩:∃ z r,S.reverse=z::r:=by
  cases h:S.reverse with
  | nil=>rw [List.reverse_eq_nil_iff] at h;rw [h] at hS;exact nomatch hS
  | cons z r=>exact ⟨z,r,rfl⟩
 have hz:z=t:=by
  have h1:S.reverse.head?=some z:=by rw [hr];rfl
  rw [List.head?_reverse,hl] at h1
  exact (Option.some.inj h1).symm
 subst hz
 rw [hr] at hrev
 obtain ⟨t',k',e',C',hl'⟩:=chS_ok hrev
 have ht':t'=p0:=by
  rw [<-hr,List.getLast?_reverse,<-hS] at hl'
  exact (Option.some.inj hl').symm
 subst ht'
 have A:=chain_of C
 have A':Chain (neg m) S (t'::k').reverse:=by
  have B:=chain_of C'
  have hm:∀ q,q∈z::r ↔ q∈S:=fun q=>by rw [<-hr];exact List.mem_reverse
  exact ⟨fun i h q hq=>B.left i h q ((hm q).mpr hq),B.conv,B.up,fun x hx=>(hm x).mp (B.sub x hx),fun q hq h=>B.lo q ((hm q).mpr hq) h,fun q hq h=>B.hi q ((hm q).mpr hq) h⟩
 have eL0:(z::k).reverse.head?=some t':=by rw [List.head?_reverse];exact C.ls
 have eU0:(t'::k').reverse.head?=some z:=by rw [List.head?_reverse];exact C'.ls
 have eL1:(z::k).reverse.getLast?=some z:=by rw [List.getLast?_reverse];rfl
 have eU1:(t'::k').reverse.getLast?=some t':=by rw [List.getLast?_reverse];rfl
 have hzS:z∈S:=C.sb z List.mem_cons_self
 have htS:t'∈S:=by rw [<-hS];exact List.mem_cons_self
 have inj:∀ a∈S,∀ b∈S,fn m a=fn m b->a=b:=fun a ha b hb hab=>by
  obtain ⟨i,hi,rfl⟩:=List.getElem_of_mem ha
  obtain ⟨j,hj,rfl⟩:=List.getElem_of_mem hb
  have hp:=List.pairwise_iff_getElem.mp hs
  rcases Nat.lt_trichotomy i j with h | h | h
  ·have:=hp i j hi hj h;omega
  ·subst h;rfl
  ·have:=hp j i hj hi h;omega
 have hne:t' ≠ z:=fun h=>by
  have h1:p1∈S:=by rw [<-hS];simp
  have h2:fn m t' < fn m p1:=by rw [<-hS] at hs;exact (List.pairwise_cons.mp hs).1 p1 List.mem_cons_self
  by_cases h3:p1=z
  ·rw [h3,<-h] at h2;omega
  ·have:=C.hi p1 h1 h3;rw [<-h] at this;omega
 have eH:hullL S=(z::k).reverse.dropLast++(t'::k').reverse.dropLast:=by unfold hullL;rw [e,hr,e']
 rw [eH]
 generalize (z::k).reverse=L at *
 generalize (t'::k').reverse=U at *
 have lenOf:∀ {l:List Pt} {a b:Pt},l.head?=some a->l.getLast?=some b->a ≠ b->1 < l.length:=fun {l a b} h1 h2 h3=>by
  match l with
  | []=>simp at h1
  | [x]=>simp at h1 h2;exact absurd (h1.symm.trans h2) h3
  | _::_::_=>simp
 have hL:=lenOf eL0 eL1 hne
 have hU:=lenOf eU0 eU1 (Ne.symm hne)
 have gL0:L[0]=t':=by rw [List.head?_eq_getElem?,List.getElem?_eq_getElem (by omega)] at eL0;exact Option.some.inj eL0
 have gU0:U[0]=z:=by rw [List.head?_eq_getElem?,List.getElem?_eq_getElem (by omega)] at eU0;exact Option.some.inj eU0
 have gL1:L[L.length - 1]=z:=by rw [List.getLast?_eq_getElem?,List.getElem?_eq_getElem (by omega)] at eL1;exact Option.some.inj eL1
 have gU1:U[U.length - 1]=t':=by rw [List.getLast?_eq_getElem?,List.getElem?_eq_getElem (by omega)] at eU1;exact Option.some.inj eU1
 have inj':∀ a∈S,∀ b∈S,fn (neg m) a=fn (neg m) b->a=b:=fun a ha b hb hab=>inj a ha b hb (by rw [fn_neg,fn_neg] at hab;omega)
 have hlen:(L.dropLast++U.dropLast).length=L.length - 1 + (U.length - 1):=by simp
 have at1:∀ i (h:i < (L.dropLast++U.dropLast).length) (h':i < L.length - 1),(L.dropLast++U.dropLast)[i]=L[i]:=fun i h h'=>by
  rw [List.getElem_append_left (by simpa using h'),List.getElem_dropLast]
 have at2:∀ i (h:i < (L.dropLast++U.dropLast).length) (h':L.length - 1<=i),(L.dropLast++U.dropLast)[i]=U[i - (L.length - 1)]'(by rw [hlen] at h;omega):=fun i h h'=>by
  rw [List.getElem_append_right (by simpa using h'),List.getElem_dropLast]
  simp
 have hvm:∀ v∈L.dropLast++U.dropLast,v∈L\/v∈U:=fun v hv=>by
  rcases List.mem_append.mp hv with h | h
  ·exact .inl ((List.dropLast_sublist _).subset h)
  ·exact .inr ((List.dropLast_sublist _).subset h)
 -- each side is a side of one of the chains
 have side:∀ k (hk:k < (L.dropLast++U.dropLast).length),(∃ i,∃ hi:i + 1 < L.length,pvP (L.dropLast++U.dropLast) k hk=L[i]/\(L.dropLast++U.dropLast)[k]=L[i + 1]) ∨
   (∃ i,∃ hi:i + 1 < U.length,pvP (L.dropLast++U.dropLast) k hk=U[i]/\(L.dropLast++U.dropLast)[k]=U[i + 1]):=fun k hk=>by
  unfold pvP
  by_cases h0:k=0
  ·subst h0
   right
   refine ⟨U.length - 2,by omega,?_,?_⟩
   ·rw [dif_pos rfl]
    simp only [hlen]
    rw [at2 _ _ (by omega)]
    congr 1;omega
   ·rw [at1 _ _ (by omega),gL0,<-gU1]
    congr 1;omega
  ·rw [dif_neg h0]
   rcases Nat.lt_or_ge (L.length - 1) k with h | h
   ·right
    refine ⟨k - 1 - (L.length - 1),by omega,?_,?_⟩
    ·rw [at2 _ _ (by omega)]
    ·rw [at2 _ _ (by omega)]
     congr 1;omega
   ·left
    refine ⟨k - 1,by omega,?_,?_⟩
    ·rw [at1 _ _ (by omega)]
    ·rcases Nat.lt_or_ge k (L.length - 1) with h' | h'
     ·rw [at1 _ _ h']
      congr 1;omega
     ·have:k=L.length - 1:=by omega
      subst this
      rw [at2 _ _ (by omega)]
      have e1:L.length - 1 - (L.length - 1)=0:=by omega
      have e2:L.length - 1 - 1 + 1=L.length - 1:=by omega
      simp only [e1,e2]
      rw [gU0,gL1]
 refine ⟨⟨fun k hk q hq=>?_,fun k hk v hv h1 h2=>?_,fun x hx=>?_,fun k hk h0=>?_,fun h2 q hq=>?_,by rw [hlen];omega⟩,fun h=>by rw [at1 _ _ (by omega),gL0]⟩
 ·rcases side k hk with ⟨i,hi,ea,eb⟩ | ⟨i,hi,ea,eb⟩
  ·rw [ea,eb];exact A.left i hi q hq
  ·rw [ea,eb];exact A'.left i hi q hq
 ·rcases side k hk with ⟨i,hi,ea,eb⟩ | ⟨i,hi,ea,eb⟩
  ·rw [ea,eb]
   exact strict A A' hL hU (by rw [gU0,gL1]) (by rw [gU1,gL0]) inj hi (hvm v hv) (by rw [<-ea];exact h1) (by rw [<-eb];exact h2)
  ·rw [ea,eb]
   exact strict A' A hU hL (by rw [gL0,gU1]) (by rw [gL1,gU0]) inj' hi ((hvm v hv).symm) (by rw [<-ea];exact h1) (by rw [<-eb];exact h2)
 ·rcases hvm x hx with h | h
  ·exact A.sub x h
  ·exact A'.sub x h
 ·rw [at1 0 (by omega) (by omega),gL0]
  rcases Nat.lt_or_ge k (L.length - 1) with h' | h'
  ·rw [at1 _ _ h']
   intro h3
   have:=A.up 0 k (by omega) (by omega) h0
   rw [gL0,h3] at this
   omega
  ·rw [at2 _ _ h']
   intro h3
   have:=A'.up (k - (L.length - 1)) (U.length - 1) (by rw [hlen] at hk;omega) (by omega) (by rw [hlen] at hk;omega)
   rw [gU1,h3] at this
   omega
 ·have hL2:L.length=2:=by omega
  have hU2:U.length=2:=by omega
  have x0:(L.dropLast++U.dropLast)[0]=t':=by rw [at1 _ _ (by omega),gL0]
  have x1:(L.dropLast++U.dropLast)[1]=z:=by
   rw [at2 _ _ (by omega)]
   simp only [hL2]
   exact gU0
  have y0:=A.left 0 (by omega) q hq
  have y1:=A'.left 0 (by omega) q hq
  have gl1:L[1]=z:=by simpa only [hL2] using gL1
  have gu1:U[1]=t':=by simpa only [hU2] using gU1
  simp only [Nat.zero_add] at y0 y1
  rw [gL0,gl1] at y0
  rw [gU0,gu1,cr_swap] at y1
  rw [x0,x1]
  refine ⟨by omega,m,?_,?_,hs⟩
  ·have:=A.lo q hq (by omega);rwa [gL0] at this
  ·have:=A.hi q hq (by omega);rwa [gL1] at this
end Law
namespace Law
open L2 DL
def sptT (p:Pt):T:=spT (asV p)
theorem pur_sptT (p:Pt):pur (sptT p)=true:=rfl
theorem szs_of {n:Nat} {p:Pt} (h:SzF n p) (hn:1<=n):SzS n (asV p):=⟨⟨h.1,⟨by show 1 < 2 ^ n;exact Nat.one_lt_two_pow (by omega)⟩⟩,h.2,⟨by show 1 < 2 ^ n;exact Nat.one_lt_two_pow (by omega)⟩⟩
theorem _root_.DL.SzF.mono3 {n m:Nat} {p:Pt} (h:SzF n p) (l:n<=m):SzF m p:=⟨h.1.mono l,h.2.mono l⟩
def sp_chain:DSpec:=fun ss R=>∃ ps:List Pt,ss=[.t (.lst (ps.map sptT))]/\ps.length<=1000/\(∀ p∈ps,SzF 120 p)/\R (.ol ((chS ps).reverse.map sptT))
def w_chain:WS:=
 (wSeq (wSet 1 (wLst wNil))
 (wSeqM (wFor (wiList (wVar 0)) (wgName 2) (wSeqM (wWhile (wT1 (wAndT (wB (wGt (wCB fLen (wCons (wVar 1) wNil)) (wC (.int 1)))) (wB (wLe (wCall sp_turn (wCons (wOp2 fIx (wVar 1) (wUn fNeg (wC (.int 2)))) (wCons (wOp2 fIx (wVar 1) (wUn fNeg (wC (.int 1)))) (wCons (wVar 2) wNil)))) (wC (.int 0)))))) (wPop 1))
 (wAppend 1 (wVar 2))))
 (wRetV 1)))
theorem len_chain:∀ ss R,sp_chain ss R->ss.length=1:=by rintro ss R ⟨a,rfl,_⟩;rfl
theorem pop_sub {p:Pt}:∀ k:List Pt,∀ x∈popTo p k,x∈k
 | [],x,h=>h
 | [b],x,h=>h
 | b::a::r,x,h=>by
  simp only [popTo] at h
  split at h
  ·exact List.mem_cons_of_mem _ (pop_sub (a::r) x h)
  ·exact h
theorem pop_len {p:Pt}:∀ k:List Pt,(popTo p k).length<=k.length
 | []=>Nat.le_refl _
 | [b]=>Nat.le_refl _
 | b::a::r=>by
  simp only [popTo]
  split
  ·exact Nat.le_succ_of_le (pop_len (a::r))
  ·exact Nat.le_refl _
theorem chS_snoc (l:List Pt) (p:Pt):chS (l++[p])=p::popTo p (chS l):=by unfold chS;rw [List.foldl_append];rfl
theorem fold_sub (p:List Pt):∀ (k:List Pt),(∀ x∈p.foldl (fun k p=>p::popTo p k) k,x∈k\/x∈p)/\(p.foldl (fun k p=>p::popTo p k) k).length<=k.length + p.length:=by
 induction p with
 | nil=>exact fun k=>⟨fun x h=>.inl h,Nat.le_refl _⟩
 | cons a p ih=>
  intro k
  obtain ⟨h1,h2⟩:=ih (a::popTo a k)
  refine ⟨fun x hx=>?_,?_⟩
  ·rcases h1 x hx with h | h
   ·rcases List.mem_cons.mp h with rfl | h
    ·exact .inr List.mem_cons_self
    ·exact .inl (pop_sub _ x h)
   ·exact .inr (List.mem_cons_of_mem _ h)
  ·have:=pop_len (p:=a) k
   rw [List.foldl_cons]
   simp only [List.length_cons] at h2 ⊢
   omega
theorem chS_sub (l:List Pt):∀ x∈chS l,x∈l:=fun x hx=>((fold_sub l []).1 x hx).resolve_left (by simp)
theorem chS_len (l:List Pt):(chS l).length<=l.length:=by have:=(fold_sub l []).2;simpa [chS] using this
theorem ix_m2 (l:List T) (a b:T):atI (l++[a,b]) (-2)=some a:=by
 have e:ixN (l++[a,b]).length (-2)=some l.length:=by
  unfold ixN
  rw [List.length_append,List.length_cons,List.length_cons,List.length_nil,if_neg (by decide),if_pos (by omega)]
  congr 1;omega
 unfold atI
 rw [e]
 simp
theorem av_m1 {l:List T} {b:Pt} {R:S->Prop}:atV (l++[sptT b]) (-1) R=R (.t (sptT b)):=by rw [atV_of (atI_last l _),norm_of (pur_sptT b)]
theorem av_m2 {l:List T} {a b:Pt} {R:S->Prop}:atV (l++[sptT a,sptT b]) (-2) R=R (.t (sptT a)):=by rw [atV_of (ix_m2 l _ _),norm_of (pur_sptT a)]
theorem ok_chain:∀ ss R,sp_chain ss R->w_chain { nx:=fun _=>R (.t .non),rt:=R } (startD ["spots","kept","spot"] ss):=by
 rintro ss R ⟨ps,rfl,hl,hz,h⟩
 show w_chain _ [some (.t (.lst (ps.map sptT))),none,none]
 unfold w_chain
 walk_at "dl"
 refine ⟨fun δ=>∃ r,δ=[some (.t (.lst (ps.map sptT))),some (.ol ((chS ps).reverse.map sptT)),r],?_,?_⟩
 ·refine ⟨fun ts δ=>∃ pre post r,ps=pre++post/\ts=post.map sptT/\δ=[some (.t (.lst (ps.map sptT))),some (.ol ((chS pre).reverse.map sptT)),r],⟨[],ps,_,rfl,rfl,rfl⟩,?_,?_⟩
  ·rintro δ ⟨pre,post,r,e1,e2,rfl⟩
   have:post=[]:=by simpa using e2.symm
   subst this
   rw [List.append_nil] at e1
   subst e1
   exact ⟨r,rfl⟩
  ·rintro x ts δ ⟨pre,post,r,e1,e2,rfl⟩
   cases post with
   | nil=>cases e2
   | cons p post=>
    rw [List.map_cons] at e2
    cases e2
    have hpz:SzF 120 p:=hz p (by rw [e1];simp)
    have hprz:∀ x∈chS pre,SzF 120 x:=fun x hx=>hz x (by rw [e1];exact List.mem_append_left _ (chS_sub pre x hx))
    have hlp:(chS pre).length<=1000:=by
     have:=chS_len pre
     have:ps.length=pre.length + (post.length + 1):=by rw [e1];simp
     omega
    walk_at "dl"
    refine ⟨fun δ=>δ=[some (.t (.lst (ps.map sptT))),some (.ol ((popTo p (chS pre)).reverse.map sptT)),some (.t (sptT p))],?_,?_⟩
    ·refine ⟨fun n δ=>∃ k,k.length=n/\popTo p k=popTo p (chS pre)/\(∀ x∈k,SzF 120 x)/\δ=[some (.t (.lst (ps.map sptT))),some (.ol (k.reverse.map sptT)),some (.t (sptT p))],⟨_,chS pre,rfl,rfl,hprz,rfl⟩,?_⟩
     rintro n δ ⟨k,hk,hpop,hkz,rfl⟩
     have base:popTo p k=k->(fun δ=>δ=[some (S.t (.lst (ps.map sptT))),some (.ol ((popTo p (chS pre)).reverse.map sptT)),some (.t (sptT p))]) [some (.t (.lst (ps.map sptT))),some (.ol (k.reverse.map sptT)),some (.t (sptT p))]:=fun e=>by
      rw [<-hpop,e]
     match k,hk,hpop,hkz,base with
     | [],hk,hpop,hkz,base=>
      refine ⟨fun k=>k=false,?_,?_⟩
      ·walk_at "dl"
       first | trivial | (rw [if_neg (by simp)];trivial)
      ·rintro k rfl
       rw [if_neg (by decide)]
       exact base rfl
     | [b],hk,hpop,hkz,base=>
      refine ⟨fun k=>k=false,?_,?_⟩
      ·walk_at "dl"
       first | trivial | (rw [if_neg (by simp)];trivial)
      ·rintro k rfl
       rw [if_neg (by decide)]
       exact base rfl
     | b::a::r,hk,hpop,hkz,base=>
      have el:(b::a::r).reverse.map sptT=(r.reverse.map sptT)++[sptT a,sptT b]:=by simp
      have el2:(b::a::r).reverse.map sptT=((a::r).reverse.map sptT)++[sptT b]:=by simp
      refine ⟨fun k=>k=decide (cr a b p<=0),?_,?_⟩
      ·walk_at "dl"
       rw [if_pos (by simp;omega)]
       walk_at "dl"
       rw [el,av_m2]
       walk_at "dl"
       rw [<-el,el2,av_m1]
       walk_at "dl"
       refine ⟨asV a,asV b,asV p,rfl,szs_of ((hkz a (by simp)).mono3 (by decide)) (by decide),szs_of ((hkz b (by simp)).mono3 (by decide)) (by decide),szs_of (hpz.mono3 (by decide)) (by decide),?_⟩
       walk_at "dl"
       rw [show tuV (asV a) (asV b) (asV p)=cr a b p from tuI_cr a b p]
      ·rintro k rfl
       by_cases hc:cr a b p<=0
       ·rw [if_pos (by simpa using hc)]
        walk_at "dl"
        refine ⟨by simp,r.length + 1,by simp at hk;omega,a::r,rfl,?_,fun x hx=>hkz x (List.mem_cons_of_mem _ hx),?_⟩
        ·rw [<-hpop];simp only [popTo,if_pos hc]
        ·rw [el2,List.dropLast_concat]
       ·rw [if_neg (by simpa using hc)]
        exact base (by simp only [popTo,if_neg hc])
    ·rintro δ rfl
     walk_at "dl"
     refine ⟨?_,pre++[p],post,some (.t (sptT p)),by rw [e1];simp,rfl,?_⟩
     ·rw [List.length_map,List.length_reverse]
      have:=pop_len (p:=p) (chS pre)
      omega
     ·rw [chS_snoc,List.reverse_cons,List.map_append];rfl
 ·rintro δ ⟨r,rfl⟩
  walk_at "dl"
  exact h
end Law
namespace Law
open L2 DL
def plL (p:Pt):List Int:=[p.1,p.2]
def LexP (a b:Pt):Prop:=a.1 < b.1\/(a.1=b.1/\a.2 < b.2)
def hullV (S:List Pt):List Pt:=if S.length < 2 then S else hullL S
def SetOf (ps S:List Pt):Prop:=(∀ p∈S,p∈ps)/\(∀ p∈ps,p∈S)/\S.Pairwise LexP
theorem lex_pl (a b:Pt):ST.lexB (plL a) (plL b)=true ↔ LexP a b:=by
 unfold LexP plL
 simp only [ST.lexB]
 by_cases h:a.1=b.1
 ·rw [if_pos h]
  by_cases h2:a.2=b.2
  ·rw [if_pos h2];constructor
   ·intro h;cases h
   ·intro h;omega
  ·rw [if_neg h2,decide_eq_true_eq];omega
 ·rw [if_neg h,decide_eq_true_eq];omega
theorem pl_list {ps:List Pt}:∀ ns:List (List Int),(∀ k∈ns,k∈ps.map plL)->∃ S:List Pt,ns=S.map plL/\∀ p∈S,p∈ps
 | [],_=>⟨[],rfl,fun p hp=>by cases hp⟩
 | k::ns,h=>by
  obtain ⟨S,e,hs⟩:=pl_list ns fun k hk=>h k (List.mem_cons_of_mem _ hk)
  obtain ⟨p,hp,rfl⟩:=List.mem_map.mp (h k List.mem_cons_self)
  exact ⟨p::S,by rw [e];rfl,fun q hq=>by
   rcases List.mem_cons.mp hq with rfl | hq
   ·exact hp
   ·exact hs q hq⟩
theorem pl_inj {a b:Pt} (h:plL a=plL b):a=b:=by
 unfold plL at h
 simp only [List.cons.injEq,and_true] at h
 exact Prod.ext h.1 h.2
def sp_hull:DSpec:=fun ss R=>∃ ps:List Pt,ss=[.t (.lst (ps.map ptT))]/\ps.length<=63/\(∀ p∈ps,SzF 120 p)/\∀ S:List Pt,SetOf ps S->R (.ol ((hullV S).map sptT))
def w_hull:WS:=
 (wSeq (wSet 1 (wComp 1 [] (wiList (wSortSet (wVar 0))) (wgName 0) wYes (wCall sp_as_spot (wCons (wVar 0) wNil))))
 (wSeq (wIf (wB (wLt (wCB fLen (wCons (wVar 1) wNil)) (wC (.int 2)))) (wRetV 1) wNext)
 (wSeq (wSet 2 (wCall sp_chain (wCons (wVar 1) wNil)))
 (wSeq (wSet 3 (wCall sp_chain (wCons (wListRev (wVar 1)) wNil)))
 (wRet (wOp2 fCat (wSlice (wVar 2) wPart0 (wPart (wUn fNeg (wC (.int 1))))) (wSlice (wVar 3) wPart0 (wPart (wUn fNeg (wC (.int 1)))))))))))
theorem len_hull:∀ ss R,sp_hull ss R->ss.length=1:=by rintro ss R ⟨a,rfl,_⟩;rfl
theorem lex_nodup {S:List Pt} (h:S.Pairwise LexP):S.Nodup:=h.imp fun h e=>by subst e;unfold LexP at h;omega
theorem cut_last (ts:List T):cutT ts none (some (-1))=ts.dropLast:=by
 unfold cutT
 show (ts.drop 0).take (HT.sIx ts.length ts.length (some (-1)) - 0)=_
 have:HT.sIx ts.length ts.length (some (-1))=ts.length - 1:=by
  show (if (-1:Int) < 0 then ((-1:Int) + (ts.length:Int)).toNat else min (-1:Int).toNat ts.length)=_
  rw [if_pos (by decide)];omega
 rw [this,List.dropLast_eq_take];simp
theorem ok_hull:∀ ss R,sp_hull ss R->w_hull { nx:=fun _=>R (.t .non),rt:=R } (startD ["points","spots","under","above"] ss):=by
 rintro ss R ⟨ps,rfl,hl,hz,h⟩
 show w_hull _ [some (.t (.lst (ps.map ptT))),none,none,none]
 unfold w_hull
 walk_at "dl"
 refine ⟨2,ps.map plL,by decide,by rw [List.map_map];rfl,fun ks hk=>by obtain ⟨p,_,rfl⟩:=List.mem_map.mp hk;rfl,by rw [List.length_map];exact hl,fun ns n1 n2 n3=>?_⟩
 obtain ⟨S,rfl,hS⟩:=pl_list ns n1
 have hset:SetOf ps S:=⟨hS,fun p hp=>by
  obtain ⟨q,hq,e⟩:=List.mem_map.mp (n2 (plL p) (List.mem_map.mpr ⟨p,hp,rfl⟩))
  rw [<-pl_inj e];exact hq,by
  rw [List.pairwise_map] at n3
  exact n3.imp fun h=>(lex_pl _ _).mp h⟩
 have hSl:S.length<=63:=Nat.le_trans (List.Nodup.length_le_of_subset (lex_nodup hset.2.2) hset.1) hl
 have hSz:∀ p∈S,SzF 120 p:=fun p hp=>hz p (hS p hp)
 have e:(S.map plL).map tupI=S.map ptT:=by rw [List.map_map];rfl
 rw [e]
 walk_at "dl"
 refine comp_map (h:=sptT) (fun δ=>∃ r,δ=[r]) (fun p _=>pur_sptT p) (by omega) ⟨_,rfl⟩ ?_ ?_
 ·rintro p hp δ ⟨r,rfl⟩ Y hY
  walk_at "dl"
  refine ⟨p,rfl,?_⟩
  walk_at "dl"
  exact hY _ ⟨_,rfl⟩
 have hR:=h S hset
 unfold hullV at hR
 walk_at "dl"
 by_cases h2:S.length < 2
 ·rw [if_pos h2] at hR
  rw [if_pos (by rw [List.length_map];omega)]
  walk_at "dl"
  exact hR
 ·rw [if_neg h2] at hR
  rw [if_neg (by rw [List.length_map];omega)]
  walk_at "dl"
  refine ⟨S,rfl,by omega,hSz,?_⟩
  have pu:∀ l:List Pt,purs (l.map sptT)=true:=purs_map fun p=>pur_sptT p
  have g:∀ l:List Pt,got (.ol (l.map sptT))=.ol (l.map sptT):=fun l=>e_gotO _ (pu l)
  dsimp only
  rw [g]
  walk_at "dl"
  refine ⟨pu S,S.reverse,by rw [List.map_reverse],by rw [List.length_reverse];omega,fun p hp=>hSz p (List.mem_reverse.mp hp),?_⟩
  dsimp only
  rw [g]
  walk_at "dl"
  refine ⟨pu _,pu _,?_,?_⟩
  ·rw [cut_last,cut_last,List.length_dropLast,List.length_dropLast,List.length_map,List.length_map,List.length_reverse,List.length_reverse]
   have a1:=chS_len S
   have a2:=chS_len S.reverse
   rw [List.length_reverse] at a2
   omega
  ·rw [cut_last,cut_last,<-List.map_dropLast,<-List.map_dropLast,<-List.map_append]
   exact hR
end Law
namespace Law
open L2 DL
def dtV (a b c:Hf):Int:=a.1*(b.2.1*c.2.2 - c.2.1*b.2.2) - a.2.1*(b.1*c.2.2 - c.1*b.2.2) + a.2.2*(b.1*c.2.1 - c.1*b.2.1)
def bfV (a b:Hf):Bool:=if a.1*b.2.2 ≠ b.1*a.2.2 then decide (a.1*b.2.2 < b.1*a.2.2) else decide (a.2.1*b.2.2 < b.2.1*a.2.2)
def FrOk (s:Fr):Prop:=0 < s.2/\Int.gcd s.1 s.2=1
def SpOk (s:Spo):Prop:=FrOk s.1/\FrOk s.2
def sp_l_is_spot:DSpec:=fun ss R=>∃ s:Spo,ss=[.t (spT s)]/\SpOk s/\R (.t (.bl true))
def w_l_is_spot:WS:=
 (wSeq (wIf (wT1 (wOrT (wNotT (wB (wIs .tup (wVar 0)))) (wB (wNe (wCB fLen (wCons (wVar 0) wNil)) (wC (.int 2)))))) (wRet (wC (.bl false))) wNext)
 (wSeqM (wFor (wiTup (wVar 0)) (wgName 1) (wSeq (wIf (wT1 (wOrT (wNotT (wB (wIs .tup (wVar 1)))) (wOrT (wB (wNe (wCB fLen (wCons (wVar 1) wNil)) (wC (.int 2)))) (wOrT (wNotT (wB (wCall sp_l_whole (wCons (wOp2 fIx (wVar 1) (wC (.int 0))) wNil)))) (wNotT (wB (wCall sp_l_whole (wCons (wOp2 fIx (wVar 1) (wC (.int 1))) wNil)))))))) (wRet (wC (.bl false))) wNext)
 (wIf (wT1 (wOrT (wB (wLt (wOp2 fIx (wVar 1) (wC (.int 1))) (wC (.int 1)))) (wB (wNe (wCall sp_l_divisor (wCons (wOp2 fIx (wVar 1) (wC (.int 0))) (wCons (wOp2 fIx (wVar 1) (wC (.int 1))) wNil))) (wC (.int 1)))))) (wRet (wC (.bl false))) wNext)))
 (wRet (wC (.bl true)))))
theorem len_l_is_spot:∀ ss R,sp_l_is_spot ss R->ss.length=1:=by rintro ss R ⟨a,rfl,_⟩;rfl
theorem r_forN {g:WG} {wb:WS} {D:DEnds} {δ:DSt}:forW g wb [] D δ=D.nx δ:=rfl
theorem r_forC {g:WG} {wb:WS} {D:DEnds} {δ:DSt} {x:T} {r:List T}:forW g wb (x::r) D δ=g x δ fun δ1=>wb { nx:=fun δ2=>forW g wb r D δ2,rt:=D.rt,bk:=D.nx,ct:=fun δ2=>forW g wb r D δ2 } δ1:=rfl
theorem ok_l_is_spot:∀ ss R,sp_l_is_spot ss R->w_l_is_spot { nx:=fun _=>R (.t .non),rt:=R } (startD ["_law_found","_law_one"] ss):=by
 rintro ss R ⟨⟨⟨x,p⟩,⟨y,q⟩⟩,rfl,⟨⟨l1,l2⟩,⟨l3,l4⟩⟩,h⟩
 dsimp only at l1 l2 l3 l4
 show w_l_is_spot _ [some (.t (.tup [.tup [.int x,.int p],.tup [.int y,.int q]])),none]
 unfold w_l_is_spot
 walk_at "dl"
 refine ⟨fun k=>k=false,by walk_at "dl";simp,?_⟩
 rintro k rfl
 walk_at "dl"
 refine ⟨fun _=>True,forI_of ?_,?_⟩
 ·simp only [r_forN,r_forC]
  walk_at "dl"
  refine ⟨fun k=>k=false,?_,?_⟩
  ·walk_at "dl"
   rw [if_neg (by decide)]
   refine whole_int _ _ ?_
   walk_at "dl"
   refine whole_int _ _ ?_
   walk_at "dl"
  rintro k rfl
  walk_at "dl"
  refine ⟨fun k=>k=false,?_,?_⟩
  ·walk_at "dl"
   rw [if_neg (by omega)]
   refine ⟨_,_,rfl,?_⟩
   walk_at "dl"
   simp [l2]
  rintro k rfl
  walk_at "dl"
  refine ⟨fun k=>k=false,?_,?_⟩
  ·walk_at "dl"
   rw [if_neg (by decide)]
   refine whole_int _ _ ?_
   walk_at "dl"
   refine whole_int _ _ ?_
   walk_at "dl"
  rintro k rfl
  walk_at "dl"
  refine ⟨fun k=>k=false,?_,?_⟩
  ·walk_at "dl"
   rw [if_neg (by omega)]
   refine ⟨_,_,rfl,?_⟩
   walk_at "dl"
   simp [l4]
  rintro k rfl
  walk_at "dl"
 ·intro δ _
  walk_at "dl"
  exact h
end Law
namespace Law
open L2 DL
def sp_l_flat:DSpec:=fun ss R=>∃ s:Spo,ss=[.t (spT s)]/\SzS 20000 s/\R (.t (hfT (strV s)))
def sp_l_turn:DSpec:=fun ss R=>∃ a b c:Hf,ss=[.t (hfT a),.t (hfT b),.t (hfT c)]/\SzH 50000 a/\SzH 50000 b/\SzH 50000 c/\R (.t (.int (dtV a b c)))
def sp_l_before:DSpec:=fun ss R=>∃ a b:Hf,ss=[.t (hfT a),.t (hfT b)]/\SzH 50000 a/\SzH 50000 b/\R (.t (.bl (bfV a b)))
def w_l_flat:WS:=
 (wSeq (wUnp (wVar 0) (wgTup (wgCons (wgName 1) (wgCons (wgName 2) wgNil))))
 (wRet (wTup (wCons (wMul (wOp2 fIx (wVar 1) (wC (.int 0))) (wOp2 fIx (wVar 2) (wC (.int 1)))) (wCons (wMul (wOp2 fIx (wVar 2) (wC (.int 0))) (wOp2 fIx (wVar 1) (wC (.int 1)))) (wCons (wMul (wOp2 fIx (wVar 1) (wC (.int 1))) (wOp2 fIx (wVar 2) (wC (.int 1)))) wNil))))))
def w_l_turn:WS:=
 (wSeq (wSet 3 (wMul (wOp2 fIx (wVar 0) (wC (.int 0))) (wSub (wMul (wOp2 fIx (wVar 1) (wC (.int 1))) (wOp2 fIx (wVar 2) (wC (.int 2)))) (wMul (wOp2 fIx (wVar 2) (wC (.int 1))) (wOp2 fIx (wVar 1) (wC (.int 2)))))))
 (wSeq (wSet 3 (wSub (wVar 3) (wMul (wOp2 fIx (wVar 0) (wC (.int 1))) (wSub (wMul (wOp2 fIx (wVar 1) (wC (.int 0))) (wOp2 fIx (wVar 2) (wC (.int 2)))) (wMul (wOp2 fIx (wVar 2) (wC (.int 0))) (wOp2 fIx (wVar 1) (wC (.int 2))))))))
 (wRet (wAdd (wVar 3) (wMul (wOp2 fIx (wVar 0) (wC (.int 2))) (wSub (wMul (wOp2 fIx (wVar 1) (wC (.int 0))) (wOp2 fIx (wVar 2) (wC (.int 1)))) (wMul (wOp2 fIx (wVar 2) (wC (.int 0))) (wOp2 fIx (wVar 1) (wC (.int 1))))))))))
def w_l_before:WS:=
 (wSeq (wIf (wB (wNe (wMul (wOp2 fIx (wVar 0) (wC (.int 0))) (wOp2 fIx (wVar 1) (wC (.int 2)))) (wMul (wOp2 fIx (wVar 1) (wC (.int 0))) (wOp2 fIx (wVar 0) (wC (.int 2)))))) (wRet (wLt (wMul (wOp2 fIx (wVar 0) (wC (.int 0))) (wOp2 fIx (wVar 1) (wC (.int 2)))) (wMul (wOp2 fIx (wVar 1) (wC (.int 0))) (wOp2 fIx (wVar 0) (wC (.int 2)))))) wNext)
 (wRet (wLt (wMul (wOp2 fIx (wVar 0) (wC (.int 1))) (wOp2 fIx (wVar 1) (wC (.int 2)))) (wMul (wOp2 fIx (wVar 1) (wC (.int 1))) (wOp2 fIx (wVar 0) (wC (.int 2)))))))
theorem len_l_flat:∀ ss R,sp_l_flat ss R->ss.length=1:=by rintro ss R ⟨a,rfl,_⟩;rfl
theorem len_l_turn:∀ ss R,sp_l_turn ss R->ss.length=3:=by rintro ss R ⟨a,b,c,rfl,_⟩;rfl
theorem len_l_before:∀ ss R,sp_l_before ss R->ss.length=2:=by rintro ss R ⟨a,b,rfl,_⟩;rfl
theorem ok_l_flat:∀ ss R,sp_l_flat ss R->w_l_flat { nx:=fun _=>R (.t .non),rt:=R } (startD ["_law_spot","_law_x","_law_y"] ss):=by
 rintro ss R ⟨⟨⟨x,p⟩,y,q⟩,rfl,⟨⟨z1,z2⟩,z3,z4⟩,h⟩
 dsimp only at z1 z2 z3 z4
 show w_l_flat _ [some (.t (.tup [.tup [.int x,.int p],.tup [.int y,.int q]])),none,none]
 unfold w_l_flat
 walk_at "dl"
 exact ⟨mulSz z1 z4 (by decide) (by decide),mulSz z3 z2 (by decide) (by decide),mulSz z2 z4 (by decide) (by decide),h⟩
theorem ok_l_turn:∀ ss R,sp_l_turn ss R->w_l_turn { nx:=fun _=>R (.t .non),rt:=R } (startD ["_law_one","_law_two","_law_three","_law_found"] ss):=by
 rintro ss R ⟨⟨a1,a2,a3⟩,⟨b1,b2,b3⟩,⟨c1,c2,c3⟩,rfl,⟨y1,y2,y3⟩,⟨z1,z2,z3⟩,⟨x1,x2,x3⟩,h⟩
 dsimp only at y1 y2 y3 z1 z2 z3 x1 x2 x3
 show w_l_turn _ [some (.t (.tup [.int a1,.int a2,.int a3])),some (.t (.tup [.int b1,.int b2,.int b3])),some (.t (.tup [.int c1,.int c2,.int c3])),none]
 unfold w_l_turn
 walk_at "go"
 exact h
theorem ok_l_before:∀ ss R,sp_l_before ss R->w_l_before { nx:=fun _=>R (.t .non),rt:=R } (startD ["_law_one","_law_other"] ss):=by
 rintro ss R ⟨⟨a1,a2,a3⟩,⟨b1,b2,b3⟩,rfl,⟨y1,y2,y3⟩,⟨z1,z2,z3⟩,h⟩
 dsimp only at y1 y2 y3 z1 z2 z3
 show w_l_before _ [some (.t (.tup [.int a1,.int a2,.int a3])),some (.t (.tup [.int b1,.int b2,.int b3]))]
 unfold w_l_before
 unfold bfV at h
 walk_at "go"
 by_cases e:a1*b3=b1*a3
 ·rw [if_neg (by simpa using e)] at h
  rw [if_neg (by simpa using e)]
  walk_at "go"
  exact h
 ·rw [if_pos e] at h
  rw [if_pos (by simpa using e)]
  walk_at "go"
  exact h
end Law
namespace Law
open L2 DL
def pvG {α:Type} (H:List α) (k:Nat) (hk:k < H.length):α:=if h:k=0 then H[H.length - 1] else H[k - 1]
structure RegF (F:List Hf):Prop where
 fst:∀ k (hk:k < F.length),0 < k->bfV F[0] F[k]=true
 trn:2 < F.length->∀ k (hk:k < F.length),∀ v∈F,v ≠ F[k]->v ≠ pvG F k hk->0 < dtV (pvG F k hk) F[k] v
structure HoldF (F:List Hf) (q:Hf):Prop where
 ne:0 < F.length
 few:F.length < 3->dtV F[0] F[F.length - 1] q=0/\bfV q F[0]=false/\bfV F[F.length - 1] q=false
 all:3<=F.length->∀ k (hk:k < F.length),0<=dtV (pvG F k hk) F[k] q
theorem str_sz {n:Nat} {s:Spo} (h:SzS n s):SzH (n + n) (strV s):=⟨Sz.mul h.1.1 h.2.2,Sz.mul h.2.1 h.1.2,Sz.mul h.1.2 h.2.2⟩
theorem szh_mono {n m:Nat} {s:Hf} (h:SzH n s) (l:n<=m):SzH m s:=⟨h.1.mono l,h.2.1.mono l,h.2.2.mono l⟩
theorem norm_hf (h:Hf):norm (hfT h)=.t (hfT h):=norm_of rfl
theorem av_at {F:List Hf} {k:Nat} (hk:k < F.length) (R:S->Prop):atV (F.map hfT) (k:Int) R=R (.t (hfT F[k])):=by
 rw [atV_of (atI_of (n:=k) (x:=hfT F[k]) (by simp [hk])),norm_hf]
theorem at_at {F:List Hf} {k:Nat} (hk:k < F.length) (R:S->Prop):atT (F.map hfT) (k:Int) R=R (.t (hfT F[k])):=by
 rw [atT_of (atI_of (n:=k) (x:=hfT F[k]) (by simp [hk]))]
theorem ix_last {F:List Hf} (h:0 < F.length):atI (F.map hfT) (-1)=some (hfT F[F.length - 1]):=by
 have e:ixN (F.map hfT).length (-1)=some (F.length - 1):=by
  unfold ixN
  rw [List.length_map,if_neg (by decide),if_pos (by omega)]
  congr 1;omega
 unfold atI
 rw [e]
 show (F.map hfT)[F.length - 1]?=_
 rw [List.getElem?_map,List.getElem?_eq_getElem (by omega)];rfl
theorem ix_pv {F:List Hf} {k:Nat} (hk:k < F.length):atI (F.map hfT) ((k:Int) - 1)=some (hfT (pvG F k hk)):=by
 unfold pvG
 by_cases h0:k=0
 ·subst h0
  rw [dif_pos rfl]
  exact ix_last hk
 ·rw [dif_neg h0]
  have:(k:Int) - 1=((k - 1:Nat):Int):=by omega
  rw [this]
  exact atI_of (by rw [List.getElem?_map,List.getElem?_eq_getElem (by omega)];rfl)
theorem at_pv {F:List Hf} {k:Nat} (hk:k < F.length) (R:S->Prop):atT (F.map hfT) ((k:Int) - 1) R=R (.t (hfT (pvG F k hk))):=by
 rw [atT_of (ix_pv hk)]
theorem pv_mem {α:Type} {F:List α} {k:Nat} (hk:k < F.length):pvG F k hk∈F:=by
 unfold pvG
 split <;> exact List.getElem_mem _
theorem ne_hf1 (a b:Hf) (R:S->Prop):fNe (.t (.tup [.int a.1,.int a.2.1,.int a.2.2])) (.t (hfT b)) R=R (.t (.bl (!decide (a=b)))):=by
 obtain ⟨a1,a2,a3⟩:=a
 obtain ⟨b1,b2,b3⟩:=b
 unfold hfT
 rw [ne_hh]
 simp
theorem frz_any (r:Option S) (δ:DSt):freeze (r::δ)=r.map freezeS::freeze δ:=rfl
theorem for_all {α:Type} {f:α->T} {l:List α} {g:WG} {wb:WS} {D:DEnds} {δ:DSt} (M:DSt->Prop) (h0:M δ) (hend:∀ δ,M δ->D.nx δ)
  (step:∀ a∈l,∀ δ,M δ->∀ N:DSt->Prop,(∀ δ1,M δ1->N δ1)->g (f a) δ fun δ1=>wb { nx:=N,rt:=D.rt,bk:=D.nx,ct:=N } δ1):forI g wb (l.map f) D δ:=by
 refine ⟨fun ts δ=>(∀ t∈ts,∃ a∈l,t=f a)/\M δ,⟨fun t ht=>?_,h0⟩,fun δ h=>hend δ h.2,?_⟩
 ·obtain ⟨a,ha,rfl⟩:=List.mem_map.mp ht
  exact ⟨a,ha,rfl⟩
 ·rintro x r δ ⟨ht,hM⟩
  obtain ⟨a,ha,rfl⟩:=ht x List.mem_cons_self
  exact step a ha δ hM _ fun δ1 h1=>⟨fun t ht'=>ht t (List.mem_cons_of_mem _ ht'),h1⟩
theorem for_rng {lo:Int} {n:Nat} {g:WG} {wb:WS} {D:DEnds} {δ:DSt} (M:DSt->Prop) (h0:M δ) (hend:∀ δ,M δ->D.nx δ)
  (step:∀ k:Nat,k < n->∀ δ,M δ->∀ N:DSt->Prop,(∀ δ1,M δ1->N δ1)->g (.int (lo + (k:Int))) δ fun δ1=>wb { nx:=N,rt:=D.rt,bk:=D.nx,ct:=N } δ1):forI g wb (rngT lo n) D δ:=
 for_all (l:=List.range n) M h0 hend fun k hk=>step k (List.mem_range.mp hk)
end Law
namespace Law
open L2 DL
def sp_l_is_region:DSpec:=fun ss R=>∃ L:List Spo,ss=[.t (.lst (L.map spT))]/\L.length<=200/\(∀ s∈L,SpOk s/\SzS 2000 s)/\RegF (L.map strV)/\R (.t (.bl true))
def sp_l_holds:DSpec:=fun ss R=>∃ (F:List Hf) (q:Hf),ss=[.t (.lst (F.map hfT)),.t (hfT q)]/\F.length<=200/\(∀ f∈F,SzH 50000 f)/\SzH 50000 q/\HoldF F q/\R (.t (.bl true))
def w_l_is_region:WS:=
 (wSeq (wIf (wNotT (wB (wIs .lst (wVar 0)))) (wRet (wC (.bl false))) wNext)
 (wSeqM (wFor (wiList (wVar 0)) (wgName 1) (wIf (wNotT (wB (wCall sp_l_is_spot (wCons (wVar 1) wNil)))) (wRet (wC (.bl false))) wNext))
 (wSeq (wSet 2 (wComp 1 [] (wiList (wVar 0)) (wgName 0) wYes (wCall sp_l_flat (wCons (wVar 0) wNil))))
 (wSeqM (wFor (wiRng2 (wCons (wC (.int 1)) (wCons (wCB fLen (wCons (wVar 2) wNil)) wNil))) (wgName 3) (wIf (wNotT (wB (wCall sp_l_before (wCons (wOp2 fIx (wVar 2) (wC (.int 0))) (wCons (wOp2 fIx (wVar 2) (wVar 3)) wNil))))) (wRet (wC (.bl false))) wNext))
 (wSeqM (wIf (wB (wGt (wCB fLen (wCons (wVar 2) wNil)) (wC (.int 2)))) (wFor (wiRng1 (wCons (wCB fLen (wCons (wVar 2) wNil)) wNil)) (wgName 3) (wFor (wiList (wVar 2)) (wgName 4) (wIf (wT1 (wAndT (wB (wNe (wVar 4) (wOp2 fIx (wVar 2) (wVar 3)))) (wAndT (wB (wNe (wVar 4) (wOp2 fIx (wVar 2) (wSub (wVar 3) (wC (.int 1)))))) (wB (wLe (wCall sp_l_turn (wCons (wOp2 fIx (wVar 2) (wSub (wVar 3) (wC (.int 1)))) (wCons (wOp2 fIx (wVar 2) (wVar 3)) (wCons (wVar 4) wNil)))) (wC (.int 0))))))) (wRet (wC (.bl false))) wNext))) wNext)
 (wRet (wC (.bl true))))))))
def w_l_holds:WS:=
 (wSeq (wIf (wB (wEq (wCB fLen (wCons (wVar 0) wNil)) (wC (.int 0)))) (wRet (wC (.bl false))) wNext)
 (wSeq (wIf (wB (wLt (wCB fLen (wCons (wVar 0) wNil)) (wC (.int 3)))) (wSeq (wIf (wB (wNe (wCall sp_l_turn (wCons (wOp2 fIx (wVar 0) (wC (.int 0))) (wCons (wOp2 fIx (wVar 0) (wUn fNeg (wC (.int 1)))) (wCons (wVar 1) wNil)))) (wC (.int 0)))) (wRet (wC (.bl false))) wNext)
 (wRet (wAndV (wNotV (wCall sp_l_before (wCons (wVar 1) (wCons (wOp2 fIx (wVar 0) (wC (.int 0))) wNil)))) (wNotV (wCall sp_l_before (wCons (wOp2 fIx (wVar 0) (wUn fNeg (wC (.int 1)))) (wCons (wVar 1) wNil))))))) wNext)
 (wSeqM (wFor (wiRng1 (wCons (wCB fLen (wCons (wVar 0) wNil)) wNil)) (wgName 2) (wIf (wB (wLt (wCall sp_l_turn (wCons (wOp2 fIx (wVar 0) (wSub (wVar 2) (wC (.int 1)))) (wCons (wOp2 fIx (wVar 0) (wVar 2)) (wCons (wVar 1) wNil)))) (wC (.int 0)))) (wRet (wC (.bl false))) wNext))
 (wRet (wC (.bl true))))))
theorem len_l_is_region:∀ ss R,sp_l_is_region ss R->ss.length=1:=by rintro ss R ⟨a,rfl,_⟩;rfl
theorem len_l_holds:∀ ss R,sp_l_holds ss R->ss.length=2:=by rintro ss R ⟨a,b,rfl,_⟩;rfl
theorem ok_l_is_region:∀ ss R,sp_l_is_region ss R->w_l_is_region { nx:=fun _=>R (.t .non),rt:=R } (startD ["_law_found","_law_spot","_law_flat_here","_law_k","_law_here"] ss):=by
 rintro ss R ⟨L,rfl,hl,hs,hR,h⟩
 show w_l_is_region _ [some (.t (.lst (L.map spT))),none,none,none,none]
 unfold w_l_is_region
 walk_at "dl"
 refine ⟨fun δ=>∃ r,δ=[some (.t (.lst (L.map spT))),r,none,none,none],?_,?_⟩
 ·refine ⟨fun ts δ=>(∀ t∈ts,∃ s∈L,t=spT s)/\∃ r,δ=[some (.t (.lst (L.map spT))),r,none,none,none],⟨fun t ht=>?_,_,rfl⟩,fun δ h=>h.2,?_⟩
  ·obtain ⟨s,hs,rfl⟩:=List.mem_map.mp ht
   exact ⟨s,hs,rfl⟩
  ·rintro x ts δ ⟨ht,r,rfl⟩
   obtain ⟨s,hsL,rfl⟩:=ht x List.mem_cons_self
   walk_at "dl"
   refine ⟨s,rfl,(hs s hsL).1,?_⟩
   walk_at "dl"
   exact ⟨fun t ht'=>ht t (List.mem_cons_of_mem _ ht'),_,rfl⟩
 rintro δ ⟨r,rfl⟩
 walk_at "dl"
 refine comp_map (h:=fun s=>hfT (strV s)) (fun δ=>∃ r,δ=[r]) (fun s _=>rfl) (by omega) ⟨_,rfl⟩ ?_ ?_
 ·rintro s hsL δ ⟨r,rfl⟩ Y hY
  walk_at "dl"
  refine ⟨s,rfl,⟨⟨(hs s hsL).2.1.1.mono (by decide),(hs s hsL).2.1.2.mono (by decide)⟩,(hs s hsL).2.2.1.mono (by decide),(hs s hsL).2.2.2.mono (by decide)⟩,?_⟩
  walk_at "dl"
  exact hY _ ⟨_,rfl⟩
 have eF:L.map (fun s=>hfT (strV s))=(L.map strV).map hfT:=by rw [List.map_map];rfl
 rw [eF]
 have hF:∀ f∈L.map strV,SzH 50000 f:=fun f hf=>by
  obtain ⟨s,hsL,rfl⟩:=List.mem_map.mp hf
  exact szh_mono (str_sz (hs s hsL).2) (by decide)
 have hFl:(L.map strV).length<=200:=by rw [List.length_map];exact hl
 generalize L.map strV=F at hR hF hFl
 generalize T.lst (L.map spT)=fo
 walk_at "dl"
 let M:DSt->Prop:=fun δ=>∃ r1 v r3 r4,δ=[some (.t fo),r1,some v,r3,r4]/\(v=.ol (F.map hfT)\/v=.t (.lst (F.map hfT)))
 refine ⟨M,?_,?_⟩
 ·walk_at "dl"
  refine ⟨rngOk (by decide) (by decide),rngOk (by omega) (by rw [List.length_map];omega),for_rng M ⟨_,_,_,_,rfl,by first | exact .inl rfl | exact hv⟩ (fun δ h=>h) ?_⟩
  rintro k hk δ ⟨r1,v,r3,r4,rfl,hv⟩ N hN
  rw [List.length_map] at hk
  have hk1:k + 1 < F.length:=by omega
  have ek:(1:Int) + (k:Int)=((k + 1:Nat):Int):=by omega
  rw [ek]
  have e0:∀ R:S->Prop,atV (F.map hfT) 0 R=R (.t (hfT F[0])):=fun R=>av_at (k:=0) (by omega) R
  have e0':∀ R:S->Prop,atT (F.map hfT) 0 R=R (.t (hfT F[0])):=fun R=>at_at (k:=0) (by omega) R
  rcases hv with rfl | rfl
  all_goals (
   walk_at "dl"
   first | rw [e0] | rw [e0']
   walk_at "dl"
   first | rw [av_at hk1] | rw [at_at hk1]
   walk_at "dl"
   refine ⟨F[0],F[k + 1],rfl,hF _ (List.getElem_mem _),hF _ (List.getElem_mem _),?_⟩
   rw [hR.fst (k + 1) hk1 (by omega)]
   walk_at "dl"
   exact hN _ ⟨_,_,_,_,rfl,by first | exact .inl rfl | exact .inr rfl⟩)
 rintro δ ⟨r1,v,r3,r4,rfl,hv⟩
 refine ⟨M,?_,?_⟩
 ·have step:∀ v:S,(v=.ol (F.map hfT)\/v=.t (.lst (F.map hfT)))->True:=fun _ _=>trivial
  rcases hv with rfl | rfl
  all_goals (
   walk_at "dl"
   split
   ·rename_i h2
    rw [List.length_map] at h2
    have h2':2 < F.length:=by omega
    refine ⟨rngOk (by omega) (by rw [List.length_map];omega),for_rng M ⟨_,_,_,_,rfl,by first | exact .inl rfl | exact .inr rfl⟩ (fun δ h=>h) ?_⟩
    rintro k hk δ ⟨r1,v,r3,r4,rfl,hv⟩ N hN
    rw [List.length_map] at hk
    have hk1:k < F.length:=by omega
    rw [Int.zero_add]
    rcases hv with rfl | rfl
    all_goals (
     walk_at "dl"
     try simp only [frz_any]
     refine for_all (fun δ=>∃ r1 r4,δ=[some (.t fo),r1,some (.t (.lst (F.map hfT))),some (.t (.int k)),r4]) ⟨_,_,rfl⟩ (fun δ ⟨r1,r4,e⟩=>hN _ ⟨_,_,_,_,e,.inr rfl⟩) ?_
     rintro f hf δ ⟨r1,r4,rfl⟩ N' hN'
     walk_at "dl"
     refine ⟨fun b=>b=false,?_,fun b hb=>by subst hb;rw [if_neg (by decide)];exact hN' _ ⟨_,_,rfl⟩⟩
     have ht:=hR.trn h2' k hk1 f hf
     have z0:=hF f hf
     have z1:=hF _ (List.getElem_mem hk1)
     have z2:=hF _ (pv_mem hk1)
     walk_at "dl"
     rw [at_at hk1]
     by_cases e1:f=F[k]
     ·rw [ne_hf1,decide_eq_true e1]
      walk_at "dl"
     rw [ne_hf1,decide_eq_false e1]
     walk_at "dl"
     rw [at_pv hk1]
     by_cases e2:f=pvG F k hk1
     ·rw [ne_hf1,decide_eq_true e2]
      walk_at "dl"
     rw [ne_hf1,decide_eq_false e2]
     walk_at "dl"
     rw [at_pv hk1]
     walk_at "dl"
     rw [at_at hk1]
     walk_at "dl"
     refine ⟨pvG F k hk1,F[k],f,rfl,z2,z1,z0,?_⟩
     have hp:=ht e1 e2
     walk_at "dl"
     omega)
   ·exact ⟨_,_,_,_,rfl,by first | exact .inl rfl | exact .inr rfl⟩)
 rintro δ ⟨r1,v,r3,r4,rfl,hv⟩
 walk_at "dl"
 exact h
theorem ok_l_holds:∀ ss R,sp_l_holds ss R->w_l_holds { nx:=fun _=>R (.t .non),rt:=R } (startD ["_law_flat_here","_law_here","_law_k"] ss):=by
 rintro ss R ⟨F,q,rfl,hl,hF,hq,hH,h⟩
 show w_l_holds _ [some (.t (.lst (F.map hfT))),some (.t (hfT q)),none]
 unfold w_l_holds
 have hne:=hH.ne
 walk_at "dl"
 rw [if_neg (by rw [List.length_map];omega)]
 walk_at "dl"
 have e0:∀ R:S->Prop,atT (F.map hfT) 0 R=R (.t (hfT F[0])):=fun R=>at_at (k:=0) hne R
 have e1:∀ R:S->Prop,atT (F.map hfT) (-1) R=R (.t (hfT F[F.length - 1])):=fun R=>atT_of (ix_last hne)
 have z0:=hF _ (List.getElem_mem hne)
 have z1:=hF _ (List.getElem_mem (show F.length - 1 < F.length by omega))
 by_cases h3:F.length < 3
 ·rw [if_pos (by rw [List.length_map];omega)]
  obtain ⟨k1,k2,k3⟩:=hH.few h3
  walk_at "dl"
  rw [e0]
  walk_at "dl"
  rw [e1]
  walk_at "dl"
  refine ⟨F[0],F[F.length - 1],q,rfl,z0,z1,hq,?_⟩
  rw [k1]
  walk_at "dl"
  rw [e0]
  walk_at "dl"
  refine ⟨q,F[0],rfl,hq,z0,?_⟩
  rw [k2]
  walk_at "dl"
  rw [e1]
  walk_at "dl"
  refine ⟨F[F.length - 1],q,rfl,z1,hq,?_⟩
  rw [k3]
  walk_at "dl"
  exact h
 ·rw [if_neg (by rw [List.length_map];omega)]
  have hall:=hH.all (by omega)
  walk_at "dl"
  refine ⟨fun δ=>∃ r,δ=[some (.t (.lst (F.map hfT))),some (.t (hfT q)),r],⟨rngOk (by omega) (by rw [List.length_map];omega),for_rng (fun δ=>∃ r,δ=[some (.t (.lst (F.map hfT))),some (.t (hfT q)),r]) ⟨_,rfl⟩ (fun δ h=>h) ?_⟩,?_⟩
  ·rintro k hk δ ⟨r,rfl⟩ N hN
   rw [List.length_map] at hk
   have hk1:k < F.length:=by omega
   rw [Int.zero_add]
   walk_at "dl"
   rw [at_pv hk1]
   walk_at "dl"
   rw [at_at hk1]
   walk_at "dl"
   refine ⟨pvG F k hk1,F[k],q,rfl,hF _ (pv_mem hk1),hF _ (List.getElem_mem hk1),hq,?_⟩
   have:=hall k hk1
   walk_at "dl"
   rw [if_neg (by omega)]
   exact hN _ ⟨_,rfl⟩
  ·rintro δ ⟨r,rfl⟩
   walk_at "dl"
   exact h
end Law
namespace Law
open L2 DL
def fl (p:Pt):Hf:=(p.1,p.2,1)
theorem str_as (p:Pt):strV (asV p)=fl p:=by unfold strV asV fl;simp
theorem dt_cr (a b c:Pt):dtV (fl a) (fl b) (fl c)=cr a b c:=by unfold dtV fl cr;grind
theorem bf_lex (a b:Pt):bfV (fl a) (fl b)=true ↔ LexP a b:=by
 unfold bfV fl LexP
 simp only [Int.mul_one]
 by_cases h:a.1=b.1
 ·rw [if_neg (by simpa using h),decide_eq_true_eq];omega
 ·rw [if_pos h,decide_eq_true_eq];omega
theorem bf_no {a b:Pt} (h:¬ LexP a b):bfV (fl a) (fl b)=false:=by
 cases e:bfV (fl a) (fl b) with
 | false=>rfl
 | true=>exact absurd ((bf_lex a b).mp e) h
theorem lex_irr (a:Pt):¬ LexP a a:=by unfold LexP;omega
theorem lex_asym {a b:Pt} (h:LexP a b):¬ LexP b a:=by unfold LexP at *;omega
theorem lex_fn {S:List Pt} (h:S.Pairwise LexP):∃ m:Pt,S.Pairwise fun a b=>fn m a < fn m b:=by
 obtain ⟨B,hB0,hB⟩:∃ B:Int,0<=B/\∀ p∈S,-B<=p.2/\p.2<=B:=by
  clear h
  induction S with
  | nil=>exact ⟨0,Int.le_refl _,fun p hp=>by cases hp⟩
  | cons a S ih=>
   obtain ⟨B,h0,h1⟩:=ih
   refine ⟨B + (a.2.natAbs:Int),by omega,fun p hp=>?_⟩
   rcases List.mem_cons.mp hp with rfl | hp
   ·omega
   ·have:=h1 p hp;omega
 refine ⟨(2*B + 1,1),?_⟩
 rw [List.pairwise_iff_getElem] at h ⊢
 intro i j hi hj hij
 have h1:=h i j hi hj hij
 have b1:=hB _ (List.getElem_mem hi)
 have b2:=hB _ (List.getElem_mem hj)
 unfold fn
 dsimp only
 rcases h1 with h1 | ⟨h1,h2⟩
 ·have h3:(2*B + 1)*(S[i].1 + 1)<=(2*B + 1)*S[j].1:=Int.mul_le_mul_of_nonneg_left (by omega) (by omega)
  rw [Int.mul_add] at h3
  omega
 ·rw [h1];omega
theorem pv_map {α β:Type} (f:α->β) (H:List α) (k:Nat) (hk:k < (H.map f).length):pvG (H.map f) k hk=f (pvG H k (by simpa using hk)):=by
 unfold pvG
 split
 ·simp
 ·simp
theorem lex_mono {S:List Pt} {m:Pt} (hl:S.Pairwise LexP) (hf:S.Pairwise fun a b=>fn m a < fn m b) {a b:Pt} (ha:a∈S) (hb:b∈S) (h:LexP a b):fn m a < fn m b:=by
 obtain ⟨i,hi,rfl⟩:=List.getElem_of_mem ha
 obtain ⟨j,hj,rfl⟩:=List.getElem_of_mem hb
 rcases Nat.lt_trichotomy i j with hij | hij | hij
 ·exact List.pairwise_iff_getElem.mp hf i j hi hj hij
 ·subst hij;exact absurd h (lex_irr _)
 ·exact absurd (List.pairwise_iff_getElem.mp hl j i hj hi hij) (lex_asym h)
structure HullOk (S H:List Pt):Prop where
 reg:RegF (H.map fl)
 hold:∀ p∈S,HoldF (H.map fl) (fl p)
 sub:∀ p∈H,p∈S
 ne:H ≠ []
theorem hull_ok {S:List Pt} (hs:S.Pairwise LexP) (hne:S ≠ []):HullOk S (hullV S):=by
 unfold hullV
 match S,hne,hs with
 | [p],_,_=>
  rw [if_pos (by simp)]
  refine ⟨⟨fun k hk h0=>by simp at hk;omega,fun h=>by simp at h⟩,fun q hq=>?_,fun q hq=>hq,by simp⟩
  obtain rfl:=List.mem_singleton.mp hq
  refine ⟨by simp,fun _=>?_,fun h=>by simp at h⟩
  show dtV (fl q) (fl q) (fl q)=0/\bfV (fl q) (fl q)=false/\bfV (fl q) (fl q)=false
  exact ⟨by rw [dt_cr,cr_self],bf_no (lex_irr q),bf_no (lex_irr q)⟩
 | p0::p1::l,_,hs=>
  rw [if_neg (by simp only [List.length_cons];omega)]
  obtain ⟨m,hm⟩:=lex_fn hs
  obtain ⟨R,h0⟩:=round_of hm
  generalize hullL (p0::p1::l)=H at R h0
  have hlen:=R.len
  have hH0:=h0 (by omega)
  have hml:(H.map fl).length=H.length:=List.length_map ..
  refine ⟨⟨fun k hk hk0=>?_,fun h2 k hk v hv h1 h3=>?_⟩,fun p hp=>⟨by omega,fun h=>?_,fun h3 k hk=>?_⟩,R.sub,fun e=>by rw [e] at hlen;simp at hlen⟩
  ·rw [List.getElem_map,List.getElem_map,bf_lex,hH0]
   have h1:=R.sub _ (List.getElem_mem (show k < H.length by omega))
   have h2:=R.fst k (by omega) hk0
   rw [hH0] at h2
   rcases List.mem_cons.mp h1 with h | h
   ·exact absurd h h2
   ·exact (List.pairwise_cons.mp hs).1 _ h
  ·obtain ⟨x,hx,rfl⟩:=List.mem_map.mp hv
   rw [pv_map] at h3 ⊢
   rw [List.getElem_map] at h1 ⊢
   rw [dt_cr]
   exact R.strict k (by omega) x hx (fun e=>h3 (by rw [e];rfl)) (fun e=>h1 (by rw [e]))
  ·have e2:H.length=2:=by omega
   obtain ⟨c,m',f1,f2,hm'⟩:=R.two e2 p hp
   have x0:=R.sub _ (List.getElem_mem (show 0 < H.length by omega))
   have x1:=R.sub _ (List.getElem_mem (show 1 < H.length by omega))
   have el:(H.map fl)[(H.map fl).length - 1]'(by omega)=fl H[1]:=by
    rw [List.getElem_map]
    congr 2;omega
   rw [el,List.getElem_map,dt_cr]
   refine ⟨c,bf_no fun h=>?_,bf_no fun h=>?_⟩
   ·have:=lex_mono hs hm' hp x0 h;omega
   ·have:=lex_mono hs hm' x1 hp h;omega
  ·rw [pv_map,List.getElem_map,dt_cr]
   exact R.left k (by omega) p hp
end Law
namespace Law
open L2 DL
def sp_l_points:DSpec:=fun ss R=>∃ (ns:List Int) (many:Int),ss=[.t (.lst (ns.map .int)),.t (.int many)]/\0<=many/\many < 1000/\∀ ps:List Pt,ps.length=many.toNat->(∀ p∈ps,SzF 110 p)->R (.ol (ps.map ptT))
def w_l_points:WS:=
 (wSeq (wSet 2 (wMod (wCall sp_l_cell_at (wCons (wVar 0) (wCons (wC (.int 0)) wNil))) (wC (.int 5))))
 (wSeq (wSet 3 (wLst wNil))
 (wSeqM (wFor (wiRng1 (wCons (wVar 1) wNil)) (wgName 4) (wSeq (wSet 5 (wCall sp_l_mixed (wCons (wVar 0) (wCons (wVar 4) wNil))))
 (wSeq (wSet 6 (wTup (wCons (wSub (wMod (wVar 5) (wC (.int 7))) (wC (.int 3))) (wCons (wSub (wMod (wFdiv (wVar 5) (wC (.int 7))) (wC (.int 7))) (wC (.int 3))) wNil))))
 (wSeqM (wIf (wB (wEq (wVar 2) (wC (.int 1)))) (wSet 6 (wTup (wCons (wSub (wMod (wCall sp_l_cell_at (wCons (wVar 0) (wCons (wVar 4) wNil))) (wMul (wC (.int 2)) (wPow (wC (.int 10)) (wC (.int 30))))) (wPow (wC (.int 10)) (wC (.int 30)))) (wCons (wSub (wVar 5) (wPow (wC (.int 10)) (wC (.int 9)))) wNil)))) wNext)
 (wSeqM (wIf (wB (wEq (wVar 2) (wC (.int 2)))) (wSet 6 (wTup (wCons (wSub (wMod (wVar 5) (wC (.int 2001))) (wC (.int 1000))) (wCons (wSub (wMod (wFdiv (wVar 5) (wC (.int 2001))) (wC (.int 2001))) (wC (.int 1000))) wNil)))) wNext)
 (wSeqM (wIf (wB (wEq (wVar 2) (wC (.int 3)))) (wSeq (wSet 7 (wSub (wMod (wVar 5) (wC (.int 9))) (wC (.int 4))))
 (wSeq (wSet 8 (wMod (wCall sp_l_cell_at (wCons (wVar 0) (wCons (wC (.int 1)) wNil))) (wC (.int 9))))
 (wSet 6 (wTup (wCons (wAdd (wMul (wVar 7) (wSub (wMod (wVar 8) (wC (.int 3))) (wC (.int 1)))) (wC (.int 5))) (wCons (wSub (wMul (wVar 7) (wSub (wFdiv (wVar 8) (wC (.int 3))) (wC (.int 1)))) (wC (.int 2))) wNil)))))) wNext)
 (wAppend 3 (wVar 6))))))))
 (wRetV 3))))
theorem len_l_points:∀ ss R,sp_l_points ss R->ss.length=2:=by rintro ss R ⟨a,b,rfl,_⟩;rfl
theorem ok_l_points:∀ ss R,sp_l_points ss R->w_l_points { nx:=fun _=>R (.t .non),rt:=R } (startD ["_law_script","_law_many","_law_way","_law_found","_law_k","_law_number","_law_spot","_law_step","_law_line"] ss):=by
 rintro ss R ⟨ns,many,rfl,m0,m1,h⟩
 show w_l_points _ [some (.t (.lst (ns.map .int))),some (.t (.int many)),none,none,none,none,none,none,none]
 unfold w_l_points
 have dummy:Sz 1 0:=⟨by decide⟩
 walk_at "dl"
 refine ⟨ns,0,rfl,by decide,fun w=>?_⟩
 walk_at "go"
 generalize w.fmod 5=way
 let M (n:Nat):DSt->Prop:=fun δ=>∃ (ps:List Pt) (r4 r5 r6 r7 r8:Option S),δ=[some (.t (.lst (ns.map .int))),some (.t (.int many)),some (.t (.int way)),some (.ol (ps.map ptT)),r4,r5,r6,r7,r8]/\ps.length=n/\∀ p∈ps,SzF 110 p
 refine ⟨M many.toNat,?_,?_⟩
 ·walk_at "dl"
  refine ⟨rngOk (by omega) (by omega),fun ts δ=>(∃ n,n + ts.length=many.toNat/\M n δ)/\∀ t∈ts,∃ k:Int,t=.int k/\0<=k/\k < 1000,⟨⟨0,by rw [len_rngT];omega,[],_,_,_,_,_,rfl,rfl,fun p hp=>by cases hp⟩,?_⟩,?_,?_⟩
  ·intro t ht
   obtain ⟨k,rfl,k0,k1⟩:=mem_rngT ht
   exact ⟨k,rfl,k0,by omega⟩
  ·rintro δ ⟨⟨n,hn,hM⟩,_⟩
   rw [List.length_nil] at hn
   rw [<-hn]
   exact hM
  ·rintro t ts δ ⟨⟨n,hn,⟨ps,r4,r5,r6,r7,r8,rfl,hl,hs⟩⟩,ht⟩
   obtain ⟨k,rfl,k0,k1⟩:=ht t List.mem_cons_self
   rw [List.length_cons] at hn
   have ht':=fun t h=>ht t (List.mem_cons_of_mem _ h)
   walk_at "dl"
   refine ⟨ns,k,rfl,k0,by omega,fun v v0 v1=>?_⟩
   have a1:=fmod_lo v (n:=7) (by decide)
   have a2:=fmod_hi v (n:=7) (by decide)
   have a3:=fmod_lo (v.fdiv 7) (n:=7) (by decide)
   have a4:=fmod_hi (v.fdiv 7) (n:=7) (by decide)
   have c1:=fmod_lo v (n:=2001) (by decide)
   have c2:=fmod_hi v (n:=2001) (by decide)
   have c3:=fmod_lo (v.fdiv 2001) (n:=2001) (by decide)
   have c4:=fmod_hi (v.fdiv 2001) (n:=2001) (by decide)
   have e1:=fmod_lo v (n:=9) (by decide)
   have e2:=fmod_hi v (n:=9) (by decide)
   let N:DSt->Prop:=fun δ=>∃ (p:Pt) (r7 r8:Option S),δ=[some (.t (.lst (ns.map .int))),some (.t (.int many)),some (.t (.int way)),some (.ol (ps.map ptT)),some (.t (.int k)),some (.t (.int v)),some (.t (ptT p)),r7,r8]/\SzF 110 p
   walk_at "go"
   refine ⟨N,?_,?_⟩
   ·walk_at "go"
    split
    ·walk_at "go"
     refine ⟨ns,k,rfl,k0,fun u=>?_⟩
     have g1:=fmod_lo u (n:=2000000000000000000000000000000) (by decide)
     have g2:=fmod_hi u (n:=2000000000000000000000000000000) (by decide)
     walk_at "go"
     exact ⟨(_,_),_,_,rfl,⟨Sz.of (by dsimp only;omega) (by dsimp only;omega),Sz.of (by dsimp only;omega) (by dsimp only;omega)⟩⟩
    ·exact ⟨(_,_),_,_,rfl,⟨Sz.of (by dsimp only;omega) (by dsimp only;omega),Sz.of (by dsimp only;omega) (by dsimp only;omega)⟩⟩
   rintro δ ⟨p,r7,r8,rfl,sp⟩
   walk_at "dl"
   refine ⟨N,?_,?_⟩
   ·walk_at "go"
    split
    ·walk_at "go"
     exact ⟨(_,_),_,_,rfl,⟨Sz.of (by dsimp only;omega) (by dsimp only;omega),Sz.of (by dsimp only;omega) (by dsimp only;omega)⟩⟩
    ·exact ⟨p,_,_,rfl,sp⟩
   clear sp p r7 r8
   rintro δ ⟨p,r7,r8,rfl,sp⟩
   walk_at "dl"
   refine ⟨N,?_,?_⟩
   ·walk_at "go"
    split
    ·walk_at "go"
     refine ⟨ns,1,rfl,by decide,fun u=>?_⟩
     have g1:=fmod_lo u (n:=9) (by decide)
     have g2:=fmod_hi u (n:=9) (by decide)
     have f1:=fmod_lo (u.fmod 9) (n:=3) (by decide)
     have f2:=fmod_hi (u.fmod 9) (n:=3) (by decide)
     have f3:0<=(u.fmod 9).fdiv 3/\(u.fmod 9).fdiv 3<=3:=by
      rw [Int.fdiv_eq_ediv_of_nonneg _ (by decide)];omega
     have q1:Sz 10 (v.fmod 9 - 4):=Sz.of (by omega) (by omega)
     have q2:Sz 10 ((u.fmod 9).fmod 3 - 1):=Sz.of (by omega) (by omega)
     have q3:Sz 10 ((u.fmod 9).fdiv 3 - 1):=Sz.of (by omega) (by omega)
     have q4:Sz 10 5:=Sz.of (by omega) (by omega)
     have q5:Sz 10 2:=Sz.of (by omega) (by omega)
     walk_at "go"
     refine ⟨(_,_),_,_,rfl,?_,?_⟩
     ·exact Sz.mono (n:=110) (Sz.add (Sz.mul q1 q2) q4) (by decide)
     ·exact Sz.mono (n:=110) (Sz.sub (Sz.mul q1 q3) q5) (by decide)
    ·exact ⟨p,_,_,rfl,sp⟩
   clear sp p r7 r8
   rintro δ ⟨p,r7,r8,rfl,sp⟩
   walk_at "dl"
   refine ⟨by rw [List.length_map,hl];omega,⟨n + 1,by omega,ps++[p],_,_,_,_,_,by rw [List.map_append];rfl,by simp [hl],fun q hq=>?_⟩,ht'⟩
   rcases List.mem_append.mp hq with z | z
   ·exact hs q z
   ·simp at z;subst z;exact sp
 rintro δ ⟨ps,r4,r5,r6,r7,r8,rfl,hl,hs⟩
 walk_at "dl"
 exact h ps hl hs
end Law
namespace Law
open L2 DL
set_option maxHeartbeats 4000000
theorem cop_dvd {a b c:Int} (h:Int.gcd a b=1) (hd:b ∣ a*c):b ∣ c:=by
 have h1:b.natAbs ∣ a.natAbs*c.natAbs:=by rw [<-Int.natAbs_mul];exact Int.natAbs_dvd_natAbs.mpr hd
 have h2:Nat.Coprime b.natAbs a.natAbs:=by
  rw [Nat.coprime_comm];exact h
 exact Int.natAbs_dvd_natAbs.mp (h2.dvd_of_dvd_mul_left h1)
theorem fr_eq {p q:Fr} (hp:FrOk p) (hq:FrOk q) (h:p.1*q.2=q.1*p.2):p=q:=by
 obtain ⟨p0,p1⟩:=hp
 obtain ⟨q0,q1⟩:=hq
 have d1:p.2 ∣ q.2:=cop_dvd p1 ⟨q.1,by rw [h,Int.mul_comm]⟩
 have d2:q.2 ∣ p.2:=cop_dvd q1 ⟨p.1,by rw [<-h,Int.mul_comm]⟩
 have e:p.2=q.2:=Int.dvd_antisymm (by omega) (by omega) d1 d2
 rw [e] at h
 have:=Int.eq_of_mul_eq_mul_right (by omega) h
 exact Prod.ext this e
theorem cmn_ne {a b:Int} (hb:b ≠ 0):cmn a b ≠ 0:=by
 have:=gcd_ne (a:=a) (.inr hb)
 unfold cmn
 split <;> omega
theorem cmn_dvd (a b:Int):cmn a b ∣ a/\cmn a b ∣ b:=by
 unfold cmn
 split
 ·exact ⟨Int.neg_dvd.mpr (Int.gcd_dvd_left _ _),Int.neg_dvd.mpr (Int.gcd_dvd_right _ _)⟩
 ·exact ⟨Int.gcd_dvd_left _ _,Int.gcd_dvd_right _ _⟩
theorem fr_ok {a b:Int} (hb:b ≠ 0):FrOk (frV a b):=by
 have hc:=cmn_ne (a:=a) hb
 obtain ⟨d1,d2⟩:=cmn_dvd a b
 have e1:=fdiv_dvd d1
 have e2:=fdiv_dvd d2
 unfold frV FrOk
 dsimp only
 generalize a.fdiv (cmn a b)=x at e1 ⊢
 generalize b.fdiv (cmn a b)=y at e2 ⊢
 constructor
 ·have hs:(b < 0/\cmn a b < 0)\/(0 < b/\0 < cmn a b):=by
   have:=gcd_ne (a:=a) (.inr hb)
   unfold cmn at hc ⊢
   split <;> rename_i h <;> first | (left;omega) | (right;omega)
  rcases hs with ⟨h1,h2⟩ | ⟨h1,h2⟩
  ·rcases Int.lt_or_le 0 y with z | z
   ·exact z
   ·have:=Int.mul_nonneg_of_nonpos_of_nonpos z (Int.le_of_lt h2);omega
  ·rcases Int.lt_or_le 0 y with z | z
   ·exact z
   ·have:=Int.mul_nonpos_of_nonpos_of_nonneg z (Int.le_of_lt h2);omega
 ·have eg:Int.gcd a b=Int.gcd x y*(cmn a b).natAbs:=by
   have:=Int.gcd_mul_right x (cmn a b) y
   rw [e1,e2] at this
   exact this
  have en:(cmn a b).natAbs=Int.gcd a b:=by
   unfold cmn
   split
   ·rw [Int.natAbs_neg,Int.natAbs_natCast]
   ·rw [Int.natAbs_natCast]
  rw [en] at eg
  have hg:0 < Int.gcd a b:=by have:=gcd_ne (a:=a) (.inr hb);omega
  exact (Nat.eq_of_mul_eq_mul_right hg (by rw [Nat.one_mul];exact eg)).symm
def blV (p q:Fr):Bool:=decide (p.1*q.2 < q.1*p.2)
def lsV (p q:Spo):Bool:=if p.1=q.1 then blV p.2 q.2 else blV p.1 q.1
theorem mul_lt_iff {a b c:Int} (hc:0 < c):a*c < b*c ↔ a < b:=⟨fun h=>Int.lt_of_mul_lt_mul_right h (Int.le_of_lt hc),fun h=>Int.mul_lt_mul_of_pos_right h hc⟩
theorem ls_bf {p q:Spo} (hp:SpOk p) (hq:SpOk q):lsV p q=bfV (strV p) (strV q):=by
 obtain ⟨⟨x0,x1⟩,⟨y0,y1⟩⟩:=p
 obtain ⟨⟨u0,u1⟩,⟨v0,v1⟩⟩:=q
 have hx:0 < x1:=hp.1.1
 have hy:0 < y1:=hp.2.1
 have hu:0 < u1:=hq.1.1
 have hv:0 < v1:=hq.2.1
 have hyv:0 < y1*v1:=Int.mul_pos hy hv
 have hxu:0 < x1*u1:=Int.mul_pos hx hu
 unfold lsV bfV strV blV
 dsimp only
 have a1:x0*y1*(u1*v1)=(x0*u1)*(y1*v1):=by grind
 have a2:u0*v1*(x1*y1)=(u0*x1)*(y1*v1):=by grind
 have b1:y0*x1*(u1*v1)=(y0*v1)*(x1*u1):=by grind
 have b2:v0*u1*(x1*y1)=(v0*y1)*(x1*u1):=by grind
 rw [a1,a2,b1,b2]
 by_cases e:((x0,x1):Fr)=(u0,u1)
 ·rw [if_pos e]
  have e0:x0=u0:=congrArg Prod.fst e
  have e1:x1=u1:=congrArg Prod.snd e
  subst e0;subst e1
  rw [if_neg (by simp)]
  exact decide_eq_decide.mpr (mul_lt_iff hxu).symm
 ·rw [if_neg e]
  have hne:x0*u1*(y1*v1) ≠ u0*x1*(y1*v1):=fun h=>e (fr_eq hp.1 hq.1 (Int.eq_of_mul_eq_mul_right (by omega) h))
  rw [if_pos hne]
  exact decide_eq_decide.mpr (mul_lt_iff hyv).symm
end Law
namespace Law
open L2 DL
set_option maxHeartbeats 1000000
theorem dt_cyc (a b c:Hf):dtV a b c=dtV b c a:=by unfold dtV;grind
theorem dt_aab (a b:Hf):dtV a a b=0:=by unfold dtV;grind
theorem dt_aba (a b:Hf):dtV a b a=0:=by unfold dtV;grind
theorem dt_abb (a b:Hf):dtV a b b=0:=by unfold dtV;grind
theorem dt_swap (a b c:Hf):dtV a c b=-dtV a b c:=by unfold dtV;grind
theorem dt_pl (a e b c d:Hf):dtV a e c*dtV a b d=dtV a e b*dtV a c d + dtV a e d*dtV a b c:=by unfold dtV;grind
def Mix (u p q:Hf):Prop:=∃ κ α β:Int,0 < κ/\0 < α/\0 < β/\κ*u.1=α*p.1 + β*q.1/\κ*u.2.1=α*p.2.1 + β*q.2.1/\κ*u.2.2=α*p.2.2 + β*q.2.2
theorem mix_self (u:Hf):Mix u u u:=⟨2,1,1,by decide,by decide,by decide,by omega,by omega,by omega⟩
theorem mix_eq {u p q:Hf} {κ α β:Int} (e1:κ*u.1=α*p.1 + β*q.1) (e2:κ*u.2.1=α*p.2.1 + β*q.2.1) (e3:κ*u.2.2=α*p.2.2 + β*q.2.2) (v w:Hf):κ*dtV u v w=α*dtV p v w + β*dtV q v w:=by
 unfold dtV
 have h:κ*(u.1*(v.2.1*w.2.2 - w.2.1*v.2.2) - u.2.1*(v.1*w.2.2 - w.1*v.2.2) + u.2.2*(v.1*w.2.1 - w.1*v.2.1))=κ*u.1*(v.2.1*w.2.2 - w.2.1*v.2.2) - κ*u.2.1*(v.1*w.2.2 - w.1*v.2.2) + κ*u.2.2*(v.1*w.2.1 - w.1*v.2.1):=by grind
 rw [h,e1,e2,e3]
 grind
theorem pos_cancel {κ x:Int} (hk:0 < κ) (h:0 < κ*x):0 < x:=by
 rcases Int.lt_or_le 0 x with z | z
 ·exact z
 ·have:=Int.mul_nonpos_of_nonneg_of_nonpos (Int.le_of_lt hk) z;omega
theorem nn_cancel {κ x:Int} (hk:0 < κ) (h:0<=κ*x):0<=x:=by
 rcases Int.lt_or_le x 0 with z | z
 ·have:=Int.mul_neg_of_pos_of_neg hk z;omega
 ·exact z
theorem mix_nn {u p q:Hf} (h:Mix u p q) (v w:Hf) (h1:0<=dtV p v w) (h2:0<=dtV q v w):0<=dtV u v w:=by
 obtain ⟨κ,α,β,k0,a0,b0,e1,e2,e3⟩:=h
 have e:=mix_eq e1 e2 e3 v w
 have x1:=Int.mul_nonneg (Int.le_of_lt a0) h1
 have x2:=Int.mul_nonneg (Int.le_of_lt b0) h2
 exact nn_cancel k0 (by omega)
theorem mix_pos {u p q:Hf} (h:Mix u p q) (v w:Hf) (h1:0<=dtV p v w) (h2:0<=dtV q v w) (h3:0 < dtV p v w\/0 < dtV q v w):0 < dtV u v w:=by
 obtain ⟨κ,α,β,k0,a0,b0,e1,e2,e3⟩:=h
 have e:=mix_eq e1 e2 e3 v w
 have x1:=Int.mul_nonneg (Int.le_of_lt a0) h1
 have x2:=Int.mul_nonneg (Int.le_of_lt b0) h2
 refine pos_cancel k0 ?_
 rcases h3 with h3 | h3
 ·have:=Int.mul_pos a0 h3;omega
 ·have:=Int.mul_pos b0 h3;omega
theorem mix_zero {u p q:Hf} (h:Mix u p q):dtV p q u=0:=by
 obtain ⟨κ,α,β,k0,a0,b0,e1,e2,e3⟩:=h
 have e:=mix_eq e1 e2 e3 p q
 rw [dt_aab,dt_aba,Int.mul_zero,Int.mul_zero,dt_cyc u p q] at e
 rcases Int.mul_eq_zero.mp (show κ*dtV p q u=0 by omega) with z | z
 ·omega
 ·exact z
theorem mix3 {u v w p p' q q' r r':Hf} (hu:Mix u p p') (hv:Mix v q q') (hw:Mix w r r') (n:∀ x,x=p\/x=p'->∀ y,y=q\/y=q'->∀ z,z=r\/z=r'->0<=dtV x y z)
  (s:∃ x y z,(x=p\/x=p')/\(y=q\/y=q')/\(z=r\/z=r')/\0 < dtV x y z):0 < dtV u v w:=by
 obtain ⟨x0,y0,z0,hx0,hy0,hz0,h0⟩:=s
 have nw:∀ x,x=p\/x=p'->∀ y,y=q\/y=q'->0<=dtV x y w:=fun x hx y hy=>by
  rw [<-dt_cyc w x y]
  refine mix_nn hw x y ?_ ?_
  ·rw [dt_cyc];exact n x hx y hy r (.inl rfl)
  ·rw [dt_cyc];exact n x hx y hy r' (.inr rfl)
 have pw:0 < dtV x0 y0 w:=by
  rw [<-dt_cyc w x0 y0]
  refine mix_pos hw x0 y0 ?_ ?_ ?_
  ·rw [dt_cyc];exact n x0 hx0 y0 hy0 r (.inl rfl)
  ·rw [dt_cyc];exact n x0 hx0 y0 hy0 r' (.inr rfl)
  ·rcases hz0 with e | e
   ·left;rw [dt_cyc,<-e];exact h0
   ·right;rw [dt_cyc,<-e];exact h0
 have nv:∀ x,x=p\/x=p'->0<=dtV x v w:=fun x hx=>by
  rw [dt_cyc]
  refine mix_nn hv w x ?_ ?_
  ·rw [<-dt_cyc];exact nw x hx q (.inl rfl)
  ·rw [<-dt_cyc];exact nw x hx q' (.inr rfl)
 have pv:0 < dtV x0 v w:=by
  rw [dt_cyc]
  refine mix_pos hv w x0 ?_ ?_ ?_
  ·rw [<-dt_cyc];exact nw x0 hx0 q (.inl rfl)
  ·rw [<-dt_cyc];exact nw x0 hx0 q' (.inr rfl)
  ·rcases hy0 with e | e
   ·left;rw [<-dt_cyc,<-e];exact pw
   ·right;rw [<-dt_cyc,<-e];exact pw
 refine mix_pos hu v w (nv p (.inl rfl)) (nv p' (.inr rfl)) ?_
 rcases hx0 with e | e
 ·left;rw [<-e];exact pv
 ·right;rw [<-e];exact pv
def TriP (P:Nat->Hf) (n:Nat):Prop:=∀ a b c,a < b->b < c->c < n->0 < dtV (P a) (P b) (P c)
def pvi (n i:Nat):Nat:=if i=0 then n - 1 else i - 1
theorem wk {P:Nat->Hf} {n:Nat} (hT:TriP P n) {a b c:Nat} (h1:a<=b) (h2:b<=c) (h3:c < n):0<=dtV (P a) (P b) (P c):=by
 rcases Nat.lt_or_ge a b with l1 | l1
 ·rcases Nat.lt_or_ge b c with l2 | l2
  ·exact Int.le_of_lt (hT a b c l1 l2 h3)
  ·have:b=c:=by omega
   rw [this,dt_abb];exact Int.le_refl _
 ·have:a=b:=by omega
  rw [this,dt_aab];exact Int.le_refl _
theorem wk' {P:Nat->Hf} {n:Nat} (hT:TriP P n) {b c:Nat} (h2:b<=c) (h3:c < n):0<=dtV (P (n - 1)) (P b) (P c):=by
 rw [dt_cyc]
 exact wk hT h2 (by omega) (by omega)
def lo (n:Nat) (s:Bool) (i:Nat):Nat:=if s=true then pvi n i else i
theorem lo_cases {n:Nat} {s:Bool} {i a:Nat} (h:a=lo n s i\/a=i):a=i\/(s=true/\a=pvi n i):=by
 unfold lo at h
 cases s with
 | true=>
      rcases h with h | h
      ·exact .inr ⟨rfl,by simpa using h⟩
      ·exact .inl h
 | false=>
       rcases h with h | h
       ·exact .inl (by simpa using h)
       ·exact .inl h
theorem tri3 {P:Nat->Hf} {n:Nat} (hn:3<=n) (hT:TriP P n) {u v w:Hf} {su sv sw:Bool} {i j k:Nat} (hu:Mix u (P (lo n su i)) (P i)) (hv:Mix v (P (lo n sv j)) (P j)) (hw:Mix w (P (lo n sw k)) (P k)) (hk:k < n)
  (ij:i < j\/(i=j/\su=true/\sv=false)) (jk:j < k\/(j=k/\sv=true/\sw=false))
  (x1:su=true->i=j->sw=false->k ≠ pvi n i) (x2:sv=true->j=k->su=false->i ≠ pvi n j):0 < dtV u v w:=by
 refine mix3 hu hv hw ?_ ?_
 ·intro x hx y hy z hz
  obtain ⟨a,rfl,ha⟩:∃ a,x=P a/\(a=lo n su i\/a=i):=hx.elim (fun e=>⟨_,e,.inl rfl⟩) (fun e=>⟨_,e,.inr rfl⟩)
  obtain ⟨b,rfl,hb⟩:∃ b,y=P b/\(b=lo n sv j\/b=j):=hy.elim (fun e=>⟨_,e,.inl rfl⟩) (fun e=>⟨_,e,.inr rfl⟩)
  obtain ⟨c,rfl,hc⟩:∃ c,z=P c/\(c=lo n sw k\/c=k):=hz.elim (fun e=>⟨_,e,.inl rfl⟩) (fun e=>⟨_,e,.inr rfl⟩)
  have ha:=lo_cases ha
  have hb:=lo_cases hb
  have hc:=lo_cases hc
  have hbj:i<=b/\b<=j:=by
   rcases hb with h | ⟨h,h'⟩
   ·omega
   ·rcases ij with l | ⟨_,_,l⟩
    ·unfold pvi at h';rw [if_neg (by omega)] at h';omega
    ·rw [h] at l;cases l
  have hck:b<=c/\c<=k:=by
   rcases hc with h | ⟨h,h'⟩
   ·omega
   ·rcases jk with l | ⟨_,_,l⟩
    ·unfold pvi at h';rw [if_neg (by omega)] at h';omega
    ·rw [h] at l;cases l
  rcases ha with h | ⟨h,h'⟩
  ·exact wk hT (by omega) hck.1 (by omega)
  ·unfold pvi at h'
   split at h'
   ·rw [h'];exact wk' hT hck.1 (by omega)
   ·exact wk hT (by omega) hck.1 (by omega)
 ·have hlo:∀ (s:Bool) (m:Nat),s=true->lo n s m=pvi n m:=fun s m h=>by unfold lo;rw [if_pos h]
  rcases ij with l1 | ⟨e1,e2,e3⟩
  ·rcases jk with l2 | ⟨f1,f2,f3⟩
   ·exact ⟨P i,P j,P k,.inr rfl,.inr rfl,.inr rfl,hT i j k l1 l2 hk⟩
   ·have hl:lo n sv j=j - 1:=by rw [hlo sv j f2];unfold pvi;rw [if_neg (by omega)]
    by_cases h:i < j - 1
    ·exact ⟨P i,P (j - 1),P k,.inr rfl,.inl (by rw [hl]),.inr rfl,hT i (j - 1) k h (by omega) hk⟩
    ·have hi:i=j - 1:=by omega
     have hs:su=true:=by
      cases su with
      | true=>rfl
      | false=>exact absurd (by unfold pvi;rw [if_neg (by omega)];exact hi) (x2 f2 f1 rfl)
     by_cases i0:i=0
     ·refine ⟨P (n - 1),P (j - 1),P k,.inl (by rw [hlo su i hs];unfold pvi;rw [if_pos i0]),.inl (by rw [hl]),.inr rfl,?_⟩
      rw [dt_cyc];exact hT (j - 1) k (n - 1) (by omega) (by omega) (by omega)
     ·exact ⟨P (i - 1),P (j - 1),P k,.inl (by rw [hlo su i hs];unfold pvi;rw [if_neg i0]),.inl (by rw [hl]),.inr rfl,hT (i - 1) (j - 1) k (by omega) (by omega) hk⟩
  ·have jk':j < k:=by
    rcases jk with l | ⟨_,f,_⟩
    ·exact l
    ·rw [f] at e3;cases e3
   by_cases i0:i=0
   ·have hl:lo n su i=n - 1:=by rw [hlo su i e2];unfold pvi;rw [if_pos i0]
    by_cases hk1:k < n - 1
    ·refine ⟨P (n - 1),P j,P k,.inl (by rw [hl]),.inr rfl,.inr rfl,?_⟩
     rw [dt_cyc];exact hT j k (n - 1) jk' hk1 (by omega)
    ·have hs:sw=true:=by
      cases sw with
      | true=>rfl
      | false=>exact absurd (by unfold pvi;rw [if_pos i0];omega) (x1 e2 e1 rfl)
     refine ⟨P (n - 1),P j,P (k - 1),.inl (by rw [hl]),.inr rfl,.inl (by rw [hlo sw k hs];unfold pvi;rw [if_neg (by omega)]),?_⟩
     rw [dt_cyc];exact hT j (k - 1) (n - 1) (by omega) (by omega) (by omega)
   ·exact ⟨P (i - 1),P j,P k,.inl (by rw [hlo su i e2];unfold pvi;rw [if_neg i0]),.inr rfl,.inr rfl,hT (i - 1) j k (by omega) jk' hk⟩
theorem edge_pos {P:Nat->Hf} {n:Nat} (hT:TriP P n) {k j:Nat} (hk:k < n) (hj:j < n) (h1:j ≠ k) (h2:j ≠ pvi n k):0 < dtV (P (pvi n k)) (P k) (P j):=by
 unfold pvi at *
 split at h2
 ·rename_i k0
  rw [if_pos k0,dt_cyc]
  exact hT k j (n - 1) (by omega) (by omega) (by omega)
 ·rename_i k0
  rw [if_neg k0]
  rcases Nat.lt_or_ge j k with l | l
  ·rw [<-dt_cyc]
   exact hT j (k - 1) k (by omega) (by omega) hk
  ·exact hT (k - 1) k j (by omega) (by omega) hj
theorem edge_nn {P:Nat->Hf} {n:Nat} (hT:TriP P n) {k j:Nat} (hk:k < n) (hj:j < n):0<=dtV (P (pvi n k)) (P k) (P j):=by
 by_cases h1:j=k
 ·rw [h1,dt_abb];exact Int.le_refl _
 ·by_cases h2:j=pvi n k
  ·rw [h2,dt_aba];exact Int.le_refl _
  ·exact Int.le_of_lt (edge_pos hT hk hj h1 h2)
theorem pt_ne {P:Nat->Hf} {n:Nat} (hn:3<=n) (hT:TriP P n) {i j:Nat} (hi:i < n) (hj:j < n) (h:i ≠ j):P i ≠ P j:=fun e=>by
 obtain ⟨m,hm,h1,h2⟩:∃ m,m < n/\m ≠ i/\m ≠ j:=by
  by_cases a:0 ≠ i/\0 ≠ j
  ·exact ⟨0,by omega,a⟩
  ·by_cases b:1 ≠ i/\1 ≠ j
   ·exact ⟨1,by omega,b⟩
   ·exact ⟨2,by omega,by omega,by omega⟩
 have sorted:∀ a b c,a < b->b < c->c < n->P a=P b\/P b=P c\/P a=P c->False:=fun a b c h1 h2 h3 e=>by
  have:=hT a b c h1 h2 h3
  rcases e with e | e | e
  ·rw [e,dt_aab] at this;omega
  ·rw [e,dt_abb] at this;omega
  ·rw [e,dt_aba] at this;omega
 rcases Nat.lt_trichotomy i j with l | l | l
 ·rcases Nat.lt_or_ge m i with q | q
  ·exact sorted m i j q l hj (.inr (.inl e))
  ·rcases Nat.lt_or_ge m j with q' | q'
   ·exact sorted i m j (by omega) q' hj (.inr (.inr e))
   ·exact sorted i j m l (by omega) hm (.inl e)
 ·exact h l
 ·rcases Nat.lt_or_ge m j with q | q
  ·exact sorted m j i q l hi (.inr (.inl e.symm))
  ·rcases Nat.lt_or_ge m i with q' | q'
   ·exact sorted j m i (by omega) q' hi (.inr (.inr e.symm))
   ·exact sorted j i m l (by omega) hm (.inl e.symm)
theorem pvi_lt {n k:Nat} (h:k < n):pvi n k < n:=by unfold pvi;split <;> omega
theorem pvi_ne {n k:Nat} (h:3<=n) (hk:k < n):pvi n k ≠ k/\pvi n (pvi n k) ≠ k/\pvi n (pvi n k) ≠ pvi n k:=by
 unfold pvi
 refine ⟨?_,?_,?_⟩
 ·split <;> omega
 ·split
  ·split <;> omega
  ·split <;> omega
 ·split
  ·split <;> omega
  ·split <;> omega
def TriL (F:List Hf):Prop:=∀ a b c (_:a < b) (_:b < c) (h3:c < F.length),0 < dtV F[a] F[b] F[c]
theorem tri_of_pw {α:Type} {R:α->α->Prop} {f:α->Hf} {L:List α} (hp:L.Pairwise R) (h:∀ x∈L,∀ y∈L,∀ z∈L,R x y->R y z->0 < dtV (f x) (f y) (f z)):TriL (L.map f):=by
 intro a b c h1 h2 h3
 rw [List.length_map] at h3
 rw [List.getElem_map,List.getElem_map,List.getElem_map]
 rw [List.pairwise_iff_getElem] at hp
 exact h _ (List.getElem_mem _) _ (List.getElem_mem _) _ (List.getElem_mem _) (hp a b (by omega) (by omega) h1) (hp b c (by omega) (by omega) h2)
theorem tri_of_reg {F:List Hf} (R:RegF F):TriL F:=by
 by_cases hn:F.length < 3
 ·intro a b c h1 h2 h3;omega
 have hn:3<=F.length:=by omega
 have trn:=R.trn (by omega)
 have ne0:∀ k (hk:k < F.length),0 < k->F[0] ≠ F[k]:=fun k hk h0 e=>by
  have:=R.fst k hk h0
  rw [<-e] at this
  unfold bfV at this
  simp at this
 have ed:∀ k (hk:k < F.length) (h0:0 < k) v,v∈F->v ≠ F[k]->v ≠ F[k - 1]->0 < dtV F[k - 1] F[k] v:=fun k hk h0 v hv h1 h2=>by
  have:=trn k hk v hv h1 (by unfold pvG;rw [dif_neg (by omega)];exact h2)
  unfold pvG at this
  rw [dif_neg (by omega)] at this
  exact this
 have fan:∀ (a:Nat) (ha:a + 1 < F.length),(∀ c (hc:c < F.length),a + 1 < c->0 < dtV F[a] F[a + 1] F[c])->(∀ c (hc:c + 1 < F.length),a < c->0 < dtV F[a] F[c] F[c + 1])->∀ b c (_:a < b) (_:b < c) (hc:c < F.length),0 < dtV F[a] F[b] F[c]:=by
  intro a ha hA hB b c hab hbc
  induction c with
  | zero=>omega
  | succ c ih=>
   intro hc
   by_cases e:b=c
   ·subst e;exact hB b hc hab
   ·have i1:=ih (by omega) (by omega)
    by_cases eb:b=a + 1
    ·subst eb;exact hA (c + 1) hc (by omega)
    ·have q1:=hA b (by omega) (by omega)
     have q2:=hA c (by omega) (by omega)
     have q3:=hA (c + 1) hc (by omega)
     have q4:=hB c hc (by omega)
     have pl:=dt_pl F[a] F[a + 1] F[b] F[c] F[c + 1]
     have m1:=Int.mul_pos q1 q4
     have m2:=Int.mul_pos q3 i1
     exact pos_cancel q2 (by omega)
 have B0:∀ c (hc:c + 1 < F.length),0 < c->0 < dtV F[0] F[c] F[c + 1]:=fun c hc h0=>by
  have:=ed (c + 1) hc (by omega) F[0] (List.getElem_mem _) (ne0 _ hc (by omega)) (ne0 c (by omega) h0)
  rw [<-dt_cyc] at this
  exact this
 have A0:∀ c (hc:c < F.length),1 < c->0 < dtV F[0] F[1] F[c]:=fun c hc h1=>by
  have nn:∀ c (hc:c < F.length),1<=c->0<=dtV F[0] F[1] F[c]:=fun c hc h1=>by
   by_cases e:F[c]=F[1]
   ·rw [e,dt_abb];exact Int.le_refl _
   ·exact Int.le_of_lt (ed 1 (by omega) (by omega) F[c] (List.getElem_mem _) e (fun e'=>ne0 c hc (by omega) e'.symm))
  by_cases e:F[c]=F[1]
  ·exfalso
   obtain ⟨d,rfl⟩:∃ d,c=d + 1:=⟨c - 1,by omega⟩
   have b:=B0 d hc (by omega)
   rw [e,dt_swap] at b
   have:=nn d (by omega) (by omega)
   omega
  ·exact ed 1 (by omega) (by omega) F[c] (List.getElem_mem _) e (fun e'=>ne0 c hc (by omega) e'.symm)
 have T0:=fan 0 (by omega) A0 B0
 have ne:∀ b c (hb:b < F.length) (hc:c < F.length),b < c->F[b] ≠ F[c]:=fun b c hb hc h e=>by
  by_cases b0:b=0
  ·subst b0;exact ne0 c hc h e
  ·have:=T0 b c (by omega) h hc
   rw [e,dt_abb] at this;omega
 intro a b c h1 h2 h3
 refine fan a (by omega) (fun c hc h=>?_) (fun c hc h=>?_) b c h1 h2 h3
 ·exact ed (a + 1) (by omega) (by omega) F[c] (List.getElem_mem _) (fun e=>ne (a + 1) c (by omega) hc h e.symm) (fun e=>ne a c (by omega) hc (by omega) e.symm)
 ·have:=ed (c + 1) hc (by omega) F[a] (List.getElem_mem _) (ne a (c + 1) (by omega) hc (by omega)) (ne a c (by omega) (by omega) h)
  rw [<-dt_cyc] at this
  exact this
theorem reg_of_tri {F:List Hf} (hT:TriL F) (h2:2 < F.length) (k:Nat) (hk:k < F.length) (v:Hf) (hv:v∈F) (h1:v ≠ F[k]) (h3:v ≠ pvG F k hk):0 < dtV (pvG F k hk) F[k] v:=by
 obtain ⟨j,hj,rfl⟩:=List.getElem_of_mem hv
 have hP:TriP (fun i=>F.getD i (0,0,0)) F.length:=fun a b c q1 q2 q3=>by
  have:=hT a b c q1 q2 q3
  simp only [List.getD_eq_getElem?_getD,List.getElem?_eq_getElem (show a < F.length by omega),List.getElem?_eq_getElem (show b < F.length by omega),List.getElem?_eq_getElem q3,Option.getD_some]
  exact this
 have g:∀ i (hi:i < F.length),F.getD i (0,0,0)=F[i]:=fun i hi=>by simp [List.getD_eq_getElem?_getD,List.getElem?_eq_getElem hi]
 have hpv:pvG F k hk=F.getD (pvi F.length k) (0,0,0):=by
  rw [g _ (pvi_lt hk)]
  unfold pvG pvi
  split <;> rename_i e
  ·simp [e]
  ·simp [e]
 rw [hpv] at h3 ⊢
 have:=edge_pos hP hk hj (fun e=>h1 (by subst e;rfl)) (fun e=>h3 (by rw [<-e,g _ hj]))
 rw [g _ hj,g _ hk] at this
 exact this
end Law
namespace Law
open L2 DL
set_option maxHeartbeats 1000000
def abV (x:Int):Int:=if x < 0 then -x else x
theorem ab_pos {x:Int} (h:x ≠ 0):0 < abV x:=by unfold abV;split <;> omega
def mxV (p q:Fr) (a b:Int):Fr:=frV (p.1*q.2*a + q.1*p.2*b) (p.2*q.2*(a + b))
def crV (h:Hf) (p q:Spo):Spo:=(mxV p.1 q.1 (abV (exV h q)*(p.1.2*p.2.2)) (abV (exV h p)*(q.1.2*q.2.2)),mxV p.2 q.2 (abV (exV h q)*(p.1.2*p.2.2)) (abV (exV h p)*(q.1.2*q.2.2)))
theorem mx_comm (p q:Fr) (a b:Int):mxV p q a b=mxV q p b a:=by
 unfold mxV
 have e1:p.1*q.2*a + q.1*p.2*b=q.1*p.2*b + p.1*q.2*a:=Int.add_comm _ _
 have e2:p.2*q.2*(a + b)=q.2*p.2*(b + a):=by rw [Int.mul_comm p.2,Int.add_comm a]
 rw [e1,e2]
theorem cr_comm (h:Hf) (p q:Spo):crV h p q=crV h q p:=by
 unfold crV
 rw [mx_comm p.1,mx_comm p.2]
theorem fr_prop {a b:Int} (hb:0 < b):∃ g:Int,0 < g/\a=g*(frV a b).1/\b=g*(frV a b).2:=by
 have hg:0 < (Int.gcd a b:Int):=by have:=gcd_ne (a:=a) (b:=b) (.inr (by omega));omega
 have hc:cmn a b=(Int.gcd a b:Int):=by unfold cmn;rw [if_neg (by omega)]
 obtain ⟨d1,d2⟩:=cmn_dvd a b
 have e1:=fdiv_dvd d1
 have e2:=fdiv_dvd d2
 refine ⟨cmn a b,by omega,?_,?_⟩
 ·unfold frV;dsimp only;rw [Int.mul_comm];exact e1.symm
 ·unfold frV;dsimp only;rw [Int.mul_comm];exact e2.symm
theorem idA (px0 px1 py1 qx0 qx1 qy1 A B:Int):(px0*qx1*(A*(px1*py1)) + qx0*px1*(B*(qx1*qy1)))*(py1*qy1*(A*(px1*py1) + B*(qx1*qy1)))=(A*(px1*py1) + B*(qx1*qy1))*(px1*py1*(qx1*qy1))*(A*(px0*py1) + B*(qx0*qy1)):=by grind
theorem idB (py0 px1 py1 qy0 qx1 qy1 A B:Int):(py0*qy1*(A*(px1*py1)) + qy0*py1*(B*(qx1*qy1)))*(px1*qx1*(A*(px1*py1) + B*(qx1*qy1)))=(A*(px1*py1) + B*(qx1*qy1))*(px1*py1*(qx1*qy1))*(A*(py0*px1) + B*(qy0*qx1)):=by grind
theorem idC (px1 py1 qx1 qy1 A B:Int):px1*qx1*(A*(px1*py1) + B*(qx1*qy1))*(py1*qy1*(A*(px1*py1) + B*(qx1*qy1)))=(A*(px1*py1) + B*(qx1*qy1))*(px1*py1*(qx1*qy1))*(A*(px1*py1) + B*(qx1*qy1)):=by grind
theorem cr_flat {h:Hf} {p q:Spo} (op:SpOk p) (oq:SpOk q) (hp:exV h p ≠ 0) (hq:exV h q ≠ 0) :
  SpOk (crV h p q)/\∃ κ c:Int,0 < κ/\0 < c/\κ*(strV (crV h p q)).1=c*(abV (exV h q)*(strV p).1 + abV (exV h p)*(strV q).1)/\κ*(strV (crV h p q)).2.1=c*(abV (exV h q)*(strV p).2.1 + abV (exV h p)*(strV q).2.1)/\κ*(strV (crV h p q)).2.2=c*(abV (exV h q)*(strV p).2.2 + abV (exV h p)*(strV q).2.2):=by
 obtain ⟨⟨px0,px1⟩,⟨py0,py1⟩⟩:=p
 obtain ⟨⟨qx0,qx1⟩,⟨qy0,qy1⟩⟩:=q
 have p1:0 < px1:=op.1.1
 have p2:0 < py1:=op.2.1
 have q1:0 < qx1:=oq.1.1
 have q2:0 < qy1:=oq.2.1
 have A0:=ab_pos hq
 have B0:=ab_pos hp
 unfold crV strV
 generalize abV (exV h ((qx0,qx1),qy0,qy1))=A at A0
 generalize abV (exV h ((px0,px1),py0,py1))=B at B0
 unfold mxV
 dsimp only
 have pp:0 < px1*py1:=Int.mul_pos p1 p2
 have qq:0 < qx1*qy1:=Int.mul_pos q1 q2
 have W0:0 < A*(px1*py1) + B*(qx1*qy1):=by
  have:=Int.mul_pos A0 pp
  have:=Int.mul_pos B0 qq
  omega
 have bx:0 < px1*qx1*(A*(px1*py1) + B*(qx1*qy1)):=Int.mul_pos (Int.mul_pos p1 q1) W0
 have by':0 < py1*qy1*(A*(px1*py1) + B*(qx1*qy1)):=Int.mul_pos (Int.mul_pos p2 q2) W0
 have ox:=fr_ok (a:=px0*qx1*(A*(px1*py1)) + qx0*px1*(B*(qx1*qy1))) (b:=px1*qx1*(A*(px1*py1) + B*(qx1*qy1))) (by omega)
 have oy:=fr_ok (a:=py0*qy1*(A*(px1*py1)) + qy0*py1*(B*(qx1*qy1))) (b:=py1*qy1*(A*(px1*py1) + B*(qx1*qy1))) (by omega)
 obtain ⟨gx,gx0,ex1,ex2⟩:=fr_prop (a:=px0*qx1*(A*(px1*py1)) + qx0*px1*(B*(qx1*qy1))) bx
 obtain ⟨gy,gy0,ey1,ey2⟩:=fr_prop (a:=py0*qy1*(A*(px1*py1)) + qy0*py1*(B*(qx1*qy1))) by'
 refine ⟨⟨ox,oy⟩,gx*gy,(A*(px1*py1) + B*(qx1*qy1))*(px1*py1*(qx1*qy1)),Int.mul_pos gx0 gy0,Int.mul_pos W0 (Int.mul_pos pp qq),?_,?_,?_⟩
 ·rw [show ∀ a d:Int,gx*gy*(a*d)=gx*a*(gy*d) from fun a d=>by grind,<-ex1,<-ey2]
  exact idA ..
 ·rw [show ∀ a d:Int,gx*gy*(a*d)=gy*a*(gx*d) from fun a d=>by grind,<-ey1,<-ex2]
  exact idB ..
 ·rw [show ∀ a d:Int,gx*gy*(a*d)=gx*a*(gy*d) from fun a d=>by grind,<-ex2,<-ey2]
  exact idC ..
theorem ex_flat (h:Hf) (s:Spo):exV h s=h.1*(strV s).1 + h.2.1*(strV s).2.1 - h.2.2*(strV s).2.2:=by
 unfold exV strV
 dsimp only
 grind
def opV (h:Hf) (p q:Spo):Prop:=sgn (exV h p)*sgn (exV h q) < 0
def kpV (h:Hf) (q:Spo):Prop:=sgn (exV h q)>=0
instance (h:Hf) (p q:Spo):Decidable (opV h p q):=inferInstanceAs (Decidable (_ < _))
instance (h:Hf) (q:Spo):Decidable (kpV h q):=inferInstanceAs (Decidable (_>=_))
theorem op_iff {h:Hf} {p q:Spo}:opV h p q ↔ (0 < exV h p/\exV h q < 0)\/(exV h p < 0/\0 < exV h q):=by
 unfold opV sgn
 by_cases a:exV h p > 0
 ·by_cases b:exV h q > 0
  ·simp [a,b] <;> omega
  ·by_cases c:exV h q < 0
   ·simp [a,b,c]
   ·simp [a,b,c] <;> omega
 ·by_cases a':exV h p < 0
  ·by_cases b:exV h q > 0
   ·simp [a,a',b]
   ·by_cases c:exV h q < 0
    ·simp [a,a',b,c]
    ·simp [a,a',b,c]
  ·simp [a,a']
theorem kp_iff {h:Hf} {q:Spo}:kpV h q ↔ 0<=exV h q:=by
 unfold kpV sgn
 split
 ·simp;omega
 ·split <;> simp <;> omega
theorem cr_mix {h:Hf} {p q:Spo} (op:SpOk p) (oq:SpOk q) (ho:opV h p q):SpOk (crV h p q)/\Mix (strV (crV h p q)) (strV p) (strV q)/\exV h (crV h p q)=0:=by
 have ho:=op_iff.mp ho
 have hp:exV h p ≠ 0:=by omega
 have hq:exV h q ≠ 0:=by omega
 obtain ⟨ok,κ,c,k0,c0,e1,e2,e3⟩:=cr_flat op oq hp hq
 have A0:=ab_pos hq
 have B0:=ab_pos hp
 refine ⟨ok,⟨κ,c*abV (exV h q),c*abV (exV h p),k0,Int.mul_pos c0 A0,Int.mul_pos c0 B0,by rw [e1];grind,by rw [e2];grind,by rw [e3];grind⟩,?_⟩
 have z:abV (exV h q)*exV h p + abV (exV h p)*exV h q=0:=by
  rcases ho with ⟨a,b⟩ | ⟨a,b⟩
  ·have x1:abV (exV h q)=-exV h q:=by unfold abV;rw [if_pos b]
   have x2:abV (exV h p)=exV h p:=by unfold abV;rw [if_neg (by omega)]
   rw [x1,x2];grind
  ·have x1:abV (exV h q)=exV h q:=by unfold abV;rw [if_neg (by omega)]
   have x2:abV (exV h p)=-exV h p:=by unfold abV;rw [if_pos a]
   rw [x1,x2];grind
 have k:κ*exV h (crV h p q)=c*(abV (exV h q)*exV h p + abV (exV h p)*exV h q):=by
  rw [ex_flat h (crV h p q)]
  generalize strV (crV h p q)=f at e1 e2 e3
  have t:κ*(h.1*f.1 + h.2.1*f.2.1 - h.2.2*f.2.2)=h.1*(κ*f.1) + h.2.1*(κ*f.2.1) - h.2.2*(κ*f.2.2):=by grind
  rw [t,e1,e2,e3]
  generalize abV (exV h q)=A
  generalize abV (exV h p)=B
  rw [ex_flat h p,ex_flat h q]
  grind
 rw [z,Int.mul_zero] at k
 rcases Int.mul_eq_zero.mp k with z | z
 ·omega
 ·exact z
theorem q_trans {x a y b z c:Int} (hb:0 < b) (ha:0 < a) (hc:0 < c) (h1:x*b<=y*a) (h2:y*c<=z*b):x*c<=z*a/\((x*b < y*a\/y*c < z*b)->x*c < z*a):=by
 have m1:=Int.mul_le_mul_of_nonneg_right h1 (Int.le_of_lt hc)
 have m2:=Int.mul_le_mul_of_nonneg_right h2 (Int.le_of_lt ha)
 have t1:x*b*c=x*c*b:=by grind
 have t2:z*b*a=z*a*b:=by grind
 have t3:y*a*c=y*c*a:=by grind
 refine ⟨Int.le_of_mul_le_mul_right (show x*c*b<=z*a*b by omega) hb,fun h=>Int.lt_of_mul_lt_mul_right (a:=b) ?_ (Int.le_of_lt hb)⟩
 rcases h with h | h
 ·have:=Int.mul_lt_mul_of_pos_right h hc;omega
 ·have:=Int.mul_lt_mul_of_pos_right h ha;omega
def Bf (a b:Hf):Prop:=a.1*b.2.2 < b.1*a.2.2\/(a.1*b.2.2=b.1*a.2.2/\a.2.1*b.2.2 < b.2.1*a.2.2)
theorem bf_iff {a b:Hf}:bfV a b=true ↔ Bf a b:=by
 unfold bfV Bf
 split
 ·rw [decide_eq_true_eq];omega
 ·rw [decide_eq_true_eq];omega
theorem bf_false {a b:Hf}:bfV a b=false ↔ ¬ Bf a b:=by
 rw [<-bf_iff]
 cases bfV a b <;> simp
theorem Bf.trans {a b c:Hf} (ha:0 < a.2.2) (hb:0 < b.2.2) (hc:0 < c.2.2) (h1:Bf a b) (h2:Bf b c):Bf a c:=by
 unfold Bf at *
 rcases h1 with h1 | ⟨h1,h1'⟩
 ·left
  refine (q_trans hb ha hc (Int.le_of_lt h1) ?_).2 (.inl h1)
  omega
 ·rcases h2 with h2 | ⟨h2,h2'⟩
  ·left
   exact (q_trans hb ha hc (by omega) (Int.le_of_lt h2)).2 (.inr h2)
  ·right
   have k1:=(q_trans (x:=a.1) (y:=b.1) (z:=c.1) hb ha hc (by omega) (by omega)).1
   have k2:=(q_trans (x:=-a.1) (y:=-b.1) (z:=-c.1) hb ha hc (by rw [Int.neg_mul,Int.neg_mul];omega) (by rw [Int.neg_mul,Int.neg_mul];omega)).1
   rw [Int.neg_mul,Int.neg_mul] at k2
   exact ⟨by omega,(q_trans hb ha hc (Int.le_of_lt h1') (Int.le_of_lt h2')).2 (.inl h1')⟩
theorem Bf.irr (a:Hf):¬ Bf a a:=by unfold Bf;omega
theorem Bf.asym {a b:Hf} (h:Bf a b):¬ Bf b a:=by unfold Bf at *;omega
theorem z_pos {s:Spo} (h:SpOk s):0 < (strV s).2.2:=Int.mul_pos h.1.1 h.2.1
theorem bf_tot {p q:Spo} (hp:SpOk p) (hq:SpOk q) (h:p ≠ q):Bf (strV p) (strV q)\/Bf (strV q) (strV p):=by
 by_cases a:Bf (strV p) (strV q)
 ·exact .inl a
 ·right
  by_cases b:Bf (strV q) (strV p)
  ·exact b
  ·exfalso
   apply h
   unfold Bf strV at a b
   have x1:0 < p.2.2:=hp.2.1
   have x2:0 < q.2.2:=hq.2.1
   have x3:0 < p.1.2:=hp.1.1
   have x4:0 < q.1.2:=hq.1.1
   dsimp only at a b
   have e1:p.1.1*p.2.2*(q.1.2*q.2.2)=q.1.1*q.2.2*(p.1.2*p.2.2):=by omega
   have e2:p.2.1*p.1.2*(q.1.2*q.2.2)=q.2.1*q.1.2*(p.1.2*p.2.2):=by omega
   refine Prod.ext (fr_eq hp.1 hq.1 ?_) (fr_eq hp.2 hq.2 ?_)
   ·refine Int.eq_of_mul_eq_mul_right (a:=p.2.2*q.2.2) (by have:=Int.mul_pos x1 x2;omega) ?_
    have t1:p.1.1*q.1.2*(p.2.2*q.2.2)=p.1.1*p.2.2*(q.1.2*q.2.2):=by grind
    have t2:q.1.1*p.1.2*(p.2.2*q.2.2)=q.1.1*q.2.2*(p.1.2*p.2.2):=by grind
    rw [t1,t2,e1]
   ·refine Int.eq_of_mul_eq_mul_right (a:=p.1.2*q.1.2) (by have:=Int.mul_pos x3 x4;omega) ?_
    have t1:p.2.1*q.2.2*(p.1.2*q.1.2)=p.2.1*p.1.2*(q.1.2*q.2.2):=by grind
    have t2:q.2.1*p.2.2*(p.1.2*q.1.2)=q.2.1*q.1.2*(p.1.2*p.2.2):=by grind
    rw [t1,t2,e2]
theorem mix_bf {u p q:Hf} (h:Mix u p q) (hp:0 < p.2.2) (hq:0 < q.2.2) (hb:Bf p q):¬ Bf u p/\¬ Bf q u:=by
 obtain ⟨κ,α,β,k0,a0,b0,e1,e2,e3⟩:=h
 have i1:κ*(u.1*p.2.2 - p.1*u.2.2)=β*(q.1*p.2.2 - p.1*q.2.2):=by
  have t:κ*(u.1*p.2.2 - p.1*u.2.2)=κ*u.1*p.2.2 - p.1*(κ*u.2.2):=by grind
  rw [t,e1,e3];grind
 have i2:κ*(u.2.1*p.2.2 - p.2.1*u.2.2)=β*(q.2.1*p.2.2 - p.2.1*q.2.2):=by
  have t:κ*(u.2.1*p.2.2 - p.2.1*u.2.2)=κ*u.2.1*p.2.2 - p.2.1*(κ*u.2.2):=by grind
  rw [t,e2,e3];grind
 have i3:κ*(q.1*u.2.2 - u.1*q.2.2)=α*(q.1*p.2.2 - p.1*q.2.2):=by
  have t:κ*(q.1*u.2.2 - u.1*q.2.2)=q.1*(κ*u.2.2) - κ*u.1*q.2.2:=by grind
  rw [t,e1,e3];grind
 have i4:κ*(q.2.1*u.2.2 - u.2.1*q.2.2)=α*(q.2.1*p.2.2 - p.2.1*q.2.2):=by
  have t:κ*(q.2.1*u.2.2 - u.2.1*q.2.2)=q.2.1*(κ*u.2.2) - κ*u.2.1*q.2.2:=by grind
  rw [t,e2,e3];grind
 have sg:∀ {γ d e:Int},0 < γ->κ*d=γ*e->(0 < e->0 < d)/\(e=0->d=0):=fun {γ d e} g0 ee=>⟨fun h=>pos_cancel k0 (by rw [ee];exact Int.mul_pos g0 h),fun h=>by
  rw [h,Int.mul_zero] at ee
  rcases Int.mul_eq_zero.mp ee with z | z
  ·omega
  ·exact z⟩
 have s1:=sg b0 i1
 have s2:=sg b0 i2
 have s3:=sg a0 i3
 have s4:=sg a0 i4
 unfold Bf at *
 rcases hb with hb | ⟨hb,hb'⟩
 ·have:=s1.1 (by omega)
  have:=s3.1 (by omega)
  omega
 ·have:=s1.2 (by omega)
  have:=s3.2 (by omega)
  have:=s2.1 (by omega)
  have:=s4.1 (by omega)
  omega
def OnL (l:Hf) (s:Spo):Prop:=SzH 300 l/\(l.1 ≠ 0\/l.2.1 ≠ 0)/\exV l s=0
def Cn (s:Spo):Prop:=∃ l m:Hf,OnL l s/\OnL m s/\l.1*m.2.1 - l.2.1*m.1 ≠ 0
def Lk (p q:Spo):Prop:=∃ l:Hf,OnL l p/\OnL l q
theorem fr_sz {f:Fr} {N D:Int} {n:Nat} (hf:FrOk f) (hD:D ≠ 0) (h:D*f.1=N*f.2) (zN:Sz n N) (zD:Sz n D):SzF n f:=by
 obtain ⟨f0,f1⟩:=hf
 have d1:f.2 ∣ D:=cop_dvd f1 ⟨N,by rw [Int.mul_comm,h,Int.mul_comm]⟩
 have d2:f.1 ∣ N:=by
  refine cop_dvd (a:=f.2) (b:=f.1) (by rw [Int.gcd_comm];exact f1) ⟨D,by rw [Int.mul_comm,<-h,Int.mul_comm]⟩
 constructor
 ·by_cases e:N=0
  ·rw [e,Int.zero_mul] at h
   rcases Int.mul_eq_zero.mp h with z | z
   ·exact absurd z hD
   ·rw [z];exact ⟨Nat.two_pow_pos n⟩
  ·exact ⟨Nat.lt_of_le_of_lt (Nat.le_of_dvd (by omega) (Int.natAbs_dvd_natAbs.mpr d2)) zN.lt⟩
 ·exact ⟨Nat.lt_of_le_of_lt (Nat.le_of_dvd (by omega) (Int.natAbs_dvd_natAbs.mpr d1)) zD.lt⟩
theorem cn_sz {s:Spo} (ok:SpOk s) (h:Cn s):SzS 602 s:=by
 obtain ⟨l,m,⟨zl,_,el⟩,⟨zm,_,em⟩,hD⟩:=h
 rw [ex_flat] at el em
 unfold strV at el em
 dsimp only at el em
 have x1:0 < s.1.2:=ok.1.1
 have x2:0 < s.2.2:=ok.2.1
 have zD:Sz 602 (l.1*m.2.1 - l.2.1*m.1):=(Sz.sub (Sz.mul zl.1 zm.2.1) (Sz.mul zl.2.1 zm.1)).mono (by decide)
 have zX:Sz 602 (l.2.2*m.2.1 - m.2.2*l.2.1):=(Sz.sub (Sz.mul zl.2.2 zm.2.1) (Sz.mul zm.2.2 zl.2.1)).mono (by decide)
 have zY:Sz 602 (l.1*m.2.2 - m.1*l.2.2):=(Sz.sub (Sz.mul zl.1 zm.2.2) (Sz.mul zm.1 zl.2.2)).mono (by decide)
 refine ⟨fr_sz ok.1 hD (N:=l.2.2*m.2.1 - m.2.2*l.2.1) ?_ zX zD,fr_sz ok.2 hD (N:=l.1*m.2.2 - m.1*l.2.2) ?_ zY zD⟩
 ·refine Int.eq_of_mul_eq_mul_right (a:=s.2.2) (by omega) ?_
  grind
 ·refine Int.eq_of_mul_eq_mul_right (a:=s.1.2) (by omega) ?_
  grind
theorem cr_on {h l:Hf} {p q:Spo} (op:SpOk p) (oq:SpOk q) (ho:opV h p q) (hp:OnL l p) (hq:OnL l q):OnL l (crV h p q):=by
 refine ⟨hp.1,hp.2.1,?_⟩
 obtain ⟨_,⟨κ,α,β,k0,a0,b0,e1,e2,e3⟩,_⟩:=cr_mix op oq ho
 have ep:=hp.2.2
 have eq:=hq.2.2
 rw [ex_flat] at ep eq ⊢
 generalize strV (crV h p q)=f at *
 have t:κ*(l.1*f.1 + l.2.1*f.2.1 - l.2.2*f.2.2)=l.1*(κ*f.1) + l.2.1*(κ*f.2.1) - l.2.2*(κ*f.2.2):=by grind
 have t2:κ*(l.1*f.1 + l.2.1*f.2.1 - l.2.2*f.2.2)=α*(l.1*(strV p).1 + l.2.1*(strV p).2.1 - l.2.2*(strV p).2.2) + β*(l.1*(strV q).1 + l.2.1*(strV q).2.1 - l.2.2*(strV q).2.2):=by
  rw [t,e1,e2,e3];grind
 rw [ep,eq,Int.mul_zero,Int.mul_zero] at t2
 rcases Int.mul_eq_zero.mp (show κ*(l.1*f.1 + l.2.1*f.2.1 - l.2.2*f.2.2)=0 by omega) with z | z
 ·omega
 ·exact z
theorem cr_cn {h:Hf} {p q:Spo} (op:SpOk p) (oq:SpOk q) (ho:opV h p q) (zh:SzH 300 h) (nh:h.1 ≠ 0\/h.2.1 ≠ 0) (hl:Lk p q):Cn (crV h p q):=by
 obtain ⟨l,lp,lq⟩:=hl
 refine ⟨l,h,cr_on op oq ho lp lq,⟨zh,nh,(cr_mix op oq ho).2.2⟩,fun e=>?_⟩
 have ep:=lp.2.2
 have eq:=lq.2.2
 have z1:=z_pos op
 have z2:=z_pos oq
 have ho:=op_iff.mp ho
 rw [ex_flat] at ep eq
 rw [ex_flat,ex_flat] at ho
 generalize strV p=u at *
 generalize strV q=v at *
 have n:=lp.2.1
 have a1:v.2.2*(h.1*u.1 + h.2.1*u.2.1 - h.2.2*u.2.2)=u.2.2*(h.1*v.1 + h.2.1*v.2.1 - h.2.2*v.2.2):=by
  have b1:l.1*(v.2.2*(h.1*u.1 + h.2.1*u.2.1 - h.2.2*u.2.2) - u.2.2*(h.1*v.1 + h.2.1*v.2.1 - h.2.2*v.2.2))=0:=by grind
  have b2:l.2.1*(v.2.2*(h.1*u.1 + h.2.1*u.2.1 - h.2.2*u.2.2) - u.2.2*(h.1*v.1 + h.2.1*v.2.1 - h.2.2*v.2.2))=0:=by grind
  rcases n with n | n
  ·rcases Int.mul_eq_zero.mp b1 with z | z
   ·exact absurd z n
   ·omega
  ·rcases Int.mul_eq_zero.mp b2 with z | z
   ·exact absurd z n
   ·omega
 rcases ho with ⟨o1,o2⟩ | ⟨o1,o2⟩
 ·have:=Int.mul_pos z2 o1
  have:=Int.mul_neg_of_pos_of_neg z1 o2
  omega
 ·have:=Int.mul_neg_of_pos_of_neg z2 o1
  have:=Int.mul_pos z1 o2
  omega
theorem line3 {h u v w:Hf} (nh:h.1 ≠ 0\/h.2.1 ≠ 0) (hu:h.1*u.1 + h.2.1*u.2.1 - h.2.2*u.2.2=0) (hv:h.1*v.1 + h.2.1*v.2.1 - h.2.2*v.2.2=0) (hw:h.1*w.1 + h.2.1*w.2.1 - h.2.2*w.2.2=0):dtV u v w=0:=by
 unfold dtV
 rcases nh with n | n
 ·refine (Int.mul_eq_zero.mp (show h.1*_=0 from ?_)).resolve_left n
  grind
 ·refine (Int.mul_eq_zero.mp (show h.2.1*_=0 from ?_)).resolve_left n
  grind
end Law
namespace Law
open L2 DL
set_option maxHeartbeats 1000000
def s0:Spo:=((0,1),(0,1))
def prV (L:List Spo):List (Spo × Spo):=(List.range L.length).map fun k=>if hk:k < L.length then (pvG L k hk,L[k]) else (((0,0),(0,0)),((0,0),(0,0)))
def stp (h:Hf) (ks:List Spo) (x:Spo × Spo):List Spo:=
 if kpV h x.2 then (if opV h x.1 x.2/\¬ crV h x.1 x.2∈ks then ks++[crV h x.1 x.2] else ks)++[x.2] else (if opV h x.1 x.2/\¬ crV h x.1 x.2∈ks then ks++[crV h x.1 x.2] else ks)
def clF (h:Hf) (L:List Spo):List Spo:=(prV L).foldl (stp h) []
def gt (L:List Spo) (i:Nat):Spo:=L.getD i s0
theorem gt_eq {L:List Spo} {i:Nat} (h:i < L.length):gt L i=L[i]:=by unfold gt;simp [List.getD_eq_getElem?_getD,List.getElem?_eq_getElem h]
theorem pvG_gt {L:List Spo} {k:Nat} (hk:k < L.length):pvG L k hk=gt L (pvi L.length k):=by
 rw [gt_eq (pvi_lt hk)]
 unfold pvG pvi
 split <;> rename_i e
 ·simp [e]
 ·simp [e]
theorem prV_eq (L:List Spo):prV L=(List.range L.length).map fun k=>(gt L (pvi L.length k),gt L k):=by
 unfold prV
 refine List.map_congr_left fun k hk=>?_
 have hk:=List.mem_range.mp hk
 rw [dif_pos hk,pvG_gt hk,gt_eq hk]
abbrev Itm:=Nat × Bool × Spo
def itB (h:Hf) (G:Nat->Spo) (n i:Nat):List Itm:=(if opV h (G (pvi n i)) (G i) then [(i,true,crV h (G (pvi n i)) (G i))] else [])++(if kpV h (G i) then [(i,false,G i)] else [])
def KI (h:Hf) (G:Nat->Spo) (n m:Nat):List Itm:=(List.range m).flatMap (itB h G n)
def Is (h:Hf) (G:Nat->Spo) (n:Nat) (x:Itm):Prop:=(x.2.1=true/\opV h (G (pvi n x.1)) (G x.1)/\x.2.2=crV h (G (pvi n x.1)) (G x.1))\/(x.2.1=false/\kpV h (G x.1)/\x.2.2=G x.1)
theorem mem_itB {h:Hf} {G:Nat->Spo} {n i:Nat} {x:Itm}:x∈itB h G n i ↔ x.1=i/\Is h G n x:=by
 unfold itB Is
 obtain ⟨j,b,s⟩:=x
 constructor
 ·intro hx
  rcases List.mem_append.mp hx with hx | hx
  ·split at hx
   ·rename_i ho
    simp only [List.mem_singleton,Prod.mk.injEq] at hx
    obtain ⟨rfl,rfl,rfl⟩:=hx
    exact ⟨rfl,.inl ⟨rfl,ho,rfl⟩⟩
   ·cases hx
  ·split at hx
   ·rename_i hk
    simp only [List.mem_singleton,Prod.mk.injEq] at hx
    obtain ⟨rfl,rfl,rfl⟩:=hx
    exact ⟨rfl,.inr ⟨rfl,hk,rfl⟩⟩
   ·cases hx
 ·rintro ⟨e,hx⟩
  dsimp only at e hx
  subst e
  rcases hx with ⟨rfl,ho,rfl⟩ | ⟨rfl,hk,rfl⟩
  ·rw [if_pos ho];simp
  ·rw [if_pos hk];simp
theorem mem_KI {h:Hf} {G:Nat->Spo} {n m:Nat} {x:Itm}:x∈KI h G n m ↔ x.1 < m/\Is h G n x:=by
 unfold KI
 rw [List.mem_flatMap]
 constructor
 ·rintro ⟨i,hi,hx⟩
  obtain ⟨e,h⟩:=mem_itB.mp hx
  rw [e]
  exact ⟨List.mem_range.mp hi,h⟩
 ·rintro ⟨hi,h⟩
  exact ⟨x.1,List.mem_range.mpr hi,mem_itB.mpr ⟨rfl,h⟩⟩
def RI (x y:Itm):Prop:=x.1 < y.1\/(x.1=y.1/\x.2.1=true/\y.2.1=false)
theorem pw_KI (h:Hf) (G:Nat->Spo) (n m:Nat):(KI h G n m).Pairwise RI:=by
 unfold KI
 rw [List.pairwise_flatMap]
 refine ⟨fun i _=>?_,List.pairwise_lt_range.imp fun hab x hx y hy=>.inl (by rw [(mem_itB.mp hx).1,(mem_itB.mp hy).1];exact hab)⟩
 unfold itB
 split <;> split <;> simp [RI]
theorem KI_succ (h:Hf) (G:Nat->Spo) (n m:Nat):KI h G n (m + 1)=KI h G n m++itB h G n m:=by
 unfold KI
 rw [List.range_succ,List.flatMap_append]
 simp
section
variable {h:Hf} {G:Nat->Spo} {n:Nat} (hn:3<=n) (ok:∀ i,i < n->SpOk (G i)) (hT:TriP (fun i=>strV (G i)) n)
include hn ok hT
theorem it_ok {x:Itm} (hx:x.1 < n) (hi:Is h G n x):SpOk x.2.2/\Mix (strV x.2.2) (strV (G (lo n x.2.1 x.1))) (strV (G x.1))/\0<=exV h x.2.2:=by
 rcases hi with ⟨e,ho,e2⟩ | ⟨e,hk,e2⟩
 ·obtain ⟨a,b,c⟩:=cr_mix (ok _ (pvi_lt hx)) (ok _ hx) ho
  rw [e2,e]
  refine ⟨a,?_,by omega⟩
  unfold lo
  rw [if_pos rfl]
  exact b
 ·rw [e2,e]
  refine ⟨ok _ hx,?_,kp_iff.mp hk⟩
  unfold lo
  rw [if_neg (by decide)]
  exact mix_self _
theorem tri_KI:TriL ((KI h G n n).map fun x=>strV x.2.2):=by
 refine tri_of_pw (pw_KI h G n n) fun x hx y hy z hz rxy ryz=>?_
 obtain ⟨xn,hx⟩:=mem_KI.mp hx
 obtain ⟨yn,hy⟩:=mem_KI.mp hy
 obtain ⟨zn,hz⟩:=mem_KI.mp hz
 refine tri3 (P:=fun i=>strV (G i)) hn hT (it_ok hn ok hT xn hx).2.1 (it_ok hn ok hT yn hy).2.1 (it_ok hn ok hT zn hz).2.1 zn rxy ryz ?_ ?_
 ·intro e1 e2 e3 e4
  rcases hx with ⟨_,ho,_⟩ | ⟨e,_⟩
  ·have y2:kpV h (G y.1):=by
    rcases hy with ⟨e,_⟩ | ⟨_,k,_⟩
    ·rcases rxy with l | ⟨_,_,l⟩
     ·omega
     ·rw [e] at l;cases l
    ·exact k
   have z2:kpV h (G z.1):=by
    rcases hz with ⟨e,_⟩ | ⟨_,k,_⟩
    ·rw [e] at e3;cases e3
    ·exact k
   rw [<-e2] at y2
   rw [e4] at z2
   have:=op_iff.mp ho
   have:=kp_iff.mp y2
   have:=kp_iff.mp z2
   omega
  ·rw [e] at e1;cases e1
 ·intro e1 e2 e3 e4
  rcases hy with ⟨_,ho,_⟩ | ⟨e,_⟩
  ·have x2:kpV h (G x.1):=by
    rcases hx with ⟨e,_⟩ | ⟨_,k,_⟩
    ·rw [e] at e3;cases e3
    ·exact k
   have z2:kpV h (G z.1):=by
    rcases hz with ⟨e,_⟩ | ⟨_,k,_⟩
    ·rcases ryz with l | ⟨_,_,l⟩
     ·omega
     ·rw [e] at l;cases l
    ·exact k
   rw [e4] at x2
   rw [<-e2] at z2
   have:=op_iff.mp ho
   have:=kp_iff.mp x2
   have:=kp_iff.mp z2
   omega
  ·rw [e] at e1;cases e1
theorem s_ne_p {i j:Nat} (hi:i < n) (hj:j < n) (ho:opV h (G (pvi n i)) (G i)):crV h (G (pvi n i)) (G i) ≠ G j:=fun e=>by
 obtain ⟨_,b,c⟩:=cr_mix (ok _ (pvi_lt hi)) (ok _ hi) ho
 have o:=op_iff.mp ho
 by_cases h1:j=i
 ·rw [e,h1] at c;omega
 by_cases h2:j=pvi n i
 ·rw [e,h2] at c;omega
 have:=edge_pos (P:=fun i=>strV (G i)) hT hi hj h1 h2
 have z:=mix_zero b
 rw [e] at z
 omega
theorem s_ne_s {i j:Nat} (hi:i < n) (hj:j < n) (hij:i ≠ j) (ho:opV h (G (pvi n i)) (G i)) (ho':opV h (G (pvi n j)) (G j)):crV h (G (pvi n i)) (G i) ≠ crV h (G (pvi n j)) (G j):=fun e=>by
 obtain ⟨_,b,_⟩:=cr_mix (ok _ (pvi_lt hi)) (ok _ hi) ho
 obtain ⟨_,b',_⟩:=cr_mix (ok _ (pvi_lt hj)) (ok _ hj) ho'
 have z:=mix_zero b
 rw [e] at z
 have n1:=edge_nn (P:=fun i=>strV (G i)) hT hi hj
 have n2:=edge_nn (P:=fun i=>strV (G i)) hT hi (pvi_lt hj)
 have pos:0 < dtV (strV (G (pvi n i))) (strV (G i)) (strV (crV h (G (pvi n j)) (G j))):=by
  rw [<-dt_cyc]
  refine mix_pos b' _ _ (by rw [dt_cyc];exact n2) (by rw [dt_cyc];exact n1) ?_
  by_cases h2:j=pvi n i
  ·left
   rw [dt_cyc]
   have q:=pvi_ne hn hi
   exact edge_pos (P:=fun i=>strV (G i)) hT hi (pvi_lt hj) (by rw [h2];exact q.2.1) (by rw [h2];exact q.2.2)
  ·right
   rw [dt_cyc]
   exact edge_pos (P:=fun i=>strV (G i)) hT hi hj (fun e=>hij e.symm) h2
 omega
theorem it_ne {x y:Itm} (xn:x.1 < n) (yn:y.1 < n) (hx:Is h G n x) (hy:Is h G n y) (r:RI x y):x.2.2 ≠ y.2.2:=by
 rcases hx with ⟨ex,ox,px⟩ | ⟨ex,kx,px⟩
 ·rcases hy with ⟨ey,oy,py⟩ | ⟨ey,ky,py⟩
  ·rw [px,py]
   refine s_ne_s hn ok hT xn yn ?_ ox oy
   rcases r with r | ⟨_,_,r⟩
   ·omega
   ·rw [ey] at r;cases r
  ·rw [px,py];exact s_ne_p hn ok hT xn yn ox
 ·rcases hy with ⟨ey,oy,py⟩ | ⟨ey,ky,py⟩
  ·rw [px,py];exact fun e=>s_ne_p hn ok hT yn xn oy e.symm
  ·rw [px,py]
   have:x.1 ≠ y.1:=by
    rcases r with r | ⟨_,r,_⟩
    ·omega
    ·rw [ex] at r;cases r
   exact fun e=>pt_ne (P:=fun i=>strV (G i)) hn hT xn yn this (congrArg strV e)
theorem fold_KI:∀ m,m<=n->((List.range m).map fun k=>(G (pvi n k),G k)).foldl (stp h) []=(KI h G n m).map (·.2.2)
 | 0,_=>rfl
 | m + 1,hm=>by
  rw [List.range_succ,List.map_append,List.foldl_append,fold_KI m (by omega),KI_succ,List.map_append]
  show stp h _ (G (pvi n m),G m)=_
  unfold stp itB
  dsimp only
  have hnot:opV h (G (pvi n m)) (G m)->¬ crV h (G (pvi n m)) (G m)∈(KI h G n m).map (·.2.2):=fun ho hmem=>by
   obtain ⟨y,hy,e⟩:=List.mem_map.mp hmem
   obtain ⟨yn,hy⟩:=mem_KI.mp hy
   exact it_ne hn ok hT (x:=y) (y:=(m,true,crV h (G (pvi n m)) (G m))) (by omega) (show m < n by omega) hy (.inl ⟨rfl,ho,rfl⟩) (.inl yn) e
  by_cases ho:opV h (G (pvi n m)) (G m)
  ·have c:opV h (G (pvi n m)) (G m)/\¬ crV h (G (pvi n m)) (G m)∈(KI h G n m).map (·.2.2):=⟨ho,hnot ho⟩
   by_cases hk:kpV h (G m)
   ·rw [if_pos hk,if_pos c,if_pos ho,if_pos hk];simp
   ·rw [if_neg hk,if_pos c,if_pos ho,if_neg hk];simp
  ·have c:¬ (opV h (G (pvi n m)) (G m)/\¬ crV h (G (pvi n m)) (G m)∈(KI h G n m).map (·.2.2)):=fun z=>ho z.1
   by_cases hk:kpV h (G m)
   ·rw [if_pos hk,if_neg c,if_neg ho,if_pos hk];simp
   ·rw [if_neg hk,if_neg c,if_neg ho,if_neg hk];simp
theorem nd_KI:((KI h G n n).map (·.2.2)).Nodup:=by
 unfold List.Nodup
 rw [List.pairwise_map]
 exact (pw_KI h G n n).imp_of_mem fun {x y} hx hy r=>it_ne hn ok hT (mem_KI.mp hx).1 (mem_KI.mp hy).1 (mem_KI.mp hx).2 (mem_KI.mp hy).2 r
theorem len_KI (nh:h.1 ≠ 0\/h.2.1 ≠ 0):(KI h G n n).length<=n + 2:=by
 have e:=List.length_eq_countP_add_countP (fun x:Itm=>x.2.1) (l:=KI h G n n)
 have c1:(KI h G n n).countP (fun x:Itm=>x.2.1)<=2:=by
  rw [List.countP_eq_length_filter]
  rcases Nat.lt_or_ge 2 ((KI h G n n).filter fun x=>x.2.1).length with l | l
  ·exfalso
   have hp:((KI h G n n).filter fun x=>x.2.1).Pairwise RI:=(pw_KI h G n n).filter _
   have all:∀ x∈(KI h G n n).filter (fun x=>x.2.1),x∈KI h G n n/\exV h x.2.2=0:=fun x hx=>by
    obtain ⟨h1,h2⟩:=List.mem_filter.mp hx
    refine ⟨h1,?_⟩
    obtain ⟨hx,hi⟩:=mem_KI.mp h1
    rcases hi with ⟨_,ho,e⟩ | ⟨e,_⟩
    ·rw [e];exact (cr_mix (ok _ (pvi_lt hx)) (ok _ hx) ho).2.2
    ·rw [e] at h2;cases h2
   have T:=tri_KI hn ok hT (h:=h)
   generalize (KI h G n n).filter (fun x=>x.2.1)=C at *
   have R:=List.pairwise_iff_getElem.mp hp
   have r1:=R 0 1 (by omega) (by omega) (by omega)
   have r2:=R 1 2 (by omega) (by omega) (by omega)
   obtain ⟨m0,z0⟩:=all C[0] (List.getElem_mem _)
   obtain ⟨m1,z1⟩:=all C[1] (List.getElem_mem _)
   obtain ⟨m2,z2⟩:=all C[2] (List.getElem_mem _)
   rw [ex_flat] at z0 z1 z2
   have zero:=line3 nh z0 z1 z2
   have ix:∀ {x y:Itm} {i j:Nat} (hi:i < (KI h G n n).length) (hj:j < (KI h G n n).length),(KI h G n n)[i]=x->(KI h G n n)[j]=y->RI x y->i < j:=fun {x y i j} hi hj ex ey r=>by
    rcases Nat.lt_trichotomy i j with l | l | l
    ·exact l
    ·subst l
     rw [<-ex,<-ey] at r
     unfold RI at r
     rcases r with r | ⟨_,r1,r2⟩
     ·omega
     ·rw [r1] at r2;cases r2
    ·have:=List.pairwise_iff_getElem.mp (pw_KI h G n n) j i hj hi l
     rw [ex,ey] at this
     unfold RI at r this
     rcases r with r | ⟨r,r1,r2⟩ <;> rcases this with q | ⟨q,q1,q2⟩
     ·omega
     ·omega
     ·omega
     ·rw [r1] at q2;cases q2
   obtain ⟨i0,h0,e0⟩:=List.getElem_of_mem m0
   obtain ⟨i1,h1,e1⟩:=List.getElem_of_mem m1
   obtain ⟨i2,h2,e2⟩:=List.getElem_of_mem m2
   have:=T i0 i1 i2 (ix h0 h1 e0 e1 r1) (ix h1 h2 e1 e2 r2) (by rw [List.length_map];exact h2)
   rw [List.getElem_map,List.getElem_map,List.getElem_map,e0,e1,e2] at this
   omega
  ·exact l
 have c2:(KI h G n n).countP (fun x:Itm=>¬ x.2.1=true)<=n:=by
  rw [List.countP_eq_length_filter]
  have hp:((KI h G n n).filter fun x=>decide (¬ x.2.1=true)).Pairwise RI:=(pw_KI h G n n).filter _
  have all:∀ x∈(KI h G n n).filter (fun x=>decide (¬ x.2.1=true)),x.1 < n/\x.2.1=false:=fun x hx=>by
   obtain ⟨h1,h2⟩:=List.mem_filter.mp hx
   exact ⟨(mem_KI.mp h1).1,by simpa using h2⟩
  generalize (KI h G n n).filter (fun x=>decide (¬ x.2.1=true))=C at *
  have nd:(C.map (·.1)).Nodup:=by
   unfold List.Nodup
   rw [List.pairwise_map]
   refine hp.imp_of_mem fun {x y} hx hy r=>?_
   rcases r with r | ⟨_,r,_⟩
   ·omega
   ·rw [(all x hx).2] at r;cases r
  have:=List.Nodup.length_le_of_subset nd (l₂:=List.range n) (fun i hi=>by
   obtain ⟨x,hx,rfl⟩:=List.mem_map.mp hi
   exact List.mem_range.mpr (all x hx).1)
  rw [List.length_map,List.length_range] at this
  exact this
 simp only [decide_not,Bool.decide_eq_true] at c2 e
 omega
end
end Law
namespace Law
open L2 DL
set_option maxHeartbeats 1000000
def AdjL (A:List Spo):Prop:=∀ k (h:k + 1 < A.length),Lk A[k] A[k + 1]
theorem last_ix {A:List Spo} (h:0 < A.length):A.getLast?=some A[A.length - 1]:=by
 rw [List.getLast?_eq_getElem?,List.getElem?_eq_getElem (by omega)]
theorem adj_snoc {A:List Spo} {x:Spo} (h:AdjL A) (hl:∀ y,A.getLast?=some y->Lk y x):AdjL (A++[x]):=by
 intro k hk
 rw [List.length_append,List.length_singleton] at hk
 by_cases l:k + 1 < A.length
 ·rw [List.getElem_append_left (by omega),List.getElem_append_left l]
  exact h k l
 ·have e:k + 1=A.length:=by omega
  have e2:(A++[x])[k + 1]'(by simp;omega)=x:=by
   rw [List.getElem_append_right (by omega)];simp
  rw [e2,List.getElem_append_left (by omega)]
  refine hl _ ?_
  rw [last_ix (by omega)]
  congr 2;omega
theorem getLast_snoc {A:List Spo} {x:Spo}:(A++[x]).getLast?=some x:=by simp
theorem head_snoc {A:List Spo} {x y:Spo} (h:(A++[x]).head?=some y):A.head?=some y\/(A=[]/\y=x):=by
 cases A with
 | nil=>right;exact ⟨rfl,by simpa using h.symm⟩
 | cons a A=>left;simpa using h
structure Lnk (h:Hf) (q0 qm:Spo) (A:List Spo):Prop where
 adj:AdjL A
 inn:0<=exV h qm->A.getLast?=some qm
 out:exV h qm < 0->∀ x,A.getLast?=some x->exV h x=0
 hd:exV h q0 < 0->∀ y,A.head?=some y->exV h y=0
def HOk (h:Hf):Prop:=SzH 300 h/\(h.1 ≠ 0\/h.2.1 ≠ 0)
theorem lk_h {h:Hf} (hh:HOk h) {p q:Spo} (hp:exV h p=0) (hq:exV h q=0):Lk p q:=⟨h,⟨hh.1,hh.2,hp⟩,hh.1,hh.2,hq⟩
theorem lnk_step {h:Hf} (hh:HOk h) {q0 p q:Spo} {A:List Spo} (op:SpOk p) (oq:SpOk q) (hl:Lk p q) (H:Lnk h q0 p A) :
  Lnk h q0 q (A++((if opV h p q then [crV h p q] else [])++(if kpV h q then [q] else []))):=by
 by_cases ho:opV h p q
 ·obtain ⟨_,_,fs⟩:=cr_mix op oq ho
  have o:=op_iff.mp ho
  obtain ⟨l,lp,lq⟩:=hl
  have ls:=cr_on op oq ho lp lq
  have A1:AdjL (A++[crV h p q]):=adj_snoc H.adj fun y hy=>by
   rcases o with ⟨o1,o2⟩ | ⟨o1,o2⟩
   ·rw [H.inn (by omega)] at hy
    cases hy
    exact ⟨l,lp,ls⟩
   ·exact lk_h hh (H.out o1 y hy) fs
  have H1:exV h q0 < 0->∀ y,(A++[crV h p q]).head?=some y->exV h y=0:=fun h0 y hy=>by
   rcases head_snoc hy with e | ⟨_,e⟩
   ·exact H.hd h0 y e
   ·rw [e];exact fs
  rw [if_pos ho]
  by_cases hk:kpV h q
  ·rw [if_pos hk,<-List.append_assoc]
   have k:=kp_iff.mp hk
   refine ⟨adj_snoc A1 fun y hy=>?_,fun _=>getLast_snoc,fun z=>by omega,fun h0 y hy=>?_⟩
   ·rw [getLast_snoc] at hy
    cases hy
    exact ⟨l,ls,lq⟩
   ·rcases head_snoc hy with e | ⟨e,_⟩
    ·exact H1 h0 y e
    ·simp at e
  ·rw [if_neg hk,List.append_nil]
   have k:¬ 0<=exV h q:=fun z=>hk (kp_iff.mpr z)
   exact ⟨A1,fun z=>absurd z k,fun _ x hx=>by rw [getLast_snoc] at hx;cases hx;exact fs,H1⟩
 ·rw [if_neg ho,List.nil_append]
  have o:¬ ((0 < exV h p/\exV h q < 0)\/(exV h p < 0/\0 < exV h q)):=fun z=>ho (op_iff.mpr z)
  by_cases hk:kpV h q
  ·rw [if_pos hk]
   have k:=kp_iff.mp hk
   refine ⟨adj_snoc H.adj fun y hy=>?_,fun _=>getLast_snoc,fun z=>by omega,fun h0 y hy=>?_⟩
   ·by_cases hp:0<=exV h p
    ·rw [H.inn hp] at hy
     cases hy
     exact hl
    ·exact lk_h hh (H.out (by omega) y hy) (by omega)
   ·rcases head_snoc hy with e | ⟨e,rfl⟩
    ·exact H.hd h0 y e
    ·by_cases hp:0<=exV h p
     ·have:=H.inn hp
      rw [e] at this;cases this
     ·omega
  ·rw [if_neg hk,List.append_nil]
   have k:¬ 0<=exV h q:=fun z=>hk (kp_iff.mpr z)
   refine ⟨H.adj,fun z=>absurd z k,fun _ x hx=>?_,H.hd⟩
   by_cases hp:0<=exV h p
   ·rw [H.inn hp] at hx
    cases hx
    omega
   ·exact H.out (by omega) x hx
theorem lnk_KI {h:Hf} (hh:HOk h) {G:Nat->Spo} {n:Nat} (hn:0 < n) (ok:∀ i,i < n->SpOk (G i)) (hl:∀ k,k < n->Lk (G (pvi n k)) (G k)) :
  ∀ m,m<=n->Lnk h (G (n - 1)) (G (pvi n m)) ((if 0<=exV h (G (n - 1)) then [G (n - 1)] else [])++(KI h G n m).map (·.2.2))
 | 0,_=>by
  have e:pvi n 0=n - 1:=rfl
  rw [e]
  show Lnk h _ _ (_++[])
  rw [List.append_nil]
  by_cases z:0<=exV h (G (n - 1))
  ·rw [if_pos z]
   exact ⟨fun k hk=>by simp at hk,fun _=>rfl,fun z'=>by omega,fun z'=>by omega⟩
  ·rw [if_neg z]
   exact ⟨fun k hk=>by simp at hk,fun z'=>absurd z' z,fun _ x hx=>(nomatch hx),fun _ y hy=>(nomatch hy)⟩
 | m + 1,hm=>by
  have:=lnk_step hh (ok _ (pvi_lt (show m < n by omega))) (ok m (by omega)) (hl m (by omega)) (lnk_KI hh hn ok hl m (by omega))
  have e:pvi n (m + 1)=m:=by unfold pvi;rw [if_neg (by omega)];rfl
  rw [e,KI_succ,List.map_append,<-List.append_assoc]
  have e2:(itB h G n m).map (·.2.2)=(if opV h (G (pvi n m)) (G m) then [crV h (G (pvi n m)) (G m)] else [])++(if kpV h (G m) then [G m] else []):=by
   unfold itB
   split <;> split <;> rfl
  rw [e2]
  exact this
theorem cyc_of {h:Hf} (hh:HOk h) {q0:Spo} {K:List Spo} (H:Lnk h q0 q0 ((if 0<=exV h q0 then [q0] else [])++K)) (k:Nat) (hk:k < K.length):Lk (pvG K k hk) K[k]:=by
 by_cases z:0<=exV h q0
 ·rw [if_pos z] at H
  have a:=H.adj k (by simp;omega)
  have hlast:=H.inn z
  unfold pvG
  split <;> rename_i e
  ·subst e
   have:K[K.length - 1]=q0:=by
    rw [last_ix (by simp)] at hlast
    have:=Option.some.inj hlast
    rw [<-this]
    simp only [List.singleton_append,List.length_cons,Nat.add_sub_cancel]
    rw [List.getElem_cons,dif_neg (by omega)]
   rw [this]
   simpa using a
  ·have e1:([q0]++K)[k]'(by simp;omega)=K[k - 1]:=by
    simp only [List.singleton_append]
    rw [List.getElem_cons,dif_neg e]
   rw [e1] at a
   simpa using a
 ·rw [if_neg z,List.nil_append] at H
  unfold pvG
  split <;> rename_i e
  ·subst e
   have hl:=H.out (by omega) K[K.length - 1] (last_ix hk)
   have hh0:=H.hd (by omega) K[0] (by rw [List.head?_eq_getElem?,List.getElem?_eq_getElem hk])
   exact lk_h hh hl hh0
  ·have a:=H.adj (k - 1) (by omega)
   have e1:k - 1 + 1=k:=by omega
   simp only [e1] at a
   exact a
structure Reg (L:List Spo):Prop where
 ok:∀ s∈L,SpOk s
 reg:RegF (L.map strV)
 cn:∀ s∈L,Cn s
 lk:∀ k (hk:k < L.length),Lk (pvG L k hk) L[k]
structure ClOk (h:Hf) (L K:List Spo):Prop where
 ok:∀ u∈K,SpOk u
 nd:K.Nodup
 tri:TriL (K.map strV)
 cn:∀ u∈K,Cn u
 lk:∀ k (hk:k < K.length),Lk (pvG K k hk) K[k]
 len:K.length<=L.length + 2
 hold:∀ u∈K,HoldF (L.map strV) (strV u)/\0<=exV h u
 kept:∀ s∈L,0<=exV h s->s∈K
 cross:∀ k (hk:k < L.length),opV h (pvG L k hk) L[k]->crV h (pvG L k hk) L[k]∈K
theorem cl3 {h:Hf} {L:List Spo} (hh:HOk h) (R:Reg L) (hn:3<=L.length):ClOk h L (clF h L):=by
 have T:=tri_of_reg R.reg
 have ok:∀ i,i < L.length->SpOk (gt L i):=fun i hi=>by rw [gt_eq hi];exact R.ok _ (List.getElem_mem _)
 have hT:TriP (fun i=>strV (gt L i)) L.length:=fun a b c h1 h2 h3=>by
  have:=T a b c h1 h2 (by rw [List.length_map];exact h3)
  rw [List.getElem_map,List.getElem_map,List.getElem_map] at this
  dsimp only
  rw [gt_eq (show a < L.length by omega),gt_eq (show b < L.length by omega),gt_eq h3]
  exact this
 have lk:∀ k,k < L.length->Lk (gt L (pvi L.length k)) (gt L k):=fun k hk=>by
  have:=R.lk k hk
  rw [pvG_gt hk] at this
  rw [gt_eq hk];exact this
 have e:clF h L=(KI h (gt L) L.length L.length).map (·.2.2):=by
  unfold clF
  rw [prV_eq]
  exact fold_KI hn ok hT _ (Nat.le_refl _)
 rw [e]
 have mem:∀ u,u∈(KI h (gt L) L.length L.length).map (·.2.2)->∃ x:Itm,x.1 < L.length/\Is h (gt L) L.length x/\u=x.2.2:=fun u hu=>by
  obtain ⟨x,hx,e⟩:=List.mem_map.mp hu
  exact ⟨x,(mem_KI.mp hx).1,(mem_KI.mp hx).2,e.symm⟩
 refine ⟨fun u hu=>?_,nd_KI hn ok hT,?_,fun u hu=>?_,fun k hk=>?_,?_,fun u hu=>?_,fun s hs hf=>?_,fun k hk ho=>?_⟩
 ·obtain ⟨x,hx,hi,rfl⟩:=mem u hu
  exact (it_ok hn ok hT hx hi).1
 ·have:=tri_KI hn ok hT (h:=h)
  rw [List.map_map]
  exact this
 ·obtain ⟨x,hx,hi,rfl⟩:=mem u hu
  rcases hi with ⟨_,ho,e⟩ | ⟨_,_,e⟩
  ·rw [e];exact cr_cn (ok _ (pvi_lt hx)) (ok _ hx) ho hh.1 hh.2 (lk _ hx)
  ·rw [e,gt_eq hx];exact R.cn _ (List.getElem_mem _)
 ·have H:=lnk_KI hh (show 0 < L.length by omega) ok lk L.length (Nat.le_refl _)
  have e2:pvi L.length L.length=L.length - 1:=by unfold pvi;rw [if_neg (by omega)]
  rw [e2] at H
  exact cyc_of hh H k hk
 ·rw [List.length_map];exact len_KI hn ok hT hh.2
 ·obtain ⟨x,hx,hi,rfl⟩:=mem u hu
  obtain ⟨_,mx,f⟩:=it_ok hn ok hT hx hi
  refine ⟨⟨by rw [List.length_map];omega,fun z=>by rw [List.length_map] at z;omega,fun _ k hk=>?_⟩,f⟩
  rw [List.length_map] at hk
  have hpv:pvG (L.map strV) k (by rw [List.length_map];exact hk)=strV (gt L (pvi L.length k)):=by
   rw [gt_eq (pvi_lt hk)]
   unfold pvG pvi
   split <;> rename_i e
   ·simp [e]
   ·simp [e]
  rw [hpv,List.getElem_map,<-gt_eq hk,<-dt_cyc]
  have lox:lo L.length x.2.1 x.1 < L.length:=by
   unfold lo
   split
   ·exact pvi_lt hx
   ·exact hx
  refine mix_nn mx _ _ ?_ ?_
  ·rw [dt_cyc];exact edge_nn (P:=fun i=>strV (gt L i)) hT hk lox
  ·rw [dt_cyc];exact edge_nn (P:=fun i=>strV (gt L i)) hT hk hx
 ·obtain ⟨j,hj,rfl⟩:=List.getElem_of_mem hs
  refine List.mem_map.mpr ⟨(j,false,L[j]),mem_KI.mpr ⟨hj,.inr ⟨rfl,?_,?_⟩⟩,rfl⟩
  ·rw [gt_eq hj];exact kp_iff.mpr hf
  ·exact (gt_eq hj).symm
 ·rw [pvG_gt hk,<-gt_eq hk] at ho ⊢
  exact List.mem_map.mpr ⟨(k,true,_),mem_KI.mpr ⟨hk,.inl ⟨rfl,ho,rfl⟩⟩,rfl⟩
theorem cl0 {h:Hf}:ClOk h [] (clF h []):=by
 show ClOk h [] []
 exact ⟨fun u hu=>(nomatch hu),List.nodup_nil,fun a b c _ _ h3=>(nomatch h3),fun u hu=>(nomatch hu),fun k hk=>(nomatch hk),by decide,fun u hu=>(nomatch hu),fun u hu=>(nomatch hu),fun k hk=>(nomatch hk)⟩
theorem tri_few {F:List Hf} (h:F.length < 3):TriL F:=fun a b c h1 h2 h3=>by omega
theorem op_self {h:Hf} {p:Spo}:¬ opV h p p:=fun z=>by have:=op_iff.mp z;omega
theorem stp_no {h:Hf} {ks:List Spo} {x:Spo × Spo} (ho:¬ opV h x.1 x.2):stp h ks x=if kpV h x.2 then ks++[x.2] else ks:=by
 have c:¬ (opV h x.1 x.2/\¬ crV h x.1 x.2∈ks):=fun z=>ho z.1
 unfold stp
 by_cases hk:kpV h x.2
 ·rw [if_pos hk,if_pos hk,if_neg c]
 ·rw [if_neg hk,if_neg hk,if_neg c]
theorem cl1 {h:Hf} {p:Spo} (R:Reg [p]):ClOk h [p] (clF h [p]):=by
 have hp:=R.ok p (by simp)
 have e:clF h [p]=if kpV h p then [p] else []:=by
  show stp h [] (p,p)=_
  rw [stp_no (x:=(p,p)) op_self]
  rfl
 rw [e]
 have lkp:=R.lk 0 (by simp)
 have cross:∀ k (hk:k < [p].length) (K:List Spo),opV h (pvG [p] k hk) [p][k]->crV h (pvG [p] k hk) [p][k]∈K:=fun k hk K ho=>by
  have:k=0:=by simp at hk;exact hk
  subst this
  exact absurd ho op_self
 by_cases hk:kpV h p
 ·rw [if_pos hk]
  refine ⟨fun u hu=>R.ok u hu,by simp,tri_few (by simp),R.cn,R.lk,by simp,fun u hu=>?_,fun s hs _=>hs,fun k hk' ho=>cross k hk' _ ho⟩
  obtain rfl:=List.mem_singleton.mp hu
  exact ⟨⟨by simp,fun _=>⟨dt_aab _ _,bf_false.mpr (Bf.irr _),bf_false.mpr (Bf.irr _)⟩,fun z=>by simp at z⟩,kp_iff.mp hk⟩
 ·rw [if_neg hk]
  refine ⟨fun u hu=>(nomatch hu),List.nodup_nil,fun a b c _ _ h3=>(nomatch h3),fun u hu=>(nomatch hu),fun k hk=>(nomatch hk),by simp,fun u hu=>(nomatch hu),fun s hs hf=>?_,fun k hk' ho=>cross k hk' _ ho⟩
  obtain rfl:=List.mem_singleton.mp hs
  exact absurd (kp_iff.mpr hf) hk
theorem cl2 {h:Hf} {p q:Spo} (hh:HOk h) (R:Reg [p,q]):ClOk h [p,q] (clF h [p,q]):=by
 have hp:=R.ok p (by simp)
 have hq:=R.ok q (by simp)
 have hb:Bf (strV p) (strV q):=bf_iff.mp (R.reg.fst 1 (by simp) (by decide))
 have hne:p ≠ q:=fun e=>by rw [e] at hb;exact Bf.irr _ hb
 have lk:Lk p q:=R.lk 1 (by simp)
 have e:clF h [p,q]=stp h (stp h [] (q,p)) (p,q):=rfl
 have hpos:∀ u,Mix (strV u) (strV p) (strV q)\/u=p\/u=q->HoldF ([p,q].map strV) (strV u):=fun u hu=>by
  refine ⟨by simp,fun _=>?_,fun z=>by simp at z⟩
  show dtV (strV p) (strV q) (strV u)=0/\bfV (strV u) (strV p)=false/\bfV (strV q) (strV u)=false
  rw [bf_false,bf_false]
  rcases hu with m | rfl | rfl
  ·exact ⟨mix_zero m,mix_bf m (z_pos hp) (z_pos hq) hb⟩
  ·exact ⟨dt_aba _ _,Bf.irr _,hb.asym⟩
  ·exact ⟨dt_abb _ _,hb.asym,Bf.irr _⟩
 have prs:∀ k (hk:k < [p,q].length),(pvG [p,q] k hk=q/\[p,q][k]=p)\/(pvG [p,q] k hk=p/\[p,q][k]=q):=fun k hk=>by
  have:k=0\/k=1:=by simp at hk;omega
  rcases this with rfl | rfl
  ·exact .inl ⟨rfl,rfl⟩
  ·exact .inr ⟨rfl,rfl⟩
 have lkAll:∀ K:List Spo,(∃ l,∀ u∈K,OnL l u)->∀ k (hk:k < K.length),Lk (pvG K k hk) K[k]:=fun K ⟨l,hl⟩ k hk=>⟨l,hl _ (pv_mem hk),hl _ (List.getElem_mem _)⟩
 obtain ⟨l,lp,lq⟩:=lk
 by_cases ho:opV h p q
 ·have ho':opV h q p:=op_iff.mpr (by have:=op_iff.mp ho;omega)
  obtain ⟨so,sm,sf⟩:=cr_mix hp hq ho
  have ls:=cr_on hp hq ho lp lq
  have cs:=cr_cn hp hq ho hh.1 hh.2 ⟨l,lp,lq⟩
  have o:=op_iff.mp ho
  have mk:∀ x:Spo,(x=p\/x=q)->0<=exV h x->(∀ s∈[p,q],0<=exV h s->s=x)->ClOk h [p,q] [crV h p q,x]:=fun x hx fx only=>by
   have ox:SpOk x:=by rcases hx with rfl | rfl;exact hp;exact hq
   have lx:OnL l x:=by rcases hx with rfl | rfl;exact lp;exact lq
   have nx:crV h p q ≠ x:=fun e=>by
    rw [e] at sf
    rcases hx with rfl | rfl <;> omega
   have all:∀ u∈[crV h p q,x],u=crV h p q\/u=x:=fun u hu=>by simpa using hu
   refine ⟨fun u hu=>?_,?_,tri_few (by simp),fun u hu=>?_,lkAll _ ⟨l,fun u hu=>?_⟩,by simp,fun u hu=>?_,fun s hs hf=>?_,fun k hk _=>?_⟩
   ·rcases all u hu with rfl | rfl;exact so;exact ox
   ·simp [nx]
   ·rcases all u hu with rfl | rfl
    ·exact cs
    ·rcases hx with e | e <;> rw [e] <;> exact R.cn _ (by simp)
   ·rcases all u hu with rfl | rfl;exact ls;exact lx
   ·rcases all u hu with rfl | rfl
    ·exact ⟨hpos _ (.inl sm),by omega⟩
    ·exact ⟨hpos _ (.inr hx),fx⟩
   ·rw [only s hs hf];simp
   ·rcases prs k hk with ⟨e1,e2⟩ | ⟨e1,e2⟩
    ·rw [e1,e2,cr_comm h q p];simp
    ·rw [e1,e2];simp
  rcases o with ⟨o1,o2⟩ | ⟨o1,o2⟩
  ·have e2:clF h [p,q]=[crV h p q,p]:=by
    rw [e]
    have s1:stp h [] (q,p)=[crV h p q,p]:=by
     unfold stp
     dsimp only
     rw [if_pos (kp_iff.mpr (by omega)),if_pos (show _/\_ from ⟨ho',by simp⟩),cr_comm h q p]
     rfl
    rw [s1]
    unfold stp
    dsimp only
    rw [if_neg (fun z=>by have:=kp_iff.mp z;omega),if_neg (fun z=>z.2 (by simp))]
   rw [e2]
   exact mk p (.inl rfl) (by omega) fun s hs hf=>by
    rcases List.mem_cons.mp hs with r | r
    ·exact r
    ·have:=List.mem_singleton.mp r
     rw [this] at hf;omega
  ·have e2:clF h [p,q]=[crV h p q,q]:=by
    rw [e]
    have s1:stp h [] (q,p)=[crV h p q]:=by
     unfold stp
     dsimp only
     rw [if_neg (fun z=>by have:=kp_iff.mp z;omega),if_pos (show _/\_ from ⟨ho',by simp⟩),cr_comm h q p]
     rfl
    rw [s1]
    unfold stp
    dsimp only
    rw [if_pos (kp_iff.mpr (by omega)),if_neg (fun z=>z.2 (by simp))]
    rfl
   rw [e2]
   exact mk q (.inr rfl) (by omega) fun s hs hf=>by
    rcases List.mem_cons.mp hs with r | r
    ·rw [r] at hf;omega
    ·exact List.mem_singleton.mp r
 ·have ho':¬ opV h q p:=fun z=>ho (op_iff.mpr (by have:=op_iff.mp z;omega))
  have e2:clF h [p,q]=[p,q].filter fun s=>decide (kpV h s):=by
   rw [e]
   rw [stp_no (x:=(q,p)) ho',stp_no (x:=(p,q)) ho]
   dsimp only
   by_cases a:kpV h p <;> by_cases b:kpV h q <;> simp [a,b]
  rw [e2]
  have sub:∀ u∈[p,q].filter (fun s=>decide (kpV h s)),u∈[p,q]/\kpV h u:=fun u hu=>by
   obtain ⟨a,b⟩:=List.mem_filter.mp hu
   exact ⟨a,of_decide_eq_true b⟩
  have hlen:([p,q].filter fun s=>decide (kpV h s)).length<=2:=List.length_filter_le _ [p,q]
  refine ⟨fun u hu=>R.ok u (sub u hu).1,?_,tri_few (by rw [List.length_map];omega),fun u hu=>R.cn u (sub u hu).1,lkAll _ ⟨l,fun u hu=>?_⟩,by simp only [List.length_cons,List.length_nil];omega,fun u hu=>⟨hpos u ?_,kp_iff.mp (sub u hu).2⟩,fun s hs hf=>List.mem_filter.mpr ⟨hs,decide_eq_true (kp_iff.mpr hf)⟩,fun k hk hx=>?_⟩
  ·have:[p,q].Nodup:=by simp [hne]
   exact this.filter _
  ·rcases List.mem_cons.mp (sub u hu).1 with r | r
   ·rw [r];exact lp
   ·rw [List.mem_singleton.mp r];exact lq
  ·rcases List.mem_cons.mp (sub u hu).1 with r | r
   ·exact .inr (.inl r)
   ·exact .inr (.inr (List.mem_singleton.mp r))
  ·rcases prs k hk with ⟨e1,e2⟩ | ⟨e1,e2⟩
   ·rw [e1,e2] at hx;exact absurd hx ho'
   ·rw [e1,e2] at hx;exact absurd hx ho
theorem cl_ok {h:Hf} {L:List Spo} (hh:HOk h) (R:Reg L):ClOk h L (clF h L):=by
 match L,R with
 | [],_=>exact cl0
 | [p],R=>exact cl1 R
 | [p,q],R=>exact cl2 hh R
 | p::q::r::l,R=>exact cl3 hh R (by simp)
end Law
namespace Law
open L2 DL
set_option maxHeartbeats 1000000
def mnF (L:List Spo) (m:Nat):Nat:=(List.range m).foldl (fun f k=>if lsV (gt L k) (gt L f)=true then k else f) 0
def flV (L:List Spo):List Spo:=L.drop (mnF L L.length)++L.take (mnF L L.length)
theorem mnF_succ (L:List Spo) (m:Nat):mnF L (m + 1)=if lsV (gt L m) (gt L (mnF L m))=true then m else mnF L m:=by
 unfold mnF
 rw [List.range_succ,List.foldl_append]
 rfl
theorem mnF_ok {L:List Spo} (ok:∀ s∈L,SpOk s) (h0:0 < L.length):∀ m,m<=L.length->mnF L m < L.length/\∀ j,j < m->¬ Bf (strV (gt L j)) (strV (gt L (mnF L m)))
 | 0,_=>⟨h0,fun j hj=>by omega⟩
 | m + 1,hm=>by
  obtain ⟨i1,i2⟩:=mnF_ok ok h0 m (by omega)
  have og:∀ i,i < L.length->SpOk (gt L i):=fun i hi=>by rw [gt_eq hi];exact ok _ (List.getElem_mem _)
  rw [mnF_succ,ls_bf (og m (by omega)) (og _ i1)]
  split
  ·rename_i hb
   rw [bf_iff] at hb
   refine ⟨by omega,fun j hj=>?_⟩
   by_cases e:j=m
   ·rw [e];exact Bf.irr _
   ·exact fun z=>i2 j (by omega) (Bf.trans (z_pos (og j (by omega))) (z_pos (og m (by omega))) (z_pos (og _ i1)) z hb)
  ·rename_i hb
   rw [bf_iff] at hb
   refine ⟨i1,fun j hj=>?_⟩
   by_cases e:j=m
   ·rw [e];exact hb
   ·exact i2 j (by omega)
def rix (n m i:Nat):Nat:=if i < n - m then m + i else i - (n - m)
theorem rix_lt {n m i:Nat} (hm:m < n) (hi:i < n):rix n m i < n:=by unfold rix;split <;> omega
theorem rot_len {α:Type} (K:List α) {m:Nat} (hm:m<=K.length):(K.drop m++K.take m).length=K.length:=by
 rw [List.length_append,List.length_drop,List.length_take];omega
theorem rot_get {α:Type} {K:List α} {m i:Nat} (hm:m < K.length) (hi:i < K.length):(K.drop m++K.take m)[i]'(by rw [rot_len K (by omega)];exact hi)=K[rix K.length m i]'(rix_lt hm hi):=by
 unfold rix
 split
 ·rename_i h
  rw [List.getElem_append_left (by rw [List.length_drop];exact h),List.getElem_drop]
 ·rename_i h
  rw [List.getElem_append_right (by rw [List.length_drop];omega),List.getElem_take]
  simp only [List.length_drop]
theorem rot_mem {α:Type} {K:List α} {m:Nat} {u:α}:u∈K.drop m++K.take m ↔ u∈K:=by
 rw [List.mem_append,Or.comm,<-List.mem_append,List.take_append_drop]
theorem rot_pv {α:Type} {K:List α} {m i:Nat} (hm:m < K.length) (hi:i < K.length):pvG (K.drop m++K.take m) i (by rw [rot_len K (by omega)];exact hi)=pvG K (rix K.length m i) (rix_lt hm hi):=by
 have hl:=rot_len K (m:=m) (by omega)
 unfold pvG
 by_cases e:i=0
 ·rw [dif_pos e]
  have hl1:(K.drop m++K.take m).length - 1=K.length - 1:=by rw [hl]
  simp only [hl1]
  rw [rot_get hm (by omega)]
  subst e
  have r0:rix K.length m 0=m:=by unfold rix;rw [if_pos (by omega)];rfl
  by_cases m0:m=0
  ·rw [dif_pos (by rw [r0];exact m0)]
   congr 1
   unfold rix;rw [if_pos (by omega)];omega
  ·rw [dif_neg (by rw [r0];exact m0)]
   congr 1
   rw [r0]
   unfold rix;rw [if_neg (by omega)];omega
 ·rw [dif_neg e,rot_get hm (by omega)]
  by_cases z:rix K.length m i=0
  ·rw [dif_pos z]
   congr 1
   unfold rix at z ⊢
   split at z
   ·omega
   ·rw [if_pos (by omega)];omega
  ·rw [dif_neg z]
   congr 1
   unfold rix at z ⊢
   split at z
   ·rw [if_pos (by omega),if_pos (by omega)];omega
   ·rename_i c
    rw [if_neg (by omega),if_neg c];omega
theorem tri_rot {F:List Hf} {m:Nat} (hm:m < F.length) (T:TriL F):TriL (F.drop m++F.take m):=by
 intro a b c h1 h2 h3
 rw [rot_len F (by omega)] at h3
 rw [rot_get hm (by omega),rot_get hm (by omega),rot_get hm h3]
 unfold rix
 by_cases hc:c < F.length - m
 ·simp only [if_pos hc,if_pos (show b < F.length - m by omega),if_pos (show a < F.length - m by omega)]
  exact T _ _ _ (by omega) (by omega) _
 ·by_cases hb:b < F.length - m
  ·simp only [if_neg hc,if_pos hb,if_pos (show a < F.length - m by omega)]
   rw [<-dt_cyc]
   exact T _ _ _ (by omega) (by omega) _
  ·by_cases ha:a < F.length - m
   ·simp only [if_neg hc,if_neg hb,if_pos ha]
    rw [dt_cyc]
    exact T _ _ _ (by omega) (by omega) _
   ·simp only [if_neg hc,if_neg hb,if_neg ha]
    exact T _ _ _ (by omega) (by omega) _
theorem reg_fl {h:Hf} {L K:List Spo} (C:ClOk h L K):Reg (flV K)/\(∀ u,u∈flV K ↔ u∈K)/\(flV K).length=K.length:=by
 by_cases h0:K.length=0
 ·have e:K=[]:=List.length_eq_zero_iff.mp h0
  subst e
  exact ⟨⟨fun u hu=>(nomatch hu),⟨fun k hk=>(nomatch hk),fun h=>(nomatch h)⟩,fun u hu=>(nomatch hu),fun k hk=>(nomatch hk)⟩,fun u=>Iff.rfl,rfl⟩
 have hp:0 < K.length:=by omega
 obtain ⟨hm,hmin⟩:=mnF_ok C.ok hp K.length (Nat.le_refl _)
 unfold flV
 generalize mnF K K.length=m at hm hmin
 have hl:=rot_len K (m:=m) (by omega)
 have em:(K.drop m++K.take m).map strV=(K.map strV).drop m++(K.map strV).take m:=by rw [List.map_append,List.map_drop,List.map_take]
 have T:TriL ((K.drop m++K.take m).map strV):=by
  rw [em];exact tri_rot (by rw [List.length_map];exact hm) C.tri
 refine ⟨⟨fun u hu=>C.ok u (rot_mem.mp hu),⟨fun k hk hk0=>?_,fun h2 k hk v hv h1 h3=>reg_of_tri T h2 k hk v hv h1 h3⟩,fun u hu=>C.cn u (rot_mem.mp hu),fun k hk=>?_⟩,fun u=>rot_mem,hl⟩
 ·rw [List.length_map,hl] at hk
  rw [List.getElem_map,List.getElem_map,rot_get hm hp,rot_get hm hk,bf_iff]
  have r0:rix K.length m 0=m:=by unfold rix;rw [if_pos (by omega)];rfl
  have hr:=rix_lt hm hk
  have rk:rix K.length m k ≠ m:=by unfold rix;split <;> omega
  simp only [r0]
  have a:=hmin _ hr
  rw [gt_eq hr,gt_eq hm] at a
  have ne:K[m] ≠ K[rix K.length m k]:=fun e=>by
   rcases Nat.lt_trichotomy m (rix K.length m k) with l | l | l
   ·exact List.pairwise_iff_getElem.mp C.nd _ _ hm hr l e
   ·exact rk l.symm
   ·exact List.pairwise_iff_getElem.mp C.nd _ _ hr hm l e.symm
  exact (bf_tot (C.ok _ (List.getElem_mem _)) (C.ok _ (List.getElem_mem _)) ne).resolve_right a
 ·have hk':k < K.length:=by rw [hl] at hk;exact hk
  rw [rot_pv hm hk',rot_get hm hk']
  exact C.lk _ _
def clV (h:Hf) (L:List Spo):List Spo:=flV (clF h L)
structure ClR (h:Hf) (L K:List Spo):Prop where
 reg:Reg K
 len:K.length<=L.length + 2
 hold:∀ u∈K,HoldF (L.map strV) (strV u)/\0<=exV h u
 kept:∀ s∈L,0<=exV h s->s∈K
 cross:∀ k (hk:k < L.length),opV h (pvG L k hk) L[k]->crV h (pvG L k hk) L[k]∈K
theorem cl_reg {h:Hf} {L:List Spo} (hh:HOk h) (R:Reg L):ClR h L (clV h L):=by
 have C:=cl_ok hh R
 obtain ⟨a,b,c⟩:=reg_fl C
 exact ⟨a,by unfold clV;rw [c];exact C.len,fun u hu=>C.hold u ((b u).mp hu),fun s hs hf=>(b s).mpr (C.kept s hs hf),fun k hk ho=>(b _).mpr (C.cross k hk ho)⟩
theorem bf_scl {q u x:Hf} (hq:Mix q u u):(Bf q x ↔ Bf u x)/\(Bf x q ↔ Bf x u):=by
 obtain ⟨κ,α,β,k0,a0,b0,e1,e2,e3⟩:=hq
 have c0:0 < α + β:=by omega
 have f1:κ*q.1=(α + β)*u.1:=by rw [e1];grind
 have f2:κ*q.2.1=(α + β)*u.2.1:=by rw [e2];grind
 have f3:κ*q.2.2=(α + β)*u.2.2:=by rw [e3];grind
 generalize α + β=c at c0 f1 f2 f3
 have i1:κ*(q.1*x.2.2 - x.1*q.2.2)=c*(u.1*x.2.2 - x.1*u.2.2):=by
  have t:κ*(q.1*x.2.2 - x.1*q.2.2)=κ*q.1*x.2.2 - x.1*(κ*q.2.2):=by grind
  rw [t,f1,f3];grind
 have i2:κ*(q.2.1*x.2.2 - x.2.1*q.2.2)=c*(u.2.1*x.2.2 - x.2.1*u.2.2):=by
  have t:κ*(q.2.1*x.2.2 - x.2.1*q.2.2)=κ*q.2.1*x.2.2 - x.2.1*(κ*q.2.2):=by grind
  rw [t,f2,f3];grind
 have sg:∀ {d e:Int},κ*d=c*e->(0 < d ↔ 0 < e)/\(d < 0 ↔ e < 0):=fun {d e} h=>by
  constructor
  ·exact ⟨fun z=>pos_cancel c0 (by rw [<-h];exact Int.mul_pos k0 z),fun z=>pos_cancel k0 (by rw [h];exact Int.mul_pos c0 z)⟩
  ·constructor
   ·intro z
    have:=pos_cancel (κ:=c) (x:=-e) c0 (by rw [Int.mul_neg,<-h];have:=Int.mul_neg_of_pos_of_neg k0 z;omega)
    omega
   ·intro z
    have:=pos_cancel (κ:=κ) (x:=-d) k0 (by rw [Int.mul_neg,h];have:=Int.mul_neg_of_pos_of_neg c0 z;omega)
    omega
 have s1:=sg i1
 have s2:=sg i2
 unfold Bf
 generalize q.1*x.2.2=A1 at *
 generalize x.1*q.2.2=A2 at *
 generalize u.1*x.2.2=A3 at *
 generalize x.1*u.2.2=A4 at *
 generalize q.2.1*x.2.2=B1 at *
 generalize x.2.1*q.2.2=B2 at *
 generalize u.2.1*x.2.2=B3 at *
 generalize x.2.1*u.2.2=B4 at *
 constructor <;> constructor <;> intro z <;> omega
theorem dt_scl {q u:Hf} (hq:Mix q u u) (v w:Hf):(0<=dtV v w u->0<=dtV v w q)/\(dtV v w u=0->dtV v w q=0):=by
 refine ⟨fun h=>?_,fun h=>?_⟩
 ·rw [<-dt_cyc]
  exact mix_nn hq v w (by rw [dt_cyc];exact h) (by rw [dt_cyc];exact h)
 ·obtain ⟨κ,α,β,k0,a0,b0,e1,e2,e3⟩:=hq
  have e:=mix_eq e1 e2 e3 v w
  rw [dt_cyc q v w,dt_cyc u v w,h,Int.mul_zero,Int.mul_zero] at e
  rcases Int.mul_eq_zero.mp (show κ*dtV v w q=0 by omega) with z | z
  ·omega
  ·exact z
theorem hold_self {L:List Spo} (R:Reg L) {s:Spo} (hs:s∈L) {q:Hf} (hq:Mix q (strV s) (strV s)):HoldF (L.map strV) q:=by
 obtain ⟨j,hj,rfl⟩:=List.getElem_of_mem hs
 have hl:(L.map strV).length=L.length:=List.length_map ..
 have hmem:strV L[j]∈L.map strV:=List.mem_map.mpr ⟨_,List.getElem_mem hj,rfl⟩
 refine ⟨by omega,fun h3=>?_,fun h3 k hk=>(dt_scl hq _ _).1 ?_⟩
 ·rw [hl] at h3
  rw [bf_false,bf_false,(bf_scl hq).1,(bf_scl hq).2]
  have el:(L.map strV)[(L.map strV).length - 1]'(by omega)=strV L[L.length - 1]:=by
   rw [List.getElem_map];congr 2;omega
  rw [el,List.getElem_map]
  have z:j=0\/j=L.length - 1:=by omega
  have ord:L.length=2->Bf (strV L[0]) (strV L[L.length - 1]):=fun e=>by
   have:=R.reg.fst 1 (by rw [hl];omega) (by decide)
   rw [List.getElem_map,List.getElem_map,bf_iff] at this
   have e1:L.length - 1=1:=by omega
   simp only [e1]
   exact this
  rcases z with z | z
  ·subst z
   refine ⟨(dt_scl hq _ _).2 (dt_aba _ _),Bf.irr _,?_⟩
   by_cases e:L.length=2
   ·exact (ord e).asym
   ·have e1:L.length - 1=0:=by omega
    simp only [e1]
    exact Bf.irr _
  ·subst z
   refine ⟨(dt_scl hq _ _).2 (dt_abb _ _),?_,Bf.irr _⟩
   by_cases e:L.length=2
   ·exact (ord e).asym
   ·have e1:L.length - 1=0:=by omega
    simp only [e1]
    exact Bf.irr _
 ·by_cases e1:strV L[j]=(L.map strV)[k]
  ·rw [e1,dt_abb];exact Int.le_refl _
  ·by_cases e2:strV L[j]=pvG (L.map strV) k hk
   ·rw [e2,dt_aba];exact Int.le_refl _
   ·exact Int.le_of_lt (R.reg.trn (by omega) k hk _ hmem e1 e2)
def ovV (h u:Hf):Int:=h.1*u.1 + h.2.1*u.2.1 - h.2.2*u.2.2
theorem ov_ex (h:Hf) (s:Spo):ovV h (strV s)=exV h s:=(ex_flat h s).symm
theorem sp_ok1 (p:Pt):SpOk (asV p):=⟨⟨by show (0:Int) < 1;decide,by show Int.gcd p.1 1=1;simp⟩,by show (0:Int) < 1;decide,by show Int.gcd p.2 1=1;simp⟩
theorem sz_one {n:Nat} (h:1<=n):Sz n 1:=⟨by show 1 < 2 ^ n;exact Nat.one_lt_two_pow (by omega)⟩
theorem sz_zero {n:Nat}:Sz n 0:=⟨Nat.two_pow_pos n⟩
end Law
namespace Law
open L2 DL
set_option maxHeartbeats 4000000
theorem ix_map {α:Type} (f:α->T) {L:List α} {k:Nat} (hk:k < L.length):atI (L.map f) (k:Int)=some (f L[k]):=atI_of (by rw [List.getElem?_map,List.getElem?_eq_getElem hk];rfl)
theorem ixl_map {α:Type} (f:α->T) {L:List α} (h:0 < L.length):atI (L.map f) (-1)=some (f L[L.length - 1]):=by
 have e:ixN (L.map f).length (-1)=some (L.length - 1):=by
  unfold ixN
  rw [List.length_map,if_neg (by decide),if_pos (by omega)]
  congr 1;omega
 unfold atI
 rw [e]
 show (L.map f)[L.length - 1]?=_
 rw [List.getElem?_map,List.getElem?_eq_getElem (by omega)];rfl
theorem ixp_map {α:Type} (f:α->T) {L:List α} {k:Nat} (hk:k < L.length):atI (L.map f) ((k:Int) - 1)=some (f (pvG L k hk)):=by
 unfold pvG
 by_cases h0:k=0
 ·subst h0
  rw [dif_pos rfl]
  exact ixl_map f hk
 ·rw [dif_neg h0]
  have:(k:Int) - 1=((k - 1:Nat):Int):=by omega
  rw [this]
  exact ix_map f (by omega)
theorem szs_mono {n m:Nat} {s:Spo} (h:SzS n s) (l:n<=m):SzS m s:=⟨⟨h.1.1.mono l,h.1.2.mono l⟩,h.2.1.mono l,h.2.2.mono l⟩
def prS (q:Spo × Spo):T:=.tup [spT q.1,spT q.2]
theorem rng_from (k n:Nat):rngT (k:Int) (n + 1)=.int k::rngT ((k + 1:Nat):Int) n:=by
 unfold rngT
 rw [List.range_succ_eq_map,List.map_cons,List.map_map]
 congr 1
 ·simp
  intro a _
  omega
theorem for_ups {g:WG} {wb:WS} {D:DEnds} {δ:DSt} (I:Nat->DSt->Prop) (n:Nat) (h0:I 0 δ) (hend:∀ δ,I n δ->D.nx δ)
  (hstep:∀ k,k < n->∀ δ,I k δ->g (.int (k:Int)) δ fun δ1=>wb { nx:=I (k + 1),rt:=D.rt,bk:=D.nx,ct:=I (k + 1) } δ1):forI g wb (rngT 0 n) D δ:=by
 refine ⟨fun ts δ=>∃ k j:Nat,ts=rngT (k:Int) j/\k + j=n/\I k δ,⟨0,n,rfl,by omega,h0⟩,?_,?_⟩
 ·rintro δ ⟨k,j,e,hk,h⟩
  cases j with
  | zero=>exact hend δ (by rw [Nat.add_zero] at hk;rw [<-hk];exact h)
  | succ j=>rw [rng_from] at e;cases e
 ·rintro x r δ ⟨k,j,e,hk,h⟩
  cases j with
  | zero=>cases e
  | succ j=>
   rw [rng_from] at e
   obtain ⟨rfl,rfl⟩:=List.cons.inj e
   have q:=hstep k (by omega) δ h
   have z:I (k + 1)=fun δ=>∃ k' j':Nat,rngT ((k + 1:Nat):Int) j=rngT (k':Int) j'/\k' + j'=n/\I k' δ:=by
    funext δ'
    refine propext ⟨fun hi=>⟨k + 1,j,rfl,by omega,hi⟩,?_⟩
    rintro ⟨k',j',e',hk',hi⟩
    have:=congrArg List.length e'
    rw [len_rngT,len_rngT] at this
    have:k'=k + 1:=by omega
    rw [<-this];exact hi
   show g _ δ fun δ1=>wb { nx:=fun δ=>∃ k' j':Nat,rngT ((k + 1:Nat):Int) j=rngT (k':Int) j'/\k' + j'=n/\I k' δ,rt:=D.rt,bk:=D.nx,ct:=fun δ=>∃ k' j':Nat,rngT ((k + 1:Nat):Int) j=rngT (k':Int) j'/\k' + j'=n/\I k' δ } δ1
   rw [<-z]
   exact q
def sp_lesser:DSpec:=fun ss R=>∃ p q:Spo,ss=[.t (spT p),.t (spT q)]/\SzS 20000 p/\SzS 20000 q/\R (.t (.bl (lsV p q)))
def sp_sides:DSpec:=fun ss R=>∃ L:List Spo,ss=[.t (.lst (L.map spT))]/\L.length<=200/\R (.ol ((prV L).map prS))
def sp_from_least:DSpec:=fun ss R=>∃ L:List Spo,ss=[.t (.lst (L.map spT))]/\L.length<=400/\(∀ p∈L,SpOk p/\SzS 20000 p)/\R (.ol ((flV L).map spT))
def sp_mixed:DSpec:=fun ss R=>∃ (p q:Fr) (a b:Int),ss=[.t (frT p),.t (.int a),.t (frT q),.t (.int b)]/\SzF 700 p/\SzF 700 q/\Sz 3200 a/\Sz 3200 b/\0 < a/\0 < b/\0 < p.2/\0 < q.2/\R (.t (frT (mxV p q a b)))
def sp_crossing:DSpec:=fun ss R=>∃ (h:Hf) (p q:Spo),ss=[.t (hfT h),.t (spT p),.t (spT q)]/\SzH 300 h/\SzS 700 p/\SzS 700 q/\SpOk p/\SpOk q/\exV h p ≠ 0/\exV h q ≠ 0/\R (.t (spT (crV h p q)))
def sp_clipped:DSpec:=fun ss R=>∃ (L:List Spo) (h:Hf),ss=[.t (.lst (L.map spT)),.t (hfT h)]/\L.length<=180/\(∀ p∈L,SpOk p/\SzS 700 p)/\SzH 300 h/\R (.ol ((clV h L).map spT))
def w_lesser:WS:=
 (wSeq (wIf (wB (wEq (wOp2 fIx (wVar 0) (wC (.int 0))) (wOp2 fIx (wVar 1) (wC (.int 0))))) (wRet (wCall sp_below (wCons (wOp2 fIx (wVar 0) (wC (.int 1))) (wCons (wOp2 fIx (wVar 1) (wC (.int 1))) wNil)))) wNext)
 (wRet (wCall sp_below (wCons (wOp2 fIx (wVar 0) (wC (.int 0))) (wCons (wOp2 fIx (wVar 1) (wC (.int 0))) wNil)))))
def w_sides:WS:=
 (wRet (wComp 1 [0] (wiRng1 (wCons (wCB fLen (wCons (wVar 0) wNil)) wNil)) (wgName 0) wYes (wTup (wCons (wOp2 fIx (wVar 1) (wSub (wVar 0) (wC (.int 1)))) (wCons (wOp2 fIx (wVar 1) (wVar 0)) wNil)))))
def w_from_least:WS:=
 (wSeq (wSet 1 (wC (.int 0)))
 (wSeqM (wFor (wiRng1 (wCons (wCB fLen (wCons (wVar 0) wNil)) wNil)) (wgName 2) (wIf (wB (wCall sp_lesser (wCons (wOp2 fIx (wVar 0) (wVar 2)) (wCons (wOp2 fIx (wVar 0) (wVar 1)) wNil)))) (wSet 1 (wVar 2)) wNext))
 (wRet (wOp2 fCat (wSlice (wVar 0) (wPart (wVar 1)) wPart0) (wSlice (wVar 0) wPart0 (wPart (wVar 1)))))))
def w_mixed:WS:=
 (wSeq (wSet 4 (wAdd (wMul (wMul (wOp2 fIx (wVar 0) (wC (.int 0))) (wOp2 fIx (wVar 2) (wC (.int 1)))) (wVar 1)) (wMul (wMul (wOp2 fIx (wVar 2) (wC (.int 0))) (wOp2 fIx (wVar 0) (wC (.int 1)))) (wVar 3))))
 (wRet (wCall sp_ratio (wCons (wVar 4) (wCons (wMul (wMul (wOp2 fIx (wVar 0) (wC (.int 1))) (wOp2 fIx (wVar 2) (wC (.int 1)))) (wAdd (wVar 1) (wVar 3))) wNil)))))
def w_crossing:WS:=
 (wSeq (wSet 3 (wMul (wCB fAbs (wCons (wCall sp_excess (wCons (wVar 0) (wCons (wVar 2) wNil))) wNil)) (wCall sp_bottoms (wCons (wVar 1) wNil))))
 (wSeq (wSet 4 (wMul (wCB fAbs (wCons (wCall sp_excess (wCons (wVar 0) (wCons (wVar 1) wNil))) wNil)) (wCall sp_bottoms (wCons (wVar 2) wNil))))
 (wSeq (wSet 5 (wCall sp_mixed (wCons (wOp2 fIx (wVar 1) (wC (.int 0))) (wCons (wVar 3) (wCons (wOp2 fIx (wVar 2) (wC (.int 0))) (wCons (wVar 4) wNil))))))
 (wSeq (wSet 6 (wCall sp_mixed (wCons (wOp2 fIx (wVar 1) (wC (.int 1))) (wCons (wVar 3) (wCons (wOp2 fIx (wVar 2) (wC (.int 1))) (wCons (wVar 4) wNil))))))
 (wRet (wTup (wCons (wVar 5) (wCons (wVar 6) wNil))))))))
def w_clipped:WS:=
 (wSeq (wSet 2 (wLst wNil))
 (wSeqM (wFor (wiList (wCall sp_sides (wCons (wVar 0) wNil))) (wgName 3) (wSeqM (wIf (wB (wLt (wMul (wCall sp_side (wCons (wVar 1) (wCons (wOp2 fIx (wVar 3) (wC (.int 0))) wNil))) (wCall sp_side (wCons (wVar 1) (wCons (wOp2 fIx (wVar 3) (wC (.int 1))) wNil)))) (wC (.int 0)))) (wSeq (wSet 4 (wCall sp_crossing (wCons (wVar 1) (wCons (wOp2 fIx (wVar 3) (wC (.int 0))) (wCons (wOp2 fIx (wVar 3) (wC (.int 1))) wNil)))))
 (wIf (wB (wNotIn (wVar 4) (wVar 2))) (wAppend 2 (wVar 4)) wNext)) wNext)
 (wIf (wB (wGe (wCall sp_side (wCons (wVar 1) (wCons (wOp2 fIx (wVar 3) (wC (.int 1))) wNil))) (wC (.int 0)))) (wAppend 2 (wOp2 fIx (wVar 3) (wC (.int 1)))) wNext)))
 (wRet (wCall sp_from_least (wCons (wVar 2) wNil)))))
theorem len_lesser:∀ ss R,sp_lesser ss R->ss.length=2:=by rintro ss R ⟨a,b,rfl,_⟩;rfl
theorem len_sides:∀ ss R,sp_sides ss R->ss.length=1:=by rintro ss R ⟨a,rfl,_⟩;rfl
theorem len_from_least:∀ ss R,sp_from_least ss R->ss.length=1:=by rintro ss R ⟨a,rfl,_⟩;rfl
theorem len_mixed:∀ ss R,sp_mixed ss R->ss.length=4:=by rintro ss R ⟨a,b,c,d,rfl,_⟩;rfl
theorem len_crossing:∀ ss R,sp_crossing ss R->ss.length=3:=by rintro ss R ⟨a,b,c,rfl,_⟩;rfl
theorem len_clipped:∀ ss R,sp_clipped ss R->ss.length=2:=by rintro ss R ⟨a,b,rfl,_⟩;rfl
theorem ok_lesser:∀ ss R,sp_lesser ss R->w_lesser { nx:=fun _=>R (.t .non),rt:=R } (startD ["one","other"] ss):=by
 rintro ss R ⟨⟨⟨x0,x1⟩,y0,y1⟩,⟨⟨u0,u1⟩,v0,v1⟩,rfl,⟨⟨z1,z2⟩,z3,z4⟩,⟨⟨s1,s2⟩,s3,s4⟩,h⟩
 dsimp only at z1 z2 z3 z4 s1 s2 s3 s4
 show w_lesser _ [some (.t (.tup [.tup [.int x0,.int x1],.tup [.int y0,.int y1]])),some (.t (.tup [.tup [.int u0,.int u1],.tup [.int v0,.int v1]]))]
 unfold w_lesser
 unfold lsV at h
 walk_at "dl"
 by_cases e:x0=u0/\x1=u1
 ·rw [if_pos (by simpa using e)]
  rw [if_pos (by rw [e.1,e.2])] at h
  exact ⟨(y0,y1),(v0,v1),rfl,⟨z3.mono (by decide),z4.mono (by decide)⟩,⟨s3.mono (by decide),s4.mono (by decide)⟩,h⟩
 ·rw [if_neg (by simpa using e)]
  rw [if_neg (fun z=>e ⟨congrArg Prod.fst z,congrArg Prod.snd z⟩)] at h
  exact ⟨(x0,x1),(u0,u1),rfl,⟨z1.mono (by decide),z2.mono (by decide)⟩,⟨s1.mono (by decide),s2.mono (by decide)⟩,h⟩
theorem ok_sides:∀ ss R,sp_sides ss R->w_sides { nx:=fun _=>R (.t .non),rt:=R } (startD ["region"] ss):=by
 rintro ss R ⟨L,rfl,hl,h⟩
 show w_sides _ [some (.t (.lst (L.map spT)))]
 unfold w_sides
 walk_at "dl"
 refine ⟨rngOk (by omega) (by rw [List.length_map];omega),?_⟩
 rw [List.length_map,Int.toNat_natCast]
 let pr:Nat->Spo × Spo:=fun k=>if hk:k < L.length then (pvG L k hk,L[k]) else (((0,0),(0,0)),((0,0),(0,0)))
 refine comp_map (f:=fun k:Nat=>.int (0 + (k:Int))) (h:=fun k=>prS (pr k)) (l:=List.range L.length) (fun δ=>∃ r,δ=[r,some (.t (.lst (L.map spT)))]) (fun k _=>rfl) (by rw [List.length_range];omega) ⟨_,rfl⟩ ?_ ?_
 ·rintro k hk δ ⟨r,rfl⟩ Y hY
  have hk:=List.mem_range.mp hk
  have e:pr k=(pvG L k hk,L[k]):=dif_pos hk
  rw [Int.zero_add]
  walk_at "dl"
  rw [atT_of (ixp_map spT hk)]
  walk_at "dl"
  rw [atT_of (ix_map spT hk)]
  rw [e] at hY
  exact hY _ ⟨_,rfl⟩
 ·have e:(List.range L.length).map (fun k=>prS (pr k))=(prV L).map prS:=by unfold prV;rw [List.map_map];rfl
  rw [e]
  exact h
theorem ok_from_least:∀ ss R,sp_from_least ss R->w_from_least { nx:=fun _=>R (.t .non),rt:=R } (startD ["corners","first","place"] ss):=by
 rintro ss R ⟨L,rfl,hl,hz,h⟩
 show w_from_least _ [some (.t (.lst (L.map spT))),none,none]
 unfold w_from_least
 walk_at "dl"
 let I:Nat->DSt->Prop:=fun k δ=>∃ r:Option S,δ=[some (.t (.lst (L.map spT))),some (.t (.int (mnF L k))),r]
 refine ⟨I L.length,?_,?_⟩
 ·walk_at "dl"
  refine ⟨rngOk (by omega) (by rw [List.length_map];omega),?_⟩
  rw [List.length_map,Int.toNat_natCast]
  refine for_ups I L.length ⟨_,rfl⟩ (fun δ h=>h) ?_
  rintro k hk δ ⟨r,rfl⟩
  obtain ⟨hf1,_⟩:=mnF_ok (fun p hp=>(hz p hp).1) (show 0 < L.length by omega) k (by omega)
  walk_at "dl"
  rw [atT_of (ix_map spT hk)]
  walk_at "dl"
  rw [atT_of (ix_map spT hf1)]
  walk_at "dl"
  refine ⟨L[k],L[mnF L k],rfl,(hz _ (List.getElem_mem _)).2,(hz _ (List.getElem_mem _)).2,?_⟩
  have e:=mnF_succ L k
  rw [gt_eq hk,gt_eq hf1] at e
  walk_at "dl"
  split
  ·rename_i c
   rw [if_pos c] at e
   exact ⟨_,by rw [e]⟩
  ·rename_i c
   rw [if_neg c] at e
   exact ⟨_,by rw [e]⟩
 ·rintro δ ⟨r,rfl⟩
  walk_at "dl"
  have hfl:mnF L L.length<=L.length:=by
   by_cases e:0 < L.length
   ·exact Nat.le_of_lt (mnF_ok (fun p hp=>(hz p hp).1) e L.length (Nat.le_refl _)).1
   ·have:L=[]:=List.length_eq_zero_iff.mp (by omega)
    subst this
    exact Nat.le_refl _
  unfold flV at h
  generalize mnF L L.length=f at h hfl
  have c1:cutT (L.map spT) (some (f:Int)) none=(L.drop f).map spT:=by
   unfold cutT
   rw [HT.sIx_nat,HT.sIx_none,List.length_map,Nat.min_eq_left hfl,<-List.map_drop,<-List.map_take]
   rw [List.take_of_length_le (by rw [List.length_drop];omega)]
  have c2:cutT (L.map spT) none (some (f:Int))=(L.take f).map spT:=by
   unfold cutT
   rw [HT.sIx_nat,HT.sIx_none,List.length_map,Nat.min_eq_left hfl,List.drop_zero,Nat.sub_zero,<-List.map_take]
  rw [c1,c2,<-List.map_append]
  exact ⟨by simp only [List.length_map,List.length_drop,List.length_take];omega,h⟩
theorem mx_sz {p q:Fr} {a b:Int} (zp:SzF 700 p) (zq:SzF 700 q) (za:Sz 3200 a) (zb:Sz 3200 b):Sz 5000 (p.1*q.2*a + q.1*p.2*b)/\Sz 5000 (p.2*q.2*(a + b))/\SzF 5000 (mxV p q a b):=by
 have st:Sz 5000 (p.1*q.2*a + q.1*p.2*b):=(Sz.add (Sz.mul (Sz.mul zp.1 zq.2) za) (Sz.mul (Sz.mul zq.1 zp.2) zb)).mono (by decide)
 have sB:Sz 5000 (p.2*q.2*(a + b)):=(Sz.mul (Sz.mul zp.2 zq.2) (Sz.add za zb)).mono (by decide)
 exact ⟨st,sB,st.fdiv _,sB.fdiv _⟩
theorem ok_mixed:∀ ss R,sp_mixed ss R->w_mixed { nx:=fun _=>R (.t .non),rt:=R } (startD ["one","one_weight","other","other_weight","top"] ss):=by
 rintro ss R ⟨⟨x0,x1⟩,⟨y0,y1⟩,a,b,rfl,⟨z1,z2⟩,⟨z3,z4⟩,sa,sb,a0,b0,p0,q0,h⟩
 obtain ⟨st,sB,_⟩:=mx_sz (p:=(x0,x1)) (q:=(y0,y1)) ⟨z1,z2⟩ ⟨z3,z4⟩ sa sb
 dsimp only at z1 z2 z3 z4 p0 q0 st sB
 show w_mixed _ [some (.t (.tup [.int x0,.int x1])),some (.t (.int a)),some (.t (.tup [.int y0,.int y1])),some (.t (.int b)),none]
 unfold w_mixed
 have hB:x1*y1*(a + b) ≠ 0:=by
  have:=Int.mul_pos (Int.mul_pos p0 q0) (show 0 < a + b by omega)
  omega
 walk_at "dl"
 refine ⟨mulSz z1 z4 (by decide) (by decide),mulSz (Sz.mul z1 z4) sa (by decide) (by decide),mulSz z3 z2 (by decide) (by decide),mulSz (Sz.mul z3 z2) sb (by decide) (by decide),mulSz z2 z4 (by decide) (by decide),mulSz (Sz.mul z2 z4) (Sz.add sa sb) (by decide) (by decide),_,_,rfl,hB,sB.mono (by decide),?_⟩
 walk_at "dl"
 exact h
theorem ex_sz {h:Hf} {s:Spo} (hh:SzH 300 h) (hs:SzS 700 s):Sz 1750 (exV h s):=by
 obtain ⟨a,b,c⟩:=hh
 obtain ⟨⟨x0,x1⟩,y0,y1⟩:=hs
 unfold exV
 exact (Sz.sub (Sz.add (Sz.mul (Sz.mul a x0) y1) (Sz.mul (Sz.mul b y0) x1)) (Sz.mul c (Sz.mul x1 y1))).mono (by decide)
theorem ab_sz {n:Nat} {x:Int} (h:Sz n x):Sz n (abV x):=by
 unfold abV
 split
 ·exact ⟨by rw [Int.natAbs_neg];exact h.lt⟩
 ·exact h
theorem wt_sz {h:Hf} {p q:Spo} (hh:SzH 300 h) (hp:SzS 700 p) (hq:SzS 700 q):Sz 3200 (abV (exV h q)*(p.1.2*p.2.2)):=(Sz.mul (ab_sz (ex_sz hh hq)) (Sz.mul hp.1.2 hp.2.2)).mono (by decide)
theorem cr_sz {h:Hf} {p q:Spo} (hh:SzH 300 h) (hp:SzS 700 p) (hq:SzS 700 q):SzS 5000 (crV h p q):=⟨(mx_sz hp.1 hq.1 (wt_sz hh hp hq) (wt_sz hh hq hp)).2.2,(mx_sz hp.2 hq.2 (wt_sz hh hp hq) (wt_sz hh hq hp)).2.2⟩
theorem ok_crossing:∀ ss R,sp_crossing ss R->w_crossing { nx:=fun _=>R (.t .non),rt:=R } (startD ["half","one","other","one_weight","other_weight","x","y"] ss):=by
 rintro ss R ⟨hf,p,q,rfl,hh,hp,hq,op,oq,ep,eq,h⟩
 show w_crossing _ [some (.t (hfT hf)),some (.t (spT p)),some (.t (spT q)),none,none,none,none]
 unfold w_crossing
 have sh:=szh_mono hh (show 300<=300000 by decide)
 have sp:=szs_mono hp (show 700<=60000 by decide)
 have sq:=szs_mono hq (show 700<=60000 by decide)
 have bp:0 < p.1.2*p.2.2:=Int.mul_pos op.1.1 op.2.1
 have bq:0 < q.1.2*q.2.2:=Int.mul_pos oq.1.1 oq.2.1
 have zbp:Sz 1400 (p.1.2*p.2.2):=Sz.mul hp.1.2 hp.2.2
 have zbq:Sz 1400 (q.1.2*q.2.2):=Sz.mul hq.1.2 hq.2.2
 have zq:=ab_sz (ex_sz hh hq)
 have zp:=ab_sz (ex_sz hh hp)
 have k1:0 < abV (exV hf q)*(p.1.2*p.2.2):=Int.mul_pos (ab_pos eq) bp
 have k2:0 < abV (exV hf p)*(q.1.2*q.2.2):=Int.mul_pos (ab_pos ep) bq
 have k3:=wt_sz hh hp hq
 have k4:=wt_sz hh hq hp
 unfold crV at h
 have fold:∀ x:Int,(if x < 0 then -x else x)=abV x:=fun _=>rfl
 walk_at "dl"
 refine ⟨hf,q,rfl,sh,sq,?_⟩
 walk_at "dl"
 refine ⟨p,rfl,sp,?_⟩
 walk_at "dl"
 rw [fold]
 refine ⟨mulSz zq zbp (by decide) (by decide),hf,p,rfl,sh,sp,?_⟩
 walk_at "dl"
 refine ⟨q,rfl,sq,?_⟩
 walk_at "dl"
 rw [fold]
 refine ⟨mulSz zp zbq (by decide) (by decide),p.1,q.1,_,_,rfl,hp.1,hq.1,k3,k4,k1,k2,op.1.1,oq.1.1,?_⟩
 walk_at "dl"
 refine ⟨p.2,q.2,_,_,rfl,hp.2,hq.2,k3,k4,k1,k2,op.2.1,oq.2.1,?_⟩
 walk_at "dl"
 exact h
theorem sgn_bd (a:Int):-1<=sgn a/\sgn a<=1:=by
 unfold sgn
 split
 ·omega
 ·split <;> omega
theorem notIn_sp {s:Spo} {ks:List Spo} {y:S} {R:S->Prop} (hy:tr y=.lst (ks.map spT)) (h1:s∈ks->R (.t (.bl false))) (h2:¬ s∈ks->R (.t (.bl true))):fNotIn (.t (spT s)) y R:=by
 unfold fNotIn
 rw [hy]
 refine ⟨by show 2<=20;decide,Nat.le_trans (deps_map dep_spT _) (by decide),?_⟩
 by_cases h:s∈ks
 ·have e:inT (tr (.t (spT s))) (ks.map spT)=true:=by
   unfold inT
   rw [List.any_map,List.any_eq_true]
   exact ⟨s,h,(eqT_spT s s).mpr rfl⟩
  rw [e];exact h1 h
 ·have e:inT (tr (.t (spT s))) (ks.map spT)=false:=by
   unfold inT
   rw [List.any_map,List.any_eq_false]
   intro x hx hc
   exact h (((eqT_spT x s).mp hc) ▸ hx)
  rw [e];exact h2 h
theorem prV_mem {L:List Spo} {q:Spo × Spo} (h:q∈prV L):q.1∈L/\q.2∈L:=by
 obtain ⟨k,hk,rfl⟩:=List.mem_map.mp h
 have hk:=List.mem_range.mp hk
 rw [dif_pos hk]
 exact ⟨pv_mem hk,List.getElem_mem hk⟩
theorem fold_snoc (h:Hf) (pre:List (Spo × Spo)) (q:Spo × Spo):(pre++[q]).foldl (stp h) []=stp h (pre.foldl (stp h) []) q:=by rw [List.foldl_append];rfl
theorem ok_clipped:∀ ss R,sp_clipped ss R->w_clipped { nx:=fun _=>R (.t .non),rt:=R } (startD ["region","half","kept","pair","spot"] ss):=by
 rintro ss R ⟨L,hf,rfl,hl,hz,hh,h⟩
 show w_clipped _ [some (.t (.lst (L.map spT))),some (.t (hfT hf)),none,none,none]
 unfold w_clipped
 walk_at "dl"
 have hS:∀ p∈L,SzS 60000 p:=fun p hp=>szs_mono (hz p hp).2 (by decide)
 have hH:SzH 300000 hf:=szh_mono hh (by decide)
 let K:List (Spo × Spo)->List Spo->Prop:=fun pre ks=>ks=pre.foldl (stp hf) []/\ks.length<=2*pre.length/\∀ p∈ks,SpOk p/\SzS 20000 p
 refine ⟨fun δ=>∃ ks r3 r4,δ=[some (.t (.lst (L.map spT))),some (.t (hfT hf)),some (.ol (ks.map spT)),r3,r4]/\K (prV L) ks,?_,?_⟩
 ·refine ⟨L,rfl,by omega,?_⟩
  dsimp only
  rw [e_gotO _ (purs_map (fun _=>rfl) _)]
  walk_at "dl"
  refine ⟨fun ts δ=>∃ (pre post:List (Spo × Spo)) (ks:List Spo) (r3 r4:Option S),prV L=pre++post/\ts=post.map prS/\δ=[some (.t (.lst (L.map spT))),some (.t (hfT hf)),some (.ol (ks.map spT)),r3,r4]/\K pre ks,⟨[],prV L,[],_,_,rfl,rfl,rfl,by simp [K]⟩,?_,?_⟩
  ·rintro δ ⟨pre,post,ks,r3,r4,e3,e4,rfl,hK⟩
   have:post=[]:=by simpa using e4.symm
   subst this
   rw [List.append_nil] at e3
   rw [e3]
   exact ⟨ks,r3,r4,rfl,hK⟩
  ·rintro x ts δ ⟨pre,post,ks,r3,r4,e3,e4,rfl,hK⟩
   cases post with
   | nil=>cases e4
   | cons q post=>
    rw [List.map_cons] at e4
    cases e4
    obtain ⟨q1,q2⟩:=prV_mem (L:=L) (q:=q) (by rw [e3];simp)
    have hpl:pre.length<=180:=by
     have e5:(prV L).length=L.length:=by unfold prV;simp
     rw [e3] at e5
     simp only [List.length_append,List.length_cons] at e5
     omega
    obtain ⟨hK1,hK2,hK3⟩:=hK
    have b1:=sgn_bd (exV hf q.1)
    have b2:=sgn_bd (exV hf q.2)
    have app:∀ {n:Nat} {ks:List Spo} {s:Spo},ks.length<=n->(∀ p∈ks,SpOk p/\SzS 20000 p)->SpOk s/\SzS 20000 s->(ks++[s]).length<=n + 1/\∀ p∈ks++[s],SpOk p/\SzS 20000 p:=fun {n ks s} h1 h2 h3=>⟨by rw [List.length_append,List.length_singleton];omega,fun p hp=>by
     rcases List.mem_append.mp hp with hp | hp
     ·exact h2 p hp
     ·rw [List.mem_singleton.mp hp];exact h3⟩
    have z2:SpOk q.2/\SzS 20000 q.2:=⟨(hz _ q2).1,szs_mono (hz _ q2).2 (by decide)⟩
    let k1:List Spo:=if opV hf q.1 q.2/\¬ crV hf q.1 q.2∈ks then ks++[crV hf q.1 q.2] else ks
    show wgName 3 (.tup [spT q.1,spT q.2]) _ _
    walk_at "dl"
    refine ⟨fun δ=>∃ (r4:Option S),δ=[some (.t (.lst (L.map spT))),some (.t (hfT hf)),some (.ol (k1.map spT)),some (.t (.tup [spT q.1,spT q.2])),r4]/\k1.length<=2*pre.length + 1/\∀ p∈k1,SpOk p/\SzS 20000 p,?_,?_⟩
    ·walk_at "dl"
     refine ⟨hf,q.1,rfl,hH,hS _ q1,hf,q.2,rfl,hH,hS _ q2,?_⟩
     walk_at "dl"
     refine ⟨mulL (by omega) (by omega),?_⟩
     split
     ·rename_i hlt
      have ho:opV hf q.1 q.2:=hlt
      have o:=op_iff.mp ho
      refine ⟨hf,q.1,q.2,rfl,hh,(hz _ q1).2,(hz _ q2).2,(hz _ q1).1,(hz _ q2).1,by omega,by omega,?_⟩
      walk_at "dl"
      have zs:SpOk (crV hf q.1 q.2)/\SzS 20000 (crV hf q.1 q.2):=⟨(cr_mix (hz _ q1).1 (hz _ q2).1 ho).1,szs_mono (cr_sz hh (hz _ q1).2 (hz _ q2).2) (by decide)⟩
      refine notIn_sp (ks:=ks) rfl (fun hin=>?_) (fun hin=>?_)
      ·walk_at "dl"
       have e:k1=ks:=if_neg fun z=>z.2 hin
       rw [e]
       exact ⟨_,rfl,by omega,hK3⟩
      ·walk_at "dl"
       have e:k1=ks++[crV hf q.1 q.2]:=if_pos ⟨ho,hin⟩
       obtain ⟨a1,a2⟩:=app hK2 hK3 zs
       rw [e]
       exact ⟨by rw [List.length_map];omega,_,by rw [List.map_append];rfl,a1,a2⟩
     ·rename_i hlt
      have e:k1=ks:=if_neg fun z=>hlt z.1
      rw [e]
      exact ⟨_,rfl,by omega,hK3⟩
    ·rintro δ ⟨r4',rfl,l1,l2⟩
     walk_at "dl"
     refine ⟨hf,q.2,rfl,hH,hS _ q2,?_⟩
     walk_at "dl"
     split
     ·rename_i hk
      obtain ⟨a1,a2⟩:=app l1 l2 z2
      refine ⟨by rw [List.length_map];omega,pre++[q],post,k1++[q.2],some (.t (.tup [spT q.1,spT q.2])),r4',by rw [e3];simp,rfl,by rw [List.map_append];rfl,?_,?_,a2⟩
      ·rw [fold_snoc,<-hK1]
       exact (if_pos (show kpV hf q.2 from hk)).symm
      ·rw [List.length_append (as:=pre),List.length_singleton];omega
     ·rename_i hk
      refine ⟨pre++[q],post,k1,some (.t (.tup [spT q.1,spT q.2])),r4',by rw [e3];simp,rfl,rfl,?_,?_,l2⟩
      ·rw [fold_snoc,<-hK1]
       exact (if_neg (show ¬ kpV hf q.2 from hk)).symm
      ·rw [List.length_append,List.length_singleton];omega
 ·rintro δ ⟨ks,r3,r4,rfl,k1,k2,k3⟩
  have e5:(prV L).length=L.length:=by unfold prV;simp
  walk_at "dl"
  refine ⟨ks,rfl,by omega,k3,?_⟩
  dsimp only
  rw [e_gotO _ (purs_map (fun _=>rfl) _)]
  walk_at "dl"
  unfold clV clF at h
  rw [<-k1] at h
  exact h
end Law
namespace Law
open L2 DL
set_option maxHeartbeats 4000000
def sp_l_half:DSpec:=fun ss R=>∃ a b c:Int,ss=[.t (.int a),.t (.int b),.t (.int c)]/\(a ≠ 0\/b ≠ 0)/\SzH 300 (a,b,c)/\∀ h:Hf,HOk h->R (.t (hfT h))
def sp_l_halves:DSpec:=fun ss R=>∃ (ns:List Int) (ps:List Pt) (many:Int),ss=[.t (.lst (ns.map .int)),.t (.lst (ps.map ptT)),.t (.int many)]/\0<=many/\many<=50/\ps ≠ []/\ps.length<=1000/\(∀ p∈ps,SzF 110 p)/\∀ hs:List Hf,hs.length=many.toNat->(∀ h∈hs,HOk h)->R (.ol (hs.map hfT))
def sp_l_over:DSpec:=fun ss R=>∃ h u:Hf,ss=[.t (hfT h),.t (hfT u)]/\SzH 300 h/\SzH 5000 u/\R (.t (.int (ovV h u)))
def w_l_half:WS:=
 (wSeq (wSet 3 (wCall sp_l_divisor (wCons (wCall sp_l_divisor (wCons (wVar 0) (wCons (wVar 1) wNil))) (wCons (wVar 2) wNil))))
 (wRet (wTup (wCons (wFdiv (wVar 0) (wVar 3)) (wCons (wFdiv (wVar 1) (wVar 3)) (wCons (wFdiv (wVar 2) (wVar 3)) wNil))))))
def w_l_halves:WS:=
 (wSeq (wSet 3 (wLst wNil))
 (wSeqM (wFor (wiRng1 (wCons (wVar 2) wNil)) (wgName 4) (wSeq (wSet 5 (wCall sp_l_mixed (wCons (wVar 0) (wCons (wAdd (wC (.int 70)) (wVar 4)) wNil))))
 (wSeq (wUnp (wOp2 fIx (wVar 1) (wMod (wVar 5) (wCB fLen (wCons (wVar 1) wNil)))) (wgTup (wgCons (wgName 6) (wgCons (wgName 7) wgNil))))
 (wSeq (wSet 8 (wOp2 fIx (wVar 1) (wMod (wFdiv (wVar 5) (wC (.int 64))) (wCB fLen (wCons (wVar 1) wNil)))))
 (wSeq (wSet 9 (wSub (wAdd (wSub (wVar 7) (wOp2 fIx (wVar 8) (wC (.int 1)))) (wMod (wFdiv (wVar 5) (wC (.int 4096))) (wC (.int 3)))) (wC (.int 1))))
 (wSeq (wSet 10 (wSub (wAdd (wSub (wOp2 fIx (wVar 8) (wC (.int 0))) (wVar 6)) (wMod (wFdiv (wVar 5) (wC (.int 12288))) (wC (.int 3)))) (wC (.int 1))))
 (wSeqM (wIf (wT1 (wAndT (wB (wEq (wVar 9) (wC (.int 0)))) (wB (wEq (wVar 10) (wC (.int 0)))))) (wSet 9 (wSub (wC (.int 1)) (wMul (wC (.int 2)) (wMod (wFdiv (wVar 5) (wC (.int 36864))) (wC (.int 2)))))) wNext)
 (wAppend 3 (wCall sp_l_half (wCons (wVar 9) (wCons (wVar 10) (wCons (wAdd (wAdd (wMul (wVar 9) (wVar 6)) (wMul (wVar 10) (wVar 7))) (wOp2 fIx (wLst (wCons (wC (.int 0)) (wCons (wC (.int 0)) (wCons (wC (.int 1)) (wCons (wUn fNeg (wC (.int 1))) wNil))))) (wMod (wFdiv (wVar 5) (wC (.int 73728))) (wC (.int 4))))) wNil))))))))))))
 (wRetV 3)))
def w_l_over:WS:=
 (wRet (wSub (wAdd (wMul (wOp2 fIx (wVar 0) (wC (.int 0))) (wOp2 fIx (wVar 1) (wC (.int 0)))) (wMul (wOp2 fIx (wVar 0) (wC (.int 1))) (wOp2 fIx (wVar 1) (wC (.int 1))))) (wMul (wOp2 fIx (wVar 0) (wC (.int 2))) (wOp2 fIx (wVar 1) (wC (.int 2))))))
theorem len_l_half:∀ ss R,sp_l_half ss R->ss.length=3:=by rintro ss R ⟨a,b,c,rfl,_⟩;rfl
theorem len_l_halves:∀ ss R,sp_l_halves ss R->ss.length=3:=by rintro ss R ⟨a,b,c,rfl,_⟩;rfl
theorem len_l_over:∀ ss R,sp_l_over ss R->ss.length=2:=by rintro ss R ⟨a,b,rfl,_⟩;rfl
theorem fd_ne {a g:Int} (ha:a ≠ 0) (hd:g ∣ a):a.fdiv g ≠ 0:=fun e=>by
 have:=fdiv_dvd hd
 rw [e,Int.zero_mul] at this
 exact ha this.symm
theorem ok_l_half:∀ ss R,sp_l_half ss R->w_l_half { nx:=fun _=>R (.t .non),rt:=R } (startD ["_law_a","_law_b","_law_c","_law_by"] ss):=by
 rintro ss R ⟨a,b,c,rfl,hne,⟨sa,sb,sc⟩,h⟩
 dsimp only at sa sb sc
 show w_l_half _ [some (.t (.int a)),some (.t (.int b)),some (.t (.int c)),none]
 unfold w_l_half
 walk_at "dl"
 refine ⟨a,b,rfl,?_⟩
 walk_at "dl"
 refine ⟨_,c,rfl,?_⟩
 walk_at "dl"
 have hg:=gcd3_ne (c:=c) hne
 have sg:Sz 400 (gcd3 a b c:Int):=(Sz.gcd (Sz.gcd sa sb) sc).mono (by decide)
 have dva:(gcd3 a b c:Int) ∣ a:=gcd3_a a b c
 have dvb:(gcd3 a b c:Int) ∣ b:=gcd3_b a b c
 have dv:∀ z,DivOk z (gcd3 a b c:Int):=fun z=>divSz hg sg (by decide)
 exact ⟨dv _,dv _,dv _,h (a.fdiv (gcd3 a b c),b.fdiv (gcd3 a b c),c.fdiv (gcd3 a b c)) ⟨⟨sa.fdiv _,sb.fdiv _,sc.fdiv _⟩,hne.elim (fun z=>.inl (fd_ne z dva)) (fun z=>.inr (fd_ne z dvb))⟩⟩
theorem at_mod {α:Type} {f:α->T} {l:List α} {v:Int} {R:S->Prop} (hl:l ≠ []) (h:∀ x∈l,R (.t (f x))):atT (l.map f) (v.fmod ((l.map f).length:Int)) R:=by
 have hp:0 < l.length:=List.length_pos_iff.mpr hl
 refine atT_all (fmod_lo v (by rw [List.length_map];omega)) (fmod_hi v (by rw [List.length_map];omega)) fun x hx=>?_
 obtain ⟨a,ha,rfl⟩:=List.mem_map.mp hx
 exact h a ha
theorem ok_l_halves:∀ ss R,sp_l_halves ss R->w_l_halves { nx:=fun _=>R (.t .non),rt:=R } (startD ["_law_script","_law_points_here","_law_many","_law_found","_law_k","_law_number","_law_x","_law_y","_law_other","_law_a","_law_b"] ss):=by
 rintro ss R ⟨ns,ps,many,rfl,mn0,mn1,hne,hl,hz,h⟩
 show w_l_halves _ [some (.t (.lst (ns.map .int))),some (.t (.lst (ps.map ptT))),some (.t (.int many)),none,none,none,none,none,none,none,none]
 unfold w_l_halves
 have dummy:Sz 1 0:=⟨by decide⟩
 have hlen:(0:Int) < ((ps.map ptT).length:Int):=by have:=List.length_pos_iff.mpr hne;rw [List.length_map];omega
 walk_at "dl"
 let I:Nat->DSt->Prop:=fun n δ=>∃ (hs:List Hf) (r4 r5 r6 r7 r8 r9 r10:Option S),δ=[some (.t (.lst (ns.map .int))),some (.t (.lst (ps.map ptT))),some (.t (.int many)),some (.ol (hs.map hfT)),r4,r5,r6,r7,r8,r9,r10]/\hs.length=n/\∀ g∈hs,HOk g
 refine ⟨I many.toNat,?_,?_⟩
 ·walk_at "dl"
  refine ⟨rngOk (by omega) (by omega),for_ups I many.toNat ⟨[],_,_,_,_,_,_,_,rfl,rfl,fun g hg=>by cases hg⟩ (fun δ h=>h) ?_⟩
  rintro k hk δ ⟨hs,r4,r5,r6,r7,r8,r9,r10,rfl,hsl,hsz⟩
  walk_at "dl"
  refine ⟨ns,70 + k,rfl,by omega,by omega,fun v v0 v1=>?_⟩
  have c1:=fmod_lo (v.fdiv 4096) (n:=3) (by decide)
  have c2:=fmod_hi (v.fdiv 4096) (n:=3) (by decide)
  have c3:=fmod_lo (v.fdiv 12288) (n:=3) (by decide)
  have c4:=fmod_hi (v.fdiv 12288) (n:=3) (by decide)
  have c5:=fmod_lo (v.fdiv 36864) (n:=2) (by decide)
  have c6:=fmod_hi (v.fdiv 36864) (n:=2) (by decide)
  have c7:=fmod_lo (v.fdiv 73728) (n:=4) (by decide)
  have c8:=fmod_hi (v.fdiv 73728) (n:=4) (by decide)
  walk_at "dl"
  refine ⟨by omega,at_mod hne fun p hp=>?_⟩
  obtain ⟨sx,sy⟩:=hz p hp
  walk_at "go"
  refine at_mod hne fun q hq=>?_
  obtain ⟨su,sw⟩:=hz q hq
  have s3:Sz 10 (3:Int):=Sz.of (by decide) (by decide)
  have sA:Sz 115 (p.2 - q.2 + (v.fdiv 4096).fmod 3 - 1):=(Sz.sub (Sz.add (Sz.sub sy sw) (Sz.of (m:=10) (by omega) (by omega))) (Sz.of (m:=10) (by decide) (by decide))).mono (by decide)
  have sB:Sz 115 (q.1 - p.1 + (v.fdiv 12288).fmod 3 - 1):=(Sz.sub (Sz.add (Sz.sub su sx) (Sz.of (m:=10) (by omega) (by omega))) (Sz.of (m:=10) (by decide) (by decide))).mono (by decide)
  walk_at "go"
  generalize p.2 - q.2 + (v.fdiv 4096).fmod 3 - 1=A at sA ⊢
  generalize q.1 - p.1 + (v.fdiv 12288).fmod 3 - 1=B at sB ⊢
  refine ⟨fun δ=>∃ a:Int,(a ≠ 0\/B ≠ 0)/\Sz 115 a/\δ=[some (.t (.lst (ns.map .int))),some (.t (.lst (ps.map ptT))),some (.t (.int many)),some (.ol (hs.map hfT)),some (.t (.int k)),some (.t (.int v)),some (.t (.int p.1)),some (.t (.int p.2)),some (.t (.tup [.int q.1,.int q.2])),some (.t (.int a)),some (.t (.int B))],?_,?_⟩
  ·walk_at "dl"
   refine ⟨fun b=>b=true ↔ (A=0/\B=0),?_,?_⟩
   ·walk_at "dl"
    split
    ·rename_i e
     walk_at "dl"
     simp [e]
    ·rename_i e
     simp [e]
   ·intro b hb
    walk_at "dl"
    split
    ·walk_at "go"
     exact ⟨_,.inl (by omega),(Sz.of (m:=10) (by omega) (by omega)).mono (by decide),rfl⟩
    ·rename_i e
     refine ⟨A,?_,sA,rfl⟩
     by_cases a0:A=0
     ·right;intro b0;exact e (hb.mpr ⟨a0,b0⟩)
     ·exact .inl a0
  ·rintro δ ⟨a,hab,sa,rfl⟩
   walk_at "dl"
   refine ⟨mulSz sa sx (by decide) (by decide),mulSz sB sy (by decide) (by decide),divOk (by decide) (by decide +kernel),by decide,atT_all c7 (by simpa using c8) fun t ht=>?_⟩
   obtain ⟨w,rfl,w0,w1⟩:∃ w:Int,t=.int w/\-1<=w/\w<=1:=by
    simp only [List.mem_cons,List.not_mem_nil,or_false] at ht
    rcases ht with rfl | rfl | rfl | rfl
    ·exact ⟨0,rfl,by decide,by decide⟩
    ·exact ⟨0,rfl,by decide,by decide⟩
    ·exact ⟨1,rfl,by decide,by decide⟩
    ·exact ⟨-1,rfl,by decide,by decide⟩
   walk_at "dl"
   refine ⟨a,B,_,rfl,hab,⟨sa.mono (by decide),sB.mono (by decide),(Sz.add (Sz.add (Sz.mul sa sx) (Sz.mul sB sy)) (Sz.of (m:=10) (by omega) (by omega))).mono (by decide)⟩,fun g gz=>?_⟩
   walk_at "dl"
   refine ⟨by rw [List.length_map,hsl];omega,hs++[g],_,_,_,_,_,_,_,by rw [List.map_append];rfl,by rw [List.length_append,hsl];rfl,fun f hf=>?_⟩
   rcases List.mem_append.mp hf with hf | hf
   ·exact hsz f hf
   ·rw [List.mem_singleton.mp hf];exact gz
 ·rintro δ ⟨hs,r4,r5,r6,r7,r8,r9,r10,rfl,hsl,hsz⟩
  walk_at "dl"
  exact h hs hsl hsz
theorem ok_l_over:∀ ss R,sp_l_over ss R->w_l_over { nx:=fun _=>R (.t .non),rt:=R } (startD ["_law_one","_law_here"] ss):=by
 rintro ss R ⟨⟨a,b,c⟩,⟨x,y,z⟩,rfl,⟨ha,hb,hc⟩,⟨hx,hy,hz⟩,h⟩
 dsimp only at ha hb hc hx hy hz
 show w_l_over _ [some (.t (.tup [.int a,.int b,.int c])),some (.t (.tup [.int x,.int y,.int z]))]
 unfold w_l_over
 walk_at "dl"
 exact ⟨mulSz ha hx (by decide) (by decide),mulSz hb hy (by decide) (by decide),mulSz hc hz (by decide) (by decide),h⟩
end Law
namespace Law
open L2 DL
set_option maxHeartbeats 1000000
theorem ov_lin {l u p q:Hf} {κ α β:Int} (e1:κ*u.1=α*p.1 + β*q.1) (e2:κ*u.2.1=α*p.2.1 + β*q.2.1) (e3:κ*u.2.2=α*p.2.2 + β*q.2.2):κ*ovV l u=α*ovV l p + β*ovV l q:=by
 unfold ovV
 have t:κ*(l.1*u.1 + l.2.1*u.2.1 - l.2.2*u.2.2)=l.1*(κ*u.1) + l.2.1*(κ*u.2.1) - l.2.2*(κ*u.2.2):=by grind
 rw [t,e1,e2,e3];grind
def Cmb (L:List Spo) (q:Hf):Prop:=∃ a b c:Spo,a∈L/\b∈L/\c∈L/\∃ κ α β γ:Int,0 < κ/\0<=α/\0<=β/\0<=γ/\κ*q.1=α*(strV a).1 + β*(strV b).1 + γ*(strV c).1/\κ*q.2.1=α*(strV a).2.1 + β*(strV b).2.1 + γ*(strV c).2.1/\κ*q.2.2=α*(strV a).2.2 + β*(strV b).2.2 + γ*(strV c).2.2
theorem ov_lin3 {l q a b c:Hf} {κ α β γ:Int} (e1:κ*q.1=α*a.1 + β*b.1 + γ*c.1) (e2:κ*q.2.1=α*a.2.1 + β*b.2.1 + γ*c.2.1) (e3:κ*q.2.2=α*a.2.2 + β*b.2.2 + γ*c.2.2):κ*ovV l q=α*ovV l a + β*ovV l b + γ*ovV l c:=by
 unfold ovV
 have t:κ*(l.1*q.1 + l.2.1*q.2.1 - l.2.2*q.2.2)=l.1*(κ*q.1) + l.2.1*(κ*q.2.1) - l.2.2*(κ*q.2.2):=by grind
 rw [t,e1,e2,e3];grind
def Cv (L:List Spo) (q:Hf):Prop:=∀ l:Hf,(∀ s∈L,0<=ovV l (strV s))->0<=ovV l q
theorem cv_cmb {L:List Spo} {q:Hf} (h:Cmb L q):Cv L q:=by
 obtain ⟨a,b,c,ha,hb,hc,κ,α,β,γ,k0,a0,b0,c0,e1,e2,e3⟩:=h
 intro l hl
 have e:=ov_lin3 (l:=l) e1 e2 e3
 have x1:=Int.mul_nonneg a0 (hl a ha)
 have x2:=Int.mul_nonneg b0 (hl b hb)
 have x3:=Int.mul_nonneg c0 (hl c hc)
 exact nn_cancel k0 (by omega)
theorem change (f:Nat->Int):∀ m,2<=m->0<=f 1->f m<=0->∃ i,1<=i/\i < m/\0<=f i/\f (i + 1)<=0
 | 0,h,_,_=>by omega
 | 1,h,_,_=>by omega
 | m + 2,_,h1,h2=>by
  by_cases h:0<=f (m + 1)
  ·exact ⟨m + 1,by omega,by omega,h,h2⟩
  ·by_cases hm:m=0
   ·subst hm;exact absurd h1 h
   ·obtain ⟨i,i1,i2,i3,i4⟩:=change f (m + 1) (by omega) h1 (by omega)
    exact ⟨i,i1,by omega,i3,i4⟩
theorem cramer (a b c q:Hf):dtV a b c*q.1=dtV b c q*a.1 + dtV c a q*b.1 + dtV a b q*c.1/\dtV a b c*q.2.1=dtV b c q*a.2.1 + dtV c a q*b.2.1 + dtV a b q*c.2.1/\dtV a b c*q.2.2=dtV b c q*a.2.2 + dtV c a q*b.2.2 + dtV a b q*c.2.2:=by
 unfold dtV
 refine ⟨?_,?_,?_⟩ <;> grind
theorem reg_triP {L:List Spo} (R:Reg L):TriP (fun i=>strV (gt L i)) L.length:=fun a b c h1 h2 h3=>by
 have:=tri_of_reg R.reg a b c h1 h2 (by rw [List.length_map];exact h3)
 rw [List.getElem_map,List.getElem_map,List.getElem_map] at this
 dsimp only
 rw [gt_eq (show a < L.length by omega),gt_eq (show b < L.length by omega),gt_eq h3]
 exact this
theorem hold_edge {L:List Spo} {q:Hf} (h:HoldF (L.map strV) q) (h3:3<=L.length) (k:Nat) (hk:k < L.length):0<=dtV (strV (gt L (pvi L.length k))) (strV (gt L k)) q:=by
 have:=h.all (by rw [List.length_map];exact h3) k (by rw [List.length_map];exact hk)
 rw [pv_map,List.getElem_map,pvG_gt hk,<-gt_eq hk] at this
 exact this
theorem cmb_two {p r q:Hf} (hd:dtV p r q=0) (hb:Bf p r) (h1:¬ Bf q p) (h2:¬ Bf r q) (zp:0 < p.2.2) (zr:0 < r.2.2) (zq:0 < q.2.2):∃ κ α β:Int,0 < κ/\0<=α/\0<=β/\κ*q.1=α*p.1 + β*r.1/\κ*q.2.1=α*p.2.1 + β*r.2.1/\κ*q.2.2=α*p.2.2 + β*r.2.2:=by
 unfold Bf at hb h1 h2
 unfold dtV at hd
 rcases hb with hb | ⟨hb,hb'⟩
 ·refine ⟨r.1*p.2.2 - p.1*r.2.2,r.1*q.2.2 - q.1*r.2.2,q.1*p.2.2 - p.1*q.2.2,by omega,by omega,by omega,?_,?_,?_⟩
  ·grind
  ·grind
  ·grind
 ·have x1:q.1*p.2.2 - p.1*q.2.2=0:=by
   have:(q.1*p.2.2 - p.1*q.2.2)*(r.2.1*p.2.2 - p.2.1*r.2.2)=0:=by grind
   rcases Int.mul_eq_zero.mp this with z | z
   ·exact z
   ·omega
  have x2:r.1*q.2.2 - q.1*r.2.2=0:=by
   have:p.2.2*(r.1*q.2.2 - q.1*r.2.2)=0:=by grind
   rcases Int.mul_eq_zero.mp this with z | z
   ·omega
   ·exact z
  refine ⟨r.2.1*p.2.2 - p.2.1*r.2.2,r.2.1*q.2.2 - q.2.1*r.2.2,q.2.1*p.2.2 - p.2.1*q.2.2,by omega,by omega,by omega,?_,?_,?_⟩
  ·grind
  ·grind
  ·grind
theorem cmb_hold {L:List Spo} {q:Hf} (R:Reg L) (zq:0 < q.2.2) (h:HoldF (L.map strV) q):Cmb L q:=by
 match L,R,h with
 | [],_,h=>exact absurd h.ne (by simp)
 | [p],R,h=>
  obtain ⟨_,h1,h2⟩:=h.few (by simp)
  have h1:¬ Bf q (strV p):=bf_false.mp h1
  have h2:¬ Bf (strV p) q:=bf_false.mp h2
  have zp:=z_pos (R.ok p (by simp))
  unfold Bf at h1 h2
  refine ⟨p,p,p,by simp,by simp,by simp,(strV p).2.2,q.2.2,0,0,zp,by omega,by omega,by omega,?_,?_,?_⟩
  ·have:q.1*(strV p).2.2=(strV p).1*q.2.2:=by omega
   grind
  ·have:q.2.1*(strV p).2.2=(strV p).2.1*q.2.2:=by omega
   grind
  ·grind
 | [p,r],R,h=>
  obtain ⟨h0,h1,h2⟩:=h.few (by simp)
  have h0:dtV (strV p) (strV r) q=0:=h0
  have h1:¬ Bf q (strV p):=bf_false.mp h1
  have h2:¬ Bf (strV r) q:=bf_false.mp h2
  have hb:Bf (strV p) (strV r):=bf_iff.mp (R.reg.fst 1 (by simp) (by decide))
  obtain ⟨κ,α,β,k0,a0,b0,e1,e2,e3⟩:=cmb_two h0 hb h1 h2 (z_pos (R.ok p (by simp))) (z_pos (R.ok r (by simp))) zq
  exact ⟨p,r,p,by simp,by simp,by simp,κ,α,β,0,k0,a0,b0,by omega,by rw [e1];omega,by rw [e2];omega,by rw [e3];omega⟩
 | p::r::s::t,R,h=>
  have h3:3<=(p::r::s::t).length:=by simp
  generalize p::r::s::t=L at R h h3
  have hT:=reg_triP R
  have f1:=hold_edge h h3 1 (by omega)
  have f2:=hold_edge h h3 0 (by omega)
  have e1:pvi L.length 1=0:=rfl
  have e2:pvi L.length 0=L.length - 1:=rfl
  rw [e1] at f1
  rw [e2] at f2
  obtain ⟨i,i1,i2,i3,i4⟩:=change (fun i=>dtV (strV (gt L 0)) (strV (gt L i)) q) (L.length - 1) (by omega) f1 (by
   have:dtV (strV (gt L 0)) (strV (gt L (L.length - 1))) q=-dtV (strV (gt L (L.length - 1))) (strV (gt L 0)) q:=by unfold dtV;grind
   show dtV (strV (gt L 0)) (strV (gt L (L.length - 1))) q<=0
   omega)
  have f3:=hold_edge h h3 (i + 1) (by omega)
  have e3:pvi L.length (i + 1)=i:=by unfold pvi;rw [if_neg (by omega)];rfl
  rw [e3] at f3
  have i3:0<=dtV (strV (gt L 0)) (strV (gt L i)) q:=i3
  have i4:dtV (strV (gt L 0)) (strV (gt L (i + 1))) q<=0:=i4
  have D:=hT 0 i (i + 1) (by omega) (by omega) (by omega)
  obtain ⟨c1,c2,c3⟩:=cramer (strV (gt L 0)) (strV (gt L i)) (strV (gt L (i + 1))) q
  have i5:0<=dtV (strV (gt L (i + 1))) (strV (gt L 0)) q:=by
   have:dtV (strV (gt L (i + 1))) (strV (gt L 0)) q=-dtV (strV (gt L 0)) (strV (gt L (i + 1))) q:=by unfold dtV;grind
   omega
  have mem:∀ j,j < L.length->gt L j∈L:=fun j hj=>by rw [gt_eq hj];exact List.getElem_mem _
  exact ⟨gt L 0,gt L i,gt L (i + 1),mem _ (by omega),mem _ (by omega),mem _ (by omega),_,_,_,_,D,f3,i5,i3,c1,c2,c3⟩
def lnH (a b:Hf):Hf:=(a.2.1*b.2.2 - b.2.1*a.2.2,b.1*a.2.2 - a.1*b.2.2,b.1*a.2.1 - a.1*b.2.1)
theorem ov_ln (a b q:Hf):ovV (lnH a b) q=dtV a b q:=by unfold ovV lnH dtV;grind
theorem hold_cv {L:List Spo} {q:Hf} (R:Reg L) (zq:0 < q.2.2) (h:Cv L q):HoldF (L.map strV) q:=by
 match L,R,h with
 | [],_,h=>
  have:=h (0,0,1) (fun s hs=>by cases hs)
  unfold ovV at this
  dsimp only at this
  omega
 | [p],R,h=>
  have zp:=z_pos (R.ok p (by simp))
  have all:∀ l:Hf,0<=ovV l (strV p)->0<=ovV l q:=fun l hl=>h l (fun s hs=>by rw [List.mem_singleton.mp hs];exact hl)
  have a1:=all ((strV p).2.2,0,(strV p).1) (by unfold ovV;grind)
  have a2:=all (-(strV p).2.2,0,-(strV p).1) (by unfold ovV;grind)
  have a3:=all (0,(strV p).2.2,(strV p).2.1) (by unfold ovV;grind)
  have a4:=all (0,-(strV p).2.2,-(strV p).2.1) (by unfold ovV;grind)
  unfold ovV at a1 a2 a3 a4
  dsimp only at a1 a2 a3 a4
  rw [Int.zero_mul] at a1 a2 a3 a4
  simp only [Int.neg_mul] at a1 a2 a3 a4
  rw [Int.mul_comm (strV p).2.2 q.1] at a1 a2
  rw [Int.mul_comm (strV p).2.2 q.2.1] at a3 a4
  refine ⟨by simp,fun _=>⟨dt_aab _ _,bf_false.mpr (fun z=>?_),bf_false.mpr (fun z=>?_)⟩,fun z=>by simp at z⟩
  ·have z:Bf q (strV p):=z
   unfold Bf at z
   omega
  ·have z:Bf (strV p) q:=z
   unfold Bf at z
   omega
 | [p,r],R,h=>
  have zp:=z_pos (R.ok p (by simp))
  have zr:=z_pos (R.ok r (by simp))
  have hb:Bf (strV p) (strV r):=bf_iff.mp (R.reg.fst 1 (by simp) (by decide))
  have all:∀ l:Hf,0<=ovV l (strV p)->0<=ovV l (strV r)->0<=ovV l q:=fun l hl hl'=>h l (fun s hs=>by
   rcases List.mem_cons.mp hs with e | e
   ·rw [e];exact hl
   ·rw [List.mem_singleton.mp e];exact hl')
  refine ⟨by simp,fun _=>?_,fun z=>by simp at z⟩
  show dtV (strV p) (strV r) q=0/\bfV q (strV p)=false/\bfV (strV r) q=false
  generalize strV p=u at *
  generalize strV r=v at *
  have d1:=all (lnH u v) (by rw [ov_ln,dt_aba];exact Int.le_refl _) (by rw [ov_ln,dt_abb];exact Int.le_refl _)
  have d2:=all (lnH v u) (by rw [ov_ln,dt_abb];exact Int.le_refl _) (by rw [ov_ln,dt_aba];exact Int.le_refl _)
  rw [ov_ln] at d1 d2
  have d3:dtV v u q=-dtV u v q:=by unfold dtV;grind
  have hd:dtV u v q=0:=by omega
  have hdd:=hd
  unfold dtV at hdd
  have ends:¬ Bf q u/\¬ Bf v q:=by
   unfold Bf at hb ⊢
   rcases hb with hb | ⟨hb,hb'⟩
   ·have a1:=all (u.2.2,0,u.1) (by unfold ovV;grind) (by unfold ovV;dsimp only;rw [Int.zero_mul,Int.mul_comm u.2.2];omega)
    have a2:=all (-v.2.2,0,-v.1) (by unfold ovV;dsimp only;rw [Int.zero_mul,Int.neg_mul,Int.neg_mul,Int.mul_comm v.2.2];omega) (by unfold ovV;grind)
    unfold ovV at a1 a2
    dsimp only at a1 a2
    rw [Int.zero_mul] at a1 a2
    simp only [Int.neg_mul] at a1 a2
    rw [Int.mul_comm u.2.2] at a1
    rw [Int.mul_comm v.2.2] at a2
    have k1:q.1*u.2.2=u.1*q.2.2->q.2.1*u.2.2=u.2.1*q.2.2:=fun e=>by
     have:(q.2.1*u.2.2 - u.2.1*q.2.2)*(v.1*u.2.2 - u.1*v.2.2)=0:=by grind
     rcases Int.mul_eq_zero.mp this with z | z
     ·omega
     ·omega
    have k2:v.1*q.2.2=q.1*v.2.2->v.2.1*q.2.2=q.2.1*v.2.2:=fun e=>by
     have:(v.2.1*q.2.2 - q.2.1*v.2.2)*(v.1*u.2.2 - u.1*v.2.2)=0:=by grind
     rcases Int.mul_eq_zero.mp this with z | z
     ·omega
     ·omega
    constructor
    ·rintro (z | ⟨z,z'⟩)
     ·omega
     ·have:=k1 z;omega
    ·rintro (z | ⟨z,z'⟩)
     ·omega
     ·have:=k2 z;omega
   ·have x1:q.1*u.2.2 - u.1*q.2.2=0:=by
     have:(q.1*u.2.2 - u.1*q.2.2)*(v.2.1*u.2.2 - u.2.1*v.2.2)=0:=by grind
     rcases Int.mul_eq_zero.mp this with z | z
     ·exact z
     ·omega
    have x2:v.1*q.2.2 - q.1*v.2.2=0:=by
     have:u.2.2*(v.1*q.2.2 - q.1*v.2.2)=0:=by grind
     rcases Int.mul_eq_zero.mp this with z | z
     ·omega
     ·exact z
    have a1:=all (0,u.2.2,u.2.1) (by unfold ovV;grind) (by unfold ovV;dsimp only;rw [Int.zero_mul,Int.mul_comm u.2.2];omega)
    have a2:=all (0,-v.2.2,-v.2.1) (by unfold ovV;dsimp only;rw [Int.zero_mul,Int.neg_mul,Int.neg_mul,Int.mul_comm v.2.2];omega) (by unfold ovV;grind)
    unfold ovV at a1 a2
    dsimp only at a1 a2
    rw [Int.zero_mul] at a1 a2
    simp only [Int.neg_mul] at a1 a2
    rw [Int.mul_comm u.2.2] at a1
    rw [Int.mul_comm v.2.2] at a2
    constructor
    ·rintro (z | ⟨z,z'⟩) <;> omega
    ·rintro (z | ⟨z,z'⟩) <;> omega
  exact ⟨hd,bf_false.mpr ends.1,bf_false.mpr ends.2⟩
 | p::r::s::t,R,h=>
  have h3:3<=(p::r::s::t).length:=by simp
  generalize p::r::s::t=L at R h h3
  have hT:=reg_triP R
  refine ⟨by rw [List.length_map];omega,fun z=>by rw [List.length_map] at z;omega,fun _ k hk=>?_⟩
  rw [List.length_map] at hk
  rw [pv_map,List.getElem_map,pvG_gt hk,<-gt_eq hk,<-ov_ln]
  refine h _ fun s hs=>?_
  obtain ⟨j,hj,rfl⟩:=List.getElem_of_mem hs
  rw [ov_ln,<-gt_eq hj]
  exact edge_nn (P:=fun i=>strV (gt L i)) hT hk hj
theorem hold_iff {L:List Spo} {q:Hf} (R:Reg L) (zq:0 < q.2.2):HoldF (L.map strV) q ↔ Cv L q:=⟨fun h=>cv_cmb (cmb_hold R zq h),hold_cv R zq⟩
end Law
namespace Law
open L2 DL
set_option maxHeartbeats 1000000
def GdL (Q:Hf->Prop) (l:Hf):Prop:=∀ x,Q x->0<=ovV l x
def OnQ (Q:Hf->Prop) (l:Hf) (s:Spo):Prop:=Q l/\(l.1 ≠ 0\/l.2.1 ≠ 0)/\exV l s=0
def LkQ (Q:Hf->Prop) (p q:Spo):Prop:=∃ l:Hf,OnQ Q l p/\OnQ Q l q
def HOkQ (Q:Hf->Prop) (h:Hf):Prop:=Q h/\(h.1 ≠ 0\/h.2.1 ≠ 0)
def AdjQ (Q:Hf->Prop) (A:List Spo):Prop:=∀ k (h:k + 1 < A.length),LkQ Q A[k] A[k + 1]
theorem cr_onQ {Q:Hf->Prop} {h l:Hf} {p q:Spo} (op:SpOk p) (oq:SpOk q) (ho:opV h p q) (hp:OnQ Q l p) (hq:OnQ Q l q):OnQ Q l (crV h p q):=by
 refine ⟨hp.1,hp.2.1,?_⟩
 obtain ⟨_,⟨κ,α,β,k0,a0,b0,e1,e2,e3⟩,_⟩:=cr_mix op oq ho
 have ep:=hp.2.2
 have eq:=hq.2.2
 rw [<-ov_ex] at ep eq ⊢
 have t2:=ov_lin (l:=l) e1 e2 e3
 rw [ep,eq,Int.mul_zero,Int.mul_zero] at t2
 rcases Int.mul_eq_zero.mp (show κ*ovV l (strV (crV h p q))=0 by omega) with z | z
 ·omega
 ·exact z
theorem adj_snocQ {Q:Hf->Prop} {A:List Spo} {x:Spo} (h:AdjQ Q A) (hl:∀ y,A.getLast?=some y->LkQ Q y x):AdjQ Q (A++[x]):=by
 intro k hk
 rw [List.length_append,List.length_singleton] at hk
 by_cases l:k + 1 < A.length
 ·rw [List.getElem_append_left (by omega),List.getElem_append_left l]
  exact h k l
 ·have e:k + 1=A.length:=by omega
  have e2:(A++[x])[k + 1]'(by simp;omega)=x:=by
   rw [List.getElem_append_right (by omega)];simp
  rw [e2,List.getElem_append_left (by omega)]
  refine hl _ ?_
  rw [last_ix (by omega)]
  congr 2;omega
structure LnkQ (Q:Hf->Prop) (h:Hf) (q0 qm:Spo) (A:List Spo):Prop where
 adj:AdjQ Q A
 inn:0<=exV h qm->A.getLast?=some qm
 out:exV h qm < 0->∀ x,A.getLast?=some x->exV h x=0
 hd:exV h q0 < 0->∀ y,A.head?=some y->exV h y=0
theorem lk_hQ {Q:Hf->Prop} {h:Hf} (hh:HOkQ Q h) {p q:Spo} (hp:exV h p=0) (hq:exV h q=0):LkQ Q p q:=⟨h,⟨hh.1,hh.2,hp⟩,hh.1,hh.2,hq⟩
theorem lnk_stepQ {Q:Hf->Prop} {h:Hf} (hh:HOkQ Q h) {q0 p q:Spo} {A:List Spo} (op:SpOk p) (oq:SpOk q) (hl:LkQ Q p q) (H:LnkQ Q h q0 p A) :
  LnkQ Q h q0 q (A++((if opV h p q then [crV h p q] else [])++(if kpV h q then [q] else []))):=by
 by_cases ho:opV h p q
 ·obtain ⟨_,_,fs⟩:=cr_mix op oq ho
  have o:=op_iff.mp ho
  obtain ⟨l,lp,lq⟩:=hl
  have ls:=cr_onQ op oq ho lp lq
  have A1:AdjQ Q (A++[crV h p q]):=adj_snocQ H.adj fun y hy=>by
   rcases o with ⟨o1,o2⟩ | ⟨o1,o2⟩
   ·rw [H.inn (by omega)] at hy
    cases hy
    exact ⟨l,lp,ls⟩
   ·exact lk_hQ hh (H.out o1 y hy) fs
  have H1:exV h q0 < 0->∀ y,(A++[crV h p q]).head?=some y->exV h y=0:=fun h0 y hy=>by
   rcases head_snoc hy with e | ⟨_,e⟩
   ·exact H.hd h0 y e
   ·rw [e];exact fs
  rw [if_pos ho]
  by_cases hk:kpV h q
  ·rw [if_pos hk,<-List.append_assoc]
   have k:=kp_iff.mp hk
   refine ⟨adj_snocQ A1 fun y hy=>?_,fun _=>getLast_snoc,fun z=>by omega,fun h0 y hy=>?_⟩
   ·rw [getLast_snoc] at hy
    cases hy
    exact ⟨l,ls,lq⟩
   ·rcases head_snoc hy with e | ⟨e,_⟩
    ·exact H1 h0 y e
    ·simp at e
  ·rw [if_neg hk,List.append_nil]
   have k:¬ 0<=exV h q:=fun z=>hk (kp_iff.mpr z)
   exact ⟨A1,fun z=>absurd z k,fun _ x hx=>by rw [getLast_snoc] at hx;cases hx;exact fs,H1⟩
 ·rw [if_neg ho,List.nil_append]
  have o:¬ ((0 < exV h p/\exV h q < 0)\/(exV h p < 0/\0 < exV h q)):=fun z=>ho (op_iff.mpr z)
  by_cases hk:kpV h q
  ·rw [if_pos hk]
   have k:=kp_iff.mp hk
   refine ⟨adj_snocQ H.adj fun y hy=>?_,fun _=>getLast_snoc,fun z=>by omega,fun h0 y hy=>?_⟩
   ·by_cases hp:0<=exV h p
    ·rw [H.inn hp] at hy
     cases hy
     exact hl
    ·exact lk_hQ hh (H.out (by omega) y hy) (by omega)
   ·rcases head_snoc hy with e | ⟨e,rfl⟩
    ·exact H.hd h0 y e
    ·by_cases hp:0<=exV h p
     ·have:=H.inn hp
      rw [e] at this;cases this
     ·omega
  ·rw [if_neg hk,List.append_nil]
   have k:¬ 0<=exV h q:=fun z=>hk (kp_iff.mpr z)
   refine ⟨H.adj,fun z=>absurd z k,fun _ x hx=>?_,H.hd⟩
   by_cases hp:0<=exV h p
   ·rw [H.inn hp] at hx
    cases hx
    omega
   ·exact H.out (by omega) x hx
theorem lnk_KIQ {Q:Hf->Prop} {h:Hf} (hh:HOkQ Q h) {G:Nat->Spo} {n:Nat} (hn:0 < n) (ok:∀ i,i < n->SpOk (G i)) (hl:∀ k,k < n->LkQ Q (G (pvi n k)) (G k)) :
  ∀ m,m<=n->LnkQ Q h (G (n - 1)) (G (pvi n m)) ((if 0<=exV h (G (n - 1)) then [G (n - 1)] else [])++(KI h G n m).map (·.2.2))
 | 0,_=>by
  have e:pvi n 0=n - 1:=rfl
  rw [e]
  show LnkQ Q h _ _ (_++[])
  rw [List.append_nil]
  by_cases z:0<=exV h (G (n - 1))
  ·rw [if_pos z]
   exact ⟨fun k hk=>by simp at hk,fun _=>rfl,fun z'=>by omega,fun z'=>by omega⟩
  ·rw [if_neg z]
   exact ⟨fun k hk=>by simp at hk,fun z'=>absurd z' z,fun _ x hx=>(nomatch hx),fun _ y hy=>(nomatch hy)⟩
 | m + 1,hm=>by
  have:=lnk_stepQ hh (ok _ (pvi_lt (show m < n by omega))) (ok m (by omega)) (hl m (by omega)) (lnk_KIQ hh hn ok hl m (by omega))
  have e:pvi n (m + 1)=m:=by unfold pvi;rw [if_neg (by omega)];rfl
  rw [e,KI_succ,List.map_append,<-List.append_assoc]
  have e2:(itB h G n m).map (·.2.2)=(if opV h (G (pvi n m)) (G m) then [crV h (G (pvi n m)) (G m)] else [])++(if kpV h (G m) then [G m] else []):=by
   unfold itB
   split <;> split <;> rfl
  rw [e2]
  exact this
theorem cyc_ofQ {Q:Hf->Prop} {h:Hf} (hh:HOkQ Q h) {q0:Spo} {K:List Spo} (H:LnkQ Q h q0 q0 ((if 0<=exV h q0 then [q0] else [])++K)) (k:Nat) (hk:k < K.length):LkQ Q (pvG K k hk) K[k]:=by
 by_cases z:0<=exV h q0
 ·rw [if_pos z] at H
  have a:=H.adj k (by simp;omega)
  have hlast:=H.inn z
  unfold pvG
  split <;> rename_i e
  ·subst e
   have:K[K.length - 1]=q0:=by
    rw [last_ix (by simp)] at hlast
    have:=Option.some.inj hlast
    rw [<-this]
    simp only [List.singleton_append,List.length_cons,Nat.add_sub_cancel]
    rw [List.getElem_cons,dif_neg (by omega)]
   rw [this]
   simpa using a
  ·have e1:([q0]++K)[k]'(by simp;omega)=K[k - 1]:=by
    simp only [List.singleton_append]
    rw [List.getElem_cons,dif_neg e]
   rw [e1] at a
   simpa using a
 ·rw [if_neg z,List.nil_append] at H
  unfold pvG
  split <;> rename_i e
  ·subst e
   have hl:=H.out (by omega) K[K.length - 1] (last_ix hk)
   have hh0:=H.hd (by omega) K[0] (by rw [List.head?_eq_getElem?,List.getElem?_eq_getElem hk])
   exact lk_hQ hh hl hh0
  ·have a:=H.adj (k - 1) (by omega)
   have e1:k - 1 + 1=k:=by omega
   simp only [e1] at a
   exact a
theorem cramer_ov (l u v w q:Hf):ovV l q*dtV u v w=dtV v w q*ovV l u + dtV w u q*ovV l v + dtV u v q*ovV l w:=by
 unfold ovV dtV;grind
theorem few_K {h:Hf} {G:Nat->Spo} {n:Nat} (hn:3<=n) {i:Nat} (hi:i < n) (hf:0 < exV h (G i)):3<=(KI h G n n).length:=by
 obtain ⟨j,hj,ej,jne,jne2⟩:∃ j,j < n/\pvi n j=i/\j ≠ i/\j ≠ pvi n i:=by
  by_cases e:i=n - 1
  ·refine ⟨0,by omega,?_,by omega,?_⟩
   ·unfold pvi;rw [if_pos rfl];omega
   ·unfold pvi;rw [if_neg (by omega)];omega
  ·refine ⟨i + 1,by omega,?_,by omega,?_⟩
   ·unfold pvi;rw [if_neg (by omega)];omega
   ·unfold pvi;split <;> omega
 have m1:((i,false,G i):Itm)∈KI h G n n:=mem_KI.mpr ⟨hi,.inr ⟨rfl,kp_iff.mpr (show 0<=exV h (G i) by omega),rfl⟩⟩
 obtain ⟨x,mx,ex⟩:∃ x:Itm,x∈KI h G n n/\((x.1=i/\x.2.1=true)\/(x.1=pvi n i/\x.2.1=false)):=by
  by_cases z:0<=exV h (G (pvi n i))
  ·exact ⟨(pvi n i,false,G (pvi n i)),mem_KI.mpr ⟨pvi_lt hi,.inr ⟨rfl,kp_iff.mpr z,rfl⟩⟩,.inr ⟨rfl,rfl⟩⟩
  ·exact ⟨(i,true,crV h (G (pvi n i)) (G i)),mem_KI.mpr ⟨hi,.inl ⟨rfl,op_iff.mpr (by dsimp only;omega),rfl⟩⟩,.inl ⟨rfl,rfl⟩⟩
 obtain ⟨y,my,ey⟩:∃ y:Itm,y∈KI h G n n/\y.1=j:=by
  by_cases z:0<=exV h (G j)
  ·exact ⟨(j,false,G j),mem_KI.mpr ⟨hj,.inr ⟨rfl,kp_iff.mpr z,rfl⟩⟩,rfl⟩
  ·exact ⟨(j,true,crV h (G (pvi n j)) (G j)),mem_KI.mpr ⟨hj,.inl ⟨rfl,op_iff.mpr (by dsimp only;rw [ej];omega),rfl⟩⟩,rfl⟩
 have pn:=(pvi_ne hn hi).1
 have nd:[((i,false,G i):Itm),x,y].Nodup:=by
  simp only [List.nodup_cons,List.mem_cons,List.not_mem_nil,or_false,not_or,not_false_eq_true,and_true,List.nodup_nil]
  refine ⟨⟨fun e=>?_,fun e=>?_⟩,fun e=>?_⟩
  ·have e1:x.1=i:=by rw [<-e]
   have e2:x.2.1=false:=by rw [<-e]
   rcases ex with ⟨_,z⟩ | ⟨z,_⟩
   ·rw [z] at e2;cases e2
   ·omega
  ·have e1:y.1=i:=by rw [<-e]
   omega
  ·have e1:x.1=y.1:=by rw [e]
   rcases ex with ⟨z,_⟩ | ⟨z,_⟩ <;> omega
 have:=List.Nodup.length_le_of_subset nd (l₂:=KI h G n n) (fun z hz=>by
  simp only [List.mem_cons,List.not_mem_nil,or_false] at hz
  rcases hz with rfl | rfl | rfl
  ·exact m1
  ·exact mx
  ·exact my)
 exact this
theorem fl_len {h:Hf} {L:List Spo} (hh:HOk h) (R:Reg L):(clV h L).length=(clF h L).length:=(reg_fl (cl_ok hh R)).2.2
theorem two_cross {h l:Hf} {p r:Spo} {A B:Int} (op:SpOk p) (or':SpOk r) (ho:opV h p r) (hc:0<=ovV l (strV (crV h p r))) (hp:0<=ovV l (strV p)) (A0:0<=A) (B0:0<=B) (fq:0<=A*ovV h (strV p) + B*ovV h (strV r)) (s:0 < exV h p\/False):0<=A*ovV l (strV p) + B*ovV l (strV r):=by
 have s:=s.resolve_right id
 have o:=op_iff.mp ho
 have r0:exV h r < 0:=by omega
 obtain ⟨_,κ,c,k0,c0,e1,e2,e3⟩:=cr_flat op or' (show exV h p ≠ 0 by omega) (show exV h r ≠ 0 by omega)
 have x1:abV (exV h r)=-exV h r:=by unfold abV;rw [if_pos r0]
 have x2:abV (exV h p)=exV h p:=by unfold abV;rw [if_neg (by omega)]
 rw [x1,x2] at e1 e2 e3
 rw [ov_ex,ov_ex] at fq
 have t:=ov_lin (l:=l) (u:=strV (crV h p r)) (p:=strV p) (q:=strV r) (κ:=κ) (α:=c*-exV h r) (β:=c*exV h p) (by rw [e1];grind) (by rw [e2];grind) (by rw [e3];grind)
 generalize ovV l (strV (crV h p r))=S at t hc
 generalize ovV l (strV p)=P at *
 generalize ovV l (strV r)=Rr at *
 generalize exV h p=F at *
 generalize exV h r=G at *
 refine nn_cancel (κ:=c*F) (Int.mul_pos c0 s) ?_
 have k:c*F*(A*P + B*Rr)=B*(κ*S) + c*(P*(A*F + B*G)):=by rw [t];grind
 rw [k]
 have a1:=Int.mul_nonneg B0 (Int.mul_nonneg (Int.le_of_lt k0) hc)
 have a2:=Int.mul_nonneg (Int.le_of_lt c0) (Int.mul_nonneg hp fq)
 omega
theorem in_cl_mpr {h:Hf} {L:List Spo} (hh:HOk h) (R:Reg L) {q:Hf} (zq:0 < q.2.2) (hL:HoldF (L.map strV) q) (hf:0<=ovV h q):HoldF ((clV h L).map strV) q:=by
 have C:=cl_reg hh R
 obtain ⟨a,b,c,ha,hb,hc,κ,α,β,γ,k0,a0,b0,c0,e1,e2,e3⟩:=cmb_hold R zq hL
 have lin:=fun l=>ov_lin3 (l:=l) e1 e2 e3
 by_cases n3:3<=L.length
 ·have ok:∀ i,i < L.length->SpOk (gt L i):=fun i hi=>by rw [gt_eq hi];exact R.ok _ (List.getElem_mem _)
  have hT:=reg_triP R
  have eK:clF h L=(KI h (gt L) L.length L.length).map (·.2.2):=by
   unfold clF
   rw [prV_eq]
   exact fold_KI n3 ok hT _ (Nat.le_refl _)
  by_cases k3:3<=(clV h L).length
  ·let Q:Hf->Prop:=fun x=>HoldF (L.map strV) x/\0<=ovV h x
   have hQh:HOkQ (GdL Q) h:=⟨fun x hx=>hx.2,hh.2⟩
   have lkQ:∀ k,k < L.length->LkQ (GdL Q) (gt L (pvi L.length k)) (gt L k):=fun k hk=>by
    refine ⟨lnH (strV (gt L (pvi L.length k))) (strV (gt L k)),⟨fun x hx=>?_,?_,?_⟩,⟨fun x hx=>?_,?_,?_⟩⟩
    ·rw [ov_ln];exact hold_edge hx.1 n3 k hk
    ·by_cases z:(lnH (strV (gt L (pvi L.length k))) (strV (gt L k))).1=0/\(lnH (strV (gt L (pvi L.length k))) (strV (gt L k))).2.1=0
     ·exfalso
      obtain ⟨m,hm,m1,m2⟩:∃ m,m < L.length/\m ≠ k/\m ≠ pvi L.length k:=⟨pvi L.length (pvi L.length k),pvi_lt (pvi_lt hk),(pvi_ne n3 hk).2.1,(pvi_ne n3 hk).2.2⟩
      have p1:=edge_pos (P:=fun i=>strV (gt L i)) hT hk hm m1 m2
      have p2:ovV (lnH (strV (gt L (pvi L.length k))) (strV (gt L k))) (strV (gt L k))=0:=by rw [ov_ln,dt_abb]
      have p1:0 < dtV (strV (gt L (pvi L.length k))) (strV (gt L k)) (strV (gt L m)):=p1
      rw [<-ov_ln] at p1
      have z1:=z_pos (ok k hk)
      unfold ovV at p1 p2
      rw [z.1,z.2,Int.zero_mul,Int.zero_mul] at p1 p2
      have z2:(lnH (strV (gt L (pvi L.length k))) (strV (gt L k))).2.2=0:=by
       rcases Int.mul_eq_zero.mp (show (lnH (strV (gt L (pvi L.length k))) (strV (gt L k))).2.2*(strV (gt L k)).2.2=0 by omega) with y | y
       ·exact y
       ·omega
      rw [z2,Int.zero_mul] at p1
      omega
     ·by_cases z1:(lnH (strV (gt L (pvi L.length k))) (strV (gt L k))).1=0
      ·exact .inr fun z2=>z ⟨z1,z2⟩
      ·exact .inl z1
    ·rw [<-ov_ex,ov_ln,dt_aba]
    ·rw [ov_ln];exact hold_edge hx.1 n3 k hk
    ·by_cases z:(lnH (strV (gt L (pvi L.length k))) (strV (gt L k))).1=0/\(lnH (strV (gt L (pvi L.length k))) (strV (gt L k))).2.1=0
     ·exfalso
      obtain ⟨m,hm,m1,m2⟩:∃ m,m < L.length/\m ≠ k/\m ≠ pvi L.length k:=⟨pvi L.length (pvi L.length k),pvi_lt (pvi_lt hk),(pvi_ne n3 hk).2.1,(pvi_ne n3 hk).2.2⟩
      have p1:=edge_pos (P:=fun i=>strV (gt L i)) hT hk hm m1 m2
      have p2:ovV (lnH (strV (gt L (pvi L.length k))) (strV (gt L k))) (strV (gt L k))=0:=by rw [ov_ln,dt_abb]
      have p1:0 < dtV (strV (gt L (pvi L.length k))) (strV (gt L k)) (strV (gt L m)):=p1
      rw [<-ov_ln] at p1
      have z1:=z_pos (ok k hk)
      unfold ovV at p1 p2
      rw [z.1,z.2,Int.zero_mul,Int.zero_mul] at p1 p2
      have z2:(lnH (strV (gt L (pvi L.length k))) (strV (gt L k))).2.2=0:=by
       rcases Int.mul_eq_zero.mp (show (lnH (strV (gt L (pvi L.length k))) (strV (gt L k))).2.2*(strV (gt L k)).2.2=0 by omega) with y | y
       ·exact y
       ·omega
      rw [z2,Int.zero_mul] at p1
      omega
     ·by_cases z1:(lnH (strV (gt L (pvi L.length k))) (strV (gt L k))).1=0
      ·exact .inr fun z2=>z ⟨z1,z2⟩
      ·exact .inl z1
    ·rw [<-ov_ex,ov_ln,dt_abb]
   have H:=lnk_KIQ hQh (show 0 < L.length by omega) ok lkQ L.length (Nat.le_refl _)
   have e2:pvi L.length L.length=L.length - 1:=by unfold pvi;rw [if_neg (by omega)]
   rw [e2,<-eK] at H
   have cyc:=cyc_ofQ hQh H
   have inQ:∀ u∈clV h L,Q (strV u):=fun u hu=>⟨(C.hold u hu).1,by rw [ov_ex];exact (C.hold u hu).2⟩
   have T:=tri_of_reg C.reg.reg
   refine ⟨by rw [List.length_map];omega,fun z=>by rw [List.length_map] at z;omega,fun _ k hk=>?_⟩
   rw [List.length_map] at hk
   rw [pv_map,List.getElem_map]
   -- the edge is one of the edges before the turn to the least corner
   have hlk:LkQ (GdL Q) (pvG (clV h L) k hk) (clV h L)[k]:=by
    have hm0:0 < (clF h L).length:=by rw [<-fl_len hh R];omega
    obtain ⟨hm,_⟩:=mnF_ok (cl_ok hh R).ok hm0 (clF h L).length (Nat.le_refl _)
    have hk2:k < (clF h L).length:=by rw [<-fl_len hh R];exact hk
    have g1:(clV h L)[k]=(clF h L)[rix (clF h L).length (mnF (clF h L) (clF h L).length) k]'(rix_lt hm hk2):=rot_get hm hk2
    have g2:pvG (clV h L) k hk=pvG (clF h L) (rix (clF h L).length (mnF (clF h L) (clF h L).length) k) (rix_lt hm hk2):=rot_pv hm hk2
    rw [g1,g2]
    exact cyc _ _
   obtain ⟨l,⟨gl,nl,lu⟩,⟨_,_,lv⟩⟩:=hlk
   have hpv:=pvG_gt hk
   have hgk:=gt_eq hk
   obtain ⟨m,hm,m1,m2⟩:∃ m,m < (clV h L).length/\m ≠ k/\m ≠ pvi (clV h L).length k:=⟨pvi (clV h L).length (pvi (clV h L).length k),pvi_lt (pvi_lt hk),(pvi_ne k3 hk).2.1,(pvi_ne k3 hk).2.2⟩
   have pos:0 < dtV (strV (pvG (clV h L) k hk)) (strV (clV h L)[k]) (strV (gt (clV h L) m)):=by
    rw [hpv,<-hgk]
    exact edge_pos (P:=fun i=>strV (gt (clV h L) i)) (reg_triP C.reg) hk hm m1 m2
   have gw:0<=ovV l (strV (gt (clV h L) m)):=gl _ (inQ _ (by rw [gt_eq hm];exact List.getElem_mem _))
   have gq:0<=ovV l q:=gl _ ⟨hL,hf⟩
   rw [<-ov_ex] at lu lv
   have cr:=cramer_ov l (strV (pvG (clV h L) k hk)) (strV (clV h L)[k]) (strV (gt (clV h L) m)) q
   rw [lu,lv,Int.mul_zero,Int.mul_zero] at cr
   have gw':0 < ovV l (strV (gt (clV h L) m)):=by
    rcases Int.lt_or_le 0 (ovV l (strV (gt (clV h L) m))) with z | z
    ·exact z
    ·have z0:ovV l (strV (gt (clV h L) m))=0:=by omega
     unfold ovV at lu lv z0
     have:=line3 nl lu lv z0
     omega
   have x:=Int.mul_nonneg gq (Int.le_of_lt pos)
   refine nn_cancel gw' ?_
   rw [Int.mul_comm]
   omega
  ·-- two corners at most are left: no corner lies within the half
   have no:∀ s∈L,exV h s<=0:=fun s hs=>by
    rcases Int.lt_or_le 0 (exV h s) with z | z
    ·exfalso
     obtain ⟨i,hi,rfl⟩:=List.getElem_of_mem hs
     rw [<-gt_eq hi] at z
     have:=few_K n3 hi z
     have e:=fl_len hh R
     rw [eK,List.length_map] at e
     omega
    ·exact z
   refine hold_cv C.reg zq fun l hl=>?_
   have fl:=lin h
   have f1:∀ s∈L,∀ w:Int,0<=w->w*ovV h (strV s)<=0/\(w*ovV h (strV s)=0->0<=w*ovV l (strV s)):=fun s hs w w0=>by
    have ns:=no s hs
    rw [<-ov_ex] at ns
    refine ⟨Int.mul_nonpos_of_nonneg_of_nonpos w0 ns,fun e=>?_⟩
    rcases Int.mul_eq_zero.mp e with z | z
    ·rw [z,Int.zero_mul];exact Int.le_refl _
    ·exact Int.mul_nonneg w0 (hl s (C.kept s hs (by rw [<-ov_ex];omega)))
   have q0:=Int.mul_nonneg (Int.le_of_lt k0) hf
   have x1:=f1 a ha α a0
   have x2:=f1 b hb β b0
   have x3:=f1 c hc γ c0
   have y1:=x1.2 (by omega)
   have y2:=x2.2 (by omega)
   have y3:=x3.2 (by omega)
   have ll:=lin l
   exact nn_cancel k0 (by omega)
 ·refine hold_cv C.reg zq fun l hl=>?_
  match L,R,C,n3,hl,ha,hb,hc with
  | [],_,_,_,_,ha,_,_=>cases ha
  | [p],R,C,_,hl,ha,hb,hc=>
   rw [List.mem_singleton.mp ha,List.mem_singleton.mp hb,List.mem_singleton.mp hc] at lin
   have z3:=lin (0,0,-1)
   have zp:=z_pos (R.ok p (by simp))
   have hz:0 < α + β + γ:=by
    unfold ovV at z3
    dsimp only at z3
    have:=Int.mul_pos k0 zq
    rcases Int.lt_or_le 0 (α + β + γ) with z | z
    ·exact z
    ·have t:κ*q.2.2=(α + β + γ)*(strV p).2.2:=by grind
     have:=Int.mul_nonpos_of_nonpos_of_nonneg z (Int.le_of_lt zp)
     omega
   have t:∀ m:Hf,κ*ovV m q=(α + β + γ)*ovV m (strV p):=fun m=>by rw [lin m];grind
   have fp:0<=ovV h (strV p):=nn_cancel hz (by rw [<-t];exact Int.mul_nonneg (Int.le_of_lt k0) hf)
   have:=hl p (C.kept p (by simp) (by rw [<-ov_ex];exact fp))
   exact nn_cancel k0 (by rw [t];exact Int.mul_nonneg (Int.le_of_lt hz) this)
  | [p,r],R,C,_,hl,ha,hb,hc=>
   have op:=R.ok p (by simp)
   have or':=R.ok r (by simp)
   obtain ⟨A,B,A0,B0,t⟩:∃ A B:Int,0<=A/\0<=B/\∀ m:Hf,κ*ovV m q=A*ovV m (strV p) + B*ovV m (strV r):=by
    have one:∀ s∈[p,r],∀ w:Int,0<=w->∃ x y:Int,0<=x/\0<=y/\∀ m:Hf,w*ovV m (strV s)=x*ovV m (strV p) + y*ovV m (strV r):=fun s hs w w0=>by
     rcases List.mem_cons.mp hs with e | e
     ·exact ⟨w,0,w0,by omega,fun m=>by rw [e];omega⟩
     ·exact ⟨0,w,by omega,w0,fun m=>by rw [List.mem_singleton.mp e];omega⟩
    obtain ⟨x1,y1,h1,h2,h3⟩:=one a ha α a0
    obtain ⟨x2,y2,h4,h5,h6⟩:=one b hb β b0
    obtain ⟨x3,y3,h7,h8,h9⟩:=one c hc γ c0
    exact ⟨x1 + x2 + x3,y1 + y2 + y3,by omega,by omega,fun m=>by rw [lin m,h3 m,h6 m,h9 m];grind⟩
   have fq:=Int.mul_nonneg (Int.le_of_lt k0) hf
   rw [t] at fq
   have kp:0<=ovV h (strV p)->0<=ovV l (strV p):=fun z=>hl p (C.kept p (by simp) (by rw [<-ov_ex];exact z))
   have kr:0<=ovV h (strV r)->0<=ovV l (strV r):=fun z=>hl r (C.kept r (by simp) (by rw [<-ov_ex];exact z))
   have crs:opV h p r->0<=ovV l (strV (crV h p r)):=fun ho=>hl _ (C.cross 1 (by simp) ho)
   refine nn_cancel k0 ?_
   rw [t]
   by_cases zp:0<=ovV h (strV p)
   ·by_cases zr:0<=ovV h (strV r)
    ·have:=Int.mul_nonneg A0 (kp zp)
     have:=Int.mul_nonneg B0 (kr zr)
     omega
    ·by_cases zp0:ovV h (strV p)=0
     ·rw [zp0,Int.mul_zero] at fq
      have:B=0:=by
       rcases Int.lt_or_le 0 B with y | y
       ·have:=Int.mul_neg_of_pos_of_neg y (show ovV h (strV r) < 0 by omega);omega
       ·omega
      rw [this,Int.zero_mul]
      have:=Int.mul_nonneg A0 (kp zp)
      omega
     ·have ho:opV h p r:=op_iff.mpr (by rw [<-ov_ex,<-ov_ex];omega)
      exact two_cross op or' ho (crs ho) (kp zp) A0 B0 fq (.inl (by rw [<-ov_ex];omega))
   ·by_cases zr:0<=ovV h (strV r)
    ·by_cases zr0:ovV h (strV r)=0
     ·rw [zr0,Int.mul_zero] at fq
      have:A=0:=by
       rcases Int.lt_or_le 0 A with y | y
       ·have:=Int.mul_neg_of_pos_of_neg y (show ovV h (strV p) < 0 by omega);omega
       ·omega
      rw [this,Int.zero_mul]
      have:=Int.mul_nonneg B0 (kr zr)
      omega
     ·have ho:opV h r p:=op_iff.mpr (by rw [<-ov_ex,<-ov_ex];omega)
      have ho':opV h p r:=op_iff.mpr (by rw [<-ov_ex,<-ov_ex];omega)
      have c:=crs ho'
      rw [cr_comm] at c
      rw [Int.add_comm] at fq ⊢
      exact two_cross or' op ho c (kr zr) B0 A0 fq (.inl (by rw [<-ov_ex];omega))
    ·have:A=0/\B=0:=by
      have a1:=Int.mul_nonpos_of_nonneg_of_nonpos A0 (show ovV h (strV p)<=0 by omega)
      have b1:=Int.mul_nonpos_of_nonneg_of_nonpos B0 (show ovV h (strV r)<=0 by omega)
      constructor
      ·rcases Int.lt_or_le 0 A with y | y
       ·have:=Int.mul_neg_of_pos_of_neg y (show ovV h (strV p) < 0 by omega);omega
       ·omega
      ·rcases Int.lt_or_le 0 B with y | y
       ·have:=Int.mul_neg_of_pos_of_neg y (show ovV h (strV r) < 0 by omega);omega
       ·omega
     rw [this.1,this.2];omega
  | _::_::_::_,_,_,n3,_,_,_,_=>exact absurd (by simp) n3
theorem in_cl {h:Hf} {L:List Spo} (hh:HOk h) (R:Reg L) {q:Hf} (zq:0 < q.2.2):HoldF ((clV h L).map strV) q ↔ HoldF (L.map strV) q/\0<=ovV h q:=by
 refine ⟨fun hK=>?_,fun z=>in_cl_mpr hh R zq z.1 z.2⟩
 have C:=cl_reg hh R
 have cK:=(hold_iff C.reg zq).mp hK
 refine ⟨hold_cv R zq fun l hl=>cK l fun s hs=>?_,cK h fun s hs=>by rw [ov_ex];exact (C.hold s hs).2⟩
 exact (hold_iff R (z_pos (C.reg.ok s hs))).mp (C.hold s hs).1 l hl
end Law
namespace Law
open L2 DL
set_option maxHeartbeats 1000000
theorem prop_eq {p q:Spo} (hp:SpOk p) (hq:SpOk q) {κ c:Int} (k0:0 < κ) (e1:κ*(strV p).1=c*(strV q).1) (e2:κ*(strV p).2.1=c*(strV q).2.1) (e3:κ*(strV p).2.2=c*(strV q).2.2):p=q:=by
 have zp:=z_pos hp
 have zq:=z_pos hq
 have c0:0 < c:=by
  rcases Int.lt_or_le 0 c with z | z
  ·exact z
  ·have:=Int.mul_pos k0 zp
   have:=Int.mul_nonpos_of_nonpos_of_nonneg z (Int.le_of_lt zq)
   omega
 have hm:Mix (strV p) (strV q) (strV q):=⟨2*κ,c,c,by omega,c0,c0,by grind,by grind,by grind⟩
 by_cases h:p=q
 ·exact h
 ·rcases bf_tot hp hq h with z | z
  ·exact absurd ((bf_scl hm).1.mp z) (Bf.irr _)
  ·exact absurd ((bf_scl hm).2.mp z) (Bf.irr _)
theorem expo {L:List Spo} (R:Reg L) {u:Spo} (hu:u∈L):∃ g:Hf,ovV g (strV u)=0/\∀ s∈L,s ≠ u->0 < ovV g (strV s):=by
 match L,R,hu with
 | [],_,hu=>cases hu
 | [p],_,hu=>exact ⟨(0,0,0),by unfold ovV;simp,fun s hs h=>absurd ((List.mem_singleton.mp hs).trans (List.mem_singleton.mp hu).symm) h⟩
 | [p,r],R,hu=>
  have hb:Bf (strV p) (strV r):=bf_iff.mp (R.reg.fst 1 (by simp) (by decide))
  have two:∀ s∈[p,r],s=p\/s=r:=fun s hs=>by simpa using hs
  unfold Bf at hb
  rcases two u hu with rfl | rfl
  ·rcases hb with hb | ⟨_,hb⟩
   ·refine ⟨((strV u).2.2,0,(strV u).1),by unfold ovV;grind,fun s hs h=>?_⟩
    rw [(two s hs).resolve_left h]
    unfold ovV;dsimp only;rw [Int.zero_mul,Int.mul_comm (strV u).2.2];omega
   ·refine ⟨(0,(strV u).2.2,(strV u).2.1),by unfold ovV;grind,fun s hs h=>?_⟩
    rw [(two s hs).resolve_left h]
    unfold ovV;dsimp only;rw [Int.zero_mul,Int.mul_comm (strV u).2.2];omega
  ·rcases hb with hb | ⟨_,hb⟩
   ·refine ⟨(-(strV u).2.2,0,-(strV u).1),by unfold ovV;grind,fun s hs h=>?_⟩
    rw [(two s hs).resolve_right h]
    unfold ovV;dsimp only;rw [Int.zero_mul,Int.neg_mul,Int.neg_mul,Int.mul_comm (strV u).2.2];omega
   ·refine ⟨(0,-(strV u).2.2,-(strV u).2.1),by unfold ovV;grind,fun s hs h=>?_⟩
    rw [(two s hs).resolve_right h]
    unfold ovV;dsimp only;rw [Int.zero_mul,Int.neg_mul,Int.neg_mul,Int.mul_comm (strV u).2.2];omega
 | a::b::c::t,R,hu=>
  have h3:3<=(a::b::c::t).length:=by simp
  generalize a::b::c::t=L at R hu h3
  have hT:=reg_triP R
  obtain ⟨i,hi,rfl⟩:=List.getElem_of_mem hu
  obtain ⟨j,hj,ej⟩:∃ j,j < L.length/\pvi L.length j=i:=by
   by_cases e:i=L.length - 1
   ·exact ⟨0,by omega,by unfold pvi;rw [if_pos rfl];omega⟩
   ·exact ⟨i + 1,by omega,by unfold pvi;rw [if_neg (by omega)];omega⟩
  let g1:=lnH (strV (gt L (pvi L.length i))) (strV (gt L i))
  let g2:=lnH (strV (gt L i)) (strV (gt L j))
  have sum:∀ x:Hf,ovV (g1.1 + g2.1,g1.2.1 + g2.2.1,g1.2.2 + g2.2.2) x=dtV (strV (gt L (pvi L.length i))) (strV (gt L i)) x + dtV (strV (gt L i)) (strV (gt L j)) x:=fun x=>by
   rw [<-ov_ln,<-ov_ln]
   show ovV _ x=ovV g1 x + ovV g2 x
   unfold ovV
   dsimp only
   grind
  refine ⟨(g1.1 + g2.1,g1.2.1 + g2.2.1,g1.2.2 + g2.2.2),?_,fun s hs h=>?_⟩
  ·rw [sum,<-gt_eq hi,dt_abb,dt_aba];rfl
  ·obtain ⟨m,hm,rfl⟩:=List.getElem_of_mem hs
   rw [sum,<-gt_eq hm]
   have mi:m ≠ i:=fun e=>h (by subst e;rfl)
   have n1:=edge_nn (P:=fun i=>strV (gt L i)) hT hi hm
   have n2:=edge_nn (P:=fun i=>strV (gt L i)) hT hj hm
   have n1:0<=dtV (strV (gt L (pvi L.length i))) (strV (gt L i)) (strV (gt L m)):=n1
   have n2:0<=dtV (strV (gt L (pvi L.length j))) (strV (gt L j)) (strV (gt L m)):=n2
   rw [ej] at n2
   by_cases e:m=pvi L.length i
   ·have ne:=(pvi_ne h3 hj).2.1
    rw [ej] at ne
    have:=edge_pos (P:=fun i=>strV (gt L i)) hT hj hm (by rw [e];exact ne) (by rw [ej];exact mi)
    have this:0 < dtV (strV (gt L (pvi L.length j))) (strV (gt L j)) (strV (gt L m)):=this
    rw [ej] at this
    omega
   ·have:=edge_pos (P:=fun i=>strV (gt L i)) hT hi hm mi e
    have this:0 < dtV (strV (gt L (pvi L.length i))) (strV (gt L i)) (strV (gt L m)):=this
    omega
theorem cor_sub {L L':List Spo} (R:Reg L) (R':Reg L') (h1:∀ q:Hf,0 < q.2.2->HoldF (L.map strV) q->HoldF (L'.map strV) q) (h2:∀ s∈L',HoldF (L.map strV) (strV s)):∀ u∈L,u∈L':=fun u hu=>by
 have zu:=z_pos (R.ok u hu)
 obtain ⟨g,g0,gp⟩:=expo R hu
 have hL':=h1 _ zu (hold_self R hu (mix_self _))
 have gn:∀ s∈L,0<=ovV g (strV s):=fun s hs=>by
  by_cases e:s=u
  ·rw [e,g0];exact Int.le_refl _
  ·exact Int.le_of_lt (gp s hs e)
 have gn':∀ s∈L',0<=ovV g (strV s):=fun s hs=>(hold_iff R (z_pos (R'.ok s hs))).mp (h2 s hs) g gn
 have zero:∀ s∈L',ovV g (strV s)=0->s=u:=fun s hs e=>by
  obtain ⟨a,b,c,ha,hb,hc,κ,α,β,γ,k0,a0,b0,c0,e1,e2,e3⟩:=cmb_hold R (z_pos (R'.ok s hs)) (h2 s hs)
  have l:=ov_lin3 (l:=g) e1 e2 e3
  rw [e,Int.mul_zero] at l
  have n1:=Int.mul_nonneg a0 (gn a ha)
  have n2:=Int.mul_nonneg b0 (gn b hb)
  have n3:=Int.mul_nonneg c0 (gn c hc)
  have is:∀ x∈L,∀ w:Int,w*ovV g (strV x)=0->w=0\/x=u:=fun x hx w z=>by
   rcases Int.mul_eq_zero.mp z with z | z
   ·exact .inl z
   ·right
    by_cases e:x=u
    ·exact e
    ·have:=gp x hx e;omega
  have t:∀ x∈L,∀ w:Int,w*ovV g (strV x)=0->w*(strV x).1=w*(strV u).1/\w*(strV x).2.1=w*(strV u).2.1/\w*(strV x).2.2=w*(strV u).2.2:=fun x hx w z=>by
   rcases is x hx w z with e | e
   ·rw [e];simp
   ·rw [e];exact ⟨rfl,rfl,rfl⟩
  have ta:=t a ha α (by omega)
  have tb:=t b hb β (by omega)
  have tc:=t c hc γ (by omega)
  refine prop_eq (R'.ok s hs) (R.ok u hu) k0 (c:=α + β + γ) ?_ ?_ ?_
  ·rw [e1,ta.1,tb.1,tc.1];grind
  ·rw [e2,ta.2.1,tb.2.1,tc.2.1];grind
  ·rw [e3,ta.2.2,tb.2.2,tc.2.2];grind
 obtain ⟨a,b,c,ha,hb,hc,κ,α,β,γ,k0,a0,b0,c0,e1,e2,e3⟩:=cmb_hold R' zu hL'
 have l:=ov_lin3 (l:=g) e1 e2 e3
 rw [g0,Int.mul_zero] at l
 have n1:=Int.mul_nonneg a0 (gn' a ha)
 have n2:=Int.mul_nonneg b0 (gn' b hb)
 have n3:=Int.mul_nonneg c0 (gn' c hc)
 have done:∀ x∈L',∀ w:Int,0 < w->w*ovV g (strV x)=0->u∈L':=fun x hx w w0 z=>by
  rcases Int.mul_eq_zero.mp z with z | z
  ·omega
  ·rw [<-zero x hx z];exact hx
 rcases Int.lt_or_le 0 α with z | z
 ·exact done a ha α z (by omega)
 ·rcases Int.lt_or_le 0 β with z' | z'
  ·exact done b hb β z' (by omega)
  ·rcases Int.lt_or_le 0 γ with z'' | z''
   ·exact done c hc γ z'' (by omega)
   ·exfalso
    have x1:α=0:=by omega
    have x2:β=0:=by omega
    have x3:γ=0:=by omega
    rw [x1,x2,x3,Int.zero_mul,Int.zero_mul,Int.zero_mul] at e3
    have:=Int.mul_pos k0 zu
    omega
theorem sorted_eq {α:Type} {P:α->α->Prop} (as:∀ a b,P a b->¬ P b a):∀ {l m:List α},l.Pairwise P->m.Pairwise P->(∀ x,x∈l ↔ x∈m)->l=m
 | [],[],_,_,_=>rfl
 | [],b::m,_,_,h=>absurd ((h b).mpr List.mem_cons_self) (by simp)
 | a::l,[],_,_,h=>absurd ((h a).mp List.mem_cons_self) (by simp)
 | a::l,b::m,hl,hm,h=>by
  obtain ⟨h1,h2⟩:=List.pairwise_cons.mp hl
  obtain ⟨h3,h4⟩:=List.pairwise_cons.mp hm
  have e:a=b:=by
   rcases List.mem_cons.mp ((h a).mp List.mem_cons_self) with e | e
   ·exact e
   ·rcases List.mem_cons.mp ((h b).mpr List.mem_cons_self) with e' | e'
    ·exact e'.symm
    ·exact absurd (h1 b e') (as _ _ (h3 a e))
  subst e
  refine congrArg _ (sorted_eq as h2 h4 fun x=>⟨fun hx=>?_,fun hx=>?_⟩)
  ·rcases List.mem_cons.mp ((h x).mp (List.mem_cons_of_mem _ hx)) with e | e
   ·subst e;exact absurd (h1 _ hx) (as _ _ (h1 _ hx))
   ·exact e
  ·rcases List.mem_cons.mp ((h x).mpr (List.mem_cons_of_mem _ hx)) with e | e
   ·subst e;exact absurd (h3 _ hx) (as _ _ (h3 _ hx))
   ·exact e
theorem reg_eq {L L':List Spo} (R:Reg L) (R':Reg L') (h:∀ q:Hf,0 < q.2.2->(HoldF (L.map strV) q ↔ HoldF (L'.map strV) q)):L=L':=by
 have s1:∀ u∈L,u∈L':=cor_sub R R' (fun q z hq=>(h q z).mp hq) fun s hs=>(h _ (z_pos (R'.ok s hs))).mpr (hold_self R' hs (mix_self _))
 have s2:∀ u∈L',u∈L:=cor_sub R' R (fun q z hq=>(h q z).mpr hq) fun s hs=>(h _ (z_pos (R.ok s hs))).mp (hold_self R hs (mix_self _))
 have ord:∀ {a:Spo} {l:List Spo},Reg (a::l)->(∀ s∈l,Bf (strV a) (strV s))/\l.Pairwise (fun b c=>0 < dtV (strV a) (strV b) (strV c)):=fun {a l} R=>by
  constructor
  ·intro s hs
   obtain ⟨k,hk,rfl⟩:=List.getElem_of_mem hs
   have:=R.reg.fst (k + 1) (by simp;omega) (by omega)
   simpa [bf_iff] using this
  ·rw [List.pairwise_iff_getElem]
   intro i j hi hj hij
   have:=tri_of_reg R.reg 0 (i + 1) (j + 1) (by omega) (by omega) (by simp;omega)
   simpa using this
 match L,L',R,R',s1,s2 with
 | [],[],_,_,_,_=>rfl
 | [],b::m,_,_,_,s2=>exact absurd (s2 b List.mem_cons_self) (by simp)
 | a::l,[],_,_,s1,_=>exact absurd (s1 a List.mem_cons_self) (by simp)
 | a::l,b::m,R,R',s1,s2=>
  obtain ⟨o1,p1⟩:=ord R
  obtain ⟨o2,p2⟩:=ord R'
  have e:a=b:=by
   rcases List.mem_cons.mp (s1 a List.mem_cons_self) with e | e
   ·exact e
   ·rcases List.mem_cons.mp (s2 b List.mem_cons_self) with e' | e'
    ·exact e'.symm
    ·exact absurd (o1 b e') (o2 a e).asym
  subst e
  refine congrArg _ (sorted_eq (fun b c h1 h2=>by rw [dt_swap] at h2;omega) p1 p2 fun x=>⟨fun hx=>?_,fun hx=>?_⟩)
  ·rcases List.mem_cons.mp (s1 x (List.mem_cons_of_mem _ hx)) with e | e
   ·subst e;exact absurd (o1 _ hx) (Bf.irr _)
   ·exact e
  ·rcases List.mem_cons.mp (s2 x (List.mem_cons_of_mem _ hx)) with e | e
   ·subst e;exact absurd (o2 _ hx) (Bf.irr _)
   ·exact e
end Law
namespace Law
open L2 DL
set_option maxHeartbeats 1000000
def InvR (L0:List Spo) (D:List Hf) (L:List Spo):Prop:=Reg L/\L.length<=L0.length + 2*D.length/\∀ q:Hf,0 < q.2.2->(HoldF (L.map strV) q ↔ HoldF (L0.map strV) q/\∀ h∈D,0<=ovV h q)
theorem inv0 {L0:List Spo} (R:Reg L0):InvR L0 [] L0:=⟨R,by simp,fun q _=>⟨fun h=>⟨h,fun _ hh=>(nomatch hh)⟩,fun h=>h.1⟩⟩
theorem inv_step {L0 L:List Spo} {D:List Hf} {h:Hf} (hh:HOk h) (I:InvR L0 D L):InvR L0 (D++[h]) (clV h L):=by
 obtain ⟨R,hl,hq⟩:=I
 have C:=cl_reg hh R
 refine ⟨C.reg,by have:=C.len;rw [List.length_append,List.length_singleton];omega,fun q zq=>?_⟩
 rw [in_cl hh R zq,hq q zq]
 constructor
 ·rintro ⟨⟨a,b⟩,c⟩
  refine ⟨a,fun x hx=>?_⟩
  rcases List.mem_append.mp hx with hx | hx
  ·exact b x hx
  ·rw [List.mem_singleton.mp hx];exact c
 ·rintro ⟨a,b⟩
  exact ⟨⟨a,fun x hx=>b x (List.mem_append_left _ hx)⟩,b h (List.mem_append_right _ (List.mem_singleton.mpr rfl))⟩
theorem on_x' {p:Pt} (z:SzF 115 p):OnL (1,0,p.1) (asV p):=⟨⟨sz_one (by decide),sz_zero,z.1.mono (by decide)⟩,.inl (show (1:Int) ≠ 0 by decide),by unfold exV asV;simp⟩
theorem on_y' {p:Pt} (z:SzF 115 p):OnL (0,1,p.2) (asV p):=⟨⟨sz_zero,sz_one (by decide),z.2.mono (by decide)⟩,.inr (show (1:Int) ≠ 0 by decide),by unfold exV asV;simp⟩
theorem lk_pt' {p q:Pt} (zp:SzF 115 p) (zq:SzF 115 q):Lk (asV p) (asV q):=by
 by_cases e:p=q
 ·subst e;exact ⟨_,on_x' zp,on_x' zp⟩
 ·have za:Sz 120 (p.2 - q.2):=(Sz.sub zp.2 zq.2).mono (by decide)
  have zb:Sz 120 (q.1 - p.1):=(Sz.sub zq.1 zp.1).mono (by decide)
  have zc:Sz 300 ((p.2 - q.2)*p.1 + (q.1 - p.1)*p.2):=(Sz.add (Sz.mul za zp.1) (Sz.mul zb zp.2)).mono (by decide)
  have n:p.2 - q.2 ≠ 0\/q.1 - p.1 ≠ 0:=by
   by_cases a:p.2 - q.2=0
   ·exact .inr fun b=>e (Prod.ext (by omega) (by omega))
   ·exact .inl a
  have s:SzH 300 (p.2 - q.2,q.1 - p.1,(p.2 - q.2)*p.1 + (q.1 - p.1)*p.2):=⟨za.mono (by decide),zb.mono (by decide),zc⟩
  refine ⟨(p.2 - q.2,q.1 - p.1,(p.2 - q.2)*p.1 + (q.1 - p.1)*p.2),⟨s,n,?_⟩,⟨s,n,?_⟩⟩
  ·unfold exV asV;dsimp only;grind
  ·unfold exV asV;dsimp only;grind
theorem reg_hull' {S H:List Pt} (O:HullOk S H) (z:∀ p∈H,SzF 115 p):Reg (H.map asV):=by
 have eF:(H.map asV).map strV=H.map fl:=by rw [List.map_map];exact List.map_congr_left fun p _=>str_as p
 refine ⟨fun s hs=>?_,by rw [eF];exact O.reg,fun s hs=>?_,fun k hk=>?_⟩
 ·obtain ⟨p,_,rfl⟩:=List.mem_map.mp hs
  exact sp_ok1 p
 ·obtain ⟨p,hp,rfl⟩:=List.mem_map.mp hs
  exact ⟨_,_,on_x' (z p hp),on_y' (z p hp),show (1:Int)*1 - 0*0 ≠ 0 by decide⟩
 ·obtain ⟨p,hp,e1⟩:=List.mem_map.mp (pv_mem hk)
  obtain ⟨q,hq,e2⟩:=List.mem_map.mp (List.getElem_mem hk)
  rw [<-e1,<-e2]
  exact lk_pt' (z p hp) (z q hq)
theorem set_ok {ps S1:List Pt} (hS:SetOf ps S1) (hne:ps ≠ []):HullOk S1 (hullV S1):=by
 have hn1:S1 ≠ []:=fun e=>by
  cases ps with
  | nil=>exact hne rfl
  | cons p ps=>have:=hS.2.1 p List.mem_cons_self;rw [e] at this;cases this
 exact hull_ok hS.2.2 hn1
end Law
namespace Law
open L2 DL
set_option maxHeartbeats 4000000
def w_law:WS:=
 (wSeq (wSet 1 (wCall sp_l_points (wCons (wVar 0) (wCons (wCB fMax2 (wCons (wC (.int 1)) (wCons (wCB fMin2 (wCons (wC (.int 12)) (wCons (wCB fLen (wCons (wVar 0) wNil)) wNil))) wNil))) wNil))))
 (wSeq (wSet 2 (wCall sp_hull (wCons (wVar 1) wNil)))
 (wSeq (wSet 3 (wCall sp_l_halves (wCons (wVar 0) (wCons (wVar 1) (wCons (wAdd (wC (.int 1)) (wMod (wCall sp_l_mixed (wCons (wVar 0) (wCons (wC (.int 90)) wNil))) (wC (.int 6)))) wNil)))))
 (wSeq (wSet 4 (wVar 2))
 (wSeq (wSet 5 (wVar 2))
 (wSeqM (wFor (wiList (wVar 3)) (wgName 6) (wSeq (wSet 4 (wCall sp_clipped (wCons (wVar 4) (wCons (wVar 6) wNil))))
 (wSeq (wSet 5 (wCall sp_clipped (wCons (wCall sp_clipped (wCons (wVar 5) (wCons (wVar 6) wNil))) (wCons (wVar 6) wNil))))
 (wSeq (wSet 7 (wTup (wCons (wSub (wC (.int 0)) (wOp2 fIx (wVar 6) (wC (.int 0)))) (wCons (wSub (wC (.int 0)) (wOp2 fIx (wVar 6) (wC (.int 1)))) (wCons (wSub (wC (.int 0)) (wOp2 fIx (wVar 6) (wC (.int 2)))) wNil)))))
 (wSeq (wSet 8 (wCall sp_clipped (wCons (wCall sp_clipped (wCons (wVar 2) (wCons (wVar 6) wNil))) (wCons (wVar 7) wNil))))
 (wSeq (wIf (wT1 (wOrT (wB (wNe (wVar 8) (wCall sp_clipped (wCons (wCall sp_clipped (wCons (wVar 2) (wCons (wVar 7) wNil))) (wCons (wVar 6) wNil))))) (wOrT (wNotT (wB (wCall sp_l_is_region (wCons (wVar 8) wNil)))) (wB (wGt (wCB fLen (wCons (wVar 8) wNil)) (wC (.int 2))))))) (wRet (wC (.bl false))) wNext)
 (wSeq (wIf (wB (wNe (wComp 1 [6] (wiList (wVar 8)) (wgName 0) (wB (wNe (wCall sp_l_over (wCons (wVar 1) (wCons (wCall sp_l_flat (wCons (wVar 0) wNil)) wNil))) (wC (.int 0)))) (wVar 0)) (wLst wNil))) (wRet (wC (.bl false))) wNext)
 (wIf (wT1 (wAndT (wB (wEq (wComp 1 [6] (wiList (wVar 2)) (wgName 0) (wB (wLt (wCall sp_l_over (wCons (wVar 1) (wCons (wCall sp_l_flat (wCons (wVar 0) wNil)) wNil))) (wC (.int 0)))) (wVar 0)) (wLst wNil))) (wB (wNe (wCall sp_clipped (wCons (wVar 2) (wCons (wVar 6) wNil))) (wVar 2))))) (wRet (wC (.bl false))) wNext))))))))
 (wSeq (wSet 9 (wVar 2))
 (wSeqM (wFor (wiRev (wVar 3)) (wgName 6) (wSet 9 (wCall sp_clipped (wCons (wVar 9) (wCons (wVar 6) wNil)))))
 (wRet (wAndV (wEq (wVar 4) (wVar 9)) (wAndV (wEq (wVar 4) (wVar 5)) (wCall sp_l_is_region (wCons (wVar 4) wNil)))))))))))))
theorem set_le {ps S1:List Pt} (h:SetOf ps S1):S1.length<=ps.length:=List.Nodup.length_le_of_subset (lex_nodup h.2.2) h.1
theorem hull_le (S1:List Pt):(hullV S1).length<=2*S1.length:=by
 unfold hullV
 split
 ·omega
 ·unfold hullL
  have a1:=chS_len S1
  have a2:=chS_len S1.reverse
  rw [List.length_reverse] at a2
  simp only [List.length_append,List.length_dropLast,List.length_reverse]
  omega
theorem reg_sz {L:List Spo} (R:Reg L):∀ s∈L,SpOk s/\SzS 700 s:=fun s hs=>⟨R.ok s hs,szs_mono (cn_sz (R.ok s hs) (R.cn s hs)) (by decide)⟩
theorem inv_eq {L0 L L':List Spo} {D D':List Hf} (I:InvR L0 D L) (I':InvR L0 D' L') (h:∀ g,g∈D ↔ g∈D'):L=L':=by
 refine reg_eq I.1 I'.1 fun q zq=>?_
 rw [I.2.2 q zq,I'.2.2 q zq]
 exact ⟨fun z=>⟨z.1,fun g hg=>z.2 g ((h g).mpr hg)⟩,fun z=>⟨z.1,fun g hg=>z.2 g ((h g).mp hg)⟩⟩
def ngV (h:Hf):Hf:=(0 - h.1,0 - h.2.1,0 - h.2.2)
theorem ng_ok {h:Hf} (hh:HOk h):HOk (ngV h):=by
 obtain ⟨⟨a,b,c⟩,n⟩:=hh
 have s:∀ {x:Int},Sz 300 x->Sz 300 (0 - x):=fun {x} hx=>⟨by rw [show (0 - x:Int)=-x by omega,Int.natAbs_neg];exact hx.lt⟩
 refine ⟨⟨s a,s b,s c⟩,?_⟩
 show 0 - h.1 ≠ 0\/0 - h.2.1 ≠ 0
 omega
theorem ng_ov (h q:Hf):ovV (ngV h) q=-ovV h q:=by unfold ovV ngV;grind
theorem thin_ok {L0:List Spo} (R0:Reg L0) {h:Hf} (hh:HOk h):clV (ngV h) (clV h L0)=clV h (clV (ngV h) L0)/\Reg (clV (ngV h) (clV h L0))/\(clV (ngV h) (clV h L0)).length<=2/\(∀ s∈clV (ngV h) (clV h L0),ovV h (strV s)=0)/\(clV (ngV h) (clV h L0)).length<=L0.length + 4:=by
 have hn:=ng_ok hh
 have I1:=inv_step hn (inv_step hh (inv0 R0))
 have I2:=inv_step hh (inv_step hn (inv0 R0))
 have C:=cl_reg hn (inv_step hh (inv0 R0)).1
 have C2:=cl_reg hh R0
 have zero:∀ s∈clV (ngV h) (clV h L0),ovV h (strV s)=0:=fun s hs=>by
  have c:=C.hold s hs
  have a:=c.2
  rw [<-ov_ex,ng_ov] at a
  have b:=((in_cl hh R0 (z_pos (C.reg.ok s hs))).mp c.1).2
  omega
 refine ⟨inv_eq I1 I2 fun g=>by simp only [List.nil_append,List.mem_append,List.mem_singleton];exact Or.comm,I1.1,?_,zero,by have:=C.len;have:=C2.len;omega⟩
 rcases Nat.lt_or_ge 2 (clV (ngV h) (clV h L0)).length with l | l
 ·exfalso
  have T:=tri_of_reg C.reg.reg 0 1 2 (by omega) (by omega) (by rw [List.length_map];exact l)
  rw [List.getElem_map,List.getElem_map,List.getElem_map] at T
  have z0:=zero _ (List.getElem_mem (show 0 < (clV (ngV h) (clV h L0)).length by omega))
  have z1:=zero _ (List.getElem_mem (show 1 < (clV (ngV h) (clV h L0)).length by omega))
  have z2:=zero _ (List.getElem_mem l)
  unfold ovV at z0 z1 z2
  have:=line3 hh.2 z0 z1 z2
  omega
 ·exact l
theorem whole_ok {L0:List Spo} (R0:Reg L0) {h:Hf} (hh:HOk h) (hall:∀ s∈L0,0<=ovV h (strV s)):clV h L0=L0:=by
 have C:=cl_reg hh R0
 refine reg_eq C.reg R0 fun q zq=>?_
 rw [in_cl hh R0 zq]
 exact ⟨fun z=>z.1,fun z=>⟨z,(hold_iff R0 zq).mp z h hall⟩⟩
theorem ok_law:∀ ss R,spLaw ss R->w_law { nx:=fun _=>R (.t .non),rt:=R } (startD ["_law_script","_law_points_here","_law_start","_law_halves_here","_law_forth","_law_twice","_law_one","_law_other","_law_thin","_law_back"] ss):=by
 rintro ss R ⟨ns,rfl,hn,h⟩
 show w_law _ [some (.t (.lst (ns.map .int))),none,none,none,none,none,none,none,none,none]
 unfold w_law
 have dummy:Sz 1 0:=⟨by decide⟩
 walk_at "go"
 generalize hmn:(if (if ((ns.map T.int).length:Int) < 12 then ((ns.map T.int).length:Int) else 12) > 1 then (if ((ns.map T.int).length:Int) < 12 then ((ns.map T.int).length:Int) else 12) else 1:Int)=mn
 have hmn1:1<=mn/\mn<=12:=by
  rw [<-hmn];split <;> split <;> omega
 refine ⟨ns,mn,rfl,by omega,by omega,fun ps hl hz=>?_⟩
 have hps:ps ≠ []:=fun e=>by rw [e] at hl;simp at hl;omega
 have hl12:ps.length<=12:=by omega
 have g:∀ l:List Pt,got (.ol (l.map ptT))=.ol (l.map ptT):=fun l=>e_gotO _ (purs_pt l)
 have g2:∀ l:List Spo,got (.ol (l.map spT))=.ol (l.map spT):=fun l=>e_gotO _ (purs_map (fun p=>rfl) l)
 have g3:∀ l:List Hf,got (.ol (l.map hfT))=.ol (l.map hfT):=fun l=>e_gotO _ (purs_map (fun p=>rfl) l)
 dsimp only
 rw [g]
 walk_at "dl"
 refine ⟨ps,rfl,by omega,fun p hp=>(hz p hp).mono3 (by decide),fun S1 hS1=>?_⟩
 have eL:(hullV S1).map sptT=((hullV S1).map asV).map spT:=by rw [List.map_map];rfl
 dsimp only
 rw [eL,g2]
 have R0:Reg ((hullV S1).map asV):=reg_hull' (set_ok hS1 hps) fun p hp=>(hz p (hS1.1 p ((set_ok hS1 hps).sub p hp))).mono3 (by decide)
 have l0:((hullV S1).map asV).length<=24:=by
  have h1:=hull_le S1
  have h2:=set_le hS1
  rw [List.length_map];omega
 generalize (hullV S1).map asV=L0 at R0 l0
 walk_at "dl"
 refine ⟨ns,90,rfl,by decide,by decide,fun v v0 v1=>?_⟩
 have c1:=fmod_lo v (n:=6) (by decide)
 have c2:=fmod_hi v (n:=6) (by decide)
 walk_at "go"
 refine ⟨ns,ps,1 + v.fmod 6,rfl,by omega,by omega,hps,by omega,hz,fun hs hsl hsz=>?_⟩
 have hs6:hs.length<=6:=by omega
 dsimp only
 rw [g3]
 walk_at "dl"
 let M:List Hf->DSt->Prop:=fun pre δ=>∃ (Lf Lt:List Spo) (D2:List Hf) (v4 v5:S) (r1 r6 r7 r8:Option S),δ=[some (.t (.lst (ns.map .int))),r1,some (.t (.lst (L0.map spT))),some (.t (.lst (hs.map hfT))),some v4,some v5,r6,r7,r8,none]/\((v4=.ol (Lf.map spT)/\v5=.ol (Lt.map spT))\/(v4=.t (.lst (Lf.map spT))/\v5=.t (.lst (Lt.map spT))))/\InvR L0 pre Lf/\InvR L0 D2 Lt/\(∀ x,x∈D2 ↔ x∈pre)/\D2.length<=2*pre.length
 refine ⟨M hs,?_,?_⟩
 ·walk_at "dl"
  refine ⟨fun ts δ=>∃ (pre post:List Hf),hs=pre++post/\ts=post.map hfT/\M pre δ,⟨[],hs,rfl,rfl,L0,L0,[],_,_,_,_,_,_,rfl,.inr ⟨rfl,rfl⟩,inv0 R0,inv0 R0,fun _=>Iff.rfl,by simp⟩,?_,?_⟩
  ·rintro δ ⟨pre,post,e1,e2,hM⟩
   have:post=[]:=by simpa using e2.symm
   subst this
   rw [List.append_nil] at e1
   rw [<-e1] at hM
   exact hM
  ·rintro x ts δ ⟨pre,post,e1,e2,hM⟩
   cases post with
   | nil=>cases e2
   | cons hf post=>
    rw [List.map_cons] at e2
    cases e2
    have hh:=hsz hf (by rw [e1];simp)
    have hn:=ng_ok hh
    have hpl:pre.length<=6:=by
     have:=congrArg List.length e1
     simp only [List.length_append,List.length_cons] at this
     omega
    obtain ⟨Lf,Lt,D2,v4,v5,r1,r6,r7,r8,rfl,h45,I4,I5,hD,hDl⟩:=hM
    obtain ⟨t1,t2,t3,t4,t5⟩:=thin_ok R0 hh
    have J4:=inv_step hh I4
    have J5:=inv_step hh (inv_step hh I5)
    have z4:=I4.2.1
    have z5:=I5.2.1
    have z6:=(inv_step hh I5).2.1
    rw [List.length_append,List.length_singleton] at z6
    have RA:=(inv_step hh (inv0 R0)).1
    have RB:=(inv_step hn (inv0 R0)).1
    have LA:=(inv_step hh (inv0 R0)).2.1
    have LB:=(inv_step hn (inv0 R0)).2.1
    simp only [List.nil_append,List.length_singleton] at LA LB
    have fin:∀ r1 r6 r7 r8,∃ (pre' post':List Hf),hs=pre'++post'/\post.map hfT=post'.map hfT/\M pre' [some (.t (.lst (ns.map .int))),r1,some (.t (.lst (L0.map spT))),some (.t (.lst (hs.map hfT))),some (.ol ((clV hf Lf).map spT)),some (.ol ((clV hf (clV hf Lt)).map spT)),r6,r7,r8,none]:=fun r1 r6 r7 r8=>by
     refine ⟨pre++[hf],post,by rw [e1];simp,rfl,_,_,_,_,_,r1,r6,r7,r8,rfl,.inl ⟨rfl,rfl⟩,J4,J5,fun x=>?_,?_⟩
     ·rw [List.mem_append,List.mem_append,List.mem_append,hD x,or_assoc,or_self]
     ·simp only [List.length_append,List.length_singleton];omega
    have hng:(T.tup [.int (0 - hf.1),.int (0 - hf.2.1),.int (0 - hf.2.2)])=hfT (ngV hf):=rfl
    have zT:∀ s∈clV (ngV hf) (clV hf L0),SpOk s/\SzS 700 s:=reg_sz t2
    have flatsz:∀ L:List Spo,Reg L->∀ s∈L,SzS 20000 s/\SzH 5000 (strV s):=fun L hL s hs=>⟨szs_mono (reg_sz hL s hs).2 (by decide),szh_mono (str_sz (reg_sz hL s hs).2) (by decide)⟩
    have e0:(clV (ngV hf) (clV hf L0)).filter (fun s=>!decide (ovV hf (strV s)=0))=[]:=by
     rw [List.filter_eq_nil_iff]
     intro s hs
     simp [t4 s hs]
    have ne0:∀ R:S->Prop,fNe (.ol []) (.ol []) R=R (.t (.bl false)):=fun R=>by
     rw [show (S.ol ([]:List T))=S.ol (([]:List Spo).map spT) from rfl,ne_lists (l:=([]:List Spo)) (m:=[]) _ eqT_spT dep_spT rfl rfl];simp
    rcases h45 with ⟨rfl,rfl⟩ | ⟨rfl,rfl⟩
    all_goals (
     walk_at "dl"
     refine ⟨Lf,hf,rfl,by omega,reg_sz I4.1,hh.1,?_⟩
     dsimp only
     rw [g2]
     walk_at "dl"
     refine ⟨Lt,hf,rfl,by omega,reg_sz I5.1,hh.1,?_⟩
     dsimp only
     rw [g2]
     walk_at "dl"
     refine ⟨clV hf Lt,hf,rfl,by omega,reg_sz (inv_step hh I5).1,hh.1,?_⟩
     dsimp only
     rw [g2]
     walk_at "dl"
     refine ⟨L0,hf,rfl,by omega,reg_sz R0,hh.1,?_⟩
     dsimp only
     rw [g2]
     walk_at "dl"
     refine ⟨clV hf L0,ngV hf,rfl,by omega,reg_sz RA,hn.1,?_⟩
     dsimp only
     rw [g2]
     walk_at "dl"
     refine ⟨fun b=>b=false,?_,?_⟩
     ·walk_at "dl"
      refine ⟨L0,ngV hf,rfl,by omega,reg_sz R0,hn.1,?_⟩
      dsimp only
      rw [g2]
      walk_at "dl"
      refine ⟨clV (ngV hf) L0,hf,rfl,by omega,reg_sz RB,hh.1,?_⟩
      dsimp only
      rw [g2]
      walk_at "dl"
      rw [if_neg (by simp [t1])]
      refine ⟨clV (ngV hf) (clV hf L0),rfl,by omega,fun s hs=>⟨(zT s hs).1,szs_mono (zT s hs).2 (by decide)⟩,t2.reg,?_⟩
      walk_at "dl"
      rw [List.length_map];omega
     rintro b rfl
     walk_at "dl"
     refine comp_filter (f:=spT) (h:=spT) (p:=fun s=>!decide (ovV hf (strV s)=0)) (fun δ=>∃ r,δ=[r,some (.t (hfT hf))]) (fun s _=>rfl) (by omega) ⟨_,rfl⟩ ?_ ?_
     ·rintro s hs δ ⟨r,rfl⟩ Y N h1 h2
      obtain ⟨q1,q2⟩:=flatsz _ t2 s hs
      walk_at "dl"
      refine ⟨s,rfl,q1,?_⟩
      walk_at "dl"
      refine ⟨hf,strV s,rfl,hh.1,q2,?_⟩
      walk_at "dl"
      split
      ·rename_i e
       exact h1 _ ⟨_,rfl⟩ (by simpa using e)
      ·rename_i e
       exact h2 _ ⟨_,rfl⟩ (by simpa using e)
     rw [e0]
     walk_at "dl"
     rw [ne0]
     walk_at "dl"
     refine ⟨fun b=>b=false,?_,?_⟩
     ·walk_at "dl"
      refine comp_filter (f:=spT) (h:=spT) (p:=fun s=>decide (ovV hf (strV s) < 0)) (fun δ=>∃ r,δ=[r,some (.t (hfT hf))]) (fun s _=>rfl) (by omega) ⟨_,rfl⟩ ?_ ?_
      ·rintro s hs δ ⟨r,rfl⟩ Y N h1 h2
       obtain ⟨q1,q2⟩:=flatsz _ R0 s hs
       walk_at "dl"
       refine ⟨s,rfl,q1,?_⟩
       walk_at "dl"
       refine ⟨hf,strV s,rfl,hh.1,q2,?_⟩
       walk_at "dl"
       split
       ·rename_i e
        exact h1 _ ⟨_,rfl⟩ (by simpa using e)
       ·rename_i e
        exact h2 _ ⟨_,rfl⟩ (by simpa using e)
      walk_at "dl"
      by_cases hw:L0.filter (fun s=>decide (ovV hf (strV s) < 0))=[]
      ·rw [if_pos hw]
       have hall:∀ s∈L0,0<=ovV hf (strV s):=fun s hs=>by
        have:=List.filter_eq_nil_iff.mp hw s hs
        simp at this;exact this
       have e1:=whole_ok R0 hh hall
       refine ⟨L0,hf,rfl,by omega,reg_sz R0,hh.1,?_⟩
       dsimp only
       rw [g2,e1]
       walk_at "dl"
       simp
      ·rw [if_neg hw]
       trivial
     ·rintro b rfl
      walk_at "dl"
      exact fin _ _ _ _)
 ·rintro δ ⟨Lf,Lt,D2,v4,v5,r1,r6,r7,r8,rfl,h45,I4,I5,hD,hDl⟩
  have e45:Lf=Lt:=inv_eq I4 I5 fun x=>(hD x).symm
  subst e45
  have z4:=I4.2.1
  let N:List Hf->DSt->Prop:=fun pre δ=>∃ (Lb:List Spo) (v4 v5 v9:S) (r1 r6 r7 r8:Option S),δ=[some (.t (.lst (ns.map .int))),r1,some (.t (.lst (L0.map spT))),some (.t (.lst (hs.map hfT))),some v4,some v5,r6,r7,r8,some v9]/\((v4=.ol (Lf.map spT)/\v5=.ol (Lf.map spT))\/(v4=.t (.lst (Lf.map spT))/\v5=.t (.lst (Lf.map spT))))/\(v9=.ol (Lb.map spT)\/v9=.t (.lst (Lb.map spT)))/\InvR L0 pre Lb
  walk_at "dl"
  refine ⟨N hs.reverse,?_,?_⟩
  ·walk_at "dl"
   rw [a_wiRev]
   walk_at "dl"
   rw [revI_F,<-List.map_reverse]
   refine ⟨fun ts δ=>∃ (pre post:List Hf),hs.reverse=pre++post/\ts=post.map hfT/\N pre δ,⟨[],hs.reverse,rfl,rfl,L0,v4,v5,_,_,_,_,_,rfl,h45,.inr rfl,inv0 R0⟩,?_,?_⟩
   ·rintro δ ⟨pre,post,e1,e2,hM⟩
    have:post=[]:=by simpa using e2.symm
    subst this
    rw [List.append_nil] at e1
    rw [<-e1] at hM
    exact hM
   ·rintro x ts δ ⟨pre,post,e1,e2,hM⟩
    cases post with
    | nil=>cases e2
    | cons hf post=>
     rw [List.map_cons] at e2
     cases e2
     have hh:=hsz hf (by rw [<-List.mem_reverse,e1];simp)
     have hpl:pre.length<=6:=by
      have:=congrArg List.length e1
      simp only [List.length_append,List.length_cons,List.length_reverse] at this
      omega
     obtain ⟨Lb,v4,v5,v9,r1,r6,r7,r8,rfl,h45,h9,I9⟩:=hM
     have z9:=I9.2.1
     rcases h9 with rfl | rfl
     all_goals (
      walk_at "dl"
      refine ⟨Lb,hf,rfl,by omega,reg_sz I9.1,hh.1,?_⟩
      dsimp only
      rw [g2]
      walk_at "dl"
      exact ⟨pre++[hf],post,by rw [e1];simp,rfl,_,_,_,_,_,_,_,_,rfl,h45,.inl rfl,inv_step hh I9⟩)
  ·rintro δ ⟨Lb,v4,v5,v9,r1,r6,r7,r8,rfl,h45,h9,I9⟩
   have e9:Lf=Lb:=inv_eq I4 I9 fun x=>List.mem_reverse.symm
   subst e9
   have zf:=reg_sz I4.1
   rcases h45 with ⟨rfl,rfl⟩ | ⟨rfl,rfl⟩ <;> rcases h9 with rfl | rfl
   all_goals (
    walk_at "dl"
    refine ⟨Lf,rfl,by omega,fun s hs=>⟨(zf s hs).1,szs_mono (zf s hs).2 (by decide)⟩,I4.1.reg,?_⟩
    walk_at "dl"
    exact h)
end Law
def PySem.W.Fast.tw6515193581334687998:Nat:=0
def PySem.W.Fast.tw5860676823228106750:Nat:=0
def PySem.W.Fast.tw14043252297243379843:Nat:=0
def PySem.W.Fast.tw4752060276379941008:Nat:=0
def PySem.W.Fast.tw5135306194585610907:Nat:=0
def PySem.W.Fast.tw9424543021155182413:Nat:=0
def PySem.W.Fast.tw18234411631645409089:Nat:=0
def PySem.W.Fast.tw10271844234893795956:Nat:=0
def PySem.W.Fast.tw8184575832431308309:Nat:=0
def PySem.W.Fast.tw9811518868122440389:Nat:=0
namespace Law
open PySem PyProof.Rows L2 DL
set_option maxHeartbeats 4000000
def top (i:Nat):Stmt:=PySem.Challenge.pw_deepspot_k14_whole_clipped_in_any_order.main.body.getD i (.Pass ⟨0,0,0,0⟩)
abbrev s_divisor:Stmt:=top 4
theorem sc_divisor:FnScope ["one","other","greater","lesser","rest"] ["one","other"] (defScope s_divisor):=⟨rfl,rfl,rfl,by decide +kernel,rfl,by decide +kernel,by decide +kernel⟩
theorem b_divisor {P:Program} {w:World} {K:PySem.W.Frag} {mg:Str->Option Value} {base:Heap} (m_abs:mg "abs"=none) {f:Addr} {cdv:Value} {A:Around} {outer:List Env} {s:Shared} {H:Hp} {E:XK} (hr:Room 0 (A.deeper (envOfC "divisor" (defScope s_divisor) s.heap.objs.size f cdv))) :
  PSs (cxOf CX0 P w K mg base ["one","other","greater","lesser","rest"] "divisor" (defScope s_divisor) f cdv A outer s H E).nox (defBody s_divisor) (liftS K H w_divisor):=
 (dss_cons (ds_set (i:=2) sc_divisor.nd (de_abs m_abs (da_cons (dv 0) da_nil)))
 (dss_cons (ds_set (i:=3) sc_divisor.nd (de_abs m_abs (da_cons (dv 1) da_nil)))
 (dss_consM (ds_while PassesOwn.never (dt_ne hr (dv 3) de_int) (dss_cons (ds_set (i:=4) sc_divisor.nd (de_mod (dv 2) (dv 3)))
 (dss_cons (ds_set (i:=2) sc_divisor.nd (dv 3))
 (dss_one (ds_set (i:=3) sc_divisor.nd (dv 4))))))
 (dss_one (ds_retV (pv 2))))))
abbrev s_ratio:Stmt:=top 5
theorem sc_ratio:FnScope ["top","bottom","common"] ["top","bottom"] (defScope s_ratio):=⟨rfl,rfl,rfl,by decide +kernel,rfl,by decide +kernel,by decide +kernel⟩
theorem b_ratio {P:Program} {w:World} {K:PySem.W.Frag} {mg:Str->Option Value} {base:Heap} (c_divisor:Callee P w K mg base 1 "divisor" sp_divisor) {f:Addr} {cdv:Value} {A:Around} {outer:List Env} {s:Shared} {H:Hp} {E:XK} (hr:Room 1 (A.deeper (envOfC "ratio" (defScope s_ratio) s.heap.objs.size f cdv))) :
  PSs (cxOf CX0 P w K mg base ["top","bottom","common"] "ratio" (defScope s_ratio) f cdv A outer s H E).nox (defBody s_ratio) (liftS K H w_ratio):=
 (dss_cons (ds_if (dt_eq hr (dv 1) de_int) (dss_one ds_never) dss_nil)
 (dss_cons (ds_set (i:=2) sc_ratio.nd (de_call c_divisor (hr.mono (by decide)) rfl (da_cons (dv 0) (da_cons (dv 1) da_nil))))
 (dss_consM (ds_if (dt_lt (dv 1) de_int) (dss_one (ds_set (i:=2) sc_ratio.nd (de_neg (dv 2)))) dss_nil)
 (dss_one (ds_ret (de_tup (da_cons (de_fdiv (dv 0) (dv 2)) (da_cons (de_fdiv (dv 1) (dv 2)) da_nil))))))))
abbrev s_below:Stmt:=top 6
theorem sc_below:FnScope ["one","other"] ["one","other"] (defScope s_below):=⟨rfl,rfl,rfl,by decide +kernel,rfl,by decide +kernel,by decide +kernel⟩
theorem b_below {P:Program} {w:World} {K:PySem.W.Frag} {mg:Str->Option Value} {base:Heap} {f:Addr} {cdv:Value} {A:Around} {outer:List Env} {s:Shared} {H:Hp} {E:XK} (hr:Room 0 (A.deeper (envOfC "below" (defScope s_below) s.heap.objs.size f cdv))) :
  PSs (cxOf CX0 P w K mg base ["one","other"] "below" (defScope s_below) f cdv A outer s H E).nox (defBody s_below) (liftS K H w_below):=
 (dss_one (ds_ret (de_lt (de_mul (de_ix (dv 0) de_int) (de_ix (dv 1) de_int)) (de_mul (de_ix (dv 1) de_int) (de_ix (dv 0) de_int)))))
abbrev s_as_spot:Stmt:=top 8
theorem sc_as_spot:FnScope ["point"] ["point"] (defScope s_as_spot):=⟨rfl,rfl,rfl,by decide +kernel,rfl,by decide +kernel,by decide +kernel⟩
theorem b_as_spot {P:Program} {w:World} {K:PySem.W.Frag} {mg:Str->Option Value} {base:Heap} {f:Addr} {cdv:Value} {A:Around} {outer:List Env} {s:Shared} {H:Hp} {E:XK} (hr:Room 0 (A.deeper (envOfC "as_spot" (defScope s_as_spot) s.heap.objs.size f cdv))) :
  PSs (cxOf CX0 P w K mg base ["point"] "as_spot" (defScope s_as_spot) f cdv A outer s H E).nox (defBody s_as_spot) (liftS K H w_as_spot):=
 (dss_one (ds_ret (de_tup (da_cons (de_tup (da_cons (de_ix (dv 0) de_int) (da_cons de_int da_nil))) (da_cons (de_tup (da_cons (de_ix (dv 0) de_int) (da_cons de_int da_nil))) da_nil)))))
abbrev s_bottoms:Stmt:=top 9
theorem sc_bottoms:FnScope ["spot"] ["spot"] (defScope s_bottoms):=⟨rfl,rfl,rfl,by decide +kernel,rfl,by decide +kernel,by decide +kernel⟩
theorem b_bottoms {P:Program} {w:World} {K:PySem.W.Frag} {mg:Str->Option Value} {base:Heap} {f:Addr} {cdv:Value} {A:Around} {outer:List Env} {s:Shared} {H:Hp} {E:XK} (hr:Room 0 (A.deeper (envOfC "bottoms" (defScope s_bottoms) s.heap.objs.size f cdv))) :
  PSs (cxOf CX0 P w K mg base ["spot"] "bottoms" (defScope s_bottoms) f cdv A outer s H E).nox (defBody s_bottoms) (liftS K H w_bottoms):=
 (dss_one (ds_ret (de_mul (de_ix (de_ix (dv 0) de_int) de_int) (de_ix (de_ix (dv 0) de_int) de_int))))
abbrev s_excess:Stmt:=top 10
theorem sc_excess:FnScope ["half","spot","x","y"] ["half","spot"] (defScope s_excess):=⟨rfl,rfl,rfl,by decide +kernel,rfl,by decide +kernel,by decide +kernel⟩
theorem b_excess {P:Program} {w:World} {K:PySem.W.Frag} {mg:Str->Option Value} {base:Heap} (c_bottoms:Callee P w K mg base 1 "bottoms" sp_bottoms) {f:Addr} {cdv:Value} {A:Around} {outer:List Env} {s:Shared} {H:Hp} {E:XK} (hr:Room 1 (A.deeper (envOfC "excess" (defScope s_excess) s.heap.objs.size f cdv))) :
  PSs (cxOf CX0 P w K mg base ["half","spot","x","y"] "excess" (defScope s_excess) f cdv A outer s H E).nox (defBody s_excess) (liftS K H w_excess):=
 (dss_cons (ds_set (i:=2) sc_excess.nd (de_ix (dv 1) de_int))
 (dss_cons (ds_set (i:=3) sc_excess.nd (de_ix (dv 1) de_int))
 (dss_one (ds_ret (de_sub (de_add (de_mul (de_mul (de_ix (dv 0) de_int) (de_ix (dv 2) de_int)) (de_ix (dv 3) de_int)) (de_mul (de_mul (de_ix (dv 0) de_int) (de_ix (dv 3) de_int)) (de_ix (dv 2) de_int))) (de_mul (de_ix (dv 0) de_int) (de_call c_bottoms (hr.mono (by decide)) rfl (da_cons (dv 1) da_nil))))))))
abbrev s_sign:Stmt:=top 11
theorem sc_sign:FnScope ["number"] ["number"] (defScope s_sign):=⟨rfl,rfl,rfl,by decide +kernel,rfl,by decide +kernel,by decide +kernel⟩
theorem b_sign {P:Program} {w:World} {K:PySem.W.Frag} {mg:Str->Option Value} {base:Heap} {f:Addr} {cdv:Value} {A:Around} {outer:List Env} {s:Shared} {H:Hp} {E:XK} (hr:Room 0 (A.deeper (envOfC "sign" (defScope s_sign) s.heap.objs.size f cdv))) :
  PSs (cxOf CX0 P w K mg base ["number"] "sign" (defScope s_sign) f cdv A outer s H E).nox (defBody s_sign) (liftS K H w_sign):=
 (dss_cons (ds_if (dt_gt (dv 0) de_int) (dss_one (ds_ret de_int)) dss_nil)
 (dss_cons (ds_if (dt_lt (dv 0) de_int) (dss_one (ds_ret (de_neg de_int))) dss_nil)
 (dss_one (ds_ret de_int))))
abbrev s_side:Stmt:=top 12
theorem sc_side:FnScope ["half","spot"] ["half","spot"] (defScope s_side):=⟨rfl,rfl,rfl,by decide +kernel,rfl,by decide +kernel,by decide +kernel⟩
theorem b_side {P:Program} {w:World} {K:PySem.W.Frag} {mg:Str->Option Value} {base:Heap} (c_sign:Callee P w K mg base 1 "sign" sp_sign) (c_excess:Callee P w K mg base 2 "excess" sp_excess) {f:Addr} {cdv:Value} {A:Around} {outer:List Env} {s:Shared} {H:Hp} {E:XK} (hr:Room 2 (A.deeper (envOfC "side" (defScope s_side) s.heap.objs.size f cdv))) :
  PSs (cxOf CX0 P w K mg base ["half","spot"] "side" (defScope s_side) f cdv A outer s H E).nox (defBody s_side) (liftS K H w_side):=
 (dss_one (ds_ret (de_call c_sign (hr.mono (by decide)) rfl (da_cons (de_call c_excess (hr.mono (by decide)) rfl (da_cons (dv 0) (da_cons (dv 1) da_nil))) da_nil))))
abbrev s_lesser:Stmt:=top 14
theorem sc_lesser:FnScope ["one","other"] ["one","other"] (defScope s_lesser):=⟨rfl,rfl,rfl,by decide +kernel,rfl,by decide +kernel,by decide +kernel⟩
theorem b_lesser {P:Program} {w:World} {K:PySem.W.Frag} {mg:Str->Option Value} {base:Heap} (c_below:Callee P w K mg base 1 "below" sp_below) {f:Addr} {cdv:Value} {A:Around} {outer:List Env} {s:Shared} {H:Hp} {E:XK} (hr:Room 1 (A.deeper (envOfC "lesser" (defScope s_lesser) s.heap.objs.size f cdv))) :
  PSs (cxOf CX0 P w K mg base ["one","other"] "lesser" (defScope s_lesser) f cdv A outer s H E).nox (defBody s_lesser) (liftS K H w_lesser):=
 (dss_cons (ds_if (dt_eq hr (de_ix (dv 0) de_int) (de_ix (dv 1) de_int)) (dss_one (ds_ret (de_call c_below (hr.mono (by decide)) rfl (da_cons (de_ix (dv 0) de_int) (da_cons (de_ix (dv 1) de_int) da_nil))))) dss_nil)
 (dss_one (ds_ret (de_call c_below (hr.mono (by decide)) rfl (da_cons (de_ix (dv 0) de_int) (da_cons (de_ix (dv 1) de_int) da_nil))))))
abbrev s_stretched:Stmt:=top 15
theorem sc_stretched:FnScope ["spot"] ["spot"] (defScope s_stretched):=⟨rfl,rfl,rfl,by decide +kernel,rfl,by decide +kernel,by decide +kernel⟩
theorem b_stretched {P:Program} {w:World} {K:PySem.W.Frag} {mg:Str->Option Value} {base:Heap} (c_bottoms:Callee P w K mg base 1 "bottoms" sp_bottoms) {f:Addr} {cdv:Value} {A:Around} {outer:List Env} {s:Shared} {H:Hp} {E:XK} (hr:Room 1 (A.deeper (envOfC "stretched" (defScope s_stretched) s.heap.objs.size f cdv))) :
  PSs (cxOf CX0 P w K mg base ["spot"] "stretched" (defScope s_stretched) f cdv A outer s H E).nox (defBody s_stretched) (liftS K H w_stretched):=
 (dss_one (ds_ret (de_tup (da_cons (de_mul (de_ix (de_ix (dv 0) de_int) de_int) (de_ix (de_ix (dv 0) de_int) de_int)) (da_cons (de_mul (de_ix (de_ix (dv 0) de_int) de_int) (de_ix (de_ix (dv 0) de_int) de_int)) (da_cons (de_call c_bottoms (hr.mono (by decide)) rfl (da_cons (dv 0) da_nil)) da_nil))))))
abbrev s_turn:Stmt:=top 16
theorem sc_turn:FnScope ["one","other","third","here","there","a","b","c"] ["one","other","third"] (defScope s_turn):=⟨rfl,rfl,rfl,by decide +kernel,rfl,by decide +kernel,by decide +kernel⟩
theorem b_turn {P:Program} {w:World} {K:PySem.W.Frag} {mg:Str->Option Value} {base:Heap} (c_stretched:Callee P w K mg base 2 "stretched" sp_stretched) (c_excess:Callee P w K mg base 2 "excess" sp_excess) {f:Addr} {cdv:Value} {A:Around} {outer:List Env} {s:Shared} {H:Hp} {E:XK} (hr:Room 2 (A.deeper (envOfC "turn" (defScope s_turn) s.heap.objs.size f cdv))) :
  PSs (cxOf CX0 P w K mg base ["one","other","third","here","there","a","b","c"] "turn" (defScope s_turn) f cdv A outer s H E).nox (defBody s_turn) (liftS K H w_turn):=
 (dss_cons (ds_set (i:=3) sc_turn.nd (de_call c_stretched (hr.mono (by decide)) rfl (da_cons (dv 0) da_nil)))
 (dss_cons (ds_set (i:=4) sc_turn.nd (de_call c_stretched (hr.mono (by decide)) rfl (da_cons (dv 1) da_nil)))
 (dss_cons (ds_set (i:=5) sc_turn.nd (de_sub (de_mul (de_ix (dv 3) de_int) (de_ix (dv 4) de_int)) (de_mul (de_ix (dv 3) de_int) (de_ix (dv 4) de_int))))
 (dss_cons (ds_set (i:=6) sc_turn.nd (de_sub (de_mul (de_ix (dv 3) de_int) (de_ix (dv 4) de_int)) (de_mul (de_ix (dv 3) de_int) (de_ix (dv 4) de_int))))
 (dss_cons (ds_set (i:=7) sc_turn.nd (de_sub (de_mul (de_ix (dv 3) de_int) (de_ix (dv 4) de_int)) (de_mul (de_ix (dv 3) de_int) (de_ix (dv 4) de_int))))
 (dss_one (ds_ret (de_call c_excess (hr.mono (by decide)) rfl (da_cons (de_tup (da_cons (dv 5) (da_cons (dv 6) (da_cons (dv 7) da_nil)))) (da_cons (dv 2) da_nil))))))))))
abbrev s_chain:Stmt:=top 17
theorem sc_chain:FnScope ["spots","kept","spot"] ["spots"] (defScope s_chain):=⟨rfl,rfl,rfl,by decide +kernel,rfl,by decide +kernel,by decide +kernel⟩
theorem b_chain {P:Program} {w:World} {K:PySem.W.Frag} {mg:Str->Option Value} {base:Heap} (m_len:mg "len"=none) (c_turn:Callee P w K mg base 3 "turn" sp_turn) {f:Addr} {cdv:Value} {A:Around} {outer:List Env} {s:Shared} {H:Hp} {E:XK} (hr:Room 3 (A.deeper (envOfC "chain" (defScope s_chain) s.heap.objs.size f cdv))) :
  PSs (cxOf CX0 P w K mg base ["spots","kept","spot"] "chain" (defScope s_chain) f cdv A outer s H E).nox (defBody s_chain) (liftS K H w_chain):=
 (dss_cons (ds_set (i:=1) sc_chain.nd (de_lst da_nil))
 (dss_consM (ds_for PassesOwn.never (di_list (dv 0)) (dg_name (i:=2) sc_chain.nd) (dss_consM (ds_while PassesOwn.never (dt_1 (PW.pt (dw_and (dt_gt (de_len m_len (da_cons (dv 1) da_nil)) de_int) (dw_and1 (dt_le (de_call c_turn (hr.mono (by decide)) rfl (da_cons (de_ix (dv 1) (de_neg de_int)) (da_cons (de_ix (dv 1) (de_neg de_int)) (da_cons (dv 2) da_nil)))) de_int))))) (dss_one (ds_pop (i:=1))))
 (dss_one (ds_append (i:=1) (dv 2)))))
 (dss_one (ds_retV (pv 1)))))
abbrev s_hull:Stmt:=top 18
theorem sc_hull:FnScope ["points","spots","under","above"] ["points"] (defScope s_hull):=⟨rfl,rfl,rfl,by decide +kernel,rfl,by decide +kernel,by decide +kernel⟩
theorem b_hull {P:Program} {w:World} {K:PySem.W.Frag} {mg:Str->Option Value} {base:Heap} (m_sorted:mg "sorted"=none) (m_set:mg "set"=none) (m_len:mg "len"=none) (m_list:mg "list"=none) (m_reversed:mg "reversed"=none) (c_as_spot:Callee P w K mg base 1 "as_spot" sp_as_spot) (c_chain:Callee P w K mg base 4 "chain" sp_chain) {f:Addr} {cdv:Value} {A:Around} {outer:List Env} {s:Shared} {H:Hp} {E:XK} (hr:Room 4 (A.deeper (envOfC "hull" (defScope s_hull) s.heap.objs.size f cdv))) :
  PSs (cxOf CX0 P w K mg base ["points","spots","under","above"] "hull" (defScope s_hull) f cdv A outer s H E).nox (defBody s_hull) (liftS K H w_hull):=
 (dss_cons (ds_setComp (i:=1) sc_hull.nd (N:=["point"]) (own:=1) (fr:=[]) (NX:=["points","spots","under","above"]) (ar:=defScope s_hull) (by decide +kernel) (di_list (de_sortSet hr m_sorted m_set hr.hd (dv 0))) gok_name (fun _ _ _ _=>(dg_name (i:=0) (show List.Nodup (["point"]:List Str) by decide))) (fun _ _ _ _=>dts_nil) (fun _ _ _ _=>(de_call c_as_spot (hr.mono (by decide)) rfl (da_cons (dv 0) da_nil))))
 (dss_cons (ds_if (dt_lt (de_len m_len (da_cons (dv 1) da_nil)) de_int) (dss_one (ds_retV (pv 1))) dss_nil)
 (dss_cons (ds_set (i:=2) sc_hull.nd (de_call c_chain (hr.mono (by decide)) rfl (da_cons (dv 1) da_nil)))
 (dss_cons (ds_set (i:=3) sc_hull.nd (de_call c_chain (hr.mono (by decide)) rfl (da_cons (de_listRev m_list m_reversed hr.hd (dv 1)) da_nil)))
 (dss_one (ds_ret (de_cat (de_slice (dv 2) do_none (do_some (de_neg de_int))) (de_slice (dv 3) do_none (do_some (de_neg de_int))))))))))
abbrev s_sides:Stmt:=top 19
theorem sc_sides:FnScope ["region"] ["region"] (defScope s_sides):=⟨rfl,rfl,rfl,by decide +kernel,rfl,by decide +kernel,by decide +kernel⟩
theorem b_sides {P:Program} {w:World} {K:PySem.W.Frag} {mg:Str->Option Value} {base:Heap} (m_range:mg "range"=none) (m_len:mg "len"=none) {f:Addr} {cdv:Value} {A:Around} {outer:List Env} {s:Shared} {H:Hp} {E:XK} (hr:Room 0 (A.deeper (envOfC "sides" (defScope s_sides) s.heap.objs.size f cdv))) :
  PSs (cxOf CX0 P w K mg base ["region"] "sides" (defScope s_sides) f cdv A outer s H E).nox (defBody s_sides) (liftS K H w_sides):=
 (dss_one (ds_ret (de_comp (N:=["place","region"]) (own:=1) (fr:=[0]) (NX:=["region"]) (ar:=defScope s_sides) (by decide +kernel) (di_range1 m_range (da_cons (de_len m_len (da_cons (dv 0) da_nil)) da_nil)) gok_name (fun _ _ _ _=>(dg_name (i:=0) (show List.Nodup (["place","region"]:List Str) by decide))) (fun _ _ _ _=>dts_nil) (fun _ _ _ _=>(de_tup (da_cons (de_ix (dv 1) (de_sub (dv 0) de_int)) (da_cons (de_ix (dv 1) (dv 0)) da_nil)))))))
abbrev s_from_least:Stmt:=top 20
theorem sc_from_least:FnScope ["corners","first","place"] ["corners"] (defScope s_from_least):=⟨rfl,rfl,rfl,by decide +kernel,rfl,by decide +kernel,by decide +kernel⟩
theorem b_from_least {P:Program} {w:World} {K:PySem.W.Frag} {mg:Str->Option Value} {base:Heap} (m_range:mg "range"=none) (m_len:mg "len"=none) (c_lesser:Callee P w K mg base 2 "lesser" sp_lesser) {f:Addr} {cdv:Value} {A:Around} {outer:List Env} {s:Shared} {H:Hp} {E:XK} (hr:Room 2 (A.deeper (envOfC "from_least" (defScope s_from_least) s.heap.objs.size f cdv))) :
  PSs (cxOf CX0 P w K mg base ["corners","first","place"] "from_least" (defScope s_from_least) f cdv A outer s H E).nox (defBody s_from_least) (liftS K H w_from_least):=
 (dss_cons (ds_set (i:=1) sc_from_least.nd de_int)
 (dss_consM (ds_for PassesOwn.never (di_range1 m_range (da_cons (de_len m_len (da_cons (dv 0) da_nil)) da_nil)) (dg_name (i:=2) sc_from_least.nd) (dss_one (ds_if (dt_val (de_call c_lesser (hr.mono (by decide)) rfl (da_cons (de_ix (dv 0) (dv 2)) (da_cons (de_ix (dv 0) (dv 1)) da_nil)))) (dss_one (ds_set (i:=1) sc_from_least.nd (dv 2))) dss_nil)))
 (dss_one (ds_ret (de_cat (de_slice (dv 0) (do_some (dv 1)) do_none) (de_slice (dv 0) do_none (do_some (dv 1))))))))
abbrev s_mixed:Stmt:=top 21
theorem sc_mixed:FnScope ["one","one_weight","other","other_weight","top"] ["one","one_weight","other","other_weight"] (defScope s_mixed):=⟨rfl,rfl,rfl,by decide +kernel,rfl,by decide +kernel,by decide +kernel⟩
theorem b_mixed {P:Program} {w:World} {K:PySem.W.Frag} {mg:Str->Option Value} {base:Heap} (c_ratio:Callee P w K mg base 2 "ratio" sp_ratio) {f:Addr} {cdv:Value} {A:Around} {outer:List Env} {s:Shared} {H:Hp} {E:XK} (hr:Room 2 (A.deeper (envOfC "mixed" (defScope s_mixed) s.heap.objs.size f cdv))) :
  PSs (cxOf CX0 P w K mg base ["one","one_weight","other","other_weight","top"] "mixed" (defScope s_mixed) f cdv A outer s H E).nox (defBody s_mixed) (liftS K H w_mixed):=
 (dss_cons (ds_set (i:=4) sc_mixed.nd (de_add (de_mul (de_mul (de_ix (dv 0) de_int) (de_ix (dv 2) de_int)) (dv 1)) (de_mul (de_mul (de_ix (dv 2) de_int) (de_ix (dv 0) de_int)) (dv 3))))
 (dss_one (ds_ret (de_call c_ratio (hr.mono (by decide)) rfl (da_cons (dv 4) (da_cons (de_mul (de_mul (de_ix (dv 0) de_int) (de_ix (dv 2) de_int)) (de_add (dv 1) (dv 3))) da_nil))))))
abbrev s_crossing:Stmt:=top 22
theorem sc_crossing:FnScope ["half","one","other","one_weight","other_weight","x","y"] ["half","one","other"] (defScope s_crossing):=⟨rfl,rfl,rfl,by decide +kernel,rfl,by decide +kernel,by decide +kernel⟩
theorem b_crossing {P:Program} {w:World} {K:PySem.W.Frag} {mg:Str->Option Value} {base:Heap} (m_abs:mg "abs"=none) (c_excess:Callee P w K mg base 2 "excess" sp_excess) (c_bottoms:Callee P w K mg base 1 "bottoms" sp_bottoms) (c_mixed:Callee P w K mg base 3 "mixed" sp_mixed) {f:Addr} {cdv:Value} {A:Around} {outer:List Env} {s:Shared} {H:Hp} {E:XK} (hr:Room 3 (A.deeper (envOfC "crossing" (defScope s_crossing) s.heap.objs.size f cdv))) :
  PSs (cxOf CX0 P w K mg base ["half","one","other","one_weight","other_weight","x","y"] "crossing" (defScope s_crossing) f cdv A outer s H E).nox (defBody s_crossing) (liftS K H w_crossing):=
 (dss_cons (ds_set (i:=3) sc_crossing.nd (de_mul (de_abs m_abs (da_cons (de_call c_excess (hr.mono (by decide)) rfl (da_cons (dv 0) (da_cons (dv 2) da_nil))) da_nil)) (de_call c_bottoms (hr.mono (by decide)) rfl (da_cons (dv 1) da_nil))))
 (dss_cons (ds_set (i:=4) sc_crossing.nd (de_mul (de_abs m_abs (da_cons (de_call c_excess (hr.mono (by decide)) rfl (da_cons (dv 0) (da_cons (dv 1) da_nil))) da_nil)) (de_call c_bottoms (hr.mono (by decide)) rfl (da_cons (dv 2) da_nil))))
 (dss_cons (ds_set (i:=5) sc_crossing.nd (de_call c_mixed (hr.mono (by decide)) rfl (da_cons (de_ix (dv 1) de_int) (da_cons (dv 3) (da_cons (de_ix (dv 2) de_int) (da_cons (dv 4) da_nil))))))
 (dss_cons (ds_set (i:=6) sc_crossing.nd (de_call c_mixed (hr.mono (by decide)) rfl (da_cons (de_ix (dv 1) de_int) (da_cons (dv 3) (da_cons (de_ix (dv 2) de_int) (da_cons (dv 4) da_nil))))))
 (dss_one (ds_ret (de_tup (da_cons (dv 5) (da_cons (dv 6) da_nil)))))))))
abbrev s_clipped:Stmt:=top 23
theorem sc_clipped:FnScope ["region","half","kept","pair","spot"] ["region","half"] (defScope s_clipped):=⟨rfl,rfl,rfl,by decide +kernel,rfl,by decide +kernel,by decide +kernel⟩
theorem b_clipped {P:Program} {w:World} {K:PySem.W.Frag} {mg:Str->Option Value} {base:Heap} (c_sides:Callee P w K mg base 1 "sides" sp_sides) (c_side:Callee P w K mg base 3 "side" sp_side) (c_crossing:Callee P w K mg base 4 "crossing" sp_crossing) (c_from_least:Callee P w K mg base 3 "from_least" sp_from_least) {f:Addr} {cdv:Value} {A:Around} {outer:List Env} {s:Shared} {H:Hp} {E:XK} (hr:Room 4 (A.deeper (envOfC "clipped" (defScope s_clipped) s.heap.objs.size f cdv))) :
  PSs (cxOf CX0 P w K mg base ["region","half","kept","pair","spot"] "clipped" (defScope s_clipped) f cdv A outer s H E).nox (defBody s_clipped) (liftS K H w_clipped):=
 (dss_cons (ds_set (i:=2) sc_clipped.nd (de_lst da_nil))
 (dss_consM (ds_for PassesOwn.never (di_list (de_call c_sides (hr.mono (by decide)) rfl (da_cons (dv 0) da_nil))) (dg_name (i:=3) sc_clipped.nd) (dss_consM (ds_if (dt_lt (de_mul (de_call c_side (hr.mono (by decide)) rfl (da_cons (dv 1) (da_cons (de_ix (dv 3) de_int) da_nil))) (de_call c_side (hr.mono (by decide)) rfl (da_cons (dv 1) (da_cons (de_ix (dv 3) de_int) da_nil)))) de_int) (dss_cons (ds_set (i:=4) sc_clipped.nd (de_call c_crossing (hr.mono (by decide)) rfl (da_cons (dv 1) (da_cons (de_ix (dv 3) de_int) (da_cons (de_ix (dv 3) de_int) da_nil)))))
 (dss_one (ds_if (dt_notIn hr (dv 4) (dv 2)) (dss_one (ds_append (i:=2) (dv 4))) dss_nil))) dss_nil)
 (dss_one (ds_if (dt_ge (de_call c_side (hr.mono (by decide)) rfl (da_cons (dv 1) (da_cons (de_ix (dv 3) de_int) da_nil))) de_int) (dss_one (ds_append (i:=2) (de_ix (dv 3) de_int))) dss_nil))))
 (dss_one (ds_ret (de_call c_from_least (hr.mono (by decide)) rfl (da_cons (dv 2) da_nil))))))
abbrev s_l_cell_at:Stmt:=top 25
theorem sc_l_cell_at:FnScope ["_law_script","_law_k"] ["_law_script","_law_k"] (defScope s_l_cell_at):=⟨rfl,rfl,rfl,by decide +kernel,rfl,by decide +kernel,by decide +kernel⟩
theorem b_l_cell_at {P:Program} {w:World} {K:PySem.W.Frag} {mg:Str->Option Value} {base:Heap} (m_len:mg "len"=none) {f:Addr} {cdv:Value} {A:Around} {outer:List Env} {s:Shared} {H:Hp} {E:XK} (hr:Room 0 (A.deeper (envOfC "_law_cell_at" (defScope s_l_cell_at) s.heap.objs.size f cdv))) :
  PSs (cxOf CX0 P w K mg base ["_law_script","_law_k"] "_law_cell_at" (defScope s_l_cell_at) f cdv A outer s H E).nox (defBody s_l_cell_at) (liftS K H w_l_cell_at):=
 (dss_cons (ds_if (dt_lt (dv 1) (de_len m_len (da_cons (dv 0) da_nil))) (dss_one (ds_ret (de_ix (dv 0) (dv 1)))) dss_nil)
 (dss_one (ds_ret de_int)))
abbrev s_l_whole:Stmt:=top 26
theorem sc_l_whole:FnScope ["_law_found"] ["_law_found"] (defScope s_l_whole):=⟨rfl,rfl,rfl,by decide +kernel,rfl,by decide +kernel,by decide +kernel⟩
theorem b_l_whole {P:Program} {w:World} {K:PySem.W.Frag} {mg:Str->Option Value} {base:Heap} (m_isinstance:mg "isinstance"=none) (m_int:mg "int"=none) (m_bool:mg "bool"=none) {f:Addr} {cdv:Value} {A:Around} {outer:List Env} {s:Shared} {H:Hp} {E:XK} (hr:Room 0 (A.deeper (envOfC "_law_whole" (defScope s_l_whole) s.heap.objs.size f cdv))) :
  PSs (cxOf CX0 P w K mg base ["_law_found"] "_law_whole" (defScope s_l_whole) f cdv A outer s H E).nox (defBody s_l_whole) (liftS K H w_l_whole):=
 (dss_one (ds_ret (de_and (de_is_int m_isinstance m_int (dv 0)) (de_one (de_not (de_is_bool m_isinstance m_bool (dv 0)))))))
abbrev s_l_block:Stmt:=top 27
theorem sc_l_block:FnScope ["_law_script","_law_k","_law_cell","_law_j"] ["_law_script","_law_k"] (defScope s_l_block):=⟨rfl,rfl,rfl,by decide +kernel,rfl,by decide +kernel,by decide +kernel⟩
theorem b_l_block {P:Program} {w:World} {K:PySem.W.Frag} {mg:Str->Option Value} {base:Heap} (m_len:mg "len"=none) (m_range:mg "range"=none) {f:Addr} {cdv:Value} {A:Around} {outer:List Env} {s:Shared} {H:Hp} {E:XK} (hr:Room 0 (A.deeper (envOfC "_law_block" (defScope s_l_block) s.heap.objs.size f cdv))) :
  PSs (cxOf CX0 P w K mg base ["_law_script","_law_k","_law_cell","_law_j"] "_law_block" (defScope s_l_block) f cdv A outer s H E).nox (defBody s_l_block) (liftS K H w_l_block):=
 (dss_cons (ds_set (i:=2) sc_l_block.nd de_int)
 (dss_consM (ds_if (dt_lt (de_add de_int (de_mod (de_fdiv (dv 1) de_int) de_int)) (de_len m_len (da_cons (dv 0) da_nil))) (dss_one (ds_set (i:=2) sc_l_block.nd (de_fdiv (de_ix (dv 0) (de_add de_int (de_mod (de_fdiv (dv 1) de_int) de_int))) (de_pow de_int de_int)))) dss_nil)
 (dss_consM (ds_for PassesOwn.never (di_range1 m_range (da_cons (de_mod (dv 1) de_int) da_nil)) (dg_name (i:=3) sc_l_block.nd) (dss_one (ds_set (i:=2) sc_l_block.nd (de_fdiv (dv 2) de_int))))
 (dss_one (ds_retV (pv 2))))))
abbrev s_l_mixed:Stmt:=top 28
theorem sc_l_mixed:FnScope ["_law_script","_law_k","_law_cell","_law_number"] ["_law_script","_law_k"] (defScope s_l_mixed):=⟨rfl,rfl,rfl,by decide +kernel,rfl,by decide +kernel,by decide +kernel⟩
theorem b_l_mixed {P:Program} {w:World} {K:PySem.W.Frag} {mg:Str->Option Value} {base:Heap} (m_len:mg "len"=none) (m_min:mg "min"=none) (c_l_block:Callee P w K mg base 1 "_law_block" sp_l_block) {f:Addr} {cdv:Value} {A:Around} {outer:List Env} {s:Shared} {H:Hp} {E:XK} (hr:Room 1 (A.deeper (envOfC "_law_mixed" (defScope s_l_mixed) s.heap.objs.size f cdv))) :
  PSs (cxOf CX0 P w K mg base ["_law_script","_law_k","_law_cell","_law_number"] "_law_mixed" (defScope s_l_mixed) f cdv A outer s H E).nox (defBody s_l_mixed) (liftS K H w_l_mixed):=
 (dss_cons (ds_set (i:=2) sc_l_mixed.nd de_int)
 (dss_consM (ds_if (dt_gt (de_len m_len (da_cons (dv 0) da_nil)) de_int) (dss_one (ds_set (i:=2) sc_l_mixed.nd (de_ix (dv 0) de_int))) dss_nil)
 (dss_cons (ds_if (dt_1 (PW.pt (dw_and (dt_eq hr (de_mod (de_fdiv (dv 2) (de_pow de_int de_int)) de_int) de_int) (dw_and1 (dt_ne hr (de_call c_l_block (hr.mono (by decide)) rfl (da_cons (dv 0) (da_cons (dv 1) da_nil))) de_int))))) (dss_one (ds_ret (de_mod (de_call c_l_block (hr.mono (by decide)) rfl (da_cons (dv 0) (da_cons (dv 1) da_nil))) de_int))) dss_nil)
 (dss_consM (ds_if (dt_gt (de_len m_len (da_cons (dv 0) da_nil)) de_int) (dss_one (ds_set (i:=2) sc_l_mixed.nd (de_ix (dv 0) (de_mod (dv 1) (de_min2 m_min (da_cons de_int (da_cons (de_len m_len (da_cons (dv 0) da_nil)) da_nil))))))) dss_nil)
 (dss_cons (ds_set (i:=3) sc_l_mixed.nd (de_add (de_mod (dv 2) (de_pow de_int de_int)) (de_mul de_int (de_add (dv 1) de_int))))
 (dss_cons (ds_set (i:=3) sc_l_mixed.nd (de_add (de_mod (de_mul (dv 3) (dv 3)) de_int) (de_mul de_int (dv 1))))
 (dss_one (ds_ret (de_mod (de_mul (dv 3) (dv 3)) de_int)))))))))
abbrev s_l_divisor:Stmt:=top 29
theorem sc_l_divisor:FnScope ["_law_one","_law_other"] ["_law_one","_law_other"] (defScope s_l_divisor):=⟨rfl,rfl,rfl,by decide +kernel,rfl,by decide +kernel,by decide +kernel⟩
theorem b_l_divisor {P:Program} {w:World} {K:PySem.W.Frag} {mg:Str->Option Value} {base:Heap} (m_abs:mg "abs"=none) {f:Addr} {cdv:Value} {A:Around} {outer:List Env} {s:Shared} {H:Hp} {E:XK} (hr:Room 0 (A.deeper (envOfC "_law_divisor" (defScope s_l_divisor) s.heap.objs.size f cdv))) :
  PSs (cxOf CX0 P w K mg base ["_law_one","_law_other"] "_law_divisor" (defScope s_l_divisor) f cdv A outer s H E).nox (defBody s_l_divisor) (liftS K H w_l_divisor):=
 (dss_cons (ds_set (i:=0) sc_l_divisor.nd (de_abs m_abs (da_cons (dv 0) da_nil)))
 (dss_cons (ds_set (i:=1) sc_l_divisor.nd (de_abs m_abs (da_cons (dv 1) da_nil)))
 (dss_consM (ds_while PassesOwn.never (dt_gt (dv 1) de_int) (dss_one (ds_par (i:=0) (j:=1) sc_l_divisor.nd (da_cons (dv 1) (da_cons (de_mod (dv 0) (dv 1)) da_nil)))))
 (dss_one (ds_retV (pv 0))))))
abbrev s_l_flat:Stmt:=top 30
theorem sc_l_flat:FnScope ["_law_spot","_law_x","_law_y"] ["_law_spot"] (defScope s_l_flat):=⟨rfl,rfl,rfl,by decide +kernel,rfl,by decide +kernel,by decide +kernel⟩
theorem b_l_flat {P:Program} {w:World} {K:PySem.W.Frag} {mg:Str->Option Value} {base:Heap} {f:Addr} {cdv:Value} {A:Around} {outer:List Env} {s:Shared} {H:Hp} {E:XK} (hr:Room 0 (A.deeper (envOfC "_law_flat" (defScope s_l_flat) s.heap.objs.size f cdv))) :
  PSs (cxOf CX0 P w K mg base ["_law_spot","_law_x","_law_y"] "_law_flat" (defScope s_l_flat) f cdv A outer s H E).nox (defBody s_l_flat) (liftS K H w_l_flat):=
 (dss_cons (ds_unp (dv 0) (dg_tup (dgs_cons (dg_name (i:=1) sc_l_flat.nd) (dgs_cons (dg_name (i:=2) sc_l_flat.nd) dgs_nil)) (len_cons (len_cons len_nil))))
 (dss_one (ds_ret (de_tup (da_cons (de_mul (de_ix (dv 1) de_int) (de_ix (dv 2) de_int)) (da_cons (de_mul (de_ix (dv 2) de_int) (de_ix (dv 1) de_int)) (da_cons (de_mul (de_ix (dv 1) de_int) (de_ix (dv 2) de_int)) da_nil)))))))
abbrev s_l_turn:Stmt:=top 31
theorem sc_l_turn:FnScope ["_law_one","_law_two","_law_three","_law_found"] ["_law_one","_law_two","_law_three"] (defScope s_l_turn):=⟨rfl,rfl,rfl,by decide +kernel,rfl,by decide +kernel,by decide +kernel⟩
theorem b_l_turn {P:Program} {w:World} {K:PySem.W.Frag} {mg:Str->Option Value} {base:Heap} {f:Addr} {cdv:Value} {A:Around} {outer:List Env} {s:Shared} {H:Hp} {E:XK} (hr:Room 0 (A.deeper (envOfC "_law_turn" (defScope s_l_turn) s.heap.objs.size f cdv))) :
  PSs (cxOf CX0 P w K mg base ["_law_one","_law_two","_law_three","_law_found"] "_law_turn" (defScope s_l_turn) f cdv A outer s H E).nox (defBody s_l_turn) (liftS K H w_l_turn):=
 (dss_cons (ds_set (i:=3) sc_l_turn.nd (de_mul (de_ix (dv 0) de_int) (de_sub (de_mul (de_ix (dv 1) de_int) (de_ix (dv 2) de_int)) (de_mul (de_ix (dv 2) de_int) (de_ix (dv 1) de_int)))))
 (dss_cons (ds_set (i:=3) sc_l_turn.nd (de_sub (dv 3) (de_mul (de_ix (dv 0) de_int) (de_sub (de_mul (de_ix (dv 1) de_int) (de_ix (dv 2) de_int)) (de_mul (de_ix (dv 2) de_int) (de_ix (dv 1) de_int))))))
 (dss_one (ds_ret (de_add (dv 3) (de_mul (de_ix (dv 0) de_int) (de_sub (de_mul (de_ix (dv 1) de_int) (de_ix (dv 2) de_int)) (de_mul (de_ix (dv 2) de_int) (de_ix (dv 1) de_int)))))))))
abbrev s_l_before:Stmt:=top 32
theorem sc_l_before:FnScope ["_law_one","_law_other"] ["_law_one","_law_other"] (defScope s_l_before):=⟨rfl,rfl,rfl,by decide +kernel,rfl,by decide +kernel,by decide +kernel⟩
theorem b_l_before {P:Program} {w:World} {K:PySem.W.Frag} {mg:Str->Option Value} {base:Heap} {f:Addr} {cdv:Value} {A:Around} {outer:List Env} {s:Shared} {H:Hp} {E:XK} (hr:Room 0 (A.deeper (envOfC "_law_before" (defScope s_l_before) s.heap.objs.size f cdv))) :
  PSs (cxOf CX0 P w K mg base ["_law_one","_law_other"] "_law_before" (defScope s_l_before) f cdv A outer s H E).nox (defBody s_l_before) (liftS K H w_l_before):=
 (dss_cons (ds_if (dt_ne hr (de_mul (de_ix (dv 0) de_int) (de_ix (dv 1) de_int)) (de_mul (de_ix (dv 1) de_int) (de_ix (dv 0) de_int))) (dss_one (ds_ret (de_lt (de_mul (de_ix (dv 0) de_int) (de_ix (dv 1) de_int)) (de_mul (de_ix (dv 1) de_int) (de_ix (dv 0) de_int))))) dss_nil)
 (dss_one (ds_ret (de_lt (de_mul (de_ix (dv 0) de_int) (de_ix (dv 1) de_int)) (de_mul (de_ix (dv 1) de_int) (de_ix (dv 0) de_int))))))
abbrev s_l_is_spot:Stmt:=top 33
theorem sc_l_is_spot:FnScope ["_law_found","_law_one"] ["_law_found"] (defScope s_l_is_spot):=⟨rfl,rfl,rfl,by decide +kernel,rfl,by decide +kernel,by decide +kernel⟩
theorem b_l_is_spot {P:Program} {w:World} {K:PySem.W.Frag} {mg:Str->Option Value} {base:Heap} (m_isinstance:mg "isinstance"=none) (m_tuple:mg "tuple"=none) (m_len:mg "len"=none) (c_l_whole:Callee P w K mg base 1 "_law_whole" sp_l_whole) (c_l_divisor:Callee P w K mg base 1 "_law_divisor" sp_l_divisor) {f:Addr} {cdv:Value} {A:Around} {outer:List Env} {s:Shared} {H:Hp} {E:XK} (hr:Room 1 (A.deeper (envOfC "_law_is_spot" (defScope s_l_is_spot) s.heap.objs.size f cdv))) :
  PSs (cxOf CX0 P w K mg base ["_law_found","_law_one"] "_law_is_spot" (defScope s_l_is_spot) f cdv A outer s H E).nox (defBody s_l_is_spot) (liftS K H w_l_is_spot):=
 (dss_cons (ds_if (dt_1 (PW.pt (dw_or (dt_not (dt_val (de_is_tuple m_isinstance m_tuple (dv 0)))) (dw_or1 (dt_ne hr (de_len m_len (da_cons (dv 0) da_nil)) de_int))))) (dss_one (ds_ret de_bl)) dss_nil)
 (dss_consM (ds_for PassesOwn.never (di_tup (dv 0)) (dg_name (i:=1) sc_l_is_spot.nd) (dss_cons (ds_if (dt_1 (PW.pt (dw_or (dt_not (dt_val (de_is_tuple m_isinstance m_tuple (dv 1)))) (dw_or (dt_ne hr (de_len m_len (da_cons (dv 1) da_nil)) de_int) (dw_or (dt_not (dt_val (de_call c_l_whole (hr.mono (by decide)) rfl (da_cons (de_ix (dv 1) de_int) da_nil)))) (dw_or1 (dt_not (dt_val (de_call c_l_whole (hr.mono (by decide)) rfl (da_cons (de_ix (dv 1) de_int) da_nil)))))))))) (dss_one (ds_ret de_bl)) dss_nil)
 (dss_one (ds_if (dt_1 (PW.pt (dw_or (dt_lt (de_ix (dv 1) de_int) de_int) (dw_or1 (dt_ne hr (de_call c_l_divisor (hr.mono (by decide)) rfl (da_cons (de_ix (dv 1) de_int) (da_cons (de_ix (dv 1) de_int) da_nil))) de_int))))) (dss_one (ds_ret de_bl)) dss_nil))))
 (dss_one (ds_ret de_bl))))
abbrev s_l_is_region:Stmt:=top 34
theorem sc_l_is_region:FnScope ["_law_found","_law_spot","_law_flat_here","_law_k","_law_here"] ["_law_found"] (defScope s_l_is_region):=⟨rfl,rfl,rfl,by decide +kernel,rfl,by decide +kernel,by decide +kernel⟩
theorem b_l_is_region {P:Program} {w:World} {K:PySem.W.Frag} {mg:Str->Option Value} {base:Heap} (m_isinstance:mg "isinstance"=none) (m_list:mg "list"=none) (m_range:mg "range"=none) (m_len:mg "len"=none) (c_l_is_spot:Callee P w K mg base 2 "_law_is_spot" sp_l_is_spot) (c_l_flat:Callee P w K mg base 1 "_law_flat" sp_l_flat) (c_l_before:Callee P w K mg base 1 "_law_before" sp_l_before) (c_l_turn:Callee P w K mg base 1 "_law_turn" sp_l_turn) {f:Addr} {cdv:Value} {A:Around} {outer:List Env} {s:Shared} {H:Hp} {E:XK} (hr:Room 2 (A.deeper (envOfC "_law_is_region" (defScope s_l_is_region) s.heap.objs.size f cdv))) :
  PSs (cxOf CX0 P w K mg base ["_law_found","_law_spot","_law_flat_here","_law_k","_law_here"] "_law_is_region" (defScope s_l_is_region) f cdv A outer s H E).nox (defBody s_l_is_region) (liftS K H w_l_is_region):=
 (dss_cons (ds_if (dt_not (dt_val (de_is_list m_isinstance m_list (dv 0)))) (dss_one (ds_ret de_bl)) dss_nil)
 (dss_consM (ds_for PassesOwn.never (di_list (dv 0)) (dg_name (i:=1) sc_l_is_region.nd) (dss_one (ds_if (dt_not (dt_val (de_call c_l_is_spot (hr.mono (by decide)) rfl (da_cons (dv 1) da_nil)))) (dss_one (ds_ret de_bl)) dss_nil)))
 (dss_cons (ds_setComp (i:=2) sc_l_is_region.nd (N:=["_law_spot"]) (own:=1) (fr:=[]) (NX:=["_law_found","_law_spot","_law_flat_here","_law_k","_law_here"]) (ar:=defScope s_l_is_region) (by decide +kernel) (di_list (dv 0)) gok_name (fun _ _ _ _=>(dg_name (i:=0) (show List.Nodup (["_law_spot"]:List Str) by decide))) (fun _ _ _ _=>dts_nil) (fun _ _ _ _=>(de_call c_l_flat (hr.mono (by decide)) rfl (da_cons (dv 0) da_nil))))
 (dss_consM (ds_for PassesOwn.never (di_range2 m_range (da_cons de_int (da_cons (de_len m_len (da_cons (dv 2) da_nil)) da_nil))) (dg_name (i:=3) sc_l_is_region.nd) (dss_one (ds_if (dt_not (dt_val (de_call c_l_before (hr.mono (by decide)) rfl (da_cons (de_ix (dv 2) de_int) (da_cons (de_ix (dv 2) (dv 3)) da_nil))))) (dss_one (ds_ret de_bl)) dss_nil)))
 (dss_consM (ds_if (dt_gt (de_len m_len (da_cons (dv 2) da_nil)) de_int) (dss_one (ds_for PassesOwn.never (di_range1 m_range (da_cons (de_len m_len (da_cons (dv 2) da_nil)) da_nil)) (dg_name (i:=3) sc_l_is_region.nd) (dss_one (ds_for PassesOwn.never (di_list (dv 2)) (dg_name (i:=4) sc_l_is_region.nd) (dss_one (ds_if (dt_1 (PW.pt (dw_and (dt_ne hr (dv 4) (de_ix (dv 2) (dv 3))) (dw_and (dt_ne hr (dv 4) (de_ix (dv 2) (de_sub (dv 3) de_int))) (dw_and1 (dt_le (de_call c_l_turn (hr.mono (by decide)) rfl (da_cons (de_ix (dv 2) (de_sub (dv 3) de_int)) (da_cons (de_ix (dv 2) (dv 3)) (da_cons (dv 4) da_nil)))) de_int)))))) (dss_one (ds_ret de_bl)) dss_nil)))))) dss_nil)
 (dss_one (ds_ret de_bl)))))))
abbrev s_l_points:Stmt:=top 36
theorem sc_l_points:FnScope ["_law_script","_law_many","_law_way","_law_found","_law_k","_law_number","_law_spot","_law_step","_law_line"] ["_law_script","_law_many"] (defScope s_l_points):=⟨rfl,rfl,rfl,by decide +kernel,rfl,by decide +kernel,by decide +kernel⟩
theorem b_l_points {P:Program} {w:World} {K:PySem.W.Frag} {mg:Str->Option Value} {base:Heap} (m_range:mg "range"=none) (c_l_cell_at:Callee P w K mg base 1 "_law_cell_at" sp_l_cell_at) (c_l_mixed:Callee P w K mg base 2 "_law_mixed" sp_l_mixed) {f:Addr} {cdv:Value} {A:Around} {outer:List Env} {s:Shared} {H:Hp} {E:XK} (hr:Room 2 (A.deeper (envOfC "_law_points" (defScope s_l_points) s.heap.objs.size f cdv))) :
  PSs (cxOf CX0 P w K mg base ["_law_script","_law_many","_law_way","_law_found","_law_k","_law_number","_law_spot","_law_step","_law_line"] "_law_points" (defScope s_l_points) f cdv A outer s H E).nox (defBody s_l_points) (liftS K H w_l_points):=
 (dss_cons (ds_set (i:=2) sc_l_points.nd (de_mod (de_call c_l_cell_at (hr.mono (by decide)) rfl (da_cons (dv 0) (da_cons de_int da_nil))) de_int))
 (dss_cons (ds_set (i:=3) sc_l_points.nd (de_lst da_nil))
 (dss_consM (ds_for PassesOwn.never (di_range1 m_range (da_cons (dv 1) da_nil)) (dg_name (i:=4) sc_l_points.nd) (dss_cons (ds_set (i:=5) sc_l_points.nd (de_call c_l_mixed (hr.mono (by decide)) rfl (da_cons (dv 0) (da_cons (dv 4) da_nil))))
 (dss_cons (ds_set (i:=6) sc_l_points.nd (de_tup (da_cons (de_sub (de_mod (dv 5) de_int) de_int) (da_cons (de_sub (de_mod (de_fdiv (dv 5) de_int) de_int) de_int) da_nil))))
 (dss_consM (ds_if (dt_eq hr (dv 2) de_int) (dss_one (ds_set (i:=6) sc_l_points.nd (de_tup (da_cons (de_sub (de_mod (de_call c_l_cell_at (hr.mono (by decide)) rfl (da_cons (dv 0) (da_cons (dv 4) da_nil))) (de_mul de_int (de_pow de_int de_int))) (de_pow de_int de_int)) (da_cons (de_sub (dv 5) (de_pow de_int de_int)) da_nil))))) dss_nil)
 (dss_consM (ds_if (dt_eq hr (dv 2) de_int) (dss_one (ds_set (i:=6) sc_l_points.nd (de_tup (da_cons (de_sub (de_mod (dv 5) de_int) de_int) (da_cons (de_sub (de_mod (de_fdiv (dv 5) de_int) de_int) de_int) da_nil))))) dss_nil)
 (dss_consM (ds_if (dt_eq hr (dv 2) de_int) (dss_cons (ds_set (i:=7) sc_l_points.nd (de_sub (de_mod (dv 5) de_int) de_int))
 (dss_cons (ds_set (i:=8) sc_l_points.nd (de_mod (de_call c_l_cell_at (hr.mono (by decide)) rfl (da_cons (dv 0) (da_cons de_int da_nil))) de_int))
 (dss_one (ds_set (i:=6) sc_l_points.nd (de_tup (da_cons (de_add (de_mul (dv 7) (de_sub (de_mod (dv 8) de_int) de_int)) de_int) (da_cons (de_sub (de_mul (dv 7) (de_sub (de_fdiv (dv 8) de_int) de_int)) de_int) da_nil))))))) dss_nil)
 (dss_one (ds_append (i:=3) (dv 6)))))))))
 (dss_one (ds_retV (pv 3))))))
abbrev s_l_half:Stmt:=top 37
theorem sc_l_half:FnScope ["_law_a","_law_b","_law_c","_law_by"] ["_law_a","_law_b","_law_c"] (defScope s_l_half):=⟨rfl,rfl,rfl,by decide +kernel,rfl,by decide +kernel,by decide +kernel⟩
theorem b_l_half {P:Program} {w:World} {K:PySem.W.Frag} {mg:Str->Option Value} {base:Heap} (c_l_divisor:Callee P w K mg base 1 "_law_divisor" sp_l_divisor) {f:Addr} {cdv:Value} {A:Around} {outer:List Env} {s:Shared} {H:Hp} {E:XK} (hr:Room 1 (A.deeper (envOfC "_law_half" (defScope s_l_half) s.heap.objs.size f cdv))) :
  PSs (cxOf CX0 P w K mg base ["_law_a","_law_b","_law_c","_law_by"] "_law_half" (defScope s_l_half) f cdv A outer s H E).nox (defBody s_l_half) (liftS K H w_l_half):=
 (dss_cons (ds_set (i:=3) sc_l_half.nd (de_call c_l_divisor (hr.mono (by decide)) rfl (da_cons (de_call c_l_divisor (hr.mono (by decide)) rfl (da_cons (dv 0) (da_cons (dv 1) da_nil))) (da_cons (dv 2) da_nil))))
 (dss_one (ds_ret (de_tup (da_cons (de_fdiv (dv 0) (dv 3)) (da_cons (de_fdiv (dv 1) (dv 3)) (da_cons (de_fdiv (dv 2) (dv 3)) da_nil)))))))
abbrev s_l_halves:Stmt:=top 38
theorem sc_l_halves:FnScope ["_law_script","_law_points_here","_law_many","_law_found","_law_k","_law_number","_law_x","_law_y","_law_other","_law_a","_law_b"] ["_law_script","_law_points_here","_law_many"] (defScope s_l_halves):=⟨rfl,rfl,rfl,by decide +kernel,rfl,by decide +kernel,by decide +kernel⟩
theorem b_l_halves {P:Program} {w:World} {K:PySem.W.Frag} {mg:Str->Option Value} {base:Heap} (m_range:mg "range"=none) (m_len:mg "len"=none) (c_l_mixed:Callee P w K mg base 2 "_law_mixed" sp_l_mixed) (c_l_half:Callee P w K mg base 2 "_law_half" sp_l_half) {f:Addr} {cdv:Value} {A:Around} {outer:List Env} {s:Shared} {H:Hp} {E:XK} (hr:Room 2 (A.deeper (envOfC "_law_halves" (defScope s_l_halves) s.heap.objs.size f cdv))) :
  PSs (cxOf CX0 P w K mg base ["_law_script","_law_points_here","_law_many","_law_found","_law_k","_law_number","_law_x","_law_y","_law_other","_law_a","_law_b"] "_law_halves" (defScope s_l_halves) f cdv A outer s H E).nox (defBody s_l_halves) (liftS K H w_l_halves):=
 (dss_cons (ds_set (i:=3) sc_l_halves.nd (de_lst da_nil))
 (dss_consM (ds_for PassesOwn.never (di_range1 m_range (da_cons (dv 2) da_nil)) (dg_name (i:=4) sc_l_halves.nd) (dss_cons (ds_set (i:=5) sc_l_halves.nd (de_call c_l_mixed (hr.mono (by decide)) rfl (da_cons (dv 0) (da_cons (de_add de_int (dv 4)) da_nil))))
 (dss_cons (ds_unp (de_ix (dv 1) (de_mod (dv 5) (de_len m_len (da_cons (dv 1) da_nil)))) (dg_tup (dgs_cons (dg_name (i:=6) sc_l_halves.nd) (dgs_cons (dg_name (i:=7) sc_l_halves.nd) dgs_nil)) (len_cons (len_cons len_nil))))
 (dss_cons (ds_set (i:=8) sc_l_halves.nd (de_ix (dv 1) (de_mod (de_fdiv (dv 5) de_int) (de_len m_len (da_cons (dv 1) da_nil)))))
 (dss_cons (ds_set (i:=9) sc_l_halves.nd (de_sub (de_add (de_sub (dv 7) (de_ix (dv 8) de_int)) (de_mod (de_fdiv (dv 5) de_int) de_int)) de_int))
 (dss_cons (ds_set (i:=10) sc_l_halves.nd (de_sub (de_add (de_sub (de_ix (dv 8) de_int) (dv 6)) (de_mod (de_fdiv (dv 5) de_int) de_int)) de_int))
 (dss_consM (ds_if (dt_1 (PW.pt (dw_and (dt_eq hr (dv 9) de_int) (dw_and1 (dt_eq hr (dv 10) de_int))))) (dss_one (ds_set (i:=9) sc_l_halves.nd (de_sub de_int (de_mul de_int (de_mod (de_fdiv (dv 5) de_int) de_int))))) dss_nil)
 (dss_one (ds_append (i:=3) (de_call c_l_half (hr.mono (by decide)) (by rfl) (da_cons (dv 9) (da_cons (dv 10) (da_cons (de_add (de_add (de_mul (dv 9) (dv 6)) (de_mul (dv 10) (dv 7))) (de_ix (de_lst (da_cons de_int (da_cons de_int (da_cons de_int (da_cons (de_neg de_int) da_nil))))) (de_mod (de_fdiv (dv 5) de_int) de_int))) da_nil)))))))))))))
 (dss_one (ds_retV (pv 3)))))
abbrev s_l_over:Stmt:=top 39
theorem sc_l_over:FnScope ["_law_one","_law_here"] ["_law_one","_law_here"] (defScope s_l_over):=⟨rfl,rfl,rfl,by decide +kernel,rfl,by decide +kernel,by decide +kernel⟩
theorem b_l_over {P:Program} {w:World} {K:PySem.W.Frag} {mg:Str->Option Value} {base:Heap} {f:Addr} {cdv:Value} {A:Around} {outer:List Env} {s:Shared} {H:Hp} {E:XK} (hr:Room 0 (A.deeper (envOfC "_law_over" (defScope s_l_over) s.heap.objs.size f cdv))) :
  PSs (cxOf CX0 P w K mg base ["_law_one","_law_here"] "_law_over" (defScope s_l_over) f cdv A outer s H E).nox (defBody s_l_over) (liftS K H w_l_over):=
 (dss_one (ds_ret (de_sub (de_add (de_mul (de_ix (dv 0) de_int) (de_ix (dv 1) de_int)) (de_mul (de_ix (dv 0) de_int) (de_ix (dv 1) de_int))) (de_mul (de_ix (dv 0) de_int) (de_ix (dv 1) de_int)))))
abbrev s_law:Stmt:=top 41
theorem sc_law:FnScope ["_law_script","_law_points_here","_law_start","_law_halves_here","_law_forth","_law_twice","_law_one","_law_other","_law_thin","_law_back"] ["_law_script"] (defScope s_law):=⟨rfl,rfl,rfl,by decide +kernel,rfl,by decide +kernel,by decide +kernel⟩
theorem b_law {P:Program} {w:World} {K:PySem.W.Frag} {mg:Str->Option Value} {base:Heap} (m_max:mg "max"=none) (m_min:mg "min"=none) (m_len:mg "len"=none) (m_reversed:mg "reversed"=none) (c_l_points:Callee P w K mg base 3 "_law_points" sp_l_points) (c_hull:Callee P w K mg base 5 "hull" sp_hull) (c_l_halves:Callee P w K mg base 3 "_law_halves" sp_l_halves) (c_l_mixed:Callee P w K mg base 2 "_law_mixed" sp_l_mixed) (c_clipped:Callee P w K mg base 5 "clipped" sp_clipped) (c_l_is_region:Callee P w K mg base 3 "_law_is_region" sp_l_is_region) (c_l_over:Callee P w K mg base 1 "_law_over" sp_l_over) (c_l_flat:Callee P w K mg base 1 "_law_flat" sp_l_flat) {f:Addr} {cdv:Value} {A:Around} {outer:List Env} {s:Shared} {H:Hp} {E:XK} (hr:Room 5 (A.deeper (envOfC "law" (defScope s_law) s.heap.objs.size f cdv))) :
  PSs (cxOf CX0 P w K mg base ["_law_script","_law_points_here","_law_start","_law_halves_here","_law_forth","_law_twice","_law_one","_law_other","_law_thin","_law_back"] "law" (defScope s_law) f cdv A outer s H E).nox (defBody s_law) (liftS K H w_law):=
 (dss_cons (ds_set (i:=1) sc_law.nd (de_call c_l_points (hr.mono (by decide)) rfl (da_cons (dv 0) (da_cons (de_max2 m_max (da_cons de_int (da_cons (de_min2 m_min (da_cons de_int (da_cons (de_len m_len (da_cons (dv 0) da_nil)) da_nil))) da_nil))) da_nil))))
 (dss_cons (ds_set (i:=2) sc_law.nd (de_call c_hull (hr.mono (by decide)) rfl (da_cons (dv 1) da_nil)))
 (dss_cons (ds_set (i:=3) sc_law.nd (de_call c_l_halves (hr.mono (by decide)) rfl (da_cons (dv 0) (da_cons (dv 1) (da_cons (de_add de_int (de_mod (de_call c_l_mixed (hr.mono (by decide)) rfl (da_cons (dv 0) (da_cons de_int da_nil))) de_int)) da_nil)))))
 (dss_cons (ds_set (i:=4) sc_law.nd (dv 2))
 (dss_cons (ds_set (i:=5) sc_law.nd (dv 2))
 (dss_consM (ds_for PassesOwn.never (di_list (dv 3)) (dg_name (i:=6) sc_law.nd) (dss_cons (ds_set (i:=4) sc_law.nd (de_call c_clipped (hr.mono (by decide)) rfl (da_cons (dv 4) (da_cons (dv 6) da_nil))))
 (dss_cons (ds_set (i:=5) sc_law.nd (de_call c_clipped (hr.mono (by decide)) rfl (da_cons (de_call c_clipped (hr.mono (by decide)) rfl (da_cons (dv 5) (da_cons (dv 6) da_nil))) (da_cons (dv 6) da_nil))))
 (dss_cons (ds_set (i:=7) sc_law.nd (de_tup (da_cons (de_sub de_int (de_ix (dv 6) de_int)) (da_cons (de_sub de_int (de_ix (dv 6) de_int)) (da_cons (de_sub de_int (de_ix (dv 6) de_int)) da_nil)))))
 (dss_cons (ds_set (i:=8) sc_law.nd (de_call c_clipped (hr.mono (by decide)) rfl (da_cons (de_call c_clipped (hr.mono (by decide)) rfl (da_cons (dv 2) (da_cons (dv 6) da_nil))) (da_cons (dv 7) da_nil))))
 (dss_cons (ds_if (dt_1 (PW.pt (dw_or (dt_ne hr (dv 8) (de_call c_clipped (hr.mono (by decide)) rfl (da_cons (de_call c_clipped (hr.mono (by decide)) rfl (da_cons (dv 2) (da_cons (dv 7) da_nil))) (da_cons (dv 6) da_nil)))) (dw_or (dt_not (dt_val (de_call c_l_is_region (hr.mono (by decide)) rfl (da_cons (dv 8) da_nil)))) (dw_or1 (dt_gt (de_len m_len (da_cons (dv 8) da_nil)) de_int)))))) (dss_one (ds_ret de_bl)) dss_nil)
 (dss_cons (ds_if (dt_ne hr (de_comp (N:=["_law_spot","_law_one"]) (own:=1) (fr:=[6]) (NX:=["_law_script","_law_points_here","_law_start","_law_halves_here","_law_forth","_law_twice","_law_one","_law_other","_law_thin","_law_back"]) (ar:=defScope s_law) (by decide +kernel) (di_list (dv 8)) gok_name (fun _ _ _ _=>(dg_name (i:=0) (show List.Nodup (["_law_spot","_law_one"]:List Str) by decide))) (fun _ _ _ _=>(dts_one (dt_ne hr (de_call c_l_over (hr.mono (by decide)) rfl (da_cons (dv 1) (da_cons (de_call c_l_flat (hr.mono (by decide)) rfl (da_cons (dv 0) da_nil)) da_nil))) de_int))) (fun _ _ _ _=>(dv 0))) (de_lst da_nil)) (dss_one (ds_ret de_bl)) dss_nil)
 (dss_one (ds_if (dt_1 (PW.pt (dw_and (dt_eq hr (de_comp (N:=["_law_spot","_law_one"]) (own:=1) (fr:=[6]) (NX:=["_law_script","_law_points_here","_law_start","_law_halves_here","_law_forth","_law_twice","_law_one","_law_other","_law_thin","_law_back"]) (ar:=defScope s_law) (by decide +kernel) (di_list (dv 2)) gok_name (fun _ _ _ _=>(dg_name (i:=0) (show List.Nodup (["_law_spot","_law_one"]:List Str) by decide))) (fun _ _ _ _=>(dts_one (dt_lt (de_call c_l_over (hr.mono (by decide)) rfl (da_cons (dv 1) (da_cons (de_call c_l_flat (hr.mono (by decide)) rfl (da_cons (dv 0) da_nil)) da_nil))) de_int))) (fun _ _ _ _=>(dv 0))) (de_lst da_nil)) (dw_and1 (dt_ne hr (de_call c_clipped (hr.mono (by decide)) rfl (da_cons (dv 2) (da_cons (dv 6) da_nil))) (dv 2)))))) (dss_one (ds_ret de_bl)) dss_nil)))))))))
 (dss_cons (ds_set (i:=9) sc_law.nd (dv 2))
 (dss_consM (ds_for PassesOwn.never (di_rev m_reversed (dv 3)) (dg_name (i:=6) sc_law.nd) (dss_one (ds_set (i:=9) sc_law.nd (de_call c_clipped (hr.mono (by decide)) rfl (da_cons (dv 9) (da_cons (dv 6) da_nil))))))
 (dss_one (ds_ret (de_and (de_eq hr (dv 4) (dv 9)) (de_and (de_eq hr (dv 4) (dv 5)) (de_one (de_call c_l_is_region (hr.mono (by decide)) rfl (da_cons (dv 4) da_nil)))))))))))))))
theorem all_mk {l:PySem.W.OpenLaw} {w:World} {K:PySem.W.Frag} {h:Heap} {mg:Str->Option Value} {fa f_0 f_1 f_2 f_3 f_4 f_5 f_6 f_7 f_8 f_9 f_10 f_11 f_12 f_13 f_14 f_15 f_16 f_17 f_18 f_19 f_20 f_21 f_22 f_23 f_24 f_25 f_26 f_27 f_28 f_29 f_30 f_31 f_32:Addr} (X:K.In h) (G:h.Ns mainGlobals mg) (hfa:mg "law"=some (.ref fa))
  {od0 an0 od1 an1 od2 an2 od3 an3 od4 an4 od5 an5 od6 an6 od7 an7 od8 an8 od9 an9 od10 an10 od11 an11 od12 an12 od13 an13 od14 an14 od15 an15 od16 an16 od17 an17 od18 an18 od19 an19 od20 an20 od21 an21 od22 an22 od23 an23 od24 an24 od25 an25 od26 an26 od27 an27 od28 an28 od29 an29 od30 an30 od31 an31 od32 an32:Option Addr} {sl0 sl1 sl2 sl3 sl4 sl5 sl6 sl7 sl8 sl9 sl10 sl11 sl12 sl13 sl14 sl15 sl16 sl17 sl18 sl19 sl20 sl21 sl22 sl23 sl24 sl25 sl26 sl27 sl28 sl29 sl30 sl31 sl32:Array (Option Value)} {oc0 kV0 dc0 pm0 cd0 ct0 oc1 kV1 dc1 pm1 cd1 ct1 oc2 kV2 dc2 pm2 cd2 ct2 oc3 kV3 dc3 pm3 cd3 ct3 oc4 kV4 dc4 pm4 cd4 ct4 oc5 kV5 dc5 pm5 cd5 ct5 oc6 kV6 dc6 pm6 cd6 ct6 oc7 kV7 dc7 pm7 cd7 ct7 oc8 kV8 dc8 pm8 cd8 ct8 oc9 kV9 dc9 pm9 cd9 ct9 oc10 kV10 dc10 pm10 cd10 ct10 oc11 kV11 dc11 pm11 cd11 ct11 oc12 kV12 dc12 pm12 cd12 ct12 oc13 kV13 dc13 pm13 cd13 ct13 oc14 kV14 dc14 pm14 cd14 ct14 oc15 kV15 dc15 pm15 cd15 ct15 oc16 kV16 dc16 pm16 cd16 ct16 oc17 kV17 dc17 pm17 cd17 ct17 oc18 kV18 dc18 pm18 cd18 ct18 oc19 kV19 dc19 pm19 cd19 ct19 oc20 kV20 dc20 pm20 cd20 ct20 oc21 kV21 dc21 pm21 cd21 ct21 oc22 kV22 dc22 pm22 cd22 ct22 oc23 kV23 dc23 pm23 cd23 ct23 oc24 kV24 dc24 pm24 cd24 ct24 oc25 kV25 dc25 pm25 cd25 ct25 oc26 kV26 dc26 pm26 cd26 ct26 oc27 kV27 dc27 pm27 cd27 ct27 oc28 kV28 dc28 pm28 cd28 ct28 oc29 kV29 dc29 pm29 cd29 ct29 oc30 kV30 dc30 pm30 cd30 ct30 oc31 kV31 dc31 pm31 cd31 ct31 oc32 kV32 dc32 pm32 cd32 ct32:Value}
  (a0:PySem.W.nsIn K mainGlobals "divisor"=some (some (.ref f_0))) (l0:K.lookup f_0=some ⟨oc0,od0,.func (PySem.W.fnOf "divisor" "divisor" (defArgs s_divisor) (defBody s_divisor) (defScope s_divisor) .none kV0 dc0 pm0 an0 cd0 ct0),sl0⟩) (e0:PySem.W.codeIn K cd0 "divisor"=true) (k0:PySem.W.keepIn K (.ref f_0)=true)
  (a1:PySem.W.nsIn K mainGlobals "ratio"=some (some (.ref f_1))) (l1:K.lookup f_1=some ⟨oc1,od1,.func (PySem.W.fnOf "ratio" "ratio" (defArgs s_ratio) (defBody s_ratio) (defScope s_ratio) .none kV1 dc1 pm1 an1 cd1 ct1),sl1⟩) (e1:PySem.W.codeIn K cd1 "ratio"=true) (k1:PySem.W.keepIn K (.ref f_1)=true)
  (a2:PySem.W.nsIn K mainGlobals "below"=some (some (.ref f_2))) (l2:K.lookup f_2=some ⟨oc2,od2,.func (PySem.W.fnOf "below" "below" (defArgs s_below) (defBody s_below) (defScope s_below) .none kV2 dc2 pm2 an2 cd2 ct2),sl2⟩) (e2:PySem.W.codeIn K cd2 "below"=true) (k2:PySem.W.keepIn K (.ref f_2)=true)
  (a3:PySem.W.nsIn K mainGlobals "as_spot"=some (some (.ref f_3))) (l3:K.lookup f_3=some ⟨oc3,od3,.func (PySem.W.fnOf "as_spot" "as_spot" (defArgs s_as_spot) (defBody s_as_spot) (defScope s_as_spot) .none kV3 dc3 pm3 an3 cd3 ct3),sl3⟩) (e3:PySem.W.codeIn K cd3 "as_spot"=true) (k3:PySem.W.keepIn K (.ref f_3)=true)
  (a4:PySem.W.nsIn K mainGlobals "bottoms"=some (some (.ref f_4))) (l4:K.lookup f_4=some ⟨oc4,od4,.func (PySem.W.fnOf "bottoms" "bottoms" (defArgs s_bottoms) (defBody s_bottoms) (defScope s_bottoms) .none kV4 dc4 pm4 an4 cd4 ct4),sl4⟩) (e4:PySem.W.codeIn K cd4 "bottoms"=true) (k4:PySem.W.keepIn K (.ref f_4)=true)
  (a5:PySem.W.nsIn K mainGlobals "excess"=some (some (.ref f_5))) (l5:K.lookup f_5=some ⟨oc5,od5,.func (PySem.W.fnOf "excess" "excess" (defArgs s_excess) (defBody s_excess) (defScope s_excess) .none kV5 dc5 pm5 an5 cd5 ct5),sl5⟩) (e5:PySem.W.codeIn K cd5 "excess"=true) (k5:PySem.W.keepIn K (.ref f_5)=true)
  (a6:PySem.W.nsIn K mainGlobals "sign"=some (some (.ref f_6))) (l6:K.lookup f_6=some ⟨oc6,od6,.func (PySem.W.fnOf "sign" "sign" (defArgs s_sign) (defBody s_sign) (defScope s_sign) .none kV6 dc6 pm6 an6 cd6 ct6),sl6⟩) (e6:PySem.W.codeIn K cd6 "sign"=true) (k6:PySem.W.keepIn K (.ref f_6)=true)
  (a7:PySem.W.nsIn K mainGlobals "side"=some (some (.ref f_7))) (l7:K.lookup f_7=some ⟨oc7,od7,.func (PySem.W.fnOf "side" "side" (defArgs s_side) (defBody s_side) (defScope s_side) .none kV7 dc7 pm7 an7 cd7 ct7),sl7⟩) (e7:PySem.W.codeIn K cd7 "side"=true) (k7:PySem.W.keepIn K (.ref f_7)=true)
  (a8:PySem.W.nsIn K mainGlobals "lesser"=some (some (.ref f_8))) (l8:K.lookup f_8=some ⟨oc8,od8,.func (PySem.W.fnOf "lesser" "lesser" (defArgs s_lesser) (defBody s_lesser) (defScope s_lesser) .none kV8 dc8 pm8 an8 cd8 ct8),sl8⟩) (e8:PySem.W.codeIn K cd8 "lesser"=true) (k8:PySem.W.keepIn K (.ref f_8)=true)
  (a9:PySem.W.nsIn K mainGlobals "stretched"=some (some (.ref f_9))) (l9:K.lookup f_9=some ⟨oc9,od9,.func (PySem.W.fnOf "stretched" "stretched" (defArgs s_stretched) (defBody s_stretched) (defScope s_stretched) .none kV9 dc9 pm9 an9 cd9 ct9),sl9⟩) (e9:PySem.W.codeIn K cd9 "stretched"=true) (k9:PySem.W.keepIn K (.ref f_9)=true)
  (a10:PySem.W.nsIn K mainGlobals "turn"=some (some (.ref f_10))) (l10:K.lookup f_10=some ⟨oc10,od10,.func (PySem.W.fnOf "turn" "turn" (defArgs s_turn) (defBody s_turn) (defScope s_turn) .none kV10 dc10 pm10 an10 cd10 ct10),sl10⟩) (e10:PySem.W.codeIn K cd10 "turn"=true) (k10:PySem.W.keepIn K (.ref f_10)=true)
  (a11:PySem.W.nsIn K mainGlobals "chain"=some (some (.ref f_11))) (l11:K.lookup f_11=some ⟨oc11,od11,.func (PySem.W.fnOf "chain" "chain" (defArgs s_chain) (defBody s_chain) (defScope s_chain) .none kV11 dc11 pm11 an11 cd11 ct11),sl11⟩) (e11:PySem.W.codeIn K cd11 "chain"=true) (k11:PySem.W.keepIn K (.ref f_11)=true)
  (a12:PySem.W.nsIn K mainGlobals "hull"=some (some (.ref f_12))) (l12:K.lookup f_12=some ⟨oc12,od12,.func (PySem.W.fnOf "hull" "hull" (defArgs s_hull) (defBody s_hull) (defScope s_hull) .none kV12 dc12 pm12 an12 cd12 ct12),sl12⟩) (e12:PySem.W.codeIn K cd12 "hull"=true) (k12:PySem.W.keepIn K (.ref f_12)=true)
  (a13:PySem.W.nsIn K mainGlobals "sides"=some (some (.ref f_13))) (l13:K.lookup f_13=some ⟨oc13,od13,.func (PySem.W.fnOf "sides" "sides" (defArgs s_sides) (defBody s_sides) (defScope s_sides) .none kV13 dc13 pm13 an13 cd13 ct13),sl13⟩) (e13:PySem.W.codeIn K cd13 "sides"=true) (k13:PySem.W.keepIn K (.ref f_13)=true)
  (a14:PySem.W.nsIn K mainGlobals "from_least"=some (some (.ref f_14))) (l14:K.lookup f_14=some ⟨oc14,od14,.func (PySem.W.fnOf "from_least" "from_least" (defArgs s_from_least) (defBody s_from_least) (defScope s_from_least) .none kV14 dc14 pm14 an14 cd14 ct14),sl14⟩) (e14:PySem.W.codeIn K cd14 "from_least"=true) (k14:PySem.W.keepIn K (.ref f_14)=true)
  (a15:PySem.W.nsIn K mainGlobals "mixed"=some (some (.ref f_15))) (l15:K.lookup f_15=some ⟨oc15,od15,.func (PySem.W.fnOf "mixed" "mixed" (defArgs s_mixed) (defBody s_mixed) (defScope s_mixed) .none kV15 dc15 pm15 an15 cd15 ct15),sl15⟩) (e15:PySem.W.codeIn K cd15 "mixed"=true) (k15:PySem.W.keepIn K (.ref f_15)=true)
  (a16:PySem.W.nsIn K mainGlobals "crossing"=some (some (.ref f_16))) (l16:K.lookup f_16=some ⟨oc16,od16,.func (PySem.W.fnOf "crossing" "crossing" (defArgs s_crossing) (defBody s_crossing) (defScope s_crossing) .none kV16 dc16 pm16 an16 cd16 ct16),sl16⟩) (e16:PySem.W.codeIn K cd16 "crossing"=true) (k16:PySem.W.keepIn K (.ref f_16)=true)
  (a17:PySem.W.nsIn K mainGlobals "clipped"=some (some (.ref f_17))) (l17:K.lookup f_17=some ⟨oc17,od17,.func (PySem.W.fnOf "clipped" "clipped" (defArgs s_clipped) (defBody s_clipped) (defScope s_clipped) .none kV17 dc17 pm17 an17 cd17 ct17),sl17⟩) (e17:PySem.W.codeIn K cd17 "clipped"=true) (k17:PySem.W.keepIn K (.ref f_17)=true)
  (a18:PySem.W.nsIn K mainGlobals "_law_cell_at"=some (some (.ref f_18))) (l18:K.lookup f_18=some ⟨oc18,od18,.func (PySem.W.fnOf "_law_cell_at" "_law_cell_at" (defArgs s_l_cell_at) (defBody s_l_cell_at) (defScope s_l_cell_at) .none kV18 dc18 pm18 an18 cd18 ct18),sl18⟩) (e18:PySem.W.codeIn K cd18 "_law_cell_at"=true) (k18:PySem.W.keepIn K (.ref f_18)=true)
  (a19:PySem.W.nsIn K mainGlobals "_law_whole"=some (some (.ref f_19))) (l19:K.lookup f_19=some ⟨oc19,od19,.func (PySem.W.fnOf "_law_whole" "_law_whole" (defArgs s_l_whole) (defBody s_l_whole) (defScope s_l_whole) .none kV19 dc19 pm19 an19 cd19 ct19),sl19⟩) (e19:PySem.W.codeIn K cd19 "_law_whole"=true) (k19:PySem.W.keepIn K (.ref f_19)=true)
  (a20:PySem.W.nsIn K mainGlobals "_law_block"=some (some (.ref f_20))) (l20:K.lookup f_20=some ⟨oc20,od20,.func (PySem.W.fnOf "_law_block" "_law_block" (defArgs s_l_block) (defBody s_l_block) (defScope s_l_block) .none kV20 dc20 pm20 an20 cd20 ct20),sl20⟩) (e20:PySem.W.codeIn K cd20 "_law_block"=true) (k20:PySem.W.keepIn K (.ref f_20)=true)
  (a21:PySem.W.nsIn K mainGlobals "_law_mixed"=some (some (.ref f_21))) (l21:K.lookup f_21=some ⟨oc21,od21,.func (PySem.W.fnOf "_law_mixed" "_law_mixed" (defArgs s_l_mixed) (defBody s_l_mixed) (defScope s_l_mixed) .none kV21 dc21 pm21 an21 cd21 ct21),sl21⟩) (e21:PySem.W.codeIn K cd21 "_law_mixed"=true) (k21:PySem.W.keepIn K (.ref f_21)=true)
  (a22:PySem.W.nsIn K mainGlobals "_law_divisor"=some (some (.ref f_22))) (l22:K.lookup f_22=some ⟨oc22,od22,.func (PySem.W.fnOf "_law_divisor" "_law_divisor" (defArgs s_l_divisor) (defBody s_l_divisor) (defScope s_l_divisor) .none kV22 dc22 pm22 an22 cd22 ct22),sl22⟩) (e22:PySem.W.codeIn K cd22 "_law_divisor"=true) (k22:PySem.W.keepIn K (.ref f_22)=true)
  (a23:PySem.W.nsIn K mainGlobals "_law_flat"=some (some (.ref f_23))) (l23:K.lookup f_23=some ⟨oc23,od23,.func (PySem.W.fnOf "_law_flat" "_law_flat" (defArgs s_l_flat) (defBody s_l_flat) (defScope s_l_flat) .none kV23 dc23 pm23 an23 cd23 ct23),sl23⟩) (e23:PySem.W.codeIn K cd23 "_law_flat"=true) (k23:PySem.W.keepIn K (.ref f_23)=true)
  (a24:PySem.W.nsIn K mainGlobals "_law_turn"=some (some (.ref f_24))) (l24:K.lookup f_24=some ⟨oc24,od24,.func (PySem.W.fnOf "_law_turn" "_law_turn" (defArgs s_l_turn) (defBody s_l_turn) (defScope s_l_turn) .none kV24 dc24 pm24 an24 cd24 ct24),sl24⟩) (e24:PySem.W.codeIn K cd24 "_law_turn"=true) (k24:PySem.W.keepIn K (.ref f_24)=true)
  (a25:PySem.W.nsIn K mainGlobals "_law_before"=some (some (.ref f_25))) (l25:K.lookup f_25=some ⟨oc25,od25,.func (PySem.W.fnOf "_law_before" "_law_before" (defArgs s_l_before) (defBody s_l_before) (defScope s_l_before) .none kV25 dc25 pm25 an25 cd25 ct25),sl25⟩) (e25:PySem.W.codeIn K cd25 "_law_before"=true) (k25:PySem.W.keepIn K (.ref f_25)=true)
  (a26:PySem.W.nsIn K mainGlobals "_law_is_spot"=some (some (.ref f_26))) (l26:K.lookup f_26=some ⟨oc26,od26,.func (PySem.W.fnOf "_law_is_spot" "_law_is_spot" (defArgs s_l_is_spot) (defBody s_l_is_spot) (defScope s_l_is_spot) .none kV26 dc26 pm26 an26 cd26 ct26),sl26⟩) (e26:PySem.W.codeIn K cd26 "_law_is_spot"=true) (k26:PySem.W.keepIn K (.ref f_26)=true)
  (a27:PySem.W.nsIn K mainGlobals "_law_is_region"=some (some (.ref f_27))) (l27:K.lookup f_27=some ⟨oc27,od27,.func (PySem.W.fnOf "_law_is_region" "_law_is_region" (defArgs s_l_is_region) (defBody s_l_is_region) (defScope s_l_is_region) .none kV27 dc27 pm27 an27 cd27 ct27),sl27⟩) (e27:PySem.W.codeIn K cd27 "_law_is_region"=true) (k27:PySem.W.keepIn K (.ref f_27)=true)
  (a28:PySem.W.nsIn K mainGlobals "_law_points"=some (some (.ref f_28))) (l28:K.lookup f_28=some ⟨oc28,od28,.func (PySem.W.fnOf "_law_points" "_law_points" (defArgs s_l_points) (defBody s_l_points) (defScope s_l_points) .none kV28 dc28 pm28 an28 cd28 ct28),sl28⟩) (e28:PySem.W.codeIn K cd28 "_law_points"=true) (k28:PySem.W.keepIn K (.ref f_28)=true)
  (a29:PySem.W.nsIn K mainGlobals "_law_half"=some (some (.ref f_29))) (l29:K.lookup f_29=some ⟨oc29,od29,.func (PySem.W.fnOf "_law_half" "_law_half" (defArgs s_l_half) (defBody s_l_half) (defScope s_l_half) .none kV29 dc29 pm29 an29 cd29 ct29),sl29⟩) (e29:PySem.W.codeIn K cd29 "_law_half"=true) (k29:PySem.W.keepIn K (.ref f_29)=true)
  (a30:PySem.W.nsIn K mainGlobals "_law_halves"=some (some (.ref f_30))) (l30:K.lookup f_30=some ⟨oc30,od30,.func (PySem.W.fnOf "_law_halves" "_law_halves" (defArgs s_l_halves) (defBody s_l_halves) (defScope s_l_halves) .none kV30 dc30 pm30 an30 cd30 ct30),sl30⟩) (e30:PySem.W.codeIn K cd30 "_law_halves"=true) (k30:PySem.W.keepIn K (.ref f_30)=true)
  (a31:PySem.W.nsIn K mainGlobals "_law_over"=some (some (.ref f_31))) (l31:K.lookup f_31=some ⟨oc31,od31,.func (PySem.W.fnOf "_law_over" "_law_over" (defArgs s_l_over) (defBody s_l_over) (defScope s_l_over) .none kV31 dc31 pm31 an31 cd31 ct31),sl31⟩) (e31:PySem.W.codeIn K cd31 "_law_over"=true) (k31:PySem.W.keepIn K (.ref f_31)=true)
  (a32:PySem.W.nsIn K mainGlobals "law"=some (some (.ref f_32))) (l32:K.lookup f_32=some ⟨oc32,od32,.func (PySem.W.fnOf "law" "law" (defArgs s_law) (defBody s_law) (defScope s_law) .none kV32 dc32 pm32 an32 cd32 ct32),sl32⟩) (e32:PySem.W.codeIn K cd32 "law"=true) (k32:PySem.W.keepIn K (.ref f_32)=true)
  (z_abs:PySem.W.nsIn K mainGlobals "abs"=some none)
  (z_len:PySem.W.nsIn K mainGlobals "len"=some none)
  (z_sorted:PySem.W.nsIn K mainGlobals "sorted"=some none)
  (z_set:PySem.W.nsIn K mainGlobals "set"=some none)
  (z_list:PySem.W.nsIn K mainGlobals "list"=some none)
  (z_reversed:PySem.W.nsIn K mainGlobals "reversed"=some none)
  (z_range:PySem.W.nsIn K mainGlobals "range"=some none)
  (z_isinstance:PySem.W.nsIn K mainGlobals "isinstance"=some none)
  (z_int:PySem.W.nsIn K mainGlobals "int"=some none)
  (z_bool:PySem.W.nsIn K mainGlobals "bool"=some none)
  (z_min:PySem.W.nsIn K mainGlobals "min"=some none)
  (z_tuple:PySem.W.nsIn K mainGlobals "tuple"=some none)
  (z_max:PySem.W.nsIn K mainGlobals "max"=some none)
 :∃ fd:FuncData,(∀ (s:Shared) (v:Value),BindsTo s fd ⟨[v],[]⟩ [("_law_script",v)])/\∀ base:Heap,K.In base->base.Ns mainGlobals mg->FnOk l.prog w K mg base CX0 6 fa fd ["_law_script"] (toSp K spLaw):=by
 have e:=hfa.symm.trans (PySem.W.mg_of X G a32)
 cases e
 have F_divisor:=fun_mk (st:=s_divisor) l0 e0 k0
 have B_divisor:=F_divisor.binds (ps:=["one","other"]) fun _ _ _ _ _ _ us hl=>match us,hl with | [_,_],_=>rfl
 have F_ratio:=fun_mk (st:=s_ratio) l1 e1 k1
 have B_ratio:=F_ratio.binds (ps:=["top","bottom"]) fun _ _ _ _ _ _ us hl=>match us,hl with | [_,_],_=>rfl
 have F_below:=fun_mk (st:=s_below) l2 e2 k2
 have B_below:=F_below.binds (ps:=["one","other"]) fun _ _ _ _ _ _ us hl=>match us,hl with | [_,_],_=>rfl
 have F_as_spot:=fun_mk (st:=s_as_spot) l3 e3 k3
 have B_as_spot:=F_as_spot.binds (ps:=["point"]) fun _ _ _ _ _ _ us hl=>match us,hl with | [_],_=>rfl
 have F_bottoms:=fun_mk (st:=s_bottoms) l4 e4 k4
 have B_bottoms:=F_bottoms.binds (ps:=["spot"]) fun _ _ _ _ _ _ us hl=>match us,hl with | [_],_=>rfl
 have F_excess:=fun_mk (st:=s_excess) l5 e5 k5
 have B_excess:=F_excess.binds (ps:=["half","spot"]) fun _ _ _ _ _ _ us hl=>match us,hl with | [_,_],_=>rfl
 have F_sign:=fun_mk (st:=s_sign) l6 e6 k6
 have B_sign:=F_sign.binds (ps:=["number"]) fun _ _ _ _ _ _ us hl=>match us,hl with | [_],_=>rfl
 have F_side:=fun_mk (st:=s_side) l7 e7 k7
 have B_side:=F_side.binds (ps:=["half","spot"]) fun _ _ _ _ _ _ us hl=>match us,hl with | [_,_],_=>rfl
 have F_lesser:=fun_mk (st:=s_lesser) l8 e8 k8
 have B_lesser:=F_lesser.binds (ps:=["one","other"]) fun _ _ _ _ _ _ us hl=>match us,hl with | [_,_],_=>rfl
 have F_stretched:=fun_mk (st:=s_stretched) l9 e9 k9
 have B_stretched:=F_stretched.binds (ps:=["spot"]) fun _ _ _ _ _ _ us hl=>match us,hl with | [_],_=>rfl
 have F_turn:=fun_mk (st:=s_turn) l10 e10 k10
 have B_turn:=F_turn.binds (ps:=["one","other","third"]) fun _ _ _ _ _ _ us hl=>match us,hl with | [_,_,_],_=>rfl
 have F_chain:=fun_mk (st:=s_chain) l11 e11 k11
 have B_chain:=F_chain.binds (ps:=["spots"]) fun _ _ _ _ _ _ us hl=>match us,hl with | [_],_=>rfl
 have F_hull:=fun_mk (st:=s_hull) l12 e12 k12
 have B_hull:=F_hull.binds (ps:=["points"]) fun _ _ _ _ _ _ us hl=>match us,hl with | [_],_=>rfl
 have F_sides:=fun_mk (st:=s_sides) l13 e13 k13
 have B_sides:=F_sides.binds (ps:=["region"]) fun _ _ _ _ _ _ us hl=>match us,hl with | [_],_=>rfl
 have F_from_least:=fun_mk (st:=s_from_least) l14 e14 k14
 have B_from_least:=F_from_least.binds (ps:=["corners"]) fun _ _ _ _ _ _ us hl=>match us,hl with | [_],_=>rfl
 have F_mixed:=fun_mk (st:=s_mixed) l15 e15 k15
 have B_mixed:=F_mixed.binds (ps:=["one","one_weight","other","other_weight"]) fun _ _ _ _ _ _ us hl=>match us,hl with | [_,_,_,_],_=>rfl
 have F_crossing:=fun_mk (st:=s_crossing) l16 e16 k16
 have B_crossing:=F_crossing.binds (ps:=["half","one","other"]) fun _ _ _ _ _ _ us hl=>match us,hl with | [_,_,_],_=>rfl
 have F_clipped:=fun_mk (st:=s_clipped) l17 e17 k17
 have B_clipped:=F_clipped.binds (ps:=["region","half"]) fun _ _ _ _ _ _ us hl=>match us,hl with | [_,_],_=>rfl
 have F_l_cell_at:=fun_mk (st:=s_l_cell_at) l18 e18 k18
 have B_l_cell_at:=F_l_cell_at.binds (ps:=["_law_script","_law_k"]) fun _ _ _ _ _ _ us hl=>match us,hl with | [_,_],_=>rfl
 have F_l_whole:=fun_mk (st:=s_l_whole) l19 e19 k19
 have B_l_whole:=F_l_whole.binds (ps:=["_law_found"]) fun _ _ _ _ _ _ us hl=>match us,hl with | [_],_=>rfl
 have F_l_block:=fun_mk (st:=s_l_block) l20 e20 k20
 have B_l_block:=F_l_block.binds (ps:=["_law_script","_law_k"]) fun _ _ _ _ _ _ us hl=>match us,hl with | [_,_],_=>rfl
 have F_l_mixed:=fun_mk (st:=s_l_mixed) l21 e21 k21
 have B_l_mixed:=F_l_mixed.binds (ps:=["_law_script","_law_k"]) fun _ _ _ _ _ _ us hl=>match us,hl with | [_,_],_=>rfl
 have F_l_divisor:=fun_mk (st:=s_l_divisor) l22 e22 k22
 have B_l_divisor:=F_l_divisor.binds (ps:=["_law_one","_law_other"]) fun _ _ _ _ _ _ us hl=>match us,hl with | [_,_],_=>rfl
 have F_l_flat:=fun_mk (st:=s_l_flat) l23 e23 k23
 have B_l_flat:=F_l_flat.binds (ps:=["_law_spot"]) fun _ _ _ _ _ _ us hl=>match us,hl with | [_],_=>rfl
 have F_l_turn:=fun_mk (st:=s_l_turn) l24 e24 k24
 have B_l_turn:=F_l_turn.binds (ps:=["_law_one","_law_two","_law_three"]) fun _ _ _ _ _ _ us hl=>match us,hl with | [_,_,_],_=>rfl
 have F_l_before:=fun_mk (st:=s_l_before) l25 e25 k25
 have B_l_before:=F_l_before.binds (ps:=["_law_one","_law_other"]) fun _ _ _ _ _ _ us hl=>match us,hl with | [_,_],_=>rfl
 have F_l_is_spot:=fun_mk (st:=s_l_is_spot) l26 e26 k26
 have B_l_is_spot:=F_l_is_spot.binds (ps:=["_law_found"]) fun _ _ _ _ _ _ us hl=>match us,hl with | [_],_=>rfl
 have F_l_is_region:=fun_mk (st:=s_l_is_region) l27 e27 k27
 have B_l_is_region:=F_l_is_region.binds (ps:=["_law_found"]) fun _ _ _ _ _ _ us hl=>match us,hl with | [_],_=>rfl
 have F_l_points:=fun_mk (st:=s_l_points) l28 e28 k28
 have B_l_points:=F_l_points.binds (ps:=["_law_script","_law_many"]) fun _ _ _ _ _ _ us hl=>match us,hl with | [_,_],_=>rfl
 have F_l_half:=fun_mk (st:=s_l_half) l29 e29 k29
 have B_l_half:=F_l_half.binds (ps:=["_law_a","_law_b","_law_c"]) fun _ _ _ _ _ _ us hl=>match us,hl with | [_,_,_],_=>rfl
 have F_l_halves:=fun_mk (st:=s_l_halves) l30 e30 k30
 have B_l_halves:=F_l_halves.binds (ps:=["_law_script","_law_points_here","_law_many"]) fun _ _ _ _ _ _ us hl=>match us,hl with | [_,_,_],_=>rfl
 have F_l_over:=fun_mk (st:=s_l_over) l31 e31 k31
 have B_l_over:=F_l_over.binds (ps:=["_law_one","_law_here"]) fun _ _ _ _ _ _ us hl=>match us,hl with | [_,_],_=>rfl
 have F_law:=fun_mk (st:=s_law) l32 e32 k32
 have m_abs:=PySem.W.mg_none_of X G z_abs
 have m_len:=PySem.W.mg_none_of X G z_len
 have m_sorted:=PySem.W.mg_none_of X G z_sorted
 have m_set:=PySem.W.mg_none_of X G z_set
 have m_list:=PySem.W.mg_none_of X G z_list
 have m_reversed:=PySem.W.mg_none_of X G z_reversed
 have m_range:=PySem.W.mg_none_of X G z_range
 have m_isinstance:=PySem.W.mg_none_of X G z_isinstance
 have m_int:=PySem.W.mg_none_of X G z_int
 have m_bool:=PySem.W.mg_none_of X G z_bool
 have m_min:=PySem.W.mg_none_of X G z_min
 have m_tuple:=PySem.W.mg_none_of X G z_tuple
 have m_max:=PySem.W.mg_none_of X G z_max
 refine ⟨PySem.W.fnOf "law" "law" (defArgs s_law) (defBody s_law) (defScope s_law) .none kV32 dc32 pm32 an32 cd32 ct32,fun s v=>.of_eq rfl,fun base _ _=>?_⟩
 have c_l_cell_at:Callee l.prog w K mg base 1 "_law_cell_at" sp_l_cell_at:=callee_of F_l_cell_at (PySem.W.mg_of X G a18) B_l_cell_at (def_ok F_l_cell_at sc_l_cell_at len_l_cell_at (fun cdv A outer s H E hr=>b_l_cell_at m_len hr) ok_l_cell_at)
 have c_l_block:Callee l.prog w K mg base 1 "_law_block" sp_l_block:=callee_of F_l_block (PySem.W.mg_of X G a20) B_l_block (def_ok F_l_block sc_l_block len_l_block (fun cdv A outer s H E hr=>b_l_block m_len m_range hr) ok_l_block)
 have c_l_mixed:Callee l.prog w K mg base 2 "_law_mixed" sp_l_mixed:=callee_of F_l_mixed (PySem.W.mg_of X G a21) B_l_mixed (def_ok F_l_mixed sc_l_mixed len_l_mixed (fun cdv A outer s H E hr=>b_l_mixed m_len m_min c_l_block hr) ok_l_mixed)
 have c_l_points:Callee l.prog w K mg base 3 "_law_points" sp_l_points:=callee_of F_l_points (PySem.W.mg_of X G a28) B_l_points (def_ok F_l_points sc_l_points len_l_points (fun cdv A outer s H E hr=>b_l_points m_range c_l_cell_at c_l_mixed hr) ok_l_points)
 have c_as_spot:Callee l.prog w K mg base 1 "as_spot" sp_as_spot:=callee_of F_as_spot (PySem.W.mg_of X G a3) B_as_spot (def_ok F_as_spot sc_as_spot len_as_spot (fun cdv A outer s H E hr=>b_as_spot hr) ok_as_spot)
 have c_bottoms:Callee l.prog w K mg base 1 "bottoms" sp_bottoms:=callee_of F_bottoms (PySem.W.mg_of X G a4) B_bottoms (def_ok F_bottoms sc_bottoms len_bottoms (fun cdv A outer s H E hr=>b_bottoms hr) ok_bottoms)
 have c_stretched:Callee l.prog w K mg base 2 "stretched" sp_stretched:=callee_of F_stretched (PySem.W.mg_of X G a9) B_stretched (def_ok F_stretched sc_stretched len_stretched (fun cdv A outer s H E hr=>b_stretched c_bottoms hr) ok_stretched)
 have c_excess:Callee l.prog w K mg base 2 "excess" sp_excess:=callee_of F_excess (PySem.W.mg_of X G a5) B_excess (def_ok F_excess sc_excess len_excess (fun cdv A outer s H E hr=>b_excess c_bottoms hr) ok_excess)
 have c_turn:Callee l.prog w K mg base 3 "turn" sp_turn:=callee_of F_turn (PySem.W.mg_of X G a10) B_turn (def_ok F_turn sc_turn len_turn (fun cdv A outer s H E hr=>b_turn c_stretched c_excess hr) ok_turn)
 have c_chain:Callee l.prog w K mg base 4 "chain" sp_chain:=callee_of F_chain (PySem.W.mg_of X G a11) B_chain (def_ok F_chain sc_chain len_chain (fun cdv A outer s H E hr=>b_chain m_len c_turn hr) ok_chain)
 have c_hull:Callee l.prog w K mg base 5 "hull" sp_hull:=callee_of F_hull (PySem.W.mg_of X G a12) B_hull (def_ok F_hull sc_hull len_hull (fun cdv A outer s H E hr=>b_hull m_sorted m_set m_len m_list m_reversed c_as_spot c_chain hr) ok_hull)
 have c_l_divisor:Callee l.prog w K mg base 1 "_law_divisor" sp_l_divisor:=callee_of F_l_divisor (PySem.W.mg_of X G a22) B_l_divisor (def_ok F_l_divisor sc_l_divisor len_l_divisor (fun cdv A outer s H E hr=>b_l_divisor m_abs hr) ok_l_divisor)
 have c_l_half:Callee l.prog w K mg base 2 "_law_half" sp_l_half:=callee_of F_l_half (PySem.W.mg_of X G a29) B_l_half (def_ok F_l_half sc_l_half len_l_half (fun cdv A outer s H E hr=>b_l_half c_l_divisor hr) ok_l_half)
 have c_l_halves:Callee l.prog w K mg base 3 "_law_halves" sp_l_halves:=callee_of F_l_halves (PySem.W.mg_of X G a30) B_l_halves (def_ok F_l_halves sc_l_halves len_l_halves (fun cdv A outer s H E hr=>b_l_halves m_range m_len c_l_mixed c_l_half hr) ok_l_halves)
 have c_sides:Callee l.prog w K mg base 1 "sides" sp_sides:=callee_of F_sides (PySem.W.mg_of X G a13) B_sides (def_ok F_sides sc_sides len_sides (fun cdv A outer s H E hr=>b_sides m_range m_len hr) ok_sides)
 have c_sign:Callee l.prog w K mg base 1 "sign" sp_sign:=callee_of F_sign (PySem.W.mg_of X G a6) B_sign (def_ok F_sign sc_sign len_sign (fun cdv A outer s H E hr=>b_sign hr) ok_sign)
 have c_side:Callee l.prog w K mg base 3 "side" sp_side:=callee_of F_side (PySem.W.mg_of X G a7) B_side (def_ok F_side sc_side len_side (fun cdv A outer s H E hr=>b_side c_sign c_excess hr) ok_side)
 have c_divisor:Callee l.prog w K mg base 1 "divisor" sp_divisor:=callee_of F_divisor (PySem.W.mg_of X G a0) B_divisor (def_ok F_divisor sc_divisor len_divisor (fun cdv A outer s H E hr=>b_divisor m_abs hr) ok_divisor)
 have c_ratio:Callee l.prog w K mg base 2 "ratio" sp_ratio:=callee_of F_ratio (PySem.W.mg_of X G a1) B_ratio (def_ok F_ratio sc_ratio len_ratio (fun cdv A outer s H E hr=>b_ratio c_divisor hr) ok_ratio)
 have c_mixed:Callee l.prog w K mg base 3 "mixed" sp_mixed:=callee_of F_mixed (PySem.W.mg_of X G a15) B_mixed (def_ok F_mixed sc_mixed len_mixed (fun cdv A outer s H E hr=>b_mixed c_ratio hr) ok_mixed)
 have c_crossing:Callee l.prog w K mg base 4 "crossing" sp_crossing:=callee_of F_crossing (PySem.W.mg_of X G a16) B_crossing (def_ok F_crossing sc_crossing len_crossing (fun cdv A outer s H E hr=>b_crossing m_abs c_excess c_bottoms c_mixed hr) ok_crossing)
 have c_below:Callee l.prog w K mg base 1 "below" sp_below:=callee_of F_below (PySem.W.mg_of X G a2) B_below (def_ok F_below sc_below len_below (fun cdv A outer s H E hr=>b_below hr) ok_below)
 have c_lesser:Callee l.prog w K mg base 2 "lesser" sp_lesser:=callee_of F_lesser (PySem.W.mg_of X G a8) B_lesser (def_ok F_lesser sc_lesser len_lesser (fun cdv A outer s H E hr=>b_lesser c_below hr) ok_lesser)
 have c_from_least:Callee l.prog w K mg base 3 "from_least" sp_from_least:=callee_of F_from_least (PySem.W.mg_of X G a14) B_from_least (def_ok F_from_least sc_from_least len_from_least (fun cdv A outer s H E hr=>b_from_least m_range m_len c_lesser hr) ok_from_least)
 have c_clipped:Callee l.prog w K mg base 5 "clipped" sp_clipped:=callee_of F_clipped (PySem.W.mg_of X G a17) B_clipped (def_ok F_clipped sc_clipped len_clipped (fun cdv A outer s H E hr=>b_clipped c_sides c_side c_crossing c_from_least hr) ok_clipped)
 have c_l_whole:Callee l.prog w K mg base 1 "_law_whole" sp_l_whole:=callee_of F_l_whole (PySem.W.mg_of X G a19) B_l_whole (def_ok F_l_whole sc_l_whole len_l_whole (fun cdv A outer s H E hr=>b_l_whole m_isinstance m_int m_bool hr) ok_l_whole)
 have c_l_is_spot:Callee l.prog w K mg base 2 "_law_is_spot" sp_l_is_spot:=callee_of F_l_is_spot (PySem.W.mg_of X G a26) B_l_is_spot (def_ok F_l_is_spot sc_l_is_spot len_l_is_spot (fun cdv A outer s H E hr=>b_l_is_spot m_isinstance m_tuple m_len c_l_whole c_l_divisor hr) ok_l_is_spot)
 have c_l_flat:Callee l.prog w K mg base 1 "_law_flat" sp_l_flat:=callee_of F_l_flat (PySem.W.mg_of X G a23) B_l_flat (def_ok F_l_flat sc_l_flat len_l_flat (fun cdv A outer s H E hr=>b_l_flat hr) ok_l_flat)
 have c_l_before:Callee l.prog w K mg base 1 "_law_before" sp_l_before:=callee_of F_l_before (PySem.W.mg_of X G a25) B_l_before (def_ok F_l_before sc_l_before len_l_before (fun cdv A outer s H E hr=>b_l_before hr) ok_l_before)
 have c_l_turn:Callee l.prog w K mg base 1 "_law_turn" sp_l_turn:=callee_of F_l_turn (PySem.W.mg_of X G a24) B_l_turn (def_ok F_l_turn sc_l_turn len_l_turn (fun cdv A outer s H E hr=>b_l_turn hr) ok_l_turn)
 have c_l_is_region:Callee l.prog w K mg base 3 "_law_is_region" sp_l_is_region:=callee_of F_l_is_region (PySem.W.mg_of X G a27) B_l_is_region (def_ok F_l_is_region sc_l_is_region len_l_is_region (fun cdv A outer s H E hr=>b_l_is_region m_isinstance m_list m_range m_len c_l_is_spot c_l_flat c_l_before c_l_turn hr) ok_l_is_region)
 have c_l_over:Callee l.prog w K mg base 1 "_law_over" sp_l_over:=callee_of F_l_over (PySem.W.mg_of X G a31) B_l_over (def_ok F_l_over sc_l_over len_l_over (fun cdv A outer s H E hr=>b_l_over hr) ok_l_over)
 exact def_ok F_law sc_law len_law (fun cdv A outer s H E hr=>b_law m_max m_min m_len m_reversed c_l_points c_hull c_l_halves c_l_mixed c_clipped c_l_is_region c_l_over c_l_flat hr) ok_law
theorem walk {l:PySem.W.OpenLaw} {q:Program} {loose:List Str} {XP:(Str->Option Value)->Heap->Prop} {YP:World->Heap->Prop} {d:DefRec} {K:Params->PySem.W.Frag} (hn:l.most=some 63) (hdf:d.params.defaults=[])
  (hY:∀ (w:World) (h:Heap),YP w h->(K w.params).In h)
  (F:∀ (w:World) (mg:Str->Option Value) (fa:Addr) (h:Heap),(K w.params).In h->h.Ns mainGlobals mg->mg d.name=some (.ref fa) →
   ∃ fd:FuncData,(∀ (s:Shared) (u:Value),BindsTo s fd ⟨[u],[]⟩ [("_law_script",u)])/\∀ base:Heap,(K w.params).In base->base.Ns mainGlobals mg->FnOk l.prog w (K w.params) mg base CX0 6 fa fd ["_law_script"] (toSp (K w.params) spLaw)) :
  PySem.W.WalkO q loose XP YP l.row.toRowW d [] (fun f vs=>PySem.call f vs):=
 L2.walk_of (n:=63) (k:=6) (x:="_law_script") (CX:=fun _=>CX0) (sp:=fun w=>toSp (K w.params) spLaw) hn (by decide) hdf ⟨rfl,by decide,by decide⟩ hY F (fun _ _ a ns hl _ hS=>law_sp hl hS) fun _ _ _ _ _ z=>z
end Law
open PySem PySem.W PyProof.Rows
set_option maxRecDepth 100000 in
set_option maxHeartbeats 0 in
theorem PySem.Challenge.cw_deepspot_k14_whole_clipped_in_any_order_holds : PySem.Challenge.rw_deepspot_k14_whole_clipped_in_any_order.Holds := by
 w_on;o_law;k_head;(case hw=>w_witness2)
 k_fill
 refine Law.walk (l:=PySem.Challenge.rw_deepspot_k14_whole_clipped_in_any_order) rfl rfl (fun w h Y=>by first | exact PySem.W.kIn_of Y | exact PySem.W.km_in_of Y) ?F
 case F=>
  intro w mg fa h KX G hmg
  refine' Law.all_mk KX G hmg ?a0 ?l0 ?e0 ?k0 ?a1 ?l1 ?e1 ?k1 ?a2 ?l2 ?e2 ?k2 ?a3 ?l3 ?e3 ?k3 ?a4 ?l4 ?e4 ?k4 ?a5 ?l5 ?e5 ?k5 ?a6 ?l6 ?e6 ?k6 ?a7 ?l7 ?e7 ?k7 ?a8 ?l8 ?e8 ?k8 ?a9 ?l9 ?e9 ?k9 ?a10 ?l10 ?e10 ?k10 ?a11 ?l11 ?e11 ?k11 ?a12 ?l12 ?e12 ?k12 ?a13 ?l13 ?e13 ?k13 ?a14 ?l14 ?e14 ?k14 ?a15 ?l15 ?e15 ?k15 ?a16 ?l16 ?e16 ?k16 ?a17 ?l17 ?e17 ?k17 ?a18 ?l18 ?e18 ?k18 ?a19 ?l19 ?e19 ?k19 ?a20 ?l20 ?e20 ?k20 ?a21 ?l21 ?e21 ?k21 ?a22 ?l22 ?e22 ?k22 ?a23 ?l23 ?e23 ?k23 ?a24 ?l24 ?e24 ?k24 ?a25 ?l25 ?e25 ?k25 ?a26 ?l26 ?e26 ?k26 ?a27 ?l27 ?e27 ?k27 ?a28 ?l28 ?e28 ?k28 ?a29 ?l29 ?e29 ?k29 ?a30 ?l30 ?e30 ?k30 ?a31 ?l31 ?e31 ?k31 ?a32 ?l32 ?e32 ?k32 ?z_abs ?z_len ?z_sorted ?z_set ?z_list ?z_reversed ?z_range ?z_isinstance ?z_int ?z_bool ?z_min ?z_tuple ?z_max
  (case a0=>k_is)
  (case l0=>k_is)
  (case e0=>k_is)
  (case k0=>k_is)
  (case a1=>k_is)
  (case l1=>k_is)
  (case e1=>k_is)
  (case k1=>k_is)
  (case a2=>k_is)
  (case l2=>k_is)
  (case e2=>k_is)
  (case k2=>k_is)
  (case a3=>k_is)
  (case l3=>k_is)
  (case e3=>k_is)
  (case k3=>k_is)
  (case a4=>k_is)
  (case l4=>k_is)
  (case e4=>k_is)
  (case k4=>k_is)
  (case a5=>k_is)
  (case l5=>k_is)
  (case e5=>k_is)
  (case k5=>k_is)
  (case a6=>k_is)
  (case l6=>k_is)
  (case e6=>k_is)
  (case k6=>k_is)
  (case a7=>k_is)
  (case l7=>k_is)
  (case e7=>k_is)
  (case k7=>k_is)
  (case a8=>k_is)
  (case l8=>k_is)
  (case e8=>k_is)
  (case k8=>k_is)
  (case a9=>k_is)
  (case l9=>k_is)
  (case e9=>k_is)
  (case k9=>k_is)
  (case a10=>k_is)
  (case l10=>k_is)
  (case e10=>k_is)
  (case k10=>k_is)
  (case a11=>k_is)
  (case l11=>k_is)
  (case e11=>k_is)
  (case k11=>k_is)
  (case a12=>k_is)
  (case l12=>k_is)
  (case e12=>k_is)
  (case k12=>k_is)
  (case a13=>k_is)
  (case l13=>k_is)
  (case e13=>k_is)
  (case k13=>k_is)
  (case a14=>k_is)
  (case l14=>k_is)
  (case e14=>k_is)
  (case k14=>k_is)
  (case a15=>k_is)
  (case l15=>k_is)
  (case e15=>k_is)
  (case k15=>k_is)
  (case a16=>k_is)
  (case l16=>k_is)
  (case e16=>k_is)
  (case k16=>k_is)
  (case a17=>k_is)
  (case l17=>k_is)
  (case e17=>k_is)
  (case k17=>k_is)
  (case a18=>k_is)
  (case l18=>k_is)
  (case e18=>k_is)
  (case k18=>k_is)
  (case a19=>k_is)
  (case l19=>k_is)
  (case e19=>k_is)
  (case k19=>k_is)
  (case a20=>k_is)
  (case l20=>k_is)
  (case e20=>k_is)
  (case k20=>k_is)
  (case a21=>k_is)
  (case l21=>k_is)
  (case e21=>k_is)
  (case k21=>k_is)
  (case a22=>k_is)
  (case l22=>k_is)
  (case e22=>k_is)
  (case k22=>k_is)
  (case a23=>k_is)
  (case l23=>k_is)
  (case e23=>k_is)
  (case k23=>k_is)
  (case a24=>k_is)
  (case l24=>k_is)
  (case e24=>k_is)
  (case k24=>k_is)
  (case a25=>k_is)
  (case l25=>k_is)
  (case e25=>k_is)
  (case k25=>k_is)
  (case a26=>k_is)
  (case l26=>k_is)
  (case e26=>k_is)
  (case k26=>k_is)
  (case a27=>k_is)
  (case l27=>k_is)
  (case e27=>k_is)
  (case k27=>k_is)
  (case a28=>k_is)
  (case l28=>k_is)
  (case e28=>k_is)
  (case k28=>k_is)
  (case a29=>k_is)
  (case l29=>k_is)
  (case e29=>k_is)
  (case k29=>k_is)
  (case a30=>k_is)
  (case l30=>k_is)
  (case e30=>k_is)
  (case k30=>k_is)
  (case a31=>k_is)
  (case l31=>k_is)
  (case e31=>k_is)
  (case k31=>k_is)
  (case a32=>k_is)
  (case l32=>k_is)
  (case e32=>k_is)
  (case k32=>k_is)
  (case z_abs=>k_is)
  (case z_len=>k_is)
  (case z_sorted=>k_is)
  (case z_set=>k_is)
  (case z_list=>k_is)
  (case z_reversed=>k_is)
  (case z_range=>k_is)
  (case z_isinstance=>k_is)
  (case z_int=>k_is)
  (case z_bool=>k_is)
  (case z_min=>k_is)
  (case z_tuple=>k_is)
  (case z_max=>k_is)

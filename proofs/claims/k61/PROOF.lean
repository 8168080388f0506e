import PyProof.Rows.All
import Wide.All
import OpenK.AllK
import Wide.FinOn
import Lean
import PyProof.EqAt
import PyProof.EqKinds
import PyProof.TupleCall
import KE.KNestM
import PyProof.NeKinds
import PyProof.CompFree
import PyProof.FitsBits
import KE.LcSums
import PyProof.ZipIter
import PyProof.EnumFor
import PyProof.EnumStmt
import PyProof.Rows.EnumRows
import PyProof.Rows.FactsT2
import PyProof.Rows.SortWalk
import PyProof.Rows.FactsT3
import PyProof.LayNew
import KE.KMinKey
import KE.KLam
import PyProof.Rows.CallKwBuiltin
import KE.KRevIter
import PyProof.SetScanFacts
import PyProof.TupleKey
import PyProof.SetKind
import PyProof.DictStraight
import PyProof.IsRules
import PyProof.WalkLemmas
import PyProof.Rows.SetFrom
import KE.KSortTup
import PyProof.ListNew
import KE.RegKIsAll
import PySem.Challenge.RW_deepspot_k61_whole_points_led
abbrev Frg:=PySem.W.Frag
open List (length_map mem_map mem_cons getElem_mem mem_append mem_singleton getElem_map mem_cons_self mem_of_getElem? mem_cons_of_mem map_cons getElem?_eq_getElem size_toArray map_map getElem_of_mem map_append length_cons getElem?_map mem_append_right mem_range pairwise_iff_getElem mem_append_left pairwise_cons not_mem_nil mem_filter getElem?_set_ne append_nil getElem?_set_self length_reverse length_take length_drop length_singleton length_range pairwise_map length_replicate map_congr_left filterMap_cons replicate getElem?_append_left length_set reverse_cons getElem?_set lookup_cons getD_eq_getElem?_getD map_take nodup_cons getElem?_eq_none map_drop range_succ length_nil countP_eq_length_filter getElem?_append_right range_succ_eq_map length_filter_le take_of_length_le length_pos_iff foldl_append getElem_append_left getElem?_replicate length_dropLast nil_append length_eq_zero_iff mem_of_mem_take head?_reverse head?_eq_getElem? nodup_nil countP_congr)
open Int (mul_pos le_of_lt mul_nonneg mul_eq_zero mul_comm lt_or_le mul_zero zero_mul neg_mul mul_neg_of_pos_of_neg toNat_natCast gcd_dvd_left gcd_dvd_right mul_nonpos_of_nonneg_of_nonpos eq_of_mul_eq_mul_right mul_nonneg_of_nonpos_of_nonpos mul_one mul_nonpos_of_nonpos_of_nonneg natAbs_dvd_natAbs mul_le_mul_of_nonneg_right mul_neg)
open Nat (le_refl ne_of_lt lt_or_ge le_trans zero_le lt_of_lt_of_le lt_trichotomy lt_irrefl mod_lt lt_of_le_of_lt ne_of_gt succ_pos lt_succ_self le_of_not_lt lt_trans div_le_self le_of_lt_succ lt_succ_of_lt min_eq_left)
open Array (length_toList getElem?_toList getD_eq_getD_getElem?)
open Option (isSome_iff_exists getD_none map_some)
set_option Elab.async false
set_option linter.all false
set_option maxRecDepth 100000
namespace L2
open PySem PySem.Spec PyProof.Rows
abbrev Key:=Sum Int Str
def KZ:Key->Value->Bool
 | .inl k,v=>Value.isInt k v
 | .inr x,v=>Value.isStrOf x v
def RE (w:World):Key->Int
 | .inl k=>hashInt k
 | .inr x=>hashStr w x
theorem bV:∀ {k:Key}{v:Value},KZ k v=true->(∃ i t,k=Sum.inl i/\v=Value.int i t)\/(∃ x t,k=Sum.inr x/\v=Value.str x t)
 | .inl i,v,h=>by
  obtain⟨t,e⟩:=Value.isInt_shape (k:=i) (v:=v) h;exact .inl ⟨i,t,rfl,e⟩
 | .inr x,v,h=>by
  obtain⟨t,e⟩:=Value.isStrOf_shape (x:=x) (v:=v) h;exact .inr ⟨x,t,rfl,e⟩
theorem MR (a b:Int):decide ((Sum.inl a:Key)=Sum.inl b)=(a == b):=by
 by_cases e:a=b
 ·subst e;simp
 ·have h:¬ (Sum.inl a:Key)=Sum.inl b:=fun q=>e (Sum.inl.inj q);rw[decide_eq_false h];exact(beq_eq_false_iff_ne.mpr e).symm
theorem MU (a b:Str):decide ((Sum.inr a:Key)=Sum.inr b)=decide (a=b):=by
 by_cases e:a=b
 ·subst e;simp
 ·have h:¬ (Sum.inr a:Key)=Sum.inr b:=fun q=>e (Sum.inr.inj q);rw[decide_eq_false h,decide_eq_false e]
theorem MS (a:Int)(b:Str):decide ((Sum.inl a:Key)=Sum.inr b)=false:=decide_eq_false (fun q=>nomatch q)
theorem MT (a:Str)(b:Int):decide ((Sum.inr a:Key)=Sum.inl b)=false:=decide_eq_false (fun q=>nomatch q)
def Aq (prog:Program)(w:World):PySem.KeyKind prog w Key where
 is:=KZ
 hash:=RE w
 inj:=fun v a b ha hb=>by
  rcases bV ha with ⟨i,t,rfl,rfl⟩|⟨x,t,rfl,rfl⟩
  ·rcases bV hb with ⟨j,u,rfl,e⟩|⟨y,u,rfl,e⟩
   ·injection e with e1 _;rw[e1]
   ·exact nomatch e
  ·rcases bV hb with ⟨j,u,rfl,e⟩|⟨y,u,rfl,e⟩
   ·exact nomatch e
   ·injection e with e1 _;rw[e1]
 byValue:=fun k v h=>by
  rcases bV h with ⟨i,t,rfl,rfl⟩|⟨x,t,rfl,rfl⟩ <;> rfl
 pyHash:=fun hv h=>by
  rcases bV hv with ⟨i,t,rfl,rfl⟩|⟨x,t,rfl,rfl⟩
  ·exact wpAny_pyHash_int h
  ·exact wpAny_pyHash_str h
 eqBool:=fun hu hv h=>by
  rcases bV hu with ⟨i,t,rfl,rfl⟩|⟨x,t,rfl,rfl⟩
  ·rcases bV hv with ⟨j,u,rfl,rfl⟩|⟨y,u,rfl,rfl⟩
   ·rw[MR]at h;exact wpAny_eqBool_int h
   ·rw[MS]at h;exact SeqAt.EqAt.int_str i t y u _ _ _ _ h
  ·rcases bV hv with ⟨j,u,rfl,rfl⟩|⟨y,u,rfl,rfl⟩
   ·rw[MT]at h;exact SeqAt.EqAt.str_int x t j u _ _ _ _ h
   ·rw[MU]at h;exact wpAny_eqBool_str h
 «strs»:=fun k x t v h=>by
  rcases bV h with ⟨i,u,rfl,e⟩|⟨y,u,rfl,e⟩
  ·exact nomatch e
  ·injection e with e1 _
   subst e1
   cases v <;> rfl
end L2
namespace L2
open PySem PySem.Spec PyProof.Rows
inductive V where
 | non|bl (b:Bool)|int (i:Int)|str (x:Str)|byt (b:Array UInt8)|flt (b:UInt64)|ref (a:Addr)|ty (n:String)
 deriving DecidableEq
def RelV:V->Value->Prop
 | .non,u=>u=Value.none
 | .bl b,u=>u=Value.bool b
 | .int i,u=>∃ t,u=Value.int i t
 | .str x,u=>∃ t,u=Value.str x t
 | .byt b,u=>∃ t,u=Value.bytes b t
 | .flt b,u=>∃ t,u=Value.float b t
 | .ref a,u=>u=Value.ref a
 | .ty n,u=>u=Value.type n
abbrev aO:List V->List Value->Prop:=Paired RelV
theorem aO.length {xs:List V}{us:List Value}(r:aO xs us):xs.length=us.length:=Paired.length r
theorem aO.get:∀ {xs:List V}{us:List Value}{i:Nat}{x:V},aO xs us->xs[i]?=some x->∃ u,us[i]?=some u/\RelV x u
 | _,_,_,_,.nil,e=>by simp at e
 | _,_,0,_,.cons r _,e=>by simp at e;subst e;exact⟨_,rfl,r⟩
 | _,_,i+1,x,.cons _ t,e=>by
  obtain⟨u,h1,h2⟩:=aO.get (i:=i) (x:=x) t (by simpa using e)
  exact⟨u,by simpa using h1,h2⟩
theorem aO.set {x:V}{u:Value}(r:RelV x u):∀ {xs:List V}{us:List Value} (i:Nat),aO xs us->aO (xs.set i x) (us.set i u)
 | _,_,_,.nil=>.nil
 | _,_,0,.cons _ t=>.cons r t
 | _,_,i+1,.cons q t=>.cons q (aO.set r i t)
theorem aO.append:∀ {xs ys:List V}{us ws:List Value},aO xs us->aO ys ws->aO (xs++ys) (us++ws)
 | _,_,_,_,.nil,s=>s
 | _,_,_,_,.cons r t,s=>.cons r (aO.append t s)
theorem aO.take:∀ {xs:List V}{us:List Value} (n:Nat),aO xs us->aO (xs.take n) (us.take n)
 | _,_,0,_=>.nil
 | _,_,_+1,.nil=>.nil
 | _,_,n+1,.cons r t=>.cons r (aO.take n t)
theorem aO.drop:∀ {xs:List V}{us:List Value} (n:Nat),aO xs us->aO (xs.drop n) (us.drop n)
 | _,_,0,r=>r
 | _,_,_+1,.nil=>.nil
 | _,_,n+1,.cons _ t=>aO.drop n t
def Hr:Option V->Option Value->Prop
 | some v,some u=>RelV v u
 | none,none=>True
 | _,_=>False
def KV {κ:Type}:List (κ × V)->List (κ × Value)->Prop:=Paired fun (p:κ × V) (q:κ × Value)=>p.1=q.1/\RelV p.2 q.2
def kV:Key->V
 | .inl i=>.int i
 | .inr x=>.str x
inductive HO where
  | lst (xs:List V)
  | tup (xs:List V)
  | dK (kvs:List (Key × V))|dT (kvs:List (List Key × V))
  | set (S:Int->Bool) (n:Nat)
  | ins (C dx:Addr) (fs:List (Str × V))
  | own (x:Addr)
  | xd (fs:List (Str × V))
  | met (f x:Addr)
  | rng (lo hi:Int)
  | frz (o:Obj) (u:HO)
  | tbl (ps:Array Value)
  | ext (φ:Heap->Prop)
abbrev Hp:=Addr->Option HO
def cM (H:Hp)(a:Addr)(o:HO):Hp:=fun b=>if b=a then some o else H b
theorem aX {H:Hp}{a:Addr}{o:HO}:cM H a o a=some o:=by unfold cM;rw[if_pos rfl]
theorem aY {H:Hp}{a b:Addr}{o:HO}(h:b≠a):cM H a o b=H b:=by unfold cM;rw[if_neg h]
theorem bi {H:Hp}{a b:Addr}{o:HO}(h:H a=some o)(h':H b=none):a≠b:=by
 intro e;subst e;rw[h]at h';cases h'
section
variable (P:Program) (w:World)
def fB (H:Hp)(h:Heap)(a:Addr):HO->Prop
 | .lst xs=>xs.length<=sizeLine/\∃ (its:List Value) (n:Nat),aO xs its/\h.get? a=some {cls:=.type "list",data:=.seq its.toArray n}
 | .tup xs=>xs.length<=sizeLine/\∃ its:List Value,aO xs its/\IsTup h a its.toArray
 | .dK kvs=>kvs.length<=sizeLine/\(a == sysModules)=false/\∃ vs,KV kvs vs/\h.DictOf (Aq P w) a vs
 | .dT kvs=>kvs.length<=sizeLine/\(a == sysModules)=false/\∃ xs:List (List Key × Addr × Value),
   Paired (fun (p:List Key × V) (q:List Key × Addr × Value)=>p.1=q.1/\H q.2.1=some (.tup (p.1.map kV))/\RelV p.2 q.2.2) kvs xs ∧
   ∃ o es ep,h.get? a=some o/\o.ExactDict/\o.data=.dict es ep/\es.toList=xs.map (entryOfKey (tupleKind (Aq P w)))/\(xs.map (·.1)).Nodup
 | .set S n=>h.SetOf (intKind P w) a S n
 | .ins C dx fs=>H dx=some (.own a)/\fs.length<=1000/\dx≠a/\h.get? a=some (PySem.W.instObj C dx) ∧
   ∃ mA,h.Ns1 dx mA/\(∀ f,Hr (fs.lookup f) (mA f))/\PySem.Within mA (fs.map (·.1))
 | .own _=>∃ o,h.get? a=some o
 | .xd fs=>∃ mA,h.Ns1 a mA/\∀ f,Hr (fs.lookup f) (mA f)
 | .rng lo hi=>∃ t u v,h.get? a=some {cls:=.type "range",data:=.fields #[.int lo t,.int hi u,.int 1 v]}
 | .frz o u=>h.get? a=some o/\fB H h a u
 | .tbl ps=>h.get? a=some {cls:=.none,data:=.fields ps}
 | .met f x=>h.get? a=some (PySem.W.methodObj (.ref f) (.ref x))
 | .ext φ=>φ h/\(∃ o,h.get? a=some o)/\∀ h1 h2:Heap,φ h1->(∀ o,h1.get? a=some o->h2.get? a=some o)->φ h2
def hZ (H:Hp)(h:Heap):Prop:=∀ a o,H a=some o->fB P w H h a o
end
section
variable {P:Program}{w:World}{H H':Hp}{h h':Heap}{a:Addr}{o:HO}
theorem fB.lt (x:fB P w H h a o):a<h.objs.size:=by
 cases o with
 | lst xs=>obtain⟨_,_,_,_,e⟩:=x;exact Heap.lt_size e
 | tup xs=>obtain⟨_,_,_,p⟩:=x;exact p.lt
 | dK kvs=>obtain⟨_,_,_,_,o,_,_,e,_⟩:=x;exact Heap.lt_size e
 | dT kvs=>obtain⟨_,_,_,_,o,_,_,e,_⟩:=x;exact Heap.lt_size e
 | set S n=>obtain⟨o,_,_,_,e,_⟩:=x;exact Heap.lt_size e
 | ins C dx fs=>obtain⟨_,_,_,e,_⟩:=x;exact Heap.lt_size e
 | own y=>obtain⟨_,e⟩:=x;exact Heap.lt_size e
 | xd fs=>obtain⟨_,⟨_,_,_,e,_⟩,_⟩:=x;exact Heap.lt_size e
 | rng lo hi=>obtain⟨_,_,_,e⟩:=x;exact Heap.lt_size e
 | frz ob u=>obtain⟨e,_⟩:=x;exact Heap.lt_size e
 | tbl ps=>exact Heap.lt_size (show h.get? a=some _ from x)
 | met f y=>exact Heap.lt_size (show h.get? a=some _ from x)
 | ext φ=>obtain⟨_,⟨_,e⟩,_⟩:=x;exact Heap.lt_size e
theorem Paired.mapP {α β:Type}{F G:α->β->Prop}:∀ {l₁:List α}{l₂:List β},Paired F l₁ l₂->(∀ a b,F a b->G a b)->Paired G l₁ l₂
 | _,_,.nil,_=>.nil
 | _,_,.cons r t,f=>.cons (f _ _ r) (Paired.mapP t f)
theorem fB.stay (x:fB P w H h a o)(k:∀ b u,(b=a\/H b=some (.own a))->h.get? b=some u->h'.get? b=some u)
  (ho:∀ b,H b=some (.own a)->H' b=some (.own a)) (ht:∀ b xs,H b=some (.tup xs)->H' b=some (.tup xs)):fB P w H' h' a o:=by
 induction o with
 | lst xs=>obtain⟨z,its,n,r,e⟩:=x;exact⟨z,its,n,r,k _ _ (.inl rfl) e⟩
 | tup xs=>obtain⟨z,its,r,ob,e,c⟩:=x;exact⟨z,its,r,ob,k _ _ (.inl rfl) e,c⟩
 | dK kvs=>obtain⟨z,y,vs,r,ob,es,ep,e,c⟩:=x;exact⟨z,y,vs,r,ob,es,ep,k _ _ (.inl rfl) e,c⟩
 | dT kvs=>
  obtain⟨z,y,xs,r,ob,es,ep,e,c⟩:=x;exact⟨z,y,xs,Paired.mapP r fun p q z=>⟨z.1,ht _ _ z.2.1,z.2.2⟩,ob,es,ep,k _ _ (.inl rfl) e,c⟩
 | set S n=>obtain⟨ob,es,ep,t,e,c⟩:=x;exact⟨ob,es,ep,t,k _ _ (.inl rfl) e,c⟩
 | ins C dx fs=>
  obtain⟨d,z,ne,e,mA,⟨od,es,ep,e2,c⟩,r⟩:=x;exact⟨ho _ d,z,ne,k _ _ (.inl rfl) e,mA,⟨od,es,ep,k _ _ (.inr d) e2,c⟩,r⟩
 | own y=>obtain⟨ob,e⟩:=x;exact⟨ob,k _ _ (.inl rfl) e⟩
 | xd fs=>obtain⟨mA,⟨od,es,ep,e,c⟩,r⟩:=x;exact⟨mA,⟨od,es,ep,k _ _ (.inl rfl) e,c⟩,r⟩
 | rng lo hi=>obtain⟨t,u,v,e⟩:=x;exact⟨t,u,v,k _ _ (.inl rfl) e⟩
 | frz ob u ih=>obtain⟨e,q⟩:=x;exact⟨k _ _ (.inl rfl) e,ih q⟩
 | tbl ps=>
  have e:h.get? a=some {cls:=.none,data:=.fields ps}:=x;show h'.get? a=some {cls:=.none,data:=.fields ps};exact k a _ (.inl rfl) e
 | met f y=>
  have e:h.get? a=some (PySem.W.methodObj (.ref f) (.ref y)):=x;show h'.get? a=some (PySem.W.methodObj (.ref f) (.ref y));exact k a _ (.inl rfl) e
 | ext φ=>obtain⟨p,⟨o,e⟩,st⟩:=x;exact⟨st _ _ p fun o q=>k _ _ (.inl rfl) q,⟨o,k _ _ (.inl rfl) e⟩,st⟩
theorem hZ.lt (x:hZ P w H h)(e:H a=some o):a<h.objs.size:=(x a o e).lt
theorem hZ.fresh (x:hZ P w H h)(e:h.objs.size<=a):H a=none:=by
 cases q:H a with
 | none=>rfl
 | some u=>exact absurd (lt_of_lt_of_le (x.lt q) e) (lt_irrefl _)
theorem hZ.kept (x:hZ P w H h)(k:∀ b u,h.get? b=some u->h'.get? b=some u):hZ P w H h':=fun a o e=>
 (x a o e).stay (fun b u _ q=>k b u q) (fun _ q=>q) fun _ _ q=>q
theorem hZ.laid (x:hZ P w H h)(k:∀ b u,h.get? b=some u->h'.get? b=some u)(hp:h.objs.size<=a)(new:fB P w (cM H a o) h' a o):hZ P w (cM H a o) h':=fun b u e=>by
 have hn:=x.fresh hp
 by_cases hb:b=a
 ·subst hb;rw[aX]at e;cases e;exact new
 ·rw[aY hb]at e;exact(x b u e).stay (fun c v _ q=>k c v q) (fun c q=>by rw[aY (bi q hn)];exact q) fun c xs q=>by rw[aY (bi q hn)];exact q
end
def Rd (H:Hp)(a:Addr)(u:HO):Prop:=H a=some u\/∃ o,H a=some (.frz o u)
theorem Rd.of {H:Hp}{a:Addr}{u:HO}(h:H a=some u):Rd H a u:=.inl h
theorem Rd.ok {P:Program}{w:World}{H:Hp}{h:Heap}{a:Addr}{u:HO}(r:Rd H a u)(x:hZ P w H h):fB P w H h a u:=by
 rcases r with r|⟨o,r⟩
 ·exact x a u r
 ·obtain⟨_,q⟩:=x a _ r;exact q
def Q4:Option HO->Prop
 | some (.lst _)=>True
 | some (.dK _)=>True
 | some (.dT _)=>True
 | some (.set _ _)=>True
 | some (.ins _ _ _)=>True
 | some (.ext _)=>True
 | _=>False
section
variable {P:Program}{w:World}{H:Hp}{h h':Heap}{x e:Addr}{o':HO}
theorem hZ.write (ok:hZ P w H h)(mu:Q4 (H x))(he:e=x\/H e=some (.own x))(k:∀ b u,b≠e->h.get? b=some u->h'.get? b=some u)(heo:∃ u,h'.get? e=some u)
  (new:fB P w (cM H x o') h' x o'):hZ P w (cM H x o') h':=fun b u q=>by
 have nown:∀ c y,H c=some (.own y)->c≠x:=fun c y r z=>by subst z;rw[r]at mu;exact mu
 have ntup:∀ c xs,H c=some (.tup xs)->c≠x:=fun c xs r z=>by subst z;rw[r]at mu;exact mu
 by_cases hb:b=x
 ·subst hb;rw[aX]at q;cases q;exact new
 ·rw[aY hb]at q
  by_cases hbe:b=e
  ·have q':H b=some (.own x):=by
    rcases he with z|z
    ·exact absurd (hbe.trans z) hb
    ·rw[hbe];exact z
   rw[q]at q';cases q'
   obtain⟨v,hv⟩:=heo;exact⟨v,by rw[hbe];exact hv⟩
  ·refine(ok b u q).stay (fun c v hc r=>k c v ?_ r) (fun c r=>by rw[aY (nown c b r)];exact r) fun c xs r=>by rw[aY (ntup c xs r)];exact r
   rcases hc with rfl|hc
   ·exact hbe
   ·rintro rfl
    rcases he with z|z
    ·exact nown c b hc z
    ·rw[hc]at z;cases z;exact hb rfl
end
structure Un (fs ex:List Addr) (H H':Hp) (h h':Heap):Prop where
 keep:∀ b o,h.get? b=some o->H b=none->b∉fs->b∉ex->h'.get? b=some o
 slot:∀ b o,h.get? b=some o->H b=none->b∈fs->b∉ex->∃ sl,h'.get? b=some {o with slots:=sl}
 free:∀ b o,h.get? b=some o->H b=none->b∉ex->H' b=none
 there:∀ b o,h.get? b=some o->b∉ex->∃ o',h'.get? b=some o'
 tups:∀ b xs,H b=some (.tup xs)->H' b=some (.tup xs)
 frzs:∀ b o u,H b=some (.frz o u)->H' b=some (.frz o u)
 tbls:∀ b ps,H b=some (.tbl ps)->∃ more,H' b=some (.tbl (ps++more))
section
variable {fs fs' ex ex':List Addr}{H H1 H2:Hp}{h h1 h2 h':Heap}{a x e:Addr}{o:HO}
theorem Un.any (u:Un fs ex H H1 h h1){b:Addr}{ob:Obj}(q:h.get? b=some ob)(n:H b=none)(hx:b∉ex):∃ sl,h1.get? b=some {ob with slots:=sl}:=by
 by_cases hb:b∈fs
 ·exact u.slot b ob q n hb hx
 ·exact⟨ob.slots,u.keep b ob q n hb hx⟩
theorem Un.trans (a:Un fs ex H H1 h h1)(b:Un fs ex H1 H2 h1 h2):Un fs ex H H2 h h2 where
 keep:=fun c ob q n hc hx=>b.keep c ob (a.keep c ob q n hc hx) (a.free c ob q n hx) hc hx
 slot:=fun c ob q n hc hx=>by
  obtain⟨sl,e1⟩:=a.slot c ob q n hc hx;obtain⟨sl',e2⟩:=b.slot c _ e1 (a.free c ob q n hx) hc hx;exact⟨sl',e2⟩
 free:=fun c ob q n hx=>by
  obtain⟨o',e1⟩:=a.there c ob q hx;exact b.free c o' e1 (a.free c ob q n hx) hx
 there:=fun c ob q hx=>by
  obtain⟨o',e1⟩:=a.there c ob q hx;exact b.there c o' e1 hx
 tups:=fun c xs q=>b.tups c xs (a.tups c xs q)
 frzs:=fun c ob xs q=>b.frzs c ob xs (a.frzs c ob xs q)
 tbls:=fun c ps q=>by
  obtain⟨m1,e1⟩:=a.tbls c ps q;obtain⟨m2,e2⟩:=b.tbls c _ e1;exact⟨m1++m2,by rw[e2,Array.append_assoc]⟩
theorem Un.kept (k:∀ b u,h.get? b=some u->h'.get? b=some u):Un fs ex H H h h':=
 ⟨fun b ob q _ _ _=>k b ob q,fun b ob q _ _ _=>⟨ob.slots,k b ob q⟩,fun _ _ _ n _=>n,fun b ob q _=>⟨ob,k b ob q⟩,fun _ _ q=>q,fun _ _ _ q=>q,fun _ ps q=>⟨#[],by rw[q];simp⟩⟩
theorem Un.refl:Un fs ex H H h h:=Un.kept fun _ _ q=>q
theorem Un.laid (k:∀ b u,h.get? b=some u->h'.get? b=some u)(hp:h.objs.size<=a)(hn:H a=none):Un fs ex H (cM H a o) h h' where
 keep:=fun b u q _ _ _=>k b u q
 slot:=fun b u q _ _ _=>⟨u.slots,k b u q⟩
 free:=fun b u q n _=>by rw[aY (ne_of_lt (lt_of_lt_of_le (Heap.lt_size q) hp))];exact n
 there:=fun b u q _=>⟨u,k b u q⟩
 tups:=fun b xs q=>by rw[aY (bi q hn)];exact q
 frzs:=fun b u xs q=>by rw[aY (bi q hn)];exact q
 tbls:=fun b ps q=>⟨#[],by rw[aY (bi q hn),q];simp⟩
theorem Un.write (mu:Q4 (H x))(he:e=x\/H e=some (.own x))(k:∀ b u,b≠e->h.get? b=some u->h'.get? b=some u)(heo:∃ u,h'.get? e=some u):Un fs ex H (cM H x o) h h':=by
 have hx:∀ b,H b=none->b≠x:=fun b n z=>by subst z;rw[n]at mu;exact mu
 have hb:∀ b,H b=none->b≠e:=fun b n z=>by
  subst z
  rcases he with r|r
  ·exact hx b n r
  ·rw[n]at r;cases r
 have hm:∀ b u,H b=some u->¬ Q4 (some u)->b≠x:=fun b u q nm z=>by subst z;rw[q]at mu;exact nm mu
 refine⟨fun b u q n _ _=>k b u (hb b n) q,fun b u q n _ _=>⟨u.slots,k b u (hb b n) q⟩,fun b u q n _=>by rw[aY (hx b n)];exact n,fun b u q _=>?_,
  fun b xs q=>by rw[aY (hm b _ q fun z=>z)];exact q,fun b u xs q=>by rw[aY (hm b _ q fun z=>z)];exact q,fun b ps q=>⟨#[],by rw[aY (hm b _ q fun z=>z),q];simp⟩⟩
 by_cases hbe:b=e
 ·subst hbe;exact heo
 ·exact⟨u,k b u hbe q⟩
theorem Un.mono (u:Un fs ex H H1 h h1)(hs:∀ b∈fs,b∈fs')(hx:∀ b∈ex,b∈ex'):Un fs' ex' H H1 h h1:=
 ⟨fun b ob q n hb he=>u.keep b ob q n (fun z=>hb (hs b z)) fun z=>he (hx b z),fun _ _ q n _ he=>u.any q n fun z=>he (hx _ z),fun b ob q n he=>u.free b ob q n fun z=>he (hx b z),fun b ob q he=>u.there b ob q fun z=>he (hx b z),u.tups,u.frzs,u.tbls⟩
end
def Ra (h:Heap)(H:Hp):List Addr:=(List.range h.objs.size).filter fun a=>(H a).isSome
def qW (h:Heap)(H:Hp):Heap:=PySem.W.hideAll h (Ra h H)
theorem BD (h:Heap)(H:Hp):(qW h H).objs.size=h.objs.size:=PySem.W.hideAll_size _ _
theorem Et {h:Heap}{H:Hp}{b:Addr}{o:Obj}(e:h.get? b=some o)(n:H b=none):(qW h H).get? b=some o:=
 PySem.W.hideAll_get _ e fun hm=>by
  have q:(H b).isSome=true:=(mem_filter.mp hm).2;rw[n]at q;simp at q
theorem Jr {h:Heap}{H:Hp}{b:Addr}{o:Obj}(e:(qW h H).get? b=some o):h.get? b=some o/\H b=none:=by
 have e':h.get? b=some o:=PySem.W.of_hideAll (Ra h H) e;refine⟨e',?_⟩
 cases q:H b with
 | none=>rfl
 | some x=>
  have hm:b∈Ra h H:=mem_filter.mpr ⟨mem_range.mpr (Heap.lt_size e'),by simp[q]⟩
  have z:(qW h H).get? b=none:=PySem.W.hideAll_none (Ra h H) hm;rw[z]at e;cases e
def HL (g h:Heap)(L:Addr):List (Addr × Obj):=(List.range h.objs.size).filterMap fun a=>if a=L\/(g.get? a).isSome=true then none else (h.get? a).map fun o=>(a,o)
def rest (g h:Heap)(L d:Addr):List (Addr × Obj):=(HL g h L).filter fun p=>decide (p.1≠d)
end L2
namespace L2
open PySem PySem.Spec PyProof.Rows
structure Mod (K:Frg) (mg:Str->Option Value) (base:Heap):Prop where
 kin:K.In base
 glob:base.Ns mainGlobals mg
 blt:∃ mb,base.Ns builtinsNs mb/\∀ x:Str,x≠"__name__"->mb x=bootBuiltins x
 nolimit:base.NoLimit
structure Cx where
 prog:Program
 w:World
 K:Frg
 mg:Str->Option Value
 base:Heap
 A:Around
 N:List Str
 s₀:Shared
 H₀:Hp
 env:Env
 outer:List Env
 stack:List Env
 ex:List Addr
 fn:Str->Bool
 calm:Bool
 pn:List (Addr × Obj)
 xe:Value->Shared->Prop
def BC (l:List Env):List Addr:=l.filterMap (·.frame)
abbrev Cx.fs (X:Cx):List Addr:=BC X.outer
def Q6 (sc:Scope)(x:Str):Prop:=sc.names.lookup x=some .local\/sc.names.lookup x=some .cell\/sc.names.lookup x=some .free
def Loc (sc:Scope)(x:Str):Prop:=sc.names.lookup x=some .local\/sc.names.lookup x=some .cell
def Look (env:Env)(h:Heap)(m:Str->Option Value)(x:Str)(u:Value):Prop:=
 (env.kindOf x=some .local/\m x=some u)\/((env.kindOf x=some .cell\/env.kindOf x=some .free)/\∃ c,env.cells.lookup x=some c/\h.IsCell c (some u))
structure Cx.Ok (X:Cx):Prop where
 mod:Mod X.K X.mg X.base
 kind:X.env.scope.kind=.function
 glob:X.env.globals=mainGlobals
 blt:X.env.builtins=builtinsNs
 above:X.s₀.heap.objs.size<=X.env.locals
 inj:∀ x y c,X.env.cells.lookup x=some c->X.env.cells.lookup y=some c->x=y
 has:∀ x,(X.env.kindOf x=some .cell\/X.env.kindOf x=some .free)->∃ c,X.env.cells.lookup x=some c
 cab:∀ x c,X.fn x=true->X.env.cells.lookup x=some c->X.s₀.heap.objs.size<=c
 hd:X.calm=true->X.A.handled=none
 frames:X.A.frames=some X.stack
 stk:X.stack=X.outer\/(X.stack=X.env::X.outer/\X.env.frame=some X.env.locals)
 exf:∀ b∈X.ex,b≠X.env.locals/\∀ x c,X.env.cells.lookup x=some c->c≠b
 bs:∀ b o,X.base.get? b=some o->X.s₀.heap.get? b=some o/\X.H₀ b=none
 bsz:X.base.objs.size<=X.s₀.heap.objs.size
 noex:∀ b o,X.base.get? b=some o->b∉X.ex
 exfs:∀ b∈X.ex,b∉X.fs
 funs:X.s₀.heap.FunFrames X.base X.outer
 frf:∀ b∈X.fs,X.H₀ b=none
structure aH (X:Cx) (pins:List (Addr × Obj)) (σ:List (Option V)) (H:Hp) (s:Shared):Prop where
 ok:X.Ok
 os:s.os=X.s₀.os
 bare:AllBare s.gens
 base:Un X.fs X.ex X.H₀ H X.s₀.heap s.heap
 loc:∃ m,s.heap.Ns X.env.locals m/\∀ (i:Nat) (x:Str) (v:V),X.N[i]?=some x->σ[i]?=some (some v)->Q6 X.env.scope x->∃ u,RelV v u/\Look X.env s.heap m x u
 cell:∀ x c,X.env.cells.lookup x=some c->∃ v,s.heap.IsCell c v
 free:H X.env.locals=none
 freeC:∀ x c,X.env.cells.lookup x=some c->H c=none
 pin:∀ p∈X.pn++pins,s.heap.get? p.1=some p.2/\H p.1=none/\p.1≠X.env.locals/\p.1∉X.fs/\∀ v,p.2.data≠.cell v
 hok:hZ X.prog X.w H s.heap
 len:σ.length=X.N.length
section
variable {X:Cx}{pins:List (Addr × Obj)}{σ:List (Option V)}{H H':Hp}{s:Shared}{h':Heap}
theorem Cx.Ok.nofr (ok:X.Ok){b:Addr}{o:Obj}(e:X.base.get? b=some o):b∉X.fs:=fun hb=>by
 have:=(ok.funs.mem hb).1;rw[e]at this;cases this
theorem aH.bs (I:aH X pins σ H s):∀ b o,X.base.get? b=some o->s.heap.get? b=some o/\H b=none:=fun b o e=>
 ⟨I.base.keep b o (I.ok.bs b o e).1 (I.ok.bs b o e).2 (I.ok.nofr e) (I.ok.noex b o e),I.base.free b o (I.ok.bs b o e).1 (I.ok.bs b o e).2 (I.ok.noex b o e)⟩
theorem aH.bk (I:aH X pins σ H s):∀ b o,X.base.get? b=some o->s.heap.get? b=some o:=fun b o e=>(I.bs b o e).1
theorem aH.mod (I:aH X pins σ H s):Mod X.K X.mg X.base:=I.ok.mod
theorem aH.kIn (I:aH X pins σ H s):X.K.In s.heap:=I.ok.mod.kin.keeps I.bk
theorem aH.nolimit (I:aH X pins σ H s):s.heap.NoLimit:=I.ok.mod.nolimit.keeps I.bk
theorem aH.fr (I:aH X pins σ H s):∃ m,Fr X.base X.env.locals s.heap m:=
 let ⟨m,hn,_⟩:=I.loc
 ⟨m,hn,I.bk,le_trans I.ok.bsz I.ok.above⟩
theorem aH.lt (I:aH X pins σ H s):X.env.locals<s.heap.objs.size:=let ⟨_,hn,_⟩:=I.loc;hn.lt
theorem aH.sz (I:aH X pins σ H s):X.s₀.heap.objs.size<=s.heap.objs.size:=le_trans I.ok.above (Nat.le_of_lt I.lt)
theorem aH.nofs (I:aH X pins σ H s){a:Addr}(h:s.heap.objs.size<=a):a∉X.fs:=fun hb=>by
 obtain⟨_,o,ho,_⟩:=I.ok.funs.mem hb;exact absurd (lt_of_lt_of_le (Heap.lt_size ho) (le_trans I.sz h)) (lt_irrefl _)
theorem aH.cne (I:aH X pins σ H s):∀ x c,X.env.cells.lookup x=some c->c≠X.env.locals:=fun x c e z=>by
 obtain⟨v,o,ho,hd⟩:=I.cell x c e;obtain⟨m,⟨o',es,ep,ho',hd',_⟩,_⟩:=I.loc;rw[z,ho']at ho;cases ho;rw[hd']at hd;cases hd
theorem aH.funs (I:aH X pins σ H s):s.heap.FunFrames X.base X.outer:=by
 have all:∀ (l:List Env),(∀ b∈BC l,b∈X.fs)->X.s₀.heap.FunFrames X.base l->s.heap.FunFrames X.base l:=by
  intro l
  induction l with
  | nil=>intro _ _;trivial
  | cons env r ih=>
   intro hs hl;obtain⟨hk,⟨L,o,hf,hn,ho,hd⟩,hr⟩:=hl;have hL:L∈X.fs:=hs L (by unfold BC;rw[filterMap_cons,hf];exact mem_cons_self)
   obtain⟨sl,e⟩:=I.base.slot L o ho (I.ok.frf L hL) hL fun z=>I.ok.exfs L z hL;exact⟨hk,⟨L,_,hf,hn,e,hd⟩,ih (fun b hb=>hs b (by unfold BC;rw[filterMap_cons,hf];exact mem_cons_of_mem _ hb)) hr⟩
 exact all X.outer (fun _ hb=>hb) I.ok.funs
theorem aH.stack (I:aH X pins σ H s):s.heap.FunFrames X.base X.stack:=by
 rcases I.ok.stk with e|⟨e,hf⟩
 ·rw[e];exact I.funs
 ·rw[e];obtain⟨m,hn,_⟩:=I.loc;refine .cons (by rw[I.ok.kind];decide) hf hn ?_ I.funs
  exact Heap.get?_none_of_le (le_trans I.ok.bsz I.ok.above)
theorem aH.stkSub (I:aH X pins σ H s):∀ b∈BC X.stack,b∈X.env.locals::X.fs:=fun b hb=>by
 rcases I.ok.stk with e|⟨e,hf⟩
 ·rw[e]at hb;exact mem_cons_of_mem _ hb
 ·rw[e]at hb;unfold BC at hb;rw[filterMap_cons,hf]at hb;exact hb
theorem aH.stkFree (I:aH X pins σ H s):∀ b∈BC X.stack,H b=none:=fun b hb=>by
 rcases mem_cons.mp (I.stkSub b hb) with e|hb
 ·rw[e];exact I.free
 ·obtain⟨_,o,ho,_⟩:=I.ok.funs.mem hb;exact I.base.free b o ho (I.ok.frf b hb) fun z=>I.ok.exfs b z hb
theorem aH.step {g':Array GenState}{t':Nat}{d':Drawn}{ch:List Addr}(I:aH X pins σ H s)
  (hch:∀ b∈ch,(b∈X.ex\/X.s₀.heap.objs.size<=b)/\b≠X.env.locals/\(∀ x c,X.env.cells.lookup x=some c->c≠b)/\∀ p∈X.pn++pins,p.1≠b)
  (keep:∀ b o,b≠X.env.locals->b∉X.fs->b∉ch->s.heap.get? b=some o->H b=none->h'.get? b=some o)
  (slot:∀ b o,b≠X.env.locals->b∈X.fs->b∉ch->s.heap.get? b=some o->H b=none->∃ sl,h'.get? b=some {o with slots:=sl}) (free:∀ b o,b∉ch->s.heap.get? b=some o->H b=none->H' b=none)
  (there:∀ b o,b∉ch->s.heap.get? b=some o->∃ o',h'.get? b=some o')
  (tups:∀ b xs,H b=some (.tup xs)->H' b=some (.tup xs)) (frzs:∀ b o u,H b=some (.frz o u)->H' b=some (.frz o u)) (tbls:∀ b ps,H b=some (.tbl ps)->∃ more,H' b=some (.tbl (ps++more)))
  (ns:∀ m,s.heap.Ns X.env.locals m->h'.Ns X.env.locals m) (hok:hZ X.prog X.w H' h') (hg:AllBare g') :
  aH X pins σ H' {s with heap:=h',gens:=g',drawn:=d',toks:=t'}:=by
 have neL:∀ b o,X.s₀.heap.get? b=some o->b≠X.env.locals:=fun b o e=>ne_of_lt (lt_of_lt_of_le (Heap.lt_size e) I.ok.above);have neC:∀ b o,X.s₀.heap.get? b=some o->b∉X.ex->b∉ch:=fun b o e hx hb=>by
  rcases(hch b hb).1 with z|z
  ·exact hx z
  ·exact absurd (lt_of_lt_of_le (Heap.lt_size e) z) (lt_irrefl _)
 have cellK:∀ x c,X.env.cells.lookup x=some c->∀ v,s.heap.IsCell c v->h'.IsCell c v:=fun x c e v ⟨o,ho,hd⟩=>by
  have nch:c∉ch:=fun z=>(hch c z).2.2.1 x c e rfl
  by_cases hc:c∈X.fs
  ·obtain⟨sl,q⟩:=slot c o (I.cne x c e) hc nch ho (I.freeC x c e);exact⟨_,q,hd⟩
  ·exact⟨o,keep c o (I.cne x c e) hc nch ho (I.freeC x c e),hd⟩
 refine⟨I.ok,I.os,hg,⟨fun b o e n hb hx=>?_,fun b o e n hb hx=>?_,fun b o e n hx=>?_,fun b o e hx=>?_,fun b xs e=>tups b xs (I.base.tups b xs e),fun b o xs e=>frzs b o xs (I.base.frzs b o xs e),fun b ps e=>?_⟩,?_,fun x c e=>?_,?_,fun x c e=>?_,fun p hp=>?_,hok,I.len⟩
 ·exact keep b o (neL b o e) hb (neC b o e hx) (I.base.keep b o e n hb hx) (I.base.free b o e n hx)
 ·obtain⟨sl,e1⟩:=I.base.slot b o e n hb hx;obtain⟨sl',e2⟩:=slot b _ (neL b o e) hb (neC b o e hx) e1 (I.base.free b o e n hx);exact⟨sl',e2⟩
 ·obtain⟨o',e1⟩:=I.base.there b o e hx;exact free b o' (neC b o e hx) e1 (I.base.free b o e n hx)
 ·obtain⟨o',e1⟩:=I.base.there b o e hx;exact there b o' (neC b o e hx) e1
 ·obtain⟨m1,e1⟩:=I.base.tbls b ps e;obtain⟨m2,e2⟩:=tbls b _ e1;exact⟨m1++m2,by rw[e2,Array.append_assoc]⟩
 ·obtain⟨m,hn,hl⟩:=I.loc;refine⟨m,ns m hn,fun i x v e1 e2 e3=>?_⟩;obtain⟨u,r,l⟩:=hl i x v e1 e2 e3;refine⟨u,r,?_⟩
  rcases l with l|⟨k,c,e,z⟩
  ·exact .inl l
  ·exact .inr ⟨k,c,e,cellK x c e _ z⟩
 ·obtain⟨v,z⟩:=I.cell x c e;exact⟨v,cellK x c e v z⟩
 ·obtain⟨m,⟨o,_,_,ho,_⟩,_⟩:=I.loc;exact free _ o (fun z=>(hch _ z).2.1 rfl) ho I.free
 ·obtain⟨v,o,ho,hd⟩:=I.cell x c e;exact free c o (fun z=>(hch c z).2.2.1 x c e rfl) ho (I.freeC x c e)
 ·obtain⟨e,n,ne,nf,d⟩:=I.pin p hp;have nch:p.1∉ch:=fun z=>(hch p.1 z).2.2.2 p hp rfl;exact⟨keep p.1 p.2 ne nf nch e n,free p.1 p.2 nch e n,ne,nf,d⟩
theorem aH.un {t':Nat}(I:aH X pins σ H s)(u:Un X.fs [] H H' s.heap h')(hok:hZ X.prog X.w H' h'):aH X pins σ H' {s with heap:=h',toks:=t'}:=by
 obtain⟨m,⟨o,es,ep,ho,r⟩,_⟩:=id I.loc;obtain⟨sl,hL⟩:=u.any ho I.free (by simp)
 exact I.step (g':=s.gens) (d':=s.drawn) (ch:=[]) (fun _ z=>nomatch z) (fun b o _ hb _ e n=>u.keep b o e n hb (by simp)) (fun b o _ hb _ e n=>u.slot b o e n hb (by simp)) (fun b o _ e n=>u.free b o e n (by simp)) (fun b o _ e=>u.there b o e (by simp)) u.tups u.frzs u.tbls (fun m' hm=>by
  obtain⟨o',es',ep',ho',r'⟩:=hm;rw[ho]at ho';cases ho'
  exact⟨_,es',ep',hL,r'⟩) hok I.bare
theorem aH.call {g':Array GenState}{t':Nat}{d':Drawn}{ch:List Addr}(I:aH X pins σ H s)(u:Un (BC X.stack) ch H H' s.heap h')(hok:hZ X.prog X.w H' h')(hg:AllBare g')
  (hch:∀ b∈ch,(b∈X.ex\/X.s₀.heap.objs.size<=b)/\b≠X.env.locals/\(∀ x c,X.env.cells.lookup x=some c->c≠b)/\∀ p∈X.pn++pins,p.1≠b) :
  aH X pins σ H' {s with heap:=h',gens:=g',drawn:=d',toks:=t'}:=by
 obtain⟨m,⟨o,es,ep,ho,r⟩,_⟩:=id I.loc;obtain⟨sl,hL⟩:=u.any ho I.free fun z=>(hch _ z).2.1 rfl;exact I.step (ch:=ch) hch (fun b o hL hb hc e n=>u.keep b o e n (fun z=>(mem_cons.mp (I.stkSub b z)).elim hL hb) hc) (fun b o _ _ hc e n=>u.any e n hc) (fun b o hc e n=>u.free b o e n hc) (fun b o hc e=>u.there b o e hc) u.tups u.frzs u.tbls (fun m' hm=>by
  obtain⟨o',es',ep',ho',r'⟩:=hm;rw[ho]at ho';cases ho'
  exact⟨_,es',ep',hL,r'⟩) hok hg
theorem aH.turned {t':Nat}{it:Addr}(I:aH X pins σ H s)(k:∀ b o,b≠it->s.heap.get? b=some o->h'.get? b=some o)(hn:H it=none)(hL:it≠X.env.locals)
  (h1:it∈X.ex\/X.s₀.heap.objs.size<=it) (h2:∀ x c,X.env.cells.lookup x=some c->c≠it) (h3:∀ p∈X.pn++pins,p.1≠it):aH X pins σ H {s with heap:=h',toks:=t'}:=by
 have nit:∀ b u,H b=some u->b≠it:=fun b u e z=>by rw[z,hn]at e;cases e
 refine I.step (g':=s.gens) (d':=s.drawn) (ch:=[it]) (fun b hb=>?_) (fun b o _ _ hc e _=>k b o (fun z=>hc (by simp[z])) e) (fun b o _ _ hc e _=>⟨o.slots,k b o (fun z=>hc (by simp[z])) e⟩) (fun _ _ _ _ n=>n)
  (fun b o hc e=>⟨o,k b o (fun z=>hc (by simp[z])) e⟩) (fun _ _ e=>e) (fun _ _ _ e=>e) (fun b ps e=>⟨#[],by rw[e];simp⟩) (fun m hm=>?_) (fun b u e=>?_) I.bare
 ·have e:b=it:=by simpa using hb
  subst e;exact⟨h1,hL,h2,h3⟩
 ·obtain⟨o,es,ep,ho,r⟩:=hm;exact⟨o,es,ep,k _ o (Ne.symm hL) ho,r⟩
 ·refine(I.hok b u e).stay (fun c v hc q=>k c v ?_ q) (fun _ q=>q) fun _ _ q=>q
  rcases hc with z|z
  ·rw[z];exact nit b u e
  ·exact nit c _ z
theorem aH.tok (I:aH X pins σ H s)(t:Nat):aH X pins σ H {s with toks:=t}:=I.un (h':=s.heap) (t':=t) Un.refl I.hok
theorem aH.kept {t':Nat}(I:aH X pins σ H s)(k:∀ b u,s.heap.get? b=some u->h'.get? b=some u):aH X pins σ H {s with heap:=h',toks:=t'}:=I.un (Un.kept k) (I.hok.kept k)
theorem aH.laid {a:Addr}{o:HO}{t':Nat}(I:aH X pins σ H s)(k:∀ b u,s.heap.get? b=some u->h'.get? b=some u)(hp:s.heap.objs.size<=a)(new:fB X.prog X.w (cM H a o) h' a o) :
  aH X pins σ (cM H a o) {s with heap:=h',toks:=t'}:=I.un (Un.laid k hp (I.hok.fresh hp)) (I.hok.laid k hp new)
theorem aH.write {x e:Addr}{o:HO}{t':Nat}(I:aH X pins σ H s)(mu:Q4 (H x))(he:e=x\/H e=some (.own x))(k:∀ b u,b≠e->s.heap.get? b=some u->h'.get? b=some u)(heo:∃ u,h'.get? e=some u)
  (new:fB X.prog X.w (cM H x o) h' x o):aH X pins σ (cM H x o) {s with heap:=h',toks:=t'}:=I.un (Un.write mu he k heo) (I.hok.write mu he k heo new)
theorem aH.pins_of {pins':List (Addr × Obj)}(I:aH X pins σ H s)(h:∀ p∈pins',s.heap.get? p.1=some p.2/\H p.1=none/\p.1≠X.env.locals/\p.1∉X.fs/\∀ v,p.2.data≠.cell v):aH X pins' σ H s:=
 ⟨I.ok,I.os,I.bare,I.base,I.loc,I.cell,I.free,I.freeC,fun p hp=>(mem_append.mp hp).elim (fun z=>I.pin p (mem_append_left _ z)) (h p),I.hok,I.len⟩
theorem wW {N:List Str}(hN:N.Nodup){i j:Nat}{x:Str}(a:N[i]?=some x)(b:N[j]?=some x):i=j:=by
 obtain⟨h1,e1⟩:=List.getElem?_eq_some_iff.mp a;obtain⟨h2,e2⟩:=List.getElem?_eq_some_iff.mp b;exact(List.getElem_inj hN).mp (e1.trans e2.symm)
theorem sX {M:Model}{A:Around}{E:Value->Shared->Prop}{i:Nat}{x:Str}{v:V}{u:Value}{Q:Unit->Shared->Prop}(I:aH X pins σ H s)(hN:X.N.Nodup)(hi:X.N[i]?=some x)(hx:Loc X.env.scope x)(r:RelV v u)
  (h:∀ s',aH X pins (σ.set i (some v)) H s'->(∃ a,Heap.SameBut a s.heap s'.heap/\(a=X.env.locals\/X.env.cells.lookup x=some a))->Q () s') (hf:X.fn x=true\/X.env.scope.names.lookup x=some .local:=by first|exact .inl rfl|exact .inr rfl|assumption):wpAny M A (storeName X.env x u) Q E s:=by
 obtain⟨m,hn,hl⟩:=id I.loc;have hcls:(X.env.scope.kind == .class || (X.env.scope.kind == .module && X.env.locals != X.env.globals))=false:=by rw[I.ok.kind];rfl
 have hiσ:i<σ.length:=by rw[I.len];exact(List.getElem?_eq_some_iff.mp hi).1
 have cne:=I.cne;have tracked:∀ {a:Addr}{h':Heap},(∃ o,s.heap.get? a=some o/\H a=none)->Heap.SameBut a s.heap h'->hZ X.prog X.w H h':=fun {a h'} ha hs b ob e=>by
  obtain⟨_,_,hfree⟩:=ha;refine(I.hok b ob e).stay (fun c w' hc q=>(hs.2 c ?_).trans q) (fun _ q=>q) fun _ _ q=>q;rintro rfl
  rcases hc with rfl|hc
  ·rw[hfree]at e;cases e
  ·rw[hfree]at hc;cases hc
 rcases hx with hk|hk
 ·refine wpAny_storeName_local hk hn (fun h' hn' hs=>?_) hcls;obtain⟨oL,_,_,hoL,_⟩:=id hn;refine h _ ⟨I.ok,I.os,I.bare,⟨fun b o e n hb hx=>?_,fun b o e n hb hx=>?_,I.base.free,fun b o e hx=>?_,I.base.tups,I.base.frzs,I.base.tbls⟩,⟨_,hn',fun j y v' e1 e2 e3=>?_⟩,fun y c e=>?_,I.free,I.freeC,fun p hp=>?_,tracked ⟨oL,hoL,I.free⟩ hs,by simpa using I.len⟩ ⟨_,hs,.inl rfl⟩
  ·exact(hs.2 b (ne_of_lt (lt_of_lt_of_le (Heap.lt_size e) I.ok.above))).trans (I.base.keep b o e n hb hx)
  ·obtain⟨sl,e1⟩:=I.base.slot b o e n hb hx;exact⟨sl,(hs.2 b (ne_of_lt (lt_of_lt_of_le (Heap.lt_size e) I.ok.above))).trans e1⟩
  ·obtain⟨o',e1⟩:=I.base.there b o e hx;exact⟨o',(hs.2 b (ne_of_lt (lt_of_lt_of_le (Heap.lt_size e) I.ok.above))).trans e1⟩
  ·by_cases hj:j=i
   ·subst hj;rw[hi]at e1;cases e1
    rw[getElem?_set_self hiσ]at e2
    cases e2
    exact⟨u,r,.inl ⟨hk,by simp⟩⟩
   ·rw[getElem?_set_ne (Ne.symm hj)]at e2;obtain⟨u',r',q⟩:=hl j y v' e1 e2 e3;refine⟨u',r',?_⟩
    rcases q with ⟨k,e⟩|⟨k,c,e,z⟩
    ·refine .inl ⟨k,?_⟩;have:y≠x:=fun e=>hj (wW hN e1 (e ▸ hi));simp[this,e]
    ·exact .inr ⟨k,c,e,z.sameBut hs (cne y c e)⟩
  ·obtain⟨w',z⟩:=I.cell y c e;exact⟨w',z.sameBut hs (cne y c e)⟩
  ·obtain⟨e,n,ne,nf,d⟩:=I.pin p hp;exact⟨(hs.2 p.1 ne).trans e,n,ne,nf,d⟩
 ·have hfn:X.fn x=true:=by
   rcases hf with z|z
   ·exact z
   ·rw[z]at hk;cases hk
  obtain⟨c,hc⟩:=I.ok.has x (.inl hk);obtain⟨w',z⟩:=I.cell x c hc;refine wpAny_storeName_cell I.ok.kind hk hc z (fun h' hc' hs=>?_);obtain⟨oc,hoc,hocd⟩:=id z;refine h {s with heap:=h'} ⟨I.ok,I.os,I.bare,⟨fun b o e n hb hx=>?_,fun b o e n hb hx=>?_,I.base.free,fun b o e hx=>?_,I.base.tups,I.base.frzs,I.base.tbls⟩,⟨m,hn.sameBut hs (Ne.symm (cne x c hc)),fun j y v' e1 e2 e3=>?_⟩,fun y c' e=>?_,I.free,I.freeC,fun p hp=>?_,tracked ⟨oc,hoc,I.freeC x c hc⟩ hs,by simpa using I.len⟩ ⟨c,hs,.inr hc⟩
  ·exact(hs.2 b (ne_of_lt (lt_of_lt_of_le (Heap.lt_size e) (I.ok.cab x c hfn hc)))).trans (I.base.keep b o e n hb hx)
  ·obtain⟨sl,e1⟩:=I.base.slot b o e n hb hx;exact⟨sl,(hs.2 b (ne_of_lt (lt_of_lt_of_le (Heap.lt_size e) (I.ok.cab x c hfn hc)))).trans e1⟩
  ·obtain⟨o',e1⟩:=I.base.there b o e hx;exact⟨o',(hs.2 b (ne_of_lt (lt_of_lt_of_le (Heap.lt_size e) (I.ok.cab x c hfn hc)))).trans e1⟩
  ·by_cases hj:j=i
   ·subst hj;rw[hi]at e1;cases e1
    rw[getElem?_set_self hiσ]at e2
    cases e2
    exact⟨u,r,.inr ⟨.inl hk,c,hc,hc'⟩⟩
   ·rw[getElem?_set_ne (Ne.symm hj)]at e2;obtain⟨u',r',q⟩:=hl j y v' e1 e2 e3;refine⟨u',r',?_⟩
    rcases q with q|⟨k,c',e,z'⟩
    ·exact .inl q
    ·refine .inr ⟨k,c',e,z'.sameBut hs ?_⟩;rintro rfl;exact hj (wW hN e1 (I.ok.inj _ _ _ e hc ▸ hi))
  ·by_cases hcc:c'=c
   ·subst hcc;exact⟨_,hc'⟩
   ·obtain⟨w2,z2⟩:=I.cell y c' e;exact⟨w2,z2.sameBut hs hcc⟩
  ·obtain⟨e,n,ne,nf,d⟩:=I.pin p hp;refine⟨(hs.2 p.1 ?_).trans e,n,ne,nf,d⟩;intro q;rw[q,hoc]at e;have q':oc=p.2:=Option.some.inj e;exact d w' (by rw[<-q'];exact hocd)
theorem lX {M:Model}{A:Around}{E:Value->Shared->Prop}{i:Nat}{x:Str}{v:V}{u:Value}{Q:Unit->Shared->Prop}(I:aH X pins σ H s)(hN:X.N.Nodup)(hi:X.N[i]?=some x)(hx:Loc X.env.scope x)(r:RelV v u)
  (h:∀ s',aH X pins (σ.set i (some v)) H s'->Q () s') (hf:X.fn x=true\/X.env.scope.names.lookup x=some .local:=by first|exact .inl rfl|exact .inr rfl|assumption):wpAny M A (storeName X.env x u) Q E s:=
 sX I hN hi hx r (fun s' I' _=>h s' I') hf
end
abbrev XK:=Value->Option Addr->Hp->Prop
abbrev St:=List (Option V)
abbrev VK:=V->Hp->Prop
abbrev TE:=St->Hp->VK->Prop
abbrev TT:=St->Hp->(Bool->Hp->Prop)->Prop
abbrev TA:=St->Hp->(List V->Hp->Prop)->Prop
structure Ends where
 nx:St->Hp->Prop
 rt:VK
 bk:St->Hp->Prop:=fun _ _=>False
 ct:St->Hp->Prop:=fun _ _=>False
abbrev TS:=Ends->St->Hp->Prop
def EP (X:Cx)(pins:List (Addr × Obj))(σ:St)(Q:VK)(u:Value)(s':Shared):Prop:=∃ v H',aH X pins σ H' s'/\RelV v u/\Q v H'
def TP (X:Cx)(pins:List (Addr × Obj))(σ:St)(Q:Bool->Hp->Prop)(b:Bool)(s':Shared):Prop:=∃ H',aH X pins σ H' s'/\Q b H'
def AP (X:Cx)(pins:List (Addr × Obj))(σ:St)(Q:List V->Hp->Prop)(us:List Value)(s':Shared):Prop:=∃ vs H',aH X pins σ H' s'/\aO vs us/\Q vs H'
def SP (X:Cx)(pins:List (Addr × Obj))(D:Ends)(f:Flow)(s':Shared):Prop:=
 match f with
 | .next=>∃ σ' H',aH X pins σ' H' s'/\D.nx σ' H'
 | .brk=>∃ σ' H',aH X pins σ' H' s'/\D.bk σ' H'
 | .cont=>∃ σ' H',aH X pins σ' H' s'/\D.ct σ' H'
 | .ret u=>∃ v σ' H',aH X pins σ' H' s'/\RelV v u/\D.rt v H'
def PE (X:Cx)(e:Expr)(t:TE):Prop:=
 ∀ (pins:List (Addr × Obj)) (s:Shared) (σ:St) (H:Hp) (Q:VK),aH X pins σ H s->t σ H Q->wpAny (model X.prog X.w) X.A (eval e X.env) (EP X pins σ Q) X.xe s
def PT (X:Cx)(e:Expr)(t:TT):Prop:=
 ∀ (pins:List (Addr × Obj)) (s:Shared) (σ:St) (H:Hp) (Q:Bool->Hp->Prop),aH X pins σ H s->t σ H Q->wpAny (model X.prog X.w) X.A (isTrue e X.env (eval e X.env)) (TP X pins σ Q) X.xe s
def PW (X:Cx)(e:Expr)(t:TT):Prop:=
 ∀ (whole:Sem Value) (pins:List (Addr × Obj)) (s:Shared) (σ:St) (H:Hp) (Q:Bool->Hp->Prop),aH X pins σ H s->t σ H Q->wpAny (model X.prog X.w) X.A (isTrue e X.env whole) (TP X pins σ Q) X.xe s
theorem PW.pt {X:Cx}{e:Expr}{t:TT}(h:PW X e t):PT X e t:=h _
def PA (X:Cx)(es:List Expr)(t:TA):Prop:=
 ∀ (pos:Pos) (pins:List (Addr × Obj)) (s:Shared) (σ:St) (H:Hp) (Q:List V->Hp->Prop),aH X pins σ H s->t σ H Q->wpAny (model X.prog X.w) X.A (spliced (backTo pos (starEach es X.env))) (AP X pins σ Q) X.xe s
def PS (X:Cx)(st:Stmt)(t:TS):Prop:=
 ∀ (pins:List (Addr × Obj)) (s:Shared) (σ:St) (H:Hp) (D:Ends),aH X pins σ H s->t D σ H->wpAny (model X.prog X.w) X.A (exec st X.env) (SP X pins D) X.xe s
def k8 (X:Cx)(st:List Stmt)(t:TS):Prop:=
 ∀ (pins:List (Addr × Obj)) (s:Shared) (σ:St) (H:Hp) (D:Ends),aH X pins σ H s->t D σ H->wpAny (model X.prog X.w) X.A (execs st X.env) (SP X pins D) X.xe s
theorem cT {α:Type}{t:Sem α}{Q Q':α->Shared->Prop}{M:Model}{A:Around}{E:Value->Shared->Prop}{s:Shared}(h:wpAny M A t Q E s)(hQ:∀ a s,Q a s->Q' a s):wpAny M A t Q' E s:=wpAny_mono h hQ fun _ _ x=>x
end L2
namespace L2
open PySem PySem.Spec PyProof.Rows
section
variable {X:Cx}
def xr (i:Nat):TE:=fun σ H Q=>∃ v,σ[i]?=some (some v)/\Q v H
def tC (v:V):TE:=fun _ H Q=>Q v H
theorem Gu {i:Nat}{x:Str}{pos:Pos} (hN:X.N[i]?=some x) (hv:Q6 X.env.scope x) (hd:(x == ("__debug__":Str))=false:=by decide) (hcd:(x == ("__classdict__":Str))=false:=by decide):PE X (.Name x pos) (xr i):=by
 intro pins s σ H Q I h;obtain⟨v,e,h⟩:=h;obtain⟨m,hn,hl⟩:=I.loc;obtain⟨u,r,l⟩:=hl i x v hN e hv;have fin:EP X pins σ Q u s:=⟨v,H,I,r,h⟩
 rcases l with ⟨hk,hm⟩|⟨hk,c,hc,hcell⟩
 ·exact wpAny_Name (wpAny_loadName_local I.ok.kind hk hn hm fin) hd
 ·rcases hk with hk|hk
  ·exact wpAny_Name (wpAny_loadName_cell I.ok.kind hk hc hcell fin) hd
  ·exact wpAny_Name (wpAny_loadName_free I.ok.kind hk hc hcell fin hcd) hd
theorem NC {i j pos}:PE X (.Constant (.int i) j pos) (tC (.int i)):=fun _ _ _ H _ I h=>wpAny_Constant_int ⟨.int i,H,I.tok _,⟨_,rfl⟩,h⟩
theorem Qq {b j pos}:PE X (.Constant (.bool b) j pos) (tC (.bl b)):=fun _ _ _ H _ I h=>Constant_bool ⟨.bl b,H,I,rfl,h⟩
theorem NE {j pos}:PE X (.Constant .none j pos) (tC .non):=fun _ _ _ H _ I h=>Constant_none ⟨.non,H,I,rfl,h⟩
theorem NF {x j pos}:PE X (.Constant (.str x) j pos) (tC (.str x)):=fun _ _ _ H _ I h=>Calls.Constant_str ⟨.str x,H,I.tok _,⟨_,rfl⟩,h⟩
def Gl (X:Cx)(x:Str):Prop:=X.env.kindOf x=some .globalImplicit
theorem I0 {E:Value->Shared->Prop}{pins:List (Addr × Obj)}{s:Shared}{σ:St}{H:Hp}{x:Str}{u:Value}{pos:Pos}{Q:Value->Shared->Prop}(I:aH X pins σ H s)(hg:Gl X x)(hm:X.mg x=some u)(h:Q u s)
  (hd:(x == ("__debug__":Str))=false:=by decide):wpAny (model X.prog X.w) X.A (eval (.Name x pos) X.env) Q E s:=
 Calls.Name_function_global I.ok.kind hg (Calls.loadGlobal_global (by rw[I.ok.glob];exact I.mod.glob.keeps I.bk) hm h) hd
theorem jg {E:Value->Shared->Prop}{pins:List (Addr × Obj)}{s:Shared}{σ:St}{H:Hp}{x:Str}{u:Value}{pos:Pos}{Q:Value->Shared->Prop}(I:aH X pins σ H s)(hg:Gl X x)(hm:X.mg x=none)(hv:bootBuiltins x=some u)(h:Q u s)
  (hn:x≠"__name__":=by decide) (hd:(x == ("__debug__":Str))=false:=by decide):wpAny (model X.prog X.w) X.A (eval (.Name x pos) X.env) Q E s:=by
 obtain⟨mb,h1,h2⟩:=I.mod.blt;exact Calls.Name_function_global I.ok.kind hg (Calls.loadGlobal_builtin (by rw[I.ok.glob];exact I.mod.glob.keeps I.bk) hm (by rw[I.ok.blt];exact h1.keeps I.bk) ((h2 x hn).trans hv) h) hd
variable {a b:Expr}{ta tb:TE}{pos:Pos}
def tB (t:TE):TT:=fun σ H Q=>t σ H fun x H1=>∃ c,x=.bl c/\Q c H1
theorem NQ {e:Expr}{t:TE}(h:PE X e t)(he:∀ whole,isTrue e X.env whole=(do let v ← whole;standAt e.pos;holding [v] (truthy v)):=by intro _;rfl):PT X e (tB t):=by
 intro pins s σ H Q I hw;refine isTrue_plain (cT (h pins s σ H _ I hw) fun v s1 ⟨x,H1,I1,r1,q1⟩=>?_) (he _);obtain⟨d,rfl,q⟩:=q1
 cases r1
 exact wpAny_truthy_bool ⟨H1,I1,q⟩
variable {tA tB':TT}{rest:List Expr}
def RW (t u:TT):TT:=fun σ H Q=>t σ H fun c H1=>if c=true then u σ H1 Q else Q false H1
def SI (t u:TT):TT:=fun σ H Q=>t σ H fun c H1=>if c=true then Q true H1 else u σ H1 Q
theorem Kb (ha:PT X a tA):PW X (.BoolOp .And [a] pos) tA:=by
 intro wh pins s σ H Q I h;refine isTrue_and (cT (ha pins s σ H Q I h) fun c s1 e=>?_)
 cases c with
 | true=>exact isTrue_and_nil e
 | false=>exact e
theorem NT (ha:PT X a tA):PW X (.BoolOp .Or [a] pos) tA:=by
 intro wh pins s σ H Q I h;refine isTrue_or (cT (ha pins s σ H Q I h) fun c s1 e=>?_)
 cases c with
 | false=>exact isTrue_or_nil e
 | true=>exact e
theorem NS (ha:PT X a tA)(hb:PW X (.BoolOp .And (b::rest) pos) tB'):PW X (.BoolOp .And (a::b::rest) pos) (RW tA tB'):=by
 intro wh pins s σ H Q I h;refine isTrue_and (cT (ha pins s σ H _ I h) fun c s1 ⟨H1,I1,q1⟩=>?_)
 cases c with
 | true=>exact hb wh pins s1 σ H1 Q I1 q1
 | false=>exact⟨H1,I1,q1⟩
theorem Qw (ha:PT X a tA)(hb:PW X (.BoolOp .Or (b::rest) pos) tB'):PW X (.BoolOp .Or (a::b::rest) pos) (SI tA tB'):=by
 intro wh pins s σ H Q I h;refine isTrue_or (cT (ha pins s σ H _ I h) fun c s1 ⟨H1,I1,q1⟩=>?_)
 cases c with
 | true=>exact⟨H1,I1,q1⟩
 | false=>exact hb wh pins s1 σ H1 Q I1 q1
end
end L2
namespace L2
open PySem PySem.Spec PyProof.Rows
def df (K:Frg)(H:Hp)(a:Addr)(xs:List V):Prop:=
 Rd H a (.lst xs) ∨
  ∃ (o:Obj) (its:Array Value) (n:Nat),K.lookup a=some o/\o.cls=.type "list"/\o.dict=none/\o.data=.seq its n/\its.size<=sizeLine/\aO xs its.toList
def j6 (K:Frg)(H:Hp)(a:Addr)(xs:List V):Prop:=
 Rd H a (.tup xs) ∨
  ∃ (o:Obj) (its:Array Value) (n:Nat),K.lookup a=some o/\o.cls=.type "tuple"/\o.data=.seq its n/\its.size<=sizeLine/\aO xs its.toList
def Rv:Value->Option V
 | .none=>some .non
 | .bool b=>some (.bl b)
 | .int i _=>some (.int i)
 | .str x _=>some (.str x)
 | .bytes b _=>some (.byt b)
 | .float b _=>some (.flt b)
 | .ref a=>some (.ref a)
 | .type n=>some (.ty n)
 | _=>none
theorem RelV.abs {x:V}{u:Value}(r:RelV x u):Rv u=some x:=by
 cases x with
 | non=>cases r;rfl
 | bl _=>cases r;rfl
 | int _=>obtain⟨t,rfl⟩:=r;rfl
 | str _=>obtain⟨t,rfl⟩:=r;rfl
 | byt _=>obtain⟨t,rfl⟩:=r;rfl
 | flt _=>obtain⟨t,rfl⟩:=r;rfl
 | ref _=>cases r;rfl
 | ty _=>cases r;rfl
theorem RelV.inj {x y:V}{u:Value}(r:RelV x u)(q:RelV y u):x=y:=Option.some.inj (r.abs.symm.trans q.abs)
theorem aO.inj:∀ {xs ys:List V}{us:List Value},aO xs us->aO ys us->xs=ys
 | _,_,_,.nil,.nil=>rfl
 | _,_,_,.cons r t,.cons r' t'=>by rw[r.inj r',aO.inj t t']
section
variable {X:Cx}{pins:List (Addr × Obj)}{σ:St}{H:Hp}{s:Shared}{a:Addr}{xs ys:List V}
theorem df.of {K:Frg}(h:H a=some (.lst xs)):df K H a xs:=.inl (.inl h)
theorem j6.of {K:Frg}(h:H a=some (.tup xs)):j6 K H a xs:=.inl (.inl h)
theorem aH.list (I:aH X pins σ H s)(h:df X.K H a xs):∃ its:List Value,aO xs its/\PlainL s.heap a its.toArray/\xs.length<=sizeLine:=by
 rcases h with h|⟨o,its,n,hk,hc,hd,hs,hz,r⟩
 ·obtain⟨z,its,n,r,e⟩:=h.ok I.hok;exact⟨its,r,⟨_,n,e,rfl,rfl,rfl⟩,z⟩
 ·refine⟨its.toList,r,⟨o,n,I.kIn a o hk,hc,hd,by simpa using hs⟩,?_⟩
  have e:=r.length;simp only[length_toList]at e;omega
theorem aH.tuple (I:aH X pins σ H s)(h:j6 X.K H a xs):∃ its:List Value,aO xs its/\IsTup s.heap a its.toArray/\xs.length<=sizeLine:=by
 rcases h with h|⟨o,its,n,hk,hc,hs,hz,r⟩
 ·obtain⟨z,its,r,p⟩:=h.ok I.hok;exact⟨its,r,p,z⟩
 ·refine⟨its.toList,r,⟨o,I.kIn a o hk,hc,n,by simpa using hs⟩,?_⟩
  have e:=r.length;simp only[length_toList]at e;omega
theorem aH.list_inj (I:aH X pins σ H s)(h:df X.K H a xs)(h':df X.K H a ys):xs=ys:=by
 obtain⟨its,r,⟨o,n,e,_,_,d⟩,_⟩:=I.list h;obtain⟨its',r',⟨o',n',e',_,_,d'⟩,_⟩:=I.list h';rw[e]at e';cases e'
 rw[d]at d'
 injection d' with d1 _
 have:its=its':=by simpa using congrArg Array.toList d1
 subst this;exact r.inj r'
theorem aH.tuple_inj (I:aH X pins σ H s)(h:j6 X.K H a xs)(h':j6 X.K H a ys):xs=ys:=by
 obtain⟨its,r,⟨o,e,_,n,d⟩,_⟩:=I.tuple h;obtain⟨its',r',⟨o',e',_,n',d'⟩,_⟩:=I.tuple h';rw[e]at e';cases e'
 rw[d]at d'
 injection d' with d1 _
 have:its=its':=by simpa using congrArg Array.toList d1
 subst this;exact r.inj r'
end
abbrev Cx.wish (X:Cx)(E:Value->Shared->Prop):Cx:={X with xe:=E}
abbrev Cx.nox (X:Cx):Cx:=X.wish fun _ _=>False
theorem Cx.Ok.wish {X:Cx}(ok:X.Ok)(E:Value->Shared->Prop):(X.wish E).Ok:=
 ⟨ok.mod,ok.kind,ok.glob,ok.blt,ok.above,ok.inj,ok.has,ok.cab,ok.hd,ok.frames,ok.stk,ok.exf,ok.bs,ok.bsz,ok.noex,ok.exfs,ok.funs,ok.frf⟩
theorem Cx.Ok.unwish {X:Cx}{E:Value->Shared->Prop}(ok:(X.wish E).Ok):X.Ok:=
 ⟨ok.mod,ok.kind,ok.glob,ok.blt,ok.above,ok.inj,ok.has,ok.cab,ok.hd,ok.frames,ok.stk,ok.exf,ok.bs,ok.bsz,ok.noex,ok.exfs,ok.funs,ok.frf⟩
section
variable {X:Cx}{pins:List (Addr × Obj)}{σ:St}{H:Hp}{s:Shared}{E:Value->Shared->Prop}
theorem aH.wish (I:aH X pins σ H s)(E:Value->Shared->Prop):aH (X.wish E) pins σ H s:=⟨I.ok.wish E,I.os,I.bare,I.base,I.loc,I.cell,I.free,I.freeC,I.pin,I.hok,I.len⟩
theorem aH.unwish (I:aH (X.wish E) pins σ H s):aH X pins σ H s:=⟨I.ok.unwish,I.os,I.bare,I.base,I.loc,I.cell,I.free,I.freeC,I.pin,I.hok,I.len⟩
theorem SP.unwish {D:Ends}{f:Flow}{s':Shared}(h:SP (X.wish E) pins D f s'):SP X pins D f s':=by
 cases f with
 | next=>obtain⟨σ',H',I,q⟩:=h;exact⟨σ',H',I.unwish,q⟩
 | brk=>obtain⟨σ',H',I,q⟩:=h;exact⟨σ',H',I.unwish,q⟩
 | cont=>obtain⟨σ',H',I,q⟩:=h;exact⟨σ',H',I.unwish,q⟩
 | ret u=>obtain⟨v,σ',H',I,r,q⟩:=h;exact⟨v,σ',H',I.unwish,r,q⟩
theorem PE.nox {e:Expr}{t:TE}(h:PE X.nox e t):PE X e t:=fun pins s σ H Q I hw=>
 wpAny_mono (h pins s σ H Q (I.wish _) hw) (fun _ _ ⟨v,H',I',r,q⟩=>⟨v,H',I'.unwish,r,q⟩) fun _ _ z=>False.elim z
theorem PT.nox {e:Expr}{t:TT}(h:PT X.nox e t):PT X e t:=fun pins s σ H Q I hw=>
 wpAny_mono (h pins s σ H Q (I.wish _) hw) (fun _ _ ⟨H',I',q⟩=>⟨H',I'.unwish,q⟩) fun _ _ z=>False.elim z
theorem k8.nox {st:List Stmt}{t:TS}(h:k8 X.nox st t):k8 X st t:=fun pins s σ H D I hw=>
 wpAny_mono (h pins s σ H D (I.wish _) hw) (fun _ _ q=>q.unwish) fun _ _ z=>False.elim z
end
section
variable {X:Cx}{st:Stmt}{rest:List Stmt}{t u:TS}{e:Expr}{te:TE}{pos:Pos}
def QG:TS:=fun D σ H=>D.nx σ H
def R5 (t u:TS):TS:=fun D σ H=>t {D with nx:=u D} σ H
theorem JV:k8 X [] QG:=fun _ _ σ H _ I h=>wpAny_execs_nil ⟨σ,H,I,h⟩
theorem xb (h1:PS X st t)(h2:k8 X rest u):k8 X (st::rest) (R5 t u):=by
 intro pins s σ H D I h;refine wpAny_execs_cons (cT (h1 pins s σ H {D with nx:=u D} I h) fun f s1 q=>?_)
 cases f with
 | next=>
  obtain⟨σ',H',I',q⟩:=q;exact h2 pins s1 σ' H' D I' q
 | ret v=>exact q
 | brk=>exact q
 | cont=>exact q
theorem JW (h1:PS X st t):k8 X [st] t:=by
 intro pins s σ H D I h;refine wpAny_execs_cons (cT (h1 pins s σ H D I h) fun f s1 q=>?_)
 cases f with
 | next=>exact wpAny_execs_nil q
 | ret v=>exact q
 | brk=>exact q
 | cont=>exact q
theorem aH.quiet {pins:List (Addr × Obj)}{σ:St}{H:Hp}{s:Shared}(I:aH X pins σ H s):interactive X.env=false:=by simp[interactive,I.ok.kind]
def QF (te:TE):TS:=fun D σ H=>te σ H fun _ H1=>D.nx σ H1
theorem oC (he:PE X e te)(hs:swapsWith e none pos.line X.env=pure false:=by rfl):PS X (.Expr e pos) (QF te):=by
 intro pins s σ H D I h;exact wpAny_Expr_any (cT (he pins s σ H _ I h) fun v s1 ⟨x,H1,I1,r1,q1⟩=>⟨σ,H1,I1,q1⟩) I.quiet hs
def R4 (te:TE):TS:=fun D σ H=>te σ H D.rt
theorem yV (he:PE X e te):PS X (.Return (some e) pos) (R4 te):=by
 intro pins s σ H D I h;exact wpAny_Return_some (cT (he pins s σ H _ I h) fun v s1 ⟨x,H1,I1,r1,q1⟩=>⟨x,σ,H1,I1,r1,q1⟩)
def RZ (c:TT)(t u:TS):TS:=fun D σ H=>c σ H fun b H1=>if b=true then t D σ H1 else u D σ H1
theorem Qv {c:Expr}{a b:List Stmt}{tc:TT}(hc:PT X c tc)(ha:k8 X a t)(hb:k8 X b u):PS X (.If c a b pos) (RZ tc t u):=by
 intro pins s σ H D I h;refine wpAny_If (cT (hc pins s σ H _ I h) fun d s1 ⟨H1,I1,q1⟩=>?_)
 cases d with
 | true=>exact ha pins s1 σ H1 D I1 q1
 | false=>exact hb pins s1 σ H1 D I1 q1
def Ob:TS:=fun _ _ _=>False
theorem GA:PS X st Ob:=fun _ _ _ _ _ _ h=>h.elim
end
abbrev TG:=V->St->Hp->(St->Hp->Prop)->Prop
abbrev Hs:=List V->St->Hp->(St->Hp->Prop)->Prop
def PG (X:Cx)(target:Expr)(t:TG):Prop:=
 ∀ (pins:List (Addr × Obj)) (s:Shared) (σ:St) (H:Hp) (v:V) (u:Value) (Q:St->Hp->Prop),aH X pins σ H s->RelV v u->t v σ H Q →
  wpAny (model X.prog X.w) X.A (assign target X.env u) (fun _ s'=>∃ σ' H',aH X pins σ' H' s'/\Q σ' H') X.xe s
def CD (X:Cx)(ts:List Expr)(t:Hs):Prop:=
 ∀ (pins:List (Addr × Obj)) (s:Shared) (σ:St) (H:Hp) (vs:List V) (us:List Value) (Q:St->Hp->Prop),aH X pins σ H s->aO vs us->t vs σ H Q →
  wpAny (model X.prog X.w) X.A (assignInOrder ((assignEach ts X.env).map (·.2)) us) (fun _ s'=>∃ σ' H',aH X pins σ' H' s'/\Q σ' H') X.xe s
abbrev Lp:=V->V->V->Hp->(Hp->Prop)->Prop
def OS (X:Cx)(t:Lp):Prop:=
 ∀ (pins:List (Addr × Obj)) (s:Shared) (σ:St) (H:Hp) (o i v:V) (ov iv u:Value) (Q:Hp->Prop),aH X pins σ H s->RelV o ov->RelV i iv->RelV v u->t o i v H Q →
  wpAny (model X.prog X.w) X.A (setItem ov iv u) (fun _ s'=>∃ H',aH X pins σ H' s'/\Q H') X.xe s
section
variable {X:Cx}{pos:Pos}
def Em (i:Nat):TG:=fun v σ H Q=>Q (σ.set i (some v)) H
theorem JN {i:Nat}{x:Str}(hN:X.N.Nodup)(hi:X.N[i]?=some x)(hx:Loc X.env.scope x)(hf:X.fn x=true\/X.env.scope.names.lookup x=some .local:=by first|exact .inl rfl|exact .inr rfl|assumption):PG X (.Name x pos) (Em i):=by
 intro pins s σ H v u Q I r h;exact wpAny_assign_Name (lX I hN hi hx r (fun s' I'=>⟨_,H,I',h⟩) hf)
def Ry:Hs:=fun vs σ H Q=>vs=[]/\Q σ H
def PX (t:TG)(u:Hs):Hs:=fun vs σ H Q=>∃ v r,vs=v::r/\t v σ H fun σ' H'=>u r σ' H' Q
theorem JO:CD X [] Ry:=by
 intro pins s σ H vs us Q I r h;obtain⟨e,h⟩:=h;subst e
 cases r
 exact assignInOrder_nil ⟨σ,H,I,h⟩
theorem Gv {e:Expr}{es:List Expr}{t:TG}{u:Hs}(h1:PG X e t)(h2:CD X es u)
  (hs:(assignEach (e::es) X.env).map (·.2)=assign e X.env::(assignEach es X.env).map (·.2):=by rfl):CD X (e::es) (PX t u):=by
 intro pins s σ H vs us Q I r h;obtain⟨v,vr,e1,h⟩:=h;subst e1
 cases r with
 | cons r rr=>
  rw[hs];refine assignInOrder_cons (cT (h1 pins s σ H _ _ _ I r h) fun _ s1 ⟨σ1,H1,I1,q1⟩=>?_);exact h2 pins s1 σ1 H1 _ _ Q I1 rr q1
def RA (K:Frg)(n:Nat)(t:Hs):TG:=fun v σ H Q=>∃ a xs,v=.ref a/\j6 K H a xs/\xs.length=n/\t xs σ H Q
theorem NI {es:List Expr}{k:Nat}{t:Hs}{n:Nat}(hc:X.calm=true)(h:CD X es t)
  (hn:(assignEach es X.env).length=n:=by rfl) (hst:(assignEach es X.env).findIdx? (·.1)=none:=by rfl):PG X (.Tuple es k pos) (RA X.K n t):=by
 intro pins s σ H v u Q I r hw;obtain⟨a,xs,e1,hq,hl,hw⟩:=hw;subst e1
 cases r
 obtain⟨its,rv,ht,hz⟩:=I.tuple hq;refine assign_Tuple_tuple (I.ok.hd hc) ht (by simp[hn,<-hl,rv.length]) hst fun h' hx=>?_
 have I1:aH X pins σ H {s with heap:=h'}:=I.kept (t':=s.toks) fun b o e=>hx b o (ne_of_lt (Heap.lt_size e)) e;exact h pins _ σ H xs _ Q I1 (by simpa using rv) hw
def Rz (to ti:TE)(t:Lp):TG:=fun v σ H Q=>to σ H fun o H1=>ti σ H1 fun i H2=>t o i v H2 fun H3=>Q σ H3
theorem NH {o i:Expr}{to ti:TE}{t:Lp}(ho:PE X o to)(hi:PE X i ti)(hs:OS X t)
  (ha:∀ v,assign (.Subscript o i pos) X.env v=(do
   let ov ← holding [v] (eval o X.env)
   let iv ← holding [v,ov] (eval i X.env)
   standAt pos
   holding [v,ov,iv] (setItem ov iv v)
   release [v,ov,iv] []):=by intro _;rfl):PG X (.Subscript o i pos) (Rz to ti t):=by
 intro pins s σ H v u Q I r h;rw[ha];refine wpAny_bind (wpAny_holding (cT (ho pins s σ H _ I h) fun ov s1 ⟨x,H1,I1,r1,q1⟩=>?_));refine wpAny_bind (wpAny_holding (cT (hi pins s1 σ H1 _ I1 q1) fun iv s2 ⟨y,H2,I2,r2,q2⟩=>?_));refine wpAny_bind (wpAny_standAt (wpAny_bind (wpAny_holding (cT (hs pins s2 σ H2 x y v ov iv u _ I2 r1 r2 r q2) fun _ s3 ⟨H3,I3,q3⟩=>?_))));exact wpAny_release ⟨σ,H3,I3,q3⟩
def Oa (te:TE)(g:TG):TS:=fun D σ H=>te σ H fun x H1=>g x σ H1 D.nx
theorem Gz {tg e:Expr}{te:TE}{g:TG}(he:PE X e te)(hg:PG X tg g)(hs:swapsWithSole [tg] e pos.line X.env=pure false:=by rfl)(hw:swappedStores [tg] e X.env=pure none:=by rfl)
  (h1:(assignEach [tg] X.env).map (·.2)=[assign tg X.env]:=by rfl):PS X (.Assign [tg] e pos) (Oa te g):=by
 intro pins s σ H D I h;refine wpAny_Assign_stores (cT (he pins s σ H _ I h) fun v s1 ⟨x,H1,I1,r1,q1⟩=>?_) hs hw;rw[h1];exact cT (hg pins s1 σ H1 x v _ I1 r1 q1) fun _ s2 q=>q
theorem NP {i:Nat}{x:Str}{e:Expr}{te:TE}{pos':Pos}(hN:X.N.Nodup)(hi:X.N[i]?=some x)(hx:Loc X.env.scope x)(he:PE X e te)(hs:swapsWith e (some (.Name x pos')) pos.line X.env=pure false:=by rfl)(hf:X.fn x=true\/X.env.scope.names.lookup x=some .local:=by first|exact .inl rfl|exact .inr rfl|assumption) :
  PS X (.Assign [.Name x pos'] e pos) (Oa te (Em i)):=by
 intro pins s σ H D I h;refine wpAny_Assign_Name (cT (he pins s σ H _ I h) fun v s1 ⟨y,H1,I1,r1,q1⟩=>?_) hs;exact lX I1 hN hi hx r1 (fun s2 I2=>⟨_,H1,I2,q1⟩) hf
def R3 (i j:Nat)(ta:TA):TS:=fun D σ H=>ta σ H fun vs H1=>∃ v w,vs=[v,w]/\D.nx ((σ.set i (some v)).set j (some w)) H1
theorem NN {i j:Nat}{x y:Str}{a b:Expr}{ta:TA}{px py pt:Pos}{kt k2 pt2}(hc:X.calm=true)(hN:X.N.Nodup)(hi:X.N[i]?=some x)(hj:X.N[j]?=some y)(hij:i≠j)
  (hx:X.env.scope.names.lookup x=some .local) (hy:X.env.scope.names.lookup y=some .local) (ha:PA X [a,b] ta)
  (hw:swappedStores [.Tuple [.Name x px,.Name y py] kt pt] (.Tuple [a,b] k2 pt2) X.env=pure (some [x,y]))
  (hs:swapsWithSole [.Tuple [.Name x px,.Name y py] kt pt] (.Tuple [a,b] k2 pt2) pos.line X.env=pure false:=by rfl) :
  PS X (.Assign [.Tuple [.Name x px,.Name y py] kt pt] (.Tuple [a,b] k2 pt2) pos) (R3 i j ta):=by
 intro pins s σ H D I h;rw[exec_Assign_arm];refine wpAny_bind (wpAny_standAt ?_);rw[hs];refine wpAny_bind (wpAny_pure ?_);rw[if_neg (by decide)]
 refine wpAny_bind (Tuple_ (cT (ha _ pins s σ H _ I h) fun us s1 ⟨vs,H1,I1,r1,q1⟩=>?_));obtain⟨v,w,e1,q1⟩:=q1;subst e1;obtain⟨u1,u2,rfl,rv,rw'⟩:∃ u1 u2,us=[u1,u2]/\RelV v u1/\RelV w u2:=by
  cases r1 with
  | cons p q=>
   cases q with
   | cons p' q'=>
    cases q'
    exact⟨_,_,rfl,p,p'⟩
 refine wpAny_newObj_type ?_ (by show 2<=sizeLine;decide)
 have I2:aH X pins σ H1 {s1 with heap:=s1.heap.push {cls:=.type "tuple",data:=.seq [u1,u2].toArray}}:=I1.kept (t':=s1.toks) fun b o e=>Heap.get?_push_of_some _ e;rw[hw];refine wpAny_bind (wpAny_pure ?_);show wpAny (model X.prog X.w) X.A (do rule "assign.swapped-stores";let items ← unpackItems (.ref s1.heap.objs.size) 2 none;assignInOrder [fun v=>bindName X.env y v,fun v=>bindName X.env x v] items.reverse;pure Flow.next) _ _ _
 refine wpAny_bind (wpAny_rule (wpAny_bind (unpackItems_tuple (items:=#[u1,u2]) (I.ok.hd hc) (IsTup.new s1.heap _) fun h' hx'=>?_)));have I3:=I2.kept (h':=h') (t':=s1.toks) fun b o e=>hx' b o (ne_of_lt (Heap.lt_size e)) e;show wpAny _ _ (assignInOrder [fun v=>bindName X.env y v,fun v=>bindName X.env x v] [u2,u1] >>= fun _=>pure Flow.next) _ _ _;refine wpAny_bind (assignInOrder_cons (wpAny_bindName (lX I3 hN hj (.inl hy) rw' (fun s2 I4=>?_) (.inr hy))));refine assignInOrder_cons (wpAny_bindName (lX I4 hN hi (.inl hx) rv (fun s3 I5=>assignInOrder_nil (wpAny_pure ?_)) (.inr hx)));rw[List.set_comm _ _ (Ne.symm hij)]at I5;exact⟨_,H1,I5,q1⟩
end
section
variable {X:Cx}{pos:Pos}
def Oe (c:TT)(tb:TS):TS:=fun D σ H=>∃ W:Nat->St->Hp->Prop,(∃ m,W m σ H)/\∀ m σ H,W m σ H →
 c σ H fun b H1=>if b=true then ∃ N:St->Hp->Prop,(∀ σ' H',N σ' H'->∃ m',m'<m/\W m' σ' H')/\tb {D with nx:=N,ct:=N,bk:=D.nx} σ H1 else D.nx σ H1
theorem GB {c:Expr}{body:List Stmt}{tc:TT}{tb:TS}(hp:PassesOwn (model X.prog X.w) X.A X.env X.xe)(hc:PT X c tc)(hb:k8 X body tb):PS X (.While c body [] pos) (Oe tc tb):=by
 intro pins s σ H D I h;obtain⟨W,⟨m0,w0⟩,turn⟩:=h;refine wpAny_While (codeAny_whileLoop (fun n s'=>∃ σ' H',aH X pins σ' H' s'/\W n σ' H') ?_ m0 ⟨σ,H,I,w0⟩);rintro n s1 ⟨σ1,H1,I1,w1⟩;refine wpAny_passesOwn hp (cT (hc pins s1 σ1 H1 _ I1 (turn n σ1 H1 w1)) fun b s2 ⟨H2,I2,q2⟩=>?_)
 cases b with
 | true=>
  obtain⟨N,hN,q2⟩:=q2;rw[if_pos rfl];refine wpAny_passesOwn hp (cT (hb pins s2 σ1 H2 _ I2 q2) fun f s3 q3=>?_)
  cases f with
  | next=>
   obtain⟨σ3,H3,I3,n3⟩:=q3;obtain⟨m',hm,w3⟩:=hN σ3 H3 n3;exact⟨m',hm,σ3,H3,I3,w3⟩
  | cont=>
   obtain⟨σ3,H3,I3,n3⟩:=q3;obtain⟨m',hm,w3⟩:=hN σ3 H3 n3;exact⟨m',hm,σ3,H3,I3,w3⟩
  | brk=>exact q3
  | ret v=>exact q3
 | false=>
  rw[if_neg Bool.false_ne_true];exact wpAny_execs_nil ⟨σ1,H2,I2,q2⟩
end
structure It where
 go:Nat->Hp->Prop
 yld:Nat->Hp->V->Hp->Prop
 stop:Nat->Hp->Prop
def oU (X:Cx)(pins:List (Addr × Obj))(H:Hp)(b:Addr):Prop:=
 H b=none/\b≠X.env.locals/\b∉X.fs/\(b∈X.ex\/X.s₀.heap.objs.size<=b)/\(∀ x c,X.env.cells.lookup x=some c->c≠b)/\∀ p∈X.pn++pins,p.1≠b
theorem aH.fpOk {X:Cx}{pins:List (Addr × Obj)}{σ:St}{H H':Hp}{s:Shared}{b:Addr}(I:aH X pins σ H s)(hb:s.heap.objs.size<=b)(hn:H' b=none):oU X pins H' b:=by
 refine⟨hn,ne_of_gt (lt_of_lt_of_le I.lt hb),I.nofs hb,.inr (le_trans I.sz hb),fun x c e z=>?_,fun p hp z=>?_⟩
 ·obtain⟨v,q⟩:=I.cell x c e;exact absurd (lt_of_lt_of_le q.lt (by rw[z];exact hb)) (lt_irrefl _)
 ·exact absurd (lt_of_lt_of_le (Heap.lt_size (I.pin p hp).1) (by rw[z];exact hb)) (lt_irrefl _)
structure Turn (P:Program) (w:World) (K:Frg) (tg:Expr) (J:It) (fp:List Addr) (it:Addr) (tn:Nat->Heap->Prop):Prop where
 mem:it∈fp
 obj:∀ i h,tn i h->∀ b∈fp,∃ o,h.get? b=some o/\∀ v,o.data≠.cell v
 keep:∀ i h h',tn i h->(∀ b∈fp,∀ o,h.get? b=some o->h'.get? b=some o)->tn i h'
 item:∀ (X:Cx),X.prog=P->X.w=w->X.K=K->X.calm=true->∀ (i:Nat) (pins:List (Addr × Obj)) (s:Shared) (σ:St) (H:Hp) (E:Value->Shared->Prop),aH X pins σ H s->(∀ b∈fp,oU X pins H b)->tn i s.heap->J.go i H →
  wpAny (model P w) X.A (pyNext (.ref it)) (fun r s1=>∃ u,r=some u ∧
   wpAny (model P w) X.A (letOwnedTupleGo tg (.ref it) u) (fun _ s2=>∃ x H',aH X pins σ H' s2/\RelV x u/\J.yld i H x H'/\tn (i+1) s2.heap/\∀ b∈fp,H' b=none) E s1) E s
 done:∀ (X:Cx),X.prog=P->X.w=w->X.K=K->X.calm=true->∀ (i:Nat) (pins:List (Addr × Obj)) (s:Shared) (σ:St) (H:Hp) (E:Value->Shared->Prop),aH X pins σ H s->(∀ b∈fp,oU X pins H b)->tn i s.heap->J.stop i H →
  wpAny (model P w) X.A (pyNext (.ref it)) (fun r s1=>r=none/\aH X pins σ H s1) E s
 self:∀ (A:Around) (i:Nat) (s:Shared) (Q:Value->Shared->Prop) (E:Value->Shared->Prop),tn i s.heap->Q (.ref it) s->wpAny (model P w) A (pyIter (.ref it)) Q E s
abbrev TI:=St->Hp->(It->Hp->Prop)->Prop
def Sk (X:Cx)(pins:List (Addr × Obj))(σ:St)(tg:Expr)(R:It->Hp->Prop)(itv:Value)(s2:Shared):Prop:=
 ∃ (it:Addr) (fp:List Addr) (tn:Nat->Heap->Prop) (J:It) (H':Hp),itv=.ref it/\aH X pins σ H' s2/\Turn X.prog X.w X.K tg J fp it tn/\tn 0 s2.heap/\(∀ b∈fp,oU X pins H' b)/\R J H'
def PI (X:Cx)(tg iter:Expr)(wi:TI):Prop:=
 ∀ (pins:List (Addr × Obj)) (s:Shared) (σ:St) (H:Hp) (R:It->Hp->Prop),aH X pins σ H s->wi σ H R →
  wpAny (model X.prog X.w) X.A (eval iter X.env) (fun v s1=>wpAny (model X.prog X.w) X.A (pyIter v) (Sk X pins σ tg R) X.xe s1) X.xe s
theorem Er {M:Model}{A:Around}{E:Value->Shared->Prop}{s:Shared}{tg:Expr}{it:Addr}{u:Value}{o:Obj}{n:String}{vs:Array Value}{Q:Unit->Shared->Prop}(ho:s.heap.get? it=some o)(hc:o.cls=.type n)(hd:o.data=.fields vs)
  (hn:["enumerate","zip","dict_itemiterator","dict_reverseitemiterator","odict_iterator","itertools.zip_longest","itertools.pairwise"].contains n=false) (hQ:Q () s):wpAny M A (letOwnedTupleGo tg (.ref it) u) Q E s:=by
 unfold letOwnedTupleGo
 cases tg <;> first
  | exact wpAny_pure hQ
  | (cases u <;> first
    | exact wpAny_pure hQ
    | (
      refine wpAny_bind (wpAny_load ho ?_);rw[hc,hd];show wpAny M A (if (["enumerate","zip","dict_itemiterator","dict_reverseitemiterator","odict_iterator","itertools.zip_longest","itertools.pairwise"].contains n && vs[0]? == some (rawInt _))=true then _ else _) Q E s
      rw[if_neg (by intro h;rw[hn,Bool.false_and]at h;cases h)]
      exact wpAny_pure hQ))
def Rg (K:Frg)(a:Addr):It:=
 ⟨fun i H=>∃ xs x,df K H a xs/\xs[i]?=some x,fun i H x H'=>H'=H/\∀ xs,df K H a xs->xs[i]?=some x,fun i H=>∃ xs,df K H a xs/\xs.length<=i⟩
def Rh (K:Frg)(a:Addr):It:=
 ⟨fun i H=>∃ xs x,j6 K H a xs/\xs[i]?=some x,fun i H x H'=>H'=H/\∀ xs,j6 K H a xs->xs[i]?=some x,fun i H=>∃ xs,j6 K H a xs/\xs.length<=i⟩
def Q3 (lo:Int)(n:Nat):It:=⟨fun i _=>i<n,fun i H x H'=>H'=H/\x=.int (lo+i),fun i _=>n<=i⟩
theorem Cs {P:Program}{w:World}{K:Frg}{tg:Expr}(a it:Addr):Turn P w K tg (Rg K a) [it] it (fun i h=>h.IsListIter it a i) where
 mem:=by simp
 obj:=fun i h st b hb=>by
  have e:b=it:=by simpa using hb
  subst e;obtain⟨o,e,c,d⟩:=st;exact⟨o,e,fun v z=>by rw[d]at z;cases z⟩
 keep:=fun i h h' st k=>st.at fun o e=>k it (by simp) o e
 item:=by
  intro X hP hw hK hc i pins s σ H E I hf st hg;subst hP hw hK;obtain⟨xs,x,hq,hx⟩:=hg;obtain⟨its,rv,p,hz⟩:=I.list hq;obtain⟨u,hu,ru⟩:=rv.get hx;obtain⟨f0,f1,f2,f3,f4,f5⟩:=hf it (by simp)
  refine wpAny_pyNext_list_item st p.isList (x:=u) (by simpa using hu) fun h' st' sb=>?_
  have I1:aH X pins σ H {s with heap:=h'}:=I.turned (t':=s.toks) (fun b o hb e=>(sb.2 b hb).trans e) f0 f1 f3 f4 f5;obtain⟨o,e,c,d⟩:=id st';exact⟨u,rfl,Er (s:={s with heap:=h'}) e c d (by decide) ⟨x,H,I1,ru,⟨rfl,fun ys hy=>by rw[I.list_inj hy hq];exact hx⟩,st',fun b hb=>(hf b hb).1⟩⟩
 done:=by
  intro X hP hw hK hc i pins s σ H E I hf st hg;subst hP hw hK;obtain⟨xs,hq,hx⟩:=hg;obtain⟨its,rv,p,hz⟩:=I.list hq;obtain⟨f0,f1,f2,f3,f4,f5⟩:=hf it (by simp)
  have hl:=rv.length;exact wpAny_pyNext_list_end (I.ok.hd hc) st p.isList (by simp;omega) fun h' eb=>⟨rfl,I.turned (t':=s.toks) (fun b o hb e=>eb b o hb e) f0 f1 f3 f4 f5⟩
 self:=fun _ _ _ _ _ st h=>wpAny_pyIter_listiter st h
theorem zj {P:Program}{w:World}{K:Frg}{tg:Expr}(a it:Addr):Turn P w K tg (Rh K a) [it] it (fun i h=>h.IsTupleIter it a i) where
 mem:=by simp
 obj:=fun i h st b hb=>by
  have e:b=it:=by simpa using hb
  subst e;obtain⟨o,e,c,d⟩:=st;exact⟨o,e,fun v z=>by rw[d]at z;cases z⟩
 keep:=fun i h h' st k=>st.at fun o e=>k it (by simp) o e
 item:=by
  intro X hP hw hK hc i pins s σ H E I hf st hg;subst hP hw hK;obtain⟨xs,x,hq,hx⟩:=hg;obtain⟨its,rv,p,hz⟩:=I.tuple hq;obtain⟨u,hu,ru⟩:=rv.get hx;obtain⟨f0,f1,f2,f3,f4,f5⟩:=hf it (by simp)
  refine wpAny_pyNext_tuple_item st (show s.heap.IsTuple a its.toArray from p) (x:=u) (by simpa using hu) fun h' st' sb=>?_
  have I1:aH X pins σ H {s with heap:=h'}:=I.turned (t':=s.toks) (fun b o hb e=>(sb.2 b hb).trans e) f0 f1 f3 f4 f5;obtain⟨o,e,c,d⟩:=id st';exact⟨u,rfl,Er (s:={s with heap:=h'}) e c d (by decide) ⟨x,H,I1,ru,⟨rfl,fun ys hy=>by rw[I.tuple_inj hy hq];exact hx⟩,st',fun b hb=>(hf b hb).1⟩⟩
 done:=by
  intro X hP hw hK hc i pins s σ H E I hf st hg;subst hP hw hK;obtain⟨xs,hq,hx⟩:=hg;obtain⟨its,rv,p,hz⟩:=I.tuple hq;obtain⟨f0,f1,f2,f3,f4,f5⟩:=hf it (by simp)
  have hl:=rv.length;exact wpAny_pyNext_tuple_end (I.ok.hd hc) st (show s.heap.IsTuple a its.toArray from p) (by simp;omega) fun h' eb=>⟨rfl,I.turned (t':=s.toks) (fun b o hb e=>eb b o hb e) f0 f1 f3 f4 f5⟩
 self:=fun _ _ _ _ _ st h=>wpAny_pyIter_tupleiter st h
theorem zi {P:Program}{w:World}{K:Frg}{tg:Expr}(it:Addr)(lo:Int)(n:Nat):Turn P w K tg (Q3 lo n) [it] it (fun i h=>IsRangeIter h it (lo+(i:Nat)*1) ((n:Int)-(i:Nat)) 1) where
 mem:=by simp
 obj:=fun i h st b hb=>by
  have e:b=it:=by simpa using hb
  subst e;exact⟨_,st,fun v z=>by
   have z':Data.fields _=Data.cell v:=z
   cases z'⟩
 keep:=fun i h h' st k=>k it (by simp) _ st
 item:=by
  intro X hP hw hK hc i pins s σ H E I hf st hg;subst hP hw hK;obtain⟨f0,f1,f2,f3,f4,f5⟩:=hf it (by simp)
  have W:=Walks.range (prog:=X.prog) (w:=X.w) (I.ok.hd hc) it lo 1 n;refine W.item i s _ _ hg st fun v h' tk hv st' kk=>?_;obtain⟨t,rfl⟩:=hv;have I1:aH X pins σ H {s with heap:=h',toks:=tk}:=I.turned (fun b o hb e=>kk b o (by simpa using hb) e) f0 f1 f3 f4 f5
  refine⟨_,rfl,Er (s:={s with heap:=h',toks:=tk}) (n:="range_iterator") st' rfl rfl (by decide) ⟨.int (lo+i),H,I1,⟨t,?_⟩,⟨rfl,rfl⟩,st',fun b hb=>(hf b hb).1⟩⟩
  rw[mul_one]
 done:=by
  intro X hP hw hK hc i pins s σ H E I hf st hg;subst hP hw hK;obtain⟨f0,f1,f2,f3,f4,f5⟩:=hf it (by simp)
  exact wpAny_pyNext_range_end (I.ok.hd hc) st (by have:n<=i:=hg;omega) fun h' eb=>⟨rfl,I.turned (t':=s.toks) (fun b o hb e=>eb b o hb e) f0 f1 f3 f4 f5⟩
 self:=fun _ _ _ _ _ st h=>wpAny_pyIter_rangeiter st h
end L2
namespace L2
open PySem PySem.Spec PyProof.Rows
section
variable {X:Cx}{tg:Expr}
def PZ (K:Frg)(tl:TE):TI:=fun σ H R=>tl σ H fun x H1=>∃ a,x=.ref a/\(∃ xs,df K H1 a xs)/\R (Rg K a) H1
def RC (K:Frg)(tl:TE):TI:=fun σ H R=>tl σ H fun x H1=>∃ a,x=.ref a/\(∃ xs,j6 K H1 a xs)/\R (Rh K a) H1
theorem JP {l:Expr}{tl:TE}(hl:PE X l tl):PI X tg l (PZ X.K tl):=by
 intro pins s σ H R I h;refine cT (hl pins s σ H _ I h) fun v s1 ⟨x,H1,I1,r1,q1⟩=>?_;obtain⟨a,e,⟨xs,hq⟩,q⟩:=q1;subst e
 cases r1
 obtain⟨its,rv,p,hz⟩:=I1.list hq;refine wpAny_pyIter_list p.isList ?_;refine⟨s1.heap.objs.size,[s1.heap.objs.size],_,_,H1,rfl,I1.kept (t':=s1.toks) fun b o e=>Heap.get?_push_of_some _ e,Cs a _,⟨_,Heap.get?_push_size _ rfl,rfl,rfl⟩,fun b hb=>?_,q⟩;have e:b=s1.heap.objs.size:=by simpa using hb
 subst e;exact I1.fpOk (le_refl _) (I1.hok.fresh (le_refl _))
theorem NJ {l:Expr}{tl:TE}(hl:PE X l tl):PI X tg l (RC X.K tl):=by
 intro pins s σ H R I h;refine cT (hl pins s σ H _ I h) fun v s1 ⟨x,H1,I1,r1,q1⟩=>?_;obtain⟨a,e,⟨xs,hq⟩,q⟩:=q1;subst e
 cases r1
 obtain⟨its,rv,p,hz⟩:=I1.tuple hq;refine wpAny_pyIter_tuple (show s1.heap.IsTuple a its.toArray from p) ?_;refine⟨s1.heap.objs.size,[s1.heap.objs.size],_,_,H1,rfl,I1.kept (t':=s1.toks) fun b o e=>Heap.get?_push_of_some _ e,zj a _,⟨_,Heap.get?_push_size _ rfl,rfl,rfl⟩,fun b hb=>?_,q⟩;have e:b=s1.heap.objs.size:=by simpa using hb
 subst e;exact I1.fpOk (le_refl _) (I1.hok.fresh (le_refl _))
theorem GD {pins:List (Addr × Obj)}{σ:St}{H:Hp}{s:Shared}{R:It->Hp->Prop}{E:Value->Shared->Prop}{lo hi:Int}{t u v:Tok}{tk:Nat}(I:aH X pins σ H s)(h1:-(2 ^ 62)<=lo)(h2:lo<2 ^ 62)(h3:-(2 ^ 62)<=hi)(h4:hi<2 ^ 62)
  (q:R (Q3 lo (hi-lo).toNat) H):wpAny (model X.prog X.w) X.A (pyIter (.ref s.heap.objs.size)) (Sk X pins σ tg R) E {s with heap:=s.heap.push {cls:=.type "range",data:=.fields #[.int lo t,.int hi u,.int 1 v]},toks:=tk}:=by
 refine wpAny_pyIter_range (IsRange.new ..) (small_one h1 h2 h3 h4) ?_;have I1:aH X pins σ H {s with heap:=s.heap.push {cls:=.type "range",data:=.fields #[.int lo t,.int hi u,.int 1 v]},toks:=tk}:=I.kept fun b o e=>Heap.get?_push_of_some _ e;refine⟨(s.heap.push {cls:=.type "range",data:=.fields #[.int lo t,.int hi u,.int 1 v]}).objs.size,[(s.heap.push {cls:=.type "range",data:=.fields #[.int lo t,.int hi u,.int 1 v]}).objs.size],_,_,H,rfl,
  I1.kept (t':=tk) fun b o e=>Heap.get?_push_of_some _ e,zi _ lo (hi-lo).toNat,?_,fun b hb=>?_,q⟩
 ·have e1:lo+((0:Nat):Int)*1=lo:=by simp
  have e2:(((hi-lo).toNat:Nat):Int)-((0:Nat):Int)=Builtin.Range.rangeSize lo hi 1:=by rw[rangeSize_one];split <;> omega
  show IsRangeIter _ _ (lo+((0:Nat):Int)*1) ((((hi-lo).toNat:Nat):Int)-((0:Nat):Int)) 1;rw[e1,e2];exact Heap.get?_push_size _ rfl
 ·have e:b=(s.heap.push {cls:=.type "range",data:=.fields #[.int lo t,.int hi u,.int 1 v]}).objs.size:=by simpa using hb
  subst e;exact I1.fpOk (le_refl _) (I1.hok.fresh (le_refl _))
def P0 (ta:TA):TI:=fun σ H R=>ta σ H fun vs H1=>∃ j:Int,vs=[.int j]/\-(2 ^ 62)<=j/\j<2 ^ 62/\R (Q3 0 j.toNat) H1
theorem Cd {a:Expr}{ta:TA}{p pos:Pos} (hg:Gl X "range") (hm:X.mg "range"=none) (ha:PA X [a] ta) (hs:starEach [a] X.env=[(false,eval a X.env)]:=by rfl):PI X tg (.Call (.Name "range" p) [a] [] pos) (P0 ta):=by
 intro pins s σ H R I h;refine Call_ (jg I hg hm boot_range (PyProof.Rows.callWith_type1 (cT (ha pos pins s σ H _ I h) fun us s1 ⟨vs,H1,I1,r1,q1⟩=>?_) hs rfl));obtain⟨j,e,q1,q2,q⟩:=q1;subst e
 cases r1 with
 | cons r rr=>
  cases rr
  obtain⟨t,rfl⟩:=r;exact call_range_1 (GD I1 (by omega) (by omega) q1 q2 (by simpa using q))
def RY (wi:TI)(g:TG)(tb:TS):TS:=fun D σ H=>wi σ H fun J H1=>∃ W:Nat->Nat->St->Hp->Prop,(∃ m,W 0 m σ H1)/\∀ i m σ H,W i m σ H →
 (J.stop i H/\D.nx σ H)\/(J.go i H/\∃ N:St->Hp->Prop,(∀ σ' H',N σ' H'->∃ m',m'<m/\W (i+1) m' σ' H')/\∀ x H',J.yld i H x H'->g x σ H' fun σ2 H2=>tb {D with nx:=N,ct:=N,bk:=D.nx} σ2 H2)
def qb (fp:List Addr)(h:Heap):List (Addr × Obj):=fp.filterMap fun b=>(h.get? b).map fun o=>(b,o)
theorem iw {fp:List Addr}{h:Heap}{b:Addr}{o:Obj}(hb:b∈fp)(e:h.get? b=some o):(b,o)∈qb fp h:=List.mem_filterMap.mpr ⟨b,hb,by rw[e];rfl⟩
theorem BU {fp:List Addr}{h:Heap}{p:Addr × Obj}(hp:p∈qb fp h):p.1∈fp/\h.get? p.1=some p.2:=by
 obtain⟨b,hb,e⟩:=List.mem_filterMap.mp hp
 cases q:h.get? b with
 | none=>rw[q]at e;cases e
 | some o=>
  rw[q]at e;have e':(b,o)=p:=Option.some.inj e;subst e';exact⟨hb,q⟩
theorem aH.pinned {pins:List (Addr × Obj)}{σ:St}{H:Hp}{s:Shared}{fp:List Addr}(I:aH X pins σ H s)(hf:∀ b∈fp,oU X pins H b)(ho:∀ b∈fp,∃ o,s.heap.get? b=some o/\∀ v,o.data≠.cell v):aH X (pins++qb fp s.heap) σ H s:=
 I.pins_of fun p hp=>(mem_append.mp hp).elim (fun z=>I.pin p (mem_append_right _ z)) fun z=>by
  obtain⟨hb,e⟩:=BU z;obtain⟨f0,f1,f2,_⟩:=hf p.1 hb;obtain⟨o,e',d⟩:=ho p.1 hb;rw[e]at e';cases e'
  exact⟨e,f0,f1,f2,d⟩
theorem aH.unpinned {pins pl:List (Addr × Obj)}{σ:St}{H:Hp}{s:Shared}(I:aH X (pins++pl) σ H s):aH X pins σ H s:=I.pins_of fun p hp=>I.pin p (mem_append_right _ (mem_append_left _ hp))
theorem NM {iter:Expr}{body:List Stmt}{wi:TI}{g:TG}{tb:TS}{pos:Pos}(hp:PassesOwn (model X.prog X.w) X.A X.env X.xe)(hc:X.calm=true)(hi:PI X tg iter wi)(hg:PG X tg g)(hb:k8 X body tb)
  (hs:∀ x,foldedSetIterable iter X.env x=pure x:=by intro _;rfl):PS X (.For tg iter body [] pos) (RY wi g tb):=by
 intro pins s σ H D I h;refine wpAny_For (cT (hi pins s σ H _ I h) fun v s1 h1=>cT h1 fun itv s2 h2=>?_) hs;obtain⟨it,fp,tn,J,H2,e,I2,T,st2,f2,W,⟨m0,w0⟩,turn⟩:=h2;subst e;have stat:∀ {H':Hp},(∀ b∈fp,H' b=none)->∀ b∈fp,oU X pins H' b:=fun hn b hb=>⟨hn b hb,(f2 b hb).2⟩;refine codeAny_forLoop_any (fun n s'=>∃ i σ' H',aH X pins σ' H' s'/\tn i s'.heap/\(∀ b∈fp,H' b=none)/\W i n σ' H') ?_ m0 ⟨0,σ,H2,I2,st2,fun b hb=>(f2 b hb).1,w0⟩;rintro n s3 ⟨i,σ3,H3,I3,st3,fr3,w3⟩
 rcases turn i n σ3 H3 w3 with ⟨stop,qn⟩|⟨go,N,hN,step⟩
 ·refine wpAny_passesOwn hp (cT (T.done X rfl rfl rfl hc i pins s3 σ3 H3 X.xe I3 (stat fr3) st3 stop) fun r s4 ⟨hr,I4⟩=>?_);subst hr;exact wpAny_execs_nil ⟨σ3,H3,I4,qn⟩
 ·refine wpAny_passesOwn hp (cT (T.item X rfl rfl rfl hc i pins s3 σ3 H3 X.xe I3 (stat fr3) st3 go) fun r s4 ⟨u,hr,h4⟩=>?_);subst hr;refine wpAny_passesOwn hp (cT h4 fun _ s5 ⟨x,H5,I5,r5,y5,st5,fr5⟩=>?_);have I5':=I5.pinned (stat fr5) (T.obj _ _ st5);refine wpAny_passesOwn hp (cT (hg _ s5 σ3 H5 x u _ I5' r5 (step x H5 y5)) fun _ s6 ⟨σ6,H6,I6,q6⟩=>?_);refine wpAny_passesOwn hp (cT (hb _ s6 σ6 H6 _ I6 q6) fun f s7 q7=>?_);have again:∀ {σ7:St}{H7:Hp},aH X (pins++qb fp s5.heap) σ7 H7 s7->N σ7 H7->∃ m,m<n/\∃ i σ' H',aH X pins σ' H' s7/\tn i s7.heap/\(∀ b∈fp,H' b=none)/\W i m σ' H':=fun {σ7 H7} I7 n7=>by
   obtain⟨m',hm,w7⟩:=hN σ7 H7 n7;refine⟨m',hm,i+1,σ7,H7,I7.unpinned,T.keep _ _ _ st5 fun b hb o e=>(I7.pin (b,o) (mem_append_right _ (mem_append_right _ (iw hb e)))).1,fun b hb=>?_,w7⟩;obtain⟨o,e,d⟩:=T.obj _ _ st5 b hb;exact(I7.pin (b,o) (mem_append_right _ (mem_append_right _ (iw hb e)))).2.1
  cases f with
  | next=>obtain⟨σ7,H7,I7,n7⟩:=q7;exact again I7 n7
  | cont=>obtain⟨σ7,H7,I7,n7⟩:=q7;exact again I7 n7
  | brk=>obtain⟨σ7,H7,I7,q7⟩:=q7;exact⟨σ7,H7,I7.unpinned,q7⟩
  | ret v=>obtain⟨x7,σ7,H7,I7,r7,q7⟩:=q7;exact⟨x7,σ7,H7,I7.unpinned,r7,q7⟩
end
end L2
namespace L2
open PySem PySem.Spec PyProof.Rows
abbrev R2:=V->V->Hp->VK->Prop
def mm (X:Cx)(f:Value->Value->Sem Value)(r:R2):Prop:=
 ∀ (pins:List (Addr × Obj)) (s:Shared) (σ:St) (H:Hp) (x y:V) (v u:Value) (Q:VK),aH X pins σ H s->RelV x v->RelV y u->r x y H Q →
  wpAny (model X.prog X.w) X.A (f v u) (EP X pins σ Q) X.xe s
def Rn (X:Cx)(f:Value->Sem Value)(r:V->Hp->VK->Prop):Prop:=
 ∀ (pins:List (Addr × Obj)) (s:Shared) (σ:St) (H:Hp) (x:V) (v:Value) (Q:VK),aH X pins σ H s->RelV x v->r x H Q →
  wpAny (model X.prog X.w) X.A (f v) (EP X pins σ Q) X.xe s
def gM (X:Cx)(f:Value)(r:List V->Hp->VK->Prop):Prop:=
 ∀ (pins:List (Addr × Obj)) (s:Shared) (σ:St) (H:Hp) (xs:List V) (us:List Value) (Q:VK),aH X pins σ H s->aO xs us->r xs H Q →
  wpAny (model X.prog X.w) X.A (call f us) (EP X pins σ Q) X.xe s
def Oc (r:R2)(ta tb:TE):TE:=fun σ H Q=>ta σ H fun x H1=>tb σ H1 fun y H2=>r x y H2 Q
def SK (r:V->Hp->VK->Prop)(ta:TE):TE:=fun σ H Q=>ta σ H fun x H1=>r x H1 Q
def rI (C:Int->Int->Prop)(g:Int->Int->V):R2:=fun x y H Q=>∃ i j,x=.int i/\y=.int j/\C i j/\Q (g i j) H
def Kf (g:Int->Int->V):R2:=fun x y H Q=>∃ i j,x=.int i/\y=.int j/\Q (g i j) H
def rU (g:Int->V):V->Hp->VK->Prop:=fun x H Q=>∃ i,x=.int i/\Q (g i) H
section
variable {X:Cx}{a b c:Expr}{ta tb tc:TE}{pos:Pos}
theorem L8 (ha:PE X a ta)(hb:PE X b tb){pins:List (Addr × Obj)}{s:Shared}{σ:St}{H:Hp}{R:V->V->Hp->Prop}(I:aH X pins σ H s)
  (h:ta σ H fun x H1=>tb σ H1 fun y H2=>R x y H2) {Q:Value->Shared->Prop}{f:Value->Value->Sem Value}
  (hf:∀ v u s2 x y H2,aH X pins σ H2 s2->RelV x v->RelV y u->R x y H2->wpAny (model X.prog X.w) X.A (f v u) Q X.xe s2) :
  wpAny (model X.prog X.w) X.A (eval a X.env) (fun v s₁=>wpAny (model X.prog X.w) X.A (eval b X.env) (fun u s₂=>wpAny (model X.prog X.w) X.A (f v u) Q X.xe s₂) X.xe s₁) X.xe s:=by
 refine cT (ha pins s σ H _ I h) fun v s1 ⟨x,H1,I1,r1,q1⟩=>?_;refine cT (hb pins s1 σ H1 _ I1 q1) fun u s2 ⟨y,H2,I2,r2,q2⟩=>?_;exact hf v u s2 x y H2 I2 r1 r2 q2
theorem qa {op:Operator}{r:R2}(ho:mm X (binaryOp op) r)(ha:PE X a ta)(hb:PE X b tb):PE X (.BinOp a op b pos) (Oc r ta tb):=by
 intro pins s σ H Q I h;exact wpAny_BinOp (L8 ha hb I h fun v u s2 x y H2 I2 rx ry q=>ho pins s2 σ H2 x y v u Q I2 rx ry q)
theorem Qs {op:UnaryOp}{r:V->Hp->VK->Prop}(ho:Rn X (unaryOp op) r)(ha:PE X a ta):PE X (.UnaryOp op a pos) (SK r ta):=by
 intro pins s σ H Q I h;exact UnaryOp_ (cT (ha pins s σ H _ I h) fun v s1 ⟨x,H1,I1,r1,q1⟩=>ho pins s1 σ H1 x v Q I1 r1 q1)
theorem Q9 {f:Value->Value->Sem Value}{C:Int->Int->Prop}{g:Int->Int->Int}
  (rule:∀ (i j:Int) (t u:Tok) (s:Shared) (Q:Value->Shared->Prop) (E:Value->Shared->Prop),C i j->Q (.int (g i j) s.toks) {s with toks:=s.toks+1}->wpAny (model X.prog X.w) X.A (f (.int i t) (.int j u)) Q E s) :
  mm X f (rI C fun i j=>.int (g i j)):=by
 intro pins s σ H x y v u Q I rx ry h;obtain⟨i,j,rfl,rfl,hc,q⟩:=h;obtain⟨t,rfl⟩:=rx;obtain⟨t',rfl⟩:=ry;exact rule i j t t' s _ _ hc ⟨.int (g i j),H,I.tok _,⟨_,rfl⟩,q⟩
theorem Qj {f:Value->Value->Sem Value}{g:Int->Int->Int}
  (rule:∀ (i j:Int) (t u:Tok) (s:Shared) (Q:Value->Shared->Prop) (E:Value->Shared->Prop),Q (.int (g i j) s.toks) {s with toks:=s.toks+1}->wpAny (model X.prog X.w) X.A (f (.int i t) (.int j u)) Q E s) :
  mm X f (Kf fun i j=>.int (g i j)):=by
 intro pins s σ H x y v u Q I rx ry h;obtain⟨i,j,rfl,rfl,q⟩:=h;obtain⟨t,rfl⟩:=rx;obtain⟨t',rfl⟩:=ry;exact rule i j t t' s _ _ ⟨.int (g i j),H,I.tok _,⟨_,rfl⟩,q⟩
theorem JE {f:Value->Value->Sem Value}{g:Int->Int->Bool}
  (rule:∀ (i j:Int) (t u:Tok) (s:Shared) (Q:Value->Shared->Prop) (E:Value->Shared->Prop),Q (.bool (g i j)) s->wpAny (model X.prog X.w) X.A (f (.int i t) (.int j u)) Q E s) :
  mm X f (Kf fun i j=>.bl (g i j)):=by
 intro pins s σ H x y v u Q I rx ry h;obtain⟨i,j,rfl,rfl,q⟩:=h;obtain⟨t,rfl⟩:=rx;obtain⟨t',rfl⟩:=ry;exact rule i j t t' s _ _ ⟨.bl (g i j),H,I,rfl,q⟩
def OO (i j:Int):Prop:=0<=j/\j<=1000000/\i.natAbs<2 ^ 64
def Hj (i j:Int):Prop:=(-(2 ^ 64)<i/\i<2 ^ 64)\/(-(2 ^ 64)<j/\j<2 ^ 64)
theorem Hj.ok {i j:Int}(h:Hj i j):IntMulOk i j:=by
 rcases h with ⟨h1,h2⟩|⟨h1,h2⟩
 ·exact .of_left (intBits_le_64 h1 h2)
 ·exact .of_right (intBits_le_64 h1 h2)
theorem Nr:mm X (binaryOp .Add) (Kf fun i j=>.int (i+j)):=Qj fun _ _ _ _ _ _ _ q=>add_int q
theorem Nw:mm X (binaryOp .Sub) (Kf fun i j=>.int (i-j)):=Qj fun _ _ _ _ _ _ _ q=>sub_int q
theorem JG:mm X (binaryOp .Mod) (rI (fun _ j=>j≠0) fun i j=>.int (i.fmod j)):=Q9 fun _ _ _ _ _ _ _ hc q=>mod_int' hc q
theorem Nv:mm X (binaryOp .Pow) (rI OO fun i j=>.int (i ^ j.toNat)):=Q9 fun _ _ _ _ _ _ _ hc q=>pow_int_small hc.1 hc.2.1 hc.2.2 q
theorem SM {f:Value->Sem Value}{g:Int->Int}
  (rule:∀ (i:Int) (t:Tok) (s:Shared) (Q:Value->Shared->Prop) (E:Value->Shared->Prop),Q (.int (g i) s.toks) {s with toks:=s.toks+1}->wpAny (model X.prog X.w) X.A (f (.int i t)) Q E s) :
  Rn X f (rU fun i=>.int (g i)):=by
 intro pins s σ H x v Q I rx h;obtain⟨i,rfl,q⟩:=h;obtain⟨t,rfl⟩:=rx;exact rule i t s _ _ ⟨.int (g i),H,I.tok _,⟨_,rfl⟩,q⟩
theorem On:Rn X (unaryOp .USub) (rU fun i=>.int (-i)):=SM fun _ _ _ _ _ q=>neg_int q
end
section
variable {X:Cx}{a b c:Expr}{ta tb tc:TE}{pos:Pos}
theorem El {pins:List (Addr × Obj)}{σ:St}{H:Hp}{s:Shared}{Q:VK}{k k':Bool}(I:aH X pins σ H s)(q:Q (.bl k) H)(e:k=k'):EP X pins σ Q (.bool k') s:=by
 subst e;exact⟨.bl k,H,I,rfl,q⟩
theorem K4:mm X (compareOp .Lt) (Kf fun i j=>.bl (decide (i<j))):=JE fun _ _ _ _ _ _ _ q=>lt_int q
theorem Qm:mm X (compareOp .LtE) (Kf fun i j=>.bl (decide (i<=j))):=JE fun _ _ _ _ _ _ _ q=>le_int q
theorem Ql:mm X (compareOp .Gt) (Kf fun i j=>.bl (decide (j<i))):=JE fun _ _ _ _ _ _ _ q=>gt_int q
theorem Qk:mm X (compareOp .GtE) (Kf fun i j=>.bl (decide (j<=i))):=JE fun _ _ _ _ _ _ _ q=>ge_int q
theorem Nt:mm X (compareOp .Is) (fun x y H Q=>y=.non/\Q (.bl (decide (x=.non))) H):=by
 intro pins s σ H x y v u Q I rx ry h;obtain⟨rfl,q⟩:=h
 cases ry
 refine is_none_gen (El I q ?_)
 cases x <;> first
  | (cases rx;rfl)
  | (obtain⟨t,rfl⟩:=rx;rfl)
theorem JJ:mm X (compareOp .IsNot) (fun x y H Q=>y=.non/\Q (.bl (!decide (x=.non))) H):=by
 intro pins s σ H x y v u Q I rx ry h;obtain⟨rfl,q⟩:=h
 cases ry
 refine isnot_none_gen (El I q ?_)
 cases x <;> first
  | (cases rx;rfl)
  | (obtain⟨t,rfl⟩:=rx;rfl)
theorem mm.or {f:Value->Value->Sem Value}{r r':R2}(h:mm X f r)(h':mm X f r'):mm X f (fun x y H Q=>r x y H Q\/r' x y H Q):=by
 intro pins s σ H x y v u Q I rx ry q
 rcases q with q|q
 ·exact h pins s σ H x y v u Q I rx ry q
 ·exact h' pins s σ H x y v u Q I rx ry q
theorem gD (b:Expr){op:CmpOp}(h:op≠.In:=by decide)(h2:op≠.NotIn:=by decide):behindInMarks op b=false:=by
 have e1:(op == CmpOp.In)=false:=by cases op <;> first|rfl|exact absurd rfl h
 have e2:(op == CmpOp.NotIn)=false:=by cases op <;> first|rfl|exact absurd rfl h2
 cases b <;> simp[behindInMarks,e1,e2]
theorem Aw {op:CmpOp}{r:R2}(ho:mm X (compareOp op) r)(ha:PE X a ta)(hb:PE X b tb)(hm:behindInMarks op b=false):PE X (.Compare a [op] [b] pos) (Oc r ta tb):=by
 intro pins s σ H Q I h;exact wpAny_Compare1 (L8 ha hb I h fun v u s2 x y H2 I2 rx ry q=>ho pins s2 σ H2 x y v u Q I2 rx ry q) hm
def QJ (t:TE):TT:=fun σ H Q=>t σ H fun x H'=>∃ k,x=.bl k/\Q k H'
theorem u4 {op:CmpOp}{r:R2}(ho:mm X (compareOp op) r)(ha:PE X a ta)(hb:PE X b tb)(hm:behindInMarks op b=false):PT X (.Compare a [op] [b] pos) (QJ (Oc r ta tb)):=by
 intro pins s σ H Q I h;refine wpAny_isTrue_Compare1 (cT (ha pins s σ H _ I h) fun v s1 ⟨x,H1,I1,r1,q1⟩=>cT (hb pins s1 σ H1 _ I1 q1) fun u s2 ⟨y,H2,I2,r2,q2⟩=>
  cT (ho pins s2 σ H2 x y v u _ I2 r1 r2 q2) fun c s3 ⟨z,H3,I3,r3,k,e,q3⟩=>?_) hm
 subst e
 cases r3
 exact wpAny_truthy_bool ⟨H3,I3,q3⟩
theorem uP:(sizeLine:Nat)<2 ^ 63:=by rw[sizeLine_eq];decide
theorem vals1 {x:V}{us:List Value}(r:aO [x] us):∃ u,us=[u]/\RelV x u:=by
 cases r with
 | cons r1 r2=>cases r2;exact⟨_,rfl,r1⟩
theorem vals2 {x y:V}{us:List Value}(r:aO [x,y] us):∃ u w',us=[u,w']/\RelV x u/\RelV y w':=by
 cases r with
 | cons r1 r2=>
  cases r2 with
  | cons r3 r4=>cases r4;exact⟨_,_,rfl,r1,r3⟩
theorem Da:gM X (.builtin "abs") (fun xs H Q=>∃ i,xs=[.int i]/\Q (.int (if i<0 then -i else i)) H):=by
 intro pins s σ H xs us Q I r h;obtain⟨i,rfl,q⟩:=h;obtain⟨u,rfl,t,rfl⟩:=vals1 r;exact call_abs_int fun u tk=>⟨.int (if i<0 then -i else i),H,I.tok _,⟨_,rfl⟩,q⟩
theorem Bm (hc:X.calm=true):gM X (.builtin "max") (fun xs H Q=>∃ i j,xs=[.int i,.int j]/\Q (.int (if j>i then j else i)) H):=by
 intro pins s σ H xs us Q I r h;obtain⟨i,j,rfl,q⟩:=h;obtain⟨u,w',rfl,⟨t,rfl⟩,⟨t',rfl⟩⟩:=vals2 r;refine max_two_ints (I.ok.hd hc) fun h' tk k=>⟨_,H,I.kept k,?_,q⟩
 by_cases hj:j>i
 ·rw[if_pos hj,if_pos hj];exact⟨_,rfl⟩
 ·rw[if_neg hj,if_neg hj];exact⟨_,rfl⟩
theorem Bo (hc:X.calm=true):gM X (.builtin "min") (fun xs H Q=>∃ i j,xs=[.int i,.int j]/\Q (.int (if j<i then j else i)) H):=by
 intro pins s σ H xs us Q I r h;obtain⟨i,j,rfl,q⟩:=h;obtain⟨u,w',rfl,⟨t,rfl⟩,⟨t',rfl⟩⟩:=vals2 r;refine min_two_ints (I.ok.hd hc) fun h' tk k=>⟨_,H,I.kept k,?_,q⟩
 by_cases hj:j<i
 ·rw[if_pos hj,if_pos hj];exact⟨_,rfl⟩
 ·rw[if_neg hj,if_neg hj];exact⟨_,rfl⟩
end
end L2
namespace L2
open PySem PySem.Spec PyProof.Rows
structure OQ (h:Heap) (x dx C:Addr) (mA:Str->Option Value):Prop where
 obj:h.get? x=some (PySem.W.instObj C dx)
 ns:h.Ns1 dx mA
 ne:dx≠x
theorem BP {h:Heap}{dx:Addr}{mA:Str->Option Value}(n:h.Ns1 dx mA):∃ od,h.get? dx=some od/\∀ name,PySem.W.lookIn name od=some (mA name):=by
 obtain⟨o,es,ep,ho,hd,hk,_,hm⟩:=n;refine⟨o,ho,fun name=>?_⟩;have e:=hm name;unfold nsFind findBy at e;rw[<-Array.find?_toList]at e;unfold PySem.W.lookIn;rw[hd];dsimp only
 split
 ·rename_i y q;rw[q]at e;exact congrArg some e
 ·rename_i q;rw[q]at e;have a:es.toList.any (·.refKey)=false:=by
   rw[List.any_eq_false];intro y hy;obtain⟨z,t,hkey⟩:=hk y (Array.mem_toList_iff.mp hy);simp[DictEntry.refKey,hkey]
  have a':¬ es.toList.any (·.refKey)=true:=by rw[a];exact Bool.false_ne_true
  rw[if_neg a'];exact congrArg some e
theorem OQ.look {h:Heap}{x dx C:Addr}{mA:Str->Option Value}(I:OQ h x dx C mA):∃ od,PySem.W.InstAt h x (PySem.W.instObj C dx) C (some od)/\∀ name,PySem.W.lookIn name od=some (mA name):=
 let ⟨od,ho,hl⟩:=BP I.ns
 ⟨od,⟨I.obj,rfl,rfl,ho⟩,hl⟩
section
variable {prog:Program}{w:World}{A:Around}{E:Value->Shared->Prop}{s:Shared}{K:Frg}{x dx C f:Addr}{mA:Str->Option Value}{name:Str}{v:Value}
end
theorem Hr.some_of {v:V}{o:Option Value}(r:Hr (some v) o):∃ u,o=some u/\RelV v u:=by
 cases o with
 | none=>exact(show False from r).elim
 | some u=>exact⟨u,rfl,r⟩
section
variable {P:Program}{w:World}{H H':Hp}{h h':Heap}{a C dx:Addr}{fs fs':List (Str × V)}
end
structure Re (K:Frg) (C:Addr):Prop where
 pg:PySem.W.plainGet K C Str.empty=true
 hd:PySem.W.hasDictIn K C=true
 po:PySem.W.plainOver K C=true
 sa:PySem.W.findIn K (.ref C) "__setattr__"=some (some (.builtin "object.__setattr__"))
theorem Re.get {K:Frg}{C:Addr}(c:Re K C)(f:Str):PySem.W.plainGet K C f=true:=c.pg
structure SQ (K:Frg) (C:Addr) (f:Str) (v:V) (u:Value):Prop where
 at_:PySem.W.findIn K (.ref C) f=some (some u)
 rel:RelV v u
 get:PySem.W.specialIn K u "__get__"=some none
 cp:PySem.W.copiedNames.contains f=false
structure Su (K:Frg) (C:Addr) (m:Str) (f:Addr):Prop where
 at_:PySem.W.findIn K (.ref C) m=some (some (.ref f))
 fn:PySem.W.isFn K (.ref f)=true
 kp:PySem.W.keepIn K (.ref f)=true
section
variable {X:Cx}{pins:List (Addr × Obj)}{σ:St}{H:Hp}{s:Shared}{a C dx:Addr}{fs:List (Str × V)}{f:Str}{v:V}{A:Around}{E:Value->Shared->Prop}
theorem aH.made (I:aH X pins σ H s):aH X pins σ (cM (cM H s.heap.objs.size (.own (s.heap.objs.size+1))) (s.heap.objs.size+1) (.ins C s.heap.objs.size []))
  {s with heap:=(s.heap.push PySem.W.emptyDict).push (PySem.W.instObj C s.heap.objs.size)}:=by
 have e1:(s.heap.push PySem.W.emptyDict).get? s.heap.objs.size=some PySem.W.emptyDict:=Heap.get?_push_size s.heap rfl;have e2:((s.heap.push PySem.W.emptyDict).push (PySem.W.instObj C s.heap.objs.size)).get? (s.heap.objs.size+1)=some (PySem.W.instObj C s.heap.objs.size):=by
  have:=Heap.get?_push_size (s.heap.push PySem.W.emptyDict) (o:=PySem.W.instObj C s.heap.objs.size) rfl
  rwa [Heap.size_push]at this
 have e3:(s.heap.push PySem.W.emptyDict).Ns s.heap.objs.size (fun _=>none):=⟨PySem.W.emptyDict,#[],_,e1,rfl,(fun e he=>absurd he (by simp)),fun _=>rfl⟩
 have I1:=I.laid (a:=s.heap.objs.size) (o:=.own (s.heap.objs.size+1)) (h':=s.heap.push PySem.W.emptyDict) (t':=s.toks) (fun b u q=>Heap.get?_push_of_some _ q) (le_refl _) ⟨_,e1⟩;refine I1.laid (a:=s.heap.objs.size+1) (o:=.ins C s.heap.objs.size []) (t':=s.toks) (fun b u q=>Heap.get?_push_of_some _ q) (Nat.le_of_eq (Heap.size_push _ _)) ?_;have ne:s.heap.objs.size≠s.heap.objs.size+1:=ne_of_lt (lt_succ_self _);refine⟨by rw[aY ne,aX],zero_le _,ne,e2,fun _=>none,(Heap.Ns1.of_empty e3).at fun o q=>Heap.get?_push_of_some _ q,fun _=>True.intro,fun y hy=>absurd rfl hy⟩
end
section
variable {X:Cx}{o e value:Expr}{f:Str}{pos pos' tpos:Pos}{ta tv:TE}
end
section
variable {X:Cx}{pins:List (Addr × Obj)}{σ:St}{H:Hp}{s:Shared}{A:Around}{E:Value->Shared->Prop}{Q:Value->Shared->Prop}{c:Value}{b:Bool}
inductive oY (K:Frg) (H:Hp):V->Value->Prop where
 | non:oY K H .non (.type "NoneType")
 | bl (x:Bool):oY K H (.bl x) (.type "bool")
 | int (i:Int):oY K H (.int i) (.type "int")
 | str (x:Str):oY K H (.str x) (.type "str")
 | flt (x:UInt64):oY K H (.flt x) (.type "float")
 | lst {a:Addr}{xs:List V} (e:H a=some (.lst xs)):oY K H (.ref a) (.type "list")
 | frz {a:Addr}{o:Obj}{xs:List V} (e:H a=some (.frz o (.lst xs))):oY K H (.ref a) (.type "list")
 | tup {a:Addr}{xs:List V} (e:H a=some (.tup xs)):oY K H (.ref a) (.type "tuple")
 | dK {a:Addr}{kvs:List (Key × V)} (e:H a=some (.dK kvs)):oY K H (.ref a) (.type "dict")
 | dT {a:Addr}{kvs:List (List Key × V)} (e:H a=some (.dT kvs)):oY K H (.ref a) (.type "dict")
 | ins {a C dx:Addr}{fs:List (Str × V)} (e:H a=some (.ins C dx fs)) (cl:Re K C) (ha:PySem.W.findIn K (.ref C) "__class__"=some (some (.builtin "object.__class__")))
   (hn:PySem.W.specialIn K (.builtin "object.__class__") "__get__"=some (some (.builtin "getset_descriptor.__get__"))) (htk:PySem.W.takesIn K (.builtin "object.__class__")=some true)
   (hm:PySem.W.mroIn K C (.type "object")=some true):oY K H (.ref a) (.ref C)
end
end L2
namespace L2
open PySem PySem.Spec PyProof.Rows
structure cb (k:Nat) (A:Around):Prop where
 hd:A.handled=none
 dp:A.depth+3*k+5<recursionLimit
 un:A.units+16*k+200<cLine
theorem cb.mono {j k:Nat}{A:Around}(r:cb k A)(h:j<=k):cb j A:=⟨r.hd,by have:=r.dp;omega,by have:=r.un;omega⟩
theorem cb.deeper {k:Nat}{A:Around}(r:cb (k+1) A)(env:Env):cb k (A.deeper env):=
 ⟨r.hd,by have:=r.dp;show A.depth+1+3*k+5<_;omega,by have:=r.un;show A.units+3+16*k+200<_;omega⟩
theorem cb.in1 {k:Nat}{A:Around}(r:cb (k+1) A):cb k A.in1:=
 ⟨r.hd,by have:=r.dp;show A.depth+3*k+5<_;omega,by have:=r.un;show A.units+1+16*k+200<_;omega⟩
theorem cb.depth {k:Nat}{A:Around}(r:cb k A):A.depth<recursionLimit:=by have:=r.dp;omega
theorem cb.units {k:Nat}{A:Around}(r:cb k A):A.units+64<cLine:=by have:=r.un;omega
def QH:TA:=fun _ H Q=>Q [] H
def Lb (ta:TE)(tr:TA):TA:=fun σ H Q=>ta σ H fun x H1=>tr σ H1 fun xs H2=>Q (x::xs) H2
section
variable {X:Cx}{e:Expr}{es:List Expr}{te:TE}{t:TA}{pos:Pos}
theorem uX:PA X [] QH:=fun _ _ _ _ H Q I h=>Calls.spliced_nil ⟨[],H,I,.nil,h⟩
theorem oB (ha:PE X e te)(hr:PA X es t)(hs:starEach (e::es) X.env=(false,eval e X.env)::starEach es X.env:=by rfl):PA X (e::es) (Lb te t):=by
 intro pos pins s σ H Q I h;rw[hs];show wpAny _ _ (spliced ((false,eval e X.env)::backTo pos (starEach es X.env))) _ _ s;refine Calls.spliced_cons (cT (ha pins s σ H _ I h) fun u s1 ⟨x,H1,I1,r1,q1⟩=>?_);exact cT (hr pos pins s1 σ H1 _ I1 q1) fun us s2 ⟨xs,H2,I2,r2,q2⟩=>⟨x::xs,H2,I2,.cons r1 r2,q2⟩
def R6 (t:TA):TE:=fun σ H Q=>t σ H fun xs H1=>xs.length<=sizeLine/\∀ p,H1 p=none->Q (.ref p) (cM H1 p (.tup xs))
def R1 (t:TA):TE:=fun σ H Q=>t σ H fun xs H1=>xs.length<=sizeLine/\∀ p,H1 p=none->Q (.ref p) (cM H1 p (.lst xs))
theorem NG {x1}(h:PA X es t):PE X (.Tuple es x1 pos) (R6 t):=by
 intro pins s σ H Q I hq;refine wpAny_Tuple_spliced (cT (h pos pins s σ H _ I hq) fun us s1 ⟨xs,H1,I1,r,z,q⟩=>⟨by rw[<-r.length];exact z,?_⟩)
 have hf:H1 s1.heap.objs.size=none:=I1.hok.fresh (le_refl _);refine⟨.ref s1.heap.objs.size,cM H1 s1.heap.objs.size (.tup xs),I1.laid (t':=s1.toks) (fun b u e=>Heap.get?_push_of_some _ e) (le_refl _) ?_,rfl,q _ hf⟩;exact⟨z,us,r,⟨_,Heap.get?_push_size _ rfl,rfl,_,rfl⟩⟩
theorem ND (h:PA X es t):PE X (.List es pos) (R1 t):=by
 intro pins s σ H Q I hq;refine wpAny_List_spliced (cT (h pos pins s σ H _ I hq) fun us s1 ⟨xs,H1,I1,r,z,q⟩=>⟨by rw[<-r.length];exact z,?_⟩)
 have hf:H1 s1.heap.objs.size=none:=I1.hok.fresh (le_refl _);refine⟨.ref s1.heap.objs.size,cM H1 s1.heap.objs.size (.lst xs),I1.laid (t':=s1.toks) (fun b u e=>Heap.get?_push_of_some _ e) (le_refl _) ?_,rfl,q _ hf⟩;exact⟨z,us,0,r,Heap.get?_push_size _ rfl⟩
end
abbrev Sp:=List V->Hp->VK->XK->Prop
abbrev Cy:=List Env->Hp->Shared->XK->Value->Shared->Prop
structure xH (P:Program) (w:World) (K:Frg) (mg:Str->Option Value) (base:Heap) (A:Around) (outer:List Env) (s:Shared) (H:Hp):Prop where
 frames:A.frames=some outer
 mod:Mod K mg base
 bs:∀ b o,base.get? b=some o->s.heap.get? b=some o/\H b=none
 bsz:base.objs.size<=s.heap.objs.size
 funs:s.heap.FunFrames base outer
 frf:∀ b∈BC outer,H b=none
 hok:hZ P w H s.heap
 bare:AllBare s.gens
def CE (outer:List Env)(P:Program)(w:World)(H:Hp)(s:Shared)(Q:VK)(u:Value)(s':Shared):Prop:=
 ∃ v H',s'.os=s.os/\AllBare s'.gens/\Un (BC outer) [] H H' s.heap s'.heap/\hZ P w H' s'.heap/\RelV v u/\Q v H'
def CR (CX:Cy)(outer:List Env)(P:Program)(w:World)(H:Hp)(s:Shared)(Q:VK)(E:XK)(r:Result)(s':Shared):Prop:=
 match r with
 | .ok (.ret u)=>CE outer P w H s Q u s'
 | .ok _=>False
 | .error e=>CX outer H s E e s'
structure i8 (P:Program) (w:World) (K:Frg) (mg:Str->Option Value) (base:Heap) (CX:Cy) (k:Nat) (f:Addr) (fd:FuncData) (ps:List Str) (sp:Sp):Prop where
 len:∀ vs H Q E,sp vs H Q E->vs.length=ps.length
 run:∀ (A:Around) (outer:List Env) (s:Shared) (H:Hp) (args:Args) (us:List Value) (vs:List V) (Q:VK) (E:XK),cb k A->xH P w K mg base A outer s H->BindsTo s fd args (ps.zip us)->aO vs us->sp vs H Q E →
  codeAny (model P w) A (.call (.ref f) args) (CR CX outer P w H s Q E) s
theorem i8.mono {P:Program}{w:World}{K:Frg}{mg:Str->Option Value}{base:Heap}{CX:Cy}{j k:Nat}{f:Addr}{fd:FuncData}{ps:List Str}{sp:Sp}(F:i8 P w K mg base CX j f fd ps sp)(h:j<=k) :
  i8 P w K mg base CX k f fd ps sp:=⟨F.len,fun A outer s H args us vs Q E hr=>F.run A outer s H args us vs Q E (hr.mono h)⟩
theorem i8.imp {P:Program}{w:World}{K:Frg}{mg:Str->Option Value}{base:Heap}{CX:Cy}{k:Nat}{f:Addr}{fd:FuncData}{ps:List Str}{sp sp':Sp}(F:i8 P w K mg base CX k f fd ps sp)
  (h:∀ vs H Q E,sp' vs H Q E->sp vs H Q E):i8 P w K mg base CX k f fd ps sp':=
 ⟨fun vs H Q E q=>F.len vs H Q E (h _ _ _ _ q),fun A outer s H args us vs Q E hr he hb hv hs=>F.run A outer s H args us vs Q E hr he hb hv (h _ _ _ _ hs)⟩
theorem xH.in1 {P:Program}{w:World}{K:Frg}{mg:Str->Option Value}{base:Heap}{A:Around}{outer:List Env}{s:Shared}{H:Hp}(e:xH P w K mg base A outer s H) :
  xH P w K mg base A.in1 outer s H:=⟨e.frames,e.mod,e.bs,e.bsz,e.funs,e.frf,e.hok,e.bare⟩
section
variable {X:Cx}{pins:List (Addr × Obj)}{σ:St}{H:Hp}{s s':Shared}
theorem aH.env0 (I:aH X pins σ H s):xH X.prog X.w X.K X.mg X.base X.A X.stack s H:=
 ⟨I.ok.frames,I.ok.mod,I.bs,le_trans I.ok.bsz I.sz,I.stack,I.stkFree,I.hok,I.bare⟩
theorem aH.after {Q:VK}{u:Value}(I:aH X pins σ H s)(h:CE X.stack X.prog X.w H s Q u s'):EP X pins σ Q u s':=by
 obtain⟨v,H',os,bare,un,hok,r,q⟩:=h;obtain⟨hh,g,d,t,os'⟩:=s';obtain rfl:os'=s.os:=os;exact⟨v,H',I.call (h':=hh) (g':=g) (d':=d) (t':=t) (ch:=[]) un hok bare (fun b z=>absurd z (by simp)),r,q⟩
end
def La (sp:Sp)(dvs:List V)(E:XK)(t:TA):TE:=fun σ H Q=>t σ H fun vs H1=>sp (vs++dvs) H1 Q E
def Binds (K:Frg)(fd:FuncData)(ps:List Str)(ds:List Value):Prop:=
 ∀ (s:Shared) (us:List Value),K.In s.heap->(us++ds).length=ps.length->BindsTo s fd ⟨us,[]⟩ (ps.zip (us++ds))
theorem Binds.all {K:Frg}{fd:FuncData}{ps:List Str}(h:∀ us:List Value,us.length=ps.length->bindArgs fd ⟨us,[]⟩=pure (ps.zip us)):Binds K fd ps []:=fun s us _ hl=>by
 rw[append_nil]at hl ⊢;exact .of_eq (h us hl)
def xM (CX:Cy)(X:Cx)(E:XK):Prop:=∀ (pins:List (Addr × Obj)) (σ:St) (H:Hp) (s:Shared) (e:Value) (s':Shared),aH X pins σ H s->CX X.stack H s E e s'->X.xe e s'
section
variable {X:Cx}{CX:Cy}{k:Nat}{f C:Addr}{fd:FuncData}{ps:List Str}{sp:Sp}{dvs:List V}{ds:List Value}{E:XK}{x m:Str}{p pos apos:Pos}{e o:Expr}{es:List Expr}{ta:TE}{t:TA}
theorem N0 {pins:List (Addr × Obj)}{σ:St}{H:Hp}{s:Shared}{Q:VK}{us:List Value}{vs:List V}(F:i8 X.prog X.w X.K X.mg X.base CX k f fd ps sp)(hr:cb k X.A)(hb:Binds X.K fd ps ds)(hd:aO dvs ds)(hx:xM CX X E)
  (I:aH X pins σ H s) (r:aO vs us) (h:sp (vs++dvs) H Q E):wpAny (model X.prog X.w) X.A (call (.ref f) us) (EP X pins σ Q) X.xe s:=by
 have r2:aO (vs++dvs) (us++ds):=r.append hd;have hl:(us++ds).length=ps.length:=by rw[<-r2.length];exact F.len _ _ _ _ h
 refine wpAny_call (codeAny_mono (F.run X.A X.stack s H ⟨us,[]⟩ (us++ds) (vs++dvs) Q E hr I.env0 (hb s us I.kIn hl) r2 h) fun r s' hq=>?_)
 cases r with
 | error e=>exact hx pins σ H s e s' I hq
 | ok fl=>
  cases fl with
  | ret u=>exact I.after hq
  | next=>exact False.elim hq
  | brk=>exact False.elim hq
  | cont=>exact False.elim hq
theorem JL (F:i8 X.prog X.w X.K X.mg X.base CX k f fd ps sp)(hr:cb k X.A)(hg:Gl X x)(hm:X.mg x=some (.ref f))(hk:PySem.W.keepIn X.K (.ref f)=true)(hb:Binds X.K fd ps ds)(hd:aO dvs ds)(hx:xM CX X E)
  (ha:PA X (e::es) t) (hdb:(x == ("__debug__":Str))=false:=by decide) (he:starEach (e::es) X.env=(false,eval e X.env)::starEach es X.env:=by rfl) (hpl:(backTo pos (starEach es X.env)).any (·.1)=false:=by rfl) :
  PE X (.Call (.Name x p) (e::es) [] pos) (La sp dvs E t):=by
 intro pins s σ H Q I h;refine wpAny_Call_Name_kw (I0 I hg hm ?_ hdb);refine PySem.W.callWith_K (h₀:=X.base) I.ok.mod.kin hk (cT (ha pos pins s σ H _ I h) fun us s1 ⟨vs,H1,I1,r,q⟩=>⟨I1.kIn,?_⟩) he hpl;exact N0 F hr hb hd hx I1 r q
structure Mk (K:Frg) (C f:Addr):Prop where
 makes:PySem.W.makesIn K C=true
 init:PySem.W.findIn K (.ref C) "__init__"=some (some (.ref f))
 fn:PySem.W.isFn K (.ref f)=true
 kp:PySem.W.keepIn K (.ref C)=true
end
section
variable {X:Cx}{CX:Cy}{k:Nat}{f C:Addr}{fd:FuncData}{ps ks:List Str}{sp:Sp}{E:XK}{x m:Str}{p pos apos kpos:Pos}{e o:Expr}{es:List Expr}{kws:List Keyword}{te ta:TE}{t tk:TA}{nm:Option Str}
structure Ri (K:Frg) (fd:FuncData) (ps ks:List Str) (g:List Value->List Value->List Value) (gV:List V->List V->List V):Prop where
 to:∀ (s:Shared) (us ws:List Value),K.In s.heap->(g us ws).length=ps.length->BindsTo s fd ⟨us,ks.zip ws⟩ (ps.zip (g us ws))
 rel:∀ {vs:List V}{us:List Value}{zs:List V}{ws:List Value},aO vs us->aO zs ws->aO (gV vs zs) (g us ws)
variable {g:List Value->List Value->List Value}{gV:List V->List V->List V}
end
structure ay (N P:List Str) (sc:Scope):Prop where
 kind:sc.kind=.function
 co:sc.isCoroutine=false
 gen:sc.isGenerator=false
 nd:N.Nodup
 pre:N.take P.length=P
 par:∀ x∈P,sc.names.lookup x=some .local\/sc.names.lookup x=some .cell
 nofree:∀ y∈sc.names,y.2≠.free
theorem rO {kindOf:Str->Option NameKind}{x:Str}:∀ {binds:List (Str × Value)}{m:Str->Option Value},(∀ v,(x,v)∉binds)->bindL kindOf binds m x=m x
 | [],_,_=>rfl
 | (n,v)::r,m,h=>by
  unfold bindL;rw[rO fun w hw=>h w (mem_cons_of_mem _ hw)]
  split
  ·have:x≠n:=by rintro rfl;exact h v mem_cons_self
   simp[this]
  ·rfl
theorem rM {kindOf:Str->Option NameKind}{x:Str}:∀ {binds:List (Str × Value)}{m:Str->Option Value},(∀ v,(x,v)∉binds)->bindC kindOf binds m x=m x
 | [],_,_=>rfl
 | (n,v)::r,m,h=>by
  unfold bindC;rw[rM fun w hw=>h w (mem_cons_of_mem _ hw)]
  split
  ·rfl
  ·have:x≠n:=by rintro rfl;exact h v mem_cons_self
   simp[this]
theorem rN {kindOf:Str->Option NameKind}{x:Str}{v:Value}:∀ {P:List Str}{vs:List Value}{i:Nat}{m:Str->Option Value},P.Nodup->P[i]?=some x->vs[i]?=some v->kindOf x=some .local →
  bindL kindOf (P.zip vs) m x=some v
 | [],_,_,_,_,h,_,_=>by simp at h
 | _::_,[],_,_,_,_,h,_=>by simp at h
 | p::P,w::vs,0,m,nd,h1,h2,hk=>by
  simp at h1 h2;subst h1;subst h2;show bindL kindOf ((p,w)::P.zip vs) m p=_;unfold bindL;rw[rO fun v hv=>(nodup_cons.mp nd).1 (List.of_mem_zip hv).1,if_pos hk];simp
 | p::P,w::vs,i+1,m,nd,h1,h2,hk=>by
  show bindL kindOf ((p,w)::P.zip vs) m x=_;unfold bindL;exact rN (i:=i) (nodup_cons.mp nd).2 (by simpa using h1) (by simpa using h2) hk
theorem rL {kindOf:Str->Option NameKind}{x:Str}{v:Value}:∀ {P:List Str}{vs:List Value}{i:Nat}{m:Str->Option Value},P.Nodup->P[i]?=some x->vs[i]?=some v->kindOf x≠some .local →
  bindC kindOf (P.zip vs) m x=some v
 | [],_,_,_,_,h,_,_=>by simp at h
 | _::_,[],_,_,_,_,h,_=>by simp at h
 | p::P,w::vs,0,m,nd,h1,h2,hk=>by
  simp at h1 h2;subst h1;subst h2;show bindC kindOf ((p,w)::P.zip vs) m p=_;unfold bindC;rw[rM fun v hv=>(nodup_cons.mp nd).1 (List.of_mem_zip hv).1,if_neg hk];simp
 | p::P,w::vs,i+1,m,nd,h1,h2,hk=>by
  show bindC kindOf ((p,w)::P.zip vs) m x=_;unfold bindC;exact rL (i:=i) (nodup_cons.mp nd).2 (by simpa using h1) (by simpa using h2) hk
def start (N:List Str)(vs:List V):St:=vs.map some++replicate (N.length-vs.length) none
def qV (CX:Cy)(P:Program)(w:World)(K:Frg)(mg:Str->Option Value)(base:Heap)(N:List Str)(qual:Str)(scope:Scope)(f:Addr)(cd:Value)(A:Around)(outer:List Env)(s:Shared)(H:Hp)(E:XK):Cx where
 prog:=P
 w:=w
 K:=K
 mg:=mg
 base:=base
 A:=A.deeper (envOfC qual scope s.heap.objs.size f cd)
 N:=N
 s₀:=s
 H₀:=H
 env:=envOfC qual scope s.heap.objs.size f cd
 outer:=outer
 stack:=envOfC qual scope s.heap.objs.size f cd::outer
 ex:=[]
 calm:=true
 fn:=fun _=>true
 pn:=[]
 xe:=fun e s'=>wpAny (model P w) (A.deeper (envOfC qual scope s.heap.objs.size f cd)) (leaving (envOfC qual scope s.heap.objs.size f cd) e) (fun _ s''=>CX outer H s E e s'') (fun e' s''=>CX outer H s E e' s'') s'
theorem vU {sc:Scope}{n:Nat}{x:Str}(h:sc.names.lookup x=some .cell):∃ c,(cellsFrom n sc.names []).lookup x=some c:=by
 have q:=PySem.W.cellsFrom_some sc.names n [] (.inl h);exact isSome_iff_exists.mp q
theorem BF {CX:Cy}{P:Program}{w:World}{K:Frg}{mg:Str->Option Value}{base:Heap}{N ps:List Str}{qual:Str}{scope:Scope}{f:Addr}{cd:Value}{A:Around}{outer:List Env}{s s1:Shared}{H:Hp}{E:XK}{us:List Value}{vs:List V}
  (S:ay N ps scope) (hd:A.handled=none) (e0:xH P w K mg base A outer s H) (hl:vs.length=ps.length) (r:aO vs us)
  (x:InCallC s s.heap.objs.size (bindL (envOfC qual scope s.heap.objs.size f cd).kindOf (ps.zip us) fun _=>none) (cellsFrom (s.heap.objs.size+1) scope.names []) (bindC (envOfC qual scope s.heap.objs.size f cd).kindOf (ps.zip us) fun _=>none) s1) :
  aH (qV CX P w K mg base N qual scope f cd A outer s H E) [] (start N vs) H s1:=by
 have hpl:ps.length<=N.length:=by have:=congrArg List.length S.pre;rw[length_take]at this;omega
 obtain⟨h1,tk,rfl,hk⟩:=x.done;have noA:∀ b:Addr,b∉(qV CX P w K mg base N qual scope f cd A outer s H E).ex:=fun b z=>absurd (show b∈([]:List Addr) from z) (by simp)
 refine⟨⟨e0.mod,S.kind,rfl,rfl,le_refl _,fun y z c h1 h2=>?_,fun y hy=>?_,fun y c _ h=>?_,fun _=>hd,Around.frames_deeper e0.frames,.inr ⟨rfl,rfl⟩,fun b z=>absurd z (noA b),e0.bs,e0.bsz,fun b _ _=>noA b,fun b z=>absurd z (noA b),e0.funs,e0.frf⟩,
  rfl,e0.bare,Un.kept hk,⟨_,x.toInCall.ns,fun i y v h1 h2 h3=>?_⟩,fun y c h=>⟨_,x.cell y c h⟩,e0.hok.fresh (le_refl _),fun y c h=>?_,fun p hp=>absurd (show p∈([]:List (Addr × Obj)) from hp) (by simp),e0.hok.kept hk,?_⟩
 ·exact name_of_addr x.apart (PySem.mem_of_lookup h1) (PySem.mem_of_lookup h2)
 ·have hy:scope.names.lookup y=some .cell\/scope.names.lookup y=some .free:=hy
  rcases hy with hy|hy
  ·exact vU hy
  ·exact absurd rfl (S.nofree _ (PySem.mem_of_lookup hy))
 ·exact Nat.le_of_lt (x.above y c (PySem.mem_of_lookup h))
 ·have hi:i<vs.length:=by
   unfold start at h2
   by_cases hi:i<vs.length
   ·exact hi
   ·rw[getElem?_append_right (by simpa using hi)]at h2
    rw[getElem?_replicate]at h2
    split at h2 <;> cases h2
  have ha:vs[i]?=some v:=by
   unfold start at h2;rw[getElem?_append_left (by simpa using hi),getElem?_map]at h2
   cases e:vs[i]? with
   | none=>rw[e]at h2;cases h2
   | some a=>rw[e]at h2;cases h2;rfl
  obtain⟨u,hu,rv⟩:=r.get ha;have hp:ps[i]?=some y:=by
   rw[<-S.pre,List.getElem?_take_of_lt (by omega)];exact h1
  have ndP:ps.Nodup:=by rw[<-S.pre];exact S.nd.sublist (List.take_sublist _ _)
  refine⟨u,rv,?_⟩
  rcases S.par y (mem_of_getElem? hp) with k|k
  ·exact .inl ⟨k,rN ndP hp hu k⟩
  ·obtain⟨c,e⟩:=vU (n:=s.heap.objs.size+1) k;refine .inr ⟨.inl k,c,e,?_⟩;have q:=x.cell y c e;rw[rL ndP hp hu (by show scope.names.lookup y≠_;rw[k];decide)]at q
   exact q
 ·exact e0.hok.fresh (Nat.le_of_lt (x.above y c (PySem.mem_of_lookup h)))
 ·unfold start;show _=N.length;rw[List.length_append,length_map,length_replicate];omega
theorem KQ {CX:Cy}{P:Program}{w:World}{K:Frg}{mg:Str->Option Value}{base:Heap}{k:Nat}{f:Addr}{name qual:Str}{params:Arguments}{body:List Stmt}{scope:Scope}{dV kV doc pm cdv ct oc:Value}{an od:Option Addr}
  {osl:Array (Option Value)}{N ps:List Str}{sp:Sp} (lk:K.lookup f=some ⟨oc,od,.func (PySem.W.fnOf name qual params body scope dV kV doc pm an cdv ct),osl⟩) (hcd:PySem.W.codeIn K cdv qual=true) (S:ay N ps scope)
  (len:∀ vs H Q E,sp vs H Q E->vs.length=ps.length)
  (hbody:∀ (A:Around) (outer:List Env) (s:Shared) (H:Hp) (vs:List V) (Q:VK) (E:XK),cb k (A.deeper (envOfC qual scope s.heap.objs.size f cdv))->sp vs H Q E →
   ∃ t,k8 (qV CX P w K mg base N qual scope f cdv A outer s H E) body t/\t {nx:=fun _ H'=>Q .non H',rt:=Q} (start N vs) H) :
  i8 P w K mg base CX (k+1) f (PySem.W.fnOf name qual params body scope dV kV doc pm an cdv ct) ps sp:=by
 refine⟨len,fun A outer s H args us vs Q E hr e0 hb r hsp=>?_⟩;have hl:=len _ _ _ _ hsp;have KX:K.In s.heap:=e0.mod.kin.keeps fun b o e=>(e0.bs b o e).1;have lim:s.heap.NoLimit:=e0.mod.nolimit.keeps fun b o e=>(e0.bs b o e).1;have hkind:∀ y∈ps.zip us,scope.names.lookup y.1=some .local\/(scope.names.lookup y.1=some .cell/\((cellsFrom (s.heap.objs.size+1) scope.names []).lookup y.1).isSome=true):=fun ⟨n,v⟩ hy=>by
  rcases S.par n (List.of_mem_zip hy).1 with q|q
  ·exact .inl q
  ·exact .inr ⟨q,PySem.W.cellsFrom_some _ _ _ (.inl q)⟩
 refine codeAny_call_function hr.depth (KX _ _ lk) rfl S.co S.gen rfl (PySem.W.codeRec_of KX hcd) (hb _ _ _ _ ?_);refine wpAny_newFunctionEnv_cells S.kind hkind fun env he s1 x=>?_;subst he;refine⟨lim.keeps x.toInCall.keep,codeAny_func ?_⟩;obtain⟨t,ht,hq⟩:=hbody A outer s H vs Q E (hr.deeper _) hsp;have I:aH (qV CX P w K mg base N qual scope f cdv A outer s H E) [] (start N vs) H s1:=BF S hr.hd e0 hl r x;refine wpAny_mono (ht [] s1 (start N vs) H _ I hq) (fun fl s' hs=>?_) fun e s' hs=>hs;have fin:∀ {σ':St}{H':Hp}{v:V}{u:Value},aH (qV CX P w K mg base N qual scope f cdv A outer s H E) [] σ' H' s'->RelV v u->Q v H'->CE outer P w H s Q u s':=
  fun {σ' H' v u} J rv q=>⟨v,H',J.os,J.bare,J.base,J.hok,rv,q⟩
 cases fl with
 | ret u=>
  obtain⟨v,σ',H',J,rv,q⟩:=hs;exact fin J rv q
 | next=>
  obtain⟨σ',H',J,q⟩:=hs;exact fin (v:=V.non) (u:=Value.none) J rfl q
 | brk=>
  obtain⟨_,_,_,q⟩:=hs;exact False.elim q
 | cont=>
  obtain⟨_,_,_,q⟩:=hs;exact False.elim q
end L2
namespace L2
open PySem PySem.Spec PyProof.Rows
section
variable {X:Cx}{x:Str}{p pos:Pos}{e:Expr}{es:List Expr}{t:TA}{id T:String}{r:List V->Hp->VK->Prop}
def So (r:List V->Hp->VK->Prop)(t:TA):TE:=fun σ H Q=>t σ H fun vs H1=>r vs H1 Q
theorem Gq (hc:gM X (.builtin id) r) (hg:Gl X x) (hm:X.mg x=none) (hv:bootBuiltins x=some (.builtin id)) (ha:PA X (e::es) t) (hn:x≠"__name__":=by decide) (hdb:(x == ("__debug__":Str))=false:=by decide)
  (he:starEach (e::es) X.env=(false,eval e X.env)::starEach es X.env:=by rfl) (hpl:(backTo pos (starEach es X.env)).any (·.1)=false:=by rfl):PE X (.Call (.Name x p) (e::es) [] pos) (So r t):=by
 intro pins s σ H Q I h;refine wpAny_Call_Name_kw (jg I hg hm hv ?_ hn hdb);exact PyProof.Rows.callWith_builtin1 (cT (ha pos pins s σ H _ I h) fun us s1 ⟨vs,H1,I1,r1,q1⟩=>hc pins s1 σ H1 vs us Q I1 r1 q1) he hpl
end
end L2
namespace HT
open PySem PyProof.Rows
section
open PySem.SeqAt
open PySem.AutoSeq1 (wpAny_loadPart')
open PySem.MeetsSeq PySem.MeetsSeq2 PySem.MeetsSeq3
end
section
variable {prog:Program}{w:World}{A:Around}{E:Value->Shared->Prop}{s:Shared}
def sIx (n d:Nat):Option Int->Nat
 | none=>d
 | some v=>if v<0 then (v+(n:Int)).toNat else min v.toNat n
theorem sIx_none (n d:Nat):sIx n d none=d:=rfl
theorem sIx_nat (n d k:Nat):sIx n d (some (k:Int))=min k n:=by
 show(if (k:Int)<0 then ((k:Int)+(n:Int)).toNat else min (k:Int).toNat n)=min k n
 rw[if_neg (by omega),toNat_natCast]
end
end HT
namespace L2
open PySem PySem.Spec PyProof.Rows
abbrev TO:=St->Hp->(Option Int->Hp->Prop)->Prop
def PO (X:Cx)(e:Option Expr)(t:TO):Prop:=
 ∀ (pins:List (Addr × Obj)) (s:Shared) (σ:St) (H:Hp) (Q:Option Int->Hp->Prop),aH X pins σ H s->t σ H Q →
  wpAny (model X.prog X.w) X.A (evalPart e X.env) (fun u s'=>∃ o H',aH X pins σ H' s'/\IsPart u o/\Q o H') X.xe s
def Kt:TO:=fun _ H Q=>Q none H
def QI (t:TE):TO:=fun σ H Q=>t σ H fun x H1=>∃ i,x=.int i/\Q (some i) H1
section
variable {X:Cx}{e:Expr}{te:TE}{lo hi:Option Expr}{tl th:TO}{pos p2:Pos}
theorem JQ:PO X none Kt:=by
 intro pins s σ H Q I h;rw[evalPart_none];exact wpAny_pure ⟨none,H,I,.none,h⟩
theorem JR (h:PE X e te):PO X (some e) (QI te):=by
 intro pins s σ H Q I hw;rw[evalPart_some];refine cT (h pins s σ H _ I hw) fun u s1 ⟨x,H1,I1,r1,q1⟩=>?_;obtain⟨i,rfl,q⟩:=q1;obtain⟨t,rfl⟩:=r1;exact⟨some i,H1,I1,.int i t,q⟩
def OE (X:Cx)(r:V->Option Int->Option Int->Hp->VK->Prop):Prop:=
 ∀ (pins:List (Addr × Obj)) (s:Shared) (σ:St) (H:Hp) (x:V) (v vl vu:Value) (lo hi:Option Int) (sl:Addr) (Q:VK),aH X pins σ H s->RelV x v->s.heap.IsSliceOf sl vl vu .none->IsPart vl lo->IsPart vu hi->r x lo hi H Q →
  ∃ T id,typeLookup (.type T) "__getitem__"=pure (some (.builtin id))/\s.TypeIs v T/\wpAny (model X.prog X.w) X.A (getItem v (.ref sl)) (EP X pins σ Q) X.xe s
theorem OE.or {r r':V->Option Int->Option Int->Hp->VK->Prop}(h:OE X r)(h':OE X r'):OE X (fun x lo hi H Q=>r x lo hi H Q\/r' x lo hi H Q):=by
 intro pins s σ H x v vl vu lo hi sl Q I rx hs pl pu q
 rcases q with q|q
 ·exact h pins s σ H x v vl vu lo hi sl Q I rx hs pl pu q
 ·exact h' pins s σ H x v vl vu lo hi sl Q I rx hs pl pu q
def SJ (r:V->Option Int->Option Int->Hp->VK->Prop)(te:TE)(tl th:TO):TE:=fun σ H Q=>te σ H fun x H1=>tl σ H1 fun l H2=>th σ H2 fun u H3=>r x l u H3 Q
theorem Gr {r:V->Option Int->Option Int->Hp->VK->Prop}(hr:OE X r)(he:PE X e te)(hl:PO X lo tl)(hu:PO X hi th):PE X (.Subscript e (.Slice lo hi none p2) pos) (SJ r te tl th):=by
 intro pins s σ H Q I h;refine Subscript_ (cT (he pins s σ H _ I h) fun v s1 ⟨x,H1,I1,r1,q1⟩=>?_);refine wpAny_Slice (cT (hl pins s1 σ H1 _ I1 q1) fun vl s2 ⟨l,H2,I2,pl,q2⟩=>cT (hu pins s2 σ H2 _ I2 q2) fun vu s3 ⟨u,H3,I3,pu,q3⟩=>?_);rw[evalPart_none];refine wpAny_pure ?_;have I4:aH X pins σ H3 {s3 with heap:=s3.heap.push {cls:=.type "slice",data:=.fields #[vl,vu,.none]}}:=I3.kept (t':=s3.toks) fun b ob q=>Heap.get?_push_of_some _ q;obtain⟨T,id,hT,ht,hg⟩:=hr pins {s3 with heap:=s3.heap.push {cls:=.type "slice",data:=.fields #[vl,vu,.none]}} σ H3 x v vl vu l u s3.heap.objs.size Q I4 r1 (Heap.IsSliceOf.new ..) pl pu q3;show wpAny (model X.prog X.w) X.A (subscriptTail e (.Slice lo hi none p2) v (.ref s3.heap.objs.size)) (EP X pins σ Q) X.xe {s3 with heap:=s3.heap.push {cls:=.type "slice",data:=.fields #[vl,vu,.none]}};exact tail_any (ops:=[.ref s3.heap.objs.size,v]) ht hT hg (by with_unfolding_all rfl)
def Br (xs:List V)(lo hi:Option Int):List V:=(xs.drop (HT.sIx xs.length 0 lo)).take (HT.sIx xs.length xs.length hi-HT.sIx xs.length 0 lo)
theorem v5 (xs:List V)(lo hi:Option Int):(Br xs lo hi).length<=xs.length:=by
 unfold Br;rw[length_take,length_drop];omega
end
end L2
namespace L2
open PySem PySem.Spec PyProof.Rows
def uJ (n:Nat)(i:Int):Option Nat:=if 0<=i then (if i<n then some i.toNat else none) else if -(n:Int)<=i then some (i+n).toNat else none
def atI {α:Type}(xs:List α)(i:Int):Option α:=(uJ xs.length i).bind fun j=>xs[j]?
theorem Ai {n:Nat}{i:Int}{j:Nat}(h:uJ n i=some j):seqIndex? i n=some j/\j<n/\-(n:Int)<=i/\i<n:=by
 unfold uJ at h
 by_cases h0:0<=i
 ·rw[if_pos h0]at h
  by_cases h1:i<n
  ·rw[if_pos h1]at h;have e:i.toNat=j:=Option.some.inj h;exact⟨by rw[seqIndex_of h0 h1,e],by omega,by omega,h1⟩
  ·rw[if_neg h1]at h;cases h
 ·rw[if_neg h0]at h
  by_cases h1:-(n:Int)<=i
  ·rw[if_pos h1]at h;have e:(i+n).toNat=j:=Option.some.inj h;exact⟨by rw[seqIndex_neg (by omega) h1,e],by omega,h1,by omega⟩
  ·rw[if_neg h1]at h;cases h
theorem zF {α:Type}{xs:List α}{i:Int}{v:α}(h:atI xs i=some v):∃ j,seqIndex? i xs.length=some j/\xs[j]?=some v/\j<xs.length/\-(xs.length:Int)<=i/\i<xs.length:=by
 unfold atI at h
 cases e:uJ xs.length i with
 | none=>rw[e]at h;cases h
 | some j=>
  rw[e]at h;obtain⟨h1,h2,h3,h4⟩:=Ai e;exact⟨j,h1,h,h2,h3,h4⟩
theorem HR {α:Type}{xs:List α}{j:Nat}{v:α}(h:xs[j]?=some v):atI xs (j:Int)=some v:=by
 have hj:j<xs.length:=(List.getElem?_eq_some_iff.mp h).1;have e:uJ xs.length (j:Int)=some j:=by
  unfold uJ;rw[if_pos (by omega),if_pos (by omega)];simp
 unfold atI;rw[e];exact h
theorem CS {α:Type}(xs:List α)(v:α):atI (xs++[v]) (-1)=some v:=by
 have hl:(xs++[v]).length=xs.length+1:=by simp
 have e:uJ (xs++[v]).length (-1)=some xs.length:=by
  unfold uJ;rw[hl,if_neg (by decide),if_pos (by omega)]
  congr 1
  omega
 unfold atI;rw[e];show(xs++[v])[xs.length]?=some v;simp
def zA (b:Expr):Prop:=∀ o i,subscripted b false o i=operate [o,i] (getItem o i)
def Li (X:Cx)(r:R2):Prop:=
 ∀ (value slice:Expr) (pins:List (Addr × Obj)) (s:Shared) (σ:St) (H:Hp) (x y:V) (v u:Value) (Q:VK),aH X pins σ H s->RelV x v->RelV y u->r x y H Q →
  subscripted slice false v u=operate [v,u] (getItem v u)->wpAny (model X.prog X.w) X.A (subscriptTail value slice v u) (EP X pins σ Q) X.xe s
def OC (X:Cx)(id:String)(r:V->List V->Hp->VK->Prop):Prop:=
 ∀ (pins:List (Addr × Obj)) (s:Shared) (σ:St) (H:Hp) (x:V) (xs:List V) (v:Value) (us:List Value) (Q:VK),aH X pins σ H s->RelV x v->aO xs us->r x xs H Q →
  wpAny (model X.prog X.w) X.A (call (.builtin id) (v::us)) (EP X pins σ Q) X.xe s
section
variable {X:Cx}{a b:Expr}{ta tb:TE}{pos:Pos}
theorem Li.or {r r':R2}(h:Li X r)(h':Li X r'):Li X (fun x y H Q=>r x y H Q\/r' x y H Q):=by
 intro value slice pins s σ H x y v u Q I rx ry q hs
 rcases q with q|q
 ·exact h value slice pins s σ H x y v u Q I rx ry q hs
 ·exact h' value slice pins s σ H x y v u Q I rx ry q hs
theorem OC.or {id:String}{r r':V->List V->Hp->VK->Prop}(h:OC X id r)(h':OC X id r'):OC X id (fun x xs H Q=>r x xs H Q\/r' x xs H Q):=by
 intro pins s σ H x xs v us Q I rx rs q
 rcases q with q|q
 ·exact h pins s σ H x xs v us Q I rx rs q
 ·exact h' pins s σ H x xs v us Q I rx rs q
theorem Qr {r:R2}(hr:Li X r)(ha:PE X a ta)(hb:PE X b tb)(hs:zA b):PE X (.Subscript a b pos) (Oc r ta tb):=by
 intro pins s σ H Q I h;exact Subscript_ (L8 ha hb I h fun v u s2 x y H2 I2 rx ry q=>hr a b pins s2 σ H2 x y v u Q I2 rx ry q (hs _ _))
def Qy (K:Frg):R2:=fun x y H Q=>∃ p xs i v,x=.ref p/\y=.int i/\df K H p xs/\atI xs i=some v/\Q v H
def Qz (K:Frg):R2:=fun x y H Q=>∃ p xs i v,x=.ref p/\y=.int i/\j6 K H p xs/\atI xs i=some v/\Q v H
theorem IR:Li X (Qy X.K):=by
 intro value slice pins s σ H x y v u Q I rx ry h hs;obtain⟨p,xs,i,z,rfl,rfl,hq,he,q⟩:=h
 cases rx
 obtain⟨t,rfl⟩:=ry;obtain⟨its,r,pl,hz⟩:=I.list hq;obtain⟨j,h1,h2,h3,h4,h5⟩:=zF he;obtain⟨w,ew,rw'⟩:=r.get h2;have hl:=r.length;have hn:=uP;have fin:EP X pins σ Q w s:=⟨z,H,I,rw',q⟩
 by_cases h0:0<=i
 ·have hj:i.toNat=j:=by
   rw[seqIndex_of h0 h5]at h1;exact Option.some.inj h1
  exact item_listR pl.isList h0 (by omega) (by rw[hj];simpa using ew) fin hs
 ·have hj:(i+(its.toArray.size:Int)).toNat=j:=by
   rw[seqIndex_neg (by omega) h4]at h1
   rw[size_toArray,<-hl];exact Option.some.inj h1
  exact subscriptTail_builtinR (x:=w) pl.isList.typeIs slot_list_getitem.lookup
   (wpAny_getItem_list_neg (Q:=fun r s'=>r=w/\EP X pins σ Q r s') pl.isList (by omega) (by rw[size_toArray] <;> omega) (by omega) (by rw[hj];simpa using ew) ⟨rfl,fin⟩) hs
theorem MQ:Li X (Qz X.K):=by
 intro value slice pins s σ H x y v u Q I rx ry h hs;obtain⟨p,xs,i,z,rfl,rfl,hq,he,q⟩:=h
 cases rx
 obtain⟨t,rfl⟩:=ry;obtain⟨its,r,pl,hz⟩:=I.tuple hq;obtain⟨j,h1,h2,h3,h4,h5⟩:=zF he;obtain⟨w,ew,rw'⟩:=r.get h2;have hl:=r.length;have hn:=uP;have fin:EP X pins σ Q w s:=⟨z,H,I,rw',q⟩;exact subscriptTail_builtinR (x:=w) pl.typeIs slot_tuple_getitem.lookup
  (getItem_tuple (j:=j) (Q:=fun r s'=>r=w/\EP X pins σ Q r s') pl (by omega) (by omega) (by rw[size_toArray,<-hl];exact h1) (by simpa using ew) ⟨rfl,fin⟩) hs
theorem yv (its:List Value) (n j:Nat) (u:Value):Obj.mapSeq (·.setIfInBounds j u) {cls:=.type "list",data:=.seq its.toArray n}={cls:=.type "list",data:=.seq (its.set j u).toArray n}:=by
 simp[Obj.mapSeq]
theorem aH.lst {pins:List (Addr × Obj)}{σ:St}{H:Hp}{s:Shared}{p:Addr}{xs:List V}(I:aH X pins σ H s)(h:H p=some (.lst xs)) :
  ∃ (its:List Value) (n:Nat),aO xs its/\s.heap.get? p=some {cls:=.type "list",data:=.seq its.toArray n}/\xs.length<=sizeLine:=by
 obtain⟨z,its,n,r,e⟩:=I.hok p _ h;exact⟨its,n,r,e,z⟩
theorem aH.lstUpd {pins:List (Addr × Obj)}{σ:St}{H:Hp}{s:Shared}{p:Addr}{xs ys:List V}{its its':List Value}{n n':Nat}{f:Obj->Obj}(I:aH X pins σ H s)(h:H p=some (.lst xs))
  (ho:s.heap.get? p=some {cls:=.type "list",data:=.seq its.toArray n}) (hf:f {cls:=.type "list",data:=.seq its.toArray n}={cls:=.type "list",data:=.seq its'.toArray n'}) (r:aO ys its') (hz:ys.length<=sizeLine) (t:Nat) :
  aH X pins σ (cM H p (.lst ys)) {s with heap:=s.heap.update p f,toks:=t}:=by
 have e:(s.heap.update p f).get? p=some {cls:=.type "list",data:=.seq its'.toArray n'}:=by
  rw[Heap.get?_update_self f ho (by rw[hf] <;> rfl),hf]
 refine I.write (x:=p) (e:=p) (by rw[h];trivial) (.inl rfl) (fun b u hb q=>(Heap.get?_update_other _ _ (Ne.symm hb)).trans q) ⟨_,e⟩ ?_
 exact⟨hz,its',n',r,e⟩
def QA:V->V->V->Hp->(Hp->Prop)->Prop:=fun o i v H Q=>∃ p xs k j,o=.ref p/\i=.int k/\H p=some (.lst xs)/\uJ xs.length k=some j/\Q (cM H p (.lst (xs.set j v)))
theorem set_list:OS X QA:=by
 intro pins s σ H o i v ov iv u Q I ro ri rv h;obtain⟨p,xs,k,j,rfl,rfl,hp,hj,q⟩:=h
 cases ro
 obtain⟨t,rfl⟩:=ri;obtain⟨its,n,r,ho,hz⟩:=I.lst hp;obtain⟨h1,h2,h3,h4⟩:=Ai hj;have hl:=r.length;have hn:=uP;have I':aH X pins σ (cM H p (.lst (xs.set j v))) {s with heap:=s.heap.update p (Obj.mapSeq (·.setIfInBounds j u))}:=
  I.lstUpd hp ho (yv its n j u) (r.set rv j) (by rw[length_set];exact hz) s.toks
 by_cases h0:0<=k
 ·have hk:k.toNat=j:=by
   rw[seqIndex_of h0 h4]at h1;exact Option.some.inj h1
  exact PySem.W.ki_setAt ho h0 (by omega) (by rw[size_toArray,<-hl];exact h4) (by rw[hk];exact⟨_,I',q⟩)
 ·have hk:(k+(its.toArray.size:Int)).toNat=j:=by
   rw[seqIndex_neg (by omega) h3]at h1
   rw[size_toArray,<-hl];exact Option.some.inj h1
  exact PySem.W.ki_setBack ho (by omega) (by rw[size_toArray,<-hl];exact h3) (by omega) (by rw[hk];exact⟨_,I',q⟩)
theorem vi (lo hi:Option Int)(n:Nat):(sliceBounds lo hi none n).1=((HT.sIx n 0 lo:Nat):Int)/\(sliceBounds lo hi none n).2.1=((HT.sIx n n hi:Nat):Int)/\(sliceBounds lo hi none n).2.2=1:=by
 refine⟨?_,?_,rfl⟩
 ·cases lo with
  | none=>simp[sliceBounds,HT.sIx]
  | some i=>
   simp only[sliceBounds,HT.sIx,getD_none,show(1:Int)>0 by decide,if_true]
   by_cases h:i<0
   ·simp only[h,if_true] <;> omega
   ·simp only[h,if_false] <;> omega
 ·cases hi with
  | none=>simp[sliceBounds,HT.sIx]
  | some i=>
   simp only[sliceBounds,HT.sIx,getD_none,show(1:Int)>0 by decide,if_true]
   by_cases h:i<0
   ·simp only[h,if_true] <;> omega
   ·simp only[h,if_false] <;> omega
theorem rD (its:List Value)(lo hi:Option Int):slicePick its.toArray lo hi none=((its.drop (HT.sIx its.length 0 lo)).take (HT.sIx its.length its.length hi-HT.sIx its.length 0 lo)).toArray:=by
 obtain⟨h1,h2,h3⟩:=vi lo hi its.toArray.size;unfold slicePick;rw[h1,h2,h3];simp only[sliceRange_one,pick_run,size_toArray] <;> rfl
def RR (K:Frg):V->Option Int->Option Int->Hp->VK->Prop:=fun x lo hi H Q=>∃ a xs,x=.ref a/\df K H a xs/\∀ p,H p=none->Q (.ref p) (cM H p (.lst (Br xs lo hi)))
theorem Ko:OE X (RR X.K):=by
 intro pins s σ H x v vl vu lo hi sl Q I rx hs pl pu h;obtain⟨a,xs,rfl,hx,q⟩:=h
 cases rx
 obtain⟨its,r,ht,hz⟩:=I.list hx;have hlen:=r.length;refine⟨"list",_,slot_list_getitem.lookup,ht.isList.typeIs,?_⟩;refine wpAny_getItem_list_slice ht.isList hs pl pu .none (by simp) ?_ (by rw[size_toArray] <;> omega)
 rw[rD,<-hlen];refine⟨.ref s.heap.objs.size,_,I.laid (t':=s.toks) (o:=.lst (Br xs lo hi)) (fun b ob q=>Heap.get?_push_of_some _ q) (le_refl _) ?_,rfl,q _ (I.hok.fresh (le_refl _))⟩;exact⟨le_trans (v5 xs lo hi) hz,_,0,(r.drop (HT.sIx xs.length 0 lo)).take (HT.sIx xs.length xs.length hi-HT.sIx xs.length 0 lo),Heap.get?_push_size _ rfl⟩
theorem tM:gM X (.builtin "len") (fun xs H Q=>∃ p ys,xs=[.ref p]/\(df X.K H p ys\/j6 X.K H p ys)/\Q (.int ys.length) H):=by
 intro pins s σ H xs us Q I r h;obtain⟨p,ys,rfl,hq,q⟩:=h;obtain⟨u,rfl,rx⟩:=vals1 r
 cases rx
 have hn:=uP
 rcases hq with hq|hq
 ·obtain⟨its,r',pl,hz⟩:=I.list hq;have hlen:=r'.length;exact Calls.call_len_list pl.isList (by simp only[size_toArray] <;> omega) ⟨.int ys.length,H,I.tok _,⟨s.toks+1,by rw[size_toArray,hlen]⟩,q⟩
 ·obtain⟨its,r',pl,hz⟩:=I.tuple hq;have hlen:=r'.length;exact len_tuple pl (by simp only[size_toArray] <;> omega) ⟨.int ys.length,H,I.tok _,⟨s.toks+1,by rw[size_toArray,hlen]⟩,q⟩
theorem gM.or {f:Value}{r r':List V->Hp->VK->Prop}(h:gM X f r)(h':gM X f r'):gM X f (fun xs H Q=>r xs H Q\/r' xs H Q):=by
 intro pins s σ H xs us Q I rs q
 rcases q with q|q
 ·exact h pins s σ H xs us Q I rs q
 ·exact h' pins s σ H xs us Q I rs q
def Se (K:Frg)(T:String)(x:V)(H:Hp):Prop:=match x with
 | .str _=>T="str"
 | .int _=>T="int"
 | .ref p=>(T="list"/\∃ xs,df K H p xs)\/(T="tuple"/\∃ o,K.lookup p=some o/\o.cls=.type "tuple"/\o.dict=none) ∨
   (T="dict"/\((∃ kvs,H p=some (.dK kvs))\/∃ kvs,H p=some (.dT kvs)))\/(T="set"/\∃ S n,H p=some (.set S n))
 | _=>False
theorem G8 {pins:List (Addr × Obj)}{σ:St}{H:Hp}{s:Shared}{T:String}{x:V}{v:Value}(I:aH X pins σ H s)(r:RelV x v)(ty:Se X.K T x H) :
  s.TypeIs v T/\∀ a,v=.ref a->∃ ob,s.heap.get? a=some ob/\ob.dict=none:=by
 cases x with
 | str z=>
  obtain⟨t,rfl⟩:=r
  cases (show T="str" from ty)
  exact⟨typeIs_str s z t,fun _ e=>nomatch e⟩
 | int i=>
  obtain⟨t,rfl⟩:=r
  cases (show T="int" from ty)
  exact⟨typeIs_int s i t,fun _ e=>nomatch e⟩
 | ref p=>
  cases r
  rcases ty with ⟨rfl,xs,hq⟩|⟨rfl,o,hk,hc,hd⟩|⟨rfl,hk⟩|⟨rfl,S,n,hk⟩
  ·obtain⟨its,_,pl,_⟩:=I.list hq;refine⟨pl.isList.typeIs,fun a e=>?_⟩
   cases e
   obtain⟨o,n,e,c,hd,_⟩:=pl;exact⟨o,e,hd⟩
  ·refine⟨⟨o,I.kIn p o hk,hc⟩,fun a e=>?_⟩
   cases e
   exact⟨o,I.kIn _ o hk,hd⟩
  ·have z:∃ o,s.heap.get? p=some o/\o.ExactDict:=by
    rcases hk with ⟨kvs,hk⟩|⟨kvs,hk⟩
    ·obtain⟨_,_,_,_,o,_,_,e,ex,_⟩:=I.hok p _ hk;exact⟨o,e,ex⟩
    ·obtain⟨_,_,_,_,o,_,_,e,ex,_⟩:=I.hok p _ hk;exact⟨o,e,ex⟩
   obtain⟨o,e,ex⟩:=z;refine⟨⟨o,e,ex.1⟩,fun a e2=>?_⟩
   cases e2
   exact⟨o,e,ex.2.1⟩
  ·obtain⟨o,_,_,_,e,ex,_⟩:=I.hok p _ hk;refine⟨⟨o,e,ex.1⟩,fun a e2=>?_⟩
   cases e2
   exact⟨o,e,ex.2.1⟩
 | _=>exact False.elim ty
def RX (K:Frg)(T:String)(r:V->List V->Hp->VK->Prop)(to:TE):TE:=fun σ H Q=>to σ H fun x H1=>Se K T x H1/\r x [] H1 Q
def SH (K:Frg)(T:String)(r:V->List V->Hp->VK->Prop)(to:TE)(t:TA):TE:=fun σ H Q=>to σ H fun x H1=>Se K T x H1/\t σ H1 fun xs H2=>r x xs H2 Q
variable {o e:Expr}{es:List Expr}{to:TE}{t:TA}{name:Str}{apos cpos:Pos}{T id:String}{r:V->List V->Hp->VK->Prop}
theorem NB (pa:PlainAttrs T) (slot:Slot T name id) (hty:typeOf (.builtin id)=pure (.type "method_descriptor")) (hm:OC X id r) (ho:PE X o to)
  (hbase:attributeBase o name X.env (eval o X.env)=eval o X.env:=by rfl) (hline:(apos.endLine == cpos.line)=true:=by rfl):PE X (.Call (.Attribute o name apos) [] [] cpos) (RX X.K T r to):=by
 intro pins s σ H Q I h;refine wpAny_Call_method0_late hbase hline (cT (ho pins s σ H _ I h) fun v s1 ⟨x,H1,I1,r1,ty,q1⟩=>?_);obtain⟨h1,h2⟩:=G8 I1 r1 ty;exact⟨T,id,pa,slot,hty,h1,h2,Calls.callWith_builtin rfl (PySem.evalArgs_none (hm pins s1 σ H1 x [] v [] Q I1 r1 .nil q1))⟩
theorem K5 (pa:PlainAttrs T) (slot:Slot T name id) (hty:typeOf (.builtin id)=pure (.type "method_descriptor")) (hm:OC X id r) (ho:PE X o to) (ha:PA X (e::es) t)
  (hbase:attributeBase o name X.env (eval o X.env)=eval o X.env:=by rfl)
  (hfew:((backTo cpos (starEach (e::es) X.env)).all (fun x=>!x.1) && (backToKw cpos (keywordEach [] X.env)).all (fun x=>x.1.isSome)
   && decide ((e::es).length+([]:List Keyword).length+(if ([]:List Keyword).isEmpty then 0 else 1)<30))=true:=by rfl)
  (hline:(apos.endLine == cpos.line)=true:=by rfl) (hs:starEach (e::es) X.env=(false,eval e X.env)::starEach es X.env:=by rfl) (hplain:(backTo cpos (starEach es X.env)).any (·.1)=false:=by rfl) :
  PE X (.Call (.Attribute o name apos) (e::es) [] cpos) (SH X.K T r to t):=by
 intro pins s σ H Q I h;refine wpAny_Call_method_late hbase hfew hline rfl (cT (ho pins s σ H _ I h) fun v s1 ⟨x,H1,I1,r1,ty,q1⟩=>?_);obtain⟨h1,h2⟩:=G8 I1 r1 ty;refine⟨T,id,pa,slot,hty,h1,h2,?_⟩;have hA:=ha cpos pins s1 σ H1 _ I1 q1;rw[hs]at hA ⊢;refine Calls.callWith_builtin (by show(false || (backTo cpos (starEach es X.env)).any (·.1))=false;rw[hplain] <;> rfl) (Calls.evalArgs_plain ?_)
 exact cT hA fun us s2 ⟨vs,H2,I2,r2,q2⟩=>hm pins s2 σ H2 x vs v us Q I2 r1 r2 q2
end
end L2
namespace L2
open PySem PySem.Spec PyProof.Rows
def Rj (X:Cx)(id:String)(r:V->List V->Hp->VK->Prop):Prop:=
 ∀ (pins:List (Addr × Obj)) (s:Shared) (σ:St) (H:Hp) (x:V) (xs:List V) (v:Value) (us:List Value) (Q:VK),aH X pins σ H s->RelV x v->aO xs us->r x xs H Q →
  wpAny (model X.prog X.w) X.A (call (.builtin id) (v::us)) (EP X pins σ Q) X.xe s
theorem aO.one:∀ {x:V}{us:List Value},aO [x] us->∃ u,us=[u]/\RelV x u
 | _,_,.cons r .nil=>⟨_,rfl,r⟩
theorem aO.two:∀ {x y:V}{us:List Value},aO [x,y] us->∃ u v,us=[u,v]/\RelV x u/\RelV y v
 | _,_,_,.cons r (.cons q .nil)=>⟨_,_,rfl,r,q⟩
theorem aO.zero:∀ {us:List Value},aO [] us->us=[]
 | _,.nil=>rfl
theorem aO.dropLast {xs:List V}{us:List Value}(h:aO xs us):aO xs.dropLast us.dropLast:=by
 induction h with
 | nil=>exact .nil
 | cons r t ih=>
  cases t with
  | nil=>exact .nil
  | cons q t'=>exact .cons r ih
theorem aO.eraseIdx:∀ {xs:List V}{us:List Value} (i:Nat),aO xs us->aO (xs.eraseIdx i) (us.eraseIdx i)
 | _,_,_,.nil=>.nil
 | _,_,0,.cons _ t=>t
 | _,_,i+1,.cons r t=>.cons r (aO.eraseIdx i t)
theorem aO.reverse {xs:List V}{us:List Value}(h:aO xs us):aO xs.reverse us.reverse:=by
 induction h with
 | nil=>exact .nil
 | cons r t ih=>rw[reverse_cons,reverse_cons];exact aO.append ih (.cons r .nil)
theorem yf {α:Type}(l:List α):l.eraseIdx (l.length-1)=l.dropLast:=by
 induction l with
 | nil=>rfl
 | cons a r ih=>
  cases r with
  | nil=>rfl
  | cons b r=>
   have e:(a::b::r).length-1=((b::r).length-1)+1:=by
    have h1:(a::b::r).length=r.length+2:=rfl;have h2:(b::r).length=r.length+1:=rfl;omega
   rw[e,List.eraseIdx_cons_succ,ih]
   all_goals rfl
section
variable {X:Cx}{pins:List (Addr × Obj)}{σ:St}{H:Hp}{s:Shared}{l b:Addr}{xs ys zs:List V}
theorem aH.lset {its its':List Value}{n:Nat}{f:Array Value->Array Value}{t':Nat}(I:aH X pins σ H s)(hH:H l=some (.lst xs))
  (e:s.heap.get? l=some {cls:=.type "list",data:=.seq its.toArray n}) (hf:f its.toArray=its'.toArray) (hv:aO ys its') (hz:ys.length<=sizeLine) :
  aH X pins σ (cM H l (.lst ys)) {s with heap:=s.heap.update l (Obj.mapSeq f),toks:=t'}:=by
 have q:=PySem.IsL.update e f;rw[hf]at q;refine I.write (x:=l) (e:=l) (by rw[hH];exact trivial) (.inl rfl) (fun b' u hb hu=>(Heap.get?_update_other s.heap (Obj.mapSeq f) (Ne.symm hb)).trans hu) ⟨_,q⟩ ?_
 exact⟨hz,its',_,hv,q⟩
theorem aH.lnew {its:List Value}{t':Nat}(I:aH X pins σ H s)(hv:aO ys its)(hz:ys.length<=sizeLine) :
  aH X pins σ (cM H s.heap.objs.size (.lst ys)) {s with heap:=s.heap.push {cls:=.type "list",data:=.seq its.toArray},toks:=t'}:=
 I.laid (fun _ _ q=>Heap.get?_push_of_some _ q) (le_refl _) ⟨hz,its,0,hv,Heap.get?_push_size _ rfl⟩
theorem aH.fresh (I:aH X pins σ H s):H s.heap.objs.size=none:=I.hok.fresh (le_refl _)
theorem aH.lstM (I:aH X pins σ H s) (hH:H l=some (.lst xs)):xs.length<=sizeLine/\∃ (its:List Value) (n:Nat),aO xs its/\xs.length=its.length/\s.heap.get? l=some {cls:=.type "list",data:=.seq its.toArray n}:=by
 obtain⟨z,its,n,r,e⟩:=I.hok l _ hH;exact⟨z,its,n,r,r.length,e⟩
theorem F8 {n:Nat}(h:n<=sizeLine):Builtin.List.listTooLong n=false:=by
 unfold Builtin.List.listTooLong;exact decide_eq_false (by omega)
end
section
variable {X:Cx}
def Kc:V->List V->Hp->VK->Prop:=fun x vs H Q=>∃ l xs y,x=.ref l/\vs=[y]/\H l=some (.lst xs)/\xs.length<sizeLine/\Q .non (cM H l (.lst (xs++[y])))
theorem sF:Rj X "list.append" Kc:=by
 intro pins s σ H x vs v us Q I rx rv h;obtain⟨l,xs,y,rfl,rfl,hH,hz,q⟩:=h
 cases rx
 obtain⟨u,rfl,ru⟩:=rv.one;obtain⟨z,its,n,r,hl,e⟩:=I.lstM hH;refine call_meets F.slot_list_append ⟨_,e,rfl⟩ F.entry_list_append (F.args_list_append_2 _ _) (PySem.list_append l its.toArray n u (by rw[size_toArray];omega)) ⟨e,?_⟩
 refine⟨.non,_,I.lset (its':=its++[u]) hH e (by simp) (r.append (.cons ru .nil)) ?_,rfl,q⟩
 rw[List.length_append,length_singleton];omega
def Ke:V->List V->Hp->VK->Prop:=fun x vs H Q=>∃ l b xs zs,x=.ref l/\vs=[.ref b]/\H l=some (.lst xs)/\H b=some (.lst zs)/\xs.length+zs.length<=sizeLine/\Q .non (cM H l (.lst (xs++zs)))
theorem BQ:Rj X "list.extend" Ke:=by
 intro pins s σ H x vs v us Q I rx rv h;obtain⟨l,b,xs,zs,rfl,rfl,hH,hB,hz,q⟩:=h
 cases rx
 obtain⟨u,rfl,ru⟩:=rv.one
 cases ru
 obtain⟨z,its,n,r,hl,e⟩:=I.lstM hH;obtain⟨z2,its2,n2,r2,hl2,e2⟩:=I.lstM hB;have hsz:its.toArray.size+its2.toArray.size<=sizeLine:=by rw[size_toArray,size_toArray];omega
 have hlong:¬ (!its.toArray.isEmpty && Builtin.List.listTooLong (its.toArray.size+its2.toArray.size))=true:=by
  rw[F8 hsz,Bool.and_false];exact Bool.false_ne_true
 refine call_meets F.slot_list_extend ⟨_,e,rfl⟩ F.entry_list_extend (F.args_list_extend_2 _ _)
  (AutoSeq1.list_extend_list_list_0 l its.toArray n b its2.toArray n2 hlong (by rw[size_toArray];omega) (by omega)) ⟨e,e2,?_⟩
 refine⟨.non,_,I.lset (its':=its++its2) hH e (by simp) (r.append r2) ?_,rfl,q⟩
 rw[List.length_append];omega
def RQ:V->List V->Hp->VK->Prop:=fun x vs H Q=>∃ l xs y,x=.ref l/\vs=[]/\H l=some (.lst xs)/\xs[xs.length-1]?=some y/\Q y (cM H l (.lst xs.dropLast))
theorem Nb:Rj X "list.pop" RQ:=by
 intro pins s σ H x vs v us Q I rx rv h;obtain⟨l,xs,y,rfl,rfl,hH,hy,q⟩:=h
 cases rx
 have hus:=rv.zero;subst hus;obtain⟨z,its,n,r,hl,e⟩:=I.lstM hH;obtain⟨u,hu,ru⟩:=r.get hy;have hy':its.toArray[its.toArray.size-1]?=some u:=by
  show its.toArray[its.length-1]?=some u;rw[<-getElem?_toList,<-hl];exact hu
 refine call_meets F.slot_list_pop ⟨_,e,rfl⟩ F.entry_list_pop (F.args_list_pop_1 _) (MeetsSeq.list_pop_last l its.toArray n u hy' (by rw[size_toArray];omega)) ⟨e,?_⟩
 refine⟨y,_,I.lset (its':=its.dropLast) hH e ?_ r.dropLast ?_,ru,q⟩
 ·show its.toArray.eraseIdxIfInBounds (its.toArray.size-1)=its.dropLast.toArray;rw[size_toArray,List.eraseIdxIfInBounds_toArray,yf]
 ·rw[length_dropLast];omega
end
section
variable {prog:Program}{w:World}{A:Around}{E:Value->Shared->Prop}{s:Shared}
end
section
variable {X:Cx}
end
end L2
namespace Att
open PySem PySem.W PySem.Calls PyProof.Rows
theorem nZ {P:Params}{h:Heap}:∀ (ns:List Int) (vs:List Value),WellAll P h vs (ns.map WData.int)->IntsAre vs ns:=by
 intro ns
 induction ns with
 | nil=>
  intro vs w;rw[List.map_nil]at w
  cases w
  exact .nil
 | cons n ns ih=>
  intro vs w;rw[map_cons]at w
  cases w with
  | cons a b=>
   cases a
   exact .cons _ _ (ih _ b)
theorem Cm {l:OpenLaw}{n:Nat}(hn:l.most=some n){P:Params}{h:Heap}{args:List WData}{vals:List Value}
  (hpre:l.row.toRowW.claim.pre args=true) (hwl:WellAll P h vals args) :
  ∃ a vs ns,vals=[Value.ref a]/\args=[WData.list (ns.map WData.int)]/\h.get? a=some {cls:=.type "list",data:=.seq vs.toArray}/\IntsAre vs ns/\ns.length<=n:=by
 have hsh:WShape.hasAll [] args [.list .int]=true:=(pre_splitW hpre).1;have hc:l.pre.holds [] {args:=args}=true:=(pre_splitW hpre).2;obtain⟨d,r,rfl,h1,h2⟩:=hasAllW_cons hsh;obtain rfl:=hasAllW_nil h2;obtain⟨xs,rfl,h3⟩:=hasW_list h1;obtain⟨ns,rfl⟩:=items_int h3;have hlen:ns.length<=n:=by
  unfold OpenLaw.pre at hc;have h4:(WTm.not (.lt (.lit (.int (n:Int))) (.len (.arg 0)))).holds [] {args:=[.list (ns.map .int)]}=true:=by
   have h4:=(holds_andW hc).1;rw[hn]at h4;exact h4
  have h5:=condW_of h4 (w_not (w_lt w_lit (w_len_list (w_arg rfl))));rw[length_map]at h5;refine le_of_not_lt fun q=>?_;have q':(n:Int)<((ns.length:Nat):Int):=by omega
  first
   | (rw[decide_eq_true q']at h5;exact absurd h5 (by decide))
   | (simp at h5;omega)
 cases hwl with
 | cons w1 w2=>
  cases w2
  cases w1 with
  | list ho hall=>exact⟨_,_,ns,rfl,rfl,ho,nZ ns _ hall,hlen⟩
theorem Cg (l:OpenLaw)(args:List WData):l.row.toRowW.claim.post args (.bool true) args=true:=
 postW_of (r:=l.row.toRowW) (X:=(true == true))
  (show WShape.has [] (.bool true) .bool=true by first|rfl|decide|simp[WShape.has,WShape.arms,WShape.armsAll])
  (show(WTm.eq .res (.lit (.bool true))).value [] {args:=args,res:=some (.bool true),after:=args}=some (.bool (true == true)) from w_eq_bool (w_res rfl) w_lit) rfl
theorem attach_call {l:OpenLaw}{n:Nat}{q:Program}{loose:List Str}{XP:(Str->Option Value)->Heap->Prop}{YP:World->Heap->Prop}{d:DefRec}
  (hn:l.most=some n) (hdf:d.params.defaults=[])
  (call:∀ (w:World) (s₀ s₁:Shared) (mg mb:Str->Option Value) (fa:Addr) (o:Obj) (pm cd doc:Value) (a:Addr) (vs:List Value) (ns:List Int),
   Ground q loose [] XP w s₀ mg mb s₁.heap->YP w s₁.heap →
   s₁.heap.get? fa=some o->o.data=.func (docDef d.name d.params d.body d.scope pm cd doc)->s₁.heap.CodeRec cd d.name->mg d.name=some (.ref fa) →
   s₁.heap.get? a=some {cls:=.type "list",data:=.seq vs.toArray}->IntsAre vs ns->ns.length<=n->s₁.gens=#[] →
   codeAny (model l.prog w) callerA (.call (.ref fa) ⟨[.ref a],[]⟩) (fun r s'=>r=.ok (.ret (.bool true))/\OldK s₁.heap s'.heap/\s'.os=s₁.os/\AllBare s'.gens) s₁) :
  WalkO q loose XP YP l.row.toRowW d [] (fun f vs=>PySem.call f vs):=by
 intro w s₀ s₁ mg mb G Y fa o pm cd doc dV kV ho hd hcd hD hmg hg args vals as hpre hlay hrd hwl hlo;obtain rfl:dV=.none:=Dflts.none hD hdf;obtain rfl:kV=.none:=Dflts.noKw hD;obtain⟨a,vs,ns,rfl,rfl,hobj,hints,hlen⟩:=Cm hn hpre hwl;refine enter_call (codeAny_mono (call w s₀ s₁ mg mb fa o pm cd doc a vs ns G Y ho (fd_plain hd) hcd hmg hobj hints hlen hg) fun r s' hq=>?_);obtain⟨rfl,h2,h3,h4⟩:=hq;exact⟨.inl ⟨.bool true,.bool true,[],rfl,fun _=>rfl,.bool true,Cg l _,fun _=>⟨List.Pairwise.nil,fun _ hm=>(nomatch hm)⟩⟩,h2,h3,h4⟩
section
variable {prog:Program}{w:World}{A:Around}{E:Value->Shared->Prop}{s:Shared}{K:Frag}
end
end Att
namespace L2
open PySem PySem.Spec PyProof.Rows
theorem tf:∀ {vs:List Value}{ns:List Int},IntsAre vs ns->aO (ns.map V.int) vs
 | _,_,.nil=>.nil
 | _,_,.cons n t h=>.cons ⟨t,rfl⟩ (tf h)
end L2
namespace L2
open PySem PySem.Spec PyProof.Rows
end L2
namespace L2
open PySem PySem.Spec PyProof.Rows
def eC (s:Stmt):Arguments:=match s with
 | .FunctionDef _ a _ _ _ _ _ _ _ _=>a
 | _=>{posonlyargs:=[],args:=[],vararg:=none,kwonlyargs:=[],kw_defaults:=[],kwarg:=none,defaults:=[]}
def cz (s:Stmt):List Stmt:=match s with
 | .FunctionDef _ _ b _ _ _ _ _ _ _=>b
 | _=>[]
def al (s:Stmt):Scope:=match s with
 | .FunctionDef _ _ _ _ _ _ sc _ _ _=>sc
 | _=>{kind:=.function,names:=[],isGenerator:=false,isCoroutine:=false}
abbrev zx:Cy:=fun _ _ _ _ _ _=>False
abbrev E0:XK:=fun _ _ _=>False
theorem Qp {X:Cx}:xM zx X E0:=fun _ _ _ _ _ _ _ h=>h.elim
structure KD (K:Frg) (x qual:Str) (st:Stmt) (f:Addr) (fd:FuncData):Prop where
 ex:∃ (oc:Value) (od:Option Addr) (kV doc pm:Value) (an:Option Addr) (cdv ct:Value) (osl:Array (Option Value)),
  fd=PySem.W.fnOf x qual (eC st) (cz st) (al st) .none kV doc pm an cdv ct/\K.lookup f=some ⟨oc,od,.func fd,osl⟩/\PySem.W.codeIn K cdv qual=true
 kp:PySem.W.keepIn K (.ref f)=true
section
variable {P:Program}{w:World}{K:Frg}{mg:Str->Option Value}{base:Heap}
theorem KD.ok {x qual:Str}{st:Stmt}{f:Addr}{fd:FuncData}{N ps:List Str}{k:Nat}{sp:Sp}(F:KD K x qual st f fd)(S:ay N ps (al st))(len:∀ vs H Q E,sp vs H Q E->vs.length=ps.length)
  (hbody:∀ (cdv:Value) (A:Around) (outer:List Env) (s:Shared) (H:Hp) (vs:List V) (Q:VK) (E:XK),cb k (A.deeper (envOfC qual (al st) s.heap.objs.size f cdv))->sp vs H Q E →
   ∃ t,k8 (qV zx P w K mg base N qual (al st) f cdv A outer s H E).nox (cz st) t/\t {nx:=fun _ H'=>Q .non H',rt:=Q} (start N vs) H):i8 P w K mg base zx (k+1) f fd ps sp:=by
 obtain⟨oc,od,kV,doc,pm,an,cdv,ct,osl,rfl,lk,hcd⟩:=F.ex;refine KQ lk hcd S len fun A outer s H vs Q E hr hsp=>?_;obtain⟨t,h,q⟩:=hbody cdv A outer s H vs Q E hr hsp;exact⟨t,h.nox,q⟩
theorem KD.binds {x qual:Str}{st:Stmt}{f:Addr}{fd:FuncData}{ps:List Str}(F:KD K x qual st f fd)
  (h:∀ (kV doc pm:Value) (an:Option Addr) (cdv ct:Value) (us:List Value),us.length=ps.length->bindArgs (PySem.W.fnOf x qual (eC st) (cz st) (al st) .none kV doc pm an cdv ct) ⟨us,[]⟩=pure (ps.zip us)):Binds K fd ps []:=by
 obtain⟨oc,od,kV,doc,pm,an,cdv,ct,osl,rfl,lk,hcd⟩:=F.ex;exact .all (h kV doc pm an cdv ct)
theorem pK {x qual:Str}{st:Stmt}{f:Addr}{oc:Value}{od an:Option Addr}{osl:Array (Option Value)}{kV doc pm cdv ct:Value}(l:K.lookup f=some ⟨oc,od,.func (PySem.W.fnOf x qual (eC st) (cz st) (al st) .none kV doc pm an cdv ct),osl⟩)
  (c:PySem.W.codeIn K cdv qual=true) (k:PySem.W.keepIn K (.ref f)=true):KD K x qual st f (PySem.W.fnOf x qual (eC st) (cz st) (al st) .none kV doc pm an cdv ct):=⟨⟨oc,od,kV,doc,pm,an,cdv,ct,osl,rfl,l,c⟩,k⟩
end
theorem Cp {n:Nat}(h:n<=1000):n<sizeLine:=lt_of_le_of_lt h (by decide)
section
variable {X:Cx}
theorem pv (i:Nat) {x:Str}{pos:Pos} (hN:X.N[i]?=some x:=by rfl) (hv:Q6 X.env.scope x:=by first | exact Or.inl rfl | exact Or.inr (Or.inl rfl) | exact Or.inr (Or.inr rfl)) (hd:(x == ("__debug__":Str))=false:=by decide)
  (hcd:(x == ("__classdict__":Str))=false:=by decide):PE X (.Name x pos) (xr i):=Gu hN hv hd hcd
end
def Same (H H':Hp):Prop:=∀ b o,H b=some o->H' b=some o
theorem Same.refl (H:Hp):Same H H:=fun _ _ h=>h
theorem Same.trans {H H1 H2:Hp}(a:Same H H1)(b:Same H1 H2):Same H H2:=fun c o h=>b c o (a c o h)
theorem Same.free {H H':Hp}(e:Same H H'){l:Addr}(h:H' l=Option.none):H l=Option.none:=by
 cases q:H l with
 | none=>rfl
 | some o=>
  rw[e l o q]at h
  cases h
theorem Same.seq {K:Frg}{H H':Hp}{a:Addr}{xs:List V}(e:Same H H')(h:df K H a xs):df K H' a xs:=by
 rcases h with (h|⟨o,h⟩)|h
 ·exact .inl (.inl (e _ _ h))
 ·exact .inl (.inr ⟨o,e _ _ h⟩)
 ·exact .inr h
end L2
namespace DL
open PySem L2
def lamQ:Str:="depth.<locals>.<lambda>"
def HCode (c:Addr):HO:=.ext fun h=>h.CodeRec (.ref c) lamQ
def K3:HO->Bool
 | .tbl _=>false
 | _=>true
def Tab (H:Hp):Prop:=∀ P ps,H P=some (.tbl ps)->TriplesOk ps.toList/\∀ pos v,codeAmong pos ps.toList=some v->∃ c,v=.ref c/\H c=some (HCode c)
def ir (K:Frg):Option Addr:=match PySem.W.nsIn K mainGlobals "depth" with
 | some (some (.ref f))=>(match K.lookup f with
  | some ⟨_,_,.func fd,_⟩=>(match fd.code with
   | .ref c=>(match K.lookup c with
    | some ⟨_,_,.fields vs,_⟩=>(match (vs[11]?:Option Value) with
     | some (.ref P)=>some P
     | _=>none)
    | _=>none)
   | _=>none)
  | _=>none)
 | _=>none
def mr (K:Frg)(H:Hp):Prop:=Tab H/\∀ P,ir K=some P->∃ ps,H P=some (.tbl ps)
structure Same (H H':Hp):Prop where
 all:∀ b o,H b=some o->K3 o=true->H' b=some o
 tbl:∀ b ps,H b=some (.tbl ps)->∃ ps',H' b=some (.tbl ps')
theorem Same.get (e:Same H H')(h:H b=some o)(n:K3 o=true:=by rfl):H' b=some o:=e.all b o h n
theorem Same.refl (H:Hp):Same H H:=⟨fun _ _ h _=>h,fun _ ps h=>⟨ps,h⟩⟩
theorem Same.trans (a:Same H H1)(b:Same H1 H2):Same H H2:=⟨fun c o h n=>b.all c o (a.all c o h n) n,fun c ps h=>let ⟨ps',h'⟩:=a.tbl c ps h;b.tbl c ps' h'⟩
theorem Same.free (e:Same H H')(h:H' l=Option.none):H l=Option.none:=by
 cases q:H l with
 | none=>rfl
 | some o=>
  cases n:K3 o with
  | true=>rw[e.all l o q n]at h;cases h
  | false=>
   cases o <;> first|(cases n)|skip
   obtain⟨ps',z⟩:=e.tbl l _ q;rw[z]at h;cases h
theorem Same.of (h:∀ b o,H b=some o->H' b=some o):Same H H':=⟨fun b o q _=>h b o q,fun b ps q=>⟨ps,h b _ q⟩⟩
theorem Same.seq (e:Same H H')(h:df K H a xs):df K H' a xs:=by
 rcases h with (h|⟨o,h⟩)|h
 ·exact .inl (.inl (e.get h))
 ·exact .inl (.inr ⟨o,e.get h⟩)
 ·exact .inr h
theorem mr.same (t:mr K H)(e:Same H H')(h:Tab H'):mr K H':=⟨h,fun P a=>let ⟨ps,q⟩:=t.2 P a;e.tbl P ps q⟩
theorem vx (t:Tab H)(hn:H a=none)(n:K3 o=true):Tab (cM H a o):=fun P ps h=>by
 by_cases z:P=a
 ·subst z;rw[aX]at h;cases h;cases n
 ·rw[aY z]at h;obtain⟨h1,h2⟩:=t P ps h;exact⟨h1,fun pos v q=>let ⟨c,e,g⟩:=h2 pos v q;⟨c,e,by rw[aY (bi g hn)];exact g⟩⟩
theorem Ku (t:Tab H)(hn:H a=some (.lst xs)):Tab (cM H a (.lst ys)):=fun P ps h=>by
 by_cases z:P=a
 ·subst z;rw[aX]at h;cases h
 ·rw[aY z]at h;obtain⟨h1,h2⟩:=t P ps h;exact⟨h1,fun pos v q=>let ⟨c,e,g⟩:=h2 pos v q;⟨c,e,by rw[aY (fun w=>by rw[w,hn]at g;cases g)];exact g⟩⟩
theorem G4 (t:mr K H)(hn:H a=none)(n:K3 o=true):mr K (cM H a o):=⟨vx t.1 hn n,fun P e1=>let ⟨ps,q⟩:=t.2 P e1;⟨ps,by rw[aY (bi q hn)];exact q⟩⟩
theorem xt (t:mr K H)(hn:H a=some (.lst xs)):mr K (cM H a (.lst ys)):=⟨Ku t.1 hn,fun P e1=>let ⟨ps,q⟩:=t.2 P e1;⟨ps,by rw[aY (fun w=>by rw[w,hn]at q;cases q)];exact q⟩⟩
theorem GQ (hn:H a=none):Same H (cM H a o):=.of fun b u q=>by rw[aY (bi q hn)];exact q
inductive T where
 | non|bl (b:Bool)|int (i:Int)|str (x:Str)|tup (xs:List T)|lst (xs:List T)|exc (x:Str)
inductive S where
 | t (x:T)|vt (x:T)|ol (xs:List T)
def ExcAt (H:Hp)(a c:Addr):Prop:=H a=some (.ext fun h=>∃ o,h.get? a=some o/\o.cls=.ref c)
mutual
def aB (K:Frg)(H:Hp):T->V->Prop
 | .non,v=>v=.non
 | .bl b,v=>v=.bl b
 | .int i,v=>v=.int i
 | .str x,v=>v=.str x
 | .tup ts,v=>∃ a xs,v=.ref a/\j6 K H a xs/\au K H ts xs
 | .lst ts,v=>∃ a xs,v=.ref a/\df K H a xs/\au K H ts xs
 | .exc x,v=>∃ a C,v=.ref a/\PySem.W.nsIn K mainGlobals x=some (some (.ref C))/\ExcAt H a C
def au (K:Frg)(H:Hp):List T->List V->Prop
 | [],xs=>xs=[]
 | t::ts,xs=>∃ x r,xs=x::r/\aB K H t x/\au K H ts r
end
mutual
def lH:T->Bool
 | .tup ts=>cL ts
 | .lst _=>false
 | _=>true
def cL:List T->Bool
 | []=>true
 | t::ts=>lH t && cL ts
end
mutual
theorem aB.mono (h:∀ a xs,j6 K H a xs->j6 K H' a xs)(hl:∀ a xs,df K H a xs->df K H' a xs)(he:∀ a c,ExcAt H a c->ExcAt H' a c):∀ (t:T) (v:V),aB K H t v->aB K H' t v
 | .non,_,e=>e
 | .bl _,_,e=>e
 | .int _,_,e=>e
 | .str _,_,e=>e
 | .tup ts,_,⟨a,xs,e,q,r⟩=>⟨a,xs,e,h a xs q,au.mono h hl he ts xs r⟩
 | .lst ts,_,⟨a,xs,e,q,r⟩=>⟨a,xs,e,hl a xs q,au.mono h hl he ts xs r⟩
 | .exc c,_,⟨a,C,e,z,q⟩=>⟨a,C,e,z,he a C q⟩
theorem au.mono (h:∀ a xs,j6 K H a xs->j6 K H' a xs)(hl:∀ a xs,df K H a xs->df K H' a xs)(he:∀ a c,ExcAt H a c->ExcAt H' a c):∀ (ts:List T) (xs:List V),au K H ts xs->au K H' ts xs
 | [],_,e=>e
 | t::ts,_,⟨x,r,e,p,q⟩=>⟨x,r,e,aB.mono h hl he t x p,au.mono h hl he ts r q⟩
end
theorem Same.sqT (e:Same H H')(a:Addr)(xs:List V)(h:j6 K H a xs):j6 K H' a xs:=by
 rcases h with (h|⟨o,h⟩)|h
 ·exact .inl (.inl (e.get h))
 ·exact .inl (.inr ⟨o,e.get h⟩)
 ·exact .inr h
theorem aB.same (e:Same H H')(h:aB K H t v):aB K H' t v:=aB.mono (fun a xs q=>Same.sqT e a xs q) (fun a xs q=>e.seq q) (fun a c q=>e.get q) t v h
theorem au.same (e:Same H H')(h:au K H ts xs):au K H' ts xs:=au.mono (fun a xs q=>Same.sqT e a xs q) (fun a xs q=>e.seq q) (fun a c q=>e.get q) ts xs h
def gN (F H:Hp):Prop:=∀ b o,H b=some o->K3 o=true->F b=some o\/∃ xs,o=.lst xs
theorem gN.sqT (f:gN F H)(a:Addr)(xs:List V)(h:j6 K H a xs):j6 K F a xs:=by
 rcases h with (h|⟨o,h⟩)|h
 ·rcases f _ _ h rfl with q|⟨ys,q⟩
  ·exact .inl (.inl q)
  ·cases q
 ·rcases f _ _ h rfl with q|⟨ys,q⟩
  ·exact .inl (.inr ⟨o,q⟩)
  ·cases q
 ·exact .inr h
theorem gN.exc (f:gN F H)(h:ExcAt H a c):ExcAt F a c:=by
 rcases f _ _ h rfl with q|⟨ys,q⟩
 ·exact q
 ·cases q
mutual
theorem aB.fullM (e:gN F H):∀ (t:T) (v:V),lH t=true->aB K H t v->aB K F t v
 | .non,_,_,h=>h
 | .bl _,_,_,h=>h
 | .int _,_,_,h=>h
 | .str _,_,_,h=>h
 | .tup ts,_,p,⟨a,xs,h1,h2,h3⟩=>⟨a,xs,h1,e.sqT a xs h2,au.fullM e ts xs (by simpa only [lH] using p) h3⟩
 | .lst _,_,p,_=>by simp[lH]at p
 | .exc _,_,_,⟨a,C,h1,z,h2⟩=>⟨a,C,h1,z,e.exc h2⟩
theorem au.fullM (e:gN F H):∀ (ts:List T) (xs:List V),cL ts=true->au K H ts xs->au K F ts xs
 | [],_,_,h=>h
 | t::ts,_,p,⟨x,r,h1,h2,h3⟩=>by
  simp only[cL,Bool.and_eq_true]at p;exact⟨x,r,h1,aB.fullM e t x p.1 h2,au.fullM e ts r p.2 h3⟩
end
theorem aB.full (e:gN F H)(p:lH t=true)(h:aB K H t v):aB K F t v:=aB.fullM e t v p h
theorem au.full (e:gN F H)(p:cL ts=true)(h:au K H ts xs):au K F ts xs:=au.fullM e ts xs p h
def norm (x:T):S:=if lH x=true then .t x else .vt x
theorem au.length:∀ {ts:List T}{xs:List V},au K H ts xs->xs.length=ts.length
 | [],_,e=>by cases (show _=[] from e);rfl
 | t::ts,_,⟨x,r,e,_,q⟩=>by subst e;rw[length_cons,length_cons,au.length q]
theorem au.get:∀ {ts:List T}{xs:List V}{i:Nat}{t:T},au K H ts xs->ts[i]?=some t->∃ x,xs[i]?=some x/\aB K H t x
 | [],_,_,_,_,e=>by simp at e
 | t::ts,_,0,u,⟨x,r,e,p,q⟩,h=>by subst e;simp at h;subst h;exact⟨x,by simp,p⟩
 | t::ts,_,i+1,u,⟨x,r,e,p,q⟩,h=>by
  subst e;obtain⟨y,h1,h2⟩:=au.get (i:=i) q (by simpa using h)
  exact⟨y,by simpa using h1,h2⟩
theorem au.getV:∀ {ts:List T}{xs:List V}{i:Nat}{x:V},au K H ts xs->xs[i]?=some x->∃ t,ts[i]?=some t/\aB K H t x
 | [],_,_,_,e,h=>by cases (show _=[] from e);simp at h
 | t::ts,_,0,u,⟨x,r,e,p,q⟩,h=>by subst e;simp at h;subst h;exact⟨t,by simp,p⟩
 | t::ts,_,i+1,u,⟨x,r,e,p,q⟩,h=>by
  subst e;obtain⟨y,h1,h2⟩:=au.getV (i:=i) q (by simpa using h)
  exact⟨y,by simpa using h1,h2⟩
theorem au.append:∀ {ts us:List T}{xs ys:List V},au K H ts xs->au K H us ys->au K H (ts++us) (xs++ys)
 | [],_,_,_,e,q=>by cases (show _=[] from e);exact q
 | t::ts,_,_,_,⟨x,r,e,p,q⟩,h=>by subst e;exact⟨x,r++_,rfl,p,au.append q h⟩
theorem au.one (h:aB K H t x):au K H [t] [x]:=⟨x,[],rfl,h,rfl⟩
theorem au.take:∀ {ts:List T}{xs:List V} (n:Nat),au K H ts xs->au K H (ts.take n) (xs.take n)
 | _,_,0,_=>by simp only[List.take_zero];rfl
 | [],_,_+1,e=>by cases (show _=[] from e);rfl
 | t::ts,_,n+1,⟨x,r,e,p,q⟩=>by subst e;exact⟨x,r.take n,rfl,p,au.take n q⟩
theorem au.drop:∀ {ts:List T}{xs:List V} (n:Nat),au K H ts xs->au K H (ts.drop n) (xs.drop n)
 | _,_,0,h=>by simp only[List.drop_zero];exact h
 | [],_,_+1,e=>by cases (show _=[] from e);rfl
 | t::ts,_,n+1,⟨x,r,e,p,q⟩=>by subst e;exact au.drop n q
theorem au.set (h:aB K H u y):∀ {ts:List T}{xs:List V} (n:Nat),au K H ts xs->au K H (ts.set n u) (xs.set n y)
 | [],_,_,e=>by cases (show _=[] from e);rfl
 | t::ts,_,0,⟨x,r,e,p,q⟩=>by subst e;exact⟨y,r,rfl,h,q⟩
 | t::ts,_,n+1,⟨x,r,e,p,q⟩=>by subst e;exact⟨x,r.set n y,rfl,p,au.set h n q⟩
theorem au.dropLast (h:au K H ts xs):au K H ts.dropLast xs.dropLast:=by
 rw[List.dropLast_eq_take,List.dropLast_eq_take,h.length];exact h.take _
theorem au.reverse:∀ {ts:List T}{xs:List V},au K H ts xs->au K H ts.reverse xs.reverse
 | [],_,e=>by cases (show _=[] from e);rfl
 | t::ts,_,⟨x,r,e,p,q⟩=>by subst e;rw[reverse_cons,reverse_cons];exact au.append (au.reverse q) (au.one p)
theorem au.ints:∀ (ns:List Int),au K H (ns.map T.int) (ns.map V.int)
 | []=>rfl
 | n::ns=>⟨.int n,ns.map V.int,rfl,rfl,au.ints ns⟩
abbrev a8:=List (Option S)
abbrev WE:=a8->(S->Prop)->Prop
abbrev WT:=a8->(Bool->Prop)->Prop
abbrev WA:=a8->(List S->Prop)->Prop
structure vJ where
 nx:a8->Prop
 rt:S->Prop
 bk:a8->Prop:=fun _=>False
 ct:a8->Prop:=fun _=>False
abbrev WS:=vJ->a8->Prop
def fC (K:Frg)(F H:Hp):S->V->Prop
 | .t x,v=>aB K F x v
 | .vt _,_=>False
 | .ol ts,v=>∃ a xs,v=.ref a/\F a=none/\H a=some (.lst xs)/\au K F ts xs
structure Rel (K:Frg) (F H:Hp) (σ:St) (δ:a8):Prop where
 sub:Same F H
 full:gN F H
 len:σ.length=δ.length
 slot:∀ (i:Nat) (s:S),δ[i]?=some (some s)->∃ v,σ[i]?=some (some v)/\fC K F H s v
 dist:∀ (i j:Nat) (a:Addr) (ts us:List T),i≠j->δ[i]?=some (some (.ol ts))->δ[j]?=some (some (.ol us))->σ[i]?=some (some (.ref a))->σ[j]?≠some (some (.ref a))
 tab:mr K H
structure dw (F H F' H':Hp):Prop where
 hh:Same H H'
 ff:Same F F'
 sub:Same F' H'
 full:gN F' H'
 keep:∀ b,H b≠none->F b=none->F' b=none
 tb:Tab H->Tab H'
theorem aI (e:Same H H')(h:H' b=none):H b=none:=e.free h
theorem dw.refl (a:Same F H)(b:gN F H):dw F H F H:=⟨Same.refl _,Same.refl _,a,b,fun _ _ h=>h,id⟩
theorem dw.trans (a:dw F H F1 H1)(b:dw F1 H1 F2 H2):dw F H F2 H2:=
 ⟨a.hh.trans b.hh,a.ff.trans b.ff,b.sub,b.full,fun c h1 h2=>b.keep c (fun z=>h1 (aI a.hh z)) (a.keep c h1 h2),fun t=>b.tb (a.tb t)⟩
theorem fC.ext (e:dw F H F' H'):∀ {s:S}{v:V},fC K F H s v->fC K F' H' s v
 | .t _,_,h=>aB.same e.ff h
 | .vt _,_,h=>h
 | .ol _,_,⟨a,xs,h1,h2,h3,h4⟩=>⟨a,xs,h1,e.keep a (by rw[h3];simp) h2,e.hh.get h3,au.same e.ff h4⟩
theorem Rel.ext (r:Rel K F H σ δ)(e:dw F H F' H'):Rel K F' H' σ δ:=
 ⟨e.sub,e.full,r.len,fun i s h=>let ⟨v,h1,h2⟩:=r.slot i s h;⟨v,h1,h2.ext e⟩,r.dist,r.tab.same e.hh (e.tb r.tab.1)⟩
theorem Rel.refl (r:Rel K F H σ δ):dw F H F H:=dw.refl r.sub r.full
def dG (K:Frg)(H F' H':Hp):S->V->Prop
 | .t x,v=>aB K F' x v
 | .vt x,v=>aB K H' x v
 | .ol ts,v=>∃ a xs,v=.ref a/\H a=none/\F' a=none/\H' a=some (.lst xs)/\au K F' ts xs
theorem dG.ext (e:dw F1 H1 F2 H2):∀ {s:S}{v:V},dG K H F1 H1 s v->dG K H F2 H2 s v
 | .t _,_,h=>aB.same e.ff h
 | .vt _,_,h=>aB.same e.hh h
 | .ol _,_,⟨a,xs,h1,h2,h3,h4⟩=>⟨a,xs,h1,h2,e.keep a (by rw[h4.1];simp) h3,e.hh.get h4.1,au.same e.ff h4.2⟩
theorem dG.start (e:Same H0 H):∀ {s:S}{v:V},dG K H F' H' s v->dG K H0 F' H' s v
 | .t _,_,h=>h
 | .vt _,_,h=>h
 | .ol _,_,⟨a,xs,h1,h2,h3⟩=>⟨a,xs,h1,aI e h2,h3⟩
theorem dG.norm (f:gN F H')(h:aB K H' x v):dG K H F H' (norm x) v:=by
 unfold DL.norm
 split
 ·rename_i p;exact aB.full f p h
 ·exact h
def gO (K:Frg)(F H:Hp):S->V->Prop
 | .t x,v=>aB K F x v
 | .vt x,v=>aB K H x v
 | .ol ts,v=>∃ a xs,v=.ref a/\df K H a xs/\au K F ts xs
theorem dG.val (e:Same F H):∀ {s:S}{v:V},dG K H0 F H s v->gO K F H s v
 | .t _,_,h=>h
 | .vt _,_,h=>h
 | .ol _,_,⟨a,xs,h1,_,_,h2,h3⟩=>⟨a,xs,h1,df.of h2,h3⟩
def tr:S->T
 | .t x=>x
 | .vt x=>x
 | .ol ts=>.lst ts
theorem gO.tree (e:Same F H):∀ {s:S}{v:V},gO K F H s v->aB K H (tr s) v
 | .t _,_,h=>aB.same e h
 | .vt _,_,h=>h
 | .ol _,_,⟨a,xs,h1,h2,h3⟩=>⟨a,xs,h1,h2,au.same e h3⟩
def items:S->Option (List T)
 | .t (.lst ts)=>some ts
 | .vt (.lst ts)=>some ts
 | .ol ts=>some ts
 | _=>none
theorem gO.list (e:Same F H)(h:gO K F H s v)(q:items s=some ts):∃ a xs,v=.ref a/\df K H a xs/\au K H ts xs:=by
 cases s with
 | t x=>
  cases x with
  | lst us=>
   have e1:us=ts:=Option.some.inj q;subst e1;unfold gO aB at h;obtain⟨a,xs,h1,h2,h3⟩:=h;exact⟨a,xs,h1,e.seq h2,au.same e h3⟩
  | _=>cases q
 | vt x=>
  cases x with
  | lst us=>
   have e1:us=ts:=Option.some.inj q;subst e1;unfold gO aB at h;exact h
  | _=>cases q
 | ol us=>
  have e1:us=ts:=Option.some.inj q;subst e1;unfold gO at h;obtain⟨a,xs,h1,h2,h3⟩:=h;exact⟨a,xs,h1,h2,au.same e h3⟩
def av (K:Frg)(w:WE):TE:=fun σ H Q=>∃ δ R F,Rel K F H σ δ/\w δ R/\∀ v F' H' s,dw F H F' H'->dG K H F' H' s v->R s->Q v H'
def liftT (K:Frg)(w:WT):TT:=fun σ H Q=>∃ δ R F,Rel K F H σ δ/\w δ R/\∀ F' H' b,dw F H F' H'->R b->Q b H'
def i9 (K:Frg)(H F' H':Hp):List S->List V->Prop
 | [],vs=>vs=[]
 | s::ss,vs=>∃ v r,vs=v::r/\dG K H F' H' s v/\i9 K H F' H' ss r
theorem i9.start (e:Same H0 H):∀ {ss:List S}{vs:List V},i9 K H F' H' ss vs->i9 K H0 F' H' ss vs
 | [],_,h=>h
 | _::_,_,⟨v,r,h1,h2,h3⟩=>⟨v,r,h1,h2.start e,i9.start e h3⟩
def dM (K:Frg)(w:WA):TA:=fun σ H Q=>∃ δ R F,Rel K F H σ δ/\w δ R/\∀ vs F' H' ss,dw F H F' H'->i9 K H F' H' ss vs->R ss->Q vs H'
def CG (K:Frg)(H₀ H':Hp):S->V->Prop
 | .t x,v=>aB K H' x v
 | .vt _,_=>False
 | .ol ts,v=>∃ a xs,v=.ref a/\H₀ a=none/\H' a=some (.lst xs)/\au K H' ts xs
structure tE (K:Frg) (H₀ F:Hp) (D':vJ) (D:Ends):Prop where
 nx:∀ σ' F' H' δ',Same F F'->Rel K F' H' σ' δ'->D'.nx δ'->D.nx σ' H'
 rt:∀ v H' s,Same H₀ H'->mr K H'->CG K H₀ H' s v->D'.rt s->D.rt v H'
 bk:∀ σ' F' H' δ',Same F F'->Rel K F' H' σ' δ'->D'.bk δ'->D.bk σ' H'
 ct:∀ σ' F' H' δ',Same F F'->Rel K F' H' σ' δ'->D'.ct δ'->D.ct σ' H'
theorem tE.mono (e:tE K H₀ F D' D)(s:Same F F1):tE K H₀ F1 D' D:=
 ⟨fun _ _ _ _ h=>e.nx _ _ _ _ (s.trans h),e.rt,fun _ _ _ _ h=>e.bk _ _ _ _ (s.trans h),fun _ _ _ _ h=>e.ct _ _ _ _ (s.trans h)⟩
def bK (K:Frg)(H₀:Hp)(w:WS):TS:=fun D σ H=>∃ δ D' F,Same H₀ F/\Rel K F H σ δ/\w D' δ/\tE K H₀ F D' D
end DL
namespace L2
open PySem
section
variable {X:Cx}{e:Expr}{t t':TE}
theorem PE.imp (h:PE X e t)(i:∀ σ H Q,t' σ H Q->t σ H Q):PE X e t':=fun pins s σ H Q I q=>h pins s σ H Q I (i σ H Q q)
theorem PT.imp {t t':TT}(h:PT X e t)(i:∀ σ H Q,t' σ H Q->t σ H Q):PT X e t':=fun pins s σ H Q I q=>h pins s σ H Q I (i σ H Q q)
theorem PW.imp {t t':TT}(h:PW X e t)(i:∀ σ H Q,t' σ H Q->t σ H Q):PW X e t':=fun wh pins s σ H Q I q=>h wh pins s σ H Q I (i σ H Q q)
theorem PA.imp {es:List Expr}{t t':TA}(h:PA X es t)(i:∀ σ H Q,t' σ H Q->t σ H Q):PA X es t':=fun pos pins s σ H Q I q=>h pos pins s σ H Q I (i σ H Q q)
theorem PS.imp {st:Stmt}{t t':TS}(h:PS X st t)(i:∀ D σ H,t' D σ H->t D σ H):PS X st t':=fun pins s σ H D I q=>h pins s σ H D I (i D σ H q)
theorem k8.imp {st:List Stmt}{t t':TS}(h:k8 X st t)(i:∀ D σ H,t' D σ H->t D σ H):k8 X st t':=fun pins s σ H D I q=>h pins s σ H D I (i D σ H q)
theorem PG.imp {tg:Expr}{t t':TG}(h:PG X tg t)(i:∀ v σ H Q,t' v σ H Q->t v σ H Q):PG X tg t':=fun pins s σ H v u Q I r q=>h pins s σ H v u Q I r (i v σ H Q q)
theorem CD.imp {tg:List Expr}{t t':Hs}(h:CD X tg t)(i:∀ v σ H Q,t' v σ H Q->t v σ H Q):CD X tg t':=fun pins s σ H v u Q I r q=>h pins s σ H v u Q I r (i v σ H Q q)
theorem PI.imp {tg iter:Expr}{t t':TI}(h:PI X tg iter t)(i:∀ σ H Q,t' σ H Q->t σ H Q):PI X tg iter t':=fun pins s σ H R I q=>h pins s σ H R I (i σ H R q)
end
end L2
namespace DL
open PySem L2
def wC (x:T):WE:=fun _ R=>R (.t x)
def seen:S->S
 | .ol ts=>.vt (.lst ts)
 | .t x=>.t x
 | .vt x=>.vt x
def ae (i:Nat):WE:=fun δ R=>match δ[i]? with
 | some (some s)=>R (seen s)
 | _=>False
section
variable {X:Cx}{a b c:Expr}{wa wb wc:WE}{pos:Pos}
theorem ab {i j pos}:PE X (.Constant (.int i) j pos) (av X.K (wC (.int i))):=NC.imp fun _ _ _ ⟨_,_,_,r,h,k⟩=>k _ _ _ (.t (.int i)) r.refl rfl h
theorem KL {i j pos}:PE X (.Constant (.bool i) j pos) (av X.K (wC (.bl i))):=Qq.imp fun _ _ _ ⟨_,_,_,r,h,k⟩=>k _ _ _ (.t (.bl i)) r.refl rfl h
theorem tY {j pos}:PE X (.Constant .none j pos) (av X.K (wC .non)):=NE.imp fun _ _ _ ⟨_,_,_,r,h,k⟩=>k _ _ _ (.t .non) r.refl rfl h
theorem x9 {i j pos}:PE X (.Constant (.str i) j pos) (av X.K (wC (.str i))):=NF.imp fun _ _ _ ⟨_,_,_,r,h,k⟩=>k _ _ _ (.t (.str i)) r.refl rfl h
theorem Kl (e:Same F H):∀ {s:S}{v:V},fC K F H s v->dG K H F H (seen s) v
 | .t _,_,h=>h
 | .vt _,_,h=>False.elim h
 | .ol _,_,⟨a,xs,h1,_,h3,h4⟩=>⟨a,xs,h1,df.of h3,au.same e h4⟩
theorem Bt (h:PE X e (xr i)):PE X e (av X.K (ae i)):=h.imp fun σ H Q ⟨δ,R,F,r,h,k⟩=>by
 unfold ae at h
 split at h
 ·rename_i s hs;obtain⟨v,h1,h2⟩:=r.slot i s hs;exact⟨v,h1,k _ _ _ _ r.refl (Kl r.sub h2) h⟩
 ·exact h.elim
theorem dv (i:Nat) (hN:X.N[i]?=some x:=by rfl) (hv:Q6 X.env.scope x:=by first | exact Or.inl rfl | exact Or.inr (Or.inl rfl) | exact Or.inr (Or.inr rfl)) (hd:(x == ("__debug__":Str))=false:=by decide)
  (hcd:(x == ("__classdict__":Str))=false:=by decide):PE X (.Name x pos) (av X.K (ae i)):=Bt (Gu hN hv hd hcd)
def ao (f:S->S->(S->Prop)->Prop)(wa wb:WE):WE:=fun δ R=>wa δ fun x=>wb δ fun y=>f x y R
def Ho (K:Frg)(r:R2)(f:S->S->(S->Prop)->Prop):Prop:=
 ∀ F H s1 s2 v1 v2 R Q,Same F H->gN F H->gO K F H s1 v1->gO K F H s2 v2->f s1 s2 R->(∀ v F' H' s,dw F H F' H'->dG K H F' H' s v->R s->Q v H')->r v1 v2 H Q
theorem cN (ho:Ho K r f):∀ σ H Q,av K (ao f wa wb) σ H Q->Oc r (av K wa) (av K wb) σ H Q:=by
 rintro σ H Q ⟨δ,R,F,rl,h,k⟩;refine⟨δ,_,F,rl,h,fun v1 F1 H1 s1 e1 p1 h1=>?_⟩;refine⟨δ,_,F1,rl.ext e1,h1,fun v2 F2 H2 s2 e2 p2 h2=>?_⟩;refine ho F2 H2 s1 s2 v1 v2 R Q e2.sub e2.full ((p1.ext e2).val e2.sub) (p2.val e2.sub) h2 fun v F' H' s e p q=>?_;exact k v F' H' s ((e1.trans e2).trans e) (p.start (e1.trans e2).hh) q
def fI (C:Int->Int->Prop)(g:Int->Int->T):S->S->(S->Prop)->Prop
 | .t (.int i),.t (.int j),R=>C i j/\R (.t (g i j))
 | _,_,_=>False
def IE (g:Int->Int->T):S->S->(S->Prop)->Prop
 | .t (.int i),.t (.int j),R=>R (.t (g i j))
 | _,_,_=>False
theorem IF:∀ {s1 s2:S}{R:S->Prop},fI C g s1 s2 R->∃ i j,s1=.t (.int i)/\s2=.t (.int j)/\C i j/\R (.t (g i j))
 | .t (.int i),.t (.int j),_,h=>⟨i,j,rfl,rfl,h.1,h.2⟩
theorem Ek:∀ {s1 s2:S}{R:S->Prop},IE g s1 s2 R->∃ i j,s1=.t (.int i)/\s2=.t (.int j)/\R (.t (g i j))
 | .t (.int i),.t (.int j),_,h=>⟨i,j,rfl,rfl,h⟩
def toV:T->V
 | .bl b=>.bl b
 | .int i=>.int i
 | .str x=>.str x
 | _=>.non
def flat:T->Bool
 | .tup _=>false
 | .lst _=>false
 | .exc _=>false
 | _=>true
theorem wj:∀ {x:T},flat x=true->aB K F x (toV x)
 | .non,_=>rfl
 | .bl _,_=>rfl
 | .int _,_=>rfl
 | .str _,_=>rfl
theorem As (hg:∀ i j,flat (g i j)=true):Ho K (rI C fun i j=>toV (g i j)) (fI C g):=by
 intro F H s1 s2 v1 v2 R Q sb fu p1 p2 h k;obtain⟨i,j,rfl,rfl,hc,hr⟩:=IF h;exact⟨i,j,p1,p2,hc,k _ F H (.t (g i j)) (dw.refl sb fu) (wj (hg i j)) hr⟩
theorem kH (hg:∀ i j,flat (g i j)=true):Ho K (Kf fun i j=>toV (g i j)) (IE g):=by
 intro F H s1 s2 v1 v2 R Q sb fu p1 p2 h k;obtain⟨i,j,rfl,rfl,hr⟩:=Ek h;exact⟨i,j,p1,p2,k _ F H (.t (g i j)) (dw.refl sb fu) (wj (hg i j)) hr⟩
abbrev cE:=ao (IE fun i j=>.int (i+j))
abbrev cS:=ao (IE fun i j=>.int (i-j))
structure MulOk (i j:Int):Prop where
 ok:IntMulOk i j
structure CF (i j:Int):Prop where
 ok:OO i j
abbrev aU:=ao (fI MulOk fun i j=>.int (i*j))
structure oT (i j:Int):Prop where
 ne:j≠0
 short:Builtin.divisionGoesByPylong i j=false
abbrev dR:=ao (fI oT fun i j=>.int (i.fdiv j))
abbrev dr:=ao (fI (fun _ j=>j≠0) fun i j=>.int (i.fmod j))
abbrev xA:=ao (fI CF fun i j=>.int (i ^ j.toNat))
theorem JI:mm X (binaryOp .Mult) (rI MulOk fun i j=>.int (i*j)):=Q9 fun _ _ _ _ _ _ _ hc q=>PyProof.Rows.mul_int q hc.ok
theorem Gp:mm X (binaryOp .FloorDiv) (rI oT fun i j=>.int (i.fdiv j)):=Q9 fun _ _ _ _ _ _ _ hc q=>PyProof.Rows.floordiv_int hc.ne q (.inl hc.short)
theorem aW (ha:PE X a (av X.K wa))(hb:PE X b (av X.K wb)):PE X (.BinOp a .Add b pos) (av X.K (cE wa wb)):=(qa Nr ha hb).imp (cN (kH fun _ _=>rfl))
theorem a9 (ha:PE X a (av X.K wa))(hb:PE X b (av X.K wb)):PE X (.BinOp a .Sub b pos) (av X.K (cS wa wb)):=(qa Nw ha hb).imp (cN (kH fun _ _=>rfl))
theorem ax (ha:PE X a (av X.K wa))(hb:PE X b (av X.K wb)):PE X (.BinOp a .Mult b pos) (av X.K (aU wa wb)):=(qa JI ha hb).imp (cN (As fun _ _=>rfl))
theorem bQ (ha:PE X a (av X.K wa))(hb:PE X b (av X.K wb)):PE X (.BinOp a .FloorDiv b pos) (av X.K (dR wa wb)):=(qa Gp ha hb).imp (cN (As fun _ _=>rfl))
theorem bh (ha:PE X a (av X.K wa))(hb:PE X b (av X.K wb)):PE X (.BinOp a .Mod b pos) (av X.K (dr wa wb)):=(qa JG ha hb).imp (cN (As fun _ _=>rfl))
theorem kD (ha:PE X a (av X.K wa))(hb:PE X b (av X.K wb)):PE X (.BinOp a .Pow b pos) (av X.K (xA wa wb)):=(qa (show mm X (binaryOp .Pow) (rI CF fun i j=>.int (i ^ j.toNat)) from fun pins s σ H x y v u Q I rx ry ⟨i,j,e1,e2,hc,q⟩=>Nv pins s σ H x y v u Q I rx ry ⟨i,j,e1,e2,hc.ok,q⟩) ha hb).imp (cN (As fun _ _=>rfl))
abbrev Hc:=ao (IE fun i j=>.bl (decide (i<j)))
abbrev Sq:=ao (IE fun i j=>.bl (decide (i<=j)))
abbrev Ha:=ao (IE fun i j=>.bl (decide (j<i)))
abbrev QV:=ao (IE fun i j=>.bl (decide (j<=i)))
theorem PF (ha:PE X a (av X.K wa))(hb:PE X b (av X.K wb)):PE X (.Compare a [.Lt] [b] pos) (av X.K (Hc wa wb)):=(Aw K4 ha hb (gD _)).imp (cN (kH fun _ _=>rfl))
def wB (w:WE):WT:=fun δ R=>w δ fun s=>match s with
 | .t (.bl k)=>R k
 | _=>False
theorem kF {op:CmpOp}{r:R2}{f:S->S->(S->Prop)->Prop}(ho:mm X (compareOp op) r)(hf:Ho X.K r f)(ha:PE X a (av X.K wa))(hb:PE X b (av X.K wb))(hm:behindInMarks op b=false):PT X (.Compare a [op] [b] pos) (liftT X.K (wB (ao f wa wb))):=
 (u4 ho ha hb hm).imp fun σ H Q h=>by
  obtain⟨δ,R,F,rl,h,k⟩:=h;refine cN hf σ H _ ⟨δ,_,F,rl,h,fun v F1 H1 s e p q=>?_⟩
  split at q
  ·exact⟨_,p,k F1 H1 _ e q⟩
  ·exact q.elim
theorem nJ (ha:PE X a (av X.K wa))(hb:PE X b (av X.K wb)):PT X (.Compare a [.Lt] [b] pos) (liftT X.K (wB (Hc wa wb))):=kF K4 (kH fun _ _=>rfl) ha hb (gD _)
theorem PH (ha:PE X a (av X.K wa))(hb:PE X b (av X.K wb)):PT X (.Compare a [.LtE] [b] pos) (liftT X.K (wB (Sq wa wb))):=kF Qm (kH fun _ _=>rfl) ha hb (gD _)
theorem kl (ha:PE X a (av X.K wa))(hb:PE X b (av X.K wb)):PT X (.Compare a [.Gt] [b] pos) (liftT X.K (wB (Ha wa wb))):=kF Ql (kH fun _ _=>rfl) ha hb (gD _)
theorem zV (ha:PE X a (av X.K wa))(hb:PE X b (av X.K wb)):PT X (.Compare a [.GtE] [b] pos) (liftT X.K (wB (QV wa wb))):=kF Qk (kH fun _ _=>rfl) ha hb (gD _)
theorem t5 {e:Expr}{w:WE}(h:PE X e (av X.K w))(he:∀ whole,isTrue e X.env whole=(do let v ← whole;standAt e.pos;holding [v] (truthy v)):=by intro _;rfl):PT X e (liftT X.K (wB w)):=
 (NQ h he).imp fun σ H Q h=>by
  obtain⟨δ,R,F,rl,h,k⟩:=h;refine⟨δ,_,F,rl,h,fun v F1 H1 s e p q=>?_⟩
  split at q
  ·exact⟨_,p,k F1 H1 _ e q⟩
  ·exact q.elim
def kz (t u:WT):WT:=fun δ R=>t δ fun k=>if k=true then u δ R else R false
def Ky (t u:WT):WT:=fun δ R=>t δ fun k=>if k=true then R true else u δ R
def QW (t:WT):WT:=fun δ R=>t δ fun k=>R (!k)
theorem im (ha:PT X a (liftT X.K t)):PW X (.BoolOp .And [a] pos) (liftT X.K t):=Kb ha
theorem Dq (ha:PT X a (liftT X.K t)):PW X (.BoolOp .Or [a] pos) (liftT X.K t):=NT ha
theorem jc {rest:List Expr}{t u:WT}(ha:PT X a (liftT X.K t))(hb:PW X (.BoolOp .And (b::rest) pos) (liftT X.K u)):PW X (.BoolOp .And (a::b::rest) pos) (liftT X.K (kz t u)):=
 (NS ha hb).imp fun σ H Q ⟨δ,R,F,rl,h,k⟩=>⟨δ,_,F,rl,h,fun F1 H1 c e q=>by
  cases c with
  | true=>exact⟨δ,R,F1,rl.ext e,by simpa using q,fun F2 H2 c e2 q=>k F2 H2 c (e.trans e2) q⟩
  | false=>exact k F1 H1 false e (by simpa using q)⟩
theorem KN {rest:List Expr}{t u:WT}(ha:PT X a (liftT X.K t))(hb:PW X (.BoolOp .Or (b::rest) pos) (liftT X.K u)):PW X (.BoolOp .Or (a::b::rest) pos) (liftT X.K (Ky t u)):=
 (Qw ha hb).imp fun σ H Q ⟨δ,R,F,rl,h,k⟩=>⟨δ,_,F,rl,h,fun F1 H1 c e q=>by
  cases c with
  | false=>exact⟨δ,R,F1,rl.ext e,by simpa using q,fun F2 H2 c e2 q=>k F2 H2 c (e.trans e2) q⟩
  | true=>exact k F1 H1 true e (by simpa using q)⟩
def Ou (t:WT):WT:=fun δ R=>∃ P:Bool->Prop,t δ P/\∀ k,P k->R k
theorem Bv {t:WT}(ha:PT X a (liftT X.K t)):PT X a (liftT X.K (Ou t)):=ha.imp fun σ H Q ⟨δ,R,F,rl,⟨P,h,k1⟩,k⟩=>⟨δ,P,F,rl,h,fun F1 H1 c e q=>k F1 H1 c e (k1 c q)⟩
def QT (wa wb:WE):WE:=fun δ R=>wa δ fun s=>match s with
 | .t (.bl k)=>if k=true then wb δ R else R (.t (.bl false))
 | _=>False
def Sh (wa wb:WE):WE:=fun δ R=>wa δ fun s=>match s with
 | .t (.bl k)=>if k=true then R (.t (.bl true)) else wb δ R
 | _=>False
def QX (wa:WE):WE:=fun δ R=>wa δ fun s=>match s with
 | .t (.bl k)=>R (.t (.bl (!k)))
 | _=>False
def Sg (c:WT)(wa wb:WE):WE:=fun δ R=>c δ fun k=>if k=true then wa δ R else wb δ R
def xF (f:S->(S->Prop)->Prop)(wa:WE):WE:=fun δ R=>wa δ fun x=>f x R
def jd:S->(S->Prop)->Prop
 | .t (.int i),R=>R (.t (.int (-i)))
 | _,_=>False
theorem dJ (ha:PE X a (av X.K wa)):PE X (.UnaryOp .USub a pos) (av X.K (xF jd wa)):=
 (Qs On ha).imp fun σ H Q ⟨δ,R,F,rl,h,k⟩=>⟨δ,_,F,rl,h,fun v F1 H1 s e p q=>by
  unfold jd at q
  split at q
  ·exact⟨_,p,k _ F1 H1 (.t (.int _)) e rfl q⟩
  ·exact q.elim⟩
def atT (ts:List T)(i:Int)(R:S->Prop):Prop:=match atI ts i with
 | some x=>R (.t x)
 | none=>False
def xE (ts:List T)(i:Int)(R:S->Prop):Prop:=match atI ts i with
 | some x=>R (norm x)
 | none=>False
def aJ:S->S->(S->Prop)->Prop
 | .t (.tup ts),.t (.int i),R=>atT ts i R
 | .t (.lst ts),.t (.int i),R=>atT ts i R
 | .vt (.tup ts),.t (.int i),R=>xE ts i R
 | .vt (.lst ts),.t (.int i),R=>xE ts i R
 | .ol ts,.t (.int i),R=>atT ts i R
 | _,_,_=>False
theorem au.atI (h:au K H ts xs)(e:atI ts i=some t):∃ x,atI xs i=some x/\aB K H t x:=by
 unfold L2.atI at e ⊢;rw[h.length]
 cases q:uJ ts.length i with
 | none=>rw[q]at e;cases e
 | some j=>
  rw[q]at e;obtain⟨x,h1,h2⟩:=h.get (i:=j) (by simpa using e)
  exact⟨x,by simpa using h1,h2⟩
theorem mD (h:atT ts i R):∃ x,atI ts i=some x/\R (.t x):=by
 unfold atT at h
 cases e:atI ts i with
 | none=>simp only[e]at h
 | some x=>simp only[e]at h;exact⟨x,rfl,h⟩
theorem rJ (h:xE ts i R):∃ x,atI ts i=some x/\R (norm x):=by
 unfold xE at h
 cases e:atI ts i with
 | none=>simp only[e]at h
 | some x=>simp only[e]at h;exact⟨x,rfl,h⟩
theorem Np:Ho K (fun x y H Q=>Qy K x y H Q\/Qz K x y H Q) aJ:=by
 intro F H s1 s2 v1 v2 R Q sb fu p1 p2 h k;unfold aJ at h
 split at h
 ·obtain⟨x,hx,hr⟩:=mD h;obtain⟨a,xs,e1,h1,h2⟩:=p1;obtain⟨y,h3,h4⟩:=h2.atI hx;exact .inr ⟨a,xs,_,y,e1,p2,Same.sqT sb a xs h1,h3,k _ F H (.t x) (dw.refl sb fu) h4 hr⟩
 ·obtain⟨x,hx,hr⟩:=mD h;obtain⟨a,xs,e1,h1,h2⟩:=p1;obtain⟨y,h3,h4⟩:=h2.atI hx;exact .inl ⟨a,xs,_,y,e1,p2,sb.seq h1,h3,k _ F H (.t x) (dw.refl sb fu) h4 hr⟩
 ·obtain⟨x,hx,hr⟩:=rJ h;obtain⟨a,xs,e1,h1,h2⟩:=p1;obtain⟨y,h3,h4⟩:=h2.atI hx;exact .inr ⟨a,xs,_,y,e1,p2,h1,h3,k _ F H _ (dw.refl sb fu) (dG.norm fu h4) hr⟩
 ·obtain⟨x,hx,hr⟩:=rJ h;obtain⟨a,xs,e1,h1,h2⟩:=p1;obtain⟨y,h3,h4⟩:=h2.atI hx;exact .inl ⟨a,xs,_,y,e1,p2,h1,h3,k _ F H _ (dw.refl sb fu) (dG.norm fu h4) hr⟩
 ·obtain⟨x,hx,hr⟩:=mD h;obtain⟨a,xs,e1,h1,h2⟩:=p1;obtain⟨y,h3,h4⟩:=h2.atI hx;exact .inl ⟨a,xs,_,y,e1,p2,h1,h3,k _ F H (.t x) (dw.refl sb fu) h4 hr⟩
 ·exact h.elim
theorem aj (ha:PE X a (av X.K wa))(hb:PE X b (av X.K wb))(hs:zA b:=by exact fun _ _=>rfl):PE X (.Subscript a b pos) (av X.K (ao aJ wa wb)):=
 (Qr (IR.or MQ) ha hb hs).imp (cN Np)
end
def Az:Expr->Bool
 | .Starred ..=>false
 | _=>true
theorem aP (h:Az e=true):starEach (e::es) env=(false,eval e env)::starEach es env:=by
 cases e <;> first|rfl|cases h
theorem dP:∀ {es:List Expr},es.all Az=true->(backTo pos (starEach es env)).any (·.1)=false
 | [],_=>rfl
 | e::es,h=>by
  simp only[List.all_cons,Bool.and_eq_true]at h;rw[aP h.1];show(false || (backTo pos (starEach es env)).any (·.1))=false
  rw[dP h.2];rfl
end DL
namespace DL
open PySem L2
theorem l6 (hp:H p=none):Same H (cM H p o):=GQ hp
theorem GR (sb:Same F H):Same (cM F p o) (cM H p o):=by
 refine⟨fun b u q n=>?_,fun b ps q=>?_⟩
 ·by_cases e:b=p
  ·subst e;rw[aX]at q ⊢;exact q
  ·rw[aY e]at q ⊢;exact sb.all _ _ q n
 ·by_cases e:b=p
  ·subst e;rw[aX]at q;exact⟨ps,by rw[aX];exact q⟩
  ·rw[aY e]at q ⊢;exact sb.tbl _ _ q
theorem dw.new (o:HO)(sb:Same F H)(fu:gN F H)(hp:H p=none)(n:K3 o=true:=by rfl):dw F H (cM F p o) (cM H p o):=by
 have fp:F p=none:=aI sb hp;refine⟨l6 hp,l6 fp,GR sb,fun b u q n=>?_,fun b h1 h2=>?_,fun t=>vx t hp n⟩
 ·by_cases e:b=p
  ·subst e;rw[aX]at q;exact .inl (by rw[aX];exact q)
  ·rw[aY e]at q;rw[aY e];exact fu _ _ q n
 ·have:b≠p:=fun e=>h1 (by rw[e];exact hp)
  rw[aY this];exact h2
theorem dw.newL (xs:List V)(sb:Same F H)(fu:gN F H)(hp:H p=none):dw F H F (cM H p (.lst xs)):=by
 refine⟨l6 hp,Same.refl _,sb.trans (l6 hp),fun b u q n=>?_,fun b _ h2=>h2,fun t=>vx t hp rfl⟩
 by_cases e:b=p
 ·subst e;rw[aX]at q;cases q;exact .inr ⟨xs,rfl⟩
 ·rw[aY e]at q;exact fu _ _ q n
def ap:WA:=fun _ R=>R []
def ac (wa:WE)(wr:WA):WA:=fun δ R=>wa δ fun x=>wr δ fun xs=>R (x::xs)
def grow (F H H':Hp)(x:Option Addr):Hp:=fun b=>if (H b).isNone=true then (if x=some b then none else H' b) else F b
theorem some_of (sb:Same F H)(h:F b=some o):¬ (H b).isNone=true:=fun z=>by
 rw[aI sb (Option.isNone_iff_eq_none.mp z)]at h;cases h
theorem IK (sb:Same F H)(h:F b=some o):grow F H H' x b=some o:=by
 unfold grow;rw[if_neg (some_of sb h)];exact h
theorem wy (s:Same F H'):Same (grow F H H' x) H':=by
 refine⟨fun b o q n=>?_,fun b ps q=>?_⟩
 ·unfold grow at q
  split at q
  ·split at q
   ·cases q
   ·exact q
  ·exact s.all _ _ q n
 ·unfold grow at q
  split at q
  ·split at q
   ·cases q
   ·exact⟨ps,q⟩
  ·exact s.tbl _ _ q
theorem lC (sb:Same F H)(fu:gN F H)(s:Same H H')(hx:∀ a,x=some a->∃ xs,H' a=some (.lst xs))(tb:Tab H->Tab H'):dw F H (grow F H H' x) H':=by
 refine⟨s,.of fun b o q=>IK sb q,wy (sb.trans s),fun b o q n=>?_,fun b h1 h2=>?_,tb⟩
 ·unfold grow
  cases e:H b with
  | none=>
   rw[if_pos (show(none:Option HO).isNone=true from rfl)]
   by_cases z:x=some b
   ·obtain⟨xs,q'⟩:=hx b z;rw[q]at q';cases q'
    exact .inr ⟨xs,rfl⟩
   ·rw[if_neg z];exact .inl q
  | some o'=>
   rw[if_neg (by simp)]
   cases m:K3 o' with
   | true=>
    have:=s.all _ _ e m;rw[q]at this;cases this
    exact fu _ _ e n
   | false=>
    cases o' <;> first|(cases m)|skip
    obtain⟨ps',z⟩:=s.tbl _ _ e;rw[q]at z;cases z;cases n
 ·unfold grow;rw[if_neg (fun z=>h1 (Option.isNone_iff_eq_none.mp z))];exact h2
theorem dw.frozen (sb:Same F H)(e:dw F H F1 H1):dw F H (grow F1 H H1 none) H1/\Same F1 (grow F1 H H1 none):=by
 refine⟨⟨e.hh,⟨fun b o q m=>?_,fun b ps q=>?_⟩,wy e.sub,fun b o q n=>?_,fun b h1 h2=>?_,e.tb⟩,⟨fun b o q n=>?_,fun b ps q=>?_⟩⟩
 ·unfold grow;rw[if_neg (some_of sb q)];exact e.ff.all _ _ q m
 ·unfold grow;rw[if_neg (some_of sb q)];exact e.ff.tbl _ _ q
 ·unfold grow
  cases z:H b with
  | none=>exact .inl (by rw[if_pos (show(none:Option HO).isNone=true from rfl),if_neg (by simp)];exact q)
  | some o'=>rw[if_neg (by simp)];exact e.full _ _ q n
 ·unfold grow;rw[if_neg (fun z=>h1 (Option.isNone_iff_eq_none.mp z))];exact e.keep b h1 h2
 ·unfold grow
  split
  ·rw[if_neg (by simp)];exact e.sub.all _ _ q n
  ·exact q
 ·unfold grow
  split
  ·rw[if_neg (by simp)];exact e.sub.tbl _ _ q
  ·exact⟨ps,q⟩
def lZ:List S->Option (List T)
 | []=>some []
 | .t x::r=>match lZ r with
  | some ts=>some (x::ts)
  | none=>none
 | .ol us::r=>match lZ r with
  | some ts=>some (.lst us::ts)
  | none=>none
 | .vt _::_=>none
def bZ (wa:WA):WE:=fun δ R=>wa δ fun ss=>match lZ ss with
 | some ts=>if ts.length<=1000 then R (.t (.tup ts)) else False
 | none=>False
def jx (wa:WA):WE:=fun δ R=>wa δ fun ss=>match lZ ss with
 | some ts=>if ts.length<=1000 then R (.ol ts) else False
 | none=>False
theorem jO (sm:Same F' (grow F' H H' none)):∀ {ss:List S}{vs:List V}{ts:List T},i9 K H F' H' ss vs->lZ ss=some ts->au K (grow F' H H' none) ts vs
 | [],_,_,h,e=>by cases e;exact h
 | .t x::r,_,ts,⟨v,vr,e1,h1,h2⟩,e=>by
  subst e1;unfold lZ at e
  split at e
  ·rename_i us hu
   cases e
   exact⟨v,vr,rfl,aB.same sm h1,jO sm h2 hu⟩
  ·cases e
 | .vt _::_,_,_,_,e=>by cases e
 | .ol zs::r,_,_,⟨v,vr,e1,h1,h2⟩,e=>by
  subst e1;unfold lZ at e
  split at e
  ·rename_i us hu
   cases e
   refine⟨v,vr,rfl,?_,jO sm h2 hu⟩;unfold dG at h1;obtain⟨a,xs,q1,q2,q3,q4,q5⟩:=h1;unfold aB;refine⟨a,xs,q1,df.of ?_,au.same sm q5⟩;unfold grow;rw[if_pos (by rw[q2];rfl),if_neg (by simp)]
   exact q4
  ·cases e
theorem Ak (h:n<=1000):n<=sizeLine:=Nat.le_of_lt (Cp h)
def eP (f:List S->(S->Prop)->Prop)(wa:WA):WE:=fun δ R=>wa δ fun ss=>f ss R
def nD (K:Frg)(F H:Hp):List S->List V->Prop
 | [],vs=>vs=[]
 | s::ss,vs=>∃ v r,vs=v::r/\gO K F H s v/\nD K F H ss r
theorem i9.val (e:Same F H):∀ {ss:List S}{vs:List V},i9 K H0 F H ss vs->nD K F H ss vs
 | [],_,h=>h
 | _::_,_,⟨v,r,h1,h2,h3⟩=>⟨v,r,h1,h2.val e,i9.val e h3⟩
def hX (K:Frg)(r:List V->Hp->VK->Prop)(f:List S->(S->Prop)->Prop):Prop:=
 ∀ F H ss vs R Q,Same F H->gN F H->nD K F H ss vs->f ss R->(∀ v F' H' s,dw F H F' H'->dG K H F' H' s v->R s->Q v H')->r vs H Q
theorem Jd (ho:hX K r f):∀ σ H Q,av K (eP f wa) σ H Q->So r (dM K wa) σ H Q:=by
 rintro σ H Q ⟨δ,R,F,rl,h,k⟩;refine⟨δ,_,F,rl,h,fun vs F1 H1 ss e p q=>?_⟩;exact ho F1 H1 ss vs R Q e.sub e.full (p.val e.sub) q fun v F' H' s e2 p2 q2=>k v F' H' s (e.trans e2) (p2.start e.hh) q2
abbrev aM:=List S->(S->Prop)->Prop
def nE:S->S
 | .vt x=>.t x
 | .ol ts=>.t (.lst ts)
 | .t x=>.t x
def got:S->S
 | .t x=>norm x
 | .vt x=>.vt x
 | .ol ts=>if cL ts=true then .ol ts else .vt (.lst ts)
def CQ:S->Prop
 | .t _=>True
 | _=>False
def vy (K:Frg)(sp:aM):Sp:=fun vs H Q _=>∃ ss R,mr K H/\(∀ s∈ss,CQ s)/\nD K H H ss vs/\sp ss R/\∀ v H' s,Same H H'->mr K H'->CG K H H' s v->R s->Q v H'
def aw (sp:aM)(wa:WA):WE:=fun δ R=>wa δ fun ss=>sp (ss.map nE) fun s=>R (got s)
theorem zE (sb:Same F H):∀ {ss:List S}{vs:List V},i9 K H0 F H ss vs->(∀ s∈ss.map nE,CQ s)/\nD K H H (ss.map nE) vs
 | [],_,h=>⟨fun s hs=>by simp at hs,h⟩
 | s::ss,_,⟨v,r,h1,h2,h3⟩=>by
  obtain⟨a1,a2⟩:=zE sb h3;refine⟨fun u hu=>?_,v,r,h1,?_,a2⟩
  ·rw[map_cons]at hu
   rcases mem_cons.mp hu with e|e
   ·subst e
    cases s <;> exact True.intro
   ·exact a1 u e
  ·cases s with
   | t x=>exact aB.same sb h2
   | vt x=>exact h2
   | ol ts=>
    unfold dG at h2;obtain⟨a,xs,q1,_,_,q2,q3⟩:=h2;show aB K H (.lst ts) v;unfold aB;exact⟨a,xs,q1,df.of q2,au.same sb q3⟩
theorem BJ:∀ σ H Q,av K (aw sp wa) σ H Q->La (vy K sp) [] E (dM K wa) σ H Q:=by
 rintro σ H Q ⟨δ,R,F,rl,h,k⟩;refine⟨δ,_,F,rl,h,fun vs F1 H1 ss e p q=>?_⟩;show vy K sp (vs++[]) H1 Q E;rw[append_nil];obtain⟨a1,a2⟩:=zE e.sub p;refine⟨_,_,(rl.ext e).tab,a1,a2,q,fun v H' s sm tk rc hr=>?_⟩
 cases s with
 | t x=>
  have ex:=lC (x:=none) e.sub e.full sm (fun _ z=>by cases z) (fun _=>tk.1)
  exact k v _ H' (norm x) (e.trans ex) (dG.norm ex.full rc) hr
 | vt x=>exact False.elim rc
 | ol ts=>
  unfold CG at rc;obtain⟨a,xs,q1,q2,q3,q4⟩:=rc;have ex:=lC (x:=some a) e.sub e.full sm (fun b z=>by cases z;exact⟨xs,q3⟩) (fun _=>tk.1)
  have hr':R (if cL ts=true then .ol ts else .vt (.lst ts)):=hr
  split at hr'
  ·rename_i hp;refine k v _ H' (.ol ts) (e.trans ex) ⟨a,xs,q1,aI e.hh q2,?_,q3,au.full ex.full hp q4⟩ hr';unfold grow;rw[if_pos (by rw[q2];rfl),if_pos rfl]
  ·refine k v _ H' (.vt (.lst ts)) (e.trans ex) ?_ hr';unfold dG aB;exact⟨a,xs,q1,df.of q3,q4⟩
section
variable {X:Cx}{e:Expr}{es:List Expr}{we:WE}{wr wa:WA}{pos:Pos}
theorem ag:PA X [] (dM X.K ap):=uX.imp fun σ H Q ⟨δ,R,F,rl,h,k⟩=>k [] F H [] rl.refl rfl h
theorem aa (ha:PE X e (av X.K we))(hr:PA X es (dM X.K wr))(hs:starEach (e::es) X.env=(false,eval e X.env)::starEach es X.env:=by exact aP rfl):PA X (e::es) (dM X.K (ac we wr)):=
 (oB ha hr hs).imp fun σ H Q ⟨δ,R,F,rl,h,k⟩=>⟨δ,_,F,rl,h,fun v F1 H1 s e p q=>⟨δ,_,F1,rl.ext e,q,fun vs F2 H2 ss e2 ps q2=>k (v::vs) F2 H2 (s::ss) (e.trans e2) ⟨v,vs,rfl,p.ext e2,ps.start e.hh⟩ q2⟩⟩
theorem aQ {x1}(h:PA X es (dM X.K wa)):PE X (.Tuple es x1 pos) (av X.K (bZ wa)):=
 (NG h).imp fun σ H Q ⟨δ,R,F,rl,h,k⟩=>⟨δ,_,F,rl,h,fun vs F1 H1 ss e p q=>by
  split at q
  ·rename_i ts ht;obtain⟨ez,sz⟩:=e.frozen rl.sub;have r:=jO sz p ht
   split at q
   ·rename_i hl;refine⟨by rw[r.length];exact Ak hl,fun a ha=>?_⟩
    have ex:=dw.new (.tup vs) ez.sub ez.full ha;refine k _ _ _ (.t (.tup ts)) (ez.trans ex) ?_ q;unfold dG aB;exact⟨a,vs,rfl,j6.of aX,au.same ex.ff r⟩
   ·exact q.elim
  ·exact q.elim⟩
theorem dz (h:PA X es (dM X.K wa)):PE X (.List es pos) (av X.K (jx wa)):=
 (ND h).imp fun σ H Q ⟨δ,R,F,rl,h,k⟩=>⟨δ,_,F,rl,h,fun vs F1 H1 ss e p q=>by
  split at q
  ·rename_i ts ht;obtain⟨ez,sz⟩:=e.frozen rl.sub;have r:=jO sz p ht
   split at q
   ·rename_i hl;refine⟨by rw[r.length];exact Ak hl,fun a ha=>?_⟩
    have ex:=dw.newL vs ez.sub ez.full ha;exact k _ _ _ (.ol ts) (ez.trans ex) ⟨a,vs,rfl,aI e.hh ha,aI ez.sub ha,aX,r⟩ q
   ·exact q.elim
  ·exact q.elim⟩
structure Callee (P:Program) (w:World) (K:Frg) (mg:Str->Option Value) (base:Heap) (k:Nat) (x:Str) (sp:aM):Prop where
 ex:∃ (f:Addr) (fd:FuncData) (ps:List Str),mg x=some (.ref f)/\i8 P w K mg base zx k f fd ps (vy K sp)/\Binds K fd ps []/\PySem.W.keepIn K (.ref f)=true
theorem zP (C:Callee X.prog X.w X.K X.mg X.base k x sp) (hr:cb k X.A) (hg:Gl X x) (ha:PA X (e::es) (dM X.K wa)) (hdb:(x == ("__debug__":Str))=false:=by decide)
  (he:starEach (e::es) X.env=(false,eval e X.env)::starEach es X.env:=by exact aP rfl) (hpl:(backTo pos (starEach es X.env)).any (·.1)=false:=by exact dP rfl):PE X (.Call (.Name x p) (e::es) [] pos) (av X.K (aw sp wa)):=by
 obtain⟨f,fd,ps,hm,F,hb,hk⟩:=C.ex;exact(JL F hr hg hm hk hb .nil (E:=E0) Qp ha hdb he hpl).imp BJ
theorem fF {x:Str}{p:Pos}{id:String}{r:List V->Hp->VK->Prop}{f:List S->(S->Prop)->Prop} (hc:gM X (.builtin id) r) (hf:hX X.K r f) (hm:X.mg x=none) (hv:bootBuiltins x=some (.builtin id)) (ha:PA X (e::es) (dM X.K wa)) (hg:Gl X x:=by rfl) (hn:x≠"__name__":=by decide) (hdb:(x == ("__debug__":Str))=false:=by decide)
  (he:starEach (e::es) X.env=(false,eval e X.env)::starEach es X.env:=by exact aP rfl) (hpl:(backTo pos (starEach es X.env)).any (·.1)=false:=by exact dP rfl):PE X (.Call (.Name x p) (e::es) [] pos) (av X.K (eP f wa)):=
 (Gq hc hg hm hv ha hn hdb he hpl).imp (Jd hf)
end
def dj:List S->(S->Prop)->Prop
 | [.t (.tup ts)],R=>R (.t (.int ts.length))
 | [.t (.lst ts)],R=>R (.t (.int ts.length))
 | [.vt (.tup ts)],R=>R (.t (.int ts.length))
 | [.vt (.lst ts)],R=>R (.t (.int ts.length))
 | [.ol ts],R=>R (.t (.int ts.length))
 | _,_=>False
theorem Nm:hX K (fun xs H Q=>∃ p ys,xs=[.ref p]/\(df K H p ys\/j6 K H p ys)/\Q (.int ys.length) H) dj:=by
 intro F H ss vs R Q sb fu rp h k;unfold dj at h
 split at h
 ·obtain⟨v,r,rfl,⟨a,xs,rfl,h1,h2⟩,h3⟩:=rp
  cases (show r=[] from h3)
  exact⟨a,xs,rfl,.inr (Same.sqT sb a xs h1),k _ F H (.t (.int _)) (dw.refl sb fu) (by show _=_;rw[h2.length]) h⟩
 ·obtain⟨v,r,rfl,⟨a,xs,rfl,h1,h2⟩,h3⟩:=rp
  cases (show r=[] from h3)
  exact⟨a,xs,rfl,.inl (sb.seq h1),k _ F H (.t (.int _)) (dw.refl sb fu) (by show _=_;rw[h2.length]) h⟩
 ·obtain⟨v,r,rfl,⟨a,xs,rfl,h1,h2⟩,h3⟩:=rp
  cases (show r=[] from h3)
  exact⟨a,xs,rfl,.inr h1,k _ F H (.t (.int _)) (dw.refl sb fu) (by show _=_;rw[h2.length]) h⟩
 ·obtain⟨v,r,rfl,⟨a,xs,rfl,h1,h2⟩,h3⟩:=rp
  cases (show r=[] from h3)
  exact⟨a,xs,rfl,.inl h1,k _ F H (.t (.int _)) (dw.refl sb fu) (by show _=_;rw[h2.length]) h⟩
 ·obtain⟨v,r,rfl,⟨a,xs,rfl,h1,h2⟩,h3⟩:=rp
  cases (show r=[] from h3)
  exact⟨a,xs,rfl,.inl h1,k _ F H (.t (.int _)) (dw.refl sb fu) (by show _=_;rw[h2.length]) h⟩
 ·exact h.elim
def iY:List S->(S->Prop)->Prop
 | [.t (.int i)],R=>R (.t (.int (if i<0 then -i else i)))
 | _,_=>False
theorem Nk:hX K (fun xs H Q=>∃ i,xs=[.int i]/\Q (.int (if i<0 then -i else i)) H) iY:=by
 intro F H ss vs R Q sb fu rp h k;unfold iY at h
 split at h
 ·obtain⟨v,r,rfl,rfl,h3⟩:=rp
  cases (show r=[] from h3)
  exact⟨_,rfl,k _ F H (.t (.int _)) (dw.refl sb fu) rfl h⟩
 ·exact h.elim
def wg:List S->(S->Prop)->Prop
 | [.t (.int i),.t (.int j)],R=>R (.t (.int (if j>i then j else i)))
 | _,_=>False
def rT:List S->(S->Prop)->Prop
 | [.t (.int i),.t (.int j)],R=>R (.t (.int (if j<i then j else i)))
 | _,_=>False
theorem Jx:hX K (fun xs H Q=>∃ i j,xs=[.int i,.int j]/\Q (.int (if j>i then j else i)) H) wg:=by
 intro F H ss vs R Q sb fu rp h k;unfold wg at h
 split at h
 ·obtain⟨v,r,rfl,rfl,v2,r2,rfl,rfl,h3⟩:=rp
  cases (show r2=[] from h3)
  exact⟨_,_,rfl,k _ F H (.t (.int _)) (dw.refl sb fu) rfl h⟩
 ·exact h.elim
theorem Jy:hX K (fun xs H Q=>∃ i j,xs=[.int i,.int j]/\Q (.int (if j<i then j else i)) H) rT:=by
 intro F H ss vs R Q sb fu rp h k;unfold rT at h
 split at h
 ·obtain⟨v,r,rfl,rfl,v2,r2,rfl,rfl,h3⟩:=rp
  cases (show r2=[] from h3)
  exact⟨_,_,rfl,k _ F H (.t (.int _)) (dw.refl sb fu) rfl h⟩
 ·exact h.elim
def PU:List S->(S->Prop)->Prop
 | [.t (.int i)],R=>R (.t (.int i))
 | [.t (.bl b)],R=>R (.t (.int (if b then 1 else 0)))
 | _,_=>False
def t6:List S->(S->Prop)->Prop
 | [.t (.tup ts)],R=>R (.ol ts)
 | [.t (.lst ts)],R=>R (.ol ts)
 | [.vt (.lst ts)],R=>cL ts=true/\R (.ol ts)
 | [.ol ts],R=>R (.ol ts)
 | _,_=>False
section
variable {X:Cx}{e:Expr}{es:List Expr}{we:WE}{wr wa:WA}{pos p:Pos}
theorem bN (hm:X.mg "len"=none) (ha:PA X [e] (dM X.K wa)) (hg:Gl X "len":=by rfl) (he:starEach [e] X.env=(false,eval e X.env)::starEach [] X.env:=by exact aP rfl):PE X (.Call (.Name "len" p) [e] [] pos) (av X.K (eP dj wa)):=
 fF tM Nm hm PySem.boot_len ha hg (he:=he) (hpl:=rfl)
theorem dI (hm:X.mg "abs"=none) (ha:PA X [e] (dM X.K wa)) (hg:Gl X "abs":=by rfl) (he:starEach [e] X.env=(false,eval e X.env)::starEach [] X.env:=by exact aP rfl):PE X (.Call (.Name "abs" p) [e] [] pos) (av X.K (eP iY wa)):=
 fF Da Nk hm PyProof.Rows.boot_abs ha hg (he:=he) (hpl:=rfl)
theorem Ip (hm:X.mg "max"=none) (ha:PA X [e,e2] (dM X.K wa)) (hg:Gl X "max":=by rfl) (hc:X.calm=true:=by rfl) (he:starEach [e,e2] X.env=(false,eval e X.env)::starEach [e2] X.env:=by exact aP rfl) (hpl:(backTo pos (starEach [e2] X.env)).any (·.1)=false:=by exact dP rfl):PE X (.Call (.Name "max" p) [e,e2] [] pos) (av X.K (eP wg wa)):=
 fF (Bm hc) Jx hm PyProof.Rows.boot_max ha hg (he:=he) (hpl:=hpl)
theorem zQ (hm:X.mg "min"=none) (ha:PA X [e,e2] (dM X.K wa)) (hg:Gl X "min":=by rfl) (hc:X.calm=true:=by rfl) (he:starEach [e,e2] X.env=(false,eval e X.env)::starEach [e2] X.env:=by exact aP rfl) (hpl:(backTo pos (starEach [e2] X.env)).any (·.1)=false:=by exact dP rfl):PE X (.Call (.Name "min" p) [e,e2] [] pos) (av X.K (eP rT wa)):=
 fF (Bo hc) Jy hm PyProof.Rows.boot_min ha hg (he:=he) (hpl:=hpl)
end
end DL
namespace DL
open PySem L2
def iQ:a8->(Option Int->Prop)->Prop:=fun _ R=>R none
def l7 (we:WE):a8->(Option Int->Prop)->Prop:=fun δ R=>we δ fun s=>match s with
 | .t (.int i)=>R (some i)
 | _=>False
def An (K:Frg)(w:a8->(Option Int->Prop)->Prop):TO:=fun σ H Q=>∃ δ R F,Rel K F H σ δ/\w δ R/\∀ F' H' o,dw F H F' H'->R o->Q o H'
def gU (ts:List T)(lo hi:Option Int):List T:=(ts.drop (HT.sIx ts.length 0 lo)).take (HT.sIx ts.length ts.length hi-HT.sIx ts.length 0 lo)
def zd (lo hi:Option Int)(R:S->Prop):S->Prop
 | .t (.lst ts)=>R (.ol (gU ts lo hi))
 | .vt (.lst ts)=>cL ts=true/\R (.ol (gU ts lo hi))
 | .ol ts=>R (.ol (gU ts lo hi))
 | _=>False
def iR (we:WE)(wl wh:a8->(Option Int->Prop)->Prop):WE:=fun δ R=>we δ fun s=>wl δ fun lo=>wh δ fun hi=>zd lo hi R s
theorem ze (sb:Same F H)(fu:gN F H)(h:zd lo hi R s)(p:gO K F H s v):∃ ts a xs,v=.ref a/\df K H a xs/\au K F ts xs/\R (.ol (gU ts lo hi)):=by
 unfold zd at h
 split at h
 ·unfold gO aB at p;obtain⟨a,xs,h1,h2,h3⟩:=p;exact⟨_,a,xs,h1,sb.seq h2,h3,h⟩
 ·unfold gO aB at p;obtain⟨a,xs,h1,h2,h3⟩:=p;exact⟨_,a,xs,h1,h2,au.full fu h.1 h3,h.2⟩
 ·unfold gO at p;obtain⟨a,xs,h1,h2,h3⟩:=p;exact⟨_,a,xs,h1,h2,h3,h⟩
 ·exact h.elim
theorem Io (h:au K F ts xs)(lo hi:Option Int):au K F (gU ts lo hi) (Br xs lo hi):=by
 unfold gU Br;rw[h.length];exact(h.drop _).take _
section
variable {X:Cx}{e:Expr}{we:WE}{lo hi:Option Expr}{wl wh:a8->(Option Int->Prop)->Prop}{pos p2:Pos}
theorem ig:PO X none (An X.K iQ):=fun pins s σ H Q I ⟨δ,R,F,rl,h,k⟩=>JQ pins s σ H Q I (k F H none rl.refl h)
theorem ii (h:PE X e (av X.K we)):PO X (some e) (An X.K (l7 we)):=fun pins s σ H Q I ⟨δ,R,F,rl,hw,k⟩=>
 JR h pins s σ H Q I ⟨δ,_,F,rl,hw,fun v F1 H1 s e p q=>by
  split at q
  ·exact⟨_,p,k F1 H1 _ e q⟩
  ·exact q.elim⟩
theorem fG (he:PE X e (av X.K we))(hl:PO X lo (An X.K wl))(hu:PO X hi (An X.K wh)):PE X (.Subscript e (.Slice lo hi none p2) pos) (av X.K (iR we wl wh)):=
 (Gr Ko he hl hu).imp fun σ H Q ⟨δ,R,F,rl,h,k⟩=>⟨δ,_,F,rl,h,fun v F1 H1 s e1 p1 q=>⟨δ,_,F1,rl.ext e1,q,fun F2 H2 o e2 q2=>⟨δ,_,F2,(rl.ext e1).ext e2,q2,fun F3 H3 o3 e3 q3=>by
  have e12:=e1.trans (e2.trans e3);obtain⟨ts,a,xs,rfl,h1,h2,h4⟩:=ze e3.sub e3.full q3 ((p1.ext (e2.trans e3)).val e3.sub);refine⟨a,xs,rfl,h1,fun l hl=>?_⟩;exact k _ F3 _ (.ol _) (e12.trans (dw.newL _ e3.sub e3.full hl)) ⟨l,_,rfl,aI e12.hh hl,aI e3.sub hl,aX,Io h2 _ _⟩ h4⟩⟩⟩
end
def eG:S->S
 | .ol ts=>.t (.lst ts)
 | .t x=>.t x
 | .vt x=>.vt x
def freeze (δ:a8):a8:=δ.map (Option.map eG)
def setS (i:Nat)(s:S)(δ:a8):a8:=match s with
 | .vt x=>(freeze δ).set i (some (.t x))
 | .t x=>δ.set i (some (.t x))
 | .ol ts=>δ.set i (some (.ol ts))
theorem kG {δ:a8}{i:Nat}{s:S}(h:(freeze δ)[i]?=some (some s)):∃ u,δ[i]?=some (some u)/\s=eG u:=by
 unfold freeze at h;rw[getElem?_map]at h
 cases e:δ[i]? with
 | none=>rw[e]at h;cases h
 | some o=>
  rw[e]at h
  cases o with
  | none=>cases h
  | some u=>exact⟨u,rfl,by simpa using h.symm⟩
theorem BB (sb:Same F H):∀ {s:S}{v:V},fC K F H s v->fC K H H (eG s) v
 | .t _,_,h=>aB.same sb h
 | .vt _,_,h=>False.elim h
 | .ol _,_,⟨a,xs,h1,_,h3,h4⟩=>by
  show aB K H (.lst _) _;unfold aB;exact⟨a,xs,h1,df.of h3,au.same sb h4⟩
theorem ko (s:S)(ts:List T):eG s≠.ol ts:=by cases s <;> simp[eG]
theorem Rel.freeze {K:Frg}{F H:Hp}{σ:St}{δ:a8}(r:Rel K F H σ δ):Rel K H H σ (freeze δ):=by
 refine⟨Same.refl _,fun b o h _=>.inl h,?_,fun i s h=>?_,fun i j a ts us _ h1=>?_,r.tab⟩
 ·unfold DL.freeze;rw[length_map];exact r.len
 ·obtain⟨u,h1,rfl⟩:=kG h;obtain⟨v,h2,h3⟩:=r.slot i u h1;exact⟨v,h2,BB r.sub h3⟩
 ·obtain⟨u,_,e⟩:=kG h1;exact absurd e.symm (ko u ts)
theorem Rel.put (r:Rel K F H σ δ)(h:fC K F H s v)(hs:∀ ts,s≠.ol ts):Rel K F H (σ.set i (some v)) (δ.set i (some s)):=by
 refine⟨r.sub,r.full,by rw[length_set,length_set];exact r.len,fun j u hu=>?_,fun j l a ts us hn h1 h2 h3=>?_,r.tab⟩
 ·by_cases e:i=j
  ·subst e;have hi:i<δ.length:=by
    rw[getElem?_set]at hu;simp at hu;exact hu.1
   rw[getElem?_set_self hi]at hu
   cases hu
   exact⟨v,getElem?_set_self (by rw[r.len];exact hi),h⟩
  ·rw[getElem?_set_ne e]at hu;obtain⟨w,h1,h2⟩:=r.slot j u hu;exact⟨w,by rw[getElem?_set_ne e];exact h1,h2⟩
 ·have n1:i≠j:=fun e=>by
   subst e;have hi:i<δ.length:=by
    rw[getElem?_set]at h1;simp at h1;exact h1.1
   rw[getElem?_set_self hi]at h1
   cases h1
   exact hs ts rfl
  have n2:i≠l:=fun e=>by
   subst e;have hi:i<δ.length:=by
    rw[getElem?_set]at h2;simp at h2;exact h2.1
   rw[getElem?_set_self hi]at h2
   cases h2
   exact hs us rfl
  rw[getElem?_set_ne n1]at h1 h3;rw[getElem?_set_ne n2]at h2 ⊢;exact r.dist j l a ts us hn h1 h2 h3
theorem Rel.putOl (r:Rel K F H σ δ)(e:dw F H F' H')(h0:H a=none)(h1:F' a=none)(h2:H' a=some (.lst xs))(h3:au K F' ts xs) :
  Rel K F' H' (σ.set i (some (.ref a))) (δ.set i (some (.ol ts))):=by
 have r':=r.ext e;have old:∀ (j:Nat) (us:List T) (b:Addr),δ[j]?=some (some (.ol us))->σ[j]?=some (some (.ref b))->b≠a:=fun j us b q1 q2 z=>by
  obtain⟨v,p1,c,ys,p2,p3,p4,_⟩:=r.slot j _ q1;rw[q2]at p1
  cases p1
  cases p2
  rw[z,h0]at p4
  cases p4
 refine⟨r'.sub,r'.full,by rw[length_set,length_set];exact r.len,fun j u hu=>?_,fun j l b us ws hn q1 q2 q3=>?_,r'.tab⟩
 ·by_cases z:i=j
  ·subst z;have hi:i<δ.length:=by
    rw[getElem?_set]at hu;simp at hu;exact hu.1
   rw[getElem?_set_self hi]at hu
   cases hu
   exact⟨_,getElem?_set_self (by rw[r.len];exact hi),a,xs,rfl,h1,h2,h3⟩
  ·rw[getElem?_set_ne z]at hu;obtain⟨w,p1,p2⟩:=r'.slot j u hu;exact⟨w,by rw[getElem?_set_ne z];exact p1,p2⟩
 ·by_cases z:i=j
  ·subst z;have hi:i<δ.length:=by
    rw[getElem?_set]at q1;simp at q1;exact q1.1
   rw[getElem?_set_self (by rw[r.len];exact hi)]at q3
   cases q3
   rw[getElem?_set_ne hn]at q2 ⊢;exact fun q=>old l ws a q2 q rfl
  ·rw[getElem?_set_ne z]at q1 q3
   by_cases z2:i=l
   ·subst z2;have hi:i<δ.length:=by
     rw[getElem?_set]at q2;simp at q2;exact q2.1
    rw[getElem?_set_self (by rw[r.len];exact hi)]
    intro q
    cases q
    exact old j us a q1 q3 rfl
   ·rw[getElem?_set_ne z2]at q2 ⊢;exact r.dist j l b us ws hn q1 q2 q3
theorem Rel.setS (i:Nat)(r:Rel K F H σ δ)(e:dw F H F' H')(p:dG K H F' H' s v):∃ F2,Same F F2/\Rel K F2 H' (σ.set i (some v)) (setS i s δ):=by
 cases s with
 | t x=>exact⟨F',e.ff,(r.ext e).put (s:=.t x) p (fun _ z=>by cases z)⟩
 | vt x=>exact⟨H',e.ff.trans e.sub,(r.ext e).freeze.put (s:=.t x) p (fun _ z=>by cases z)⟩
 | ol ts=>
  obtain⟨a,xs,rfl,h0,h1,h2,h3⟩:=p;exact⟨F',e.ff,r.putOl e h0 h1 h2 h3⟩
theorem Rel.thaw (rl:Rel K F H σ δ)(ex:dw F H F1 H1)(p:dG K H F1 H1 (.ol ts) v) :
  Rel K (grow F1 H H1 none) H1 σ δ/\Same F (grow F1 H H1 none)/\∃ a xs,v=.ref a/\df K (grow F1 H H1 none) a xs/\au K (grow F1 H H1 none) ts xs:=by
 obtain⟨ez,sz⟩:=ex.frozen rl.sub;refine⟨rl.ext ez,ez.ff,?_⟩;obtain⟨a,xs,rfl,h0,h1,h2,h3⟩:=p;refine⟨a,xs,rfl,df.of ?_,au.same sz h3⟩;unfold grow;rw[if_pos (by rw[h0];rfl),if_neg (by simp)]
 exact h2
def bB:WS:=fun D δ=>D.nx δ
def aC (w u:WS):WS:=fun D δ=>w {D with nx:=u D} δ
def b9 (w u:WS):WS:=fun D δ=>∃ M:a8->Prop,w {D with nx:=M} δ/\∀ δ',M δ'->u D δ'
def aF (i:Nat)(we:WE):WS:=fun D δ=>we δ fun s=>D.nx (setS i s δ)
def iW (c:WT)(w u:WS):WS:=fun D δ=>c δ fun k=>if k=true then w D δ else u D δ
def out:S->S
 | .vt x=>.t x
 | .t x=>.t x
 | .ol ts=>.ol ts
def bz (we:WE):WS:=fun D δ=>we δ fun s=>D.rt (out s)
def jy (i:Nat):WS:=fun D δ=>match δ[i]? with
 | some (some s)=>D.rt s
 | _=>False
def QY:WS:=fun D _=>D.rt (.t .non)
def Ot:WS:=fun D δ=>D.bk δ
def QU:WS:=fun D δ=>D.ct δ
def xy (we:WE):WS:=fun D δ=>we δ fun _=>D.nx δ
def nr:WS:=fun _ _=>False
def qG (c:WT)(wb:WS):WS:=fun D δ=>∃ I:Nat->a8->Prop,(∃ n,I n δ)/\∀ n δ,I n δ->c δ fun k=>if k=true then wb {nx:=fun δ'=>∃ m,m<n/\I m δ',rt:=D.rt,bk:=D.nx,ct:=fun δ'=>∃ m,m<n/\I m δ'} δ else D.nx δ
abbrev WG:=T->a8->(a8->Prop)->Prop
def yi (g:WG)(wb:WS):List T->vJ->a8->Prop
 | [],D,δ=>D.nx δ
 | x::r,D,δ=>g x δ fun δ1=>wb {nx:=fun δ2=>yi g wb r D δ2,rt:=D.rt,bk:=D.nx,ct:=fun δ2=>yi g wb r D δ2} δ1
abbrev WI:=a8->(List T->a8->Prop)->Prop
def Bz (g:WG)(wb:WS)(ts:List T)(D:vJ)(δ:a8):Prop:=∃ I:List T->a8->Prop,I ts δ/\(∀ δ,I [] δ->D.nx δ)/\∀ x r δ,I (x::r) δ->g x δ fun δ1=>wb {nx:=I r,rt:=D.rt,bk:=D.nx,ct:=I r} δ1
theorem IG (h:yi g wb ts D δ):Bz g wb ts D δ:=⟨fun r δ=>yi g wb r D δ,h,fun _ h=>h,fun _ _ _ h=>h⟩
def k7 (wi:WI)(g:WG)(wb:WS):WS:=fun D δ=>wi δ fun ts δ'=>Bz g wb ts D δ'
def aG (i:Nat):WG:=fun t δ R=>R (δ.set i (some (.t t)))
def kA (g:List T->a8->(a8->Prop)->Prop):WG:=fun t δ R=>match t with
 | .tup ts=>g ts δ R
 | _=>False
def iX:List T->a8->(a8->Prop)->Prop:=fun ts δ R=>match ts with
 | []=>R δ
 | _=>False
def bC (g:WG)(gr:List T->a8->(a8->Prop)->Prop):List T->a8->(a8->Prop)->Prop:=fun ts δ R=>match ts with
 | t::r=>g t δ fun δ1=>gr r δ1 R
 | []=>False
def Kx (g:WG)(δ:a8)(N:a8->Prop):S->Prop
 | .t t=>g t δ N
 | .vt t=>g t (freeze δ) N
 | .ol ts=>g (.lst ts) δ N
def xB (we:WE)(g:WG):WS:=fun D δ=>we δ fun s=>Kx g δ D.nx s
def Kz (i j:Nat)(wa:WA):WS:=fun D δ=>wa δ fun ss=>match ss with
 | [.t x,.t y]=>D.nx ((δ.set i (some (.t x))).set j (some (.t y)))
 | _=>False
def fm (i:Nat)(we:WE):WS:=fun D δ=>match δ[i]? with
 | some (some (.ol ts))=>we δ fun s=>match s with
  | .t x=>ts.length<100000/\D.nx (δ.set i (some (.ol (ts++[x]))))
  | _=>False
 | _=>False
def KA (i:Nat):WS:=fun D δ=>match δ[i]? with
 | some (some (.ol ts))=>ts≠[]/\D.nx (δ.set i (some (.ol ts.dropLast)))
 | _=>False
def nt (i:Nat)(we wv:WE):WS:=fun D δ=>match δ[i]? with
 | some (some (.ol ts))=>wv δ fun v=>we δ fun s=>match v,s with
  | .t x,.t (.int k)=>match uJ ts.length k with
   | some j=>D.nx (δ.set i (some (.ol (ts.set j x))))
   | none=>False
  | _,_=>False
 | _=>False
section
variable {X:Cx}{st:Stmt}{rest:List Stmt}{w u:WS}{e:Expr}{we:WE}{pos:Pos}{H₀:Hp}
theorem aN:k8 X [] (bK X.K H₀ bB):=JV.imp fun D σ H ⟨δ,D',F,_,rl,h,ok⟩=>ok.nx σ F H δ (Same.refl _) rl h
theorem ah (h1:PS X st (bK X.K H₀ w))(h2:k8 X rest (bK X.K H₀ u)):k8 X (st::rest) (bK X.K H₀ (aC w u)):=
 (xb h1 h2).imp fun D σ H ⟨δ,D',F,s0,rl,h,ok⟩=>⟨δ,_,F,s0,rl,h,⟨fun σ' F' H' δ' ff rl' h'=>⟨δ',D',F',s0.trans ff,rl',h',ok.mono ff⟩,ok.rt,ok.bk,ok.ct⟩⟩
theorem aK (h1:PS X st (bK X.K H₀ w))(h2:k8 X rest (bK X.K H₀ u)):k8 X (st::rest) (bK X.K H₀ (b9 w u)):=
 (xb h1 h2).imp fun D σ H ⟨δ,D',F,s0,rl,⟨M,h,hk⟩,ok⟩=>⟨δ,_,F,s0,rl,h,⟨fun σ' F' H' δ' ff rl' h'=>⟨δ',D',F',s0.trans ff,rl',hk δ' h',ok.mono ff⟩,ok.rt,ok.bk,ok.ct⟩⟩
theorem am (h1:PS X st (bK X.K H₀ w)):k8 X [st] (bK X.K H₀ w):=JW h1
theorem jb:PS X st (bK X.K H₀ nr):=GA.imp fun D σ H ⟨δ,D',F,_,rl,h,ok⟩=>h
theorem aq (hN:X.N.Nodup)(he:PE X e (av X.K we))(hi:X.N[i]?=some x:=by rfl)(hx:Loc X.env.scope x:=by first|exact Or.inl rfl|exact Or.inr rfl)(hs:swapsWith e (some (.Name x pos')) pos.line X.env=pure false:=by rfl)(hf:X.fn x=true\/X.env.scope.names.lookup x=some .local:=by first|exact .inl rfl|exact .inr rfl|assumption) :
  PS X (.Assign [.Name x pos'] e pos) (bK X.K H₀ (aF i we)):=
 (NP hN hi hx he hs hf).imp fun D σ H ⟨δ,D',F,s0,rl,h,ok⟩=>⟨δ,_,F,rl,h,fun v F1 H1 s e p q=>by
  obtain⟨F2,ff,r2⟩:=rl.setS i e p;exact ok.nx _ F2 H1 _ ff r2 q⟩
theorem bD (hc:PT X c (liftT X.K t))(ha:k8 X a (bK X.K H₀ w))(hb:k8 X b (bK X.K H₀ u)):PS X (.If c a b pos) (bK X.K H₀ (iW t w u)):=
 (Qv hc ha hb).imp fun D σ H ⟨δ,D',F,s0,rl,h,ok⟩=>⟨δ,_,F,rl,h,fun F1 H1 k e q=>by
  cases k with
  | true=>exact⟨δ,D',F1,s0.trans e.ff,rl.ext e,by simpa using q,ok.mono e.ff⟩
  | false=>exact⟨δ,D',F1,s0.trans e.ff,rl.ext e,by simpa using q,ok.mono e.ff⟩⟩
theorem GM (s0:Same H₀ H)(e:dw F H F1 H1):∀ {s:S}{v:V},dG K H F1 H1 s v->CG K H₀ H1 (out s) v
 | .t _,_,h=>aB.same e.sub h
 | .vt _,_,h=>h
 | .ol _,_,⟨a,xs,h1,h2,_,h3,h4⟩=>⟨a,xs,h1,aI s0 h2,h3,au.same e.sub h4⟩
theorem aE (he:PE X e (av X.K we)):PS X (.Return (some e) pos) (bK X.K H₀ (bz we)):=
 (yV he).imp fun D σ H ⟨δ,D',F,s0,rl,h,ok⟩=>⟨δ,_,F,rl,h,fun v F1 H1 s e p q=>ok.rt v H1 _ ((s0.trans rl.sub).trans e.hh) (rl.ext e).tab (GM (s0.trans rl.sub) e p) q⟩
theorem GV (s0:Same H₀ F)(sb:Same F H):∀ {s:S}{v:V},fC K F H s v->CG K H₀ H s v
 | .t _,_,h=>aB.same sb h
 | .vt _,_,h=>False.elim h
 | .ol _,_,⟨a,xs,h1,h2,h3,h4⟩=>⟨a,xs,h1,aI s0 h2,h3,au.same sb h4⟩
def He (we:WE):WS:=fun D δ=>we (freeze δ) fun s=>D.rt (out s)
theorem Iy (he:PE X e (av X.K we)):PS X (.Return (some e) pos) (bK X.K H₀ (He we)):=
 (yV he).imp fun D σ H ⟨δ,D',F,s0,rl,h,ok⟩=>⟨freeze δ,_,H,rl.freeze,h,fun v F1 H1 s e p q=>ok.rt v H1 _ ((s0.trans rl.sub).trans e.hh) (rl.freeze.ext e).tab (GM (s0.trans rl.sub) e p) q⟩
theorem fY (he:PE X e (xr i)):PS X (.Return (some e) pos) (bK X.K H₀ (jy i)):=
 (yV he).imp fun D σ H ⟨δ,D',F,s0,rl,h,ok⟩=>by
  unfold jy at h
  split at h
  ·rename_i s hs;obtain⟨v,h1,h2⟩:=rl.slot i s hs;exact⟨v,h1,ok.rt v H s (s0.trans rl.sub) rl.tab (GV s0 rl.sub h2) h⟩
  ·exact h.elim
theorem t0 (he:PE X e (av X.K we))(hs:swapsWith e none pos.line X.env=pure false:=by rfl):PS X (.Expr e pos) (bK X.K H₀ (xy we)):=
 (oC he hs).imp fun D σ H ⟨δ,D',F,s0,rl,h,ok⟩=>⟨δ,_,F,rl,h,fun v F1 H1 s e p q=>ok.nx σ F1 H1 δ e.ff (rl.ext e) q⟩
theorem lw (hp:PassesOwn (model X.prog X.w) X.A X.env X.xe)(hc:PT X c (liftT X.K t))(hb:k8 X body (bK X.K H₀ wb)):PS X (.While c body [] pos) (bK X.K H₀ (qG t wb)):=
 (GB hp hc hb).imp fun D σ H ⟨δ,D',F,s0,rl,⟨I,⟨n,h⟩,step⟩,ok⟩=>by
  refine⟨fun m σ H=>∃ δ F1,Same F F1/\Rel X.K F1 H σ δ/\I m δ,⟨n,δ,F,Same.refl _,rl,h⟩,?_⟩;rintro m σ H ⟨δ,F1,f1,rl,h⟩;refine⟨δ,_,F1,rl,step m δ h,fun F2 H2 k e q=>?_⟩
  cases k with
  | true=>
   refine⟨fun σ' H'=>∃ δ F1 j,j<m/\Same F F1/\Rel X.K F1 H' σ' δ/\I j δ,fun σ' H' ⟨δ',F',j,hj,a1,a2,a3⟩=>⟨j,hj,δ',F',a1,a2,a3⟩,?_⟩;refine⟨δ,{nx:=fun δ'=>∃ j,j<m/\I j δ',rt:=D'.rt,bk:=D'.nx,ct:=fun δ'=>∃ j,j<m/\I j δ'},F2,(s0.trans f1).trans e.ff,rl.ext e,by simpa using q,⟨fun σ' F' H' δ' ff r' ⟨j,hj,h'⟩=>⟨δ',F',j,hj,(f1.trans e.ff).trans ff,r',h'⟩,ok.rt,fun σ' F' H' δ' ff r' h'=>ok.nx σ' F' H' δ' ((f1.trans e.ff).trans ff) r' h',fun σ' F' H' δ' ff r' ⟨j,hj,h'⟩=>⟨δ',F',j,hj,(f1.trans e.ff).trans ff,r',h'⟩⟩⟩
  | false=>exact ok.nx σ F2 H2 δ (f1.trans e.ff) (rl.ext e) (by simpa using q)
end
def lE (K:Frg)(g:WG):TG:=fun v σ H Q=>∃ t δ R F,aB K F t v/\Rel K F H σ δ/\g t δ R/\∀ σ' δ',Rel K F H σ' δ'->R δ'->Q σ' H
def uN (K:Frg)(g:List T->a8->(a8->Prop)->Prop):Hs:=fun vs σ H Q=>∃ ts δ R F,au K F ts vs/\Rel K F H σ δ/\g ts δ R/\∀ σ' δ',Rel K F H σ' δ'->R δ'->Q σ' H
section
variable {X:Cx}{pos:Pos}{H₀:Hp}
theorem aD (hN:X.N.Nodup)(hi:X.N[i]?=some x:=by rfl)(hx:Loc X.env.scope x:=by first|exact Or.inl rfl|exact Or.inr rfl)(hf:X.fn x=true\/X.env.scope.names.lookup x=some .local:=by first|exact .inl rfl|exact .inr rfl|assumption):PG X (.Name x pos) (lE X.K (aG i)):=
 (JN hN hi hx hf).imp fun v σ H Q ⟨t,δ,R,F,p,rl,h,k⟩=>k _ _ (rl.put (s:=.t t) p (fun _ z=>by cases z)) h
theorem jA:CD X [] (uN X.K iX):=JO.imp fun v σ H Q ⟨ts,δ,R,F,p,rl,h,k⟩=>by
 unfold iX at h
 split at h
 ·cases (show v=[] from p)
  exact⟨rfl,k σ δ rl h⟩
 ·exact h.elim
theorem ba (h1:PG X e (lE X.K g))(h2:CD X es (uN X.K gr))
  (hs:(assignEach (e::es) X.env).map (·.2)=assign e X.env::(assignEach es X.env).map (·.2):=by rfl):CD X (e::es) (uN X.K (bC g gr)):=
 (Gv h1 h2 hs).imp fun v σ H Q ⟨ts,δ,R,F,p,rl,h,k⟩=>by
  unfold bC at h
  split at h
  ·rename_i t r;obtain⟨x,vr,e1,p1,p2⟩:=p;exact⟨x,vr,e1,t,δ,_,F,p1,rl,h,fun σ' δ' rl' h'=>⟨r,δ',R,F,p2,rl',h',k⟩⟩
  ·exact h.elim
theorem mF (h:CD X es (uN X.K g))(hl:∀ ts δ R,g ts δ R->ts.length=n)(hc:X.calm=true:=by rfl)
  (hn:(assignEach es X.env).length=n:=by rfl) (hst:(assignEach es X.env).findIdx? (·.1)=none:=by rfl):PG X (.Tuple es k pos) (lE X.K (kA g)):=
 (NI hc h hn hst).imp fun v σ H Q ⟨t,δ,R,F,p,rl,h,k⟩=>by
  unfold kA at h
  split at h
  ·rename_i ts;obtain⟨a,xs,e1,p1,p2⟩:=p;exact⟨a,xs,e1,Same.sqT rl.sub a xs p1,by rw[p2.length];exact hl ts δ R h,ts,δ,R,F,p2,rl,h,k⟩
  ·exact h.elim
theorem jD:∀ ts δ R,iX ts δ R->ts.length=0:=fun ts δ R h=>by
 unfold iX at h
 split at h
 ·rfl
 ·exact h.elim
theorem bb (hr:∀ ts δ R,gr ts δ R->ts.length=n):∀ ts δ R,bC (aG i) gr ts δ R->ts.length=n+1:=fun ts δ R h=>by
 unfold bC at h
 split at h
 ·rw[length_cons,hr _ _ _ h]
 ·exact h.elim
theorem ph (he:PE X e (av X.K we))(hg:PG X tg (lE X.K g))(hs:swapsWithSole [tg] e pos.line X.env=pure false:=by rfl)(hw:swappedStores [tg] e X.env=pure none:=by rfl)
  (h1:(assignEach [tg] X.env).map (·.2)=[assign tg X.env]:=by rfl):PS X (.Assign [tg] e pos) (bK X.K H₀ (xB we g)):=
 (Gz he hg hs hw h1).imp fun D σ H ⟨δ,D',F,s0,rl,h,ok⟩=>⟨δ,_,F,rl,h,fun v F1 H1 s e p q=>by
  cases s with
  | t t=>exact⟨t,δ,_,F1,p,rl.ext e,q,fun σ' δ' rl' h'=>ok.nx σ' F1 H1 δ' e.ff rl' h'⟩
  | vt t=>exact⟨t,freeze δ,_,H1,p,(rl.ext e).freeze,q,fun σ' δ' rl' h'=>ok.nx σ' H1 H1 δ' (e.ff.trans e.sub) rl' h'⟩
  | ol ts=>
   obtain⟨rl2,r2⟩:=rl.thaw e p;refine⟨.lst ts,δ,_,_,?_,rl2,q,fun σ' δ' rl' h'=>ok.nx σ' _ H1 δ' r2.1 rl' h'⟩;unfold aB;exact r2.2⟩
theorem Dl {kt k2 pt2}(hN:X.N.Nodup)(ha:PA X [a,b] (dM X.K wa))(hi:X.N[i]?=some x:=by rfl)(hj:X.N[j]?=some y:=by rfl)(hij:i≠j:=by decide)
  (hx:X.env.scope.names.lookup x=some .local:=by rfl) (hy:X.env.scope.names.lookup y=some .local:=by rfl)
  (hw:swappedStores [.Tuple [.Name x px,.Name y py] kt pt] (.Tuple [a,b] k2 pt2) X.env=pure (some [x,y]):=by rfl) (hc:X.calm=true:=by rfl)
  (hs:swapsWithSole [.Tuple [.Name x px,.Name y py] kt pt] (.Tuple [a,b] k2 pt2) pos.line X.env=pure false:=by rfl) :
  PS X (.Assign [.Tuple [.Name x px,.Name y py] kt pt] (.Tuple [a,b] k2 pt2) pos) (bK X.K H₀ (Kz i j wa)):=
 (NN hc hN hi hj hij hx hy ha hw hs).imp fun D σ H ⟨δ,D',F,s0,rl,h,ok⟩=>⟨δ,_,F,rl,h,fun vs F1 H1 ss e p q=>by
  split at q
  ·rename_i t u;obtain⟨v1,r1,e1,p1,v2,r2,e2,p2,p3⟩:=p
   cases (show r2=[] from p3)
   exact⟨v1,v2,by rw[e1,e2],ok.nx _ F1 H1 _ e.ff (((rl.ext e).put (i:=i) (s:=.t t) p1 (fun _ z=>by cases z)).put (i:=j) (s:=.t u) p2 (fun _ z=>by cases z)) q⟩
  ·exact q.elim⟩
end
def Hm (K:Frg)(F:Hp)(J:It)(ts:List T):Prop:=
 ∀ F1 H1 i,Same F F1->Same F1 H1->gN F1 H1->(∀ t,ts[i]?=some t->J.go i H1/\∀ x H2,J.yld i H1 x H2->∃ F2,dw F1 H1 F2 H2/\aB K F2 t x)/\(ts.length<=i->J.stop i H1)
def pQ (K:Frg)(w:WI):TI:=fun σ H R=>∃ δ W F,Rel K F H σ δ/\w δ W/\∀ J F0 F' H' ts δ',dw F H F0 H'->Same F0 F'->Rel K F' H' σ δ'->Hm K F' J ts->W ts δ'->R J H'
theorem v8 {α:Type}{l:List α}{i:Nat}{x:α}{r:List α}(h:l.drop i=x::r):l[i]?=some x/\l.drop (i+1)=r:=by
 constructor
 ·rw[<-List.head?_drop,h];rfl
 ·rw[<-List.tail_drop,h];rfl
section
variable {X:Cx}{pos:Pos}{H₀:Hp}{tg:Expr}
theorem dZ {iter:Expr}{body:List Stmt}{wi:WI}{g:WG}{wb:WS}(hp:PassesOwn (model X.prog X.w) X.A X.env X.xe)(hi:PI X tg iter (pQ X.K wi))(hg:PG X tg (lE X.K g))(hb:k8 X body (bK X.K H₀ wb))(hc:X.calm=true:=by rfl)
  (hs:∀ x,foldedSetIterable iter X.env x=pure x:=by intro _;rfl):PS X (.For tg iter body [] pos) (bK X.K H₀ (k7 wi g wb)):=
 (NM hp hc hi hg hb hs).imp fun D σ H ⟨δ,D',F,s0,rl,h,ok⟩=>⟨δ,_,F,rl,h,fun J F0 F1 H1 ts δ1 e0 f01 rl1 it q=>by
  have f1:Same F F1:=e0.ff.trans f01;obtain⟨W,w0,wend,wstep⟩:=q;refine⟨fun i m σ H=>m=ts.length-i/\i<=ts.length/\∃ δ F2,Same F1 F2/\Rel X.K F2 H σ δ/\W (ts.drop i) δ,⟨ts.length,by simp,zero_le _,δ1,F1,Same.refl _,rl1,by simpa using w0⟩,?_⟩
  rintro i m σ H ⟨rfl,hi,δ,F2,f2,rl,h⟩;obtain⟨hgo,hstop⟩:=it F2 H i f2 rl.sub rl.full
  cases hd:ts.drop i with
  | nil=>
   rw[hd]at h;have:ts.length<=i:=by simpa using hd
   exact .inl ⟨hstop this,ok.nx σ F2 H δ (f1.trans f2) rl (wend δ h)⟩
  | cons x r=>
   rw[hd]at h;obtain⟨h1,h2⟩:=v8 hd;obtain⟨go,yld⟩:=hgo x h1;have hlt:i<ts.length:=by
    have:=congrArg List.length hd;simp at this;omega
   have nexts:∀ σ' F' H' δ',Same F1 F'->Rel X.K F' H' σ' δ'->W r δ'->∃ m',m'<ts.length-i/\(m'=ts.length-(i+1)/\i+1<=ts.length/\∃ δ F2,Same F1 F2/\Rel X.K F2 H' σ' δ/\W (ts.drop (i+1)) δ):=
    fun σ' F' H' δ' ff rl' h'=>⟨ts.length-(i+1),by omega,rfl,hlt,δ',F',ff,rl',by rw[h2];exact h'⟩
   refine .inr ⟨go,fun σ' H'=>∃ δ F2,Same F1 F2/\Rel X.K F2 H' σ' δ/\W r δ,fun σ' H' ⟨δ',F',ff,rl',h'⟩=>nexts σ' F' H' δ' ff rl' h',fun v H2 y=>?_⟩;obtain⟨F3,e3,p3⟩:=yld v H2 y;refine⟨x,δ,_,F3,p3,rl.ext e3,wstep x r δ h,fun σ' δ' rl' h'=>?_⟩;exact⟨δ',_,F3,((s0.trans f1).trans f2).trans e3.ff,rl',h',⟨fun σ'' F'' H'' δ'' ff rl'' h''=>⟨δ'',F'',(f2.trans e3.ff).trans ff,rl'',h''⟩,ok.rt,fun σ'' F'' H'' δ'' ff rl'' h''=>ok.nx σ'' F'' H'' δ'' (((f1.trans f2).trans e3.ff).trans ff) rl'' h'',fun σ'' F'' H'' δ'' ff rl'' h''=>⟨δ'',F'',(f2.trans e3.ff).trans ff,rl'',h''⟩⟩⟩⟩
def sA (δ:a8)(W:List T->a8->Prop):S->Prop
 | .t (.lst ts)=>W ts δ
 | .vt (.lst ts)=>W ts (freeze δ)
 | .ol ts=>W ts δ
 | _=>False
def cm (we:WE):WI:=fun δ W=>we δ fun s=>sA δ W s
theorem uI (h:df K F a xs)(r:au K F ts xs):Hm K F (Rg K a) ts:=by
 intro F1 H1 i f1 sb fu;have q:df K H1 a xs:=sb.seq (f1.seq h);refine⟨fun t ht=>?_,fun hl=>⟨xs,q,by rw[r.length];exact hl⟩⟩
 obtain⟨x,h1,h2⟩:=r.get ht;refine⟨⟨xs,x,q,h1⟩,fun y H2 hy=>?_⟩;obtain⟨e,hy⟩:=hy;subst e;have:=hy xs q;rw[h1]at this
 cases this
 exact⟨F1,dw.refl sb fu,aB.same f1 h2⟩
end
end DL
namespace DL
open PySem L2
mutual
def eqT:T->T->Bool
 | .non,.non=>true
 | .bl a,.bl b=>a == b
 | .bl a,.int b=>(if a then 1 else 0) == b
 | .int a,.bl b=>a == (if b then 1 else 0)
 | .int a,.int b=>a == b
 | .str a,.str b=>a == b
 | .tup a,.tup b=>cJ a b
 | .lst a,.lst b=>cJ a b
 | _,_=>false
def cJ:List T->List T->Bool
 | [],[]=>true
 | a::r,b::s=>eqT a b && cJ r s
 | _,_=>false
end
mutual
def dep:T->Nat
 | .tup ts=>gW ts+1
 | .lst ts=>gW ts+1
 | .exc _=>1000
 | _=>0
def gW:List T->Nat
 | []=>0
 | t::r=>max (dep t) (gW r)
end
mutual
theorem pC:∀ t:T,dep t<1000->eqT t t=true
 | .non,_=>rfl
 | .bl b,_=>by simp[eqT]
 | .int i,_=>by simp[eqT]
 | .str x,_=>by simp[eqT]
 | .tup ts,h=>by simp only[eqT];exact mH ts (by simp only[dep]at h;omega)
 | .lst ts,h=>by simp only[eqT];exact mH ts (by simp only[dep]at h;omega)
 | .exc _,h=>by simp[dep]at h
theorem mH:∀ ts:List T,gW ts<1000->cJ ts ts=true
 | [],_=>by simp[cJ]
 | t::r,h=>by
  simp only[gW]at h;simp only[cJ,pC t (by omega),mH r (by omega)];rfl
end
section
variable {X:Cx}{pins:List (Addr × Obj)}{σ:St}{H:Hp}{s:Shared}
theorem wH (I:aH X pins σ H s)(h:j6 X.K H a xs)(g:df X.K H a ys):False:=by
 obtain⟨its,_,p1,_⟩:=I.tuple h;obtain⟨its2,_,p2,_⟩:=I.list g;exact SeqAt.ne_of_list_tuple p2.isList p1 rfl
mutual
theorem aB.inj (I:aH X pins σ H s):∀ (t u:T) (v:V),dep t<1000->dep u<1000->aB X.K H t v->aB X.K H u v->t=u
 | .non,u,v,_,_,h,g=>by cases (show v=_ from h);cases u with
  | non=>rfl
  | tup ts=>unfold aB at g;obtain⟨_,_,e,_⟩:=g;cases e
  | lst ts=>unfold aB at g;obtain⟨_,_,e,_⟩:=g;cases e
  | exc c=>unfold aB at g;obtain⟨_,_,e,_⟩:=g;cases e
  | _=>cases g
 | .bl b,u,v,_,_,h,g=>by cases (show v=_ from h);cases u with
  | bl c=>cases g;rfl
  | tup ts=>unfold aB at g;obtain⟨_,_,e,_⟩:=g;cases e
  | lst ts=>unfold aB at g;obtain⟨_,_,e,_⟩:=g;cases e
  | exc c=>unfold aB at g;obtain⟨_,_,e,_⟩:=g;cases e
  | _=>cases g
 | .int b,u,v,_,_,h,g=>by cases (show v=_ from h);cases u with
  | int c=>cases g;rfl
  | tup ts=>unfold aB at g;obtain⟨_,_,e,_⟩:=g;cases e
  | lst ts=>unfold aB at g;obtain⟨_,_,e,_⟩:=g;cases e
  | exc c=>unfold aB at g;obtain⟨_,_,e,_⟩:=g;cases e
  | _=>cases g
 | .str b,u,v,_,_,h,g=>by cases (show v=_ from h);cases u with
  | str c=>cases g;rfl
  | tup ts=>unfold aB at g;obtain⟨_,_,e,_⟩:=g;cases e
  | lst ts=>unfold aB at g;obtain⟨_,_,e,_⟩:=g;cases e
  | exc c=>unfold aB at g;obtain⟨_,_,e,_⟩:=g;cases e
  | _=>cases g
 | .tup ts,u,v,d1,d2,h,g=>by
  unfold aB at h;obtain⟨a,xs,e,h1,h2⟩:=h;subst e
  cases u with
  | tup us=>
   unfold aB at g;obtain⟨b,ys,e,g1,g2⟩:=g
   cases e
   have:=I.tuple_inj h1 g1;subst this;rw[au.inj I ts us xs (by simp only[dep]at d1;omega) (by simp only[dep]at d2;omega) h2 g2]
  | lst us=>
   unfold aB at g;obtain⟨b,ys,e,g1,g2⟩:=g
   cases e
   exact(wH I h1 g1).elim
  | exc c=>simp[dep]at d2
  | _=>cases g
 | .lst ts,u,v,d1,d2,h,g=>by
  unfold aB at h;obtain⟨a,xs,e,h1,h2⟩:=h;subst e
  cases u with
  | lst us=>
   unfold aB at g;obtain⟨b,ys,e,g1,g2⟩:=g
   cases e
   have:=I.list_inj h1 g1;subst this;rw[au.inj I ts us xs (by simp only[dep]at d1;omega) (by simp only[dep]at d2;omega) h2 g2]
  | tup us=>
   unfold aB at g;obtain⟨b,ys,e,g1,g2⟩:=g
   cases e
   exact(wH I g1 h1).elim
  | exc c=>simp[dep]at d2
  | _=>cases g
 | .exc _,_,_,d1,_,_,_=>by simp[dep]at d1
theorem au.inj (I:aH X pins σ H s):∀ (ts us:List T) (xs:List V),gW ts<1000->gW us<1000->au X.K H ts xs->au X.K H us xs->ts=us
 | [],us,xs,_,_,h,g=>by
  cases (show xs=[] from h)
  cases us with
  | nil=>rfl
  | cons u us=>obtain⟨_,_,e,_⟩:=g;cases e
 | t::ts,us,xs,d1,d2,⟨x,r,e,h1,h2⟩,g=>by
  subst e
  cases us with
  | nil=>cases (show _=[] from g)
  | cons u us=>
   obtain⟨y,r',e,g1,g2⟩:=g
   cases e
   simp only[gW]at d1 d2;rw[aB.inj I t u x (by omega) (by omega) h1 g1,au.inj I ts us r (by omega) (by omega) h2 g2]
end
def nY (ts us:List T)(j:Nat):Bool:=match ts[j]?,us[j]? with
 | some a,some b=>eqT a b
 | _,_=>true
theorem qe (n:Nat)(e:Nat->Bool):(List.range (n+1)).all e=(e 0 && (List.range n).all fun j=>e (j+1)):=by
 rw[range_succ_eq_map,List.all_cons,List.all_map];rfl
theorem pD:∀ (ts us:List T),((List.range (min ts.length us.length)).all (nY ts us) && ts.length == us.length)=cJ ts us
 | [],[]=>by simp[cJ]
 | [],u::us=>by simp[cJ]
 | t::ts,[]=>by simp[cJ]
 | t::ts,u::us=>by
  have ih:=pD ts us;have e1:min (t::ts).length (u::us).length=min ts.length us.length+1:=by simp only[length_cons];omega
  rw[e1,qe];have e2:nY (t::ts) (u::us) 0=eqT t u:=by simp[nY]
  have e3:(fun j=>nY (t::ts) (u::us) (j+1))=nY ts us:=by funext j;simp[nY]
  have e4:((t::ts).length == (u::us).length)=(ts.length == us.length):=by simp
  rw[e2,e3,e4];simp only[cJ];rw[<-ih,Bool.and_assoc]
theorem units_in1 (A:Around):A.in1.units=A.units+1:=rfl
theorem v7:∀ {ts:List T}{j:Nat}{t:T},ts[j]?=some t->dep t<=gW ts
 | [],_,_,h=>by simp at h
 | t::ts,0,u,h=>by simp at h;subst h;simp only[gW];omega
 | t::ts,j+1,u,h=>by
  have:=v7 (ts:=ts) (j:=j) (t:=u) (by simpa using h)
  simp only[gW];omega
theorem uY (h1:au X.K H ts xs)(h2:au X.K H us ys)(r1:aO xs its)(r2:aO ys its2)
  (ih:∀ t u v1 v2 u1 u2,t∈ts->u∈us->aB X.K H t v1->aB X.K H u v2->RelV v1 u1->RelV v2 u2->SeqAt.EqAt A s u1 u2 (eqT t u)) :
  ∀ j (h1:j<its.toArray.size) (h2:j<its2.toArray.size),SeqAt.EqAt A s its.toArray[j] its2.toArray[j] (nY ts us j):=by
 intro j q1 q2;have l1:=h1.length;have l2:=h2.length;have l3:=r1.length;have l4:=r2.length;rw[size_toArray]at q1 q2;have g1:j<ts.length:=by omega
 have g2:j<us.length:=by omega
 obtain⟨x,p1,p2⟩:=h1.get (getElem?_eq_getElem g1);obtain⟨y,p3,p4⟩:=h2.get (getElem?_eq_getElem g2);obtain⟨w1,p5,p6⟩:=r1.get p1;obtain⟨w2,p7,p8⟩:=r2.get p3;have e1:its.toArray[j]=w1:=by
  have:=getElem?_eq_getElem q1;rw[p5]at this;simpa using (Option.some.inj this).symm
 have e2:its2.toArray[j]=w2:=by
  have:=getElem?_eq_getElem q2;rw[p7]at this;simpa using (Option.some.inj this).symm
 have e3:nY ts us j=eqT ts[j] us[j]:=by
  unfold nY;rw[getElem?_eq_getElem g1,getElem?_eq_getElem g2]
 rw[e1,e2,e3];exact ih _ _ x y w1 w2 (getElem_mem g1) (getElem_mem g2) p2 p4 p6 p8
theorem iu (h:t∈ts):dep t<=gW ts:=by
 obtain⟨j,hj,rfl⟩:=List.mem_iff_getElem.mp h;exact v7 (getElem?_eq_getElem hj)
theorem yd (h:ts.length=us.length):(List.range ts.length).all (nY ts us)=cJ ts us:=by
 have:=pD ts us;rw[<-h]at this;simpa using this
theorem wf:∀ {ts us:List T},ts.length≠us.length->cJ ts us=false
 | [],[],h=>absurd rfl h
 | [],_::_,_=>by simp[cJ]
 | _::_,[],_=>by simp[cJ]
 | t::ts,u::us,h=>by
  simp only[cJ];rw[wf (ts:=ts) (us:=us) (by simpa using h),Bool.and_false]
theorem QE (p2:au X.K H ts xs)(g2:au X.K H us ys)(q1:aO xs its)(q2:aO ys its2)(pl:PyProof.Rows.IsTup s.heap a its.toArray)(pl2:PyProof.Rows.IsTup s.heap b its2.toArray)(hu':A.units<cLine)
  (ih:∀ t u v1 v2 u1 u2,t∈ts->u∈us->aB X.K H t v1->aB X.K H u v2->RelV v1 u1->RelV v2 u2->SeqAt.EqAt A.in1 s u1 u2 (eqT t u)) :
  SeqAt.RcAt A s (.ref a) (.ref b) (cJ ts us)/\SeqAt.RcNeAt A s (.ref a) (.ref b) (!cJ ts us):=by
 have h1:=SeqAt.RcAt.tuples (A:=A) (e:=nY ts us) pl pl2 hu' (uY p2 g2 q1 q2 ih);have h2:=SeqAt.RcNeAt.tuples (A:=A) (e:=nY ts us) pl pl2 hu' (uY p2 g2 q1 q2 ih);rw[size_toArray,size_toArray,<-q1.length,<-q2.length,p2.length,g2.length,pD]at h1 h2;exact⟨h1,h2⟩
theorem QD (p2:au X.K H ts xs)(g2:au X.K H us ys)(q1:aO xs its)(q2:aO ys its2)(pl:PlainL s.heap a its.toArray)(pl2:PlainL s.heap b its2.toArray)(hu':A.units<cLine)
  (ih:∀ t u v1 v2 u1 u2,t∈ts->u∈us->aB X.K H t v1->aB X.K H u v2->RelV v1 u1->RelV v2 u2->SeqAt.EqAt A.in1 s u1 u2 (eqT t u)) :
  SeqAt.RcAt A s (.ref a) (.ref b) (cJ ts us)/\SeqAt.RcNeAt A s (.ref a) (.ref b) (!cJ ts us):=by
 have e1:its.toArray.size=ts.length:=by rw[size_toArray,<-q1.length,p2.length]
 have e2:its2.toArray.size=us.length:=by rw[size_toArray,<-q2.length,g2.length]
 by_cases hl:ts.length=us.length
 ·have hp:=uY (A:=A.in1) p2 g2 q1 q2 ih;have g1:=SeqAt.RcAt.lists pl.isList pl2.isList (by rw[e1,e2,hl]) hu' hp
  have g2:=SeqAt.RcNeAt.lists pl.isList pl2.isList (by rw[e1,e2,hl]) hu' hp
  rw[e1,yd hl]at g1 g2;exact⟨g1,g2⟩
 ·have ne:(its.toArray.size != its2.toArray.size)=true:=by rw[e1,e2];simpa using hl
  rw[wf hl];exact⟨SeqAt.RcAt.lists_lengths pl.isList pl2.isList ne hu',SeqAt.RcNeAt.lists_lengths pl.isList pl2.isList ne hu'⟩
theorem qg (I:aH X pins σ H s):∀ (n:Nat) (A:Around) (t u:T) (v1 v2:V) (u1 u2:Value),dep t<=n->dep u<1000->n<1000->A.units+n<cLine->aB X.K H t v1->aB X.K H u v2->RelV v1 u1->RelV v2 u2 →
  SeqAt.RcAt A s u1 u2 (eqT t u)/\SeqAt.RcNeAt A s u1 u2 (!eqT t u)/\SeqAt.EqAt A s u1 u2 (eqT t u):=by
 intro n
 induction n with
 | zero=>
  intro A t u v1 v2 u1 u2 hd hd2 hn hu h1 h2 r1 r2;have hu':A.units<cLine:=by omega
  cases t with
  | tup ts=>simp only[dep]at hd;omega
  | lst ts=>simp only[dep]at hd;omega
  | exc c=>simp[dep]at hd
  | non=>
   cases h1;cases r1
   cases u with
   | non=>cases h2;cases r2;exact⟨SeqAt.RcAt.none_none,SeqAt.RcNeAt.none_none,SeqAt.EqAt.same _⟩
   | bl b=>cases h2;cases r2;exact⟨SeqAt.RcAt.none_bool b,SeqAt.RcNeAt.none_bool b,SeqAt.EqAt.none_bool b⟩
   | int b=>cases h2;obtain⟨tk,rfl⟩:=r2;exact⟨SeqAt.RcAt.none_int b tk,SeqAt.RcNeAt.none_int b tk,SeqAt.EqAt.none_int b tk⟩
   | str b=>cases h2;obtain⟨tk,rfl⟩:=r2;exact⟨SeqAt.RcAt.none_str b tk,SeqAt.RcNeAt.none_str b tk,SeqAt.EqAt.none_str b tk⟩
   | tup us=>
    unfold aB at h2;obtain⟨a,xs,rfl,g1,g2⟩:=h2
    cases r2
    obtain⟨its,_,pl,_⟩:=I.tuple g1;exact⟨SeqAt.RcAt.none_tuple pl hu',SeqAt.RcNeAt.none_tuple pl hu',SeqAt.EqAt.none_tuple pl hu'⟩
   | lst us=>
    unfold aB at h2;obtain⟨a,xs,rfl,g1,g2⟩:=h2
    cases r2
    obtain⟨its,_,pl,_⟩:=I.list g1;exact⟨SeqAt.RcAt.none_list pl.isList hu',SeqAt.RcNeAt.none_list pl.isList hu',SeqAt.EqAt.none_list pl.isList hu'⟩
   | exc c=>simp[dep]at hd2
  | bl c=>
   cases h1;cases r1
   cases u with
   | non=>cases h2;cases r2;exact⟨SeqAt.RcAt.bool_none c,SeqAt.RcNeAt.bool_none c,SeqAt.EqAt.bool_none c⟩
   | bl b=>cases h2;cases r2;exact⟨SeqAt.RcAt.bool_bool c b,SeqAt.RcNeAt.bool_bool c b,SeqAt.EqAt.bool_bool c b⟩
   | int b=>cases h2;obtain⟨tk,rfl⟩:=r2;exact⟨SeqAt.RcAt.bool_int c b tk,SeqAt.RcNeAt.bool_int c b tk,SeqAt.EqAt.bool_int c b tk⟩
   | str b=>cases h2;obtain⟨tk,rfl⟩:=r2;exact⟨SeqAt.RcAt.bool_str c b tk,SeqAt.RcNeAt.bool_str c b tk,SeqAt.EqAt.bool_str c b tk⟩
   | tup us=>
    unfold aB at h2;obtain⟨a,xs,rfl,g1,g2⟩:=h2
    cases r2
    obtain⟨its,_,pl,_⟩:=I.tuple g1;exact⟨SeqAt.RcAt.bool_tuple c pl hu',SeqAt.RcNeAt.bool_tuple c pl hu',SeqAt.EqAt.bool_tuple c pl hu'⟩
   | lst us=>
    unfold aB at h2;obtain⟨a,xs,rfl,g1,g2⟩:=h2
    cases r2
    obtain⟨its,_,pl,_⟩:=I.list g1;exact⟨SeqAt.RcAt.bool_list c pl.isList hu',SeqAt.RcNeAt.bool_list c pl.isList hu',SeqAt.EqAt.bool_list c pl.isList hu'⟩
   | exc c=>simp[dep]at hd2
  | int c=>
   cases h1;obtain⟨tk1,rfl⟩:=r1
   cases u with
   | non=>cases h2;cases r2;exact⟨SeqAt.RcAt.int_none c tk1,SeqAt.RcNeAt.int_none c tk1,SeqAt.EqAt.int_none c tk1⟩
   | bl b=>cases h2;cases r2;exact⟨SeqAt.RcAt.int_bool c tk1 b,SeqAt.RcNeAt.int_bool c tk1 b,SeqAt.EqAt.int_bool c tk1 b⟩
   | int b=>cases h2;obtain⟨tk,rfl⟩:=r2;exact⟨SeqAt.RcAt.int_int c tk1 b tk,SeqAt.RcNeAt.int_int c tk1 b tk,SeqAt.EqAt.int_int c tk1 b tk⟩
   | str b=>cases h2;obtain⟨tk,rfl⟩:=r2;exact⟨SeqAt.RcAt.int_str c tk1 b tk,SeqAt.RcNeAt.int_str c tk1 b tk,SeqAt.EqAt.int_str c tk1 b tk⟩
   | tup us=>
    unfold aB at h2;obtain⟨a,xs,rfl,g1,g2⟩:=h2
    cases r2
    obtain⟨its,_,pl,_⟩:=I.tuple g1;exact⟨SeqAt.RcAt.int_tuple c tk1 pl hu',SeqAt.RcNeAt.int_tuple c tk1 pl hu',SeqAt.EqAt.int_tuple c tk1 pl hu'⟩
   | lst us=>
    unfold aB at h2;obtain⟨a,xs,rfl,g1,g2⟩:=h2
    cases r2
    obtain⟨its,_,pl,_⟩:=I.list g1;exact⟨SeqAt.RcAt.int_list c tk1 pl.isList hu',SeqAt.RcNeAt.int_list c tk1 pl.isList hu',SeqAt.EqAt.int_list c tk1 pl.isList hu'⟩
   | exc c=>simp[dep]at hd2
  | str c=>
   cases h1;obtain⟨tk1,rfl⟩:=r1
   cases u with
   | non=>cases h2;cases r2;exact⟨SeqAt.RcAt.str_none c tk1,SeqAt.RcNeAt.str_none c tk1,SeqAt.EqAt.str_none c tk1⟩
   | bl b=>cases h2;cases r2;exact⟨SeqAt.RcAt.str_bool c tk1 b,SeqAt.RcNeAt.str_bool c tk1 b,SeqAt.EqAt.str_bool c tk1 b⟩
   | int b=>cases h2;obtain⟨tk,rfl⟩:=r2;exact⟨SeqAt.RcAt.str_int c tk1 b tk,SeqAt.RcNeAt.str_int c tk1 b tk,SeqAt.EqAt.str_int c tk1 b tk⟩
   | str b=>cases h2;obtain⟨tk,rfl⟩:=r2;exact⟨SeqAt.RcAt.str_str c tk1 b tk,SeqAt.RcNeAt.str_str c tk1 b tk,SeqAt.EqAt.str_str c tk1 b tk⟩
   | tup us=>
    unfold aB at h2;obtain⟨a,xs,rfl,g1,g2⟩:=h2
    cases r2
    obtain⟨its,_,pl,_⟩:=I.tuple g1;exact⟨SeqAt.RcAt.str_tuple c tk1 pl hu',SeqAt.RcNeAt.str_tuple c tk1 pl hu',SeqAt.EqAt.str_tuple c tk1 pl hu'⟩
   | lst us=>
    unfold aB at h2;obtain⟨a,xs,rfl,g1,g2⟩:=h2
    cases r2
    obtain⟨its,_,pl,_⟩:=I.list g1;exact⟨SeqAt.RcAt.str_list c tk1 pl.isList hu',SeqAt.RcNeAt.str_list c tk1 pl.isList hu',SeqAt.EqAt.str_list c tk1 pl.isList hu'⟩
   | exc c=>simp[dep]at hd2
 | succ n ih=>
  intro A t u v1 v2 u1 u2 hd hd2 hn hu h1 h2 r1 r2;have hu':A.units<cLine:=by omega
  have ih:=fun A t u v1 v2 u1 u2 a b=>ih A t u v1 v2 u1 u2 a b (by omega)
  cases t with
  | tup ts=>
   unfold aB at h1;obtain⟨a,xs,rfl,p1,p2⟩:=h1
   cases r1
   obtain⟨its,q1,pl,_⟩:=I.tuple p1
   cases u with
   | tup us=>
    unfold aB at h2;obtain⟨b,ys,rfl,g1,g2⟩:=h2
    cases r2
    obtain⟨its2,q2,pl2,_⟩:=I.tuple g1;simp only[dep]at hd hd2;have rr:SeqAt.RcAt A s (.ref a) (.ref b) (cJ ts us)/\SeqAt.RcNeAt A s (.ref a) (.ref b) (!cJ ts us):=
     QE p2 g2 q1 q2 pl pl2 hu' fun t u v1 v2 u1 u2 ht hu2 k1 k2 k3 k4=>
      (ih A.in1 t u v1 v2 u1 u2 (by have:=iu ht;omega) (by have:=iu hu2;omega) (by rw[units_in1];omega) k1 k2 k3 k4).2.2
    refine⟨by simpa only [eqT] using rr.1,by simpa only [eqT] using rr.2,?_⟩
    by_cases hab:a=b
    ·subst hab;have:=I.tuple_inj p1 g1;subst this;have:=au.inj I ts us xs (by omega) (by omega) p2 g2
     subst this;rw[pC _ (by simp only[dep];omega)]
     exact SeqAt.EqAt.same _
    ·simp only[eqT];exact SeqAt.EqAt.of_refs hab rr.1
   | lst us=>
    unfold aB at h2;obtain⟨b,ys,rfl,g1,g2⟩:=h2
    cases r2
    obtain⟨its2,q2,pl2,_⟩:=I.list g1;exact⟨SeqAt.RcAt.tuple_list pl pl2.isList hu',SeqAt.RcNeAt.tuple_list pl pl2.isList hu',SeqAt.EqAt.tuple_list pl pl2.isList hu'⟩
   | non=>cases h2;cases r2;exact⟨SeqAt.RcAt.tuple_none pl hu',SeqAt.RcNeAt.tuple_none pl hu',SeqAt.EqAt.tuple_none pl hu'⟩
   | bl b=>cases h2;cases r2;exact⟨SeqAt.RcAt.tuple_bool b pl hu',SeqAt.RcNeAt.tuple_bool b pl hu',SeqAt.EqAt.tuple_bool b pl hu'⟩
   | int b=>cases h2;obtain⟨tk,rfl⟩:=r2;exact⟨SeqAt.RcAt.tuple_int b tk pl hu',SeqAt.RcNeAt.tuple_int b tk pl hu',SeqAt.EqAt.tuple_int b tk pl hu'⟩
   | str b=>cases h2;obtain⟨tk,rfl⟩:=r2;exact⟨SeqAt.RcAt.tuple_str b tk pl hu',SeqAt.RcNeAt.tuple_str b tk pl hu',SeqAt.EqAt.tuple_str b tk pl hu'⟩
   | exc c=>simp[dep]at hd2
  | lst ts=>
   unfold aB at h1;obtain⟨a,xs,rfl,p1,p2⟩:=h1
   cases r1
   obtain⟨its,q1,pl,_⟩:=I.list p1
   cases u with
   | lst us=>
    unfold aB at h2;obtain⟨b,ys,rfl,g1,g2⟩:=h2
    cases r2
    obtain⟨its2,q2,pl2,_⟩:=I.list g1;simp only[dep]at hd hd2;have rr:SeqAt.RcAt A s (.ref a) (.ref b) (cJ ts us)/\SeqAt.RcNeAt A s (.ref a) (.ref b) (!cJ ts us):=
     QD p2 g2 q1 q2 pl pl2 hu' fun t u v1 v2 u1 u2 ht hu2 k1 k2 k3 k4=>
      (ih A.in1 t u v1 v2 u1 u2 (by have:=iu ht;omega) (by have:=iu hu2;omega) (by rw[units_in1];omega) k1 k2 k3 k4).2.2
    refine⟨by simpa only [eqT] using rr.1,by simpa only [eqT] using rr.2,?_⟩
    by_cases hab:a=b
    ·subst hab;have:=I.list_inj p1 g1;subst this;have:=au.inj I ts us xs (by omega) (by omega) p2 g2
     subst this;rw[pC _ (by simp only[dep];omega)]
     exact SeqAt.EqAt.same _
    ·simp only[eqT];exact SeqAt.EqAt.of_refs hab rr.1
   | tup us=>
    unfold aB at h2;obtain⟨b,ys,rfl,g1,g2⟩:=h2
    cases r2
    obtain⟨its2,q2,pl2,_⟩:=I.tuple g1;exact⟨SeqAt.RcAt.list_tuple pl.isList pl2 hu',SeqAt.RcNeAt.list_tuple pl.isList pl2 hu',SeqAt.EqAt.list_tuple pl.isList pl2 hu'⟩
   | non=>cases h2;cases r2;exact⟨SeqAt.RcAt.list_none pl.isList hu',SeqAt.RcNeAt.list_none pl.isList hu',SeqAt.EqAt.list_none pl.isList hu'⟩
   | bl b=>cases h2;cases r2;exact⟨SeqAt.RcAt.list_bool b pl.isList hu',SeqAt.RcNeAt.list_bool b pl.isList hu',SeqAt.EqAt.list_bool b pl.isList hu'⟩
   | int b=>cases h2;obtain⟨tk,rfl⟩:=r2;exact⟨SeqAt.RcAt.list_int b tk pl.isList hu',SeqAt.RcNeAt.list_int b tk pl.isList hu',SeqAt.EqAt.list_int b tk pl.isList hu'⟩
   | str b=>cases h2;obtain⟨tk,rfl⟩:=r2;exact⟨SeqAt.RcAt.list_str b tk pl.isList hu',SeqAt.RcNeAt.list_str b tk pl.isList hu',SeqAt.EqAt.list_str b tk pl.isList hu'⟩
   | exc c=>simp[dep]at hd2
  | exc c=>simp only[dep]at hd;omega
  | non=>exact ih A _ u v1 v2 u1 u2 (by simp only[dep];omega) hd2 (by omega) h1 h2 r1 r2
  | bl c=>exact ih A _ u v1 v2 u1 u2 (by simp only[dep];omega) hd2 (by omega) h1 h2 r1 r2
  | int c=>exact ih A _ u v1 v2 u1 u2 (by simp only[dep];omega) hd2 (by omega) h1 h2 r1 r2
  | str c=>exact ih A _ u v1 v2 u1 u2 (by simp only[dep];omega) hd2 (by omega) h1 h2 r1 r2
end
end DL
namespace DL
open PySem L2
def sh (s:S):Prop:=dep (tr s)<=20
def Q7 (a b:S):Bool:=eqT (tr a) (tr b)
def dU:S->S->(S->Prop)->Prop:=fun a b R=>sh a/\sh b/\R (.t (.bl (Q7 a b)))
def dW:S->S->(S->Prop)->Prop:=fun a b R=>sh a/\sh b/\R (.t (.bl (!Q7 a b)))
abbrev tm:=ao dU
abbrev ON:=ao dW
def Kd (K:Frg)(neg:Bool):R2:=fun x y H Q=>∃ a b,dep a<=20/\dep b<=20/\aB K H a x/\aB K H b y/\Q (.bl (if neg then !eqT a b else eqT a b)) H
def IN (x:T)(ts:List T):Bool:=ts.any fun t=>eqT t x
def pG:S->S->(S->Prop)->Prop:=fun a b R=>match tr b with
 | .lst ts=>sh a/\gW ts<=20/\R (.t (.bl (!IN (tr a) ts)))
 | .tup ts=>sh a/\gW ts<=20/\R (.t (.bl (!IN (tr a) ts)))
 | _=>False
abbrev Hd:=ao pG
def Qx (K:Frg)(neg:Bool):R2:=fun x y H Q=>∃ a p xs ts,dep a<=20/\gW ts<=20/\aB K H a x/\y=.ref p/\(df K H p xs\/j6 K H p xs)/\au K H ts xs/\Q (.bl (if neg then !IN a ts else IN a ts)) H
def KU:T->Bool
 | .non=>true
 | _=>false
def Hb (wa:WE):WE:=fun δ R=>wa δ fun s=>R (.t (.bl (KU (tr s))))
def tu (wa:WE):WE:=fun δ R=>wa δ fun s=>R (.t (.bl (!KU (tr s))))
section
variable {X:Cx}
theorem Gn (hu:X.A.units+64<cLine):mm X (compareOp .Eq) (Kd X.K false):=by
 intro pins s σ H x y v u Q I rx ry h;obtain⟨a,b,h1,h2,p1,p2,q⟩:=h;exact(qg I 20 X.A a b x y v u h1 (by omega) (by omega) (by omega) p1 p2 rx ry).1 X.prog X.w X.xe _ ⟨.bl _,H,I,rfl,q⟩
theorem Nu (hu:X.A.units+64<cLine):mm X (compareOp .NotEq) (Kd X.K true):=by
 intro pins s σ H x y v u Q I rx ry h;obtain⟨a,b,h1,h2,p1,p2,q⟩:=h;exact(qg I 20 X.A a b x y v u h1 (by omega) (by omega) (by omega) p1 p2 rx ry).2.1 X.prog X.w X.xe _ ⟨.bl _,H,I,rfl,q⟩
theorem Gm:Ho K (Kd K false) dU:=fun F H s1 s2 v1 v2 R Q sb fu p1 p2 h k=>⟨tr s1,tr s2,h.1,h.2.1,p1.tree sb,p2.tree sb,k _ F H (.t (.bl _)) (dw.refl sb fu) rfl h.2.2⟩
theorem Nq:Ho K (Kd K true) dW:=fun F H s1 s2 v1 v2 R Q sb fu p1 p2 h k=>⟨tr s1,tr s2,h.1,h.2.1,p1.tree sb,p2.tree sb,k _ F H (.t (.bl _)) (dw.refl sb fu) rfl h.2.2⟩
noncomputable def ID (X:Cx) (H:Hp) (a:T) (ts:List T) (u:Value):Bool:=open Classical in decide (∃ t v,t∈ts/\aB X.K H t v/\RelV v u/\eqT t a=true)
theorem GI (h:RelV v u)(g:RelV w u):v=w:=RelV.inj h g
theorem Dr (I:aH X pins σ H s)(hd:gW ts<1000)(ht:t∈ts)(h:aB X.K H t v)(r:RelV v u):ID X H a ts u=eqT t a:=by
 unfold ID
 cases e:eqT t a with
 | true=>exact @decide_eq_true _ (Classical.propDecidable _) ⟨t,v,ht,h,r,e⟩
 | false=>
  refine @decide_eq_false _ (Classical.propDecidable _) ?_;rintro⟨t',v',ht',h',r',e'⟩;have:=GI r r';subst this;have d1:=iu ht;have d2:=iu ht';have:=aB.inj I t t' v (by omega) (by omega) h h'
  subst this;rw[e]at e';cases e'
theorem zZ (I:aH X pins σ H s)(hd:gW us<1000):∀ {ts:List T}{xs:List V}{its:List Value},(∀ t∈ts,t∈us)->au X.K H ts xs->aO xs its->its.any (ID X H a us)=ts.any fun t=>eqT t a
 | [],_,_,_,h,r=>by cases (show _=[] from h);cases r;rfl
 | t::ts,_,_,hm,⟨x,r,e,p,q⟩,rv=>by
  subst e
  cases rv with
  | cons r1 r2=>
   rw[List.any_cons,List.any_cons,Dr I hd (hm t mem_cons_self) p r1,zZ I hd (fun z hz=>hm z (mem_cons_of_mem _ hz)) q r2]
theorem wR:∀ {ts:List T}{xs:List V}{its:List Value}{u:Value},au K H ts xs->aO xs its->u∈its->∃ t v,t∈ts/\aB K H t v/\RelV v u
 | [],_,_,_,h,r,m=>by cases (show _=[] from h);cases r;cases m
 | t::ts,_,_,_,⟨x,r,e,p,q⟩,rv,m=>by
  subst e
  cases rv with
  | cons r1 r2=>
   rcases mem_cons.mp m with rfl|m
   ·exact⟨t,x,mem_cons_self,p,r1⟩
   ·obtain⟨t',v',h1,h2,h3⟩:=wR q r2 m;exact⟨t',v',mem_cons_of_mem _ h1,h2,h3⟩
theorem wD (I:aH X pins σ H s)(hu:X.A.units+64<cLine)(h1:dep a<=20)(h2:gW ts<=20)(p1:aB X.K H a x)(rx:RelV x v)(p2:au X.K H ts xs)(r:aO xs its) :
  (∀ y,y∈its.toArray->SeqAt.EqAt X.A.in1 s y v (ID X H a ts y))/\its.toArray.any (ID X H a ts)=IN a ts:=by
 refine⟨fun y hy=>?_,?_⟩
 ·obtain⟨t,w,m1,m2,m3⟩:=wR p2 r (by simpa using hy)
  have d:=iu m1;rw[Dr I (by omega) m1 m2 m3]
  exact(qg I 20 X.A.in1 t a w x y v (by omega) (by omega) (by omega) (by rw[units_in1];omega) m2 p1 m3 rx).2.2
 ·rw[show its.toArray.any (ID X H a ts)=its.any (ID X H a ts) by simp,zZ I (by omega) (fun _ h=>h) p2 r]
  rfl
theorem Ca (hu:X.A.units+64<cLine):mm X (compareOp .NotIn) (Qx X.K true):=by
 intro pins s σ H x y v u Q I rx ry h;obtain⟨a,p,xs,ts,h1,h2,p1,rfl,hq,p2,q⟩:=h
 cases ry
 rcases hq with hq|hq
 ·obtain⟨its,r,pl,hz⟩:=I.list hq;obtain⟨g1,g2⟩:=wD I hu h1 h2 p1 rx p2 r;refine SeqAt.notIn_listAt (ID X H a ts) pl.isList g1 ⟨.bl _,H,I,rfl,?_⟩;rw[g2];exact q
 ·obtain⟨its,r,pl,hz⟩:=I.tuple hq;obtain⟨g1,g2⟩:=wD I hu h1 h2 p1 rx p2 r;refine SeqAt.notIn_tupleAt (ID X H a ts) pl g1 ⟨.bl _,H,I,rfl,?_⟩;rw[g2];exact q
theorem B9:Ho K (Qx K true) pG:=fun F H s1 s2 v1 v2 R Q sb fu p1 p2 h k=>by
 have t2:=p2.tree sb;unfold pG at h
 split at h
 ·rename_i ts e;rw[e]at t2;unfold aB at t2;obtain⟨p,xs,q1,q2,q3⟩:=t2;exact⟨tr s1,p,xs,ts,h.1,h.2.1,p1.tree sb,q1,.inl q2,q3,k _ F H (.t (.bl _)) (dw.refl sb fu) rfl h.2.2⟩
 ·rename_i ts e;rw[e]at t2;unfold aB at t2;obtain⟨p,xs,q1,q2,q3⟩:=t2;exact⟨tr s1,p,xs,ts,h.1,h.2.1,p1.tree sb,q1,.inr q2,q3,k _ F H (.t (.bl _)) (dw.refl sb fu) rfl h.2.2⟩
 ·exact h.elim
variable {a b:Expr}{wa wb:WE}{pos:Pos}
theorem PD (hr:cb k X.A)(ha:PE X a (av X.K wa))(hb:PE X b (av X.K wb)):PE X (.Compare a [.Eq] [b] pos) (av X.K (tm wa wb)):=(Aw (Gn hr.units) ha hb (gD _)).imp (cN Gm)
theorem eV (hr:cb k X.A)(ha:PE X a (av X.K wa))(hb:PE X b (av X.K wb)):PT X (.Compare a [.Eq] [b] pos) (liftT X.K (wB (tm wa wb))):=kF (Gn hr.units) Gm ha hb (gD _)
theorem v9 (hr:cb k X.A)(ha:PE X a (av X.K wa))(hb:PE X b (av X.K wb)):PT X (.Compare a [.NotEq] [b] pos) (liftT X.K (wB (ON wa wb))):=kF (Nu hr.units) Nq ha hb (gD _)
theorem Dp (hr:cb k X.A)(ha:PE X a (av X.K wa))(hb:PE X b (av X.K wb))(hm:behindInMarks .NotIn b=false:=by rfl):PT X (.Compare a [.NotIn] [b] pos) (liftT X.K (wB (Hd wa wb))):=kF (Ca hr.units) B9 ha hb hm
theorem EC (h:aB K H t v):decide (v=.non)=KU t:=by
 cases t <;> first
  | (cases h;rfl)
  | (unfold aB at h;obtain⟨_,_,rfl,_⟩:=h;rfl)
  | (unfold aB at h;obtain⟨_,rfl,_⟩:=h;rfl)
theorem EO:∀ σ H Q,av K (Hb wa) σ H Q->Oc (fun x y H Q=>y=.non/\Q (.bl (decide (x=.non))) H) (av K wa) (av K (wC .non)) σ H Q:=by
 rintro σ H Q ⟨δ,R,F,rl,h,k⟩;refine⟨δ,_,F,rl,h,fun v1 F1 H1 s1 e1 p1 h1=>?_⟩;refine⟨δ,fun s=>s=.t .non,F1,rl.ext e1,rfl,fun v2 F2 H2 s2 e2 p2 h2=>?_⟩;subst h2;refine⟨p2,k _ F2 H2 (.t (.bl (KU (tr s1)))) (e1.trans e2) ?_ h1⟩;show _=_;rw[EC (((p1.ext e2).val e2.sub).tree e2.sub)]
theorem BK:∀ σ H Q,av K (tu wa) σ H Q->Oc (fun x y H Q=>y=.non/\Q (.bl (!decide (x=.non))) H) (av K wa) (av K (wC .non)) σ H Q:=by
 rintro σ H Q ⟨δ,R,F,rl,h,k⟩;refine⟨δ,_,F,rl,h,fun v1 F1 H1 s1 e1 p1 h1=>?_⟩;refine⟨δ,fun s=>s=.t .non,F1,rl.ext e1,rfl,fun v2 F2 H2 s2 e2 p2 h2=>?_⟩;subst h2;refine⟨p2,k _ F2 H2 (.t (.bl (!KU (tr s1)))) (e1.trans e2) ?_ h1⟩;show _=_;rw[EC (((p1.ext e2).val e2.sub).tree e2.sub)]
theorem Do (ha:PE X a (av X.K wa)):PT X (.Compare a [.Is] [.Constant .none j p] pos) (liftT X.K (wB (Hb wa))):=
 (u4 Nt ha tY (gD _)).imp fun σ H Q ⟨δ,R,F,rl,h,k⟩=>by
  refine EO σ H _ ⟨δ,_,F,rl,h,fun v F1 H1 s e p q=>?_⟩
  split at q
  ·exact⟨_,p,k F1 H1 _ e q⟩
  ·exact q.elim
theorem t4 (ha:PE X a (av X.K wa)):PT X (.Compare a [.IsNot] [.Constant .none j p] pos) (liftT X.K (wB (tu wa))):=
 (u4 JJ ha tY (gD _)).imp fun σ H Q ⟨δ,R,F,rl,h,k⟩=>by
  refine BK σ H _ ⟨δ,_,F,rl,h,fun v F1 H1 s e p q=>?_⟩
  split at q
  ·exact⟨_,p,k F1 H1 _ e q⟩
  ·exact q.elim
end
inductive Ty where
 | non|bool|int|str|tup|lst|exc
def Ty.nm:Ty->String
 | .non=>"NoneType" | .bool=>"bool" | .int=>"int" | .str=>"str" | .tup=>"tuple" | .lst=>"list" | .exc=>""
def SL:T->Ty
 | .non=>.non
 | .bl _=>.bool
 | .int _=>.int
 | .str _=>.str
 | .tup _=>.tup
 | .lst _=>.lst
 | .exc _=>.exc
def Ct (s:S):Ty:=SL (tr s)
def cF:Ty->Ty->Bool
 | .non,.non=>true
 | .bool,.bool=>true
 | .bool,.int=>true
 | .int,.int=>true
 | .str,.str=>true
 | .tup,.tup=>true
 | .lst,.lst=>true
 | _,_=>false
def SN (ty:Ty)(we:WE):WE:=fun δ R=>we δ fun s=>Ct s≠.exc/\R (.t (.bl (cF (Ct s) ty)))
section
variable {X:Cx}
variable {e:Expr}{we:WE}{pos p p2:Pos}
end
theorem ED (h:j6 K F a xs)(r:au K F ts xs):Hm K F (Rh K a) ts:=by
 intro F1 H1 i f1 sb fu;have q:j6 K H1 a xs:=Same.sqT sb _ _ (Same.sqT f1 _ _ h);refine⟨fun t ht=>?_,fun hl=>⟨xs,q,by rw[r.length];exact hl⟩⟩
 obtain⟨x,h1,h2⟩:=r.get ht;refine⟨⟨xs,x,q,h1⟩,fun y H2 hy=>?_⟩;obtain⟨e,hy⟩:=hy;subst e;have:=hy xs q;rw[h1]at this
 cases this
 exact⟨F1,dw.refl sb fu,aB.same f1 h2⟩
def bW (lo:Int)(n:Nat):List T:=(List.range n).map fun (k:Nat)=>.int (lo+(k:Int))
theorem MP (lo:Int)(n:Nat):Hm K F (Q3 lo n) (bW lo n):=by
 intro F1 H1 i f1 sb fu;refine⟨fun t ht=>?_,fun hl=>(by simpa [bW] using hl:n<=i)⟩
 unfold bW at ht;rw[getElem?_map]at ht
 cases e:(List.range n)[i]? with
 | none=>rw[e]at ht;cases ht
 | some k=>
  rw[e]at ht;have hk:k=i/\i<n:=by
   rw[List.getElem?_eq_some_iff]at e;obtain⟨h1,h2⟩:=e;simp at h1 h2;exact⟨h2.symm,h1⟩
  obtain⟨rfl,hn⟩:=hk;have et:t=.int (lo+k):=by simpa using ht.symm
  refine⟨hn,fun x H2 hy=>?_⟩;obtain⟨e1,e2⟩:=hy;subst e1;subst e2;exact⟨F1,dw.refl sb fu,by rw[et];rfl⟩
def QK (δ:a8)(W:List T->a8->Prop):S->Prop
 | .t (.tup ts)=>W ts δ
 | .vt (.tup ts)=>W ts (freeze δ)
 | _=>False
def Hg (we:WE):WI:=fun δ W=>we δ fun s=>QK δ W s
def kg (i:Int):Prop:=-(2 ^ 62)<=i/\i<2 ^ 62
def fV (wa:WA):WI:=fun δ W=>wa δ fun ss=>match ss with
 | [.t (.int j)]=>kg j/\W (bW 0 j.toNat) δ
 | _=>False
def Ov (wa:WA):WI:=fun δ W=>wa δ fun ss=>match ss with
 | [.t (.int i),.t (.int j)]=>kg i/\kg j/\W (bW i (j-i).toNat) δ
 | _=>False
section
variable {X:Cx}{e e2 tg:Expr}{we:WE}{wa:WA}{p pos:Pos}
theorem bR (he:PE X e (av X.K we)):PI X tg e (pQ X.K (cm we)):=
 (JP he).imp fun σ H R ⟨δ,W,F,rl,h,k⟩=>⟨δ,_,F,rl,h,fun v F1 H1 s ex p q=>by
  unfold sA at q
  split at q
  ·unfold dG aB at p;obtain⟨a,xs,rfl,h1,h2⟩:=p;exact⟨a,rfl,⟨xs,ex.sub.seq h1⟩,k _ F1 F1 H1 _ δ ex (Same.refl _) (rl.ext ex) (uI h1 h2) q⟩
  ·unfold dG aB at p;obtain⟨a,xs,rfl,h1,h2⟩:=p;exact⟨a,rfl,⟨xs,h1⟩,k _ F1 H1 H1 _ (freeze δ) ex ex.sub (rl.ext ex).freeze (uI h1 h2) q⟩
  ·obtain⟨rl2,sm,a,xs,rfl,g1,g2⟩:=rl.thaw ex p;exact⟨a,rfl,⟨xs,rl2.sub.seq g1⟩,k _ _ _ H1 _ δ (ex.frozen rl.sub).1 (Same.refl _) rl2 (uI g1 g2) q⟩
  ·exact q.elim⟩
theorem Mp (he:PE X e (av X.K we)):PI X tg e (pQ X.K (Hg we)):=
 (NJ he).imp fun σ H R ⟨δ,W,F,rl,h,k⟩=>⟨δ,_,F,rl,h,fun v F1 H1 s ex p q=>by
  unfold QK at q
  split at q
  ·unfold dG aB at p;obtain⟨a,xs,rfl,h1,h2⟩:=p;exact⟨a,rfl,⟨xs,Same.sqT ex.sub _ _ h1⟩,k _ F1 F1 H1 _ δ ex (Same.refl _) (rl.ext ex) (ED h1 h2) q⟩
  ·unfold dG aB at p;obtain⟨a,xs,rfl,h1,h2⟩:=p;exact⟨a,rfl,⟨xs,h1⟩,k _ F1 H1 H1 _ (freeze δ) ex ex.sub (rl.ext ex).freeze (ED h1 h2) q⟩
  ·exact q.elim⟩
theorem cV (hm:X.mg "range"=none) (ha:PA X [e] (dM X.K wa)) (hg:Gl X "range":=by rfl) (hs:starEach [e] X.env=[(false,eval e X.env)]:=by rfl):PI X tg (.Call (.Name "range" p) [e] [] pos) (pQ X.K (fV wa)):=
 (Cd hg hm ha hs).imp fun σ H R ⟨δ,W,F,rl,h,k⟩=>⟨δ,_,F,rl,h,fun vs F1 H1 ss ex p q=>by
  split at q
  ·obtain⟨v,r,rfl,p1,p2⟩:=p
   cases (show r=[] from p2)
   cases (show v=_ from p1)
   obtain⟨⟨q1,q2⟩,q3⟩:=q;exact⟨_,rfl,q1,q2,k _ F1 F1 H1 _ δ ex (Same.refl _) (rl.ext ex) (MP 0 _) q3⟩
  ·exact q.elim⟩
end
end DL
namespace L2
open PySem PySem.Spec PyProof.Rows
theorem kC:∀ (names:List (Str × NameKind)) (cs:List (Str × Addr)),(∀ y∈names,y.2=.free->∃ c,env.cells.lookup y.1=some c)->(∀ x c,cs.lookup x=some c->env.cells.lookup x=some c) →
  ∃ cl:List (Str × Addr),(forIn names cs (fun (y:Str × NameKind) (r:List (Str × Addr))=>(if (y.2 == NameKind.free)=true then (cellOf env y.1 >>= fun a=>pure (ForInStep.yield ((y.1,a)::r))) else pure (ForInStep.yield r):Sem (ForInStep (List (Str × Addr))))))=(pure cl:Sem (List (Str × Addr))) ∧
   (∀ x c,cl.lookup x=some c->env.cells.lookup x=some c)/\(∀ x,(cs.lookup x).isSome=true->(cl.lookup x).isSome=true)/\∀ y∈names,y.2=.free->(cl.lookup y.1).isSome=true
 | [],cs,_,hc=>⟨cs,by rw[List.forIn_nil],hc,fun _ h=>h,fun y hy=>by cases hy⟩
 | (n,k)::r,cs,h,hc=>by
  by_cases hk:(k == NameKind.free)=true
  ·have hk':k=.free:=by simpa using hk
   obtain⟨a,ha⟩:=h (n,k) mem_cons_self hk';obtain⟨cl,h1,h2,h3,h4⟩:=kC (env:=env) r ((n,a)::cs) (fun y hy=>h y (mem_cons_of_mem _ hy)) (fun x c e=>by
    rw[lookup_cons]at e
    split at e
    ·rename_i z;have:x=n:=by simpa using z
     subst this
     cases e
     exact ha
    ·exact hc x c e)
   have up:∀ x,(cs.lookup x).isSome=true->(((n,a)::cs).lookup x).isSome=true:=fun x z=>by
    rw[lookup_cons]
    split
    ·rfl
    ·exact z
   refine⟨cl,?_,h2,fun x z=>h3 x (up x z),fun y hy hf=>?_⟩
   ·rw[List.forIn_cons];simp only[hk,if_true];have:cellOf env n=pure a:=by unfold cellOf;rw[ha]
    rw[this];exact h1
   ·rcases mem_cons.mp hy with e|e
    ·subst e;exact h3 n (by rw[lookup_cons];simp)
    ·exact h4 y e hf
  ·obtain⟨cl,h1,h2,h3,h4⟩:=kC (env:=env) r cs (fun y hy=>h y (mem_cons_of_mem _ hy)) hc;refine⟨cl,?_,h2,h3,fun y hy hf=>?_⟩
   ·rw[List.forIn_cons];simp only[hk,if_false];exact h1
   ·rcases mem_cons.mp hy with e|e
    ·subst e;exact absurd (by simpa using hf) hk
    ·exact h4 y e hf
theorem xY (h:∀ y∈scope.names,y.2=.free->∃ c,env.cells.lookup y.1=some c) :
  ∃ cl,closureFor scope env=pure cl/\(∀ x c,cl.lookup x=some c->env.cells.lookup x=some c)/\∀ y∈scope.names,y.2=.free->(cl.lookup y.1).isSome=true:=by
 obtain⟨cl,h1,h2,_,h4⟩:=kC (env:=env) scope.names [] h (fun x c e=>by cases e)
 refine⟨cl,?_,h2,h4⟩;unfold closureFor;exact(congrArg (fun z=>z >>= fun r=>pure r) h1)
structure i7 (N:List Str) (no:Nat) (fr:List Nat) (NX:List Str) (sc around:Scope):Prop where
 kind:sc.kind=.function
 nocell:∀ y∈sc.names,y.2≠.cell
 nd:N.Nodup
 len:N.length=no+fr.length
 loc:∀ y∈sc.names,y.2=.local->sc.names.lookup y.1=some .local
 free:∀ y∈sc.names,y.2=.free->around.names.lookup y.1=some .cell
 own:∀ (i:Nat) (x:Str),N[i]?=some x->i<no->sc.names.lookup x=some .local
 out:∀ (j i:Nat) (x:Str),fr[j]?=some i->N[no+j]?=some x->NX[i]?=some x/\sc.names.lookup x=some .free
def Hh (own:Nat)(fr:List Nat)(σ:St):St:=replicate own none++fr.map fun i=>(σ[i]?).join
def de (X:Cx)(N:List Str)(scope:Scope)(cl:List (Str × Addr))(s:Shared)(H:Hp)(fp:List Addr):Cx:=
 {X with N:=N,s₀:=s,H₀:=H,env:=compEnvC scope cl s.heap.objs.size X.env,outer:=X.stack,ex:=fp,fn:=fun _=>false,pn:=[],xe:=fun _ _=>False}
theorem kI {env:Env}:∀ (names:List (Str × NameKind)) (x:Str),(names.map fun (n,k)=>if (k == NameKind.free && env.scope.kind == .function && env.kindOf n == some .cell) then (n,NameKind.cell) else (n,k)).lookup x =
  (names.lookup x).map fun k=>if (k == NameKind.free && env.scope.kind == .function && env.kindOf x == some .cell) then NameKind.cell else k
 | [],_=>rfl
 | (n,k)::r,x=>by
  rw[map_cons];show List.lookup x ((if (k == NameKind.free && env.scope.kind == .function && env.kindOf n == some .cell)=true then (n,NameKind.cell) else (n,k))::_)=_
  cases hx:x == n with
  | true=>
   have e:x=n:=by simpa using hx
   subst e
   by_cases hc:(k == NameKind.free && env.scope.kind == .function && env.kindOf x == some .cell)=true
   ·rw[if_pos hc];simp only[lookup_cons,hx];simp only[map_some,hc,if_true]
   ·rw[if_neg hc];simp only[lookup_cons,hx];simp only[map_some];rw[if_neg hc]
  | false=>
   by_cases hc:(k == NameKind.free && env.scope.kind == .function && env.kindOf n == some .cell)=true
   ·rw[if_pos hc];simp only[lookup_cons,hx];exact kI r x
   ·rw[if_neg hc];simp only[lookup_cons,hx];exact kI r x
theorem GJ (x:Str):(relabel scope env).names.lookup x=(scope.names.lookup x).map fun k=>if (k == NameKind.free && env.scope.kind == .function && env.kindOf x == some .cell) then NameKind.cell else k:=kI _ _
section
variable {X:Cx}{pins:List (Addr × Obj)}{σ:St}{H:Hp}{s:Shared}{N:List Str}{own:Nat}{fr:List Nat}{scope:Scope}{cl:List (Str × Addr)}{fp:List Addr}
theorem IP (S:i7 N own fr X.N scope X.env.scope)(I:aH X pins σ H s)(hcl:∀ x c,cl.lookup x=some c->X.env.cells.lookup x=some c)(hcf:∀ y∈scope.names,y.2=.free->(cl.lookup y.1).isSome=true)
  (hfp:∀ b∈fp,oU X pins H b/\b<s.heap.objs.size) (hns:h'.Ns s.heap.objs.size m) (hk:∀ b o,s.heap.get? b=some o->h'.get? b=some o) :
  aH (de X N scope cl s H fp) [] (Hh own fr σ) H {s with heap:=h',toks:=t}:=by
 have kd:∀ x,(de X N scope cl s H fp).env.kindOf x=(scope.names.lookup x).map fun k=>if (k == NameKind.free && X.env.scope.kind == .function && X.env.kindOf x == some .cell) then NameKind.cell else k:=fun x=>GJ x
 have memOf:∀ {l:List (Str × NameKind)}{x:Str}{k:NameKind},l.lookup x=some k->(x,k)∈l:=fun {l x k} e=>PySem.mem_of_lookup e;have isf:∀ x,((de X N scope cl s H fp).env.kindOf x=some .cell\/(de X N scope cl s H fp).env.kindOf x=some .free)->scope.names.lookup x=some .free:=fun x h=>by
  rw[kd]at h
  cases e:scope.names.lookup x with
  | none=>rw[e]at h;simp at h
  | some k=>
   rw[e]at h;simp only[map_some,Option.some.injEq]at h
   by_cases hc:(k == NameKind.free && X.env.scope.kind == .function && X.env.kindOf x == some .cell)=true
   ·have:k=.free:=by
     rw[Bool.and_eq_true,Bool.and_eq_true]at hc;simpa using hc.1.1
    rw[this]
   ·rw[if_neg hc]at h
    rcases h with h|h
    ·exact absurd h (S.nocell _ (memOf e))
    ·rw[h]
 have cellX:∀ x c,cl.lookup x=some c->∃ v,s.heap.IsCell c v:=fun x c e=>I.cell x c (hcl x c e);have cellLt:∀ x c,cl.lookup x=some c->c<s.heap.objs.size:=fun x c e=>let ⟨v,q⟩:=cellX x c e;q.lt;refine⟨⟨I.ok.mod,S.kind,I.ok.glob,I.ok.blt,le_refl _,fun x y c h1 h2=>I.ok.inj x y c (hcl x c h1) (hcl y c h2),fun x hx=>?_,(fun x c h=>by cases h),I.ok.hd,I.ok.frames,.inl rfl,fun b hb=>⟨ne_of_lt (hfp b hb).2,fun x c e=>(hfp b hb).1.2.2.2.2.1 x c (hcl x c e)⟩,
   I.bs,le_trans I.ok.bsz I.sz,fun b o e hb=>?_,fun b hb z=>?_,I.stack,I.stkFree⟩,rfl,I.bare,Un.kept hk,⟨m,hns,fun i x v e1 e2 e3=>?_⟩,fun x c e=>?_,I.hok.fresh (le_refl _),fun x c e=>I.freeC x c (hcl x c e),fun p hp=>absurd (show p∈([]:List (Addr × Obj)) from hp) (by simp),I.hok.kept hk,?_⟩
 ·have:=hcf _ (memOf (isf x hx)) rfl;exact isSome_iff_exists.mp this
 ·rcases(hfp b hb).1.2.2.2.1 with z|z
  ·exact I.ok.noex b o e z
  ·exact absurd (lt_of_lt_of_le (Heap.lt_size e) (le_trans I.ok.bsz z)) (lt_irrefl _)
 ·rcases mem_cons.mp (I.stkSub b z) with q|q
  ·exact(hfp b hb).1.2.1 q
  ·exact(hfp b hb).1.2.2.1 q
 ·
  have e2':(replicate own none++fr.map fun i=>(σ[i]?).join)[i]?=some (some v):=e2;have hi:own<=i:=by
   by_cases hi:i<own
   ·rw[getElem?_append_left (by simpa using hi),getElem?_replicate,if_pos hi]at e2'
    cases e2'
   ·omega
  rw[getElem?_append_right (by simpa using hi),length_replicate,getElem?_map]at e2'
  cases ef:fr[i-own]? with
  | none=>rw[ef]at e2';cases e2'
  | some k=>
   rw[ef]at e2';have ev:(σ[k]?).join=some v:=by simpa using e2'
   have ev':σ[k]?=some (some v):=by
    cases q:σ[k]? with
    | none=>rw[q]at ev;cases ev
    | some o=>rw[q]at ev;simpa using ev
   have eN:N[own+(i-own)]?=some x:=by
    rw[show own+(i-own)=i by omega];exact e1
   obtain⟨q1,q2⟩:=S.out (i-own) k x ef eN;have q3:X.env.scope.names.lookup x=some .cell:=S.free (x,.free) (memOf q2) rfl;obtain⟨mX,_,hl⟩:=I.loc;obtain⟨u,r,l⟩:=hl k x v q1 ev' (.inr (.inl q3));refine⟨u,r,?_⟩
   rcases l with ⟨l1,_⟩|⟨_,c,l2,l3⟩
   ·have:X.env.scope.names.lookup x=some .local:=l1;rw[q3]at this;cases this
   ·have hkd:(de X N scope cl s H fp).env.kindOf x=some .cell:=by
     rw[kd,q2];simp only[map_some];have e1:X.env.scope.kind=.function:=I.ok.kind;have e2:X.env.kindOf x=some .cell:=q3;rw[e1,e2]
     rfl
    have hc:=isSome_iff_exists.mp (hcf (x,.free) (memOf q2) rfl);obtain⟨c',hc'⟩:=hc;have:c'=c:=by
     have:=hcl x c' hc';rw[l2]at this;exact(Option.some.inj this).symm
    subst this;exact .inr ⟨.inl hkd,c',hc',l3.keeps hk⟩
 ·obtain⟨v,q⟩:=cellX x c e;exact⟨v,q.keeps hk⟩
 ·show(Hh own fr σ).length=N.length;unfold Hh;rw[List.length_append,length_replicate,length_map,S.len]
end
abbrev KF:Value->Shared->Prop:=fun _ _=>False
section
variable {P:Program}{w:World}{A:Around}{R:Result->Shared->Prop}
def Rb (ifs:List Expr)(env:Env):Sem Bool:=
 forIn ifs true fun c r=>if r=true then do
                        let ok ← isTrue c env (eval c env)
                        pure (ForInStep.yield ok) else pure (ForInStep.yield r)
theorem Of (h:Q true s):wpAny (model P w) A (Rb [] env) Q E s:=wpAny_tests_nil h
theorem Og (h:wpAny (model P w) A (isTrue c env (eval c env)) Q E s):wpAny (model P w) A (Rb [c] env) Q E s:=wpAny_tests_one h
theorem xW (J:Nat->Shared->Prop)
  (go:∀ n s,J n s->wpAny (model P w) A (pyNext it) (fun r s1=>match r with
   | none=>R (.ok .next) s1
   | some v=>wpAny (model P w) A (letOwnedTupleGo tg it v) (fun _ s2=>wpAny (model P w) A (assign tg env v) (fun _ s3=>wpAny (model P w) A (Rb ifs env) (fun ok s4=>
     if ok=true then wpAny (model P w) A (eval elt env) (fun x s5=>wpAny (model P w) A (call (.builtin "list.append") [acc,x]) (fun _ s6=>∃ m,m<n/\J m s6) KF s5) KF s4
     else ∃ m,m<n/\J m s4) KF s3) KF s2) KF s1) KF s)
  (n:Nat) (h:J n s):codeAny (model P w) A (.compLoop (.ListComp elt [⟨tg,iter,ifs,0⟩] sc pos) 0 it acc env) R s:=by
 have ex:∀ {α:Type}{t:Sem α}{Q:α->Shared->Prop}{s:Shared}{E:Value->Shared->Prop},wpAny (model P w) A t Q KF s->wpAny (model P w) A t Q E s:=fun hh=>wpAny_mono hh (fun _ _ q=>q) fun _ _ z=>z.elim;refine codeAny_loop rfl J (fun n s hJ=>?_) n h;show wpAny _ _ ((compTurn _ 0 it acc env).onRaise (fun x=>do noteFrame x env;theTreesLotGoes x)) _ _ s
 refine wpAny_noted ?_;rw[compTurn_list];refine wpAny_bind (wpAny_standAt (wpAny_bind (cT (ex (go n s hJ)) fun r s1 h1=>?_)))
 cases r with
 | none=>exact wpAny_pure h1
 | some v=>
  refine wpAny_bind (cT (ex h1) fun _ s2 h2=>wpAny_bind (cT (ex h2) fun _ s3 h3=>?_));refine wpAny_bind (cT (ex h3) fun ok s4 h4=>?_)
  cases ok with
  | false=>exact wpAny_pure ⟨rfl,h4⟩
  | true=>
   exact wpAny_bind (wpAny_bind (cT (ex h4) fun x s5 h5=>wpAny_bind (cT (ex h5) fun _ s6 h6=>wpAny_pure (wpAny_pure ⟨rfl,h6⟩))))
end
def AN (own:Nat)(fr:List Nat)(wi:TI)(g:TG)(tc:TT)(te:TE):TE:=fun σ H Q=>wi σ H fun J H1=>∀ D,H1 D=none->∃ W:Nat->Nat->St->Hp->Prop,(∃ m,W 0 m (Hh own fr σ) (cM H1 D (.lst [])))/\∀ i m σ' H',W i m σ' H' →
 (J.stop i H'/\Q (.ref D) H')\/(J.go i H'/\∀ x H2,J.yld i H' x H2->g x σ' H2 fun σ2 H3=>tc σ2 H3 fun ok H4=>
  if ok=true then te σ2 H4 fun v H5=>∃ xs,H5 D=some (.lst xs)/\xs.length<sizeLine/\∃ m',m'<m/\W (i+1) m' σ2 (cM H5 D (.lst (xs++[v])))
  else ∃ m',m'<m/\W (i+1) m' σ2 H4)
def Hq (Y:Cx)(ifs:List Expr)(t:TT):Prop:=
 ∀ (pins:List (Addr × Obj)) (s:Shared) (σ:St) (H:Hp) (Q:Bool->Hp->Prop),aH Y pins σ H s->t σ H Q->wpAny (model Y.prog Y.w) Y.A (Rb ifs Y.env) (TP Y pins σ Q) Y.xe s
theorem JX:Hq Y [] (fun σ H Q=>Q true H):=fun _ _ σ H _ I h=>Of ⟨H,I,h⟩
theorem JY (h:PT Y c t):Hq Y [c] t:=fun pins s σ H Q I q=>Og (h pins s σ H Q I q)
section
variable {X:Cx}{N:List Str}{own:Nat}{fr:List Nat}{scope:Scope}{elt tg iter:Expr}{ifs:List Expr}{pos:Pos}{wi:TI}{g:TG}{tc:TT}{te:TE}
theorem Turn.fpLt {P:Program}{w:World}{K:Frg}{J:It}{fp:List Addr}{it:Addr}{tn:Nat->Heap->Prop}(T:Turn P w K tg J fp it tn){i:Nat}{h:Heap}(st:tn i h):∀ b∈fp,b<h.objs.size:=fun b hb=>by
 obtain⟨o,e,_⟩:=T.obj i h st b hb;exact Heap.lt_size e
def CompEnd (X:Cx)(pins:List (Addr × Obj))(σ:St)(Q:VK)(use:Option (Value->Sem Unit))(QQ:Value->Shared->Prop):Prop:=
 ∀ (D C:Addr) (H':Hp) (s5:Shared) (m5:Str->Option Value),(∀ h6,Heap.SameBut C s5.heap h6->aH X pins σ H' {s5 with heap:=h6})->s5.heap.Ns C m5->H' C=none->X.s₀.heap.objs.size<=C->X.env.locals≠C->(∀ x c,X.env.cells.lookup x=some c->c≠C)->(∀ p∈X.pn++pins,p.1≠C)->Q (.ref D) H' →
  compPost (model X.prog X.w) X.A X.xe use QQ (.ref D) C (.ok .next) s5
theorem rQ (S:i7 N own fr X.N scope X.env.scope)(hc:X.calm=true)(hi:PI X tg iter wi)
  (hg:∀ cl s H fp,PG (de X N scope cl s H fp) tg g) (ht:∀ cl s H fp,Hq (de X N scope cl s H fp) ifs tc) (he:∀ cl s H fp,PE (de X N scope cl s H fp) elt te)
  (hs:∀ x,foldedSetIterable iter X.env x=pure x) (I:aH X pins σ H s) (h:AN own fr wi g tc te σ H Q) (finish:CompEnd X pins σ Q use QQ) :
  wpAny (model X.prog X.w) X.A (comprehension (.ListComp elt [⟨tg,iter,ifs,0⟩] scope pos) scope X.env ps (newList []) false (eval iter X.env) use) QQ X.xe s:=by
 obtain⟨cl,hclos,hcl,hcf⟩:=xY (scope:=scope) (env:=X.env) fun y hy hf=>I.ok.has y.1 (.inl (S.free y hy hf));refine wpAny_comprehension_free (use:=use) rfl hs hclos S.kind S.loc (cT (hi pins s σ H _ I h) fun v s1 h1=>cT h1 fun itv s2 h2=>?_);obtain⟨it,fp,tn,J,H2,e,I2,T,st2,f2,h2⟩:=h2;subst e;refine wpAny_newObj_type ?_ (zero_le _);have fr2:H2 s2.heap.objs.size=none:=I2.hok.fresh (le_refl _);obtain⟨W,⟨m0,w0⟩,turn⟩:=h2 s2.heap.objs.size fr2;have I3:aH X pins σ (cM H2 s2.heap.objs.size (.lst [])) {s2 with heap:=s2.heap.push {cls:=.type "list",data:=.seq ([]:List Value).toArray}}:=I2.lnew (t':=s2.toks) (its:=[]) .nil (zero_le _);have st3:tn 0 (s2.heap.push {cls:=.type "list",data:=.seq ([]:List Value).toArray}):=T.keep _ _ _ st2 fun b _ o e=>Heap.get?_push_of_some _ e;generalize hs3:({s2 with heap:=s2.heap.push {cls:=.type "list",data:=.seq ([]:List Value).toArray}}:Shared)=s3 at I3;have st3':tn 0 s3.heap:=by rw[<-hs3];exact st3
 have f3:∀ b∈fp,oU X pins (cM H2 s2.heap.objs.size (.lst [])) b:=fun b hb=>by
  obtain⟨q0,q⟩:=f2 b hb;refine⟨?_,q⟩;rw[aY (ne_of_lt (T.fpLt st2 b hb))];exact q0
 refine wpAny_newFunctionEnv S.nocell (fun y hy=>by cases hy) (fun h4 hns4 hsb4=>?_) S.kind
 have hk4:∀ b o,s3.heap.get? b=some o->h4.get? b=some o:=fun b o e=>hsb4.extBut b o (ne_of_lt (Heap.lt_size e)) (Heap.get?_push_of_some _ e);have I4:aH (de X N scope cl s3 (cM H2 s2.heap.objs.size (.lst [])) fp) [] (Hh own fr σ) (cM H2 s2.heap.objs.size (.lst [])) {s3 with heap:=h4,toks:=s3.toks+([]:List (Str × Value)).length}:=
  IP S I3 hcl hcf (fun b hb=>⟨f3 b hb,T.fpLt st3' b hb⟩) hns4 hk4
 have st4:tn 0 h4:=T.keep _ _ _ st3' fun b _ o e=>hk4 b o e;generalize hY:de X N scope cl s3 (cM H2 s2.heap.objs.size (.lst [])) fp=Y at I4;have hg':=hg cl s3 (cM H2 s2.heap.objs.size (.lst [])) fp;have ht':=ht cl s3 (cM H2 s2.heap.objs.size (.lst [])) fp;have he':=he cl s3 (cM H2 s2.heap.objs.size (.lst [])) fp;rw[hY]at hg' ht' he';have yp:Y.prog=X.prog:=by rw[<-hY];rfl
 have yw:Y.w=X.w:=by rw[<-hY];rfl
 have yK:Y.K=X.K:=by rw[<-hY];rfl
 have yA:Y.A=X.A:=by rw[<-hY];rfl
 have yc:Y.calm=true:=by rw[<-hY];exact hc
 have yx:Y.xe=KF:=by rw[<-hY];rfl
 have ye:Y.env=compEnvC scope cl s3.heap.objs.size X.env:=by rw[<-hY];rfl
 have fin:∀ {σ':St}{H':Hp}{s5:Shared},aH Y [] σ' H' s5->Q (.ref s2.heap.objs.size) H'->compPost (model X.prog X.w) X.A X.xe use QQ (.ref s2.heap.objs.size) s3.heap.objs.size (.ok .next) s5:=fun {σ' H' s5} I5 q=>by
  obtain⟨m5,hn5,_⟩:=I5.loc;have yl:Y.env.locals=s3.heap.objs.size:=by rw[ye];rfl
  rw[yl]at hn5;have un:=I5.base;have y1:Y.fs=BC X.stack:=by rw[<-hY];rfl
  have y2:Y.ex=fp:=by rw[<-hY];rfl
  have y3:Y.H₀=cM H2 s2.heap.objs.size (.lst []):=by rw[<-hY];rfl
  have y4:Y.s₀=s3:=by rw[<-hY];rfl
  rw[y1,y2,y3,y4]at un;have free6:H' s3.heap.objs.size=none:=by rw[<-yl];exact I5.free
  refine finish s2.heap.objs.size s3.heap.objs.size H' s5 m5 (fun h6 hs6=>?_) hn5 free6 I3.sz (ne_of_lt I3.lt) (fun x c e=>?_) (fun p hp=>?_) q
  ·have k6:∀ b o,b≠s3.heap.objs.size->s5.heap.get? b=some o->h6.get? b=some o:=fun b o hb e=>hs6.extBut b o hb e;have old:∀ b o,s3.heap.get? b=some o->b≠s3.heap.objs.size:=fun b o e=>ne_of_lt (Heap.lt_size e);have un6:Un (BC X.stack) fp (cM H2 s2.heap.objs.size (.lst [])) H' s3.heap h6:=
    ⟨fun b o e n hb hx=>k6 b o (old b o e) (un.keep b o e n hb hx),fun b o e n hb hx=>by obtain⟨sl,q⟩:=un.slot b o e n hb hx;exact⟨sl,k6 b _ (old b o e) q⟩,un.free,fun b o e hx=>by obtain⟨o',q⟩:=un.there b o e hx;exact⟨o',k6 b o' (old b o e) q⟩,un.tups,un.frzs,un.tbls⟩
   have hok6:hZ X.prog X.w H' h6:=by
    have:=I5.hok;rw[yp,yw]at this;refine fun a o e=>(this a o e).stay (fun b u hb q=>k6 b u ?_ q) (fun _ z=>z) fun _ _ z=>z
    rcases hb with z|z
    ·subst z;intro z;rw[z,free6]at e;cases e
    ·intro y;rw[y,free6]at z;cases z
   obtain⟨hh,gg,dd,tt,os'⟩:=s5;have ho:os'=s3.os:=by have:=I5.os;rw[y4]at this;exact this
   subst ho;refine aH.call (s:=s3) I3 (h':=h6) (g':=gg) (d':=dd) (t':=tt) (ch:=fp) un6 hok6 I5.bare (fun b hb=>?_);obtain⟨_,q1,_,q3,q4,q5⟩:=f3 b hb;exact⟨q3,q1,q4,q5⟩
  ·obtain⟨v,oc,ho,_⟩:=I3.cell x c e;exact ne_of_lt (Heap.lt_size ho)
  ·obtain⟨e,_⟩:=I3.pin p hp;exact ne_of_lt (Heap.lt_size e)
 have loop:∀ s4:Shared,aH Y [] (Hh own fr σ) (cM H2 s2.heap.objs.size (.lst [])) s4->tn 0 s4.heap->codeAny (model X.prog X.w) X.A (.compLoop (.ListComp elt [⟨tg,iter,ifs,0⟩] scope pos) 0 (.ref it) (.ref s2.heap.objs.size) (compEnvC scope cl s3.heap.objs.size X.env))
   (compPost (model X.prog X.w) X.A X.xe use QQ (.ref s2.heap.objs.size) s3.heap.objs.size) s4:=by
  intro s4 I4 st4;have stat:∀ {H':Hp},(∀ b∈fp,H' b=none)->∀ b∈fp,oU Y [] H' b:=fun {H'} hn b hb=>by
   obtain⟨_,q1,q2,q3,q4,q5⟩:=f3 b hb;refine⟨hn b hb,?_,?_,?_,fun x c e=>?_,fun p hp=>?_⟩
   ·rw[ye];exact ne_of_lt (T.fpLt st3' b hb)
   ·have:Y.fs=BC X.stack:=by rw[<-hY];rfl
    rw[this];intro z
    rcases mem_cons.mp (I3.stkSub b z) with q|q
    ·exact q1 q
    ·exact q2 q
   ·left;rw[<-hY];exact hb
   ·rw[ye]at e;exact q4 x c (hcl x c e)
   ·rw[<-hY]at hp;cases hp
  refine xW (fun n s'=>∃ i σ' H',aH Y [] σ' H' s'/\tn i s'.heap/\(∀ b∈fp,H' b=none)/\W i n σ' H') ?_ m0 ⟨0,_,_,I4,st4,fun b hb=>(f3 b hb).1,w0⟩;rintro n s5 ⟨i,σ5,H5,I5,st5,fr5,w5⟩;rw[<-yp,<-yw,<-yA,<-ye,<-yx];have T':Turn Y.prog Y.w Y.K tg J fp it tn:=by rw[yp,yw,yK];exact T
  rcases turn i n σ5 H5 w5 with ⟨stop,qn⟩|⟨go,step⟩
  ·refine cT (T'.done Y rfl rfl rfl yc i [] s5 σ5 H5 Y.xe I5 (stat fr5) st5 stop) fun r s6 ⟨hr,I6⟩=>?_;subst hr;have q:=fin I6 qn;rw[<-yp,<-yw,<-yA]at q;exact q
  ·refine cT (T'.item Y rfl rfl rfl yc i [] s5 σ5 H5 Y.xe I5 (stat fr5) st5 go) fun r s6 ⟨u,hr,h6⟩=>?_;subst hr;refine cT h6 fun _ s7 ⟨x,H7,I7,r7,y7,st7,fr7⟩=>?_;have I7':=I7.pinned (stat fr7) (T.obj _ _ st7);have stay:∀ {σ8:St}{H8:Hp}{s8:Shared},aH Y ([]++qb fp s7.heap) σ8 H8 s8->tn (i+1) s8.heap/\∀ b∈fp,H8 b=none:=fun {σ8 H8 s8} I8=>by
    refine⟨T.keep _ _ _ st7 fun b hb o e=>(I8.pin (b,o) (mem_append_right _ (mem_append_right _ (iw hb e)))).1,fun b hb=>?_⟩;obtain⟨o,e,d⟩:=T.obj _ _ st7 b hb;exact(I8.pin (b,o) (mem_append_right _ (mem_append_right _ (iw hb e)))).2.1
   refine cT (hg' _ s7 σ5 H7 x u _ I7' r7 (step x H7 y7)) fun _ s8 ⟨σ8,H8,I8,q8⟩=>?_;refine cT (ht' _ s8 σ8 H8 _ I8 q8) fun ok s9 ⟨H9,I9,q9⟩=>?_
   cases ok with
   | false=>
    obtain⟨m',hm,w9⟩:=q9;obtain⟨t9,f9⟩:=stay I9;exact⟨m',hm,i+1,σ8,H9,I9.unpinned,t9,f9,w9⟩
   | true=>
    refine cT (he' _ s9 σ8 H9 _ I9 q9) fun y s10 ⟨v,H10,I10,r10,xs,hD,hz,m',hm,w10⟩=>?_;refine cT (sF (X:=Y) _ s10 σ8 H10 (.ref s2.heap.objs.size) [v] (.ref s2.heap.objs.size) [y] (fun _ H'=>H'=cM H10 s2.heap.objs.size (.lst (xs++[v]))) I10 rfl (.cons r10 .nil) ⟨_,xs,v,rfl,rfl,hD,hz,rfl⟩) fun _ s11 ⟨_,H11,I11,_,q11⟩=>?_;subst q11;obtain⟨t11,f11⟩:=stay I11;exact⟨m',hm,i+1,σ8,_,I11.unpinned,t11,f11,w10⟩
 have qL:codeAny (model X.prog X.w) X.A (.compLoop (.ListComp elt [⟨tg,iter,ifs,0⟩] scope pos) 0 (.ref it) (.ref s2.heap.objs.size) (compEnvC scope cl s3.heap.objs.size X.env)) (compPost (model X.prog X.w) X.A X.xe use QQ (.ref s2.heap.objs.size) s3.heap.objs.size) {s3 with heap:=h4,toks:=s3.toks+([]:List (Str × Value)).length}:=
  loop _ I4 st4
 exact codeAny_compStart_list qL (T.self X.A 0 _ _ _ st4 qL)
theorem JM (S:i7 N own fr X.N scope X.env.scope)(hc:X.calm=true)(hi:PI X tg iter wi)
  (hg:∀ cl s H fp,PG (de X N scope cl s H fp) tg g) (ht:∀ cl s H fp,Hq (de X N scope cl s H fp) ifs tc) (he:∀ cl s H fp,PE (de X N scope cl s H fp) elt te)
  (hs:∀ x,foldedSetIterable iter X.env x=pure x:=by intro _;rfl):PE X (.ListComp elt [⟨tg,iter,ifs,0⟩] scope pos) (AN own fr wi g tc te):=by
 intro pins s σ H Q I h;rw[eval_ListComp];exact rQ S hc hi hg ht he hs I h fun D C H' s5 m5 hI hn _ _ _ _ _ q=>⟨m5,hn,fun h6 hs6=>⟨.ref D,H',hI h6 hs6,rfl,q⟩⟩
theorem JU (hN:X.N.Nodup)(hi':X.N[i]?=some x)(hx:Loc X.env.scope x)(S:i7 N own fr X.N scope X.env.scope)(hc:X.calm=true)(hi:PI X tg iter wi)
  (hg:∀ cl s H fp,PG (de X N scope cl s H fp) tg g) (ht:∀ cl s H fp,Hq (de X N scope cl s H fp) ifs tc) (he:∀ cl s H fp,PE (de X N scope cl s H fp) elt te)
  (hs:∀ x,foldedSetIterable iter X.env x=pure x:=by intro _;rfl) (hw:swapsWith (.ListComp elt [⟨tg,iter,ifs,0⟩] scope pos) (some (.Name x pos')) pos1.line X.env=pure true:=by rfl) (hf:X.fn x=true\/X.env.scope.names.lookup x=some .local:=by first|exact .inl rfl|exact .inr rfl|assumption) :
  PS X (.Assign [.Name x pos'] (.ListComp elt [⟨tg,iter,ifs,0⟩] scope pos) pos1) (Oa (AN own fr wi g tc te) (Em i)):=by
 intro pins s σ H D I h;rw[exec_Assign_Name_used x pos' _ pos1 hw];refine wpAny_bind (wpAny_standAt (wpAny_bind ?_));rw[arm_evalThenUse_ListComp];refine wpAny_bind (cT (rQ (use:=some (assign (.Name x pos') X.env)) (QQ:=fun _ s'=>SP X pins D .next s') S hc hi hg ht he hs I h fun D' C H' s5 m5 hI hn hfree hsz hL hcs hps q=>?_) fun _ s' h=>wpAny_pure (wpAny_pure h));show wpAny _ _ (assign (.Name x pos') X.env (.ref D')) _ _ s5;refine wpAny_assign_Name (sX (hI s5.heap (.refl ..)) hN hi' hx (show RelV (.ref D') (.ref D') from rfl) (fun s6 I6 ⟨a,hsb,ha⟩=>?_) hf);have nC:a≠C:=by
  rcases ha with z|z
  ·rw[z];exact hL
  ·exact hcs x a z
 refine⟨m5,hn.sameBut hsb (Ne.symm nC),fun h6 hs6=>?_⟩;exact⟨_,H',I6.turned (t':=s6.toks) (it:=C) (fun b o hb e=>hs6.extBut b o hb e) hfree (Ne.symm hL) (.inr hsz) hcs hps,q⟩
end
end L2
namespace DL
open PySem L2
theorem Rel.mutate (r:Rel K F H σ δ)(hi:δ[i]?=some (some (.ol ts)))(ha:σ[i]?=some (some (.ref a)))(hF:F a=none)(hH:∃ xs,H a=some (.lst xs))(hy:au K F us ys) :
  Rel K F (cM H a (.lst ys)) σ (δ.set i (some (.ol us))):=by
 obtain⟨xs,hH⟩:=hH;have ne:∀ b o,F b=some o->b≠a:=fun b o e z=>by rw[z,hF]at e;cases e
 have lt:i<δ.length:=by
  rw[List.getElem?_eq_some_iff]at hi;exact hi.1
 refine⟨⟨fun b o e n=>by rw[aY (ne b o e)];exact r.sub.all _ _ e n,fun b ps e=>by rw[aY (ne b _ e)];exact r.sub.tbl _ _ e⟩,fun b o e n=>?_,by rw[length_set];exact r.len,fun j s hj=>?_,fun j l b ts1 ts2 hn h1 h2 h3=>?_,xt r.tab hH⟩
 ·unfold cM at e
  split at e
  ·cases e;exact .inr ⟨ys,rfl⟩
  ·exact r.full _ _ e n
 ·by_cases z:i=j
  ·subst z;rw[getElem?_set_self lt]at hj
   cases hj
   exact⟨_,ha,a,ys,rfl,hF,aX,hy⟩
  ·rw[getElem?_set_ne z]at hj;obtain⟨v,q1,q2⟩:=r.slot j s hj;refine⟨v,q1,?_⟩
   cases s with
   | t x=>exact q2
   | vt zs=>exact q2
   | ol zs=>
    obtain⟨b,bs,e1,e2,e3,e4⟩:=q2;have nb:b≠a:=fun y=>by
     subst y;subst e1;exact r.dist i j b ts zs z hi hj ha q1
    exact⟨b,bs,e1,e2,by rw[aY nb];exact e3,e4⟩
 ·have own:∀ (j:Nat) (ts1:List T),(δ.set i (some (.ol us)))[j]?=some (some (.ol ts1))->∃ ts0:List T,δ[j]?=some (some (.ol ts0)):=fun j ts1 h=>by
   by_cases z:i=j
   ·subst z;exact⟨ts,hi⟩
   ·rw[getElem?_set_ne z]at h;exact⟨ts1,h⟩
  obtain⟨t1,g1⟩:=own j ts1 h1;obtain⟨t2,g2⟩:=own l ts2 h2;exact r.dist j l b t1 t2 hn g1 g2 h3
section
variable {X:Cx}{e:Expr}{we wv:WE}{pos:Pos}{H₀:Hp}{i:Nat}{x:Str}{p1 p2:Pos}
theorem ou (h:n<100000):n<sizeLine:=lt_trans h (by decide)
theorem fw (he:PE X e (av X.K we)) (hv:PE X (.Name x p1) (xr i):=by exact pv _) (hbase:attributeBase (.Name x p1) "append" X.env (eval (.Name x p1) X.env)=eval (.Name x p1) X.env:=by rfl)
  (hfew:((backTo pos (starEach [e] X.env)).all (fun x=>!x.1) && (backToKw pos (keywordEach [] X.env)).all (fun x=>x.1.isSome) && decide ([e].length+([]:List Keyword).length+(if ([]:List Keyword).isEmpty then 0 else 1)<30))=true:=by rfl)
  (hline:(p2.endLine == pos.line)=true:=by rfl) (hs:starEach [e] X.env=(false,eval e X.env)::starEach [] X.env:=by exact aP rfl) (hplain:(backTo pos (starEach [] X.env)).any (·.1)=false:=by exact dP rfl)
  (hsw:swapsWith (.Call (.Attribute (.Name x p1) "append" p2) [e] [] pos) none pos'.line X.env=pure false:=by rfl) :
  PS X (.Expr (.Call (.Attribute (.Name x p1) "append" p2) [e] [] pos) pos') (bK X.K H₀ (fm i we)):=
 (oC (K5 PySem.F.plainAttrs_list PySem.F.slot_list_append PySem.F.type_list_append sF hv (oB he uX hs) hbase hfew hline hs hplain) hsw).imp fun D σ H ⟨δ,D',F,s0,rl,h,ok⟩=>by
  unfold fm at h
  split at h
  ·rename_i ts hi;obtain⟨v,ha,a,xs,rfl,hF,hH,hr⟩:=rl.slot i _ hi;refine⟨_,ha,.inl ⟨rfl,xs,df.of hH⟩,δ,_,F,rl,h,fun v F1 H1 s e p q=>?_⟩
   cases s with
   | t y=>
    obtain⟨hl,q⟩:=q;have h1:=e.hh.get hH;refine⟨a,xs,v,rfl,rfl,h1,by rw[hr.length];exact ou hl,?_⟩
    exact ok.nx σ F1 _ _ e.ff ((rl.ext e).mutate hi ha (e.keep a (by rw[hH];simp) hF) ⟨xs,h1⟩ ((au.same e.ff hr).append (au.one p))) q
   | _=>exact q.elim
  ·exact h.elim
theorem EJ (h:l≠[]):∃ x,l[l.length-1]?=some x:=by
 cases l with
 | nil=>exact absurd rfl h
 | cons a r=>exact⟨_,getElem?_eq_getElem (by simp)⟩
theorem Ms (hv:PE X (.Name x p1) (xr i):=by exact pv _) (hbase:attributeBase (.Name x p1) "pop" X.env (eval (.Name x p1) X.env)=eval (.Name x p1) X.env:=by rfl) (hline:(p2.endLine == pos.line)=true:=by rfl)
  (hsw:swapsWith (.Call (.Attribute (.Name x p1) "pop" p2) [] [] pos) none pos'.line X.env=pure false:=by rfl):PS X (.Expr (.Call (.Attribute (.Name x p1) "pop" p2) [] [] pos) pos') (bK X.K H₀ (KA i)):=
 (oC (NB PySem.F.plainAttrs_list PySem.F.slot_list_pop PySem.F.type_list_pop Nb hv hbase hline) hsw).imp fun D σ H ⟨δ,D',F,s0,rl,h,ok⟩=>by
  unfold KA at h
  split at h
  ·rename_i ts hi;obtain⟨v,ha,a,xs,rfl,hF,hH,hr⟩:=rl.slot i _ hi;obtain⟨hne,h⟩:=h;obtain⟨t,ht⟩:=EJ hne;obtain⟨y,hy,_⟩:=hr.get ht;rw[<-hr.length]at hy;refine⟨_,ha,.inl ⟨rfl,xs,df.of hH⟩,a,xs,y,rfl,rfl,hH,hy,?_⟩;exact ok.nx σ F _ _ (Same.refl _) (rl.mutate hi ha hF ⟨xs,hH⟩ hr.dropLast) h
  ·exact h.elim
theorem pe (he:PE X e (av X.K we))(hw:PE X v (av X.K wv))(hv:PE X (.Name x p1) (xr i):=by exact pv _)
  (ha:∀ z,assign (.Subscript (.Name x p1) e p2) X.env z=(do
   let ov ← holding [z] (eval (.Name x p1) X.env)
   let iv ← holding [z,ov] (eval e X.env)
   standAt p2
   holding [z,ov,iv] (setItem ov iv z)
   release [z,ov,iv] []):=by intro _;rfl)
  (hs:swapsWithSole [.Subscript (.Name x p1) e p2] v pos.line X.env=pure false:=by rfl) (hsw:swappedStores [.Subscript (.Name x p1) e p2] v X.env=pure none:=by rfl)
  (h1:(assignEach [.Subscript (.Name x p1) e p2] X.env).map (·.2)=[assign (.Subscript (.Name x p1) e p2) X.env]:=by rfl) :
  PS X (.Assign [.Subscript (.Name x p1) e p2] v pos) (bK X.K H₀ (nt i we wv)):=
 (Gz hw (NH hv he set_list ha) hs hsw h1).imp fun D σ H ⟨δ,D',F,s0,rl,h,ok⟩=>by
  unfold nt at h
  split at h
  ·rename_i ts hi;obtain⟨v,ha,a,xs,rfl,hF,hH,hr⟩:=rl.slot i _ hi;refine⟨δ,_,F,rl,h,fun v1 F1 H1 s1 e1 p1 q1=>⟨_,ha,δ,_,F1,rl.ext e1,q1,fun v2 F2 H2 s2 e2 p2 q2=>?_⟩⟩;have e12:=e1.trans e2
   split at q2
   ·rename_i y k
    split at q2
    ·rename_i j hj;have h2:=e12.hh.get hH;refine⟨a,xs,k,j,rfl,p2,h2,by rw[hr.length];exact hj,?_⟩
     exact ok.nx σ F2 _ _ e12.ff ((rl.ext e12).mutate hi ha (e12.keep a (by rw[hH];simp) hF) ⟨xs,h2⟩ ((au.same e12.ff hr).set (aB.same e2.ff p1) j)) q2
    ·exact q2.elim
   ·exact q2.elim
  ·exact h.elim
end
def tP (R:List T->Prop):S->Prop
 | .t (.lst ts)=>R ts
 | .vt (.lst ts)=>cL ts=true/\R ts
 | .ol ts=>R ts
 | _=>False
def Bx:S->S->(S->Prop)->Prop:=fun a b R=>tP (fun ts=>tP (fun us=>ts.length+us.length<=100000/\R (.ol (ts++us))) b) a
def K8 (K:Frg):R2:=fun x y H Q=>∃ l b xs zs,x=.ref l/\y=.ref b/\df K H l xs/\df K H b zs/\xs.length+zs.length<=sizeLine/\∀ p,H p=none->Q (.ref p) (cM H p (.lst (xs++zs)))
theorem JF:mm X (binaryOp .Add) (K8 X.K):=by
 intro pins s σ H x y v u Q I rx ry h;obtain⟨l,b,xs,zs,rfl,rfl,h1,h2,hz,q⟩:=h
 cases rx
 cases ry
 obtain⟨its,r,pl,z⟩:=I.list h1;obtain⟨its2,r2,pl2,z2⟩:=I.list h2;obtain⟨⟨cls,dd,data,sl⟩,ho,hc,n,hd⟩:=pl.isList;obtain⟨⟨cls2,dd2,data2,sl2⟩,ho2,hc2,n2,hd2⟩:=pl2.isList;simp only at hc hd hc2 hd2;subst hc hd hc2 hd2;have l1:=r.length;have l2:=r2.length;refine PySem.concat_meets ⟨_,ho,rfl⟩ ⟨_,ho2,rfl⟩ PySem.noFill_list_add PySem.seq_list_add PySem.F.slot_list_add PySem.F.entry_list_add (PySem.F.args_list_add_2 _ _) (PyProof.Rows.list_addW l b its.toArray its2.toArray n n2 dd dd2 sl sl2 (by rw[size_toArray,size_toArray];omega)) ⟨ho,ho2,?_⟩
 have ea:its.toArray++its2.toArray=(its++its2).toArray:=by simp
 rw[ea];exact⟨.ref _,_,I.lnew (t':=s.toks) (r.append r2) (by rw[List.length_append];omega),rfl,q _ I.fresh⟩
theorem pb (sb:Same F H)(fu:gN F H)(h:tP R s)(p:gO K F H s v):∃ ts a xs,v=.ref a/\df K H a xs/\au K F ts xs/\R ts:=by
 unfold tP at h
 split at h
 ·unfold gO aB at p;obtain⟨a,xs,h1,h2,h3⟩:=p;exact⟨_,a,xs,h1,sb.seq h2,h3,h⟩
 ·unfold gO aB at p;obtain⟨a,xs,h1,h2,h3⟩:=p;exact⟨_,a,xs,h1,h2,au.full fu h.1 h3,h.2⟩
 ·unfold gO at p;obtain⟨a,xs,h1,h2,h3⟩:=p;exact⟨_,a,xs,h1,h2,h3,h⟩
 ·exact h.elim
theorem JD:Ho K (K8 K) Bx:=fun F H s1 s2 v1 v2 R Q sb fu p1 p2 h k=>by
 obtain⟨ts,a,xs,rfl,h1,h2,h⟩:=pb sb fu h p1;obtain⟨us,b,ys,rfl,h3,h4,hl,h⟩:=pb sb fu h p2;refine⟨a,b,xs,ys,rfl,rfl,h1,h3,by rw[h2.length,h4.length];exact le_trans hl (by decide),fun p hp=>?_⟩
 exact k _ F _ (.ol _) (dw.newL _ sb fu hp) ⟨p,_,rfl,hp,aI sb hp,aX,h2.append h4⟩ h
theorem x6 (ha:PE X a (av X.K wa))(hb:PE X b (av X.K wb)):PE X (.BinOp a .Add b pos) (av X.K (ao Bx wa wb)):=(qa JF ha hb).imp (cN JD)
def gK (N:List Str)(ss:List S):a8:=ss.map some++replicate (N.length-ss.length) none
theorem sP:∀ {ss:List S}{vs:List V}{i:Nat}{s:S},nD K F H ss vs->ss[i]?=some s->∃ v,vs[i]?=some v/\gO K F H s v
 | [],_,_,_,_,h=>by simp at h
 | s::ss,_,0,u,⟨v,r,e,p,q⟩,h=>by subst e;simp at h;subst h;exact⟨v,by simp,p⟩
 | s::ss,_,i+1,u,⟨v,r,e,p,q⟩,h=>by
  subst e;obtain⟨y,h1,h2⟩:=sP (i:=i) q (by simpa using h)
  exact⟨y,by simpa using h1,h2⟩
theorem jG:∀ {ss:List S}{vs:List V},nD K F H ss vs->vs.length=ss.length
 | [],_,e=>by cases (show _=[] from e);rfl
 | s::ss,_,⟨v,r,e,p,q⟩=>by subst e;rw[length_cons,length_cons,jG q]
theorem sW {N:List Str}{ss:List S}{i:Nat}{s:S}(h:(gK N ss)[i]?=some (some s)):ss[i]?=some s:=by
 unfold gK at h
 by_cases hi:i<ss.length
 ·rw[getElem?_append_left (by simpa using hi),getElem?_map]at h
  cases e:ss[i]? with
  | none=>rw[e]at h;cases h
  | some u=>rw[e]at h;simpa using h
 ·rw[getElem?_append_right (by simpa using hi),getElem?_replicate]at h
  split at h <;> cases h
theorem sO {K:Frg}{H:Hp}{N:List Str}{ss:List S}{vs:List V}(tk:mr K H)(hn:ss.length<=N.length)(ha:∀ s∈ss,CQ s)(r:nD K H H ss vs):Rel K H H (L2.start N vs) (gK N ss):=by
 have hl:=jG r;refine⟨Same.refl _,fun _ _ h _=>.inl h,?_,fun i s h=>?_,fun i j a ts us _ h1=>?_,tk⟩
 ·unfold L2.start gK;rw[List.length_append,List.length_append,length_map,length_map,length_replicate,length_replicate];omega
 ·have h1:=sW h;obtain⟨v,h2,h3⟩:=sP r h1;refine⟨v,?_,?_⟩
  ·unfold L2.start;have hi:i<vs.length:=by rw[List.getElem?_eq_some_iff]at h2;exact h2.1
   rw[getElem?_append_left (by simpa using hi),getElem?_map,h2]
   rfl
  ·have:=ha s (mem_of_getElem? h1)
   cases s with
   | t x=>exact h3
   | vt ts=>exact this.elim
   | ol ts=>exact this.elim
 ·have:=ha _ (mem_of_getElem? (sW h1));exact this.elim
section
variable {P:Program}{wd:World}{K:Frg}{mg:Str->Option Value}{base:Heap}
theorem Dg (F:KD K x qual st f fd)(S:ay N ps (al st))
  (hlen:∀ ss R,sp ss R->ss.length=ps.length)
  (hbody:∀ (cdv:Value) (A:Around) (outer:List Env) (s:Shared) (H:Hp) (E:XK),cb k (A.deeper (PyProof.Rows.envOfC qual (al st) s.heap.objs.size f cdv))->k8 (qV zx P wd K mg base N qual (al st) f cdv A outer s H E).nox (cz st) (bK K H w))
  (h:∀ ss R,sp ss R->w {nx:=fun _=>R (.t .non),rt:=R} (gK N ss)):i8 P wd K mg base zx (k+1) f fd ps (vy K sp):=by
 have pl:ps.length<=N.length:=by
  have:=congrArg List.length S.pre;rw[length_take]at this;omega
 refine F.ok S (fun vs H Q E hs=>?_) (fun cdv A outer s H vs Q E hr hs=>?_)
 ·obtain⟨ss,R,_,_,r,hs,_⟩:=hs;rw[jG r,hlen ss R hs]
 ·obtain⟨ss,R,tk,ha,r,hs,k⟩:=hs;refine⟨_,hbody cdv A outer s H E hr,gK N ss,_,H,Same.refl _,sO tk (by rw[hlen ss R hs];exact pl) ha r,h ss R hs,⟨fun σ' F' H' δ' ff rl q=>?_,fun v H' s' sm tk rc q=>k v H' s' sm tk rc q,fun _ _ _ _ _ _ z=>z.elim,fun _ _ _ _ _ _ z=>z.elim⟩⟩
  exact k .non H' (.t .non) (ff.trans rl.sub) rl.tab rfl q
theorem rP (F:KD K x qual st f fd)(hm:mg x=some (.ref f))(b:Binds K fd ps [])(h:i8 P wd K mg base zx k f fd ps (vy K sp)):Callee P wd K mg base k x sp:=
 ⟨f,fd,ps,hm,h,b,F.kp⟩
def AK:aM:=fun ss R=>∃ ns:List Int,ss=[.t (.lst (ns.map .int))]/\ns.length<=63/\R (.t (.bl true))
theorem MV {K:Frg}{H:Hp}{a:Addr}{ns:List Int}(tk:mr K H)(hl:ns.length<=63)(hS:df K H a (ns.map V.int)):vy K AK [.ref a] H (fun v _=>v=.bl true) fun _ _ _=>False:=
 ⟨[.t (.lst (ns.map .int))],fun s=>s=.t (.bl true),tk,fun s hs=>by simp at hs;subst hs;exact True.intro,⟨.ref a,[],rfl,by show aB K H (.lst _) _;unfold aB;exact⟨a,_,rfl,hS,au.ints ns⟩,rfl⟩,⟨ns,rfl,hl,rfl⟩,fun v H' s _ _ rc e=>by subst e;exact rc⟩
end
end DL
namespace DL
open PySem L2
def qT (own:Nat)(fr:List Nat)(δ:a8):a8:=replicate own none++fr.map fun i=>(δ[i]?).join
def rZ (k:T->Prop):S->Prop
 | .t y=>lH y=true/\k y
 | .ol ts=>cL ts=true/\k (.lst ts)
 | .vt _=>False
def pc (g:WG)(tc:WT)(te:WE)(ts:List T)(δ:a8)(R:List T->Prop):Prop:=∃ I:List T->a8->List T->Prop,I ts δ []/\(∀ δ acc,I [] δ acc->R acc)/\∀ x r δ acc,I (x::r) δ acc →
 g x δ fun δ1=>tc δ1 fun ok=>if ok=true then te δ1 fun s=>rZ (fun y=>acc.length<100000/\I r δ1 (acc++[y])) s else I r δ1 acc
def dQ (own:Nat)(fr:List Nat)(wi:WI)(g:WG)(tc:WT)(te:WE):WE:=fun δ R=>wi δ fun ts δ'=>pc g tc te ts (qT own fr (freeze δ')) fun acc=>R (.ol acc)
def nu:WT:=fun _ R=>R true
def mq (δ:a8):Prop:=∀ (i:Nat) (ts:List T),δ[i]?≠some (some (S.ol ts))
def OA (g:WG):Prop:=∀ t δ R,mq δ->g t δ R->g t δ fun δ'=>mq δ'/\R δ'
def Hl (g:List T->a8->(a8->Prop)->Prop):Prop:=∀ t δ R,mq δ->g t δ R->g t δ fun δ'=>mq δ'/\R δ'
theorem mq.set (h:mq δ)(i:Nat)(t:T):mq (δ.set i (some (.t t))):=fun j ts e=>by
 by_cases z:i=j
 ·subst z;rw[getElem?_set]at e;simp at e
 ·rw[getElem?_set_ne z]at e;exact h j ts e
theorem bM:OA (aG i):=fun t δ R h q=>⟨h.set i t,q⟩
theorem Es:Hl iX:=fun ts δ R h q=>by
 cases ts with
 | nil=>exact⟨h,q⟩
 | cons t r=>exact q
theorem rX (hg:OA g)(hr:Hl gr)(mg:∀ t δ (R R':a8->Prop),g t δ R->(∀ δ',R δ'->R' δ')->g t δ R'):Hl (bC g gr):=fun ts δ R h q=>by
 cases ts with
 | nil=>exact q
 | cons t r=>exact mg _ _ _ _ (hg t δ _ h q) fun δ' ⟨h1,q1⟩=>hr r δ' R h1 q1
theorem sE:∀ t δ (R R':a8->Prop),aG i t δ R->(∀ δ',R δ'->R' δ')->aG i t δ R':=fun _ _ _ _ q k=>k _ q
theorem IJ (hg:Hl g):OA (kA g):=fun t δ R h q=>by
 cases t with
 | tup ts=>exact hg ts δ R h q
 | _=>exact q
def vK (K:Frg)(H F:Hp)(t:T)(v:V):Prop:=(lH t=true/\aB K F t v)\/∃ ts a xs,t=.lst ts/\cL ts=true/\v=.ref a/\H a=none/\F a=some (.lst xs)/\au K F ts xs
def dH (K:Frg)(H F:Hp):List T->List V->Prop
 | [],xs=>xs=[]
 | t::ts,xs=>∃ x r,xs=x::r/\vK K H F t x/\dH K H F ts r
theorem vK.same (e:Same F F')(h:vK K H F t v):vK K H F' t v:=by
 rcases h with ⟨p,h⟩|⟨ts,a,xs,h1,h2,h3,h4,h5,h6⟩
 ·exact .inl ⟨p,aB.same e h⟩
 ·exact .inr ⟨ts,a,xs,h1,h2,h3,h4,e.get h5,au.same e h6⟩
theorem dH.same (e:Same F F'):∀ {ts:List T}{xs:List V},dH K H F ts xs->dH K H F' ts xs
 | [],_,h=>h
 | _::_,_,⟨x,r,h1,h2,h3⟩=>⟨x,r,h1,h2.same e,dH.same e h3⟩
theorem dH.snoc (h:vK K H F t v):∀ {ts:List T}{xs:List V},dH K H F ts xs->dH K H F (ts++[t]) (xs++[v])
 | [],_,e=>by cases (show _=[] from e);exact⟨v,[],rfl,h,rfl⟩
 | _::_,_,⟨x,r,h1,h2,h3⟩=>by subst h1;exact⟨x,r++[v],rfl,h2,dH.snoc h h3⟩
theorem dH.length:∀ {ts:List T}{xs:List V},dH K H F ts xs->xs.length=ts.length
 | [],_,e=>by cases (show _=[] from e);rfl
 | _::_,_,⟨x,r,h1,_,h3⟩=>by subst h1;rw[length_cons,length_cons,dH.length h3]
theorem Rel.other (r:Rel K F H σ δ)(hF:F a=none)(no:mq δ)(hH:H a=none\/∃ xs,H a=some (.lst xs)):Rel K F (cM H a (.lst ys)) σ δ:=by
 refine⟨⟨fun b o e n=>?_,fun b ps e=>?_⟩,fun b o e n=>?_,r.len,fun j s hj=>?_,fun i j b ts us _ h1=>absurd h1 (no i ts),hH.elim (fun z=>G4 r.tab z rfl) fun ⟨_,z⟩=>xt r.tab z⟩
 ·have:b≠a:=fun z=>by rw[z,hF]at e;cases e
  rw[aY this];exact r.sub.all _ _ e n
 ·have:b≠a:=fun z=>by rw[z,hF]at e;cases e
  rw[aY this];exact r.sub.tbl _ _ e
 ·unfold cM at e
  split at e
  ·cases e;exact .inr ⟨ys,rfl⟩
  ·exact r.full _ _ e n
 ·obtain⟨v,q1,q2⟩:=r.slot j s hj;refine⟨v,q1,?_⟩
  cases s with
  | t x=>exact q2
  | vt x=>exact q2
  | ol ts=>exact absurd hj (no j ts)
theorem nK (δ:a8):mq (freeze δ):=fun i ts e=>by
 obtain⟨u,_,h⟩:=kG e;exact ko u ts h.symm
theorem vS (h:(qT own fr δ)[i]?=some (some s)):own<=i/\∃ k,fr[i-own]?=some k/\δ[k]?=some (some s):=by
 unfold qT at h
 by_cases hi:i<own
 ·rw[getElem?_append_left (by simpa using hi),getElem?_replicate,if_pos hi]at h
  cases h
 ·have hi:own<=i:=by omega
  refine⟨hi,?_⟩;rw[getElem?_append_right (by simpa using hi),length_replicate,getElem?_map]at h
  cases ef:fr[i-own]? with
  | none=>rw[ef]at h;cases h
  | some k=>
   rw[ef]at h;refine⟨k,rfl,?_⟩;have ev:(δ[k]?).join=some s:=by simpa using h
   cases q:δ[k]? with
   | none=>rw[q]at ev;cases ev
   | some o=>rw[q]at ev;simpa using ev
theorem mE (h:mq δ):mq (qT own fr δ):=fun i ts e=>by
 obtain⟨_,k,_,h2⟩:=vS e;exact h k ts h2
theorem Ki (r:Rel K H H σ δ)(no:mq δ)(hD:H D=none):Rel K H (cM H D (.lst [])) (Hh own fr σ) (qT own fr δ):=by
 have:Rel K H H (Hh own fr σ) (qT own fr δ):=by
  refine⟨r.sub,r.full,?_,fun i s h=>?_,fun i j a ts us _ h1=>absurd h1 (mE no i ts),r.tab⟩
  ·unfold Hh qT;rw[List.length_append,List.length_append,length_replicate,length_replicate,length_map,length_map]
  ·obtain⟨hi,k,h1,h2⟩:=vS h;obtain⟨v,q1,q2⟩:=r.slot k s h2;refine⟨v,?_,q2⟩;unfold Hh;rw[getElem?_append_right (by simpa using hi),length_replicate,getElem?_map,h1]
   simp[q1]
 exact this.other hD (mE no) (.inl hD)
def n8 (N:List Str)(no:Nat)(fr:List Nat)(NX:List Str)(sc around:Scope):Bool:=
 decide (sc.kind=.function) && sc.names.all (fun y=>decide (y.2≠.cell)) && decide N.Nodup && decide (N.length=no+fr.length) &&
 sc.names.all (fun y=>decide (y.2=.local->sc.names.lookup y.1=some .local)) && sc.names.all (fun y=>decide (y.2=.free->around.names.lookup y.1=some .cell)) &&
 (List.range no).all (fun i=>match N[i]? with|some x=>decide (sc.names.lookup x=some .local)|none=>true) &&
 (List.range fr.length).all (fun j=>match fr[j]?,N[no+j]? with|some i,some x=>decide (NX[i]?=some x/\sc.names.lookup x=some .free)|_,_=>true)
theorem C9 (h:n8 N no fr NX sc around=true):i7 N no fr NX sc around:=by
 unfold n8 at h;simp only[Bool.and_eq_true,decide_eq_true_eq,List.all_eq_true,mem_range]at h;obtain⟨⟨⟨⟨⟨⟨⟨h1,h2⟩,h3⟩,h4⟩,h5⟩,h6⟩,h7⟩,h8⟩:=h;refine⟨h1,h2,h3,h4,h5,h6,fun i x e hi=>?_,fun j i x e1 e2=>?_⟩
 ·have:=h7 i hi;rw[e]at this;simpa using this
 ·have hj:j<fr.length:=(List.getElem?_eq_some_iff.mp e1).1;have:=h8 j hj;rw[e1,e2]at this;simpa using this
section
variable {X:Cx}{N:List Str}{own:Nat}{fr:List Nat}{scope:Scope}{elt tg iter:Expr}{ifs:List Expr}{pos:Pos}{wi:WI}{g:WG}{tc:WT}{te:WE}
theorem eD:Hq Y [] (liftT Y.K nu):=fun pins s σ H Q I ⟨δ,R,F,rl,h,k⟩=>JX pins s σ H Q I (k F H true rl.refl h)
theorem lA (h:PT Y c (liftT Y.K t)):Hq Y [c] (liftT Y.K t):=JY h
theorem si (go:OA g):∀ σ H Q,av X.K (dQ own fr wi g tc te) σ H Q->AN own fr (pQ X.K wi) (lE X.K g) (liftT X.K tc) (av X.K te) σ H Q:=
 fun σ H Q ⟨δ,R,F,rl,h,k⟩=>⟨δ,_,F,rl,h,fun J F0 F1 H1 ts δ1 e0 f01 rl1 it q D hD=>by
  have sH:Same H H1:=e0.hh;obtain⟨W,w0,wend,wstep⟩:=q;refine⟨fun i m σ' H'=>m=ts.length-i/\i<=ts.length/\∃ δ' F' acc xs,Same H1 F'/\F' D=none/\H' D=some (.lst xs)/\Rel X.K F' H' σ' δ'/\mq δ'/\dH X.K H F' acc xs/\W (ts.drop i) δ' acc,
   ⟨ts.length,by simp,zero_le _,qT own fr (freeze δ1),H1,[],[],Same.refl _,hD,aX,Ki rl1.freeze (nK _) hD,mE (nK _),rfl,by simpa using w0⟩,?_⟩
  rintro i m σ' H' ⟨rfl,hi,δ',F',acc,xs,s1,fD,hH,rl',no,ra,h⟩;obtain⟨hgo,hstop⟩:=it F' H' i (rl1.sub.trans s1) rl'.sub rl'.full
  cases hd:ts.drop i with
  | nil=>
   rw[hd]at h;have:ts.length<=i:=by simpa using hd
   refine .inl ⟨hstop this,?_⟩;have sm:Same H H':=(sH.trans s1).trans rl'.sub;have ex:=lC (x:=some D) rl.sub rl.full sm (fun b z=>by cases z;exact⟨xs,hH⟩) (fun _=>rl'.tab.1)
   have hDn:H D=none:=aI sH hD;refine k _ _ H' (.ol acc) ex ⟨D,xs,rfl,hDn,?_,hH,?_⟩ (wend δ' acc h)
   ·unfold grow;rw[if_pos (by rw[hDn];rfl),if_pos rfl]
   ·have all:∀ {acc:List T}{xs:List V},dH X.K H F' acc xs->au X.K (grow F H H' (some D)) acc xs:=by
     intro acc
     induction acc with
     | nil=>intro xs z;exact z
     | cons t r ih=>
      rintro xs ⟨x,r',z1,z2,z3⟩;refine⟨x,r',z1,?_,ih z3⟩
      rcases z2 with ⟨p,z⟩|⟨us,a,ys,rfl,p,rfl,y1,y2,y3⟩
      ·exact aB.full ex.full p (aB.same rl'.sub z)
      ·unfold aB;refine⟨a,ys,rfl,df.of ?_,au.full ex.full p (au.same rl'.sub y3)⟩;have:a≠D:=fun z=>by rw[z,fD]at y2;cases y2
       unfold grow;rw[if_pos (by rw[y1];rfl),if_neg (fun z=>this (Option.some.inj z).symm)]
       exact rl'.sub.get y2
    exact all ra
  | cons x r=>
   rw[hd]at h;obtain⟨h1,h2⟩:=v8 hd;obtain⟨goes,yld⟩:=hgo x h1;have hlt:i<ts.length:=by
    have:=congrArg List.length hd;simp at this;omega
   refine .inr ⟨goes,fun v H2 y=>?_⟩;obtain⟨F3,e3,p3⟩:=yld v H2 y;have h:=wstep x r δ' acc h;refine⟨x,δ',_,F3,p3,rl'.ext e3,go x δ' _ no h,fun σ2 δ2 rl2 ⟨no2,h⟩=>?_⟩;have D3:F3 D=none:=e3.keep D (by rw[hH];simp) fD
   have H3:=e3.hh.get hH;refine⟨δ2,_,F3,rl2,h,fun F4 H4 ok e4 h=>?_⟩;have D4:F4 D=none:=e4.keep D (by rw[H3];simp) D3
   have H4D:=e4.hh.get H3;have f4:Same F' F4:=e3.ff.trans e4.ff
   cases ok with
   | false=>
    refine⟨ts.length-(i+1),by omega,rfl,hlt,δ2,F4,acc,xs,s1.trans f4,D4,H4D,rl2.ext e4,no2,ra.same f4,?_⟩
    rw[h2];simpa using h
   | true=>
    simp only[if_true]at h;refine⟨δ2,_,F4,rl2.ext e4,h,fun w F5 H5 s e5 p5 h=>?_⟩;have H5D:=e5.hh.get H4D;refine⟨xs,H5D,?_,ts.length-(i+1),by omega,rfl,hlt,?_⟩
    ·rw[ra.length]
     cases s with
     | t y=>exact ou h.2.1
     | ol us=>exact ou h.2.1
     | vt y=>exact h.elim
    ·cases s with
     | t y=>
      have D5:F5 D=none:=e5.keep D (by rw[H4D];simp) D4
      refine⟨δ2,F5,acc++[y],xs++[w],(s1.trans f4).trans e5.ff,D5,aX,((rl2.ext e4).ext e5).other D5 no2 (.inr ⟨_,H5D⟩),no2,(ra.same (f4.trans e5.ff)).snoc (.inl ⟨h.1,p5⟩),?_⟩;rw[h2];exact h.2.2
     | ol us=>
      obtain⟨ez,sz⟩:=e5.frozen (rl2.ext e4).sub;have D5:grow F5 H4 H5 none D=none:=ez.keep D (by rw[H4D];simp) D4
      obtain⟨a,ys,rfl,q0,q1,q2,q3⟩:=p5;refine⟨δ2,grow F5 H4 H5 none,acc++[.lst us],xs++[.ref a],(s1.trans f4).trans ez.ff,D5,aX,((rl2.ext e4).ext ez).other D5 no2 (.inr ⟨_,H5D⟩),no2,(ra.same (f4.trans ez.ff)).snoc (.inr ⟨us,a,ys,rfl,h.1,rfl,?_,?_,au.same sz q3⟩),?_⟩
      ·have s4:Same H H4:=((sH.trans s1).trans f4).trans e4.sub;exact aI s4 q0
      ·unfold grow;rw[if_pos (by rw[q0];rfl),if_neg (by simp)]
       exact q2
      ·rw[h2];exact h.2.2
     | vt y=>exact h.elim⟩
theorem fh (look:n8 N own fr NX scope ar=true)(hi:PI X tg iter (pQ X.K wi))(go:OA g)
  (hg:∀ cl s H fp,PG (de X N scope cl s H fp) tg (lE X.K g)) (ht:∀ cl s H fp,Hq (de X N scope cl s H fp) ifs (liftT X.K tc)) (he:∀ cl s H fp,PE (de X N scope cl s H fp) elt (av X.K te)) (eN:X.N=NX:=by rfl) (eS:X.env.scope=ar:=by rfl) (hc:X.calm=true:=by rfl)
  (hs:∀ x,foldedSetIterable iter X.env x=pure x:=by intro _;rfl):PE X (.ListComp elt [⟨tg,iter,ifs,0⟩] scope pos) (av X.K (dQ own fr wi g tc te)):=
 (JM (by subst eN;subst eS;exact C9 look) hc hi hg ht he hs).imp (si go)
theorem eu (hN:X.N.Nodup)(look:n8 N own fr NX scope ar=true)(hi:PI X tg iter (pQ X.K wi))(go:OA g)
  (hg:∀ cl s H fp,PG (de X N scope cl s H fp) tg (lE X.K g)) (ht:∀ cl s H fp,Hq (de X N scope cl s H fp) ifs (liftT X.K tc)) (he:∀ cl s H fp,PE (de X N scope cl s H fp) elt (av X.K te)) (eN:X.N=NX:=by rfl) (eS:X.env.scope=ar:=by rfl)
  (hi':X.N[i]?=some x:=by rfl) (hx:Loc X.env.scope x:=by first|exact Or.inl rfl|exact Or.inr rfl) (hw:swapsWith (.ListComp elt [⟨tg,iter,ifs,0⟩] scope pos) (some (.Name x pos')) pos1.line X.env=pure true:=by rfl) (hf:X.fn x=true\/X.env.scope.names.lookup x=some .local:=by first|exact .inl rfl|exact .inr rfl|assumption) (hc:X.calm=true:=by rfl)
  (hs:∀ x,foldedSetIterable iter X.env x=pure x:=by intro _;rfl):PS X (.Assign [.Name x pos'] (.ListComp elt [⟨tg,iter,ifs,0⟩] scope pos) pos1) (bK X.K H₀ (aF i (dQ own fr wi g tc te))):=
 (JU (i:=i) hN hi' hx (by subst eN;subst eS;exact C9 look) hc hi hg ht he hs hw hf).imp fun D σ H ⟨δ,D',F,s0,rl,h,ok⟩=>si go σ H _ ⟨δ,_,F,rl,h,fun v F1 H1 s e p q=>by
  obtain⟨F2,ff,r2⟩:=rl.setS i e p;exact ok.nx _ F2 H1 _ ff r2 q⟩
end
end DL
namespace DL
open L2
def look (i:Nat)(δ:a8)(k:S->Prop):Prop:=match δ[i]? with
 | some (some s)=>k s
 | _=>False
theorem M6 (s:S)(r:a8)(k:S->Prop):look 0 (some s::r) k=k s:=rfl
theorem M7 (i:Nat)(x:Option S)(r:a8)(k:S->Prop):look (i+1) (x::r) k=look i r k:=rfl
def pT (i:Nat)(δ:a8)(k:List T->Prop):Prop:=match δ[i]? with
 | some (some (.ol ts))=>k ts
 | _=>False
theorem Jh (ts:List T)(r:a8)(k:List T->Prop):pT 0 (some (.ol ts)::r) k=k ts:=rfl
theorem Ji (i:Nat)(x:Option S)(r:a8)(k:List T->Prop):pT (i+1) (x::r) k=pT i r k:=rfl
section
variable (D:vJ) (δ:a8) (R:S->Prop) (w u:WS) (we wa wb wv:WE) (ws:WA) (i j:Nat) (x y:T) (s:S) (t c:WT)
theorem Pd:aC w u D δ=w {D with nx:=u D} δ:=rfl
theorem Pe:aF i we D δ=we δ fun s=>D.nx (setS i s δ):=rfl
theorem Rq:iW c w u D δ=c δ fun k=>if k=true then w D δ else u D δ:=rfl
theorem Pc:bz we D δ=we δ fun s=>D.rt (out s):=rfl
theorem LR:jy i D δ=look i δ D.rt:=rfl
theorem LQ:QY D δ=D.rt (.t .non):=rfl
theorem LL:bB D δ=D.nx δ:=rfl
theorem Hw:Ot D δ=D.bk δ:=rfl
theorem Lx:QU D δ=D.ct δ:=rfl
theorem Ly:xy we D δ=we δ fun _=>D.nx δ:=rfl
theorem Ph:ae i δ R=look i δ fun s=>R (seen s):=rfl
theorem Sx:wC x δ R=R (.t x):=rfl
theorem O7 (f:S->S->(S->Prop)->Prop):ao f wa wb δ R=wa δ fun x=>wb δ fun y=>f x y R:=rfl
theorem Ru (f:S->(S->Prop)->Prop):xF f wa δ R=wa δ fun x=>f x R:=rfl
theorem Sw (C:Int->Int->Prop)(g:Int->Int->T)(i j:Int):fI C g (.t (.int i)) (.t (.int j)) R=(C i j/\R (.t (g i j))):=rfl
theorem Ro (g:Int->Int->T)(i j:Int):IE g (.t (.int i)) (.t (.int j)) R=R (.t (g i j)):=rfl
theorem O5 (i:Int):jd (.t (.int i)) R=R (.t (.int (-i))):=rfl
theorem O1 (ts:List T)(i:Int):aJ (.t (.tup ts)) (.t (.int i)) R=atT ts i R:=rfl
theorem OZ (ts:List T)(i:Int):aJ (.t (.lst ts)) (.t (.int i)) R=atT ts i R:=rfl
theorem O3 (ts:List T)(i:Int):aJ (.vt (.tup ts)) (.t (.int i)) R=xE ts i R:=rfl
theorem O2 (ts:List T)(i:Int):aJ (.vt (.lst ts)) (.t (.int i)) R=xE ts i R:=rfl
theorem O0 (ts:List T)(i:Int):aJ (.ol ts) (.t (.int i)) R=atT ts i R:=rfl
theorem fE {ts:List T}{i:Int}{x:T}{R:S->Prop}(h:atI ts i=some x):atT ts i R=R (.t x):=by unfold atT;rw[h]
theorem dy {α:Type}{ts:List α}{n:Nat}{x:α}(h:ts[n]?=some x):atI ts (n:Int)=some x:=HR h
theorem Pl (r:List T):atT (x::r) 0 R=R (.t x):=fE (dy (n:=0) rfl)
theorem Pm (r:List T):atT (x::y::r) 1 R=R (.t y):=fE (dy (n:=1) rfl)
theorem Pn (z:T)(r:List T):atT (x::y::z::r) 2 R=R (.t z):=fE (dy (n:=2) rfl)
theorem Po (z z':T)(r:List T):atT (x::y::z::z'::r) 3 R=R (.t z'):=fE (dy (n:=3) rfl)
theorem ic {ts:List T}{i:Int}{x:T}{R:S->Prop}(h:atI ts i=some x):xE ts i R=R (norm x):=by unfold xE;rw[h]
theorem Pp (r:List T):xE (x::r) 0 R=R (norm x):=ic (dy (n:=0) rfl)
theorem Pq (r:List T):xE (x::y::r) 1 R=R (norm y):=ic (dy (n:=1) rfl)
theorem Ps (z:T)(r:List T):xE (x::y::z::r) 2 R=R (norm z):=ic (dy (n:=2) rfl)
theorem Pu (z z':T)(r:List T):xE (x::y::z::z'::r) 3 R=R (norm z'):=ic (dy (n:=3) rfl)
theorem fj {x:T}(h:lH x=true):norm x=.t x:=if_pos h
theorem FY:norm .non=.t .non:=rfl
theorem Jm (b:Bool):norm (.bl b)=.t (.bl b):=rfl
theorem FW (i:Int):norm (.int i)=.t (.int i):=rfl
theorem F6 (i:PySem.Str):norm (.str i)=.t (.str i):=rfl
theorem FV (i:PySem.Str):norm (.exc i)=.t (.exc i):=rfl
theorem FX (ts:List T):norm (.lst ts)=.vt (.lst ts):=rfl
theorem Jn (a b:Int):norm (.tup [.int a,.int b])=.t (.tup [.int a,.int b]):=rfl
theorem FZ (a b c:Int):norm (.tup [.int a,.int b,.int c])=.t (.tup [.int a,.int b,.int c]):=rfl
theorem Jo (a b c d:Int):norm (.tup [.tup [.int a,.int b],.tup [.int c,.int d]])=.t (.tup [.tup [.int a,.int b],.tup [.int c,.int d]]):=rfl
theorem MF:setS i (.t x) δ=δ.set i (some (.t x)):=rfl
theorem ME (ts:List T):setS i (.ol ts) δ=δ.set i (some (.ol ts)):=rfl
theorem MG:setS i (.vt x) δ=(freeze δ).set i (some (.t x)):=rfl
theorem IB:seen (.t x)=.t x:=rfl
theorem IC:seen (.vt x)=.vt x:=rfl
theorem IA (ts:List T):seen (.ol ts)=.vt (.lst ts):=rfl
theorem MC:out (.t x)=.t x:=rfl
theorem MD:out (.vt x)=.t x:=rfl
theorem MB (ts:List T):out (.ol ts)=.ol ts:=rfl
theorem Mu:nE (.t x)=.t x:=rfl
theorem Mv:nE (.vt x)=.t x:=rfl
theorem Mt (ts:List T):nE (.ol ts)=.t (.lst ts):=rfl
theorem MA:got (.t x)=norm x:=rfl
theorem fb (ts:List T)(h:cL ts=true):got (.ol ts)=.ol ts:=if_pos h
theorem Mz:eG (.t x)=.t x:=rfl
theorem Mx (ts:List T):eG (.ol ts)=.t (.lst ts):=rfl
theorem PK:freeze []=[]:=rfl
theorem Mw (r:a8):freeze (none::r)=none::freeze r:=rfl
theorem My (s:S)(r:a8):freeze (some s::r)=some (eG s)::freeze r:=rfl
theorem PM:tr (.t x)=x:=rfl
theorem PN:tr (.vt x)=x:=rfl
theorem PL (ts:List T):tr (.ol ts)=.lst ts:=rfl
def Sl (R:Bool->Prop):S->Prop
 | .t (.bl k)=>R k
 | _=>False
theorem Sv (R:Bool->Prop):wB we δ R=we δ (Sl R):=rfl
theorem LY (R:Bool->Prop)(k:Bool):Sl R (.t (.bl k))=R k:=rfl
theorem Lq (R:Bool->Prop):kz t c δ R=t δ fun k=>if k=true then c δ R else R false:=rfl
theorem O8 (R:Bool->Prop):Ky t c δ R=t δ fun k=>if k=true then R true else c δ R:=rfl
theorem LN (R:Bool->Prop):QW t δ R=t δ fun k=>R (!k):=rfl
def Pj (B:Prop)(R:S->Prop):S->Prop
 | .t (.bl k)=>if k=true then B else R (.t (.bl false))
 | _=>False
def Sm (B:Prop)(R:S->Prop):S->Prop
 | .t (.bl k)=>if k=true then R (.t (.bl true)) else B
 | _=>False
def Qg (R:S->Prop):S->Prop
 | .t (.bl k)=>R (.t (.bl (!k)))
 | _=>False
theorem Lr:QT wa wb δ R=wa δ (Pj (wb δ R) R):=rfl
theorem O9:Sh wa wb δ R=wa δ (Sm (wb δ R) R):=rfl
theorem LO:QX wa δ R=wa δ (Qg R):=rfl
theorem HM (B:Prop)(k:Bool):Pj B R (.t (.bl k))=if k=true then B else R (.t (.bl false)):=rfl
theorem Nx (B:Prop)(k:Bool):Sm B R (.t (.bl k))=if k=true then R (.t (.bl true)) else B:=rfl
theorem Jp (k:Bool):Qg R (.t (.bl k))=R (.t (.bl (!k))):=rfl
theorem OX:Sg c wa wb δ R=c δ fun k=>if k=true then wa δ R else wb δ R:=rfl
theorem Rp (f:List S->(S->Prop)->Prop):eP f ws δ R=ws δ fun ss=>f ss R:=rfl
theorem O6 (R:List S->Prop):ap δ R=R []:=rfl
theorem Lw (R:List S->Prop):ac wa ws δ R=wa δ fun x=>ws δ fun xs=>R (x::xs):=rfl
def tupK (R:S->Prop)(ss:List S):Prop:=match lZ ss with
 | some ts=>if ts.length<=1000 then R (.t (.tup ts)) else False
 | none=>False
def lstK (R:S->Prop)(ss:List S):Prop:=match lZ ss with
 | some ts=>if ts.length<=1000 then R (.ol ts) else False
 | none=>False
theorem Pf:bZ ws δ R=ws δ (tupK R):=rfl
theorem O4:jx ws δ R=ws δ (lstK R):=rfl
theorem R9:tupK R [.t x]=R (.t (.tup [x])):=rfl
theorem Sa:tupK R [.t x,.t y]=R (.t (.tup [x,y])):=rfl
theorem Sb (z:T):tupK R [.t x,.t y,.t z]=R (.t (.tup [x,y,z])):=rfl
theorem RH:lstK R []=R (.ol []):=rfl
theorem RJ:lstK R [.t x]=R (.ol [x]):=rfl
theorem RK:lstK R [.t x,.t y]=R (.ol [x,y]):=rfl
theorem RL (z:T):lstK R [.t x,.t y,.t z]=R (.ol [x,y,z]):=rfl
theorem RM (z z':T):lstK R [.t x,.t y,.t z,.t z']=R (.ol [x,y,z,z']):=rfl
theorem Sd (z z':T):tupK R [.t x,.t y,.t z,.t z']=R (.t (.tup [x,y,z,z'])):=rfl
theorem Lu (sp:aM):aw sp ws δ R=ws δ fun ss=>sp (ss.map nE) fun s=>R (got s):=rfl
theorem LG (ts:List T):dj [.t (.tup ts)] R=R (.t (.int ts.length)):=rfl
theorem LD (ts:List T):dj [.t (.lst ts)] R=R (.t (.int ts.length)):=rfl
theorem LI (ts:List T):dj [.vt (.tup ts)] R=R (.t (.int ts.length)):=rfl
theorem LH (ts:List T):dj [.vt (.lst ts)] R=R (.t (.int ts.length)):=rfl
theorem LF (ts:List T):dj [.ol ts] R=R (.t (.int ts.length)):=rfl
theorem OU (i:Int):iY [.t (.int i)] R=R (.t (.int (if i<0 then -i else i))):=rfl
theorem LJ (i j:Int):wg [.t (.int i),.t (.int j)] R=R (.t (.int (if j>i then j else i))):=rfl
theorem LK (i j:Int):rT [.t (.int i),.t (.int j)] R=R (.t (.int (if j<i then j else i))):=rfl
theorem LC (i:Int):PU [.t (.int i)] R=R (.t (.int i)):=rfl
theorem LB (b:Bool):PU [.t (.bl b)] R=R (.t (.int (if b then 1 else 0))):=rfl
theorem HB (ts:List T):t6 [.t (.lst ts)] R=R (.ol ts):=rfl
theorem HD (ts:List T):t6 [.vt (.lst ts)] R=(cL ts=true/\R (.ol ts)):=rfl
theorem HC (ts:List T):t6 [.ol ts] R=R (.ol ts):=rfl
theorem PQ (i j:Int):dU (.t (.int i)) (.t (.int j)) R=R (.t (.bl (decide (i=j)))):=by
 have e:(i == j)=decide (i=j):=by cases h:(i == j) <;> simp_all
 show(dep (.int i)<=20/\dep (.int j)<=20/\R (.t (.bl (i == j))))=_;rw[e];exact propext ⟨fun h=>h.2.2,fun h=>⟨zero_le _,zero_le _,h⟩⟩
theorem Qe (i j:Int):dW (.t (.int i)) (.t (.int j)) R=R (.t (.bl (!decide (i=j)))):=by
 have e:(i == j)=decide (i=j):=by cases h:(i == j) <;> simp_all
 show(dep (.int i)<=20/\dep (.int j)<=20/\R (.t (.bl (!(i == j)))))=_;rw[e];exact propext ⟨fun h=>h.2.2,fun h=>⟨zero_le _,zero_le _,h⟩⟩
theorem Rt (ty:Ty):SN ty we δ R=we δ fun s=>Ct s≠.exc/\R (.t (.bl (cF (Ct s) ty))):=rfl
theorem Ol:Ct (.t .non)=.non:=rfl
theorem QO (b:Bool):Ct (.t (.bl b))=.bool:=rfl
theorem ty_int (i:Int):Ct (.t (.int i))=.int:=rfl
theorem ty_str (i:PySem.Str):Ct (.t (.str i))=.str:=rfl
theorem Om (ts:List T):Ct (.t (.tup ts))=.tup:=rfl
theorem Kw (ts:List T):Ct (.vt (.tup ts))=.tup:=rfl
theorem QP (ts:List T):Ct (.t (.lst ts))=.lst:=rfl
theorem QS (ts:List T):Ct (.vt (.lst ts))=.lst:=rfl
theorem QR (ts:List T):Ct (.ol ts)=.lst:=rfl
theorem OY:Hb wa δ R=wa δ fun s=>R (.t (.bl (KU (tr s)))):=rfl
theorem LM:tu wa δ R=wa δ fun s=>R (.t (.bl (!KU (tr s)))):=rfl
theorem Nc:(Ty.non≠Ty.exc)=True:=by simp
theorem Nd:(Ty.bool≠Ty.exc)=True:=by simp
theorem Nf:(Ty.int≠Ty.exc)=True:=by simp
theorem Ng:(Ty.str≠Ty.exc)=True:=by simp
theorem Nh:(Ty.tup≠Ty.exc)=True:=by simp
theorem Ni:(Ty.lst≠Ty.exc)=True:=by simp
theorem OW (wi:WI)(g:WG):k7 wi g w D δ=wi δ fun ts δ'=>Bz g w ts D δ':=rfl
theorem CL (W:List T->a8->Prop):cm we δ W=we δ (sA δ W):=rfl
theorem Je (W:List T->a8->Prop)(ts:List T):sA δ W (.t (.lst ts))=W ts δ:=rfl
theorem Jg (W:List T->a8->Prop)(ts:List T):sA δ W (.vt (.lst ts))=W ts (freeze δ):=rfl
theorem Jf (W:List T->a8->Prop)(ts:List T):sA δ W (.ol ts)=W ts δ:=rfl
theorem HK (W:List T->a8->Prop):Hg we δ W=we δ (QK δ W):=rfl
theorem QL (W:List T->a8->Prop)(ts:List T):QK δ W (.t (.tup ts))=W ts δ:=rfl
theorem QM (W:List T->a8->Prop)(ts:List T):QK δ W (.vt (.tup ts))=W ts (freeze δ):=rfl
def QB (δ:a8)(W:List T->a8->Prop):List S->Prop
 | [.t (.int j)]=>kg j/\W (bW 0 j.toNat) δ
 | _=>False
theorem CM (W:List T->a8->Prop):fV ws δ W=ws δ (QB δ W):=rfl
theorem NY (W:List T->a8->Prop)(j:Int):QB δ W [.t (.int j)]=(kg j/\W (bW 0 j.toNat) δ):=rfl
def K9 (δ:a8)(W:List T->a8->Prop):List S->Prop
 | [.t (.int i),.t (.int j)]=>kg i/\kg j/\W (bW i (j-i).toNat) δ
 | _=>False
theorem CN (W:List T->a8->Prop):Ov ws δ W=ws δ (K9 δ W):=rfl
theorem NZ (W:List T->a8->Prop)(i j:Int):K9 δ W [.t (.int i),.t (.int j)]=(kg i/\kg j/\W (bW i (j-i).toNat) δ):=rfl
theorem HA (R:a8->Prop):aG i x δ R=R (δ.set i (some (.t x))):=rfl
theorem LA (g:List T->a8->(a8->Prop)->Prop)(R:a8->Prop)(ts:List T):kA g (.tup ts) δ R=g ts δ R:=rfl
theorem Lz (R:a8->Prop):iX [] δ R=R δ:=rfl
theorem Hz (g:WG)(gr:List T->a8->(a8->Prop)->Prop)(R:a8->Prop)(r:List T):bC g gr (x::r) δ R=g x δ fun δ1=>gr r δ1 R:=rfl
theorem Pg (g:WG):xB we g D δ=we δ (Kx g δ D.nx):=rfl
theorem Oo (g:WG)(N:a8->Prop):Kx g δ N (.t x)=g x δ N:=rfl
theorem Oq (g:WG)(N:a8->Prop):Kx g δ N (.vt x)=g x (freeze δ) N:=rfl
def Qo (i j:Nat)(δ:a8)(N:a8->Prop):List S->Prop
 | [.t x,.t y]=>N ((δ.set i (some (.t x))).set j (some (.t y)))
 | _=>False
theorem Pa:Kz i j ws D δ=ws δ (Qo i j δ D.nx):=rfl
theorem NA (N:a8->Prop):Qo i j δ N [.t x,.t y]=N ((δ.set i (some (.t x))).set j (some (.t y))):=rfl
theorem HG (wl wh:a8->(Option Int->Prop)->Prop):iR we wl wh δ R=we δ fun s=>wl δ fun lo=>wh δ fun hi=>zd lo hi R s:=rfl
theorem N5 (lo hi:Option Int)(ts:List T):zd lo hi R (.t (.lst ts))=R (.ol (gU ts lo hi)):=rfl
theorem N7 (lo hi:Option Int)(ts:List T):zd lo hi R (.vt (.lst ts))=(cL ts=true/\R (.ol (gU ts lo hi))):=rfl
theorem N6 (lo hi:Option Int)(ts:List T):zd lo hi R (.ol ts)=R (.ol (gU ts lo hi)):=rfl
theorem LS:He we D δ=we (freeze δ) fun s=>D.rt (out s):=rfl
theorem OV (a b:S):Bx a b R=tP (fun ts=>tP (fun us=>ts.length+us.length<=100000/\R (.ol (ts++us))) b) a:=rfl
theorem L9 (R:List T->Prop)(ts:List T):tP R (.t (.lst ts))=R ts:=rfl
theorem Mb (R:List T->Prop)(ts:List T):tP R (.vt (.lst ts))=(cL ts=true/\R ts):=rfl
theorem Ma (R:List T->Prop)(ts:List T):tP R (.ol ts)=R ts:=rfl
theorem Lv (own:Nat)(fr:List Nat)(wi:WI)(g:WG)(te:WE):dQ own fr wi g t te δ R=wi δ fun ts δ'=>pc g t te ts (qT own fr (freeze δ')) fun acc=>R (.ol acc):=rfl
theorem Pi (R:Bool->Prop):nu δ R=R true:=rfl
theorem Ah (k:T->Prop):rZ k (.t x)=(lH x=true/\k x):=rfl
theorem IQ (k:T->Prop)(ts:List T):rZ k (.ol ts)=(cL ts=true/\k (.lst ts)):=rfl
theorem J5:lH .non=true:=rfl
theorem NR (b:Bool):lH (.bl b)=true:=rfl
theorem JZ (b:Int):lH (.int b)=true:=rfl
theorem J6 (b:PySem.Str):lH (.str b)=true:=rfl
theorem J7 (ts:List T):lH (.tup ts)=cL ts:=rfl
theorem J0 (ts:List T):lH (.lst ts)=false:=rfl
theorem GC:cL []=true:=rfl
theorem sK (ts:List T):cL (x::ts)=(lH x && cL ts):=rfl
theorem HE (R:Option Int->Prop):iQ δ R=R none:=rfl
def Qu (R:Option Int->Prop):S->Prop
 | .t (.int i)=>R (some i)
 | _=>False
theorem LP (R:Option Int->Prop):l7 we δ R=we δ (Qu R):=rfl
theorem NL (R:Option Int->Prop)(i:Int):Qu R (.t (.int i))=R (some i):=rfl
def Pk (i:Nat)(δ:a8)(N:a8->Prop)(ts:List T):S->Prop
 | .t x=>ts.length<100000/\N (δ.set i (some (.ol (ts++[x]))))
 | _=>False
theorem CI:fm i we D δ=pT i δ fun ts=>we δ (Pk i δ D.nx ts):=rfl
theorem LX (N:a8->Prop)(ts:List T):Pk i δ N ts (.t x)=(ts.length<100000/\N (δ.set i (some (.ol (ts++[x]))))):=rfl
theorem Pb:KA i D δ=pT i δ fun ts=>ts≠[]/\D.nx (δ.set i (some (.ol ts.dropLast))):=rfl
def Kn (i:Nat)(δ:a8)(N:a8->Prop)(ts:List T):S->S->Prop
 | .t x,.t (.int k)=>match uJ ts.length k with
  | some j=>N (δ.set i (some (.ol (ts.set j x))))
  | none=>False
 | _,_=>False
theorem HF:nt i we wv D δ=pT i δ fun ts=>wv δ fun v=>we δ fun s=>Kn i δ D.nx ts v s:=rfl
end
theorem zG {ts:List T}{i:Int}{R:S->Prop}(h0:0<=i)(h1:i<ts.length)(h:∀ x∈ts,R (.t x)):atT ts i R:=by
 have hl:i.toNat<ts.length:=by omega
 have e:i=((i.toNat:Nat):Int):=by omega
 rw[e,fE (dy (x:=ts[i.toNat]) (by simp[hl]))]
 exact h _ (getElem_mem hl)
theorem CT {ns:List Int}{i:Int}{R:S->Prop}(h0:0<=i)(h1:i<ns.length)(h:∀ v∈ns,R (.t (.int v))):atT (ns.map .int) i R:=
 zG h0 (by rw[length_map];exact h1) fun x hx=>by
  obtain⟨v,hv,rfl⟩:=mem_map.mp hx;exact h v hv
theorem Dk {i j:Int}(h:j≠0)(h2:j.natAbs.log2<9000):oT i j:=⟨h,PyProof.noPylong_of_log2 h2⟩
theorem Jk {i j:Int}(h1:-18446744073709551616<i)(h2:i<18446744073709551616):MulOk i j:=⟨Hj.ok (.inl ⟨by omega,by omega⟩)⟩
theorem Qb {i j:Int}(h1:-18446744073709551616<j)(h2:j<18446744073709551616):MulOk i j:=⟨Hj.ok (.inr ⟨by omega,by omega⟩)⟩
theorem mB (i:Int):(if i<0 then -i else i)=(i.natAbs:Int):=by split <;> omega
theorem pJ (g l:Nat):(g:Int).fmod (l:Int)=((g % l:Nat):Int):=by
 rw[Int.fmod_eq_emod_of_nonneg _ (Int.natCast_nonneg l)];rfl
theorem fmod_lo (c:Int){n:Int}(h:0<n):0<=c.fmod n:=Int.fmod_nonneg_of_pos c h
theorem fmod_hi (c:Int){n:Int}(h:0<n):c.fmod n<n:=Int.fmod_lt_of_pos c h
end DL
namespace DL
open L2
structure Sz (n:Nat) (i:Int):Prop where
 lt:i.natAbs<2 ^ n
theorem Sz.mono (h:Sz m i)(l:m<=n):Sz n i:=⟨lt_of_lt_of_le h.lt (Nat.pow_le_pow_right (by decide) l)⟩
theorem Sz.mul (ha:Sz m a)(hb:Sz n b):Sz (m+n) (a*b):=by
 have ha:=ha.lt;have hb:=hb.lt;refine⟨?_⟩;rw[Int.natAbs_mul,Nat.pow_add];exact Nat.mul_lt_mul_of_lt_of_le ha (Nat.le_of_lt hb) (Nat.pos_of_ne_zero (by have:=Nat.two_pow_pos n;omega))
theorem AT (ha:x<2 ^ m)(hb:y<2 ^ n):x+y<2 ^ (max m n+1):=by
 have h1:2 ^ m<=2 ^ max m n:=Nat.pow_le_pow_right (by decide) (Nat.le_max_left _ _)
 have h2:2 ^ n<=2 ^ max m n:=Nat.pow_le_pow_right (by decide) (Nat.le_max_right _ _)
 rw[Nat.pow_succ];omega
theorem Sz.add (ha:Sz m a)(hb:Sz n b):Sz (max m n+1) (a+b):=by
 have:=AT ha.lt hb.lt;refine⟨?_⟩;omega
theorem Sz.sub (ha:Sz m a)(hb:Sz n b):Sz (max m n+1) (a-b):=by
 have:=AT ha.lt hb.lt;refine⟨?_⟩;omega
theorem Sz.neg (ha:Sz m a):Sz m (-a):=by
 refine⟨?_⟩;rw[Int.natAbs_neg];exact ha.lt
theorem natAbs_fdiv_le (a b:Int):(a.fdiv b).natAbs<=a.natAbs:=by
 cases a with
 | ofNat m=>
  cases b with
  | ofNat n=>
   cases m with
   | zero=>show(0:Int).natAbs<=_;simp
   | succ m=>show(Int.ofNat ((m+1) / n)).natAbs<=m+1;exact div_le_self (m+1) n
  | negSucc n=>
   cases m with
   | zero=>show(0:Int).natAbs<=_;simp
   | succ m=>
    show(Int.negSucc (m / (n+1))).natAbs<=m+1;have:(Int.negSucc (m / (n+1))).natAbs=m / (n+1)+1:=rfl;rw[this];have:=div_le_self m (n+1);omega
 | negSucc m=>
  cases b with
  | ofNat n=>
   cases n with
   | zero=>show(0:Int).natAbs<=_;simp
   | succ n=>
    show(Int.negSucc (m / (n+1))).natAbs<=m+1;have:(Int.negSucc (m / (n+1))).natAbs=m / (n+1)+1:=rfl;rw[this];have:=div_le_self m (n+1);omega
  | negSucc n=>
   show(Int.ofNat ((m+1) / (n+1))).natAbs<=m+1;exact div_le_self (m+1) (n+1)
theorem Sz.fdiv (ha:Sz m a)(b:Int):Sz m (a.fdiv b):=⟨lt_of_le_of_lt (natAbs_fdiv_le a b) ha.lt⟩
theorem Sz.fmod (hb:Sz m b)(h:0<b)(a:Int):Sz m (a.fmod b):=by
 have h1:=Int.fmod_nonneg_of_pos a h;have h2:=Int.fmod_lt_of_pos a h;have:=hb.lt;exact⟨by omega⟩
theorem Sz.of {m:Nat}{a:Int}(h1:-(2 ^ m:Nat)<a)(h2:a<(2 ^ m:Nat)):Sz m a:=⟨by omega⟩
theorem Sz.gcdL (ha:Sz m a)(h:a≠0):Sz m (Int.gcd a b):=by
 have:Int.gcd a b<=a.natAbs:=Nat.le_of_dvd (by omega) (Int.gcd_dvd_natAbs_left a b)
 have:=ha.lt;have e:((Int.gcd a b:Nat):Int).natAbs=Int.gcd a b:=rfl;refine⟨?_⟩;rw[e];omega
theorem Sz.gcd (ha:Sz m a)(hb:Sz n b):Sz (max m n) (Int.gcd a b):=by
 by_cases h:a=0
 ·subst h;have e:Int.gcd 0 b=b.natAbs:=Int.gcd_zero_left b;rw[e];exact Sz.mono (show Sz n (b.natAbs:Int) from⟨hb.lt⟩) (Nat.le_max_right _ _)
 ·exact(Sz.gcdL ha h).mono (Nat.le_max_left _ _)
theorem o9 (h:Sz n a)(hn:n<=1048576):PySem.Builtin.Int.intBits a<=2 ^ 20:=by
 unfold PySem.Builtin.Int.intBits;have e:(2:Nat) ^ 20=1048576:=by decide
 rw[e]
 by_cases h0:a.natAbs=0
 ·simp only[h0];split <;> first|omega|simp
 ·have:=(Nat.log2_lt h0).mpr h.lt
  first
   | omega
   | (simp only[h0];omega)
   | (split <;> omega)
theorem bH (ha:Sz m a)(hb:Sz n b)(h1:m<=1048576)(h2:n<=1048576):MulOk a b:=⟨PySem.IntMulOk.of_bits (o9 ha h1) (o9 hb h2)⟩
theorem zT (h:j≠0)(hs:Sz n j)(hn:n<=9000):oT i j:=by
 refine Dk h ?_;have h0:j.natAbs≠0:=by omega
 have:=(Nat.log2_lt h0).mpr hs.lt;omega
theorem Mq (h:j≠0)(hs:Sz n i)(hn:n<=13500):oT i j:=by
 refine⟨h,?_⟩;unfold PySem.Builtin.divisionGoesByPylong;simp only[Bool.and_eq_false_iff,decide_eq_false_iff_not]
 by_cases h1:(if (j == 0)=true then 0 else j.natAbs.log2 / 30+1)>300
 ·right
  by_cases h0:(i == 0)=true
  ·rw[if_pos h0];omega
  ·rw[if_neg h0];have h0':i.natAbs≠0:=by simpa using h0
   have:=(Nat.log2_lt h0').mpr hs.lt;omega
 ·left;exact h1
theorem lK (h1:-(2 ^ 62)<=i)(h2:i<2 ^ 62):kg i:=⟨h1,h2⟩
theorem Gy (h1:0<=j)(h2:j<=1000000)(h3:i.natAbs<2 ^ 64):CF i j:=⟨⟨h1,h2,h3⟩⟩
end DL
namespace DL
open L2
abbrev Fr:=Int × Int
abbrev Pt:=Int × Int
abbrev aS:=Fr × Fr
abbrev Hf:=Int × Int × Int
def aV (p:Pt):T:=.tup [.int p.1,.int p.2]
def rW (p:Fr):T:=.tup [.int p.1,.int p.2]
def spT (s:aS):T:=.tup [rW s.1,rW s.2]
def bc (h:Hf):T:=.tup [.int h.1,.int h.2.1,.int h.2.2]
theorem AD (p:Pt):lH (aV p)=true:=rfl
theorem bI {α:Type}{f:α->T}(h:∀ a,lH (f a)=true):∀ l:List α,cL (l.map f)=true
 | []=>rfl
 | a::r=>by rw[map_cons,sK,h a,bI h r];rfl
theorem gX {α:Type}{f:α->T}{n:Nat}(h:∀ a,dep (f a)<=n):∀ l:List α,gW (l.map f)<=n
 | []=>zero_le _
 | a::r=>by
  rw[map_cons];have:=gX h r;have:=h a;simp only[gW];omega
theorem pE {α:Type}{f:α->T}(h:∀ a b,eqT (f a) (f b)=true↔a=b):∀ l m:List α,cJ (l.map f) (m.map f)=true↔l=m
 | [],[]=>by simp[cJ]
 | [],_::_=>by simp[cJ]
 | _::_,[]=>by simp[cJ]
 | a::r,b::s=>by
  simp only[map_cons,cJ,Bool.and_eq_true,h a b,pE h r s,List.cons.injEq]
theorem bv (a b:Int):eqT (.int a) (.int b)=true↔a=b:=by simp[eqT]
theorem bw (a b:Pt):eqT (aV a) (aV b)=true↔a=b:=by
 simp only[aV,eqT,cJ,Bool.and_eq_true,beq_iff_eq,Bool.and_true,Prod.ext_iff]
theorem bd (a b:aS):eqT (spT a) (spT b)=true↔a=b:=by
 obtain⟨⟨a1,a2⟩,a3,a4⟩:=a;obtain⟨⟨b1,b2⟩,b3,b4⟩:=b;simp only[spT,rW,eqT,cJ,Bool.and_eq_true,beq_iff_eq,Bool.and_true,Prod.mk.injEq]
theorem bu (a b:Hf):eqT (bc a) (bc b)=true↔a=b:=by
 obtain⟨a1,a2,a3⟩:=a;obtain⟨b1,b2,b3⟩:=b;simp only[bc,eqT,cJ,Bool.and_eq_true,beq_iff_eq,Bool.and_true,Prod.mk.injEq]
theorem bt (a:Pt):dep (aV a)<=2:=by show 1<=2;decide
theorem bg (a:aS):dep (spT a)<=2:=by show 2<=2;decide
theorem br (a:Hf):dep (bc a)<=2:=by show 1<=2;decide
theorem vT [Decidable P](h:b=true↔P):b=decide P:=by
 cases b with
 | true=>exact(decide_eq_true (h.mp rfl)).symm
 | false=>exact(decide_eq_false fun p=>by cases h.mpr p).symm
section
variable (R:S->Prop)
theorem DR [Decidable P](h1:dep (tr a)<=20)(h2:dep (tr b)<=20)(h:eqT (tr a) (tr b)=true↔P):dU a b R=R (.t (.bl (decide P))):=by
 unfold dU Q7;rw[vT h];exact propext ⟨fun z=>z.2.2,fun z=>⟨h1,h2,z⟩⟩
theorem yB [Decidable P](h1:dep (tr a)<=20)(h2:dep (tr b)<=20)(h:eqT (tr a) (tr b)=true↔P):dW a b R=R (.t (.bl (!decide P))):=by
 unfold dW Q7;rw[vT h];exact propext ⟨fun z=>z.2.2,fun z=>⟨h1,h2,z⟩⟩
theorem PR (a b c d:Int):dU (.t (.tup [.int a,.int b])) (.t (.tup [.int c,.int d])) R=R (.t (.bl (decide (a=c/\b=d)))):=DR R (by show 1<=20;decide) (by show 1<=20;decide) (by simp[tr,eqT,cJ])
theorem Qf (a b c d:Int):dW (.t (.tup [.int a,.int b])) (.t (.tup [.int c,.int d])) R=R (.t (.bl (!decide (a=c/\b=d)))):=yB R (by show 1<=20;decide) (by show 1<=20;decide) (by simp[tr,eqT,cJ])
theorem PP (a b c d e f:Int):dU (.t (.tup [.int a,.int b,.int c])) (.t (.tup [.int d,.int e,.int f])) R=R (.t (.bl (decide (a=d/\b=e/\c=f)))):=DR R (by show 1<=20;decide) (by show 1<=20;decide) (by simp[tr,eqT,cJ])
theorem Qd (a b c d e f:Int):dW (.t (.tup [.int a,.int b,.int c])) (.t (.tup [.int d,.int e,.int f])) R=R (.t (.bl (!decide (a=d/\b=e/\c=f)))):=yB R (by show 1<=20;decide) (by show 1<=20;decide) (by simp[tr,eqT,cJ])
theorem az {α:Type}[DecidableEq α]{f:α->T}{a b:S}{l m:List α}(hf:∀ a b,eqT (f a) (f b)=true↔a=b)(hd:∀ a,dep (f a)<=2)(ha:tr a=.lst (l.map f))(hb:tr b=.lst (m.map f)):dU a b R=R (.t (.bl (decide (l=m)))):=
 DR R (by rw[ha];have:=gX hd l;simp only[dep];omega) (by rw[hb];have:=gX hd m;simp only[dep];omega) (by rw[ha,hb];simp only[eqT];exact pE hf l m)
theorem aA {α:Type}[DecidableEq α]{f:α->T}{a b:S}{l m:List α}(hf:∀ a b,eqT (f a) (f b)=true↔a=b)(hd:∀ a,dep (f a)<=2)(ha:tr a=.lst (l.map f))(hb:tr b=.lst (m.map f)):dW a b R=R (.t (.bl (!decide (l=m)))):=
 yB R (by rw[ha];have:=gX hd l;simp only[dep];omega) (by rw[hb];have:=gX hd m;simp only[dep];omega) (by rw[ha,hb];simp only[eqT];exact pE hf l m)
end
def du (n:Nat)(h:Hf):Prop:=Sz n h.1/\Sz n h.2.1/\Sz n h.2.2
def SzF (n:Nat)(s:Fr):Prop:=Sz n s.1/\Sz n s.2
def fg (n:Nat)(s:aS):Prop:=SzF n s.1/\SzF n s.2
theorem uu:cF .non .non=true:=rfl
theorem rj:cF .non .bool=false:=rfl
theorem ur:cF .non .int=false:=rfl
theorem uv:cF .non .str=false:=rfl
theorem ux:cF .non .tup=false:=rfl
theorem ut:cF .non .lst=false:=rfl
theorem qZ:cF .bool .non=false:=rfl
theorem pM:cF .bool .bool=true:=rfl
theorem qX:cF .bool .int=true:=rfl
theorem re:cF .bool .str=false:=rfl
theorem rf:cF .bool .tup=false:=rfl
theorem qY:cF .bool .lst=false:=rfl
theorem uh:cF .int .non=false:=rfl
theorem rg:cF .int .bool=false:=rfl
theorem uf:cF .int .int=true:=rfl
theorem ui:cF .int .str=false:=rfl
theorem uj:cF .int .tup=false:=rfl
theorem ug:cF .int .lst=false:=rfl
theorem uA:cF .str .non=false:=rfl
theorem rm:cF .str .bool=false:=rfl
theorem uy:cF .str .int=false:=rfl
theorem uB:cF .str .str=true:=rfl
theorem uC:cF .str .tup=false:=rfl
theorem uz:cF .str .lst=false:=rfl
theorem uF:cF .tup .non=false:=rfl
theorem rq:cF .tup .bool=false:=rfl
theorem uD:cF .tup .int=false:=rfl
theorem uG:cF .tup .str=false:=rfl
theorem uH:cF .tup .tup=true:=rfl
theorem uE:cF .tup .lst=false:=rfl
theorem um:cF .lst .non=false:=rfl
theorem rh:cF .lst .bool=false:=rfl
theorem uk:cF .lst .int=false:=rfl
theorem uo:cF .lst .str=false:=rfl
theorem uq:cF .lst .tup=false:=rfl
theorem ul:cF .lst .lst=true:=rfl
theorem AE (l:List Pt):cL (l.map aV)=true:=bI (fun _=>rfl) l
theorem DY (R:S->Prop)(l m:List Pt):dU (.t (.lst (l.map aV))) (.t (.lst (m.map aV))) R=R (.t (.bl (decide (l=m)))):=az R bw bt rfl rfl
theorem FC (R:S->Prop)(l m:List Pt):dW (.t (.lst (l.map aV))) (.t (.lst (m.map aV))) R=R (.t (.bl (!decide (l=m)))):=aA R bw bt rfl rfl
theorem DZ (R:S->Prop)(l m:List Pt):dU (.t (.lst (l.map aV))) (.vt (.lst (m.map aV))) R=R (.t (.bl (decide (l=m)))):=az R bw bt rfl rfl
theorem FD (R:S->Prop)(l m:List Pt):dW (.t (.lst (l.map aV))) (.vt (.lst (m.map aV))) R=R (.t (.bl (!decide (l=m)))):=aA R bw bt rfl rfl
theorem DX (R:S->Prop)(l m:List Pt):dU (.t (.lst (l.map aV))) (.ol (m.map aV)) R=R (.t (.bl (decide (l=m)))):=az R bw bt rfl rfl
theorem FB (R:S->Prop)(l m:List Pt):dW (.t (.lst (l.map aV))) (.ol (m.map aV)) R=R (.t (.bl (!decide (l=m)))):=aA R bw bt rfl rfl
theorem D2 (R:S->Prop)(l m:List Pt):dU (.vt (.lst (l.map aV))) (.t (.lst (m.map aV))) R=R (.t (.bl (decide (l=m)))):=az R bw bt rfl rfl
theorem FG (R:S->Prop)(l m:List Pt):dW (.vt (.lst (l.map aV))) (.t (.lst (m.map aV))) R=R (.t (.bl (!decide (l=m)))):=aA R bw bt rfl rfl
theorem D6 (R:S->Prop)(l m:List Pt):dU (.vt (.lst (l.map aV))) (.vt (.lst (m.map aV))) R=R (.t (.bl (decide (l=m)))):=az R bw bt rfl rfl
theorem FH (R:S->Prop)(l m:List Pt):dW (.vt (.lst (l.map aV))) (.vt (.lst (m.map aV))) R=R (.t (.bl (!decide (l=m)))):=aA R bw bt rfl rfl
theorem D1 (R:S->Prop)(l m:List Pt):dU (.vt (.lst (l.map aV))) (.ol (m.map aV)) R=R (.t (.bl (decide (l=m)))):=az R bw bt rfl rfl
theorem FF (R:S->Prop)(l m:List Pt):dW (.vt (.lst (l.map aV))) (.ol (m.map aV)) R=R (.t (.bl (!decide (l=m)))):=aA R bw bt rfl rfl
theorem DU (R:S->Prop)(l m:List Pt):dU (.ol (l.map aV)) (.t (.lst (m.map aV))) R=R (.t (.bl (decide (l=m)))):=az R bw bt rfl rfl
theorem Fy (R:S->Prop)(l m:List Pt):dW (.ol (l.map aV)) (.t (.lst (m.map aV))) R=R (.t (.bl (!decide (l=m)))):=aA R bw bt rfl rfl
theorem DV (R:S->Prop)(l m:List Pt):dU (.ol (l.map aV)) (.vt (.lst (m.map aV))) R=R (.t (.bl (decide (l=m)))):=az R bw bt rfl rfl
theorem Fz (R:S->Prop)(l m:List Pt):dW (.ol (l.map aV)) (.vt (.lst (m.map aV))) R=R (.t (.bl (!decide (l=m)))):=aA R bw bt rfl rfl
theorem DT (R:S->Prop)(l m:List Pt):dU (.ol (l.map aV)) (.ol (m.map aV)) R=R (.t (.bl (decide (l=m)))):=az R bw bt rfl rfl
theorem Fx (R:S->Prop)(l m:List Pt):dW (.ol (l.map aV)) (.ol (m.map aV)) R=R (.t (.bl (!decide (l=m)))):=aA R bw bt rfl rfl
theorem DW (R:S->Prop)(l:List Pt):dU (.t (.lst (l.map aV))) (.ol []) R=R (.t (.bl (decide (l=[])))):=az (m:=[]) R bw bt rfl rfl
theorem FA (R:S->Prop)(l:List Pt):dW (.t (.lst (l.map aV))) (.ol []) R=R (.t (.bl (!decide (l=[])))):=aA (m:=[]) R bw bt rfl rfl
theorem D0 (R:S->Prop)(l:List Pt):dU (.vt (.lst (l.map aV))) (.ol []) R=R (.t (.bl (decide (l=[])))):=az (m:=[]) R bw bt rfl rfl
theorem FE (R:S->Prop)(l:List Pt):dW (.vt (.lst (l.map aV))) (.ol []) R=R (.t (.bl (!decide (l=[])))):=aA (m:=[]) R bw bt rfl rfl
theorem DS (R:S->Prop)(l:List Pt):dU (.ol (l.map aV)) (.ol []) R=R (.t (.bl (decide (l=[])))):=az (m:=[]) R bw bt rfl rfl
theorem Fw (R:S->Prop)(l:List Pt):dW (.ol (l.map aV)) (.ol []) R=R (.t (.bl (!decide (l=[])))):=aA (m:=[]) R bw bt rfl rfl
theorem J8 (l:List Hf):cL (l.map bc)=true:=bI (fun _=>rfl) l
theorem Dy (R:S->Prop)(l m:List Hf):dU (.t (.lst (l.map bc))) (.t (.lst (m.map bc))) R=R (.t (.bl (decide (l=m)))):=az R bu br rfl rfl
theorem Fc (R:S->Prop)(l m:List Hf):dW (.t (.lst (l.map bc))) (.t (.lst (m.map bc))) R=R (.t (.bl (!decide (l=m)))):=aA R bu br rfl rfl
theorem Dz (R:S->Prop)(l m:List Hf):dU (.t (.lst (l.map bc))) (.vt (.lst (m.map bc))) R=R (.t (.bl (decide (l=m)))):=az R bu br rfl rfl
theorem Fe (R:S->Prop)(l m:List Hf):dW (.t (.lst (l.map bc))) (.vt (.lst (m.map bc))) R=R (.t (.bl (!decide (l=m)))):=aA R bu br rfl rfl
theorem Dx (R:S->Prop)(l m:List Hf):dU (.t (.lst (l.map bc))) (.ol (m.map bc)) R=R (.t (.bl (decide (l=m)))):=az R bu br rfl rfl
theorem Fb (R:S->Prop)(l m:List Hf):dW (.t (.lst (l.map bc))) (.ol (m.map bc)) R=R (.t (.bl (!decide (l=m)))):=aA R bu br rfl rfl
theorem DC (R:S->Prop)(l m:List Hf):dU (.vt (.lst (l.map bc))) (.t (.lst (m.map bc))) R=R (.t (.bl (decide (l=m)))):=az R bu br rfl rfl
theorem Fh (R:S->Prop)(l m:List Hf):dW (.vt (.lst (l.map bc))) (.t (.lst (m.map bc))) R=R (.t (.bl (!decide (l=m)))):=aA R bu br rfl rfl
theorem DD (R:S->Prop)(l m:List Hf):dU (.vt (.lst (l.map bc))) (.vt (.lst (m.map bc))) R=R (.t (.bl (decide (l=m)))):=az R bu br rfl rfl
theorem Fi (R:S->Prop)(l m:List Hf):dW (.vt (.lst (l.map bc))) (.vt (.lst (m.map bc))) R=R (.t (.bl (!decide (l=m)))):=aA R bu br rfl rfl
theorem DB (R:S->Prop)(l m:List Hf):dU (.vt (.lst (l.map bc))) (.ol (m.map bc)) R=R (.t (.bl (decide (l=m)))):=az R bu br rfl rfl
theorem Fg (R:S->Prop)(l m:List Hf):dW (.vt (.lst (l.map bc))) (.ol (m.map bc)) R=R (.t (.bl (!decide (l=m)))):=aA R bu br rfl rfl
theorem Du (R:S->Prop)(l m:List Hf):dU (.ol (l.map bc)) (.t (.lst (m.map bc))) R=R (.t (.bl (decide (l=m)))):=az R bu br rfl rfl
theorem E8 (R:S->Prop)(l m:List Hf):dW (.ol (l.map bc)) (.t (.lst (m.map bc))) R=R (.t (.bl (!decide (l=m)))):=aA R bu br rfl rfl
theorem Dv (R:S->Prop)(l m:List Hf):dU (.ol (l.map bc)) (.vt (.lst (m.map bc))) R=R (.t (.bl (decide (l=m)))):=az R bu br rfl rfl
theorem E9 (R:S->Prop)(l m:List Hf):dW (.ol (l.map bc)) (.vt (.lst (m.map bc))) R=R (.t (.bl (!decide (l=m)))):=aA R bu br rfl rfl
theorem Dt (R:S->Prop)(l m:List Hf):dU (.ol (l.map bc)) (.ol (m.map bc)) R=R (.t (.bl (decide (l=m)))):=az R bu br rfl rfl
theorem E7 (R:S->Prop)(l m:List Hf):dW (.ol (l.map bc)) (.ol (m.map bc)) R=R (.t (.bl (!decide (l=m)))):=aA R bu br rfl rfl
theorem Dw (R:S->Prop)(l:List Hf):dU (.t (.lst (l.map bc))) (.ol []) R=R (.t (.bl (decide (l=[])))):=az (m:=[]) R bu br rfl rfl
theorem Fa (R:S->Prop)(l:List Hf):dW (.t (.lst (l.map bc))) (.ol []) R=R (.t (.bl (!decide (l=[])))):=aA (m:=[]) R bu br rfl rfl
theorem DA (R:S->Prop)(l:List Hf):dU (.vt (.lst (l.map bc))) (.ol []) R=R (.t (.bl (decide (l=[])))):=az (m:=[]) R bu br rfl rfl
theorem Ff (R:S->Prop)(l:List Hf):dW (.vt (.lst (l.map bc))) (.ol []) R=R (.t (.bl (!decide (l=[])))):=aA (m:=[]) R bu br rfl rfl
theorem Ds (R:S->Prop)(l:List Hf):dU (.ol (l.map bc)) (.ol []) R=R (.t (.bl (decide (l=[])))):=az (m:=[]) R bu br rfl rfl
theorem E6 (R:S->Prop)(l:List Hf):dW (.ol (l.map bc)) (.ol []) R=R (.t (.bl (!decide (l=[])))):=aA (m:=[]) R bu br rfl rfl
theorem Ka (l:List aS):cL (l.map spT)=true:=bI (fun _=>rfl) l
theorem Ed (R:S->Prop)(l m:List aS):dU (.t (.lst (l.map spT))) (.t (.lst (m.map spT))) R=R (.t (.bl (decide (l=m)))):=az R bd bg rfl rfl
theorem FO (R:S->Prop)(l m:List aS):dW (.t (.lst (l.map spT))) (.t (.lst (m.map spT))) R=R (.t (.bl (!decide (l=m)))):=aA R bd bg rfl rfl
theorem Ee (R:S->Prop)(l m:List aS):dU (.t (.lst (l.map spT))) (.vt (.lst (m.map spT))) R=R (.t (.bl (decide (l=m)))):=az R bd bg rfl rfl
theorem FP (R:S->Prop)(l m:List aS):dW (.t (.lst (l.map spT))) (.vt (.lst (m.map spT))) R=R (.t (.bl (!decide (l=m)))):=aA R bd bg rfl rfl
theorem Ec (R:S->Prop)(l m:List aS):dU (.t (.lst (l.map spT))) (.ol (m.map spT)) R=R (.t (.bl (decide (l=m)))):=az R bd bg rfl rfl
theorem FN (R:S->Prop)(l m:List aS):dW (.t (.lst (l.map spT))) (.ol (m.map spT)) R=R (.t (.bl (!decide (l=m)))):=aA R bd bg rfl rfl
theorem Eh (R:S->Prop)(l m:List aS):dU (.vt (.lst (l.map spT))) (.t (.lst (m.map spT))) R=R (.t (.bl (decide (l=m)))):=az R bd bg rfl rfl
theorem FS (R:S->Prop)(l m:List aS):dW (.vt (.lst (l.map spT))) (.t (.lst (m.map spT))) R=R (.t (.bl (!decide (l=m)))):=aA R bd bg rfl rfl
theorem Ei (R:S->Prop)(l m:List aS):dU (.vt (.lst (l.map spT))) (.vt (.lst (m.map spT))) R=R (.t (.bl (decide (l=m)))):=az R bd bg rfl rfl
theorem FT (R:S->Prop)(l m:List aS):dW (.vt (.lst (l.map spT))) (.vt (.lst (m.map spT))) R=R (.t (.bl (!decide (l=m)))):=aA R bd bg rfl rfl
theorem Eg (R:S->Prop)(l m:List aS):dU (.vt (.lst (l.map spT))) (.ol (m.map spT)) R=R (.t (.bl (decide (l=m)))):=az R bd bg rfl rfl
theorem FR (R:S->Prop)(l m:List aS):dW (.vt (.lst (l.map spT))) (.ol (m.map spT)) R=R (.t (.bl (!decide (l=m)))):=aA R bd bg rfl rfl
theorem D9 (R:S->Prop)(l m:List aS):dU (.ol (l.map spT)) (.t (.lst (m.map spT))) R=R (.t (.bl (decide (l=m)))):=az R bd bg rfl rfl
theorem FK (R:S->Prop)(l m:List aS):dW (.ol (l.map spT)) (.t (.lst (m.map spT))) R=R (.t (.bl (!decide (l=m)))):=aA R bd bg rfl rfl
theorem Ea (R:S->Prop)(l m:List aS):dU (.ol (l.map spT)) (.vt (.lst (m.map spT))) R=R (.t (.bl (decide (l=m)))):=az R bd bg rfl rfl
theorem FL (R:S->Prop)(l m:List aS):dW (.ol (l.map spT)) (.vt (.lst (m.map spT))) R=R (.t (.bl (!decide (l=m)))):=aA R bd bg rfl rfl
theorem D8 (R:S->Prop)(l m:List aS):dU (.ol (l.map spT)) (.ol (m.map spT)) R=R (.t (.bl (decide (l=m)))):=az R bd bg rfl rfl
theorem FJ (R:S->Prop)(l m:List aS):dW (.ol (l.map spT)) (.ol (m.map spT)) R=R (.t (.bl (!decide (l=m)))):=aA R bd bg rfl rfl
theorem Eb (R:S->Prop)(l:List aS):dU (.t (.lst (l.map spT))) (.ol []) R=R (.t (.bl (decide (l=[])))):=az (m:=[]) R bd bg rfl rfl
theorem FM (R:S->Prop)(l:List aS):dW (.t (.lst (l.map spT))) (.ol []) R=R (.t (.bl (!decide (l=[])))):=aA (m:=[]) R bd bg rfl rfl
theorem Ef (R:S->Prop)(l:List aS):dU (.vt (.lst (l.map spT))) (.ol []) R=R (.t (.bl (decide (l=[])))):=az (m:=[]) R bd bg rfl rfl
theorem FQ (R:S->Prop)(l:List aS):dW (.vt (.lst (l.map spT))) (.ol []) R=R (.t (.bl (!decide (l=[])))):=aA (m:=[]) R bd bg rfl rfl
theorem D7 (R:S->Prop)(l:List aS):dU (.ol (l.map spT)) (.ol []) R=R (.t (.bl (decide (l=[])))):=az (m:=[]) R bd bg rfl rfl
theorem FI (R:S->Prop)(l:List aS):dW (.ol (l.map spT)) (.ol []) R=R (.t (.bl (!decide (l=[])))):=aA (m:=[]) R bd bg rfl rfl
theorem J9 (l:List Int):cL (l.map T.int)=true:=bI (fun _=>rfl) l
theorem DK (R:S->Prop)(l m:List Int):dU (.t (.lst (l.map T.int))) (.t (.lst (m.map T.int))) R=R (.t (.bl (decide (l=m)))):=az R bv (fun _=>by show 0<=2;decide) rfl rfl
theorem Fp (R:S->Prop)(l m:List Int):dW (.t (.lst (l.map T.int))) (.t (.lst (m.map T.int))) R=R (.t (.bl (!decide (l=m)))):=aA R bv (fun _=>by show 0<=2;decide) rfl rfl
theorem DM (R:S->Prop)(l m:List Int):dU (.t (.lst (l.map T.int))) (.vt (.lst (m.map T.int))) R=R (.t (.bl (decide (l=m)))):=az R bv (fun _=>by show 0<=2;decide) rfl rfl
theorem Fq (R:S->Prop)(l m:List Int):dW (.t (.lst (l.map T.int))) (.vt (.lst (m.map T.int))) R=R (.t (.bl (!decide (l=m)))):=aA R bv (fun _=>by show 0<=2;decide) rfl rfl
theorem DJ (R:S->Prop)(l m:List Int):dU (.t (.lst (l.map T.int))) (.ol (m.map T.int)) R=R (.t (.bl (decide (l=m)))):=az R bv (fun _=>by show 0<=2;decide) rfl rfl
theorem Fo (R:S->Prop)(l m:List Int):dW (.t (.lst (l.map T.int))) (.ol (m.map T.int)) R=R (.t (.bl (!decide (l=m)))):=aA R bv (fun _=>by show 0<=2;decide) rfl rfl
theorem DP (R:S->Prop)(l m:List Int):dU (.vt (.lst (l.map T.int))) (.t (.lst (m.map T.int))) R=R (.t (.bl (decide (l=m)))):=az R bv (fun _=>by show 0<=2;decide) rfl rfl
theorem Fu (R:S->Prop)(l m:List Int):dW (.vt (.lst (l.map T.int))) (.t (.lst (m.map T.int))) R=R (.t (.bl (!decide (l=m)))):=aA R bv (fun _=>by show 0<=2;decide) rfl rfl
theorem DQ (R:S->Prop)(l m:List Int):dU (.vt (.lst (l.map T.int))) (.vt (.lst (m.map T.int))) R=R (.t (.bl (decide (l=m)))):=az R bv (fun _=>by show 0<=2;decide) rfl rfl
theorem Fv (R:S->Prop)(l m:List Int):dW (.vt (.lst (l.map T.int))) (.vt (.lst (m.map T.int))) R=R (.t (.bl (!decide (l=m)))):=aA R bv (fun _=>by show 0<=2;decide) rfl rfl
theorem DO (R:S->Prop)(l m:List Int):dU (.vt (.lst (l.map T.int))) (.ol (m.map T.int)) R=R (.t (.bl (decide (l=m)))):=az R bv (fun _=>by show 0<=2;decide) rfl rfl
theorem Ft (R:S->Prop)(l m:List Int):dW (.vt (.lst (l.map T.int))) (.ol (m.map T.int)) R=R (.t (.bl (!decide (l=m)))):=aA R bv (fun _=>by show 0<=2;decide) rfl rfl
theorem DG (R:S->Prop)(l m:List Int):dU (.ol (l.map T.int)) (.t (.lst (m.map T.int))) R=R (.t (.bl (decide (l=m)))):=az R bv (fun _=>by show 0<=2;decide) rfl rfl
theorem Fl (R:S->Prop)(l m:List Int):dW (.ol (l.map T.int)) (.t (.lst (m.map T.int))) R=R (.t (.bl (!decide (l=m)))):=aA R bv (fun _=>by show 0<=2;decide) rfl rfl
theorem DH (R:S->Prop)(l m:List Int):dU (.ol (l.map T.int)) (.vt (.lst (m.map T.int))) R=R (.t (.bl (decide (l=m)))):=az R bv (fun _=>by show 0<=2;decide) rfl rfl
theorem Fm (R:S->Prop)(l m:List Int):dW (.ol (l.map T.int)) (.vt (.lst (m.map T.int))) R=R (.t (.bl (!decide (l=m)))):=aA R bv (fun _=>by show 0<=2;decide) rfl rfl
theorem DF (R:S->Prop)(l m:List Int):dU (.ol (l.map T.int)) (.ol (m.map T.int)) R=R (.t (.bl (decide (l=m)))):=az R bv (fun _=>by show 0<=2;decide) rfl rfl
theorem Fk (R:S->Prop)(l m:List Int):dW (.ol (l.map T.int)) (.ol (m.map T.int)) R=R (.t (.bl (!decide (l=m)))):=aA R bv (fun _=>by show 0<=2;decide) rfl rfl
theorem DI (R:S->Prop)(l:List Int):dU (.t (.lst (l.map T.int))) (.ol []) R=R (.t (.bl (decide (l=[])))):=az (m:=[]) R bv (fun _=>by show 0<=2;decide) rfl rfl
theorem Fn (R:S->Prop)(l:List Int):dW (.t (.lst (l.map T.int))) (.ol []) R=R (.t (.bl (!decide (l=[])))):=aA (m:=[]) R bv (fun _=>by show 0<=2;decide) rfl rfl
theorem DN (R:S->Prop)(l:List Int):dU (.vt (.lst (l.map T.int))) (.ol []) R=R (.t (.bl (decide (l=[])))):=az (m:=[]) R bv (fun _=>by show 0<=2;decide) rfl rfl
theorem Fs (R:S->Prop)(l:List Int):dW (.vt (.lst (l.map T.int))) (.ol []) R=R (.t (.bl (!decide (l=[])))):=aA (m:=[]) R bv (fun _=>by show 0<=2;decide) rfl rfl
theorem DE (R:S->Prop)(l:List Int):dU (.ol (l.map T.int)) (.ol []) R=R (.t (.bl (decide (l=[])))):=az (m:=[]) R bv (fun _=>by show 0<=2;decide) rfl rfl
theorem Fj (R:S->Prop)(l:List Int):dW (.ol (l.map T.int)) (.ol []) R=R (.t (.bl (!decide (l=[])))):=aA (m:=[]) R bv (fun _=>by show 0<=2;decide) rfl rfl
end DL
namespace DL
open PySem L2
section
variable {X:Cx}
variable {o e:Expr}{wo we:WE}{apos cpos:Pos}
section
variable (δ:a8) (R:S->Prop) (we wo:WE)
theorem countP_map [DecidableEq α](hf:∀ a b,eqT (f a) (f b)=true↔a=b)(a:α):∀ l:List α,(l.map f).countP (fun t=>eqT t (f a))=l.count a
 | []=>rfl
 | b::r=>by
  rw[map_cons,List.countP_cons,List.count_cons,countP_map hf a r]
  congr 1
  by_cases e:b=a
  ·subst e;simp[(hf b b).mpr rfl]
  ·have:eqT (f b) (f a)=false:=by
    cases z:eqT (f b) (f a) with
    | false=>rfl
    | true=>exact absurd ((hf b a).mp z) e
   simp[this,e]
end
end
theorem eT {α:Type}{f h:α->T}{p:α->Bool}{g:WG}{tc:WT}{te:WE}{l:List α}{δ0:a8}{R:List T->Prop}(P:a8->Prop)(hp:∀ a∈l,lH (h a)=true)(hl:l.length<100000)(h0:P δ0)
  (step:∀ a∈l,∀ δ,P δ->∀ (Y:a8->S->Prop) (N:a8->Prop),(∀ δ1,P δ1->p a=true->Y δ1 (.t (h a)))->(∀ δ1,P δ1->p a=false->N δ1)->g (f a) δ fun δ1=>tc δ1 fun ok=>if ok=true then te δ1 (fun s=>Y δ1 s) else N δ1)
  (fin:R ((l.filter p).map h)):pc g tc te (l.map f) δ0 R:=by
 refine⟨fun ts δ acc=>∃ pre post,l=pre++post/\ts=post.map f/\P δ/\acc=(pre.filter p).map h,⟨[],l,rfl,rfl,h0,rfl⟩,?_,?_⟩
 ·rintro δ acc ⟨pre,post,e,e2,_,rfl⟩;have:post=[]:=by simpa using e2.symm
  subst this;rw[append_nil]at e;subst e;exact fin
 ·rintro x r δ acc ⟨pre,post,e,e2,hP,rfl⟩
  cases post with
  | nil=>cases e2
  | cons a post=>
   rw[map_cons]at e2
   cases e2
   have ha:a∈l:=by rw[e];simp
   have hlen:((pre.filter p).map h).length<100000:=by
    rw[length_map];have h1:=length_filter_le p pre;have h2:l.length=pre.length+(post.length+1):=by rw[e];simp
    omega
   refine step a ha δ hP _ _ (fun δ1 h1 pa=>⟨hp a ha,hlen,pre++[a],post,by rw[e];simp,rfl,h1,?_⟩) (fun δ1 h1 pa=>⟨pre++[a],post,by rw[e];simp,rfl,h1,?_⟩)
   ·rw[List.filter_append,map_append];simp[List.filter,pa]
   ·rw[List.filter_append,map_append];simp[List.filter,pa]
theorem eU {α:Type}{f h:α->T}{g:WG}{te:WE}{l:List α}{δ0:a8}{R:List T->Prop}(P:a8->Prop)(hp:∀ a∈l,lH (h a)=true)(hl:l.length<100000)(h0:P δ0)
  (step:∀ a∈l,∀ δ,P δ->∀ (Y:a8->S->Prop),(∀ δ1,P δ1->Y δ1 (.t (h a)))->g (f a) δ fun δ1=>te δ1 (fun s=>Y δ1 s))
  (fin:R (l.map h)):pc g nu te (l.map f) δ0 R:=by
 refine eT (p:=fun _=>true) P hp hl h0 (fun a ha δ hP Y N h1 h2=>?_) (by rw[List.filter_eq_self.mpr (fun _ _=>rfl)];exact fin)
 show g (f a) δ fun δ1=>if true=true then te δ1 (fun s=>Y δ1 s) else N δ1
 simp only[if_true];exact step a ha δ hP Y fun δ1 q=>h1 δ1 q rfl
theorem gZ (lo:Int)(n:Nat):(bW lo n).length=n:=by unfold bW;simp
end DL
namespace L2
open PySem PyProof.Rows
theorem lD:∀ {ns:List Int}{its:List Value},aO (ns.map V.int) its->IntsAre its ns
 | [],_,.nil=>.nil
 | n::ns,_,.cons h r=>by
  obtain⟨t,rfl⟩:=h;exact .cons n t (lD r)
section
variable {X:Cx}
theorem Bp (hc:X.calm=true):gM X (.builtin "sum") (fun xs H Q=>∃ (p:Addr) (ns:List Int),xs=[.ref p]/\df X.K H p (ns.map V.int)/\Q (.int ns.sum) H):=by
 rintro pins s σ H xs us Q I r ⟨p,ns,rfl,hq,q⟩;obtain⟨u,rfl,rx⟩:=vals1 r
 cases rx
 obtain⟨its,rv,⟨o,n,e,c,d,da⟩,_⟩:=I.list hq;have hl:s.heap.IsList p its.toArray:=⟨o,e,c,n,da⟩;have hi:=lD rv;obtain⟨xs,hx⟩:=hi.allInts.items;have hl':s.heap.IsList p (intItems xs):=hx ▸ hl;refine sum_intListG (I.ok.hd hc) hl' fun h' tk t' hk=>?_;have e1:ns=xs.toList.map (·.1):=by
  rw[<-nums_intItems,<-hx];exact(show numsOf its.toArray.toList=ns from hi.numsOf).symm
 have e2:preSum (numAt xs) xs.size=ns.sum:=by
  rw[preSum_eq,take_of_length_le (by simp),e1]
 rw[e2];exact⟨.int ns.sum,H,I.kept (t':=tk) hk,⟨t',rfl⟩,q⟩
theorem E1 (I:aH X pins σ H s)(hq:df X.K H p (ns.map V.int)):∃ xs:Array (Int × Tok),s.heap.IsList p (intItems xs)/\ns=xs.toList.map (·.1):=by
 obtain⟨its,rv,⟨o,n,e,c,d,da⟩,_⟩:=I.list hq;have hl:s.heap.IsList p its.toArray:=⟨o,e,c,n,da⟩;have hi:=lD rv;obtain⟨xs,hx⟩:=hi.allInts.items;refine⟨xs,hx ▸ hl,?_⟩;rw[<-nums_intItems,<-hx];exact(show numsOf its.toArray.toList=ns from hi.numsOf).symm
theorem C6 (hk:k<xs.size)(h:(intItems xs)[k]?=some v):∃ t,v=.int (numAt xs k) t/\numAt xs k∈xs.toList.map (·.1):=by
 obtain⟨t,e⟩:=intItems_at h;refine⟨t,e,?_⟩;have e2:=h;unfold intItems at e2;rw[Array.getElem?_map,Array.getElem?_eq_getElem hk]at e2;simp at e2;rw[e]at e2
 injection e2 with e3 _
 rw[<-e3];exact mem_map.mpr ⟨xs[k],by simp,rfl⟩
theorem Jq (h:m∈xs.toList.map (·.1)):∃ j,j<xs.size/\numAt xs j=m:=by
 obtain⟨p,hp,rfl⟩:=mem_map.mp h;obtain⟨j,hj,e⟩:=getElem_of_mem hp;have hj':j<xs.size:=by simpa using hj
 refine⟨j,hj',?_⟩;have h2:(intItems xs)[j]?=some (.int xs[j].1 xs[j].2):=by unfold intItems;rw[Array.getElem?_map,Array.getElem?_eq_getElem hj'];rfl
 obtain⟨t,e3⟩:=intItems_at h2
 injection e3 with e4 _
 rw[<-e4];have e5:xs[j]=p:=by simpa using e
 rw[e5]
theorem Bn (hc:X.calm=true):gM X (.builtin "max") (fun xs H Q=>∃ (p:Addr) (ns:List Int),xs=[.ref p]/\df X.K H p (ns.map V.int)/\ns≠[]/\∀ m∈ns,(∀ x∈ns,x<=m)->Q (.int m) H):=by
 rintro pins s σ H xs us Q I r ⟨p,ns,rfl,hq,hne,q⟩;obtain⟨u,rfl,rx⟩:=vals1 r
 cases rx
 obtain⟨xs,hl,e1⟩:=E1 I hq;have hz:0<xs.size:=by
  rcases Nat.eq_zero_or_pos xs.size with z|z
  ·exact absurd (by rw[e1];simpa using z) hne
  ·exact z
 refine max_intList (I.ok.hd hc) hl hz fun v h' tk hv hk=>?_;obtain⟨b1,b2⟩:=argBest_gt (numAt xs) (xs.size-1);obtain⟨t,rfl,hm⟩:=C6 (by omega) hv
 refine⟨.int _,H,I.kept (t':=tk) hk,⟨t,rfl⟩,q _ (by rw[e1];exact hm) fun x hx=>?_⟩
 rw[e1]at hx;obtain⟨j,hj,rfl⟩:=Jq hx;exact b2 j (by omega)
end
end L2
namespace DL
open PySem L2
def nM:List T->Option (List Int)
 | []=>some []
 | .int i::r=>match nM r with
  | some l=>some (i::l)
  | none=>none
 | _::_=>none
theorem jC:∀ l:List Int,nM (l.map T.int)=some l
 | []=>rfl
 | a::r=>by rw[map_cons];unfold nM;rw[jC r]
theorem iq:∀ {ts:List T}{l:List Int},nM ts=some l->ts=l.map T.int
 | [],l,h=>by cases h;rfl
 | t::r,l,h=>by
  cases t <;> try (simp[nM]at h)
  rename_i i
  split at h
  ·rename_i m hm;simp at h;subst h;rw[map_cons,iq hm]
  ·simp at h
def sumK (R:S->Prop)(ts:List T):Prop:=match nM ts with
 | some l=>R (.t (.int l.sum))
 | none=>False
theorem G1 (R:S->Prop)(l:List Int):sumK R (l.map T.int)=R (.t (.int l.sum)):=by unfold sumK;rw[jC]
def yg:List S->(S->Prop)->Prop
 | [.t (.lst ts)],R=>sumK R ts
 | [.vt (.lst ts)],R=>sumK R ts
 | [.ol ts],R=>sumK R ts
 | _,_=>False
theorem iP:∀ {l:List Int}{xs:List V},au K F (l.map T.int) xs->xs=l.map V.int
 | [],_,h=>h
 | a::r,_,⟨x,ys,e,h1,h2⟩=>by
  subst e;rw[iP h2];exact congrArg (·::_) h1
theorem Nn:hX K (fun xs H Q=>∃ (p:Addr) (ns:List Int),xs=[.ref p]/\df K H p (ns.map V.int)/\Q (.int ns.sum) H) yg:=by
 intro F H ss vs R Q sb fu rp h k;have fin:∀ {ts:List T}{a:Addr}{xs:List V}{G:Hp},sumK R ts->df K H a xs->au K G ts xs->∃ (p:Addr) (ns:List Int),[V.ref a]=[.ref p]/\df K H p (ns.map V.int)/\Q (.int ns.sum) H:=fun {ts a xs G} h1 h2 h3=>by
  unfold sumK at h1
  split at h1
  ·rename_i l hl;rw[iq hl]at h3;have e:=iP h3;subst e;exact⟨a,l,rfl,h2,k _ F H (.t (.int _)) (dw.refl sb fu) rfl h1⟩
  ·exact h1.elim
 unfold yg at h
 split at h
 ·obtain⟨v,r,rfl,⟨a,xs,rfl,h1,h2⟩,h3⟩:=rp
  cases (show r=[] from h3)
  exact fin h (sb.seq h1) h2
 ·obtain⟨v,r,rfl,⟨a,xs,rfl,h1,h2⟩,h3⟩:=rp
  cases (show r=[] from h3)
  exact fin h h1 h2
 ·obtain⟨v,r,rfl,⟨a,xs,rfl,h1,h2⟩,h3⟩:=rp
  cases (show r=[] from h3)
  exact fin h h1 h2
 ·exact h.elim
theorem boot_sum:bootBuiltins "sum"=some (.builtin "sum"):=by decide +kernel
section
variable {X:Cx}{e:Expr}{wa:WA}{pos p:Pos}
theorem Ml (hm:X.mg "sum"=none) (ha:PA X [e] (dM X.K wa)) (hg:Gl X "sum":=by rfl) (hc:X.calm=true:=by rfl) (he:starEach [e] X.env=(false,eval e X.env)::starEach [] X.env:=by exact aP rfl):PE X (.Call (.Name "sum" p) [e] [] pos) (av X.K (eP yg wa)):=
 fF (Bp hc) Nn hm boot_sum ha hg (he:=he) (hpl:=rfl)
end
theorem LU (ts:List T)(R:S->Prop):yg [.t (.lst ts)] R=sumK R ts:=rfl
theorem LW (ts:List T)(R:S->Prop):yg [.vt (.lst ts)] R=sumK R ts:=rfl
theorem LV (ts:List T)(R:S->Prop):yg [.ol ts] R=sumK R ts:=rfl
def ki (le:Int->Int->Prop)(R:S->Prop)(ts:List T):Prop:=match nM ts with
 | some l=>l≠[]/\∀ m∈l,(∀ x∈l,le x m)->R (.t (.int m))
 | none=>False
theorem Bl (le:Int->Int->Prop)(R:S->Prop)(l:List Int):ki le R (l.map T.int)=(l≠[]/\∀ m∈l,(∀ x∈l,le x m)->R (.t (.int m))):=by unfold ki;rw[jC]
def rS (le:Int->Int->Prop):List S->(S->Prop)->Prop
 | [.t (.lst ts)],R=>ki le R ts
 | [.vt (.lst ts)],R=>ki le R ts
 | [.ol ts],R=>ki le R ts
 | _,_=>False
abbrev KP:=rS fun x m=>x<=m
theorem Ju (le:Int->Int->Prop):hX K (fun xs H Q=>∃ (p:Addr) (ns:List Int),xs=[.ref p]/\df K H p (ns.map V.int)/\ns≠[]/\∀ m∈ns,(∀ x∈ns,le x m)->Q (.int m) H) (rS le):=by
 intro F H ss vs R Q sb fu rp h k;have fin:∀ {ts:List T}{a:Addr}{xs:List V}{G:Hp},ki le R ts->df K H a xs->au K G ts xs->∃ (p:Addr) (ns:List Int),[V.ref a]=[.ref p]/\df K H p (ns.map V.int)/\ns≠[]/\∀ m∈ns,(∀ x∈ns,le x m)->Q (.int m) H:=fun {ts a xs G} h1 h2 h3=>by
  unfold ki at h1
  split at h1
  ·rename_i l hl;rw[iq hl]at h3;have e:=iP h3;subst e;exact⟨a,l,rfl,h2,h1.1,fun m hm hx=>k _ F H (.t (.int _)) (dw.refl sb fu) rfl (h1.2 m hm hx)⟩
  ·exact h1.elim
 unfold rS at h
 split at h
 ·obtain⟨v,r,rfl,⟨a,xs,rfl,h1,h2⟩,h3⟩:=rp
  cases (show r=[] from h3)
  exact fin h (sb.seq h1) h2
 ·obtain⟨v,r,rfl,⟨a,xs,rfl,h1,h2⟩,h3⟩:=rp
  cases (show r=[] from h3)
  exact fin h h1 h2
 ·obtain⟨v,r,rfl,⟨a,xs,rfl,h1,h2⟩,h3⟩:=rp
  cases (show r=[] from h3)
  exact fin h h1 h2
 ·exact h.elim
section
variable {X:Cx}{e:Expr}{wa:WA}{pos p:Pos}
theorem Iq (hm:X.mg "max"=none) (ha:PA X [e] (dM X.K wa)) (hg:Gl X "max":=by rfl) (hc:X.calm=true:=by rfl) (he:starEach [e] X.env=(false,eval e X.env)::starEach [] X.env:=by exact aP rfl):PE X (.Call (.Name "max" p) [e] [] pos) (av X.K (eP KP wa)):=
 fF (Bn hc) (Ju _) hm PyProof.Rows.boot_max ha hg (he:=he) (hpl:=rfl)
end
theorem Ht (le:Int->Int->Prop)(ts:List T)(R:S->Prop):rS le [.t (.lst ts)] R=ki le R ts:=rfl
theorem Hv (le:Int->Int->Prop)(ts:List T)(R:S->Prop):rS le [.vt (.lst ts)] R=ki le R ts:=rfl
theorem Hu (le:Int->Int->Prop)(ts:List T)(R:S->Prop):rS le [.ol ts] R=ki le R ts:=rfl
def nG (g:WG)(tc:WT)(te:WE):List T->a8->List T->(List T->Prop)->Prop
 | [],_,acc,R=>R acc
 | x::r,δ,acc,R=>g x δ fun δ1=>tc δ1 fun ok=>if ok=true then te δ1 fun s=>rZ (fun y=>acc.length<100000/\nG g tc te r δ1 (acc++[y]) R) s else nG g tc te r δ1 acc R
theorem lm (h:nG g tc te ts δ [] R):pc g tc te ts δ R:=⟨fun ts δ acc=>nG g tc te ts δ acc R,h,fun _ _ h=>h,fun _ _ _ _ h=>h⟩
theorem Hy (g:WG)(tc:WT)(te:WE)(δ:a8)(acc:List T)(R:List T->Prop):nG g tc te [] δ acc R=R acc:=rfl
theorem Hx (g:WG)(tc:WT)(te:WE)(x:T)(r:List T)(δ:a8)(acc:List T)(R:List T->Prop):nG g tc te (x::r) δ acc R=g x δ fun δ1=>tc δ1 fun ok=>if ok=true then te δ1 fun s=>rZ (fun y=>acc.length<100000/\nG g tc te r δ1 (acc++[y]) R) s else nG g tc te r δ1 acc R:=rfl
end DL
namespace L2
open PySem PySem.Spec PyProof.Rows
section
variable {X:Cx}{pins:List (Addr × Obj)}{σ:St}{H:Hp}{s:Shared}
theorem aH.turnedS {h':Heap}{t':Nat}{fp:List Addr}(I:aH X pins σ H s)(k:∀ b o,b∉fp->s.heap.get? b=some o->h'.get? b=some o)(hf:∀ b∈fp,oU X pins H b):aH X pins σ H {s with heap:=h',toks:=t'}:=by
 have nit:∀ b u,H b=some u->b∉fp:=fun b u e z=>by rw[(hf b z).1]at e;cases e
 refine I.step (g':=s.gens) (d':=s.drawn) (ch:=fp) (fun b hb=>?_) (fun b o _ _ hc e _=>k b o hc e) (fun b o _ _ hc e _=>⟨o.slots,k b o hc e⟩) (fun _ _ _ _ n=>n)
  (fun b o hc e=>⟨o,k b o hc e⟩) (fun _ _ e=>e) (fun _ _ _ e=>e) (fun b ps e=>⟨#[],by rw[e];simp⟩) (fun m hm=>?_) (fun b u e=>?_) I.bare
 ·obtain⟨f0,f1,f2,f3,f4,f5⟩:=hf b hb;exact⟨f3,f1,f4,f5⟩
 ·obtain⟨o,es,ep,ho,r⟩:=hm;exact⟨o,es,ep,k _ o (fun z=>(hf _ z).2.1 rfl) ho,r⟩
 ·refine(I.hok b u e).stay (fun c v hc q=>k c v ?_ q) (fun _ q=>q) fun _ _ q=>q
  rcases hc with z|z
  ·rw[z];exact nit b u e
  ·exact nit c _ z
end
structure Rc (z TI TO i1 i2:Addr):Prop where
 TIz:TI≠z
 TOz:TO≠z
 i1z:i1≠z
 i2z:i2≠z
 TITO:TI≠TO
 TIi1:TI≠i1
 TIi2:TI≠i2
 TOi1:TO≠i1
 TOi2:TO≠i2
 i12:i1≠i2
section
variable {X:Cx}{elts:List Expr}{x1:Nat}{tp:Pos}
theorem tO:gM X (.builtin "sorted") (fun xs H Q=>∃ (p:Addr) (ns:List Int),xs=[.ref p]/\df X.K H p (ns.map V.int)/\ns.length<64/\∀ ms:List Int,ms.Perm ns->ms.Pairwise (·<=·)->∀ l,H l=none->Q (.ref l) (cM H l (.lst (ms.map V.int)))):=by
 rintro pins s σ H xs us Q I r ⟨p,ns,rfl,hq,hl64,q⟩;obtain⟨u,rfl,rx⟩:=vals1 r
 cases rx
 obtain⟨its,rv,pl,_⟩:=I.list hq;have hi:=lD rv;have hlen:its.length<64:=by have:=rv.length;rw[length_map]at this;omega
 refine sorted_ints pl.isList hi hlen fun out ns' a1 a2 a3=>?_;obtain⟨e,he⟩:=sortedAll_at s.heap its out;have hv:∀ {ms:List Int}{us:List Value},IntsAre us ms->aO (ms.map V.int) us:=fun {ms us} h=>by
  induction h with
  | nil=>exact .nil
  | cons n t _ ih=>exact .cons ⟨t,rfl⟩ ih
 refine⟨.ref _,_,I.laid (t':=s.toks) (a:=s.heap.objs.size+1) (o:=.lst (ns'.map V.int)) (fun b u=>sortedAll_old) (by omega) ⟨?_,out.toList,e,hv a1,?_⟩,rfl,q ns' a2 a3 _ (I.hok.fresh (by omega))⟩
 ·rw[length_map,a2.length_eq];exact le_trans (Nat.le_of_lt hl64) (by decide)
 ·rw[Array.toArray_toList];exact he
end
end L2
namespace DL
open PySem L2
def KC:List T->List T->List T
 | t::ts,u::us=>.tup [t,u]::KC ts us
 | _,_=>[]
def Si (δ:a8)(W:List T->a8->Prop):List S->Prop
 | [.t (.lst ts),.t (.lst us)]=>W (KC ts us) δ
 | [.vt (.lst ts),.vt (.lst us)]=>W (KC ts us) (freeze δ)
 | _=>False
section
variable {X:Cx}{e e2:Expr}{we:WE}{wa:WA}{p pos tp:Pos}{elts:List Expr}{x1:Nat}
end
theorem Oy (δ:a8)(W:List T->a8->Prop)(ts us:List T):Si δ W [.vt (.lst ts),.vt (.lst us)]=W (KC ts us) (freeze δ):=rfl
def iV (R:S->Prop)(ts:List T):Prop:=match nM ts with
 | some l=>l.length<64/\∀ ms:List Int,ms.Perm l->ms.Pairwise (·<=·)->R (.ol (ms.map T.int))
 | none=>False
theorem sU (R:S->Prop)(l:List Int):iV R (l.map T.int)=(l.length<64/\∀ ms:List Int,ms.Perm l->ms.Pairwise (·<=·)->R (.ol (ms.map T.int))):=by unfold iV;rw[jC]
def pH:List S->(S->Prop)->Prop
 | [.t (.lst ts)],R=>iV R ts
 | [.vt (.lst ts)],R=>iV R ts
 | [.ol ts],R=>iV R ts
 | _,_=>False
theorem pL:∀ l:List Int,au K F (l.map T.int) (l.map V.int)
 | []=>rfl
 | a::r=>⟨.int a,_,rfl,rfl,pL r⟩
theorem JB:hX K (fun xs H Q=>∃ (p:Addr) (ns:List Int),xs=[.ref p]/\df K H p (ns.map V.int)/\ns.length<64/\∀ ms:List Int,ms.Perm ns->ms.Pairwise (·<=·)->∀ l,H l=none->Q (.ref l) (cM H l (.lst (ms.map V.int)))) pH:=by
 intro F H ss vs R Q sb fu rp h k;have fin:∀ {ts:List T}{a:Addr}{xs:List V}{G:Hp},iV R ts->df K H a xs->au K G ts xs->∃ (p:Addr) (ns:List Int),[V.ref a]=[.ref p]/\df K H p (ns.map V.int)/\ns.length<64/\∀ ms:List Int,ms.Perm ns->ms.Pairwise (·<=·)->∀ l,H l=none->Q (.ref l) (cM H l (.lst (ms.map V.int))):=fun {ts a xs G} h1 h2 h3=>by
  unfold iV at h1
  split at h1
  ·rename_i l hl;rw[iq hl]at h3;have e:=iP h3;subst e;refine⟨a,l,rfl,h2,h1.1,fun ms hm hp q hq=>?_⟩;exact k _ F _ (.ol _) (dw.newL _ sb fu hq) ⟨q,_,rfl,hq,aI sb hq,aX,pL ms⟩ (h1.2 ms hm hp)
  ·exact h1.elim
 unfold pH at h
 split at h
 ·obtain⟨v,r,rfl,⟨a,xs,rfl,h1,h2⟩,h3⟩:=rp
  cases (show r=[] from h3)
  exact fin h (sb.seq h1) h2
 ·obtain⟨v,r,rfl,⟨a,xs,rfl,h1,h2⟩,h3⟩:=rp
  cases (show r=[] from h3)
  exact fin h h1 h2
 ·obtain⟨v,r,rfl,⟨a,xs,rfl,h1,h2⟩,h3⟩:=rp
  cases (show r=[] from h3)
  exact fin h h1 h2
 ·exact h.elim
section
variable {X:Cx}{e:Expr}{wa:WA}{pos p:Pos}
theorem Ir (hm:X.mg "sorted"=none) (ha:PA X [e] (dM X.K wa)) (hg:Gl X "sorted":=by rfl) (he:starEach [e] X.env=(false,eval e X.env)::starEach [] X.env:=by exact aP rfl):PE X (.Call (.Name "sorted" p) [e] [] pos) (av X.K (eP pH wa)):=
 fF tO JB hm PyProof.Rows.boot_sorted ha hg (he:=he) (hpl:=rfl)
end
theorem HH (ts:List T)(R:S->Prop):pH [.t (.lst ts)] R=iV R ts:=rfl
theorem HJ (ts:List T)(R:S->Prop):pH [.vt (.lst ts)] R=iV R ts:=rfl
theorem HI (ts:List T)(R:S->Prop):pH [.ol ts] R=iV R ts:=rfl
section
variable {X:Cx}{e:Expr}{we:WE}{lo hi:Option Expr}{wl wh:a8->(Option Int->Prop)->Prop}{pos p2:Pos}
end
end DL
set_option maxHeartbeats 4000000
namespace L2
open PySem PySem.Spec PyProof.Rows
section
variable {X:Cx}{pins:List (Addr × Obj)}{σ:St}{H:Hp}{s:Shared}
structure AX (X:Cx) (b:Addr):Prop where
 l:b≠X.env.locals
 f:b∉X.fs
 s:b∈X.ex\/X.s₀.heap.objs.size<=b
 c:∀ x c,X.env.cells.lookup x=some c->c≠b
theorem AX.ok (h:AX X b)(hn:H b=none)(hp:∀ p∈X.pn++pins,p.1≠b):oU X pins H b:=⟨hn,h.l,h.f,h.s,h.c,hp⟩
theorem aH.fpSt (I:aH X pins σ H s)(hb:s.heap.objs.size<=b)(hn:H b=none):AX X b/\∀ p∈X.pn++pins,p.1≠b:=by
 obtain⟨_,h1,h2,h3,h4,h5⟩:=I.fpOk (H':=H) hb hn;exact⟨⟨h1,h2,h3,h4⟩,h5⟩
theorem aH.pinAt (I:aH X pins σ H s)(hp:p∈pins):s.heap.get? p.1=some p.2/\H p.1=none:=let ⟨a,b,_⟩:=I.pin p (mem_append_right _ hp);⟨a,b⟩
theorem aH.repin (I:aH X pins σ H s)(h:∀ p∈pins',p∈pins\/(s.heap.get? p.1=some p.2/\H p.1=none/\AX X p.1/\∀ v,p.2.data≠.cell v)):aH X pins' σ H s:=
 I.pins_of fun p hp=>by
  rcases h p hp with z|⟨a,b,c,d⟩
  ·exact I.pin p (mem_append_right _ z)
  ·exact⟨a,b,c.l,c.f,d⟩
end
section
variable {X:Cx}{pins:List (Addr × Obj)}{σ:St}{l I S:Addr}{vs:List Value}{R:Result->Shared->Prop}{G:Hp->Prop}
abbrev rK (vb:Value) (k:Int) (t:Tok) (c:Nat):Obj:=seqObj "list" #[vb,.int k t] c
theorem E4 (kf:Nat->Int)(q:Addr)(hh:X.A.handled=none)(hl:∀ H s pins,G H->aH X pins σ H s->s.heap.IsList l vs.toArray)(hlI:l≠I)(hSI:S≠I)(fI:AX X I)(fS:AX X S)
  (nI:∀ p∈X.pn++pins,p.1≠I) (nS:∀ p∈X.pn++pins,p.1≠S)
  (turn:∀ (i:Nat) (v:Value),vs[i]?=some v->∀ (own:List (Addr × Obj)) (s:Shared) (H:Hp),G H->aH X (pins++own) σ H s →
   wpAny (model X.prog X.w) X.A.in1 (call (.ref q) [v]) (fun u s'=>∃ t H',u=.int (kf i) t/\aH X (pins++own) σ H' s'/\G H') (fun _ _=>False) s)
  (hR:∀ i v H s,vs[i]?=some v->(∀ j,j<vs.length->kf i<=kf j)->G H->aH X pins σ H s->R (.ok (.ret v)) s) :
  ∀ (r j i:Nat) (s:Shared) (H:Hp) (vb:Value) (tb:Tok) (c:Nat) (oI:Obj),vs.length-(j+1)=r->j+1<=vs.length->G H →
   aH X (pins++[(S,rK vb (kf i) tb c),(I,oI)]) σ H s->s.heap.IsListIter I l (j+1)->(∀ v,oI.data≠.cell v)->vs[i]?=some vb->i<=j->(∀ j',j'<=j->kf i<=kf j') →
   codeAny (model X.prog X.w) X.A (.builtin "min.loop" ⟨[.ref I,.ref q,.ref S],[]⟩) R s:=by
 have hname:(toString "min"++toString ".loop":String)="min.loop":=by decide
 have W:=Walks.list (prog:=X.prog) (w:=X.w) (A:=X.A.in1) hh I l hlI vs.toArray;have hsz:vs.toArray.size=vs.length:=size_toArray ..;have upS:∀ {H:Hp}{s:Shared}{h':Heap}{tk:Nat}{o oI:Obj},aH X (pins++[(S,o),(I,oI)]) σ H s->Heap.SameBut S s.heap h'->aH X (pins++[(I,oI)]) σ H {s with heap:=h',toks:=tk}:=fun {H s h' tk o oI} J sb=>by
  have nS':=(J.pinAt (p:=(S,o)) (by simp)).2
  have J1:aH X (pins++[(I,oI)]) σ H s:=J.repin fun p hp=>.inl (by simp at hp ⊢;rcases hp with z|z <;> simp[z])
  refine J1.turnedS (fp:=[S]) (fun b o hb e=>(sb.2 b (by simpa using hb)).trans e) fun b hb=>?_
  have e:b=S:=by simpa using hb
  subst e;refine fS.ok nS' fun p hp=>?_
  rcases mem_append.mp hp with z|z
  ·exact nS p (mem_append_left _ z)
  ·rcases mem_append.mp z with z|z
   ·exact nS p (mem_append_right _ z)
   ·simp at z;subst z;exact hSI.symm
 have upI:∀ {H:Hp}{s:Shared}{h':Heap}{tk:Nat}{o oI:Obj},aH X (pins++[(S,o),(I,oI)]) σ H s->(∀ b u,b∉[I]->s.heap.get? b=some u->h'.get? b=some u)->aH X (pins++[(S,o)]) σ H {s with heap:=h',toks:=tk}/\H I=none:=fun {H s h' tk o oI} J hk=>by
  have nI':=(J.pinAt (p:=(I,oI)) (by simp)).2
  have J1:aH X (pins++[(S,o)]) σ H s:=J.repin fun p hp=>.inl (by simp at hp ⊢;rcases hp with z|z <;> simp[z])
  refine⟨J1.turnedS (fp:=[I]) hk fun b hb=>?_,nI'⟩;have e:b=I:=by simpa using hb
  subst e;refine fI.ok nI' fun p hp=>?_
  rcases mem_append.mp hp with z|z
  ·exact nI p (mem_append_left _ z)
  ·rcases mem_append.mp z with z|z
   ·exact nI p (mem_append_right _ z)
   ·simp at z;subst z;exact hSI
 intro r
 induction r with
 | zero=>
  intro j i s H vb tb c oI hr hj g J hit hoc hvb hij hbest;have hin:j+1=vs.length:=by omega
  have pS:=J.pinAt (p:=(S,rK vb (kf i) tb c)) (by simp)
  refine codeAny_builtin PySem.F.entry_min_loop ?_;rw[Around.under_plainId PySem.F.plain_min_loop _];show wpAny _ X.A.in1 (seqItems? (.ref S) >>= _) _ _ _;refine wpAny_bind (wpAny_seqItems pS.1 rfl ?_);show wpAny _ X.A.in1 (tryCatch (pyNext (.ref I)) _ >>= _) _ _ _;refine wpAny_bind (wpAny_tryCatch (W.done _ _ _ ⟨by rw[hsz,<-hin];exact hit,hl _ _ _ g J⟩ fun h' tk' hk'=>?_))
  obtain⟨J1,nI'⟩:=upI (tk:=tk') J hk';have pS':=J1.pinAt (p:=(S,rK vb (kf i) tb c)) (by simp)
  have s1:=Heap.SameBut.update h' S (Obj.mapSeq fun _=>(#[]:Array Value));show wpAny _ X.A.in1 (updateSeq S (fun _=>#[]) >>= _) _ _ _;refine wpAny_bind ?_;refine wpAny_updateSeq pS'.1 rfl (wpAny_bind (wpAny_letGo (wpAny_pure ?_)));refine hR i vb H _ hvb (fun j' hj'=>hbest j' (by omega)) g ?_
  have J2:aH X pins σ H {s with heap:=h',toks:=tk'}:=J1.repin fun p hp=>.inl (by simp[hp])
  refine aH.turnedS (s:={s with heap:=h',toks:=tk'}) (t':=tk') J2 (fp:=[S]) (fun b o hb e=>(s1.2 b (by simpa using hb)).trans e) fun b hb=>?_
  have e:b=S:=by simpa using hb
  subst e;exact fS.ok pS'.2 nS
 | succ r ih=>
  intro j i s H vb tb c oI hr hj g J hit hoc hvb hij hbest;have hlt:j+1<vs.length:=by omega
  have pS:=J.pinAt (p:=(S,rK vb (kf i) tb c)) (by simp)
  refine codeAny_builtin PySem.F.entry_min_loop ?_;rw[Around.under_plainId PySem.F.plain_min_loop _];show wpAny _ X.A.in1 (seqItems? (.ref S) >>= _) _ _ _;refine wpAny_bind (wpAny_seqItems pS.1 rfl ?_);show wpAny _ X.A.in1 (tryCatch (pyNext (.ref I)) _ >>= _) _ _ _;refine wpAny_bind (wpAny_tryCatch (W.item (j+1) _ _ _ (by rw[hsz];exact hlt) ⟨hit,hl _ _ _ g J⟩ fun v h' tk' hP hst' hk'=>?_))
  have hv:vs[j+1]?=some v:=by simpa using hP
  obtain⟨oI',hoI',hoc',hod'⟩:=id hst'.1;obtain⟨J1,nI'⟩:=upI (tk:=tk') J hk';have ncell:∀ v,oI'.data≠.cell v:=fun v z=>by rw[hod']at z;cases z
  have J2:aH X (pins++[(S,rK vb (kf i) tb c),(I,oI')]) σ H {s with heap:=h',toks:=tk'}:=J1.repin fun p hp=>by
   simp at hp
   rcases hp with z|z|z
   ·exact .inl (by simp[z])
   ·exact .inl (by simp[z])
   ·subst z;exact .inr ⟨hoI',nI',fI,ncell⟩
  show wpAny _ X.A.in1 (tryCatch (holding [v] (call (.ref q) [v])) _ >>= _) _ _ _;refine wpAny_bind (wpAny_tryCatch (wpAny_holding (wpAny_mono (turn (j+1) v hv _ _ H g J2) (fun x s'' he=>?_) fun _ _ hF=>hF.elim)));obtain⟨t2,H2,rfl,J3,g2⟩:=he;have pS2:=J3.pinAt (p:=(S,rK vb (kf i) tb c)) (by simp)
  have pI2:=J3.pinAt (p:=(I,oI')) (by simp)
  have hit2:s''.heap.IsListIter I l (j+1+1):=⟨oI',pI2.1,hoc',hod'⟩;show wpAny _ X.A.in1 (tryCatch (holding [v,.int (kf (j+1)) t2] (richCompare .Lt (.int (kf (j+1)) t2) (.int (kf i) tb) >>= _)) _ >>= _) _ _ _;refine wpAny_bind (wpAny_tryCatch (wpAny_holding (wpAny_bind (CmpOf.ints_lt (prog:=X.prog) (w:=X.w) (A:=X.A.in1) (P:=fun i v=>∃ t,v=.int (kf i) t) kf (fun i v h=>h) (j+1) i _ _ _ _ _ ⟨t2,rfl⟩ ⟨tb,rfl⟩ ?_))));refine wpAny_bind (wpAny_holding (wpAny_truthy_bool ?_));refine wpAny_bind (wpAny_letGo (wpAny_pure ?_))
  by_cases hb':kf (j+1)<kf i
  ·have s1:=Heap.SameBut.update s''.heap S (Obj.mapSeq fun _=>#[v,.int (kf (j+1)) t2]);obtain⟨c2,hc2⟩:∃ c2,(s''.heap.update S (Obj.mapSeq fun _=>#[v,.int (kf (j+1)) t2])).get? S=some (seqObj "list" #[v,.int (kf (j+1)) t2] c2):=⟨_,get?_update_seq pS2.1 fun _=>#[v,.int (kf (j+1)) t2]⟩;simp only[hb',decide_true,if_true];refine wpAny_bind ?_;refine wpAny_updateSeq pS2.1 rfl (wpAny_bind (wpAny_letGo ?_));rw[hname];have J4:=upS (tk:=s''.toks) J3 s1;refine wpAny_pure ⟨plainId_quiet PySem.F.plain_min_loop _,ih (j+1) (j+1) _ H2 v t2 c2 oI' (by omega) hlt g2 (J4.repin fun p hp=>?_) ⟨oI',(s1.2 I hSI.symm).trans pI2.1,hoc',hod'⟩ ncell hv (le_refl _) fun j' hj'=>?_⟩
   ·simp at hp
    rcases hp with z|z|z
    ·exact .inl (by simp[z])
    ·subst z;exact .inr ⟨hc2,pS2.2,fS,fun v z=>by cases z⟩
    ·exact .inl (by simp[z])
   ·by_cases e:j'=j+1
    ·subst e;omega
    ·have hb1:=hbest j' (by omega)
     omega
  ·simp only[hb',decide_false,Bool.false_eq_true,if_false];refine wpAny_bind (wpAny_letGo ?_);rw[hname];refine wpAny_pure ⟨plainId_quiet PySem.F.plain_min_loop _,ih (j+1) i _ H2 vb tb c oI' (by omega) hlt g2 J3 hit2 ncell hvb (by omega) fun j' hj'=>?_⟩
   by_cases e:j'=j+1
   ·subst e;omega
   ·exact hbest j' (by omega)
theorem tN (kf:Nat->Int)(q:Addr)(hh:X.A.handled=none)(hl:∀ H s pins,G H->aH X pins σ H s->s.heap.IsList l vs.toArray)(hne:0<vs.length)(g:G H)(J:aH X pins σ H s)
  (turn:∀ (i:Nat) (v:Value),vs[i]?=some v->∀ (own:List (Addr × Obj)) (s:Shared) (H:Hp),G H->aH X (pins++own) σ H s →
   wpAny (model X.prog X.w) X.A.in1 (call (.ref q) [v]) (fun u s'=>∃ t H',u=.int (kf i) t/\aH X (pins++own) σ H' s'/\G H') (fun _ _=>False) s)
  (hQ:∀ i v H s,vs[i]?=some v->(∀ j,j<vs.length->kf i<=kf j)->G H->aH X pins σ H s->Q v s) :
  wpAny (model X.prog X.w) X.A (call (.builtin "min") [.ref l] [(Str.ofString "key",.ref q)]) Q E s:=by
 have hname:(toString "min"++toString ".loop":String)="min.loop":=by decide
 have hls:=hl _ _ _ g J;obtain⟨ol,hol,_⟩:=id hls;have hll:l<s.heap.objs.size:=Heap.lt_size hol;refine kmk_tree PySem.F.kind_min PySem.F.plain_min PySem.F.entry_min (kmk_min_key _ _) ?_;show wpAny _ X.A.in1 (Builtin.Builtins.bindParams "min" ["key","default"] 0 ⟨[],[(Str.ofString "key",.ref q)]⟩ >>= _) _ _ s;refine wpAny_bind (wpAny_of_eq (show Builtin.Builtins.bindParams "min" ["key","default"] 0 ⟨[],[(Str.ofString "key",.ref q)]⟩=pure [some (.ref q),none] from rfl) ?_);refine wpAny_bind (wpAny_pure ?_);refine wpAny_bind (wpAny_pyIter_list hls ?_);refine wpAny_bind (wpAny_newList ?_ (zero_le _));rw[hname];refine wpAny_pure ⟨plainId_quiet PySem.F.plain_min_loop _,?_⟩;have hS:(s.heap.push {cls:=.type "list_iterator",data:=.fields #[.ref l,.int 0 0]}).objs.size=s.heap.objs.size+1:=size_push' ..;have hlI:l≠s.heap.objs.size:=ne_of_lt hll;have gI:((s.heap.push {cls:=.type "list_iterator",data:=.fields #[.ref l,.int 0 0]}).push (seqObj "list" #[] 0)).get? s.heap.objs.size=some {cls:=.type "list_iterator",data:=.fields #[.ref l,.int 0 0]}:=
  Heap.get?_push_of_some _ (Heap.get?_push_size _ rfl)
 have gS:((s.heap.push {cls:=.type "list_iterator",data:=.fields #[.ref l,.int 0 0]}).push (seqObj "list" #[] 0)).get? (s.heap.push {cls:=.type "list_iterator",data:=.fields #[.ref l,.int 0 0]}).objs.size=some (seqObj "list" #[] 0):=Heap.get?_push_size _ rfl;have JH:aH X pins σ H {s with heap:=(s.heap.push {cls:=.type "list_iterator",data:=.fields #[.ref l,.int 0 0]}).push (seqObj "list" #[] 0)}:=J.kept (t':=s.toks) fun b o e=>Heap.get?_push_of_some _ (Heap.get?_push_of_some _ e);obtain⟨fI,nI⟩:=J.fpSt (b:=s.heap.objs.size) (le_refl _) (J.hok.fresh (le_refl _));have leS:s.heap.objs.size<=(s.heap.push {cls:=.type "list_iterator",data:=.fields #[.ref l,.int 0 0]}).objs.size:=by rw[hS];exact Nat.le_succ _
 obtain⟨fS,nS⟩:=J.fpSt (b:=(s.heap.push {cls:=.type "list_iterator",data:=.fields #[.ref l,.int 0 0]}).objs.size) leS (J.hok.fresh leS);have hIn:H s.heap.objs.size=none:=J.hok.fresh (le_refl _);have hSn:H (s.heap.push {cls:=.type "list_iterator",data:=.fields #[.ref l,.int 0 0]}).objs.size=none:=J.hok.fresh leS;have hSI:(s.heap.push {cls:=.type "list_iterator",data:=.fields #[.ref l,.int 0 0]}).objs.size≠s.heap.objs.size:=by rw[hS];exact ne_of_gt (lt_succ_self _)
 generalize (s.heap.push {cls:=.type "list_iterator",data:=.fields #[.ref l,.int 0 0]}).objs.size=S at *;generalize hIe:s.heap.objs.size=I at *;generalize (s.heap.push {cls:=.type "list_iterator",data:=.fields #[.ref l,.int 0 0]}).push (seqObj "list" #[] 0)=h1 at *;have W:=Walks.list (prog:=X.prog) (w:=X.w) (A:=X.A.in1) hh I l hlI vs.toArray;have hsz:vs.toArray.size=vs.length:=size_toArray ..;refine codeAny_builtin PySem.F.entry_min_loop ?_;rw[Around.under_plainId PySem.F.plain_min_loop _];show wpAny _ X.A.in1 (seqItems? (.ref _) >>= _) _ _ _;refine wpAny_bind (wpAny_seqItems gS rfl ?_);show wpAny _ X.A.in1 (tryCatch (pyNext (.ref I)) _ >>= _) _ _ _;refine wpAny_bind (wpAny_tryCatch (W.item 0 _ _ _ (by rw[hsz];exact hne) ⟨⟨_,gI,rfl,rfl⟩,hl _ _ _ g JH⟩ fun v h' tk' hP hst' hk'=>?_))
 have hv:vs[0]?=some v:=by simpa using hP
 obtain⟨oI',hoI',hoc',hod'⟩:=id hst'.1;have ncell:∀ v,oI'.data≠.cell v:=fun v z=>by rw[hod']at z;cases z
 have J1:aH X pins σ H {s with heap:=h',toks:=tk'}:=aH.turnedS (s:={s with heap:=h1}) (t':=tk') JH (fp:=[I]) (fun b o hb e=>hk' b o hb e) fun b hb=>by
  have e:b=I:=by simpa using hb
  subst e;exact fI.ok hIn nI
 have J2:aH X (pins++[(S,seqObj "list" #[] 0),(I,oI')]) σ H {s with heap:=h',toks:=tk'}:=J1.repin fun p hp=>by
  simp at hp
  rcases hp with z|z|z
  ·exact .inl z
  ·subst z;exact .inr ⟨hk' S _ (by simpa using hSI) gS,hSn,fS,fun v z=>by cases z⟩
  ·subst z;exact .inr ⟨hoI',hIn,fI,ncell⟩
 show wpAny _ X.A.in1 (tryCatch (holding [v] (call (.ref q) [v])) _ >>= _) _ _ _;refine wpAny_bind (wpAny_tryCatch (wpAny_holding (wpAny_mono (turn 0 v hv _ _ H g J2) (fun x s'' he=>?_) fun _ _ hF=>hF.elim)));obtain⟨t2,H2,rfl,J3,g2⟩:=he;have pS2:=J3.pinAt (p:=(S,seqObj "list" #[] 0)) (by simp)
 have pI2:=J3.pinAt (p:=(I,oI')) (by simp)
 have s1:=Heap.SameBut.update s''.heap S (Obj.mapSeq fun _=>#[v,.int (kf 0) t2]);obtain⟨c2,hc2⟩:∃ c2,(s''.heap.update S (Obj.mapSeq fun _=>#[v,.int (kf 0) t2])).get? S=some (seqObj "list" #[v,.int (kf 0) t2] c2):=⟨_,get?_update_seq pS2.1 fun _=>#[v,.int (kf 0) t2]⟩;show wpAny _ X.A.in1 (updateSeq S (fun _=>#[v,.int (kf 0) t2]) >>= _) _ _ _;refine wpAny_bind ?_;refine wpAny_updateSeq pS2.1 rfl ?_;rw[hname];have J4:aH X (pins++[(I,oI')]) σ H2 {s'' with heap:=s''.heap.update S (Obj.mapSeq fun _=>#[v,.int (kf 0) t2]),toks:=s''.toks}:=by
  have K1:aH X (pins++[(I,oI')]) σ H2 s'':=J3.repin fun p hp=>.inl (by simp at hp ⊢;rcases hp with z|z <;> simp[z])
  refine K1.turnedS (fp:=[S]) (fun b o hb e=>(s1.2 b (by simpa using hb)).trans e) fun b hb=>?_
  have e:b=S:=by simpa using hb
  subst e;refine fS.ok pS2.2 fun p hp=>?_
  rcases mem_append.mp hp with z|z
  ·exact nS p (mem_append_left _ z)
  ·rcases mem_append.mp z with z|z
   ·exact nS p (mem_append_right _ z)
   ·simp at z;subst z;exact hSI.symm
 refine wpAny_pure ⟨plainId_quiet PySem.F.plain_min_loop _,E4 kf q hh hl hlI hSI fI fS nI nS turn (fun i v H s a b c d=>hQ i v H s a b c d) _ 0 0 _ H2 v t2 c2 oI' rfl hne g2 (J4.repin fun p hp=>?_) ⟨oI',(s1.2 _ hSI.symm).trans pI2.1,hoc',hod'⟩ ncell hv (le_refl _) fun j' hj'=>?_⟩
 ·simp at hp
  rcases hp with z|z|z
  ·exact .inl (by simp[z])
  ·subst z;exact .inr ⟨hc2,pS2.2,fS,fun v z=>by cases z⟩
  ·exact .inl (by simp[z])
 ·have e:j'=0:=by omega
  subst e;exact Int.le_refl _
end
end L2
set_option maxHeartbeats 4000000
namespace L2
open PySem PySem.Spec PyProof.Rows PySem.W
def zO (P:Program)(w:World)(K:Frg)(mg:Str->Option Value)(base:Heap)(x y:Str)(qual:Str)(scope:Scope)(f:Addr)(cd:Value)(cl:List (Str × Addr))(A:Around)(outer:List Env)(s:Shared)(H:Hp):Cx where
 prog:=P
 w:=w
 K:=K
 mg:=mg
 base:=base
 A:=A.deeper (envX qual scope s.heap.objs.size f cd cl)
 N:=[x,y]
 s₀:=s
 H₀:=H
 env:=envX qual scope s.heap.objs.size f cd cl
 outer:=outer
 stack:=envX qual scope s.heap.objs.size f cd cl::outer
 ex:=[]
 calm:=true
 fn:=fun _=>false
 pn:=[]
 xe:=fun _ _=>False
structure oW (x y:Str) (scope:Scope):Prop where
 kind:scope.kind=.function
 co:scope.isCoroutine=false
 gen:scope.isGenerator=false
 nocell:∀ z∈scope.names,z.2≠.cell
 lx:scope.names.lookup x=some .local
 ly:scope.names.lookup y=some .free
 only:∀ z,scope.names.lookup z=some .free->z=y
theorem lookup_mem {α:Type}:∀ {l:List (Str × α)}{x:Str}{v:α},l.lookup x=some v->(x,v)∈l:=fun h=>PySem.mem_of_lookup h
section
variable {X:Cx}{pins:List (Addr × Obj)}{σ:St}{H:Hp}{s:Shared}
theorem EG {qual x y:Str}{params:Arguments}{body:Expr}{scope:Scope}{pm ctv:Value}{c' cw f:Addr}{t:TE}{Q:VK}{u:Value}{v wv:V}{j:Nat}
  (I:aH X pins σ H s) (hf:(f,kla_obj "<lambda>" qual params body scope [(y,cw)] pm c' ctv)∈pins) (hcd:s.heap.CodeRec (.ref c') qual) (hd:X.A.handled=none) (hdep:X.A.in1.depth<recursionLimit)
  (hbind:∀ u,bindArgs (kla_fn "<lambda>" qual params body scope [(y,cw)] pm (.ref c') ctv) ⟨[u],[]⟩=pure [(x,u)]) (S:oW x y scope)
  (hN:X.N[j]?=some y) (hk:X.env.scope.names.lookup y=some .cell) (hcw:X.env.cells.lookup y=some cw) (hs:σ[j]?=some (some wv))
  (hb:PE (zO X.prog X.w X.K X.mg X.base x y qual scope f (.ref c') [(y,cw)] X.A.in1 X.stack s H) body t) (ht:t [some v,some wv] H Q) (rv:RelV v u) :
  wpAny (model X.prog X.w) X.A.in1 (call (.ref f) [u]) (EP X pins σ Q) (fun _ _=>False) s:=by
 have e0:=I.env0.in1;have pf:=I.pinAt hf;have lim:s.heap.NoLimit:=e0.mod.nolimit.keeps fun b o e=>(e0.bs b o e).1;obtain⟨m,hn,hloc⟩:=I.loc;obtain⟨uw,rw',lk⟩:=hloc j y wv hN hs (.inr (.inl hk));have isc:s.heap.IsCell cw (some uw):=by
  rcases lk with ⟨k,_⟩|⟨_,c,e,z⟩
  ·have k':X.env.scope.names.lookup y=some .local:=k;rw[hk]at k';cases k'
  ·rw[hcw]at e;cases e;exact z
 refine wpAny_call (codeAny_mono (R:=CR zx X.stack X.prog X.w H s Q (fun _ _ _=>False)) (kla_callFunE hdep pf.1 rfl S.co S.gen rfl hcd ?_) fun r s' hq=>?_)
 ·rw[hbind];refine wpAny_pure (wpAny_newFunctionEnv S.nocell (fun z hz=>by simp at hz;subst hz;exact S.lx) (fun h₁ hns hsb=>⟨lim.fresh _ hsb,?_⟩) S.kind)
  have hk₁:∀ b o,s.heap.get? b=some o->h₁.get? b=some o:=fun b o e=>hsb.extBut b o (ne_of_lt (Heap.lt_size e)) (Heap.get?_push_of_some _ e);show codeAny _ _ (.expr body (envX qual scope s.heap.objs.size f (.ref c') [(y,cw)])) _ _;have lkc:∀ z c,([(y,cw)]:List (Str × Addr)).lookup z=some c->z=y/\c=cw:=fun z c e=>by
   by_cases q:z=y
   ·subst q;simp at e;exact⟨rfl,e.symm⟩
   ·have:(z == y)=false:=by simpa using q
    simp[List.lookup,this]at e
  have hcx:=I.freeC y cw hcw;have J:aH (zO X.prog X.w X.K X.mg X.base x y qual scope f (.ref c') [(y,cw)] X.A.in1 X.stack s H) [] [some v,some wv] H {s with heap:=h₁,toks:=s.toks+1}:=by
   have noA:∀ b:Addr,b∉([]:List Addr):=fun b z=>by cases z
   refine⟨⟨e0.mod,S.kind,rfl,rfl,le_refl _,fun z z' c h1 h2=>?_,fun z hz=>?_,fun _ _ z=>(by cases z),fun _=>hd,Around.frames_deeper e0.frames,.inr ⟨rfl,rfl⟩,fun b z=>absurd z (noA b),e0.bs,e0.bsz,fun b _ _=>noA b,fun b z=>absurd z (noA b),e0.funs,e0.frf⟩,
    rfl,e0.bare,Un.kept hk₁,⟨_,hns,fun i z a h1 h2 h3=>?_⟩,fun z c h=>?_,e0.hok.fresh (le_refl _),fun z c h=>?_,fun p hp=>absurd (show p∈([]:List (Addr × Obj)) from hp) (by simp),e0.hok.kept hk₁,rfl⟩
   ·rw[(lkc z c h1).1,(lkc z' c h2).1]
   ·have hz:scope.names.lookup z=some .cell\/scope.names.lookup z=some .free:=hz
    rcases hz with q|q
    ·exact absurd rfl (S.nocell _ (lookup_mem q))
    ·rw[S.only z q];exact⟨cw,by show List.lookup y [(y,cw)]=some cw;simp⟩
   ·match i,h1,h2 with
    | 0,h1,h2=>
     cases h1;cases h2
     exact⟨u,rv,.inl ⟨S.lx,by simp⟩⟩
    | 1,h1,h2=>
     cases h1;cases h2
     exact⟨uw,rw',.inr ⟨.inr S.ly,cw,by show List.lookup y [(y,cw)]=some cw;simp,isc.keeps hk₁⟩⟩
    | n+2,h1,_=>cases h1
   ·obtain⟨rfl,rfl⟩:=lkc z c h;exact⟨_,isc.keeps hk₁⟩
   ·obtain⟨rfl,rfl⟩:=lkc z c h;exact hcx
  refine kla_codeExpr (wpAny_mono (hb [] _ _ H Q J ht) (fun r s' hr=>?_) fun _ _ z=>z.elim);obtain⟨v',H',J',r',q'⟩:=hr;exact⟨v',H',J'.os,J'.bare,J'.base,J'.hok,r',q'⟩
 ·cases r with
  | error e=>exact hq.elim
  | ok fl=>
   cases fl with
   | ret u=>exact I.after hq
   | next=>exact hq.elim
   | brk=>exact hq.elim
   | cont=>exact hq.elim
structure xL (X:Cx) (c P:Addr) (mb:Addr):Prop where
 code:X.env.code=.ref c
 hd:CodeHd X.base c P
 bm:∃ ob,X.mg "__builtins__"=some (.ref mb)/\mb≠builtinsNs/\mb≠mainGlobals/\X.base.get? mb=some ob/\ob.cls=.type "module"/\ob.dict=some builtinsNs/\ob.data=.plain
theorem EH (I:aH X pins σ H s)(L:xL X c P mb)(hP:H P=some (.tbl ps))(tab:DL.Tab H)
  (hcl:closureFor scope X.env=pure [(y,cw)]) (hq:X.env.qual++"<lambda>"=DL.lamQ) (hdef:defaultsOf params X.env=([],[]))
  (h:∀ f c' pm ctv H' s',aH X (pins++[(f,kla_obj "<lambda>" DL.lamQ params body scope [(y,cw)] pm c' ctv)]) σ H' s'->DL.Same H H'->DL.Tab H'->H' c'=some (DL.HCode c')->Q (.ref f) s') :
  wpAny (model X.prog X.w) X.A (eval (.Lambda params body scope lp) X.env) Q E s:=by
 have hPo:s.heap.get? P=some (tabObj ps):=I.hok P _ hP;obtain⟨ht,hcodes⟩:=tab P ps hP;have hgs:s.heap.Ns mainGlobals X.mg:=I.ok.mod.glob.keeps I.bk;have nP:∀ b o,X.base.get? b=some o->b≠P:=fun b o e z=>by have:=(I.bs b o e).2;rw[z,hP]at this;cases this
 have hgP:mainGlobals≠P:=by
  obtain⟨o,_,_,e,_⟩:=I.ok.mod.glob;exact nP _ _ e
 obtain⟨ob,b1,b2,b3,b4,b5,b6,b7⟩:=L.bm;have hb:s.heap.BuiltinsAt X.mg P:=⟨mb,ob,b1,b2,b3,nP _ _ b4,I.bk _ _ b4,b5,b6,b7⟩;have C:=L.hd.keeps I.bk;have ncell:∀ (o:Obj),o=kla_obj "<lambda>" DL.lamQ params body scope [(y,cw)] ((X.mg "__name__").getD .none) 0 .none->True:=fun _ _=>trivial;refine kla_eval hdef ?_;rw[hq]
 cases hf:codeAmong lp ps.toList with
 | some cv=>
  obtain⟨c',rfl,hc'⟩:=hcodes lp cv hf;refine kla_makeFunctionHit (mg:=X.mg) hcl I.ok.glob hgs L.code C hPo ht hf hb fun ctv h' tk hk hsz=>?_;have J1:aH X pins σ H {s with heap:=h'.push {cls:=.type "function",data:=.func (kla_fn "<lambda>" DL.lamQ params body scope [(y,cw)] ((X.mg "__name__").getD .none) (.ref c') ctv)},toks:=tk}:=I.kept fun b o e=>Heap.get?_push_of_some _ (hk b o e);obtain⟨fs,_⟩:=I.fpSt (b:=h'.objs.size) hsz (I.hok.fresh hsz);exact h h'.objs.size c' _ ctv H _ (J1.repin fun p hp=>by
   rcases mem_append.mp hp with z|z
   ·exact .inl z
   ·simp at z;subst z;exact .inr ⟨Heap.get?_push_size _ rfl,I.hok.fresh hsz,fs,fun v z=>by cases z⟩) (DL.Same.refl _) tab hc'
 | none=>
  refine kla_makeFunction (mg:=X.mg) hcl I.ok.glob hgs L.code C hPo ht hf hgP hb fun c' ctv h' tk hx hge hlt hrec htb=>?_;have hcn:H c'=none:=I.hok.fresh hge;have cP:c'≠P:=fun z=>by rw[z,hP]at hcn;cases hcn
  have hsz:s.heap.objs.size<=h'.objs.size:=Nat.le_of_lt (lt_of_le_of_lt hge hlt)
  let kob:Obj:=kla_obj "<lambda>" DL.lamQ params body scope [(y,cw)] ((X.mg "__name__").getD .none) c' ctv
  let ps':Array Value:=ps++#[rawInt lp.line,rawInt lp.col,.ref c']
  let H':Hp:=cM (cM H P (.tbl ps')) c' (DL.HCode c')
  have old:∀ b o,b≠P->s.heap.get? b=some o->(h'.push kob).get? b=some o:=fun b o n e=>Heap.get?_push_of_some _ (hx b o n e);have gP:(h'.push kob).get? P=some (tabObj ps'):=Heap.get?_push_of_some _ htb;have H'o:∀ b,b≠P->b≠c'->H' b=H b:=fun b n1 n2=>by show cM (cM H P _) c' _ b=_;rw[aY n2,aY n1]
  have H'P:H' P=some (.tbl ps'):=by show cM (cM H P _) c' _ P=_;rw[aY (Ne.symm cP),aX]
  have H'c:H' c'=some (DL.HCode c'):=aX;have un:Un X.fs [] H H' s.heap (h'.push kob):=by
   have np:∀ b,H b=none->b≠P:=fun b n z=>by rw[z,hP]at n;cases n
   have nc:∀ b o,s.heap.get? b=some o->b≠c':=fun b o e=>ne_of_lt (lt_of_lt_of_le (Heap.lt_size e) hge);refine⟨fun b o e n _ _=>old b o (np b n) e,fun b o e n _ _=>⟨o.slots,old b o (np b n) e⟩,fun b o e n _=>by rw[H'o b (np b n) (nc b o e)];exact n,fun b o e _=>?_,fun b xs e=>?_,fun b o u e=>?_,fun b qs e=>?_⟩
   ·by_cases z:b=P
    ·subst z;exact⟨_,gP⟩
    ·exact⟨o,old b o z e⟩
   ·rw[H'o b (fun z=>by rw[z,hP]at e;cases e) (bi e hcn)];exact e
   ·rw[H'o b (fun z=>by rw[z,hP]at e;cases e) (bi e hcn)];exact e
   ·by_cases z:b=P
    ·subst z;rw[hP]at e;cases e;exact⟨_,H'P⟩
    ·exact⟨#[],by rw[H'o b z (bi e hcn),e];simp⟩
  have hrec':(h'.push kob).CodeRec (.ref c') DL.lamQ:=hrec.push _;have hok:hZ X.prog X.w H' (h'.push kob):=fun a o e=>by
   by_cases z1:a=c'
   ·subst z1;rw[H'c]at e;cases e
    refine⟨hrec',?_,fun h1 h2 ⟨c,o,vs,t,q1,q2,q3,q4⟩ k=>?_⟩
    ·obtain⟨c,o,vs,t,q1,q2,_⟩:=hrec'
     cases q1;exact⟨o,q2⟩
    ·cases q1;exact⟨_,o,vs,t,rfl,k o q2,q3,q4⟩
   ·by_cases z2:a=P
    ·subst z2;rw[H'P]at e;cases e
     exact gP
    ·have e':H a=some o:=by rw[<-H'o a z2 z1];exact e
     refine(I.hok a o e').stay (fun b u hb q=>old b u ?_ q) (fun b q=>?_) fun b xs q=>?_
     ·rcases hb with rfl|hb
      ·exact z2
      ·exact fun z=>by rw[z,hP]at hb;cases hb
     ·rw[H'o b (fun z=>by rw[z,hP]at q;cases q) (bi q hcn)];exact q
     ·rw[H'o b (fun z=>by rw[z,hP]at q;cases q) (bi q hcn)];exact q
  have J1:aH X pins σ H' {s with heap:=h'.push kob,toks:=tk}:=I.un un hok;obtain⟨fs,_⟩:=I.fpSt (b:=h'.objs.size) hsz (I.hok.fresh hsz);have hfn:H' h'.objs.size=none:=by
   rw[H'o _ (fun z=>?_) (fun z=>?_)]
   ·exact I.hok.fresh hsz
   ·have:=I.hok.lt hP;rw[<-z]at this;exact absurd (lt_of_lt_of_le this hsz) (lt_irrefl _)
   ·rw[<-z]at hlt;exact absurd hlt (lt_irrefl _)
  have sm:DL.Same H H':=⟨fun b o e n=>by
    have n1:b≠P:=fun z=>by rw[z,hP]at e;cases e;cases n
    rw[H'o b n1 (bi e hcn)];exact e,fun b qs e=>by
    by_cases z:b=P
    ·subst z;exact⟨_,H'P⟩
    ·exact⟨qs,by rw[H'o b z (bi e hcn)];exact e⟩⟩
  have tab':DL.Tab H':=fun P2 qs e=>by
   have keepc:∀ c,H c=some (DL.HCode c)->H' c=some (DL.HCode c):=fun c q=>sm.get q
   by_cases z1:P2=c'
   ·subst z1;rw[H'c]at e;cases e
   ·by_cases z2:P2=P
    ·subst z2;rw[H'P]at e;cases e
     refine⟨?_,fun pos v q=>?_⟩
     ·show TriplesOk (ps++#[rawInt lp.line,rawInt lp.col,.ref c']).toList;rw[Array.toList_append];exact TriplesOk_snoc _ _ _ _ ht
     ·have q':codeAmong pos (ps.toList++[rawInt lp.line,rawInt lp.col,.ref c'])=some v:=by rw[<-Array.toList_append]at *;exact q
      have key:∀ l:List Value,TriplesOk l->codeAmong pos (l++[rawInt lp.line,rawInt lp.col,.ref c'])=some v->codeAmong pos l=some v\/v=.ref c':=by
       intro l hl
       fun_induction TriplesOk l with
       | case1=>
        intro hq;simp only[nil_append,codeAmong,rawInt]at hq
        split at hq
        ·exact .inr (Option.some.inj hq).symm
        ·cases hq
       | case2 a t b u x rest ih=>
        intro hq;simp only[List.cons_append,codeAmong]at hq ⊢
        split
        ·rename_i hc;rw[if_pos hc]at hq;exact .inl hq
        ·rename_i hc;rw[if_neg hc]at hq;exact ih hl hq
       | case3=>exact hl.elim
      rcases key _ ht q' with z|z
      ·obtain⟨c,e1,e2⟩:=hcodes pos v z;exact⟨c,e1,keepc c e2⟩
      ·exact⟨c',z,H'c⟩
    ·rw[H'o P2 z2 z1]at e;obtain⟨t1,t2⟩:=tab P2 qs e;exact⟨t1,fun pos v q=>let ⟨c,e1,e2⟩:=t2 pos v q;⟨c,e1,keepc c e2⟩⟩
  exact h h'.objs.size c' _ ctv H' _ (J1.repin fun p hp=>by
   rcases mem_append.mp hp with z|z
   ·exact .inl z
   ·simp at z;subst z;exact .inr ⟨Heap.get?_push_size _ rfl,hfn,fs,fun v z=>by cases z⟩) sm tab' H'c
end
end L2
set_option maxHeartbeats 4000000
namespace L2
open PySem PySem.Spec PyProof.Rows PySem.W
def Ks (K:Frg)(P:Addr)(te tb:TE)(j:Nat):TE:=fun σ H Q=>te σ H fun x H1=>∃ (a:Addr) (xs:List Addr) (ps:Array Value) (G:Hp->Prop) (kf:Nat->Int) (wv:V),x=.ref a/\xs≠[]/\H1 P=some (.tbl ps)/\DL.Tab H1/\σ[j]?=some (some wv) ∧
 (∀ H2,DL.Same H1 H2->DL.Tab H2->G H2)/\(∀ H2,G H2->df K H2 a (xs.map V.ref))/\(∀ i v H2,xs[i]?=some v->G H2->tb [some (.ref v),some wv] H2 fun r H3=>r=.int (kf i)/\G H3/\DL.Same H2 H3) ∧
 ∀ i v H2,xs[i]?=some v->(∀ j,j<xs.length->kf i<=kf j)->G H2->Q (.ref v) H2
theorem tj:∀ {xs:List Addr}{us:List Value},aO (xs.map V.ref) us->us=xs.map Value.ref
 | [],_,.nil=>rfl
 | _::_,_,.cons r t=>by cases r;rw[tj t];rfl
section
variable {X:Cx}
theorem Cc (hc:X.calm=true) (hd:X.A.handled=none) (hdep:X.A.in1.depth<recursionLimit) (hm:X.mg "min"=none) (L:xL X c P mb) (S:oW x y scope)
  (hN:X.N[j]?=some y) (hk:X.env.scope.names.lookup y=some .cell) (hcw:X.env.cells.lookup y=some cw) (hcl:closureFor scope X.env=pure [(y,cw)]) (hq:X.env.qual++"<lambda>"=DL.lamQ) (hdef:defaultsOf params X.env=([],[]))
  (hbind:∀ pm cd ctv u,bindArgs (kla_fn "<lambda>" DL.lamQ params body scope [(y,cw)] pm cd ctv) ⟨[u],[]⟩=pure [(x,u)])
  (he:PE X e te) (hmono:∀ σ H (Q Q2:VK),(∀ x H1,Q x H1->Q2 x H1)->te σ H Q->te σ H Q2) (hb:∀ f c' s H,PE (zO X.prog X.w X.K X.mg X.base x y DL.lamQ scope f (.ref c') [(y,cw)] X.A.in1 X.stack s H) body tb)
  (hg:Gl X "min":=by rfl) (hs:starEach [e] X.env=(false,eval e X.env)::starEach [] X.env:=by exact aP rfl)
  (hks:(backToKw pos (keywordEach [⟨some "key",.Lambda params body scope lp,kp⟩] X.env)).filterMap (·.1)=[Str.ofString "key"]:=by rfl)
  (h1:backTo pos (starEach [e] X.env)=(false,eval e X.env)::backTo pos (starEach [] X.env):=by rfl) (h2:(backTo pos (starEach [e] X.env)).any (·.1)=false:=by exact dP rfl)
  (h3:(backToKw pos (keywordEach [⟨some "key",.Lambda params body scope lp,kp⟩] X.env)).all (·.1.isSome)=true:=by rfl) (h4:(backToKw pos (keywordEach [⟨some "key",.Lambda params body scope lp,kp⟩] X.env)).any (·.1.isNone)=false:=by rfl) :
  PE X (.Call (.Name "min" p) [e] [⟨some "key",.Lambda params body scope lp,kp⟩] pos) (Ks X.K P te tb j):=by
 intro pins s σ H Q I h;refine wpAny_Call_Name_kw (jg I hg hm PyProof.Rows.boot_min ?_);have h':Lb te QH σ H (fun vs H1=>∃ x,vs=[x]/\∃ (a:Addr) (xs:List Addr) (ps:Array Value) (G:Hp->Prop) (kf:Nat->Int) (wv:V),x=.ref a/\xs≠[]/\H1 P=some (.tbl ps)/\DL.Tab H1/\σ[j]?=some (some wv) ∧
   (∀ H2,DL.Same H1 H2->DL.Tab H2->G H2)/\(∀ H2,G H2->df X.K H2 a (xs.map V.ref))/\(∀ i v H2,xs[i]?=some v->G H2->tb [some (.ref v),some wv] H2 fun r H3=>r=.int (kf i)/\G H3/\DL.Same H2 H3) ∧
   ∀ i v H2,xs[i]?=some v->(∀ j,j<xs.length->kf i<=kf j)->G H2->Q (.ref v) H2):=hmono _ _ _ _ (fun x H1 q=>⟨x,rfl,q⟩) h
 refine callWith_kw (cT (oB he uX hs pos pins s σ H _ I h') fun us s1 ⟨vs,H1,I1,r1,q1⟩=>?_) h1 h2 h3 h4;obtain⟨x0,rfl,a,xs,ps,G,kf,wv,rfl,hne,hP,tab,hwv,hG,hL,turn,fin⟩:=q1;obtain⟨u0,us,rfl,r0,rn⟩:∃ u0 us',us=u0::us'/\RelV (.ref a) u0/\aO [] us':=by
  cases r1 with|cons r t=>exact⟨_,_,rfl,r,t⟩
 cases rn;cases r0
 refine kws_cons (EH I1 L hP tab hcl hq hdef fun f c' pm ctv H2 s2 I2 sm tab2 hc'=>kws_nil ?_);rw[hks];refine tN (X:=X) (pins:=pins++[(f,kla_obj "<lambda>" DL.lamQ params body scope [(y,cw)] pm c' ctv)]) (σ:=σ) (l:=a) (vs:=xs.map Value.ref) (G:=fun H=>G H/\H c'=some (DL.HCode c')) kf f hd (fun H s pins g J=>?_) (by rw[length_map];exact length_pos_iff.mpr hne) ⟨hG H2 sm tab2,hc'⟩ I2 (fun i u hi own s3 H3 g3 J3=>?_) fun i u H3 s3 hi hmin g3 J3=>?_
 ·obtain⟨its,r,p,_⟩:=J.list (hL H g.1);rw[tj r]at p;obtain⟨o,n,e1,e2,e3,e4⟩:=p;exact⟨o,e1,e2,n,e4⟩
 ·obtain⟨v,hv,rfl⟩:∃ v,xs[i]?=some v/\u=.ref v:=by
   rw[getElem?_map]at hi
   cases e:xs[i]? with
   | none=>rw[e]at hi;cases hi
   | some v=>rw[e]at hi;cases hi;exact⟨v,rfl,rfl⟩
  have hcd:s3.heap.CodeRec (.ref c') DL.lamQ:=(J3.hok c' _ g3.2).1;refine cT (EG (pm:=pm) (ctv:=ctv) (t:=tb) (v:=.ref v) (wv:=wv) (Q:=fun r H4=>r=.int (kf i)/\G H4/\DL.Same H3 H4) J3 (by simp) hcd hd hdep (hbind _ _ _) S hN hk hcw hwv (hb f c' s3 H3) (turn i v H3 hv g3.1) rfl) fun u s4 ⟨r,H4,J4,rr,e,g4,sm4⟩=>?_
  subst e;obtain⟨t,rfl⟩:=rr;exact⟨t,H4,rfl,J4,g4,sm4.get g3.2⟩
 ·obtain⟨v,hv,rfl⟩:∃ v,xs[i]?=some v/\u=.ref v:=by
   rw[getElem?_map]at hi
   cases e:xs[i]? with
   | none=>rw[e]at hi;cases hi
   | some v=>rw[e]at hi;cases hi;exact⟨v,rfl,rfl⟩
  exact⟨.ref v,H3,J3.repin fun p hp=>.inl (by simp[hp]),rfl,fin i v H3 hv (fun j hj=>hmin j (by rw[length_map];exact hj)) g3.1⟩
end
end L2
set_option maxHeartbeats 4000000
namespace DL
open PySem L2 PyProof.Rows PySem.W
def tups:List T->Bool
 | []=>true
 | .tup us::r=>cL us && tups r
 | _::_=>false
theorem xv:∀ {ts:List T},tups ts=true->∀ t∈ts,lH t=true
 | [],_,t,h=>by cases h
 | .tup us::r,h,t,m=>by
  simp only[tups,Bool.and_eq_true]at h
  rcases mem_cons.mp m with z|z
  ·subst z;simpa only [lH] using h.1
  ·exact xv h.2 t z
theorem sZ {K:Frg}{H:Hp}:∀ {ts:List T}{vs:List V},tups ts=true->au K H ts vs->∃ as:List Addr,vs=as.map V.ref
 | [],_,_,h=>⟨[],h⟩
 | .tup us::r,_,h,⟨x,q,e,p,t⟩=>by
  simp only[tups,Bool.and_eq_true]at h;obtain⟨as,z⟩:=sZ h.2 t;unfold aB at p;obtain⟨a,xs,e1,_,_⟩:=p;exact⟨a::as,by rw[e,z,e1];rfl⟩
def vB (we:WE)(j:Nat)(wb:WE):WE:=fun δ R=>we δ fun s=>∃ (ts:List T) (kf:T->Int) (sj:S),items s=some ts/\ts≠[]/\tups ts=true/\δ[j]?=some (some sj) ∧
 (∀ t∈ts,wb [some (.t t),some (.t (tr sj))] fun r=>r=.t (.int (kf t)))/\∀ t∈ts,(∀ u∈ts,kf t<=kf u)->R (.t t)
def RN (j:Nat)(wb:WE)(δ:a8)(R:S->Prop)(s:S):Prop:=∃ (ts:List T) (kf:T->Int) (sj:S),items s=some ts/\ts≠[]/\tups ts=true/\δ[j]?=some (some sj) ∧
 (∀ t∈ts,wb [some (.t t),some (.t (tr sj))] fun r=>r=.t (.int (kf t)))/\∀ t∈ts,(∀ u∈ts,kf t<=kf u)->R (.t t)
theorem CK:vB we j wb δ R=we δ (RN j wb δ R):=rfl
theorem fC.tree {K:Frg}{F H:Hp}(e:Same F H):∀ {s:S}{v:V},fC K F H s v->aB K H (tr s) v
 | .t _,_,h=>aB.same e h
 | .vt _,_,h=>h.elim
 | .ol _,_,⟨a,xs,h1,h2,h3,h4⟩=>⟨a,xs,h1,df.of h3,au.same e h4⟩
section
variable {X:Cx}
theorem Bs {c P mb cw:Addr}{x y:Str}{params:Arguments}{body e:Expr}{scope:Scope}{lp p pos kp:Pos}{we wb:WE}{j:Nat} (hc:X.calm=true) (hd:X.A.handled=none) (hdep:X.A.in1.depth<recursionLimit) (hm:X.mg "min"=none) (L:xL X c P mb) (S:oW x y scope) (hlam:ir X.K=some P)
  (hN:X.N[j]?=some y) (hk:X.env.scope.names.lookup y=some .cell) (hcw:X.env.cells.lookup y=some cw) (hcl:closureFor scope X.env=pure [(y,cw)]) (hq:X.env.qual++"<lambda>"=DL.lamQ) (hdef:defaultsOf params X.env=([],[]))
  (hbind:∀ pm cd ctv u,bindArgs (kla_fn "<lambda>" DL.lamQ params body scope [(y,cw)] pm cd ctv) ⟨[u],[]⟩=pure [(x,u)])
  (he:PE X e (av X.K we)) (hb:∀ f c' s H,PE (zO X.prog X.w X.K X.mg X.base x y DL.lamQ scope f (.ref c') [(y,cw)] X.A.in1 X.stack s H) body (av X.K wb))
  (hg:Gl X "min":=by rfl) (hs:starEach [e] X.env=(false,eval e X.env)::starEach [] X.env:=by exact aP rfl)
  (hks:(backToKw pos (keywordEach [⟨some "key",.Lambda params body scope lp,kp⟩] X.env)).filterMap (·.1)=[Str.ofString "key"]:=by rfl)
  (h1:backTo pos (starEach [e] X.env)=(false,eval e X.env)::backTo pos (starEach [] X.env):=by rfl) (h2:(backTo pos (starEach [e] X.env)).any (·.1)=false:=by exact dP rfl)
  (h3:(backToKw pos (keywordEach [⟨some "key",.Lambda params body scope lp,kp⟩] X.env)).all (·.1.isSome)=true:=by rfl) (h4:(backToKw pos (keywordEach [⟨some "key",.Lambda params body scope lp,kp⟩] X.env)).any (·.1.isNone)=false:=by rfl) :
  PE X (.Call (.Name "min" p) [e] [⟨some "key",.Lambda params body scope lp,kp⟩] pos) (av X.K (vB we j wb)):=
 (Cc (te:=av X.K we) (tb:=av X.K wb) hc hd hdep hm L S hN hk hcw hcl hq hdef hbind he (fun σ H Q Q2 i ⟨δ,R,F,rl,h,k⟩=>⟨δ,R,F,rl,h,fun v F' H' s a b c=>i _ _ (k v F' H' s a b c)⟩) hb hg hs hks h1 h2 h3 h4).imp fun σ H Q ⟨δ,R,F,rl,h,k⟩=>⟨δ,_,F,rl,h,fun v F1 H1 s e p q=>by
  obtain⟨ts,kf,sj,hi,hne,ht,hsj,hbo,hf⟩:=q;obtain⟨a,vs,rfl,sq,tp⟩:=(p.val e.sub).list e.sub hi;obtain⟨as,rfl⟩:=sZ ht tp;have tk:=(rl.ext e).tab;obtain⟨ps,hP⟩:=tk.2 P hlam;obtain⟨wv,hσ,so⟩:=rl.slot j sj hsj;have tw:=(so.ext e).tree e.sub;have len:=tp.length;rw[length_map]at len;have at_:∀ (i:Nat) (v:Addr),as[i]?=some v->∃ t,ts[i]?=some t/\aB X.K H1 t (.ref v):=fun i v hv=>tp.getV (by rw[getElem?_map,hv];rfl)
  refine⟨a,as,ps,fun H2=>Same H1 H2/\Tab H2,fun i=>kf (ts.getD i .non),wv,rfl,fun z=>?_,hP,tk.1,hσ,fun H2 s2 t2=>⟨s2,t2⟩,fun H2 g=>g.1.seq sq,fun i v H2 hv g=>?_,fun i v H2 hv hmin g=>?_⟩
  ·subst z;exact hne (length_eq_zero_iff.mp (by simpa using len.symm))
  ·obtain⟨t,h1,h2⟩:=at_ i v hv;have hd:ts.getD i .non=t:=by rw[getD_eq_getElem?_getD,h1];rfl
   refine⟨[some (.t t),some (.t (tr sj))],_,H2,⟨Same.refl _,fun _ _ h _=>.inl h,rfl,fun m s hm=>?_,fun m n b us ws _ hm=>?_,tk.same g.1 g.2⟩,hbo t (mem_of_getElem? h1),fun r F3 H3 s e3 p3 q3=>?_⟩
   ·match m,hm with
    | 0,hm=>cases hm;exact⟨_,rfl,aB.same g.1 h2⟩
    | 1,hm=>cases hm;exact⟨_,rfl,aB.same g.1 tw⟩
    | n+2,hm=>cases hm
   ·match m,hm with
    | 0,hm=>cases hm
    | 1,hm=>cases hm
    | n+2,hm=>cases hm
   ·subst q3;refine⟨?_,⟨g.1.trans e3.hh,e3.tb g.2⟩,e3.hh⟩;show r=V.int (kf (ts.getD i .non));rw[hd];exact p3
  ·obtain⟨t,h1,h2⟩:=at_ i v hv;have hm:=mem_of_getElem? h1;have hd:ts.getD i .non=t:=by rw[getD_eq_getElem?_getD,h1];rfl
   have ex:=lC (x:=none) e.sub e.full g.1 (fun _ z=>by cases z) (fun _=>g.2)
   refine k _ _ H2 (.t t) (e.trans ex) (aB.same ex.ff (aB.full e.full (xv ht t hm) h2)) (hf t hm fun u hu=>?_);obtain⟨n,hn,hu'⟩:=getElem_of_mem hu;have:kf (ts.getD i .non)<=kf (ts.getD n .non):=hmin n (by omega)
   rw[hd]at this;have hd2:ts.getD n .non=u:=by rw[getD_eq_getElem?_getD,getElem?_eq_getElem hn,hu'];rfl
   rw[hd2]at this;exact this⟩
end
theorem EI {l:List (Str × NameKind)}{y z:Str}(h:∀ p∈l,p.2=.free->p.1=y)(hz:l.lookup z=some .free):z=y:=h _ (lookup_mem hz) rfl
theorem BH {K:Frg}{f c T:Addr}{oc oc':Value}{od od':Option Addr}{fd:FuncData}{sl sl':Array (Option Value)}{vs:Array Value} (h1:PySem.W.nsIn K mainGlobals "depth"=some (some (.ref f))) (h2:K.lookup f=some ⟨oc,od,.func fd,sl⟩) (h3:fd.code=.ref c) (h4:K.lookup c=some ⟨oc',od',.fields vs,sl'⟩) (h5:(vs[11]?:Option Value)=some (.ref T)):ir K=some T:=by
 unfold ir;simp only[h1,h2,h3,h4,h5]
structure Lg (K:Frg) (x qual:Str) (st:Stmt) (f:Addr) (fd:FuncData) (c P:Addr):Prop where
 ex:∃ (oc:Value) (od:Option Addr) (kV doc pm:Value) (an:Option Addr) (ct:Value) (osl:Array (Option Value)),
  fd=PySem.W.fnOf x qual (eC st) (cz st) (al st) .none kV doc pm an (.ref c) ct/\K.lookup f=some ⟨oc,od,.func fd,osl⟩/\PySem.W.codeIn K (.ref c) qual=true
 kp:PySem.W.keepIn K (.ref f)=true
 hd:PySem.W.codeHdIn K c P=true
 lam:ir K=some P
theorem Lg.fn {K:Frg}{x qual:Str}{st:Stmt}{f c P:Addr}{fd:FuncData}(F:Lg K x qual st f fd c P):KD K x qual st f fd:=
 let ⟨oc,od,kV,doc,pm,an,ct,osl,e1,e2,e3⟩:=F.ex;⟨⟨oc,od,kV,doc,pm,an,.ref c,ct,osl,e1,e2,e3⟩,F.kp⟩
section
variable {P:Program}{wd:World}{K:Frg}{mg:Str->Option Value}{base:Heap}
theorem Iu {x qual:Str}{st:Stmt}{f c T:Addr}{fd:FuncData}{N ps:List Str}{k:Nat}{sp:aM}{w:WS}(F:Lg K x qual st f fd c T)(S:ay N ps (al st))
  (hlen:∀ ss R,sp ss R->ss.length=ps.length)
  (hbody:∀ (A:Around) (outer:List Env) (s:Shared) (H:Hp) (E:XK),cb k (A.deeper (PyProof.Rows.envOfC qual (al st) s.heap.objs.size f (.ref c)))->k8 (qV zx P wd K mg base N qual (al st) f (.ref c) A outer s H E).nox (cz st) (bK K H w))
  (h:∀ ss R,sp ss R->w {nx:=fun _=>R (.t .non),rt:=R} (gK N ss)):i8 P wd K mg base zx (k+1) f fd ps (vy K sp):=by
 have pl:ps.length<=N.length:=by
  have:=congrArg List.length S.pre;rw[length_take]at this;omega
 obtain⟨oc,od,kV,doc,pm,an,ct,osl,rfl,lk,hcd⟩:=F.ex;refine KQ lk hcd S (fun vs H Q E hs=>?_) fun A outer s H vs Q E hr hs=>?_
 ·obtain⟨ss,R,_,_,r,hs,_⟩:=hs;rw[jG r,hlen ss R hs]
 ·obtain⟨ss,R,tk,ha,r,hs,k⟩:=hs;refine⟨_,(hbody A outer s H E hr).nox,gK N ss,_,H,Same.refl _,sO tk (by rw[hlen ss R hs];exact pl) ha r,h ss R hs,⟨fun σ' F' H' δ' ff rl q=>?_,fun v H' s' sm tk rc q=>k v H' s' sm tk rc q,fun _ _ _ _ _ _ z=>z.elim,fun _ _ _ _ _ _ z=>z.elim⟩⟩
  exact k .non H' (.t .non) (ff.trans rl.sub) rl.tab rfl q
end
end DL
set_option maxHeartbeats 4000000
namespace DL
open PySem PySem.Spec L2 PyProof.Rows PySem.W
def Oz (mg:Str->Option Value) (base:Heap):Prop:=∃ mb ob,mg "__builtins__"=some (.ref mb)/\mb≠builtinsNs/\mb≠mainGlobals/\base.get? mb=some ob/\ob.cls=.type "module"/\ob.dict=some builtinsNs/\ob.data=.plain
theorem BI {P:Program}{w:World}{K:Frg}{mg mb:Str->Option Value}{CX:Cy}{k:Nat}{fa a c T:Addr}{fd:FuncData}{x:Str}{sp:Sp}{s₁:Shared}{vs:List Value}{ns:List Int}
  (hTK:K.lookup T=none) (hT:s₁.heap.get? T=some (tabObj #[])) (hTc:CodeHd s₁.heap c T)
  (KX:K.In s₁.heap) (hns:s₁.heap.Ns mainGlobals mg) (hb:s₁.heap.Ns builtinsNs mb) (hbm:Oz mg s₁.heap) (hbb:∀ x:Str,x≠"__name__"->mb x=bootBuiltins x) (hlim:s₁.heap.NoLimit) (hg:s₁.gens=#[])
  (ha:s₁.heap.get? a=some {cls:=.type "list",data:=.seq vs.toArray}) (hi:IntsAre vs ns) (hl:ns.length<=sizeLine) (hr:cb k callerA)
  (F:∀ base:Heap,K.In base->base.Ns mainGlobals mg->Oz mg base->i8 P w K mg base CX k fa fd [x] sp) (hbind:∀ (s:Shared) (u:Value),BindsTo s fd ⟨[u],[]⟩ [(x,u)])
  (hsp:∀ H:Hp,Tab H->(∃ ps,H T=some (.tbl ps))->df K H a (ns.map V.int)->sp [.ref a] H (fun v _=>v=.bl true) fun _ _ _=>False)
  (hCX:∀ H e s',CX [] H s₁ (fun _ _ _=>False) e s'->False) :
  codeAny (model P w) callerA (.call (.ref fa) ⟨[.ref a],[]⟩) (fun r s'=>r=.ok (.ret (.bool true))/\OldK s₁.heap s'.heap/\s'.os=s₁.os/\AllBare s'.gens) s₁:=by
 have rv:=tf hi;have lenV:=hi.length;have naT:a≠T:=fun z=>by
  rw[z,hT]at ha
  cases ha
 have core:∀ H:Hp,(∀ b,H b=none\/b=T\/∃ o xs,b=a/\H b=some (.frz o (.lst xs)))->H T=some (.tbl #[])->df K H a (ns.map V.int)->hZ P w H s₁.heap->(H a≠none->K.lookup a=none) →
   codeAny (model P w) callerA (.call (.ref fa) ⟨[.ref a],[]⟩) (fun r s'=>r=.ok (.ret (.bool true))/\OldK s₁.heap s'.heap/\s'.os=s₁.os/\AllBare s'.gens) s₁:=by
  intro H hO hHT hS hok hK;have hA:∀ b,H b≠none->b=a\/b=T:=fun b z=>by
   rcases hO b with q|q|⟨_,_,q,_⟩
   ·exact absurd q z
   ·exact .inr q
   ·exact .inl q
  have base_of:∀ {b:Addr}{o:Obj},s₁.heap.get? b=some o->H b=none->(qW s₁.heap H).get? b=some o:=fun e n=>Et e n;have noA:∀ {b:Addr}{o:Obj},s₁.heap.get? b=some o->(∀ its n,o.data≠.seq its n)->(∀ ps,o.data≠.fields ps)->H b=none:=fun {b o} e d1 d2=>by
   cases q:H b with
   | none=>rfl
   | some u=>
    rcases hA b (by rw[q];simp) with e'|e'
    ·subst e';rw[ha]at e;cases e
     exact absurd rfl (d1 vs.toArray 0)
    ·subst e';rw[hT]at e;cases e
     exact absurd rfl (d2 #[])
  have nsK:∀ {b:Addr}{m:Str->Option Value},s₁.heap.Ns b m->(qW s₁.heap H).Ns b m:=fun {b m} ⟨o,es,ep,e,d,r⟩=>⟨o,es,ep,base_of e (noA e (fun _ _ z=>by rw[d]at z;cases z) (fun _ z=>by rw[d]at z;cases z)),d,r⟩
  have hKb:K.In (qW s₁.heap H):=fun b o e=>base_of (KX b o e) (by
   cases q:H b with
   | none=>rfl
   | some u=>
    rcases hA b (by rw[q];simp) with e'|e'
    ·subst e';rw[hK (by rw[q];simp)]at e;cases e
    ·subst e';rw[hTK]at e;cases e)
  have hM:Mod K mg (qW s₁.heap H):=⟨hKb,nsK hns,⟨mb,nsK hb,hbb⟩,let ⟨mc,h1,h2⟩:=hlim;⟨mc,nsK h1,h2⟩⟩;have hB:Oz mg (qW s₁.heap H):=by
   obtain⟨bm,ob,b1,b2,b3,b4,b5,b6,b7⟩:=hbm;exact⟨bm,ob,b1,b2,b3,base_of b4 (noA b4 (fun _ _ z=>by rw[b7]at z;cases z) (fun _ z=>by rw[b7]at z;cases z)),b5,b6,b7⟩
  have e0:xH P w K mg (qW s₁.heap H) callerA [] s₁ H:=⟨rfl,hM,fun b o e=>Jr e,Nat.le_of_eq (BD _ _),trivial,fun b hb=>absurd (show b∈([]:List Addr) from hb) (by simp),hok,.of_eq hg⟩
  have tab:Tab H:=fun P2 ps e=>by
   rcases hO P2 with q|q|⟨_,_,_,q⟩
   ·rw[e]at q;cases q
   ·subst q;rw[hHT]at e;cases e
    exact⟨trivial,fun pos v z=>by cases z⟩
   ·rw[e]at q;cases q
  refine codeAny_mono ((F _ hKb (nsK hns) hB).run callerA [] s₁ H ⟨[.ref a],[]⟩ [.ref a] [.ref a] _ _ hr e0 (hbind s₁ (.ref a)) (.cons rfl .nil) (hsp H tab ⟨_,hHT⟩ hS)) fun r s' h=>?_
  cases r with
  | error e=>exact(hCX H e s' h).elim
  | ok fl=>
   cases fl with
   | next=>exact False.elim h
   | brk=>exact False.elim h
   | cont=>exact False.elim h
   | ret u=>
    obtain⟨v,H',os,bare,un,hok',r',q⟩:=h;have q':v=.bl true:=q;subst q';obtain rfl:u=Value.bool true:=r';have keepN:∀ b o,b≠T->s₁.heap.get? b=some o->s'.heap.get? b=some o:=fun b o nT e=>by
     rcases hO b with q|q|⟨ob,xs,_,z⟩
     ·exact un.keep b o e q (by intro z;exact absurd (show b∈([]:List Addr) from z) (by simp)) (by simp)
     ·exact absurd q nT
     ·have z2:=un.frzs b ob _ z;obtain⟨e1,_⟩:=hok b _ z;obtain⟨e2,_⟩:=hok' b _ z2;rw[e]at e1;cases e1
      exact e2
    obtain⟨more,hm⟩:=un.tbls T _ hHT;have gT:s'.heap.get? T=some (tabObj (#[]++more)):=hok' T _ hm;refine⟨rfl,⟨fun b o e=>?_,fun b o e=>?_⟩,os,bare⟩
    ·by_cases z:b=T
     ·subst z;rw[hT]at e;cases e
      exact .inr (.inl ⟨(hTc.tab hT).isCodeTable,rfl,#[],more,rfl,gT⟩)
     ·exact .inl (keepN b o z e)
    ·by_cases z:b=T
     ·subst z;exact⟨_,gT⟩
     ·exact⟨o,keepN b o z e⟩
 cases hk:K.lookup a with
 | some o=>
  have e:=KX a o hk;rw[ha]at e
  cases e
  refine core (fun b=>if b=T then some (.tbl #[]) else none) (fun b=>?_) (if_pos rfl) (.inr ⟨_,vs.toArray,_,hk,rfl,rfl,rfl,by rw[size_toArray,lenV];exact hl,by simpa using rv⟩) (fun b u z=>?_) fun z=>absurd (if_neg naT) z
  ·by_cases hb:b=T
   ·exact .inr (.inl hb)
   ·exact .inl (if_neg hb)
  ·by_cases hb:b=T
   ·have z':=(if_pos hb).symm.trans z
    cases z'
    subst hb;exact hT
   ·have z':=(if_neg hb).symm.trans z
    cases z'
 | none=>
  have H2:∀ b,b≠T->b≠a->(if b=T then some (HO.tbl #[]) else if b=a then some (HO.frz {cls:=.type "list",data:=.seq vs.toArray} (.lst (ns.map V.int))) else none)=none:=fun b h1 h2=>by rw[if_neg h1,if_neg h2]
  have H3:(if a=T then some (HO.tbl #[]) else if a=a then some (HO.frz {cls:=.type "list",data:=.seq vs.toArray} (.lst (ns.map V.int))) else none)=some (HO.frz {cls:=.type "list",data:=.seq vs.toArray} (.lst (ns.map V.int))):=by rw[if_neg naT,if_pos rfl]
  refine core (fun b=>if b=T then some (.tbl #[]) else if b=a then some (.frz {cls:=.type "list",data:=.seq vs.toArray} (.lst (ns.map V.int))) else none) (fun b=>?_) (if_pos rfl) (.inl (.inr ⟨{cls:=.type "list",data:=.seq vs.toArray},H3⟩)) (fun b u z=>?_) fun _=>hk
  ·by_cases hb:b=T
   ·exact .inr (.inl hb)
   ·by_cases hb2:b=a
    ·subst hb2;exact .inr (.inr ⟨_,_,rfl,H3⟩)
    ·exact .inl (H2 b hb hb2)
  ·by_cases hb:b=T
   ·have z':=(if_pos hb).symm.trans z
    cases z'
    subst hb;exact hT
   ·by_cases hb2:b=a
    ·subst hb2;have z':=H3.symm.trans z
     cases z'
     exact⟨ha,by rw[length_map];exact hl,vs,_,rv,ha⟩
    ·have z':=(H2 b hb hb2).symm.trans z
     cases z'
theorem walkT {l:PySem.W.OpenLaw}{n k:Nat}{q:Program}{loose:List Str}{XP:(Str->Option Value)->Heap->Prop}{YP:World->Heap->Prop}{d:DefRec}{K:Params->Frg}{x:Str}{ts:List Addr}
  (hn:l.most=some n) (hn2:n<=63) (hdf:d.params.defaults=[]) (hr:cb k callerA)
  (hY:∀ (w:World) (h:Heap),YP w h->(K w.params).In h) (hYT:∀ (w:World) (h:Heap),YP w h->∀ P∈ts,h.get? P=some (tabObj #[]))
  (F:∀ (w:World) (mg:Str->Option Value) (fa:Addr) (h:Heap),(K w.params).In h->h.Ns mainGlobals mg->mg d.name=some (.ref fa) →
   ∃ (fd:FuncData) (c T:Addr),(∀ (s:Shared) (u:Value),BindsTo s fd ⟨[u],[]⟩ [(x,u)])/\T∈ts/\(K w.params).lookup T=none/\PySem.W.codeHdIn (K w.params) c T=true/\ir (K w.params)=some T ∧
    ∀ base:Heap,(K w.params).In base->base.Ns mainGlobals mg->Oz mg base->i8 l.prog w (K w.params) mg base zx k fa fd [x] (vy (K w.params) AK)) :
  PySem.W.WalkO q loose XP YP l.row.toRowW d [] (fun f vs=>PySem.call f vs):=by
 refine Att.attach_call hn hdf fun w s₀ s₁ mg mb fa o pm cd doc a vs ns G Y ho hd hcd hmg hobj hints hlen hg=>?_;have KX:=hY w _ Y;obtain⟨fd,c,T,hb,hts,hTK,hhd,hlam,hF⟩:=F w mg fa _ KX G.T.g hmg;have hBM:Oz mg s₁.heap:=by
  obtain⟨bm,ob,b1,b2,b3,b4,b5,b6⟩:=G.T.bmain;refine⟨bm,ob,b1,b2,fun z=>?_,b3,b4,b5,b6⟩;obtain⟨o2,es,ep,e,d,_⟩:=G.T.g;rw[<-z,b3]at e
  cases e
  rw[b6]at d;cases d
 exact BI hTK (hYT w _ Y T hts) (codeHd_of_K KX hhd) KX G.T.g G.T.b hBM G.T.builtins G.T.nolimit hg hobj hints (le_trans hlen (le_trans hn2 (by decide))) hr hF hb (fun H ht hps hS=>MV ⟨ht,fun P e=>by rw[hlam]at e;cases e;exact hps⟩ (le_trans hlen hn2) hS) fun _ _ _ z=>z
end DL
set_option maxHeartbeats 4000000
namespace DL
open PySem PySem.Spec L2 PyProof.Rows
theorem yu:typeLookup (.type "list_reverseiterator") "__len__"=pure none:=by rw[typeLookup_type,builtinLookup_eq_fast];kernel_rfl
theorem rE:Slot "list_reverseiterator" "__length_hint__" "list_reverseiterator.__length_hint__":=
 .of (owner:="list_reverseiterator") (n:="__length_hint__") (by rw[typeLookup_type,builtinLookup_eq_fast];kernel_rfl) (by decide +kernel) (by decide +kernel) (by decide +kernel)
  (by first|exact .inl (by decide +kernel)|exact .inr (by decide +kernel)) (by rw[isSubtype_type];kernel_rfl)
section
variable {prog:Program}{w:World}{A:Around}{E:Value->Shared->Prop}{s:Shared}
theorem qI (hit:s.heap.IsRevIter it l i)(h:Q false s):wpAny (model prog w) A (Builtin.List.listLengthHint (.ref it)) Q E s:=by
 unfold Builtin.List.listLengthHint;refine wpAny_bind (wpAny_specialOf hit.typeIs yu ?_);show wpAny _ A (specialOf (Value.ref it) (Str.ofString "__length_hint__") >>= _) _ _ _;refine wpAny_bind (wpAny_specialOf hit.typeIs rE.lookup ?_);generalize hid:("list_reverseiterator.__length_hint__":String)=id0
 wp_delta
 rw[show splitId id0=some ("list_reverseiterator","__length_hint__") from by subst hid;decide +kernel]
 subst hid;refine wpAny_bind (wpAny_isInstance (T:="list_reverseiterator") (b:=true) hit.typeIs (by rw[isSubtype_type];kernel_rfl) ?_)
 refine wpAny_ite_split (fun hab=>absurd hab (by decide)) (fun _=>?_)
 refine wpAny_ite_split (fun _=>?_) (fun hab=>absurd (by decide +kernel) hab)
 refine wpAny_ite_split (fun hab=>absurd hab (by decide +kernel)) (fun _=>?_)
 exact wpAny_pure h
theorem ny {R:Result->Shared->Prop}{I l:Addr}{items:Array Value} (hh:A.handled=none) (hit:s.heap.IsRevIter I l ((items.size:Int)-1)) (hl:s.heap.IsList l items) (hz:items.size<=sizeLine) (S:Addr) (res:Value) (c₀:Nat) (hS:s.heap.get? S=some {cls:=.type "list",data:=.seq #[] c₀}) (hlI:l≠I) (hSI:S≠I) (hSl:S≠l)
  (hR:∀ h' tk acc' c',(∀ b o,b≠S->b≠I->s.heap.get? b=some o->h'.get? b=some o)->h'.get? S=some {cls:=.type "list",dict:=none,data:=.seq acc' c',slots:=#[]} →
   ItemsOf (fun i v=>items[items.size-1-i]?=some v) acc' items.size->R (.ok (.ret res)) {s with heap:=h',toks:=tk}) :
  wpAny (model prog w) A.in1 (Builtin.List.listExtendWith (.ref S) (.ref I) res)
   (fun fin s'=>match fin with|.done f=>R (.ok f) s'|.again c'=>c'.quiet=true/\codeAny (model prog w) A c' R s') (fun e s'=>R (.error e) s') s:=by
 have W:=(Walks.listRev (prog:=prog) (w:=w) (A:=A.in1) hh I l hlI items).toS;have hSf:S∉[I,l]:=fun hm=>by
  rcases mem_cons.mp hm with e|e
  ·exact hSI e
  ·exact hSl (mem_singleton.mp e)
 unfold Builtin.List.listExtendWith;refine wpAny_bind (wpAny_typeOf hit.typeIs ?_);have h1:Builtin.List.listSameRef (.ref S) (.ref I)=false:=by simp[Builtin.List.listSameRef,hSI]
 have h2:(Value.type "list_reverseiterator" == Value.type "list")=false:=by decide
 have h3:(Value.type "list_reverseiterator" == Value.type "tuple")=false:=by decide
 simp only[h1,h2,h3,Bool.or_false,Bool.false_eq_true,if_false];refine wpAny_bind (wpAny_pyIter_revIter hit ?_);refine wpAny_bind (wpAny_holding (qI hit ?_));refine wpAny_ite_split (fun hab=>absurd hab (by decide)) (fun _=>wpAny_pure ⟨plainId_quiet F.plain_extend_loop _,?_⟩)
 have e0:(items.size:Int)-1-((0:Nat):Int)=(items.size:Int)-1:=by omega
 refine codeAny_extend_loopS W hz S hSf res items.size 0 s #[] c₀ rfl (zero_le _) ⟨zero_le _,by rw[e0];exact hit,hl⟩ hS (ItemsOf.nil _) fun s' acc' c' hm hS' hacc=>?_
 rw[Moved.eq_with hm];refine hR s'.heap s'.toks acc' c' (fun b o hb hb2 e=>hm.heap b o (fun hmem=>?_) e) hS' hacc
 rcases mem_cons.mp hmem with e'|hmem
 ·exact hb e'
 ·exact hb2 (mem_singleton.mp hmem)
theorem j9 {R:Result->Shared->Prop}{I l:Addr}{items:Array Value} (hh:A.handled=none) (hit:s.heap.IsRevIter I l ((items.size:Int)-1)) (hl:s.heap.IsList l items) (hz:items.size<=sizeLine) (S:Addr) (hS:s.heap.get? S=some {cls:=.type "list",data:=.seq #[]}) (hlI:l≠I) (hSI:S≠I) (hSl:S≠l)
  (hR:∀ h' tk acc' c',(∀ b o,b≠S->b≠I->s.heap.get? b=some o->h'.get? b=some o)->h'.get? S=some {cls:=.type "list",dict:=none,data:=.seq acc' c',slots:=#[]} →
   ItemsOf (fun i v=>items[items.size-1-i]?=some v) acc' items.size->R (.ok (.ret .none)) {s with heap:=h',toks:=tk}) :
  wpAny (model prog w) A.in1 (Builtin.«list.__init__» ⟨[.ref S,.ref I],[]⟩)
   (fun fin s'=>match fin with|.done f=>R (.ok f) s'|.again c'=>c'.quiet=true/\codeAny (model prog w) A c' R s') (fun e s'=>R (.error e) s') s:=by
 show wpAny _ _ (do let old ← Builtin.List.listItems (.ref S);Builtin.List.listUpdate (.ref S) (fun _=>#[]);letGo old.toList.reverse;Builtin.List.listExtendWith (.ref S) (.ref I) .none) _ _ s
 refine wpAny_bind ?_;unfold Builtin.List.listItems;refine wpAny_bind (wpAny_seqItems hS rfl (wpAny_pure ?_));show wpAny _ _ (updateSeq S (fun _=>#[]) >>= fun _=>letGo (#[]:Array Value).toList.reverse >>= fun _=>Builtin.List.listExtendWith (.ref S) (.ref I) .none) _ _ s;refine wpAny_bind (wpAny_updateSeq hS rfl ?_);have hS₂:=Heap.get?_update_self (Obj.mapSeq (fun _=>(#[]:Array Value))) hS rfl;have oth:∀ b o,b≠S->s.heap.get? b=some o->(s.heap.update S (Obj.mapSeq (fun _=>(#[]:Array Value)))).get? b=some o:=
  fun b o hb e=>(Heap.get?_update_other _ _ (Ne.symm hb)).trans e
 refine wpAny_bind (wpAny_letGo ?_);refine ny hh (hit.at fun o e=>oth I o (Ne.symm hSI) e) (hl.at fun o e=>oth l o (Ne.symm hSl) e) hz S .none _ hS₂ hlI hSI hSl fun h' tk acc' c' hk hS' hacc=>?_;exact hR h' tk acc' c' (fun b o hb hb2 e=>hk b o hb hb2 (oth b o hb e)) hS' hacc
theorem qU {Q:Value->Shared->Prop}{I l:Addr}{items:Array Value}(hh:A.handled=none)(hit:s.heap.IsRevIter I l ((items.size:Int)-1))(hl:s.heap.IsList l items)(hz:items.size<=sizeLine)(hlI:l≠I)
  (hQ:∀ h' tk acc' c',(∀ b o,b≠I->s.heap.get? b=some o->h'.get? b=some o) →
   h'.get? s.heap.objs.size=some {cls:=.type "list",dict:=none,data:=.seq acc' c',slots:=#[]}->ItemsOf (fun i v=>items[items.size-1-i]?=some v) acc' items.size->Q (.ref s.heap.objs.size) {s with heap:=h',toks:=tk}) :
  wpAny (model prog w) A (call (.type "list") [.ref I]) Q E s:=by
 obtain⟨oI,hoI,_⟩:=id hit;obtain⟨ol,hol,_⟩:=id hl;refine callType_codes (Q₁:=fun obj s₁=>obj=.ref s.heap.objs.size/\s₁={s with heap:=s.heap.push {cls:=.type "list",data:=.seq #[]}}) F.called_list (F.typeCall_list_1 _) F.entry_list_init
  (code_list_new _ ⟨rfl,rfl⟩) fun obj s₁ h₁=>?_
 obtain⟨rfl,rfl⟩:=h₁;have hS:(s.heap.push {cls:=.type "list",data:=.seq #[]}).get? s.heap.objs.size=some {cls:=.type "list",data:=.seq #[]}:=Heap.get?_push_size _ rfl;refine⟨⟨_,hS,rfl⟩,F.args_list_init_2 _ _,j9 (A:=A.in1) hh (hit.at fun o e=>Heap.get?_push_of_some _ e) (hl.at fun o e=>Heap.get?_push_of_some _ e) hz _ hS hlI (fun e=>ne_of_lt (Heap.lt_size hoI) e.symm) (fun e=>ne_of_lt (Heap.lt_size hol) e.symm) fun h' tk acc' c' hk hS' hacc=>?_⟩;exact⟨rfl,hQ h' tk acc' c' (fun b o hb e=>hk b o (ne_of_lt (Heap.lt_size e)) hb (Heap.get?_push_of_some _ e)) hS' hacc⟩
theorem BG {its:List Value}{acc:Array Value}(h:ItemsOf (fun i v=>its.toArray[its.toArray.size-1-i]?=some v) acc its.toArray.size):acc=its.reverse.toArray:=by
 obtain⟨h1,h2⟩:=h;have e:acc.toList=its.reverse:=by
  apply List.ext_getElem?;intro i
  by_cases hi:i<acc.size
  ·have h3:=h2 i acc[i] (Array.getElem?_eq_getElem hi);have hi':i<its.length:=by simpa [h1] using hi
   rw[getElem?_toList,Array.getElem?_eq_getElem hi,List.getElem?_reverse hi'];simpa using h3.symm
  ·rw[getElem?_eq_none (by simpa using le_of_not_lt hi),getElem?_eq_none (by simp[h1]at hi;simpa using hi)]
 rw[<-e]
theorem xx:∀ {xs:List V}{us:List Value},aO xs us->aO xs.reverse us.reverse
 | [],_,.nil=>.nil
 | x::xs,u::us,.cons r t=>by
  rw[reverse_cons,reverse_cons];exact(xx t).append (.cons r .nil)
end
def G2 (K:Frg)(te:TE):TE:=fun σ H Q=>te σ H fun x H1=>∃ p ys,x=.ref p/\df K H1 p ys/\∀ l,H1 l=none->Q (.ref l) (cM H1 l (.lst ys.reverse))
section
variable {X:Cx}{e:Expr}{te:TE}{p1 p2 pos1 pos2:Pos}
theorem yS (hm1:X.mg "list"=none) (hm2:X.mg "reversed"=none) (hd:X.A.handled=none) (he:PE X e te) (hg1:Gl X "list":=by rfl) (hg2:Gl X "reversed":=by rfl)
  (hs2:starEach [e] X.env=(false,eval e X.env)::starEach [] X.env:=by exact aP rfl) (hs1:starEach [.Call (.Name "reversed" p2) [e] [] pos2] X.env=(false,eval (.Call (.Name "reversed" p2) [e] [] pos2) X.env)::starEach [] X.env:=by rfl) :
  PE X (.Call (.Name "list" p1) [.Call (.Name "reversed" p2) [e] [] pos2] [] pos1) (G2 X.K te):=by
 intro pins s σ H Q I h;refine wpAny_Call_Name_kw (jg I hg1 hm1 PyProof.Rows.boot_list ?_);refine PyProof.Rows.callWith_type1 ?_ hs1;rw[hs1];show wpAny _ _ (spliced ((false,eval (.Call (.Name "reversed" p2) [e] [] pos2) X.env)::backTo pos1 (starEach [] X.env))) _ _ s;refine Calls.spliced_cons ?_;refine wpAny_Call_Name_kw (jg I hg2 hm2 PyProof.Rows.boot_reversed ?_);refine PyProof.Rows.callWith_type1 ?_ hs2;rw[hs2];show wpAny _ _ (spliced ((false,eval e X.env)::backTo pos2 (starEach [] X.env))) _ _ s;refine Calls.spliced_cons (cT (he pins s σ H _ I h) fun u s1 ⟨x,H1,I1,r1,q1⟩=>?_);obtain⟨p,ys,rfl,hq,fin⟩:=q1
 cases r1
 refine Calls.spliced_nil ?_;obtain⟨its,r,pl,hz⟩:=I1.list hq;have hl:=pl.isList;obtain⟨ol,hol,_⟩:=id hl;refine call_reversed_list hl ?_;have hit:((s1.heap.push (revObj p ((its.toArray.size:Int)-1))).IsRevIter s1.heap.objs.size p ((its.toArray.size:Int)-1)):=⟨_,Heap.get?_push_size _ rfl,rfl,rfl⟩;refine Calls.spliced_nil ?_;have hlen:=r.length;refine qU hd hit (hl.at fun o e=>Heap.get?_push_of_some _ e) (by rw[size_toArray];omega) (ne_of_lt (Heap.lt_size hol)) fun h' tk acc' c' hk hS' hacc=>?_
 have hacc':=BG hacc;subst hacc';have keep:∀ b o,s1.heap.get? b=some o->h'.get? b=some o:=fun b o e=>hk b o (ne_of_lt (Heap.lt_size e)) (Heap.get?_push_of_some _ e);have hsz:(s1.heap.push (revObj p ((its.toArray.size:Int)-1))).objs.size=s1.heap.objs.size+1:=size_push' ..;rw[hsz]at hS' ⊢;have le:s1.heap.objs.size<=s1.heap.objs.size+1:=Nat.le_succ _;exact⟨.ref (s1.heap.objs.size+1),_,I1.laid (t':=tk) keep le (show fB X.prog X.w _ h' _ (.lst ys.reverse) from⟨by rw[length_reverse];exact hz,its.reverse,c',xx r,hS'⟩),rfl,fin _ (I1.hok.fresh le)⟩
def Cj (R:S->Prop)(s:S):Prop:=match items s with
 | some ts=>cL ts=true/\R (.ol ts.reverse)
 | none=>False
def qF (we:WE):WE:=fun δ R=>we δ (Cj R)
theorem x8 (hm1:X.mg "list"=none) (hm2:X.mg "reversed"=none) (hd:X.A.handled=none) (he:PE X e (av X.K we)) (hg1:Gl X "list":=by rfl) (hg2:Gl X "reversed":=by rfl)
  (hs2:starEach [e] X.env=(false,eval e X.env)::starEach [] X.env:=by exact aP rfl) (hs1:starEach [.Call (.Name "reversed" p2) [e] [] pos2] X.env=(false,eval (.Call (.Name "reversed" p2) [e] [] pos2) X.env)::starEach [] X.env:=by rfl) :
  PE X (.Call (.Name "list" p1) [.Call (.Name "reversed" p2) [e] [] pos2] [] pos1) (av X.K (qF we)):=
 (yS hm1 hm2 hd he hg1 hg2 hs2 hs1).imp fun σ H Q ⟨δ,R,F,rl,h,k⟩=>⟨δ,_,F,rl,h,fun v F1 H1 s ex p q=>by
  unfold Cj at q
  split at q
  ·rename_i ts hi;obtain⟨a,xs,rfl,sq,tp⟩:=(p.val ex.sub).list ex.sub hi;refine⟨a,xs,rfl,sq,fun l hl=>?_⟩;have e2:=dw.newL xs.reverse ex.sub ex.full hl;exact k _ F1 _ (.ol ts.reverse) (ex.trans e2) ⟨l,xs.reverse,rfl,aI ex.hh hl,aI ex.sub hl,aX,(au.full ex.full q.1 tp).reverse⟩ q.2
  ·exact q.elim⟩
end
theorem Dm (he:PE X (.Subscript a b p2) (av X.K we))(hg:PG X (.Tuple es k p) (lE X.K g)):PS X (.Assign [.Tuple es k p] (.Subscript a b p2) pos) (bK X.K H₀ (xB we g)):=ph he hg rfl rfl rfl
theorem AY (we:WE)(δ:a8)(R:S->Prop):qF we δ R=we δ (Cj R):=rfl
theorem NU (R:S->Prop)(ts:List T):Cj R (.t (.lst ts))=(cL ts=true/\R (.ol ts.reverse)):=rfl
theorem NW (R:S->Prop)(ts:List T):Cj R (.vt (.lst ts))=(cL ts=true/\R (.ol ts.reverse)):=rfl
theorem NV (R:S->Prop)(ts:List T):Cj R (.ol ts)=(cL ts=true/\R (.ol ts.reverse)):=rfl
end DL
namespace ST
open PySem PySem.SetTable
def line (mask:Nat):Nat->Nat->Nat->List Nat
 | 0,_,_=>[]
 | n+1,i,p=>(List.range (runEnd mask i+1-i)).map (i + ·)++line mask n (leap mask i p).1 (leap mask i p).2
def rem (mask N:Nat)(p:Probe):List Nat:=
 (List.range (p.more+1)).map (p.j + ·)++line mask N (leap mask p.i p.perturb).1 (leap mask p.i p.perturb).2
def way (mask:Nat)(h:Int):List Nat:=line mask (mask+14) (bits h % (mask+1)) (bits h)
theorem mP (mask i:Nat):i<=runEnd mask i:=by unfold runEnd;split <;> omega
theorem Ck (mask i:Nat):runEnd mask i<=i+9:=by unfold runEnd;split <;> omega
theorem jj (mask:Nat):∀ n i p,(line mask n i p).length<=10*n
 | 0,_,_=>by simp[line]
 | n+1,i,p=>by
  have h1:=jj mask n (leap mask i p).1 (leap mask i p).2;have h2:=Ck mask i;simp only[line,List.length_append,length_map,length_range];omega
theorem Ci (t:SetTable)(h:Int)(N:Nat):rem t.mask N (t.probeStart h)=line t.mask (N+1) (bits h % (t.mask+1)) (bits h):=by
 have h1:=mP t.mask (bits h % (t.mask+1));unfold rem probeStart;simp only[line];rw[show runEnd t.mask (bits h % (t.mask+1))-bits h % (t.mask+1)+1=runEnd t.mask (bits h % (t.mask+1))+1-bits h % (t.mask+1) by omega]
theorem AG (t:SetTable)(h:Int):rem t.mask (t.mask+13) (t.probeStart h)=way t.mask h:=Ci t h _
theorem qf (m j:Nat):(List.range (m+1+1)).map (j + ·)=j::(List.range (m+1)).map (j+1 + ·):=by
 rw[range_succ_eq_map,map_cons,map_map]
 congr 1
 exact map_congr_left fun a _=>by simp only[Function.comp];omega
theorem GL {t:SetTable}{N:Nat}{p:Probe}(h:0<p.more):rem t.mask N p=p.j::rem t.mask N (t.advance p):=by
 obtain⟨j,more,i,per,d⟩:=p
 cases more with
 | zero=>simp at h
 | succ m=>
  simp only[rem,advance,succ_pos,if_true,gt_iff_lt,Nat.zero_lt_succ];rw[qf]
  rfl
theorem GK {t:SetTable}{N:Nat}{p:Probe}(h:p.more=0):rem t.mask (N+1) p=p.j::rem t.mask N (t.advance p):=by
 obtain⟨j,more,i,per,d⟩:=p;simp only at h;subst h;have h1:=mP t.mask (leap t.mask i per).1;simp only[rem,advance,line,gt_iff_lt,lt_irrefl,if_false];rw[show runEnd t.mask (leap t.mask i per).1-(leap t.mask i per).1+1=runEnd t.mask (leap t.mask i per).1+1-(leap t.mask i per).1 by omega]
 simp
theorem kh {t:SetTable}{p:Probe}:(t.advance p).dummy=p.dummy:=by
 unfold advance;split <;> rfl
theorem II {t:SetTable}{hashAt:Nat->Int}{h:Int}(nd:∀ j,t.slot j≠.dummy):∀ (fuel N:Nat) (p:Probe),(rem t.mask N p).length<=fuel->p.dummy=none →
  (∃ j∈rem t.mask N p,t.slot j=.empty) →
  ∃ pre j post,rem t.mask N p=pre++j::post/\(∀ x∈pre,∃ i,t.slot x=.live i/\hashAt i≠h) ∧
   (
    (t.slot j=.empty/\probe.go t hashAt h fuel p=some (.empty j none)) ∨
    (∃ i N' p',t.slot j=.live i/\hashAt i=h/\probe.go t hashAt h fuel p=some (.candidate j i p')/\rem t.mask N' p'=post/\p'.dummy=none)):=by
 intro fuel
 induction fuel with
 | zero=>
  intro N p hl _ ⟨j,hj,_⟩;have:=List.length_pos_of_mem hj;omega
 | succ fuel ih=>
  intro N p hl hd ⟨j,hj,hje⟩;have key:(∃ N',rem t.mask N p=p.j::rem t.mask N' (t.advance p))\/rem t.mask N p=[p.j]:=by
   rcases Nat.eq_zero_or_pos p.more with h0|h0
   ·cases N with
    | zero=>right;simp[rem,h0,line]
    | succ N=>left;exact⟨N,GK h0⟩
   ·left;exact⟨N,GL h0⟩
  cases hs:t.slot p.j with
  | dummy=>exact absurd hs (nd _)
  | empty=>
   have hgo:probe.go t hashAt h (fuel+1) p=some (.empty p.j none):=by
    simp only[probe.go,hs,hd]
   rcases key with ⟨N',e⟩|e
   ·exact⟨[],p.j,_,e,by simp,.inl ⟨hs,hgo⟩⟩
   ·exact⟨[],p.j,[],e,by simp,.inl ⟨hs,hgo⟩⟩
  | live i=>
   rcases key with ⟨N',e⟩|e
   ·by_cases hh:hashAt i=h
    ·refine⟨[],p.j,_,e,by simp,.inr ⟨i,N',t.advance p,hs,hh,?_,rfl,kh.trans hd⟩⟩
     simp only[probe.go,hs,hh,beq_self_eq_true,if_true]
    ·have hgo:probe.go t hashAt h (fuel+1) p=probe.go t hashAt h fuel (t.advance p):=by
      simp only[probe.go,hs];rw[if_neg (by simpa using hh)]
     rw[e]at hj hl;have hj':j∈rem t.mask N' (t.advance p):=by
      rcases mem_cons.mp hj with rfl|hj
      ·rw[hje]at hs;exact nomatch hs
      ·exact hj
     simp only[length_cons]at hl;obtain⟨pre,j',post,e',hpre,hh'⟩:=ih N' (t.advance p) (by omega) (kh.trans hd) ⟨j,hj',hje⟩
     refine⟨p.j::pre,j',post,by rw[e,e'];rfl,?_,by rw[hgo];exact hh'⟩
     intro x hx
     rcases mem_cons.mp hx with rfl|hx
     ·exact⟨i,hs,hh⟩
     ·exact hpre x hx
   ·rw[e]at hj;obtain rfl:=mem_singleton.mp hj;rw[hje]at hs;exact nomatch hs
def RP (mask:Nat):Nat->Nat->Nat->Nat
 | 0,_,acc=>acc
 | n+1,i,acc=>RP mask n ((i*5+1) % (mask+1)) (acc ||| (1 <<< i))
theorem Jj (mask i:Nat):i∈(List.range (runEnd mask i+1-i)).map (i + ·):=
 mem_map.mpr ⟨0,mem_range.mpr (by have:=mP mask i;omega),by omega⟩
theorem Av (mask j:Nat):∀ n i acc,(RP mask n i acc).testBit j=true->acc.testBit j=true\/j∈line mask n i 0
 | 0,i,acc,h=>.inl h
 | n+1,i,acc,h=>by
  rcases Av mask j n _ _ h with h|h
  ·rw[Nat.testBit_or,Bool.or_eq_true]at h
   rcases h with h|h
   ·exact .inl h
   ·right
    have:j=i:=by
     rw[Nat.one_shiftLeft,Nat.testBit_two_pow]at h;simpa using (of_decide_eq_true h).symm
    subst this;exact mem_append_left _ (Jj mask j)
  ·right
   exact mem_append_right _ (by simpa [leap] using h)
def Jt (mask:Nat):Prop:=mask=7\/mask=31\/mask=127
theorem JK {mask:Nat}(ok:Jt mask):∀ i,i<mask+1->RP mask (mask+1) i 0=2 ^ (mask+1)-1:=by
 rcases ok with rfl|rfl|rfl <;> decide +kernel
theorem BN {mask i j:Nat}(ok:Jt mask)(hi:i<mask+1)(hj:j<mask+1):j∈line mask (mask+1) i 0:=by
 rcases Av mask j (mask+1) i 0 (by rw[JK ok i hi,Nat.testBit_two_pow_sub_one];simpa using hj) with h|h
 ·simp at h
 ·exact h
theorem sk {mask n j:Nat}(hz:∀ i,i<mask+1->j∈line mask n i 0):∀ k i p,i<mask+1->p<32 ^ k->j∈line mask (k+n) i p
 | 0,i,p,hi,hp=>by
  have:p=0:=by simpa using hp
  subst this;rw[Nat.zero_add];exact hz i hi
 | k+1,i,p,hi,hp=>by
  rw[Nat.add_right_comm];refine mem_append_right _ (sk hz k _ _ (mod_lt _ (succ_pos _)) ?_);show p / 32<32 ^ k;rw[Nat.div_lt_iff_lt_mul (by decide)]
  rwa [Nat.pow_succ]at hp
theorem Ig (h:Int):bits h<2 ^ 64:=by
 unfold bits;have h1:h % (2 ^ 64:Int)<2 ^ 64:=Int.emod_lt_of_pos _ (by decide)
 have h2:0<=h % (2 ^ 64:Int):=Int.emod_nonneg _ (by decide)
 omega
theorem AV {mask j:Nat}{h:Int}(ok:Jt mask)(hj:j<=mask):j∈way mask h:=by
 unfold way;rw[show mask+14=13+(mask+1) by omega]
 exact sk (fun i hi=>BN ok hi (by omega)) 13 _ _ (mod_lt _ (succ_pos _)) (lt_of_lt_of_le (Ig h) (by decide))
theorem Ap {mask x:Nat}:∀ n i p,i<=mask->x∈line mask n i p->x<=mask
 | 0,_,_,_,h=>by simp[line]at h
 | n+1,i,p,hi,h=>by
  rcases mem_append.mp h with h|h
  ·obtain⟨k,hk,rfl⟩:=mem_map.mp h;have hk:=mem_range.mp hk;unfold runEnd at hk
   split at hk <;> omega
  ·exact Ap n _ _ (le_of_lt_succ (mod_lt _ (succ_pos _))) h
theorem zk {mask x:Nat}{h:Int}(hx:x∈way mask h):x<=mask:=Ap _ _ _ (le_of_lt_succ (mod_lt _ (succ_pos _))) hx
theorem C5 (ris:xs.toList.Pairwise (· < ·)):∀ fuel lo hi,hi-lo<=fuel->lo<=hi->hi<=xs.size →
  (∀ m (h:m<xs.size),m<lo->xs[m]<j)->(∀ m (h:m<xs.size),hi<=m->¬ xs[m]<j) →
  below.go xs j fuel lo hi<=xs.size/\∀ m (h:m<xs.size),m<below.go xs j fuel lo hi↔xs[m]<j:=by
 intro fuel;have mono:∀ a b (ha:a<xs.size) (hb:b<xs.size),a<b->xs[a]<xs[b]:=fun a b ha hb hab=>by
  have:=pairwise_iff_getElem.mp ris a b (by simpa using ha) (by simpa using hb) hab
  simpa using this
 induction fuel with
 | zero=>
  intro lo hi hf hl hs h1 h2;have:lo=hi:=by omega
  subst this;refine⟨hs,fun m h=>⟨h1 m h,fun hm=>?_⟩⟩
  rcases lt_or_ge m lo with hh|hh
  ·exact hh
  ·exact absurd hm (h2 m h hh)
 | succ fuel ih=>
  intro lo hi hf hl hs h1 h2;simp only[below.go]
  by_cases hlt:lo<hi
  ·rw[if_pos hlt];have hm:(lo+hi) / 2<xs.size:=by omega
   have hg:xs.getD ((lo+hi) / 2) j=xs[(lo+hi) / 2]:=by simp[Array.getD,hm]
   rw[hg]
   by_cases hc:xs[(lo+hi) / 2]<j
   ·rw[if_pos hc];refine ih _ _ (by omega) (by omega) hs (fun m h hm'=>?_) h2
    rcases lt_or_ge m ((lo+hi) / 2) with hh|hh
    ·exact lt_trans (mono m _ h hm hh) hc
    ·have:m=(lo+hi) / 2:=by omega
     subst this;exact hc
   ·rw[if_neg hc];refine ih _ _ (by omega) (by omega) (by omega) h1 (fun m h hm'=>?_)
    rcases lt_or_ge ((lo+hi) / 2) m with hh|hh
    ·exact fun hx=>hc (lt_trans (mono _ m hm h hh) hx)
    ·have:m=(lo+hi) / 2:=by omega
     subst this;exact hc
  ·rw[if_neg hlt];have:lo=hi:=by omega
   subst this;refine⟨hs,fun m h=>⟨h1 m h,fun hm=>?_⟩⟩
   rcases lt_or_ge m lo with hh|hh
   ·exact hh
   ·exact absurd hm (h2 m h hh)
theorem lc (j:Nat)(ris:xs.toList.Pairwise (· < ·)) :
  below xs j<=xs.size/\∀ m (h:m<xs.size),m<below xs j↔xs[m]<j:=
 C5 ris _ _ _ (by omega) (by omega) (le_refl _) (fun m _ h=>by omega) (fun m h h'=>by omega)
theorem below_at (ris:xs.toList.Pairwise (· < ·))(i:Nat)(hi:i<xs.size):below xs xs[i]=i:=by
 obtain⟨h1,h2⟩:=lc xs[i] ris;have mono:∀ a b (ha:a<xs.size) (hb:b<xs.size),a<b->xs[a]<xs[b]:=fun a b ha hb hab=>by
  have:=pairwise_iff_getElem.mp ris a b (by simpa using ha) (by simpa using hb) hab
  simpa using this
 rcases lt_trichotomy (below xs xs[i]) i with h|h|h
 ·have:=(h2 (below xs xs[i]) (by omega)).mpr (mono _ _ (by omega) hi h)
  omega
 ·exact h
 ·have:=(h2 i hi).mp h;omega
theorem Af (j:Nat):has #[] j=false:=by
 unfold has;simp
theorem Co {t:SetTable}(ris:t.place.toList.Pairwise (· < ·))(i:Nat)(hi:i<t.place.size):t.slot t.place[i]=.live i:=by
 unfold slot;simp only[below_at ris i hi];simp[hi]
theorem slot_of {t:SetTable}(ris:t.place.toList.Pairwise (· < ·))(nd:t.dummies=#[])(j:Nat) :
  (t.slot j=.empty/\j∉t.place.toList)\/∃ i,∃ hi:i<t.place.size,t.slot j=.live i/\t.place[i]=j:=by
 by_cases hj:j∈t.place.toList
 ·right
  obtain⟨i,hi,e⟩:=getElem_of_mem hj;have hi':i<t.place.size:=by simpa using hi
  have e':t.place[i]=j:=by simpa using e
  exact⟨i,hi',by rw[<-e'];exact Co ris i hi',e'⟩
 ·left
  refine⟨?_,hj⟩;unfold slot;have hne:(t.place[below t.place j]? == some j)=false:=by
   rw[beq_eq_false_iff_ne];intro e;obtain⟨hb,e⟩:=Array.getElem?_eq_some_iff.mp e;exact hj (by rw[<-e];simp)
  simp only[hne,nd,Af];simp
end ST
namespace ST
open PySem PySem.SetTable
structure Tab (t:SetTable) (es:Array (Int × Value)) (ps:List (Nat × (Int × Value))):Prop where
 pl:t.place.toList=ps.map (·.1)
 en:es.toList=ps.map (·.2)
 ris:(ps.map (·.1)).Pairwise (· < ·)
 top:∀ q∈ps,q.1<=t.mask
 dum:t.dummies=#[]
 ok:Jt t.mask
 reach:∀ q∈ps,∃ pre post,way t.mask q.2.1=pre++q.1::post/\∀ x∈pre,x∈ps.map (·.1)
def cb (mask n:Nat):Prop:=(mask=7/\n<=4)\/(mask=31/\n<=18)\/(mask=127/\n<=76)
namespace Tab
variable {t:SetTable}{es:Array (Int × Value)}{ps:List (Nat × (Int × Value))}
theorem psz (T:Tab t es ps):t.place.size=ps.length:=by rw[<-length_toList,T.pl,length_map]
theorem esz (T:Tab t es ps):es.size=ps.length:=by rw[<-length_toList,T.en,length_map]
theorem ris' (T:Tab t es ps):t.place.toList.Pairwise (· < ·):=by rw[T.pl];exact T.ris
theorem fits (T:Tab t es ps)(r:ps.length<=t.mask):t.fits es.size=true:=by
 simp only[SetTable.fits,SetTable.fill,T.dum,T.psz,T.esz];simpa using r
theorem put (T:Tab t es ps)(hj:j<=t.mask)(hn:j∉ps.map (·.1))
  (hr:∃ pre post,way t.mask e.1=pre++j::post/\∀ x∈pre,x∈ps.map (·.1)) :
  Tab (t.put j).1 (insertAt es (t.put j).2 e) (ps.take (t.put j).2++(j,e)::ps.drop (t.put j).2):=by
 have hmem:∀ x,x∈ps.map (·.1)->x∈(ps.take (t.put j).2++(j,e)::ps.drop (t.put j).2).map (·.1):=fun x hx=>by
  obtain⟨q,hq,rfl⟩:=mem_map.mp hx;refine mem_map.mpr ⟨q,?_,rfl⟩;rw[<-List.take_append_drop (t.put j).2 ps]at hq
  rcases mem_append.mp hq with h|h
  ·exact mem_append_left _ h
  ·exact mem_append_right _ (mem_cons_of_mem _ h)
 have hmem':∀ q,q∈ps.take (t.put j).2++(j,e)::ps.drop (t.put j).2->q=(j,e)\/q∈ps:=fun q hq=>by
  rcases mem_append.mp hq with h|h
  ·exact .inr (mem_of_mem_take h)
  ·rcases mem_cons.mp h with h|h
   ·exact .inl h
   ·exact .inr (List.mem_of_mem_drop h)
 have hb:=lc j T.ris';have hp:(t.put j).2=below t.place j:=rfl;have hm:(t.put j).1.mask=t.mask:=rfl;have hg:∀ m (h:m<(ps.map (·.1)).length),(ps.map (·.1))[m]=t.place[m]'(by rw[T.psz];simpa using h):=fun m h=>by
  have:=T.pl;simp only[<-this];simp
 refine⟨?_,?_,?_,?_,?_,?_,?_⟩
 ·show(insertAt t.place (below t.place j) j).toList=_;rw[toList_insertAt,T.pl,map_append,map_cons,map_take,map_drop,hp]
 ·rw[toList_insertAt,T.en,map_append,map_cons,map_take,map_drop]
 ·rw[map_append,map_cons,map_take,map_drop,hp];rw[List.pairwise_append,pairwise_cons];have low:∀ a∈(ps.map (·.1)).take (below t.place j),a<j:=fun a ha=>by
   obtain⟨m,hm,rfl⟩:=getElem_of_mem ha;rw[length_take]at hm;rw[List.getElem_take,hg];exact(hb.2 m _).mp (by omega)
  have high:∀ a∈(ps.map (·.1)).drop (below t.place j),j<a:=fun a ha=>by
   have hin:=List.mem_of_mem_drop ha;obtain⟨m,hm,rfl⟩:=getElem_of_mem ha;rw[length_drop]at hm;rw[List.getElem_drop]at hin ⊢;have h1:¬ (ps.map (·.1))[below t.place j+m]<j:=by
    rw[hg];exact fun h=>by have:=(hb.2 _ _).mpr h;omega
   have h2:(ps.map (·.1))[below t.place j+m]≠j:=fun h=>hn (h ▸ hin);omega
  refine⟨T.ris.sublist (List.take_sublist _ _),⟨high,T.ris.sublist (List.drop_sublist _ _)⟩,fun a ha b hb'=>?_⟩
  rcases mem_cons.mp hb' with rfl|hb'
  ·exact low a ha
  ·exact lt_trans (low a ha) (high b hb')
 ·intro q hq
  rcases hmem' q hq with rfl|h
  ·exact hj
  ·exact T.top q h
 ·show(if has t.dummies j=true then _ else t.dummies)=#[]
  rw[T.dum,Af];rfl
 ·exact T.ok
 ·intro q hq
  rcases hmem' q hq with rfl|h
  ·obtain⟨pre,post,e1,h1⟩:=hr;exact⟨pre,post,e1,fun x hx=>hmem x (h1 x hx)⟩
  ·obtain⟨pre,post,e1,h1⟩:=T.reach q h;exact⟨pre,post,e1,fun x hx=>hmem x (h1 x hx)⟩
end Tab
theorem sn (mask:Nat):∀ n i p,∃ r,line mask (n+1) i p=line mask n i p++r
 | 0,i,p=>⟨line mask 1 i p,rfl⟩
 | n+1,i,p=>by
  obtain⟨r,e⟩:=sn mask n (leap mask i p).1 (leap mask i p).2;refine⟨r,?_⟩;show _++line mask (n+1) _ _=(_++line mask n _ _)++r;rw[e,List.append_assoc]
theorem free_eq (mask:Nat)(owner:Array (Option Nat)):∀ fuel i p,layClean.free mask owner fuel i p=(line mask fuel i p).find? (fun j=>(owner.getD j (some 0)).isNone)
 | 0,i,p=>rfl
 | fuel+1,i,p=>by
  simp only[layClean.free,line,List.find?_append,List.find?_map];have e:(fun k=>(owner.getD (i+k) (some 0)).isNone)=((fun j=>(owner.getD j (some 0)).isNone) ∘ fun x=>i+x):=rfl;rw[e]
  cases hf:List.find? ((fun j=>(owner.getD j (some 0)).isNone) ∘ fun x=>i+x) (List.range (runEnd mask i+1-i)) with
  | some k=>rfl
  | none=>
   simp only[Option.map_none,Option.none_or];exact free_eq mask owner fuel _ _
theorem xm:∀ (l:List (Option Nat)) (j k:Nat),l[j]?=some none->List.Perm ((l.set j (some k)).filterMap id) (k::l.filterMap id)
 | [],j,k,h=>by simp at h
 | a::l,0,k,h=>by
  simp only[List.getElem?_cons_zero,Option.some.injEq]at h;subst h;simp
 | a::l,j+1,k,h=>by
  simp only[List.getElem?_cons_succ]at h;have ih:=xm l j k h
  cases a with
  | none=>simpa using ih
  | some b=>
   simp only[List.set_cons_succ,filterMap_cons,id];exact(List.Perm.cons b ih).trans (List.Perm.swap k b _)
theorem vN:∀ l:List (Option Nat),(∀ x∈l,x.isSome=true)->(l.filterMap id).length=l.length
 | [],_=>rfl
 | none::l,h=>by have:=h none mem_cons_self;simp at this
 | some a::l,h=>by
  simp only[filterMap_cons,id,length_cons];rw[vN l fun x hx=>h x (mem_cons_of_mem _ hx)]
structure Own (mask:Nat) (hs:List Int) (owner:Array (Option Nat)):Prop where
 sz:owner.size=mask+1
 pm:List.Perm (owner.toList.filterMap id) (List.range hs.length)
 rc:∀ j k,owner[j]?=some (some k)->∃ h,hs[k]?=some h/\∃ pre post,way mask h=pre++j::post/\∀ x∈pre,∃ k',owner[x]?=some (some k')
theorem Own.step {mask:Nat}{hs:List Int}{owner:Array (Option Nat)}(O:Own mask hs owner)(ok:Jt mask)(hl:hs.length<mask+1)(h:Int) :
  ∃ j,layClean.free mask owner (turns mask) (bits h % (mask+1)) (bits h)=some j/\Own mask (hs++[h]) (owner.setIfInBounds j (some hs.length)):=by
 have hex:∃ j,j<mask+1/\owner[j]?=some none:=by
  apply Classical.byContradiction;intro hc;have hall:∀ x∈owner.toList,x.isSome=true:=fun x hx=>by
   obtain⟨m,hm,rfl⟩:=getElem_of_mem hx;have hm':m<owner.size:=by simpa using hm
   cases hx:owner[m] with
   | some v=>simp[hx]
   | none=>exact absurd ⟨m,by rw[<-O.sz];exact hm',by rw[Array.getElem?_eq_getElem hm',hx]⟩ hc
  have h1:=vN _ hall;have h2:=O.pm.length_eq;rw[length_range]at h2;have h3:owner.toList.length=mask+1:=by simpa using O.sz
  have h4:=h1.symm.trans h2;rw[h3]at h4;omega
 obtain⟨j0,hj0,e0⟩:=hex;have hgd:∀ x,x<mask+1->owner.getD x (some 0)=owner[x]?.getD (some 0):=fun x hx=>by
  rw[getD_eq_getD_getElem?]
 have hsome:((way mask h).find? (fun j=>(owner.getD j (some 0)).isNone)).isSome=true:=by
  rw[List.find?_isSome];exact⟨j0,AV ok (by omega),by rw[hgd j0 hj0,e0];rfl⟩
 obtain⟨j,hj⟩:=isSome_iff_exists.mp hsome;have hfree:layClean.free mask owner (turns mask) (bits h % (mask+1)) (bits h)=some j:=by
  rw[free_eq];obtain⟨r,e⟩:=sn mask (mask+14) (bits h % (mask+1)) (bits h);show(line mask (mask+14+1) _ _).find? _=_;rw[e,List.find?_append];show Option.or ((way mask h).find? _) _=_;rw[hj];rfl
 obtain⟨hjn,pre,post,ew,hpre⟩:=List.find?_eq_some_iff_append.mp hj;have hjm:j<mask+1:=Nat.lt_succ_of_le (zk (h:=h) (by rw[ew];simp))
 have hjo:owner[j]?=some none:=by
  have hjs:j<owner.size:=by rw[O.sz];exact hjm
  have:=hjn;rw[hgd j hjm,Array.getElem?_eq_getElem hjs]at this;rw[Array.getElem?_eq_getElem hjs];simpa using this
 have hjs:j<owner.size:=by rw[O.sz];exact hjm
 have hset:∀ x,(owner.setIfInBounds j (some hs.length))[x]?=if j=x then some (some hs.length) else owner[x]?:=fun x=>by
  rw[Array.getElem?_setIfInBounds]
  split
  ·rename_i e;subst e;simp[hjs]
  ·rfl
 have hkeep:∀ (x k':Nat),owner[x]?=some (some k')->∃ k'',(owner.setIfInBounds j (some hs.length))[x]?=some (some k''):=fun x k' e=>by
  rw[hset]
  split
  ·exact⟨_,rfl⟩
  ·exact⟨k',e⟩
 refine⟨j,hfree,⟨by simpa using O.sz,?_,?_⟩⟩
 ·rw[Array.toList_setIfInBounds];refine(xm _ _ _ (by simpa using hjo)).trans ?_
  rw[List.length_append,length_singleton,range_succ];exact(List.Perm.cons _ O.pm).trans (List.perm_append_singleton _ _).symm
 ·intro j' k' e;rw[hset]at e
  split at e
  ·rename_i ej;subst ej;obtain rfl:hs.length=k':=by simpa using e
   refine⟨h,by simp,pre,post,ew,fun x hx=>?_⟩
   have hx1:=hpre x hx;have hxm:x<mask+1:=Nat.lt_succ_of_le (zk (h:=h) (by rw[ew];exact mem_append_left _ hx))
   have hxs:x<owner.size:=by rw[O.sz];exact hxm
   rw[hgd x hxm,Array.getElem?_eq_getElem hxs]at hx1
   cases ho:owner[x] with
   | none=>simp[ho]at hx1
   | some v=>exact hkeep x v (by rw[Array.getElem?_eq_getElem hxs,ho])
  ·obtain⟨h',eh,pre',post',ew',hp'⟩:=O.rc j' k' e;refine⟨h',?_,pre',post',ew',fun x hx=>?_⟩
   ·rw[getElem?_append_left (by
     rcases lt_or_ge k' hs.length with hh|hh
     ·exact hh
     ·rw[getElem?_eq_none hh]at eh;simp at eh)]
    exact eh
   ·obtain⟨v,hv⟩:=hp' x hx;exact hkeep x v hv
theorem w6 {mask:Nat}(ok:Jt mask):∀ (l hs:List Int) (owner:Array (Option Nat)),Own mask hs owner->hs.length+l.length<=mask+1 →
  ∃ owner',l.foldl (init:=some (owner,hs.length)) (fun acc h=>do
   let (owner,k) ← acc
   let j ← layClean.free mask owner (turns mask) (bits h % (mask+1)) (bits h)
   pure (owner.setIfInBounds j (some k),k+1))=some (owner',(hs++l).length)/\Own mask (hs++l) owner'
 | [],hs,owner,O,_=>⟨owner,by simp,by simpa using O⟩
 | h::l,hs,owner,O,hl=>by
  simp only[length_cons]at hl;obtain⟨j,hj,O'⟩:=O.step ok (by omega) h
  obtain⟨owner',e,O''⟩:=w6 ok l (hs++[h]) _ O' (by simp;omega)
  refine⟨owner',?_,by simpa using O''⟩
  rw[List.foldl_cons];simp only[Option.bind_eq_bind,Option.bind_some,hj,Option.pure_def]at e ⊢;rw[List.append_assoc]at e;simp only[List.length_append,length_singleton,List.singleton_append]at e ⊢;exact e
theorem wJ {mask:Nat}(ok:Jt mask)(hashes:Array Int)(hl:hashes.size<=mask+1) :
  ∃ owner,layClean mask hashes=some owner/\Own mask hashes.toList owner:=by
 have O:Own mask [] (Array.replicate (mask+1) none):=⟨by simp,by simp,fun j k e=>by
  rw[Array.getElem?_replicate]at e
  split at e <;> simp at e⟩
 obtain⟨owner,e,O'⟩:=w6 ok hashes.toList [] _ O (by simpa using hl)
 refine⟨owner,?_,by simpa using O'⟩
 unfold layClean;rw[<-Array.foldl_toList];simp only[length_nil]at e;rw[e];rfl
theorem wN (f:Nat->Option Nat):∀ l:List Nat,(l.filterMap fun j=>(f j).map (j,·)).map (·.1)=l.filter fun j=>(f j).isSome
 | []=>rfl
 | a::l=>by
  have ih:=wN f l
  cases h:f a <;> simp[h]at ih ⊢ <;> exact ih
theorem wO (f:Nat->Option Nat):∀ l:List Nat,(l.filterMap fun j=>(f j).map (j,·)).map (·.2)=l.filterMap f
 | []=>rfl
 | a::l=>by
  have ih:=wO f l
  cases h:f a <;> simp[h]at ih ⊢ <;> exact ih
theorem wm:∀ l:List α,(∀ x∈l,f x=g x)->l.filterMap f=l.filterMap g
 | [],_=>rfl
 | a::l,h=>by
  rw[filterMap_cons,filterMap_cons,h a mem_cons_self,wm l fun x hx=>h x (mem_cons_of_mem _ hx)]
theorem range_getD (o:Array (Option Nat)):(List.range o.size).filterMap (fun j=>o.getD j none)=o.toList.filterMap id:=by
 have e:=filterMap_getElem?_range o;rw[<-e,List.filterMap_filterMap];refine wm _ fun x hx=>?_;have hx:=mem_range.mp hx;simp[Array.getD,hx]
theorem IV {mask finger moves:Nat}{led plain:Bool}(ok:Jt mask)(es:Array (Int × Value))(hl:es.size<=mask+1) :
  ∃ t order ps,laid mask finger moves led plain (es.map (·.1))=some (t,order)/\Tab t (order.filterMap (es[·]?)) ps/\t.mask=mask/\t.led=led/\t.plain=plain ∧
   List.Perm (order.filterMap (es[·]?)).toList es.toList:=by
 obtain⟨owner,e,O⟩:=wJ ok (es.map (·.1)) (by simpa using hl)
 have hlen:((es.map (·.1)).toList).length=es.size:=by simp
 have hrc:∀ j k,owner[j]?=some (some k)->∃ q:k<es.size,∃ pre post,way mask es[k].1=pre++j::post/\∀ x∈pre,∃ k',owner[x]?=some (some k'):=fun j k ho=>by
  obtain⟨h,eh,r⟩:=O.rc j k ho;have hk:k<es.size:=by
   rcases lt_or_ge k es.size with hh|hh
   ·exact hh
   ·rw[getElem?_eq_none (by simpa using hh)]at eh;simp at eh
  refine⟨hk,?_⟩;have:h=es[k].1:=by simpa [hk] using eh.symm
  rw[<-this];exact r
 let live:=(List.range (mask+1)).filterMap fun j=>(owner.getD j none).map (j,·)
 have hlive:∀ q∈live,q.1<mask+1/\owner[q.1]?=some (some q.2):=fun q hq=>by
  obtain⟨j,hj,e⟩:=List.mem_filterMap.mp hq;have hj:=mem_range.mp hj;have hjs:j<owner.size:=by rw[O.sz];exact hj
  cases ho:owner[j] with
  | none=>simp[Array.getD,hjs,ho]at e
  | some k=>
   have:q=(j,k):=by simpa [Array.getD,hjs,ho] using e.symm
   subst this;exact⟨hj,by rw[Array.getElem?_eq_getElem hjs,ho]⟩
 have hfst:live.map (·.1)=(List.range (mask+1)).filter fun j=>(owner.getD j none).isSome:=wN _ _;have hsnd:live.map (·.2)=owner.toList.filterMap id:=by
  rw[<-range_getD,O.sz];exact wO _ _
 have hperm:List.Perm (live.map (·.2)) (List.range es.size):=by rw[hsnd,<-hlen];exact O.pm
 have hpm:List.Perm ((live.map (·.2)).filterMap (es[·]?)) es.toList:=by
  have:=hperm.filterMap (es[·]?)
  rwa [filterMap_getElem?_range]at this
 let d:Int × Value:=(0,.none)
 have hmapEq:(live.map (·.2)).filterMap (es[·]?)=live.map (fun q=>es.getD q.2 d):=by
  rw[List.filterMap_map];have:∀ (l:List (Nat × Nat)),(∀ q∈l,q.2<es.size)->l.filterMap ((es[·]?) ∘ (·.2))=l.map (fun q=>es.getD q.2 d):=by
   intro l
   induction l with
   | nil=>intro _;rfl
   | cons a l ih=>
    intro h;have ha:=h a mem_cons_self;rw[List.filterMap_cons_some (b:=es.getD a.2 d) (by simp[Array.getD,ha]),ih fun q hq=>h q (mem_cons_of_mem _ hq)]
    rfl
  exact this live fun q hq=>(hrc q.1 q.2 (hlive q hq).2).1
 refine⟨_,_,live.map (fun q=>(q.1,es.getD q.2 d)),by unfold laid;rw[e];rfl,?_,rfl,rfl,rfl,?_⟩
 ·have hin:∀ x k,owner[x]?=some (some k)->x∈(live.map (fun q=>(q.1,es.getD q.2 d))).map (·.1):=fun x k ho=>by
   have hxs:x<owner.size:=by
    rcases lt_or_ge x owner.size with hh|hh
    ·exact hh
    ·rw[Array.getElem?_eq_none hh]at ho;simp at ho
   rw[map_map];show x∈live.map (·.1);rw[hfst,mem_filter];refine⟨mem_range.mpr (by rw[<-O.sz];exact hxs),?_⟩
   rw[Array.getElem?_eq_getElem hxs]at ho;simp[Array.getD,hxs,Option.some.inj ho]
  refine⟨?_,?_,?_,?_,rfl,ok,?_⟩
  ·show(live.map (·.1))=_;rw[map_map];rfl
  ·rw[Array.toList_filterMap];show(live.map (·.2)).filterMap _=_;rw[hmapEq,map_map];rfl
  ·rw[map_map];show(live.map (·.1)).Pairwise _;rw[hfst];exact List.pairwise_lt_range.sublist List.filter_sublist
  ·intro q hq;obtain⟨q',hq',rfl⟩:=mem_map.mp hq;exact le_of_lt_succ (hlive q' hq').1
  ·intro q hq;obtain⟨q',hq',rfl⟩:=mem_map.mp hq;obtain⟨hk,pre,post,ew,hp⟩:=hrc q'.1 q'.2 (hlive q' hq').2;refine⟨pre,post,?_,fun x hx=>?_⟩
   ·show way mask (es.getD q'.2 d).1=_;simp only[Array.getD,hk,dif_pos];exact ew
   ·obtain⟨k',hk'⟩:=hp x hx;exact hin x k' hk'
 ·rw[Array.toList_filterMap];exact hpm
end ST
namespace ST
open PySem PySem.SetTable
abbrev ik (prog:Program)(w:World):=intKind prog w
structure Holds (prog:Program) (w:World) (h:Heap) (es:Array (Int × Value)) (ms:List (Addr × List Int)):Prop where
 pm:List.Perm es.toList (ms.map fun m=>(tupleKeyHash (ik prog w) m.2,Value.ref m.1))
 key:∀ m∈ms,IsTupleKey (ik prog w) h m.2 m.1
 nd:(ms.map (·.2)).Nodup
theorem xw:∀ {pre pre' post post':List Nat},pre++j::post=pre'++k::post'->k∈pre\/j=k\/j∈pre'
 | [],[],_,_,e=>by simp at e;exact .inr (.inl e.1)
 | [],a::pre',_,_,e=>by simp at e;exact .inr (.inr (by rw[e.1];exact mem_cons_self))
 | a::pre,[],_,_,e=>by simp at e;exact .inl (by rw[e.1];exact mem_cons_self)
 | a::pre,b::pre',_,_,e=>by
  simp only[List.cons_append,List.cons.injEq]at e
  rcases xw e.2 with h|h|h
  ·exact .inl (mem_cons_of_mem _ h)
  ·exact .inr (.inl h)
  ·exact .inr (.inr (mem_cons_of_mem _ h))
section
variable {prog:Program}{w:World}{A:Around}{E:Value->Shared->Prop}{s:Shared}
theorem nU (n:Nat)(hk:IsTupleKey (ik prog w) s.heap ks b)(h:Q false s) :
  wpAny (model prog w) A (ofAClassStatement (n+1) (.ref b)) Q E s:=by
 have hT:=hk.typeIs;obtain⟨o,items,m,ho,_,hd,hi⟩:=hk;unfold ofAClassStatement;refine wpAny_bind (wpAny_typeOf hT ?_);dsimp only;rw[if_pos (by decide)]
 refine wpAny_bind (wpAny_pure ?_);simp only[Bool.not_true,Bool.false_eq_true,if_false];refine wpAny_bind (wpAny_seqItems ho hd ?_);dsimp only;refine wpAny_bind ?_;rw[<-Array.forIn_toList];refine wpAny_forIn_list _ (fun rest r s'=>r.1=none/\s'=s/\∀ v∈rest,carriedByValue v=true) _ ?_ ?_ _ _ ⟨rfl,rfl,hi.byValue⟩
 ·rintro v rest r s' ⟨hr,rfl,hall⟩;have hv:=hall v mem_cons_self;have e:ofAClassStatement n v=pure false:=by
   cases v with
   | ref a=>simp[carriedByValue]at hv
   | _=>unfold ofAClassStatement;rfl
  rw[e];refine wpAny_bind (wpAny_pure ?_);simp only[Bool.false_eq_true,if_false];exact wpAny_pure ⟨rfl,rfl,fun u hu'=>hall u (mem_cons_of_mem _ hu')⟩
 ·rintro⟨r1,r2⟩ s' ⟨hr,rfl,_⟩;simp only at hr;subst hr;exact wpAny_pure h
theorem qJ (hk:IsTupleKey (ik prog w) s.heap ks b)
  (hl:∀ v∈l,∃ c ks',v=.ref c/\IsTupleKey (ik prog w) s.heap ks' c) (h:Q false s) :
  wpAny (model prog w) A (searchCouldBeSeen (.ref b) l) Q E s:=by
 unfold searchCouldBeSeen;refine wpAny_bind ?_;refine wpAny_forIn_list _ (fun rest r s'=>r.1=none/\s'=s/\∀ v∈rest,∃ c ks',v=.ref c/\IsTupleKey (ik prog w) s.heap ks' c) _ ?_ ?_ _ _ ⟨rfl,rfl,hl⟩
 ·rintro v rest r s' ⟨hr,rfl,hall⟩;obtain⟨c,ks',rfl,hc⟩:=hall v mem_cons_self;have htl:∀ v∈rest,∃ c ks',v=.ref c/\IsTupleKey (ik prog w) s'.heap ks' c:=fun u hu'=>hall u (mem_cons_of_mem _ hu');dsimp only;refine wpAny_ite_split (fun _=>wpAny_pure ⟨rfl,rfl,htl⟩) (fun _=>?_);refine wpAny_bind (wpAny_eqIsQuiet_tuple hk ?_);simp only[Bool.not_true,Bool.false_eq_true,if_false];refine wpAny_bind (wpAny_eqIsQuiet_tuple hc ?_);simp only[Bool.not_true,Bool.false_eq_true,if_false];refine wpAny_bind (nU 7 hk ?_);simp only[Bool.false_eq_true,if_false];refine wpAny_bind (nU 7 hc ?_);simp only[Bool.false_eq_true,if_false];exact wpAny_pure ⟨rfl,rfl,htl⟩
 ·rintro⟨r1,r2⟩ s' ⟨hr,rfl,_⟩;simp only at hr;subst hr;exact wpAny_pure h
theorem qK (n:Nat)(hk:IsTupleKey (ik prog w) s.heap ks b)(h:Q true s) :
  wpAny (model prog w) A (hashByValue (n+1) (.ref b)) Q E s:=by
 have hT:=hk.typeIs;obtain⟨o,items,m,ho,_,hd,hi⟩:=hk;unfold hashByValue;refine wpAny_bind (wpAny_specialOf hT F.slot_tuple_hash.lookup ?_);dsimp only;refine wpAny_bind (wpAny_seqItems ho hd ?_);simp only[Option.getD_some];refine wpAny_bind ?_;rw[<-Array.forIn_toList];refine wpAny_forIn_list _ (fun rest r s'=>r.1=none/\s'=s/\∃ ks',ItemsAre (ik prog w) ks' rest) _ ?_ ?_ _ _ ⟨rfl,rfl,ks,hi⟩
 ·rintro v rest r s' ⟨hr,rfl,ks',hall⟩
  cases hall with
  | @cons k _ ks'' _ h1 h2=>
   obtain⟨t,rfl⟩:=Value.isInt_shape h1;have e:hashByValue n (.int k t)=pure true:=by unfold hashByValue;rfl
   rw[e];refine wpAny_bind (wpAny_pure ?_);simp only[Bool.not_true,Bool.false_eq_true,if_false];exact wpAny_pure ⟨rfl,rfl,ks'',h2⟩
 ·rintro⟨r1,r2⟩ s' ⟨hr,rfl,_⟩;simp only at hr;subst hr;exact wpAny_pure h
theorem Cw
  (hu:A.units<cLine) (ho:s.heap.get? a=some o) (hd:o.data=.set es ep t) (T:Tab t es ps) (hlen:ps.length<=t.mask) (H:Holds prog w s.heap es ms)
  (hk:IsTupleKey (ik prog w) s.heap ks b)
  (hin:ks∈ms.map (·.2)->Q (.there none) s)
  (hout:ks∉ms.map (·.2)->∀ j pre post,way t.mask (tupleKeyHash (ik prog w) ks)=pre++j::post->(∀ x∈pre,x∈ps.map (·.1))->j∉ps.map (·.1)->Q (.free j false) s) :
  ∀ (fuel N:Nat) (p:Probe) (stand:Option Probe) (done:List Nat),stand.getD (t.probeStart (tupleKeyHash (ik prog w) ks))=p->p.dummy=none →
   way t.mask (tupleKeyHash (ik prog w) ks)=done++rem t.mask N p->(rem t.mask N p).length<fuel →
   (∀ x∈done,∃ q∈ps,q.1=x/\∀ c,q.2.2=.ref c->¬ IsTupleKey (ik prog w) s.heap ks c) →
   wpAny (model prog w) A (setSearchFrom a (.ref b) (tupleKeyHash (ik prog w) ks) true fuel stand) Q E s:=by
 have hf:=T.fits hlen;have hnd:∀ j,t.slot j≠.dummy:=fun j=>by
  rcases slot_of T.ris' T.dum j with ⟨e,_⟩|⟨i,_,e,_⟩ <;> rw[e] <;> exact fun h=>nomatch h
 have hmemb:∀ q∈ps,∃ m∈ms,q.2=(tupleKeyHash (ik prog w) m.2,Value.ref m.1):=fun q hq=>by
  have h1:q.2∈es.toList:=by rw[T.en];exact mem_map.mpr ⟨q,hq,rfl⟩
  obtain⟨m,hm,e⟩:=mem_map.mp (H.pm.mem_iff.mp h1);exact⟨m,hm,e.symm⟩
 have hemp:∃ j,j<=t.mask/\t.slot j=.empty:=by
  apply Classical.byContradiction;intro hc;have hsub:∀ j,j∈List.range (t.mask+1)->j∈ps.map (·.1):=fun j hj=>by
   have hj:=mem_range.mp hj
   rcases slot_of T.ris' T.dum j with ⟨e,_⟩|⟨i,hi,_,e⟩
   ·exact absurd ⟨j,by omega,e⟩ hc
   ·rw[<-T.pl,<-e];simp
  have:=List.nodup_range.length_le_of_subset (l₂:=ps.map (·.1)) (fun j hj=>hsub j hj);simp at this;omega
 intro fuel
 induction fuel with
 | zero=>intro N p stand done _ _ _ hl;omega
 | succ fuel ih=>
  intro N p stand done hst hpd hway hl hdone;unfold setSearchFrom;refine wpAny_bind (wpAny_setState_of ho hd hf ?_);dsimp only;rw[if_neg (by rcases T.ok with e|e|e <;> simp[gaveWay,e])]
  obtain⟨j0,hj0,e0⟩:=hemp;have hj0w:j0∈rem t.mask N p:=by
   have h1:=AV (h:=tupleKeyHash (ik prog w) ks) T.ok hj0;rw[hway]at h1
   rcases mem_append.mp h1 with h1|h1
   ·obtain⟨q,hq,e,_⟩:=hdone _ h1
    rcases slot_of T.ris' T.dum j0 with ⟨_,hn⟩|⟨i,hi,e',_⟩
    ·exact absurd (by rw[T.pl,<-e];exact mem_map.mpr ⟨q,hq,rfl⟩) hn
    ·rw[e0]at e';exact nomatch e'
   ·exact h1
  have hlen2:(rem t.mask N p).length<=10*turns t.mask:=by
   have h1:=jj t.mask (t.mask+14) (bits (tupleKeyHash (ik prog w) ks) % (t.mask+1)) (bits (tupleKeyHash (ik prog w) ks));have h2:(way t.mask (tupleKeyHash (ik prog w) ks)).length=done.length+(rem t.mask N p).length:=by rw[hway,List.length_append]
   unfold way at h2;unfold turns;omega
  obtain⟨pre,j,post,erem,hpre,hcase⟩:=II (hashAt:=fun i=>(es[i]?.map (·.1)).getD 0) (h:=tupleKeyHash (ik prog w) ks) hnd (10*turns t.mask) N p hlen2 hpd ⟨j0,hj0w,e0⟩;have hpre':∀ x∈pre,∃ q∈ps,q.1=x/\∀ c,q.2.2=.ref c->¬ IsTupleKey (ik prog w) s.heap ks c:=fun x hx=>by
   obtain⟨i,hs,hne⟩:=hpre x hx
   rcases slot_of T.ris' T.dum x with ⟨e,_⟩|⟨i',hi',e,e'⟩
   ·rw[e]at hs;exact nomatch hs
   ·rw[e]at hs;obtain rfl:i'=i:=by injection hs
    have hi2:i'<ps.length:=by rw[<-T.psz];exact hi'
    have hpe:ps[i'].1=x:=by
     rw[<-e'];have:=T.pl;have h3:t.place.toList[i']?=(ps.map (·.1))[i']?:=by rw[this]
     simpa [hi',hi2] using h3.symm
    refine⟨ps[i'],getElem_mem hi2,hpe,fun c hc hkc=>hne ?_⟩;obtain⟨m,hm,em⟩:=hmemb ps[i'] (getElem_mem hi2);rw[em]at hc;obtain rfl:m.1=c:=by injection hc
    have hkm:=(H.key m hm).inj hkc;have h4:es[i']?=some ps[i'].2:=by
     have:es.toList[i']?=(ps.map (·.2))[i']?:=by rw[T.en]
     simpa [hi2] using this
    rw[h4,em,hkm];rfl
  generalize hpr:t.probe _ (tupleKeyHash (ik prog w) ks) (stand.getD _)=pr;rw[hst]at hpr
  rcases hcase with ⟨hs,hgo⟩|⟨i,N',p',hs,hh,hgo,erem',hpd'⟩
  ·obtain rfl:pr=some (.empty j none):=hpr.symm.trans hgo;have hjn:j∉ps.map (·.1):=by
    rcases slot_of T.ris' T.dum j with ⟨_,hn⟩|⟨i,hi,e',_⟩
    ·rw[<-T.pl];exact hn
    ·rw[hs]at e';exact nomatch e'
   have hall:∀ x∈done++pre,∃ q∈ps,q.1=x/\∀ c,q.2.2=.ref c->¬ IsTupleKey (ik prog w) s.heap ks c:=fun x hx=>by
    rcases mem_append.mp hx with hx|hx
    ·exact hdone x hx
    ·exact hpre' x hx
   have ecut:way t.mask (tupleKeyHash (ik prog w) ks)=(done++pre)++j::post:=by rw[hway,erem,List.append_assoc]
   refine wpAny_pure (hout (fun hin'=>?_) j (done++pre) post ecut (fun x hx=>?_) hjn)
   ·obtain⟨m,hm,ek⟩:=mem_map.mp hin';have he:(tupleKeyHash (ik prog w) m.2,Value.ref m.1)∈es.toList:=H.pm.mem_iff.mpr (mem_map.mpr ⟨m,hm,rfl⟩);rw[T.en]at he;obtain⟨q,hq,eq⟩:=mem_map.mp he;obtain⟨pre',post',ew,hp'⟩:=T.reach q hq;have eq1:q.2.1=tupleKeyHash (ik prog w) ks:=by rw[eq,ek]
    rw[eq1,ecut]at ew
    rcases xw ew with h|h|h
    ·obtain⟨q',hq',e1,h1⟩:=hall _ h;have:q'=q:=by
      have hnd:=T.ris.imp (fun h=>ne_of_lt h);obtain⟨i1,hi1,rfl⟩:=getElem_of_mem hq';obtain⟨i2,hi2,rfl⟩:=getElem_of_mem hq;have:i1=i2:=by
       have h5:=pairwise_iff_getElem.mp T.ris
       rcases lt_trichotomy i1 i2 with h6|h6|h6
       ·have:=h5 i1 i2 (by simpa using hi1) (by simpa using hi2) h6
        simp only[getElem_map]at this;omega
       ·exact h6
       ·have:=h5 i2 i1 (by simpa using hi2) (by simpa using hi1) h6
        simp only[getElem_map]at this;omega
      subst this;rfl
     subst this;exact h1 m.1 (by rw[eq]) (ek ▸ H.key m hm)
    ·exact hjn (h ▸ mem_map.mpr ⟨q,hq,rfl⟩)
    ·exact hjn (hp' j h)
   ·obtain⟨q,hq,e,_⟩:=hall x hx;exact mem_map.mpr ⟨q,hq,e⟩
  ·obtain rfl:pr=some (.candidate j i p'):=hpr.symm.trans hgo;dsimp only;obtain⟨i',hi',es1,ej⟩:∃ i',∃ hi:i'<t.place.size,t.slot j=.live i'/\t.place[i']=j:=by
    rcases slot_of T.ris' T.dum j with ⟨e,_⟩|r
    ·rw[e]at hs;exact nomatch hs
    ·exact r
   rw[hs]at es1;obtain rfl:i=i':=by injection es1
   have hi2:i<ps.length:=by rw[<-T.psz];exact hi'
   have hpe:ps[i].1=j:=by
    rw[<-ej];have h3:t.place.toList[i]?=(ps.map (·.1))[i]?:=by rw[T.pl]
    simpa [hi',hi2] using h3.symm
   have h4:es[i]?=some ps[i].2:=by
    have:es.toList[i]?=(ps.map (·.2))[i]?:=by rw[T.en]
    simpa [hi2] using this
   obtain⟨m,hm,em⟩:=hmemb ps[i] (getElem_mem hi2);rw[em]at h4;have hseen:∀ v∈(es.filter (·.1 == tupleKeyHash (ik prog w) ks)).toList.map (·.2),∃ c ks',v=.ref c/\IsTupleKey (ik prog w) s.heap ks' c:=fun v hv=>by
    obtain⟨e,he,rfl⟩:=mem_map.mp hv;have he2:e∈es.toList:=by
     have:=Array.mem_toList_iff.mp he;exact Array.mem_toList_iff.mpr (Array.mem_filter.mp this).1
    obtain⟨m',hm',em'⟩:=mem_map.mp (H.pm.mem_iff.mp he2);exact⟨m'.1,m'.2,by rw[<-em'],H.key m' hm'⟩
   refine wpAny_ite_split (fun _=>wpAny_bind (qJ hk hseen ?_)) (fun _=>?_)
   all_goals try simp only[Bool.false_eq_true,if_false]
   all_goals rw[h4]
   all_goals dsimp only
   all_goals refine wpAny_bind (wpAny_holding (wpAny_eqBool_tuple hu (H.key m hm) hk ?_))
   all_goals refine wpAny_bind (wpAny_setState_of ho hd hf ?_)
   all_goals by_cases hkk:m.2=ks
   all_goals try (
    rw[decide_eq_true hkk];simp only[Bool.and_self,if_true];exact wpAny_pure (hin (mem_map.mpr ⟨m,hm,hkk⟩)))
   all_goals rw[decide_eq_false hkk]
   all_goals simp only[Bool.and_false,Bool.false_eq_true,if_false,sameMemory,beq_self_eq_true,if_true]
   all_goals rw[hs]
   all_goals dsimp only
   all_goals rw[h4]
   all_goals dsimp only
   all_goals refine wpAny_bind (wpAny_isSame_ref_self ?_)
   all_goals simp only[if_true]
   all_goals refine wpAny_bind (wpAny_pure ?_)
   all_goals dsimp only
   all_goals(
    refine ih N' p' (some p') (done++pre++[j]) rfl hpd' (by rw[erem',hway,erem];simp) ?_ ?_
    ·rw[erem'];have:(rem t.mask N p).length=pre.length+(post.length+1):=by rw[erem];simp
     omega
    ·intro x hx
     rcases mem_append.mp hx with hx|hx
     ·rcases mem_append.mp hx with hx|hx
      ·exact hdone x hx
      ·exact hpre' x hx
     ·obtain rfl:=mem_singleton.mp hx;refine⟨ps[i],getElem_mem hi2,hpe,fun c hc hkc=>?_⟩;rw[em]at hc;obtain rfl:m.1=c:=by injection hc
      exact hkk ((H.key m hm).inj hkc))
end
end ST
namespace ST
open PySem PySem.SetTable
def dY (prog:Program)(w:World)(h:Heap)(a:Addr)(ms:List (Addr × List Int)):Prop:=
 ∃ o es ep t ps,h.get? a=some o/\o.ExactSet/\o.data=.set es ep t/\Tab t es ps/\cb t.mask ps.length/\Holds prog w h es ms/\t.plain=true/\t.led=!(w.params.followText "set-order")
theorem cb.le {mask n:Nat}(r:cb mask n):n<=mask:=by
 rcases r with ⟨e,h⟩|⟨e,h⟩|⟨e,h⟩ <;> omega
section
variable {prog:Program}{w:World}{A:Around}{E:Value->Shared->Prop}{s:Shared}
theorem wG (x:IsTupleKey (ik prog w) h ks c)(ho:h.get? a=some o)(hd:o.data=.set es ep t)
  (hs:Heap.SameBut a h h'):IsTupleKey (ik prog w) h' ks c:=by
 obtain⟨o',items,n,ho',hc,hd',hi⟩:=x;have hne:c≠a:=by
  rintro rfl;obtain rfl:o'=o:=Option.some.inj (ho'.symm.trans ho);rw[hd]at hd';exact nomatch hd'
 exact⟨o',items,n,(hs.2 c hne).trans ho',hc,hd',hi⟩
theorem Holds.len (H:Holds prog w h es ms):es.size=ms.length:=by
 rw[<-length_toList,H.pm.length_eq,length_map]
def gQ (ms:List (Addr × List Int))(b:Addr)(ks:List Int):List (Addr × List Int):=if ks∈ms.map (·.2) then ms else ms++[(b,ks)]
theorem Ow {a b:Addr}{ks:List Int}{ms:List (Addr × List Int)}{Q:Bool->Shared->Prop}(hu:A.units<cLine)(hS:dY prog w s.heap a ms)(hk:IsTupleKey (ik prog w) s.heap ks b)(hroom:ms.length<76)
  (h:∀ h' r,Heap.SameBut a s.heap h'->dY prog w h' a (gQ ms b ks)->Q r {s with heap:=h'}) :
  wpAny (model prog w) A (setAddHashed a (.ref b) (tupleKeyHash (ik prog w) ks)) Q E s:=by
 obtain⟨o,es,ep,t,ps,ho,hex,hd,T,R,H,hpl,hled⟩:=id hS;have hf:=T.fits R.le;have hlen:ps.length=ms.length:=by rw[<-T.esz,H.len]
 unfold setAddHashed setAddHashedIn;refine wpAny_holding (wpAny_bind (wpAny_setState_of ho hd hf ?_));dsimp only;rw[if_neg (by simp[byScan,Value.scannable])]
 refine wpAny_bind ?_;unfold setSearch;refine Cw hu ho hd T R.le H hk (fun hin=>?_) (fun hout j pre post ew hpre hj=>?_) 100000 (t.mask+13) _ none [] rfl rfl (by rw[getD_none,AG,nil_append]) ?_ (fun x hx=>absurd hx not_mem_nil)
 ·refine wpAny_pure ?_;have e:s={s with heap:=s.heap}:=by cases s;rfl
  rw[e];exact h s.heap false (Heap.SameBut.refl a s.heap) (by unfold gQ;rw[if_pos hin];exact hS)
 ·dsimp only;refine wpAny_bind (wpAny_setState_of ho hd hf ?_);dsimp only;have hj':j<=t.mask:=zk (h:=tupleKeyHash (ik prog w) ks) (by rw[ew];simp)
  have T1:=T.put (e:=(tupleKeyHash (ik prog w) ks,Value.ref b)) hj' hj ⟨pre,post,ew,hpre⟩;have hpl1:(t.put j).1.plain=true:=hpl;rw[if_pos hpl1];refine wpAny_bind (qK 7 hk ?_);simp only[if_true];have hn1:ps.length+1<=(t.put j).1.mask:=by
   show ps.length+1<=t.mask
   rcases R with ⟨e,h⟩|⟨e,h⟩|⟨e,h⟩ <;> omega
  generalize hps1:ps.take (t.put j).2++(j,(tupleKeyHash (ik prog w) ks,Value.ref b))::ps.drop (t.put j).2=ps1 at T1;generalize hes1:insertAt es (t.put j).2 (tupleKeyHash (ik prog w) ks,Value.ref b)=es1 at T1 ⊢;have hl1:ps1.length=ps.length+1:=by
   rw[<-hps1];have:=congrArg List.length (List.take_append_drop (t.put j).2 ps);simp only[List.length_append,length_cons]at this ⊢;omega
  have hpm1:List.Perm es1.toList (gQ ms b ks |>.map fun m=>(tupleKeyHash (ik prog w) m.2,Value.ref m.1)):=by
   unfold gQ;rw[if_neg hout,<-hes1,map_append];refine(SetTable.insertAt_perm _ _ _).trans ?_;rw[Array.toList_push];exact H.pm.append_right _
  have hnd1:((gQ ms b ks).map (·.2)).Nodup:=by
   unfold gQ;rw[if_neg hout,map_append,List.nodup_append];refine⟨H.nd,by simp,fun x hx y hy=>?_⟩
   obtain rfl:y=ks:=by simpa using hy
   exact fun e=>hout (e ▸ hx)
  have hkey1:∀ m∈gQ ms b ks,IsTupleKey (ik prog w) s.heap m.2 m.1:=by
   unfold gQ;rw[if_neg hout];intro m hm
   rcases mem_append.mp hm with hm|hm
   ·exact H.key m hm
   ·obtain rfl:=mem_singleton.mp hm;exact hk
  have hfin1:(t.put j).1.fits es1.size=true:=T1.fits (by rw[hl1];exact hn1)
  have hes1z:es1.size<=sizeLine:=by
   rw[T1.esz,hl1];have:sizeLine=16777216:=sizeLine_eq;have h0:ps.length=ms.length:=hlen;omega
  refine wpAny_bind (wpAny_storeSet_of ho hd ?_ hes1z);have hsb1:=Heap.SameBut.update s.heap a (Obj.putSet es1 (t.put j).1);have hg1:(s.heap.update a (Obj.putSet es1 (t.put j).1)).get? a=some {o with data:=.set es1 (ep+1) (t.put j).1}:=by
   have:=Heap.get?_update_self (Obj.putSet es1 (t.put j).1) ho (by rw[putSet_of es1 (t.put j).1 hd];rfl)
   rw[putSet_of es1 (t.put j).1 hd]at this;exact this
  have hfill:(t.put j).1.fill=ps.length+1:=by
   show(t.put j).1.place.size+(t.put j).1.dummies.size=_;rw[T1.psz,T1.dum,hl1];rfl
  have hmask:(t.put j).1.mask=t.mask:=rfl;refine wpAny_ite_split (fun hfull=>?_) (fun hfull=>?_)
  ·simp only[Bool.not_false,Bool.true_and,tooFull,hfill,hmask,ge_iff_le,decide_eq_true_eq]at hfull;obtain⟨mk,hmk,okm,hroom'⟩:∃ mk,sizeAbove (grown (es.size+1))=mk+1/\Jt mk/\cb mk (ps.length+1):=by
    rw[T.esz]
    rcases R with ⟨e,h⟩|⟨e,h⟩|⟨e,h⟩
    ·have e4:ps.length=4:=by omega
     rw[e4];exact⟨31,by decide,.inr (.inl rfl),.inr (.inl ⟨rfl,by decide⟩)⟩
    ·have e4:ps.length=18:=by omega
     rw[e4];exact⟨127,by decide,.inr (.inr rfl),.inr (.inr ⟨rfl,by decide⟩)⟩
    ·omega
   refine wpAny_bind ?_;unfold setRelay;refine wpAny_bind (wpAny_setState_of hg1 rfl hfin1 ?_);dsimp only;have hm128:mk<=127:=by rcases okm with e|e|e <;> omega
   rw[hmk,if_neg (by rw[sizeLine_eq];omega)]
   obtain⟨t2,order,ps2,el,T2,em2,el2,epl2,hpm2⟩:=IV (finger:=(t.put j).1.finger) (moves:=(t.put j).1.movedTo mk) (led:=(t.put j).1.led) (plain:=(t.put j).1.plain) okm es1 (by rw[T1.esz,hl1];have:=hroom'.le;omega)
   have erl:(t.put j).1.relaid (es1.map (·.1)) (grown (es.size+1))=some (t2,order):=by
    unfold relaid;rw[hmk,Nat.add_sub_cancel];exact el
   rw[erl];generalize hes2:order.filterMap (es1[·]?)=es2 at T2 hpm2;have hsz2:es2.size=es1.size:=by rw[<-length_toList,hpm2.length_eq,length_toList]
   have hl2:ps2.length=ps.length+1:=by rw[<-T2.esz,hsz2,T1.esz,hl1]
   refine wpAny_bind ?_;show wpAny (model prog w) A (if ((order.filterMap (es1[·]?)).size != es1.size)=true then _ else _) _ _ _
   rw[hes2,if_neg (by rw[hsz2];simp)]
   refine wpAny_pure ?_;dsimp only;refine wpAny_storeSet_of (s:={s with heap:=s.heap.update a (Obj.putSet es1 (t.put j).1)}) hg1 rfl ?_ (by rw[hsz2];exact hes1z)
   have hsb2:=hsb1.trans (Heap.SameBut.update (s.heap.update a (Obj.putSet es1 (t.put j).1)) a (Obj.putSet es2 t2));have hg2:((s.heap.update a (Obj.putSet es1 (t.put j).1)).update a (Obj.putSet es2 t2)).get? a=some {o with data:=.set es2 (ep+1+1) t2}:=by
    have:=Heap.get?_update_self (Obj.putSet es2 t2) hg1 (by rw[putSet_of es2 t2 rfl];rfl)
    rw[putSet_of es2 t2 rfl]at this;exact this
   refine wpAny_pure (h _ true hsb2 ⟨_,es2,ep+1+1,t2,ps2,hg2,hex,rfl,T2,by rw[em2,hl2];exact hroom',⟨hpm2.trans hpm1,fun m hm=>wG (hkey1 m hm) ho hd hsb2,hnd1⟩,by rw[epl2];exact hpl,by rw[el2];exact hled⟩)
  ·refine wpAny_pure (h _ true hsb1 ⟨_,es1,ep+1,(t.put j).1,ps1,hg1,hex,rfl,T1,?_,⟨hpm1,fun m hm=>wG (hkey1 m hm) ho hd hsb1,hnd1⟩,hpl,hled⟩);rw[hl1,hmask];simp only[Bool.not_false,Bool.true_and,tooFull,hfill,hmask,ge_iff_le,decide_eq_true_eq]at hfull
   rcases R with ⟨e,h⟩|⟨e,h⟩|⟨e,h⟩
   ·left;omega
   ·right;left;omega
   ·right;right;omega
 ·rw[getD_none,AG];unfold way;have h1:=jj t.mask (t.mask+14) (bits (tupleKeyHash (ik prog w) ks) % (t.mask+1)) (bits (tupleKeyHash (ik prog w) ks))
  rcases T.ok with e|e|e <;> rw[e]at h1 ⊢ <;> omega
end
end ST
set_option maxHeartbeats 3200000
namespace ST
open PySem PySem.SetTable
def met (km:Nat->Addr × List Int)(i:Nat):List (Addr × List Int):=((List.range i).map km).foldl (fun ms m=>gQ ms m.1 m.2) []
theorem lG (km:Nat->Addr × List Int)(i:Nat):met km (i+1)=gQ (met km i) (km i).1 (km i).2:=by
 unfold met;rw[range_succ,map_append,foldl_append];rfl
theorem met_len (km:Nat->Addr × List Int):∀ i,(met km i).length<=i
 | 0=>by simp[met]
 | i+1=>by
  have:=met_len km i;rw[lG];unfold gQ
  split
  ·omega
  ·simp;omega
theorem met_of (km:Nat->Addr × List Int):∀ i m,m∈met km i->∃ k,k<i/\m=km k
 | 0,m,h=>by simp[met]at h
 | i+1,m,h=>by
  rw[lG]at h;unfold gQ at h
  split at h
  ·obtain⟨k,hk,e⟩:=met_of km i m h;exact⟨k,by omega,e⟩
  ·rcases mem_append.mp h with h|h
   ·obtain⟨k,hk,e⟩:=met_of km i m h;exact⟨k,by omega,e⟩
   ·exact⟨i,by omega,by simpa using h⟩
theorem met_has (km:Nat->Addr × List Int):∀ i k,k<i->(km k).2∈(met km i).map (·.2)
 | 0,k,h=>by omega
 | i+1,k,h=>by
  rw[lG];unfold gQ
  rcases lt_or_ge k i with hk|hk
  ·have:=met_has km i k hk
   split
   ·exact this
   ·rw[map_append];exact mem_append_left _ this
  ·have:k=i:=by omega
   subst this
   split
   ·assumption
   ·simp
section
variable {prog:Program}{w:World}{A:Around}{E:Value->Shared->Prop}{s:Shared}
theorem dY.kept (S:dY prog w h a ms)(ka:∀ o,h.get? a=some o->h'.get? a=some o)
  (km:∀ m∈ms,∀ o,h.get? m.1=some o->h'.get? m.1=some o):dY prog w h' a ms:=by
 obtain⟨o,es,ep,t,ps,ho,hex,hd,T,R,H,r⟩:=S;refine⟨o,es,ep,t,ps,ka o ho,hex,hd,T,R,⟨H.pm,fun m hm=>?_,H.nd⟩,r⟩;obtain⟨o',items,n,ho',x⟩:=H.key m hm;exact⟨o',items,n,km m hm o' ho',x⟩
theorem EX
  (W:WalksS prog w A.in1 I fp wr G n P St) (S:Addr) (hSf:S∉fp) (km:Nat->Addr × List Int) (hval:∀ i v,P i v->v=.ref (km i).1) (hnw:∀ i,i<n->(km i).1∉S::wr) (hn:n<=76) (hu:A.in1.units<cLine) :
  ∀ (k i:Nat) (s:Shared),n-i=k->i<=n->St i s->(∀ i,i<n->IsTupleKey (ik prog w) s.heap (km i).2 (km i).1)->dY prog w s.heap S (met km i) →
   (∀ s',Moved (S::wr) G s s'->dY prog w s'.heap S (met km n)->R (.ok (.ret .none)) s') →
   codeAny (model prog w) A (.builtin "set.update.loop" ⟨[.ref S,.ref I],[]⟩) R s:=by
 have hSw:S∉wr:=fun h=>hSf (W.sub _ h);have hup:∀ b∈wr,b∈S::wr:=fun b hb=>mem_cons_of_mem _ hb;have mv:∀ {s s':Shared} (i:Nat),i<=n->Moved wr G s s'->dY prog w s.heap S (met km i)->dY prog w s'.heap S (met km i):=fun i hi hm hS=>
  hS.kept (fun o e=>hm.heap S o hSw e) fun m hmem o e=>by
   obtain⟨k,hk,rfl⟩:=met_of km i m hmem;exact hm.heap _ o (fun hw=>hnw k (by omega) (mem_cons_of_mem _ hw)) e
 intro k
 induction k with
 | zero=>
  intro i s hk hi hst hkey hS hR;obtain rfl:i=n:=by omega
  refine codeAny_builtin PyProof.Rows.F.entry_set_update_loop ?_;rw[Around.under_plainId PyProof.Rows.F.plain_set_update_loop _];show wpAny _ A.in1 (pyNext (.ref I) >>= _) _ _ s;refine wpAny_bind (W.done s _ _ hst fun s' hm=>?_);show wpAny _ A.in1 (ret Value.none) _ _ s';exact wpAny_pure (hR s' (hm.mono hup) (mv i (le_refl _) hm hS))
 | succ k ih=>
  intro i s hk hi hst hkey hS hR;have hlt:i<n:=by omega
  refine codeAny_builtin PyProof.Rows.F.entry_set_update_loop ?_;rw[Around.under_plainId PyProof.Rows.F.plain_set_update_loop _];show wpAny _ A.in1 (pyNext (.ref I) >>= _) _ _ s;refine wpAny_bind (W.item i s _ _ hlt hst fun v s1 hP hst1 hm=>?_);obtain rfl:=hval i v hP;have hS1:=mv i hi hm hS;have hkey1:∀ i,i<n->IsTupleKey (ik prog w) s1.heap (km i).2 (km i).1:=fun i hi=>by
   obtain⟨o',items,m',ho',x⟩:=hkey i hi;exact⟨o',items,m',hm.heap _ o' (fun hw=>hnw i hi (mem_cons_of_mem _ hw)) ho',x⟩
  show wpAny _ A.in1 (holding [Value.ref (km i).1] (setAdd S (.ref (km i).1)) >>= _) _ _ s1;refine wpAny_bind (wpAny_holding ?_);unfold setAdd;refine wpAny_holding (wpAny_bind (wpAny_pyHash_tuple hu (hkey1 i hlt) ?_));refine Ow (s:={s1 with toks:=s1.toks+((km i).2.length+1)}) hu hS1 (hkey1 i hlt) (lt_of_le_of_lt (met_len km i) (by omega)) fun h' r hsb hS2=>?_
  rw[<-lG]at hS2;have hoff:∀ b o,b≠S->s1.heap.get? b=some o->h'.get? b=some o:=fun b o hb e=>(hsb.2 b hb).trans e;refine wpAny_pure ⟨plainId_quiet PyProof.Rows.F.plain_set_update_loop _,ih (i+1) _ (by omega) hlt (W.frame _ s1 h' _ hst1 (Nat.le_add_right _ _) fun b hb o e=>hoff b o (fun hh:b=S=>hSf (hh ▸ hb)) e) (fun i hi=>?_) hS2 fun s2 hm2 hS3=>?_⟩
  ·obtain⟨o',items,m',ho',x⟩:=hkey1 i hi;exact⟨o',items,m',hoff _ o' (fun hh=>hnw i hi (hh ▸ mem_cons_self)) ho',x⟩
  ·refine hR s2 (Moved.trans W.gtrans ((hm.mono hup).then_heap (Nat.le_add_right _ _) fun b o hb e=>?_) hm2) hS3;exact hoff b o (fun hh=>hb (hh ▸ mem_cons_self)) e
theorem tT (a:Value)
  (h:Q1 (.ref s.heap.objs.size) {s with heap:=s.heap.push {cls:=.type "set",dict:=none,data:=.set #[] 0 (.fresh 0 0 (!(w.params.followText "set-order")))}}) :
  codeAny (model prog w) A (.call (.builtin "set.__new__") ⟨[.type "set",a],[]⟩) (wants Q1 E) s:=by
 refine codeAny_of_tree ?_;show wpAny _ A.in1 (checkBuiltinCall "set.__new__" ⟨[.type "set",a],[]⟩ >>= fun _=>again (.builtin "set.__new__" ⟨[.type "set",a],[]⟩)) _ _ s;refine wpAny_bind (wpAny_of_eq (F.newCall_set_1 a) (wpAny_pure ⟨plainId_quiet F.plain_set_new _,codeAny_builtin F.entry_set_new ?_⟩));rw[Around.under_plainId F.plain_set_new _];unfold Builtin.«set.__new__» Builtin.Frozenset.newClass;have hsub:=sub_set_self;obtain⟨hp,g,d,tk,os⟩:=s;dsimp only
 wp_walk
 refine wpAny_askSetting (wpAny_pure ?_);dsimp only;simp only[newObj];refine wpAny_bind (wpAny_alloc (wpAny_pure ?_));exact wpAny_pure h
theorem BA (ho:h.get? a=some {cls:=.type "set",dict:=none,data:=.set #[] 0 (.fresh 0 0 (!(w.params.followText "set-order")))}):dY prog w h a []:=
 ⟨_,#[],0,_,[],ho,⟨rfl,rfl,rfl⟩,rfl,⟨rfl,rfl,.nil,fun q hq=>absurd hq not_mem_nil,rfl,.inl rfl,fun q hq=>absurd hq not_mem_nil⟩,.inl ⟨rfl,by decide⟩,
  ⟨.refl _,fun m hm=>absurd hm not_mem_nil,.nil⟩,rfl,rfl⟩
theorem call_set_tup
  (hh:A.handled=none) (hu:A.units+10<cLine) (hl:s.heap.IsList l items) (hv:∀ (i:Nat) (v:Value),items[i]?=some v->v=.ref (km i).1) (hkey:∀ i,i<items.size->IsTupleKey (ik prog w) s.heap (km i).2 (km i).1) (hn:items.size<=76)
  (h:∀ (h':Heap) (tk:Nat),dY prog w h' s.heap.objs.size (met km items.size)->(∀ b o,b<s.heap.objs.size->s.heap.get? b=some o->h'.get? b=some o)->Q (.ref s.heap.objs.size) {s with heap:=h',toks:=tk}) :
  wpAny (model prog w) A (call (.type "set") [.ref l]) Q E s:=by
 obtain⟨c,tl,hmro⟩:=F.called_set.mro;have hmade:=F.called_set.made;have hsub:=F.called_set.sub;refine wpAny_call (codeAny_of_tree ?_);show wpAny _ _ (callAny (.type "set") _) _ _ _;refine wpAny_pure ⟨Code.quiet_builtin _ (by decide +kernel),codeAny_builtin F.entry_type_call ?_⟩
 rw[Around.under_plain (weight_type_call_type "set" [.ref l] []) rfl];have h1:=F.called_set.notType;have h2:=F.called_set.canCreate;have hct:=F.typeCall_set_1 (.ref l)
 repeat (any_goals (first|assumption|wp_step))
 generalize hob:({cls:=.type "set",dict:=none,data:=.set #[] 0 (.fresh 0 0 (!(w.params.followText "set-order")))}:Obj)=ob;refine codeAny_mono (tT (.ref l) (E:=E) (Q1:=fun v s1=>v=.ref s.heap.objs.size/\s1={s with heap:=s.heap.push ob}) (hob ▸ ⟨rfl,rfl⟩)) fun r s1 hr=>?_
 cases r with
 | error e=>exact hr
 | ok fl=>
  cases fl with
  | ret v=>
   obtain⟨rfl,rfl⟩:=hr;have hS:(s.heap.push ob).get? s.heap.objs.size=some ob:=Heap.get?_push_size _ (by rw[<-hob];rfl)
   have hT:Shared.TypeIs {s with heap:=s.heap.push ob} (.ref s.heap.objs.size) "set":=⟨_,hS,by rw[<-hob]⟩
   have hli:=F.called_set.init.lookup;have hbi:=F.called_set.init.bind (.ref s.heap.objs.size)
   repeat (any_goals (first|assumption|wp_step))
   refine codeAny_mono (codeAny_call_builtin (R:=wants (fun r s2=>r=.none/\∃ h' tk,s2={s with heap:=h',toks:=tk}/\dY prog w h' s.heap.objs.size (met km items.size) ∧
     (∀ b o,b<s.heap.objs.size->s.heap.get? b=some o->h'.get? b=some o)) E) F.called_set.init.plain F.entry_set_init (check_set_init_1 hT ?_)) fun r2 s2 hr2=>?_
   ·obtain⟨ol,hol,hcl,nl,hdl⟩:=id hl;obtain⟨ocls,odict,odata,oslots⟩:=ol;simp only at hcl hdl;subst hcl;subst hdl;have hol':(s.heap.push ob).get? l=some {cls:=.type "list",dict:=odict,data:=.seq items nl,slots:=oslots}:=Heap.get?_push_of_some _ hol;have hsls:=F.sub_list_set;have hslf:=F.sub_list_frozenset;have hne:(Value.type "list" == Value.type "dict")=false:=by decide
    have hl1:(s.heap.push ob).IsList l items:=⟨_,hol',rfl,nl,rfl⟩;subst hob;unfold Builtin.«set.__init__» noKeywords Builtin.Frozenset.updateFrom;generalize hPI:pyIter=PI
    wp_walk
    subst hPI;refine wpAny_pyIter_list hl1 ?_;refine wpAny_bind (wpAny_runValue ?_);generalize hob:({cls:=.type "set",dict:=none,data:=.set #[] 0 (.fresh 0 0 (!(w.params.followText "set-order")))}:Obj)=ob at *;have hlS:l<s.heap.objs.size:=Heap.lt_size hol;have hsz:(s.heap.push ob).objs.size=s.heap.objs.size+1:=by rw[Heap.size_push]
    have hneI:l≠(s.heap.push ob).objs.size:=by rw[hsz];exact ne_of_lt (lt_succ_of_lt hlS)
    have hSf:s.heap.objs.size∉[(s.heap.push ob).objs.size,l]:=by
     rw[hsz];intro hm
     rcases mem_cons.mp hm with e|hm
     ·exact ne_of_lt (lt_succ_self _) e
     ·exact ne_of_gt hlS (mem_singleton.mp hm)
    have off:∀ b:Nat,b<s.heap.objs.size->b∉s.heap.objs.size::[(s.heap.push ob).objs.size]:=fun b hb hm=>by
     rw[hsz]at hm
     rcases mem_cons.mp hm with e|hm
     ·exact ne_of_lt hb e
     ·exact ne_of_lt (lt_succ_of_lt hb) (mem_singleton.mp hm)
    have hnw:∀ i,i<items.size->(km i).1∉s.heap.objs.size::[(s.heap.push ob).objs.size]:=fun i hi=>off _ (by
     obtain⟨o',_,_,ho',_⟩:=hkey i hi;exact Heap.lt_size ho')
    refine EX ((Walks.list (by simp[hh]) _ l hneI items).toS) s.heap.objs.size hSf km hv hnw hn (by show A.units+1+1+1<cLine;omega) (items.size-0) 0 _ (by omega) (zero_le _)
     ⟨⟨_,Heap.get?_push_size _ rfl,rfl,rfl⟩,(hl1.push _)⟩ (fun i hi=>?_) ?_ ?_
    ·obtain⟨o',its',m',ho',x⟩:=hkey i hi;exact⟨o',its',m',Heap.get?_push_of_some _ (Heap.get?_push_of_some _ ho'),x⟩
    ·refine BA ?_;rw[hob];exact Heap.get?_push_of_some _ hS
    ·intro s' hm hS';obtain⟨h',g',d',tk',os'⟩:=s';have eg:g'=s.gens:=hm.gens;have ed:d'=s.drawn:=hm.drawn;have eo:os'=s.os:=hm.os;subst eg;subst ed;subst eo;show wpAny _ _ _ _ _ _;refine wpAny_pure ?_;show wpAny _ _ (ret Value.none) _ _ _;refine wpAny_pure ⟨rfl,h',tk',rfl,hS',fun b o hb e=>?_⟩;exact hm.heap b o (off b hb) (Heap.get?_push_of_some _ (Heap.get?_push_of_some _ e))
   ·cases r2 with
    | error e=>exact hr2
    | ok fl2=>
     cases fl2 with
     | ret r=>
      obtain⟨rfl,h',tk,rfl,hS',hk'⟩:=hr2
      repeat (any_goals (first|assumption|wp_step))
      exact h _ _ hS' hk'
     | _=>exact hr2.elim
  | _=>exact hr.elim
end
end ST
set_option maxHeartbeats 3200000
namespace ST
open PySem PySem.SetTable
theorem pF:∀ (l:List α) (i:Nat) (h:i<l.length),List.Perm (l[i]::l.eraseIdx i) l
 | [],i,h=>by simp at h
 | a::l,0,h=>by simp
 | a::l,i+1,h=>by
  simp only[List.getElem_cons_succ,List.eraseIdx_cons_succ];exact(List.Perm.swap _ _ _).trans (List.Perm.cons a (pF l i (by simpa using h)))
theorem Ax (next:Nat->Nat):∀ (fuel k:Nat) (left:List α) (out:Array α),left.length=fuel->List.Perm (pickOrder.go next fuel k left out).toList (out.toList++left)
 | 0,k,left,out,h=>by
  have:left=[]:=length_eq_zero_iff.mp h;subst this;simp[pickOrder.go]
 | fuel+1,k,left,out,h=>by
  have hi:next k % left.length<left.length:=mod_lt _ (by omega)
  simp only[pickOrder.go,getElem?_eq_getElem hi];refine(Ax next fuel (k+1) _ _ (by rw[List.length_eraseIdx_of_lt hi];omega)).trans ?_
  rw[Array.toList_push,List.append_assoc];exact List.Perm.append_left _ (pF _ _ hi)
theorem Cf (next:Nat->Nat)(xs:Array α):List.Perm (pickOrder next xs).toList xs.toList:=by
 have:=Ax next xs.size 0 xs.toList #[] (by simp)
 simpa [pickOrder] using this
def dh (w:World)(a:Addr)(ep:Nat)(es:Array (Int × Value)):List Value:=
 if w.params.followText "set-order"=true then (pickOrder (w.params.setOrder a ep) es).toList.map (·.2) else es.toList.map (·.2)
theorem tz (w:World)(a:Addr)(ep:Nat)(es:Array (Int × Value)):List.Perm (dh w a ep es) (es.toList.map (·.2)):=by
 unfold dh
 split
 ·exact(Cf _ es).map _
 ·exact .refl _
theorem xU (ris:xs.toList.Pairwise (· < ·)):below xs 0=0:=by
 obtain⟨h1,h2⟩:=lc 0 ris
 rcases Nat.eq_zero_or_pos (below xs 0) with h|h
 ·exact h
 ·have:=(h2 0 (by omega)).mp h
  omega
theorem xT (ris:xs.toList.Pairwise (· < ·))(hi:i<xs.size):below xs (xs[i]+1)=i+1:=by
 obtain⟨h1,h2⟩:=lc (xs[i]+1) ris;have mono:∀ a b (ha:a<xs.size) (hb:b<xs.size),a<b->xs[a]<xs[b]:=fun a b ha hb hab=>by
  have:=pairwise_iff_getElem.mp ris a b (by simpa using ha) (by simpa using hb) hab
  simpa using this
 rcases lt_trichotomy (below xs (xs[i]+1)) (i+1) with h|h|h
 ·have:=(h2 i hi).mpr (by omega)
  omega
 ·exact h
 ·have h3:=(h2 (i+1) (by omega)).mp h
  have:=mono i (i+1) hi (by omega) (by omega)
  omega
theorem eM:Slot "set_iterator" "__next__" "set_iterator.__next__":=
 .of (owner:="set_iterator") (n:="__next__") (by rw[typeLookup_type,builtinLookup_eq_fast];kernel_rfl) (by decide +kernel) (by decide +kernel) (by decide +kernel)
  (by first|exact .inl (by decide +kernel)|exact .inr (by decide +kernel)) (by rw[isSubtype_type];kernel_rfl)
theorem pB:entryFor table "set_iterator.__next__"=some Builtin.«set_iterator.__next__»:=entryFor_of_tree (by kernel_rfl)
theorem sJ:Manifest.owners.lookup (String.ofList ("set_iterator".toList.reverse).reverse)=some Manifest.sig_set_iterator:=by kernel_rfl
theorem qP (a:Value):argsOk "set_iterator.__next__" ⟨[a],[]⟩:=by
 unfold argsOk;rw[signature?_of (id:="set_iterator.__next__") (n:="__next__".toList.reverse) (o:="set_iterator".toList.reverse) (by kernel_rfl) sJ];kernel_rfl
theorem ku:Slot "set_iterator" "__iter__" "set_iterator.__iter__":=
 .of (owner:="set_iterator") (n:="__iter__") (by rw[typeLookup_type,builtinLookup_eq_fast];kernel_rfl) (by decide +kernel) (by decide +kernel) (by decide +kernel)
  (by first|exact .inl (by decide +kernel)|exact .inr (by decide +kernel)) (by rw[isSubtype_type];kernel_rfl)
theorem qO (a:Value):argsOk "set_iterator.__iter__" ⟨[a],[]⟩:=by
 unfold argsOk;rw[signature?_of (id:="set_iterator.__iter__") (n:="__iter__".toList.reverse) (o:="set_iterator".toList.reverse) (by kernel_rfl) sJ];kernel_rfl
theorem pA:entryFor table "set_iterator.__iter__"=some Builtin.«dict_keyiterator.__iter__»:=
 entryFor_alias (id':="dict_keyiterator.__iter__") (by kernel_rfl) (by first | rfl | decide +kernel) (by decide +kernel) (by kernel_rfl)
theorem pz:entryFor table "set.__iter__"=some Builtin.«frozenset.__iter__»:=
 entryFor_alias (id':="frozenset.__iter__") (by kernel_rfl) rfl (by decide +kernel) (by kernel_rfl)
structure kB (w:World) (o:Obj) (es:Array (Int × Value)) (ep:Nat) (t:SetTable):Prop where
 ex:o.ExactSet
 dt:o.data=.set es ep t
 fit:t.fits es.size=true
 ris:t.place.toList.Pairwise (· < ·)
 pl:t.plain=true
 led:t.led=!(w.params.followText "set-order")
def la (h:Heap) (I S:Addr) (sl i n ep:Nat):Prop:=∃ o,h.get? I=some o/\o.cls=.type "set_iterator"/\o.data=.fields #[rawInt sl,rawInt i,.ref S,rawInt n,rawInt ep]
section
variable {prog:Program}{w:World}{A:Around}{E:Value->Shared->Prop}{s:Shared}{o:Obj}{es:Array (Int × Value)}{ep:Nat}{t:SetTable}{S I:Addr}
theorem la.typeIs (x:la s.heap I S sl i n ep):s.TypeIs (.ref I) "set_iterator":=let ⟨o,ho,hc,_⟩:=x;⟨o,ho,hc⟩
theorem la.at (x:la h I S sl i n ep)(e:∀ o,h.get? I=some o->h'.get? I=some o):la h' I S sl i n ep:=let ⟨o,ho,r⟩:=x;⟨o,e _ ho,r⟩
theorem zv (W:kB w o es ep t)(ho:s.heap.get? S=some o)
  (hsl:w.params.followText "set-order"=false->below t.place sl=i)
  (hsome:∀ v sl',(dh w S ep es)[i]?=some v->(w.params.followText "set-order"=false->below t.place sl'=i+1)->Q (some (v,sl')) s) (hnone:(dh w S ep es)[i]?=none->Q none s) :
  wpAny (model prog w) A (setNext S sl i ep) Q E s:=by
 unfold setNext;refine wpAny_bind (wpAny_setState_of ho W.dt W.fit ?_);dsimp only;unfold setsByText;refine wpAny_bind (wpAny_bind (wpAny_askSetting (wpAny_pure ?_)))
 by_cases hb:w.params.followText "set-order"=true
 ·show wpAny _ _ (if w.params.followText "set-order"=true then _ else _) _ _ _
  rw[if_pos hb];rw[if_neg (by simp)]
  unfold setWalk;refine wpAny_bind (wpAny_bind (wpAny_setState_of ho W.dt W.fit ?_));dsimp only;unfold setsByText;refine wpAny_bind (wpAny_bind (wpAny_askSetting (wpAny_pure ?_)));show wpAny _ _ (if w.params.followText "set-order"=true then _ else _) _ _ _
  rw[if_pos hb];refine wpAny_bind (wpAny_askSetting (wpAny_pure ?_));refine wpAny_pure ?_;have ew:dh w S ep es=(pickOrder (w.params.setOrder S ep) es).toList.map (·.2):=by unfold dh;rw[if_pos hb]
  show Q (((pickOrder (w.params.setOrder S ep) es)[i]?).map fun e=>(e.2,sl)) s
  cases hp:(pickOrder (w.params.setOrder S ep) es)[i]? with
  | none=>
   have:=hnone (by rw[ew,getElem?_map,getElem?_toList,hp];rfl)
   exact this
  | some e=>
   have:=hsome e.2 sl (by rw[ew,getElem?_map,getElem?_toList,hp];rfl) (fun h=>by rw[hb]at h;exact nomatch h)
   exact this
 ·have hb':w.params.followText "set-order"=false:=by simpa using hb
  show wpAny _ _ (if w.params.followText "set-order"=true then _ else _) _ _ _
  rw[if_neg hb];show wpAny _ _ (if (!t.plain && decide (es.size>1))=true then _ else _) _ _ _
  rw[if_neg (by simp[W.pl])]
  refine wpAny_bind ?_;show wpAny _ _ (if (!t.led && !es.isEmpty)=true then _ else _) _ _ _
  rw[if_neg (by simp[W.led,hb'])]
  refine wpAny_pure ?_;rw[hsl hb'];refine wpAny_pure ?_;have hps:t.place.size=es.size:=by
   have:=W.fit;simp only[SetTable.fits,Bool.and_eq_true,beq_iff_eq]at this;exact this.1
  have ew:dh w S ep es=es.toList.map (·.2):=by unfold dh;rw[if_neg hb]
  rcases lt_or_ge i es.size with hi|hi
  ·have hi':i<t.place.size:=by rw[hps];exact hi
   have:=hsome es[i].2 (t.place[i]+1) (by rw[ew];simp[hi]) (fun _=>xT W.ris hi')
   simpa [hi,hi'] using this
  ·have:=hnone (by rw[ew];simpa using hi)
   have hi':t.place.size<=i:=by rw[hps];exact hi
   simpa [Array.getElem?_eq_none hi,Array.getElem?_eq_none hi'] using this
theorem nV (hh:A.handled=none)(W:kB w o es ep t)(ho:s.heap.get? S=some o)(hne:S≠I)
  (hit:la s.heap I S sl i es.size ep) (hsl:w.params.followText "set-order"=false->below t.place sl=i)
  (hsome:∀ v sl' h',(dh w S ep es)[i]?=some v->la h' I S sl' (i+1) es.size ep->(w.params.followText "set-order"=false->below t.place sl'=i+1)->Heap.ExtBut I s.heap h'->Q (some v) {s with heap:=h'})
  (hnone:∀ h',(dh w S ep es)[i]?=none->Heap.ExtBut I s.heap h'->Q none {s with heap:=h'}) :
  wpAny (model prog w) A (pyNext (.ref I)) Q E s:=by
 obtain⟨oI,hoI,hcI,hdI⟩:=id hit;unfold pyNext;refine wpAny_bind (wpAny_attempt (wpAny_callSpecial?_slot (name:=Str.ofString "__next__") hit.typeIs eM
  (wpAny_call_entry eM hit.typeIs pB ?_ (qP _))))
 unfold Builtin.«set_iterator.__next__»;refine wpAny_bind (wpAny_of_eq (a:=(Value.ref I,[])) rfl ?_);refine wpAny_bind (wpAny_fieldsOf hoI hdI ?_);simp only[rawInt,List.toList_toArray];refine wpAny_bind (wpAny_setEntries_of ho W.dt W.fit ?_);rw[if_neg (by simp)]
 simp only[toNat_natCast];have hlI:∀ {h':Heap},Heap.SameBut I s.heap h'->h'.get? S=some o:=fun hs=>(hs.2 S hne).trans ho;refine wpAny_bind (zv W ho hsl (fun v sl' hv hsl'=>?_) (fun hv=>?_))
 ·dsimp only;refine wpAny_bind (wpAny_setField hoI hdI (by simp) ?_)
  have g1:=Heap.get?_update_self (Obj.mapFields (·.setIfInBounds 0 (Value.int (sl':Int) 0))) hoI (Obj.isFreed_of_fields (Obj.data_mapFields hdI _));have d1:=Obj.data_mapFields hdI (·.setIfInBounds 0 (Value.int (sl':Int) 0));refine wpAny_bind (wpAny_setField (s:={s with heap:=s.heap.update I (Obj.mapFields (·.setIfInBounds 0 (Value.int (sl':Int) 0)))}) g1 d1 (by simp) ?_)
  refine wpAny_pure ⟨v,rfl,wpAny_pure (hsome v sl' _ hv ?_ hsl' ((Heap.SameBut.update ..).trans (Heap.SameBut.update ..)).extBut)⟩;refine⟨_,Heap.get?_update_self _ g1 (Obj.isFreed_of_fields (Obj.data_mapFields d1 _)),(Obj.cls_mapFields ..).trans ((Obj.cls_mapFields ..).trans hcI),?_⟩;rw[Obj.data_mapFields d1];simp[rawInt]
 ·dsimp only;refine wpAny_bind (wpAny_setField hoI hdI (by simp) ?_)
  show wpAny _ _ (newExc (.type "StopIteration") [] >>= _) _ _ _;refine wpAny_bind ?_;simp only[newExc,newTuple];refine wpAny_bind (wpAny_newObj_type ?_ (by size_fits))
  refine wpAny_bind (m:=firstArgMember _ _) (wpAny_of_eq (a:=Value.none) (by first|rfl|(simp only[firstArgMember];rfl)) ?_)
  refine wpAny_newObj_type ?_ (by size_fits)
  simp only[raiseNew];refine wpAny_bind (wpAny_handled ?_);rw[show A.in1.handled=none from hh];refine wpAny_bind (wpAny_pure (wpAny_throw ?_));refine wpAny_bind (wpAny_isInstance (T:="StopIteration") (b:=true) ⟨_,Heap.get?_push_size _ rfl,rfl⟩ isSubtype_stop ?_);exact wpAny_pure (hnone _ hv (((Heap.SameBut.update ..).extBut.push _).push _))
theorem xD (hit:la s.heap I S sl i n ep)(h:Q (.ref I) s):wpAny (model prog w) A (pyIter (.ref I)) Q E s:=by
 refine wpAny_pyIter_slot hit.typeIs ku (wpAny_call_entry ku hit.typeIs pA ?_ (qO _));show wpAny _ _ (ret (.ref I)) _ _ s;exact wpAny_pure ⟨_,rfl,"set_iterator",_,hit.typeIs,eM.lookup,h⟩
theorem qH (W:kB w o es ep t):(dh w S ep es).length=es.size:=by
 rw[(tz w S ep es).length_eq,length_map,length_toList]
theorem Cu (hh:A.handled=none)(W:kB w o es ep t)(hne:S≠I) :
  Walks prog w A I [I,S] [I] es.size (fun i v=>(dh w S ep es)[i]?=some v)
   (fun i h=>∃ sl,la h I S sl i es.size ep/\(w.params.followText "set-order"=false->below t.place sl=i)/\h.get? S=some o) where
 sub:=fun b hb=>by simp at hb;simp[hb]
 frame:=fun _ _ _ ⟨sl,x1,x2,x3⟩ hk=>⟨sl,x1.at fun o e=>hk I (by simp) o e,x2,hk S (by simp) _ x3⟩
 item:=fun i s Q E hi ⟨sl,x1,x2,x3⟩ hQ=>by
  refine nV hh W x3 hne x1 x2 (fun v sl' h' hv hit' hsl' he=>?_) (fun h' hv=>?_)
  ·exact hQ v h' s.toks hv ⟨sl',hit',hsl',he S o hne x3⟩ fun b o' hb e=>he b o' (fun h=>hb (by simp[h])) e
  ·rw[List.getElem?_eq_none_iff,qH W]at hv;omega
 done:=fun s Q E ⟨sl,x1,x2,x3⟩ hQ=>by
  refine nV hh W x3 hne x1 x2 (fun v sl' h' hv hit' hsl' he=>?_) (fun h' hv he=>?_)
  ·have:=List.getElem?_eq_some_iff.mp hv;obtain⟨h1,_⟩:=this;rw[qH W]at h1;omega
  ·exact hQ h' s.toks fun b o' hb e=>he b o' (fun h=>hb (by simp[h])) e
 self:=fun _ _ _ _ ⟨_,x1,_⟩ hQ=>xD x1 hQ
theorem xC (W:kB w o es ep t)(ho:s.heap.get? S=some o)
  (hQ:Q (.ref s.heap.objs.size) {s with heap:=s.heap.push {cls:=.type "set_iterator",data:=.fields #[rawInt (0:Nat),rawInt (0:Nat),.ref S,rawInt es.size,rawInt ep]}}) :
  wpAny (model prog w) A (pyIter (.ref S)) Q E s:=by
 have hT:s.TypeIs (.ref S) "set":=⟨o,ho,W.ex.1⟩;refine wpAny_pyIter_slot hT F.slot_set_iter (wpAny_call_entry F.slot_set_iter hT pz ?_ (F.args_set_iter_1 _));unfold Builtin.«frozenset.__iter__» Builtin.Frozenset.slot0 slotArgs;simp only[List.isEmpty_nil,Bool.not_true,Bool.false_eq_true,↓reduceIte,bind_assoc,length_nil,bne_self_eq_false];unfold Builtin.Frozenset.addrOf Builtin.Frozenset.sizeOf;refine wpAny_bind (wpAny_pure ?_)
 try dsimp only
 refine wpAny_bind (wpAny_pure ?_);refine wpAny_bind (wpAny_bind (wpAny_setEntries_of ho W.dt W.fit (wpAny_pure ?_)));unfold setDrawn setsByText;refine wpAny_bind (wpAny_bind (wpAny_setState_of ho W.dt W.fit ?_));dsimp only;refine wpAny_bind (wpAny_bind (wpAny_askSetting (wpAny_pure ?_)));refine wpAny_pure ?_;show wpAny _ _ (if (!(w.params.followText "set-order") && (!t.plain && decide (es.size>1)))=true then _ else _) _ _ _
 rw[if_neg (by simp[W.pl])]
 refine wpAny_bind (wpAny_pure ?_);refine wpAny_bind (wpAny_setEpoch_of ho W.dt W.fit ?_);exact wpAny_bind (wpAny_newObj_type (wpAny_pure ⟨_,rfl,"set_iterator",_,⟨_,Heap.get?_push_size _ rfl,rfl⟩,eM.lookup,hQ⟩))
end
end ST
namespace ST
open PySem PySem.W PyProof.Rows
section
variable (O:KeyOrd) (key:Nat->O.α) (n:Nat)
def c0 (i j:Nat)(C:Bool->Shared->Prop)(s:Shared):Prop:=i<n/\j<n/\C (O.blt (key i) (key j)) s
def Rk (p:Array Nat)(k:Nat):O.α:=key (p.getD k 0)
def zB (p:Array Nat):Prop:=∀ k,p.getD k 0<n
def bT (p:Array Nat)(m:Nat):Prop:=∀ i j,i<=j->j<m->O.kle (Rk O key p i) (Rk O key p j)
variable {O key n}
variable {s:Shared}
theorem lB {p q:Array Nat}{i j:Nat}(h:p[i]?=q[j]?):p.getD i 0=q.getD j 0:=by
 rw[getD_eq_getD_getElem?,getD_eq_getD_getElem?,h]
theorem GW (hn:0<n)(h:∀ x∈p.toList,x<n):zB n p:=fun k=>by
 rw[getD_eq_getD_getElem?]
 cases e:p[k]? with
 | none=>simpa using hn
 | some x=>
  obtain⟨hk,rfl⟩:=Array.getElem?_eq_some_iff.mp e;exact h _ (by simp)
theorem yX {p:Array Nat}{i j:Nat}(hj:j<=p.size)(k:Nat):Rk O key (kas_rev p i j) k=if i<=k/\k<j then Rk O key p (i+j-1-k) else Rk O key p k:=by
 have e:=getElem?_mirror_all (i:=i) hj k;unfold Rk kas_rev
 by_cases h1:i<=k/\k<j
 ·rw[if_pos h1]at e ⊢;rw[lB e]
 ·rw[if_neg h1]at e ⊢;rw[lB e]
theorem GN {p:Array Nat}{src d:Nat}(hs:src<p.size)(hd:d<=src)(k:Nat) :
  Rk O key (bubble p src d) k=if k=src-d then Rk O key p src else if src-d<k/\k<=src then Rk O key p (k-1) else Rk O key p k:=by
 have e:=getElem?_bubble hs d hd k;unfold Rk
 by_cases h1:k=src-d
 ·rw[if_pos h1]at e ⊢;rw[lB e]
 ·rw[if_neg h1]at e ⊢
  by_cases h2:src-d<k/\k<=src
  ·rw[if_pos h2]at e ⊢;rw[lB e]
  ·rw[if_neg h2]at e ⊢;rw[lB e]
theorem xP:∀ (f m:Nat) (p:Array Nat),zB n p->1<=m →
  (∀ m',m<=m'->m'<=m+f->(∀ k,m<=k->k<m'->O.kle (Rk O key p (k-1)) (Rk O key p k))->(m'<m+f->O.klt (Rk O key p m') (Rk O key p (m'-1)))->Q m' s) →
  (kas_asc p f m).kasWp (c0 O key n) Q s
 | 0,m,p,hs,h1,h=>h m (le_refl _) (by omega) (fun k _ _=>by omega) (fun _=>by omega)
 | f+1,m,p,hs,h1,h=>by
  refine⟨hs _,hs _,?_⟩
  cases hb:O.blt (key (p.getD m 0)) (key (p.getD (m-1) 0)) with
  | true=>
   simp only[if_true];exact h m (le_refl _) (by omega) (fun k _ _=>by omega) (fun _=>hb)
  | false=>
   simp only[Bool.false_eq_true,if_false];refine xP f (m+1) p hs (by omega) fun m' a1 a2 a3 a4=>h m' (by omega) (by omega) (fun k b1 b2=>?_) (fun hlt=>a4 (by omega))
   rcases lt_or_ge m k with hk|hk
   ·exact a3 k hk b2
   ·have:k=m:=by omega
    subst this;exact hb
structure OP (p:Array Nat) (m q:Nat):Prop where
 ni:∀ i j,i<=j->j<m->O.kle (Rk O key p j) (Rk O key p i)
 eq:∀ k,m-(q+1)<=k->k<m->Rk O key p k=Rk O key p (m-1)
 le:q+1<=m
theorem mO (hj:j<=p.size)(heq:∀ k,i<=k->k<j->Rk O key p k=Rk O key p (j-1))(k:Nat):Rk O key (kas_rev p i j) k=Rk O key p k:=by
 rw[yX hj]
 split
 ·rw[heq _ (by omega) (by omega),heq k (by omega) (by omega)]
 ·rfl
theorem eA (hn:0<n)(h:q.Perm p)(hp:∀ x∈p.toList,x<n):zB n q:=
 GW hn fun x hx=>hp x ((Array.perm_iff_toList_perm.mp h).mem_iff.mp hx)
theorem gY (D:∀ i j,i<=j->j<m->O.kle (Rk O key p j) (Rk O key p i))(h1:1<=m)(hl:O.kle (Rk O key p m) (Rk O key p (m-1))) :
  ∀ i j,i<=j->j<m+1->O.kle (Rk O key p j) (Rk O key p i):=fun i j hij hj=>by
 rcases lt_or_ge j m with h|h
 ·exact D i j hij h
 ·have:j=m:=by omega
  subst this
  rcases lt_or_ge i j with h'|h'
  ·exact KeyOrd.kle_trans hl (D i (j-1) (by omega) (by omega))
  ·have:i=j:=by omega
   subst this;exact KeyOrd.kle_refl _
theorem oh (hn:0<n)(h0:∀ x∈p0.toList,x<n):∀ (f:Nat) (p:Array Nat) (m q:Nat),p.Perm p0->OP (O:=O) (key:=key) p m q->m+f<=p0.size →
  (∀ p' m' q',p'.Perm p0->m<=m'->m'<=m+f->OP (O:=O) (key:=key) p' m' q'->Q (p',m',q') s) →
  (kas_desc f p m q).kasWp (c0 O key n) Q s
 | 0,p,m,q,hp,D,hf,h=>h p m q hp (le_refl _) (by omega) D
 | f+1,p,m,q,hp,D,hf,h=>by
  have hsm:=eA hn hp h0;have hsz:p.size=p0.size:=hp.size_eq;have hm1:1<=m:=by have:=D.le;omega
  refine⟨hsm _,hsm _,?_⟩
  cases hb:O.blt (key (p.getD m 0)) (key (p.getD (m-1) 0)) with
  | true=>
   simp only[if_true];have hlt:O.klt (Rk O key p m) (Rk O key p (m-1)):=hb
   split
   ·have hr:∀ k,Rk O key (kas_rev p (m-(q+1)) m) k=Rk O key p k:=mO (by omega) D.eq
    refine oh hn h0 f _ (m+1) 0 ((mirror_perm ..).trans hp) ⟨fun i j hij hj=>?_,fun k b1 b2=>?_,by omega⟩ (by omega) fun p' m' q' a1 a2 a3 a4=>h p' m' q' a1 (by omega) (by omega) a4
    ·rw[hr,hr];exact gY D.ni hm1 (KeyOrd.kle_of_klt hlt) i j hij hj
    ·have:k=m+1-1:=by omega
     rw[this]
   ·refine oh hn h0 f p (m+1) 0 hp ⟨gY D.ni hm1 (KeyOrd.kle_of_klt hlt),fun k b1 b2=>?_,by omega⟩ (by omega) fun p' m' q' a1 a2 a3 a4=>h p' m' q' a1 (by omega) (by omega) a4
    have:k=m+1-1:=by omega
    rw[this]
  | false=>
   simp only[Bool.false_eq_true,if_false];refine⟨hsm _,hsm _,?_⟩
   cases hd:O.blt (key (p.getD (m-1) 0)) (key (p.getD m 0)) with
   | true=>
    simp only[if_true];exact h p m q hp (le_refl _) (by omega) D
   | false=>
    simp only[Bool.false_eq_true,if_false];have he:Rk O key p m=Rk O key p (m-1):=O.total _ _ hb hd;refine oh hn h0 f p (m+1) (q+1) hp ⟨gY D.ni hm1 (by rw[he];exact KeyOrd.kle_refl _),fun k b1 b2=>?_,by have:=D.le;omega⟩ (by omega) fun p' m' q' a1 a2 a3 a4=>h p' m' q' a1 (by omega) (by omega) a4
    rw[Nat.add_sub_cancel,he]
    rcases lt_or_ge k m with hk|hk
    ·exact D.eq k (by omega) hk
    ·have:k=m:=by omega
     subst this;exact he
theorem o7 (h1:1<=m)(hs:bT O key p m)(ha:∀ k,m<=k->k<m'->O.kle (Rk O key p (k-1)) (Rk O key p k)):bT O key p m':=by
 intro i j hij hj
 induction j with
 | zero=>
      have:i=0:=by omega
      subst this;exact KeyOrd.kle_refl _
 | succ j ih=>
  rcases lt_or_ge (j+1) m with h|h
  ·exact hs i (j+1) hij h
  ·rcases lt_or_ge i (j+1) with h'|h'
   ·exact KeyOrd.kle_trans (ih (by omega) (by omega)) (ha (j+1) h hj)
   ·have:i=j+1:=by omega
    subst this;exact KeyOrd.kle_refl _
theorem AO (hn:0<n)(h0:∀ x∈p0.toList,x<n)(hp:p.Perm p0)(h1:1<=m)(hm:m<=nrem)(hr:nrem<=p0.size)
  (hD:∀ i j,i<=j->j<m->O.kle (Rk O key p j) (Rk O key p i)) (h:∀ m' p',p'.Perm p0->1<=m'->m'<=nrem->bT O key p' m'->Q (m',p') s):(kas_tail3 m nrem p).kasWp (c0 O key n) Q s:=by
 have hsz:p.size=p0.size:=hp.size_eq;have hp':(kas_rev p 0 m).Perm p0:=(mirror_perm ..).trans hp;unfold kas_tail3;rw[KasT.kasWp_bind];refine xP _ _ _ (eA hn hp' h0) h1 fun m' a1 a2 a3 _=>h m' _ hp' (by omega) (by omega) (o7 h1 ?_ a3)
 intro i j hij hj;rw[yX (by omega),yX (by omega),if_pos (by omega),if_pos (by omega)]
 exact hD _ _ (by omega) (by omega)
theorem nH (hn:0<n)(h0:∀ x∈p0.toList,x<n)(hp:p.Perm p0)(h1:1<=m)(hm:m<nrem)(hr:nrem<=p0.size)
  (hD:∀ i j,i<=j->j<m+1->O.kle (Rk O key p j) (Rk O key p i)) (h:∀ m' p',p'.Perm p0->1<=m'->m'<=nrem->bT O key p' m'->Q (m',p') s):(kas_descPart m nrem p).kasWp (c0 O key n) Q s:=by
 unfold kas_descPart;rw[KasT.kasWp_bind];refine oh hn h0 _ p (m+1) 0 hp ⟨hD,fun k b1 b2=>by rw[show k=m+1-1 by omega],by omega⟩ (by omega) fun p' m' q' a1 a2 a3 D=>?_
 have hsz:p'.size=p0.size:=a1.size_eq;dsimp only
 split
 ·have hrv:∀ k,Rk O key (kas_rev p' (m'-(q'+1)) m') k=Rk O key p' k:=mO (by omega) D.eq
  exact AO hn h0 ((mirror_perm ..).trans a1) (by omega) (by omega) hr (fun i j hij hj=>by rw[hrv,hrv];exact D.ni i j hij hj) h
 ·exact AO hn h0 a1 (by omega) (by omega) hr D.ni h
theorem De (hn:0<n)(h0:∀ x∈p0.toList,x<n)(h1:1<=nrem)(hr:nrem<=p0.size)
  (h:∀ m' p',p'.Perm p0->1<=m'->m'<=nrem->bT O key p' m'->Q (m',p') s):(kas_count nrem p0).kasWp (c0 O key n) Q s:=by
 unfold kas_count;rw[KasT.kasWp_bind];refine xP _ _ _ (eA hn (Array.Perm.refl _) h0) (le_refl _) fun m a1 a2 a3 a4=>?_;have hso:bT O key p0 m:=o7 (m:=1) (le_refl _) (fun i j hij hj=>by
  have:i=j:=by omega
  subst this;exact KeyOrd.kle_refl _) a3
 by_cases he:m=nrem
 ·rw[if_pos (by simpa using he)]
  exact h m p0 (Array.Perm.refl _) a1 (by omega) hso
 ·rw[if_neg (by simpa using he)]
  have hlt:=a4 (by omega)
  split
  ·refine⟨eA hn (Array.Perm.refl _) h0 _,eA hn (Array.Perm.refl _) h0 _,?_⟩
   cases hb:O.blt (key (p0.getD 0 0)) (key (p0.getD (m-1) 0)) with
   | true=>
    simp only[if_true];exact h m p0 (Array.Perm.refl _) a1 (by omega) hso
   | false=>
    simp only[Bool.false_eq_true,if_false];have hle:O.kle (Rk O key p0 (m-1)) (Rk O key p0 0):=hb;have heq:∀ k,k<m->Rk O key p0 k=Rk O key p0 (m-1):=fun k hk=>
     KeyOrd.kle_antisymm (hso k (m-1) (by omega) (by omega)) (KeyOrd.kle_trans hle (hso 0 k (by omega) hk))
    have hrv:∀ k,Rk O key (kas_rev p0 0 m) k=Rk O key p0 k:=mO (by omega) fun k _ hk=>heq k hk
    refine nH hn h0 (mirror_perm ..) a1 (by omega) hr (fun i j hij hj=>?_) h
    rw[hrv,hrv];refine gY (m:=m) (fun i j hij hj=>?_) a1 (KeyOrd.kle_of_klt hlt) i j hij hj;rw[heq i (by omega),heq j hj];exact KeyOrd.kle_refl _
  ·have hm1:m=1:=by omega
   subst hm1;refine nH hn h0 (Array.Perm.refl _) a1 (by omega) hr (gY (fun i j hij hj=>?_) (le_refl _) (KeyOrd.kle_of_klt hlt)) h
   have:i=j:=by omega
   subst this;exact KeyOrd.kle_refl _
theorem qc (hsm:zB n p)(hso:bT O key p k):∀ (f l r:Nat),l<=r->r<=k->r-l<=f →
  (∀ i,i<l->O.kle (Rk O key p i) (Rk O key p k))->(∀ i,r<=i->i<k->O.klt (Rk O key p k) (Rk O key p i)) →
  (∀ l',l'<=k->(∀ i,i<l'->O.kle (Rk O key p i) (Rk O key p k))->(∀ i,l'<=i->i<k->O.klt (Rk O key p k) (Rk O key p i))->Q l' s) →
  (kas_place p k f l r).kasWp (c0 O key n) Q s
 | 0,l,r,hlr,hrk,hf,h1,h2,h=>by
  have:l=r:=by omega
  subst this;exact h l hrk h1 h2
 | f+1,l,r,hlr,hrk,hf,h1,h2,h=>by
  unfold kas_place
  split
  ·have:l=r:=by omega
   subst this;exact h l hrk h1 h2
  ·refine⟨hsm _,hsm _,?_⟩
   cases hb:O.blt (key (p.getD k 0)) (key (p.getD ((l+r) / 2) 0)) with
   | true=>
    simp only[if_true];refine qc hsm hso f l ((l+r) / 2) (by omega) (by omega) (by omega) h1 (fun i a1 a2=>?_) h
    exact KeyOrd.klt_of_klt_of_kle hb (hso _ _ a1 a2)
   | false=>
    simp only[Bool.false_eq_true,if_false];refine qc hsm hso f ((l+r) / 2+1) r (by omega) hrk (by omega) (fun i a1=>?_) h2 h
    exact KeyOrd.kle_trans (hso i ((l+r) / 2) (by omega) (by omega)) hb
theorem C8 (hn:0<n)(h0:∀ x∈p0.toList,x<n):∀ (f:Nat) (p:Array Nat) (k:Nat),p.Perm p0->k+f=p0.size->bT O key p k →
  (∀ p',p'.Perm p0->bT O key p' p0.size->Q p' s)->(kas_bin f p k).kasWp (c0 O key n) Q s
 | 0,p,k,hp,hk,hso,h=>h p hp (by rw[<-hk];exact hso)
 | f+1,p,k,hp,hk,hso,h=>by
  have hsz:p.size=p0.size:=hp.size_eq;unfold kas_bin;rw[KasT.kasWp_bind];refine qc (eA hn hp h0) hso k 0 k (by omega) (le_refl _) (by omega) (fun i hi=>by omega) (fun i a1 a2=>by omega) fun l hl b1 b2=>?_
  refine C8 hn h0 f _ (k+1) ((bubble_perm ..).trans hp) (by omega) (fun i j hij hj=>?_) h
  rw[GN (by omega) (by omega),GN (by omega) (by omega),show k-(k-l)=l by omega]
  rcases lt_trichotomy i l with hi|hi|hi
  ·rw[if_neg (by omega),if_neg (by omega)]
   split
   ·exact b1 i hi
   ·split
    ·exact hso i (j-1) (by omega) (by omega)
    ·exact hso i j hij (by omega)
  ·rw[if_pos hi]
   split
   ·exact KeyOrd.kle_refl _
   ·rw[if_pos (by omega)]
    exact KeyOrd.kle_of_klt (b2 (j-1) (by omega) (by omega))
  ·rw[if_neg (by omega),if_pos (by omega),if_neg (by omega),if_pos (by omega)]
   exact hso _ _ (by omega) (by omega)
theorem Kp (hn:0<n)(h:∀ p,List.Perm p.toList (List.range n)->bT O key p n->Q p s):(kas_sort n).kasWp (c0 O key n) Q s:=by
 have h0:∀ x∈(List.range n).toArray.toList,x<n:=fun x hx=>by simpa using hx
 have hs0:(List.range n).toArray.size=n:=by simp
 unfold kas_sort;rw[KasT.kasWp_bind];refine De hn h0 hn (by omega) fun m p hp h1 hm hso=>?_
 have fin:∀ p',p'.Perm (List.range n).toArray->bT O key p' n->Q p' s:=fun p' a b=>h p' (by simpa using Array.perm_iff_toList_perm.mp a) b
 dsimp only
 split
 ·refine C8 hn h0 _ p _ hp (by omega) (by rw[show max m 1=m by omega];exact hso) fun p' a b=>fin p' a (by rw[hs0]at b;exact b)
 ·have:m=n:=by omega
  subst this;exact fin p hp hso
end
end ST
set_option maxHeartbeats 3200000
namespace ST
open PySem PySem.W PyProof.Rows
def lexB:List Int->List Int->Bool
 | [],[]=>false
 | [],_::_=>true
 | _::_,[]=>false
 | a::x,b::y=>if a=b then lexB x y else decide (a<b)
theorem lex_irr:∀ a,lexB a a=false
 | []=>rfl
 | a::x=>by simp[lexB,lex_irr x]
theorem lex_trans:∀ a b c,lexB a b=true->lexB b c=true->lexB a c=true
 | [],[],c,h1,h2=>h2
 | [],_::_,[],h1,h2=>by simp[lexB]at h2
 | [],_::_,_::_,h1,h2=>rfl
 | _::_,[],c,h1,h2=>by simp[lexB]at h1
 | _::_,_::_,[],h1,h2=>by simp[lexB]at h2
 | a::x,b::y,c::z,h1,h2=>by
  simp only[lexB]at h1 h2 ⊢
  by_cases e1:a=b
  ·subst e1
   by_cases e2:a=c
   ·subst e2;simp only[if_true]at h1 h2 ⊢;exact lex_trans x y z h1 h2
   ·simp only[if_true,e2,if_false]at h1 h2 ⊢;exact h2
  ·by_cases e2:b=c
   ·subst e2;simp only[e1,if_false,if_true]at h1 h2 ⊢;exact h1
   ·simp only[e1,e2,if_false,decide_eq_true_eq]at h1 h2 ⊢;have:a≠c:=by omega
    simp only[this,if_false,decide_eq_true_eq];omega
theorem Al:∀ a b c,lexB a c=true->lexB a b=true\/lexB b c=true
 | [],[],c,h=>.inr h
 | [],_::_,c,h=>.inl rfl
 | _::_,b,[],h=>by simp[lexB]at h
 | _::_,[],_::_,h=>.inr rfl
 | a::x,b::y,c::z,h=>by
  simp only[lexB]at h ⊢
  by_cases e1:a=b
  ·subst e1
   by_cases e2:a=c
   ·subst e2;simp only[if_true]at h ⊢;exact Al x y z h
   ·simp only[e2,if_false]at h ⊢;exact .inr h
  ·by_cases e2:b=c
   ·subst e2;simp only[e1,if_false]at h ⊢;exact .inl h
   ·simp only[e1,e2,if_false,decide_eq_true_eq]at h ⊢
    by_cases e3:a=c
    ·subst e3;omega
    ·simp only[e3,if_false,decide_eq_true_eq]at h;omega
theorem jE:∀ a b,lexB a b=false->lexB b a=false->a=b
 | [],[],_,_=>rfl
 | [],_::_,h,_=>by simp[lexB]at h
 | _::_,[],_,h=>by simp[lexB]at h
 | a::x,b::y,h1,h2=>by
  simp only[lexB]at h1 h2
  by_cases e:a=b
  ·subst e;simp only[if_true]at h1 h2;rw[jE x y h1 h2]
  ·have e':b≠a:=fun h=>e h.symm;simp only[e,e',if_false,decide_eq_false_iff_not]at h1 h2;omega
def Ja:KeyOrd:=⟨List Int,lexB,lex_irr,lex_trans,Al,jE⟩
theorem wp_at (hc:∀ i j C,i<n->j<n->C (O.blt (key i) (key j)) s->c' i j C s) :
  ∀ t:KasT α,t.kasWp (c0 O key n) Q s->t.kasWp c' Q s
 | .ret a,h=>h
 | .ask i j k,⟨h1,h2,h3⟩=>hc i j _ h1 h2 (wp_at hc (k _) h3)
section
variable {prog:Program}{w:World}{A:Around}{E:Value->Shared->Prop}{s:Shared}
theorem EM:∀ (ks ls:List Int) (xs ys:List Value) (i:Nat),ItemsAre (ik prog w) ks xs->ItemsAre (ik prog w) ls ys->ks.length=ls.length->Q (lexB ks ls) s →
  KatLex prog w A b false Q (xs.zip ys) i s
 | _,_,_,_,i,.nil,.nil,_,h=>h
 | _,_,_,_,i,.nil,.cons _ _,e,h=>by simp at e
 | _,_,_,_,i,.cons _ _,.nil,e,h=>by simp at e
 | _,_,_,_,i,.cons (k:=k) (v:=v) (ks:=ks) (vs:=vs) h1 h2,.cons (k:=k') (v:=v') (ks:=ks') (vs:=vs') h3 h4,e,h=>by
  obtain⟨t,rfl⟩:=Value.isInt_shape h1;obtain⟨t',rfl⟩:=Value.isInt_shape h3;refine kat_cons (wpAny_eqBool_int ?_)
  by_cases hk:k=k'
  ·subst hk;rw[beq_self_eq_true];refine kat_yes (EM ks ks' vs vs' (i+1) h2 h4 (by simpa using e) ?_)
   simpa [lexB] using h
  ·rw[beq_eq_false_iff_ne.mpr hk];refine kat_no ?_;have h':Q (decide (k<k')) s:=by simpa [lexB,hk] using h
   cases hb:(b && i == 0) with
   | true=>exact oneLt_int h'
   | false=>exact kat_one _ _ (wpAny_lt_int h')
theorem AR:∀ (vs:List Value) (km:Nat->Addr × List Int),(∀ i,i<vs.length->vs.getD i Value.none=.ref (km i).1/\IsTupleKey (ik prog w) h (km i).2 (km i).1/\0<(km i).2.length) →
  ∃ fs,KatTups h vs fs/\fs.length=vs.length/\∀ v∈fs,∃ k t,v=Value.int k t
 | [],km,_=>⟨[],.nil,rfl,fun v hv=>absurd hv not_mem_nil⟩
 | v::vs,km,hk=>by
  obtain⟨fs,h1,h2,h3⟩:=AR vs (fun i=>km (i+1)) fun i hi=>by
   have:=hk (i+1) (by simpa using hi)
   simpa using this
  obtain⟨e,⟨o,items,m,ho,hc,hd,hi⟩,hpos⟩:=hk 0 (by simp)
  have ev:v=.ref (km 0).1:=by simpa using e
  subst ev;generalize (km 0).2=kk at hi hpos;obtain⟨k,t,rest,hit⟩:∃ k t rest,items.toList=Value.int k t::rest:=by
   generalize items.toList=il at hi
   cases hi with
   | nil=>simp at hpos
   | @cons k v _ vs' h1 _=>
    obtain⟨t,rfl⟩:=Value.isInt_shape h1;exact⟨k,t,vs',rfl⟩
  refine⟨Value.int k t::fs,.cons ho hc hd (f:=Value.int k t) ?_ h1,by simp[h2],fun u hu=>?_⟩
  ·rw[<-getElem?_toList,hit];rfl
  ·rcases mem_cons.mp hu with rfl|hu
   ·exact⟨k,t,rfl⟩
   ·exact h3 u hu
theorem Cb:∀ vs:List Value,vs.length<2->(vs.toArray.zip vs.toArray).map (·.2)=((List.range vs.length).toArray.toList.map fun i=>vs.getD i Value.none).toArray
 | [],_=>by simp
 | [v],_=>by simp[range_succ]
 | _::_::_,h=>absurd h (by simp only[length_cons];omega)
theorem xo (ho:s.heap.get? a=some (seqObj "list" vs.toArray n)) (h64:vs.length<64) (hT2:(T == T)=true)
  (hT:∀ h3:Heap,(∀ b o,b≠a->s.heap.get? b=some o->h3.get? b=some o)->∃ fs,KatTups h3 vs fs/\fs.length=vs.length/\∀ v∈fs,Looks (model prog w) h3 (typeOf v) T)
  (hc:∀ h3:Heap,(∀ b o,b≠a->s.heap.get? b=some o->h3.get? b=some o)->∀ i j (C:Bool->Shared->Prop),i<vs.length->j<vs.length->C (O.blt (key i) (key j)) {s with heap:=h3}->wpAny (model prog w) A (keyLt' (tuples' (T != Value.type "tuple")) (vs.getD i Value.none) (vs.getD j Value.none)) C (fun _ _=>False) {s with heap:=h3})
  (h:∀ h' (p:Array Nat) e,(∀ b o,b≠a->s.heap.get? b=some o->h'.get? b=some o)->h'.get? a=some (seqObj "list" (p.toList.map fun i=>vs.getD i Value.none).toArray e) →
   List.Perm p.toList (List.range vs.length)->bT O key p vs.length->P (.done (.ret .none)) {s with heap:=h'}) :
  wpAny (model prog w) A (Builtin.«list.sort» ⟨[.ref a],[]⟩) P E s:=by
 have ha:a<s.heap.objs.size:=Heap.lt_size ho;have s1:=Heap.SameBut.update s.heap a (Obj.mapSeq fun _=>(#[]:Array Value));obtain⟨e1,ho1⟩:∃ e1,(s.heap.update a (Obj.mapSeq fun _=>(#[]:Array Value))).get? a=some (seqObj "list" #[] e1):=⟨_,get?_update_seq ho fun _=>#[]⟩;generalize hh3:((s.heap.update a (Obj.mapSeq fun _=>(#[]:Array Value))).push (seqObj "tuple" vs.toArray 0)).push (seqObj "list" #[] 0)=h3;have k3:∀ b o,b≠a->s.heap.get? b=some o->h3.get? b=some o:=fun b o hb e=>by
  rw[<-hh3];exact Heap.get?_push_of_some _ (Heap.get?_push_of_some _ ((s1.2 b hb).trans e))
 have a3:h3.get? a=some (seqObj "list" #[] e1):=by rw[<-hh3];exact Heap.get?_push_of_some _ (Heap.get?_push_of_some _ ho1)
 have fin:∀ p:Array Nat,List.Perm p.toList (List.range vs.length)->bT O key p vs.length->∃ e,
   (h3.update a (Obj.mapSeq fun _=>(p.toList.map fun i=>vs.getD i Value.none).toArray)).get? a=some (seqObj "list" (p.toList.map fun i=>vs.getD i Value.none).toArray e) ∧
   P (.done (.ret .none)) {s with heap:=h3.update a (Obj.mapSeq fun _=>(p.toList.map fun i=>vs.getD i Value.none).toArray)}:=fun p hp hs=>by
  have hg:=get?_update_seq a3 fun _=>(p.toList.map fun i=>vs.getD i Value.none).toArray;exact⟨_,hg,h _ p _ (fun b o hb e=>((Heap.SameBut.update h3 a _).2 b hb).trans (k3 b o hb e)) hg hp hs⟩
 rw[list_sort_plain];refine wpAny_bind (listItems_at ho rfl ?_);refine wpAny_bind (listUpdate_at ho rfl ?_ (by rw[size_toArray,sizeLine_eq];omega) (zero_le _))
 refine wpAny_bind (seqEpoch_at ho1 rfl ?_);refine wpAny_bind (wpAny_newTuple ?_ (by show vs.length<=_;rw[sizeLine_eq];omega))
 refine wpAny_bind (wpAny_newList ?_ (zero_le _));refine wpAny_holding ?_;show wpAny (model prog w) A _ P E {s with heap:=((s.heap.update a (Obj.mapSeq fun _=>(#[]:Array Value))).push (seqObj "tuple" vs.toArray 0)).push (seqObj "list" #[] 0)};rw[hh3];dsimp only
 by_cases h2:vs.toArray.size<2
 ·rw[if_pos h2,if_pos h2];refine wpAny_bind (wpAny_pure ?_);rw[StateT.run_pure];refine wpAny_bind (wpAny_pure ?_);dsimp only;have hout:(arrOf (SortSt.mk' general' (vs.toArray.zip vs.toArray) #[] 7 none)).map (·.2)=((List.range vs.length).toArray.toList.map fun i=>vs.getD i Value.none).toArray:=by
   exact Cb vs (by simpa using h2)
  obtain⟨e,hg,hP⟩:=fin (List.range vs.length).toArray (.refl _) (fun i j hij hj=>by
   have h2':vs.length<2:=by simpa using h2
   have:i=j:=by omega
   subst this;exact KeyOrd.kle_refl _)
  rw[hout];refine wpAny_bind (seqEpoch_at a3 rfl ?_);refine wpAny_bind (listUpdate_at a3 rfl ?_ (zero_le _) (by simp[sizeLine_eq];omega))
  simp only[bne_self_eq_false,Bool.false_eq_true,if_false];exact wpAny_pure hP
 ·rw[if_neg h2,if_neg h2];have h2':2<=vs.length:=by simpa using h2
  obtain⟨fs,t1,t2,t3⟩:=hT h3 k3;refine wpAny_bind (kat_kind (T:=T) t1 (by omega) t3 hT2 ?_)
  refine wpAny_bind (wpAny_mono (kat_run (Q:=fun st' s'=>∃ p:Array Nat,arrOf st'=p.map (kas_item (vs.toArray.zip vs.toArray))/\failedOf st'=none/\s'={s with heap:=h3}/\List.Perm p.toList (List.range vs.length)/\bT O key p vs.length)
   (G:=fun p s'=>s'={s with heap:=h3}/\List.Perm p.toList (List.range vs.length)/\bT O key p vs.length)
   rfl h2' h64 (fun p' st' s' a1 a2 a3 a4=>⟨p',a2,a3,a4⟩) ?_) ?_ fun _ _ e=>e)
  ·exact wp_at (O:=O) (key:=key) (n:=vs.length) (fun i j C hi hj hC=>hc h3 k3 i j C hi hj hC) _ (Kp (by omega) fun p hp hs=>⟨rfl,hp,hs⟩)
  ·rintro⟨⟨⟩,st'⟩ s' ⟨p,har,hf,rfl,hp,hs⟩;dsimp only;obtain⟨e,hg,hP⟩:=fin p hp hs;have hout:=kat_snds (ks:=vs) (vs:=vs) rfl har;rw[hout];refine wpAny_bind (seqEpoch_at a3 rfl ?_);refine wpAny_bind (listUpdate_at a3 rfl ?_ (zero_le _) (by
    rw[size_toArray,length_map,hp.length_eq,length_range,sizeLine_eq];omega))
   rw[hf];simp only[bne_self_eq_false,Bool.false_eq_true,if_false];exact wpAny_pure hP
theorem GX {a:Addr}{n d:Nat}{vs:List Value}{km:Nat->Addr × List Int}{P:PySem.Fin->Shared->Prop} (ho:s.heap.get? a=some (seqObj "list" vs.toArray n)) (h64:vs.length<64) (hd0:0<d)
  (hk:∀ i,i<vs.length->vs.getD i Value.none=.ref (km i).1/\IsTupleKey (ik prog w) s.heap (km i).2 (km i).1/\(km i).2.length=d)
  (h:∀ h' (p:Array Nat) e,(∀ b o,b≠a->s.heap.get? b=some o->h'.get? b=some o)->h'.get? a=some (seqObj "list" (p.toList.map fun i=>vs.getD i Value.none).toArray e) →
   List.Perm p.toList (List.range vs.length)->bT Ja (fun i=>(km i).2) p vs.length->P (.done (.ret .none)) {s with heap:=h'}) :
  wpAny (model prog w) A (Builtin.«list.sort» ⟨[.ref a],[]⟩) P E s:=by
 have up:∀ h3:Heap,(∀ b o,b≠a->s.heap.get? b=some o->h3.get? b=some o)->∀ i,i<vs.length->vs.getD i Value.none=.ref (km i).1/\IsTupleKey (ik prog w) h3 (km i).2 (km i).1/\(km i).2.length=d:=fun h3 k3 i hi=>by
  obtain⟨x1,⟨o',items,m',ho',hc',hd',hi'⟩,x3⟩:=hk i hi;refine⟨x1,⟨o',items,m',k3 _ o' (fun e=>?_) ho',hc',hd',hi'⟩,x3⟩;rw[e,ho]at ho';obtain rfl:=Option.some.inj ho';exact absurd hc' (by simp[seqObj])
 refine xo (O:=Ja) (key:=fun i=>(km i).2) (T:=.type "int") ho h64 (by decide) (fun h3 k3=>?_) (fun h3 k3 i j C hi hj hC=>?_) h
 ·obtain⟨fs,t1,t2,t3⟩:=AR (prog:=prog) (w:=w) (h:=h3) vs km fun i hi=>⟨(up h3 k3 i hi).1,(up h3 k3 i hi).2.1,by rw[(up h3 k3 i hi).2.2];exact hd0⟩
  exact⟨fs,t1,t2,fun v hv=>by
   obtain⟨k,t,rfl⟩:=t3 v hv;exact Looks.of_pure rfl⟩
 ·obtain⟨x1,⟨o1,it1,m1,ho1',hc1,hd1,hi1⟩,x3⟩:=up h3 k3 i hi;obtain⟨y1,⟨o2,it2,m2,ho2',hc2,hd2,hi2⟩,y3⟩:=up h3 k3 j hj;rw[x1,y1];have hsz:decide (it1.size<it2.size)=false:=by
   have e1:=hi1.length;have e2:=hi2.length;simp only[length_toList]at e1 e2;simp only[decide_eq_false_iff_not];omega
  refine kat_lt ho1' hd1 ho2' hd2 ?_;rw[hsz];exact EM _ _ _ _ 0 hi1 hi2 (x3.trans y3.symm) hC
end
end ST
set_option maxHeartbeats 3200000
namespace ST
open PySem PySem.W PyProof.Rows
section
variable {prog:Program}{w:World}{A:Around}{E:Value->Shared->Prop}{s:Shared}{o:Obj}{es:Array (Int × Value)}{ep:Nat}{t:SetTable}{S:Addr}
theorem Eu (hT:s.TypeIs (.ref S) "set") (h:Q false s):wpAny (model prog w) A (Builtin.List.listLengthHint (.ref S)) Q E s:=by
 unfold Builtin.List.listLengthHint;refine wpAny_bind (wpAny_specialOf hT F.slot_set_len.lookup ?_);generalize hid:("set.__len__":String)=id0
 wp_delta
 rw[show splitId id0=some ("set","__len__") from by subst hid;decide +kernel]
 subst hid;refine wpAny_bind (wpAny_isInstance (T:="set") (b:=true) hT sub_set_self ?_);refine wpAny_ite_split (fun hab=>absurd hab (by decide)) (fun _=>?_)
 refine wpAny_ite_split (fun _=>?_) (fun hab=>absurd (by decide +kernel) hab)
 refine wpAny_bind (wpAny_typeOf hT ?_);exact wpAny_pure h
theorem yo {ws:List Value}{acc:Array Value}(h:ItemsOf (fun i v=>ws[i]?=some v) acc ws.length):acc=ws.toArray:=by
 obtain⟨h1,h2⟩:=h;have e:acc.toList=ws:=by
  apply List.ext_getElem?;intro i
  by_cases hi:i<acc.size
  ·have h3:=h2 i acc[i] (Array.getElem?_eq_getElem hi);rw[getElem?_toList,Array.getElem?_eq_getElem hi,h3]
  ·rw[getElem?_eq_none (by simpa using le_of_not_lt hi),getElem?_eq_none (by rw[<-h1];exact le_of_not_lt hi)]
 rw[<-e]
theorem vX {Q:List Value->Shared->Prop}(hh:A.handled=none)(W:kB w o es ep t)(ho:s.heap.get? S=some o)(hz:es.size<=76)
  (h:∀ h' tk,(∀ b o,s.heap.get? b=some o->h'.get? b=some o)->s.heap.objs.size<=h'.objs.size->Q (dh w S ep es) {s with heap:=h',toks:=tk}) :
  wpAny (model prog w) A (collect (.ref S)) Q E s:=by
 have hS0:S<s.heap.objs.size:=Heap.lt_size ho;unfold collect;refine wpAny_bind (wpAny_runValue (codeAny_builtin entry_proto_collect' ?_));show wpAny _ _ (newList [] >>= fun l=>again (.builtin "list.__iadd__" ⟨[l,.ref S],[]⟩)) _ _ s;refine wpAny_bind (wpAny_newList (wpAny_pure ⟨Code.quiet_builtin _ (by decide +kernel),codeAny_builtin entry_list_iadd' ?_⟩))
 show wpAny _ _ (Builtin.List.listExtendWith (.ref s.heap.objs.size) (.ref S) (.ref s.heap.objs.size)) _ _ {s with heap:=s.heap.push (seqObj "list" #[] 0)};have ho1:(s.heap.push (seqObj "list" #[] 0)).get? S=some o:=Heap.get?_push_of_some _ ho;have hT1:Shared.TypeIs {s with heap:=s.heap.push (seqObj "list" #[] 0)} (.ref S) "set":=⟨o,ho1,W.ex.1⟩;unfold Builtin.List.listExtendWith;refine wpAny_bind (wpAny_typeOf hT1 ?_);have b1:Builtin.List.listSameRef (.ref s.heap.objs.size) (.ref S)=false:=by
  have:s.heap.objs.size≠S:=ne_of_gt hS0;simp[Builtin.List.listSameRef,this]
 have b2:(Value.type "set" == Value.type "list")=false:=by decide
 have b3:(Value.type "set" == Value.type "tuple")=false:=by decide
 simp only[b1,b2,b3,Bool.or_false,Bool.false_eq_true,if_false];refine wpAny_bind (xC W ho1 ?_);generalize hio:({cls:=.type "set_iterator",data:=.fields #[rawInt (0:Nat),rawInt (0:Nat),.ref S,rawInt es.size,rawInt ep]}:Obj)=io;have hsz1:(s.heap.push (seqObj "list" #[] 0)).objs.size=s.heap.objs.size+1:=size_push' ..;dsimp only;rw[hsz1];have ho2:((s.heap.push (seqObj "list" #[] 0)).push io).get? S=some o:=Heap.get?_push_of_some _ ho1;refine wpAny_bind (wpAny_holding (Eu ⟨o,ho2,W.ex.1⟩ ?_));refine wpAny_ite_split (fun _=>?_) (fun hab=>absurd (by decide +kernel) hab)
 refine wpAny_bind (wpAny_rule ?_);have hL2:((s.heap.push (seqObj "list" #[] 0)).push io).get? s.heap.objs.size=some (seqObj "list" #[] 0):=Heap.get?_push_of_some _ (Heap.get?_push_size _ rfl);unfold Builtin.List.listTouch;refine wpAny_bind (wpAny_bind (listUpdate_at hL2 rfl ?_ (zero_le _) (by simp[sizeLine_eq])))
 have hL3:=get?_update_seq hL2 (·.push Value.none);refine listUpdate_at (s:={s with heap:=((s.heap.push (seqObj "list" #[] 0)).push io).update s.heap.objs.size (Obj.mapSeq (·.push Value.none))}) hL3 rfl ?_ (by simp[sizeLine_eq]) (by simp[sizeLine_eq])
 have hL4:=get?_update_seq hL3 (·.pop);generalize hh4:(((s.heap.push (seqObj "list" #[] 0)).push io).update s.heap.objs.size (Obj.mapSeq (·.push Value.none))).update s.heap.objs.size (Obj.mapSeq (·.pop))=h4 at hL4 ⊢;obtain⟨c4,hL4⟩:∃ c4,h4.get? s.heap.objs.size=some (seqObj "list" #[] c4):=⟨_,hL4⟩;have k4:∀ b o,b≠s.heap.objs.size->((s.heap.push (seqObj "list" #[] 0)).push io).get? b=some o->h4.get? b=some o:=fun b o hb e=>by
  rw[<-hh4];exact((Heap.SameBut.update _ _ _).2 b hb).trans (((Heap.SameBut.update _ _ _).2 b hb).trans e)
 have hI4:h4.get? (s.heap.objs.size+1)=some io:=k4 _ _ (Nat.succ_ne_self _) (by
  have:=Heap.get?_push_size (s.heap.push (seqObj "list" #[] 0)) (o:=io) (by rw[<-hio];rfl)
  rwa [hsz1]at this)
 have hne:S≠s.heap.objs.size+1:=ne_of_lt (lt_succ_of_lt hS0);have hSf:s.heap.objs.size∉[s.heap.objs.size+1,S]:=fun hm=>by
  rcases mem_cons.mp hm with e|hm
  ·exact ne_of_lt (lt_succ_self _) e
  ·exact ne_of_gt hS0 (mem_singleton.mp hm)
 refine wpAny_pure ⟨plainId_quiet F.plain_extend_loop _,?_⟩;refine codeAny_extend_loopS ((Cu (by simp[hh]) W hne).toS) (by rw[sizeLine_eq];omega) s.heap.objs.size hSf _ es.size 0 _ #[] c4 rfl (zero_le _)
  ⟨0,⟨_,hI4,by rw[<-hio],by rw[<-hio]⟩,fun _=>xU W.ris,k4 S o (ne_of_lt hS0) ho2⟩ hL4 (ItemsOf.nil _) fun s' acc' c' hm hS' hacc=>?_
 have hacc':acc'=(dh w S ep es).toArray:=yo (by rw[qH W];exact hacc)
 subst hacc';have key:∀ b o,s.heap.get? b=some o->s'.heap.get? b=some o:=fun b o e=>by
  have hb:b<s.heap.objs.size:=Heap.lt_size e;refine hm.heap b o (fun hmem=>?_) (k4 b o (ne_of_lt hb) (Heap.get?_push_of_some _ (Heap.get?_push_of_some _ e)))
  rcases mem_cons.mp hmem with e'|hmem
  ·exact ne_of_lt hb e'
  ·exact ne_of_lt (lt_succ_of_lt hb) (mem_singleton.mp hmem)
 rw[Moved.eq_with hm];show wpAny (model prog w) A (load s.heap.objs.size >>= fun o=>match o.data with
   | .seq xs _=>pure xs.toList
   | _=>unsupported "internal:collect") Q E {s with heap:=s'.heap,toks:=s'.toks}
 refine wpAny_bind (wpAny_load hS' ?_);exact wpAny_pure (h s'.heap s'.toks key (Nat.le_of_lt (Heap.lt_size hS')))
theorem perm_lift:∀ (ms:List α) (l:List β),List.Perm l (ms.map f)->∃ ms1,List.Perm ms1 ms/\l=ms1.map f
 | [],l,h=>⟨[],.refl _,by simpa using h⟩
 | m::ms,l,h=>by
  rw[map_cons]at h;obtain⟨l1,l2,rfl⟩:=List.append_of_mem (h.mem_iff.mpr mem_cons_self);have h2:List.Perm (l1++l2) (ms.map f):=List.Perm.cons_inv (a:=f m) (List.perm_middle.symm.trans h);obtain⟨ms1,hp,e⟩:=perm_lift ms _ h2;obtain⟨a,b,rfl,ea,eb⟩:=List.append_eq_map_iff.mp e;refine⟨a++m::b,List.perm_middle.trans (List.Perm.cons m hp),?_⟩;rw[map_append,map_cons,ea,eb]
theorem nO (l:List α)(d:α):(List.range l.length).map (fun i=>l.getD i d)=l:=by
 apply List.ext_getElem?;intro i;rw[getElem?_map]
 rcases lt_or_ge i l.length with h|h
 ·simp[h]
 ·simp[h]
theorem call_sorted_set (hh:A.handled=none)(hS:dY prog w s.heap S ms)(h64:ms.length<64)(hd0:0<d)(hd:∀ m∈ms,m.2.length=d)
  (h:∀ h' tk D e (ns:List (Addr × List Int)),List.Perm ns ms->ns.Pairwise (fun a b=>lexB a.2 b.2=true)->(∀ b o,s.heap.get? b=some o->h'.get? b=some o)->s.heap.objs.size<=D →
   h'.get? D=some (seqObj "list" (ns.map fun m=>Value.ref m.1).toArray e)->Q (.ref D) {s with heap:=h',toks:=tk}) :
  wpAny (model prog w) A (call (.builtin "sorted") [.ref S]) Q E s:=by
 obtain⟨o,es,ep,t,ps,ho,hex,hdt,T,R,H,hpl,hled⟩:=hS;have W:kB w o es ep t:=⟨hex,hdt,T.fits R.le,T.ris',hpl,hled⟩;have hes:es.size=ms.length:=H.len;refine Calls.call_function_entry kind_sorted plain_sorted entry_sorted (args_sorted1 _) ?_;unfold Builtin.«sorted»;refine wpAny_bind (m:=checkCount "sorted" 1 1 _) (wpAny_pure ?_);refine wpAny_bind (vX (by simp[hh]) W ho (by omega) fun h1 tk k1 le1=>?_)
 have hwp:List.Perm (dh w S ep es) (ms.map fun m=>Value.ref m.1):=by
  refine(tz w S ep es).trans ?_;have:=H.pm.map (·.2);rw[map_map]at this;exact this
 obtain⟨ms1,hpm1,ews⟩:∃ ms1:List (Addr × List Int),List.Perm ms1 ms/\dh w S ep es=ms1.map fun m=>Value.ref m.1:=perm_lift ms _ hwp;have hlen1:ms1.length=ms.length:=hpm1.length_eq;rw[ews];refine wpAny_bind (wpAny_newList ?_ (by rw[length_map,sizeLine_eq];omega))
 dsimp only;have hoL:(h1.push (seqObj "list" (ms1.map fun m=>Value.ref m.1).toArray 0)).get? h1.objs.size=some (seqObj "list" (ms1.map fun m=>Value.ref m.1).toArray 0):=Heap.get?_push_size _ rfl;refine wpAny_bind (wpAny_holding (wpAny_call_entry slot_list_sort ⟨_,hoL,rfl⟩ entry_list_sort ?_ (args_list_sort _)));refine GX (s:={s with heap:=h1.push (seqObj "list" (ms1.map fun m=>Value.ref m.1).toArray 0),toks:=tk}) (km:=fun i=>ms1.getD i (0,[])) hoL (by rw[length_map];omega) hd0 (fun i hi=>?_) fun h' p e hk hg hp hs=>?_
 ·have hi':i<ms1.length:=by simpa using hi
  have hm:ms1.getD i (0,[])=ms1[i]:=by simp[hi']
  have hmem:ms1[i]∈ms:=hpm1.mem_iff.mp (getElem_mem hi');dsimp only;rw[hm];refine⟨by simp[hi'],?_,hd _ hmem⟩
  obtain⟨o',its,m',ho',x⟩:=H.key _ hmem;exact⟨o',its,m',Heap.get?_push_of_some _ (k1 _ _ ho'),x⟩
 ·refine⟨_,rfl,wpAny_pure ⟨_,rfl,?_⟩⟩;rw[length_map]at hp hs;have hns:(p.toList.map fun i=>(ms1.map fun m=>Value.ref m.1).getD i Value.none)=(p.toList.map fun i=>ms1.getD i (0,[])).map fun m=>Value.ref m.1:=by
   rw[map_map];refine map_congr_left fun i hi=>?_;have hi':i<ms1.length:=by simpa using hp.mem_iff.mp hi
   simp[hi']
  have hpn:List.Perm (p.toList.map fun i=>ms1.getD i (0,[])) ms1:=by
   have:=hp.map fun i=>ms1.getD i ((0:Addr),([]:List Int))
   rwa [nO]at this
  rw[hns]at hg;refine h h' tk _ e _ (hpn.trans hpm1) ?_ (fun b o e=>hk b o (fun hb=>?_) (Heap.get?_push_of_some _ (k1 b o e))) ?_ hg
  ·have hnd:((p.toList.map fun i=>ms1.getD i ((0:Addr),([]:List Int))).map (·.2)).Nodup:=((hpn.trans hpm1).map (·.2)).nodup_iff.mpr H.nd;have hpl:p.toList.length=ms1.length:=by rw[hp.length_eq,length_range]
   rw[pairwise_iff_getElem];intro i j hi hj hij;rw[length_map]at hi hj;have h1:=hs i j (Nat.le_of_lt hij) (by omega)
   have ei:p.getD i 0=p.toList[i]:=by simp at hi;simp[Array.getD,hi]
   have ej:p.getD j 0=p.toList[j]:=by simp at hj;simp[Array.getD,hj]
   have hne:=pairwise_iff_getElem.mp hnd i j (by simpa using hi) (by simpa using hj) hij
   simp only[getElem_map]at hne ⊢;unfold KeyOrd.kle Rk at h1;rw[ei,ej]at h1
   cases hb:lexB (ms1.getD p.toList[i] (0,[])).2 (ms1.getD p.toList[j] (0,[])).2 with
   | true=>rfl
   | false=>exact absurd (jE _ _ hb h1) hne
  ·exact ne_of_lt (Heap.lt_size (k1 b o e)) hb
  ·exact le1
end
end ST
set_option maxHeartbeats 4000000
namespace DL
open PySem PySem.Spec L2 PyProof.Rows
def refs (km:List (Addr × List Int)):List V:=km.map fun m=>V.ref m.1
def G3 (K:Frg)(te:TE):TE:=fun σ H Q=>te σ H fun x H1=>∃ p d,∃ km:List (Addr × List Int),x=.ref p/\df K H1 p (refs km)/\km.length<=63/\0<d ∧
 (∀ m∈km,j6 K H1 m.1 (m.2.map V.int)/\m.2.length=d) ∧
 ∀ ns:List (Addr × List Int),(∀ m∈ns,m∈km)->(∀ m∈km,m.2∈ns.map (·.2))->(ns.map (·.2)).Nodup->(km.length<=63->ns.Pairwise (fun a b=>ST.lexB a.2 b.2=true))->∀ l,H1 l=none->Q (.ref l) (cM H1 l (.lst (refs ns)))
theorem mN:∀ {km:List (Addr × List Int)}{us:List Value},aO (refs km) us->us=km.map fun m=>Value.ref m.1
 | [],_,.nil=>rfl
 | m::km,_,.cons r t=>by cases r;rw[mN t];rfl
theorem uL:∀ km:List (Addr × List Int),aO (refs km) (km.map fun m=>Value.ref m.1)
 | []=>.nil
 | m::km=>.cons rfl (uL km)
section
variable {X:Cx}{e:Expr}{te:TE}{p1 p2 pos1 pos2:Pos}
theorem pN:∀ {ks:List Int}{us:List Value},aO (ks.map V.int) us->ItemsAre (intKind prog w) ks us
 | [],_,.nil=>.nil
 | k::ks,_,.cons r t=>by obtain⟨tk,rfl⟩:=r;exact .cons (intKind_is _ _ _ _) (pN t)
theorem vA (I:aH X pins σ H s)(h:j6 X.K H a (ks.map V.int)):IsTupleKey (ST.ik X.prog X.w) s.heap ks a:=by
 obtain⟨its,r,⟨o,ho,hc,n,hd⟩,_⟩:=I.tuple h;exact⟨o,its.toArray,n,ho,hc,hd,by simpa using pN r⟩
theorem yT (hr:cb k X.A) (hm1:X.mg "sorted"=none) (hm2:X.mg "set"=none) (hd:X.A.handled=none) (he:PE X e te) (hg1:Gl X "sorted":=by rfl) (hg2:Gl X "set":=by rfl)
  (hs2:starEach [e] X.env=(false,eval e X.env)::starEach [] X.env:=by exact aP rfl) (hs1:starEach [.Call (.Name "set" p2) [e] [] pos2] X.env=(false,eval (.Call (.Name "set" p2) [e] [] pos2) X.env)::starEach [] X.env:=by rfl) :
  PE X (.Call (.Name "sorted" p1) [.Call (.Name "set" p2) [e] [] pos2] [] pos1) (G3 X.K te):=by
 intro pins s σ H Q I h;refine wpAny_Call_Name_kw (jg I hg1 hm1 PyProof.Rows.boot_sorted ?_);refine PyProof.Rows.callWith_builtin1 ?_ hs1;rw[hs1];show wpAny _ _ (spliced ((false,eval (.Call (.Name "set" p2) [e] [] pos2) X.env)::backTo pos1 (starEach [] X.env))) _ _ s;refine Calls.spliced_cons ?_;refine wpAny_Call_Name_kw (jg I hg2 hm2 PyProof.Rows.boot_set ?_);refine PyProof.Rows.callWith_type1 ?_ hs2;rw[hs2];show wpAny _ _ (spliced ((false,eval e X.env)::backTo pos2 (starEach [] X.env))) _ _ s;refine Calls.spliced_cons (cT (he pins s σ H _ I h) fun u s1 ⟨x,H1,I1,r1,q1⟩=>?_);obtain⟨p,d,km,rfl,hq,hlen,hd0,hkm,fin⟩:=q1
 cases r1
 refine Calls.spliced_nil ?_;obtain⟨its,r,pl,hz⟩:=I1.list hq;have eits:=mN r;subst eits;have hsz:((km.map fun m=>Value.ref m.1).toArray).size=km.length:=by simp
 refine ST.call_set_tup (km:=fun i=>km.getD i (0,[])) hd (by have:=hr.units;omega) pl.isList (fun i v hv=>?_) (fun i hi=>?_) (by rw[hsz];omega) fun h2 tk2 hS k2=>?_
 ·rw[List.getElem?_toArray,getElem?_map]at hv
  cases hk:km[i]? with
  | none=>rw[hk]at hv;simp at hv
  | some m=>
   rw[hk]at hv;simp only[getD_eq_getElem?_getD,hk,Option.getD_some];simpa using hv.symm
 ·rw[hsz]at hi;have e1:km.getD i (0,[])=km[i]:=by simp[hi]
  rw[e1];exact vA I1 (hkm _ (getElem_mem hi)).1
 refine Calls.spliced_nil ?_;rw[hsz]at hS;have hmet:∀ m∈ST.met (fun i=>km.getD i (0,[])) km.length,m∈km:=fun m hm=>by
  obtain⟨i,hi,rfl⟩:=ST.met_of _ _ m hm;have e1:km.getD i (0,[])=km[i]:=by simp[hi]
  rw[e1];exact getElem_mem hi
 refine ST.call_sorted_set (s:={s1 with heap:=h2,toks:=tk2}) hd hS (Nat.lt_succ_of_le (le_trans (ST.met_len _ _) hlen)) hd0 (fun m hm=>(hkm m (hmet m hm)).2) fun h3 tk3 D c3 ns hpm hpw k3 le3 hD=>?_;have hnd:(ns.map (·.2)).Nodup:=pairwise_map.mpr (hpw.imp fun h e=>by rw[e,ST.lex_irr]at h;exact nomatch h)
 have keep:∀ b o,s1.heap.get? b=some o->h3.get? b=some o:=fun b o e=>k3 b o (k2 b o (Heap.lt_size e) e);have le:s1.heap.objs.size<=D:=by
  obtain⟨o2,_,_,_,_,ho2,_⟩:=hS;exact le_trans (Nat.le_of_lt (Heap.lt_size ho2)) le3
 have hnl:ns.length<=63:=by rw[hpm.length_eq];exact le_trans (ST.met_len _ _) hlen
 refine⟨.ref D,_,I1.laid (t':=tk3) keep le (show fB X.prog X.w _ h3 _ (.lst (refs ns)) from⟨?_,_,c3,uL ns,hD⟩),rfl,fin ns (fun m hm=>hmet m (hpm.mem_iff.mp hm)) (fun m hm=>?_) hnd (fun _=>hpw) _ (I1.hok.fresh le)⟩
 ·unfold refs;rw[length_map];exact le_trans hnl (by decide)
 ·obtain⟨i,hi,rfl⟩:=getElem_of_mem hm;have h1:=ST.met_has (fun i=>km.getD i (0,[])) km.length i hi;have e1:km.getD i (0,[])=km[i]:=by simp[hi]
  rw[e1]at h1;exact(hpm.map (·.2)).mem_iff.mpr h1
end
def n5 (ks:List Int):T:=.tup (ks.map T.int)
def RV (R:S->Prop)(s:S):Prop:=match items s with
 | some ts=>∃ (d:Nat) (kss:List (List Int)),0<d/\ts=kss.map n5/\(∀ ks∈kss,ks.length=d)/\kss.length<=63 ∧
   ∀ ns:List (List Int),(∀ k∈ns,k∈kss)->(∀ k∈kss,k∈ns)->ns.Nodup->(kss.length<=63->ns.Pairwise (fun a b=>ST.lexB a b=true))->R (.ol (ns.map n5))
 | none=>False
def l8 (we:WE):WE:=fun δ R=>we δ (RV R)
theorem sL:∀ ks:List Int,cL (ks.map T.int)=true
 | []=>rfl
 | k::ks=>by simp only[map_cons,cL,lH,Bool.true_and];exact sL ks
theorem sM:∀ kss:List (List Int),cL (kss.map n5)=true
 | []=>rfl
 | k::kss=>by
  simp only[map_cons,cL,Bool.and_eq_true];exact⟨by unfold n5;simp only[lH];exact sL k,sM kss⟩
theorem gf {K:Frg}{H:Hp}:∀ {ks:List Int}{xs:List V},au K H (ks.map T.int) xs->xs=ks.map V.int
 | [],_,h=>h
 | k::ks,_,⟨x,r,e,p,q⟩=>by subst e;cases p;rw[gf q];rfl
theorem xu {K:Frg}{H:Hp}:∀ {kss:List (List Int)}{xs:List V},au K H (kss.map n5) xs →
  ∃ km:List (Addr × List Int),km.map (·.2)=kss/\xs=refs km/\∀ m∈km,j6 K H m.1 (m.2.map V.int)/\aB K H (n5 m.2) (.ref m.1)
 | [],_,h=>⟨[],rfl,h,fun m hm=>absurd hm not_mem_nil⟩
 | k::kss,_,⟨x,r,e,p,q⟩=>by
  subst e;obtain⟨km,e1,e2,h1⟩:=xu q;obtain⟨a,ys,e3,sq,ty⟩:=id p;subst e3;have e4:=gf ty;subst e4;refine⟨(a,k)::km,by rw[map_cons,e1],by rw[e2];rfl,fun m hm=>?_⟩
  rcases mem_cons.mp hm with rfl|hm
  ·exact⟨sq,p⟩
  ·exact h1 m hm
theorem wI {K:Frg}{H:Hp}:∀ ns:List (Addr × List Int),(∀ m∈ns,aB K H (n5 m.2) (.ref m.1))->au K H ((ns.map (·.2)).map n5) (refs ns)
 | [],_=>rfl
 | m::ns,h=>⟨.ref m.1,refs ns,rfl,h m mem_cons_self,wI ns fun m' hm=>h m' (mem_cons_of_mem _ hm)⟩
section
variable {X:Cx}{e:Expr}{p1 p2 pos1 pos2:Pos}
theorem pd {k:Nat}{we:WE} (hr:cb k X.A) (hm1:X.mg "sorted"=none) (hm2:X.mg "set"=none) (hd:X.A.handled=none) (he:PE X e (av X.K we)) (hg1:Gl X "sorted":=by rfl) (hg2:Gl X "set":=by rfl)
  (hs2:starEach [e] X.env=(false,eval e X.env)::starEach [] X.env:=by exact aP rfl) (hs1:starEach [.Call (.Name "set" p2) [e] [] pos2] X.env=(false,eval (.Call (.Name "set" p2) [e] [] pos2) X.env)::starEach [] X.env:=by rfl) :
  PE X (.Call (.Name "sorted" p1) [.Call (.Name "set" p2) [e] [] pos2] [] pos1) (av X.K (l8 we)):=
 (yT hr hm1 hm2 hd he hg1 hg2 hs2 hs1).imp fun σ H Q ⟨δ,R,F,rl,h,k⟩=>⟨δ,_,F,rl,h,fun v F1 H1 s ex p q=>by
  unfold RV at q
  split at q
  ·rename_i ts hi;obtain⟨a,xs,rfl,sq,tp⟩:=(p.val ex.sub).list ex.sub hi;obtain⟨d,kss,hd0,rfl,hlen,h63,fin⟩:=q;obtain⟨km,e1,e2,h1⟩:=xu tp;subst e2;have hkm:∀ m∈km,m.2∈kss:=fun m hm=>by rw[<-e1];exact mem_map.mpr ⟨m,hm,rfl⟩
   refine⟨a,d,km,rfl,sq,by rw[<-e1,length_map]at h63;exact h63,hd0,fun m hm=>⟨(h1 m hm).1,hlen _ (hkm m hm)⟩,fun ns n1 n2 n4 n3 l hl=>?_⟩
   have e2:=dw.newL (refs ns) ex.sub ex.full hl;have hp:au X.K F1 ((ns.map (·.2)).map n5) (refs ns):=au.full ex.full (sM _) (wI ns fun m hm=>(h1 m (n1 m hm)).2);exact k _ F1 _ (.ol ((ns.map (·.2)).map n5)) (ex.trans e2) ⟨l,refs ns,rfl,aI ex.hh hl,aI ex.sub hl,aX,hp⟩
    (fin _ (fun k hk=>by obtain⟨m,hm,rfl⟩:=mem_map.mp hk;exact hkm m (n1 m hm)) (fun k hk=>by
     rw[<-e1]at hk;obtain⟨m,hm,rfl⟩:=mem_map.mp hk;exact n2 m hm) n4 (fun h=>pairwise_map.mpr (n3 (by rwa [<-e1,length_map]at h))))
  ·exact q.elim⟩
end
theorem AZ (we:WE)(δ:a8)(R:S->Prop):l8 we δ R=we δ (RV R):=rfl
end DL
set_option maxHeartbeats 4000000
namespace DL
open PySem PySem.Spec L2 PyProof.Rows
def MH (i:Nat)(δ:a8)(N:a8->Prop)(ts:List T):S->Prop
 | .ol us=>ts.length+us.length<100000/\N (δ.set i (some (.ol (ts++us))))
 | _=>False
def oF (i:Nat)(we:WE):WS:=fun D δ=>match δ[i]? with
 | some (some (.ol ts))=>we δ (MH i δ D.nx ts)
 | _=>False
theorem CJ:oF i we D δ=pT i δ fun ts=>we δ (MH i δ D.nx ts):=rfl
theorem MI (N:a8->Prop)(ts us:List T):MH i δ N ts (.ol us)=(ts.length+us.length<100000/\N (δ.set i (some (.ol (ts++us))))):=rfl
section
variable {X:Cx}{e:Expr}{we:WE}{pos:Pos}{H₀:Hp}{i:Nat}{x:Str}{p1 p2:Pos}
theorem Bu (he:PE X e (av X.K we)) (hv:PE X (.Name x p1) (xr i):=by exact pv _) (hbase:attributeBase (.Name x p1) "extend" X.env (eval (.Name x p1) X.env)=eval (.Name x p1) X.env:=by rfl)
  (hfew:((backTo pos (starEach [e] X.env)).all (fun x=>!x.1) && (backToKw pos (keywordEach [] X.env)).all (fun x=>x.1.isSome) && decide ([e].length+([]:List Keyword).length+(if ([]:List Keyword).isEmpty then 0 else 1)<30))=true:=by rfl)
  (hline:(p2.endLine == pos.line)=true:=by rfl) (hs:starEach [e] X.env=(false,eval e X.env)::starEach [] X.env:=by rfl) (hplain:(backTo pos (starEach [] X.env)).any (·.1)=false:=by rfl)
  (hsw:swapsWith (.Call (.Attribute (.Name x p1) "extend" p2) [e] [] pos) none pos'.line X.env=pure false:=by rfl) :
  PS X (.Expr (.Call (.Attribute (.Name x p1) "extend" p2) [e] [] pos) pos') (bK X.K H₀ (oF i we)):=
 (oC (K5 PySem.F.plainAttrs_list PySem.F.slot_list_extend PySem.F.type_list_extend BQ hv (oB he uX hs) hbase hfew hline hs hplain) hsw).imp fun D σ H ⟨δ,D',F,s0,rl,h,ok⟩=>by
  unfold oF at h
  split at h
  ·rename_i ts hi;obtain⟨v,ha,a,xs,rfl,hF,hH,hr⟩:=rl.slot i _ hi;refine⟨_,ha,.inl ⟨rfl,xs,df.of hH⟩,δ,_,F,rl,h,fun v F1 H1 s e p q=>?_⟩
   cases s with
   | ol us=>
    obtain⟨hl,q⟩:=q;obtain⟨b,zs,rfl,_,hFb,hHb,hr2⟩:=p;have h1:=e.hh.get hH;refine⟨a,b,xs,zs,rfl,rfl,h1,hHb,by rw[hr.length,hr2.length];exact Nat.le_of_lt (ou hl),?_⟩
    exact ok.nx σ F1 _ _ e.ff ((rl.ext e).mutate hi ha (e.keep a (by rw[hH];simp) hF) ⟨xs,h1⟩ ((au.same e.ff hr).append hr2)) q
   | _=>exact q.elim
  ·exact h.elim
end
end DL
open L2 DL
def Le:List String:=("CJ MI AY NU NW NV AZ M6 M7 Jh Ji Pd Pe Rq Pc LR LQ LL Hw Lx Ly Ph Sx O7 Ru Sw Ro O5 O1 OZ O2 O0 Pl Pm Pn Po MF ME MG IB IC IA MC MD MB Mu Mv Mt MA fb Mz Mx PK Mw My Sv LY Lq O8 LN Lr O9 LO HM Nx Jp OX Rp O6 Lw Pf O4 R9 Sa Sb RH RJ RK RL RM Lu LG LD LH LF OU LJ LK LC LB HB HD HC PQ Qe Rt Ol QO ty_int Om QP QS QR uu rj ur uv ux ut qZ pM qX re rf qY uh rg uf ui uj ug uA rm uy uB uC uz uF rq uD uG uH uE um rh uk uo uq ul OW CL Je Jg Jf HK QL CM NY CN NZ HA LA Lz Hz Pg Oo Pa NA HG N5 N7 N6 HE LP NL CI LX Pb HF List.set_cons_zero List.set_cons_succ List.map_cons List.map_nil if_true if_false true_and and_true Bool.not_true Bool.not_false Bool.not_eq_true decide_eq_true_eq decide_eq_false_iff_not Bool.not_not Bool.false_eq_true Bool.true_eq_false ite_true ite_false Int.reducePow Int.reduceToNat Int.reduceNeg Int.reduceMul Int.reduceAdd Int.reduceSub List.length_cons List.length_nil Nat.zero_add Nat.reduceAdd ite_not Pp Pq Ps Pu FY Jm FW F6 FV FX Jn FZ Jo PM PN PL O3 LI Sd ty_str Kw OY LM KU Nc Nd Nf Ng Nh Ni QM Oq LS OV L9 Mb Ma Lv Pi Ah IQ J5 NR JZ J6 J7 J0 GC sK Bool.and_true Bool.true_and Bool.and_self AE DY FC DZ FD DX FB D2 FG D6 FH D1 FF DU Fy DV Fz DT Fx DW FA D0 FE DS Fw J8 Dy Fc Dz Fe Dx Fb DC Fh DD Fi DB Fg Du E8 Dv E9 Dt E7 Dw Fa DA Ff Ds E6 Ka Ed FO Ee FP Ec FN Eh FS Ei FT Eg FR D9 FK Ea FL D8 FJ Eb FM Ef FQ D7 FI J9 DK Fp DM Fq DJ Fo DP Fu DQ Fv DO Ft DG Fl DH Fm DF Fk DI Fn DN Fs DE Fj bc aV rW spT PR Qf PP Qd qT List.replicate_succ List.replicate_zero List.cons_append List.nil_append List.getElem?_cons_succ List.getElem?_cons_zero Option.join_some Option.join_none LU LW LV Ht Hv Hu Hy Hx HH HJ HI Oy CK".splitOn " ")
local macro_rules | `(tactic| walk_at"d")=>do {let ids:Array (Lean.TSyntax `ident):=Le.toArray.map (fun x=>Lean.mkIdent x.toName);`(tactic| try simp only[$[$ids:ident],*])}
local macro_rules | `(tactic| walk_at"db")=>do {let ids:Array (Lean.TSyntax `ident):=Le.toArray.map (fun x=>Lean.mkIdent x.toName);`(tactic| try simp (config:={implicitDefEqProofs:=false}) only [$[$ids:ident],*])}
local macro_rules | `(tactic| walk_at"sz")=>`(tactic| first | assumption | with_reducible exact Sz.of (m:=250) (by omega) (by omega) | with_reducible exact Sz.mul (by walk_at"sz") (by walk_at"sz") | with_reducible exact Sz.add (by walk_at"sz") (by walk_at"sz") | with_reducible exact Sz.sub (by walk_at"sz") (by walk_at"sz") | with_reducible exact Sz.neg (by walk_at"sz"))
local macro_rules | `(tactic| walk_at"szk")=>`(tactic| first | assumption | exact Sz.mono (by walk_at"sz") (by decide))
local macro_rules | `(tactic| walk_at"mul")=>`(tactic| first | with_reducible exact Jk (by decide) (by decide) | with_reducible exact bH (by walk_at"sz") (by walk_at"sz") (by decide) (by decide) | with_reducible exact Jk (by omega) (by omega) | with_reducible exact Qb (by omega) (by omega))
local macro_rules | `(tactic| walk_at"side")=>`(tactic| first | decide | with_reducible exact Gy (by decide) (by decide) (by decide) | with_reducible exact Dk (by decide) (by decide +kernel) | walk_at"mul" | omega | assumption)
local macro_rules | `(tactic| walk_at"pre")=>`(tactic| repeat ((with_reducible apply And.intro);(case left=>walk_at"side")))
local macro_rules | `(tactic| walk_at"go")=>`(tactic| (walk_at"d";walk_at"pre"))
local macro_rules | `(tactic| walk_at"gb")=>`(tactic| (walk_at"db";walk_at"pre"))
local macro_rules | `(tactic| walk_at"o")=>`(tactic| first | lia | omega)
namespace Law
open L2 DL
abbrev Ok (sp:aM)(w:WS)(N:List PySem.Str):Prop:=∀ ss R,sp ss R->w {nx:=fun _=>R (.t .non),rt:=R} (gK N ss)
def cD:aM:=fun ss R=>∃ a b:Int,ss=[.t (.int a),.t (.int b)]/\R (.t (.int (Int.gcd a b)))
def iK:aM:=cD
def jU:WS:=
 (aC (aF 2 (eP iY (ac (ae 0) ap)))
 (aC (aF 3 (eP iY (ac (ae 1) ap)))
 (b9 (qG (wB (ON (ae 3) (wC (.int 0)))) (aC (aF 4 (dr (ae 2) (ae 3)))
 (aC (aF 2 (ae 3))
 (aF 3 (ae 4)))))
 (jy 2))))
def gj:WS:=
 (aC (aF 0 (eP iY (ac (ae 0) ap)))
 (aC (aF 1 (eP iY (ac (ae 1) ap)))
 (b9 (qG (wB (Ha (ae 1) (wC (.int 0)))) (Kz 0 1 (ac (ae 1) (ac (dr (ae 0) (ae 1)) ap))))
 (jy 0))))
theorem wx (g l:Nat):Nat.gcd l (g % l)=Nat.gcd g l:=by
 rw[Nat.gcd_comm l (g % l),<-Nat.gcd_rec,Nat.gcd_comm]
theorem yI:Ok cD jU ["one","other","greater","lesser","rest"]:=by
 rintro ss R ⟨a,b,rfl,h⟩;show jU _ [some (.t (.int a)),some (.t (.int b)),none,none,none];unfold jU;walk_at"d";rw[mB,mB];refine⟨fun δ=>∃ r,δ=[some (.t (.int a)),some (.t (.int b)),some (.t (.int (Int.gcd a b))),some (.t (.int 0)),r],?_,fun δ ⟨r,e⟩=>by subst e;walk_at"d";exact h⟩
 refine⟨fun n δ=>∃ (g l:Nat) (r:Option S),δ=[some (.t (.int a)),some (.t (.int b)),some (.t (.int g)),some (.t (.int l)),r]/\l=n/\Nat.gcd g l=Int.gcd a b,⟨_,_,_,none,rfl,rfl,rfl⟩,?_⟩;rintro n δ ⟨g,l,r,rfl,rfl,hg⟩;walk_at"d"
 cases l with
 | zero=>rw[if_neg (by simp)];exact⟨r,by rw[<-hg];simp⟩
 | succ l=>
  rw[if_pos (by simp;omega)]
  refine⟨by omega,?_⟩
  rw[pJ];exact⟨_,mod_lt g (by omega),_,_,_,rfl,rfl,by rw[wx];exact hg⟩
theorem uU:Ok iK gj ["_law_one","_law_other"]:=by
 rintro ss R ⟨a,b,rfl,h⟩;show gj _ [some (.t (.int a)),some (.t (.int b))];unfold gj;walk_at"d";rw[mB,mB];refine⟨fun δ=>δ=[some (.t (.int (Int.gcd a b))),some (.t (.int 0))],?_,fun δ e=>by subst e;walk_at"d";exact h⟩
 refine⟨fun n δ=>∃ (g l:Nat),δ=[some (.t (.int g)),some (.t (.int l))]/\l=n/\Nat.gcd g l=Int.gcd a b,⟨_,_,_,rfl,rfl,rfl⟩,?_⟩;rintro n δ ⟨g,l,rfl,rfl,hg⟩;walk_at"d"
 cases l with
 | zero=>rw[if_neg (by simp)];rw[<-hg];simp
 | succ l=>
  rw[if_pos (by omega)]
  refine⟨by omega,?_⟩
  rw[pJ];exact⟨_,mod_lt g (by omega),_,_,rfl,rfl,by rw[wx];exact hg⟩
end Law
namespace Law
open L2 DL
def a5 (h:Hf)(s:aS):Int:=h.1*s.1.1*s.2.2+h.2.1*s.2.1*s.1.2-h.2.2*(s.1.2*s.2.2)
def sgn (i:Int):Int:=if i>0 then 1 else if i<0 then -1 else 0
def cQ:aM:=fun ss R=>∃ s:aS,ss=[.t (spT s)]/\fg 60000 s/\R (.t (.int (s.1.2*s.2.2)))
def dE:aM:=fun ss R=>∃ (h:Hf) (s:aS),ss=[.t (bc h),.t (spT s)]/\du 300000 h/\fg 60000 s/\R (.t (.int (a5 h s)))
def vn:aM:=fun ss R=>∃ i:Int,ss=[.t (.int i)]/\R (.t (.int (sgn i)))
def iN:aM:=fun ss R=>∃ (h:Hf) (s:aS),ss=[.t (bc h),.t (spT s)]/\du 300000 h/\fg 60000 s/\R (.t (.int (sgn (a5 h s))))
def jR:WS:=
 (bz (aU (ao aJ (ao aJ (ae 0) (wC (.int 0))) (wC (.int 1))) (ao aJ (ao aJ (ae 0) (wC (.int 1))) (wC (.int 1)))))
def ma:WS:=
 (aC (aF 2 (ao aJ (ae 1) (wC (.int 0))))
 (aC (aF 3 (ao aJ (ae 1) (wC (.int 1))))
 (bz (cS (cE (aU (aU (ao aJ (ae 0) (wC (.int 0))) (ao aJ (ae 2) (wC (.int 0)))) (ao aJ (ae 3) (wC (.int 1)))) (aU (aU (ao aJ (ae 0) (wC (.int 1))) (ao aJ (ae 3) (wC (.int 0)))) (ao aJ (ae 2) (wC (.int 1))))) (aU (ao aJ (ae 0) (wC (.int 2))) (aw cQ (ac (ae 1) ap)))))))
def vF:WS:=
 (aC (iW (wB (Ha (ae 0) (wC (.int 0)))) (bz (wC (.int 1))) bB)
 (aC (iW (wB (Hc (ae 0) (wC (.int 0)))) (bz (xF jd (wC (.int 1)))) bB)
 (bz (wC (.int 0)))))
def w_side:WS:=
 (bz (aw vn (ac (aw dE (ac (ae 0) (ac (ae 1) ap))) ap)))
theorem yF:Ok cQ jR ["spot"]:=by
 rintro ss R ⟨⟨⟨x,p⟩,y,q⟩,rfl,⟨⟨z1,z2⟩,z3,z4⟩,h⟩;dsimp only at z1 z2 z3 z4;show jR _ [some (.t (.tup [.tup [.int x,.int p],.tup [.int y,.int q]]))]
 delta jR
 walk_at"d";exact⟨bH z2 z4 (by decide) (by decide),h⟩
theorem BW:Ok dE ma ["half","spot","x","y"]:=by
 rintro ss R ⟨⟨a,b,c⟩,⟨⟨x,p⟩,y,q⟩,rfl,⟨y1,y2,y3⟩,⟨⟨z1,z2⟩,z3,z4⟩,h⟩;dsimp only at y1 y2 y3 z1 z2 z3 z4;show ma _ [some (.t (.tup [.int a,.int b,.int c])),some (.t (.tup [.tup [.int x,.int p],.tup [.int y,.int q]])),none,none]
 delta ma
 walk_at"d";refine⟨by walk_at"mul",by walk_at"mul",by walk_at"mul",by walk_at"mul",⟨(x,p),(y,q)⟩,rfl,⟨⟨z1,z2⟩,z3,z4⟩,?_⟩
 walk_at"d";exact⟨by walk_at"mul",h⟩
theorem JA:Ok vn vF ["number"]:=by
 rintro ss R ⟨i,rfl,h⟩;show vF _ [some (.t (.int i))]
 delta vF
 unfold sgn at h;walk_at"d"
 split
 ·rename_i hi;rw[if_pos hi]at h;exact h
 ·rename_i hi;rw[if_neg hi]at h
  split
  ·rename_i hj;rw[if_pos hj]at h;exact h
  ·rename_i hj;rw[if_neg hj]at h;exact h
theorem Jz:Ok iN w_side ["half","spot"]:=by
 rintro ss R ⟨a,s,rfl,y,z,h⟩;show w_side _ [some (.t (bc a)),some (.t (spT s))]
 delta w_side
 walk_at"d";refine⟨a,s,rfl,y,z,?_⟩;walk_at"d";refine⟨_,rfl,?_⟩;walk_at"d";exact h
end Law
namespace Law
open L2 DL
theorem cf {a d:Int}(h:d ∣ a):a.fdiv d*d=a:=by
 obtain⟨k,rfl⟩:=h
 by_cases hd:d=0
 ·subst hd;simp
 ·rw[Int.mul_fdiv_cancel_left _ hd,mul_comm]
theorem Ab {a d:Int}(h:d ∣ a)(ha:a≠0):a.fdiv d≠0:=fun e=>by
 have:=cf h;rw[e]at this;omega
def j8 (a b c:Int):Nat:=Int.gcd (Int.gcd a b) c
theorem Eo (a b c:Int):(j8 a b c:Int) ∣ a:=Int.dvd_trans (gcd_dvd_left _ _) (gcd_dvd_left _ _)
theorem Ep (a b c:Int):(j8 a b c:Int) ∣ b:=Int.dvd_trans (gcd_dvd_left _ _) (gcd_dvd_right _ _)
theorem MK (a b c:Int):(j8 a b c:Int) ∣ c:=gcd_dvd_right _ _
theorem gB (h:a≠0\/b≠0):(Int.gcd a b:Int)≠0:=fun e=>by
 have e':Int.gcd a b=0:=by omega
 rw[Int.gcd_eq_zero_iff]at e';omega
theorem Ad (h:a≠0\/b≠0):(j8 a b c:Int)≠0:=gB (.inl (gB h))
def ML (a b c:Int):Hf:=(a.fdiv (j8 a b c),b.fdiv (j8 a b c),c.fdiv (j8 a b c))
def lj (a b:Int):Int:=if b<0 then -(Int.gcd a b:Int) else (Int.gcd a b:Int)
def gA (a b:Int):Int × Int:=(a.fdiv (lj a b),b.fdiv (lj a b))
def xX (p q:Pt):Hf:=ML (p.2-q.2) (q.1-p.1) ((p.2-q.2)*p.1+(q.1-p.1)*p.2)
def lU:aM:=fun ss R=>∃ a b c:Int,ss=[.t (.int a),.t (.int b),.t (.int c)]/\(a≠0\/b≠0)/\du 9000 (a,b,c)/\R (.t (bc (ML a b c)))
def kR:aM:=fun ss R=>∃ p q:Pt,ss=[.t (aV p),.t (aV q)]/\p≠q/\SzF 4000 p/\SzF 4000 q/\R (.t (bc (xX p q)))
def g9:aM:=fun ss R=>∃ a b:Int,ss=[.t (.int a),.t (.int b)]/\b≠0/\Sz 9000 b/\R (.t (rW (gA a b)))
def dO:aM:=fun ss R=>∃ p q:Int × Int,ss=[.t (rW p),.t (rW q)]/\SzF 60000 p/\SzF 60000 q/\R (.t (.bl (decide (p.1*q.2<q.1*p.2))))
def vD:WS:=
 (aC (iW (Ou (kz (wB (tm (ae 0) (wC (.int 0)))) (wB (tm (ae 1) (wC (.int 0)))))) nr bB)
 (aC (aF 3 (aw cD (ac (aw cD (ac (ae 0) (ac (ae 1) ap))) (ac (ae 2) ap))))
 (bz (bZ (ac (dR (ae 0) (ae 3)) (ac (dR (ae 1) (ae 3)) (ac (dR (ae 2) (ae 3)) ap)))))))
def jQ:WS:=
 (aC (aF 2 (cS (ao aJ (ae 0) (wC (.int 1))) (ao aJ (ae 1) (wC (.int 1)))))
 (aC (aF 3 (cS (ao aJ (ae 1) (wC (.int 0))) (ao aJ (ae 0) (wC (.int 0)))))
 (bz (aw lU (ac (ae 2) (ac (ae 3) (ac (cE (aU (ae 2) (ao aJ (ae 0) (wC (.int 0)))) (aU (ae 3) (ao aJ (ae 0) (wC (.int 1))))) ap)))))))
def oR:WS:=
 (aC (iW (wB (tm (ae 1) (wC (.int 0)))) nr bB)
 (aC (aF 2 (aw cD (ac (ae 0) (ac (ae 1) ap))))
 (b9 (iW (wB (Hc (ae 1) (wC (.int 0)))) (aF 2 (xF jd (ae 2))) bB)
 (bz (bZ (ac (dR (ae 0) (ae 2)) (ac (dR (ae 1) (ae 2)) ap)))))))
def oK:WS:=
 (bz (Hc (aU (ao aJ (ae 0) (wC (.int 0))) (ao aJ (ae 1) (wC (.int 1)))) (aU (ao aJ (ae 1) (wC (.int 0))) (ao aJ (ae 0) (wC (.int 1))))))
theorem Jv:Ok lU vD ["a","b","c","common"]:=by
 rintro ss R ⟨a,b,c,rfl,hne,⟨sa,sb,sc⟩,h⟩;dsimp only at sa sb sc;show vD _ [some (.t (.int a)),some (.t (.int b)),some (.t (.int c)),none]
 delta vD
 walk_at"d";refine⟨fun k=>k=false,?_,?_⟩
 ·walk_at"d"
  split
  ·rename_i e;omega
  ·trivial
 rintro k rfl;walk_at"d";refine⟨_,_,rfl,?_⟩;walk_at"d";refine⟨_,_,rfl,?_⟩;walk_at"d";have hg:(j8 a b c:Int)≠0:=Ad hne;have sg:Sz 9000 (j8 a b c:Int):=(Sz.gcd (Sz.gcd sa sb) sc).mono (by decide)
 have dv:∀ z,oT z (j8 a b c:Int):=fun z=>zT hg sg (by decide)
 exact⟨dv _,dv _,dv _,h⟩
theorem yE:Ok kR jQ ["one","other","a","b"]:=by
 rintro ss R ⟨⟨u,v⟩,⟨x,y⟩,rfl,hne,⟨s1,s2⟩,⟨s3,s4⟩,h⟩;dsimp only at s1 s2 s3 s4;show jQ _ [some (.t (.tup [.int u,.int v])),some (.t (.tup [.int x,.int y])),none,none]
 delta jQ
 walk_at"d";have sa:Sz 4001 (v-y):=by walk_at"szk"
 have sb:Sz 4001 (x-u):=by walk_at"szk"
 have sc:Sz 9000 ((v-y)*u+(x-u)*v):=by walk_at"szk"
 refine⟨bH sa s1 (by decide) (by decide),bH sb s2 (by decide) (by decide),_,_,_,rfl,?_,⟨sa.mono (by decide),sb.mono (by decide),sc⟩,h⟩
 by_cases e:v-y=0
 ·right
  intro e2;exact hne (by rw[show u=x by omega,show v=y by omega])
 ·exact .inl e
theorem Gi:Ok g9 oR ["top","bottom","common"]:=by
 rintro ss R ⟨a,b,rfl,hne,sb,h⟩;show oR _ [some (.t (.int a)),some (.t (.int b)),none]
 delta oR
 walk_at"d";rw[if_neg (by simpa using hne)]
 refine⟨_,_,rfl,?_⟩;walk_at"d";refine⟨fun δ=>δ=[some (.t (.int a)),some (.t (.int b)),some (.t (.int (lj a b)))],?_,?_⟩
 ·walk_at"d";unfold lj
  split <;> rfl
 rintro δ rfl;walk_at"d";have hg:lj a b≠0:=by
  have:=gB (a:=a) (.inr hne);unfold lj;split <;> omega
 have sg:Sz 9000 (lj a b):=by
  have q:Sz 9000 (Int.gcd a b:Int):=by rw[Int.gcd_comm];exact Sz.gcdL sb hne
  unfold lj
  split
  ·exact Sz.neg q
  ·exact q
 have dv:∀ z,oT z (lj a b):=fun z=>zT hg sg (by decide)
 exact⟨dv _,dv _,h⟩
theorem Gc:Ok dO oK ["one","other"]:=by
 rintro ss R ⟨⟨a,b⟩,⟨c,d⟩,rfl,⟨s1,s2⟩,⟨s3,s4⟩,h⟩;dsimp only at s1 s2 s3 s4;show oK _ [some (.t (.tup [.int a,.int b])),some (.t (.tup [.int c,.int d]))]
 delta oK
 walk_at"d";exact⟨bH s1 s4 (by decide) (by decide),bH s3 s2 (by decide) (by decide),h⟩
end Law
namespace Law
open L2 DL
def gL (p:Pt):aS:=((p.1,1),(p.2,1))
def af (s:aS):Hf:=(s.1.1*s.2.2,s.2.1*s.1.2,s.1.2*s.2.2)
def RG (u v:Hf):Hf:=(u.2.1*v.2.2-u.2.2*v.2.1,u.2.2*v.1-u.1*v.2.2,u.2.1*v.1-u.1*v.2.1)
def QN (a b c:aS):Int:=a5 (RG (af a) (af b)) c
def R8 (p q r:Pt):Int:=QN (gL p) (gL q) (gL r)
theorem Oi (p q r:Pt):R8 p q r=(p.2-q.2)*r.1+(q.1-p.1)*r.2-(p.2*q.1-p.1*q.2):=by
 unfold R8 QN a5 RG af gL;simp only[mul_one,Int.one_mul]
def kQ:aM:=fun ss R=>∃ p:Pt,ss=[.t (aV p)]/\R (.t (spT (gL p)))
def bY:aM:=fun ss R=>∃ s:aS,ss=[.t (spT s)]/\fg 30000 s/\R (.t (bc (af s)))
def vo:aM:=fun ss R=>∃ a b c:aS,ss=[.t (spT a),.t (spT b),.t (spT c)]/\fg 30000 a/\fg 30000 b/\fg 30000 c/\R (.t (.int (QN a b c)))
def jP:WS:=
 (bz (bZ (ac (bZ (ac (ao aJ (ae 0) (wC (.int 0))) (ac (wC (.int 1)) ap))) (ac (bZ (ac (ao aJ (ae 0) (wC (.int 1))) (ac (wC (.int 1)) ap))) ap))))
def gu:WS:=
 (bz (bZ (ac (aU (ao aJ (ao aJ (ae 0) (wC (.int 0))) (wC (.int 0))) (ao aJ (ao aJ (ae 0) (wC (.int 1))) (wC (.int 1)))) (ac (aU (ao aJ (ao aJ (ae 0) (wC (.int 1))) (wC (.int 0))) (ao aJ (ao aJ (ae 0) (wC (.int 0))) (wC (.int 1)))) (ac (aw cQ (ac (ae 0) ap)) ap)))))
def vG:WS:=
 (aC (aF 3 (aw bY (ac (ae 0) ap)))
 (aC (aF 4 (aw bY (ac (ae 1) ap)))
 (aC (aF 5 (cS (aU (ao aJ (ae 3) (wC (.int 1))) (ao aJ (ae 4) (wC (.int 2)))) (aU (ao aJ (ae 3) (wC (.int 2))) (ao aJ (ae 4) (wC (.int 1))))))
 (aC (aF 6 (cS (aU (ao aJ (ae 3) (wC (.int 2))) (ao aJ (ae 4) (wC (.int 0)))) (aU (ao aJ (ae 3) (wC (.int 0))) (ao aJ (ae 4) (wC (.int 2))))))
 (aC (aF 7 (cS (aU (ao aJ (ae 3) (wC (.int 1))) (ao aJ (ae 4) (wC (.int 0)))) (aU (ao aJ (ae 3) (wC (.int 0))) (ao aJ (ae 4) (wC (.int 1))))))
 (bz (aw dE (ac (bZ (ac (ae 5) (ac (ae 6) (ac (ae 7) ap)))) (ac (ae 2) ap)))))))))
theorem yD:Ok kQ jP ["point"]:=by
 rintro ss R ⟨⟨x,y⟩,rfl,h⟩;show jP _ [some (.t (.tup [.int x,.int y]))]
 delta jP
 walk_at"go";exact h
theorem uW:Ok bY gu ["spot"]:=by
 rintro ss R ⟨⟨⟨x,p⟩,y,q⟩,rfl,⟨⟨z1,z2⟩,z3,z4⟩,h⟩;dsimp only at z1 z2 z3 z4;show gu _ [some (.t (.tup [.tup [.int x,.int p],.tup [.int y,.int q]]))]
 delta gu
 walk_at"d";refine⟨bH z1 z4 (by decide) (by decide),bH z3 z2 (by decide) (by decide),((x,p),(y,q)),rfl,⟨⟨z1.mono (by decide),z2.mono (by decide)⟩,z3.mono (by decide),z4.mono (by decide)⟩,?_⟩
 walk_at"d";exact h
theorem JC:Ok vo vG ["one","other","third","here","there","a","b","c"]:=by
 rintro ss R ⟨s,t,u,rfl,zs,zt,zu,h⟩;show vG _ [some (.t (spT s)),some (.t (spT t)),some (.t (spT u)),none,none,none,none,none]
 delta vG
 have ss3:du 60000 (af s):=⟨(Sz.mul zs.1.1 zs.2.2).mono (by decide),(Sz.mul zs.2.1 zs.1.2).mono (by decide),(Sz.mul zs.1.2 zs.2.2).mono (by decide)⟩
 have tt3:du 60000 (af t):=⟨(Sz.mul zt.1.1 zt.2.2).mono (by decide),(Sz.mul zt.2.1 zt.1.2).mono (by decide),(Sz.mul zt.1.2 zt.2.2).mono (by decide)⟩
 walk_at"d";refine⟨s,rfl,zs,?_⟩;obtain⟨a1,a2,a3⟩:=ss3;generalize he:af s=hs at a1 a2 a3 ⊢;obtain⟨x1,y1,w1⟩:=hs;dsimp only at a1 a2 a3;walk_at"d";refine⟨t,rfl,zt,?_⟩;obtain⟨b1,b2,b3⟩:=tt3;generalize hf:af t=ht at b1 b2 b3 ⊢;obtain⟨x2,y2,w2⟩:=ht;dsimp only at b1 b2 b3;walk_at"d";refine⟨bH a2 b3 (by decide) (by decide),bH a3 b2 (by decide) (by decide),bH a3 b1 (by decide) (by decide),bH a1 b3 (by decide) (by decide),bH a2 b1 (by decide) (by decide),bH a1 b2 (by decide) (by decide),(y1*w2-w1*y2,w1*x2-x1*w2,y1*x2-x1*y2),u,rfl,⟨by walk_at"szk",by walk_at"szk",by walk_at"szk"⟩,⟨⟨zu.1.1.mono (by decide),zu.1.2.mono (by decide)⟩,zu.2.1.mono (by decide),zu.2.2.mono (by decide)⟩,?_⟩
 unfold QN RG at h;rw[he,hf]at h;exact h
end Law
namespace Law
open L2 DL
def cr (p q r:Pt):Int:=(q.1-p.1)*(r.2-p.2)-(q.2-p.2)*(r.1-p.1)
def fn (m p:Pt):Int:=m.1*p.1+m.2*p.2
theorem Oh (p q r:Pt):R8 p q r=cr p q r:=by
 rw[Oi];unfold cr;grind
theorem MN (a b p q:Pt):cr a p q=cr a b q-cr a b p+cr b p q:=by unfold cr;grind
theorem MO (m a b p q:Pt):(fn m b-fn m a)*cr a p q=(fn m p-fn m a)*cr a b q-(fn m q-fn m a)*cr a b p:=by unfold cr fn;grind
theorem Ez (m z t p q:Pt):(fn m t-fn m z)*cr t p q=(fn m p-fn m t)*cr z t q-(fn m q-fn m t)*cr z t p:=by unfold cr fn;grind
theorem Ey (m a b c p:Pt):(fn m c-fn m b)*cr a b p=(fn m p-fn m b)*cr a b c+(fn m b-fn m a)*cr b c p:=by unfold cr fn;grind
theorem Ex (m a b v u w:Pt):(fn m b-fn m v)*cr u w a+(fn m v-fn m a)*cr u w b=(fn m b-fn m a)*cr u w v-fn m (w.1-u.1,w.2-u.2)*cr a b v:=by unfold cr fn;grind
theorem tU (a b:Pt):cr a b b=0:=by unfold cr;grind
theorem vZ (a b:Pt):cr a b a=0:=by unfold cr;grind
theorem Im (a b q:Pt):cr b a q=-cr a b q:=by unfold cr;grind
theorem mM {f x:Int}(hf:0<f)(h:0<=f*x):0<=x:=by
 rcases lt_or_le x 0 with hx|hx
 ·have:=mul_neg_of_pos_of_neg hf hx;omega
 ·exact hx
theorem yC {a b:Int}(ha:a<=0)(hb:0<=b):a*b<=0:=mul_nonpos_of_nonpos_of_nonneg ha hb
def xG:List Pt->Prop
 | c::b::a::r=>0<cr a b c/\xG (b::a::r)
 | _=>True
def Lf (q:Pt):List Pt->Prop
 | b::a::r=>0<=cr a b q/\Lf q (a::r)
 | _=>True
def Dn (m:Pt)(k:List Pt):Prop:=k.Pairwise fun b a=>fn m a<fn m b
def popTo (p:Pt):List Pt->List Pt
 | b::a::r=>if cr a b p<=0 then popTo p (a::r) else b::a::r
 | k=>k
def tQ (ps:List Pt):List Pt:=ps.foldl (fun k p=>p::popTo p k) []
theorem rR:∀ {b:Pt}{k:List Pt},xG (b::k)->xG k
 | _,[],_=>trivial
 | _,[_],_=>trivial
 | _,_::_::_,h=>h.2
theorem Jc:∀ {q b:Pt}{k:List Pt},Lf q (b::k)->Lf q k
 | _,_,[],_=>trivial
 | _,_,_::_,h=>h.2
structure Off (m:Pt) (D:List Pt) (p p0:Pt) (t:Pt) (k:List Pt):Prop where
 dn:Dn m (t::k)
 cv:xG (t::k)
 lf:∀ q∈D,Lf q (t::k)
 sb:∀ x∈t::k,x∈D
 ls:(t::k).getLast?=some p0
 ne:∀ q∈D,fn m t<=fn m q->0<=cr t p q
theorem Js {m p p0 b a:Pt}{D r:List Pt}(hp:∀ q∈D,fn m q<fn m p)(O:Off m D p p0 b (a::r))(hle:cr a b p<=0):Off m D p p0 a r:=by
 have hab:fn m a<fn m b:=(pairwise_cons.mp O.dn).1 a mem_cons_self;refine⟨(pairwise_cons.mp O.dn).2,rR O.cv,fun q hq=>Jc (O.lf q hq),fun x hx=>O.sb x (mem_cons_of_mem _ hx),by simpa using O.ls,fun q hq hqa=>?_⟩
 have h1:0<=cr a b q:=(O.lf q hq).1
 rcases lt_or_le (fn m q) (fn m b) with hqb|hqb
 ·have hap:fn m a<fn m p:=hp a (O.sb a (by simp))
  have i:=MO m a b p q;have g1:0<=(fn m p-fn m a)*cr a b q:=mul_nonneg (by omega) h1
  have g2:(fn m q-fn m a)*cr a b p<=0:=mul_nonpos_of_nonneg_of_nonpos (by omega) hle
  exact mM (f:=fn m b-fn m a) (by omega) (by omega)
 ·have h2:=O.ne q hq hqb;have i:=MN a b p q;omega
theorem Gx (hp:∀ q∈D,fn m q<fn m p):∀ (k:List Pt) (t:Pt),Off m D p p0 t k →
  ∃ t' k',popTo p (t::k)=t'::k'/\Off m D p p0 t' k'/\∀ z r,k'=z::r->0<cr z t' p
 | [],t,O=>⟨t,[],rfl,O,fun z r e=>nomatch e⟩
 | a::r,t,O=>by
  by_cases h:cr a t p<=0
  ·obtain⟨t',k',e,O',h'⟩:=Gx hp r a (Js hp O h);exact⟨t',k',by simp only[popTo,if_pos h];exact e,O',h'⟩
  ·refine⟨t,a::r,by simp only[popTo,if_neg h],O,fun z r' e=>?_⟩
   cases e;omega
theorem AF {m p:Pt}:∀ (k:List Pt) (t:Pt),Dn m (t::k)->xG (t::k)->(∀ x∈t::k,fn m x<fn m p)->(∀ z r,k=z::r->0<=cr z t p)->Lf p (t::k)
 | [],t,_,_,_,_=>trivial
 | z::r,t,hd,hc,hx,h=>by
  refine⟨h z r rfl,AF r z (pairwise_cons.mp hd).2 (rR hc) (fun x hx'=>hx x (mem_cons_of_mem _ hx')) fun y r' e=>?_⟩;subst e;have h1:0<cr y z t:=hc.1;have hzt:fn m z<fn m t:=(pairwise_cons.mp hd).1 z mem_cons_self;have hyz:fn m y<fn m z:=(pairwise_cons.mp (pairwise_cons.mp hd).2).1 y mem_cons_self;have hzp:=hx z (by simp)
  have i:=Ey m y z t p;have g1:0<=(fn m p-fn m z)*cr y z t:=mul_nonneg (by omega) (by omega)
  have g2:0<=(fn m z-fn m y)*cr z t p:=mul_nonneg (by omega) (h z (y::r') rfl)
  exact mM (f:=fn m t-fn m z) (by omega) (by omega)
structure Ch (m:Pt) (D:List Pt) (p0 t:Pt) (k:List Pt):Prop where
 dn:Dn m (t::k)
 cv:xG (t::k)
 lf:∀ q∈D,Lf q (t::k)
 sb:∀ x∈t::k,x∈D
 ls:(t::k).getLast?=some p0
 hi:∀ q∈D,q≠t->fn m q<fn m t
 lo:∀ q∈D,fn m p0<=fn m q
theorem Ik {m p p0 t:Pt}{D k:List Pt}(C:Ch m D p0 t k)(hp:∀ q∈D,fn m q<fn m p):∃ k',popTo p (t::k)=k'/\Ch m (D++[p]) p0 p k':=by
 have O:Off m D p p0 t k:=⟨C.dn,C.cv,C.lf,C.sb,C.ls,fun q hq h=>by
  by_cases e:q=t
  ·subst e;rw[vZ];exact Int.le_refl _
  ·have:=C.hi q hq e;omega⟩
 obtain⟨t',k',e,O',h'⟩:=Gx hp k t O;have hall:∀ q∈D,0<=cr t' p q:=fun q hq=>by
  rcases lt_or_le (fn m q) (fn m t') with h|h
  ·cases k' with
   | nil=>
    have:t'=p0:=by simpa using O'.ls
    subst this;have:=C.lo q hq;omega
   | cons z r=>
    have hz:=h' z r rfl;have hzt:fn m z<fn m t':=(pairwise_cons.mp O'.dn).1 z mem_cons_self;have h1:0<=cr z t' q:=(O'.lf q hq).1;have htp:=hp t' (O'.sb t' (by simp))
    have i:=Ez m z t' p q;have g1:0<=(fn m p-fn m t')*cr z t' q:=mul_nonneg (by omega) h1
    have g2:(fn m q-fn m t')*cr z t' p<=0:=yC (by omega) (by omega)
    exact mM (f:=fn m t'-fn m z) (by omega) (by omega)
  ·exact O'.ne q hq h
 refine⟨_,e,pairwise_cons.mpr ⟨fun x hx=>hp x (O'.sb x hx),O'.dn⟩,?_,fun q hq=>?_,fun x hx=>?_,?_,fun q hq hne=>?_,fun q hq=>?_⟩
 ·cases k' with
  | nil=>trivial
  | cons z r=>exact⟨h' z r rfl,O'.cv⟩
 ·rcases mem_append.mp hq with hq|hq
  ·exact⟨hall q hq,O'.lf q hq⟩
  ·obtain rfl:=mem_singleton.mp hq;refine⟨by rw[tU];exact Int.le_refl _,AF (m:=m) k' t' O'.dn O'.cv (fun x hx=>hp x (O'.sb x hx)) fun z r e=>le_of_lt (h' z r e)⟩
 ·rcases mem_cons.mp hx with rfl|hx
  ·simp
  ·exact mem_append_left _ (O'.sb x hx)
 ·have:=O'.ls;simpa using this
 ·rcases mem_append.mp hq with hq|hq
  ·exact hp q hq
  ·exact absurd (mem_singleton.mp hq) hne
 ·rcases mem_append.mp hq with hq|hq
  ·exact C.lo q hq
  ·obtain rfl:=mem_singleton.mp hq;have hh:p0∈D:=O'.sb p0 (List.mem_of_getLast? O'.ls);exact le_of_lt (hp p0 hh)
theorem zJ:∀ (l D:List Pt) (t:Pt) (k:List Pt),Ch m D p0 t k->(D++l).Pairwise (fun a b=>fn m a<fn m b) →
  ∃ t' k',l.foldl (fun k p=>p::popTo p k) (t::k)=t'::k'/\Ch m (D++l) p0 t' k'/\(l≠[]->l.getLast?=some t')/\(l=[]->t'=t)
 | [],D,t,k,C,_=>⟨t,k,rfl,by simpa using C,fun h=>absurd rfl h,fun _=>rfl⟩
 | p::l,D,t,k,C,hs=>by
  have hp:∀ q∈D,fn m q<fn m p:=fun q hq=>(List.pairwise_append.mp hs).2.2 q hq p mem_cons_self;obtain⟨k',e,C'⟩:=Ik C hp;obtain⟨t',k2,e2,C2,h1,h2⟩:=zJ l (D++[p]) p k' C' (by simpa using hs)
  refine⟨t',k2,by rw[List.foldl_cons,e];exact e2,by simpa using C2,fun _=>?_,fun h=>nomatch h⟩
  cases l with
  | nil=>rw[h2 rfl];rfl
  | cons x l=>simpa using h1 (by simp)
theorem Dc (hs:(p0::l).Pairwise (fun a b=>fn m a<fn m b)):∃ t k,tQ (p0::l)=t::k/\Ch m (p0::l) p0 t k/\(p0::l).getLast?=some t:=by
 have C0:Ch m [p0] p0 p0 []:=⟨List.pairwise_singleton _ _,trivial,fun q hq=>trivial,fun x hx=>hx,rfl,fun q hq hne=>absurd (mem_singleton.mp hq) hne,fun q hq=>by rw[mem_singleton.mp hq];exact Int.le_refl _⟩
 obtain⟨t,k,e,C,h1,h2⟩:=zJ l [p0] p0 [] C0 hs;refine⟨t,k,e,C,?_⟩
 cases l with
 | nil=>rw[h2 rfl];rfl
 | cons x l=>simpa using h1 (by simp)
end Law
namespace Law
open L2 DL
theorem MM (m a v u w:Pt):(fn m a-fn m v)*cr u v w=(fn m w-fn m v)*cr u v a-(fn m v-fn m u)*cr v w a:=by unfold cr fn;grind
structure zy (m:Pt) (S C:List Pt):Prop where
 left:∀ i (h:i+1<C.length),∀ q∈S,0<=cr C[i] C[i+1] q
 conv:∀ i (h:i+2<C.length),0<cr C[i] C[i+1] C[i+2]
 up:∀ i j (hi:i<C.length) (hj:j<C.length),i<j->fn m C[i]<fn m C[j]
 sub:∀ x∈C,x∈S
 lo:∀ q∈S,∀ h:0<C.length,fn m C[0]<=fn m q
 hi:∀ q∈S,∀ h:C.length-1<C.length,fn m q<=fn m C[C.length-1]
theorem EN:∀ (k:List Pt),Lf q k->∀ i (h:i+1<k.length),0<=cr k[i+1] k[i] q
 | [],_,i,h=>by simp at h
 | [a],_,i,h=>by simp at h
 | b::a::r,hl,0,h=>hl.1
 | b::a::r,hl,i+1,h=>EN (a::r) hl.2 i (by simpa using h)
theorem vY:∀ (k:List Pt),xG k->∀ i (h:i+2<k.length),0<cr k[i+2] k[i+1] k[i]
 | [],_,i,h=>by simp at h
 | [a],_,i,h=>by simp at h
 | [a,b],_,i,h=>absurd h (by simp only[length_cons,length_nil];omega)
 | c::b::a::r,hl,0,h=>hl.1
 | c::b::a::r,hl,i+1,h=>vY (b::a::r) hl.2 i (by simpa using h)
theorem vW {m p0 t:Pt}{S k:List Pt}(C:Ch m S p0 t k):zy m S (t::k).reverse:=by
 have hr:∀ i (h:i<(t::k).reverse.length),(t::k).reverse[i]=(t::k)[(t::k).length-1-i]'(by simp at h ⊢;omega):=fun i h=>List.getElem_reverse h
 have hdn:=pairwise_iff_getElem.mp C.dn;refine⟨fun i h q hq=>?_,fun i h=>?_,fun i j hi hj hij=>?_,fun x hx=>C.sb x (List.mem_reverse.mp hx),fun q hq h=>?_,fun q hq h=>?_⟩
 ·rw[hr,hr];simp only[length_reverse]at h;have:=EN _ (C.lf q hq) ((t::k).length-1-(i+1)) (by omega)
  have e:(t::k).length-1-(i+1)+1=(t::k).length-1-i:=by omega
  simpa only [e] using this
 ·rw[hr,hr,hr];simp only[length_reverse]at h;have:=vY _ C.cv ((t::k).length-1-(i+2)) (by omega)
  have e:(t::k).length-1-(i+2)+1=(t::k).length-1-(i+1):=by omega
  have e2:(t::k).length-1-(i+2)+2=(t::k).length-1-i:=by omega
  simpa only [e,e2] using this
 ·rw[hr,hr];simp only[length_reverse]at hi hj;exact hdn _ _ (by omega) (by omega) (by omega)
 ·have e:(t::k).reverse[0]=p0:=by
   have h1:=C.ls;rw[<-head?_reverse]at h1;rw[head?_eq_getElem?,getElem?_eq_getElem h]at h1;exact Option.some.inj h1
  rw[e];exact C.lo q hq
 ·have e:(t::k).reverse[(t::k).reverse.length-1]=t:=by
   rw[hr];simp
  rw[e]
  by_cases hqt:q=t
  ·rw[hqt];exact Int.le_refl _
  ·exact le_of_lt (C.hi q hq hqt)
theorem strict {m m':Pt}{S C C':List Pt}(A:zy m S C)(A':zy m' S C')(hc:1<C.length)(hc':1<C'.length)(e1:C'[0]=C[C.length-1])(e2:C'[C'.length-1]=C[0])
  (inj:∀ a∈S,∀ b∈S,fn m a=fn m b->a=b) {i:Nat} (hi:i+1<C.length) {v:Pt} (hv:v∈C\/v∈C') (h1:v≠C[i]) (h2:v≠C[i+1]):0<cr C[i] C[i+1] v:=by
 have hvS:v∈S:=by
  rcases hv with h|h
  ·exact A.sub v h
  ·exact A'.sub v h
 have haS:C[i]∈S:=A.sub _ (getElem_mem _);have hbS:C[i+1]∈S:=A.sub _ (getElem_mem _);have hge:=A.left i hi v hvS;have hab:=A.up i (i+1) (by omega) hi (by omega)
 rcases Int.lt_or_eq_of_le hge with h|h
 ·exact h
 exfalso;have h0:cr C[i] C[i+1] v=0:=h.symm;have na:fn m v≠fn m C[i]:=fun e=>h1 (inj _ hvS _ haS e);have nb:fn m v≠fn m C[i+1]:=fun e=>h2 (inj _ hvS _ hbS e)
 rcases lt_or_le (fn m C[i+1]) (fn m v) with hgt|hle
 ·rcases lt_or_ge (i+2) C.length with hl|hl
  ·have c1:=A.conv i hl
   have c2:=A.left (i+1) hl v hvS;have id:=Ey m C[i] C[i+1] C[i+2] v;rw[h0,mul_zero]at id;have g1:0<(fn m v-fn m C[i+1])*cr C[i] C[i+1] C[i+2]:=mul_pos (by omega) c1
   have g2:0<=(fn m C[i+1]-fn m C[i])*cr C[i+1] C[i+2] v:=mul_nonneg (by omega) c2
   omega
  ·have:=A.hi v hvS (by omega)
   have e:C.length-1=i+1:=by omega
   simp only[e]at this;omega
 rcases lt_or_le (fn m v) (fn m C[i]) with hlt|hge2
 ·cases i with
  | zero=>have:=A.lo v hvS (by omega);omega
  | succ i=>
   have c1:=A.conv i (by omega)
   have c2:=A.left i (by omega) v hvS
   have hzt:=A.up i (i+1) (by omega) (by omega) (by omega)
   have id:=Ez m C[i] C[i+1] C[i+1+1] v;rw[h0,mul_zero]at id;have g1:0<=(fn m C[i+1+1]-fn m C[i+1])*cr C[i] C[i+1] v:=mul_nonneg (by omega) c2
   have g2:(fn m v-fn m C[i+1])*cr C[i] C[i+1] C[i+1+1]<0:=Int.mul_neg_of_neg_of_pos (by omega) c1
   omega
 have hav:fn m C[i]<fn m v:=by omega
 have hvb:fn m v<fn m C[i+1]:=by omega
 rcases hv with hv|hv
 ·obtain⟨j,hj,rfl⟩:=getElem_of_mem hv
  rcases lt_trichotomy j i with h|h|h
  ·have:=A.up j i hj (by omega) h;omega
  ·subst h;omega
  ·rcases lt_or_ge (i+1) j with h'|h'
   ·have:=A.up (i+1) j hi hj h';omega
   ·have:j=i+1:=by omega
    subst this;omega
 ·obtain⟨j,hj,rfl⟩:=getElem_of_mem hv;have hj0:j≠0:=fun e=>by
   subst e;rw[e1]at hvb;have:=A.hi C[i+1] hbS (by omega)
   omega
  have hjl:j≠C'.length-1:=fun e=>by
   subst e;rw[e2]at hav;have:=A.lo C[i] haS (by omega)
   omega
  obtain⟨j,rfl⟩:∃ j',j=j'+1:=⟨j-1,by omega⟩
  have hl:j+2<C'.length:=by omega
  have cv:=A'.conv j hl
  have l1:=A'.left j (by omega) C[i] haS
  have l2:=A'.left j (by omega) C[i+1] hbS
  have l3:=A'.left (j+1) hl C[i] haS;have l4:=A'.left (j+1) hl C[i+1] hbS;have i1:=Ex m C[i] C[i+1] C'[j+1] C'[j] C'[j+1];have i2:=Ex m C[i] C[i+1] C'[j+1] C'[j+1] C'[j+2];rw[h0,tU,mul_zero,mul_zero]at i1;rw[h0,vZ,mul_zero,mul_zero]at i2;have g1:0<=(fn m C[i+1]-fn m C'[j+1])*cr C'[j] C'[j+1] C[i]:=mul_nonneg (by omega) l1
  have g2:0<=(fn m C'[j+1]-fn m C[i])*cr C'[j] C'[j+1] C[i+1]:=mul_nonneg (by omega) l2
  have g3:0<=(fn m C[i+1]-fn m C'[j+1])*cr C'[j+1] C'[j+2] C[i]:=mul_nonneg (by omega) l3
  have g4:0<=(fn m C'[j+1]-fn m C[i])*cr C'[j+1] C'[j+2] C[i+1]:=mul_nonneg (by omega) l4
  have z1:cr C'[j] C'[j+1] C[i]=0:=by
   have:(fn m C[i+1]-fn m C'[j+1])*cr C'[j] C'[j+1] C[i]=0:=by omega
   rcases mul_eq_zero.mp this with h|h
   ·omega
   ·exact h
  have z2:cr C'[j+1] C'[j+2] C[i]=0:=by
   have:(fn m C[i+1]-fn m C'[j+1])*cr C'[j+1] C'[j+2] C[i]=0:=by omega
   rcases mul_eq_zero.mp this with h|h
   ·omega
   ·exact h
  have i3:=MM m C[i] C'[j+1] C'[j] C'[j+2];rw[z1,z2,mul_zero,mul_zero]at i3
  rcases mul_eq_zero.mp (show(fn m C[i]-fn m C'[j+1])*cr C'[j] C'[j+1] C'[j+2]=0 by omega) with h|h
  ·omega
  ·omega
def OK (H:List Pt)(k:Nat)(hk:k<H.length):Pt:=if h:k=0 then H[H.length-1] else H[k-1]
structure OT (S H:List Pt):Prop where
 left:∀ k (hk:k<H.length),∀ q∈S,0<=cr (OK H k hk) H[k] q
 strict:∀ k (hk:k<H.length),∀ v∈H,v≠OK H k hk->v≠H[k]->0<cr (OK H k hk) H[k] v
 sub:∀ x∈H,x∈S
 fst:∀ k (hk:k<H.length),0<k->H[k]≠H[0]
 two:∀ h:H.length=2,∀ q∈S,cr H[0] H[1] q=0/\∃ m:Pt,fn m H[0]<=fn m q/\fn m q<=fn m H[1]/\S.Pairwise fun a b=>fn m a<fn m b
 len:2<=H.length
def nL (S:List Pt):List Pt:=(tQ S).reverse.dropLast++(tQ S.reverse).reverse.dropLast
def neg (m:Pt):Pt:=(-m.1,-m.2)
theorem t7 (m p:Pt):fn (neg m) p=-fn m p:=by unfold fn neg;grind
theorem GO (hs:(p0::p1::l).Pairwise (fun a b=>fn m a<fn m b)):OT (p0::p1::l) (nL (p0::p1::l))/\∀ h:0<(nL (p0::p1::l)).length,(nL (p0::p1::l))[0]=p0:=by
 obtain⟨t,k,e,C,hl⟩:=Dc hs;generalize hS:p0::p1::l=S at *;have hrev:S.reverse.Pairwise (fun a b=>fn (neg m) a<fn (neg m) b):=by
  rw[List.pairwise_reverse];exact hs.imp fun h=>by rw[t7,t7];omega
 obtain⟨z,r,hr⟩:∃ z r,S.reverse=z::r:=by
  cases h:S.reverse with
  | nil=>rw[List.reverse_eq_nil_iff]at h;rw[h]at hS;exact nomatch hS
  | cons z r=>exact⟨z,r,rfl⟩
 have hz:z=t:=by
  have h1:S.reverse.head?=some z:=by rw[hr];rfl
  rw[head?_reverse,hl]at h1;exact(Option.some.inj h1).symm
 subst hz;rw[hr]at hrev;obtain⟨t',k',e',C',hl'⟩:=Dc hrev;have ht':t'=p0:=by
  rw[<-hr,List.getLast?_reverse,<-hS]at hl';exact(Option.some.inj hl').symm
 subst ht';have A:=vW C;have A':zy (neg m) S (t'::k').reverse:=by
  have B:=vW C';have hm:∀ q,q∈z::r↔q∈S:=fun q=>by rw[<-hr];exact List.mem_reverse
  exact⟨fun i h q hq=>B.left i h q ((hm q).mpr hq),B.conv,B.up,fun x hx=>(hm x).mp (B.sub x hx),fun q hq h=>B.lo q ((hm q).mpr hq) h,fun q hq h=>B.hi q ((hm q).mpr hq) h⟩
 have eL0:(z::k).reverse.head?=some t':=by rw[head?_reverse];exact C.ls
 have eU0:(t'::k').reverse.head?=some z:=by rw[head?_reverse];exact C'.ls
 have eL1:(z::k).reverse.getLast?=some z:=by rw[List.getLast?_reverse];rfl
 have eU1:(t'::k').reverse.getLast?=some t':=by rw[List.getLast?_reverse];rfl
 have hzS:z∈S:=C.sb z mem_cons_self;have htS:t'∈S:=by rw[<-hS];exact mem_cons_self
 have inj:∀ a∈S,∀ b∈S,fn m a=fn m b->a=b:=fun a ha b hb hab=>by
  obtain⟨i,hi,rfl⟩:=getElem_of_mem ha;obtain⟨j,hj,rfl⟩:=getElem_of_mem hb;have hp:=pairwise_iff_getElem.mp hs
  rcases lt_trichotomy i j with h|h|h
  ·have:=hp i j hi hj h;omega
  ·subst h;rfl
  ·have:=hp j i hj hi h;omega
 have hne:t'≠z:=fun h=>by
  have h1:p1∈S:=by rw[<-hS];simp
  have h2:fn m t'<fn m p1:=by rw[<-hS]at hs;exact(pairwise_cons.mp hs).1 p1 mem_cons_self
  by_cases h3:p1=z
  ·rw[h3,<-h]at h2;omega
  ·have:=C.hi p1 h1 h3;rw[<-h]at this;omega
 have eH:nL S=(z::k).reverse.dropLast++(t'::k').reverse.dropLast:=by unfold nL;rw[e,hr,e']
 rw[eH];generalize (z::k).reverse=L at *;generalize (t'::k').reverse=U at *;have lenOf:∀ {l:List Pt}{a b:Pt},l.head?=some a->l.getLast?=some b->a≠b->1<l.length:=fun {l a b} h1 h2 h3=>by
  match l with
  | []=>simp at h1
  | [x]=>simp at h1 h2;exact absurd (h1.symm.trans h2) h3
  | _::_::_=>simp
 have hL:=lenOf eL0 eL1 hne;have hU:=lenOf eU0 eU1 (Ne.symm hne);have gL0:L[0]=t':=by rw[head?_eq_getElem?,getElem?_eq_getElem (by omega)]at eL0;exact Option.some.inj eL0
 have gU0:U[0]=z:=by rw[head?_eq_getElem?,getElem?_eq_getElem (by omega)]at eU0;exact Option.some.inj eU0
 have gL1:L[L.length-1]=z:=by rw[List.getLast?_eq_getElem?,getElem?_eq_getElem (by omega)]at eL1;exact Option.some.inj eL1
 have gU1:U[U.length-1]=t':=by rw[List.getLast?_eq_getElem?,getElem?_eq_getElem (by omega)]at eU1;exact Option.some.inj eU1
 have inj':∀ a∈S,∀ b∈S,fn (neg m) a=fn (neg m) b->a=b:=fun a ha b hb hab=>inj a ha b hb (by rw[t7,t7]at hab;omega)
 have hlen:(L.dropLast++U.dropLast).length=L.length-1+(U.length-1):=by simp
 have at1:∀ i (h:i<(L.dropLast++U.dropLast).length) (h':i<L.length-1),(L.dropLast++U.dropLast)[i]=L[i]:=fun i h h'=>by
  rw[getElem_append_left (by simpa using h'),List.getElem_dropLast]
 have at2:∀ i (h:i<(L.dropLast++U.dropLast).length) (h':L.length-1<=i),(L.dropLast++U.dropLast)[i]=U[i-(L.length-1)]'(by rw[hlen]at h;omega):=fun i h h'=>by
  rw[List.getElem_append_right (by simpa using h'),List.getElem_dropLast]
  simp
 have hvm:∀ v∈L.dropLast++U.dropLast,v∈L\/v∈U:=fun v hv=>by
  rcases mem_append.mp hv with h|h
  ·exact .inl ((List.dropLast_sublist _).subset h)
  ·exact .inr ((List.dropLast_sublist _).subset h)
 have side:∀ k (hk:k<(L.dropLast++U.dropLast).length),(∃ i,∃ hi:i+1<L.length,OK (L.dropLast++U.dropLast) k hk=L[i]/\(L.dropLast++U.dropLast)[k]=L[i+1]) ∨
   (∃ i,∃ hi:i+1<U.length,OK (L.dropLast++U.dropLast) k hk=U[i]/\(L.dropLast++U.dropLast)[k]=U[i+1]):=fun k hk=>by
  unfold OK
  by_cases h0:k=0
  ·subst h0
   right
   refine⟨U.length-2,by omega,?_,?_⟩
   ·rw[dif_pos rfl];simp only[hlen];rw[at2 _ _ (by omega)]
    congr 1;omega
   ·rw[at1 _ _ (by omega),gL0,<-gU1]
    congr 1;omega
  ·rw[dif_neg h0]
   rcases lt_or_ge (L.length-1) k with h|h
   ·right
    refine⟨k-1-(L.length-1),by omega,?_,?_⟩
    ·rw[at2 _ _ (by omega)]
    ·rw[at2 _ _ (by omega)]
     congr 1;omega
   ·left
    refine⟨k-1,by omega,?_,?_⟩
    ·rw[at1 _ _ (by omega)]
    ·rcases lt_or_ge k (L.length-1) with h'|h'
     ·rw[at1 _ _ h']
      congr 1;omega
     ·have:k=L.length-1:=by omega
      subst this;rw[at2 _ _ (by omega)]
      have e1:L.length-1-(L.length-1)=0:=by omega
      have e2:L.length-1-1+1=L.length-1:=by omega
      simp only[e1,e2];rw[gU0,gL1]
 refine⟨⟨fun k hk q hq=>?_,fun k hk v hv h1 h2=>?_,fun x hx=>?_,fun k hk h0=>?_,fun h2 q hq=>?_,by rw[hlen];omega⟩,fun h=>by rw[at1 _ _ (by omega),gL0]⟩
 ·rcases side k hk with ⟨i,hi,ea,eb⟩|⟨i,hi,ea,eb⟩
  ·rw[ea,eb];exact A.left i hi q hq
  ·rw[ea,eb];exact A'.left i hi q hq
 ·rcases side k hk with ⟨i,hi,ea,eb⟩|⟨i,hi,ea,eb⟩
  ·rw[ea,eb];exact strict A A' hL hU (by rw[gU0,gL1]) (by rw[gU1,gL0]) inj hi (hvm v hv) (by rw[<-ea];exact h1) (by rw[<-eb];exact h2)
  ·rw[ea,eb];exact strict A' A hU hL (by rw[gL0,gU1]) (by rw[gL1,gU0]) inj' hi ((hvm v hv).symm) (by rw[<-ea];exact h1) (by rw[<-eb];exact h2)
 ·rcases hvm x hx with h|h
  ·exact A.sub x h
  ·exact A'.sub x h
 ·rw[at1 0 (by omega) (by omega),gL0]
  rcases lt_or_ge k (L.length-1) with h'|h'
  ·rw[at1 _ _ h'];intro h3;have:=A.up 0 k (by omega) (by omega) h0
   rw[gL0,h3]at this;omega
  ·rw[at2 _ _ h'];intro h3;have:=A'.up (k-(L.length-1)) (U.length-1) (by rw[hlen]at hk;omega) (by omega) (by rw[hlen]at hk;omega)
   rw[gU1,h3]at this;omega
 ·have hL2:L.length=2:=by omega
  have hU2:U.length=2:=by omega
  have x0:(L.dropLast++U.dropLast)[0]=t':=by rw[at1 _ _ (by omega),gL0]
  have x1:(L.dropLast++U.dropLast)[1]=z:=by
   rw[at2 _ _ (by omega)]
   simp only[hL2];exact gU0
  have y0:=A.left 0 (by omega) q hq
  have y1:=A'.left 0 (by omega) q hq
  have gl1:L[1]=z:=by simpa only [hL2] using gL1
  have gu1:U[1]=t':=by simpa only [hU2] using gU1
  simp only[Nat.zero_add]at y0 y1;rw[gL0,gl1]at y0;rw[gU0,gu1,Im]at y1;rw[x0,x1];refine⟨by omega,m,?_,?_,hs⟩
  ·have:=A.lo q hq (by omega);rwa [gL0]at this
  ·have:=A.hi q hq (by omega);rwa [gL1]at this
end Law
namespace Law
open L2 DL
def cq (p:Pt):T:=spT (gL p)
theorem lI (p:Pt):lH (cq p)=true:=rfl
theorem zg (h:SzF n p)(hn:1<=n):fg n (gL p):=⟨⟨h.1,⟨by show 1<2 ^ n;exact Nat.one_lt_two_pow (by omega)⟩⟩,h.2,⟨by show 1<2 ^ n;exact Nat.one_lt_two_pow (by omega)⟩⟩
theorem _root_.DL.SzF.mono3 (h:SzF n p)(l:n<=m):SzF m p:=⟨h.1.mono l,h.2.mono l⟩
def lT:aM:=fun ss R=>∃ ps:List Pt,ss=[.t (.lst (ps.map cq))]/\ps.length<=1000/\(∀ p∈ps,SzF 120 p)/\R (.ol ((tQ ps).reverse.map cq))
def oM:WS:=
 (aC (aF 1 (jx ap))
 (b9 (k7 (cm (ae 0)) (aG 2) (b9 (qG (Ou (kz (wB (Ha (eP dj (ac (ae 1) ap)) (wC (.int 1)))) (wB (Sq (aw vo (ac (ao aJ (ae 1) (xF jd (wC (.int 2)))) (ac (ao aJ (ae 1) (xF jd (wC (.int 1)))) (ac (ae 2) ap)))) (wC (.int 0)))))) (KA 1))
 (fm 1 (ae 2))))
 (jy 1)))
theorem AA:∀ k:List Pt,∀ x∈popTo p k,x∈k
 | [],x,h=>h
 | [b],x,h=>h
 | b::a::r,x,h=>by
  simp only[popTo]at h
  split at h
  ·exact mem_cons_of_mem _ (AA (a::r) x h)
  ·exact h
theorem uZ:∀ k:List Pt,(popTo p k).length<=k.length
 | []=>le_refl _
 | [b]=>le_refl _
 | b::a::r=>by
  simp only[popTo]
  split
  ·exact Nat.le_succ_of_le (uZ (a::r))
  ·exact le_refl _
theorem Dd (l:List Pt)(p:Pt):tQ (l++[p])=p::popTo p (tQ l):=by unfold tQ;rw[foldl_append];rfl
theorem wn (p:List Pt):∀ (k:List Pt),(∀ x∈p.foldl (fun k p=>p::popTo p k) k,x∈k\/x∈p)/\(p.foldl (fun k p=>p::popTo p k) k).length<=k.length+p.length:=by
 induction p with
 | nil=>exact fun k=>⟨fun x h=>.inl h,le_refl _⟩
 | cons a p ih=>
  intro k;obtain⟨h1,h2⟩:=ih (a::popTo a k);refine⟨fun x hx=>?_,?_⟩
  ·rcases h1 x hx with h|h
   ·rcases mem_cons.mp h with rfl|h
    ·exact .inr mem_cons_self
    ·exact .inl (AA _ x h)
   ·exact .inr (mem_cons_of_mem _ h)
  ·have:=uZ (p:=a) k;rw[List.foldl_cons];simp only[length_cons]at h2 ⊢;omega
theorem Ij (l:List Pt):∀ x∈tQ l,x∈l:=fun x hx=>((wn l []).1 x hx).resolve_left (by simp)
theorem lh (l:List Pt):(tQ l).length<=l.length:=by have:=(wn l []).2;simpa [tQ] using this
theorem P3 (l:List T)(a b:T):atI (l++[a,b]) (-2)=some a:=by
 have e:uJ (l++[a,b]).length (-2)=some l.length:=by
  unfold uJ;rw[List.length_append,length_cons,length_cons,length_nil,if_neg (by decide),if_pos (by omega)]
  congr 1;omega
 unfold atI;rw[e];simp
theorem Pv:xE (l++[cq b]) (-1) R=R (.t (cq b)):=by rw[ic (CS l _),fj (lI b)]
theorem Pw:xE (l++[cq a,cq b]) (-2) R=R (.t (cq a)):=by rw[ic (P3 l _ _),fj (lI a)]
theorem Gd:Ok lT oM ["spots","kept","spot"]:=by
 rintro ss R ⟨ps,rfl,hl,hz,h⟩;show oM _ [some (.t (.lst (ps.map cq))),none,none]
 delta oM
 walk_at"d";refine⟨fun δ=>∃ r,δ=[some (.t (.lst (ps.map cq))),some (.ol ((tQ ps).reverse.map cq)),r],?_,?_⟩
 ·refine⟨fun ts δ=>∃ pre post r,ps=pre++post/\ts=post.map cq/\δ=[some (.t (.lst (ps.map cq))),some (.ol ((tQ pre).reverse.map cq)),r],⟨[],ps,_,rfl,rfl,rfl⟩,?_,?_⟩
  ·rintro δ ⟨pre,post,r,e1,e2,rfl⟩;have:post=[]:=by simpa using e2.symm
   subst this;rw[append_nil]at e1;subst e1;exact⟨r,rfl⟩
  ·rintro x ts δ ⟨pre,post,r,e1,e2,rfl⟩
   cases post with
   | nil=>cases e2
   | cons p post=>
    rw[map_cons]at e2
    cases e2
    have hpz:SzF 120 p:=hz p (by rw[e1];simp)
    have hprz:∀ x∈tQ pre,SzF 120 x:=fun x hx=>hz x (by rw[e1];exact mem_append_left _ (Ij pre x hx))
    have hlp:(tQ pre).length<=1000:=by
     have:=lh pre;have:ps.length=pre.length+(post.length+1):=by rw[e1];simp
     omega
    walk_at"d";refine⟨fun δ=>δ=[some (.t (.lst (ps.map cq))),some (.ol ((popTo p (tQ pre)).reverse.map cq)),some (.t (cq p))],?_,?_⟩
    ·refine⟨fun n δ=>∃ k,k.length=n/\popTo p k=popTo p (tQ pre)/\(∀ x∈k,SzF 120 x)/\δ=[some (.t (.lst (ps.map cq))),some (.ol (k.reverse.map cq)),some (.t (cq p))],⟨_,tQ pre,rfl,rfl,hprz,rfl⟩,?_⟩;rintro n δ ⟨k,hk,hpop,hkz,rfl⟩;have base:popTo p k=k->(fun δ=>δ=[some (S.t (.lst (ps.map cq))),some (.ol ((popTo p (tQ pre)).reverse.map cq)),some (.t (cq p))]) [some (.t (.lst (ps.map cq))),some (.ol (k.reverse.map cq)),some (.t (cq p))]:=fun e=>by
      rw[<-hpop,e]
     match k,hk,hpop,hkz,base with
     | [],hk,hpop,hkz,base=>
      refine⟨fun k=>k=false,?_,?_⟩
      ·walk_at"d"
       first|trivial|(rw[if_neg (by simp)];trivial)
      ·rintro k rfl;rw[if_neg (by decide)]
       exact base rfl
     | [b],hk,hpop,hkz,base=>
      refine⟨fun k=>k=false,?_,?_⟩
      ·walk_at"d"
       first|trivial|(rw[if_neg (by simp)];trivial)
      ·rintro k rfl;rw[if_neg (by decide)]
       exact base rfl
     | b::a::r,hk,hpop,hkz,base=>
      have el:(b::a::r).reverse.map cq=(r.reverse.map cq)++[cq a,cq b]:=by simp
      have el2:(b::a::r).reverse.map cq=((a::r).reverse.map cq)++[cq b]:=by simp
      refine⟨fun k=>k=decide (cr a b p<=0),?_,?_⟩
      ·walk_at"d";rw[if_pos (by simp;omega)]
       walk_at"d";rw[el,Pw];walk_at"d";rw[<-el,el2,Pv];walk_at"d";refine⟨gL a,gL b,gL p,rfl,zg ((hkz a (by simp)).mono3 (by decide)) (by decide),zg ((hkz b (by simp)).mono3 (by decide)) (by decide),zg (hpz.mono3 (by decide)) (by decide),?_⟩
       walk_at"d";rw[show QN (gL a) (gL b) (gL p)=cr a b p from Oh a b p]
      ·rintro k rfl
       by_cases hc:cr a b p<=0
       ·rw[if_pos (by simpa using hc)]
        walk_at"d";refine⟨by simp,r.length+1,by simp at hk;omega,a::r,rfl,?_,fun x hx=>hkz x (mem_cons_of_mem _ hx),?_⟩
        ·rw[<-hpop];simp only[popTo,if_pos hc]
        ·rw[el2,List.dropLast_concat]
       ·rw[if_neg (by simpa using hc)]
        exact base (by simp only[popTo,if_neg hc])
    ·rintro δ rfl;walk_at"d";refine⟨?_,pre++[p],post,some (.t (cq p)),by rw[e1];simp,rfl,?_⟩
     ·rw[length_map,length_reverse];have:=uZ (p:=p) (tQ pre);omega
     ·rw[Dd,reverse_cons,map_append];rfl
 ·rintro δ ⟨r,rfl⟩;walk_at"d";exact h
end Law
namespace Law
open L2 DL
def Gw (p:Pt):List Int:=[p.1,p.2]
def cU (a b:Pt):Prop:=a.1<b.1\/(a.1=b.1/\a.2<b.2)
def bS (S:List Pt):List Pt:=if S.length<2 then S else nL S
def SetOf (ps S:List Pt):Prop:=(∀ p∈S,p∈ps)/\(∀ p∈ps,p∈S)/\S.Pairwise cU
theorem M3 (a b:Pt):ST.lexB (Gw a) (Gw b)=true↔cU a b:=by
 unfold cU Gw;simp only[ST.lexB]
 by_cases h:a.1=b.1
 ·rw[if_pos h]
  by_cases h2:a.2=b.2
  ·rw[if_pos h2];constructor
   ·intro h;cases h
   ·intro h;omega
  ·rw[if_neg h2,decide_eq_true_eq];omega
 ·rw[if_neg h,decide_eq_true_eq];omega
theorem Ay {ps:List Pt}:∀ ns:List (List Int),(∀ k∈ns,k∈ps.map Gw)->∃ S:List Pt,ns=S.map Gw/\∀ p∈S,p∈ps
 | [],_=>⟨[],rfl,fun p hp=>by cases hp⟩
 | k::ns,h=>by
  obtain⟨S,e,hs⟩:=Ay ns fun k hk=>h k (mem_cons_of_mem _ hk);obtain⟨p,hp,rfl⟩:=mem_map.mp (h k mem_cons_self);exact⟨p::S,by rw[e];rfl,fun q hq=>by
   rcases mem_cons.mp hq with rfl|hq
   ·exact hp
   ·exact hs q hq⟩
theorem NK (h:Gw a=Gw b):a=b:=by
 unfold Gw at h;simp only[List.cons.injEq,and_true]at h;exact Prod.ext h.1 h.2
def vm:aM:=fun ss R=>∃ ps:List Pt,ss=[.t (.lst (ps.map aV))]/\ps.length<=63/\(∀ p∈ps,SzF 120 p)/\∀ S:List Pt,SetOf ps S->R (.ol ((bS S).map cq))
def vE:WS:=
 (aC (aF 1 (dQ 1 [] (cm (l8 (ae 0))) (aG 0) nu (aw kQ (ac (ae 0) ap))))
 (aC (iW (wB (Hc (eP dj (ac (ae 1) ap)) (wC (.int 2)))) (jy 1) bB)
 (aC (aF 2 (aw lT (ac (ae 1) ap)))
 (aC (aF 3 (aw lT (ac (qF (ae 1)) ap)))
 (bz (ao Bx (iR (ae 2) iQ (l7 (xF jd (wC (.int 1))))) (iR (ae 3) iQ (l7 (xF jd (wC (.int 1)))))))))))
theorem se {S:List Pt}(h:S.Pairwise cU):S.Nodup:=h.imp fun h e=>by subst e;unfold cU at h;omega
theorem lr (ts:List T):gU ts none (some (-1))=ts.dropLast:=by
 unfold gU;show(ts.drop 0).take (HT.sIx ts.length ts.length (some (-1))-0)=_;have:HT.sIx ts.length ts.length (some (-1))=ts.length-1:=by
  show(if (-1:Int)<0 then ((-1:Int)+(ts.length:Int)).toNat else min (-1:Int).toNat ts.length)=_
  rw[if_pos (by decide)];omega
 rw[this,List.dropLast_eq_take];simp
theorem Jw:Ok vm vE ["points","spots","under","above"]:=by
 rintro ss R ⟨ps,rfl,hl,hz,h⟩;show vE _ [some (.t (.lst (ps.map aV))),none,none,none]
 delta vE
 walk_at"d";refine⟨2,ps.map Gw,by decide,by rw[map_map];rfl,fun ks hk=>by obtain⟨p,_,rfl⟩:=mem_map.mp hk;rfl,by rw[length_map];omega,fun ns n1 n2 _ n3=>?_⟩
 replace n3:=n3 (by rw[length_map];exact hl)
 obtain⟨S,rfl,hS⟩:=Ay ns n1;have hset:SetOf ps S:=⟨hS,fun p hp=>by
  obtain⟨q,hq,e⟩:=mem_map.mp (n2 (Gw p) (mem_map.mpr ⟨p,hp,rfl⟩));rw[<-NK e];exact hq,by
  rw[pairwise_map]at n3;exact n3.imp fun h=>(M3 _ _).mp h⟩
 have hSl:S.length<=63:=le_trans (List.Nodup.length_le_of_subset (se hset.2.2) hset.1) hl;have hSz:∀ p∈S,SzF 120 p:=fun p hp=>hz p (hS p hp);have e:(S.map Gw).map n5=S.map aV:=by rw[map_map];rfl
 rw[e];walk_at"d";refine eU (h:=cq) (fun δ=>∃ r,δ=[r]) (fun p _=>lI p) (by omega) ⟨_,rfl⟩ ?_ ?_
 ·rintro p hp δ ⟨r,rfl⟩ Y hY;walk_at"d";refine⟨p,rfl,?_⟩;walk_at"d";exact hY _ ⟨_,rfl⟩
 have hR:=h S hset;unfold bS at hR;walk_at"d"
 by_cases h2:S.length<2
 ·rw[if_pos h2]at hR;rw[if_pos (by rw[length_map];omega)]
  walk_at"d";exact hR
 ·rw[if_neg h2]at hR;rw[if_neg (by rw[length_map];omega)]
  walk_at"d";refine⟨S,rfl,by omega,hSz,?_⟩
  have pu:∀ l:List Pt,cL (l.map cq)=true:=bI fun p=>lI p;have g:∀ l:List Pt,got (.ol (l.map cq))=.ol (l.map cq):=fun l=>fb _ (pu l);dsimp only;rw[g];walk_at"d";refine⟨pu S,S.reverse,by rw[List.map_reverse],by rw[length_reverse];omega,fun p hp=>hSz p (List.mem_reverse.mp hp),?_⟩
  dsimp only;rw[g];walk_at"d";refine⟨pu _,pu _,?_,?_⟩
  ·rw[lr,lr,length_dropLast,length_dropLast,length_map,length_map,length_reverse,length_reverse];have a1:=lh S;have a2:=lh S.reverse;rw[length_reverse]at a2;omega
  ·rw[lr,lr,<-List.map_dropLast,<-List.map_dropLast,<-map_append];exact hR
end Law
namespace Law
open L2 DL
def a6 (a b c:Hf):Int:=a.1*(b.2.1*c.2.2-c.2.1*b.2.2)-a.2.1*(b.1*c.2.2-c.1*b.2.2)+a.2.2*(b.1*c.2.1-c.1*b.2.1)
def k9 (a b:Hf):Bool:=if a.1*b.2.2≠b.1*a.2.2 then decide (a.1*b.2.2<b.1*a.2.2) else decide (a.2.1*b.2.2<b.2.1*a.2.2)
def qM (s:Fr):Prop:=0<s.2/\Int.gcd s.1 s.2=1
def bA (s:aS):Prop:=qM s.1/\qM s.2
end Law
namespace Law
open L2 DL
def dX {α:Type}(H:List α)(k:Nat)(hk:k<H.length):α:=if h:k=0 then H[H.length-1] else H[k-1]
structure Ll (F:List Hf):Prop where
 fst:∀ k (hk:k<F.length),0<k->k9 F[0] F[k]=true
 trn:2<F.length->∀ k (hk:k<F.length),∀ v∈F,v≠F[k]->v≠dX F k hk->0<a6 (dX F k hk) F[k] v
structure bF (F:List Hf) (q:Hf):Prop where
 ne:0<F.length
 few:F.length<3->a6 F[0] F[F.length-1] q=0/\k9 q F[0]=false/\k9 F[F.length-1] q=false
 all:3<=F.length->∀ k (hk:k<F.length),0<=a6 (dX F k hk) F[k] q
theorem N9 (h:fg n s):du (n+n) (af s):=⟨Sz.mul h.1.1 h.2.2,Sz.mul h.2.1 h.1.2,Sz.mul h.1.2 h.2.2⟩
theorem lY (h:du n s)(l:n<=m):du m s:=⟨h.1.mono l,h.2.1.mono l,h.2.2.mono l⟩
theorem qd (hk:k<F.length):dX F k hk∈F:=by
 unfold dX
 split <;> exact getElem_mem _
end Law
namespace Law
open L2 DL
set_option maxHeartbeats 4000000
theorem n9 (h:Int.gcd a b=1)(hd:b ∣ a*c):b ∣ c:=by
 have h1:b.natAbs ∣ a.natAbs*c.natAbs:=by rw[<-Int.natAbs_mul];exact natAbs_dvd_natAbs.mpr hd
 have h2:Nat.Coprime b.natAbs a.natAbs:=by
  rw[Nat.coprime_comm];exact h
 exact natAbs_dvd_natAbs.mp (h2.dvd_of_dvd_mul_left h1)
theorem Ac (hp:qM p)(hq:qM q)(h:p.1*q.2=q.1*p.2):p=q:=by
 obtain⟨p0,p1⟩:=hp;obtain⟨q0,q1⟩:=hq;have d1:p.2 ∣ q.2:=n9 p1 ⟨q.1,by rw[h,mul_comm]⟩
 have d2:q.2 ∣ p.2:=n9 q1 ⟨p.1,by rw[<-h,mul_comm]⟩
 have e:p.2=q.2:=Int.dvd_antisymm (by omega) (by omega) d1 d2
 rw[e]at h;have:=eq_of_mul_eq_mul_right (by omega) h
 exact Prod.ext this e
theorem Mf (hb:b≠0):lj a b≠0:=by
 have:=gB (a:=a) (.inr hb);unfold lj
 split <;> omega
theorem zL (a b:Int):lj a b ∣ a/\lj a b ∣ b:=by
 unfold lj
 split
 ·exact⟨Int.neg_dvd.mpr (gcd_dvd_left _ _),Int.neg_dvd.mpr (gcd_dvd_right _ _)⟩
 ·exact⟨gcd_dvd_left _ _,gcd_dvd_right _ _⟩
theorem ww (hb:b≠0):qM (gA a b):=by
 have hc:=Mf (a:=a) hb;obtain⟨d1,d2⟩:=zL a b;have e1:=cf d1;have e2:=cf d2;unfold gA qM;dsimp only;generalize a.fdiv (lj a b)=x at e1 ⊢;generalize b.fdiv (lj a b)=y at e2 ⊢;constructor
 ·have hs:(b<0/\lj a b<0)\/(0<b/\0<lj a b):=by
   have:=gB (a:=a) (.inr hb);unfold lj at hc ⊢
   split <;> rename_i h <;> first|(left;omega)|(right;omega)
  rcases hs with ⟨h1,h2⟩|⟨h1,h2⟩
  ·rcases lt_or_le 0 y with z|z
   ·exact z
   ·have:=mul_nonneg_of_nonpos_of_nonpos z (le_of_lt h2);omega
  ·rcases lt_or_le 0 y with z|z
   ·exact z
   ·have:=mul_nonpos_of_nonpos_of_nonneg z (le_of_lt h2);omega
 ·have eg:Int.gcd a b=Int.gcd x y*(lj a b).natAbs:=by
   have:=Int.gcd_mul_right x (lj a b) y;rw[e1,e2]at this;exact this
  have en:(lj a b).natAbs=Int.gcd a b:=by
   unfold lj
   split
   ·rw[Int.natAbs_neg,Int.natAbs_natCast]
   ·rw[Int.natAbs_natCast]
  rw[en]at eg;have hg:0<Int.gcd a b:=by have:=gB (a:=a) (.inr hb);omega
  exact(Nat.eq_of_mul_eq_mul_right hg (by rw[Nat.one_mul];exact eg)).symm
def OI (p q:Fr):Bool:=decide (p.1*q.2<q.1*p.2)
def M9 (p q:aS):Bool:=if p.1=q.1 then OI p.2 q.2 else OI p.1 q.1
theorem pW {a b c:Int}(hc:0<c):a*c<b*c↔a<b:=⟨fun h=>Int.lt_of_mul_lt_mul_right h (le_of_lt hc),fun h=>Int.mul_lt_mul_of_pos_right h hc⟩
theorem EY {p q:aS}(hp:bA p)(hq:bA q):M9 p q=k9 (af p) (af q):=by
 obtain⟨⟨x0,x1⟩,⟨y0,y1⟩⟩:=p;obtain⟨⟨u0,u1⟩,⟨v0,v1⟩⟩:=q;have hx:0<x1:=hp.1.1;have hy:0<y1:=hp.2.1;have hu:0<u1:=hq.1.1;have hv:0<v1:=hq.2.1;have hyv:0<y1*v1:=mul_pos hy hv;have hxu:0<x1*u1:=mul_pos hx hu;unfold M9 k9 af OI;dsimp only;have a1:x0*y1*(u1*v1)=(x0*u1)*(y1*v1):=by grind
 have a2:u0*v1*(x1*y1)=(u0*x1)*(y1*v1):=by grind
 have b1:y0*x1*(u1*v1)=(y0*v1)*(x1*u1):=by grind
 have b2:v0*u1*(x1*y1)=(v0*y1)*(x1*u1):=by grind
 rw[a1,a2,b1,b2]
 by_cases e:((x0,x1):Fr)=(u0,u1)
 ·rw[if_pos e];have e0:x0=u0:=congrArg Prod.fst e;have e1:x1=u1:=congrArg Prod.snd e;subst e0;subst e1;rw[if_neg (by simp)]
  exact decide_eq_decide.mpr (pW hxu).symm
 ·rw[if_neg e];have hne:x0*u1*(y1*v1)≠u0*x1*(y1*v1):=fun h=>e (Ac hp.1 hq.1 (eq_of_mul_eq_mul_right (by omega) h))
  rw[if_pos hne];exact decide_eq_decide.mpr (pW hyv).symm
end Law
namespace Law
open L2 DL
set_option maxHeartbeats 1000000
theorem aT (a b c:Hf):a6 a b c=a6 b c a:=by unfold a6;grind
theorem pj (a b:Hf):a6 a a b=0:=by unfold a6;grind
theorem gz (a b:Hf):a6 a b a=0:=by unfold a6;grind
theorem dL (a b:Hf):a6 a b b=0:=by unfold a6;grind
theorem Iz (a b c:Hf):a6 a c b=-a6 a b c:=by unfold a6;grind
theorem PJ (a e b c d:Hf):a6 a e c*a6 a b d=a6 a e b*a6 a c d+a6 a e d*a6 a b c:=by unfold a6;grind
def vH (u p q:Hf):Prop:=∃ κ α β:Int,0<κ/\0<α/\0<β/\κ*u.1=α*p.1+β*q.1/\κ*u.2.1=α*p.2.1+β*q.2.1/\κ*u.2.2=α*p.2.2+β*q.2.2
theorem pU (u:Hf):vH u u u:=⟨2,1,1,by decide,by decide,by decide,by walk_at"o",by walk_at"o",by walk_at"o"⟩
theorem uQ (e1:κ*u.1=α*p.1+β*q.1)(e2:κ*u.2.1=α*p.2.1+β*q.2.1)(e3:κ*u.2.2=α*p.2.2+β*q.2.2)(v w:Hf):κ*a6 u v w=α*a6 p v w+β*a6 q v w:=by
 unfold a6;have h:κ*(u.1*(v.2.1*w.2.2-w.2.1*v.2.2)-u.2.1*(v.1*w.2.2-w.1*v.2.2)+u.2.2*(v.1*w.2.1-w.1*v.2.1))=κ*u.1*(v.2.1*w.2.2-w.2.1*v.2.2)-κ*u.2.1*(v.1*w.2.2-w.1*v.2.2)+κ*u.2.2*(v.1*w.2.1-w.1*v.2.1):=by grind
 rw[h,e1,e2,e3];grind
theorem dA {κ x:Int}(hk:0<κ)(h:0<κ*x):0<x:=by
 rcases lt_or_le 0 x with z|z
 ·exact z
 ·have:=mul_nonpos_of_nonneg_of_nonpos (le_of_lt hk) z;walk_at"o"
theorem cW {κ x:Int}(hk:0<κ)(h:0<=κ*x):0<=x:=by
 rcases lt_or_le x 0 with z|z
 ·have:=mul_neg_of_pos_of_neg hk z;walk_at"o"
 ·exact z
theorem uR {u p q:Hf}(h:vH u p q)(v w:Hf)(h1:0<=a6 p v w)(h2:0<=a6 q v w):0<=a6 u v w:=by
 obtain⟨κ,α,β,k0,a0,b0,e1,e2,e3⟩:=h;have e:=uQ e1 e2 e3 v w;have x1:=mul_nonneg (le_of_lt a0) h1;have x2:=mul_nonneg (le_of_lt b0) h2;exact cW k0 (by walk_at"o")
theorem oz {u p q:Hf}(h:vH u p q)(v w:Hf)(h1:0<=a6 p v w)(h2:0<=a6 q v w)(h3:0<a6 p v w\/0<a6 q v w):0<a6 u v w:=by
 obtain⟨κ,α,β,k0,a0,b0,e1,e2,e3⟩:=h;have e:=uQ e1 e2 e3 v w;have x1:=mul_nonneg (le_of_lt a0) h1;have x2:=mul_nonneg (le_of_lt b0) h2;refine dA k0 ?_
 rcases h3 with h3|h3
 ·have:=mul_pos a0 h3;walk_at"o"
 ·have:=mul_pos b0 h3;walk_at"o"
theorem pV (h:vH u p q):a6 p q u=0:=by
 obtain⟨κ,α,β,k0,a0,b0,e1,e2,e3⟩:=h;have e:=uQ e1 e2 e3 p q;rw[pj,gz,mul_zero,mul_zero,aT u p q]at e
 rcases mul_eq_zero.mp (show κ*a6 p q u=0 by walk_at"o") with z | z
 ·walk_at"o"
 ·exact z
theorem RO (hu:vH u p p')(hv:vH v q q')(hw:vH w r r')(n:∀ x,x=p\/x=p'->∀ y,y=q\/y=q'->∀ z,z=r\/z=r'->0<=a6 x y z)
  (s:∃ x y z,(x=p\/x=p')/\(y=q\/y=q')/\(z=r\/z=r')/\0<a6 x y z):0<a6 u v w:=by
 obtain⟨x0,y0,z0,hx0,hy0,hz0,h0⟩:=s;have nw:∀ x,x=p\/x=p'->∀ y,y=q\/y=q'->0<=a6 x y w:=fun x hx y hy=>by
  rw[<-aT w x y];refine uR hw x y ?_ ?_
  ·rw[aT];exact n x hx y hy r (.inl rfl)
  ·rw[aT];exact n x hx y hy r' (.inr rfl)
 have pw:0<a6 x0 y0 w:=by
  rw[<-aT w x0 y0];refine oz hw x0 y0 ?_ ?_ ?_
  ·rw[aT];exact n x0 hx0 y0 hy0 r (.inl rfl)
  ·rw[aT];exact n x0 hx0 y0 hy0 r' (.inr rfl)
  ·rcases hz0 with e|e
   ·left;rw[aT,<-e];exact h0
   ·right;rw[aT,<-e];exact h0
 have nv:∀ x,x=p\/x=p'->0<=a6 x v w:=fun x hx=>by
  rw[aT];refine uR hv w x ?_ ?_
  ·rw[<-aT];exact nw x hx q (.inl rfl)
  ·rw[<-aT];exact nw x hx q' (.inr rfl)
 have pv:0<a6 x0 v w:=by
  rw[aT];refine oz hv w x0 ?_ ?_ ?_
  ·rw[<-aT];exact nw x0 hx0 q (.inl rfl)
  ·rw[<-aT];exact nw x0 hx0 q' (.inr rfl)
  ·rcases hy0 with e|e
   ·left;rw[<-aT,<-e];exact pw
   ·right;rw[<-aT,<-e];exact pw
 refine oz hu v w (nv p (.inl rfl)) (nv p' (.inr rfl)) ?_
 rcases hx0 with e|e
 ·left;rw[<-e];exact pv
 ·right;rw[<-e];exact pv
def qN (P:Nat->Hf)(n:Nat):Prop:=∀ a b c,a<b->b<c->c<n->0<a6 (P a) (P b) (P c)
def bj (n i:Nat):Nat:=if i=0 then n-1 else i-1
theorem wk (hT:qN P n)(h1:a<=b)(h2:b<=c)(h3:c<n):0<=a6 (P a) (P b) (P c):=by
 rcases lt_or_ge a b with l1|l1
 ·rcases lt_or_ge b c with l2|l2
  ·exact le_of_lt (hT a b c l1 l2 h3)
  ·have:b=c:=by walk_at"o"
   rw[this,dL];exact Int.le_refl _
 ·have:a=b:=by walk_at"o"
  rw[this,pj];exact Int.le_refl _
theorem SO (hT:qN P n)(h2:b<=c)(h3:c<n):0<=a6 (P (n-1)) (P b) (P c):=by
 rw[aT];exact wk hT h2 (by walk_at"o") (by walk_at"o")
def lo (n:Nat)(s:Bool)(i:Nat):Nat:=if s=true then bj n i else i
theorem pR (h:a=lo n s i\/a=i):a=i\/(s=true/\a=bj n i):=by
 unfold lo at h
 cases s with
 | true=>
      rcases h with h|h
      ·exact .inr ⟨rfl,by simpa using h⟩
      ·exact .inl h
 | false=>
       rcases h with h|h
       ·exact .inl (by simpa using h)
       ·exact .inl h
theorem R7 (hn:3<=n)(hT:qN P n)(hu:vH u (P (lo n su i)) (P i))(hv:vH v (P (lo n sv j)) (P j))(hw:vH w (P (lo n sw k)) (P k))(hk:k<n)
  (ij:i<j\/(i=j/\su=true/\sv=false)) (jk:j<k\/(j=k/\sv=true/\sw=false))
  (x1:su=true->i=j->sw=false->k≠bj n i) (x2:sv=true->j=k->su=false->i≠bj n j):0<a6 u v w:=by
 refine RO hu hv hw ?_ ?_
 ·intro x hx y hy z hz;obtain⟨a,rfl,ha⟩:∃ a,x=P a/\(a=lo n su i\/a=i):=hx.elim (fun e=>⟨_,e,.inl rfl⟩) (fun e=>⟨_,e,.inr rfl⟩);obtain⟨b,rfl,hb⟩:∃ b,y=P b/\(b=lo n sv j\/b=j):=hy.elim (fun e=>⟨_,e,.inl rfl⟩) (fun e=>⟨_,e,.inr rfl⟩);obtain⟨c,rfl,hc⟩:∃ c,z=P c/\(c=lo n sw k\/c=k):=hz.elim (fun e=>⟨_,e,.inl rfl⟩) (fun e=>⟨_,e,.inr rfl⟩);have ha:=pR ha;have hb:=pR hb;have hc:=pR hc;have hbj:i<=b/\b<=j:=by
   rcases hb with h|⟨h,h'⟩
   ·walk_at"o"
   ·rcases ij with l|⟨_,_,l⟩
    ·unfold bj at h';rw[if_neg (by walk_at"o")]at h';walk_at"o"
    ·rw[h]at l;cases l
  have hck:b<=c/\c<=k:=by
   rcases hc with h|⟨h,h'⟩
   ·walk_at"o"
   ·rcases jk with l|⟨_,_,l⟩
    ·unfold bj at h';rw[if_neg (by walk_at"o")]at h';walk_at"o"
    ·rw[h]at l;cases l
  rcases ha with h|⟨h,h'⟩
  ·exact wk hT (by walk_at"o") hck.1 (by walk_at"o")
  ·unfold bj at h'
   split at h'
   ·rw[h'];exact SO hT hck.1 (by walk_at"o")
   ·exact wk hT (by walk_at"o") hck.1 (by walk_at"o")
 ·have hlo:∀ (s:Bool) (m:Nat),s=true->lo n s m=bj n m:=fun s m h=>by unfold lo;rw[if_pos h]
  rcases ij with l1|⟨e1,e2,e3⟩
  ·rcases jk with l2|⟨f1,f2,f3⟩
   ·exact⟨P i,P j,P k,.inr rfl,.inr rfl,.inr rfl,hT i j k l1 l2 hk⟩
   ·have hl:lo n sv j=j-1:=by rw[hlo sv j f2];unfold bj;rw[if_neg (by walk_at"o")]
    by_cases h:i<j-1
    ·exact⟨P i,P (j-1),P k,.inr rfl,.inl (by rw[hl]),.inr rfl,hT i (j-1) k h (by walk_at"o") hk⟩
    ·have hi:i=j-1:=by walk_at"o"
     have hs:su=true:=by
      cases su with
      | true=>rfl
      | false=>exact absurd (by unfold bj;rw[if_neg (by walk_at"o")];exact hi) (x2 f2 f1 rfl)
     by_cases i0:i=0
     ·refine⟨P (n-1),P (j-1),P k,.inl (by rw[hlo su i hs];unfold bj;rw[if_pos i0]),.inl (by rw[hl]),.inr rfl,?_⟩
      rw[aT];exact hT (j-1) k (n-1) (by walk_at"o") (by walk_at"o") (by walk_at"o")
     ·exact⟨P (i-1),P (j-1),P k,.inl (by rw[hlo su i hs];unfold bj;rw[if_neg i0]),.inl (by rw[hl]),.inr rfl,hT (i-1) (j-1) k (by walk_at"o") (by walk_at"o") hk⟩
  ·have jk':j<k:=by
    rcases jk with l|⟨_,f,_⟩
    ·exact l
    ·rw[f]at e3;cases e3
   by_cases i0:i=0
   ·have hl:lo n su i=n-1:=by rw[hlo su i e2];unfold bj;rw[if_pos i0]
    by_cases hk1:k<n-1
    ·refine⟨P (n-1),P j,P k,.inl (by rw[hl]),.inr rfl,.inr rfl,?_⟩
     rw[aT];exact hT j k (n-1) jk' hk1 (by walk_at"o")
    ·have hs:sw=true:=by
      cases sw with
      | true=>rfl
      | false=>exact absurd (by unfold bj;rw[if_pos i0];walk_at"o") (x1 e2 e1 rfl)
     refine⟨P (n-1),P j,P (k-1),.inl (by rw[hl]),.inr rfl,.inl (by rw[hlo sw k hs];unfold bj;rw[if_neg (by walk_at"o")]),?_⟩
     rw[aT];exact hT j (k-1) (n-1) (by walk_at"o") (by walk_at"o") (by walk_at"o")
   ·exact⟨P (i-1),P j,P k,.inl (by rw[hlo su i e2];unfold bj;rw[if_neg i0]),.inr rfl,.inr rfl,hT (i-1) j k (by walk_at"o") jk' hk⟩
theorem di (hT:qN P n)(hk:k<n)(hj:j<n)(h1:j≠k)(h2:j≠bj n k):0<a6 (P (bj n k)) (P k) (P j):=by
 unfold bj at *
 split at h2
 ·rename_i k0;rw[if_pos k0,aT];exact hT k j (n-1) (by walk_at"o") (by walk_at"o") (by walk_at"o")
 ·rename_i k0;rw[if_neg k0]
  rcases lt_or_ge j k with l|l
  ·rw[<-aT];exact hT j (k-1) k (by walk_at"o") (by walk_at"o") hk
  ·exact hT (k-1) k j (by walk_at"o") (by walk_at"o") hj
theorem ip (hT:qN P n)(hk:k<n)(hj:j<n):0<=a6 (P (bj n k)) (P k) (P j):=by
 by_cases h1:j=k
 ·rw[h1,dL];exact Int.le_refl _
 ·by_cases h2:j=bj n k
  ·rw[h2,gz];exact Int.le_refl _
  ·exact le_of_lt (di hT hk hj h1 h2)
theorem K6 (hn:3<=n)(hT:qN P n)(hi:i<n)(hj:j<n)(h:i≠j):P i≠P j:=fun e=>by
 obtain⟨m,hm,h1,h2⟩:∃ m,m<n/\m≠i/\m≠j:=by
  by_cases a:0≠i/\0≠j
  ·exact⟨0,by walk_at"o",a⟩
  ·by_cases b:1≠i/\1≠j
   ·exact⟨1,by walk_at"o",b⟩
   ·exact⟨2,by walk_at"o",by walk_at"o",by walk_at"o"⟩
 have sorted:∀ a b c,a<b->b<c->c<n->P a=P b\/P b=P c\/P a=P c->False:=fun a b c h1 h2 h3 e=>by
  have:=hT a b c h1 h2 h3
  rcases e with e|e|e
  ·rw[e,pj]at this;walk_at"o"
  ·rw[e,dL]at this;walk_at"o"
  ·rw[e,gz]at this;walk_at"o"
 rcases lt_trichotomy i j with l|l|l
 ·rcases lt_or_ge m i with q|q
  ·exact sorted m i j q l hj (.inr (.inl e))
  ·rcases lt_or_ge m j with q'|q'
   ·exact sorted i m j (by walk_at"o") q' hj (.inr (.inr e))
   ·exact sorted i j m l (by walk_at"o") hm (.inl e)
 ·exact h l
 ·rcases lt_or_ge m j with q|q
  ·exact sorted m j i q l hi (.inr (.inl e.symm))
  ·rcases lt_or_ge m i with q'|q'
   ·exact sorted j m i (by walk_at"o") q' hi (.inr (.inr e.symm))
   ·exact sorted j i m l (by walk_at"o") hm (.inl e.symm)
theorem cB (h:k<n):bj n k<n:=by unfold bj;split <;> walk_at"o"
theorem iA (h:3<=n)(hk:k<n):bj n k≠k/\bj n (bj n k)≠k/\bj n (bj n k)≠bj n k:=by
 unfold bj;refine⟨?_,?_,?_⟩
 ·split <;> walk_at"o"
 ·split
  ·split <;> walk_at"o"
  ·split <;> walk_at"o"
 ·split
  ·split <;> walk_at"o"
  ·split <;> walk_at"o"
def tF (F:List Hf):Prop:=∀ a b c (_:a<b) (_:b<c) (h3:c<F.length),0<a6 F[a] F[b] F[c]
theorem Cr {α:Type}{R:α->α->Prop}{f:α->Hf}{L:List α}(hp:L.Pairwise R)(h:∀ x∈L,∀ y∈L,∀ z∈L,R x y->R y z->0<a6 (f x) (f y) (f z)):tF (L.map f):=by
 intro a b c h1 h2 h3;rw[length_map]at h3;rw[getElem_map,getElem_map,getElem_map];rw[pairwise_iff_getElem]at hp;exact h _ (getElem_mem _) _ (getElem_mem _) _ (getElem_mem _) (hp a b (by walk_at"o") (by walk_at"o") h1) (hp b c (by walk_at"o") (by walk_at"o") h2)
theorem fU {F:List Hf}(R:Ll F):tF F:=by
 by_cases hn:F.length<3
 ·intro a b c h1 h2 h3;walk_at"o"
 have hn:3<=F.length:=by walk_at"o"
 have trn:=R.trn (by walk_at"o")
 have ne0:∀ k (hk:k<F.length),0<k->F[0]≠F[k]:=fun k hk h0 e=>by
  have:=R.fst k hk h0;rw[<-e]at this;unfold k9 at this;simp at this
 have ed:∀ k (hk:k<F.length) (h0:0<k) v,v∈F->v≠F[k]->v≠F[k-1]->0<a6 F[k-1] F[k] v:=fun k hk h0 v hv h1 h2=>by
  have:=trn k hk v hv h1 (by unfold dX;rw[dif_neg (by walk_at"o")];exact h2)
  unfold dX at this;rw[dif_neg (by walk_at"o")]at this
  exact this
 have fan:∀ (a:Nat) (ha:a+1<F.length),(∀ c (hc:c<F.length),a+1<c->0<a6 F[a] F[a+1] F[c])->(∀ c (hc:c+1<F.length),a<c->0<a6 F[a] F[c] F[c+1])->∀ b c (_:a<b) (_:b<c) (hc:c<F.length),0<a6 F[a] F[b] F[c]:=by
  intro a ha hA hB b c hab hbc
  induction c with
  | zero=>walk_at"o"
  | succ c ih=>
   intro hc
   by_cases e:b=c
   ·subst e;exact hB b hc hab
   ·have i1:=ih (by walk_at"o") (by walk_at"o")
    by_cases eb:b=a+1
    ·subst eb;exact hA (c+1) hc (by walk_at"o")
    ·have q1:=hA b (by walk_at"o") (by walk_at"o")
     have q2:=hA c (by walk_at"o") (by walk_at"o")
     have q3:=hA (c+1) hc (by walk_at"o")
     have q4:=hB c hc (by walk_at"o")
     have pl:=PJ F[a] F[a+1] F[b] F[c] F[c+1];have m1:=mul_pos q1 q4;have m2:=mul_pos q3 i1;exact dA q2 (by walk_at"o")
 have B0:∀ c (hc:c+1<F.length),0<c->0<a6 F[0] F[c] F[c+1]:=fun c hc h0=>by
  have:=ed (c+1) hc (by walk_at"o") F[0] (getElem_mem _) (ne0 _ hc (by walk_at"o")) (ne0 c (by walk_at"o") h0)
  rw[<-aT]at this;exact this
 have A0:∀ c (hc:c<F.length),1<c->0<a6 F[0] F[1] F[c]:=fun c hc h1=>by
  have nn:∀ c (hc:c<F.length),1<=c->0<=a6 F[0] F[1] F[c]:=fun c hc h1=>by
   by_cases e:F[c]=F[1]
   ·rw[e,dL];exact Int.le_refl _
   ·exact le_of_lt (ed 1 (by walk_at"o") (by walk_at"o") F[c] (getElem_mem _) e (fun e'=>ne0 c hc (by walk_at"o") e'.symm))
  by_cases e:F[c]=F[1]
  ·exfalso;obtain⟨d,rfl⟩:∃ d,c=d+1:=⟨c-1,by walk_at"o"⟩
   have b:=B0 d hc (by walk_at"o")
   rw[e,Iz]at b;have:=nn d (by walk_at"o") (by walk_at"o")
   walk_at"o"
  ·exact ed 1 (by walk_at"o") (by walk_at"o") F[c] (getElem_mem _) e (fun e'=>ne0 c hc (by walk_at"o") e'.symm)
 have T0:=fan 0 (by walk_at"o") A0 B0
 have ne:∀ b c (hb:b<F.length) (hc:c<F.length),b<c->F[b]≠F[c]:=fun b c hb hc h e=>by
  by_cases b0:b=0
  ·subst b0;exact ne0 c hc h e
  ·have:=T0 b c (by walk_at"o") h hc
   rw[e,dL]at this;walk_at"o"
 intro a b c h1 h2 h3;refine fan a (by walk_at"o") (fun c hc h=>?_) (fun c hc h=>?_) b c h1 h2 h3
 ·exact ed (a+1) (by walk_at"o") (by walk_at"o") F[c] (getElem_mem _) (fun e=>ne (a+1) c (by walk_at"o") hc h e.symm) (fun e=>ne a c (by walk_at"o") hc (by walk_at"o") e.symm)
 ·have:=ed (c+1) hc (by walk_at"o") F[a] (getElem_mem _) (ne a (c+1) (by walk_at"o") hc (by walk_at"o")) (ne a c (by walk_at"o") (by walk_at"o") h)
  rw[<-aT]at this;exact this
theorem yW (hT:tF F)(h2:2<F.length)(k:Nat)(hk:k<F.length)(v:Hf)(hv:v∈F)(h1:v≠F[k])(h3:v≠dX F k hk):0<a6 (dX F k hk) F[k] v:=by
 obtain⟨j,hj,rfl⟩:=getElem_of_mem hv;have hP:qN (fun i=>F.getD i (0,0,0)) F.length:=fun a b c q1 q2 q3=>by
  have:=hT a b c q1 q2 q3;simp only[getD_eq_getElem?_getD,getElem?_eq_getElem (show a<F.length by walk_at"o"),getElem?_eq_getElem (show b<F.length by walk_at"o"),getElem?_eq_getElem q3,Option.getD_some]
  exact this
 have g:∀ i (hi:i<F.length),F.getD i (0,0,0)=F[i]:=fun i hi=>by simp[getD_eq_getElem?_getD,getElem?_eq_getElem hi]
 have hpv:dX F k hk=F.getD (bj F.length k) (0,0,0):=by
  rw[g _ (cB hk)];unfold dX bj
  split <;> rename_i e
  ·simp[e]
  ·simp[e]
 rw[hpv]at h3 ⊢;have:=di hP hk hj (fun e=>h1 (by subst e;rfl)) (fun e=>h3 (by rw[<-e,g _ hj]))
 rw[g _ hj,g _ hk]at this;exact this
end Law
namespace Law
open L2 DL
set_option maxHeartbeats 1000000
def hV (x:Int):Int:=if x<0 then -x else x
theorem mw (h:x≠0):0<hV x:=by unfold hV;split <;> omega
def K2 (p q:Fr)(a b:Int):Fr:=gA (p.1*q.2*a+q.1*p.2*b) (p.2*q.2*(a+b))
def dF (h:Hf)(p q:aS):aS:=(K2 p.1 q.1 (hV (a5 h q)*(p.1.2*p.2.2)) (hV (a5 h p)*(q.1.2*q.2.2)),K2 p.2 q.2 (hV (a5 h q)*(p.1.2*p.2.2)) (hV (a5 h p)*(q.1.2*q.2.2)))
theorem Ar (p q:Fr)(a b:Int):K2 p q a b=K2 q p b a:=by
 unfold K2;have e1:p.1*q.2*a+q.1*p.2*b=q.1*p.2*b+p.1*q.2*a:=Int.add_comm _ _;have e2:p.2*q.2*(a+b)=q.2*p.2*(b+a):=by rw[mul_comm p.2,Int.add_comm a]
 rw[e1,e2]
theorem oe (h:Hf)(p q:aS):dF h p q=dF h q p:=by
 unfold dF;rw[Ar p.1,Ar p.2]
theorem om (hb:0<b):∃ g:Int,0<g/\a=g*(gA a b).1/\b=g*(gA a b).2:=by
 have hg:0<(Int.gcd a b:Int):=by have:=gB (a:=a) (b:=b) (.inr (by omega));omega
 have hc:lj a b=(Int.gcd a b:Int):=by unfold lj;rw[if_neg (by omega)]
 obtain⟨d1,d2⟩:=zL a b;have e1:=cf d1;have e2:=cf d2;refine⟨lj a b,by omega,?_,?_⟩
 ·unfold gA;dsimp only;rw[mul_comm];exact e1.symm
 ·unfold gA;dsimp only;rw[mul_comm];exact e2.symm
theorem SE (px0 px1 py1 qx0 qx1 qy1 A B:Int):(px0*qx1*(A*(px1*py1))+qx0*px1*(B*(qx1*qy1)))*(py1*qy1*(A*(px1*py1)+B*(qx1*qy1)))=(A*(px1*py1)+B*(qx1*qy1))*(px1*py1*(qx1*qy1))*(A*(px0*py1)+B*(qx0*qy1)):=by grind
theorem SF (py0 px1 py1 qy0 qx1 qy1 A B:Int):(py0*qy1*(A*(px1*py1))+qy0*py1*(B*(qx1*qy1)))*(px1*qx1*(A*(px1*py1)+B*(qx1*qy1)))=(A*(px1*py1)+B*(qx1*qy1))*(px1*py1*(qx1*qy1))*(A*(py0*px1)+B*(qy0*qx1)):=by grind
theorem SG (px1 py1 qx1 qy1 A B:Int):px1*qx1*(A*(px1*py1)+B*(qx1*qy1))*(py1*qy1*(A*(px1*py1)+B*(qx1*qy1)))=(A*(px1*py1)+B*(qx1*qy1))*(px1*py1*(qx1*qy1))*(A*(px1*py1)+B*(qx1*qy1)):=by grind
theorem zM (op:bA p)(oq:bA q)(hp:a5 h p≠0)(hq:a5 h q≠0) :
  bA (dF h p q)/\∃ κ c:Int,0<κ/\0<c/\κ*(af (dF h p q)).1=c*(hV (a5 h q)*(af p).1+hV (a5 h p)*(af q).1)/\κ*(af (dF h p q)).2.1=c*(hV (a5 h q)*(af p).2.1+hV (a5 h p)*(af q).2.1)/\κ*(af (dF h p q)).2.2=c*(hV (a5 h q)*(af p).2.2+hV (a5 h p)*(af q).2.2):=by
 obtain⟨⟨px0,px1⟩,⟨py0,py1⟩⟩:=p;obtain⟨⟨qx0,qx1⟩,⟨qy0,qy1⟩⟩:=q;have p1:0<px1:=op.1.1;have p2:0<py1:=op.2.1;have q1:0<qx1:=oq.1.1;have q2:0<qy1:=oq.2.1;have A0:=mw hq;have B0:=mw hp;unfold dF af;generalize hV (a5 h ((qx0,qx1),qy0,qy1))=A at A0;generalize hV (a5 h ((px0,px1),py0,py1))=B at B0;unfold K2;dsimp only;have pp:0<px1*py1:=mul_pos p1 p2;have qq:0<qx1*qy1:=mul_pos q1 q2;have W0:0<A*(px1*py1)+B*(qx1*qy1):=by
  have:=mul_pos A0 pp;have:=mul_pos B0 qq;omega
 have bx:0<px1*qx1*(A*(px1*py1)+B*(qx1*qy1)):=mul_pos (mul_pos p1 q1) W0;have by':0<py1*qy1*(A*(px1*py1)+B*(qx1*qy1)):=mul_pos (mul_pos p2 q2) W0
 have ox:=ww (a:=px0*qx1*(A*(px1*py1))+qx0*px1*(B*(qx1*qy1))) (b:=px1*qx1*(A*(px1*py1)+B*(qx1*qy1))) (by omega)
 have oy:=ww (a:=py0*qy1*(A*(px1*py1))+qy0*py1*(B*(qx1*qy1))) (b:=py1*qy1*(A*(px1*py1)+B*(qx1*qy1))) (by omega)
 obtain⟨gx,gx0,ex1,ex2⟩:=om (a:=px0*qx1*(A*(px1*py1))+qx0*px1*(B*(qx1*qy1))) bx;obtain⟨gy,gy0,ey1,ey2⟩:=om (a:=py0*qy1*(A*(px1*py1))+qy0*py1*(B*(qx1*qy1))) by'
 refine⟨⟨ox,oy⟩,gx*gy,(A*(px1*py1)+B*(qx1*qy1))*(px1*py1*(qx1*qy1)),mul_pos gx0 gy0,mul_pos W0 (mul_pos pp qq),?_,?_,?_⟩
 ·rw[show ∀ a d:Int,gx*gy*(a*d)=gx*a*(gy*d) from fun a d=>by grind,<-ex1,<-ey2]
  exact SE ..
 ·rw[show ∀ a d:Int,gx*gy*(a*d)=gy*a*(gx*d) from fun a d=>by grind,<-ey1,<-ex2]
  exact SF ..
 ·rw[show ∀ a d:Int,gx*gy*(a*d)=gx*a*(gy*d) from fun a d=>by grind,<-ex2,<-ey2]
  exact SG ..
theorem eE (h:Hf)(s:aS):a5 h s=h.1*(af s).1+h.2.1*(af s).2.1-h.2.2*(af s).2.2:=by
 unfold a5 af;dsimp only;grind
def i6 (h:Hf)(p q:aS):Prop:=sgn (a5 h p)*sgn (a5 h q)<0
def mn (h:Hf)(q:aS):Prop:=sgn (a5 h q)>=0
instance (h:Hf) (p q:aS):Decidable (i6 h p q):=inferInstanceAs (Decidable (_<_))
instance (h:Hf) (q:aS):Decidable (mn h q):=inferInstanceAs (Decidable (_>=_))
theorem ci:i6 h p q↔(0<a5 h p/\a5 h q<0)\/(a5 h p<0/\0<a5 h q):=by
 unfold i6 sgn
 by_cases a:a5 h p>0
 ·by_cases b:a5 h q>0
  ·simp[a,b] <;> omega
  ·by_cases c:a5 h q<0
   ·simp[a,b,c]
   ·simp[a,b,c] <;> omega
 ·by_cases a':a5 h p<0
  ·by_cases b:a5 h q>0
   ·simp[a,a',b]
   ·by_cases c:a5 h q<0
    ·simp[a,a',b,c]
    ·simp[a,a',b,c]
  ·simp[a,a']
theorem b8:mn h q↔0<=a5 h q:=by
 unfold mn sgn
 split
 ·simp;omega
 ·split <;> simp <;> omega
theorem gv (op:bA p)(oq:bA q)(ho:i6 h p q):bA (dF h p q)/\vH (af (dF h p q)) (af p) (af q)/\a5 h (dF h p q)=0:=by
 have ho:=ci.mp ho;have hp:a5 h p≠0:=by omega
 have hq:a5 h q≠0:=by omega
 obtain⟨ok,κ,c,k0,c0,e1,e2,e3⟩:=zM op oq hp hq;have A0:=mw hq;have B0:=mw hp;refine⟨ok,⟨κ,c*hV (a5 h q),c*hV (a5 h p),k0,mul_pos c0 A0,mul_pos c0 B0,by rw[e1];grind,by rw[e2];grind,by rw[e3];grind⟩,?_⟩
 have z:hV (a5 h q)*a5 h p+hV (a5 h p)*a5 h q=0:=by
  rcases ho with ⟨a,b⟩|⟨a,b⟩
  ·have x1:hV (a5 h q)=-a5 h q:=by unfold hV;rw[if_pos b]
   have x2:hV (a5 h p)=a5 h p:=by unfold hV;rw[if_neg (by omega)]
   rw[x1,x2];grind
  ·have x1:hV (a5 h q)=a5 h q:=by unfold hV;rw[if_neg (by omega)]
   have x2:hV (a5 h p)=-a5 h p:=by unfold hV;rw[if_pos a]
   rw[x1,x2];grind
 have k:κ*a5 h (dF h p q)=c*(hV (a5 h q)*a5 h p+hV (a5 h p)*a5 h q):=by
  rw[eE h (dF h p q)];generalize af (dF h p q)=f at e1 e2 e3;have t:κ*(h.1*f.1+h.2.1*f.2.1-h.2.2*f.2.2)=h.1*(κ*f.1)+h.2.1*(κ*f.2.1)-h.2.2*(κ*f.2.2):=by grind
  rw[t,e1,e2,e3];generalize hV (a5 h q)=A;generalize hV (a5 h p)=B;rw[eE h p,eE h q];grind
 rw[z,mul_zero]at k
 rcases mul_eq_zero.mp k with z|z
 ·omega
 ·exact z
theorem lJ {x a y b z c:Int}(hb:0<b)(ha:0<a)(hc:0<c)(h1:x*b<=y*a)(h2:y*c<=z*b):x*c<=z*a/\((x*b<y*a\/y*c<z*b)->x*c<z*a):=by
 have m1:=mul_le_mul_of_nonneg_right h1 (le_of_lt hc);have m2:=mul_le_mul_of_nonneg_right h2 (le_of_lt ha);have t1:x*b*c=x*c*b:=by grind
 have t2:z*b*a=z*a*b:=by grind
 have t3:y*a*c=y*c*a:=by grind
 refine⟨Int.le_of_mul_le_mul_right (show x*c*b<=z*a*b by omega) hb,fun h=>Int.lt_of_mul_lt_mul_right (a:=b) ?_ (le_of_lt hb)⟩
 rcases h with h|h
 ·have:=Int.mul_lt_mul_of_pos_right h hc;omega
 ·have:=Int.mul_lt_mul_of_pos_right h ha;omega
def Bf (a b:Hf):Prop:=a.1*b.2.2<b.1*a.2.2\/(a.1*b.2.2=b.1*a.2.2/\a.2.1*b.2.2<b.2.1*a.2.2)
theorem e9:k9 a b=true↔Bf a b:=by
 unfold k9 Bf
 split
 ·rw[decide_eq_true_eq];omega
 ·rw[decide_eq_true_eq];omega
theorem bU:k9 a b=false↔¬ Bf a b:=by
 rw[<-e9]
 cases k9 a b <;> simp
theorem Bf.trans {a b c:Hf}(ha:0<a.2.2)(hb:0<b.2.2)(hc:0<c.2.2)(h1:Bf a b)(h2:Bf b c):Bf a c:=by
 unfold Bf at *
 rcases h1 with h1|⟨h1,h1'⟩
 ·left
  refine(lJ hb ha hc (le_of_lt h1) ?_).2 (.inl h1);omega
 ·rcases h2 with h2|⟨h2,h2'⟩
  ·left
   exact(lJ hb ha hc (by omega) (le_of_lt h2)).2 (.inr h2)
  ·right
   have k1:=(lJ (x:=a.1) (y:=b.1) (z:=c.1) hb ha hc (by omega) (by omega)).1
   have k2:=(lJ (x:=-a.1) (y:=-b.1) (z:=-c.1) hb ha hc (by rw[neg_mul,neg_mul];omega) (by rw[neg_mul,neg_mul];omega)).1
   rw[neg_mul,neg_mul]at k2;exact⟨by omega,(lJ hb ha hc (le_of_lt h1') (le_of_lt h2')).2 (.inl h1')⟩
theorem Bf.irr (a:Hf):¬ Bf a a:=by unfold Bf;omega
theorem Bf.asym (h:Bf a b):¬ Bf b a:=by unfold Bf at *;omega
theorem ca (h:bA s):0<(af s).2.2:=mul_pos h.1.1 h.2.1
theorem C7 (hp:bA p)(hq:bA q)(h:p≠q):Bf (af p) (af q)\/Bf (af q) (af p):=by
 by_cases a:Bf (af p) (af q)
 ·exact .inl a
 ·right
  by_cases b:Bf (af q) (af p)
  ·exact b
  ·exfalso;apply h;unfold Bf af at a b;have x1:0<p.2.2:=hp.2.1;have x2:0<q.2.2:=hq.2.1;have x3:0<p.1.2:=hp.1.1;have x4:0<q.1.2:=hq.1.1;dsimp only at a b;have e1:p.1.1*p.2.2*(q.1.2*q.2.2)=q.1.1*q.2.2*(p.1.2*p.2.2):=by omega
   have e2:p.2.1*p.1.2*(q.1.2*q.2.2)=q.2.1*q.1.2*(p.1.2*p.2.2):=by omega
   refine Prod.ext (Ac hp.1 hq.1 ?_) (Ac hp.2 hq.2 ?_)
   ·refine eq_of_mul_eq_mul_right (a:=p.2.2*q.2.2) (by have:=mul_pos x1 x2;omega) ?_
    have t1:p.1.1*q.1.2*(p.2.2*q.2.2)=p.1.1*p.2.2*(q.1.2*q.2.2):=by grind
    have t2:q.1.1*p.1.2*(p.2.2*q.2.2)=q.1.1*q.2.2*(p.1.2*p.2.2):=by grind
    rw[t1,t2,e1]
   ·refine eq_of_mul_eq_mul_right (a:=p.1.2*q.1.2) (by have:=mul_pos x3 x4;omega) ?_
    have t1:p.2.1*q.2.2*(p.1.2*q.1.2)=p.2.1*p.1.2*(q.1.2*q.2.2):=by grind
    have t2:q.2.1*p.2.2*(p.1.2*q.1.2)=q.2.1*q.1.2*(p.1.2*p.2.2):=by grind
    rw[t1,t2,e2]
theorem Na (h:vH u p q)(hp:0<p.2.2)(hq:0<q.2.2)(hb:Bf p q):¬ Bf u p/\¬ Bf q u:=by
 obtain⟨κ,α,β,k0,a0,b0,e1,e2,e3⟩:=h;have i1:κ*(u.1*p.2.2-p.1*u.2.2)=β*(q.1*p.2.2-p.1*q.2.2):=by
  have t:κ*(u.1*p.2.2-p.1*u.2.2)=κ*u.1*p.2.2-p.1*(κ*u.2.2):=by grind
  rw[t,e1,e3];grind
 have i2:κ*(u.2.1*p.2.2-p.2.1*u.2.2)=β*(q.2.1*p.2.2-p.2.1*q.2.2):=by
  have t:κ*(u.2.1*p.2.2-p.2.1*u.2.2)=κ*u.2.1*p.2.2-p.2.1*(κ*u.2.2):=by grind
  rw[t,e2,e3];grind
 have i3:κ*(q.1*u.2.2-u.1*q.2.2)=α*(q.1*p.2.2-p.1*q.2.2):=by
  have t:κ*(q.1*u.2.2-u.1*q.2.2)=q.1*(κ*u.2.2)-κ*u.1*q.2.2:=by grind
  rw[t,e1,e3];grind
 have i4:κ*(q.2.1*u.2.2-u.2.1*q.2.2)=α*(q.2.1*p.2.2-p.2.1*q.2.2):=by
  have t:κ*(q.2.1*u.2.2-u.2.1*q.2.2)=q.2.1*(κ*u.2.2)-κ*u.2.1*q.2.2:=by grind
  rw[t,e2,e3];grind
 have sg:∀ {γ d e:Int},0<γ->κ*d=γ*e->(0<e->0<d)/\(e=0->d=0):=fun {γ d e} g0 ee=>⟨fun h=>dA k0 (by rw[ee];exact mul_pos g0 h),fun h=>by
  rw[h,mul_zero]at ee
  rcases mul_eq_zero.mp ee with z|z
  ·omega
  ·exact z⟩
 have s1:=sg b0 i1;have s2:=sg b0 i2;have s3:=sg a0 i3;have s4:=sg a0 i4;unfold Bf at *
 rcases hb with hb|⟨hb,hb'⟩
 ·have:=s1.1 (by omega)
  have:=s3.1 (by omega)
  omega
 ·have:=s1.2 (by omega)
  have:=s3.2 (by omega)
  have:=s2.1 (by omega)
  have:=s4.1 (by omega)
  omega
def KG (Q:Hf->Prop)(l:Hf)(s:aS):Prop:=Q l/\(l.1≠0\/l.2.1≠0)/\a5 l s=0
abbrev OD (l:Hf)(s:aS):Prop:=KG (du 300) l s
def Cn (s:aS):Prop:=∃ l m:Hf,OD l s/\OD m s/\l.1*m.2.1-l.2.1*m.1≠0
def CB (Q:Hf->Prop)(p q:aS):Prop:=∃ l:Hf,KG Q l p/\KG Q l q
abbrev Lk (p q:aS):Prop:=CB (du 300) p q
theorem KR (hf:qM f)(hD:D≠0)(h:D*f.1=N*f.2)(zN:Sz n N)(zD:Sz n D):SzF n f:=by
 obtain⟨f0,f1⟩:=hf;have d1:f.2 ∣ D:=n9 f1 ⟨N,by rw[mul_comm,h,mul_comm]⟩
 have d2:f.1 ∣ N:=by
  refine n9 (a:=f.2) (b:=f.1) (by rw[Int.gcd_comm];exact f1) ⟨D,by rw[mul_comm,<-h,mul_comm]⟩
 constructor
 ·by_cases e:N=0
  ·rw[e,zero_mul]at h
   rcases mul_eq_zero.mp h with z|z
   ·exact absurd z hD
   ·rw[z];exact⟨Nat.two_pow_pos n⟩
  ·exact⟨lt_of_le_of_lt (Nat.le_of_dvd (by omega) (natAbs_dvd_natAbs.mpr d2)) zN.lt⟩
 ·exact⟨lt_of_le_of_lt (Nat.le_of_dvd (by omega) (natAbs_dvd_natAbs.mpr d1)) zD.lt⟩
theorem PB (ok:bA s)(h:Cn s):fg 602 s:=by
 obtain⟨l,m,⟨zl,_,el⟩,⟨zm,_,em⟩,hD⟩:=h;rw[eE]at el em;unfold af at el em;dsimp only at el em;have x1:0<s.1.2:=ok.1.1;have x2:0<s.2.2:=ok.2.1;have zD:Sz 602 (l.1*m.2.1-l.2.1*m.1):=(Sz.sub (Sz.mul zl.1 zm.2.1) (Sz.mul zl.2.1 zm.1)).mono (by decide)
 have zX:Sz 602 (l.2.2*m.2.1-m.2.2*l.2.1):=(Sz.sub (Sz.mul zl.2.2 zm.2.1) (Sz.mul zm.2.2 zl.2.1)).mono (by decide)
 have zY:Sz 602 (l.1*m.2.2-m.1*l.2.2):=(Sz.sub (Sz.mul zl.1 zm.2.2) (Sz.mul zm.1 zl.2.2)).mono (by decide)
 refine⟨KR ok.1 hD (N:=l.2.2*m.2.1-m.2.2*l.2.1) ?_ zX zD,KR ok.2 hD (N:=l.1*m.2.2-m.1*l.2.2) ?_ zY zD⟩
 ·refine eq_of_mul_eq_mul_right (a:=s.2.2) (by omega) ?_
  grind
 ·refine eq_of_mul_eq_mul_right (a:=s.1.2) (by omega) ?_
  grind
theorem xZ (op:bA p)(oq:bA q)(ho:i6 h p q)(hp:KG Q l p)(hq:KG Q l q):KG Q l (dF h p q):=by
 refine⟨hp.1,hp.2.1,?_⟩;obtain⟨_,⟨κ,α,β,k0,a0,b0,e1,e2,e3⟩,_⟩:=gv op oq ho;have ep:=hp.2.2;have eq:=hq.2.2;rw[eE]at ep eq ⊢;generalize af (dF h p q)=f at *;have t:κ*(l.1*f.1+l.2.1*f.2.1-l.2.2*f.2.2)=l.1*(κ*f.1)+l.2.1*(κ*f.2.1)-l.2.2*(κ*f.2.2):=by grind
 have t2:κ*(l.1*f.1+l.2.1*f.2.1-l.2.2*f.2.2)=α*(l.1*(af p).1+l.2.1*(af p).2.1-l.2.2*(af p).2.2)+β*(l.1*(af q).1+l.2.1*(af q).2.1-l.2.2*(af q).2.2):=by
  rw[t,e1,e2,e3];grind
 rw[ep,eq,mul_zero,mul_zero]at t2
 rcases mul_eq_zero.mp (show κ*(l.1*f.1+l.2.1*f.2.1-l.2.2*f.2.2)=0 by omega) with z|z
 ·omega
 ·exact z
theorem KJ (op:bA p)(oq:bA q)(ho:i6 h p q)(zh:du 300 h)(nh:h.1≠0\/h.2.1≠0)(hl:Lk p q):Cn (dF h p q):=by
 obtain⟨l,lp,lq⟩:=hl;refine⟨l,h,xZ op oq ho lp lq,⟨zh,nh,(gv op oq ho).2.2⟩,fun e=>?_⟩;have ep:=lp.2.2;have eq:=lq.2.2;have z1:=ca op;have z2:=ca oq;have ho:=ci.mp ho;rw[eE]at ep eq;rw[eE,eE]at ho;generalize af p=u at *;generalize af q=v at *;have n:=lp.2.1;have a1:v.2.2*(h.1*u.1+h.2.1*u.2.1-h.2.2*u.2.2)=u.2.2*(h.1*v.1+h.2.1*v.2.1-h.2.2*v.2.2):=by
  have b1:l.1*(v.2.2*(h.1*u.1+h.2.1*u.2.1-h.2.2*u.2.2)-u.2.2*(h.1*v.1+h.2.1*v.2.1-h.2.2*v.2.2))=0:=by grind
  have b2:l.2.1*(v.2.2*(h.1*u.1+h.2.1*u.2.1-h.2.2*u.2.2)-u.2.2*(h.1*v.1+h.2.1*v.2.1-h.2.2*v.2.2))=0:=by grind
  rcases n with n|n
  ·rcases mul_eq_zero.mp b1 with z|z
   ·exact absurd z n
   ·omega
  ·rcases mul_eq_zero.mp b2 with z|z
   ·exact absurd z n
   ·omega
 rcases ho with ⟨o1,o2⟩|⟨o1,o2⟩
 ·have:=mul_pos z2 o1;have:=mul_neg_of_pos_of_neg z1 o2;omega
 ·have:=mul_neg_of_pos_of_neg z2 o1;have:=mul_pos z1 o2;omega
theorem Ao {h u v w:Hf}(nh:h.1≠0\/h.2.1≠0)(hu:h.1*u.1+h.2.1*u.2.1-h.2.2*u.2.2=0)(hv:h.1*v.1+h.2.1*v.2.1-h.2.2*v.2.2=0)(hw:h.1*w.1+h.2.1*w.2.1-h.2.2*w.2.2=0):a6 u v w=0:=by
 unfold a6
 rcases nh with n|n
 ·refine(mul_eq_zero.mp (show h.1*_=0 from ?_)).resolve_left n;grind
 ·refine(mul_eq_zero.mp (show h.2.1*_=0 from ?_)).resolve_left n;grind
end Law
namespace Law
open L2 DL
set_option maxHeartbeats 1000000
def s0:aS:=((0,1),(0,1))
def AB (L:List aS):List (aS × aS):=(List.range L.length).map fun k=>if hk:k<L.length then (dX L k hk,L[k]) else (((0,0),(0,0)),((0,0),(0,0)))
def qL (h:Hf)(ks:List aS)(x:aS × aS):List aS:=
 if mn h x.2 then (if i6 h x.1 x.2/\¬ dF h x.1 x.2∈ks then ks++[dF h x.1 x.2] else ks)++[x.2] else (if i6 h x.1 x.2/\¬ dF h x.1 x.2∈ks then ks++[dF h x.1 x.2] else ks)
def gR (h:Hf)(L:List aS):List aS:=(AB L).foldl (qL h) []
def gt (L:List aS)(i:Nat):aS:=L.getD i s0
theorem bG (h:i<L.length):gt L i=L[i]:=by unfold gt;simp[getD_eq_getElem?_getD,getElem?_eq_getElem h]
theorem iy (hk:k<L.length):dX L k hk=gt L (bj L.length k):=by
 rw[bG (cB hk)];unfold dX bj
 split <;> rename_i e
 ·simp[e]
 ·simp[e]
theorem yU (L:List aS):AB L=(List.range L.length).map fun k=>(gt L (bj L.length k),gt L k):=by
 unfold AB;refine map_congr_left fun k hk=>?_;have hk:=mem_range.mp hk;rw[dif_pos hk,iy hk,bG hk]
abbrev Itm:=Nat × Bool × aS
def KW (h:Hf)(G:Nat->aS)(n i:Nat):List Itm:=(if i6 h (G (bj n i)) (G i) then [(i,true,dF h (G (bj n i)) (G i))] else [])++(if mn h (G i) then [(i,false,G i)] else [])
def KI (h:Hf)(G:Nat->aS)(n m:Nat):List Itm:=(List.range m).flatMap (KW h G n)
def Is (h:Hf)(G:Nat->aS)(n:Nat)(x:Itm):Prop:=(x.2.1=true/\i6 h (G (bj n x.1)) (G x.1)/\x.2.2=dF h (G (bj n x.1)) (G x.1))\/(x.2.1=false/\mn h (G x.1)/\x.2.2=G x.1)
theorem ow:x∈KW h G n i↔x.1=i/\Is h G n x:=by
 unfold KW Is;obtain⟨j,b,s⟩:=x;constructor
 ·intro hx
  rcases mem_append.mp hx with hx|hx
  ·split at hx
   ·rename_i ho;simp only[mem_singleton,Prod.mk.injEq]at hx;obtain⟨rfl,rfl,rfl⟩:=hx;exact⟨rfl,.inl ⟨rfl,ho,rfl⟩⟩
   ·cases hx
  ·split at hx
   ·rename_i hk;simp only[mem_singleton,Prod.mk.injEq]at hx;obtain⟨rfl,rfl,rfl⟩:=hx;exact⟨rfl,.inr ⟨rfl,hk,rfl⟩⟩
   ·cases hx
 ·rintro⟨e,hx⟩;dsimp only at e hx;subst e
  rcases hx with ⟨rfl,ho,rfl⟩|⟨rfl,hk,rfl⟩
  ·rw[if_pos ho];simp
  ·rw[if_pos hk];simp
theorem cA:x∈KI h G n m↔x.1<m/\Is h G n x:=by
 unfold KI;rw[List.mem_flatMap];constructor
 ·rintro⟨i,hi,hx⟩;obtain⟨e,h⟩:=ow.mp hx;rw[e];exact⟨mem_range.mp hi,h⟩
 ·rintro⟨hi,h⟩;exact⟨x.1,mem_range.mpr hi,ow.mpr ⟨rfl,h⟩⟩
def RI (x y:Itm):Prop:=x.1<y.1\/(x.1=y.1/\x.2.1=true/\y.2.1=false)
theorem xc (h:Hf)(G:Nat->aS)(n m:Nat):(KI h G n m).Pairwise RI:=by
 unfold KI;rw[List.pairwise_flatMap];refine⟨fun i _=>?_,List.pairwise_lt_range.imp fun hab x hx y hy=>.inl (by rw[(ow.mp hx).1,(ow.mp hy).1];exact hab)⟩
 unfold KW
 split <;> split <;> simp[RI]
theorem zz (h:Hf)(G:Nat->aS)(n m:Nat):KI h G n (m+1)=KI h G n m++KW h G n m:=by
 unfold KI;rw[range_succ,List.flatMap_append];simp
section
variable {h:Hf}{G:Nat->aS}{n:Nat} (hn:3<=n) (ok:∀ i,i<n->bA (G i)) (hT:qN (fun i=>af (G i)) n)
include hn ok hT
theorem wF (hx:x.1<n)(hi:Is h G n x):bA x.2.2/\vH (af x.2.2) (af (G (lo n x.2.1 x.1))) (af (G x.1))/\0<=a5 h x.2.2:=by
 rcases hi with ⟨e,ho,e2⟩|⟨e,hk,e2⟩
 ·obtain⟨a,b,c⟩:=gv (ok _ (cB hx)) (ok _ hx) ho;rw[e2,e];refine⟨a,?_,by omega⟩
  unfold lo;rw[if_pos rfl];exact b
 ·rw[e2,e];refine⟨ok _ hx,?_,b8.mp hk⟩;unfold lo;rw[if_neg (by decide)]
  exact pU _
theorem G6:tF ((KI h G n n).map fun x=>af x.2.2):=by
 refine Cr (xc h G n n) fun x hx y hy z hz rxy ryz=>?_;obtain⟨xn,hx⟩:=cA.mp hx;obtain⟨yn,hy⟩:=cA.mp hy;obtain⟨zn,hz⟩:=cA.mp hz;refine R7 (P:=fun i=>af (G i)) hn hT (wF hn ok hT xn hx).2.1 (wF hn ok hT yn hy).2.1 (wF hn ok hT zn hz).2.1 zn rxy ryz ?_ ?_
 ·intro e1 e2 e3 e4
  rcases hx with ⟨_,ho,_⟩|⟨e,_⟩
  ·have y2:mn h (G y.1):=by
    rcases hy with ⟨e,_⟩|⟨_,k,_⟩
    ·rcases rxy with l|⟨_,_,l⟩
     ·omega
     ·rw[e]at l;cases l
    ·exact k
   have z2:mn h (G z.1):=by
    rcases hz with ⟨e,_⟩|⟨_,k,_⟩
    ·rw[e]at e3;cases e3
    ·exact k
   rw[<-e2]at y2;rw[e4]at z2;have:=ci.mp ho;have:=b8.mp y2;have:=b8.mp z2;omega
  ·rw[e]at e1;cases e1
 ·intro e1 e2 e3 e4
  rcases hy with ⟨_,ho,_⟩|⟨e,_⟩
  ·have x2:mn h (G x.1):=by
    rcases hx with ⟨e,_⟩|⟨_,k,_⟩
    ·rw[e]at e3;cases e3
    ·exact k
   have z2:mn h (G z.1):=by
    rcases hz with ⟨e,_⟩|⟨_,k,_⟩
    ·rcases ryz with l|⟨_,_,l⟩
     ·omega
     ·rw[e]at l;cases l
    ·exact k
   rw[e4]at x2;rw[<-e2]at z2;have:=ci.mp ho;have:=b8.mp x2;have:=b8.mp z2;omega
  ·rw[e]at e1;cases e1
theorem GP (hi:i<n)(hj:j<n)(ho:i6 h (G (bj n i)) (G i)):dF h (G (bj n i)) (G i)≠G j:=fun e=>by
 obtain⟨_,b,c⟩:=gv (ok _ (cB hi)) (ok _ hi) ho;have o:=ci.mp ho
 by_cases h1:j=i
 ·rw[e,h1]at c;omega
 by_cases h2:j=bj n i
 ·rw[e,h2]at c;omega
 have:=di (P:=fun i=>af (G i)) hT hi hj h1 h2;have z:=pV b;rw[e]at z;omega
theorem N1 (hi:i<n)(hj:j<n)(hij:i≠j)(ho:i6 h (G (bj n i)) (G i))(ho':i6 h (G (bj n j)) (G j)):dF h (G (bj n i)) (G i)≠dF h (G (bj n j)) (G j):=fun e=>by
 obtain⟨_,b,_⟩:=gv (ok _ (cB hi)) (ok _ hi) ho;obtain⟨_,b',_⟩:=gv (ok _ (cB hj)) (ok _ hj) ho';have z:=pV b;rw[e]at z;have n1:=ip (P:=fun i=>af (G i)) hT hi hj;have n2:=ip (P:=fun i=>af (G i)) hT hi (cB hj);have pos:0<a6 (af (G (bj n i))) (af (G i)) (af (dF h (G (bj n j)) (G j))):=by
  rw[<-aT];refine oz b' _ _ (by rw[aT];exact n2) (by rw[aT];exact n1) ?_
  by_cases h2:j=bj n i
  ·left
   rw[aT];have q:=iA hn hi;exact di (P:=fun i=>af (G i)) hT hi (cB hj) (by rw[h2];exact q.2.1) (by rw[h2];exact q.2.2)
  ·right
   rw[aT];exact di (P:=fun i=>af (G i)) hT hi hj (fun e=>hij e.symm) h2
 omega
theorem KY (xn:x.1<n)(yn:y.1<n)(hx:Is h G n x)(hy:Is h G n y)(r:RI x y):x.2.2≠y.2.2:=by
 rcases hx with ⟨ex,ox,px⟩|⟨ex,kx,px⟩
 ·rcases hy with ⟨ey,oy,py⟩|⟨ey,ky,py⟩
  ·rw[px,py];refine N1 hn ok hT xn yn ?_ ox oy
   rcases r with r|⟨_,_,r⟩
   ·omega
   ·rw[ey]at r;cases r
  ·rw[px,py];exact GP hn ok hT xn yn ox
 ·rcases hy with ⟨ey,oy,py⟩|⟨ey,ky,py⟩
  ·rw[px,py];exact fun e=>GP hn ok hT yn xn oy e.symm
  ·rw[px,py];have:x.1≠y.1:=by
    rcases r with r|⟨_,r,_⟩
    ·omega
    ·rw[ex]at r;cases r
   exact fun e=>K6 (P:=fun i=>af (G i)) hn hT xn yn this (congrArg af e)
theorem oj:∀ m,m<=n->((List.range m).map fun k=>(G (bj n k),G k)).foldl (qL h) []=(KI h G n m).map (·.2.2)
 | 0,_=>rfl
 | m+1,hm=>by
  rw[range_succ,map_append,foldl_append,oj m (by omega),zz,map_append]
  show qL h _ (G (bj n m),G m)=_;unfold qL KW;dsimp only;have hnot:i6 h (G (bj n m)) (G m)->¬ dF h (G (bj n m)) (G m)∈(KI h G n m).map (·.2.2):=fun ho hmem=>by
   obtain⟨y,hy,e⟩:=mem_map.mp hmem;obtain⟨yn,hy⟩:=cA.mp hy;exact KY hn ok hT (x:=y) (y:=(m,true,dF h (G (bj n m)) (G m))) (by omega) (show m<n by omega) hy (.inl ⟨rfl,ho,rfl⟩) (.inl yn) e
  by_cases ho:i6 h (G (bj n m)) (G m)
  ·have c:i6 h (G (bj n m)) (G m)/\¬ dF h (G (bj n m)) (G m)∈(KI h G n m).map (·.2.2):=⟨ho,hnot ho⟩
   by_cases hk:mn h (G m)
   ·rw[if_pos hk,if_pos c,if_pos ho,if_pos hk];simp
   ·rw[if_neg hk,if_pos c,if_pos ho,if_neg hk];simp
  ·have c:¬ (i6 h (G (bj n m)) (G m)/\¬ dF h (G (bj n m)) (G m)∈(KI h G n m).map (·.2.2)):=fun z=>ho z.1
   by_cases hk:mn h (G m)
   ·rw[if_pos hk,if_neg c,if_neg ho,if_pos hk];simp
   ·rw[if_neg hk,if_neg c,if_neg ho,if_neg hk];simp
theorem Qc:((KI h G n n).map (·.2.2)).Nodup:=by
 unfold List.Nodup;rw[pairwise_map];exact(xc h G n n).imp_of_mem fun {x y} hx hy r=>KY hn ok hT (cA.mp hx).1 (cA.mp hy).1 (cA.mp hx).2 (cA.mp hy).2 r
theorem M1 (nh:h.1≠0\/h.2.1≠0):(KI h G n n).length<=n+2:=by
 have e:=List.length_eq_countP_add_countP (fun x:Itm=>x.2.1) (l:=KI h G n n);have c1:(KI h G n n).countP (fun x:Itm=>x.2.1)<=2:=by
  rw[countP_eq_length_filter]
  rcases lt_or_ge 2 ((KI h G n n).filter fun x=>x.2.1).length with l|l
  ·exfalso;have hp:((KI h G n n).filter fun x=>x.2.1).Pairwise RI:=(xc h G n n).filter _;have all:∀ x∈(KI h G n n).filter (fun x=>x.2.1),x∈KI h G n n/\a5 h x.2.2=0:=fun x hx=>by
    obtain⟨h1,h2⟩:=mem_filter.mp hx;refine⟨h1,?_⟩;obtain⟨hx,hi⟩:=cA.mp h1
    rcases hi with ⟨_,ho,e⟩|⟨e,_⟩
    ·rw[e];exact(gv (ok _ (cB hx)) (ok _ hx) ho).2.2
    ·rw[e]at h2;cases h2
   have T:=G6 hn ok hT (h:=h);generalize (KI h G n n).filter (fun x=>x.2.1)=C at *;have R:=pairwise_iff_getElem.mp hp;have r1:=R 0 1 (by omega) (by omega) (by omega)
   have r2:=R 1 2 (by omega) (by omega) (by omega)
   obtain⟨m0,z0⟩:=all C[0] (getElem_mem _);obtain⟨m1,z1⟩:=all C[1] (getElem_mem _);obtain⟨m2,z2⟩:=all C[2] (getElem_mem _);rw[eE]at z0 z1 z2;have zero:=Ao nh z0 z1 z2;have ix:∀ {x y:Itm}{i j:Nat} (hi:i<(KI h G n n).length) (hj:j<(KI h G n n).length),(KI h G n n)[i]=x->(KI h G n n)[j]=y->RI x y->i<j:=fun {x y i j} hi hj ex ey r=>by
    rcases lt_trichotomy i j with l|l|l
    ·exact l
    ·subst l;rw[<-ex,<-ey]at r;unfold RI at r
     rcases r with r|⟨_,r1,r2⟩
     ·omega
     ·rw[r1]at r2;cases r2
    ·have:=pairwise_iff_getElem.mp (xc h G n n) j i hj hi l;rw[ex,ey]at this;unfold RI at r this
     rcases r with r|⟨r,r1,r2⟩ <;> rcases this with q|⟨q,q1,q2⟩
     ·omega
     ·omega
     ·omega
     ·rw[r1]at q2;cases q2
   obtain⟨i0,h0,e0⟩:=getElem_of_mem m0;obtain⟨i1,h1,e1⟩:=getElem_of_mem m1;obtain⟨i2,h2,e2⟩:=getElem_of_mem m2;have:=T i0 i1 i2 (ix h0 h1 e0 e1 r1) (ix h1 h2 e1 e2 r2) (by rw[length_map];exact h2)
   rw[getElem_map,getElem_map,getElem_map,e0,e1,e2]at this;omega
  ·exact l
 have c2:(KI h G n n).countP (fun x:Itm=>¬ x.2.1=true)<=n:=by
  rw[countP_eq_length_filter];have hp:((KI h G n n).filter fun x=>decide (¬ x.2.1=true)).Pairwise RI:=(xc h G n n).filter _;have all:∀ x∈(KI h G n n).filter (fun x=>decide (¬ x.2.1=true)),x.1<n/\x.2.1=false:=fun x hx=>by
   obtain⟨h1,h2⟩:=mem_filter.mp hx;exact⟨(cA.mp h1).1,by simpa using h2⟩
  generalize (KI h G n n).filter (fun x=>decide (¬ x.2.1=true))=C at *;have nd:(C.map (·.1)).Nodup:=by
   unfold List.Nodup;rw[pairwise_map];refine hp.imp_of_mem fun {x y} hx hy r=>?_
   rcases r with r|⟨_,r,_⟩
   ·omega
   ·rw[(all x hx).2]at r;cases r
  have:=List.Nodup.length_le_of_subset nd (l₂:=List.range n) (fun i hi=>by
   obtain⟨x,hx,rfl⟩:=mem_map.mp hi;exact mem_range.mpr (all x hx).1)
  rw[length_map,length_range]at this;exact this
 simp only[decide_not,Bool.decide_eq_true]at c2 e;omega
end
end Law
namespace Law
open L2 DL
set_option maxHeartbeats 1000000
theorem uM {A:List aS}(h:0<A.length):A.getLast?=some A[A.length-1]:=by
 rw[List.getLast?_eq_getElem?,getElem?_eq_getElem (by omega)]
theorem fi:(A++[x]).getLast?=some x:=by simp
theorem mJ (h:(A++[x]).head?=some y):A.head?=some y\/(A=[]/\y=x):=by
 cases A with
 | nil=>right;exact⟨rfl,by simpa using h.symm⟩
 | cons a A=>left;simpa using h
def xI (Q:Hf->Prop)(h:Hf):Prop:=Q h/\(h.1≠0\/h.2.1≠0)
abbrev hZ (h:Hf):Prop:=xI (du 300) h
def Hi (Q:Hf->Prop)(A:List aS):Prop:=∀ k (h:k+1<A.length),CB Q A[k] A[k+1]
theorem mC {Q:Hf->Prop}{A:List aS}{x:aS}(h:Hi Q A)(hl:∀ y,A.getLast?=some y->CB Q y x):Hi Q (A++[x]):=by
 intro k hk;rw[List.length_append,length_singleton]at hk
 by_cases l:k+1<A.length
 ·rw[getElem_append_left (by omega),getElem_append_left l]
  exact h k l
 ·have e:k+1=A.length:=by omega
  have e2:(A++[x])[k+1]'(by simp;omega)=x:=by
   rw[List.getElem_append_right (by omega)];simp
  rw[e2,getElem_append_left (by omega)]
  refine hl _ ?_;rw[uM (by omega)]
  congr 2;omega
structure CC (Q:Hf->Prop) (h:Hf) (q0 qm:aS) (A:List aS):Prop where
 adj:Hi Q A
 inn:0<=a5 h qm->A.getLast?=some qm
 out:a5 h qm<0->∀ x,A.getLast?=some x->a5 h x=0
 hd:a5 h q0<0->∀ y,A.head?=some y->a5 h y=0
theorem EU (hh:xI Q h)(hp:a5 h p=0)(hq:a5 h q=0):CB Q p q:=⟨h,⟨hh.1,hh.2,hp⟩,hh.1,hh.2,hq⟩
theorem BO (hh:xI Q h)(op:bA p)(oq:bA q)(hl:CB Q p q)(H:CC Q h q0 p A) :
  CC Q h q0 q (A++((if i6 h p q then [dF h p q] else [])++(if mn h q then [q] else []))):=by
 by_cases ho:i6 h p q
 ·obtain⟨_,_,fs⟩:=gv op oq ho;have o:=ci.mp ho;obtain⟨l,lp,lq⟩:=hl;have ls:=xZ op oq ho lp lq;have A1:Hi Q (A++[dF h p q]):=mC H.adj fun y hy=>by
   rcases o with ⟨o1,o2⟩|⟨o1,o2⟩
   ·rw[H.inn (by omega)]at hy
    cases hy
    exact⟨l,lp,ls⟩
   ·exact EU hh (H.out o1 y hy) fs
  have H1:a5 h q0<0->∀ y,(A++[dF h p q]).head?=some y->a5 h y=0:=fun h0 y hy=>by
   rcases mJ hy with e|⟨_,e⟩
   ·exact H.hd h0 y e
   ·rw[e];exact fs
  rw[if_pos ho]
  by_cases hk:mn h q
  ·rw[if_pos hk,<-List.append_assoc];have k:=b8.mp hk;refine⟨mC A1 fun y hy=>?_,fun _=>fi,fun z=>by omega,fun h0 y hy=>?_⟩
   ·rw[fi]at hy
    cases hy
    exact⟨l,ls,lq⟩
   ·rcases mJ hy with e|⟨e,_⟩
    ·exact H1 h0 y e
    ·simp at e
  ·rw[if_neg hk,append_nil];have k:¬ 0<=a5 h q:=fun z=>hk (b8.mpr z);exact⟨A1,fun z=>absurd z k,fun _ x hx=>by rw[fi]at hx;cases hx;exact fs,H1⟩
 ·rw[if_neg ho,nil_append];have o:¬ ((0<a5 h p/\a5 h q<0)\/(a5 h p<0/\0<a5 h q)):=fun z=>ho (ci.mpr z)
  by_cases hk:mn h q
  ·rw[if_pos hk];have k:=b8.mp hk;refine⟨mC H.adj fun y hy=>?_,fun _=>fi,fun z=>by omega,fun h0 y hy=>?_⟩
   ·by_cases hp:0<=a5 h p
    ·rw[H.inn hp]at hy
     cases hy
     exact hl
    ·exact EU hh (H.out (by omega) y hy) (by omega)
   ·rcases mJ hy with e|⟨e,rfl⟩
    ·exact H.hd h0 y e
    ·by_cases hp:0<=a5 h p
     ·have:=H.inn hp;rw[e]at this;cases this
     ·omega
  ·rw[if_neg hk,append_nil];have k:¬ 0<=a5 h q:=fun z=>hk (b8.mpr z);refine⟨H.adj,fun z=>absurd z k,fun _ x hx=>?_,H.hd⟩
   by_cases hp:0<=a5 h p
   ·rw[H.inn hp]at hx
    cases hx
    omega
   ·exact H.out (by omega) x hx
theorem ot (hh:xI Q h)(hn:0<n)(ok:∀ i,i<n->bA (G i))(hl:∀ k,k<n->CB Q (G (bj n k)) (G k)) :
  ∀ m,m<=n->CC Q h (G (n-1)) (G (bj n m)) ((if 0<=a5 h (G (n-1)) then [G (n-1)] else [])++(KI h G n m).map (·.2.2))
 | 0,_=>by
  have e:bj n 0=n-1:=rfl;rw[e];show CC Q h _ _ (_++[]);rw[append_nil]
  by_cases z:0<=a5 h (G (n-1))
  ·rw[if_pos z];exact⟨fun k hk=>by simp at hk,fun _=>rfl,fun z'=>by omega,fun z'=>by omega⟩
  ·rw[if_neg z];exact⟨fun k hk=>by simp at hk,fun z'=>absurd z' z,fun _ x hx=>(nomatch hx),fun _ y hy=>(nomatch hy)⟩
 | m+1,hm=>by
  have:=BO hh (ok _ (cB (show m<n by omega))) (ok m (by omega)) (hl m (by omega)) (ot hh hn ok hl m (by omega))
  have e:bj n (m+1)=m:=by unfold bj;rw[if_neg (by omega)];rfl
  rw[e,zz,map_append,<-List.append_assoc];have e2:(KW h G n m).map (·.2.2)=(if i6 h (G (bj n m)) (G m) then [dF h (G (bj n m)) (G m)] else [])++(if mn h (G m) then [G m] else []):=by
   unfold KW
   split <;> split <;> rfl
  rw[e2];exact this
theorem tX {Q:Hf->Prop}{h:Hf}(hh:xI Q h){q0:aS}{K:List aS}(H:CC Q h q0 q0 ((if 0<=a5 h q0 then [q0] else [])++K))(k:Nat)(hk:k<K.length):CB Q (dX K k hk) K[k]:=by
 by_cases z:0<=a5 h q0
 ·rw[if_pos z]at H;have a:=H.adj k (by simp;omega)
  have hlast:=H.inn z;unfold dX
  split <;> rename_i e
  ·subst e;have:K[K.length-1]=q0:=by
    rw[uM (by simp)]at hlast
    have:=Option.some.inj hlast;rw[<-this];simp only[List.singleton_append,length_cons,Nat.add_sub_cancel];rw[List.getElem_cons,dif_neg (by omega)]
   rw[this];simpa using a
  ·have e1:([q0]++K)[k]'(by simp;omega)=K[k-1]:=by
    simp only[List.singleton_append];rw[List.getElem_cons,dif_neg e]
   rw[e1]at a;simpa using a
 ·rw[if_neg z,nil_append]at H;unfold dX
  split <;> rename_i e
  ·subst e;have hl:=H.out (by omega) K[K.length-1] (uM hk)
   have hh0:=H.hd (by omega) K[0] (by rw[head?_eq_getElem?,getElem?_eq_getElem hk])
   exact EU hh hl hh0
  ·have a:=H.adj (k-1) (by omega)
   have e1:k-1+1=k:=by omega
   simp only[e1]at a;exact a
structure ke (L:List aS):Prop where
 ok:∀ s∈L,bA s
 reg:Ll (L.map af)
 cn:∀ s∈L,Cn s
 lk:∀ k (hk:k<L.length),Lk (dX L k hk) L[k]
structure vI (h:Hf) (L K:List aS):Prop where
 ok:∀ u∈K,bA u
 nd:K.Nodup
 tri:tF (K.map af)
 cn:∀ u∈K,Cn u
 lk:∀ k (hk:k<K.length),Lk (dX K k hk) K[k]
 len:K.length<=L.length+2
 hold:∀ u∈K,bF (L.map af) (af u)/\0<=a5 h u
 kept:∀ s∈L,0<=a5 h s->s∈K
 cross:∀ k (hk:k<L.length),i6 h (dX L k hk) L[k]->dF h (dX L k hk) L[k]∈K
theorem SD (hh:hZ h)(R:ke L)(hn:3<=L.length):vI h L (gR h L):=by
 have T:=fU R.reg;have ok:∀ i,i<L.length->bA (gt L i):=fun i hi=>by rw[bG hi];exact R.ok _ (getElem_mem _)
 have hT:qN (fun i=>af (gt L i)) L.length:=fun a b c h1 h2 h3=>by
  have:=T a b c h1 h2 (by rw[length_map];exact h3)
  rw[getElem_map,getElem_map,getElem_map]at this;dsimp only;rw[bG (show a<L.length by omega),bG (show b<L.length by omega),bG h3]
  exact this
 have lk:∀ k,k<L.length->Lk (gt L (bj L.length k)) (gt L k):=fun k hk=>by
  have:=R.lk k hk;rw[iy hk]at this;rw[bG hk];exact this
 have e:gR h L=(KI h (gt L) L.length L.length).map (·.2.2):=by
  unfold gR;rw[yU];exact oj hn ok hT _ (le_refl _)
 rw[e];have mem:∀ u,u∈(KI h (gt L) L.length L.length).map (·.2.2)->∃ x:Itm,x.1<L.length/\Is h (gt L) L.length x/\u=x.2.2:=fun u hu=>by
  obtain⟨x,hx,e⟩:=mem_map.mp hu;exact⟨x,(cA.mp hx).1,(cA.mp hx).2,e.symm⟩
 refine⟨fun u hu=>?_,Qc hn ok hT,?_,fun u hu=>?_,fun k hk=>?_,?_,fun u hu=>?_,fun s hs hf=>?_,fun k hk ho=>?_⟩
 ·obtain⟨x,hx,hi,rfl⟩:=mem u hu;exact(wF hn ok hT hx hi).1
 ·have:=G6 hn ok hT (h:=h);rw[map_map];exact this
 ·obtain⟨x,hx,hi,rfl⟩:=mem u hu
  rcases hi with ⟨_,ho,e⟩|⟨_,_,e⟩
  ·rw[e];exact KJ (ok _ (cB hx)) (ok _ hx) ho hh.1 hh.2 (lk _ hx)
  ·rw[e,bG hx];exact R.cn _ (getElem_mem _)
 ·have H:=ot hh (show 0<L.length by omega) ok lk L.length (le_refl _)
  have e2:bj L.length L.length=L.length-1:=by unfold bj;rw[if_neg (by omega)]
  rw[e2]at H;exact tX hh H k hk
 ·rw[length_map];exact M1 hn ok hT hh.2
 ·obtain⟨x,hx,hi,rfl⟩:=mem u hu;obtain⟨_,mx,f⟩:=wF hn ok hT hx hi;refine⟨⟨by rw[length_map];omega,fun z=>by rw[length_map]at z;omega,fun _ k hk=>?_⟩,f⟩
  rw[length_map]at hk;have hpv:dX (L.map af) k (by rw[length_map];exact hk)=af (gt L (bj L.length k)):=by
   rw[bG (cB hk)];unfold dX bj
   split <;> rename_i e
   ·simp[e]
   ·simp[e]
  rw[hpv,getElem_map,<-bG hk,<-aT];have lox:lo L.length x.2.1 x.1<L.length:=by
   unfold lo
   split
   ·exact cB hx
   ·exact hx
  refine uR mx _ _ ?_ ?_
  ·rw[aT];exact ip (P:=fun i=>af (gt L i)) hT hk lox
  ·rw[aT];exact ip (P:=fun i=>af (gt L i)) hT hk hx
 ·obtain⟨j,hj,rfl⟩:=getElem_of_mem hs;refine mem_map.mpr ⟨(j,false,L[j]),cA.mpr ⟨hj,.inr ⟨rfl,?_,?_⟩⟩,rfl⟩
  ·rw[bG hj];exact b8.mpr hf
  ·exact(bG hj).symm
 ·rw[iy hk,<-bG hk]at ho ⊢;exact mem_map.mpr ⟨(k,true,_),cA.mpr ⟨hk,.inl ⟨rfl,ho,rfl⟩⟩,rfl⟩
theorem Sy:vI h [] (gR h []):=by
 show vI h [] [];exact⟨fun u hu=>(nomatch hu),nodup_nil,fun a b c _ _ h3=>(nomatch h3),fun u hu=>(nomatch hu),fun k hk=>(nomatch hk),by decide,fun u hu=>(nomatch hu),fun u hu=>(nomatch hu),fun k hk=>(nomatch hk)⟩
theorem vz (h:F.length<3):tF F:=fun a b c h1 h2 h3=>by omega
theorem Au:¬ i6 h p p:=fun z=>by have:=ci.mp z;omega
theorem zf (ho:¬ i6 h x.1 x.2):qL h ks x=if mn h x.2 then ks++[x.2] else ks:=by
 have c:¬ (i6 h x.1 x.2/\¬ dF h x.1 x.2∈ks):=fun z=>ho z.1;unfold qL
 by_cases hk:mn h x.2
 ·rw[if_pos hk,if_pos hk,if_neg c]
 ·rw[if_neg hk,if_neg hk,if_neg c]
theorem SA (R:ke [p]):vI h [p] (gR h [p]):=by
 have hp:=R.ok p (by simp)
 have e:gR h [p]=if mn h p then [p] else []:=by
  show qL h [] (p,p)=_;rw[zf (x:=(p,p)) Au]
  rfl
 rw[e];have lkp:=R.lk 0 (by simp)
 have cross:∀ k (hk:k < [p].length) (K:List aS),i6 h (dX [p] k hk) [p][k]->dF h (dX [p] k hk) [p][k]∈K:=fun k hk K ho=>by
  have:k=0:=by simp at hk;exact hk
  subst this;exact absurd ho Au
 by_cases hk:mn h p
 ·rw[if_pos hk];refine⟨fun u hu=>R.ok u hu,by simp,vz (by simp),R.cn,R.lk,by simp,fun u hu=>?_,fun s hs _=>hs,fun k hk' ho=>cross k hk' _ ho⟩
  obtain rfl:=mem_singleton.mp hu;exact⟨⟨by simp,fun _=>⟨pj _ _,bU.mpr (Bf.irr _),bU.mpr (Bf.irr _)⟩,fun z=>by simp at z⟩,b8.mp hk⟩
 ·rw[if_neg hk];refine⟨fun u hu=>(nomatch hu),nodup_nil,fun a b c _ _ h3=>(nomatch h3),fun u hu=>(nomatch hu),fun k hk=>(nomatch hk),by simp,fun u hu=>(nomatch hu),fun s hs hf=>?_,fun k hk' ho=>cross k hk' _ ho⟩
  obtain rfl:=mem_singleton.mp hs;exact absurd (b8.mpr hf) hk
theorem SC (hh:hZ h)(R:ke [p,q]):vI h [p,q] (gR h [p,q]):=by
 have hp:=R.ok p (by simp)
 have hq:=R.ok q (by simp)
 have hb:Bf (af p) (af q):=e9.mp (R.reg.fst 1 (by simp) (by decide))
 have hne:p≠q:=fun e=>by rw[e]at hb;exact Bf.irr _ hb
 have lk:Lk p q:=R.lk 1 (by simp)
 have e:gR h [p,q]=qL h (qL h [] (q,p)) (p,q):=rfl;have hpos:∀ u,vH (af u) (af p) (af q)\/u=p\/u=q->bF ([p,q].map af) (af u):=fun u hu=>by
  refine⟨by simp,fun _=>?_,fun z=>by simp at z⟩
  show a6 (af p) (af q) (af u)=0/\k9 (af u) (af p)=false/\k9 (af q) (af u)=false;rw[bU,bU]
  rcases hu with m|rfl|rfl
  ·exact⟨pV m,Na m (ca hp) (ca hq) hb⟩
  ·exact⟨gz _ _,Bf.irr _,hb.asym⟩
  ·exact⟨dL _ _,hb.asym,Bf.irr _⟩
 have prs:∀ k (hk:k < [p,q].length),(dX [p,q] k hk=q/\[p,q][k]=p)\/(dX [p,q] k hk=p/\[p,q][k]=q):=fun k hk=>by
  have:k=0\/k=1:=by simp at hk;omega
  rcases this with rfl|rfl
  ·exact .inl ⟨rfl,rfl⟩
  ·exact .inr ⟨rfl,rfl⟩
 have lkAll:∀ K:List aS,(∃ l,∀ u∈K,OD l u)->∀ k (hk:k<K.length),Lk (dX K k hk) K[k]:=fun K ⟨l,hl⟩ k hk=>⟨l,hl _ (qd hk),hl _ (getElem_mem _)⟩;obtain⟨l,lp,lq⟩:=lk
 by_cases ho:i6 h p q
 ·have ho':i6 h q p:=ci.mpr (by have:=ci.mp ho;omega)
  obtain⟨so,sm,sf⟩:=gv hp hq ho;have ls:=xZ hp hq ho lp lq;have cs:=KJ hp hq ho hh.1 hh.2 ⟨l,lp,lq⟩;have o:=ci.mp ho;have mk:∀ x:aS,(x=p\/x=q)->0<=a5 h x->(∀ s∈[p,q],0<=a5 h s->s=x)->vI h [p,q] [dF h p q,x]:=fun x hx fx only=>by
   have ox:bA x:=by rcases hx with rfl|rfl;exact hp;exact hq
   have lx:OD l x:=by rcases hx with rfl|rfl;exact lp;exact lq
   have nx:dF h p q≠x:=fun e=>by
    rw[e]at sf
    rcases hx with rfl|rfl <;> omega
   have all:∀ u∈[dF h p q,x],u=dF h p q\/u=x:=fun u hu=>by simpa using hu
   refine⟨fun u hu=>?_,?_,vz (by simp),fun u hu=>?_,lkAll _ ⟨l,fun u hu=>?_⟩,by simp,fun u hu=>?_,fun s hs hf=>?_,fun k hk _=>?_⟩
   ·rcases all u hu with rfl|rfl;exact so;exact ox
   ·simp[nx]
   ·rcases all u hu with rfl|rfl
    ·exact cs
    ·rcases hx with e|e <;> rw[e] <;> exact R.cn _ (by simp)
   ·rcases all u hu with rfl|rfl;exact ls;exact lx
   ·rcases all u hu with rfl|rfl
    ·exact⟨hpos _ (.inl sm),by omega⟩
    ·exact⟨hpos _ (.inr hx),fx⟩
   ·rw[only s hs hf];simp
   ·rcases prs k hk with ⟨e1,e2⟩|⟨e1,e2⟩
    ·rw[e1,e2,oe h q p];simp
    ·rw[e1,e2];simp
  rcases o with ⟨o1,o2⟩|⟨o1,o2⟩
  ·have e2:gR h [p,q]=[dF h p q,p]:=by
    rw[e];have s1:qL h [] (q,p)=[dF h p q,p]:=by
     unfold qL;dsimp only;rw[if_pos (b8.mpr (by omega)),if_pos (show _/\_ from⟨ho',by simp⟩),oe h q p]
     rfl
    rw[s1];unfold qL;dsimp only;rw[if_neg (fun z=>by have:=b8.mp z;omega),if_neg (fun z=>z.2 (by simp))]
   rw[e2];exact mk p (.inl rfl) (by omega) fun s hs hf=>by
    rcases mem_cons.mp hs with r|r
    ·exact r
    ·have:=mem_singleton.mp r;rw[this]at hf;omega
  ·have e2:gR h [p,q]=[dF h p q,q]:=by
    rw[e];have s1:qL h [] (q,p)=[dF h p q]:=by
     unfold qL;dsimp only;rw[if_neg (fun z=>by have:=b8.mp z;omega),if_pos (show _/\_ from⟨ho',by simp⟩),oe h q p]
     rfl
    rw[s1];unfold qL;dsimp only;rw[if_pos (b8.mpr (by omega)),if_neg (fun z=>z.2 (by simp))]
    rfl
   rw[e2];exact mk q (.inr rfl) (by omega) fun s hs hf=>by
    rcases mem_cons.mp hs with r|r
    ·rw[r]at hf;omega
    ·exact mem_singleton.mp r
 ·have ho':¬ i6 h q p:=fun z=>ho (ci.mpr (by have:=ci.mp z;omega))
  have e2:gR h [p,q]=[p,q].filter fun s=>decide (mn h s):=by
   rw[e];rw[zf (x:=(q,p)) ho',zf (x:=(p,q)) ho];dsimp only
   by_cases a:mn h p <;> by_cases b:mn h q <;> simp[a,b]
  rw[e2];have sub:∀ u∈[p,q].filter (fun s=>decide (mn h s)),u∈[p,q]/\mn h u:=fun u hu=>by
   obtain⟨a,b⟩:=mem_filter.mp hu;exact⟨a,of_decide_eq_true b⟩
  have hlen:([p,q].filter fun s=>decide (mn h s)).length<=2:=length_filter_le _ [p,q];refine⟨fun u hu=>R.ok u (sub u hu).1,?_,vz (by rw[length_map];omega),fun u hu=>R.cn u (sub u hu).1,lkAll _ ⟨l,fun u hu=>?_⟩,by simp only[length_cons,length_nil];omega,fun u hu=>⟨hpos u ?_,b8.mp (sub u hu).2⟩,fun s hs hf=>mem_filter.mpr ⟨hs,decide_eq_true (b8.mpr hf)⟩,fun k hk hx=>?_⟩
  ·have:[p,q].Nodup:=by simp[hne]
   exact this.filter _
  ·rcases mem_cons.mp (sub u hu).1 with r|r
   ·rw[r];exact lp
   ·rw[mem_singleton.mp r];exact lq
  ·rcases mem_cons.mp (sub u hu).1 with r|r
   ·exact .inr (.inl r)
   ·exact .inr (.inr (mem_singleton.mp r))
  ·rcases prs k hk with ⟨e1,e2⟩|⟨e1,e2⟩
   ·rw[e1,e2]at hx;exact absurd hx ho'
   ·rw[e1,e2]at hx;exact absurd hx ho
theorem zK (hh:hZ h)(R:ke L):vI h L (gR h L):=by
 match L,R with
 | [],_=>exact Sy
 | [p],R=>exact SA R
 | [p,q],R=>exact SC hh R
 | p::q::r::l,R=>exact SD hh R (by simp)
end Law
namespace Law
open L2 DL
def fl (p:Pt):Hf:=(p.1,p.2,1)
theorem k5 (p:Pt):af (gL p)=fl p:=by unfold af gL fl;simp
theorem zU (a b c:Pt):a6 (fl a) (fl b) (fl c)=cr a b c:=by unfold a6 fl cr;grind
theorem tK (a b:Pt):k9 (fl a) (fl b)=true↔cU a b:=by
 unfold k9 fl cU;simp only[mul_one]
 by_cases h:a.1=b.1
 ·rw[if_neg (by simpa using h),decide_eq_true_eq];omega
 ·rw[if_pos h,decide_eq_true_eq];omega
theorem zH (h:¬ cU a b):k9 (fl a) (fl b)=false:=by
 cases e:k9 (fl a) (fl b) with
 | false=>rfl
 | true=>exact absurd ((tK a b).mp e) h
theorem lex_irr (a:Pt):¬ cU a a:=by unfold cU;omega
theorem EL (h:cU a b):¬ cU b a:=by unfold cU at *;omega
theorem M2 {S:List Pt}(h:S.Pairwise cU):∃ m:Pt,S.Pairwise fun a b=>fn m a<fn m b:=by
 obtain⟨B,hB0,hB⟩:∃ B:Int,0<=B/\∀ p∈S,-B<=p.2/\p.2<=B:=by
  clear h
  induction S with
  | nil=>exact⟨0,Int.le_refl _,fun p hp=>by cases hp⟩
  | cons a S ih=>
   obtain⟨B,h0,h1⟩:=ih;refine⟨B+(a.2.natAbs:Int),by omega,fun p hp=>?_⟩
   rcases mem_cons.mp hp with rfl|hp
   ·omega
   ·have:=h1 p hp;omega
 refine⟨(2*B+1,1),?_⟩;rw[pairwise_iff_getElem]at h ⊢;intro i j hi hj hij;have h1:=h i j hi hj hij;have b1:=hB _ (getElem_mem hi);have b2:=hB _ (getElem_mem hj);unfold fn;dsimp only
 rcases h1 with h1|⟨h1,h2⟩
 ·have h3:(2*B+1)*(S[i].1+1)<=(2*B+1)*S[j].1:=Int.mul_le_mul_of_nonneg_left (by omega) (by omega)
  rw[Int.mul_add]at h3;omega
 ·rw[h1];omega
theorem iz (f:α->β)(H:List α)(k:Nat)(hk:k<(H.map f).length):dX (H.map f) k hk=f (dX H k (by simpa using hk)):=by
 unfold dX
 split
 ·simp
 ·simp
theorem wM {S:List Pt}{m:Pt}(hl:S.Pairwise cU)(hf:S.Pairwise fun a b=>fn m a<fn m b){a b:Pt}(ha:a∈S)(hb:b∈S)(h:cU a b):fn m a<fn m b:=by
 obtain⟨i,hi,rfl⟩:=getElem_of_mem ha;obtain⟨j,hj,rfl⟩:=getElem_of_mem hb
 rcases lt_trichotomy i j with hij|hij|hij
 ·exact pairwise_iff_getElem.mp hf i j hi hj hij
 ·subst hij;exact absurd h (lex_irr _)
 ·exact absurd (pairwise_iff_getElem.mp hl j i hj hi hij) (EL h)
structure xJ (S H:List Pt):Prop where
 reg:Ll (H.map fl)
 hold:∀ p∈S,bF (H.map fl) (fl p)
 sub:∀ p∈H,p∈S
 ne:H≠[]
theorem IM {S:List Pt}(hs:S.Pairwise cU)(hne:S≠[]):xJ S (bS S):=by
 unfold bS
 match S,hne,hs with
 | [p],_,_=>
  rw[if_pos (by simp)]
  refine⟨⟨fun k hk h0=>by simp at hk;omega,fun h=>by simp at h⟩,fun q hq=>?_,fun q hq=>hq,by simp⟩
  obtain rfl:=mem_singleton.mp hq;refine⟨by simp,fun _=>?_,fun h=>by simp at h⟩
  show a6 (fl q) (fl q) (fl q)=0/\k9 (fl q) (fl q)=false/\k9 (fl q) (fl q)=false;exact⟨by rw[zU,tU],zH (lex_irr q),zH (lex_irr q)⟩
 | p0::p1::l,_,hs=>
  rw[if_neg (by simp only[length_cons];omega)]
  obtain⟨m,hm⟩:=M2 hs;obtain⟨R,h0⟩:=GO hm;generalize nL (p0::p1::l)=H at R h0;have hlen:=R.len;have hH0:=h0 (by omega)
  have hml:(H.map fl).length=H.length:=length_map ..;refine⟨⟨fun k hk hk0=>?_,fun h2 k hk v hv h1 h3=>?_⟩,fun p hp=>⟨by omega,fun h=>?_,fun h3 k hk=>?_⟩,R.sub,fun e=>by rw[e]at hlen;simp at hlen⟩
  ·rw[getElem_map,getElem_map,tK,hH0];have h1:=R.sub _ (getElem_mem (show k<H.length by omega))
   have h2:=R.fst k (by omega) hk0
   rw[hH0]at h2
   rcases mem_cons.mp h1 with h|h
   ·exact absurd h h2
   ·exact(pairwise_cons.mp hs).1 _ h
  ·obtain⟨x,hx,rfl⟩:=mem_map.mp hv;rw[iz]at h3 ⊢;rw[getElem_map]at h1 ⊢;rw[zU];exact R.strict k (by omega) x hx (fun e=>h3 (by rw[e];rfl)) (fun e=>h1 (by rw[e]))
  ·have e2:H.length=2:=by omega
   obtain⟨c,m',f1,f2,hm'⟩:=R.two e2 p hp;have x0:=R.sub _ (getElem_mem (show 0<H.length by omega))
   have x1:=R.sub _ (getElem_mem (show 1<H.length by omega))
   have el:(H.map fl)[(H.map fl).length-1]'(by omega)=fl H[1]:=by
    rw[getElem_map]
    congr 2;omega
   rw[el,getElem_map,zU];refine⟨c,zH fun h=>?_,zH fun h=>?_⟩
   ·have:=wM hs hm' hp x0 h;omega
   ·have:=wM hs hm' x1 hp h;omega
  ·rw[iz,getElem_map,zU];exact R.left k (by omega) p hp
end Law
namespace Law
open L2 DL
set_option maxHeartbeats 1000000
def wU (L:List aS)(m:Nat):Nat:=(List.range m).foldl (fun f k=>if M9 (gt L k) (gt L f)=true then k else f) 0
def MJ (L:List aS):List aS:=L.drop (wU L L.length)++L.take (wU L L.length)
theorem wV (L:List aS)(m:Nat):wU L (m+1)=if M9 (gt L m) (gt L (wU L m))=true then m else wU L m:=by
 unfold wU;rw[range_succ,foldl_append]
 rfl
theorem mL (ok:∀ s∈L,bA s)(h0:0<L.length):∀ m,m<=L.length->wU L m<L.length/\∀ j,j<m->¬ Bf (af (gt L j)) (af (gt L (wU L m)))
 | 0,_=>⟨h0,fun j hj=>by walk_at"o"⟩
 | m+1,hm=>by
  obtain⟨i1,i2⟩:=mL ok h0 m (by walk_at"o")
  have og:∀ i,i<L.length->bA (gt L i):=fun i hi=>by rw[bG hi];exact ok _ (getElem_mem _)
  rw[wV,EY (og m (by walk_at"o")) (og _ i1)]
  split
  ·rename_i hb;rw[e9]at hb;refine⟨by walk_at"o",fun j hj=>?_⟩
   by_cases e:j=m
   ·rw[e];exact Bf.irr _
   ·exact fun z=>i2 j (by walk_at"o") (Bf.trans (ca (og j (by walk_at"o"))) (ca (og m (by walk_at"o"))) (ca (og _ i1)) z hb)
  ·rename_i hb;rw[e9]at hb;refine⟨i1,fun j hj=>?_⟩
   by_cases e:j=m
   ·rw[e];exact hb
   ·exact i2 j (by walk_at"o")
def qh (n m i:Nat):Nat:=if i<n-m then m+i else i-(n-m)
theorem kJ (hm:m<n) (hi:i<n):qh n m i<n:=by unfold qh;split <;> walk_at"o"
theorem lM (K:List α)(hm:m<=K.length):(K.drop m++K.take m).length=K.length:=by
 rw[List.length_append,length_drop,length_take];walk_at"o"
theorem eI {α:Type}{K:List α}{m i:Nat} (hm:m<K.length) (hi:i<K.length):(K.drop m++K.take m)[i]'(by rw[lM K (by walk_at"o")];exact hi)=K[qh K.length m i]'(kJ hm hi):=by
 unfold qh
 split
 ·rename_i h;rw[getElem_append_left (by rw[length_drop];exact h),List.getElem_drop]
 ·rename_i h;rw[List.getElem_append_right (by rw[length_drop];walk_at"o"),List.getElem_take]
  simp only[length_drop]
theorem u5 {α:Type}{K:List α}{m:Nat}{u:α}:u∈K.drop m++K.take m↔u∈K:=by
 rw[mem_append,Or.comm,<-mem_append,List.take_append_drop]
theorem yY {α:Type}{K:List α}{m i:Nat} (hm:m<K.length) (hi:i<K.length):dX (K.drop m++K.take m) i (by rw[lM K (by walk_at"o")];exact hi)=dX K (qh K.length m i) (kJ hm hi):=by
 have hl:=lM K (m:=m) (by walk_at"o")
 unfold dX
 by_cases e:i=0
 ·rw[dif_pos e];have hl1:(K.drop m++K.take m).length-1=K.length-1:=by rw[hl]
  simp only[hl1];rw[eI hm (by walk_at"o")]
  subst e;have r0:qh K.length m 0=m:=by unfold qh;rw[if_pos (by walk_at"o")];rfl
  by_cases m0:m=0
  ·rw[dif_pos (by rw[r0];exact m0)]
   congr 1
   unfold qh;rw[if_pos (by walk_at"o")];walk_at"o"
  ·rw[dif_neg (by rw[r0];exact m0)]
   congr 1
   rw[r0];unfold qh;rw[if_neg (by walk_at"o")];walk_at"o"
 ·rw[dif_neg e,eI hm (by walk_at"o")]
  by_cases z:qh K.length m i=0
  ·rw[dif_pos z]
   congr 1
   unfold qh at z ⊢
   split at z
   ·walk_at"o"
   ·rw[if_pos (by walk_at"o")];walk_at"o"
  ·rw[dif_neg z]
   congr 1
   unfold qh at z ⊢
   split at z
   ·rw[if_pos (by walk_at"o"),if_pos (by walk_at"o")];walk_at"o"
   ·rename_i c;rw[if_neg (by walk_at"o"),if_neg c];walk_at"o"
theorem Kv {F:List Hf}{m:Nat}(hm:m<F.length)(T:tF F):tF (F.drop m++F.take m):=by
 intro a b c h1 h2 h3;rw[lM F (by walk_at"o")]at h3
 rw[eI hm (by walk_at"o"),eI hm (by walk_at"o"),eI hm h3]
 unfold qh
 by_cases hc:c<F.length-m
 ·simp only[if_pos hc,if_pos (show b<F.length-m by walk_at"o"),if_pos (show a<F.length-m by walk_at"o")]
  exact T _ _ _ (by walk_at"o") (by walk_at"o") _
 ·by_cases hb:b<F.length-m
  ·simp only[if_neg hc,if_pos hb,if_pos (show a<F.length-m by walk_at"o")]
   rw[<-aT];exact T _ _ _ (by walk_at"o") (by walk_at"o") _
  ·by_cases ha:a<F.length-m
   ·simp only[if_neg hc,if_neg hb,if_pos ha];rw[aT];exact T _ _ _ (by walk_at"o") (by walk_at"o") _
   ·simp only[if_neg hc,if_neg hb,if_neg ha];exact T _ _ _ (by walk_at"o") (by walk_at"o") _
theorem GF {h:Hf}{L K:List aS}(C:vI h L K):ke (MJ K)/\(∀ u,u∈MJ K↔u∈K)/\(MJ K).length=K.length:=by
 by_cases h0:K.length=0
 ·have e:K=[]:=length_eq_zero_iff.mp h0;subst e;exact⟨⟨fun u hu=>(nomatch hu),⟨fun k hk=>(nomatch hk),fun h=>(nomatch h)⟩,fun u hu=>(nomatch hu),fun k hk=>(nomatch hk)⟩,fun u=>Iff.rfl,rfl⟩
 have hp:0<K.length:=by walk_at"o"
 obtain⟨hm,hmin⟩:=mL C.ok hp K.length (le_refl _);unfold MJ;generalize wU K K.length=m at hm hmin;have hl:=lM K (m:=m) (by walk_at"o")
 have em:(K.drop m++K.take m).map af=(K.map af).drop m++(K.map af).take m:=by rw[map_append,map_drop,map_take]
 have T:tF ((K.drop m++K.take m).map af):=by
  rw[em];exact Kv (by rw[length_map];exact hm) C.tri
 refine⟨⟨fun u hu=>C.ok u (u5.mp hu),⟨fun k hk hk0=>?_,fun h2 k hk v hv h1 h3=>yW T h2 k hk v hv h1 h3⟩,fun u hu=>C.cn u (u5.mp hu),fun k hk=>?_⟩,fun u=>u5,hl⟩
 ·rw[length_map,hl]at hk;rw[getElem_map,getElem_map,eI hm hp,eI hm hk,e9];have r0:qh K.length m 0=m:=by unfold qh;rw[if_pos (by walk_at"o")];rfl
  have hr:=kJ hm hk;have rk:qh K.length m k≠m:=by unfold qh;split <;> walk_at"o"
  simp only[r0];have a:=hmin _ hr;rw[bG hr,bG hm]at a;have ne:K[m]≠K[qh K.length m k]:=fun e=>by
   rcases lt_trichotomy m (qh K.length m k) with l|l|l
   ·exact pairwise_iff_getElem.mp C.nd _ _ hm hr l e
   ·exact rk l.symm
   ·exact pairwise_iff_getElem.mp C.nd _ _ hr hm l e.symm
  exact(C7 (C.ok _ (getElem_mem _)) (C.ok _ (getElem_mem _)) ne).resolve_right a
 ·have hk':k<K.length:=by rw[hl]at hk;exact hk
  rw[yY hm hk',eI hm hk'];exact C.lk _ _
def ie (h:Hf)(L:List aS):List aS:=MJ (gR h L)
structure Ss (h:Hf) (L K:List aS):Prop where
 reg:ke K
 len:K.length<=L.length+2
 hold:∀ u∈K,bF (L.map af) (af u)/\0<=a5 h u
 kept:∀ s∈L,0<=a5 h s->s∈K
 cross:∀ k (hk:k<L.length),i6 h (dX L k hk) L[k]->dF h (dX L k hk) L[k]∈K
theorem tR (hh:hZ h)(R:ke L):Ss h L (ie h L):=by
 have C:=zK hh R;obtain⟨a,b,c⟩:=GF C;exact⟨a,by unfold ie;rw[c];exact C.len,fun u hu=>C.hold u ((b u).mp hu),fun s hs hf=>(b s).mpr (C.kept s hs hf),fun k hk ho=>(b _).mpr (C.cross k hk ho)⟩
theorem tL (hq:vH q u u):(Bf q x↔Bf u x)/\(Bf x q↔Bf x u):=by
 obtain⟨κ,α,β,k0,a0,b0,e1,e2,e3⟩:=hq;have c0:0<α+β:=by walk_at"o"
 have f1:κ*q.1=(α+β)*u.1:=by rw[e1];grind
 have f2:κ*q.2.1=(α+β)*u.2.1:=by rw[e2];grind
 have f3:κ*q.2.2=(α+β)*u.2.2:=by rw[e3];grind
 generalize α+β=c at c0 f1 f2 f3;have i1:κ*(q.1*x.2.2-x.1*q.2.2)=c*(u.1*x.2.2-x.1*u.2.2):=by
  have t:κ*(q.1*x.2.2-x.1*q.2.2)=κ*q.1*x.2.2-x.1*(κ*q.2.2):=by grind
  rw[t,f1,f3];grind
 have i2:κ*(q.2.1*x.2.2-x.2.1*q.2.2)=c*(u.2.1*x.2.2-x.2.1*u.2.2):=by
  have t:κ*(q.2.1*x.2.2-x.2.1*q.2.2)=κ*q.2.1*x.2.2-x.2.1*(κ*q.2.2):=by grind
  rw[t,f2,f3];grind
 have sg:∀ {d e:Int},κ*d=c*e->(0<d↔0<e)/\(d<0↔e<0):=fun {d e} h=>by
  constructor
  ·exact⟨fun z=>dA c0 (by rw[<-h];exact mul_pos k0 z),fun z=>dA k0 (by rw[h];exact mul_pos c0 z)⟩
  ·constructor
   ·intro z;have:=dA (κ:=c) (x:=-e) c0 (by rw[mul_neg,<-h];have:=mul_neg_of_pos_of_neg k0 z;walk_at"o")
    walk_at"o"
   ·intro z;have:=dA (κ:=κ) (x:=-d) k0 (by rw[mul_neg,h];have:=mul_neg_of_pos_of_neg c0 z;walk_at"o")
    walk_at"o"
 have s1:=sg i1;have s2:=sg i2;unfold Bf;generalize q.1*x.2.2=A1 at *;generalize x.1*q.2.2=A2 at *;generalize u.1*x.2.2=A3 at *;generalize x.1*u.2.2=A4 at *;generalize q.2.1*x.2.2=B1 at *;generalize x.2.1*q.2.2=B2 at *;generalize u.2.1*x.2.2=B3 at *;generalize x.2.1*u.2.2=B4 at *;constructor <;> constructor <;> intro z <;> walk_at"o"
theorem yb (hq:vH q u u)(v w:Hf):(0<=a6 v w u->0<=a6 v w q)/\(a6 v w u=0->a6 v w q=0):=by
 refine⟨fun h=>?_,fun h=>?_⟩
 ·rw[<-aT];exact uR hq v w (by rw[aT];exact h) (by rw[aT];exact h)
 ·obtain⟨κ,α,β,k0,a0,b0,e1,e2,e3⟩:=hq;have e:=uQ e1 e2 e3 v w;rw[aT q v w,aT u v w,h,mul_zero,mul_zero]at e
  rcases mul_eq_zero.mp (show κ*a6 v w q=0 by walk_at"o") with z | z
  ·walk_at"o"
  ·exact z
theorem rY (R:ke L)(hs:s∈L)(hq:vH q (af s) (af s)):bF (L.map af) q:=by
 obtain⟨j,hj,rfl⟩:=getElem_of_mem hs;have hl:(L.map af).length=L.length:=length_map ..;have hmem:af L[j]∈L.map af:=mem_map.mpr ⟨_,getElem_mem hj,rfl⟩;refine⟨by walk_at"o",fun h3=>?_,fun h3 k hk=>(yb hq _ _).1 ?_⟩
 ·rw[hl]at h3;rw[bU,bU,(tL hq).1,(tL hq).2];have el:(L.map af)[(L.map af).length-1]'(by walk_at"o")=af L[L.length-1]:=by
   rw[getElem_map];congr 2;walk_at"o"
  rw[el,getElem_map];have z:j=0\/j=L.length-1:=by walk_at"o"
  have ord:L.length=2->Bf (af L[0]) (af L[L.length-1]):=fun e=>by
   have:=R.reg.fst 1 (by rw[hl];walk_at"o") (by decide)
   rw[getElem_map,getElem_map,e9]at this;have e1:L.length-1=1:=by walk_at"o"
   simp only[e1];exact this
  rcases z with z|z
  ·subst z;refine⟨(yb hq _ _).2 (gz _ _),Bf.irr _,?_⟩
   by_cases e:L.length=2
   ·exact(ord e).asym
   ·have e1:L.length-1=0:=by walk_at"o"
    simp only[e1];exact Bf.irr _
  ·subst z;refine⟨(yb hq _ _).2 (dL _ _),?_,Bf.irr _⟩
   by_cases e:L.length=2
   ·exact(ord e).asym
   ·have e1:L.length-1=0:=by walk_at"o"
    simp only[e1];exact Bf.irr _
 ·by_cases e1:af L[j]=(L.map af)[k]
  ·rw[e1,dL];exact Int.le_refl _
  ·by_cases e2:af L[j]=dX (L.map af) k hk
   ·rw[e2,gz];exact Int.le_refl _
   ·exact le_of_lt (R.reg.trn (by walk_at"o") k hk _ hmem e1 e2)
def aR (h u:Hf):Int:=h.1*u.1+h.2.1*u.2.1-h.2.2*u.2.2
theorem cO (h:Hf)(s:aS):aR h (af s)=a5 h s:=(eE h s).symm
theorem GY (p:Pt):bA (gL p):=⟨⟨by show(0:Int)<1;decide,by show Int.gcd p.1 1=1;simp⟩,by show(0:Int)<1;decide,by show Int.gcd p.2 1=1;simp⟩
theorem vv (h:1<=n):Sz n 1:=⟨by show 1<2 ^ n;exact Nat.one_lt_two_pow (by walk_at"o")⟩
theorem vw:Sz n 0:=⟨Nat.two_pow_pos n⟩
end Law
namespace Law
open L2 DL
set_option maxHeartbeats 1000000
theorem Ny (e1:κ*u.1=α*p.1+β*q.1)(e2:κ*u.2.1=α*p.2.1+β*q.2.1)(e3:κ*u.2.2=α*p.2.2+β*q.2.2):κ*aR l u=α*aR l p+β*aR l q:=by
 unfold aR;have t:κ*(l.1*u.1+l.2.1*u.2.1-l.2.2*u.2.2)=l.1*(κ*u.1)+l.2.1*(κ*u.2.1)-l.2.2*(κ*u.2.2):=by grind
 rw[t,e1,e2,e3];grind
def Sj (L:List aS)(q:Hf):Prop:=∃ a b c:aS,a∈L/\b∈L/\c∈L/\∃ κ α β γ:Int,0<κ/\0<=α/\0<=β/\0<=γ/\κ*q.1=α*(af a).1+β*(af b).1+γ*(af c).1/\κ*q.2.1=α*(af a).2.1+β*(af b).2.1+γ*(af c).2.1/\κ*q.2.2=α*(af a).2.2+β*(af b).2.2+γ*(af c).2.2
theorem oA (e1:κ*q.1=α*a.1+β*b.1+γ*c.1)(e2:κ*q.2.1=α*a.2.1+β*b.2.1+γ*c.2.1)(e3:κ*q.2.2=α*a.2.2+β*b.2.2+γ*c.2.2):κ*aR l q=α*aR l a+β*aR l b+γ*aR l c:=by
 unfold aR;have t:κ*(l.1*q.1+l.2.1*q.2.1-l.2.2*q.2.2)=l.1*(κ*q.1)+l.2.1*(κ*q.2.1)-l.2.2*(κ*q.2.2):=by grind
 rw[t,e1,e2,e3];grind
def Cv (L:List aS)(q:Hf):Prop:=∀ l:Hf,(∀ s∈L,0<=aR l (af s))->0<=aR l q
theorem Mi (h:Sj L q):Cv L q:=by
 obtain⟨a,b,c,ha,hb,hc,κ,α,β,γ,k0,a0,b0,c0,e1,e2,e3⟩:=h;intro l hl;have e:=oA (l:=l) e1 e2 e3;have x1:=mul_nonneg a0 (hl a ha);have x2:=mul_nonneg b0 (hl b hb);have x3:=mul_nonneg c0 (hl c hc);exact cW k0 (by walk_at"o")
theorem change (f:Nat->Int):∀ m,2<=m->0<=f 1->f m<=0->∃ i,1<=i/\i<m/\0<=f i/\f (i+1)<=0
 | 0,h,_,_=>by walk_at"o"
 | 1,h,_,_=>by walk_at"o"
 | m+2,_,h1,h2=>by
  by_cases h:0<=f (m+1)
  ·exact⟨m+1,by walk_at"o",by walk_at"o",h,h2⟩
  ·by_cases hm:m=0
   ·subst hm;exact absurd h1 h
   ·obtain⟨i,i1,i2,i3,i4⟩:=change f (m+1) (by walk_at"o") h1 (by walk_at"o")
    exact⟨i,i1,by walk_at"o",i3,i4⟩
theorem Mh (a b c q:Hf):a6 a b c*q.1=a6 b c q*a.1+a6 c a q*b.1+a6 a b q*c.1/\a6 a b c*q.2.1=a6 b c q*a.2.1+a6 c a q*b.2.1+a6 a b q*c.2.1/\a6 a b c*q.2.2=a6 b c q*a.2.2+a6 c a q*b.2.2+a6 a b q*c.2.2:=by
 unfold a6;refine⟨?_,?_,?_⟩ <;> grind
theorem eW (R:ke L):qN (fun i=>af (gt L i)) L.length:=fun a b c h1 h2 h3=>by
 have:=fU R.reg a b c h1 h2 (by rw[length_map];exact h3)
 rw[getElem_map,getElem_map,getElem_map]at this;dsimp only;rw[bG (show a<L.length by walk_at"o"),bG (show b<L.length by walk_at"o"),bG h3]
 exact this
theorem jB (h:bF (L.map af) q)(h3:3<=L.length)(k:Nat)(hk:k<L.length):0<=a6 (af (gt L (bj L.length k))) (af (gt L k)) q:=by
 have:=h.all (by rw[length_map];exact h3) k (by rw[length_map];exact hk)
 rw[iz,getElem_map,iy hk,<-bG hk]at this;exact this
theorem Il (hd:a6 p r q=0)(hb:Bf p r)(h1:¬ Bf q p)(h2:¬ Bf r q)(zp:0<p.2.2)(zr:0<r.2.2)(zq:0<q.2.2):∃ κ α β:Int,0<κ/\0<=α/\0<=β/\κ*q.1=α*p.1+β*r.1/\κ*q.2.1=α*p.2.1+β*r.2.1/\κ*q.2.2=α*p.2.2+β*r.2.2:=by
 unfold Bf at hb h1 h2;unfold a6 at hd
 rcases hb with hb|⟨hb,hb'⟩
 ·refine⟨r.1*p.2.2-p.1*r.2.2,r.1*q.2.2-q.1*r.2.2,q.1*p.2.2-p.1*q.2.2,by walk_at"o",by walk_at"o",by walk_at"o",?_,?_,?_⟩
  ·grind
  ·grind
  ·grind
 ·have x1:q.1*p.2.2-p.1*q.2.2=0:=by
   have:(q.1*p.2.2-p.1*q.2.2)*(r.2.1*p.2.2-p.2.1*r.2.2)=0:=by grind
   rcases mul_eq_zero.mp this with z|z
   ·exact z
   ·walk_at"o"
  have x2:r.1*q.2.2-q.1*r.2.2=0:=by
   have:p.2.2*(r.1*q.2.2-q.1*r.2.2)=0:=by grind
   rcases mul_eq_zero.mp this with z|z
   ·walk_at"o"
   ·exact z
  refine⟨r.2.1*p.2.2-p.2.1*r.2.2,r.2.1*q.2.2-q.2.1*r.2.2,q.2.1*p.2.2-p.2.1*q.2.2,by walk_at"o",by walk_at"o",by walk_at"o",?_,?_,?_⟩
  ·grind
  ·grind
  ·grind
theorem li (R:ke L)(zq:0<q.2.2)(h:bF (L.map af) q):Sj L q:=by
 match L,R,h with
 | [],_,h=>exact absurd h.ne (by simp)
 | [p],R,h=>
  obtain⟨_,h1,h2⟩:=h.few (by simp)
  have h1:¬ Bf q (af p):=bU.mp h1;have h2:¬ Bf (af p) q:=bU.mp h2;have zp:=ca (R.ok p (by simp))
  unfold Bf at h1 h2;refine⟨p,p,p,by simp,by simp,by simp,(af p).2.2,q.2.2,0,0,zp,by walk_at"o",by walk_at"o",by walk_at"o",?_,?_,?_⟩
  ·have:q.1*(af p).2.2=(af p).1*q.2.2:=by walk_at"o"
   grind
  ·have:q.2.1*(af p).2.2=(af p).2.1*q.2.2:=by walk_at"o"
   grind
  ·grind
 | [p,r],R,h=>
  obtain⟨h0,h1,h2⟩:=h.few (by simp)
  have h0:a6 (af p) (af r) q=0:=h0;have h1:¬ Bf q (af p):=bU.mp h1;have h2:¬ Bf (af r) q:=bU.mp h2;have hb:Bf (af p) (af r):=e9.mp (R.reg.fst 1 (by simp) (by decide))
  obtain⟨κ,α,β,k0,a0,b0,e1,e2,e3⟩:=Il h0 hb h1 h2 (ca (R.ok p (by simp))) (ca (R.ok r (by simp))) zq
  exact⟨p,r,p,by simp,by simp,by simp,κ,α,β,0,k0,a0,b0,by walk_at"o",by rw[e1];walk_at"o",by rw[e2];walk_at"o",by rw[e3];walk_at"o"⟩
 | p::r::s::t,R,h=>
  have h3:3<=(p::r::s::t).length:=by simp
  generalize p::r::s::t=L at R h h3;have hT:=eW R;have f1:=jB h h3 1 (by walk_at"o")
  have f2:=jB h h3 0 (by walk_at"o")
  have e1:bj L.length 1=0:=rfl;have e2:bj L.length 0=L.length-1:=rfl;rw[e1]at f1;rw[e2]at f2;obtain⟨i,i1,i2,i3,i4⟩:=change (fun i=>a6 (af (gt L 0)) (af (gt L i)) q) (L.length-1) (by walk_at"o") f1 (by
   have:a6 (af (gt L 0)) (af (gt L (L.length-1))) q=-a6 (af (gt L (L.length-1))) (af (gt L 0)) q:=by unfold a6;grind
   show a6 (af (gt L 0)) (af (gt L (L.length-1))) q<=0;walk_at"o")
  have f3:=jB h h3 (i+1) (by walk_at"o")
  have e3:bj L.length (i+1)=i:=by unfold bj;rw[if_neg (by walk_at"o")];rfl
  rw[e3]at f3;have i3:0<=a6 (af (gt L 0)) (af (gt L i)) q:=i3;have i4:a6 (af (gt L 0)) (af (gt L (i+1))) q<=0:=i4;have D:=hT 0 i (i+1) (by walk_at"o") (by walk_at"o") (by walk_at"o")
  obtain⟨c1,c2,c3⟩:=Mh (af (gt L 0)) (af (gt L i)) (af (gt L (i+1))) q;have i5:0<=a6 (af (gt L (i+1))) (af (gt L 0)) q:=by
   have:a6 (af (gt L (i+1))) (af (gt L 0)) q=-a6 (af (gt L 0)) (af (gt L (i+1))) q:=by unfold a6;grind
   walk_at"o"
  have mem:∀ j,j<L.length->gt L j∈L:=fun j hj=>by rw[bG hj];exact getElem_mem _
  exact⟨gt L 0,gt L i,gt L (i+1),mem _ (by walk_at"o"),mem _ (by walk_at"o"),mem _ (by walk_at"o"),_,_,_,_,D,f3,i5,i3,c1,c2,c3⟩
def sC (a b:Hf):Hf:=(a.2.1*b.2.2-b.2.1*a.2.2,b.1*a.2.2-a.1*b.2.2,b.1*a.2.1-a.1*b.2.1)
theorem fH (a b q:Hf):aR (sC a b) q=a6 a b q:=by unfold aR sC a6;grind
theorem oo (R:ke L)(zq:0<q.2.2)(h:Cv L q):bF (L.map af) q:=by
 match L,R,h with
 | [],_,h=>
  have:=h (0,0,1) (fun s hs=>by cases hs)
  unfold aR at this;dsimp only at this;walk_at"o"
 | [p],R,h=>
  have zp:=ca (R.ok p (by simp))
  have all:∀ l:Hf,0<=aR l (af p)->0<=aR l q:=fun l hl=>h l (fun s hs=>by rw[mem_singleton.mp hs];exact hl)
  have a1:=all ((af p).2.2,0,(af p).1) (by unfold aR;grind)
  have a2:=all (-(af p).2.2,0,-(af p).1) (by unfold aR;grind)
  have a3:=all (0,(af p).2.2,(af p).2.1) (by unfold aR;grind)
  have a4:=all (0,-(af p).2.2,-(af p).2.1) (by unfold aR;grind)
  unfold aR at a1 a2 a3 a4;dsimp only at a1 a2 a3 a4;rw[zero_mul]at a1 a2 a3 a4;simp only[neg_mul]at a1 a2 a3 a4;rw[mul_comm (af p).2.2 q.1]at a1 a2;rw[mul_comm (af p).2.2 q.2.1]at a3 a4;refine⟨by simp,fun _=>⟨pj _ _,bU.mpr (fun z=>?_),bU.mpr (fun z=>?_)⟩,fun z=>by simp at z⟩
  ·have z:Bf q (af p):=z;unfold Bf at z;walk_at"o"
  ·have z:Bf (af p) q:=z;unfold Bf at z;walk_at"o"
 | [p,r],R,h=>
  have zp:=ca (R.ok p (by simp))
  have zr:=ca (R.ok r (by simp))
  have hb:Bf (af p) (af r):=e9.mp (R.reg.fst 1 (by simp) (by decide))
  have all:∀ l:Hf,0<=aR l (af p)->0<=aR l (af r)->0<=aR l q:=fun l hl hl'=>h l (fun s hs=>by
   rcases mem_cons.mp hs with e|e
   ·rw[e];exact hl
   ·rw[mem_singleton.mp e];exact hl')
  refine⟨by simp,fun _=>?_,fun z=>by simp at z⟩
  show a6 (af p) (af r) q=0/\k9 q (af p)=false/\k9 (af r) q=false;generalize af p=u at *;generalize af r=v at *;have d1:=all (sC u v) (by rw[fH,gz];exact Int.le_refl _) (by rw[fH,dL];exact Int.le_refl _)
  have d2:=all (sC v u) (by rw[fH,dL];exact Int.le_refl _) (by rw[fH,gz];exact Int.le_refl _)
  rw[fH]at d1 d2;have d3:a6 v u q=-a6 u v q:=by unfold a6;grind
  have hd:a6 u v q=0:=by walk_at"o"
  have hdd:=hd;unfold a6 at hdd;have ends:¬ Bf q u/\¬ Bf v q:=by
   unfold Bf at hb ⊢
   rcases hb with hb|⟨hb,hb'⟩
   ·have a1:=all (u.2.2,0,u.1) (by unfold aR;grind) (by unfold aR;dsimp only;rw[zero_mul,mul_comm u.2.2];walk_at"o")
    have a2:=all (-v.2.2,0,-v.1) (by unfold aR;dsimp only;rw[zero_mul,neg_mul,neg_mul,mul_comm v.2.2];walk_at"o") (by unfold aR;grind)
    unfold aR at a1 a2;dsimp only at a1 a2;rw[zero_mul]at a1 a2;simp only[neg_mul]at a1 a2;rw[mul_comm u.2.2]at a1;rw[mul_comm v.2.2]at a2;have k1:q.1*u.2.2=u.1*q.2.2->q.2.1*u.2.2=u.2.1*q.2.2:=fun e=>by
     have:(q.2.1*u.2.2-u.2.1*q.2.2)*(v.1*u.2.2-u.1*v.2.2)=0:=by grind
     rcases mul_eq_zero.mp this with z|z
     ·walk_at"o"
     ·walk_at"o"
    have k2:v.1*q.2.2=q.1*v.2.2->v.2.1*q.2.2=q.2.1*v.2.2:=fun e=>by
     have:(v.2.1*q.2.2-q.2.1*v.2.2)*(v.1*u.2.2-u.1*v.2.2)=0:=by grind
     rcases mul_eq_zero.mp this with z|z
     ·walk_at"o"
     ·walk_at"o"
    constructor
    ·rintro(z|⟨z,z'⟩)
     ·walk_at"o"
     ·have:=k1 z;walk_at"o"
    ·rintro(z|⟨z,z'⟩)
     ·walk_at"o"
     ·have:=k2 z;walk_at"o"
   ·have x1:q.1*u.2.2-u.1*q.2.2=0:=by
     have:(q.1*u.2.2-u.1*q.2.2)*(v.2.1*u.2.2-u.2.1*v.2.2)=0:=by grind
     rcases mul_eq_zero.mp this with z|z
     ·exact z
     ·walk_at"o"
    have x2:v.1*q.2.2-q.1*v.2.2=0:=by
     have:u.2.2*(v.1*q.2.2-q.1*v.2.2)=0:=by grind
     rcases mul_eq_zero.mp this with z|z
     ·walk_at"o"
     ·exact z
    have a1:=all (0,u.2.2,u.2.1) (by unfold aR;grind) (by unfold aR;dsimp only;rw[zero_mul,mul_comm u.2.2];walk_at"o")
    have a2:=all (0,-v.2.2,-v.2.1) (by unfold aR;dsimp only;rw[zero_mul,neg_mul,neg_mul,mul_comm v.2.2];walk_at"o") (by unfold aR;grind)
    unfold aR at a1 a2;dsimp only at a1 a2;rw[zero_mul]at a1 a2;simp only[neg_mul]at a1 a2;rw[mul_comm u.2.2]at a1;rw[mul_comm v.2.2]at a2;constructor
    ·rintro(z | ⟨z,z'⟩) <;> walk_at"o"
    ·rintro(z | ⟨z,z'⟩) <;> walk_at"o"
  exact⟨hd,bU.mpr ends.1,bU.mpr ends.2⟩
 | p::r::s::t,R,h=>
  have h3:3<=(p::r::s::t).length:=by simp
  generalize p::r::s::t=L at R h h3;have hT:=eW R;refine⟨by rw[length_map];walk_at"o",fun z=>by rw[length_map]at z;walk_at"o",fun _ k hk=>?_⟩
  rw[length_map]at hk;rw[iz,getElem_map,iy hk,<-bG hk,<-fH];refine h _ fun s hs=>?_;obtain⟨j,hj,rfl⟩:=getElem_of_mem hs;rw[fH,<-bG hj];exact ip (P:=fun i=>af (gt L i)) hT hk hj
theorem jf (R:ke L)(zq:0<q.2.2):bF (L.map af) q↔Cv L q:=⟨fun h=>Mi (li R zq h),oo R zq⟩
end Law
namespace Law
open L2 DL
set_option maxHeartbeats 1000000
def Rf (Q:Hf->Prop)(l:Hf):Prop:=∀ x,Q x->0<=aR l x
theorem Bq (l u v w q:Hf):aR l q*a6 u v w=a6 v w q*aR l u+a6 w u q*aR l v+a6 u v q*aR l w:=by
 unfold aR a6;grind
theorem PV (hn:3<=n)(hi:i<n)(hf:0<a5 h (G i)):3<=(KI h G n n).length:=by
 obtain⟨j,hj,ej,jne,jne2⟩:∃ j,j<n/\bj n j=i/\j≠i/\j≠bj n i:=by
  by_cases e:i=n-1
  ·refine⟨0,by walk_at"o",?_,by walk_at"o",?_⟩
   ·unfold bj;rw[if_pos rfl];walk_at"o"
   ·unfold bj;rw[if_neg (by walk_at"o")];walk_at"o"
  ·refine⟨i+1,by walk_at"o",?_,by walk_at"o",?_⟩
   ·unfold bj;rw[if_neg (by walk_at"o")];walk_at"o"
   ·unfold bj;split <;> walk_at"o"
 have m1:((i,false,G i):Itm)∈KI h G n n:=cA.mpr ⟨hi,.inr ⟨rfl,b8.mpr (show 0<=a5 h (G i) by walk_at"o"),rfl⟩⟩
 obtain⟨x,mx,ex⟩:∃ x:Itm,x∈KI h G n n/\((x.1=i/\x.2.1=true)\/(x.1=bj n i/\x.2.1=false)):=by
  by_cases z:0<=a5 h (G (bj n i))
  ·exact⟨(bj n i,false,G (bj n i)),cA.mpr ⟨cB hi,.inr ⟨rfl,b8.mpr z,rfl⟩⟩,.inr ⟨rfl,rfl⟩⟩
  ·exact⟨(i,true,dF h (G (bj n i)) (G i)),cA.mpr ⟨hi,.inl ⟨rfl,ci.mpr (by dsimp only;walk_at"o"),rfl⟩⟩,.inl ⟨rfl,rfl⟩⟩
 obtain⟨y,my,ey⟩:∃ y:Itm,y∈KI h G n n/\y.1=j:=by
  by_cases z:0<=a5 h (G j)
  ·exact⟨(j,false,G j),cA.mpr ⟨hj,.inr ⟨rfl,b8.mpr z,rfl⟩⟩,rfl⟩
  ·exact⟨(j,true,dF h (G (bj n j)) (G j)),cA.mpr ⟨hj,.inl ⟨rfl,ci.mpr (by dsimp only;rw[ej];walk_at"o"),rfl⟩⟩,rfl⟩
 have pn:=(iA hn hi).1;have nd:[((i,false,G i):Itm),x,y].Nodup:=by
  simp only[nodup_cons,mem_cons,not_mem_nil,or_false,not_or,not_false_eq_true,and_true,nodup_nil];refine⟨⟨fun e=>?_,fun e=>?_⟩,fun e=>?_⟩
  ·have e1:x.1=i:=by rw[<-e]
   have e2:x.2.1=false:=by rw[<-e]
   rcases ex with ⟨_,z⟩|⟨z,_⟩
   ·rw[z]at e2;cases e2
   ·walk_at"o"
  ·have e1:y.1=i:=by rw[<-e]
   walk_at"o"
  ·have e1:x.1=y.1:=by rw[e]
   rcases ex with ⟨z,_⟩ | ⟨z,_⟩ <;> walk_at"o"
 have:=List.Nodup.length_le_of_subset nd (l₂:=KI h G n n) (fun z hz=>by
  simp only[mem_cons,not_mem_nil,or_false]at hz
  rcases hz with rfl|rfl|rfl
  ·exact m1
  ·exact mx
  ·exact my)
 exact this
theorem pI (hh:hZ h)(R:ke L):(ie h L).length=(gR h L).length:=(GF (zK hh R)).2.2
theorem td (op:bA p)(or':bA r)(ho:i6 h p r)(hc:0<=aR l (af (dF h p r)))(hp:0<=aR l (af p))(A0:0<=A)(B0:0<=B)(fq:0<=A*aR h (af p)+B*aR h (af r))(s:0<a5 h p\/False):0<=A*aR l (af p)+B*aR l (af r):=by
 have s:=s.resolve_right id;have o:=ci.mp ho;have r0:a5 h r<0:=by walk_at"o"
 obtain⟨_,κ,c,k0,c0,e1,e2,e3⟩:=zM op or' (show a5 h p≠0 by walk_at"o") (show a5 h r≠0 by walk_at"o")
 have x1:hV (a5 h r)=-a5 h r:=by unfold hV;rw[if_pos r0]
 have x2:hV (a5 h p)=a5 h p:=by unfold hV;rw[if_neg (by walk_at"o")]
 rw[x1,x2]at e1 e2 e3;rw[cO,cO]at fq;have t:=Ny (l:=l) (u:=af (dF h p r)) (p:=af p) (q:=af r) (κ:=κ) (α:=c*-a5 h r) (β:=c*a5 h p) (by rw[e1];grind) (by rw[e2];grind) (by rw[e3];grind)
 generalize aR l (af (dF h p r))=S at t hc;generalize aR l (af p)=P at *;generalize aR l (af r)=Rr at *;generalize a5 h p=F at *;generalize a5 h r=G at *;refine cW (κ:=c*F) (mul_pos c0 s) ?_;have k:c*F*(A*P+B*Rr)=B*(κ*S)+c*(P*(A*F+B*G)):=by rw[t];grind
 rw[k];have a1:=mul_nonneg B0 (mul_nonneg (le_of_lt k0) hc);have a2:=mul_nonneg (le_of_lt c0) (mul_nonneg hp fq);walk_at"o"
theorem BE (hh:hZ h)(R:ke L)(zq:0<q.2.2)(hL:bF (L.map af) q)(hf:0<=aR h q):bF ((ie h L).map af) q:=by
 have C:=tR hh R;obtain⟨a,b,c,ha,hb,hc,κ,α,β,γ,k0,a0,b0,c0,e1,e2,e3⟩:=li R zq hL;have lin:=fun l=>oA (l:=l) e1 e2 e3
 by_cases n3:3<=L.length
 ·have ok:∀ i,i<L.length->bA (gt L i):=fun i hi=>by rw[bG hi];exact R.ok _ (getElem_mem _)
  have hT:=eW R;have eK:gR h L=(KI h (gt L) L.length L.length).map (·.2.2):=by
   unfold gR;rw[yU];exact oj n3 ok hT _ (le_refl _)
  by_cases k3:3<=(ie h L).length
  ·let Q:Hf->Prop:=fun x=>bF (L.map af) x/\0<=aR h x
   have hQh:xI (Rf Q) h:=⟨fun x hx=>hx.2,hh.2⟩;have lkQ:∀ k,k<L.length->CB (Rf Q) (gt L (bj L.length k)) (gt L k):=fun k hk=>by
    have B:(sC (af (gt L (bj L.length k))) (af (gt L k))).1≠0\/(sC (af (gt L (bj L.length k))) (af (gt L k))).2.1≠0:=by
     by_cases z:(sC (af (gt L (bj L.length k))) (af (gt L k))).1=0/\(sC (af (gt L (bj L.length k))) (af (gt L k))).2.1=0
     ·exfalso;obtain⟨m,hm,m1,m2⟩:∃ m,m<L.length/\m≠k/\m≠bj L.length k:=⟨bj L.length (bj L.length k),cB (cB hk),(iA n3 hk).2.1,(iA n3 hk).2.2⟩;have p1:=di (P:=fun i=>af (gt L i)) hT hk hm m1 m2;have p2:aR (sC (af (gt L (bj L.length k))) (af (gt L k))) (af (gt L k))=0:=by rw[fH,dL]
      have p1:0<a6 (af (gt L (bj L.length k))) (af (gt L k)) (af (gt L m)):=p1;rw[<-fH]at p1;have z1:=ca (ok k hk);unfold aR at p1 p2;rw[z.1,z.2,zero_mul,zero_mul]at p1 p2;have z2:(sC (af (gt L (bj L.length k))) (af (gt L k))).2.2=0:=by
       rcases mul_eq_zero.mp (show(sC (af (gt L (bj L.length k))) (af (gt L k))).2.2*(af (gt L k)).2.2=0 by walk_at"o") with y | y
       ·exact y
       ·walk_at"o"
      rw[z2,zero_mul]at p1;walk_at"o"
     ·by_cases z1:(sC (af (gt L (bj L.length k))) (af (gt L k))).1=0
      ·exact .inr fun z2=>z ⟨z1,z2⟩
      ·exact .inl z1
    have A:∀ x,Q x->0<=aR (sC (af (gt L (bj L.length k))) (af (gt L k))) x:=fun x hx=>by
     rw[fH];exact jB hx.1 n3 k hk
    refine⟨sC (af (gt L (bj L.length k))) (af (gt L k)),⟨A,B,?_⟩,⟨A,B,?_⟩⟩
    ·rw[<-cO,fH,gz]
    ·rw[<-cO,fH,dL]
   have H:=ot hQh (show 0<L.length by walk_at"o") ok lkQ L.length (le_refl _)
   have e2:bj L.length L.length=L.length-1:=by unfold bj;rw[if_neg (by walk_at"o")]
   rw[e2,<-eK]at H;have cyc:=tX hQh H;have inQ:∀ u∈ie h L,Q (af u):=fun u hu=>⟨(C.hold u hu).1,by rw[cO];exact(C.hold u hu).2⟩
   have T:=fU C.reg.reg;refine⟨by rw[length_map];walk_at"o",fun z=>by rw[length_map]at z;walk_at"o",fun _ k hk=>?_⟩
   rw[length_map]at hk;rw[iz,getElem_map];have hlk:CB (Rf Q) (dX (ie h L) k hk) (ie h L)[k]:=by
    have hm0:0<(gR h L).length:=by rw[<-pI hh R];walk_at"o"
    obtain⟨hm,_⟩:=mL (zK hh R).ok hm0 (gR h L).length (le_refl _);have hk2:k<(gR h L).length:=by rw[<-pI hh R];exact hk
    have g1:(ie h L)[k]=(gR h L)[qh (gR h L).length (wU (gR h L) (gR h L).length) k]'(kJ hm hk2):=eI hm hk2;have g2:dX (ie h L) k hk=dX (gR h L) (qh (gR h L).length (wU (gR h L) (gR h L).length) k) (kJ hm hk2):=yY hm hk2;rw[g1,g2];exact cyc _ _
   obtain⟨l,⟨gl,nl,lu⟩,⟨_,_,lv⟩⟩:=hlk;have hpv:=iy hk;have hgk:=bG hk;obtain⟨m,hm,m1,m2⟩:∃ m,m<(ie h L).length/\m≠k/\m≠bj (ie h L).length k:=⟨bj (ie h L).length (bj (ie h L).length k),cB (cB hk),(iA k3 hk).2.1,(iA k3 hk).2.2⟩;have pos:0<a6 (af (dX (ie h L) k hk)) (af (ie h L)[k]) (af (gt (ie h L) m)):=by
    rw[hpv,<-hgk];exact di (P:=fun i=>af (gt (ie h L) i)) (eW C.reg) hk hm m1 m2
   have gw:0<=aR l (af (gt (ie h L) m)):=gl _ (inQ _ (by rw[bG hm];exact getElem_mem _))
   have gq:0<=aR l q:=gl _ ⟨hL,hf⟩;rw[<-cO]at lu lv;have cr:=Bq l (af (dX (ie h L) k hk)) (af (ie h L)[k]) (af (gt (ie h L) m)) q;rw[lu,lv,mul_zero,mul_zero]at cr;have gw':0<aR l (af (gt (ie h L) m)):=by
    rcases lt_or_le 0 (aR l (af (gt (ie h L) m))) with z|z
    ·exact z
    ·have z0:aR l (af (gt (ie h L) m))=0:=by walk_at"o"
     unfold aR at lu lv z0;have:=Ao nl lu lv z0;walk_at"o"
   have x:=mul_nonneg gq (le_of_lt pos);refine cW gw' ?_;rw[mul_comm];walk_at"o"
  ·
   have no:∀ s∈L,a5 h s<=0:=fun s hs=>by
    rcases lt_or_le 0 (a5 h s) with z|z
    ·exfalso;obtain⟨i,hi,rfl⟩:=getElem_of_mem hs;rw[<-bG hi]at z;have:=PV n3 hi z;have e:=pI hh R;rw[eK,length_map]at e;walk_at"o"
    ·exact z
   refine oo C.reg zq fun l hl=>?_;have fl:=lin h;have f1:∀ s∈L,∀ w:Int,0<=w->w*aR h (af s)<=0/\(w*aR h (af s)=0->0<=w*aR l (af s)):=fun s hs w w0=>by
    have ns:=no s hs;rw[<-cO]at ns;refine⟨mul_nonpos_of_nonneg_of_nonpos w0 ns,fun e=>?_⟩
    rcases mul_eq_zero.mp e with z|z
    ·rw[z,zero_mul];exact Int.le_refl _
    ·exact mul_nonneg w0 (hl s (C.kept s hs (by rw[<-cO];walk_at"o")))
   have q0:=mul_nonneg (le_of_lt k0) hf;have x1:=f1 a ha α a0;have x2:=f1 b hb β b0;have x3:=f1 c hc γ c0;have y1:=x1.2 (by walk_at"o")
   have y2:=x2.2 (by walk_at"o")
   have y3:=x3.2 (by walk_at"o")
   have ll:=lin l;exact cW k0 (by walk_at"o")
 ·refine oo C.reg zq fun l hl=>?_
  match L,R,C,n3,hl,ha,hb,hc with
  | [],_,_,_,_,ha,_,_=>cases ha
  | [p],R,C,_,hl,ha,hb,hc=>
   rw[mem_singleton.mp ha,mem_singleton.mp hb,mem_singleton.mp hc]at lin;have z3:=lin (0,0,-1);have zp:=ca (R.ok p (by simp))
   have hz:0<α+β+γ:=by
    unfold aR at z3;dsimp only at z3;have:=mul_pos k0 zq
    rcases lt_or_le 0 (α+β+γ) with z|z
    ·exact z
    ·have t:κ*q.2.2=(α+β+γ)*(af p).2.2:=by grind
     have:=mul_nonpos_of_nonpos_of_nonneg z (le_of_lt zp);walk_at"o"
   have t:∀ m:Hf,κ*aR m q=(α+β+γ)*aR m (af p):=fun m=>by rw[lin m];grind
   have fp:0<=aR h (af p):=cW hz (by rw[<-t];exact mul_nonneg (le_of_lt k0) hf)
   have:=hl p (C.kept p (by simp) (by rw[<-cO];exact fp))
   exact cW k0 (by rw[t];exact mul_nonneg (le_of_lt hz) this)
  | [p,r],R,C,_,hl,ha,hb,hc=>
   have op:=R.ok p (by simp)
   have or':=R.ok r (by simp)
   obtain⟨A,B,A0,B0,t⟩:∃ A B:Int,0<=A/\0<=B/\∀ m:Hf,κ*aR m q=A*aR m (af p)+B*aR m (af r):=by
    have one:∀ s∈[p,r],∀ w:Int,0<=w->∃ x y:Int,0<=x/\0<=y/\∀ m:Hf,w*aR m (af s)=x*aR m (af p)+y*aR m (af r):=fun s hs w w0=>by
     rcases mem_cons.mp hs with e|e
     ·exact⟨w,0,w0,by walk_at"o",fun m=>by rw[e];walk_at"o"⟩
     ·exact⟨0,w,by walk_at"o",w0,fun m=>by rw[mem_singleton.mp e];walk_at"o"⟩
    obtain⟨x1,y1,h1,h2,h3⟩:=one a ha α a0;obtain⟨x2,y2,h4,h5,h6⟩:=one b hb β b0;obtain⟨x3,y3,h7,h8,h9⟩:=one c hc γ c0;exact⟨x1+x2+x3,y1+y2+y3,by walk_at"o",by walk_at"o",fun m=>by rw[lin m,h3 m,h6 m,h9 m];grind⟩
   have fq:=mul_nonneg (le_of_lt k0) hf;rw[t]at fq;have kp:0<=aR h (af p)->0<=aR l (af p):=fun z=>hl p (C.kept p (by simp) (by rw[<-cO];exact z))
   have kr:0<=aR h (af r)->0<=aR l (af r):=fun z=>hl r (C.kept r (by simp) (by rw[<-cO];exact z))
   have kj:i6 h p r->0<=aR l (af (dF h p r)):=fun ho=>hl _ (C.cross 1 (by simp) ho)
   refine cW k0 ?_;rw[t]
   by_cases zp:0<=aR h (af p)
   ·by_cases zr:0<=aR h (af r)
    ·have:=mul_nonneg A0 (kp zp);have:=mul_nonneg B0 (kr zr);walk_at"o"
    ·by_cases zp0:aR h (af p)=0
     ·rw[zp0,mul_zero]at fq;have:B=0:=by
       rcases lt_or_le 0 B with y|y
       ·have:=mul_neg_of_pos_of_neg y (show aR h (af r)<0 by walk_at"o");walk_at"o"
       ·walk_at"o"
      rw[this,zero_mul];have:=mul_nonneg A0 (kp zp);walk_at"o"
     ·have ho:i6 h p r:=ci.mpr (by rw[<-cO,<-cO];walk_at"o")
      exact td op or' ho (kj ho) (kp zp) A0 B0 fq (.inl (by rw[<-cO];walk_at"o"))
   ·by_cases zr:0<=aR h (af r)
    ·by_cases zr0:aR h (af r)=0
     ·rw[zr0,mul_zero]at fq;have:A=0:=by
       rcases lt_or_le 0 A with y|y
       ·have:=mul_neg_of_pos_of_neg y (show aR h (af p)<0 by walk_at"o");walk_at"o"
       ·walk_at"o"
      rw[this,zero_mul];have:=mul_nonneg B0 (kr zr);walk_at"o"
     ·have ho:i6 h r p:=ci.mpr (by rw[<-cO,<-cO];walk_at"o")
      have ho':i6 h p r:=ci.mpr (by rw[<-cO,<-cO];walk_at"o")
      have c:=kj ho';rw[oe]at c;rw[Int.add_comm]at fq ⊢;exact td or' op ho c (kr zr) B0 A0 fq (.inl (by rw[<-cO];walk_at"o"))
    ·have:A=0/\B=0:=by
      have a1:=mul_nonpos_of_nonneg_of_nonpos A0 (show aR h (af p)<=0 by walk_at"o")
      have b1:=mul_nonpos_of_nonneg_of_nonpos B0 (show aR h (af r)<=0 by walk_at"o")
      constructor
      ·rcases lt_or_le 0 A with y|y
       ·have:=mul_neg_of_pos_of_neg y (show aR h (af p)<0 by walk_at"o");walk_at"o"
       ·walk_at"o"
      ·rcases lt_or_le 0 B with y|y
       ·have:=mul_neg_of_pos_of_neg y (show aR h (af r)<0 by walk_at"o");walk_at"o"
       ·walk_at"o"
     rw[this.1,this.2];walk_at"o"
  | _::_::_::_,_,_,n3,_,_,_,_=>exact absurd (by simp) n3
theorem P1 (hh:hZ h)(R:ke L)(zq:0<q.2.2):bF ((ie h L).map af) q↔bF (L.map af) q/\0<=aR h q:=by
 refine⟨fun hK=>?_,fun z=>BE hh R zq z.1 z.2⟩;have C:=tR hh R;have cK:=(jf C.reg zq).mp hK;refine⟨oo R zq fun l hl=>cK l fun s hs=>?_,cK h fun s hs=>by rw[cO];exact(C.hold s hs).2⟩
 exact(jf R (ca (C.reg.ok s hs))).mp (C.hold s hs).1 l hl
end Law
namespace Law
open L2 DL
set_option maxHeartbeats 1000000
theorem JT (hp:bA p)(hq:bA q)(k0:0<κ)(e1:κ*(af p).1=c*(af q).1)(e2:κ*(af p).2.1=c*(af q).2.1)(e3:κ*(af p).2.2=c*(af q).2.2):p=q:=by
 have zp:=ca hp;have zq:=ca hq;have c0:0<c:=by
  rcases lt_or_le 0 c with z|z
  ·exact z
  ·have:=mul_pos k0 zp;have:=mul_nonpos_of_nonpos_of_nonneg z (le_of_lt zq);walk_at"o"
 have hm:vH (af p) (af q) (af q):=⟨2*κ,c,c,by walk_at"o",c0,c0,by grind,by grind,by grind⟩
 by_cases h:p=q
 ·exact h
 ·rcases C7 hp hq h with z|z
  ·exact absurd ((tL hm).1.mp z) (Bf.irr _)
  ·exact absurd ((tL hm).2.mp z) (Bf.irr _)
theorem Rx (R:ke L)(hu:u∈L):∃ g:Hf,aR g (af u)=0/\∀ s∈L,s≠u->0<aR g (af s):=by
 match L,R,hu with
 | [],_,hu=>cases hu
 | [p],_,hu=>exact⟨(0,0,0),by unfold aR;simp,fun s hs h=>absurd ((mem_singleton.mp hs).trans (mem_singleton.mp hu).symm) h⟩
 | [p,r],R,hu=>
  have hb:Bf (af p) (af r):=e9.mp (R.reg.fst 1 (by simp) (by decide))
  have two:∀ s∈[p,r],s=p\/s=r:=fun s hs=>by simpa using hs
  unfold Bf at hb
  rcases two u hu with rfl|rfl
  ·rcases hb with hb|⟨_,hb⟩
   ·refine⟨((af u).2.2,0,(af u).1),by unfold aR;grind,fun s hs h=>?_⟩
    rw[(two s hs).resolve_left h];unfold aR;dsimp only;rw[zero_mul,mul_comm (af u).2.2];walk_at"o"
   ·refine⟨(0,(af u).2.2,(af u).2.1),by unfold aR;grind,fun s hs h=>?_⟩
    rw[(two s hs).resolve_left h];unfold aR;dsimp only;rw[zero_mul,mul_comm (af u).2.2];walk_at"o"
  ·rcases hb with hb|⟨_,hb⟩
   ·refine⟨(-(af u).2.2,0,-(af u).1),by unfold aR;grind,fun s hs h=>?_⟩
    rw[(two s hs).resolve_right h];unfold aR;dsimp only;rw[zero_mul,neg_mul,neg_mul,mul_comm (af u).2.2];walk_at"o"
   ·refine⟨(0,-(af u).2.2,-(af u).2.1),by unfold aR;grind,fun s hs h=>?_⟩
    rw[(two s hs).resolve_right h];unfold aR;dsimp only;rw[zero_mul,neg_mul,neg_mul,mul_comm (af u).2.2];walk_at"o"
 | a::b::c::t,R,hu=>
  have h3:3<=(a::b::c::t).length:=by simp
  generalize a::b::c::t=L at R hu h3;have hT:=eW R;obtain⟨i,hi,rfl⟩:=getElem_of_mem hu;obtain⟨j,hj,ej⟩:∃ j,j<L.length/\bj L.length j=i:=by
   by_cases e:i=L.length-1
   ·exact⟨0,by walk_at"o",by unfold bj;rw[if_pos rfl];walk_at"o"⟩
   ·exact⟨i+1,by walk_at"o",by unfold bj;rw[if_neg (by walk_at"o")];walk_at"o"⟩
  let g1:=sC (af (gt L (bj L.length i))) (af (gt L i))
  let g2:=sC (af (gt L i)) (af (gt L j))
  have sum:∀ x:Hf,aR (g1.1+g2.1,g1.2.1+g2.2.1,g1.2.2+g2.2.2) x=a6 (af (gt L (bj L.length i))) (af (gt L i)) x+a6 (af (gt L i)) (af (gt L j)) x:=fun x=>by
   rw[<-fH,<-fH];show aR _ x=aR g1 x+aR g2 x;unfold aR;dsimp only;grind
  refine⟨(g1.1+g2.1,g1.2.1+g2.2.1,g1.2.2+g2.2.2),?_,fun s hs h=>?_⟩
  ·rw[sum,<-bG hi,dL,gz];rfl
  ·obtain⟨m,hm,rfl⟩:=getElem_of_mem hs;rw[sum,<-bG hm];have mi:m≠i:=fun e=>h (by subst e;rfl)
   have n1:=ip (P:=fun i=>af (gt L i)) hT hi hm;have n2:=ip (P:=fun i=>af (gt L i)) hT hj hm;have n1:0<=a6 (af (gt L (bj L.length i))) (af (gt L i)) (af (gt L m)):=n1;have n2:0<=a6 (af (gt L (bj L.length j))) (af (gt L j)) (af (gt L m)):=n2;rw[ej]at n2
   by_cases e:m=bj L.length i
   ·have ne:=(iA h3 hj).2.1;rw[ej]at ne;have:=di (P:=fun i=>af (gt L i)) hT hj hm (by rw[e];exact ne) (by rw[ej];exact mi)
    have this:0<a6 (af (gt L (bj L.length j))) (af (gt L j)) (af (gt L m)):=this;rw[ej]at this;walk_at"o"
   ·have:=di (P:=fun i=>af (gt L i)) hT hi hm mi e;have this:0<a6 (af (gt L (bj L.length i))) (af (gt L i)) (af (gt L m)):=this;walk_at"o"
theorem sV {α:Type}{P:α->α->Prop}(as:∀ a b,P a b->¬ P b a):∀ {l m:List α},l.Pairwise P->m.Pairwise P->(∀ x,x∈l↔x∈m)->l=m
 | [],[],_,_,_=>rfl
 | [],b::m,_,_,h=>absurd ((h b).mpr mem_cons_self) (by simp)
 | a::l,[],_,_,h=>absurd ((h a).mp mem_cons_self) (by simp)
 | a::l,b::m,hl,hm,h=>by
  obtain⟨h1,h2⟩:=pairwise_cons.mp hl;obtain⟨h3,h4⟩:=pairwise_cons.mp hm;have e:a=b:=by
   rcases mem_cons.mp ((h a).mp mem_cons_self) with e|e
   ·exact e
   ·rcases mem_cons.mp ((h b).mpr mem_cons_self) with e'|e'
    ·exact e'.symm
    ·exact absurd (h1 b e') (as _ _ (h3 a e))
  subst e;refine congrArg _ (sV as h2 h4 fun x=>⟨fun hx=>?_,fun hx=>?_⟩)
  ·rcases mem_cons.mp ((h x).mp (mem_cons_of_mem _ hx)) with e|e
   ·subst e;exact absurd (h1 _ hx) (as _ _ (h1 _ hx))
   ·exact e
  ·rcases mem_cons.mp ((h x).mpr (mem_cons_of_mem _ hx)) with e|e
   ·subst e;exact absurd (h3 _ hx) (as _ _ (h3 _ hx))
   ·exact e
end Law
namespace Law
open L2 DL
set_option maxHeartbeats 1000000
def xK (L0:List aS)(D:List Hf)(L:List aS):Prop:=ke L/\L.length<=L0.length+2*D.length/\∀ q:Hf,0<q.2.2->(bF (L.map af) q↔bF (L0.map af) q/\∀ h∈D,0<=aR h q)
theorem RD (R:ke L0):xK L0 [] L0:=⟨R,by simp,fun q _=>⟨fun h=>⟨h,fun _ hh=>(nomatch hh)⟩,fun h=>h.1⟩⟩
theorem EB (hh:hZ h)(I:xK L0 D L):xK L0 (D++[h]) (ie h L):=by
 obtain⟨R,hl,hq⟩:=I;have C:=tR hh R;refine⟨C.reg,by have:=C.len;rw[List.length_append,length_singleton];walk_at"o",fun q zq=>?_⟩
 rw[P1 hh R zq,hq q zq];constructor
 ·rintro⟨⟨a,b⟩,c⟩;refine⟨a,fun x hx=>?_⟩
  rcases mem_append.mp hx with hx|hx
  ·exact b x hx
  ·rw[mem_singleton.mp hx];exact c
 ·rintro⟨a,b⟩;exact⟨⟨a,fun x hx=>b x (mem_append_left _ hx)⟩,b h (mem_append_right _ (mem_singleton.mpr rfl))⟩
theorem Qn (hne:a≠0\/b≠0)(q:Hf):0<=aR (ML a b c) q↔0<=aR (a,b,c) q:=by
 have g0:0<(j8 a b c:Int):=by have:=Ad (c:=c) hne;walk_at"o"
 have e1:=cf (Eo a b c);have e2:=cf (Ep a b c);have e3:=cf (MK a b c);have k:(j8 a b c:Int)*aR (ML a b c) q=aR (a,b,c) q:=by
  unfold ML aR;dsimp only;generalize a.fdiv (j8 a b c)=x at *;generalize b.fdiv (j8 a b c)=y at *;generalize c.fdiv (j8 a b c)=z at *;generalize (j8 a b c:Int)=g at *;rw[<-e1,<-e2,<-e3];grind
 rw[<-k];exact⟨fun h=>mul_nonneg (le_of_lt g0) h,fun h=>cW g0 h⟩
theorem PY (hne:a≠0\/b≠0)(hz:du 300 (a,b,c)):hZ (ML a b c):=by
 refine⟨⟨hz.1.fdiv _,hz.2.1.fdiv _,hz.2.2.fdiv _⟩,?_⟩
 rcases hne with h|h
 ·exact .inl (Ab (Eo a b c) h)
 ·exact .inr (Ab (Ep a b c) h)
theorem nF (hne:p≠q)(x:Hf):0<=aR (xX p q) x↔0<=a6 (fl p) (fl q) x:=by
 have n:p.2-q.2≠0\/q.1-p.1≠0:=by
  by_cases a:p.2-q.2=0
  ·exact .inr fun b=>hne (Prod.ext (by walk_at"o") (by walk_at"o"))
  ·exact .inl a
 unfold xX;rw[Qn n];have:aR (p.2-q.2,q.1-p.1,(p.2-q.2)*p.1+(q.1-p.1)*p.2) x=a6 (fl p) (fl q) x:=by
  unfold aR a6 fl;grind
 rw[this]
theorem Py (hne:p≠q)(zp:SzF 110 p)(zq:SzF 110 q):hZ (xX p q):=by
 have n:p.2-q.2≠0\/q.1-p.1≠0:=by
  by_cases a:p.2-q.2=0
  ·exact .inr fun b=>hne (Prod.ext (by walk_at"o") (by walk_at"o"))
  ·exact .inl a
 have za:Sz 120 (p.2-q.2):=(Sz.sub zp.2 zq.2).mono (by decide)
 have zb:Sz 120 (q.1-p.1):=(Sz.sub zq.1 zp.1).mono (by decide)
 have zc:Sz 300 ((p.2-q.2)*p.1+(q.1-p.1)*p.2):=(Sz.add (Sz.mul za zp.1) (Sz.mul zb zp.2)).mono (by decide)
 exact PY n ⟨za.mono (by decide),zb.mono (by decide),zc⟩
theorem Gk (z:SzF 115 p):OD (1,0,p.1) (gL p):=⟨⟨vv (by decide),vw,z.1.mono (by decide)⟩,.inl (show(1:Int)≠0 by decide),by unfold a5 gL;simp⟩
theorem Qh (z:SzF 115 p):OD (0,1,p.2) (gL p):=⟨⟨vw,vv (by decide),z.2.mono (by decide)⟩,.inr (show(1:Int)≠0 by decide),by unfold a5 gL;simp⟩
theorem M5 (zp:SzF 115 p)(zq:SzF 115 q):Lk (gL p) (gL q):=by
 by_cases e:p=q
 ·subst e;exact⟨_,Gk zp,Gk zp⟩
 ·have za:Sz 120 (p.2-q.2):=(Sz.sub zp.2 zq.2).mono (by decide)
  have zb:Sz 120 (q.1-p.1):=(Sz.sub zq.1 zp.1).mono (by decide)
  have zc:Sz 300 ((p.2-q.2)*p.1+(q.1-p.1)*p.2):=(Sz.add (Sz.mul za zp.1) (Sz.mul zb zp.2)).mono (by decide)
  have n:p.2-q.2≠0\/q.1-p.1≠0:=by
   by_cases a:p.2-q.2=0
   ·exact .inr fun b=>e (Prod.ext (by walk_at"o") (by walk_at"o"))
   ·exact .inl a
  have s:du 300 (p.2-q.2,q.1-p.1,(p.2-q.2)*p.1+(q.1-p.1)*p.2):=⟨za.mono (by decide),zb.mono (by decide),zc⟩
  refine⟨(p.2-q.2,q.1-p.1,(p.2-q.2)*p.1+(q.1-p.1)*p.2),⟨s,n,?_⟩,⟨s,n,?_⟩⟩
  ·unfold a5 gL;dsimp only;grind
  ·unfold a5 gL;dsimp only;grind
theorem g7 {S H:List Pt}(O:xJ S H)(z:∀ p∈H,SzF 115 p):ke (H.map gL):=by
 have eF:(H.map gL).map af=H.map fl:=by rw[map_map];exact map_congr_left fun p _=>k5 p
 refine⟨fun s hs=>?_,by rw[eF];exact O.reg,fun s hs=>?_,fun k hk=>?_⟩
 ·obtain⟨p,_,rfl⟩:=mem_map.mp hs;exact GY p
 ·obtain⟨p,hp,rfl⟩:=mem_map.mp hs;exact⟨_,_,Gk (z p hp),Qh (z p hp),show(1:Int)*1-0*0≠0 by decide⟩
 ·obtain⟨p,hp,e1⟩:=mem_map.mp (qd hk);obtain⟨q,hq,e2⟩:=mem_map.mp (getElem_mem hk);rw[<-e1,<-e2];exact M5 (z p hp) (z q hq)
theorem qA (hS:SetOf ps S1)(hne:ps≠[]):xJ S1 (bS S1):=by
 have hn1:S1≠[]:=fun e=>by
  cases ps with
  | nil=>exact hne rfl
  | cons p ps=>have:=hS.2.1 p mem_cons_self;rw[e]at this;cases this
 exact IM hS.2.2 hn1
theorem E2 (H:List Pt):(H.map gL).map af=H.map fl:=by rw[map_map];exact map_congr_left fun p _=>k5 p
end Law
namespace Law
open L2 DL
set_option maxHeartbeats 4000000
theorem uK {α:Type}(f:α->T){L:List α}{k:Nat}(hk:k<L.length):atI (L.map f) (k:Int)=some (f L[k]):=dy (by rw[getElem?_map,getElem?_eq_getElem hk];rfl)
theorem IS {α:Type}(f:α->T){L:List α}(h:0<L.length):atI (L.map f) (-1)=some (f L[L.length-1]):=by
 have e:uJ (L.map f).length (-1)=some (L.length-1):=by
  unfold uJ;rw[length_map,if_neg (by decide),if_pos (by omega)]
  congr 1;omega
 unfold atI;rw[e];show(L.map f)[L.length-1]?=_;rw[getElem?_map,getElem?_eq_getElem (by omega)];rfl
theorem IT {α:Type}(f:α->T){L:List α}{k:Nat}(hk:k<L.length):atI (L.map f) ((k:Int)-1)=some (f (dX L k hk)):=by
 unfold dX
 by_cases h0:k=0
 ·subst h0;rw[dif_pos rfl];exact IS f hk
 ·rw[dif_neg h0];have:(k:Int)-1=((k-1:Nat):Int):=by omega
  rw[this];exact uK f (by omega)
theorem dq (h:fg n s)(l:n<=m):fg m s:=⟨⟨h.1.1.mono l,h.1.2.mono l⟩,h.2.1.mono l,h.2.2.mono l⟩
def Qt (q:aS × aS):T:=.tup [spT q.1,spT q.2]
theorem xf (k n:Nat):bW (k:Int) (n+1)=.int k::bW ((k+1:Nat):Int) n:=by
 unfold bW;rw[range_succ_eq_map,map_cons,map_map]
 congr 1
 ·simp;intro a _;omega
theorem IH (I:Nat->a8->Prop)(n:Nat)(h0:I 0 δ)(hend:∀ δ,I n δ->D.nx δ)
  (hstep:∀ k,k<n->∀ δ,I k δ->g (.int (k:Int)) δ fun δ1=>wb {nx:=I (k+1),rt:=D.rt,bk:=D.nx,ct:=I (k+1)} δ1):Bz g wb (bW 0 n) D δ:=by
 refine⟨fun ts δ=>∃ k j:Nat,ts=bW (k:Int) j/\k+j=n/\I k δ,⟨0,n,rfl,by omega,h0⟩,?_,?_⟩
 ·rintro δ ⟨k,j,e,hk,h⟩
  cases j with
  | zero=>exact hend δ (by rw[Nat.add_zero]at hk;rw[<-hk];exact h)
  | succ j=>rw[xf]at e;cases e
 ·rintro x r δ ⟨k,j,e,hk,h⟩
  cases j with
  | zero=>cases e
  | succ j=>
   rw[xf]at e;obtain⟨rfl,rfl⟩:=List.cons.inj e;have q:=hstep k (by omega) δ h
   have z:I (k+1)=fun δ=>∃ k' j':Nat,bW ((k+1:Nat):Int) j=bW (k':Int) j'/\k'+j'=n/\I k' δ:=by
    funext δ'
    refine propext ⟨fun hi=>⟨k+1,j,rfl,by omega,hi⟩,?_⟩
    rintro⟨k',j',e',hk',hi⟩;have:=congrArg List.length e';rw[gZ,gZ]at this;have:k'=k+1:=by omega
    rw[<-this];exact hi
   show g _ δ fun δ1=>wb {nx:=fun δ=>∃ k' j':Nat,bW ((k+1:Nat):Int) j=bW (k':Int) j'/\k'+j'=n/\I k' δ,rt:=D.rt,bk:=D.nx,ct:=fun δ=>∃ k' j':Nat,bW ((k+1:Nat):Int) j=bW (k':Int) j'/\k'+j'=n/\I k' δ} δ1;rw[<-z];exact q
def nj:aM:=fun ss R=>∃ p q:aS,ss=[.t (spT p),.t (spT q)]/\fg 20000 p/\fg 20000 q/\R (.t (.bl (M9 p q)))
def qD:aM:=fun ss R=>∃ L:List aS,ss=[.t (.lst (L.map spT))]/\L.length<=200/\R (.ol ((AB L).map Qt))
def gH:aM:=fun ss R=>∃ L:List aS,ss=[.t (.lst (L.map spT))]/\L.length<=400/\(∀ p∈L,bA p/\fg 20000 p)/\R (.ol ((MJ L).map spT))
def lW:aM:=fun ss R=>∃ (p q:Fr) (a b:Int),ss=[.t (rW p),.t (.int a),.t (rW q),.t (.int b)]/\SzF 700 p/\SzF 700 q/\Sz 3200 a/\Sz 3200 b/\0<a/\0<b/\0<p.2/\0<q.2/\R (.t (rW (K2 p q a b)))
def ju:aM:=fun ss R=>∃ (h:Hf) (p q:aS),ss=[.t (bc h),.t (spT p),.t (spT q)]/\du 300 h/\fg 700 p/\fg 700 q/\bA p/\bA q/\a5 h p≠0/\a5 h q≠0/\R (.t (spT (dF h p q)))
def kS:aM:=fun ss R=>∃ (L:List aS) (h:Hf),ss=[.t (.lst (L.map spT)),.t (bc h)]/\L.length<=180/\(∀ p∈L,bA p/\fg 700 p)/\du 300 h/\R (.ol ((ie h L).map spT))
def me:WS:=
 (aC (iW (wB (tm (ao aJ (ae 0) (wC (.int 0))) (ao aJ (ae 1) (wC (.int 0))))) (bz (aw dO (ac (ao aJ (ae 0) (wC (.int 1))) (ac (ao aJ (ae 1) (wC (.int 1))) ap)))) bB)
 (bz (aw dO (ac (ao aJ (ae 0) (wC (.int 0))) (ac (ao aJ (ae 1) (wC (.int 0))) ap)))))
def oS:WS:=
 (bz (dQ 1 [0] (fV (ac (eP dj (ac (ae 0) ap)) ap)) (aG 0) nu (bZ (ac (ao aJ (ae 1) (cS (ae 0) (wC (.int 1)))) (ac (ao aJ (ae 1) (ae 0)) ap)))))
def fo:WS:=
 (aC (aF 1 (wC (.int 0)))
 (b9 (k7 (fV (ac (eP dj (ac (ae 0) ap)) ap)) (aG 2) (iW (wB (aw nj (ac (ao aJ (ae 0) (ae 2)) (ac (ao aJ (ae 0) (ae 1)) ap)))) (aF 1 (ae 2)) bB))
 (bz (ao Bx (iR (ae 0) (l7 (ae 1)) iQ) (iR (ae 0) iQ (l7 (ae 1)))))))
def oQ:WS:=
 (aC (aF 4 (cE (aU (aU (ao aJ (ae 0) (wC (.int 0))) (ao aJ (ae 2) (wC (.int 1)))) (ae 1)) (aU (aU (ao aJ (ae 2) (wC (.int 0))) (ao aJ (ae 0) (wC (.int 1)))) (ae 3))))
 (bz (aw g9 (ac (ae 4) (ac (aU (aU (ao aJ (ae 0) (wC (.int 1))) (ao aJ (ae 2) (wC (.int 1)))) (cE (ae 1) (ae 3))) ap)))))
def iT:WS:=
 (aC (aF 3 (aU (eP iY (ac (aw dE (ac (ae 0) (ac (ae 2) ap))) ap)) (aw cQ (ac (ae 1) ap))))
 (aC (aF 4 (aU (eP iY (ac (aw dE (ac (ae 0) (ac (ae 1) ap))) ap)) (aw cQ (ac (ae 2) ap))))
 (aC (aF 5 (aw lW (ac (ao aJ (ae 1) (wC (.int 0))) (ac (ae 3) (ac (ao aJ (ae 2) (wC (.int 0))) (ac (ae 4) ap))))))
 (aC (aF 6 (aw lW (ac (ao aJ (ae 1) (wC (.int 1))) (ac (ae 3) (ac (ao aJ (ae 2) (wC (.int 1))) (ac (ae 4) ap))))))
 (bz (bZ (ac (ae 5) (ac (ae 6) ap))))))))
def jS:WS:=
 (aC (aF 2 (jx ap))
 (b9 (k7 (cm (aw qD (ac (ae 0) ap))) (aG 3) (b9 (iW (wB (Hc (aU (aw iN (ac (ae 1) (ac (ao aJ (ae 3) (wC (.int 0))) ap))) (aw iN (ac (ae 1) (ac (ao aJ (ae 3) (wC (.int 1))) ap)))) (wC (.int 0)))) (aC (aF 4 (aw ju (ac (ae 1) (ac (ao aJ (ae 3) (wC (.int 0))) (ac (ao aJ (ae 3) (wC (.int 1))) ap)))))
 (iW (wB (Hd (ae 4) (ae 2))) (fm 2 (ae 4)) bB)) bB)
 (iW (wB (QV (aw iN (ac (ae 1) (ac (ao aJ (ae 3) (wC (.int 1))) ap))) (wC (.int 0)))) (fm 2 (ao aJ (ae 3) (wC (.int 1)))) bB)))
 (bz (aw gH (ac (ae 2) ap)))))
theorem BY:Ok nj me ["one","other"]:=by
 rintro ss R ⟨⟨⟨x0,x1⟩,y0,y1⟩,⟨⟨u0,u1⟩,v0,v1⟩,rfl,⟨⟨z1,z2⟩,z3,z4⟩,⟨⟨s1,s2⟩,s3,s4⟩,h⟩;dsimp only at z1 z2 z3 z4 s1 s2 s3 s4;show me _ [some (.t (.tup [.tup [.int x0,.int x1],.tup [.int y0,.int y1]])),some (.t (.tup [.tup [.int u0,.int u1],.tup [.int v0,.int v1]]))]
 delta me
 unfold M9 at h;walk_at"d"
 by_cases e:x0=u0/\x1=u1
 ·rw[if_pos (by simpa using e)]
  rw[if_pos (by rw[e.1,e.2])]at h
  exact⟨(y0,y1),(v0,v1),rfl,⟨z3.mono (by decide),z4.mono (by decide)⟩,⟨s3.mono (by decide),s4.mono (by decide)⟩,h⟩
 ·rw[if_neg (by simpa using e)]
  rw[if_neg (fun z=>e ⟨congrArg Prod.fst z,congrArg Prod.snd z⟩)]at h;exact⟨(x0,x1),(u0,u1),rfl,⟨z1.mono (by decide),z2.mono (by decide)⟩,⟨s1.mono (by decide),s2.mono (by decide)⟩,h⟩
theorem Gj:Ok qD oS ["region"]:=by
 rintro ss R ⟨L,rfl,hl,h⟩;show oS _ [some (.t (.lst (L.map spT)))]
 delta oS
 walk_at"d";refine⟨lK (by omega) (by rw[length_map];omega),?_⟩
 rw[length_map,toNat_natCast]
 let pr:Nat->aS × aS:=fun k=>if hk:k<L.length then (dX L k hk,L[k]) else (((0,0),(0,0)),((0,0),(0,0)))
 refine eU (f:=fun k:Nat=>.int (0+(k:Int))) (h:=fun k=>Qt (pr k)) (l:=List.range L.length) (fun δ=>∃ r,δ=[r,some (.t (.lst (L.map spT)))]) (fun k _=>rfl) (by rw[length_range];omega) ⟨_,rfl⟩ ?_ ?_
 ·rintro k hk δ ⟨r,rfl⟩ Y hY;have hk:=mem_range.mp hk;have e:pr k=(dX L k hk,L[k]):=dif_pos hk;rw[Int.zero_add];walk_at"d";rw[fE (IT spT hk)];walk_at"d";rw[fE (uK spT hk)];rw[e]at hY;exact hY _ ⟨_,rfl⟩
 ·have e:(List.range L.length).map (fun k=>Qt (pr k))=(AB L).map Qt:=by unfold AB;rw[map_map];rfl
  rw[e];exact h
theorem rz:Ok gH fo ["corners","first","place"]:=by
 rintro ss R ⟨L,rfl,hl,hz,h⟩;show fo _ [some (.t (.lst (L.map spT))),none,none]
 delta fo
 walk_at"d"
 let I:Nat->a8->Prop:=fun k δ=>∃ r:Option S,δ=[some (.t (.lst (L.map spT))),some (.t (.int (wU L k))),r]
 refine⟨I L.length,?_,?_⟩
 ·walk_at"d";refine⟨lK (by omega) (by rw[length_map];omega),?_⟩
  rw[length_map,toNat_natCast];refine IH I L.length ⟨_,rfl⟩ (fun δ h=>h) ?_;rintro k hk δ ⟨r,rfl⟩;obtain⟨hf1,_⟩:=mL (fun p hp=>(hz p hp).1) (show 0<L.length by omega) k (by omega)
  walk_at"d";rw[fE (uK spT hk)];walk_at"d";rw[fE (uK spT hf1)];walk_at"d";refine⟨L[k],L[wU L k],rfl,(hz _ (getElem_mem _)).2,(hz _ (getElem_mem _)).2,?_⟩;have e:=wV L k;rw[bG hk,bG hf1]at e;walk_at"d"
  split
  ·rename_i c;rw[if_pos c]at e;exact⟨_,by rw[e]⟩
  ·rename_i c;rw[if_neg c]at e;exact⟨_,by rw[e]⟩
 ·rintro δ ⟨r,rfl⟩;walk_at"d";have hfl:wU L L.length<=L.length:=by
   by_cases e:0<L.length
   ·exact Nat.le_of_lt (mL (fun p hp=>(hz p hp).1) e L.length (le_refl _)).1
   ·have:L=[]:=length_eq_zero_iff.mp (by omega)
    subst this;exact le_refl _
  unfold MJ at h;generalize wU L L.length=f at h hfl;have c1:gU (L.map spT) (some (f:Int)) none=(L.drop f).map spT:=by
   unfold gU;rw[HT.sIx_nat,HT.sIx_none,length_map,min_eq_left hfl,<-map_drop,<-map_take];rw[take_of_length_le (by rw[length_drop];omega)]
  have c2:gU (L.map spT) none (some (f:Int))=(L.take f).map spT:=by
   unfold gU;rw[HT.sIx_nat,HT.sIx_none,length_map,min_eq_left hfl,List.drop_zero,Nat.sub_zero,<-map_take]
  rw[c1,c2,<-map_append];exact⟨by simp only[length_map,length_drop,length_take];omega,h⟩
theorem E5 (zp:SzF 700 p)(zq:SzF 700 q)(za:Sz 3200 a)(zb:Sz 3200 b):Sz 5000 (p.1*q.2*a+q.1*p.2*b)/\Sz 5000 (p.2*q.2*(a+b))/\SzF 5000 (K2 p q a b):=by
 have st:Sz 5000 (p.1*q.2*a+q.1*p.2*b):=(Sz.add (Sz.mul (Sz.mul zp.1 zq.2) za) (Sz.mul (Sz.mul zq.1 zp.2) zb)).mono (by decide)
 have sB:Sz 5000 (p.2*q.2*(a+b)):=(Sz.mul (Sz.mul zp.2 zq.2) (Sz.add za zb)).mono (by decide)
 exact⟨st,sB,st.fdiv _,sB.fdiv _⟩
theorem Gh:Ok lW oQ ["one","one_weight","other","other_weight","top"]:=by
 rintro ss R ⟨⟨x0,x1⟩,⟨y0,y1⟩,a,b,rfl,⟨z1,z2⟩,⟨z3,z4⟩,sa,sb,a0,b0,p0,q0,h⟩;obtain⟨st,sB,_⟩:=E5 (p:=(x0,x1)) (q:=(y0,y1)) ⟨z1,z2⟩ ⟨z3,z4⟩ sa sb;dsimp only at z1 z2 z3 z4 p0 q0 st sB;show oQ _ [some (.t (.tup [.int x0,.int x1])),some (.t (.int a)),some (.t (.tup [.int y0,.int y1])),some (.t (.int b)),none]
 delta oQ
 have hB:x1*y1*(a+b)≠0:=by
  have:=mul_pos (mul_pos p0 q0) (show 0<a+b by omega)
  omega
 walk_at"d";refine⟨bH z1 z4 (by decide) (by decide),bH (Sz.mul z1 z4) sa (by decide) (by decide),bH z3 z2 (by decide) (by decide),bH (Sz.mul z3 z2) sb (by decide) (by decide),bH z2 z4 (by decide) (by decide),bH (Sz.mul z2 z4) (Sz.add sa sb) (by decide) (by decide),_,_,rfl,hB,sB.mono (by decide),?_⟩
 walk_at"d";exact h
theorem Ej (hh:du 300 h)(hs:fg 700 s):Sz 1750 (a5 h s):=by
 obtain⟨a,b,c⟩:=hh;obtain⟨⟨x0,x1⟩,y0,y1⟩:=hs;unfold a5;exact(Sz.sub (Sz.add (Sz.mul (Sz.mul a x0) y1) (Sz.mul (Sz.mul b y0) x1)) (Sz.mul c (Sz.mul x1 y1))).mono (by decide)
theorem CO (h:Sz n x):Sz n (hV x):=by
 unfold hV
 split
 ·exact⟨by rw[Int.natAbs_neg];exact h.lt⟩
 ·exact h
theorem tD (hh:du 300 h)(hp:fg 700 p)(hq:fg 700 q):Sz 3200 (hV (a5 h q)*(p.1.2*p.2.2)):=(Sz.mul (CO (Ej hh hq)) (Sz.mul hp.1.2 hp.2.2)).mono (by decide)
theorem PC (hh:du 300 h)(hp:fg 700 p)(hq:fg 700 q):fg 5000 (dF h p q):=⟨(E5 hp.1 hq.1 (tD hh hp hq) (tD hh hq hp)).2.2,(E5 hp.2 hq.2 (tD hh hp hq) (tD hh hq hp)).2.2⟩
theorem wY:Ok ju iT ["half","one","other","one_weight","other_weight","x","y"]:=by
 rintro ss R ⟨hf,p,q,rfl,hh,hp,hq,op,oq,ep,eq,h⟩;show iT _ [some (.t (bc hf)),some (.t (spT p)),some (.t (spT q)),none,none,none,none]
 delta iT
 have sh:=lY hh (show 300<=300000 by decide)
 have sp:=dq hp (show 700<=60000 by decide)
 have sq:=dq hq (show 700<=60000 by decide)
 have bp:0<p.1.2*p.2.2:=mul_pos op.1.1 op.2.1;have bq:0<q.1.2*q.2.2:=mul_pos oq.1.1 oq.2.1;have zbp:Sz 1400 (p.1.2*p.2.2):=Sz.mul hp.1.2 hp.2.2;have zbq:Sz 1400 (q.1.2*q.2.2):=Sz.mul hq.1.2 hq.2.2;have zq:=CO (Ej hh hq);have zp:=CO (Ej hh hp);have k1:0<hV (a5 hf q)*(p.1.2*p.2.2):=mul_pos (mw eq) bp;have k2:0<hV (a5 hf p)*(q.1.2*q.2.2):=mul_pos (mw ep) bq;have k3:=tD hh hp hq;have k4:=tD hh hq hp;unfold dF at h;have fold:∀ x:Int,(if x<0 then -x else x)=hV x:=fun _=>rfl
 walk_at"d";refine⟨hf,q,rfl,sh,sq,?_⟩;walk_at"d";refine⟨p,rfl,sp,?_⟩;walk_at"d";rw[fold];refine⟨bH zq zbp (by decide) (by decide),hf,p,rfl,sh,sp,?_⟩
 walk_at"d";refine⟨q,rfl,sq,?_⟩;walk_at"d";rw[fold];refine⟨bH zp zbq (by decide) (by decide),p.1,q.1,_,_,rfl,hp.1,hq.1,k3,k4,k1,k2,op.1.1,oq.1.1,?_⟩
 walk_at"d";refine⟨p.2,q.2,_,_,rfl,hp.2,hq.2,k3,k4,k1,k2,op.2.1,oq.2.1,?_⟩;walk_at"d";exact h
theorem GU (a:Int):-1<=sgn a/\sgn a<=1:=by
 unfold sgn
 split
 ·omega
 ·split <;> omega
theorem F7 {s:aS}{ks:List aS}{y:S}{R:S->Prop}(hy:tr y=.lst (ks.map spT))(h1:s∈ks->R (.t (.bl false)))(h2:¬ s∈ks->R (.t (.bl true))):pG (.t (spT s)) y R:=by
 unfold pG;rw[hy];refine⟨by show 2<=20;decide,le_trans (gX bg _) (by decide),?_⟩
 by_cases h:s∈ks
 ·have e:IN (tr (.t (spT s))) (ks.map spT)=true:=by
   unfold IN;rw[List.any_map,List.any_eq_true];exact⟨s,h,(bd s s).mpr rfl⟩
  rw[e];exact h1 h
 ·have e:IN (tr (.t (spT s))) (ks.map spT)=false:=by
   unfold IN;rw[List.any_map,List.any_eq_false];intro x hx hc;exact h (((bd x s).mp hc) ▸ hx)
  rw[e];exact h2 h
theorem JS (h:q∈AB L):q.1∈L/\q.2∈L:=by
 obtain⟨k,hk,rfl⟩:=mem_map.mp h;have hk:=mem_range.mp hk;rw[dif_pos hk];exact⟨qd hk,getElem_mem hk⟩
theorem rV (h:Hf)(pre:List (aS × aS))(q:aS × aS):(pre++[q]).foldl (qL h) []=qL h (pre.foldl (qL h) []) q:=by rw[foldl_append];rfl
theorem yG:Ok kS jS ["region","half","kept","pair","spot"]:=by
 rintro ss R ⟨L,hf,rfl,hl,hz,hh,h⟩;show jS _ [some (.t (.lst (L.map spT))),some (.t (bc hf)),none,none,none]
 delta jS
 walk_at"d";have hS:∀ p∈L,fg 60000 p:=fun p hp=>dq (hz p hp).2 (by decide)
 have hH:du 300000 hf:=lY hh (by decide)
 let K:List (aS × aS)->List aS->Prop:=fun pre ks=>ks=pre.foldl (qL hf) []/\ks.length<=2*pre.length/\∀ p∈ks,bA p/\fg 20000 p
 refine⟨fun δ=>∃ ks r3 r4,δ=[some (.t (.lst (L.map spT))),some (.t (bc hf)),some (.ol (ks.map spT)),r3,r4]/\K (AB L) ks,?_,?_⟩
 ·refine⟨L,rfl,by omega,?_⟩
  dsimp only;rw[fb _ (bI (fun _=>rfl) _)];walk_at"d";refine⟨fun ts δ=>∃ (pre post:List (aS × aS)) (ks:List aS) (r3 r4:Option S),AB L=pre++post/\ts=post.map Qt/\δ=[some (.t (.lst (L.map spT))),some (.t (bc hf)),some (.ol (ks.map spT)),r3,r4]/\K pre ks,⟨[],AB L,[],_,_,rfl,rfl,rfl,by simp[K]⟩,?_,?_⟩
  ·rintro δ ⟨pre,post,ks,r3,r4,e3,e4,rfl,hK⟩;have:post=[]:=by simpa using e4.symm
   subst this;rw[append_nil]at e3;rw[e3];exact⟨ks,r3,r4,rfl,hK⟩
  ·rintro x ts δ ⟨pre,post,ks,r3,r4,e3,e4,rfl,hK⟩
   cases post with
   | nil=>cases e4
   | cons q post=>
    rw[map_cons]at e4
    cases e4
    obtain⟨q1,q2⟩:=JS (L:=L) (q:=q) (by rw[e3];simp)
    have hpl:pre.length<=180:=by
     have e5:(AB L).length=L.length:=by unfold AB;simp
     rw[e3]at e5;simp only[List.length_append,length_cons]at e5;omega
    obtain⟨hK1,hK2,hK3⟩:=hK;have b1:=GU (a5 hf q.1);have b2:=GU (a5 hf q.2);have app:∀ {n:Nat}{ks:List aS}{s:aS},ks.length<=n->(∀ p∈ks,bA p/\fg 20000 p)->bA s/\fg 20000 s->(ks++[s]).length<=n+1/\∀ p∈ks++[s],bA p/\fg 20000 p:=fun {n ks s} h1 h2 h3=>⟨by rw[List.length_append,length_singleton];omega,fun p hp=>by
     rcases mem_append.mp hp with hp|hp
     ·exact h2 p hp
     ·rw[mem_singleton.mp hp];exact h3⟩
    have z2:bA q.2/\fg 20000 q.2:=⟨(hz _ q2).1,dq (hz _ q2).2 (by decide)⟩
    let k1:List aS:=if i6 hf q.1 q.2/\¬ dF hf q.1 q.2∈ks then ks++[dF hf q.1 q.2] else ks
    show aG 3 (.tup [spT q.1,spT q.2]) _ _;walk_at"d";refine⟨fun δ=>∃ (r4:Option S),δ=[some (.t (.lst (L.map spT))),some (.t (bc hf)),some (.ol (k1.map spT)),some (.t (.tup [spT q.1,spT q.2])),r4]/\k1.length<=2*pre.length+1/\∀ p∈k1,bA p/\fg 20000 p,?_,?_⟩
    ·walk_at"d";refine⟨hf,q.1,rfl,hH,hS _ q1,hf,q.2,rfl,hH,hS _ q2,?_⟩;walk_at"d";refine⟨Jk (by omega) (by omega),?_⟩
     split
     ·rename_i hlt;have ho:i6 hf q.1 q.2:=hlt;have o:=ci.mp ho;refine⟨hf,q.1,q.2,rfl,hh,(hz _ q1).2,(hz _ q2).2,(hz _ q1).1,(hz _ q2).1,by omega,by omega,?_⟩
      walk_at"d";have zs:bA (dF hf q.1 q.2)/\fg 20000 (dF hf q.1 q.2):=⟨(gv (hz _ q1).1 (hz _ q2).1 ho).1,dq (PC hh (hz _ q1).2 (hz _ q2).2) (by decide)⟩
      refine F7 (ks:=ks) rfl (fun hin=>?_) (fun hin=>?_)
      ·walk_at"d";have e:k1=ks:=if_neg fun z=>z.2 hin;rw[e];exact⟨_,rfl,by omega,hK3⟩
      ·walk_at"d";have e:k1=ks++[dF hf q.1 q.2]:=if_pos ⟨ho,hin⟩;obtain⟨a1,a2⟩:=app hK2 hK3 zs;rw[e];exact⟨by rw[length_map];omega,_,by rw[map_append];rfl,a1,a2⟩
     ·rename_i hlt;have e:k1=ks:=if_neg fun z=>hlt z.1;rw[e];exact⟨_,rfl,by omega,hK3⟩
    ·rintro δ ⟨r4',rfl,l1,l2⟩;walk_at"d";refine⟨hf,q.2,rfl,hH,hS _ q2,?_⟩;walk_at"d"
     split
     ·rename_i hk;obtain⟨a1,a2⟩:=app l1 l2 z2;refine⟨by rw[length_map];omega,pre++[q],post,k1++[q.2],some (.t (.tup [spT q.1,spT q.2])),r4',by rw[e3];simp,rfl,by rw[map_append];rfl,?_,?_,a2⟩
      ·rw[rV,<-hK1];exact(if_pos (show mn hf q.2 from hk)).symm
      ·rw[List.length_append (as:=pre),length_singleton];omega
     ·rename_i hk;refine⟨pre++[q],post,k1,some (.t (.tup [spT q.1,spT q.2])),r4',by rw[e3];simp,rfl,rfl,?_,?_,l2⟩
      ·rw[rV,<-hK1];exact(if_neg (show ¬ mn hf q.2 from hk)).symm
      ·rw[List.length_append,length_singleton];omega
 ·rintro δ ⟨ks,r3,r4,rfl,k1,k2,k3⟩;have e5:(AB L).length=L.length:=by unfold AB;simp
  walk_at"d";refine⟨ks,rfl,by omega,k3,?_⟩
  dsimp only;rw[fb _ (bI (fun _=>rfl) _)];walk_at"d";unfold ie gR at h;rw[<-k1]at h;exact h
end Law
namespace Law
open L2 DL
set_option maxHeartbeats 4000000
theorem Mj (hS:SetOf ps S1)(hz:∀ p∈ps,SzF 115 p)(l:Hf):(∀ p∈bS S1,0<=aR l (fl p))↔∀ p∈ps,0<=aR l (fl p):=by
 cases ps with
 | nil=>
  have e:S1=[]:=by
   cases S1 with
   | nil=>rfl
   | cons p r=>have:=hS.1 p mem_cons_self;cases this
  subst e;simp[bS]
 | cons p0 r=>
  have O:=qA hS (by simp)
  have R:=g7 O fun p hp=>hz p (hS.1 p (O.sub p hp));constructor
  ·intro h p hp;have h1:=O.hold p (hS.2.1 p hp);rw[<-E2]at h1;refine(jf R (show(0:Int)<1 by decide)).mp h1 l fun s hs=>?_
   obtain⟨p',hp',rfl⟩:=mem_map.mp hs;rw[k5];exact h p' hp'
  ·intro h p hp;exact h p (hS.1 p (O.sub p hp))
theorem Ew (hS:SetOf ps S1)(hne:ps≠[])(hz:∀ p∈ps,SzF 115 p)(zq:0<q.2.2):bF (((bS S1).map gL).map af) q↔∀ l:Hf,(∀ p∈ps,0<=aR l (fl p))->0<=aR l q:=by
 have O:=qA hS hne;have R:=g7 O fun p hp=>hz p (hS.1 p (O.sub p hp));rw[jf R zq];unfold Cv;refine forall_congr' fun l=>?_;rw[<-Mj hS hz l];refine imp_congr ⟨fun h p hp=>?_,fun h s hs=>?_⟩ Iff.rfl
 ·have:=h (gL p) (mem_map.mpr ⟨p,hp,rfl⟩)
  rwa [k5]at this
 ·obtain⟨p',hp',rfl⟩:=mem_map.mp hs;rw[k5];exact h p' hp'
end Law
namespace Law
open L2 DL
def aZ (v f:Pt):Int:=v.1*f.1+v.2*f.2
def kj (u v:Pt):Int:=u.1*v.2-u.2*v.1
def ahead (vs:List Pt)(f:Pt):Nat:=vs.countP fun v=>decide (0<=aZ v f)
def EE (w:Pt)(t:Int):Pt:=(-w.2*t-w.1,w.1*t-w.2)
theorem Mr (w v:Pt)(t:Int):aZ v (EE w t)=t*kj w v-aZ w v:=by
 unfold aZ EE kj;grind
def w8 (w v:Pt):Bool:=decide (0<kj w v\/(kj w v=0/\aZ w v<=0))
theorem yz (ht:0<t)(hx:x<=-1):t*x<=-t:=by
 have:=Int.mul_le_mul_of_nonneg_left hx (le_of_lt ht);omega
theorem yy {t x:Int}(ht:0<t)(hx:1<=x):t<=t*x:=by
 have:=Int.mul_le_mul_of_nonneg_left hx (le_of_lt ht);omega
theorem RB {t c d:Int}(h1:d<t)(h2:-t<d):0<=t*c+d↔0<c\/(c=0/\0<=d):=by
 have ht:0<t:=by omega
 constructor
 ·intro h
  by_cases h0:c=0
  ·subst h0;rw[mul_zero]at h;exact .inr ⟨rfl,by omega⟩
  ·refine .inl ?_
   by_cases hp:0<c
   ·exact hp
   ·have:=yz ht (show c<=-1 by omega)
    omega
 ·rintro(h|⟨rfl,h⟩)
  ·have:=yy ht (show 1<=c by omega)
   omega
  ·rw[mul_zero];omega
theorem IU (h1:aZ w v<t)(h2:-t<aZ w v):decide (0<=aZ v (EE w t))=w8 w v:=by
 rw[Mr];unfold w8;have:=RB (c:=kj w v) (d:=-aZ w v) (t:=t) (by omega) (by omega)
 rw[decide_eq_decide];rw[show t*kj w v-aZ w v=t*kj w v + -aZ w v by omega,this]
 constructor
 ·rintro(h|⟨h,h'⟩)
  ·exact .inl h
  ·exact .inr ⟨h,by omega⟩
 ·rintro(h|⟨h,h'⟩)
  ·exact .inl h
  ·exact .inr ⟨h,by omega⟩
theorem CP (h:∀ v∈vs,aZ w v<t/\-t<aZ w v):ahead vs (EE w t)=vs.countP (w8 w):=by
 unfold ahead;refine countP_congr fun v hv=>?_;rw[IU (h v hv).1 (h v hv).2]
theorem xp (x:Int):0<=x*x:=by
 rcases Int.le_total 0 x with h|h
 ·exact mul_nonneg h h
 ·exact mul_nonneg_of_nonpos_of_nonpos h h
theorem G0 {x:Int}(h:x≠0):0<x*x:=by
 have:=xp x;have:x*x≠0:=fun z=>by
  rcases mul_eq_zero.mp z with e|e <;> exact h e
 omega
theorem N8 {w g:Pt}(h:aZ w g<0):0<w.1*w.1+w.2*w.2:=by
 have a:=xp w.1 ;have b:=xp w.2
 by_cases e1:w.1=0
 ·by_cases e2:w.2=0
  ·unfold aZ at h;rw[e1,e2]at h;omega
  ·have:=G0 e2;omega
 ·have:=G0 e1;omega
theorem x5 (u v w g:Pt):kj u w*aZ v g=kj u v*aZ w g+kj v w*aZ u g:=by
 unfold kj aZ;grind
theorem xO (w v g:Pt):aZ v g*(w.1*w.1+w.2*w.2)=aZ w v*aZ w g+kj w v*kj w g:=by
 unfold kj aZ;grind
theorem nN (g:Pt):∀ vs:List Pt,(∀ v∈vs,0<=aZ v g)\/∃ w∈vs,aZ w g<0/\∀ v∈vs,aZ v g<0->kj w v<=0
 | []=>.inl fun v h=>by cases h
 | u::vs=>by
  rcases nN g vs with h|⟨w,hw,hg,hl⟩
  ·by_cases hu:0<=aZ u g
   ·refine .inl fun v hv=>?_
    rcases mem_cons.mp hv with z|z
    ·subst z;exact hu
    ·exact h v z
   ·refine .inr ⟨u,mem_cons_self,by omega,fun v hv hn=>?_⟩
    rcases mem_cons.mp hv with z|z
    ·subst z;have:kj v v=0:=by unfold kj;grind
     omega
    ·have:=h v z;omega
  ·by_cases hu:0<=aZ u g
   ·refine .inr ⟨w,mem_cons_of_mem _ hw,hg,fun v hv hn=>?_⟩
    rcases mem_cons.mp hv with z|z
    ·subst z;omega
    ·exact hl v z hn
   ·by_cases hc:kj w u<=0
    ·refine .inr ⟨w,mem_cons_of_mem _ hw,hg,fun v hv hn=>?_⟩
     rcases mem_cons.mp hv with z|z
     ·subst z;exact hc
     ·exact hl v z hn
    ·refine .inr ⟨u,mem_cons_self,by omega,fun v hv hn=>?_⟩
     rcases mem_cons.mp hv with z|z
     ·subst z;have:kj v v=0:=by unfold kj;grind
      omega
     ·have c1:=hl v z hn;have anti:kj u w=-kj w u:=by unfold kj;grind
      have key:=x5 u w v g;have p1:0<=kj u w*aZ v g:=mul_nonneg_of_nonpos_of_nonpos (by omega) (by omega)
      have p2:0<=kj w v*aZ u g:=mul_nonneg_of_nonpos_of_nonpos (by omega) (by omega)
      by_cases hp:kj u v<=0
      ·exact hp
      ·have:=mul_neg_of_pos_of_neg (a:=kj u v) (b:=aZ w g) (by omega) hg
       omega
theorem xa (hw:aZ w g<0)(hv:aZ v g<0)(hc:kj w v<=0):w8 w v=false:=by
 unfold w8;rw[decide_eq_false_iff_not];rintro(h|⟨h0,hd⟩)
 ·omega
 ·have key:=xO w v g;rw[h0,zero_mul,Int.add_zero]at key;have p1:=Int.mul_neg_of_neg_of_pos hv (N8 hw);have p2:=mul_nonneg_of_nonpos_of_nonpos hd (by omega:aZ w g<=0)
  omega
theorem vL (vs:List Pt)(g:Pt):vs.length<=ahead vs g\/∃ w∈vs,w≠(0,0)/\vs.countP (w8 w)<=ahead vs g:=by
 rcases nN g vs with h|⟨w,hw,hg,hl⟩
 ·refine .inl ?_;have:ahead vs g=vs.length:=by
   unfold ahead;rw[List.countP_eq_length];exact fun v hv=>decide_eq_true (h v hv)
  omega
 ·refine .inr ⟨w,hw,fun z=>?_,?_⟩
  ·subst z;unfold aZ at hg;simp at hg
  ·unfold ahead;refine List.countP_mono_left fun v hv hp=>?_;rw[decide_eq_true_eq]
   by_cases hn:0<=aZ v g
   ·exact hn
   ·rw[xa hg (by omega) (hl v hv (by omega))]at hp
    cases hp
theorem oZ (vs:List Pt)(g:Pt):ahead vs g<=vs.length:=List.countP_le_length
def oV (vs:List Pt)(n:Nat):Prop:=(∃ f:Pt,f≠(0,0)/\ahead vs f=n)/\∀ g:Pt,g≠(0,0)->n<=ahead vs g
theorem ym (h:oV vs m)(k:oV vs n):m=n:=by
 obtain⟨⟨f,h1,h2⟩,h3⟩:=h;obtain⟨⟨g,k1,k2⟩,k3⟩:=k;have:=h3 g k1;have:=k3 f h1;omega
theorem Dh (vs:List Pt):∃ n,oV vs n:=by
 have key:∀ (n:Nat) (f:Pt),f≠(0,0)->ahead vs f<=n->∃ m,oV vs m:=by
  intro n
  induction n with
  | zero=>exact fun f hf h=>⟨0,⟨f,hf,by omega⟩,fun g _=>zero_le _⟩
  | succ n ih=>
   intro f hf h
   by_cases hx:∃ g:Pt,g≠(0,0)/\ahead vs g<=n
   ·obtain⟨g,h1,h2⟩:=hx;exact ih g h1 h2
   ·refine⟨n+1,⟨f,hf,?_⟩,fun g hg=>?_⟩
    ·have:¬ ahead vs f<=n:=fun z=>hx ⟨f,hf,z⟩;omega
    ·have:¬ ahead vs g<=n:=fun z=>hx ⟨g,hg,z⟩;omega
 exact key vs.length (1,0) (by decide) (oZ _ _)
noncomputable def nX (vs:List Pt):Nat:=Classical.choose (Dh vs)
theorem kE (vs:List Pt):oV vs (nX vs):=Classical.choose_spec (Dh vs)
theorem ya (h:oV vs n):nX vs=n:=ym (kE vs) h
def CA (vs:List Pt)(fs:List Pt):Prop:=(∀ f∈fs,f≠(0,0))/\fs≠[]/\∀ w∈vs,w≠(0,0)->∃ f∈fs,ahead vs f=vs.countP (w8 w)
theorem yh (h:CA vs fs)(hf:f∈fs)(hm:∀ g∈fs,ahead vs f<=ahead vs g):oV vs (ahead vs f):=by
 obtain⟨h1,h2,h3⟩:=h;refine⟨⟨f,h1 f hf,rfl⟩,fun g hg=>?_⟩
 rcases vL vs g with z|⟨w,hw,hn,z⟩
 ·have:=oZ vs f;omega
 ·obtain⟨k,hk,e⟩:=h3 w hw hn;have:=hm k hk;omega
theorem P4 {w:Pt}{t:Int}(h:w≠(0,0)):EE w t≠(0,0):=fun z=>by
 have h1:-w.2*t-w.1=0:=congrArg Prod.fst z;have h2:w.1*t-w.2=0:=congrArg Prod.snd z;have e:w.1*w.1+w.2*w.2=0:=by
  have e1:w.1=-w.2*t:=by omega
  have e2:w.2=w.1*t:=by omega
  have a:w.1*w.1=-(w.2*(w.1*t)):=by
   have:w.1*w.1=w.1*(-w.2*t):=by rw[<-e1]
   rw[this];grind
  rw[a,<-e2];omega
 have a:=xp w.1;have b:=xp w.2;apply h;have e1:w.1=0:=by
  by_cases z:w.1=0
  ·exact z
  ·have:=G0 z;omega
 have e2:w.2=0:=by
  by_cases z:w.2=0
  ·exact z
  ·have:=G0 z;omega
 exact Prod.ext e1 e2
def lf (u v:Pt):Bool:=decide (0<kj u v)
end Law
namespace Law
open L2 DL
def ud (h:Hf)(p:Pt):Bool:=decide (h.2.2<=h.1*p.1+h.2.1*p.2)
def fZ (h:Hf)(ps:List Pt):Nat:=ps.countP (ud h)
def kX:aM:=fun ss R=>∃ (h:Hf) (ps:List Pt),ss=[.t (bc h),.t (.lst (ps.map aV))]/\du 60000 h/\(∀ p∈ps,SzF 60000 p)/\ps.length<10000/\R (.t (.int (fZ h ps)))
def jZ:WS:=
 (bz (eP dj (ac (dQ 1 [0] (cm (ae 1)) (aG 0) (wB (QV (cE (aU (ao aJ (ae 1) (wC (.int 0))) (ao aJ (ae 0) (wC (.int 0)))) (aU (ao aJ (ae 1) (wC (.int 1))) (ao aJ (ae 0) (wC (.int 1))))) (ao aJ (ae 1) (wC (.int 2))))) (ae 0)) ap)))
theorem yO:Ok kX jZ ["half","points"]:=by
 rintro ss R ⟨⟨a,b,c⟩,ps,rfl,⟨y1,y2,y3⟩,hs,hl,h⟩;dsimp only at y1 y2 y3;show jZ _ [some (.t (.tup [.int a,.int b,.int c])),some (.t (.lst (ps.map aV)))]
 delta jZ
 walk_at"d";refine eT (f:=aV) (h:=aV) (p:=ud (a,b,c)) (fun δ=>∃ r,δ=[r,some (.t (.tup [.int a,.int b,.int c]))]) (fun p _=>AD p) (by omega) ⟨_,rfl⟩ ?_ ?_
 ·rintro⟨x,y⟩ hp δ ⟨r,rfl⟩ Y N h1 h2;obtain⟨z1,z2⟩:=hs _ hp;dsimp only at z1 z2;walk_at"go"
  split
  ·rename_i hc;exact h1 _ ⟨_,rfl⟩ (by simp[ud];exact hc)
  ·rename_i hc;exact h2 _ ⟨_,rfl⟩ (by simp[ud];omega)
 ·walk_at"d";rw[length_map,<-countP_eq_length_filter];exact h
end Law
namespace Law
open L2 DL
set_option maxHeartbeats 1000000
def G9 (p:Pt):List Hf:=[(1,0,p.1),(-1,0,-p.1),(0,1,p.2),(0,-1,-p.2)]
def fW (ps:List Pt)(h:Hf):Prop:=(∃ p∈ps,h∈G9 p)\/∃ p∈ps,∃ q∈ps,p≠q/\h=xX p q
theorem fW.sub (hs:∀ p∈B,p∈ps)(hb:fW B h):fW ps h:=by
 rcases hb with ⟨p,hp,hh⟩|⟨p,hp,q,hq,hne,e⟩
 ·exact .inl ⟨p,hs p hp,hh⟩
 ·exact .inr ⟨p,hs p hp,q,hs q hq,hne,e⟩
instance RF (a b:Pt):Decidable (cU a b):=inferInstanceAs (Decidable (_\/_))
def ins (p:Pt):List Pt->List Pt
 | []=>[p]
 | q::l=>if cU p q then p::q::l else if p=q then q::l else q::ins p l
theorem M4 (h1:cU a b) (h2:cU b c):cU a c:=by unfold cU at *;walk_at"o"
theorem Jb (h1:¬ cU a b)(h2:a≠b):cU b a:=by
 unfold cU at *;have:a.1≠b.1\/a.2≠b.2:=by
  by_cases e:a.1=b.1
  ·right;intro e2;exact h2 (Prod.ext e e2)
  ·exact .inl e
 walk_at"o"
theorem lF (p x:Pt):∀ l:List Pt,x∈ins p l↔x=p\/x∈l
 | []=>by simp[ins]
 | q::l=>by
  unfold ins
  split
  ·simp
  ·split
   ·rename_i e;subst e;simp
   ·simp only[mem_cons,lF p x l];exact⟨fun h=>by rcases h with h|h|h <;> simp[h],fun h=>by rcases h with h|h|h <;> simp[h]⟩
theorem EA (p:Pt):∀ l:List Pt,l.Pairwise cU->(ins p l).Pairwise cU
 | [],_=>by simp[ins]
 | q::l,h=>by
  unfold ins;have h':=pairwise_cons.mp h
  split
  ·rename_i e;exact pairwise_cons.mpr ⟨fun x hx=>by
    rcases mem_cons.mp hx with rfl|hx
    ·exact e
    ·exact M4 e (h'.1 x hx),h⟩
  ·split
   ·exact h
   ·rename_i e1 e2;refine pairwise_cons.mpr ⟨fun x hx=>?_,EA p l h'.2⟩
    rcases(lF p x l).mp hx with rfl|hx
    ·exact Jb e1 e2
    ·exact h'.1 x hx
theorem N3 (B:List Pt):∃ S:List Pt,SetOf B S:=by
 induction B with
 | nil=>exact⟨[],by simp[SetOf]⟩
 | cons p B ih=>
  obtain⟨S,h1,h2,h3⟩:=ih;refine⟨ins p S,fun x hx=>?_,fun x hx=>?_,EA p S h3⟩
  ·rcases(lF p x S).mp hx with rfl|hx
   ·exact mem_cons_self
   ·exact mem_cons_of_mem _ (h1 x hx)
  ·rcases mem_cons.mp hx with rfl|hx
   ·exact(lF _ _ S).mpr (.inl rfl)
   ·exact(lF _ _ S).mpr (.inr (h2 x hx))
theorem p9 (l:Hf)(p:Pt):aR l (fl p)=l.1*p.1+l.2.1*p.2-l.2.2:=by unfold aR fl;simp
theorem ue (h:Hf)(p:Pt):ud h p=true↔0<=aR h (fl p):=by
 rw[p9];unfold ud;rw[decide_eq_true_eq];walk_at"o"
theorem KM (a b c:Hf):a6 b a c=-a6 a b c:=by unfold a6;grind
theorem zW (a c:Hf):a6 a a c=0:=by unfold a6;grind
theorem K7 (R:ke L)(h1:1<L.length)(k:Nat)(hk:k<L.length):dX L k hk≠L[k]:=by
 by_cases h3:3<=L.length
 ·rw[iy hk,<-bG hk];exact fun e=>K6 (P:=fun i=>af (gt L i)) h3 (eW R) (cB hk) hk (iA h3 hk).1 (congrArg af e)
 ·have e2:L.length=2:=by walk_at"o"
  match L,e2,R with
  | [a,b],_,R=>
   have hb:Bf (af a) (af b):=e9.mp (R.reg.fst 1 (by simp) (by decide))
   have ne:a≠b:=fun e=>by rw[e]at hb;exact Bf.irr _ hb
   have:k=0\/k=1:=by simp at hk;walk_at"o"
   rcases this with rfl|rfl
   ·exact fun e=>ne e.symm
   ·exact ne
theorem Sn (hS:SetOf B S1)(hne:B≠[])(hz:∀ p∈B,SzF 110 p)(zc:0<c.2.2)(hc:¬ bF (((bS S1).map gL).map af) c) :
  ∃ h,fW B h/\(∀ p∈B,0<=aR h (fl p))/\aR h c<0:=by
 have O:=qA hS hne;have R:=g7 O fun p hp=>(hz p (hS.1 p (O.sub p hp))).mono3 (by decide)
 rw[E2]at hc;have inB:∀ p∈bS S1,p∈B:=fun p hp=>hS.1 p (O.sub p hp);have hold:∀ p∈B,bF ((bS S1).map fl) (fl p):=fun p hp=>O.hold p (hS.2.1 p hp);have hne':=O.ne;generalize bS S1=H at *;have hp:0<H.length:=length_pos_iff.mpr hne';have hml:(H.map fl).length=H.length:=length_map ..
 rcases lt_or_ge H.length 3 with h3|h3
 ·have g0:(H.map fl)[0]'(by walk_at"o")=fl H[0]:=getElem_map ..
  have g1:(H.map fl)[(H.map fl).length-1]'(by walk_at"o")=fl H[H.length-1]:=by
   rw[getElem_map];congr 2;walk_at"o"
  have few:∀ p∈B,a6 (fl H[0]) (fl H[H.length-1]) (fl p)=0/\¬ cU p H[0]/\¬ cU H[H.length-1] p:=fun p hp=>by
   have:=(hold p hp).few (by walk_at"o")
   rw[g0,g1]at this;exact⟨this.1,fun z=>by rw[(tK _ _).mpr z]at this;exact absurd this.2.1 (by decide),fun z=>by rw[(tK _ _).mpr z]at this;exact absurd this.2.2 (by decide)⟩
  have b0:=inB _ (getElem_mem hp);have b1:=inB _ (getElem_mem (show H.length-1<H.length by walk_at"o"))
  have hc':¬ (a6 (fl H[0]) (fl H[H.length-1]) c=0/\k9 c (fl H[0])=false/\k9 (fl H[H.length-1]) c=false):=fun z=>hc ⟨by walk_at"o",fun _=>by rw[g0,g1];exact z,fun z=>by walk_at"o"⟩
  generalize H[0]=p0 at *;generalize H[H.length-1]=p1 at *
  by_cases hd:a6 (fl p0) (fl p1) c=0
  ·
   have hv:p1.1≠p0.1\/p1.1=p0.1:=by walk_at"o"
   have line:c.1=p0.1*c.2.2->c.2.1≠p0.2*c.2.2->p1.1=p0.1:=fun e1 e2=>by
    have e3:(p1.1-p0.1)*(c.2.1-p0.2*c.2.2)=0:=by
     have:(p1.1-p0.1)*(c.2.1-p0.2*c.2.2)=a6 (fl p0) (fl p1) c+(p1.2-p0.2)*(c.1-p0.1*c.2.2):=by unfold a6 fl;grind
     rw[this,hd,e1];simp
    rcases mul_eq_zero.mp e3 with h|h
    ·walk_at"o"
    ·exact absurd (by walk_at"o") e2
   have line1:c.1=p1.1*c.2.2->c.2.1≠p1.2*c.2.2->p1.1=p0.1:=fun e1 e2=>by
    have e3:(p1.1-p0.1)*(c.2.1-p1.2*c.2.2)=0:=by
     have:(p1.1-p0.1)*(c.2.1-p1.2*c.2.2)=a6 (fl p0) (fl p1) c+(p1.2-p0.2)*(c.1-p1.1*c.2.2):=by unfold a6 fl;grind
     rw[this,hd,e1];simp
    rcases mul_eq_zero.mp e3 with h|h
    ·walk_at"o"
    ·exact absurd (by walk_at"o") e2
   by_cases hb:k9 c (fl p0)=false
   ·have hb1:k9 (fl p1) c=true:=by
     cases hx:k9 (fl p1) c with
     | true=>rfl
     | false=>exact absurd ⟨hd,hb,hx⟩ hc'
    unfold k9 fl at hb1;simp only[mul_one,ne_eq]at hb1
    split at hb1
    ·rename_i e;have:=of_decide_eq_true hb1;refine⟨(-1,0,-p1.1),.inl ⟨p1,b1,by simp[G9]⟩,fun p hp=>?_,?_⟩
     ·have:=(few p hp).2.2;rw[p9];unfold cU at this;simp only;walk_at"o"
     ·unfold aR;simp only;have e5:=neg_mul p1.1 c.2.2;walk_at"o"
    ·rename_i e;have:=of_decide_eq_true hb1;have ex:=line1 (by walk_at"o") (by walk_at"o")
     refine⟨(0,-1,-p1.2),.inl ⟨p1,b1,by simp[G9]⟩,fun p hp=>?_,?_⟩
     ·have f:=(few p hp).2;rw[p9];unfold cU at f;simp only;walk_at"o"
     ·unfold aR;simp only;have e5:=neg_mul p1.2 c.2.2;walk_at"o"
   ·have hb:k9 c (fl p0)=true:=by simpa using hb
    unfold k9 fl at hb;simp only[mul_one,ne_eq]at hb
    split at hb
    ·rename_i e;have:=of_decide_eq_true hb;refine⟨(1,0,p0.1),.inl ⟨p0,b0,by simp[G9]⟩,fun p hp=>?_,?_⟩
     ·have:=(few p hp).2.1;rw[p9];unfold cU at this;simp only;walk_at"o"
     ·unfold aR;simp only;walk_at"o"
    ·rename_i e;have:=of_decide_eq_true hb;have ex:=line (by walk_at"o") (by walk_at"o")
     refine⟨(0,1,p0.2),.inl ⟨p0,b0,by simp[G9]⟩,fun p hp=>?_,?_⟩
     ·have f:=(few p hp).2;rw[p9];unfold cU at f;simp only;walk_at"o"
     ·unfold aR;simp only;walk_at"o"
  ·have hne2:p0≠p1:=fun e=>hd (by rw[e];exact zW _ _)
   rcases Int.lt_or_gt_of_ne hd with hl|hg
   ·refine⟨xX p0 p1,.inr ⟨p0,b0,p1,b1,hne2,rfl⟩,fun p hp=>(nF hne2 _).mpr (by rw[(few p hp).1];decide),?_⟩
    have:=mt (nF hne2 c).mp (by walk_at"o")
    walk_at"o"
   ·refine⟨xX p1 p0,.inr ⟨p1,b1,p0,b0,hne2.symm,rfl⟩,fun p hp=>(nF hne2.symm _).mpr (by rw[KM,(few p hp).1];decide),?_⟩
    have:=mt (nF hne2.symm c).mp (by rw[KM];walk_at"o")
    walk_at"o"
 ·have:∃ k,∃ hk:k<H.length,a6 (fl (dX H k hk)) (fl H[k]) c<0:=by
   apply Classical.byContradiction;intro hx;refine hc ⟨by walk_at"o",fun z=>by walk_at"o",fun _ k hk=>?_⟩
   rw[iz,getElem_map];have:¬ a6 (fl (dX H k (by walk_at"o"))) (fl (H[k]'(by walk_at"o"))) c<0:=fun z=>hx ⟨k,by walk_at"o",z⟩
   walk_at"o"
  obtain⟨k,hk,hlt⟩:=this;have hne2:dX H k hk≠H[k]:=fun e=>by
   have:=K7 R (by rw[length_map];walk_at"o") k (by rw[length_map];exact hk)
   rw[iz,getElem_map]at this;exact this (congrArg gL e)
  refine⟨xX (dX H k hk) H[k],.inr ⟨_,inB _ (qd hk),_,inB _ (getElem_mem hk),hne2,rfl⟩,fun p hp=>(nF hne2 _).mpr ?_,?_⟩
  ·have:=(hold p hp).all (by walk_at"o") k (by walk_at"o")
   rwa [iz,getElem_map]at this
  ·have:=mt (nF hne2 c).mp (by walk_at"o")
   walk_at"o"
def hW (h:Hf)(p:Pt):Pt:=(p.1*h.2.2-h.1,p.2*h.2.2-h.2.1)
theorem jz (c:Hf)(ps:List Pt)(f:Pt):ahead (ps.map (hW c)) f=ps.countP fun p=>decide (0<=aZ (hW c p) f):=by
 unfold ahead;rw[List.countP_map];rfl
theorem tS (p:α->Bool)(l:List α):l.countP p+l.countP (fun x=>!p x)=l.length:=by
 induction l with
 | nil=>rfl
 | cons x l ih=>
  rw[List.countP_cons,List.countP_cons,length_cons]
  cases p x <;> simp <;> walk_at"o"
theorem Mn (zc:0<c.2.2)(hn:h.1≠0\/h.2.1≠0)(ho:aR h c<0):nX (ps.map (hW c))+fZ h ps<=ps.length:=by
 have hf:((-h.1,-h.2.1):Pt)≠(0,0):=fun e=>by
  have:=Prod.mk.inj e;walk_at"o"
 have h1:=(kE (ps.map (hW c))).2 _ hf;rw[jz]at h1;have h2:ps.countP (fun p=>decide (0<=aZ (hW c p) (-h.1,-h.2.1)))<=ps.countP fun p=>!ud h p:=by
  refine List.countP_mono_left fun p _ hp=>?_;have hp:=of_decide_eq_true hp
  cases hb:ud h p with
  | false=>rfl
  | true=>
   exfalso;rw[ue,p9]at hb;unfold aZ hW at hp;unfold aR at ho;dsimp only at hp;have e:(p.1*c.2.2-c.1)*-h.1+(p.2*c.2.2-c.2.1)*-h.2.1=-(c.2.2*(h.1*p.1+h.2.1*p.2-h.2.2))+(h.1*c.1+h.2.1*c.2.1-h.2.2*c.2.2):=by grind
   rw[e]at hp;have:=mul_nonneg (le_of_lt zc) hb;walk_at"o"
 have h3:=tS (ud h) ps;unfold fZ;walk_at"o"
theorem Mm (hz:∀ p∈ps,SzF 110 p)(zc:0<c.2.2)(hk:k<=ps.length)(hk1:1<=k)(hall:∀ h,fW ps h->ps.length+1<=fZ h ps+k->0<=aR h c):k<=nX (ps.map (hW c)):=by
 apply Classical.byContradiction;intro hlt;obtain⟨⟨f,hf,hd⟩,_⟩:=kE (ps.map (hW c));rw[jz]at hd
 let B:=ps.filter fun p=>!decide (0<=aZ (hW c p) f)
 have hBm:∀ p,p∈B↔p∈ps/\aZ (hW c p) f<0:=fun p=>by
  simp only[B,mem_filter,Bool.not_eq_true',decide_eq_false_iff_not];constructor
  ·rintro⟨a,b⟩;exact⟨a,by walk_at"o"⟩
  ·rintro⟨a,b⟩;exact⟨a,by walk_at"o"⟩
 have hBl:ps.countP (fun p=>decide (0<=aZ (hW c p) f))+B.length=ps.length:=by
  have:=tS (fun p=>decide (0<=aZ (hW c p) f)) ps;rw[countP_eq_length_filter (p:=fun p=>!decide (0<=aZ (hW c p) f))]at this;exact this
 have hBne:B≠[]:=fun e=>by rw[e,length_nil]at hBl;walk_at"o"
 obtain⟨S1,hS⟩:=N3 B;have hzB:∀ p∈B,SzF 110 p:=fun p hp=>hz p ((hBm p).mp hp).1;have hno:¬ bF (((bS S1).map gL).map af) c:=fun hh=>by
  have:=(Ew hS hBne (fun p hp=>(hzB p hp).mono3 (by decide)) zc).mp hh (-(c.2.2*f.1),-(c.2.2*f.2),1-(c.1*f.1+c.2.1*f.2)) fun p hp=>?_
  ·unfold aR at this;dsimp only at this;have e:-(c.2.2*f.1)*c.1 + -(c.2.2*f.2)*c.2.1-(1-(c.1*f.1+c.2.1*f.2))*c.2.2=-c.2.2:=by grind
   rw[e]at this;walk_at"o"
  ·have h1:=((hBm p).mp hp).2;rw[p9];unfold aZ hW at h1;dsimp only at h1 ⊢;have e:-(c.2.2*f.1)*p.1 + -(c.2.2*f.2)*p.2-(1-(c.1*f.1+c.2.1*f.2))=-((p.1*c.2.2-c.1)*f.1+(p.2*c.2.2-c.2.1)*f.2)-1:=by grind
   rw[e];walk_at"o"
 obtain⟨h,hb,hall',ho⟩:=Sn hS hBne hzB zc hno;have hm:B.length<=fZ h ps:=by
  have:B.length=ps.countP fun p=>!decide (0<=aZ (hW c p) f):=(countP_eq_length_filter ..).symm;rw[this];refine List.countP_mono_left fun p hp hq=>(ue h p).mpr (hall' p ((hBm p).mpr ⟨hp,?_⟩));simp only[Bool.not_eq_true',decide_eq_false_iff_not]at hq;walk_at"o"
 have:=hall h (hb.sub fun p hp=>((hBm p).mp hp).1) (by walk_at"o")
 walk_at"o"
theorem lg (hz:∀ p∈ps,SzF 110 p)(hb:fW ps h):hZ h:=by
 rcases hb with ⟨p,hp,hh⟩|⟨p,hp,q,hq,hne,rfl⟩
 ·have z:=hz p hp;have o0:Sz 300 (0:Int):=vw;have o1:Sz 300 (1:Int):=vv (by decide)
  have o2:Sz 300 (-1:Int):=(vv (n:=300) (by decide)).neg
  simp only[G9,mem_cons,not_mem_nil,or_false]at hh
  rcases hh with rfl|rfl|rfl|rfl
  ·exact⟨⟨o1,o0,z.1.mono (by decide)⟩,.inl (show(1:Int)≠0 by decide)⟩
  ·exact⟨⟨o2,o0,z.1.neg.mono (by decide)⟩,.inl (show(-1:Int)≠0 by decide)⟩
  ·exact⟨⟨o0,o1,z.2.mono (by decide)⟩,.inr (show(1:Int)≠0 by decide)⟩
  ·exact⟨⟨o0,o2,z.2.neg.mono (by decide)⟩,.inr (show(-1:Int)≠0 by decide)⟩
 ·exact Py hne (hz p hp) (hz q hq)
theorem tZ (hz:∀ p∈ps,SzF 110 p)(zc:0<c.2.2)(hk:k<=ps.length)(hk1:1<=k):k<=nX (ps.map (hW c))↔∀ h,fW ps h->ps.length+1<=fZ h ps+k->0<=aR h c:=by
 refine⟨fun hd h hb hm=>?_,Mm hz zc hk hk1⟩
 rcases lt_or_le (aR h c) 0 with ho|ho
 ·have:=Mn (ps:=ps) zc (lg hz hb).2 ho;walk_at"o"
 ·exact ho
theorem Di (hS:SetOf ps S1)(hne:ps≠[])(hz:∀ p∈ps,SzF 110 p)(zc:0<c.2.2)(hk1:1<=k)(hall:∀ h,fW ps h->ps.length+1<=fZ h ps+k->0<=aR h c):bF (((bS S1).map gL).map af) c:=by
 apply Classical.byContradiction;intro hc;obtain⟨h,hb,ha,ho⟩:=Sn hS hne hz zc hc;have hm:fZ h ps=ps.length:=List.countP_eq_length.mpr fun p hp=>(ue h p).mpr (ha p hp);have:=hall h hb (by walk_at"o")
 walk_at"o"
end Law
namespace Law
open L2 DL
set_option maxHeartbeats 1000000
def Hn (G:Hf->Prop)(L:List aS):Prop:=3<=L.length->∀ k (hk:k<L.length),CB G (dX L k hk) L[k]
theorem EZ (hp:bA p)(hq:bA q)(h1:k9 (af p) (af q)=false)(h2:k9 (af q) (af p)=false):p=q:=by
 rw[<-EY hp hq]at h1;rw[<-EY hq hp]at h2;unfold M9 at h1 h2;have fr:∀ {f g:Fr},qM f->qM g->OI f g=false->OI g f=false->f=g:=fun {f g} hf hg a b=>by
  unfold OI at a b;have a:=of_decide_eq_false a;have b:=of_decide_eq_false b;exact Ac hf hg (by walk_at"o")
 by_cases e:p.1=q.1
 ·rw[if_pos e]at h1;rw[if_pos e.symm]at h2;exact Prod.ext e (fr hp.2 hq.2 h1 h2)
 ·rw[if_neg e]at h1;rw[if_neg fun z=>e z.symm]at h2;exact absurd (fr hp.1 hq.1 h1 h2) e
theorem Mc (hh:hZ h)(R:ke L)(h3:3<=(ie h L).length):3<=L.length:=by
 have C:=tR hh R
 rcases lt_or_ge L.length 3 with hl|hl
 ·exfalso;have T:=fU C.reg.reg 0 1 2 (by walk_at"o") (by walk_at"o") (by rw[length_map];walk_at"o")
  rw[getElem_map,getElem_map,getElem_map]at T;have f:=fun i (hi:i<(ie h L).length)=>(C.hold _ (getElem_mem hi)).1;have oks:=fun i (hi:i<(ie h L).length)=>C.reg.ok _ (getElem_mem hi);have f0:=f 0 (by walk_at"o")
  have f1:=f 1 (by walk_at"o")
  have f2:=f 2 (by walk_at"o")
  have o0:=oks 0 (by walk_at"o")
  have o1:=oks 1 (by walk_at"o")
  have o2:=oks 2 (by walk_at"o")
  clear f oks C;generalize (ie h L)[0]=u at *;generalize (ie h L)[1]=v at *;generalize (ie h L)[2]=w at *;clear h3
  rcases L with _|⟨a,_|⟨b,_|⟨c,r⟩⟩⟩
  ·exact absurd f0.ne (by simp)
  ·have oa:=R.ok a mem_cons_self;have q0:=(f0.few (by simp)).2
   have q1:=(f1.few (by simp)).2
   have e0:u=a:=EZ o0 oa q0.1 q0.2;have e1:v=a:=EZ o1 oa q1.1 q1.2;rw[e0,e1,zW]at T;exact absurd T (by decide)
  ·have q0:=(f0.few (by simp)).1
   have q1:=(f1.few (by simp)).1
   have q2:=(f2.few (by simp)).1
   have ne:Bf (af a) (af b):=e9.mp (R.reg.fst 1 (by simp) (by decide))
   have nz:(sC (af a) (af b)).1≠0\/(sC (af a) (af b)).2.1≠0:=by
    apply Classical.byContradiction;intro z;unfold sC at z;simp only[not_or,ne_eq,Classical.not_not]at z;unfold Bf at ne;walk_at"o"
   have g:∀ x:Hf,a6 (af a) (af b) x=0->aR (sC (af a) (af b)) x=0:=fun x hx=>by rw[fH];exact hx
   have y0:=g _ q0;have y1:=g _ q1;have y2:=g _ q2;unfold aR at y0 y1 y2;have:=Ao nz y0 y1 y2;walk_at"o"
  ·simp at hl;walk_at"o"
 ·exact hl
theorem EW (hh:hZ h)(hG:G h)(R:ke L)(H:Hn G L):Hn G (ie h L):=fun k3 k hk=>by
 have n3:=Mc hh R k3;have ok:∀ i,i<L.length->bA (gt L i):=fun i hi=>by rw[bG hi];exact R.ok _ (getElem_mem _)
 have hT:=eW R;have eK:gR h L=(KI h (gt L) L.length L.length).map (·.2.2):=by
  unfold gR;rw[yU];exact oj n3 ok hT _ (le_refl _)
 have hQh:xI G h:=⟨hG,hh.2⟩;have lkQ:∀ k,k<L.length->CB G (gt L (bj L.length k)) (gt L k):=fun k hk=>by
  have:=H n3 k hk
  rwa [iy hk,<-bG hk]at this
 have H':=ot hQh (show 0<L.length by walk_at"o") ok lkQ L.length (le_refl _)
 have e2:bj L.length L.length=L.length-1:=by unfold bj;rw[if_neg (by walk_at"o")]
 rw[e2,<-eK]at H';have cyc:=tX hQh H';have hm0:0<(gR h L).length:=by rw[<-pI hh R];walk_at"o"
 obtain⟨hm,_⟩:=mL (zK hh R).ok hm0 (gR h L).length (le_refl _);have hk2:k<(gR h L).length:=by rw[<-pI hh R];exact hk
 have g1:(ie h L)[k]=(gR h L)[qh (gR h L).length (wU (gR h L) (gR h L).length) k]'(kJ hm hk2):=eI hm hk2;have g2:dX (ie h L) k hk=dX (gR h L) (qh (gR h L).length (wU (gR h L) (gR h L).length) k) (kJ hm hk2):=yY hm hk2;rw[g1,g2];exact cyc _ _
theorem zI (hne:p≠q)(h:a6 (fl p) (fl q) x=0):aR (xX p q) x=0:=by
 have h1:=(nF hne x).mpr (by walk_at"o")
 have h2:=(nF hne (-x.1,-x.2.1,-x.2.2)).mpr (by
  have:a6 (fl p) (fl q) (-x.1,-x.2.1,-x.2.2)=-a6 (fl p) (fl q) x:=by unfold a6;grind
  walk_at"o")
 have h3:aR (xX p q) (-x.1,-x.2.1,-x.2.2)=-aR (xX p q) x:=by unfold aR;grind
 walk_at"o"
theorem EV (hS:SetOf ps S1)(hne:ps≠[])(hz:∀ p∈ps,SzF 110 p):Hn (fW ps) ((bS S1).map gL):=fun h3 k hk=>by
 have O:=qA hS hne;have R:=g7 O fun p hp=>(hz p (hS.1 p (O.sub p hp))).mono3 (by decide)
 have hn:=K7 R (by walk_at"o") k hk
 have hk':k<(bS S1).length:=by rwa [length_map]at hk
 rw[iz,getElem_map]at hn ⊢;have hn':dX (bS S1) k hk'≠(bS S1)[k]:=fun e=>hn (congrArg gL e);have m1:=hS.1 _ (O.sub _ (qd hk'));have m2:=hS.1 _ (O.sub _ (getElem_mem hk'));have b:fW ps (xX (dX (bS S1) k hk') (bS S1)[k]):=.inr ⟨_,m1,_,m2,hn',rfl⟩;have nz:=(lg hz b).2;refine⟨_,⟨b,nz,?_⟩,b,nz,?_⟩
 ·rw[<-cO,k5];exact zI hn' (by unfold a6;grind)
 ·rw[<-cO,k5];exact zI hn' (by unfold a6;grind)
theorem By {G:Hf->Prop}{L:List aS}(R:ke L)(H:Hn G L)(h3:3<=L.length){D:List Hf}(hD:∀ l,G l->l∈D):L.length<=D.length:=by
 classical
 let f:Nat->Hf:=fun k=>if hk:k<L.length then Classical.choose (H h3 k hk) else (0,0,0)
 have hf:∀ k (hk:k<L.length),KG G (f k) (gt L (bj L.length k))/\KG G (f k) (gt L k):=fun k hk=>by
  have:=Classical.choose_spec (H h3 k hk);simp only[f,dif_pos hk];rw[<-iy hk,bG hk];exact this
 have hT:=eW R;have key:∀ i j,i<L.length->j<L.length->i≠j->j≠bj L.length i->f i≠f j:=fun i j hi hj hij hp e=>by
  have pos:0<a6 (af (gt L (bj L.length i))) (af (gt L i)) (af (gt L j)):=di (P:=fun i=>af (gt L i)) hT hi hj (fun z=>hij z.symm) hp;have a:=(hf i hi).1.2.2;have b:=(hf i hi).2.2.2;have c:=(hf j hj).2.2.2;rw[<-e]at c;rw[<-cO]at a b c;unfold aR at a b c;have:=Ao (hf i hi).1.2.1 a b c;walk_at"o"
 have nd:((List.range L.length).map f).Nodup:=by
  refine pairwise_map.mpr (List.Pairwise.imp_of_mem (fun {i j} hi hj hij e=>?_) List.nodup_range);have hi:=mem_range.mp hi;have hj:=mem_range.mp hj
  by_cases hp:j=bj L.length i
  ·by_cases hq:i=bj L.length j
   ·have:=(iA h3 hi).2.1;rw[<-hp,<-hq]at this;exact this rfl
   ·exact key j i hj hi (fun z=>hij z.symm) hq e.symm
  ·exact key i j hi hj hij hp e
 have:=List.Nodup.length_le_of_subset nd (l₂:=D) (fun l hl=>by
  obtain⟨k,hk,rfl⟩:=mem_map.mp hl;exact hD _ (hf k (mem_range.mp hk)).1.1)
 rwa [length_map,length_range]at this
end Law
namespace Law
open L2 DL
set_option maxHeartbeats 4000000
def kc (ps:List Pt)(hs:List Hf):Prop:=(∀ h,h∈hs↔fW ps h)/\hs.length<=60
def mo (m:Int)(ps:List Pt)(hs:List Hf):List Hf:=hs.filter fun g=>decide (m<=fZ g ps)
def cR:aM:=fun ss R=>∃ p:Pt,ss=[.t (aV p)]/\R (.ol ((G9 p).map bc))
def jt:aM:=fun ss R=>∃ ps:List Pt,ss=[.t (.lst (ps.map aV))]/\ps.length<=6/\(∀ p∈ps,SzF 100 p)/\∀ hs:List Hf,kc ps hs->R (.ol (hs.map bc))
def bf:aM:=fun ss R=>∃ (t:T) (ts:List T),ss=[.t (.lst (t::ts))]/\R (.t .non)
def eB:aM:=fun ss R=>∃ (ps:List Pt) (m:Int),ss=[.t (.lst (ps.map aV)),.t (.int m)]/\ps≠[]/\ps.length<=6/\(∀ p∈ps,SzF 100 p)/\∀ hs:List Hf,kc ps hs->R (.ol ((mo m ps hs).map bc))
def ce:WS:=
 (aC (aF 1 (ao aJ (ae 0) (wC (.int 0))))
 (aC (aF 2 (ao aJ (ae 0) (wC (.int 1))))
 (bz (jx (ac (bZ (ac (wC (.int 1)) (ac (wC (.int 0)) (ac (ae 1) ap)))) (ac (bZ (ac (xF jd (wC (.int 1))) (ac (wC (.int 0)) (ac (xF jd (ae 1)) ap)))) (ac (bZ (ac (wC (.int 0)) (ac (wC (.int 1)) (ac (ae 2) ap)))) (ac (bZ (ac (wC (.int 0)) (ac (xF jd (wC (.int 1))) (ac (xF jd (ae 2)) ap)))) ap))))))))
def iS:WS:=
 (aC (aF 1 (jx ap))
 (b9 (k7 (cm (ae 0)) (aG 2) (aC (oF 1 (aw cR (ac (ae 2) ap)))
 (k7 (cm (ae 0)) (aG 3) (iW (wB (ON (ae 2) (ae 3))) (fm 1 (aw kR (ac (ae 2) (ac (ae 3) ap)))) bB))))
 (bz (l8 (ae 1)))))
def eR:WS:=
 (iW (wB (tm (eP dj (ac (ae 0) ap)) (wC (.int 0)))) nr bB)
def ml:WS:=
 (aC (xy (aw bf (ac (ae 0) ap)))
 (bz (dQ 1 [0,1] (cm (aw jt (ac (ae 0) ap))) (aG 0) (wB (QV (aw kX (ac (ae 0) (ac (ae 1) ap))) (ae 2))) (ae 0))))
theorem jn:Ok cR ce ["point","x","y"]:=by
 rintro ss R ⟨⟨x,y⟩,rfl,h⟩;show ce _ [some (.t (.tup [.int x,.int y])),none,none]
 delta ce
 walk_at"d";exact h
theorem pY:Ok bf eR ["points"]:=by
 rintro ss R ⟨t,ts,rfl,h⟩;show eR _ [some (.t (.lst (t::ts)))]
 delta eR
 walk_at"d";rw[if_neg (by omega)]
 exact h
def KS (h:Hf):List Int:=[h.1,h.2.1,h.2.2]
theorem wz {hs:List Hf}:∀ ns:List (List Int),(∀ k∈ns,k∈hs.map KS)->∃ gs:List Hf,ns=gs.map KS/\∀ g∈gs,g∈hs
 | [],_=>⟨[],rfl,fun p hp=>by cases hp⟩
 | k::ns,h=>by
  obtain⟨gs,e,hg⟩:=wz ns fun k hk=>h k (mem_cons_of_mem _ hk);obtain⟨p,hp,rfl⟩:=mem_map.mp (h k mem_cons_self);exact⟨p::gs,by rw[e];rfl,fun q hq=>by
   rcases mem_cons.mp hq with rfl|hq
   ·exact hp
   ·exact hg q hq⟩
theorem IL (h:KS a=KS b):a=b:=by
 unfold KS at h;simp only[List.cons.injEq,and_true]at h;exact Prod.ext h.1 (Prod.ext h.2.1 h.2.2)
theorem Mg:∀ {ps:List Pt},p∈ps->ps.countP (fun q=>decide (q≠p))+1<=ps.length:=fun {ps} h=>by
 have h1:=tS (fun q=>decide (q≠p)) ps;have h2:0<ps.countP fun q=>!decide (q≠p):=List.countP_pos_iff.mpr ⟨p,h,by simp⟩
 omega
theorem wX:Ok jt iS ["points","found","one","other"]:=by
 rintro ss R ⟨ps,rfl,hl,hz,h⟩;show iS _ [some (.t (.lst (ps.map aV))),none,none,none]
 delta iS
 walk_at"d"
 let M:List Pt->List Hf->Prop:=fun pre hs=>hs.length<=pre.length*10/\(∀ h∈hs,fW ps h)/\∀ p∈pre,(∀ h∈G9 p,h∈hs)/\∀ q∈ps,p≠q->xX p q∈hs
 refine⟨fun δ=>∃ (hs:List Hf) (r2 r3:Option S),δ=[some (.t (.lst (ps.map aV))),some (.ol (hs.map bc)),r2,r3]/\M ps hs,?_,?_⟩
 ·refine⟨fun ts δ=>∃ (pre post:List Pt) (hs:List Hf) (r2 r3:Option S),ps=pre++post/\ts=post.map aV/\δ=[some (.t (.lst (ps.map aV))),some (.ol (hs.map bc)),r2,r3]/\M pre hs,⟨[],ps,[],_,_,rfl,rfl,rfl,by simp,fun h hh=>(nomatch hh),fun p hp=>(nomatch hp)⟩,?_,?_⟩
  ·rintro δ ⟨pre,post,hs,r2,r3,e1,e2,rfl,hM⟩;have:post=[]:=by simpa using e2.symm
   subst this;rw[append_nil]at e1;subst e1;exact⟨hs,r2,r3,rfl,hM⟩
  ·rintro x ts δ ⟨pre,post,hs,r2,r3,e1,e2,rfl,h1,h2,h3⟩
   cases post with
   | nil=>cases e2
   | cons p post=>
    rw[map_cons]at e2
    cases e2
    have hpm:p∈ps:=by rw[e1];simp
    have hpz:SzF 100 p:=hz p hpm;have hln:ps.length=pre.length+(post.length+1):=by rw[e1];simp
    walk_at"d";refine⟨p,rfl,?_⟩;dsimp only;rw[fb _ (bI (fun _=>rfl) _)];walk_at"d";refine⟨by simp only[length_map];show hs.length+4<100000;omega,?_⟩
    rw[<-map_append]
    let N:List Pt->List Hf->Prop:=fun p2 gs=>gs.length<=hs.length+4+p2.countP (fun q=>decide (q≠p))/\(∀ h∈gs,fW ps h)/\(∀ h∈hs,h∈gs)/\(∀ h∈G9 p,h∈gs)/\∀ q∈p2,p≠q->xX p q∈gs
    refine⟨fun ts δ=>∃ (p2 q2:List Pt) (gs:List Hf) (r3:Option S),ps=p2++q2/\ts=q2.map aV/\δ=[some (.t (.lst (ps.map aV))),some (.ol (gs.map bc)),some (.t (aV p)),r3]/\N p2 gs,⟨[],ps,hs++G9 p,_,rfl,rfl,rfl,by simp[G9],fun h hh=>?_,fun h hh=>mem_append_left _ hh,fun h hh=>mem_append_right _ hh,fun q hq=>(nomatch hq)⟩,?_,?_⟩
    ·rcases mem_append.mp hh with hh|hh
     ·exact h2 h hh
     ·exact .inl ⟨p,hpm,hh⟩
    ·rintro δ ⟨p2,q2,gs,r3,e3,e4,rfl,g1,g2,g3,g4,g5⟩;have:q2=[]:=by simpa using e4.symm
     subst this;rw[append_nil]at e3;subst e3;have hc:=Mg hpm;refine⟨pre++[p],post,gs,_,_,by rw[List.append_assoc];exact e1,rfl,rfl,by rw[List.length_append,length_singleton];omega,g2,fun p' hp'=>?_⟩
     rcases mem_append.mp hp' with hp'|hp'
     ·exact⟨fun h hh=>g3 h ((h3 p' hp').1 h hh),fun q hq hne=>g3 _ ((h3 p' hp').2 q hq hne)⟩
     ·rw[mem_singleton.mp hp'];exact⟨g4,g5⟩
    ·rintro x ts δ ⟨p2,q2,gs,r3,e3,e4,rfl,g1,g2,g3,g4,g5⟩
     cases q2 with
     | nil=>cases e4
     | cons q q2=>
      rw[map_cons]at e4
      cases e4
      have hqm:q∈ps:=by rw[e3];simp
      have hqz:SzF 100 q:=hz q hqm;have hln2:ps.length=p2.length+(q2.length+1):=by rw[e3];simp
      have hcl:p2.countP (fun q=>decide (q≠p))<=p2.length:=List.countP_le_length;walk_at"d"
      by_cases hpq:p.1=q.1/\p.2=q.2
      ·rw[decide_eq_true hpq,if_neg (by decide)]
       have epq:q=p:=(Prod.ext hpq.1 hpq.2).symm;refine⟨p2++[q],q2,gs,_,by rw[List.append_assoc];exact e3,rfl,rfl,?_,g2,g3,g4,fun q' hq' hne=>?_⟩
       ·rw[List.countP_append];omega
       ·rcases mem_append.mp hq' with hq'|hq'
        ·exact g5 q' hq' hne
        ·rw[mem_singleton.mp hq',epq]at hne;exact absurd rfl hne
      ·rw[decide_eq_false hpq,if_pos (by decide)]
       have hne:p≠q:=fun e=>hpq ⟨by rw[e],by rw[e]⟩
       refine⟨p,q,rfl,hne,hpz.mono3 (by decide),hqz.mono3 (by decide),?_⟩
       walk_at"d";refine⟨by rw[length_map];omega,p2++[q],q2,gs++[xX p q],_,by rw[List.append_assoc];exact e3,rfl,by rw[map_append];rfl,?_,fun g hg=>?_,fun g hg=>mem_append_left _ (g3 g hg),fun g hg=>mem_append_left _ (g4 g hg),fun q' hq' hne'=>?_⟩
       ·rw[List.length_append,length_singleton,List.countP_append,List.countP_singleton,if_pos (by simpa using hne.symm)];omega
       ·rcases mem_append.mp hg with hg|hg
        ·exact g2 g hg
        ·rw[mem_singleton.mp hg];exact .inr ⟨p,hpm,q,hqm,hne,rfl⟩
       ·rcases mem_append.mp hq' with hq'|hq'
        ·exact mem_append_left _ (g5 q' hq' hne')
        ·rw[mem_singleton.mp hq'];exact mem_append_right _ (mem_singleton.mpr rfl)
 ·rintro δ ⟨hs,r2,r3,rfl,h1,h2,h3⟩;walk_at"d";refine⟨3,hs.map KS,by decide,by rw[map_map];rfl,fun ks hk=>by obtain⟨p,_,rfl⟩:=mem_map.mp hk;rfl,by rw[length_map];omega,fun ns n1 n2 n3 _=>?_⟩
  obtain⟨gs,rfl,hg⟩:=wz ns n1;have hgl:gs.length<=hs.length:=by
   have:=List.Nodup.length_le_of_subset n3 n1;simpa using this
  have e:(gs.map KS).map n5=gs.map bc:=by rw[map_map];rfl
  rw[e];walk_at"d";refine h gs ⟨fun g=>⟨fun hg'=>h2 g (hg g hg'),fun hb=>?_⟩,by omega⟩
  have hin:g∈hs:=by
   rcases hb with ⟨p,hp,hh⟩|⟨p,hp,q,hq,hne,rfl⟩
   ·exact(h3 p hp).1 g hh
   ·exact(h3 p hp).2 q hq hne
  obtain⟨g',hg',e'⟩:=mem_map.mp (n2 (KS g) (mem_map.mpr ⟨g,hin,rfl⟩));rw[<-IL e'];exact hg'
theorem Ih (hz:∀ p∈ps,SzF 100 p)(hb:fW ps h):du 300 h:=(lg (fun p hp=>(hz p hp).mono3 (by decide)) hb).1
theorem B7:Ok eB ml ["points","many"]:=by
 rintro ss R ⟨ps,m,rfl,hne,hl,hz,h⟩;obtain⟨p0,pr,rfl⟩:∃ p0 pr,ps=p0::pr:=by
  cases ps with
  | nil=>exact absurd rfl hne
  | cons a b=>exact⟨a,b,rfl⟩
 show ml _ [some (.t (.lst ((p0::pr).map aV))),some (.t (.int m))]
 delta ml
 generalize hps:p0::pr=ps at *;have hnp:∀ R:S->Prop,R (.t .non)->bf [.t (.lst (ps.map aV))] R:=fun R hR=>⟨aV p0,pr.map aV,by rw[<-hps];rfl,hR⟩
 walk_at"d";refine hnp _ ?_;walk_at"d";refine⟨ps,rfl,hl,hz,fun hs hsB=>?_⟩;dsimp only;rw[fb _ (bI (fun _=>rfl) _)];walk_at"d";have hs1:=hsB.2;refine eT (f:=bc) (h:=bc) (p:=fun g=>decide (m<=fZ g ps)) (fun δ=>∃ r,δ=[r,some (.t (.lst (ps.map aV))),some (.t (.int m))]) (fun _ _=>rfl) (by omega) ⟨_,rfl⟩ ?_ ?_
 ·rintro g hg δ ⟨r,rfl⟩ Y N h1 h2;walk_at"d";refine⟨g,ps,rfl,lY (Ih hz ((hsB.1 g).mp hg)) (by decide),fun p hp=>(hz p hp).mono3 (by decide),by omega,?_⟩
  walk_at"d"
  split
  ·rename_i hc;exact h1 _ ⟨_,rfl⟩ (by simpa using hc)
  ·rename_i hc;exact h2 _ ⟨_,rfl⟩ (by simpa using hc)
 ·walk_at"d";exact h hs hsB
end Law
namespace Law
open L2 DL
set_option maxHeartbeats 4000000
structure xN (ps:List Pt) (k:Nat) (L:List aS):Prop where
 reg:ke L
 hold:∀ q:Hf,0<q.2.2->(bF (L.map af) q↔k<=nX (ps.map (hW q)))
 len:L.length<=160
 few:3<=L.length->L.length<=60
 lk:Hn (fW ps) L
def jN:aM:=fun ss R=>∃ (ps:List Pt) (k:Nat),ss=[.t (.lst (ps.map aV)),.t (.int (k:Int))]/\ps≠[]/\ps.length<=6/\(∀ p∈ps,SzF 100 p)/\1<=k/\∀ L:List aS,xN ps k L->R (.ol (L.map spT))
def mh:WS:=
 (aC (xy (aw bf (ac (ae 0) ap)))
 (aC (iW (wB (Hc (ae 1) (wC (.int 1)))) nr bB)
 (aC (iW (wB (Ha (ae 1) (eP dj (ac (ae 0) ap)))) (bz (jx ap)) bB)
 (aC (aF 2 (aw vm (ac (ae 0) ap)))
 (b9 (k7 (cm (aw eB (ac (ae 0) (ac (cE (cS (eP dj (ac (ae 0) ap)) (ae 1)) (wC (.int 1))) ap)))) (aG 3) (aF 2 (aw kS (ac (ae 2) (ac (ae 3) ap)))))
 (jy 2))))))
theorem GG (R:ke L):∀ s∈L,bA s/\fg 700 s:=fun s hs=>⟨R.ok s hs,dq (PB (R.ok s hs) (R.cn s hs)) (by decide)⟩
theorem GS (h:SetOf ps S1):S1.length<=ps.length:=List.Nodup.length_le_of_subset (se h.2.2) h.1
theorem Ag (S1:List Pt):(bS S1).length<=2*S1.length:=by
 unfold bS
 split
 ·omega
 ·unfold nL;have a1:=lh S1;have a2:=lh S1.reverse;rw[length_reverse]at a2;simp only[List.length_append,length_dropLast,length_reverse];omega
theorem zS (ps:List Pt)(q:Hf):nX (ps.map (hW q))<=ps.length:=by
 have h:=(kE (ps.map (hW q))).2 (1,0) (by decide)
 have:=oZ (ps.map (hW q)) (1,0);rw[length_map]at this;omega
theorem Kg:ke ([]:List aS):=⟨fun s hs=>(nomatch hs),⟨fun k hk=>(nomatch hk),fun h=>(nomatch h)⟩,fun s hs=>(nomatch hs),fun k hk=>(nomatch hk)⟩
theorem GH (h:ps.length<k):xN ps k []:=by
 refine⟨Kg,fun q _=>⟨fun z=>absurd z.ne (by simp),fun z=>?_⟩,by simp,fun h=>by simp at h,fun h=>by simp at h⟩
 have:=zS ps q;omega
theorem Kh (hS:SetOf ps S1)(hne:ps≠[])(h7:ps.length<=6)(hz:∀ p∈ps,SzF 100 p)(hk1:1<=k)(hk:k<=ps.length)(hB:kc ps hs)
  (I:xK ((bS S1).map gL) (mo ((ps.length:Int)-k+1) ps hs) L) (hl:Hn (fW ps) L):xN ps k L:=by
 have hz':∀ p∈ps,SzF 110 p:=fun p hp=>(hz p hp).mono3 (by decide)
 have mem:∀ h,h∈mo ((ps.length:Int)-k+1) ps hs↔fW ps h/\ps.length+1<=fZ h ps+k:=fun h=>by
  unfold mo;rw[mem_filter,hB.1,decide_eq_true_eq];exact⟨fun z=>⟨z.1,by omega⟩,fun z=>⟨z.1,by omega⟩⟩
 have sl:(mo ((ps.length:Int)-k+1) ps hs).length<=60:=le_trans (length_filter_le ..) hB.2;refine⟨I.1,fun q zq=>?_,?_,fun h3=>le_trans (By I.1 hl h3 (D:=hs) fun l hl=>(hB.1 l).mpr hl) hB.2,hl⟩
 ·rw[I.2.2 q zq,tZ hz' zq hk hk1];constructor
  ·rintro⟨_,z⟩ h hb hm;exact z h ((mem h).mpr ⟨hb,hm⟩)
  ·intro z;exact⟨Di hS hne hz' zq hk1 z,fun h hh=>z h ((mem h).mp hh).1 ((mem h).mp hh).2⟩
 ·have:=I.2.1;have h1:=Ag S1;have h2:=GS hS;rw[length_map]at this;omega
theorem B5:Ok jN mh ["points","k","part","found"]:=by
 rintro ss R ⟨ps,k,rfl,hne,hl,hz,hk1,h⟩;obtain⟨p0,pr,rfl⟩:∃ p0 pr,ps=p0::pr:=by
  cases ps with
  | nil=>exact absurd rfl hne
  | cons a b=>exact⟨a,b,rfl⟩
 show mh _ [some (.t (.lst ((p0::pr).map aV))),some (.t (.int (k:Int))),none,none]
 delta mh
 generalize hps:p0::pr=ps at *;have hlen:1<=ps.length:=by rw[<-hps];simp
 have hnp:∀ R:S->Prop,R (.t .non)->bf [.t (.lst (ps.map aV))] R:=fun R hR=>⟨aV p0,pr.map aV,by rw[<-hps];rfl,hR⟩
 walk_at"d";refine hnp _ ?_;walk_at"d";rw[if_neg (by omega)]
 walk_at"d"
 by_cases hkn:ps.length<k
 ·rw[if_pos (by rw[length_map];omega)]
  walk_at"d";exact h [] (GH hkn)
 rw[if_neg (by rw[length_map];omega)]
 walk_at"d";refine⟨ps,rfl,by omega,fun p hp=>(hz p hp).mono3 (by decide),fun S1 hS1=>?_⟩
 dsimp only;have eL:(bS S1).map cq=((bS S1).map gL).map spT:=by rw[map_map];rfl
 have g2:∀ l:List aS,got (.ol (l.map spT))=.ol (l.map spT):=fun l=>fb _ (bI (fun _=>rfl) l);rw[eL,g2];walk_at"d";have hz':∀ p∈ps,SzF 110 p:=fun p hp=>(hz p hp).mono3 (by decide)
 have O:=qA hS1 hne;have R0:ke ((bS S1).map gL):=g7 O fun p hp=>(hz' p (hS1.1 p (O.sub p hp))).mono3 (by decide)
 have lk0:=EV hS1 hne hz';have L0l:((bS S1).map gL).length<=14:=by
  have h1:=Ag S1;have h2:=GS hS1;rw[length_map];omega
 let M:a8->Prop:=fun δ=>∃ (hs:List Hf) (L:List aS) (v2:S) (r3:Option S),δ=[some (.t (.lst (ps.map aV))),some (.t (.int (k:Int))),some v2,r3]/\v2=.ol (L.map spT)/\kc ps hs/\xK ((bS S1).map gL) (mo ((ps.length:Int)-k+1) ps hs) L/\Hn (fW ps) L
 refine⟨M,?_,?_⟩
 ·refine⟨ps,_,rfl,hne,hl,hz,fun hs hB=>?_⟩;dsimp only;rw[fb _ (bI (fun _=>rfl) _)];walk_at"d";rw[length_map];have hok:∀ g∈mo ((ps.length:Int)-k+1) ps hs,hZ g/\fW ps g:=fun g hg=>by
   have:=(hB.1 g).mp (mem_filter.mp hg).1;exact⟨lg hz' this,this⟩
  have sl:(mo ((ps.length:Int)-k+1) ps hs).length<=60:=le_trans (length_filter_le ..) hB.2;have hend:∀ (L:List aS) (v2:S) (r3:Option S),v2=.ol (L.map spT)->xK ((bS S1).map gL) (mo ((ps.length:Int)-k+1) ps hs) L->Hn (fW ps) L->M [some (.t (.lst (ps.map aV))),some (.t (.int (k:Int))),some v2,r3]:=fun L v2 r3 a b c=>⟨hs,L,v2,r3,rfl,a,hB,b,c⟩;generalize mo ((ps.length:Int)-k+1) ps hs=st at hok sl hend;refine⟨fun ts δ=>∃ (pre post:List Hf) (L:List aS) (v2:S) (r3:Option S),st=pre++post/\ts=post.map bc/\δ=[some (.t (.lst (ps.map aV))),some (.t (.int (k:Int))),some v2,r3]/\v2=.ol (L.map spT)/\xK ((bS S1).map gL) pre L/\Hn (fW ps) L,⟨[],st,_,_,_,rfl,rfl,rfl,rfl,RD R0,lk0⟩,?_,?_⟩
  ·rintro δ ⟨pre,post,L,v2,r3,e1,e2,rfl,h2,hI,hL⟩;have:post=[]:=by simpa using e2.symm
   subst this;rw[append_nil]at e1;rw[<-e1]at hI;exact hend L v2 r3 h2 hI hL
  ·rintro x ts δ ⟨pre,post,L,v2,r3,e1,e2,rfl,h2,hI,hL⟩
   cases post with
   | nil=>cases e2
   | cons g post=>
    rw[map_cons]at e2
    cases e2
    obtain⟨gk,gb⟩:=hok g (by rw[e1];simp)
    have hpl:pre.length<=70:=by
     have:=congrArg List.length e1;simp only[List.length_append,length_cons]at this;omega
    have hIl:=hI.2.1;subst h2
    (
     walk_at"d";refine⟨L,g,rfl,by omega,GG hI.1,gk.1,?_⟩
     dsimp only;rw[g2];walk_at"d";exact⟨pre++[g],post,ie g L,_,_,by rw[e1];simp,rfl,rfl,rfl,EB gk hI,EW gk gb hI.1 hL⟩)
 ·rintro δ ⟨hs,L,v2,r3,rfl,h2,hB,hI,hL⟩;have hR:=h L (Kh hS1 hne hl hz hk1 (by omega) hB hI hL)
  subst h2;walk_at"d";exact hR
end Law
namespace Law
open L2 DL
set_option maxHeartbeats 4000000
theorem LZ {α:Type}{f:α->T}{l:List α}{k:Nat}{x:α}{R:S->Prop}(e:l[k]?=some x):atT (l.map f) (k:Int) R=R (.t (f x)):=
 fE (dy (by rw[getElem?_map,e];rfl))
theorem sQ (k n:Nat):bW (k:Int) (n+1)=.int k::bW ((k+1:Nat):Int) n:=by
 unfold bW;rw[range_succ_eq_map,map_cons,map_map]
 congr 1
 ·simp;intro a _;walk_at"o"
theorem wt (e:m=n)(I:Nat->a8->Prop)(h0:I 0 δ)(hend:∀ δ,I n δ->D.nx δ)
  (hstep:∀ k δ,k<n->I k δ->g (.int (k:Int)) δ fun δ1=>wb {nx:=I (k+1),rt:=D.rt,bk:=D.nx,ct:=I (k+1)} δ1):Bz g wb (bW 0 m) D δ:=by
 subst e;refine⟨fun ts δ=>∃ k j:Nat,ts=bW (k:Int) j/\k+j=m/\I k δ,⟨0,m,rfl,by walk_at"o",h0⟩,?_,?_⟩
 ·rintro δ ⟨k,j,e,hk,h⟩
  cases j with
  | zero=>exact hend δ (by rw[Nat.add_zero]at hk;rw[<-hk];exact h)
  | succ j=>rw[sQ]at e;cases e
 ·rintro x r δ ⟨k,j,e,hk,h⟩
  cases j with
  | zero=>cases e
  | succ j=>
   rw[sQ]at e;obtain⟨rfl,rfl⟩:=List.cons.inj e;have q:=hstep k δ (by walk_at"o") h
   have z:I (k+1)=fun δ=>∃ k' j':Nat,bW ((k+1:Nat):Int) j=bW (k':Int) j'/\k'+j'=m/\I k' δ:=by
    funext δ'
    refine propext ⟨fun hi=>⟨k+1,j,rfl,by walk_at"o",hi⟩,?_⟩
    rintro⟨k',j',e',hk',hi⟩;have:=congrArg List.length e';rw[gZ,gZ]at this;have:k'=k+1:=by walk_at"o"
    rw[<-this];exact hi
   show g _ δ fun δ1=>wb {nx:=fun δ=>∃ k' j':Nat,bW ((k+1:Nat):Int) j=bW (k':Int) j'/\k'+j'=m/\I k' δ,rt:=D.rt,bk:=D.nx,ct:=fun δ=>∃ k' j':Nat,bW ((k+1:Nat):Int) j=bW (k':Int) j'/\k'+j'=m/\I k' δ} δ1;rw[<-z];exact q
theorem N4 {i:Nat}{δ:a8}{N:a8->Prop}{vs:List Int}{x:Int}{j:Nat}(h:j<vs.length):Kn i δ N (vs.map .int) (.t (.int x)) (.t (.int (j:Int)))=N (δ.set i (some (.ol ((vs.set j x).map .int)))):=by
 have:uJ (vs.map T.int).length (j:Int)=some j:=by unfold uJ;rw[if_pos (by walk_at"o"),if_pos (by rw[length_map];walk_at"o")];rfl
 show(match uJ _ _ with|some j=>_|none=>False)=_
 rw[this,List.map_set]
abbrev big:Int:=1000000000000000000000000000000000000000000000000000000000007
theorem n6:(0:Int)<big:=by decide
def nB (x:Int):Prop:=-1000000000000000000<=x/\x<=1000000000000000000
theorem mG (h:nB x):Sz 60 x:=by unfold nB at h;exact Sz.of (by walk_at"o") (by walk_at"o")
def iL:aM:=fun ss R=>∃ (ns:List Int) (m:Nat),ss=[.t (.lst (ns.map .int)),.t (.int (m:Int))]/\ns.length<=63/\0<m/\m<=100/\∀ vs:List Int,vs.length=m->(∀ v∈vs,0<=v/\v<big)->R (.ol (vs.map .int))
def kU:aM:=fun ss R=>∃ n b k:Int,ss=[.t (.int n),.t (.int b),.t (.int k)]/\b=5/\0<=k/\k<1000/\∀ v:Int,R (.t (.int v))
def jv:aM:=fun ss R=>∃ (hd:List Int) (m:Int),ss=[.t (.lst (hd.map .int)),.t (.int m)]/\4+m<=hd.length/\(∀ v∈hd,0<=v/\v<big)/\1<=m/\m<=8/\∀ ps:List Pt,ps.length=m.toNat->(∀ p∈ps,nB p.1/\nB p.2)->R (.ol (ps.map aV))
def bE:aM:=fun ss R=>∃ a b:Int,ss=[.t (.int a),.t (.int b)]/\0<b/\Sz 900000 a/\Sz 9000 b/\R (.t (rW (gA a b)))
def eZ (s:aS)(ps:List Pt):List Pt:=ps.map (hW (af s))
def ng:aM:=fun ss R=>∃ (ps:List Pt) (n:Int),ss=[.t (.lst (ps.map aV)),.t (.int n)]/\ps≠[]/\ps.length<=1000/\(∀ p∈ps,SzF 100 p)/\∀ s:aS,bA s->fg 119 s->R (.t (spT s))
def gm:WS:=
 (aC (aF 2 (dQ 1 [] (fV (ac (ae 1) ap)) (aG 0) nu (wC (.int 0))))
 (b9 (k7 (fV (ac (eP wg (ac (ae 1) (ac (eP rT (ac (eP dj (ac (ae 0) ap)) (ac (wC (.int 63)) ap))) ap))) ap)) (aG 3) (aC (aF 4 (wC (.int 0)))
 (b9 (iW (wB (Ha (eP dj (ac (ae 0) ap)) (wC (.int 0)))) (aF 4 (dr (ao aJ (ae 0) (dr (ae 3) (eP rT (ac (eP dj (ac (ae 0) ap)) (ac (wC (.int 63)) ap))))) (cE (xA (wC (.int 10)) (wC (.int 60))) (wC (.int 7))))) bB)
 (aC (aF 5 (dr (ae 3) (ae 1)))
 (nt 2 (ae 5) (dr (cE (cE (aU (ao aJ (ae 2) (ae 5)) (wC (.int 48271))) (ae 4)) (aU (ae 3) (ae 3))) (cE (xA (wC (.int 10)) (wC (.int 60))) (wC (.int 7)))))))))
 (jy 2)))
def jW:WS:=
 (b9 (k7 (fV (ac (ae 2) ap)) (aG 3) (aF 0 (dR (ae 0) (ae 1))))
 (bz (dr (ae 0) (ae 1))))
def iU:WS:=
 (aC (aF 2 (jx ap))
 (aC (aF 3 (dr (ao aJ (ae 0) (wC (.int 0))) (wC (.int 8))))
 (b9 (k7 (fV (ac (ae 1) ap)) (aG 4) (aC (aF 5 (ao aJ (ae 0) (cE (wC (.int 4)) (ae 4))))
 (aC (aF 6 (cS (dr (ae 5) (wC (.int 7))) (wC (.int 3))))
 (aC (aF 7 (cS (dr (dR (ae 5) (wC (.int 7))) (wC (.int 7))) (wC (.int 3))))
 (b9 (iW (wB (tm (ae 3) (wC (.int 1)))) (aF 7 (cS (aU (wC (.int 2)) (ae 6)) (wC (.int 1)))) bB)
 (b9 (iW (wB (tm (ae 3) (wC (.int 2)))) (aF 6 (wC (.int 1))) bB)
 (b9 (iW (wB (tm (ae 3) (wC (.int 3)))) (Kz 6 7 (ac (cS (dr (ae 5) (wC (.int 3))) (wC (.int 1))) (ac (cS (dr (dR (ae 5) (wC (.int 3))) (wC (.int 3))) (wC (.int 1))) ap))) bB)
 (b9 (iW (wB (Ha (ae 3) (wC (.int 5)))) (aC (aF 6 (cS (dr (ae 5) (cE (aU (wC (.int 2)) (xA (wC (.int 10)) (wC (.int 18)))) (wC (.int 1)))) (xA (wC (.int 10)) (wC (.int 18)))))
 (aF 7 (cS (dr (aU (ae 5) (wC (.int 69621))) (cE (aU (wC (.int 2)) (xA (wC (.int 10)) (wC (.int 18)))) (wC (.int 1)))) (xA (wC (.int 10)) (wC (.int 18)))))) bB)
 (b9 (iW (Ou (kz (wB (Ha (ae 4) (wC (.int 0)))) (wB (tm (aw kU (ac (ao aJ (ae 0) (wC (.int 1))) (ac (wC (.int 5)) (ac (ae 4) ap)))) (wC (.int 1)))))) (xB (ao aJ (ae 2) (cS (ae 4) (wC (.int 1)))) (kA (bC (aG 6) (bC (aG 7) iX)))) bB)
 (fm 2 (bZ (ac (ae 6) (ac (ae 7) ap)))))))))))))
 (jy 2))))
def ft:WS:=
 (aC (aF 2 (aw iK (ac (ae 0) (ac (ae 1) ap))))
 (bz (bZ (ac (dR (ae 0) (ae 2)) (ac (dR (ae 1) (ae 2)) ap)))))
def md:WS:=
 (aC (aF 2 (dr (ae 1) (wC (.int 5))))
 (aC (aF 3 (ao aJ (ae 0) (dr (dR (ae 1) (wC (.int 5))) (eP dj (ac (ae 0) ap)))))
 (aC (aF 4 (ao aJ (ae 0) (dr (dR (ae 1) (wC (.int 60))) (eP dj (ac (ae 0) ap)))))
 (aC (aF 5 (ao aJ (ae 0) (dr (dR (ae 1) (wC (.int 720))) (eP dj (ac (ae 0) ap)))))
 (aC (iW (wB (tm (ae 2) (wC (.int 0)))) (bz (bZ (ac (bZ (ac (ao aJ (ae 3) (wC (.int 0))) (ac (wC (.int 1)) ap))) (ac (bZ (ac (ao aJ (ae 3) (wC (.int 1))) (ac (wC (.int 1)) ap))) ap)))) bB)
 (aC (iW (wB (tm (ae 2) (wC (.int 1)))) (bz (bZ (ac (aw bE (ac (cE (ao aJ (ae 3) (wC (.int 0))) (ao aJ (ae 4) (wC (.int 0)))) (ac (wC (.int 2)) ap))) (ac (aw bE (ac (cE (ao aJ (ae 3) (wC (.int 1))) (ao aJ (ae 4) (wC (.int 1)))) (ac (wC (.int 2)) ap))) ap)))) bB)
 (aC (aF 6 (jx (ac (cS (dr (dR (ae 1) (wC (.int 8640))) (wC (.int 7))) (wC (.int 1))) (ac (cS (dr (dR (ae 1) (wC (.int 60480))) (wC (.int 7))) (wC (.int 1))) (ac (cE (dr (dR (ae 1) (wC (.int 423360))) (wC (.int 7))) (wC (.int 3))) ap)))))
 (b9 (iW (wB (tm (ae 2) (wC (.int 2)))) (aC (nt 6 (wC (.int 2)) (wC (.int 0)))
 (nt 6 (wC (.int 1)) (cS (wC (.int 7)) (ao aJ (ae 6) (wC (.int 0)))))) bB)
 (aC (aF 7 (eP yg (ac (ae 6) ap)))
 (aC (aF 8 (cE (cE (aU (ao aJ (ae 6) (wC (.int 0))) (ao aJ (ae 3) (wC (.int 0)))) (aU (ao aJ (ae 6) (wC (.int 1))) (ao aJ (ae 4) (wC (.int 0))))) (aU (ao aJ (ae 6) (wC (.int 2))) (ao aJ (ae 5) (wC (.int 0))))))
 (aC (aF 9 (cE (cE (aU (ao aJ (ae 6) (wC (.int 0))) (ao aJ (ae 3) (wC (.int 1)))) (aU (ao aJ (ae 6) (wC (.int 1))) (ao aJ (ae 4) (wC (.int 1))))) (aU (ao aJ (ae 6) (wC (.int 2))) (ao aJ (ae 5) (wC (.int 1))))))
 (bz (bZ (ac (aw bE (ac (ae 8) (ac (ae 7) ap))) (ac (aw bE (ac (ae 9) (ac (ae 7) ap))) ap)))))))))))))))
theorem Km {vs:List Int}{P:Int->Prop}{j:Nat}{x:Int}(h:∀ v∈vs,P v)(hx:P x):∀ v∈vs.set j x,P v:=fun v hv=>by
 rcases List.mem_or_eq_of_mem_set hv with z|z
 ·exact h v z
 ·rw[z];exact hx
theorem Kj (m:Nat):(List.range m).map (fun _=>T.int 0)=(replicate m (0:Int)).map T.int:=by
 rw[List.map_replicate];exact List.eq_replicate_iff.mpr ⟨by simp,fun b hb=>by simp at hb;exact hb.2.symm⟩
theorem uV:Ok iL gm ["_law_script","_law_many","_law_found","_law_k","_law_cell","_law_at"]:=by
 rintro ss R ⟨ns,m,rfl,hl,m0,m1,h⟩;show gm _ [some (.t (.lst (ns.map .int))),some (.t (.int (m:Int))),none,none,none,none]
 delta gm
 walk_at"d";refine⟨lK (by walk_at"o") (by walk_at"o"),?_⟩
 rw[toNat_natCast];refine eU (f:=fun k:Nat=>.int (0+(k:Int))) (h:=fun _=>.int 0) (l:=List.range m) (fun δ=>∃ r,δ=[r]) (fun _ _=>rfl) (by rw[length_range];walk_at"o") ⟨_,rfl⟩ ?_ ?_
 ·rintro k hk δ ⟨r,rfl⟩ Y hY;walk_at"d";exact hY _ ⟨_,rfl⟩
 rw[Kj]
 let I:a8->Prop:=fun δ=>∃ (vs:List Int) (r3 r4 r5:Option S),δ=[some (.t (.lst (ns.map .int))),some (.t (.int (m:Int))),some (.ol (vs.map .int)),r3,r4,r5]/\vs.length=m/\∀ v∈vs,0<=v/\v<big
 have i0:∀ v∈replicate m (0:Int),0<=v/\v<big:=fun v hv=>by
  rw[List.eq_of_mem_replicate hv];decide
 refine⟨I,?_,?_⟩
 ·walk_at"d";simp only[length_map];refine⟨lK (by(repeat' split) <;> walk_at"o") (by(repeat' split) <;> walk_at"o"),wt rfl (fun _=>I) ⟨_,_,_,_,rfl,by simp,i0⟩ (fun _ z=>z) ?_⟩
  rintro k δ hk ⟨vs,r3,r4,r5,rfl,vl,hv⟩;have hk:k<1000:=by revert hk;(repeat' split) <;> walk_at"o"
  walk_at"d"
  try simp only[length_map]
  refine⟨fun δ=>∃ c:Int,δ=[some (.t (.lst (ns.map .int))),some (.t (.int (m:Int))),some (.ol (vs.map .int)),some (.t (.int k)),some (.t (.int c)),r5]/\0<=c/\c<big,?_,?_⟩
  ·walk_at"d"
   try simp only[length_map]
   split
   ·rename_i c;have hq:∃ q:Int,(if 63<(ns.length:Int) then (63:Int) else ns.length)=q/\0<q/\q<=ns.length:=⟨_,rfl,by split <;> walk_at"o",by split <;> walk_at"o"⟩
    obtain⟨q,eq,q0,q1⟩:=hq;rw[eq];have f1:=fmod_lo (k:Int) q0;have f2:=fmod_hi (k:Int) q0;walk_at"d";refine⟨by walk_at"o",CT f1 (by walk_at"o") fun v _=>?_⟩
    walk_at"d";refine⟨Gy (by decide) (by decide) (by decide),by decide,?_⟩
    exact⟨v.fmod big,rfl,fmod_lo v n6,fmod_hi v n6⟩
   ·exact⟨0,rfl,by decide,by decide⟩
  rintro δ ⟨c,rfl,c0,c1⟩;have ea:(k:Int).fmod (m:Int)=((k % m:Nat):Int):=pJ k m;have hj:k % m<vs.length:=by rw[vl];exact mod_lt _ m0
  have ev:vs[k % m]?=some (vs[k % m]'hj):=getElem?_eq_getElem _;generalize vs[k % m]'hj=v at ev;walk_at"d";refine⟨by walk_at"o",?_⟩
  rw[ea];rw[ic (dy (show(vs.map T.int)[k % m]?=some (.int v) by rw[getElem?_map,ev];rfl))]
  walk_at"d";refine⟨Qb (by decide) (by decide),Jk (by walk_at"o") (by walk_at"o"),Gy (by decide) (by decide) (by decide),by decide,?_⟩
  rw[N4 hj];exact⟨_,_,_,_,rfl,by rw[length_set];exact vl,Km hv ⟨fmod_lo (n:=big) _ n6,fmod_hi (n:=big) _ n6⟩⟩
 ·rintro δ ⟨vs,r3,r4,r5,rfl,vl,hv⟩;walk_at"d";exact h vs vl hv
theorem yL:Ok kU jW ["_law_number","_law_base","_law_place","_law_k"]:=by
 rintro ss R ⟨n,b,k,rfl,rfl,k0,k1,h⟩;show jW _ [some (.t (.int n)),some (.t (.int 5)),some (.t (.int k)),none]
 delta jW
 walk_at"d";refine⟨fun δ=>∃ (v:Int) (r:Option S),δ=[some (.t (.int v)),some (.t (.int 5)),some (.t (.int k)),r],?_,?_⟩
 ·walk_at"d";refine⟨lK (by walk_at"o") (by walk_at"o"),fun ts δ=>∃ (v:Int) (r:Option S),δ=[some (.t (.int v)),some (.t (.int 5)),some (.t (.int k)),r],⟨_,_,rfl⟩,fun _ q=>q,?_⟩
  rintro t ts δ ⟨v,r,rfl⟩;walk_at"d";exact⟨Dk (by decide) (by decide +kernel),_,_,rfl⟩
 rintro δ ⟨v,r,rfl⟩;walk_at"d";exact⟨by decide,h _⟩
theorem je {hd:List Int}{i:Nat}{R:S->Prop}(hi:i<hd.length)(hb:∀ v∈hd,0<=v/\v<big)(h:∀ v,0<=v->v<big->R (.t (.int v))):atT (hd.map T.int) (i:Int) R:=by
 have e:hd[i]?=some (hd[i]'(by walk_at"o")):=getElem?_eq_getElem _
 rw[LZ e];have:=hb _ (mem_of_getElem? e);exact h _ this.1 this.2
theorem yk {hd:List Int}{i:Nat}{R:S->Prop}(hi:i<hd.length)(hb:∀ v∈hd,0<=v/\v<big)(h:∀ v,0<=v->v<big->R (.t (.int v))):xE (hd.map T.int) (i:Int) R:=by
 have e:hd[i]?=some (hd[i]'(by walk_at"o")):=getElem?_eq_getElem _
 rw[ic (dy (show(hd.map T.int)[i]?=some (.int _) by rw[getElem?_map,e];rfl))]
 have:=hb _ (mem_of_getElem? e);exact h _ this.1 this.2
theorem L1 {l:List Pt}{k:Nat}{x:Pt}{R:S->Prop}(e:l[k]?=some x):xE (l.map aV) (k:Int) R=R (.t (aV x)):=by
 rw[ic (dy (x:=aV x) (by rw[getElem?_map,e];rfl))];rfl
theorem wZ:Ok jv iU ["_law_head","_law_many","_law_found","_law_way","_law_k","_law_number","_law_x","_law_y"]:=by
 rintro ss R ⟨hd,m,rfl,hl,hb,m0,m1,h⟩;have dummy:Sz 1 0:=⟨by decide⟩
 show iU _ [some (.t (.lst (hd.map .int))),some (.t (.int m)),none,none,none,none,none,none]
 delta iU
 walk_at"d";refine je (i:=0) (by walk_at"o") hb fun v0 _ _=>?_
 walk_at"go";generalize v0.fmod 8=way
 let M (n:Nat):a8->Prop:=fun δ=>∃ (ps:List Pt) (r4 r5 r6 r7:Option S),δ=[some (.t (.lst (hd.map .int))),some (.t (.int m)),some (.ol (ps.map aV)),some (.t (.int way)),r4,r5,r6,r7]/\ps.length=n/\∀ p∈ps,nB p.1/\nB p.2
 refine⟨M m.toNat,?_,?_⟩
 ·walk_at"d";refine⟨lK (by walk_at"o") (by walk_at"o"),wt rfl M ⟨[],_,_,_,_,rfl,rfl,fun p hp=>by cases hp⟩ (fun _ z=>z) ?_⟩
  rintro k δ hk ⟨ps,r4,r5,r6,r7,rfl,pl,hs⟩;have hk8:k<8:=by walk_at"o"
  walk_at"d";rw[show(4+(k:Int))=((4+k:Nat):Int) by walk_at"o"]
  refine je (i:=4+k) (by walk_at"o") hb fun v v0 v1=>?_
  have a1:=fmod_lo v (n:=7) (by decide)
  have a2:=fmod_hi v (n:=7) (by decide)
  have a3:=fmod_lo (v.fdiv 7) (n:=7) (by decide)
  have a4:=fmod_hi (v.fdiv 7) (n:=7) (by decide)
  have b1:=fmod_lo v (n:=3) (by decide)
  have b2:=fmod_hi v (n:=3) (by decide)
  have b3:=fmod_lo (v.fdiv 3) (n:=3) (by decide)
  have b4:=fmod_hi (v.fdiv 3) (n:=3) (by decide)
  have c1:=fmod_lo v (n:=2000000000000000001) (by decide)
  have c2:=fmod_hi v (n:=2000000000000000001) (by decide)
  have c3:=fmod_lo (v*69621) (n:=2000000000000000001) (by decide)
  have c4:=fmod_hi (v*69621) (n:=2000000000000000001) (by decide)
  let N:a8->Prop:=fun δ=>∃ x y:Int,δ=[some (.t (.lst (hd.map .int))),some (.t (.int m)),some (.ol (ps.map aV)),some (.t (.int way)),some (.t (.int k)),some (.t (.int v)),some (.t (.int x)),some (.t (.int y))]/\nB x/\nB y
  walk_at"go";refine⟨N,?_,?_⟩
  ·walk_at"go"
   split
   ·walk_at"go";exact⟨_,_,rfl,(by unfold nB;walk_at"o"),(by unfold nB;walk_at"o")⟩
   ·exact⟨_,_,rfl,(by unfold nB;walk_at"o"),(by unfold nB;walk_at"o")⟩
  rintro δ ⟨x,y,rfl,sx,sy⟩;walk_at"d";refine⟨N,?_,?_⟩
  ·walk_at"go"
   split
   ·exact⟨_,_,rfl,(by unfold nB;walk_at"o"),sy⟩
   ·exact⟨_,_,rfl,sx,sy⟩
  clear sx sy x y;rintro δ ⟨x,y,rfl,sx,sy⟩;walk_at"d";refine⟨N,?_,?_⟩
  ·walk_at"go"
   split
   ·walk_at"go";exact⟨_,_,rfl,(by unfold nB;walk_at"o"),(by unfold nB;walk_at"o")⟩
   ·exact⟨_,_,rfl,sx,sy⟩
  clear sx sy x y;rintro δ ⟨x,y,rfl,sx,sy⟩;walk_at"d";refine⟨N,?_,?_⟩
  ·walk_at"go"
   split
   ·walk_at"go";exact⟨_,_,rfl,(by unfold nB;walk_at"o"),(by unfold nB;walk_at"o")⟩
   ·exact⟨_,_,rfl,sx,sy⟩
  clear sx sy x y;rintro δ ⟨x,y,rfl,sx,sy⟩;walk_at"d";refine⟨N,?_,?_⟩
  ·walk_at"d";refine⟨fun b=>b=true->0<k,?_,?_⟩
   ·walk_at"d"
    split
    ·refine je (i:=1) (by walk_at"o") hb fun d0 _ _=>?_
     walk_at"d";refine⟨_,5,k,rfl,rfl,by walk_at"o",by walk_at"o",fun d=>?_⟩
     walk_at"d";intro _;walk_at"o"
    ·exact fun z=>z.elim
   ·rintro b hb1;walk_at"d"
    split
    ·rename_i hb2;have k0:=hb1 hb2;have e:ps[k-1]?=some (ps[k-1]'(by walk_at"o")):=getElem?_eq_getElem _
     have hm:=hs _ (mem_of_getElem? e);generalize ps[k-1]'(by walk_at"o")=q at e hm
     rw[show((k:Int)-1)=((k-1:Nat):Int) by walk_at"o",L1 e]
     walk_at"d";exact⟨_,_,rfl,hm.1,hm.2⟩
    ·exact⟨_,_,rfl,sx,sy⟩
  clear sx sy x y;rintro δ ⟨x,y,rfl,sx,sy⟩;walk_at"d";refine⟨by rw[length_map,pl];walk_at"o",ps++[(x,y)],_,_,_,_,by rw[map_append];rfl,by simp[pl],fun q hq=>?_⟩
  rcases mem_append.mp hq with z|z
  ·exact hs q z
  ·have z:=mem_singleton.mp z;subst z;exact⟨sx,sy⟩
 rintro δ ⟨ps,r4,r5,r6,r7,rfl,pl,hs⟩;walk_at"d";exact h ps pl hs
theorem yj (hb:0<b):gA a b=(a.fdiv (Int.gcd a b),b.fdiv (Int.gcd a b)):=by
 unfold gA lj;rw[if_neg (by walk_at"o")]
theorem rA:Ok bE ft ["_law_top","_law_bottom","_law_most"]:=by
 rintro ss R ⟨a,b,rfl,hb,sa,sb,h⟩;show ft _ [some (.t (.int a)),some (.t (.int b)),none]
 delta ft
 rw[yj hb]at h;walk_at"d";refine⟨a,b,rfl,?_⟩;walk_at"d";have hg:(Int.gcd a b:Int)≠0:=gB (.inr (by walk_at"o"))
 have sg:Sz 9000 (Int.gcd a b:Int):=by
  have:=Sz.gcdL (b:=a) sb (by walk_at"o")
  rwa [Int.gcd_comm]at this
 exact⟨zT hg sg (by decide),zT hg sg (by decide),h⟩
theorem uc (hb:0<b):qM (gA a b)/\(gA a b).1*b=a*(gA a b).2:=by
 refine⟨ww (by walk_at"o"),?_⟩
 rw[yj hb];have e1:=cf (gcd_dvd_left a b);have e2:=cf (gcd_dvd_right a b);show a.fdiv (Int.gcd a b)*b=a*b.fdiv (Int.gcd a b);generalize (Int.gcd a b:Int)=g at *;generalize hx:a.fdiv g=x at *;generalize hy:b.fdiv g=y at *;rw[<-e1,<-e2];grind
theorem ub (hb:0<b)(sa:Sz n a)(sb:Sz n b):SzF n (gA a b):=by
 rw[yj hb];exact⟨sa.fdiv _,sb.fdiv _⟩
theorem RS (i:Nat)(δ:a8)(N:a8->Prop)(a b c x:T):Kn i δ N [a,b,c] (.t x) (.t (.int 1))=N (δ.set i (some (.ol [a,x,c]))):=rfl
theorem RT (i:Nat)(δ:a8)(N:a8->Prop)(a b c x:T):Kn i δ N [a,b,c] (.t x) (.t (.int 2))=N (δ.set i (some (.ol [a,b,x]))):=rfl
theorem vj {ps:List Pt}{i:Int}{R:S->Prop}(h0:0<=i)(h1:i<ps.length)(h:∀ p∈ps,R (.t (aV p))):atT (ps.map aV) i R:=zG h0 (by rw[length_map];exact h1) fun x hx=>by
 obtain⟨p,hp,rfl⟩:=mem_map.mp hx;exact h p hp
theorem BX:Ok ng md ["_law_points_here","_law_number","_law_way","_law_one","_law_other","_law_third","_law_by","_law_total","_law_x","_law_y"]:=by
 rintro ss R ⟨ps,n,rfl,hne,hl,hp,h⟩;have dummy:Sz 1 0:=⟨by decide⟩
 have hlen:0<ps.length:=length_pos_iff.mpr hne;show md _ [some (.t (.lst (ps.map aV))),some (.t (.int n)),none,none,none,none,none,none,none,none]
 delta md
 have hq:0<(ps.length:Int):=by walk_at"o"
 have f1:=fmod_lo (n.fdiv 5) hq;have f2:=fmod_hi (n.fdiv 5) hq;have f3:=fmod_lo (n.fdiv 60) hq;have f4:=fmod_hi (n.fdiv 60) hq;have f5:=fmod_lo (n.fdiv 720) hq;have f6:=fmod_hi (n.fdiv 720) hq;have g1:=fmod_lo (n.fdiv 8640) (n:=7) (by decide)
 have g2:=fmod_hi (n.fdiv 8640) (n:=7) (by decide)
 have g3:=fmod_lo (n.fdiv 60480) (n:=7) (by decide)
 have g4:=fmod_hi (n.fdiv 60480) (n:=7) (by decide)
 have g5:=fmod_lo (n.fdiv 423360) (n:=7) (by decide)
 have g6:=fmod_hi (n.fdiv 423360) (n:=7) (by decide)
 have el:((ps.map aV).length:Int)=(ps.length:Int):=by rw[length_map]
 walk_at"go";rw[el];refine vj f1 f2 fun p1 h1=>?_;obtain⟨x1,y1⟩:=p1;obtain⟨u1,v1⟩:=hp _ h1;dsimp only at u1 v1;walk_at"go";rw[el];refine vj f3 f4 fun p2 h2=>?_;obtain⟨x2,y2⟩:=p2;obtain⟨u2,v2⟩:=hp _ h2;dsimp only at u2 v2;walk_at"go";rw[el];refine vj f5 f6 fun p3 h3=>?_;obtain⟨x3,y3⟩:=p3;obtain⟨u3,v3⟩:=hp _ h3;dsimp only at u3 v3;have one:Sz 119 (1:Int):=⟨by decide⟩
 have two:Sz 119 (2:Int):=⟨by decide⟩
 walk_at"go"
 split
 ·exact h ((x1,1),(y1,1)) (GY (x1,y1)) ⟨⟨u1.mono (by decide),one⟩,v1.mono (by decide),one⟩
 split
 ·have sx:=ub (a:=x1+x2) (b:=2) (n:=119) (by decide) ((Sz.add u1 u2).mono (by decide)) two
  have sy:=ub (a:=y1+y2) (b:=2) (n:=119) (by decide) ((Sz.add v1 v2).mono (by decide)) two
  refine⟨x1+x2,2,rfl,by decide,(Sz.add u1 u2).mono (by decide),two.mono (by decide),?_⟩
  walk_at"d";refine⟨y1+y2,2,rfl,by decide,(Sz.add v1 v2).mono (by decide),two.mono (by decide),?_⟩
  walk_at"d";exact h (gA (x1+x2) 2,gA (y1+y2) 2) ⟨(uc (by decide)).1,(uc (by decide)).1⟩ ⟨sx,sy⟩
 generalize (n.fdiv 8640).fmod 7=c0 at *;generalize (n.fdiv 60480).fmod 7=c1 at *;generalize (n.fdiv 423360).fmod 7=c2 at *;walk_at"go";refine⟨fun δ=>∃ b0 b1 b2:Int,δ=[some (.t (.lst (ps.map aV))),some (.t (.int n)),some (.t (.int (n.fmod 5))),some (.t (.tup [.int x1,.int y1])),some (.t (.tup [.int x2,.int y2])),some (.t (.tup [.int x3,.int y3])),some (.ol [.int b0,.int b1,.int b2]),none,none,none]/\0<b0+b1+b2/\-20<b0/\b0<20/\-20<b1/\b1<20/\-20<b2/\b2<20,?_,?_⟩
 ·walk_at"d"
  split
  ·rw[RT];walk_at"d";rw[RS];exact⟨_,_,_,rfl,by walk_at"o",by walk_at"o",by walk_at"o",by walk_at"o",by walk_at"o",by walk_at"o",by walk_at"o"⟩
  ·exact⟨_,_,_,rfl,by walk_at"o",by walk_at"o",by walk_at"o",by walk_at"o",by walk_at"o",by walk_at"o",by walk_at"o"⟩
 rintro δ ⟨b0,b1,b2,rfl,hb,l0,h0,l1,h1',l2,h2'⟩;walk_at"db";show sumK _ ([b0,b1,b2].map T.int);rw[G1];have es:[b0,b1,b2].sum=b0+b1+b2:=by simp[List.sum];walk_at"o"
 rw[es];have sb0:Sz 5 b0:=Sz.of (by walk_at"o") (by walk_at"o")
 have sb1:Sz 5 b1:=Sz.of (by walk_at"o") (by walk_at"o")
 have sb2:Sz 5 b2:=Sz.of (by walk_at"o") (by walk_at"o")
 have st:Sz 119 (b0+b1+b2):=Sz.of (by walk_at"o") (by walk_at"o")
 generalize ht:b0+b1+b2=t at *;walk_at"go";have tx:Sz 119 (b0*x1+b1*x2+b2*x3):=(Sz.add (Sz.add (Sz.mul sb0 u1) (Sz.mul sb1 u2)) (Sz.mul sb2 u3)).mono (by decide)
 have ty:Sz 119 (b0*y1+b1*y2+b2*y3):=(Sz.add (Sz.add (Sz.mul sb0 v1) (Sz.mul sb1 v2)) (Sz.mul sb2 v3)).mono (by decide)
 refine⟨_,t,rfl,by walk_at"o",tx.mono (by decide),st.mono (by decide),?_⟩
 walk_at"d";refine⟨_,t,rfl,by walk_at"o",ty.mono (by decide),st.mono (by decide),?_⟩
 walk_at"d";exact h (gA (b0*x1+b1*x2+b2*x3) t,gA (b0*y1+b1*y2+b2*y3) t) ⟨(uc hb).1,(uc hb).1⟩ ⟨ub hb tx st,ub hb ty st⟩
end Law
namespace Law
open L2 DL
def ib (p q:Hf):Int:=p.1*q.1+p.2.1*q.2.1
def bJ (p q:Hf):Int:=p.1*q.2.1-p.2.1*q.1
def lb (b o:Hf):Int:=o.2.2*ib b b-ib b o*b.2.2
def jF (b o:Hf):Fr:=if bJ b o<0 then (-lb b o,-bJ b o) else (lb b o,bJ b o)
def Nz (h:Hf):Prop:=h.1≠0\/h.2.1≠0
def OL (b:Hf)(s:Fr):Int:=b.1*b.2.2*s.2-b.2.1*s.1
def OM (b:Hf)(s:Fr):Int:=b.2.1*b.2.2*s.2+b.1*s.1
def AL (b:Hf)(s:Fr):Int:=ib b b*s.2
def Kk (b:Hf)(s:Fr):aS:=(gA (OL b s) (AL b s),gA (OM b s) (AL b s))
def Lj (s:Fr):Prop:=0<s.2/\Int.gcd s.1 s.2=1
def OB (s:aS):Prop:=Lj s.1/\Lj s.2
theorem vp {a:Int}(h:a≠0):0<a*a:=by
 rcases Int.lt_or_gt_of_ne h with z|z
 ·exact Int.mul_pos_of_neg_of_neg z z
 ·exact mul_pos z z
theorem GZ (a:Int):0<=a*a:=by
 by_cases h:a=0
 ·subst h;decide
 ·exact le_of_lt (vp h)
theorem o5 {b:Hf}(h:Nz b):0<ib b b:=by
 unfold ib
 rcases h with z|z
 ·have:=vp z;have:=GZ b.2.1;omega
 ·have:=vp z;have:=GZ b.1;omega
theorem FU {c t:Int}(hc:0<c)(h:0<=c*t):0<=t:=by
 rcases lt_or_le t 0 with z|z
 ·have:=mul_neg_of_pos_of_neg hc z;omega
 ·exact z
theorem bO {c t:Int}(hc:0<c)(h:0<c*t):0<t:=by
 rcases lt_or_le 0 t with z|z
 ·exact z
 ·have:=mul_nonpos_of_nonneg_of_nonpos (le_of_lt hc) z;omega
theorem t8 {a b:Int}(hb:0<b):Lj (gA a b)/\(gA a b).1*b=a*(gA a b).2:=by
 have hg:(Int.gcd a b:Int)≠0:=gB (.inr (by omega))
 have hp:0<(Int.gcd a b:Int):=by omega
 have ec:lj a b=(Int.gcd a b:Int):=by unfold lj;rw[if_neg (by omega)]
 unfold gA;rw[ec];have e1:=cf (gcd_dvd_left a b);have e2:=cf (gcd_dvd_right a b);have d1:a.fdiv (Int.gcd a b:Int)=a / (Int.gcd a b:Int):=Int.fdiv_eq_ediv_of_nonneg _ (by omega)
 have d2:b.fdiv (Int.gcd a b:Int)=b / (Int.gcd a b:Int):=Int.fdiv_eq_ediv_of_nonneg _ (by omega)
 refine⟨⟨?_,?_⟩,?_⟩
 ·refine bO hp ?_;rw[mul_comm,e2];exact hb
 ·dsimp only;rw[d1,d2,Int.gcd_ediv_gcd_ediv_gcd (by omega)]
 ·dsimp only;have f1:a.fdiv (Int.gcd a b:Int)*b=a.fdiv (Int.gcd a b:Int)*(b.fdiv (Int.gcd a b:Int)*(Int.gcd a b:Int)):=by rw[e2]
  have f2:a*b.fdiv (Int.gcd a b:Int)=a.fdiv (Int.gcd a b:Int)*(Int.gcd a b:Int)*b.fdiv (Int.gcd a b:Int):=by rw[e1]
  rw[f1,f2,mul_comm (b.fdiv _),<-Int.mul_assoc]
theorem N2 (hb:Nz b)(hs:0<s.2):OB (Kk b s):=by
 have:0<AL b s:=mul_pos (o5 hb) hs;exact⟨(t8 this).1,(t8 this).1⟩
theorem KO {b:Hf}{s:Fr}(o:Hf)(hb:Nz b)(hs:0<s.2)(h:lb b o*s.2<=bJ b o*s.1):0<=a5 o (Kk b s):=by
 have hD:0<AL b s:=mul_pos (o5 hb) hs;obtain⟨⟨a1,_⟩,a2⟩:=t8 (a:=OL b s) hD;obtain⟨⟨b1,_⟩,b2⟩:=t8 (a:=OM b s) hD;unfold a5 Kk;generalize gA (OL b s) (AL b s)=X at *;generalize gA (OM b s) (AL b s)=Y at *;dsimp only;refine FU hD ?_;have e:AL b s*(o.1*X.1*Y.2+o.2.1*Y.1*X.2-o.2.2*(X.2*Y.2))=(X.2*Y.2)*(bJ b o*s.1-lb b o*s.2):=by
  have e1:bJ b o*s.1-lb b o*s.2=o.1*OL b s+o.2.1*OM b s-o.2.2*AL b s:=by
   unfold bJ lb OL OM AL ib;grind
  rw[e1];grind
 rw[e];exact mul_nonneg (le_of_lt (mul_pos a1 b1)) (by omega)
theorem mI (h:Hf)(p:aS):a5 h p=h.1*(p.1.1*p.2.2)+h.2.1*(p.2.1*p.1.2)-h.2.2*(p.1.2*p.2.2):=by unfold a5;grind
theorem Me {b f l:Hf}{p:aS}(hb:Nz b)(hp1:0<p.1.2)(hp2:0<p.2.2)(e1:0<=a5 f p)(e2:0<=a5 l p)(e3:a5 b p<0)(c1:0<bJ b f)(c2:bJ b l<0)
  (hm:(jF b l).1*(jF b f).2<(jF b f).1*(jF b l).2) :
  0<bJ f l/\0<bJ l b/\0<f.2.2*bJ l b+l.2.2*bJ b f+b.2.2*bJ f l:=by
 have hn:=o5 hb;unfold jF at hm;rw[if_pos c2,if_neg (by omega)]at hm
 dsimp only at hm;have k1:bJ l b=-bJ b l:=by unfold bJ;grind
 have k2:ib b b*(f.2.2*bJ l b+l.2.2*bJ b f+b.2.2*bJ f l)=lb b f*-bJ b l+lb b l*bJ b f:=by unfold lb bJ ib;grind
 have k3:0<f.2.2*bJ l b+l.2.2*bJ b f+b.2.2*bJ f l:=by
  refine bO hn ?_;rw[k2];have:-lb b l*bJ b f=-(lb b l*bJ b f):=by grind
  omega
 refine⟨?_,by omega,k3⟩
 rcases lt_or_le 0 (bJ f l) with z|z
 ·exact z
 exfalso;have hz:0<p.1.2*p.2.2:=mul_pos hp1 hp2;have k4:bJ l b*a5 f p+bJ b f*a5 l p+bJ f l*a5 b p=-((f.2.2*bJ l b+l.2.2*bJ b f+b.2.2*bJ f l)*(p.1.2*p.2.2)):=by
  rw[mI,mI,mI];unfold bJ;grind
 have q1:0<=bJ l b*a5 f p:=mul_nonneg (by omega) e1
 have q2:0<=bJ b f*a5 l p:=mul_nonneg (by omega) e2
 have q3:0<=bJ f l*a5 b p:=mul_nonneg_of_nonpos_of_nonpos z (le_of_lt e3);have q4:0<(f.2.2*bJ l b+l.2.2*bJ b f+b.2.2*bJ f l)*(p.1.2*p.2.2):=mul_pos k3 hz;omega
def ji (h:Hf):Int:=(h.1.natAbs:Int)+(h.2.1.natAbs:Int)
theorem pP (hn:Nz h):0<ji h:=by
 unfold ji
 rcases hn with z|z <;> omega
theorem rG {n a x y:Int}(hn:0<n)(ha:a<0)(h:n*x=a*y):n*(x.natAbs:Int)=-a*(y.natAbs:Int):=by
 rcases lt_or_le y 0 with z|z
 ·have:0<n*x:=by rw[h];exact Int.mul_pos_of_neg_of_neg ha z
  have:=bO hn this;rw[show(x.natAbs:Int)=x by omega,show(y.natAbs:Int)=-y by omega,h];grind
 ·have:0<=n*-x:=by
   have:n*-x=-a*y:=by rw[mul_neg,h];grind
   rw[this];exact mul_nonneg (by omega) z
  have:=FU hn this;rw[show(x.natAbs:Int)=-x by omega,show(y.natAbs:Int)=y by omega,mul_neg,h];grind
theorem Md {b o:Hf}{p:aS}(hb:Nz b)(ho:Nz o)(hp1:0<p.1.2)(hp2:0<p.2.2)(e2:0<=a5 o p)(e3:a5 b p<0)(c:bJ b o=0)(hk:0<lb b o) :
  ji b*o.1+ji o*b.1=0/\ji b*o.2.1+ji o*b.2.1=0/\0<ji b*o.2.2+ji o*b.2.2:=by
 have hn:=o5 hb;have hz:0<p.1.2*p.2.2:=mul_pos hp1 hp2;have i1:ib b b*o.1=ib b o*b.1:=by unfold ib;unfold bJ at c;grind
 have i2:ib b b*o.2.1=ib b o*b.2.1:=by unfold ib;unfold bJ at c;grind
 have neg:ib b o<0:=by
  rcases lt_or_le (ib b o) 0 with z|z
  ·exact z
  exfalso;have k:ib b b*a5 o p=ib b o*a5 b p-(p.1.2*p.2.2)*lb b o:=by
   rw[mI,mI];have:ib b b*(o.1*(p.1.1*p.2.2)+o.2.1*(p.2.1*p.1.2)-o.2.2*(p.1.2*p.2.2))=(ib b b*o.1)*(p.1.1*p.2.2)+(ib b b*o.2.1)*(p.2.1*p.1.2)-ib b b*o.2.2*(p.1.2*p.2.2):=by grind
   rw[this,i1,i2];unfold lb;grind
  have q1:0<=ib b b*a5 o p:=mul_nonneg (by omega) e2
  have q2:ib b o*a5 b p<=0:=mul_nonpos_of_nonneg_of_nonpos z (le_of_lt e3);have q3:0<(p.1.2*p.2.2)*lb b o:=mul_pos hz hk;omega
 have j1:=rG hn neg i1;have j2:=rG hn neg i2;have jl:ib b b*ji o=-ib b o*ji b:=by unfold ji;rw[Int.mul_add,j1,j2,Int.mul_add]
 have z0:∀ {t:Int},ib b b*t=0->t=0:=fun {t} h=>by
  rcases mul_eq_zero.mp h with z|z
  ·omega
  ·exact z
 refine⟨z0 ?_,z0 ?_,bO hn ?_⟩
 ·have:ib b b*(ji b*o.1+ji o*b.1)=ji b*(ib b b*o.1)+(ib b b*ji o)*b.1:=by grind
  rw[this,i1,jl];grind
 ·have:ib b b*(ji b*o.2.1+ji o*b.2.1)=ji b*(ib b b*o.2.1)+(ib b b*ji o)*b.2.1:=by grind
  rw[this,i2,jl];grind
 ·have:ib b b*(ji b*o.2.2+ji o*b.2.2)=ji b*(ib b b*o.2.2)+(ib b b*ji o)*b.2.2:=by grind
  rw[this,jl];have:ji b*(ib b b*o.2.2) + -ib b o*ji b*b.2.2=ji b*lb b o:=by unfold lb;grind
  rw[this];exact mul_pos (pP hb) hk
def jm (s t:Fr):Prop:=s.1*t.2<=t.1*s.2
theorem mK (ht:0<t.2)(hs:0<s.2)(hu:0<u.2)(h1:jm s t)(h2:jm t u):jm s u:=by
 unfold jm at *;have q1:=mul_le_mul_of_nonneg_right h1 (le_of_lt hu);have q2:=mul_le_mul_of_nonneg_right h2 (le_of_lt hs);have:t.2*(s.1*u.2)<=t.2*(u.1*s.2):=by
  have z1:t.2*(s.1*u.2)=s.1*t.2*u.2:=by grind
  have z2:t.2*(u.1*s.2)=u.1*t.2*s.2:=by grind
  have z3:t.1*s.2*u.2=t.1*u.2*s.2:=by grind
  omega
 exact Int.le_of_mul_le_mul_left this ht
theorem gC (c:bJ b h≠0):0<(jF b h).2:=by
 unfold jF;split <;> dsimp only <;> omega
abbrev En:=Option (Fr × Nat)
def iZ:En->T
 | none=>.non
 | some (s,p)=>.tup [rW s,.int (p:Int)]
structure nW (b:Hf) (hs:List Hf) (f:En):Prop where
 non:f=none->∀ h∈hs,¬ 0<bJ b h
 som:∀ s p,f=some (s,p)->(∃ h,hs[p]?=some h/\0<bJ b h/\s=jF b h)/\∀ h∈hs,0<bJ b h->jm (jF b h) s
structure oX (b:Hf) (hs:List Hf) (f:En):Prop where
 non:f=none->∀ h∈hs,¬ bJ b h<0
 som:∀ s p,f=some (s,p)->(∃ h,hs[p]?=some h/\bJ b h<0/\s=jF b h)/\∀ h∈hs,bJ b h<0->jm s (jF b h)
def fT (f l:En):Fr:=match f,l with
 | some (s,_),_=>s
 | none,some (s,_)=>s
 | none,none=>(0,1)
theorem xq (F:nW b hs f)(L:oX b hs l):0<(fT f l).2:=by
 unfold fT
 split
 ·obtain⟨⟨h,_,c,rfl⟩,_⟩:=F.som _ _ rfl;exact gC (by omega)
 ·obtain⟨⟨h,_,c,rfl⟩,_⟩:=L.som _ _ rfl;exact gC (by omega)
 ·decide
theorem xV (hb:Nz b)(F:nW b hs f)(L:oX b hs l)(hm:∀ s p t q,f=some (s,p)->l=some (t,q)->jm s t)(hz:∀ h∈hs,bJ b h=0->lb b h<=0) :
  ∀ h∈hs,0<=a5 h (Kk b (fT f l)):=by
 intro h hh;have sp:=xq F L;refine KO h hb sp ?_
 rcases Int.lt_trichotomy (bJ b h) 0 with c|c|c
 ·
  have key:jm (fT f l) (jF b h):=by
   cases l with
   | none=>exact absurd c (L.non rfl h hh)
   | some tq=>
    obtain⟨t,q⟩:=tq;obtain⟨⟨h',_,c',rfl⟩,g⟩:=L.som _ _ rfl;have g':=g h hh c
    cases f with
    | none=>exact g'
    | some u=>
     obtain⟨s,p⟩:=u;have g2:=hm s p _ q rfl rfl;exact mK (gC (by omega)) sp (gC (by omega)) g2 g'
  unfold jm jF at key;rw[if_pos c]at key;dsimp only at key;grind
 ·rw[c];have:=mul_nonpos_of_nonpos_of_nonneg (hz h hh c) (le_of_lt sp);omega
 ·have key:jm (jF b h) (fT f l):=by
   cases f with
   | none=>exact absurd c (F.non rfl h hh)
   | some u=>
    obtain⟨s,p⟩:=u;exact(F.som _ _ rfl).2 h hh c
  unfold jm jF at key;rw[if_neg (by omega)]at key
  dsimp only at key;grind
theorem B8 (hb:Nz b)(hs:0<s.2):0<=a5 b (Kk b s):=by
 refine KO b hb hs ?_;have:bJ b b=0:=by unfold bJ;grind
 have e:lb b b=0:=by unfold lb;grind
 rw[this,e];omega
end Law
namespace Law
open L2 DL
theorem cu {α:Type}{f:α->T}{l:List α}{k:Nat}{x:α}{R:S->Prop}(e:l[k]?=some x):atT (l.map f) (k:Int) R=R (.t (f x)):=
 fE (dy (by rw[getElem?_map,e];rfl))
theorem qi (k n:Nat):bW (k:Int) (n+1)=.int k::bW ((k+1:Nat):Int) n:=by
 unfold bW;rw[range_succ_eq_map,map_cons,map_map]
 congr 1
 ·simp;intro a _;omega
theorem wq (e:m=n)(I:Nat->a8->Prop)(h0:I 0 δ)(hend:∀ δ,I n δ->D.nx δ)
  (hstep:∀ k δ,k<n->I k δ->g (.int (k:Int)) δ fun δ1=>wb {nx:=I (k+1),rt:=D.rt,bk:=D.nx,ct:=I (k+1)} δ1):Bz g wb (bW 0 m) D δ:=by
 subst e;refine⟨fun ts δ=>∃ k j:Nat,ts=bW (k:Int) j/\k+j=m/\I k δ,⟨0,m,rfl,by omega,h0⟩,?_,?_⟩
 ·rintro δ ⟨k,j,e,hk,h⟩
  cases j with
  | zero=>exact hend δ (by rw[Nat.add_zero]at hk;rw[<-hk];exact h)
  | succ j=>rw[qi]at e;cases e
 ·rintro x r δ ⟨k,j,e,hk,h⟩
  cases j with
  | zero=>cases e
  | succ j=>
   rw[qi]at e;obtain⟨rfl,rfl⟩:=List.cons.inj e;have q:=hstep k δ (by omega) h
   have z:I (k+1)=fun δ=>∃ k' j':Nat,bW ((k+1:Nat):Int) j=bW (k':Int) j'/\k'+j'=m/\I k' δ:=by
    funext δ'
    refine propext ⟨fun hi=>⟨k+1,j,rfl,by omega,hi⟩,?_⟩
    rintro⟨k',j',e',hk',hi⟩;have:=congrArg List.length e';rw[gZ,gZ]at this;have:k'=k+1:=by omega
    rw[<-this];exact hi
   show g _ δ fun δ1=>wb {nx:=fun δ=>∃ k' j':Nat,bW ((k+1:Nat):Int) j=bW (k':Int) j'/\k'+j'=m/\I k' δ,rt:=D.rt,bk:=D.nx,ct:=fun δ=>∃ k' j':Nat,bW ((k+1:Nat):Int) j=bW (k':Int) j'/\k'+j'=m/\I k' δ} δ1;rw[<-z];exact q
structure OG (A B:Prop) (x:Bool):Prop where
 yes:x=true->A
 no:x=false->B
theorem Lc (h:A):OG A B true:=⟨fun _=>h,fun z=>(by cases z)⟩
theorem AQ (h:B):OG A B false:=⟨fun z=>(by cases z),fun _=>h⟩
theorem G7 [Decidable p](h:p->A)(g:¬p->B):OG A B (decide p):=⟨fun z=>h (of_decide_eq_true z),fun z=>g (of_decide_eq_false z)⟩
def cG:aM:=fun ss R=>∃ (a b c d:Int) (r1 r2:List T),ss=[.t (.tup (.int a::.int b::r1)),.t (.tup (.int c::.int d::r2))]/\Sz 60000 a/\Sz 60000 b/\Sz 60000 c/\Sz 60000 d/\R (.t (.int (a*c+b*d)))
def ck:aM:=fun ss R=>∃ p q:Hf,ss=[.t (bc p),.t (bc q)]/\du 60000 p/\du 60000 q/\R (.t (.int (bJ p q)))
def js:aM:=fun ss R=>∃ b o:Hf,ss=[.t (bc b),.t (bc o)]/\du 20000 b/\du 20000 o/\R (.t (.int (lb b o)))
def kY:aM:=fun ss R=>∃ b o:Hf,ss=[.t (bc b),.t (bc o)]/\du 20000 b/\du 20000 o/\R (.t (rW (jF b o)))
def iO:aM:=fun ss R=>∃ (b:Hf) (s:Fr),ss=[.t (bc b),.t (rW s)]/\Nz b/\0<s.2/\du 400 b/\SzF 1500 s/\R (.t (spT (Kk b s)))
def nk:aM:=fun ss R=>∃ (b:Hf) (hs:List Hf),ss=[.t (bc b),.t (.lst (hs.map bc))]/\du 400 b/\(∀ h∈hs,du 400 h)/\hs.length<=1000/\∀ f l,nW b hs f->oX b hs l->R (.t (.tup [iZ f,iZ l]))
def OH (b:Hf)(hs:List Hf)(k:Nat):Bool:=match hs[k]? with
 | some h=>decide (bJ b h=0) && decide (0<lb b h)
 | none=>false
def HN (b:Hf)(hs:List Hf):List Nat:=(List.range hs.length).filter (OH b hs)
def wA (k:Nat):T:=.int (k:Int)
def qB:aM:=fun ss R=>∃ (b:Hf) (hs:List Hf),ss=[.t (bc b),.t (.lst (hs.map bc))]/\du 400 b/\(∀ h∈hs,du 400 h)/\hs.length<=1000/\R (.ol ((HN b hs).map wA))
def K0 (s t:Fr):Prop:=s.1*t.2<t.1*s.2
def Q5 (n:Nat)(f:En):Prop:=∀ s p,f=some (s,p)->SzF n s
def qC:aM:=fun ss R=>∃ (b:Hf) (hs:List Hf) (f l:En),ss=[.t (bc b),.t (.lst (hs.map bc)),.t (.tup [iZ f,iZ l])]/\du 400 b/\(∀ h∈hs,du 400 h)/\hs.length<=1000/\Q5 1500 f/\Q5 1500 l ∧
 (∀ s (p:Nat) t (q:Nat),f=some (s,p)->l=some (t,q)->K0 t s->R (.ol [.int (p:Int),.int (q:Int)])) ∧
 ((∀ s (p:Nat) t (q:Nat),f=some (s,p)->l=some (t,q)->¬ K0 t s)->(∀ (i:Nat) h,hs[i]?=some h->bJ b h=0->0<lb b h->R (.ol [.int (i:Int)]))/\((∀ h∈hs,bJ b h=0->lb b h<=0)->R (.ol [])))
def fe:aM:=fun ss R=>∃ (b:Hf) (f l:En),ss=[.t (bc b),.t (.tup [iZ f,iZ l])]/\Nz b/\du 400 b/\0<(fT f l).2/\SzF 1500 (fT f l)/\R (.t (spT (Kk b (fT f l))))
def iM:aM:=fun ss R=>∃ ws:List Int,ss=[.t (.lst (ws.map .int))]/\ws≠[]/\ws.length<=1000/\(∀ w∈ws,0<w/\Sz 5000 w)/\∀ (g:Int) (vs:List Int),0<g->vs.map (·*g)=ws->R (.ol (vs.map .int))
def gJ:aM:=fun ss R=>(∃ p q:Hf,ss=[.t (.lst ([p,q].map bc))]/\Nz p/\Nz q/\du 400 p/\du 400 q/\∀ g u v:Int,0<g->u*g=ji q->v*g=ji p->R (.ol [.int u,.int v])) ∨
 (∃ p q r:Hf,ss=[.t (.lst ([p,q,r].map bc))]/\du 400 p/\du 400 q/\du 400 r/\bJ q r≠0/\bJ r p≠0/\bJ p q≠0/\∀ g u v w:Int,0<g->u*g=(bJ q r).natAbs->v*g=(bJ r p).natAbs->w*g=(bJ p q).natAbs->R (.ol [.int u,.int v,.int w]))
def Ln (p q:Hf)(u v:Int):Prop:=u*p.1+v*q.1=0/\u*p.2.1+v*q.2.1=0/\0<u*p.2.2+v*q.2.2
def Lo (p q r:Hf)(u v w:Int):Prop:=u*p.1+v*q.1+w*r.1=0/\u*p.2.1+v*q.2.1+w*r.2.1=0/\0<u*p.2.2+v*q.2.2+w*r.2.2
inductive AW (hs:List Hf):List Nat->List Int->Prop
 | two (i j:Nat) (p q:Hf) (u v:Int):i<j->hs[i]?=some p->hs[j]?=some q->0<u->0<v->Ln p q u v->AW hs [i,j] [u,v]
 | three (i j k:Nat) (p q r:Hf) (u v w:Int):i<j->j<k->hs[i]?=some p->hs[j]?=some q->hs[k]?=some r->0<u->0<v->0<w->Lo p q r u v w->AW hs [i,j,k] [u,v,w]
def nQ (pl:List Nat) (ws:List Int):T:=.tup [.str "none",.lst (pl.map wA),.lst (ws.map .int)]
def fR:aM:=fun ss R=>∃ (hs:List Hf) (pl:List Nat),ss=[.t (.lst (hs.map bc)),.t (.lst (pl.map wA))]/\(∀ h∈hs,du 400 h/\Nz h) ∧
 ((∃ (i j:Nat) (p q:Hf),pl=[i,j]/\hs[i]?=some p/\hs[j]?=some q/\∀ g u v:Int,0<g->u*g=ji q->v*g=ji p->R (.t (nQ [i,j] [u,v]))) ∨
 (∃ (i j k:Nat) (p q r:Hf),pl=[i,j,k]/\hs[i]?=some p/\hs[j]?=some q/\hs[k]?=some r/\bJ q r≠0/\bJ r p≠0/\bJ p q≠0/\∀ g u v w:Int,0<g->u*g=(bJ q r).natAbs->v*g=(bJ r p).natAbs->w*g=(bJ p q).natAbs->R (.t (nQ [i,j,k] [u,v,w]))))
def fy:aM:=fun ss R=>∃ hs:List Hf,ss=[.t (.lst (hs.map bc))]/\(∀ h∈hs,du 400 h/\Nz h)/\hs.length<=1000 ∧
 (∀ s:aS,OB s->fg 5000 s->(∀ h∈hs,0<=a5 h s)->R (.t (.tup [.str "spot",spT s])))/\∀ pl ws,AW hs pl ws->(∀ w∈ws,Sz 5000 w)->R (.t (nQ pl ws))
def oG:WS:=
 (bz (cE (aU (ao aJ (ae 0) (wC (.int 0))) (ao aJ (ae 1) (wC (.int 0)))) (aU (ao aJ (ae 0) (wC (.int 1))) (ao aJ (ae 1) (wC (.int 1))))))
def l9:WS:=
 (bz (cS (aU (ao aJ (ae 0) (wC (.int 0))) (ao aJ (ae 1) (wC (.int 1)))) (aU (ao aJ (ae 0) (wC (.int 1))) (ao aJ (ae 1) (wC (.int 0))))))
def oJ:WS:=
 (bz (cS (aU (ao aJ (ae 1) (wC (.int 2))) (aw cG (ac (ae 0) (ac (ae 0) ap)))) (aU (aw cG (ac (ae 0) (ac (ae 1) ap))) (ao aJ (ae 0) (wC (.int 2))))))
def j3:WS:=
 (aC (aF 2 (aw js (ac (ae 0) (ac (ae 1) ap))))
 (aC (aF 3 (aw ck (ac (ae 0) (ac (ae 1) ap))))
 (aC (iW (wB (Hc (ae 3) (wC (.int 0)))) (bz (bZ (ac (xF jd (ae 2)) (ac (xF jd (ae 3)) ap)))) bB)
 (bz (bZ (ac (ae 2) (ac (ae 3) ap)))))))
def j4:WS:=
 (aC (aF 2 (aU (aw cG (ac (ae 0) (ac (ae 0) ap))) (ao aJ (ae 1) (wC (.int 1)))))
 (aC (aF 3 (cS (aU (aU (ao aJ (ae 0) (wC (.int 0))) (ao aJ (ae 0) (wC (.int 2)))) (ao aJ (ae 1) (wC (.int 1)))) (aU (ao aJ (ae 0) (wC (.int 1))) (ao aJ (ae 1) (wC (.int 0))))))
 (aC (aF 4 (cE (aU (aU (ao aJ (ae 0) (wC (.int 1))) (ao aJ (ae 0) (wC (.int 2)))) (ao aJ (ae 1) (wC (.int 1)))) (aU (ao aJ (ae 0) (wC (.int 0))) (ao aJ (ae 1) (wC (.int 0))))))
 (bz (bZ (ac (aw g9 (ac (ae 3) (ac (ae 2) ap))) (ac (aw g9 (ac (ae 4) (ac (ae 2) ap))) ap)))))))
def mf:WS:=
 (aC (aF 2 (wC .non))
 (aC (aF 3 (wC .non))
 (b9 (k7 (fV (ac (eP dj (ac (ae 1) ap)) ap)) (aG 4) (aC (aF 5 (aw ck (ac (ae 0) (ac (ao aJ (ae 1) (ae 4)) ap))))
 (aC (aF 6 (aw kY (ac (ae 0) (ac (ao aJ (ae 1) (ae 4)) ap))))
 (b9 (iW (Ou (kz (wB (Ha (ae 5) (wC (.int 0)))) (Ky (wB (Hb (ae 2))) (wB (aw dO (ac (ao aJ (ae 2) (wC (.int 0))) (ac (ae 6) ap))))))) (aF 2 (bZ (ac (ae 6) (ac (ae 4) ap)))) bB)
 (iW (Ou (kz (wB (Hc (ae 5) (wC (.int 0)))) (Ky (wB (Hb (ae 3))) (wB (aw dO (ac (ae 6) (ac (ao aJ (ae 3) (wC (.int 0))) ap))))))) (aF 3 (bZ (ac (ae 6) (ac (ae 4) ap)))) bB)))))
 (bz (bZ (ac (ae 2) (ac (ae 3) ap)))))))
def oH:WS:=
 (bz (dQ 1 [0,1] (fV (ac (eP dj (ac (ae 1) ap)) ap)) (aG 0) (kz (wB (tm (aw ck (ac (ae 1) (ac (ao aJ (ae 2) (ae 0)) ap))) (wC (.int 0)))) (wB (Ha (aw js (ac (ae 1) (ac (ao aJ (ae 2) (ae 0)) ap))) (wC (.int 0))))) (ae 0)))
def oN:WS:=
 (aC (iW (Ou (kz (wB (tu (ao aJ (ae 2) (wC (.int 0))))) (kz (wB (tu (ao aJ (ae 2) (wC (.int 1))))) (wB (aw dO (ac (ao aJ (ao aJ (ae 2) (wC (.int 1))) (wC (.int 0))) (ac (ao aJ (ao aJ (ae 2) (wC (.int 0))) (wC (.int 0))) ap))))))) (bz (jx (ac (ao aJ (ao aJ (ae 2) (wC (.int 0))) (wC (.int 1))) (ac (ao aJ (ao aJ (ae 2) (wC (.int 1))) (wC (.int 1))) ap)))) bB)
 (bz (iR (aw qB (ac (ae 0) (ac (ae 1) ap))) iQ (l7 (wC (.int 1))))))
def dS:WS:=
 (b9 (k7 (Hg (ae 1)) (aG 2) (iW (wB (tu (ae 2))) (bz (aw iO (ac (ae 0) (ac (ao aJ (ae 2) (wC (.int 0))) ap)))) bB))
 (bz (aw iO (ac (ae 0) (ac (bZ (ac (wC (.int 0)) (ac (wC (.int 1)) ap))) ap)))))
def jY:WS:=
 (aC (aF 1 (wC (.int 0)))
 (b9 (k7 (cm (ae 0)) (aG 2) (aF 1 (aw cD (ac (ae 1) (ac (ae 2) ap)))))
 (bz (dQ 1 [1] (cm (ae 0)) (aG 0) nu (dR (ae 0) (ae 1))))))
def cZ:WS:=
 (aC (aF 1 (ao aJ (ae 0) (wC (.int 0))))
 (aC (aF 2 (ao aJ (ae 0) (wC (.int 1))))
 (aC (iW (wB (tm (eP dj (ac (ae 0) ap)) (wC (.int 2)))) (bz (aw iM (ac (jx (ac (cE (eP iY (ac (ao aJ (ae 2) (wC (.int 0))) ap)) (eP iY (ac (ao aJ (ae 2) (wC (.int 1))) ap))) (ac (cE (eP iY (ac (ao aJ (ae 1) (wC (.int 0))) ap)) (eP iY (ac (ao aJ (ae 1) (wC (.int 1))) ap))) ap))) ap))) bB)
 (aC (aF 3 (ao aJ (ae 0) (wC (.int 2))))
 (bz (aw iM (ac (jx (ac (eP iY (ac (aw ck (ac (ae 2) (ac (ae 3) ap))) ap)) (ac (eP iY (ac (aw ck (ac (ae 3) (ac (ae 1) ap))) ap)) (ac (eP iY (ac (aw ck (ac (ae 1) (ac (ae 2) ap))) ap)) ap)))) ap)))))))
def cI:WS:=
 (bz (bZ (ac (wC (.str "none")) (ac (ae 1) (ac (aw gJ (ac (dQ 1 [0] (cm (ae 1)) (aG 0) nu (ao aJ (ae 1) (ae 0))) ap)) ap)))))
def mj:WS:=
 (aC (aF 1 (bZ (ac (bZ (ac (wC (.int 0)) (ac (wC (.int 1)) ap))) (ac (bZ (ac (wC (.int 0)) (ac (wC (.int 1)) ap))) ap))))
 (b9 (k7 (fV (ac (eP dj (ac (ae 0) ap)) ap)) (aG 2) (aC (aF 3 (ao aJ (ae 0) (ae 2)))
 (iW (wB (Hc (aw iN (ac (ae 3) (ac (ae 1) ap))) (wC (.int 0)))) (aC (aF 4 (iR (ae 0) iQ (l7 (ae 2))))
 (aC (aF 5 (aw nk (ac (ae 3) (ac (ae 4) ap))))
 (aC (aF 6 (aw qC (ac (ae 3) (ac (ae 4) (ac (ae 5) ap)))))
 (aC (iW (wB (Ha (eP dj (ac (ae 6) ap)) (wC (.int 0)))) (bz (aw fR (ac (ae 0) (ac (eP pH (ac (ao Bx (ae 6) (jx (ac (ae 2) ap))) ap)) ap)))) bB)
 (aF 1 (aw fe (ac (ae 3) (ac (ae 5) ap)))))))) bB)))
 (bz (bZ (ac (wC (.str "spot")) (ac (ae 1) ap))))))
theorem F9:Ok cG oG ["one","other"]:=by
 rintro ss R ⟨a,b,c,d,r1,r2,rfl,sa,sb,sc,sd,h⟩;show oG _ [some (.t (.tup (.int a::.int b::r1))),some (.t (.tup (.int c::.int d::r2)))]
 delta oG
 walk_at"d";exact⟨bH sa sc (by decide) (by decide),bH sb sd (by decide) (by decide),h⟩
theorem BV:Ok ck l9 ["one","other"]:=by
 rintro ss R ⟨p,q,rfl,⟨a1,a2,a3⟩,⟨b1,b2,b3⟩,h⟩;show l9 _ [some (.t (bc p)),some (.t (bc q))]
 delta l9
 walk_at"d";exact⟨bH a1 b2 (by decide) (by decide),bH a2 b1 (by decide) (by decide),h⟩
theorem o6 (hp:du n p)(hq:du n q):Sz (n+n+1) (ib p q):=by
 have:=Sz.add (Sz.mul hp.1 hq.1) (Sz.mul hp.2.1 hq.2.1);exact this.mono (by omega)
theorem ja (hp:du n p)(hq:du n q):Sz (n+n+1) (bJ p q):=by
 have:=Sz.sub (Sz.mul hp.1 hq.2.1) (Sz.mul hp.2.1 hq.1);exact this.mono (by omega)
theorem KH (hp:du n p)(hq:du n q):Sz (n+n+n+2) (lb p q):=by
 have:=Sz.sub (Sz.mul hq.2.2 (o6 hp hp)) (Sz.mul (o6 hp hq) hp.2.2);exact this.mono (by omega)
theorem E3 (hp:du n p)(hq:du n q):SzF (n+n+n+2) (jF p q):=by
 unfold jF
 split
 ·exact⟨(KH hp hq).neg,(ja hp hq).neg.mono (by omega)⟩
 ·exact⟨KH hp hq,(ja hp hq).mono (by omega)⟩
theorem bo (h:du m p)(l:m<=n):du n p:=⟨h.1.mono l,h.2.1.mono l,h.2.2.mono l⟩
theorem eY (h:SzF m p)(l:m<=n):SzF n p:=⟨h.1.mono l,h.2.mono l⟩
theorem Gb:Ok js oJ ["border","other"]:=by
 rintro ss R ⟨b,o,rfl,sb,so,h⟩;have sb':=bo (n:=60000) sb (by decide)
 have so':=bo (n:=60000) so (by decide)
 show oJ _ [some (.t (bc b)),some (.t (bc o))]
 delta oJ
 walk_at"d";refine⟨_,_,_,_,_,_,rfl,sb'.1,sb'.2.1,sb'.1,sb'.2.1,?_⟩;walk_at"d";refine⟨bH so.2.2 (o6 sb sb) (by decide) (by decide),_,_,_,_,_,_,rfl,sb'.1,sb'.2.1,so'.1,so'.2.1,?_⟩
 walk_at"d";exact⟨bH (o6 sb so) sb.2.2 (by decide) (by decide),h⟩
theorem yP:Ok kY j3 ["border","other","top","bottom"]:=by
 rintro ss R ⟨b,o,rfl,sb,so,h⟩;have sb':=bo (n:=60000) sb (by decide)
 have so':=bo (n:=60000) so (by decide)
 show j3 _ [some (.t (bc b)),some (.t (bc o)),none,none]
 delta j3
 walk_at"d";refine⟨b,o,rfl,sb,so,?_⟩;walk_at"d";refine⟨b,o,rfl,sb',so',?_⟩;walk_at"d";unfold jF at h
 split
 ·rename_i c;rw[if_pos c]at h;exact h
 ·rename_i c;rw[if_neg c]at h;exact h
theorem yQ:Ok iO j4 ["border","step","bottom","x","y"]:=by
 rintro ss R ⟨b,s,rfl,hb,hs,sb,⟨s1,s2⟩,h⟩;have sb':=bo (n:=60000) sb (by decide)
 have hD:0<AL b s:=mul_pos (o5 hb) hs;have sD:Sz 9000 (AL b s):=(Sz.mul (o6 sb sb) s2).mono (by decide)
 show j4 _ [some (.t (bc b)),some (.t (rW s)),none,none,none]
 delta j4
 walk_at"d";refine⟨_,_,_,_,_,_,rfl,sb'.1,sb'.2.1,sb'.1,sb'.2.1,?_⟩;walk_at"d";refine⟨bH (o6 sb sb) s2 (by decide) (by decide),bH sb.1 sb.2.2 (by decide) (by decide),bH (Sz.mul sb.1 sb.2.2) s2 (by decide) (by decide),bH sb.2.1 s1 (by decide) (by decide),bH sb.2.1 sb.2.2 (by decide) (by decide),bH (Sz.mul sb.2.1 sb.2.2) s2 (by decide) (by decide),bH sb.1 s1 (by decide) (by decide),_,_,rfl,by show AL b s≠0;omega,sD,?_⟩
 walk_at"d";refine⟨_,_,rfl,by show AL b s≠0;omega,sD,?_⟩
 walk_at"d";exact h
theorem wQ (s:Fr):jm s s:=Int.le_refl _
theorem ER (b:Hf):nW b [] none:=⟨fun _ h hh=>(by cases hh),fun s p e=>(by cases e)⟩
theorem ET (b:Hf):oX b [] none:=⟨fun _ h hh=>(by cases hh),fun s p e=>(by cases e)⟩
theorem Ae {α:Type}{l:List α}{x y:α}{p:Nat}(h:l[p]?=some y):(l++[x])[p]?=some y:=by
 have:p<l.length:=by rw[List.getElem?_eq_some_iff]at h;exact h.1
 rw[getElem?_append_left this];exact h
theorem BL {b h:Hf}{pre:List Hf}{f:En}(F:nW b pre f)(c:0<bJ b h->∃ s p,f=some (s,p)/\jm (jF b h) s):nW b (pre++[h]) f:=by
 refine⟨fun e x hx=>?_,fun s p e=>?_⟩
 ·rcases mem_append.mp hx with z|z
  ·exact F.non e x z
  ·simp at z;subst z;intro cc;obtain⟨s,p,e',_⟩:=c cc;rw[e]at e';cases e'
 ·obtain⟨⟨x,h1,h2⟩,g⟩:=F.som s p e;refine⟨⟨x,Ae h1,h2⟩,fun y hy cy=>?_⟩
  rcases mem_append.mp hy with z|z
  ·exact g y z cy
  ·simp at z;subst z;obtain⟨s',p',e',q⟩:=c cy;rw[e]at e';cases e'
   exact q
theorem EQ (F:nW b pre f)(c:0<bJ b h)(lt:∀ s p,f=some (s,p)->jm s (jF b h)):nW b (pre++[h]) (some (jF b h,pre.length)):=by
 refine⟨fun e=>(by cases e),fun s p e=>?_⟩
 cases e
 refine⟨⟨h,by simp,c,rfl⟩,fun y hy cy=>?_⟩
 rcases mem_append.mp hy with z|z
 ·cases f with
  | none=>exact absurd cy (F.non rfl y z)
  | some u=>
   obtain⟨s,p⟩:=u;obtain⟨⟨x,_,cx,rfl⟩,g⟩:=F.som _ _ rfl;exact mK (gC (by omega)) (gC (by omega)) (gC (by omega)) (g y z cy) (lt _ _ rfl)
 ·simp at z;subst z;exact wQ _
theorem BM {b h:Hf}{pre:List Hf}{f:En}(F:oX b pre f)(c:bJ b h<0->∃ s p,f=some (s,p)/\jm s (jF b h)):oX b (pre++[h]) f:=by
 refine⟨fun e x hx=>?_,fun s p e=>?_⟩
 ·rcases mem_append.mp hx with z|z
  ·exact F.non e x z
  ·simp at z;subst z;intro cc;obtain⟨s,p,e',_⟩:=c cc;rw[e]at e';cases e'
 ·obtain⟨⟨x,h1,h2⟩,g⟩:=F.som s p e;refine⟨⟨x,Ae h1,h2⟩,fun y hy cy=>?_⟩
  rcases mem_append.mp hy with z|z
  ·exact g y z cy
  ·simp at z;subst z;obtain⟨s',p',e',q⟩:=c cy;rw[e]at e';cases e'
   exact q
theorem ES (F:oX b pre f)(c:bJ b h<0)(lt:∀ s p,f=some (s,p)->jm (jF b h) s):oX b (pre++[h]) (some (jF b h,pre.length)):=by
 refine⟨fun e=>(by cases e),fun s p e=>?_⟩
 cases e
 refine⟨⟨h,by simp,c,rfl⟩,fun y hy cy=>?_⟩
 rcases mem_append.mp hy with z|z
 ·cases f with
  | none=>exact absurd cy (F.non rfl y z)
  | some u=>
   obtain⟨s,p⟩:=u;obtain⟨⟨x,_,cx,rfl⟩,g⟩:=F.som _ _ rfl;exact mK (gC (by omega)) (gC (by omega)) (gC (by omega)) (lt _ _ rfl) (g y z cy)
 ·simp at z;subst z;exact wQ _
theorem yt (sb:du 400 b)(sh:∀ h∈hs,du 400 h)(F:nW b hs f):Q5 1500 f:=fun s p e=>by
 obtain⟨⟨x,h1,_,rfl⟩,_⟩:=F.som s p e;exact eY (E3 sb (sh x (mem_of_getElem? h1))) (by decide)
theorem uO (sb:du 400 b)(sh:∀ h∈hs,du 400 h)(F:oX b hs f):Q5 1500 f:=fun s p e=>by
 obtain⟨⟨x,h1,_,rfl⟩,_⟩:=F.som s p e;exact eY (E3 sb (sh x (mem_of_getElem? h1))) (by decide)
theorem fA {α:Type}{l:List α}{k:Nat}{x:α}(e:l[k]?=some x):l.take (k+1)=l.take k++[x]:=by
 rw[List.take_succ,e];rfl
theorem BZ:Ok nk mf ["border","halves","first","last","place","facing","step"]:=by
 rintro ss R ⟨b,hs,rfl,sb,sh,hl,h⟩;have sb6:=bo (n:=60000) sb (by decide)
 have sb2:=bo (n:=20000) sb (by decide)
 show mf _ [some (.t (bc b)),some (.t (.lst (hs.map bc))),none,none,none,none,none]
 delta mf
 walk_at"d"
 let I (k:Nat):a8->Prop:=fun δ=>∃ (f l:En) (r4 r5 r6:Option S),δ=[some (.t (bc b)),some (.t (.lst (hs.map bc))),some (.t (iZ f)),some (.t (iZ l)),r4,r5,r6]/\nW b (hs.take k) f/\oX b (hs.take k) l
 refine⟨I hs.length,⟨lK (by omega) (by rw[length_map];omega),wq (n:=hs.length) (by rw[length_map,toNat_natCast]) I ⟨none,none,_,_,_,rfl,ER b,ET b⟩ (fun _ z=>z) ?_⟩,?_⟩
 ·rintro k δ hk ⟨f,l,r4,r5,r6,rfl,F,L⟩;have e:hs[k]?=some hs[k]:=getElem?_eq_getElem hk;have tk:(hs.take k).length=k:=by rw[length_take];omega
  generalize hs[k]=h at e;have s4:=sh h (mem_of_getElem? e);have mz:=E3 sb s4;have fz:=yt sb (fun x hx=>sh x (mem_of_mem_take hx)) F;have lz:=uO sb (fun x hx=>sh x (mem_of_mem_take hx)) L;walk_at"d";rw[cu e];walk_at"d";refine⟨b,h,rfl,sb6,bo s4 (by decide),?_⟩
  walk_at"d";rw[cu e];walk_at"d";refine⟨b,h,rfl,sb2,bo s4 (by decide),?_⟩
  walk_at"d";refine⟨fun δ=>∃ f':En,δ=[some (.t (bc b)),some (.t (.lst (hs.map bc))),some (.t (iZ f')),some (.t (iZ l)),some (.t (.int k)),some (.t (.int (bJ b h))),some (.t (rW (jF b h)))]/\nW b (hs.take (k+1)) f',?_,?_⟩
  ·walk_at"d";refine⟨OG (0<bJ b h/\∀ s p,f=some (s,p)->K0 s (jF b h)) (0<bJ b h->∃ s p,f=some (s,p)/\¬ K0 s (jF b h)),?_,?_⟩
   ·walk_at"d"
    split
    ·rename_i c
     rcases f with _|⟨s,p⟩
     ·unfold iZ;walk_at"d";exact Lc ⟨c,fun _ _ z=>by cases z⟩
     ·unfold iZ;walk_at"d";refine⟨s,jF b h,rfl,eY (fz s p rfl) (by decide),eY mz (by decide),?_⟩
      walk_at"d";exact G7 (fun z=>⟨c,fun s' p' q=>by cases q;exact z⟩) fun z _=>⟨s,p,rfl,z⟩
    ·rename_i c;exact AQ fun z=>absurd z c
   rintro x ⟨x1,x2⟩
   cases x with
   | true=>
    obtain⟨c,g⟩:=x1 rfl;walk_at"d";refine⟨some (jF b h,k),rfl,?_⟩;rw[fA e];have:=EQ (h:=h) F c fun s p q=>le_of_lt (g s p q);rw[tk]at this;exact this
   | false=>
    walk_at"d";refine⟨f,rfl,?_⟩;rw[fA e];refine BL F fun c=>?_;obtain⟨s,p,q1,q2⟩:=x2 rfl c;exact⟨s,p,q1,Int.not_lt.mp q2⟩
  ·rintro δ ⟨f',rfl,F'⟩;walk_at"d";refine⟨OG (bJ b h<0/\∀ s p,l=some (s,p)->K0 (jF b h) s) (bJ b h<0->∃ s p,l=some (s,p)/\¬ K0 (jF b h) s),?_,?_⟩
   ·walk_at"d"
    split
    ·rename_i c
     rcases l with _|⟨s,p⟩
     ·unfold iZ;walk_at"d";exact Lc ⟨c,fun _ _ z=>by cases z⟩
     ·unfold iZ;walk_at"d";refine⟨jF b h,s,rfl,eY mz (by decide),eY (lz s p rfl) (by decide),?_⟩
      walk_at"d";exact G7 (fun z=>⟨c,fun s' p' q=>by cases q;exact z⟩) fun z _=>⟨s,p,rfl,z⟩
    ·rename_i c;exact AQ fun z=>absurd z c
   rintro x ⟨x1,x2⟩
   cases x with
   | true=>
    obtain⟨c,g⟩:=x1 rfl;walk_at"d";refine⟨f',some (jF b h,k),_,_,_,rfl,F',?_⟩;rw[fA e];have:=ES (h:=h) L c fun s p q=>le_of_lt (g s p q);rw[tk]at this;exact this
   | false=>
    walk_at"d";refine⟨f',l,_,_,_,rfl,F',?_⟩;rw[fA e];refine BM L fun c=>?_;obtain⟨s,p,q1,q2⟩:=x2 rfl c;exact⟨s,p,q1,Int.not_lt.mp q2⟩
 ·rintro δ ⟨f,l,r4,r5,r6,rfl,F,L⟩;rw[List.take_length]at F L;walk_at"d";exact h f l F L
theorem HP (h:k∈HN b hs):∃ x,hs[k]?=some x/\bJ b x=0/\0<lb b x:=by
 unfold HN at h;have:=(mem_filter.mp h).2;unfold OH at this
 split at this
 ·rename_i x hx;simp at this;exact⟨x,hx,this.1,this.2⟩
 ·cases this
theorem HQ (h:HN b hs=[]):∀ x∈hs,bJ b x=0->lb b x<=0:=by
 intro x hx c;obtain⟨k,hk,rfl⟩:=getElem_of_mem hx
 rcases lt_or_le 0 (lb b hs[k]) with z|z
 ·exfalso;have:k∈HN b hs:=by
   unfold HN;refine mem_filter.mpr ⟨mem_range.mpr hk,?_⟩;unfold OH;rw[getElem?_eq_getElem hk];simp[c,z]
  rw[h]at this;cases this
 ·exact z
theorem Ga:Ok qB oH ["border","halves"]:=by
 rintro ss R ⟨b,hs,rfl,sb,sh,hl,h⟩;show oH _ [some (.t (bc b)),some (.t (.lst (hs.map bc)))]
 delta oH
 walk_at"d";refine⟨lK (by omega) (by rw[length_map];omega),?_⟩
 rw[length_map,toNat_natCast];refine eT (f:=fun k:Nat=>.int (0+(k:Int))) (h:=wA) (p:=OH b hs) (l:=List.range hs.length) (fun δ=>∃ r,δ=[r,some (.t (bc b)),some (.t (.lst (hs.map bc)))]) (fun _ _=>rfl) (by rw[length_range];omega) ⟨_,rfl⟩ ?_ ?_
 ·rintro k hk δ ⟨r,rfl⟩ Y N hY hN;have e:hs[k]?=some (hs[k]'(mem_range.mp hk)):=getElem?_eq_getElem _;generalize hs[k]'(mem_range.mp hk)=x at e;have s4:=sh x (mem_of_getElem? e);have ep:OH b hs k=(decide (bJ b x=0) && decide (0<lb b x)):=by unfold OH;rw[e]
  rw[Int.zero_add];walk_at"d";rw[cu e];walk_at"d";refine⟨b,x,rfl,bo sb (by decide),bo s4 (by decide),?_⟩
  walk_at"d"
  split
  ·rename_i c;rw[cu e];walk_at"d";refine⟨b,x,rfl,bo sb (by decide),bo s4 (by decide),?_⟩
   walk_at"d"
   split
   ·rename_i c2;exact hY _ ⟨_,rfl⟩ (by rw[ep];simp[c,c2])
   ·rename_i c2;exact hN _ ⟨_,rfl⟩ (by rw[ep];simp[c2])
  ·rename_i c;exact hN _ ⟨_,rfl⟩ (by rw[ep];simp[c])
 ·exact h
theorem Df (l:List α)(k:Nat):gU (l.map f) none (some (k:Int))=(l.take k).map f:=by
 unfold gU;rw[HT.sIx_nat,HT.sIx_none,List.drop_zero,Nat.sub_zero,length_map,map_take]
 rcases Nat.le_total k l.length with z|z
 ·rw[min_eq_left z]
 ·rw[Nat.min_eq_right z,take_of_length_le (by simp),take_of_length_le (by simpa using z)]
theorem Ge:Ok qC oN ["border","halves","ends"]:=by
 rintro ss R ⟨b,hs,f,l,rfl,sb,sh,hl,sf,sl,hA,hB⟩;show oN _ [some (.t (bc b)),some (.t (.lst (hs.map bc))),some (.t (.tup [iZ f,iZ l]))]
 delta oN
 walk_at"d";refine⟨OG (∃ s p t q,f=some (s,p)/\l=some (t,q)/\K0 t s) (∀ s p t q,f=some (s,p)->l=some (t,q)->¬ K0 t s),?_,?_⟩
 ·rcases f with _|⟨s,p⟩
  ·unfold iZ;walk_at"d";exact AQ fun s p t q z=>by cases z
  ·rcases l with _|⟨t,q⟩
   ·unfold iZ;walk_at"d";exact AQ fun s p t q _ z=>by cases z
   ·unfold iZ;walk_at"d";refine⟨t,s,rfl,eY (sl t q rfl) (by decide),eY (sf s p rfl) (by decide),?_⟩
    walk_at"d";refine G7 (fun z=>⟨s,p,t,q,rfl,rfl,z⟩) fun z s' p' t' q' e1 e2=>?_
    cases e1;cases e2
    exact z
 ·rintro x ⟨x1,x2⟩
  cases x with
  | true=>
   obtain⟨s,p,t,q,rfl,rfl,lt⟩:=x1 rfl;unfold iZ;walk_at"d";exact hA s p t q rfl rfl lt
  | false=>
   have nc:=x2 rfl;obtain⟨h1,h2⟩:=hB nc;walk_at"d";refine⟨b,hs,rfl,sb,sh,hl,?_⟩;dsimp only;rw[show got (.ol ((HN b hs).map wA))=.ol ((HN b hs).map wA) from if_pos (bI (fun _=>rfl) _)];walk_at"d";rw[show(1:Int)=((1:Nat):Int) from rfl,Df]
   cases e:HN b hs with
   | nil=>
    exact h2 (HQ e)
   | cons k r=>
    obtain⟨x,e1,e2,e3⟩:=HP (b:=b) (hs:=hs) (k:=k) (by rw[e];simp)
    exact h1 k x e1 e2 e3
theorem n0:Ok fe dS ["border","ends","end"]:=by
 rintro ss R ⟨b,f,l,rfl,hb,sb,hp,sp,h⟩;show dS _ [some (.t (bc b)),some (.t (.tup [iZ f,iZ l])),none]
 delta dS
 walk_at"d";refine⟨fun δ=>δ=[some (.t (bc b)),some (.t (.tup [.non,.non])),some (.t .non)]/\f=none/\l=none,IG ?_,?_⟩
 ·unfold yi yi yi
  rcases f with _|⟨s,p⟩
  ·rcases l with _|⟨t,q⟩
   ·unfold iZ;walk_at"d"
   ·unfold iZ;walk_at"d";refine⟨b,t,rfl,hb,hp,sb,sp,?_⟩;walk_at"d";exact h
  ·unfold iZ;walk_at"d";refine⟨b,s,rfl,hb,hp,sb,sp,?_⟩;walk_at"d";exact h
 ·rintro δ ⟨rfl,rfl,rfl⟩;walk_at"d";refine⟨b,(0,1),rfl,hb,hp,sb,sp,?_⟩;walk_at"d";exact h
theorem yN:Ok iM jY ["weights","common","weight"]:=by
 rintro ss R ⟨ws,rfl,hne,hl,hw,h⟩;show jY _ [some (.t (.lst (ws.map .int))),none,none]
 delta jY
 walk_at"d";refine⟨fun δ=>∃ (c:Int) (r:Option S),δ=[some (.t (.lst (ws.map .int))),some (.t (.int c)),r]/\0<c/\∀ w∈ws,c ∣ w,⟨fun ts δ=>∃ (pre post:List Int) (c:Int) (r:Option S),ws=pre++post/\ts=post.map .int/\δ=[some (.t (.lst (ws.map .int))),some (.t (.int c)),r]/\(pre≠[]->0<c)/\∀ w∈pre,c ∣ w,⟨[],ws,0,none,rfl,rfl,rfl,fun z=>absurd rfl z,fun w hw=>(by cases hw)⟩,?_,?_⟩,?_⟩
 ·rintro δ ⟨pre,post,c,r,e,e2,rfl,h1,h2⟩
  cases post with
  | cons a b=>cases e2
  | nil=>
   rw[append_nil]at e;subst e;exact⟨c,r,rfl,h1 hne,h2⟩
 ·rintro x r δ ⟨pre,post,c,q,e,e2,rfl,h1,h2⟩
  cases post with
  | nil=>cases e2
  | cons a b=>
   obtain⟨rfl,rfl⟩:=List.cons.inj e2;walk_at"d";refine⟨_,_,rfl,?_⟩;walk_at"d";have ha:a∈ws:=by rw[e];simp
   refine⟨pre++[a],b,_,_,by rw[e];simp,rfl,rfl,fun _=>?_,fun w hm=>?_⟩
   ·have:=gB (a:=c) (b:=a) (.inr (by have:=(hw a ha).1;omega))
    omega
   ·rcases mem_append.mp hm with z|z
    ·exact Int.dvd_trans (gcd_dvd_left _ _) (h2 w z)
    ·simp at z;subst z;exact gcd_dvd_right _ _
 ·rintro δ ⟨c,r,rfl,hc,hd⟩;walk_at"d";refine eU (f:=T.int) (h:=fun w=>.int (w.fdiv c)) (l:=ws) (fun δ=>∃ r,δ=[r,some (.t (.int c))]) (fun _ _=>rfl) (by omega) ⟨_,rfl⟩ ?_ ?_
  ·rintro w hm δ ⟨r,rfl⟩ Y hY;walk_at"d";exact⟨Mq (by omega) (hw w hm).2 (by decide),hY _ ⟨_,rfl⟩⟩
  ·have e:ws.map (fun w=>T.int (w.fdiv c))=(ws.map fun w=>w.fdiv c).map .int:=by rw[map_map];rfl
   rw[e];refine h c _ hc ?_;rw[map_map]
   conv=>rhs;rw[<-List.map_id ws]
   exact map_congr_left fun w hm=>cf (hd w hm)
theorem Am (s:du 400 h):Sz 5000 (ji h):=by
 have a:Sz 400 (h.1.natAbs:Int):=⟨by have:=s.1.lt;omega⟩
 have b:Sz 400 (h.2.1.natAbs:Int):=⟨by have:=s.2.1.lt;omega⟩
 exact(Sz.add a b).mono (by decide)
theorem ia (s:Sz n i):Sz n (i.natAbs:Int):=⟨by have:=s.lt;omega⟩
theorem Oj {vs:List Int}{g a b:Int}(h:vs.map (·*g)=[a,b]):∃ u v,vs=[u,v]/\u*g=a/\v*g=b:=by
 match vs,h with
 | [u,v],h=>simp at h;exact⟨u,v,rfl,h.1,h.2⟩
theorem G5 {vs:List Int}{g a b c:Int}(h:vs.map (·*g)=[a,b,c]):∃ u v w,vs=[u,v,w]/\u*g=a/\v*g=b/\w*g=c:=by
 match vs,h with
 | [u,v,w],h=>simp at h;exact⟨u,v,w,rfl,h.1,h.2.1,h.2.2⟩
theorem rC:Ok gJ cZ ["chosen","one","other","third"]:=by
 rintro ss R (⟨p,q,rfl,np,nq,sp,sq,h⟩|⟨p,q,r,rfl,sp,sq,sr,n1,n2,n3,h⟩)
 ·show cZ _ [some (.t (.lst [bc p,bc q])),none,none,none]
  delta cZ
  walk_at"d";rw[if_pos (by decide)]
  simp only[mB];refine⟨[ji q,ji p],rfl,by simp,by simp,fun w hw=>?_,fun g vs hg e=>?_⟩
  ·simp at hw
   rcases hw with rfl|rfl
   ·exact⟨pP nq,Am sq⟩
   ·exact⟨pP np,Am sp⟩
  ·obtain⟨u,v,rfl,e1,e2⟩:=Oj e;walk_at"d";exact h g u v hg e1 e2
 ·show cZ _ [some (.t (.lst [bc p,bc q,bc r])),none,none,none]
  delta cZ
  walk_at"d";rw[if_neg (by decide)]
  walk_at"d";refine⟨q,r,rfl,bo sq (by decide),bo sr (by decide),?_⟩
  walk_at"d";refine⟨r,p,rfl,bo sr (by decide),bo sp (by decide),?_⟩
  walk_at"d";refine⟨p,q,rfl,bo sp (by decide),bo sq (by decide),?_⟩
  walk_at"d";simp only[mB];refine⟨[((bJ q r).natAbs:Int),((bJ r p).natAbs:Int),((bJ p q).natAbs:Int)],rfl,by simp,by simp,fun w hw=>?_,fun g vs hg e=>?_⟩
  ·simp only[mem_cons,not_mem_nil,or_false]at hw
   rcases hw with rfl|rfl|rfl
   ·exact⟨by omega,(ia (ja sq sr)).mono (by decide)⟩
   ·exact⟨by omega,(ia (ja sr sp)).mono (by decide)⟩
   ·exact⟨by omega,(ia (ja sp sq)).mono (by decide)⟩
  ·obtain⟨u,v,w,rfl,e1,e2,e3⟩:=G5 e;walk_at"d";exact h g u v w hg e1 e2 e3
theorem Ld (x y:T)(ts:List T):tupK R [.t x,.t y,.ol ts]=R (.t (.tup [x,y,.lst ts])):=rfl
theorem pZ:Ok fR cI ["halves","places"]:=by
 rintro ss R ⟨hs,pl,rfl,hh,⟨i,j,p,q,rfl,e1,e2,h⟩|⟨i,j,k,p,q,r,rfl,e1,e2,e3,n1,n2,n3,h⟩⟩
 ·have h1:=hh p (mem_of_getElem? e1);have h2:=hh q (mem_of_getElem? e2);show cI _ [some (.t (.lst (hs.map bc))),some (.t (.lst [.int (i:Int),.int (j:Int)]))]
  delta cI
  walk_at"d";refine lm ?_;walk_at"d";rw[cu e1];walk_at"d";refine⟨by simp,?_⟩
  rw[cu e2];walk_at"d";refine⟨by simp,?_⟩
  refine .inl ⟨p,q,rfl,h1.2,h2.2,h1.1,h2.1,fun g u v hg a b=>?_⟩;walk_at"d";rw[Ld];exact h g u v hg a b
 ·have h1:=hh p (mem_of_getElem? e1);have h2:=hh q (mem_of_getElem? e2);have h3:=hh r (mem_of_getElem? e3);show cI _ [some (.t (.lst (hs.map bc))),some (.t (.lst [.int (i:Int),.int (j:Int),.int (k:Int)]))]
  delta cI
  walk_at"d";refine lm ?_;walk_at"d";rw[cu e1];walk_at"d";refine⟨by simp,?_⟩
  rw[cu e2];walk_at"d";refine⟨by simp,?_⟩
  rw[cu e3];walk_at"d";refine⟨by simp,?_⟩
  refine .inr ⟨p,q,r,rfl,h1.1,h2.1,h3.1,n1,n2,n3,fun g u v w hg a b c=>?_⟩;walk_at"d";rw[Ld];exact h g u v w hg a b c
end Law
namespace Law
open L2 DL
theorem AJ:sgn i<0↔i<0:=by
 unfold sgn
 split
 ·omega
 ·split <;> omega
theorem qE {α:Type}{l:List α}{k p:Nat}{x:α}(h:(l.take k)[p]?=some x):p<k/\l[p]?=some x:=by
 rw[List.getElem?_take]at h
 split at h
 ·exact⟨by assumption,h⟩
 ·cases h
theorem AC (f:En):lH (iZ f)=true:=by
 rcases f with _|⟨s,p⟩ <;> rfl
theorem BS (f l:En):norm (.tup [iZ f,iZ l])=.t (.tup [iZ f,iZ l]):=by
 unfold norm;rw[if_pos];show(lH (iZ f) && (lH (iZ l) && true))=true;rw[AC,AC];rfl
theorem vk {ms t:List Int}(h:ms.Perm t)(h1:ms.Pairwise (·<=·))(h2:t.Pairwise (·<=·)):ms=t:=
 List.Perm.eq_of_pairwise (fun _ _ _ _ a b=>Int.le_antisymm a b) h1 h2 h
theorem AM (hg:0<g)(e1:u*g=A)(e2:v*g=B)(e3:w*g=C)(hA:0<A)(hB:0<B)(hC:0<C)
  (s1:A*p.1+B*q.1+C*r.1=0) (s2:A*p.2.1+B*q.2.1+C*r.2.1=0) (s3:0<A*p.2.2+B*q.2.2+C*r.2.2):0<u/\0<v/\0<w/\Lo p q r u v w:=by
 have z:∀ {t:Int},g*t=0->t=0:=fun {t} h=>by
  rcases mul_eq_zero.mp h with y|y
  ·omega
  ·exact y
 refine⟨bO hg (by rw[mul_comm,e1];exact hA),bO hg (by rw[mul_comm,e2];exact hB),bO hg (by rw[mul_comm,e3];exact hC),z ?_,z ?_,bO hg ?_⟩
 ·rw[<-s1,<-e1,<-e2,<-e3];grind
 ·rw[<-s2,<-e1,<-e2,<-e3];grind
 ·have:g*(u*p.2.2+v*q.2.2+w*r.2.2)=A*p.2.2+B*q.2.2+C*r.2.2:=by rw[<-e1,<-e2,<-e3];grind
  rw[this];exact s3
theorem Kr (hg:0<g)(e1:u*g=A)(e2:v*g=B)(hA:0<A)(hB:0<B)
  (s1:A*p.1+B*q.1=0) (s2:A*p.2.1+B*q.2.1=0) (s3:0<A*p.2.2+B*q.2.2):0<u/\0<v/\Ln p q u v:=by
 have z:∀ {t:Int},g*t=0->t=0:=fun {t} h=>by
  rcases mul_eq_zero.mp h with y|y
  ·omega
  ·exact y
 refine⟨bO hg (by rw[mul_comm,e1];exact hA),bO hg (by rw[mul_comm,e2];exact hB),z ?_,z ?_,bO hg ?_⟩
 ·rw[<-s1,<-e1,<-e2];grind
 ·rw[<-s2,<-e1,<-e2];grind
 ·have:g*(u*p.2.2+v*q.2.2)=A*p.2.2+B*q.2.2:=by rw[<-e1,<-e2];grind
  rw[this];exact s3
theorem tW (p q r:Hf):bJ q r*p.1+bJ r p*q.1+bJ p q*r.1=0/\bJ q r*p.2.1+bJ r p*q.2.1+bJ p q*r.2.1=0:=by
 constructor <;> unfold bJ <;> grind
theorem tV (p q:Hf):bJ p q=-bJ q p:=by unfold bJ;grind
theorem ua (ha:Sz m a)(hb:Sz n b):Sz m (gA a b).1/\Sz n (gA a b).2:=⟨ha.fdiv _,hb.fdiv _⟩
theorem QC (sb:du 400 b)(ss:SzF 1500 s):fg 5000 (Kk b s):=by
 have x:Sz 2400 (OL b s):=(Sz.sub (Sz.mul (Sz.mul sb.1 sb.2.2) ss.2) (Sz.mul sb.2.1 ss.1)).mono (by decide)
 have y:Sz 2400 (OM b s):=(Sz.add (Sz.mul (Sz.mul sb.2.1 sb.2.2) ss.2) (Sz.mul sb.1 ss.1)).mono (by decide)
 have d:Sz 2400 (AL b s):=(Sz.mul (o6 sb sb) ss.2).mono (by decide)
 exact⟨⟨(ua x d).1.mono (by decide),(ua x d).2.mono (by decide)⟩,⟨(ua y d).1.mono (by decide),(ua y d).2.mono (by decide)⟩⟩
theorem Kq (sb:du 400 b)(sh:∀ h∈hs,du 400 h)(F:nW b hs f)(L:oX b hs l):SzF 1500 (fT f l):=by
 unfold fT
 split
 ·exact yt sb sh F _ _ rfl
 ·exact uO sb sh L _ _ rfl
 ·exact⟨Sz.of (by decide) (by decide),Sz.of (by decide) (by decide)⟩
theorem jw (hg:0<g)(e:u*g=A)(s:Sz n A):Sz n u:=by
 have h:=s.lt;have e2:u.natAbs*g.natAbs=A.natAbs:=by rw[<-Int.natAbs_mul,e]
 have:u.natAbs<=u.natAbs*g.natAbs:=Nat.le_mul_of_pos_right _ (by omega)
 exact⟨by omega⟩
theorem B6:Ok fy mj ["halves","spot","place","border","before","ends","places"]:=by
 rintro ss R ⟨hs,rfl,hh,hl,hS,hC⟩;show mj _ [some (.t (.lst (hs.map bc))),none,none,none,none,none,none]
 delta mj
 walk_at"db"
 let I (k:Nat):a8->Prop:=fun δ=>∃ (s:aS) (r2 r3 r4 r5 r6:Option S),δ=[some (.t (.lst (hs.map bc))),some (.t (spT s)),r2,r3,r4,r5,r6]/\OB s/\fg 5000 s/\∀ h∈hs.take k,0<=a5 h s
 have z1:Sz 5000 0:=Sz.of (by decide) (by decide)
 have z2:Sz 5000 1:=Sz.of (by decide) (by decide)
 refine⟨I hs.length,⟨lK (by omega) (by rw[length_map];omega),wq (n:=hs.length) (by rw[length_map,toNat_natCast]) I ⟨((0,1),(0,1)),_,_,_,_,_,rfl,⟨⟨by decide,by decide⟩,⟨by decide,by decide⟩⟩,⟨⟨z1,z2⟩,⟨z1,z2⟩⟩,fun h hm=>(by cases hm)⟩ (fun _ z=>z) ?_⟩,?_⟩
 ·rintro k δ hk ⟨s,r2,r3,r4,r5,r6,rfl,lo,sz,hold⟩;have e:hs[k]?=some hs[k]:=getElem?_eq_getElem hk;generalize hs[k]=b at e;obtain⟨sb,nb⟩:=hh b (mem_of_getElem? e);have th:∀ h∈hs.take k,du 400 h:=fun h hm=>(hh h (mem_of_mem_take hm)).1;walk_at"db";rw[cu e];walk_at"db";refine⟨b,s,rfl,bo sb (by decide),⟨⟨sz.1.1.mono (by decide),sz.1.2.mono (by decide)⟩,⟨sz.2.1.mono (by decide),sz.2.2.mono (by decide)⟩⟩,?_⟩
  walk_at"db"
  split
  ·rename_i neg;have neg:=AJ.mp neg;rw[Df];refine⟨b,hs.take k,rfl,sb,th,by rw[length_take];omega,fun f l F L=>?_⟩
   dsimp only;rw[show got (.t (.tup [iZ f,iZ l]))=norm (.tup [iZ f,iZ l]) from rfl,BS];walk_at"db";refine⟨b,hs.take k,f,l,rfl,sb,th,by rw[length_take];omega,yt sb th F,uO sb th L,?_,fun nc=>⟨?_,?_⟩⟩
   ·
    rintro s1 p t q rfl rfl lt;obtain⟨⟨hf,g1,c1,rfl⟩,_⟩:=F.som _ _ rfl;obtain⟨⟨hl',g2,c2,rfl⟩,_⟩:=L.som _ _ rfl;obtain⟨pk,g1'⟩:=qE g1;obtain⟨qk,g2'⟩:=qE g2;have s1':=(hh hf (mem_of_getElem? g1')).1;have s2':=(hh hl' (mem_of_getElem? g2')).1;have npq:p≠q:=fun z=>by
     subst z;rw[g1]at g2;cases g2;omega
    obtain⟨w1,w2,w3⟩:=Me nb lo.1.1 lo.2.1 (hold hf (mem_of_getElem? g1)) (hold hl' (mem_of_getElem? g2)) neg c1 c2 lt;have sw1:=tV hf b;have sw2:=tV b hl';have sw3:=tV hl' hf;walk_at"db";rw[if_pos (by decide)]
    refine⟨by decide,?_⟩
    show iV _ ([(p:Int),(q:Int),(k:Int)].map T.int);rw[sU];refine⟨by simp,fun ms pm ps=>?_⟩
    rcases lt_or_ge p q with o|o
    ·rw[vk (t:=[(p:Int),(q:Int),(k:Int)]) pm ps (by simp;omega)]
     refine⟨hs,[p,q,k],rfl,hh,.inr ⟨p,q,k,hf,hl',b,rfl,g1',g2',e,by omega,by omega,by omega,fun g u v w hg a b' c=>?_⟩⟩
     obtain⟨p1,p2,p3,p4⟩:=AM (p:=hf) (q:=hl') (r:=b) (A:=bJ hl' b) (B:=bJ b hf) (C:=bJ hf hl') (u:=u) (v:=v) (w:=w) hg (by omega) (by omega) (by omega) (by omega) (by omega) (by omega) (tW hf hl' b).1 (tW hf hl' b).2 (by have:=w3;grind)
     refine hC _ _ (.three p q k hf hl' b u v w o (by omega) g1' g2' e p1 p2 p3 p4) fun x hx=>?_
     simp only[mem_cons,not_mem_nil,or_false]at hx
     rcases hx with rfl|rfl|rfl
     ·exact jw hg a ((ia (ja s2' sb)).mono (by decide))
     ·exact jw hg b' ((ia (ja sb s1')).mono (by decide))
     ·exact jw hg c ((ia (ja s1' s2')).mono (by decide))
    ·rw[vk (t:=[(q:Int),(p:Int),(k:Int)]) (pm.trans (List.Perm.swap _ _ _)) ps (by simp;omega)]
     refine⟨hs,[q,p,k],rfl,hh,.inr ⟨q,p,k,hl',hf,b,rfl,g2',g1',e,by omega,by omega,by omega,fun g u v w hg a b' c=>?_⟩⟩
     obtain⟨p1,p2,p3,p4⟩:=AM (p:=hl') (q:=hf) (r:=b) (A:=bJ b hf) (B:=bJ hl' b) (C:=bJ hf hl') (u:=u) (v:=v) (w:=w) hg (by omega) (by omega) (by omega) (by omega) (by omega) (by omega) (by have:=(tW hf hl' b).1;grind) (by have:=(tW hf hl' b).2;grind) (by have:=w3;grind)
     refine hC _ _ (.three q p k hl' hf b u v w (by omega) (by omega) g2' g1' e p1 p2 p3 p4) fun x hx=>?_
     simp only[mem_cons,not_mem_nil,or_false]at hx
     rcases hx with rfl|rfl|rfl
     ·exact jw hg a ((ia (ja s1' sb)).mono (by decide))
     ·exact jw hg b' ((ia (ja sb s2')).mono (by decide))
     ·exact jw hg c ((ia (ja s2' s1')).mono (by decide))
   ·
    intro i o g1 c ak;obtain⟨ik,g1'⟩:=qE g1;have no:=(hh o (mem_of_getElem? g1')).2;obtain⟨w1,w2,w3⟩:=Md nb no lo.1.1 lo.2.1 (hold o (mem_of_getElem? g1)) neg c ak;walk_at"db";rw[if_pos (by decide)]
    refine⟨by decide,?_⟩
    show iV _ ([(i:Int),(k:Int)].map T.int);rw[sU];refine⟨by simp,fun ms pm ps=>?_⟩
    rw[vk (t:=[(i:Int),(k:Int)]) pm ps (by simp;omega)]
    refine⟨hs,[i,k],rfl,hh,.inl ⟨i,k,o,b,rfl,g1',e,fun g u v hg a b'=>?_⟩⟩;obtain⟨p1,p2,p4⟩:=Kr (p:=o) (q:=b) (A:=ji b) (B:=ji o) hg a b' (pP nb) (pP no) w1 w2 w3;refine hC _ _ (.two i k o b u v ik g1' e p1 p2 p4) fun x hx=>?_;simp only[mem_cons,not_mem_nil,or_false]at hx
    rcases hx with rfl|rfl
    ·exact jw hg a (Am sb)
    ·exact jw hg b' (Am (hh o (mem_of_getElem? g1')).1)
   ·
    intro nz;have hm:∀ s p t q,f=some (s,p)->l=some (t,q)->jm s t:=fun s p t q e1 e2=>Int.not_lt.mp (nc s p t q e1 e2);have sp:=xq F L;have st:=Kq sb th F L;walk_at"db";rw[if_neg (by decide)]
    refine⟨b,f,l,rfl,nb,sb,sp,st,?_⟩;walk_at"db";refine⟨Kk b (fT f l),_,_,_,_,_,rfl,N2 nb sp,QC sb st,fun h hm'=>?_⟩;rw[fA e]at hm'
    rcases mem_append.mp hm' with z|z
    ·exact xV nb F L hm nz h z
    ·simp at z;subst z;exact B8 nb sp
  ·rename_i nn;have nn:0<=a5 b s:=by
    have:¬ a5 b s<0:=fun z=>nn (AJ.mpr z);omega
   refine⟨s,_,_,_,_,_,rfl,lo,sz,fun h hm=>?_⟩;rw[fA e]at hm
   rcases mem_append.mp hm with z|z
   ·exact hold h z
   ·simp at z;subst z;exact nn
 ·rintro δ ⟨s,r2,r3,r4,r5,r6,rfl,lo,sz,hold⟩;rw[List.take_length]at hold;walk_at"db";exact hS s lo sz hold
end Law
namespace Law
open L2 DL
def Q8 (f:Pt)(s:aS):Hf:=ML (f.1*(af s).2.2) (f.2*(af s).2.2) (f.1*(af s).1+f.2*(af s).2.1)
def kZ:aM:=fun ss R=>∃ (ps:List Pt) (s:aS),ss=[.t (.lst (ps.map aV)),.t (spT s)]/\ps.length<=1000/\(∀ p∈ps,SzF 120 p)/\fg 600 s/\R (.ol ((eZ s ps).map aV))
def eO:aM:=fun ss R=>∃ (vs:List Pt) (f:Pt),ss=[.t (.lst (vs.map aV)),.t (aV f)]/\vs.length<=1000/\(∀ p∈vs,SzF 1400 p)/\SzF 4300 f/\R (.t (.int (ahead vs f)))
def iJ:aM:=fun ss R=>∃ (w:Pt) (vs:List Pt),ss=[.t (aV w),.t (.lst (vs.map aV))]/\vs.length<=1000/\vs≠[]/\SzF 1400 w/\(∀ p∈vs,SzF 1400 p)/\∀ t:Int,(∀ v∈vs,aZ w v<t/\-t<aZ w v)->SzF 4300 (EE w t)->R (.t (aV (EE w t)))
def kT:aM:=fun ss R=>∃ vs:List Pt,ss=[.t (.lst (vs.map aV))]/\vs.length<=1000/\(∀ p∈vs,SzF 1400 p)/\∀ fs:List Pt,CA vs fs->(∀ f∈fs,SzF 4300 f)->R (.ol (fs.map aV))
def fQ:aM:=fun ss R=>∃ (f:Pt) (s:aS),ss=[.t (aV f),.t (spT s)]/\f≠(0,0)/\s.1.2≠0/\s.2.2≠0/\SzF 4300 f/\fg 600 s/\R (.t (bc (Q8 f s)))
def fP:aM:=fun ss R=>∃ (ps:List Pt) (s:aS),ss=[.t (.lst (ps.map aV)),.t (spT s)]/\ps≠[]/\ps.length<=1000/\(∀ p∈ps,SzF 120 p)/\fg 600 s/\s.1.2≠0/\s.2.2≠0 ∧
 ∀ f:Pt,f≠(0,0)->SzF 4300 f->ahead (eZ s ps) f=nX (eZ s ps)->R (.t (.tup [.int (nX (eZ s ps)),bc (Q8 f s)]))
def j5:WS:=
 (aC (aF 2 (aw bY (ac (ae 1) ap)))
 (bz (dQ 1 [2] (cm (ae 0)) (aG 0) nu (bZ (ac (cS (aU (ao aJ (ae 0) (wC (.int 0))) (ao aJ (ae 1) (wC (.int 2)))) (ao aJ (ae 1) (wC (.int 0)))) (ac (cS (aU (ao aJ (ae 0) (wC (.int 1))) (ao aJ (ae 1) (wC (.int 2)))) (ao aJ (ae 1) (wC (.int 1)))) ap))))))
def fv:WS:=
 (bz (eP dj (ac (dQ 1 [1] (cm (ae 0)) (aG 0) (wB (QV (aw cG (ac (ae 0) (ac (ae 1) ap))) (wC (.int 0)))) (ae 0)) ap)))
def gi:WS:=
 (aC (aF 2 (cE (wC (.int 1)) (eP KP (ac (dQ 1 [0] (cm (ae 1)) (aG 0) nu (eP iY (ac (aw cG (ac (ae 1) (ac (ae 0) ap))) ap))) ap))))
 (bz (bZ (ac (cS (aU (xF jd (ao aJ (ae 0) (wC (.int 1)))) (ae 2)) (ao aJ (ae 0) (wC (.int 0)))) (ac (cS (aU (ao aJ (ae 0) (wC (.int 0))) (ae 2)) (ao aJ (ae 0) (wC (.int 1)))) ap)))))
def jV:WS:=
 (aC (aF 1 (dQ 1 [0] (cm (ae 0)) (aG 0) (wB (ON (ae 0) (bZ (ac (wC (.int 0)) (ac (wC (.int 0)) ap))))) (aw iJ (ac (ae 0) (ac (ae 1) ap)))))
 (aC (fm 1 (bZ (ac (wC (.int 1)) (ac (wC (.int 0)) ap))))
 (jy 1)))
def eQ:WS:=
 (aC (aF 2 (aw bY (ac (ae 1) ap)))
 (bz (aw lU (ac (aU (ao aJ (ae 0) (wC (.int 0))) (ao aJ (ae 2) (wC (.int 2)))) (ac (aU (ao aJ (ae 0) (wC (.int 1))) (ao aJ (ae 2) (wC (.int 2)))) (ac (aw cG (ac (ae 0) (ac (ae 2) ap))) ap))))))
def oO:WS:=
 (aC (iW (wB (tm (eP dj (ac (ae 0) ap)) (wC (.int 0)))) nr bB)
 (aC (aF 2 (aw kZ (ac (ae 0) (ac (ae 1) ap))))
 (aC (aF 3 (vB (aw kT (ac (ae 2) ap)) 2 (aw eO (ac (ae 1) (ac (ae 0) ap)))))
 (bz (bZ (ac (aw eO (ac (ae 2) (ac (ae 3) ap))) (ac (aw fQ (ac (ae 3) (ac (ae 1) ap))) ap)))))))
theorem vq (h:fg 600 s):du 1200 (af s):=by
 obtain⟨⟨z1,z2⟩,z3,z4⟩:=h;exact⟨Sz.mul z1 z4,Sz.mul z3 z2,Sz.mul z2 z4⟩
theorem Ox (h:fg 600 s)(hp:SzF 120 p):SzF 1400 (hW (af s) p):=by
 obtain⟨y1,y2,y3⟩:=vq h;exact⟨(Sz.sub (Sz.mul hp.1 y3) y1).mono (by decide),(Sz.sub (Sz.mul hp.2 y3) y2).mono (by decide)⟩
theorem KB (h:fg 600 s)(hp:∀ p∈ps,SzF 120 p):∀ v∈eZ s ps,SzF 1400 v:=fun v hv=>by
 obtain⟨p,hm,rfl⟩:=mem_map.mp hv;exact Ox h (hp p hm)
theorem yR:Ok kZ j5 ["points","spot","here"]:=by
 rintro ss R ⟨ps,s,rfl,hl,hp,hs,h⟩;show j5 _ [some (.t (.lst (ps.map aV))),some (.t (spT s)),none]
 delta j5
 walk_at"d";refine⟨s,rfl,dq hs (by decide),?_⟩
 obtain⟨y1,y2,y3⟩:=vq hs;generalize hh:af s=hr at *;obtain⟨X,Y,B⟩:=hr;dsimp only at y1 y2 y3;walk_at"d";refine eU (f:=aV) (h:=fun p=>aV (hW (X,Y,B) p)) (l:=ps) (fun δ=>∃ r,δ=[r,some (.t (.tup [.int X,.int Y,.int B]))]) (fun _ _=>rfl) (by omega) ⟨_,rfl⟩ ?_ ?_
 ·rintro⟨x,y⟩ hm δ ⟨r,rfl⟩ Y' h1;obtain⟨z1,z2⟩:=hp _ hm;dsimp only at z1 z2;walk_at"go";exact h1 _ ⟨_,rfl⟩
 ·have e:(ps.map fun p=>aV (hW (X,Y,B) p))=(eZ s ps).map aV:=by unfold eZ;rw[map_map,hh];rfl
  rw[e];walk_at"d";exact h
theorem rB:Ok eO fv ["ways","facing"]:=by
 rintro ss R ⟨vs,⟨a,b⟩,rfl,hl,hp,⟨y1,y2⟩,h⟩;dsimp only at y1 y2;show fv _ [some (.t (.lst (vs.map aV))),some (.t (.tup [.int a,.int b]))]
 delta fv
 walk_at"d";refine eT (f:=aV) (h:=aV) (p:=fun v=>decide (0<=aZ v (a,b))) (fun δ=>∃ r,δ=[r,some (.t (.tup [.int a,.int b]))]) (fun p _=>AD p) (by omega) ⟨_,rfl⟩ ?_ ?_
 ·rintro⟨x,y⟩ hm δ ⟨r,rfl⟩ Y N h1 h2;obtain⟨z1,z2⟩:=hp _ hm;dsimp only at z1 z2;walk_at"d";refine⟨x,y,a,b,[],[],rfl,z1.mono (by decide),z2.mono (by decide),y1.mono (by decide),y2.mono (by decide),?_⟩
  walk_at"d"
  split
  ·rename_i hc;exact h1 _ ⟨_,rfl⟩ (by rw[decide_eq_true_eq];exact hc)
  ·rename_i hc;exact h2 _ ⟨_,rfl⟩ (by rw[decide_eq_false_iff_not];exact hc)
 ·walk_at"d";rw[length_map,<-countP_eq_length_filter];exact h
theorem uT:Ok iJ gi ["way","ways","thin"]:=by
 rintro ss R ⟨⟨a,b⟩,vs,rfl,hl,hne,⟨y1,y2⟩,hp,h⟩;dsimp only at y1 y2;show gi _ [some (.t (.tup [.int a,.int b])),some (.t (.lst (vs.map aV))),none]
 delta gi
 walk_at"d";refine eU (f:=aV) (h:=fun v=>T.int (if aZ (a,b) v<0 then -aZ (a,b) v else aZ (a,b) v)) (l:=vs) (fun δ=>∃ r,δ=[r,some (.t (.tup [.int a,.int b]))]) (fun _ _=>rfl) (by omega) ⟨_,rfl⟩ ?_ ?_
 ·rintro⟨x,y⟩ hm δ ⟨r,rfl⟩ Y h1;obtain⟨z1,z2⟩:=hp _ hm;dsimp only at z1 z2;walk_at"d";refine⟨a,b,x,y,[],[],rfl,y1.mono (by decide),y2.mono (by decide),z1.mono (by decide),z2.mono (by decide),?_⟩
  walk_at"d";exact h1 _ ⟨_,rfl⟩
 ·have e:(vs.map fun v=>T.int (if aZ (a,b) v<0 then -aZ (a,b) v else aZ (a,b) v))=(vs.map fun v=>(if aZ (a,b) v<0 then -aZ (a,b) v else aZ (a,b) v)).map T.int:=by rw[map_map];rfl
  rw[e];walk_at"d";rw[Bl];refine⟨by simpa using hne,fun m hm hall=>?_⟩
  have sm:Sz 2801 m:=by
   obtain⟨v,hv,rfl⟩:=mem_map.mp hm;obtain⟨z1,z2⟩:=hp _ hv;have sd:Sz 2801 (aZ (a,b) v):=(Sz.add (Sz.mul y1 z1) (Sz.mul y2 z2)).mono (by decide)
   split
   ·exact Sz.neg sd
   ·exact sd
  have st:Sz 2802 (1+m):=by
   have:Sz 2801 (1:Int):=⟨by decide⟩
   exact(Sz.add this sm).mono (by decide)
  have hb:∀ v∈vs,aZ (a,b) v<1+m/\-(1+m)<aZ (a,b) v:=fun v hv=>by
   have:(if aZ (a,b) v<0 then -aZ (a,b) v else aZ (a,b) v)<=m:=hall _ (mem_map.mpr ⟨v,hv,rfl⟩)
   split at this <;> omega
  have hz:SzF 4300 (EE (a,b) (1+m)):=⟨(Sz.sub (Sz.mul (Sz.neg y2) st) y1).mono (by decide),(Sz.sub (Sz.mul y1 st) y2).mono (by decide)⟩
  have fin:=h (1+m) hb hz;walk_at"go";exact fin
theorem yJ:Ok kT jV ["ways","found"]:=by
 rintro ss R ⟨vs,rfl,hl,hp,h⟩;show jV _ [some (.t (.lst (vs.map aV))),none]
 delta jV
 walk_at"d";refine⟨fun ts δ acc=>∃ pre post fs r,vs=pre++post/\ts=post.map aV/\δ=[r,some (.t (.lst (vs.map aV)))]/\acc=fs.map aV/\fs.length<=pre.length/\(∀ f∈fs,f≠(0,0)/\SzF 4300 f)/\∀ w∈pre,w≠(0,0)->∃ f∈fs,ahead vs f=vs.countP (w8 w),⟨[],vs,[],_,rfl,rfl,rfl,rfl,le_refl _,fun f hf=>(by cases hf),fun w hw=>(by cases hw)⟩,?_,?_⟩
 ·rintro δ acc ⟨pre,post,fs,r,e1,e2,rfl,rfl,hlen,hfs,hall⟩;have:post=[]:=by simpa using e2.symm
  subst this;rw[append_nil]at e1;subst e1;have dummy:Sz 1 0:=⟨by decide⟩
  walk_at"d";have e:fs.map aV++[T.tup [.int 1,.int 0]]=(fs++[(1,0)]).map aV:=by rw[map_append];rfl
  refine⟨by rw[length_map];omega,?_⟩
  rw[e];refine h (fs++[(1,0)]) ⟨fun f hf=>?_,by simp,fun w hw hn=>?_⟩ fun f hf=>?_
  ·rcases mem_append.mp hf with z|z
   ·exact(hfs f z).1
   ·simp at z;subst z;decide
  ·obtain⟨f,hf,e⟩:=hall w hw hn;exact⟨f,mem_append_left _ hf,e⟩
  ·rcases mem_append.mp hf with z|z
   ·exact(hfs f z).2
   ·simp at z;subst z;exact⟨⟨by decide⟩,⟨by decide⟩⟩
 ·rintro x r δ acc ⟨pre,post,fs,r0,e1,e2,rfl,rfl,hlen,hfs,hall⟩
  cases post with
  | nil=>cases e2
  | cons w post=>
   rw[map_cons]at e2
   cases e2
   have hw:w∈vs:=by rw[e1];simp
   have hlv:vs.length=pre.length+(post.length+1):=by rw[e1];simp
   obtain⟨a,b⟩:=w;walk_at"d"
   split
   ·rename_i hc;have hn:((a,b):Pt)≠(0,0):=fun z=>by
     cases z
     simp at hc
    refine⟨(a,b),vs,rfl,hl,List.ne_nil_of_mem hw,hp _ hw,hp,fun t ht hz=>?_⟩;show rZ _ (.t (aV (EE (a,b) t)));rw[Ah];refine⟨rfl,by rw[length_map];omega,pre++[(a,b)],post,fs++[EE (a,b) t],_,by rw[e1];simp,rfl,rfl,by rw[map_append];rfl,by simp;omega,fun f hf=>?_,fun u hu hun=>?_⟩
    ·rcases mem_append.mp hf with z|z
     ·exact hfs f z
     ·have z:=mem_singleton.mp z;subst z;exact⟨P4 hn,hz⟩
    ·rcases mem_append.mp hu with z|z
     ·obtain⟨f,hf,e⟩:=hall u z hun;exact⟨f,mem_append_left _ hf,e⟩
     ·have z:=mem_singleton.mp z;subst z;exact⟨EE (a,b) t,by simp,CP ht⟩
   ·rename_i hc;have hz:a=0/\b=0:=by simpa using hc
    refine⟨pre++[(a,b)],post,fs,_,by rw[e1];simp,rfl,rfl,rfl,by simp;omega,hfs,fun u hu hun=>?_⟩
    rcases mem_append.mp hu with z|z
    ·exact hall u z hun
    ·have z:=mem_singleton.mp z;subst z;exact absurd (Prod.ext hz.1 hz.2) hun
theorem pX:Ok fQ eQ ["facing","spot","here"]:=by
 rintro ss R ⟨⟨a,b⟩,s,rfl,hf,h1,h2,⟨z1,z2⟩,hs,h⟩;dsimp only at z1 z2;show eQ _ [some (.t (.tup [.int a,.int b])),some (.t (spT s)),none]
 delta eQ
 walk_at"d";refine⟨s,rfl,dq hs (by decide),?_⟩
 obtain⟨y1,y2,y3⟩:=vq hs;have hB:(af s).2.2≠0:=fun z=>by
  rcases mul_eq_zero.mp (show s.1.2*s.2.2=0 from z) with e|e
  ·exact h1 e
  ·exact h2 e
 unfold Q8 at h;generalize af s=hr at *;obtain⟨X,Y,B⟩:=hr;dsimp only at y1 y2 y3 hB h;walk_at"go";refine⟨a,b,X,Y,[],[.int B],rfl,z1.mono (by decide),z2.mono (by decide),y1.mono (by decide),y2.mono (by decide),?_⟩
 walk_at"d";refine⟨_,_,_,rfl,?_,⟨(Sz.mul z1 y3).mono (by decide),(Sz.mul z2 y3).mono (by decide),(Sz.add (Sz.mul z1 y1) (Sz.mul z2 y2)).mono (by decide)⟩,h⟩
 by_cases e:a=0
 ·right
  intro q
  rcases mul_eq_zero.mp q with q|q
  ·exact hf (Prod.ext e q)
  ·exact hB q
 ·left
  intro q
  rcases mul_eq_zero.mp q with q|q
  ·exact e q
  ·exact hB q
theorem AS:∀ fs:List Pt,tups (fs.map aV)=true
 | []=>rfl
 | p::r=>by rw[map_cons];show tups (T.tup _::_)=true;unfold tups;rw[AS r];rfl
def Sf:T->Pt
 | .tup [.int a,.int b]=>(a,b)
 | _=>(0,0)
theorem Gf:Ok fP oO ["points","spot","ways","emptiest"]:=by
 rintro ss R ⟨ps,s,rfl,hne,hl,hp,hs,h1,h2,h⟩;show oO _ [some (.t (.lst (ps.map aV))),some (.t (spT s)),none,none]
 delta oO
 have hlen:((ps.map aV).length:Int)≠0:=by
  rw[length_map];have:=length_pos_iff.mpr hne;omega
 walk_at"d";rw[if_neg (by simpa using hlen)]
 refine⟨ps,s,rfl,hl,hp,hs,?_⟩;have hw:=KB hs hp;have hwl:(eZ s ps).length<=1000:=by unfold eZ;rw[length_map];exact hl
 walk_at"d";refine⟨eZ s ps,rfl,hwl,hw,fun fs hF hfs=>?_⟩;walk_at"d";refine⟨fs.map aV,fun t=>(ahead (eZ s ps) (Sf t):Int),.ol ((eZ s ps).map aV),rfl,fun z=>hF.2.1 (List.map_eq_nil_iff.mp z),AS fs,rfl,fun t ht=>?_,fun t ht hmin=>?_⟩
 ·obtain⟨f,hf,rfl⟩:=mem_map.mp ht;walk_at"d";refine⟨eZ s ps,f,rfl,hwl,hw,hfs f hf,?_⟩
  rfl
 ·obtain⟨f,hf,rfl⟩:=mem_map.mp ht;have hd:=yh hF hf fun g hg=>by
   have:(ahead (eZ s ps) f:Int)<=(ahead (eZ s ps) g:Int):=hmin _ (mem_map.mpr ⟨g,hg,rfl⟩);omega
  have e:=ya hd;walk_at"d";refine⟨eZ s ps,f,rfl,hwl,hw,hfs f hf,?_⟩;walk_at"d";refine⟨f,s,rfl,hF.1 f hf,h1,h2,hfs f hf,hs,?_⟩;have fin:=h f (hF.1 f hf) (hfs f hf) e.symm;rw[e]at fin;walk_at"d";exact fin
end Law
namespace Law
open L2 DL
set_option maxHeartbeats 4000000
inductive nA (G:Hf->Prop):List Hf->List Int->Prop
 | two (p q:Hf) (u v:Int):G p->G q->0<u->0<v->Ln p q u v->nA G [p,q] [u,v]
 | three (p q r:Hf) (u v w:Int):G p->G q->G r->0<u->0<v->0<w->Lo p q r u v w->nA G [p,q,r] [u,v,w]
def Lm (ps:List Pt)(k:Nat)(h:Hf):Prop:=fW ps h/\ps.length+1<=fZ h ps+k
theorem vV (C:nA G hs ws)(zc:0<c.2.2)(h:∀ l,G l->0<=aR l c):False:=by
 cases C with
 | two p q u v gp gq u0 v0 s=>
  obtain⟨s1,s2,s3⟩:=s;have a:=mul_nonneg (le_of_lt u0) (h p gp);have b:=mul_nonneg (le_of_lt v0) (h q gq);have e:u*aR p c+v*aR q c=(u*p.1+v*q.1)*c.1+(u*p.2.1+v*q.2.1)*c.2.1-(u*p.2.2+v*q.2.2)*c.2.2:=by unfold aR;grind
  rw[s1,s2]at e;have:=mul_pos s3 zc;omega
 | three p q r u v w gp gq gr u0 v0 w0 s=>
  obtain⟨s1,s2,s3⟩:=s;have a:=mul_nonneg (le_of_lt u0) (h p gp);have b:=mul_nonneg (le_of_lt v0) (h q gq);have d:=mul_nonneg (le_of_lt w0) (h r gr);have e:u*aR p c+v*aR q c+w*aR r c=(u*p.1+v*q.1+w*r.1)*c.1+(u*p.2.1+v*q.2.1+w*r.2.1)*c.2.1-(u*p.2.2+v*q.2.2+w*r.2.2)*c.2.2:=by unfold aR;grind
  rw[s1,s2]at e;have:=mul_pos s3 zc;omega
theorem Ii (hG:∀ h∈hs,G h)(C:AW hs pl ws):∃ gs:List Hf,nA G gs ws/\pl.map (fun i=>hs[i]?)=gs.map some:=by
 cases C with
 | two i j p q u v hij ei ej u0 v0 s=>exact⟨[p,q],.two p q u v (hG p (mem_of_getElem? ei)) (hG q (mem_of_getElem? ej)) u0 v0 s,by simp[ei,ej]⟩
 | three i j k p q r u v w hij hjk ei ej ek u0 v0 w0 s=>exact⟨[p,q,r],.three p q r u v w (hG p (mem_of_getElem? ei)) (hG q (mem_of_getElem? ej)) (hG r (mem_of_getElem? ek)) u0 v0 w0 s,by simp[ei,ej,ek]⟩
structure Cz (ps:List Pt) (k:Nat) (s:aS):Prop where
 k1:1<=k
 kn:k<=ps.length
 ok:bA s
 sz:fg 5000 s
 dep:nX (ps.map (hW (af s)))=k
 top:∀ c:Hf,0<c.2.2->nX (ps.map (hW c))<=k
def fO:aM:=fun ss R=>∃ ps:List Pt,ss=[.t (.lst (ps.map aV))]/\ps≠[]/\ps.length<=6/\(∀ p∈ps,SzF 100 p)/\∀ k s x y,Cz ps k s->R (.t (.tup [.int (k:Int),spT s,.lst x,.lst y]))
def jT:WS:=
 (aC (xy (aw bf (ac (ae 0) ap)))
 (aC (aF 1 (eP dj (ac (ae 0) ap)))
 (aC (aF 2 (jx ap))
 (aC (aF 3 (jx ap))
 (aC (aF 4 (aw eB (ac (ae 0) (ac (wC (.int 1)) ap))))
 (aC (aF 5 (aw fy (ac (ae 4) ap)))
 (b9 (qG (wB (tm (ao aJ (ae 5) (wC (.int 0))) (wC (.str "none")))) (aC (aF 2 (dQ 1 [4] (cm (ao aJ (ae 5) (wC (.int 1)))) (aG 0) nu (ao aJ (ae 1) (ae 0))))
 (aC (aF 3 (ao aJ (ae 5) (wC (.int 2))))
 (aC (aF 1 (cS (ae 1) (wC (.int 1))))
 (aC (aF 4 (aw eB (ac (ae 0) (ac (cE (cS (eP dj (ac (ae 0) ap)) (ae 1)) (wC (.int 1))) ap))))
 (aF 5 (aw fy (ac (ae 4) ap))))))))
 (He (bZ (ac (ae 1) (ac (ao aJ (ae 5) (wC (.int 1))) (ac (ae 2) (ac (ae 3) ap)))))))))))))
theorem BR (hz:∀ p∈ps,SzF 110 p)(hk1:1<=k)(hk:k<=ps.length)(C:nA (Lm ps k) hs ws):∀ c:Hf,0<c.2.2->nX (ps.map (hW c))<k:=fun c zc=>by
 rcases lt_or_ge (nX (ps.map (hW c))) k with z|z
 ·exact z
 ·exact(vV C zc fun l hl=>(tZ hz zc hk hk1).mp z l hl.1 hl.2).elim
def Ls (v:S)(ts:List T):Prop:=v=.ol ts\/v=.t (.lst ts)
theorem Aa (a b:PySem.Str)(R:S->Prop):dU (.t (.str a)) (.t (.str b)) R=R (.t (.bl (a == b))):=by
 show(dep (.str a)<=20/\dep (.str b)<=20/\R (.t (.bl (a == b))))=_;exact propext ⟨fun h=>h.2.2,fun h=>⟨zero_le _,zero_le _,h⟩⟩
theorem M8 (h:OB s):bA s:=⟨⟨h.1.1,h.1.2⟩,⟨h.2.1,h.2.2⟩⟩
theorem yH:Ok fO jT ["points","k","halves","weights","asked","told"]:=by
 rintro ss R ⟨ps,rfl,hne,hl,hz,h⟩;obtain⟨p0,pr,rfl⟩:∃ p0 pr,ps=p0::pr:=by
  cases ps with
  | nil=>exact absurd rfl hne
  | cons a b=>exact⟨a,b,rfl⟩
 show jT _ [some (.t (.lst ((p0::pr).map aV))),none,none,none,none,none]
 delta jT
 have hp0:p0∈p0::pr:=mem_cons_self;generalize hps:p0::pr=ps at *;have hlen:1<=ps.length:=by rw[<-hps];simp
 have hnp:∀ R:S->Prop,R (.t .non)->bf [.t (.lst (ps.map aV))] R:=fun R hR=>⟨aV p0,pr.map aV,by rw[<-hps];rfl,hR⟩
 have hz':∀ p∈ps,SzF 110 p:=fun p hp=>(hz p hp).mono3 (by decide)
 have dummy:Sz 1 0:=⟨by decide⟩
 walk_at"d";refine hnp _ ?_;walk_at"d";refine⟨ps,1,rfl,hne,hl,hz,fun hs0 hB0=>?_⟩;have gh:∀ l:List Hf,got (.ol (l.map bc))=.ol (l.map bc):=fun l=>fb _ (bI (fun _=>rfl) l);dsimp only;rw[gh];have mem:∀ (k:Nat) (hs:List Hf),kc ps hs->∀ l∈mo ((ps.length:Int)-k+1) ps hs,Lm ps k l:=fun k hs hB l hl=>by
  unfold mo at hl;rw[mem_filter,hB.1,decide_eq_true_eq]at hl;exact⟨hl.1,by omega⟩
 have all:∀ (k:Nat) (hs:List Hf),kc ps hs->∀ l,Lm ps k l->l∈mo ((ps.length:Int)-k+1) ps hs:=fun k hs hB l hl=>by
  unfold mo;rw[mem_filter,hB.1,decide_eq_true_eq];exact⟨hl.1,by have:=hl.2;omega⟩
 have oks:∀ (k:Nat) (hs:List Hf),kc ps hs->(∀ l∈mo ((ps.length:Int)-k+1) ps hs,du 400 l/\Nz l)/\(mo ((ps.length:Int)-k+1) ps hs).length<=1000:=fun k hs hB=>by
  refine⟨fun l hl=>?_,le_trans (le_trans (length_filter_le ..) hB.2) (by decide)⟩
  have:=lg hz' (mem k hs hB l hl).1;exact⟨lY this.1 (by decide),this.2⟩
 let Td:Nat->List Hf->T->Prop:=fun k st t=>(∃ s:aS,t=.tup [.str "spot",spT s]/\OB s/\fg 5000 s/\∀ h∈st,0<=a5 h s)\/∃ pl ws,t=nQ pl ws/\AW st pl ws/\∀ w∈ws,Sz 5000 w
 let HW:Nat->S->S->Prop:=fun k v2 v3=>∃ (gs:List Hf) (ws:List Int),Ls v2 (gs.map bc)/\Ls v3 (ws.map .int)/\(∀ w∈ws,Sz 5000 w)/\((k=ps.length/\gs=[]/\ws=[]/\v2=.ol []/\v3=.ol [])\/(k<ps.length/\nA (Lm ps (k+1)) gs ws))
 let SP:Nat->a8->Prop:=fun k δ=>∃ (s:aS) (v2 v3 v4:S),δ=[some (.t (.lst (ps.map aV))),some (.t (.int (k:Int))),some v2,some v3,some v4,some (.t (.tup [.str "spot",spT s]))]/\OB s/\fg 5000 s/\(∀ l,Lm ps k l->0<=a5 l s)/\HW k v2 v3/\1<=k/\k<=ps.length
 let NO:Nat->a8->Prop:=fun k δ=>∃ (hs:List Hf) (pl:List Nat) (ws:List Int) (v2 v3:S),δ=[some (.t (.lst (ps.map aV))),some (.t (.int (k:Int))),some v2,some v3,some (.t (.lst ((mo ((ps.length:Int)-k+1) ps hs).map bc))),some (.t (nQ pl ws))]/\kc ps hs/\AW (mo ((ps.length:Int)-k+1) ps hs) pl ws/\(∀ w∈ws,Sz 5000 w)/\1<=k/\k<=ps.length
 let I:Nat->a8->Prop:=fun k δ=>SP k δ\/NO k δ
 have inI:∀ (k:Nat) (hs:List Hf) (t:T) (v2 v3 v4:S) (o:Option S),kc ps hs->Td k (mo ((ps.length:Int)-k+1) ps hs) t->HW k v2 v3->1<=k->k<=ps.length->(v4=.ol ((mo ((ps.length:Int)-k+1) ps hs).map bc)\/v4=.t (.lst ((mo ((ps.length:Int)-k+1) ps hs).map bc)))->I k (setS 5 (norm t) [some (.t (.lst (ps.map aV))),some (.t (.int (k:Int))),some v2,some v3,some v4,o]):=by
  rintro k hs t v2 v3 v4 o hB ht ⟨gs,ws',l2,l3,zw',hc⟩ hk1 hkn h4
  rcases ht with ⟨s,rfl,lo,sz,hh⟩|⟨pl,ws,rfl,C,zw⟩
  ·rw[fj (x:=.tup [.str "spot",spT s]) rfl];exact .inl ⟨s,v2,v3,v4,rfl,lo,sz,fun l hl=>hh l (all k hs hB l hl),⟨gs,ws',l2,l3,zw',hc⟩,hk1,hkn⟩
  ·have en:norm (nQ pl ws)=.vt (nQ pl ws):=rfl;rw[en];refine .inr ⟨hs,pl,ws,eG v2,eG v3,?_,hB,C,zw,hk1,hkn⟩
   rcases h4 with rfl|rfl <;> rfl
 have one:∀ hs ws,¬ nA (Lm ps 1) hs ws:=fun hs ws C=>vV C (c:=fl p0) (show(0:Int)<1 by decide) fun l hl=>by
  have hm:=hl.2;have hle:fZ l ps<=ps.length:=List.countP_le_length;have he:fZ l ps=ps.length:=by omega
  exact(ue l p0).mp (List.countP_eq_length.mp he p0 hp0)
 have shd:∀ (k:Nat) (hs:List Hf),kc ps hs->∀ R':S->Prop,(∀ t,Td k (mo ((ps.length:Int)-k+1) ps hs) t->R' (.t t))->fy [.t (.lst ((mo ((ps.length:Int)-k+1) ps hs).map bc))] R':=fun k hs hB R' hR=>by
  obtain⟨o1,o2⟩:=oks k hs hB;exact⟨_,rfl,o1,o2,fun s lo sz hh=>hR _ (.inl ⟨s,rfl,lo,sz,hh⟩),fun pl ws C zw=>hR _ (.inr ⟨pl,ws,rfl,C,zw⟩)⟩
 have e1:(1:Int)=(ps.length:Int)-(ps.length:Nat)+1:=by omega
 have e0:mo 1 ps hs0=mo ((ps.length:Int)-(ps.length:Nat)+1) ps hs0:=congrArg (fun i=>mo i ps hs0) e1;rw[e0];walk_at"d";refine shd ps.length hs0 hB0 _ fun t ht=>?_;rw[show got (.t t)=norm t from rfl];walk_at"d";rw[length_map]
 let M:a8->Prop:=fun δ=>∃ k,SP k δ
 refine⟨M,⟨I,⟨ps.length,inI ps.length hs0 t _ _ _ _ hB0 ht ⟨[],[],.inl rfl,.inl rfl,fun w hw=>(by cases hw),.inl ⟨rfl,rfl,rfl,rfl,rfl⟩⟩ hlen (le_refl _) (by first|exact .inl rfl|exact .inr rfl)⟩,?_⟩,?_⟩
 ·rintro k δ (⟨s,v2,v3,v4,rfl,lo,sz,hh,hw,hk1,hkn⟩|⟨hs,pl,ws,v2,v3,rfl,hB,C,zw,hk1,hkn⟩)
  ·walk_at"d";rw[Aa];walk_at"d";exact⟨k,s,v2,v3,v4,rfl,lo,sz,hh,hw,hk1,hkn⟩
  ·obtain⟨gs,cg,_⟩:=Ii (mem k hs hB) C;have k2:2<=k:=by
    rcases lt_or_ge 1 k with z|z
    ·exact z
    ·have:k=1:=by omega
     subst this;exact(one _ _ cg).elim
   have ek:((List.map aV ps).length:Int)-((k:Int)-1)+1=(ps.length:Int)-((k-1:Nat):Int)+1:=by rw[length_map];omega
   have ek2:(k:Int)-1=((k-1:Nat):Int):=by omega
   have go:∀ gs':List Hf,nA (Lm ps k) gs' ws->eB [S.t (T.lst (List.map aV ps)),S.t (T.int (((List.map aV ps).length:Int)-((k:Int)-1)+1))] fun s=>
    look 4 (setS 4 (got s) [some (S.t (T.lst (List.map aV ps))),some (S.t (T.int ((k:Int)-1))),some (S.ol (gs'.map bc)),some (S.t (T.lst (List.map T.int ws))),some (S.t (T.lst (List.map bc (mo ((ps.length:Int)-k+1) ps hs)))),some (S.t (T.tup [T.str (PySem.Str.ofString "none"),T.lst (List.map wA pl),T.lst (List.map T.int ws)]))]) fun s_1=>
     fy [nE (seen s_1)] fun s_2=>∃ m,m<k/\I m (setS 5 (got s_2) (setS 4 (got s) [some (S.t (T.lst (List.map aV ps))),some (S.t (T.int ((k:Int)-1))),some (S.ol (gs'.map bc)),some (S.t (T.lst (List.map T.int ws))),some (S.t (T.lst (List.map bc (mo ((ps.length:Int)-k+1) ps hs)))),some (S.t (T.tup [T.str (PySem.Str.ofString "none"),T.lst (List.map wA pl),T.lst (List.map T.int ws)]))])):=fun gs' cg'=>by
    rw[ek,ek2];refine⟨ps,_,rfl,hne,hl,hz,fun hs1 hB1=>?_⟩;dsimp only;rw[gh];walk_at"d";refine shd (k-1) hs1 hB1 _ fun t ht=>?_;rw[show got (.t t)=norm t from rfl];exact⟨k-1,by omega,inI (k-1) hs1 t _ _ _ _ hB1 ht ⟨gs',ws,.inl rfl,.inr rfl,zw,.inr ⟨by omega,by rw[show k-1+1=k by omega];exact cg'⟩⟩ (by omega) (by omega) (.inl rfl)⟩
   unfold nQ;walk_at"d";rw[Aa];walk_at"d";rw[if_pos (by decide)]
   cases C with
   | two i j p q u v hij e1 e2 u0 v0 sm=>
    show pc _ _ _ [.int (i:Int),.int (j:Int)] _ _;refine lm ?_;walk_at"d";rw[cu e1];walk_at"d";refine⟨by simp,?_⟩
    rw[cu e2];walk_at"d";refine⟨by simp,?_⟩
    exact go [p,q] (.two p q u v (mem k hs hB p (mem_of_getElem? e1)) (mem k hs hB q (mem_of_getElem? e2)) u0 v0 sm)
   | three i j l p q r u v w hij hjk e1 e2 e3 u0 v0 w0 sm=>
    show pc _ _ _ [.int (i:Int),.int (j:Int),.int (l:Int)] _ _;refine lm ?_;walk_at"d";rw[cu e1];walk_at"d";refine⟨by simp,?_⟩
    rw[cu e2];walk_at"d";refine⟨by simp,?_⟩
    rw[cu e3];walk_at"d";refine⟨by simp,?_⟩
    exact go [p,q,r] (.three p q r u v w (mem k hs hB p (mem_of_getElem? e1)) (mem k hs hB q (mem_of_getElem? e2)) (mem k hs hB r (mem_of_getElem? e3)) u0 v0 w0 sm)
 ·rintro δ ⟨k,s,v2,v3,v4,rfl,lo,sz,hh,⟨gs,ws,l2,l3,zw,hc⟩,hk1,hkn⟩;have zc:0<(af s).2.2:=mul_pos lo.1.1 lo.2.1;have ge:k<=nX (ps.map (hW (af s))):=(tZ hz' zc hkn hk1).mpr fun l b m=>by
   have:=hh l ⟨b,m⟩;rw[mI]at this;exact this
  have top:∀ c:Hf,0<c.2.2->nX (ps.map (hW c))<=k:=fun c zc=>by
   rcases hc with ⟨rfl,_⟩|⟨lt,C⟩
   ·exact zS ps c
   ·exact le_of_lt_succ (BR hz' (by omega) (by omega) C c zc)
  have fin:=fun x y=>h k s x y ⟨hk1,hkn,M8 lo,sz,Nat.le_antisymm (top _ zc) ge,top⟩
  rcases l2 with rfl|rfl <;> rcases l3 with rfl|rfl
  all_goals(
   walk_at"d";exact fin (gs.map bc) (ws.map .int))
end Law
set_option maxHeartbeats 3200000
namespace ST
open PySem PySem.W PyProof.Rows
section
variable {prog:Program}{w:World}{A:Around}{E:Value->Shared->Prop}{s:Shared}
theorem rF (hx:IsTupleKey (ik prog w) s.heap x a)(hy:IsTupleKey (ik prog w) s.heap y b)(hl:x.length=y.length)(h:P (.done (.ret (.bool (lexB x y)))) s) :
  wpAny (model prog w) A (Builtin.«tuple.__lt__» ⟨[.ref a,.ref b],[]⟩) P E s:=by
 have hTb:=hy.typeIs;obtain⟨oa,xs,na,hoa,_,hda,hia⟩:=hx;obtain⟨ob,ys,nb,hob,_,hdb,hib⟩:=hy;show wpAny _ _ (isInstance (.ref b) (.type "tuple") >>= _) _ _ s;refine wpAny_bind (wpAny_isInstance hTb isSubtype_tuple_tuple ?_);simp only[Bool.not_true,Bool.false_eq_true,if_false];refine wpAny_bind (wpAny_tupleItemsOf hoa hda ?_);refine wpAny_bind (wpAny_tupleItemsOf hob hdb ?_);refine wpAny_bind ?_;refine wpAny_forIn_list _
  (fun rest r s'=>r.1=none/\s'=s/\∃ x' y' xs' ys',rest=List.zip xs' ys'/\ItemsAre (ik prog w) x' xs'/\ItemsAre (ik prog w) y' ys'/\lexB x' y'=lexB x y/\x'.length=y'.length)
  _ ?_ ?_ _ _ ⟨rfl,rfl,x,y,xs.toList,ys.toList,rfl,hia,hib,rfl,hl⟩
 ·rintro⟨u,v⟩ rest r s' ⟨hr,rfl,x',y',xs',ys',hz,hx',hy',hdec,hlen⟩
  cases hx' with
  | nil=>simp at hz
  | @cons k1 u' x'' xs'' h1 hx''=>
   cases hy' with
   | nil=>simp at hz
   | @cons k2 v' y'' ys'' h2 hy''=>
    simp only[List.zip_cons_cons,List.cons.injEq,Prod.mk.injEq]at hz;obtain⟨⟨rfl,rfl⟩,rfl⟩:=hz;obtain⟨t,rfl⟩:=Value.isInt_shape h1;obtain⟨t',rfl⟩:=Value.isInt_shape h2;refine wpAny_bind (wpAny_eqBool_int ?_)
    by_cases hk:k1=k2
    ·subst hk;rw[beq_self_eq_true];simp only[Bool.not_true,Bool.false_eq_true,if_false];refine wpAny_pure ⟨rfl,rfl,x'',y'',xs'',ys'',rfl,hx'',hy'',?_,by simpa using hlen⟩
     rw[<-hdec];simp[lexB]
    ·rw[beq_eq_false_iff_ne.mpr hk];simp only[Bool.not_false,if_true];have hf:lexB x y=decide (k1<k2):=by rw[<-hdec];simp[lexB,hk]
     rw[hf]at h;refine wpAny_bind (wpAny_rule ?_);refine wpAny_bind (show wpAny _ _ (compareOp .Lt (Value.int k1 t) (Value.int k2 t')) _ _ _ from wpAny_lt_int ?_);exact wpAny_bind (wpAny_pure (wpAny_pure (wpAny_pure h)))
 ·rintro⟨r1,r2⟩ s' ⟨hr,rfl,x',y',xs',ys',hz,hx',hy',hdec,hlen⟩;simp only at hr;subst hr;refine wpAny_pure ?_;have e0:lexB x y=false:=by
   rw[<-hdec]
   cases hx' with
   | nil=>
    cases hy' with
    | nil=>rfl
    | cons _ _=>simp at hlen
   | cons _ _=>
    cases hy' with
    | nil=>simp at hlen
    | cons _ _=>simp at hz
  have e1:xs.size=ys.size:=by
   have e1:=hia.length;have e2:=hib.length;simp only[length_toList]at e1 e2;omega
  rw[e0]at h;rw[show Builtin.Tuple.tupleCompareSizes CmpOp.Lt xs.size ys.size=.bool false by rw[e1];unfold Builtin.Tuple.tupleCompareSizes;simp]
  exact h
theorem nR (hu:A.units<cLine)(hx:IsTupleKey (ik prog w) s.heap x a)(hy:IsTupleKey (ik prog w) s.heap y b)(hl:x.length=y.length)(h:Q (lexB x y) s) :
  wpAny (model prog w) A (oneLt' false (.ref a) (.ref b)) Q E s:=
 kat_one _ _ (show wpAny _ _ (richCompare .Lt _ _) _ _ _ from wpAny_richCompare_same_room (op:=.Lt) hx.typeIs hy.typeIs F.slot_tuple_lt
  (wpAny_call_entry F.slot_tuple_lt hx.typeIs F.entry_tuple_lt (rF hx hy hl ⟨_,rfl,(fun e=>nomatch e),h⟩) (F.args_tuple_lt_2 _ _)) hu)
def IsNest (prog:Program) (w:World) (h:Heap) (ks:List Int) (ad:Addr):Prop:=∃ o items n u v a b c d,ks=[a,b,c,d]/\h.get? ad=some o/\o.cls=.type "tuple"/\o.data=.seq items n/\items.toList=[Value.ref u,.ref v]/\IsTupleKey (ik prog w) h [a,b] u/\IsTupleKey (ik prog w) h [c,d] v
theorem yq {h h3:Heap}{a:Addr}{o:Obj} (ho:h.get? a=some o) (hc:o.cls=.type "list") (k3:∀ b o,b≠a->h.get? b=some o->h3.get? b=some o) {b:Addr}{o':Obj} (hb:h.get? b=some o') (hc':o'.cls=.type "tuple"):h3.get? b=some o':=k3 b o' (fun e=>by
 rw[e,ho]at hb;obtain rfl:=Option.some.inj hb;rw[hc]at hc';exact absurd hc' (by decide)) hb
theorem uS {h h3:Heap}{a:Addr}{o:Obj} (ho:h.get? a=some o) (hc:o.cls=.type "list") (k3:∀ b o,b≠a->h.get? b=some o->h3.get? b=some o) {ks:List Int}{ad:Addr} (x:IsNest prog w h ks ad):IsNest prog w h3 ks ad:=by
 obtain⟨o1,it,n,u,v,a1,b1,c1,d1,e,g1,g2,g3,g4,⟨o2,i2,n2,p1,p2,p3,p4⟩,o4,i4,n4,q1,q2,q3,q4⟩:=x;exact⟨o1,it,n,u,v,a1,b1,c1,d1,e,yq ho hc k3 g1 g2,g2,g3,g4,⟨o2,i2,n2,yq ho hc k3 p1 p2,p2,p3,p4⟩,o4,i4,n4,yq ho hc k3 q1 q2,q2,q3,q4⟩
theorem sG:∀ (vs:List Value) (km:Nat->Addr × List Int),(∀ i,i<vs.length->vs.getD i Value.none=.ref (km i).1/\IsNest prog w h (km i).2 (km i).1) →
  ∃ fs,KatTups h vs fs/\fs.length=vs.length/\∀ v∈fs,Looks (model prog w) h (typeOf v) (.type "tuple")
 | [],km,_=>⟨[],.nil,rfl,fun v hv=>absurd hv not_mem_nil⟩
 | v::vs,km,hk=>by
  obtain⟨fs,h1,h2,h3⟩:=sG vs (fun i=>km (i+1)) fun i hi=>by
   have:=hk (i+1) (by simpa using hi)
   simpa using this
  obtain⟨e,o,items,n,u,v',a,b,c,d,_,ho,hc,hd,hi,x1,x2⟩:=hk 0 (by simp)
  have ev:v=.ref (km 0).1:=by simpa using e
  subst ev;refine⟨Value.ref u::fs,.cons ho hc hd (f:=Value.ref u) ?_ h1,by simp[h2],fun z hz=>?_⟩
  ·rw[<-getElem?_toList,hi];rfl
  ·rcases mem_cons.mp hz with rfl|hz
   ·obtain⟨o2,_,_,p1,p2,_⟩:=x1;exact fun A Q E s k q=>wpAny_typeOf ⟨o2,k _ _ p1,p2⟩ q
   ·exact h3 z hz
theorem Jl (hu:A.units<cLine)(hx:IsNest prog w s.heap x p)(hy:IsNest prog w s.heap y q)(h:C (lexB x y) s):wpAny (model prog w) A (keyLt' (tuples' false) (.ref p) (.ref q)) C E s:=by
 obtain⟨o,it,n,u,v,a,b,c,d,rfl,ho,hc,hd,hi,x1,x2⟩:=hx;obtain⟨o',it',n',u',v',a',b',c',d',rfl,ho',hc',hd',hi',y1,y2⟩:=hy;have e1:it.size=it'.size:=by rw[<-length_toList,<-length_toList,hi,hi'];rfl
 refine kat_lt ho hd ho' hd' ?_;rw[e1,hi,hi'];refine kat_cons (wpAny_eqBool_tuple hu x1 y1 ?_)
 by_cases k1:([a,b]:List Int)=[a',b']
 ·rw[decide_eq_true k1]
  cases k1
  refine kat_yes (kat_cons (wpAny_eqBool_tuple hu x2 y2 ?_))
  by_cases k2:([c,d]:List Int)=[c',d']
  ·rw[decide_eq_true k2]
   cases k2
   refine kat_yes (kat_nil ?_);rw[lex_irr]at h;simpa using h
  ·rw[decide_eq_false k2];refine kat_no (nR hu x2 y2 rfl ?_);simpa [lexB] using h
 ·rw[decide_eq_false k1];refine kat_no (nR hu x1 y1 rfl ?_);have:lexB [a,b,c,d] [a',b',c',d']=lexB [a,b] [a',b']:=by
   simp only[lexB]
   by_cases g1:a=a'
   ·by_cases g2:b=b'
    ·exact absurd (by rw[g1,g2]) k1
    ·simp[g1,g2]
   ·simp[g1]
  rw[this]at h;exact h
theorem Cq {a:Addr}{n:Nat}{vs:List Value}{km:Nat->Addr × List Int}{P:PySem.Fin->Shared->Prop} (hu:A.units<cLine) (ho:s.heap.get? a=some (seqObj "list" vs.toArray n)) (h64:vs.length<64)
  (hk:∀ i,i<vs.length->vs.getD i Value.none=.ref (km i).1/\IsNest prog w s.heap (km i).2 (km i).1)
  (h:∀ h' (p:Array Nat) e,(∀ b o,b≠a->s.heap.get? b=some o->h'.get? b=some o)->h'.get? a=some (seqObj "list" (p.toList.map fun i=>vs.getD i Value.none).toArray e) →
   List.Perm p.toList (List.range vs.length)->bT Ja (fun i=>(km i).2) p vs.length->P (.done (.ret .none)) {s with heap:=h'}) :
  wpAny (model prog w) A (Builtin.«list.sort» ⟨[.ref a],[]⟩) P E s:=
 xo (O:=Ja) (key:=fun i=>(km i).2) (T:=.type "tuple") ho h64 (by decide) (fun h3 k3=>sG vs km fun i hi=>⟨(hk i hi).1,uS ho rfl k3 (hk i hi).2⟩) (fun h3 k3 i j C hi hj hC=>by
  rw[(hk i hi).1,(hk j hj).1];exact Jl (s:={s with heap:=h3}) hu (uS ho rfl k3 (hk i hi).2) (uS ho rfl k3 (hk j hj).2) hC) h
theorem call_sorted_nest {Q:Value->Shared->Prop}{l:Addr}{ms:List (Addr × List Int)}(hu:A.units+9<cLine)(hl:s.heap.IsList l (ms.map fun m=>Value.ref m.1).toArray)(hk:∀ m∈ms,IsNest prog w s.heap m.2 m.1)(nd:(ms.map (·.2)).Nodup)(h64:ms.length<=63)
  (h:∀ h' D e (ns:List (Addr × List Int)),List.Perm ns ms->ns.Pairwise (fun a b=>lexB a.2 b.2=true)->(∀ b o,s.heap.get? b=some o->h'.get? b=some o)->s.heap.objs.size<=D →
   h'.get? D=some (seqObj "list" (ns.map fun m=>Value.ref m.1).toArray e)->Q (.ref D) {s with heap:=h'}) :
  wpAny (model prog w) A (call (.builtin "sorted") [.ref l]) Q E s:=by
 refine Calls.call_function_entry kind_sorted plain_sorted entry_sorted (args_sorted1 _) ?_;unfold Builtin.«sorted»;refine wpAny_bind (m:=checkCount "sorted" 1 1 _) (wpAny_pure ?_);refine wpAny_bind (collect_list hl ?_ (by rw[length_map,sizeLine_eq];omega))
 have k1:∀ b o,s.heap.get? b=some o->((s.heap.push (seqObj "list" #[] 0)).update s.heap.objs.size (Obj.mapSeq (·++(ms.map fun m=>Value.ref m.1).toArray))).get? b=some o:=fun b o e=>by
  have hb:b≠s.heap.objs.size:=ne_of_lt (Heap.lt_size e);exact((Heap.SameBut.update ..).2 b hb).trans (Heap.get?_push_of_some _ e)
 have le1:s.heap.objs.size<=((s.heap.push (seqObj "list" #[] 0)).update s.heap.objs.size (Obj.mapSeq (·++(ms.map fun m=>Value.ref m.1).toArray))).objs.size:=by
  rw[Heap.size_update];simp[Heap.push]
 generalize (s.heap.push (seqObj "list" #[] 0)).update s.heap.objs.size (Obj.mapSeq (·++(ms.map fun m=>Value.ref m.1).toArray))=h1 at *;refine wpAny_bind (wpAny_newList ?_ (by rw[length_map,sizeLine_eq];omega))
 dsimp only;have hoL:(h1.push (seqObj "list" (ms.map fun m=>Value.ref m.1).toArray 0)).get? h1.objs.size=some (seqObj "list" (ms.map fun m=>Value.ref m.1).toArray 0):=Heap.get?_push_size _ rfl;refine wpAny_bind (wpAny_holding (wpAny_call_entry slot_list_sort ⟨_,hoL,rfl⟩ entry_list_sort ?_ (args_list_sort _)));have k2:∀ b o,s.heap.get? b=some o->(h1.push (seqObj "list" (ms.map fun m=>Value.ref m.1).toArray 0)).get? b=some o:=fun b o e=>Heap.get?_push_of_some _ (k1 b o e);refine Cq (s:={s with heap:=h1.push (seqObj "list" (ms.map fun m=>Value.ref m.1).toArray 0)}) (km:=fun i=>ms.getD i (0,[])) (by show A.units+1+1<cLine;omega) hoL (by rw[length_map];omega) (fun i hi=>?_) fun h' p e hk' hg hp hs=>?_
 ·have hi':i<ms.length:=by simpa using hi
  have hm:ms.getD i (0,[])=ms[i]:=by simp[hi']
  dsimp only;rw[hm];refine⟨by simp[hi'],?_⟩
  obtain⟨o1,it,n,u,v,a1,b1,c1,d1,e,g1,g2,g3,g4,⟨o2,i2,n2,p1,p2⟩,o4,i4,n4,q1,q2⟩:=hk _ (getElem_mem hi');exact⟨o1,it,n,u,v,a1,b1,c1,d1,e,k2 _ _ g1,g2,g3,g4,⟨o2,i2,n2,k2 _ _ p1,p2⟩,o4,i4,n4,k2 _ _ q1,q2⟩
 ·refine⟨_,rfl,wpAny_pure ⟨_,rfl,?_⟩⟩;rw[length_map]at hp hs;have hns:(p.toList.map fun i=>(ms.map fun m=>Value.ref m.1).getD i Value.none)=(p.toList.map fun i=>ms.getD i (0,[])).map fun m=>Value.ref m.1:=by
   rw[map_map];refine map_congr_left fun i hi=>?_;have hi':i<ms.length:=by simpa using hp.mem_iff.mp hi
   simp[hi']
  have hpn:List.Perm (p.toList.map fun i=>ms.getD i (0,[])) ms:=by
   have:=hp.map fun i=>ms.getD i ((0:Addr),([]:List Int))
   rwa [nO]at this
  rw[hns]at hg;refine h h' _ e _ hpn ?_ (fun b o e=>hk' b o (fun hb=>?_) (k2 b o e)) ?_ hg
  ·have hnd:((p.toList.map fun i=>ms.getD i ((0:Addr),([]:List Int))).map (·.2)).Nodup:=(hpn.map (·.2)).nodup_iff.mpr nd;rw[pairwise_iff_getElem];intro i j hi hj hij;rw[length_map]at hi hj;have hpl:p.toList.length=ms.length:=by rw[hp.length_eq,length_range]
   have h1:=hs i j (Nat.le_of_lt hij) (by omega)
   have ei:p.getD i 0=p.toList[i]:=by simp at hi;simp[Array.getD,hi]
   have ej:p.getD j 0=p.toList[j]:=by simp at hj;simp[Array.getD,hj]
   have hne:=pairwise_iff_getElem.mp hnd i j (by simpa using hi) (by simpa using hj) hij
   simp only[getElem_map]at hne ⊢;unfold KeyOrd.kle Rk at h1;rw[ei,ej]at h1
   cases hb:lexB (ms.getD p.toList[i] (0,[])).2 (ms.getD p.toList[j] (0,[])).2 with
   | true=>rfl
   | false=>exact absurd (jE _ _ hb h1) hne
  ·exact ne_of_lt (Heap.lt_size (k1 b o e)) hb
  ·exact le1
end
end ST
namespace DL
open PySem PySem.Spec L2 PyProof.Rows
def Rl (K:Frg)(H:Hp)(m:Addr × List Int):Prop:=∃ u v a b c d,m.2=[a,b,c,d]/\j6 K H m.1 [V.ref u,.ref v]/\j6 K H u [V.int a,.int b]/\j6 K H v [V.int c,.int d]
def Od (K:Frg)(te:TE):TE:=fun σ H Q=>te σ H fun x H1=>∃ p,∃ km:List (Addr × List Int),x=.ref p/\df K H1 p (refs km)/\km.length<=63 ∧
 (∀ m∈km,Rl K H1 m)/\(km.map (·.2)).Nodup ∧
 ∀ ns:List (Addr × List Int),List.Perm ns km->ns.Pairwise (fun a b=>ST.lexB a.2 b.2=true)->∀ l,H1 l=none->Q (.ref l) (cM H1 l (.lst (refs ns)))
section
variable {X:Cx}{e:Expr}{te:TE}{p1 pos1:Pos}
theorem Nj (I:aH X pins σ H s)(h:Rl X.K H m):ST.IsNest X.prog X.w s.heap m.2 m.1:=by
 obtain⟨u,v,a,b,c,d,e,h1,h2,h3⟩:=h;obtain⟨its,r,⟨o,ho,hc,n,hd⟩,_⟩:=I.tuple h1;have er:its=[Value.ref u,.ref v]:=by
  cases r with
  | cons r1 r=>
   cases r1
   cases r with
   | cons r2 r=>
    cases r2
    cases r
    rfl
 exact⟨o,its.toArray,n,u,v,a,b,c,d,e,ho,hc,hd,by simpa using er,vA I (ks:=[a,b]) h2,vA I (ks:=[c,d]) h3⟩
theorem Gs (hr:cb k X.A) (hm1:X.mg "sorted"=none) (he:PE X e te) (hg1:Gl X "sorted":=by rfl) (hs1:starEach [e] X.env=(false,eval e X.env)::starEach [] X.env:=by exact aP rfl) :
  PE X (.Call (.Name "sorted" p1) [e] [] pos1) (Od X.K te):=by
 intro pins s σ H Q I h;refine wpAny_Call_Name_kw (jg I hg1 hm1 PyProof.Rows.boot_sorted ?_);refine PyProof.Rows.callWith_builtin1 ?_ hs1;rw[hs1];show wpAny _ _ (spliced ((false,eval e X.env)::backTo pos1 (starEach [] X.env))) _ _ s;refine Calls.spliced_cons (cT (he pins s σ H _ I h) fun u s1 ⟨x,H1,I1,r1,q1⟩=>?_);obtain⟨p,km,rfl,hq,hlen,hkm,nd,fin⟩:=q1
 cases r1
 refine Calls.spliced_nil ?_;obtain⟨its,r,pl,hz⟩:=I1.list hq;have eits:=mN r;subst eits;refine ST.call_sorted_nest (ms:=km) (by have:=hr.un;omega) pl.isList (fun m hm=>Nj I1 (hkm m hm)) nd hlen fun h3 D c3 ns hpm hpw keep le hD=>?_
 have hnl:ns.length<=63:=by rw[hpm.length_eq];exact hlen
 refine⟨.ref D,_,I1.laid (t':=s1.toks) keep le (show fB X.prog X.w _ h3 _ (.lst (refs ns)) from⟨?_,_,c3,uL ns,hD⟩),rfl,fin ns hpm hpw _ (I1.hok.fresh le)⟩;unfold refs;rw[length_map];exact le_trans hnl (by decide)
end
def l4 (s:aS):List Int:=[s.1.1,s.1.2,s.2.1,s.2.2]
theorem EF (h:l4 a=l4 b):a=b:=by
 unfold l4 at h;simp only[List.cons.injEq,and_true]at h;exact Prod.ext (Prod.ext h.1 h.2.1) (Prod.ext h.2.2.1 h.2.2.2)
theorem sY {K:Frg}{H:Hp}:∀ {L:List aS}{xs:List V},au K H (L.map spT) xs →
  ∃ km:List (Addr × List Int),km.map (·.2)=L.map l4/\xs=refs km/\∀ m∈km,Rl K H m/\∃ s,l4 s=m.2/\aB K H (spT s) (.ref m.1)
 | [],_,h=>⟨[],rfl,h,fun m hm=>absurd hm not_mem_nil⟩
 | s::L,_,⟨x,r,e,p,q⟩=>by
  subst e;obtain⟨km,e1,e2,h1⟩:=sY q;obtain⟨a,ys,e3,sq,ty⟩:=id p;subst e3;obtain⟨x1,r1,e4,p1,x2,r2,e5,p2,e6⟩:=ty;subst e4 e5 e6;obtain⟨u,us,e7,s1,t1⟩:=p1;obtain⟨v,vs,e8,s2,t2⟩:=p2;subst e7 e8;have f1:=gf (ks:=[s.1.1,s.1.2]) t1;have f2:=gf (ks:=[s.2.1,s.2.2]) t2;subst f1 f2;refine⟨(a,l4 s)::km,by rw[map_cons,e1];rfl,by rw[e2];rfl,fun m hm=>?_⟩
  rcases mem_cons.mp hm with rfl|hm
  ·exact⟨⟨u,v,_,_,_,_,rfl,sq,s1,s2⟩,s,rfl,p⟩
  ·exact h1 m hm
theorem sI {K:Frg}{H:Hp}:∀ (ns:List (Addr × List Int)) (N:List aS),ns.map (·.2)=N.map l4->(∀ m∈ns,∃ s,l4 s=m.2/\aB K H (spT s) (.ref m.1))->au K H (N.map spT) (refs ns)
 | [],[],_,_=>rfl
 | m::ns,s::N,e,h=>by
  rw[map_cons,map_cons]at e;obtain⟨e1,e2⟩:=List.cons.inj e;obtain⟨s',e3,p⟩:=h m mem_cons_self;have:s'=s:=EF (e3.trans e1);subst this;exact⟨.ref m.1,refs ns,rfl,p,sI ns N e2 fun m' hm=>h m' (mem_cons_of_mem _ hm)⟩
 | [],_::_,e,_=>nomatch e
 | _::_,[],e,_=>nomatch e
def RU (R:S->Prop)(s:S):Prop:=match items s with
 | some ts=>∃ L:List aS,ts=L.map spT/\L.length<=63/\L.Nodup/\∀ N:List aS,List.Perm N L->N.Pairwise (fun a b=>ST.lexB (l4 a) (l4 b)=true)->R (.ol (N.map spT))
 | none=>False
def vC (we:WE):WE:=fun δ R=>we δ (RU R)
section
variable {X:Cx}{e:Expr}{p1 pos1:Pos}
theorem v6 {k:Nat}{we:WE} (hr:cb k X.A) (hm1:X.mg "sorted"=none) (he:PE X e (av X.K we)) (hg1:Gl X "sorted":=by rfl) (hs1:starEach [e] X.env=(false,eval e X.env)::starEach [] X.env:=by exact aP rfl) :
  PE X (.Call (.Name "sorted" p1) [e] [] pos1) (av X.K (vC we)):=
 (Gs hr hm1 he hg1 hs1).imp fun σ H Q ⟨δ,R,F,rl,h,k⟩=>⟨δ,_,F,rl,h,fun v F1 H1 s ex p q=>by
  unfold RU at q
  split at q
  ·rename_i ts hi;obtain⟨a,xs,rfl,sq,tp⟩:=(p.val ex.sub).list ex.sub hi;obtain⟨L,rfl,h63,nd,fin⟩:=q;obtain⟨km,e1,e2,h1⟩:=sY tp;subst e2;have el:km.length=L.length:=by have:=congrArg List.length e1;simpa using this
   refine⟨a,km,rfl,sq,by omega,fun m hm=>(h1 m hm).1,by rw[e1];exact pairwise_map.mpr (nd.imp fun h e=>h (EF e)),fun ns n1 n3 l hl=>?_⟩
   have e2:=dw.newL (refs ns) ex.sub ex.full hl;obtain⟨N,hN,eN⟩:=ST.perm_lift L (ns.map (·.2)) (by rw[<-e1];exact n1.map _)
   have hp:au X.K F1 (N.map spT) (refs ns):=au.full ex.full (bI (fun _=>rfl) _) (sI ns N eN fun m hm=>(h1 m (n1.mem_iff.mp hm)).2);exact k _ F1 _ (.ol (N.map spT)) (ex.trans e2) ⟨l,refs ns,rfl,aI ex.hh hl,aI ex.sub hl,aX,hp⟩
    (fin N hN (by
     have:=pairwise_map (f:=fun m:Addr × List Int=>m.2) (R:=fun a b=>ST.lexB a b=true) |>.mpr n3
     rw[eN]at this;exact pairwise_map.mp this))
  ·exact q.elim⟩
end
theorem zC (we:WE)(δ:a8)(R:S->Prop):vC we δ R=we δ (RU R):=rfl
end DL
namespace Law
open L2 DL
set_option maxHeartbeats 4000000
def OJ (a b c d:Int)(v:Pt):Pt:=(a*v.1+b*v.2,c*v.1+d*v.2)
theorem Iv (a b c d:Int)(v f:Pt):aZ (OJ a b c d v) f=aZ v (a*f.1+c*f.2,b*f.1+d*f.2):=by
 unfold aZ OJ;grind
theorem rH (a b c d:Int)(vs:List Pt)(f:Pt):ahead (vs.map (OJ a b c d)) f=ahead vs (a*f.1+c*f.2,b*f.1+d*f.2):=by
 unfold ahead;rw[List.countP_map];refine countP_congr fun v _=>?_;show decide (0<=aZ (OJ a b c d v) f)=true↔_;rw[Iv]
theorem vM (hk:0<k)(vs:List Pt)(g:Pt):ahead vs (k*g.1,k*g.2)=ahead vs g:=by
 unfold ahead;refine countP_congr fun v _=>?_;have e:aZ v (k*g.1,k*g.2)=k*aZ v g:=by unfold aZ;grind
 rw[e,decide_eq_true_eq,decide_eq_true_eq];constructor
 ·intro h
  by_cases z:0<=aZ v g
  ·exact z
  ·have:=mul_neg_of_pos_of_neg hk (show aZ v g<0 by omega)
   omega
 ·exact fun h=>mul_nonneg (by omega) h
theorem Mo (h:a*d-b*c≠0)(hf:f≠(0,0)):((a*f.1+c*f.2,b*f.1+d*f.2):Pt)≠(0,0):=fun z=>by
 have h1:a*f.1+c*f.2=0:=congrArg Prod.fst z;have h2:b*f.1+d*f.2=0:=congrArg Prod.snd z;have e1:(a*d-b*c)*f.1=0:=by
  have:(a*d-b*c)*f.1=d*(a*f.1+c*f.2)-c*(b*f.1+d*f.2):=by grind
  rw[this,h1,h2];omega
 have e2:(a*d-b*c)*f.2=0:=by
  have:(a*d-b*c)*f.2=a*(b*f.1+d*f.2)-b*(a*f.1+c*f.2):=by grind
  rw[this,h1,h2];omega
 apply hf;refine Prod.ext ?_ ?_
 ·rcases mul_eq_zero.mp e1 with q|q
  ·exact absurd q h
  ·exact q
 ·rcases mul_eq_zero.mp e2 with q|q
  ·exact absurd q h
  ·exact q
theorem Iw (h:a*d-b*c≠0)(vs:List Pt):nX (vs.map (OJ a b c d))=nX vs:=by
 refine ya ⟨?_,fun f hf=>?_⟩
 ·obtain⟨g,hg,e⟩:=(kE vs).1;have key:∀ s:Int,0<s*(a*d-b*c)->∃ f:Pt,f≠(0,0)/\ahead (vs.map (OJ a b c d)) f=nX vs:=fun s hs=>by
   have e1:((a*(s*(d*g.1-c*g.2))+c*(s*(a*g.2-b*g.1)),b*(s*(d*g.1-c*g.2))+d*(s*(a*g.2-b*g.1))):Pt)=((s*(a*d-b*c))*g.1,(s*(a*d-b*c))*g.2):=by
    apply Prod.ext
    ·show a*(s*(d*g.1-c*g.2))+c*(s*(a*g.2-b*g.1))=(s*(a*d-b*c))*g.1;grind
    ·show b*(s*(d*g.1-c*g.2))+d*(s*(a*g.2-b*g.1))=(s*(a*d-b*c))*g.2;grind
   refine⟨(s*(d*g.1-c*g.2),s*(a*g.2-b*g.1)),fun z=>?_,?_⟩
   ·have z1:s*(d*g.1-c*g.2)=0:=congrArg Prod.fst z;have z2:s*(a*g.2-b*g.1)=0:=congrArg Prod.snd z;rw[z1,z2]at e1;have w1:a*0+c*0=s*(a*d-b*c)*g.1:=congrArg Prod.fst e1;have w2:b*0+d*0=s*(a*d-b*c)*g.2:=congrArg Prod.snd e1;apply hg;refine Prod.ext ?_ ?_
    ·rcases mul_eq_zero.mp (show s*(a*d-b*c)*g.1=0 by omega) with q|q
     ·omega
     ·exact q
    ·rcases mul_eq_zero.mp (show s*(a*d-b*c)*g.2=0 by omega) with q|q
     ·omega
     ·exact q
   ·rw[rH];show ahead vs (a*(s*(d*g.1-c*g.2))+c*(s*(a*g.2-b*g.1)),b*(s*(d*g.1-c*g.2))+d*(s*(a*g.2-b*g.1)))=_;rw[e1,vM hs,e]
  by_cases hp:0<a*d-b*c
  ·exact key 1 (by omega)
  ·exact key (-1) (by omega)
 ·rw[rH];exact(kE vs).2 _ (Mo h hf)
def Pr (u v:Hf):Prop:=∃ κ α:Int,0<κ/\0<α/\κ*u.1=α*v.1/\κ*u.2.1=α*v.2.1/\κ*u.2.2=α*v.2.2
theorem Pr.symm (h:Pr u v):Pr v u:=by
 obtain⟨κ,α,k0,a0,e1,e2,e3⟩:=h;exact⟨α,κ,a0,k0,e1.symm,e2.symm,e3.symm⟩
theorem Pr.trans (h:Pr u v)(k:Pr v w):Pr u w:=by
 obtain⟨κ,α,k0,a0,e1,e2,e3⟩:=h;obtain⟨μ,β,m0,b0,f1,f2,f3⟩:=k;exact⟨μ*κ,α*β,mul_pos m0 k0,mul_pos a0 b0,by grind,by grind,by grind⟩
theorem Pr.ov (h:Pr u v)(l:Hf):∃ κ α:Int,0<κ/\0<α/\κ*aR l u=α*aR l v:=by
 obtain⟨κ,α,k0,a0,e1,e2,e3⟩:=h;exact⟨κ,α,k0,a0,by unfold aR;grind⟩
theorem Pr.eq (hp:bA p)(hq:bA q)(h:Pr (af p) (af q)):p=q:=by
 obtain⟨κ,α,k0,a0,e1,e2,e3⟩:=h;exact JT hp hq k0 e1 e2 e3
theorem sgn_mul {κ α x y:Int}(k0:0<κ)(a0:0<α)(e:κ*x=α*y):0<=x↔0<=y:=by
 constructor
 ·intro h
  rcases lt_or_le y 0 with z|z
  ·have h1:=mul_neg_of_pos_of_neg a0 z;have h2:=mul_nonneg (le_of_lt k0) h;omega
  ·exact z
 ·intro h
  rcases lt_or_le x 0 with z|z
  ·have h1:=mul_neg_of_pos_of_neg k0 z;have h2:=mul_nonneg (le_of_lt a0) h;omega
  ·exact z
theorem Pr.dp {u v:Hf}(h:Pr u v)(ps:List Pt):nX (ps.map (hW u))=nX (ps.map (hW v)):=by
 obtain⟨κ,α,k0,a0,e1,e2,e3⟩:=h;have e:∀ f,ahead (ps.map (hW u)) f=ahead (ps.map (hW v)) f:=fun f=>by
  rw[jz,jz];refine countP_congr fun p _=>?_;rw[decide_eq_true_eq,decide_eq_true_eq];exact sgn_mul k0 a0 (by unfold aZ hW;grind)
 obtain⟨⟨f,hf,ef⟩,hg⟩:=kE (ps.map (hW v));exact ya ⟨⟨f,hf,by rw[e,ef]⟩,fun g z=>by rw[e];exact hg g z⟩
theorem Bw (R:ke L)(hu:u∈L)(g0:aR g (af u)=0)(gp:∀ s∈L,s≠u->0<aR g (af s))(zq:0<q.2.2)(hq:bF (L.map af) q)(e:aR g q=0):Pr q (af u):=by
 have gn:∀ s∈L,0<=aR g (af s):=fun s hs=>by
  by_cases e:s=u
  ·rw[e,g0];exact Int.le_refl _
  ·exact le_of_lt (gp s hs e)
 obtain⟨a,b,c,ha,hb,hc,κ,α,β,γ,k0,a0,b0,c0,e1,e2,e3⟩:=li R zq hq;have l:=oA (l:=g) e1 e2 e3;rw[e,mul_zero]at l;have n1:=mul_nonneg a0 (gn a ha);have n2:=mul_nonneg b0 (gn b hb);have n3:=mul_nonneg c0 (gn c hc);have t:∀ x∈L,∀ w:Int,w*aR g (af x)=0->w*(af x).1=w*(af u).1/\w*(af x).2.1=w*(af u).2.1/\w*(af x).2.2=w*(af u).2.2:=fun x hx w z=>by
  rcases mul_eq_zero.mp z with z|z
  ·rw[z];simp
  ·by_cases e:x=u
   ·rw[e];exact⟨rfl,rfl,rfl⟩
   ·have:=gp x hx e;omega
 have ta:=t a ha α (by omega)
 have tb:=t b hb β (by omega)
 have tc:=t c hc γ (by omega)
 have f3:κ*q.2.2=(α+β+γ)*(af u).2.2:=by rw[e3,ta.2.2,tb.2.2,tc.2.2];grind
 refine⟨κ,α+β+γ,k0,?_,by rw[e1,ta.1,tb.1,tc.1];grind,by rw[e2,ta.2.1,tb.2.1,tc.2.1];grind,f3⟩
 rcases lt_or_le 0 (α+β+γ) with z|z
 ·exact z
 ·have h1:=mul_pos k0 zq;have:α+β+γ=0:=by omega
  rw[this,zero_mul]at f3;omega
theorem Qi {L L':List aS}(R:ke L)(R':ke L'){f f':Hf->Hf}(z:∀ q:Hf,0<q.2.2->0<(f q).2.2)(z':∀ q:Hf,0<q.2.2->0<(f' q).2.2)(ff:∀ q,Pr (f (f' q)) q)(hl:∀ g':Hf,∃ g:Hf,∀ q,aR g q=aR g' (f q))
  (hold:∀ q:Hf,0<q.2.2->(bF (L.map af) q↔bF (L'.map af) (f q))) (inv:∀ p q:Hf,0<p.2.2->0<q.2.2->Pr p q->bF (L'.map af) q->bF (L'.map af) p):∀ u∈L',∃ s∈L,Pr (f (af s)) (af u):=fun u hu=>by
 have zu:=ca (R'.ok u hu);obtain⟨g',g0,gp⟩:=Rx R' hu;obtain⟨g,hg⟩:=hl g';have zq:=z' _ zu;have pq:=ff (af u);have hq:bF (L.map af) (f' (af u)):=(hold _ zq).mpr (inv _ _ (z _ zq) zu pq (rY R' hu (pU _)));have gn:∀ s∈L',0<=aR g' (af s):=fun s hs=>by
  by_cases e:s=u
  ·rw[e,g0];exact Int.le_refl _
  ·exact le_of_lt (gp s hs e)
 have hs':∀ s∈L,bF (L'.map af) (f (af s)):=fun s hs=>(hold _ (ca (R.ok s hs))).mp (rY R hs (pU _));have gs:∀ s∈L,0<=aR g (af s):=fun s hs=>by
  rw[hg];exact(jf R' (z _ (ca (R.ok s hs)))).mp (hs' s hs) g' gn
 have e0:aR g (f' (af u))=0:=by
  rw[hg];obtain⟨κ,α,k0,a0,e⟩:=pq.ov g';rw[g0,mul_zero]at e
  rcases mul_eq_zero.mp e with q|q
  ·omega
  ·exact q
 obtain⟨a,b,c,ha,hb,hc,κ,α,β,γ,k0,a0,b0,c0,e1,e2,e3⟩:=li R zq hq;have l:=oA (l:=g) e1 e2 e3;rw[e0,mul_zero]at l;have n1:=mul_nonneg a0 (gs a ha);have n2:=mul_nonneg b0 (gs b hb);have n3:=mul_nonneg c0 (gs c hc);have done:∀ x∈L,∀ w:Int,0<w->w*aR g (af x)=0->∃ s∈L,Pr (f (af s)) (af u):=fun x hx w w0 y=>by
  rcases mul_eq_zero.mp y with y|y
  ·omega
  ·exact⟨x,hx,Bw R' hu g0 gp (z _ (ca (R.ok x hx))) (hs' x hx) (by rw[<-hg];exact y)⟩
 rcases lt_or_le 0 α with y|y
 ·exact done a ha α y (by omega)
 ·rcases lt_or_le 0 β with y'|y'
  ·exact done b hb β y' (by omega)
  ·rcases lt_or_le 0 γ with y''|y''
   ·exact done c hc γ y'' (by omega)
   ·exfalso;rw[show α=0 by omega,show β=0 by omega,show γ=0 by omega,zero_mul,zero_mul,zero_mul]at e3
    have:=mul_pos k0 zq;omega
end Law
namespace Law
open L2 DL
set_option maxHeartbeats 4000000
structure Wy where
 (a b c d r u:Int)
def Wy.det (w:Wy):Int:=w.a*w.d-w.b*w.c
def wK (w:Wy)(p:Pt):Pt:=(w.a*p.1+w.b*p.2+w.r,w.c*p.1+w.d*p.2+w.u)
def fX (w:Wy)(q:Hf):Hf:=(w.a*q.1+w.b*q.2.1+w.r*q.2.2,w.c*q.1+w.d*q.2.1+w.u*q.2.2,q.2.2)
def ldI (w:Wy)(q:Hf):Hf:=(w.det*(w.d*(q.1-w.r*q.2.2)-w.b*(q.2.1-w.u*q.2.2)),w.det*(w.a*(q.2.1-w.u*q.2.2)-w.c*(q.1-w.r*q.2.2)),w.det*w.det*q.2.2)
def jh (w:Wy)(s:aS):aS:=(gA (fX w (af s)).1 (af s).2.2,gA (fX w (af s)).2.1 (af s).2.2)
theorem oi {w:Wy}(h:w.det≠0):0<w.det*w.det:=G0 h
theorem EK (h:w.det≠0)(q:Hf):Pr (fX w (ldI w q)) q:=⟨1,w.det*w.det,by decide,oi h,by unfold fX ldI Wy.det;grind,by unfold fX ldI Wy.det;grind,by unfold fX ldI;grind⟩
theorem Lh (h:w.det≠0)(q:Hf):Pr (ldI w (fX w q)) q:=⟨1,w.det*w.det,by decide,oi h,by unfold fX ldI Wy.det;grind,by unfold fX ldI Wy.det;grind,by unfold fX ldI;grind⟩
theorem Qa (w:Wy)(h:Pr u v):Pr (fX w u) (fX w v):=by
 obtain⟨κ,α,k0,a0,e1,e2,e3⟩:=h;exact⟨κ,α,k0,a0,by unfold fX;grind,by unfold fX;grind,e3⟩
theorem MX (w:Wy)(h:Pr u v):Pr (ldI w u) (ldI w v):=by
 obtain⟨κ,α,k0,a0,e1,e2,e3⟩:=h;exact⟨κ,α,k0,a0,by unfold ldI;grind,by unfold ldI;grind,by unfold ldI;grind⟩
theorem P9 (w:Wy)(g':Hf):∃ g:Hf,∀ q,aR g q=aR g' (fX w q):=⟨(w.a*g'.1+w.c*g'.2.1,w.b*g'.1+w.d*g'.2.1,g'.2.2-w.r*g'.1-w.u*g'.2.1),fun q=>by unfold aR fX;grind⟩
theorem MW (w:Wy)(g':Hf):∃ g:Hf,∀ q,aR g q=aR g' (ldI w q):=⟨(w.det*(w.d*g'.1-w.c*g'.2.1),w.det*(w.a*g'.2.1-w.b*g'.1),w.det*w.det*g'.2.2+w.det*(w.d*w.r-w.b*w.u)*g'.1+w.det*(w.a*w.u-w.c*w.r)*g'.2.1),fun q=>by unfold aR ldI;grind⟩
theorem Aj (h:w.det≠0)(ps:List Pt)(q:Hf):nX ((ps.map (wK w)).map (hW (fX w q)))=nX (ps.map (hW q)):=by
 rw[<-Iw h (ps.map (hW q)),map_map,map_map];refine congrArg nX (map_congr_left fun p _=>Prod.ext ?_ ?_)
 ·show(w.a*p.1+w.b*p.2+w.r)*q.2.2-(w.a*q.1+w.b*q.2.1+w.r*q.2.2)=w.a*(p.1*q.2.2-q.1)+w.b*(p.2*q.2.2-q.2.1);grind
 ·show(w.c*p.1+w.d*p.2+w.u)*q.2.2-(w.c*q.1+w.d*q.2.1+w.u*q.2.2)=w.c*(p.1*q.2.2-q.1)+w.d*(p.2*q.2.2-q.2.1);grind
theorem yr (hs:bA s):bA (jh w s):=⟨ww (by have:=ca hs;omega),ww (by have:=ca hs;omega)⟩
theorem pO (hs:bA s):Pr (af (jh w s)) (fX w (af s)):=by
 have zs:=ca hs;obtain⟨g,g0,e1,e2⟩:=om (a:=(fX w (af s)).1) zs;obtain⟨k,k0,f1,f2⟩:=om (a:=(fX w (af s)).2.1) zs;refine⟨g*k,(af s).2.2,mul_pos g0 k0,zs,?_,?_,?_⟩
 ·show g*k*((gA (fX w (af s)).1 (af s).2.2).1*(gA (fX w (af s)).2.1 (af s).2.2).2)=_;generalize gA (fX w (af s)).1 (af s).2.2=x at *;generalize gA (fX w (af s)).2.1 (af s).2.2=y at *;rw[e1,show(af s).2.2*(g*x.1)=g*x.1*(k*y.2) by rw[<-f2,mul_comm]]
  grind
 ·show g*k*((gA (fX w (af s)).2.1 (af s).2.2).1*(gA (fX w (af s)).1 (af s).2.2).2)=_;generalize gA (fX w (af s)).1 (af s).2.2=x at *;generalize gA (fX w (af s)).2.1 (af s).2.2=y at *;rw[f1,show(af s).2.2*(k*y.1)=k*y.1*(g*x.2) by rw[<-e2,mul_comm]]
  grind
 ·show g*k*((gA (fX w (af s)).1 (af s).2.2).2*(gA (fX w (af s)).2.1 (af s).2.2).2)=(af s).2.2*(af s).2.2;generalize gA (fX w (af s)).1 (af s).2.2=x at *;generalize gA (fX w (af s)).2.1 (af s).2.2=y at *;rw[show(af s).2.2*(af s).2.2=(g*x.2)*(k*y.2) by rw[<-e2,<-f2]]
  grind
theorem wL (h:w.det≠0)(K:xN ps k L)(K':xN (ps.map (wK w)) k L'):∀ x,x∈L.map (jh w)↔x∈L':=by
 have hold:∀ q:Hf,0<q.2.2->(bF (L.map af) q↔bF (L'.map af) (fX w q)):=fun q zq=>by
  rw[K.hold q zq,K'.hold (fX w q) zq,Aj h]
 have z':∀ q:Hf,0<q.2.2->0<(ldI w q).2.2:=fun q zq=>mul_pos (oi h) zq;have inv':∀ p q:Hf,0<p.2.2->0<q.2.2->Pr p q->bF (L'.map af) q->bF (L'.map af) p:=fun p q zp zq e hq=>by
  rw[K'.hold p zp,e.dp,<-K'.hold q zq];exact hq
 have inv:∀ p q:Hf,0<p.2.2->0<q.2.2->Pr p q->bF (L.map af) q->bF (L.map af) p:=fun p q zp zq e hq=>by
  rw[K.hold p zp,e.dp,<-K.hold q zq];exact hq
 refine fun x=>⟨fun hx=>?_,fun hx=>?_⟩
 ·obtain⟨s,hs,rfl⟩:=mem_map.mp hx;have os:=K.reg.ok s hs;obtain⟨u,hu,e⟩:=Qi K'.reg K.reg (f:=ldI w) (f':=fX w) z' (fun q zq=>zq) (Lh h) (MW w) (fun q zq=>by
   rw[hold _ (z' q zq)];exact⟨fun hq=>inv' (fX w (ldI w q)) q (z' q zq) zq (EK h q) hq,fun hq=>inv' q (fX w (ldI w q)) zq (z' q zq) (EK h q).symm hq⟩) inv s hs
  rw[Pr.eq (yr os) (K'.reg.ok u hu) ((pO os).trans ((Qa w e.symm).trans (EK h _)))];exact hu
 ·obtain⟨s,hs,e⟩:=Qi K.reg K'.reg (f:=fX w) (f':=ldI w) (fun q zq=>zq) z' (EK h) (P9 w) hold inv' x hx;exact mem_map.mpr ⟨s,hs,Pr.eq (yr (K.reg.ok s hs)) (K'.reg.ok x hx) ((pO (K.reg.ok s hs)).trans e)⟩
theorem MZ (h:w.det≠0)(R:ke L)(nd:L.Nodup):(L.map (jh w)).Nodup:=by
 rw[List.Nodup,pairwise_map];refine nd.imp_of_mem fun {a b} ha hb hne e=>hne ?_;have oa:=R.ok a ha;have ob:=R.ok b hb;have e1:Pr (fX w (af a)) (fX w (af b)):=(pO oa).symm.trans (by rw[e];exact pO ob)
 exact Pr.eq oa ob ((Lh h _).symm.trans ((MX w e1).trans (Lh h _)))
end Law
namespace Law
open L2 DL
set_option maxHeartbeats 4000000
structure CH (w:Wy):Prop where
 det:w.det≠0
 a:-3<=w.a/\w.a<=3
 b:-3<=w.b/\w.b<=3
 c:-3<=w.c/\w.c<=3
 d:-3<=w.d/\w.d<=3
 r:nB w.r
 u:nB w.u
def QZ (w:Wy):T:=.tup [.int w.a,.int w.b,.int w.c,.int w.d,.int w.r,.int w.u]
def kW:aM:=fun ss R=>∃ hd:List Int,ss=[.t (.lst (hd.map .int))]/\6<=hd.length/\(∀ v∈hd,0<=v/\v<big)/\∀ w:Wy,CH w->R (.t (QZ w))
def lV:aM:=fun ss R=>∃ (w:Wy) (s:aS),ss=[.t (QZ w),.t (spT s)]/\CH w/\bA s/\fg 700 s/\R (.t (spT (jh w s)))
def jX:WS:=
 (aC (aF 1 (cS (dr (ao aJ (ae 0) (wC (.int 0))) (wC (.int 7))) (wC (.int 3))))
 (aC (aF 2 (cS (dr (ao aJ (ae 0) (wC (.int 1))) (wC (.int 7))) (wC (.int 3))))
 (aC (aF 3 (cS (dr (ao aJ (ae 0) (wC (.int 2))) (wC (.int 7))) (wC (.int 3))))
 (aC (aF 4 (cS (dr (ao aJ (ae 0) (wC (.int 3))) (wC (.int 7))) (wC (.int 3))))
 (b9 (iW (wB (tm (aU (ae 1) (ae 4)) (aU (ae 2) (ae 3)))) (xB (bZ (ac (wC (.int 1)) (ac (ae 2) (ac (wC (.int 0)) (ac (ao aJ (jx (ac (wC (.int 1)) (ac (xF jd (wC (.int 1))) ap))) (dr (ao aJ (ae 0) (wC (.int 3))) (wC (.int 2)))) ap))))) (kA (bC (aG 1) (bC (aG 2) (bC (aG 3) (bC (aG 4) iX)))))) bB)
 (aC (aF 5 (ao aJ (jx (ac (wC (.int 9)) (ac (xA (wC (.int 10)) (wC (.int 18))) ap))) (dr (dR (ao aJ (ae 0) (wC (.int 0))) (wC (.int 7))) (wC (.int 2)))))
 (bz (bZ (ac (ae 1) (ac (ae 2) (ac (ae 3) (ac (ae 4) (ac (cS (dr (ao aJ (ae 0) (wC (.int 4))) (cE (aU (wC (.int 2)) (ae 5)) (wC (.int 1)))) (ae 5)) (ac (cS (dr (ao aJ (ae 0) (wC (.int 5))) (cE (aU (wC (.int 2)) (ae 5)) (wC (.int 1)))) (ae 5)) ap))))))))))))))
def oP:WS:=
 (aC (xB (ae 0) (kA (bC (aG 2) (bC (aG 3) (bC (aG 4) (bC (aG 5) (bC (aG 6) (bC (aG 7) iX))))))))
 (aC (xB (ae 1) (kA (bC (aG 8) (bC (aG 9) iX))))
 (aC (aF 10 (aU (ao aJ (ae 8) (wC (.int 1))) (ao aJ (ae 9) (wC (.int 1)))))
 (aC (aF 11 (cE (cE (aU (aU (ae 2) (ao aJ (ae 8) (wC (.int 0)))) (ao aJ (ae 9) (wC (.int 1)))) (aU (aU (ae 3) (ao aJ (ae 9) (wC (.int 0)))) (ao aJ (ae 8) (wC (.int 1))))) (aU (ae 6) (ae 10))))
 (aC (aF 12 (cE (cE (aU (aU (ae 4) (ao aJ (ae 8) (wC (.int 0)))) (ao aJ (ae 9) (wC (.int 1)))) (aU (aU (ae 5) (ao aJ (ae 9) (wC (.int 0)))) (ao aJ (ae 8) (wC (.int 1))))) (aU (ae 7) (ae 10))))
 (bz (bZ (ac (aw bE (ac (ae 11) (ac (ae 10) ap))) (ac (aw bE (ac (ae 12) (ac (ae 10) ap))) ap)))))))))
theorem Gg:Ok lV oP ["_law_way","_law_spot_here","_law_p","_law_q","_law_r","_law_s","_law_right","_law_up","_law_x","_law_y","_law_bottom","_law_one","_law_other"]:=by
 rintro ss R ⟨⟨a,b,c,d,r,u⟩,⟨⟨x,p⟩,y,q⟩,rfl,W,ok,⟨⟨z1,z2⟩,z3,z4⟩,h⟩;obtain⟨_,wa,wb,wc,wd,wr,wu⟩:=W;dsimp only at wa wb wc wd wr wu z1 z2 z3 z4;have zp:=ca ok;show oP _ [some (.t (.tup [.int a,.int b,.int c,.int d,.int r,.int u])),some (.t (.tup [.tup [.int x,.int p],.tup [.int y,.int q]])),none,none,none,none,none,none,none,none,none,none,none];have sa:Sz 100 a:=Sz.mono (Sz.of (m:=10) (by omega) (by omega)) (by decide)
 have sb:Sz 100 b:=Sz.mono (Sz.of (m:=10) (by omega) (by omega)) (by decide)
 have sc:Sz 100 c:=Sz.mono (Sz.of (m:=10) (by omega) (by omega)) (by decide)
 have sd:Sz 100 d:=Sz.mono (Sz.of (m:=10) (by omega) (by omega)) (by decide)
 have sr:Sz 100 r:=(mG wr).mono (by decide)
 have su:Sz 100 u:=(mG wu).mono (by decide)
 have e1:a*x*q+b*y*p+r*(p*q)=(fX ⟨a,b,c,d,r,u⟩ (af ((x,p),(y,q)))).1:=by unfold fX af;grind
 have e2:c*x*q+d*y*p+u*(p*q)=(fX ⟨a,b,c,d,r,u⟩ (af ((x,p),(y,q)))).2.1:=by unfold fX af;grind
 delta oP
 walk_at"go";refine⟨_,_,rfl,zp,by walk_at"szk",by walk_at"szk",?_⟩
 refine⟨_,_,rfl,zp,by walk_at"szk",by walk_at"szk",?_⟩
 rw[e1,e2];show tupK _ [norm (rW _),norm (rW _)];rw[fj (x:=rW _) rfl,fj (x:=rW _) rfl];exact h
theorem yM:Ok kW jX ["_law_head","_law_p","_law_q","_law_r","_law_s","_law_far"]:=by
 rintro ss R ⟨hd,rfl,hdl,hdb,h⟩;have dummy:Sz 1 0:=⟨by decide⟩
 show jX _ [some (.t (.lst (hd.map .int))),none,none,none,none,none]
 delta jX
 walk_at"d";refine je (i:=0) (by omega) hdb fun v0 _ _=>?_
 have b0:=fmod_lo v0 (n:=7) (by decide)
 have c0:=fmod_hi v0 (n:=7) (by decide)
 walk_at"go";refine je (i:=1) (by omega) hdb fun v1 _ _=>?_
 have b1:=fmod_lo v1 (n:=7) (by decide)
 have c1:=fmod_hi v1 (n:=7) (by decide)
 walk_at"go";refine je (i:=2) (by omega) hdb fun v2 _ _=>?_
 have b2:=fmod_lo v2 (n:=7) (by decide)
 have c2:=fmod_hi v2 (n:=7) (by decide)
 walk_at"go";refine je (i:=3) (by omega) hdb fun v3 _ _=>?_
 have b3:=fmod_lo v3 (n:=7) (by decide)
 have c3:=fmod_hi v3 (n:=7) (by decide)
 walk_at"go";have ra:-3<=v0.fmod 7-3/\v0.fmod 7-3<=3:=by omega
 have rb:-3<=v1.fmod 7-3/\v1.fmod 7-3<=3:=by omega
 have rc:-3<=v2.fmod 7-3/\v2.fmod 7-3<=3:=by omega
 have rd:-3<=v3.fmod 7-3/\v3.fmod 7-3<=3:=by omega
 clear b0 b1 b2 b3 c0 c1 c2 c3;generalize v0.fmod 7-3=a at *;generalize v1.fmod 7-3=b at *;generalize v2.fmod 7-3=c at *;generalize v3.fmod 7-3=d at *;refine⟨fun δ=>∃ a b c d:Int,a*d-b*c≠0/\(-3<=a/\a<=3)/\(-3<=b/\b<=3)/\(-3<=c/\c<=3)/\(-3<=d/\d<=3)/\δ=[some (.t (.lst (hd.map .int))),some (.t (.int a)),some (.t (.int b)),some (.t (.int c)),some (.t (.int d)),none],?_,?_⟩
 ·walk_at"go"
  split
  ·refine je (i:=3) (by omega) hdb fun w3 _ _=>?_
   have p1:=fmod_lo w3 (n:=2) (by decide)
   have p2:=fmod_hi w3 (n:=2) (by decide)
   walk_at"go"
   rcases(show w3.fmod 2=0\/w3.fmod 2=1 by omega) with e|e
   all_goals(
    rw[e];walk_at"d";exact⟨_,_,_,_,by omega,by omega,by omega,by omega,by omega,rfl⟩)
  ·exact⟨_,_,_,_,by omega,ra,rb,rc,rd,rfl⟩
 ·rintro δ ⟨a,b,c,d,hd0,ha,hb,hc,hd',rfl⟩;walk_at"go";refine je (i:=0) (by omega) hdb fun w0 _ _=>?_
  have p1:=fmod_lo (w0.fdiv 7) (n:=2) (by decide)
  have p2:=fmod_hi (w0.fdiv 7) (n:=2) (by decide)
  walk_at"go";obtain⟨far,f1,f2,ef⟩:∃ far:Int,9<=far/\far<=1000000000000000000/\∀ R:S->Prop,atT [T.int 9,T.int 1000000000000000000] ((w0.fdiv 7).fmod 2) R=R (.t (.int far)):=by
   rcases(show(w0.fdiv 7).fmod 2=0\/(w0.fdiv 7).fmod 2=1 by omega) with e|e
   ·exact⟨9,by omega,by omega,fun R=>by rw[e];rfl⟩
   ·exact⟨1000000000000000000,by omega,by omega,fun R=>by rw[e];rfl⟩
  rw[ef];walk_at"go";refine je (i:=4) (by omega) hdb fun w4 _ _=>?_
  walk_at"go";refine je (i:=5) (by omega) hdb fun w5 _ _=>?_
  walk_at"go";have g1:=fmod_lo w4 (n:=2*far+1) (by omega)
  have g2:=fmod_hi w4 (n:=2*far+1) (by omega)
  have g3:=fmod_lo w5 (n:=2*far+1) (by omega)
  have g4:=fmod_hi w5 (n:=2*far+1) (by omega)
  exact h ⟨a,b,c,d,_,_⟩ ⟨hd0,ha,hb,hc,hd',by unfold nB;dsimp only;omega,by unfold nB;dsimp only;omega⟩
end Law
namespace Law
open L2 DL
set_option maxHeartbeats 4000000
def IZ:WS:=
 (bz (tm (ao aJ (aw fO (ac (ae 2) ap)) (wC (.int 0))) (ao aJ (aw fO (ac (ae 10) ap)) (wC (.int 0)))))
def IY:WS:=
 (aC (iW (wB (ON (vC (ae 13)) (vC (aw jN (ac (ae 10) (ac (ae 12) ap)))))) (bz (wC (.bl false))) bB) IZ)
def IX:WS:=
 (aC (aF 12 (cE (wC (.int 1)) (dr (ao aJ (ae 1) (wC (.int 16))) (eP dj (ac (ae 2) ap)))))
 (aC (aF 13 (dQ 1 [3] (cm (aw jN (ac (ae 2) (ac (ae 12) ap)))) (aG 0) nu (aw lV (ac (ae 1) (ac (ae 0) ap))))) IY))
def IW:WS:=
 (aC (aF 10 (dQ 2 [4,5,8,6,7,9] (cm (ae 2)) (kA (bC (aG 0) (bC (aG 1) iX))) nu (bZ (ac (cE (cE (aU (ae 2) (ae 0)) (aU (ae 3) (ae 1))) (ae 4)) (ac (cE (cE (aU (ae 5) (ae 0)) (aU (ae 6) (ae 1))) (ae 7)) ap)))))
 (aC (aF 11 (aw ng (ac (ae 2) (ac (ao aJ (ae 1) (wC (.int 15))) ap))))
 (aC (iW (wB (ON (ao aJ (aw fP (ac (ae 2) (ac (ae 11) ap))) (wC (.int 0))) (ao aJ (aw fP (ac (ae 10) (ac (aw lV (ac (ae 3) (ac (ae 11) ap))) ap))) (wC (.int 0))))) (bz (wC (.bl false))) bB) IX)))
def AU:WS:=
 (aC (aF 1 (aw iL (ac (ae 0) (ac (wC (.int 19)) ap))))
 (aC (aF 2 (aw jv (ac (ae 1) (ac (cE (wC (.int 1)) (dr (ao aJ (ae 1) (wC (.int 2))) (wC (.int 5)))) ap))))
 (aC (aF 3 (aw kW (ac (iR (ae 1) (l7 (wC (.int 9))) iQ) ap)))
 (aC (xB (ae 3) (kA (bC (aG 4) (bC (aG 5) (bC (aG 6) (bC (aG 7) (bC (aG 8) (bC (aG 9) iX))))))))
 IW))))
theorem Dj {l:List Pt}{s:aS}{R:S->Prop}(hne:l≠[])(hl:l.length<=7)(hz:∀ p∈l,SzF 100 p)(ok:bA s)(sz:fg 600 s)(h:R (.t (.int (nX (l.map (hW (af s))))))):fP [.t (.lst (l.map aV)),.t (spT s)] fun x=>aJ (got x) (.t (.int 0)) R:=
 ⟨l,s,rfl,hne,by omega,fun p hp=>(hz p hp).mono3 (by decide),sz,by have:=ok.1.1;omega,by have:=ok.2.1;omega,fun f _ _ _=>by
  show aJ (norm _) _ R;rw[fj (x:=.tup [.int (nX (eZ s l)),bc (Q8 f s)]) rfl];exact h⟩
theorem zR {l:List Pt}{R:S->Prop}(hne:l≠[])(hl:l.length<=6)(hz:∀ p∈l,SzF 100 p)(h:∀ k s,Cz l k s->R (.t (.int (k:Nat)))):fO [.t (.lst (l.map aV))] fun x=>aJ (got x) (.t (.int 0)) R:=
 ⟨l,rfl,hne,by omega,hz,fun k s x y d=>by
  show aJ (norm _) _ R;rw[show norm (.tup [.int (k:Int),spT s,.lst x,.lst y])=.vt (.tup [.int (k:Int),spT s,.lst x,.lst y]) from rfl];exact h k s d⟩
theorem Rw {α:Type}{f:α->T}(l:List α)(k:Nat):gU (l.map f) (some (k:Int)) none=(l.drop k).map f:=by
 unfold gU;rw[HT.sIx_nat,HT.sIx_none,length_map,<-map_drop,take_of_length_le (by rw[length_map,length_drop];omega)]
 rcases Nat.le_total k l.length with h|h
 ·rw[min_eq_left h]
 ·rw[Nat.min_eq_right h,List.drop_eq_nil_of_le (le_refl _),List.drop_eq_nil_of_le h]
theorem M0 {w:Wy}(W:CH w){s:aS}(h:fg 119 s):fg 600 (jh w s):=by
 have sa:Sz 100 w.a:=Sz.mono (Sz.of (m:=10) (by have:=W.a;omega) (by have:=W.a;omega)) (by decide)
 have sb:Sz 100 w.b:=Sz.mono (Sz.of (m:=10) (by have:=W.b;omega) (by have:=W.b;omega)) (by decide)
 have sc:Sz 100 w.c:=Sz.mono (Sz.of (m:=10) (by have:=W.c;omega) (by have:=W.c;omega)) (by decide)
 have sd:Sz 100 w.d:=Sz.mono (Sz.of (m:=10) (by have:=W.d;omega) (by have:=W.d;omega)) (by decide)
 have sr:Sz 100 w.r:=(mG W.r).mono (by decide)
 have su:Sz 100 w.u:=(mG W.u).mono (by decide)
 have z:=N9 h;exact⟨⟨((Sz.add (Sz.add (Sz.mul sa z.1) (Sz.mul sb z.2.1)) (Sz.mul sr z.2.2)).mono (by decide)).fdiv _,(z.2.2.mono (by decide)).fdiv _⟩,((Sz.add (Sz.add (Sz.mul sc z.1) (Sz.mul sd z.2.1)) (Sz.mul su z.2.2)).mono (by decide)).fdiv _,(z.2.2.mono (by decide)).fdiv _⟩
theorem MY {w:Wy}(W:CH w){p:Pt}(h:nB p.1/\nB p.2):SzF 100 (wK w p):=by
 have sr:=W.r;have su:=W.u;unfold nB at h sr su;have x:∀ m:Int,-3<=m/\m<=3->∀ x:Int,-1000000000000000000<=x/\x<=1000000000000000000->-3000000000000000000<=m*x/\m*x<=3000000000000000000:=fun m hm x hx=>by
  rcases(show m=-3\/m=-2\/m=-1\/m=0\/m=1\/m=2\/m=3 by omega) with rfl|rfl|rfl|rfl|rfl|rfl|rfl <;> omega
 have a:=x _ W.a _ h.1;have b:=x _ W.b _ h.2;have c:=x _ W.c _ h.1;have d:=x _ W.d _ h.2;exact⟨(Sz.of (m:=70) (by show _<w.a*p.1+w.b*p.2+w.r;omega) (by show w.a*p.1+w.b*p.2+w.r<_;omega)).mono (by decide),(Sz.of (m:=70) (by show _<w.c*p.1+w.d*p.2+w.u;omega) (by show w.c*p.1+w.d*p.2+w.u<_;omega)).mono (by decide)⟩
structure Hk (ps:List Pt) (hd:List Int) (w:Wy):Prop where
 ne:ps≠[]
 l5:ps.length<=5
 hz:∀ p∈ps,SzF 100 p
 W:CH w
 one:ps.map (wK w)≠[]
 lo:(ps.map (wK w)).length<=5
 zo:∀ p∈ps.map (wK w),SzF 100 p
 hdl:hd.length=19
 hdb:∀ v∈hd,0<=v/\v<big
theorem P8 {ns:List Int}{ps:List Pt}{hd:List Int}{w:Wy}{R:S->Prop}{r11 r12 r13:Option S}(V:Hk ps hd w)(h:R (.t (.bl true))) :
  IZ {nx:=fun _=>R (.t .non),rt:=R} [some (.t (.lst (ns.map .int))),some (.ol (hd.map .int)),some (.ol (ps.map aV)),some (.t (.tup [.int w.a,.int w.b,.int w.c,.int w.d,.int w.r,.int w.u])),some (.t (.int w.a)),some (.t (.int w.b)),some (.t (.int w.c)),some (.t (.int w.d)),some (.t (.int w.r)),some (.t (.int w.u)),some (.ol ((ps.map (wK w)).map aV)),r11,r12,r13]:=by
 unfold IZ;walk_at"d";refine zR V.ne (by have:=V.l5;omega) V.hz fun a s da=>?_
 refine zR V.one (by have:=V.lo;omega) V.zo fun b u db=>?_
 walk_at"d";have h1:=db.top (fX w (af s)) (ca da.ok);rw[Aj V.W.det,da.dep]at h1;have h2:=da.top (ldI w (af u)) (mul_pos (oi V.W.det) (ca db.ok));rw[<-Aj V.W.det,(EK V.W.det (af u)).dp,db.dep]at h2;rw[decide_eq_true (show(a:Int)=b by omega)]
 exact h
theorem sN {L:List aS}(R:ke L):L.Nodup:=by
 cases L with
 | nil=>exact nodup_nil
 | cons a l=>
  refine nodup_cons.mpr ⟨fun ha=>?_,?_⟩
  ·obtain⟨k,hk,e⟩:=getElem_of_mem ha;have:=R.reg.fst (k+1) (by simp;omega) (by omega)
   simp[e9,e]at this;exact Bf.irr _ this
  ·rw[List.Nodup,pairwise_iff_getElem];intro i j hi hj hij e;have:=fU R.reg 0 (i+1) (j+1) (by omega) (by omega) (by simp;omega)
   simp[e,dL]at this
theorem P7 {ns:List Int}{ps:List Pt}{hd:List Int}{w:Wy}{R:S->Prop}{r11:Option S}{k:Nat}{L:List aS}(V:Hk ps hd w)(hk1:1<=k)(K:xN ps k L)(h:R (.t (.bl true))) :
  IY {nx:=fun _=>R (.t .non),rt:=R} [some (.t (.lst (ns.map .int))),some (.ol (hd.map .int)),some (.ol (ps.map aV)),some (.t (.tup [.int w.a,.int w.b,.int w.c,.int w.d,.int w.r,.int w.u])),some (.t (.int w.a)),some (.t (.int w.b)),some (.t (.int w.c)),some (.t (.int w.d)),some (.t (.int w.r)),some (.t (.int w.u)),some (.ol ((ps.map (wK w)).map aV)),r11,some (.t (.int (k:Int))),some (.ol ((L.map (jh w)).map spT))]:=by
 have g2:∀ l:List aS,got (.ol (l.map spT))=.ol (l.map spT):=fun l=>fb _ (bI (fun _=>rfl) l);have len:∀ {ps:List Pt}{L:List aS},xN ps k L->L.length<=63:=fun {ps L} K=>by
  rcases lt_or_ge L.length 3 with z|z
  ·omega
  ·have:=K.few z;omega
 unfold IY;generalize hD:IZ=D;walk_at"d";rw[zC];walk_at"d";refine⟨L.map (jh w),rfl,by rw[length_map];exact len K,MZ V.W.det K.reg (sN K.reg),fun N n1 n2=>?_⟩
 dsimp only;rw[zC];walk_at"d";refine⟨ps.map (wK w),k,rfl,V.one,by have:=V.lo;omega,V.zo,hk1,fun L' K'=>?_⟩
 dsimp only;rw[g2];refine⟨L',rfl,len K',sN K'.reg,fun N' m1 m2=>?_⟩;walk_at"d";have e:N=N':=sV (fun a b h1 h2=>by
  have:=ST.lex_trans _ _ _ h1 h2;rw[ST.lex_irr]at this;exact nomatch this) n2 m2 fun x=>by rw[n1.mem_iff,m1.mem_iff];exact wL V.W.det K K' x
 rw[if_neg (by simp[e]),<-hD]
 exact P8 V h
theorem P6 {ns:List Int}{ps:List Pt}{hd:List Int}{w:Wy}{R:S->Prop}{r11:Option S}(V:Hk ps hd w)(h:R (.t (.bl true))) :
  IX {nx:=fun _=>R (.t .non),rt:=R} [some (.t (.lst (ns.map .int))),some (.ol (hd.map .int)),some (.ol (ps.map aV)),some (.t (.tup [.int w.a,.int w.b,.int w.c,.int w.d,.int w.r,.int w.u])),some (.t (.int w.a)),some (.t (.int w.b)),some (.t (.int w.c)),some (.t (.int w.d)),some (.t (.int w.r)),some (.t (.int w.u)),some (.ol ((ps.map (wK w)).map aV)),r11,none,none]:=by
 have dummy:Sz 1 0:=⟨by decide⟩
 have hl:0<ps.length:=length_pos_iff.mpr V.ne;have g2:∀ l:List aS,got (.ol (l.map spT))=.ol (l.map spT):=fun l=>fb _ (bI (fun _=>rfl) l);unfold IX;generalize hC:IY=C;walk_at"d";refine yk (i:=16) (by have:=V.hdl;omega) V.hdb fun v16 _ _=>?_
 walk_at"go";rw[length_map];have c1:=fmod_lo v16 (n:=(ps.length:Int)) (by omega)
 obtain⟨k,ek⟩:∃ k:Nat,1+v16.fmod (ps.length:Int)=k:=⟨(1+v16.fmod (ps.length:Int)).toNat,by omega⟩
 rw[ek];refine⟨by omega,ps,k,rfl,V.ne,by have:=V.l5;omega,V.hz,by omega,fun L hL=>?_⟩
 dsimp only;rw[g2];walk_at"d";have len:=hL.len;refine eU (f:=spT) (h:=fun s=>spT (jh w s)) (l:=L) (fun δ=>∃ r0,δ=[r0,some (.t (.tup [.int w.a,.int w.b,.int w.c,.int w.d,.int w.r,.int w.u]))]) (fun _ _=>rfl) (by omega) ⟨_,rfl⟩ ?_ ?_
 ·rintro s hm δ ⟨r0,rfl⟩ Y h1;have rs:=GG hL.reg s hm;walk_at"d";refine⟨w,s,rfl,V.W,rs.1,rs.2,?_⟩;dsimp only;rw[show got (.t (spT (jh w s)))=.t (spT (jh w s)) from fj rfl];exact h1 _ ⟨_,rfl⟩
 ·rw[show(L.map fun s=>spT (jh w s))=(L.map (jh w)).map spT by rw[map_map];rfl]
  walk_at"d";rw[<-hC];exact P7 V (by omega) hL h
theorem P5 {ns:List Int}{ps:List Pt}{hd:List Int}{w:Wy}{R:S->Prop}(V:Hk ps hd w)(hE:∀ p∈ps,nB p.1/\nB p.2)(h:R (.t (.bl true))) :
  IW {nx:=fun _=>R (.t .non),rt:=R} [some (.t (.lst (ns.map .int))),some (.ol (hd.map .int)),some (.ol (ps.map aV)),some (.t (.tup [.int w.a,.int w.b,.int w.c,.int w.d,.int w.r,.int w.u])),some (.t (.int w.a)),some (.t (.int w.b)),some (.t (.int w.c)),some (.t (.int w.d)),some (.t (.int w.r)),some (.t (.int w.u)),none,none,none,none]:=by
 have dummy:Sz 1 0:=⟨by decide⟩
 unfold IW;generalize hB:IX=B;walk_at"d";refine eU (f:=aV) (h:=fun p=>aV (wK w p)) (l:=ps) (fun δ=>∃ r0 r1,δ=[r0,r1,some (.t (.int w.a)),some (.t (.int w.b)),some (.t (.int w.r)),some (.t (.int w.c)),some (.t (.int w.d)),some (.t (.int w.u))]) (fun _ _=>rfl) (by have:=V.l5;omega) ⟨_,_,rfl⟩ ?_ ?_
 ·rintro⟨x,y⟩ hm δ ⟨r0,r1,rfl⟩ Y h1;obtain⟨z1,z2⟩:=V.hz _ hm;dsimp only at z1 z2;have ⟨ha,hb,hc,hd⟩:=And.intro V.W.a (And.intro V.W.b (And.intro V.W.c V.W.d));have sa:Sz 10 w.a:=Sz.of (m:=10) (by omega) (by omega)
  have sb:Sz 10 w.b:=Sz.of (m:=10) (by omega) (by omega)
  have sc:Sz 10 w.c:=Sz.of (m:=10) (by omega) (by omega)
  have sd:Sz 10 w.d:=Sz.of (m:=10) (by omega) (by omega)
  walk_at"go";exact h1 _ ⟨_,_,rfl⟩
 ·rw[show(ps.map fun p=>aV (wK w p))=(ps.map (wK w)).map aV by rw[map_map];rfl]
  walk_at"d";refine yk (i:=15) (by have:=V.hdl;omega) V.hdb fun v15 _ _=>?_
  walk_at"d";refine⟨ps,_,rfl,V.ne,by have:=V.l5;omega,V.hz,fun s ok zs=>?_⟩
  walk_at"d";refine Dj (s:=s) V.ne (by have:=V.l5;omega) V.hz ok (dq zs (by decide)) ?_
  walk_at"d";refine⟨w,s,rfl,V.W,ok,dq zs (by decide),?_⟩
  dsimp only;rw[show got (.t (spT (jh w s)))=.t (spT (jh w s)) from fj rfl];show fP [.t (.lst ((ps.map (wK w)).map aV)),.t (spT (jh w s))] _;refine Dj (s:=jh w s) V.one (by have:=V.lo;omega) V.zo (yr ok) (M0 V.W zs) ?_
  rw[(pO ok).dp,Aj V.W.det];walk_at"d";rw[if_neg (by simp),<-hB]
  exact P6 V h
theorem Nl:Ok AK AU ["_law_script","_law_head","_law_points_here","_law_way","_law_p","_law_q","_law_r","_law_s","_law_right","_law_up","_law_others","_law_spot_here","_law_k","_law_corners"]:=by
 rintro ss R ⟨ns,rfl,hn,h⟩;have dummy:Sz 1 0:=⟨by decide⟩
 show AU _ [some (.t (.lst (ns.map .int))),none,none,none,none,none,none,none,none,none,none,none,none,none]
 delta AU
 generalize hA:IW=A;walk_at"d";refine⟨ns,19,rfl,hn,by decide,by decide,fun hd hdl hdb=>?_⟩
 walk_at"d";refine yk (i:=2) (by omega) hdb fun v2 _ _=>?_
 have b1:=fmod_lo v2 (n:=5) (by decide)
 have b2:=fmod_hi v2 (n:=5) (by decide)
 walk_at"go";refine⟨hd,_,rfl,by omega,hdb,by omega,by omega,fun ps hl hE=>?_⟩
 have g:∀ l:List Pt,got (.ol (l.map aV))=.ol (l.map aV):=fun l=>fb _ (AE l);dsimp only;rw[g];walk_at"d";have hps:ps≠[]:=fun e=>by rw[e]at hl;simp at hl;omega
 have hl5:ps.length<=5:=by omega
 have hz:∀ p∈ps,SzF 100 p:=fun p hp=>⟨(mG (hE p hp).1).mono (by decide),(mG (hE p hp).2).mono (by decide)⟩
 rw[show gU (hd.map T.int) (some 9) none=(hd.drop 9).map T.int from Rw hd 9];refine⟨hd.drop 9,rfl,by rw[length_drop];omega,fun v hv=>hdb v (List.mem_of_mem_drop hv),fun w W=>?_⟩
 have hzo:∀ p∈ps.map (wK w),SzF 100 p:=fun p hp=>by
  obtain⟨q,hq,rfl⟩:=mem_map.mp hp;exact MY W (hE q hq)
 have one:ps.map (wK w)≠[]:=fun e=>hps (List.map_eq_nil_iff.mp e);have lo:(ps.map (wK w)).length<=5:=by rw[length_map];exact hl5
 dsimp only;rw[show got (.t (QZ w))=.t (QZ w) from fj rfl];unfold QZ;walk_at"d";rw[<-hA];exact P5 ⟨hps,hl5,hz,W,one,lo,hzo,hdl,hdb⟩ hE h
end Law
namespace PySem.W.Fast
def tw10082960562424713970:Nat:=0
def tw10161585105595430118:Nat:=0
def tw10207057545940239681:Nat:=0
def tw10373372646937595312:Nat:=0
def tw10423314139565267899:Nat:=0
def tw10473153920095974898:Nat:=0
def tw10476161412495363787:Nat:=0
def tw10543444720143582647:Nat:=0
def tw10592235974290476650:Nat:=0
def tw10646984519167776669:Nat:=0
def tw106747331168058247:Nat:=0
def tw10906468217119342238:Nat:=0
def tw1095807168106900798:Nat:=0
def tw11066691950969010409:Nat:=0
def tw11218022028226306063:Nat:=0
def tw11408426198423571212:Nat:=0
def tw11594212788099134930:Nat:=0
def tw11626968777693730888:Nat:=0
def tw11643994747376836173:Nat:=0
def tw11880886941770317303:Nat:=0
def tw11964425605373452907:Nat:=0
def tw1206564545931744311:Nat:=0
def tw12313870247958080288:Nat:=0
def tw12464286043180820646:Nat:=0
def tw12550189258311754765:Nat:=0
def tw12603807530510236501:Nat:=0
def tw12824290918730310330:Nat:=0
def tw13057975472249941601:Nat:=0
def tw13111422593768240363:Nat:=0
def tw13398816406928883112:Nat:=0
def tw13436075589636136396:Nat:=0
def tw13680581762992764285:Nat:=0
def tw13719736949733945902:Nat:=0
def tw13759018354700429273:Nat:=0
def tw14523604542524913579:Nat:=0
def tw14684946168180252543:Nat:=0
def tw14781888287144195627:Nat:=0
def tw15772683446659091679:Nat:=0
def tw16249397314454112072:Nat:=0
def tw16474706064890786104:Nat:=0
def tw16487856444407879294:Nat:=0
def tw16604070341135366347:Nat:=0
def tw16649676419367451582:Nat:=0
def tw16704630159211187964:Nat:=0
def tw16845800388342597808:Nat:=0
def tw16870923238538147027:Nat:=0
def tw17006634180255460999:Nat:=0
def tw17073955630074332377:Nat:=0
def tw17151973482471581055:Nat:=0
def tw17356011155160415691:Nat:=0
def tw17428369357599703607:Nat:=0
def tw17553664473903459865:Nat:=0
def tw17705894822847046313:Nat:=0
def tw17881993759958783854:Nat:=0
def tw17991127394359756012:Nat:=0
def tw18071214701840382359:Nat:=0
def tw18104118216929555858:Nat:=0
def tw18146758582956086213:Nat:=0
def tw1824034350763334147:Nat:=0
def tw18320739981378103176:Nat:=0
def tw1880936615551933461:Nat:=0
def tw1992269742362710489:Nat:=0
def tw2165547874196772177:Nat:=0
def tw2205945613713735682:Nat:=0
def tw2315775904132441518:Nat:=0
def tw2334442554903141285:Nat:=0
def tw2378674367191676745:Nat:=0
def tw2528344804976543782:Nat:=0
def tw2854526016146195401:Nat:=0
def tw2958005724585531068:Nat:=0
def tw3050570639788222551:Nat:=0
def tw3092934538296640849:Nat:=0
def tw3344271742811105743:Nat:=0
def tw347261558044323793:Nat:=0
def tw3769489828781544404:Nat:=0
def tw3811935370637839716:Nat:=0
def tw4347562251578642079:Nat:=0
def tw4622816044937938844:Nat:=0
def tw4680005513683034154:Nat:=0
def tw4734298174855250208:Nat:=0
def tw4886163121451686416:Nat:=0
def tw5015316058158434845:Nat:=0
def tw502427062775263790:Nat:=0
def tw5053322944205276334:Nat:=0
def tw5205555193956991211:Nat:=0
def tw5448868941256665317:Nat:=0
def tw5877170695335818187:Nat:=0
def tw58856912325624405:Nat:=0
def tw6182288614943675184:Nat:=0
def tw6208110385335870859:Nat:=0
def tw6315634223117561606:Nat:=0
def tw6383718448660610334:Nat:=0
def tw6396271278217649826:Nat:=0
def tw6522782404779505077:Nat:=0
def tw6597342162685381440:Nat:=0
def tw6850901851667418673:Nat:=0
def tw7047771227739120878:Nat:=0
def tw7214479435929858480:Nat:=0
def tw7372954615962135031:Nat:=0
def tw759504602209923511:Nat:=0
def tw7634164690449096335:Nat:=0
def tw7655829914671528470:Nat:=0
def tw798665431640860809:Nat:=0
def tw8047961083515850421:Nat:=0
def tw834011952327709319:Nat:=0
def tw8411770867161499440:Nat:=0
def tw8472022054905955487:Nat:=0
def tw8637433884667010715:Nat:=0
def tw8668189724175576211:Nat:=0
def tw8828913416024079325:Nat:=0
def tw8899840555807515732:Nat:=0
def tw8911372049579969178:Nat:=0
def tw9260701564623499327:Nat:=0
def tw9433119257432968691:Nat:=0
def tw9635072193745093578:Nat:=0
def tw9656403817405180643:Nat:=0
def tw9664321814853838508:Nat:=0
def tw9717952734554887210:Nat:=0
def tw9722773684093054443:Nat:=0
def tw9824215676647141287:Nat:=0
end PySem.W.Fast
namespace Law
open PySem PyProof.Rows L2 DL
set_option maxHeartbeats 4000000
def top (i:Nat):Stmt:=PySem.Challenge.pw_deepspot_k61_whole_points_led.main.body.getD i (.Pass ⟨0,0,0,0⟩)
local macro_rules | `(tactic| walk_at"fs")=>`(tactic| exact⟨rfl,rfl,rfl,by decide +kernel,rfl,by decide +kernel,by decide +kernel⟩)
local macro_rules | `(tactic| walk_at"ln")=>`(tactic| (intro ss R h;repeat (first | (obtain⟨h,_⟩:=h;subst h;rfl) | (cases h with | inl h=>(repeat (first | (obtain⟨h,_⟩:=h;subst h;rfl) | (obtain⟨_,h⟩:=h))) | inr h=>(repeat (first | (obtain⟨h,_⟩:=h;subst h;rfl) | (obtain⟨_,h⟩:=h)))) | (obtain⟨_,h⟩:=h))))
local macro_rules | `(tactic| walk_at"bn")=>`(tactic| exact fun _ _ _ _ _ _ us hl=>match us,hl with | [_],_=>rfl)
local macro_rules | `(tactic| walk_at"bn")=>`(tactic| exact fun _ _ _ _ _ _ us hl=>match us,hl with | [_,_],_=>rfl)
local macro_rules | `(tactic| walk_at"bn")=>`(tactic| exact fun _ _ _ _ _ _ us hl=>match us,hl with | [_,_,_],_=>rfl)
local macro_rules | `(tactic| walk_at"bn")=>`(tactic| exact fun _ _ _ _ _ _ us hl=>match us,hl with | [_,_,_,_],_=>rfl)
section
variable {X:Cx}{e:Expr}{es:List Expr}{wa:WA}{pos:Pos}
theorem ai {k k':Nat}{x:Str}{sp:aM}{p:Pos} (C:Callee X.prog X.w X.K X.mg X.base k x sp) (hr:cb k' X.A) (ha:PA X (e::es) (dM X.K wa)) (hk:k<=k':=by decide) (hg:Gl X x:=by rfl) (hdb:(x == ("__debug__":Str))=false:=by decide)
  (he:starEach (e::es) X.env=(false,eval e X.env)::starEach es X.env:=by exact aP rfl) (hpl:(backTo pos (starEach es X.env)).any (·.1)=false:=by exact dP rfl):PE X (.Call (.Name x p) (e::es) [] pos) (av X.K (aw sp wa)):=zP C (hr.mono hk) hg ha hdb he hpl
end
structure Q0 where
 (P:Program) (w:World) (K:Frg) (mg:Str->Option Value) (base:Heap) (f:Addr) (cdv:Value) (A:Around) (outer:List Env) (s:Shared) (H:Hp) (E:XK)
abbrev Ce (e:Q0)(k:Nat)(x:Str)(sp:aM):Prop:=Callee e.P e.w e.K e.mg e.base k x sp
abbrev Rm (e:Q0)(k:Nat)(n:Str)(st:Stmt):Prop:=cb k (e.A.deeper (envOfC n (al st) e.s.heap.objs.size e.f e.cdv))
abbrev Bd (e:Q0){N ps:List Str}{st:Stmt}(_:ay N ps (al st))(n:Str)(u:WS):Prop:=k8 (qV zx e.P e.w e.K e.mg e.base N n (al st) e.f e.cdv e.A e.outer e.s e.H e.E).nox (cz st) (bK e.K e.H u)
section
variable {e:Q0}
abbrev mU:Stmt:=top 7
theorem dB:ay ["one","other","greater","lesser","rest"] ["one","other"] (al mU):=by walk_at"fs"
theorem Ba (m0:e.mg "abs"=none) (hr:Rm e 0 "divisor" mU):Bd e dB "divisor" jU:=
 (ah (aq (i:=2) dB.nd (dI m0 (aa (dv 0) ag)))
 (ah (aq (i:=3) dB.nd (dI m0 (aa (dv 1) ag)))
 (aK (lw PassesOwn.never (v9 hr (dv 3) ab) (ah (aq (i:=4) dB.nd (bh (dv 2) (dv 3)))
 (ah (aq (i:=2) dB.nd (dv 3))
 (am (aq (i:=3) dB.nd (dv 4))))))
 (am (fY (pv 2))))))
abbrev vg:Stmt:=top 8
theorem lR:ay ["top","bottom","common"] ["top","bottom"] (al vg):=by walk_at"fs"
theorem Idq (c0:Ce e 1 "divisor" cD) (hr:Rm e 1 "ratio" vg):Bd e lR "ratio" oR:=
 (ah (bD (eV hr (dv 1) ab) (am jb) aN)
 (ah (aq (i:=2) lR.nd (ai c0 hr (aa (dv 0) (aa (dv 1) ag))))
 (aK (bD (nJ (dv 1) ab) (am (aq (i:=2) lR.nd (dJ (dv 2)))) aN)
 (am (aE (aQ (aa (bQ (dv 0) (dv 2)) (aa (bQ (dv 1) (dv 2)) ag))))))))
abbrev u9:Stmt:=top 9
theorem xj:ay ["one","other"] ["one","other"] (al u9):=by walk_at"fs"
theorem HX (hr:Rm e 0 "below" u9):Bd e xj "below" oK:=
 (am (aE (PF (ax (aj (dv 0) ab) (aj (dv 1) ab)) (ax (aj (dv 1) ab) (aj (dv 0) ab)))))
abbrev yZ:Stmt:=top 11
theorem vh:ay ["a","b","c","common"] ["a","b","c"] (al yZ):=by walk_at"fs"
theorem L3 (c0:Ce e 1 "divisor" cD) (hr:Rm e 1 "half" yZ):Bd e vh "half" vD:=
 (ah (bD (Bv (PW.pt (jc (eV hr (dv 0) ab) (im (eV hr (dv 1) ab))))) (am jb) aN)
 (ah (aq (i:=3) vh.nd (ai c0 hr (aa (ai c0 hr (aa (dv 0) (aa (dv 1) ag))) (aa (dv 2) ag))))
 (am (aE (aQ (aa (bQ (dv 0) (dv 3)) (aa (bQ (dv 1) (dv 3)) (aa (bQ (dv 2) (dv 3)) ag))))))))
abbrev mR:Stmt:=top 12
theorem iE:ay ["one","other","a","b"] ["one","other"] (al mR):=by walk_at"fs"
theorem A6 (c3:Ce e 2 "half" lU) (hr:Rm e 2 "between" mR):Bd e iE "between" jQ:=
 (ah (aq (i:=2) iE.nd (a9 (aj (dv 0) ab) (aj (dv 1) ab)))
 (ah (aq (i:=3) iE.nd (a9 (aj (dv 1) ab) (aj (dv 0) ab)))
 (am (aE (ai c3 hr (aa (dv 2) (aa (dv 3) (aa (aW (ax (dv 2) (aj (dv 0) ab)) (ax (dv 3) (aj (dv 0) ab))) ag))))))))
abbrev u6:Stmt:=top 13
theorem xg:ay ["one","other"] ["one","other"] (al u6):=by walk_at"fs"
theorem HS (hr:Rm e 0 "along" u6):Bd e xg "along" oG:=
 (am (aE (aW (ax (aj (dv 0) ab) (aj (dv 1) ab)) (ax (aj (dv 0) ab) (aj (dv 1) ab)))))
abbrev mQ:Stmt:=top 14
theorem qv:ay ["point"] ["point"] (al mQ):=by walk_at"fs"
theorem A5 (hr:Rm e 0 "as_spot" mQ):Bd e qv "as_spot" jP:=
 (am (aE (aQ (aa (aQ (aa (aj (dv 0) ab) (aa ab ag))) (aa (aQ (aa (aj (dv 0) ab) (aa ab ag))) ag)))))
abbrev mS:Stmt:=top 15
theorem qw:ay ["spot"] ["spot"] (al mS):=by walk_at"fs"
theorem A7 (hr:Rm e 0 "bottoms" mS):Bd e qw "bottoms" jR:=
 (am (aE (ax (aj (aj (dv 0) ab) ab) (aj (aj (dv 0) ab) ab))))
abbrev ql:Stmt:=top 16
theorem jM:ay ["half","spot","x","y"] ["half","spot"] (al ql):=by walk_at"fs"
theorem CV (c7:Ce e 1 "bottoms" cQ) (hr:Rm e 1 "excess" ql):Bd e jM "excess" ma:=
 (ah (aq (i:=2) jM.nd (aj (dv 1) ab))
 (ah (aq (i:=3) jM.nd (aj (dv 1) ab))
 (am (aE (a9 (aW (ax (ax (aj (dv 0) ab) (aj (dv 2) ab)) (aj (dv 3) ab)) (ax (ax (aj (dv 0) ab) (aj (dv 3) ab)) (aj (dv 2) ab))) (ax (aj (dv 0) ab) (ai c7 hr (aa (dv 1) ag))))))))
abbrev y8:Stmt:=top 17
theorem AI:ay ["number"] ["number"] (al y8):=by walk_at"fs"
theorem L6 (hr:Rm e 0 "sign" y8):Bd e AI "sign" vF:=
 (ah (bD (kl (dv 0) ab) (am (aE ab)) aN)
 (ah (bD (nJ (dv 0) ab) (am (aE (dJ ab))) aN)
 (am (aE ab))))
abbrev y6:Stmt:=top 18
theorem AH:ay ["half","spot"] ["half","spot"] (al y6):=by walk_at"fs"
theorem L5 (c9:Ce e 1 "sign" vn) (c8:Ce e 2 "excess" dE) (hr:Rm e 2 "side" y6):Bd e AH "side" w_side:=
 (am (aE (ai c9 hr (aa (ai c8 hr (aa (dv 0) (aa (dv 1) ag))) ag))))
abbrev jK:Stmt:=top 19
theorem qy:ay ["half","points"] ["half","points"] (al jK):=by walk_at"fs"
theorem Bh (m1:e.mg "len"=none) (hr:Rm e 0 "many_in" jK):Bd e qy "many_in" jZ:=
 (am (aE (bN m1 (aa (fh (N:=["point","half"]) (own:=1) (fr:=[0]) (NX:=["half","points"]) (ar:=al jK) (by decide +kernel) (bR (dv 1)) bM (fun _ _ _ _=>(aD (i:=0) (show List.Nodup (["point","half"]:List Str) by decide))) (fun _ _ _ _=>(lA (zV (aW (ax (aj (dv 1) ab) (aj (dv 0) ab)) (ax (aj (dv 1) ab) (aj (dv 0) ab))) (aj (dv 1) ab)))) (fun _ _ _ _=>(dv 0))) ag))))
abbrev qp:Stmt:=top 21
theorem sS:ay ["one","other"] ["one","other"] (al qp):=by walk_at"fs"
theorem CY (c2:Ce e 1 "below" dO) (hr:Rm e 1 "lesser" qp):Bd e sS "lesser" me:=
 (ah (bD (eV hr (aj (dv 0) ab) (aj (dv 1) ab)) (am (aE (ai c2 hr (aa (aj (dv 0) ab) (aa (aj (dv 1) ab) ag))))) aN)
 (am (aE (ai c2 hr (aa (aj (dv 0) ab) (aa (aj (dv 1) ab) ag))))))
abbrev jp:Stmt:=top 22
theorem lS:ay ["spot"] ["spot"] (al jp):=by walk_at"fs"
theorem vR (c7:Ce e 1 "bottoms" cQ) (hr:Rm e 1 "stretched" jp):Bd e lS "stretched" gu:=
 (am (aE (aQ (aa (ax (aj (aj (dv 0) ab) ab) (aj (aj (dv 0) ab) ab)) (aa (ax (aj (aj (dv 0) ab) ab) (aj (aj (dv 0) ab) ab)) (aa (ai c7 hr (aa (dv 0) ag)) ag))))))
abbrev y9:Stmt:=top 23
theorem iI:ay ["one","other","third","here","there","a","b","c"] ["one","other","third"] (al y9):=by walk_at"fs"
theorem L7 (c13:Ce e 2 "stretched" bY) (c8:Ce e 2 "excess" dE) (hr:Rm e 2 "turn" y9):Bd e iI "turn" vG:=
 (ah (aq (i:=3) iI.nd (ai c13 hr (aa (dv 0) ag)))
 (ah (aq (i:=4) iI.nd (ai c13 hr (aa (dv 1) ag)))
 (ah (aq (i:=5) iI.nd (a9 (ax (aj (dv 3) ab) (aj (dv 4) ab)) (ax (aj (dv 3) ab) (aj (dv 4) ab))))
 (ah (aq (i:=6) iI.nd (a9 (ax (aj (dv 3) ab) (aj (dv 4) ab)) (ax (aj (dv 3) ab) (aj (dv 4) ab))))
 (ah (aq (i:=7) iI.nd (a9 (ax (aj (dv 3) ab) (aj (dv 4) ab)) (ax (aj (dv 3) ab) (aj (dv 4) ab))))
 (am (aE (ai c8 hr (aa (aQ (aa (dv 5) (aa (dv 6) (aa (dv 7) ag)))) (aa (dv 2) ag))))))))))
abbrev va:Stmt:=top 24
theorem lP:ay ["spots","kept","spot"] ["spots"] (al va):=by walk_at"fs"
theorem HY (m1:e.mg "len"=none) (c14:Ce e 3 "turn" vo) (hr:Rm e 3 "chain" va):Bd e lP "chain" oM:=
 (ah (aq (i:=1) lP.nd (dz ag))
 (aK (dZ PassesOwn.never (bR (dv 0)) (aD (i:=2) lP.nd) (aK (lw PassesOwn.never (Bv (PW.pt (jc (kl (bN m1 (aa (dv 1) ag)) ab) (im (PH (ai c14 hr (aa (aj (dv 1) (dJ ab)) (aa (aj (dv 1) (dJ ab)) (aa (dv 2) ag)))) ab))))) (am (Ms (i:=1))))
 (am (fw (i:=1) (dv 2)))))
 (am (fY (pv 1)))))
abbrev vd:Stmt:=top 25
theorem lQ:ay ["points","spots","under","above"] ["points"] (al vd):=by walk_at"fs"
theorem L4 (m2:e.mg "sorted"=none) (m3:e.mg "set"=none) (m1:e.mg "len"=none) (m4:e.mg "list"=none) (m5:e.mg "reversed"=none) (c6:Ce e 1 "as_spot" kQ) (c15:Ce e 4 "chain" lT) (hr:Rm e 4 "hull" vd):Bd e lQ "hull" vE:=
 (ah (eu (i:=1) lQ.nd (N:=["point"]) (own:=1) (fr:=[]) (NX:=["points","spots","under","above"]) (ar:=al vd) (by decide +kernel) (bR (pd hr m2 m3 hr.hd (dv 0))) bM (fun _ _ _ _=>(aD (i:=0) (show List.Nodup (["point"]:List Str) by decide))) (fun _ _ _ _=>eD) (fun _ _ _ _=>(ai c6 hr (aa (dv 0) ag))))
 (ah (bD (nJ (bN m1 (aa (dv 1) ag)) ab) (am (fY (pv 1))) aN)
 (ah (aq (i:=2) lQ.nd (ai c15 hr (aa (dv 1) ag)))
 (ah (aq (i:=3) lQ.nd (ai c15 hr (aa (x8 m4 m5 hr.hd (dv 1)) ag)))
 (am (aE (x6 (fG (dv 2) ig (ii (dJ ab))) (fG (dv 3) ig (ii (dJ ab))))))))))
abbrev oE:Stmt:=top 26
theorem xl:ay ["region"] ["region"] (al oE):=by walk_at"fs"
theorem Ie (m6:e.mg "range"=none) (m1:e.mg "len"=none) (hr:Rm e 0 "sides" oE):Bd e xl "sides" oS:=
 (am (aE (fh (N:=["place","region"]) (own:=1) (fr:=[0]) (NX:=["region"]) (ar:=al oE) (by decide +kernel) (cV m6 (aa (bN m1 (aa (dv 0) ag)) ag)) bM (fun _ _ _ _=>(aD (i:=0) (show List.Nodup (["place","region"]:List Str) by decide))) (fun _ _ _ _=>eD) (fun _ _ _ _=>(aQ (aa (aj (dv 1) (a9 (dv 0) ab)) (aa (aj (dv 1) (dv 0)) ag)))))))
abbrev iB:Stmt:=top 27
theorem dk:ay ["corners","first","place"] ["corners"] (al iB):=by walk_at"fs"
theorem tG (m6:e.mg "range"=none) (m1:e.mg "len"=none) (c12:Ce e 2 "lesser" nj) (hr:Rm e 2 "from_least" iB):Bd e dk "from_least" fo:=
 (ah (aq (i:=1) dk.nd ab)
 (aK (dZ PassesOwn.never (cV m6 (aa (bN m1 (aa (dv 0) ag)) ag)) (aD (i:=2) dk.nd) (am (bD (t5 (ai c12 hr (aa (aj (dv 0) (dv 2)) (aa (aj (dv 0) (dv 1)) ag)))) (am (aq (i:=1) dk.nd (dv 2))) aN)))
 (am (aE (x6 (fG (dv 0) (ii (dv 1)) ig) (fG (dv 0) ig (ii (dv 1))))))))
abbrev vf:Stmt:=top 28
theorem qz:ay ["one","one_weight","other","other_weight","top"] ["one","one_weight","other","other_weight"] (al vf):=by walk_at"fs"
theorem Ic (c1:Ce e 2 "ratio" g9) (hr:Rm e 2 "mixed" vf):Bd e qz "mixed" oQ:=
 (ah (aq (i:=4) qz.nd (aW (ax (ax (aj (dv 0) ab) (aj (dv 2) ab)) (dv 1)) (ax (ax (aj (dv 2) ab) (aj (dv 0) ab)) (dv 3))))
 (am (aE (ai c1 hr (aa (dv 4) (aa (ax (ax (aj (dv 0) ab) (aj (dv 2) ab)) (aW (dv 1) (dv 3))) ag))))))
abbrev kM:Stmt:=top 29
theorem dD:ay ["half","one","other","one_weight","other_weight","x","y"] ["half","one","other"] (al kM):=by walk_at"fs"
theorem xR (m0:e.mg "abs"=none) (c8:Ce e 2 "excess" dE) (c7:Ce e 1 "bottoms" cQ) (c19:Ce e 3 "mixed" lW) (hr:Rm e 3 "crossing" kM):Bd e dD "crossing" iT:=
 (ah (aq (i:=3) dD.nd (ax (dI m0 (aa (ai c8 hr (aa (dv 0) (aa (dv 2) ag))) ag)) (ai c7 hr (aa (dv 1) ag))))
 (ah (aq (i:=4) dD.nd (ax (dI m0 (aa (ai c8 hr (aa (dv 0) (aa (dv 1) ag))) ag)) (ai c7 hr (aa (dv 2) ag))))
 (ah (aq (i:=5) dD.nd (ai c19 hr (aa (aj (dv 1) ab) (aa (dv 3) (aa (aj (dv 2) ab) (aa (dv 4) ag))))))
 (ah (aq (i:=6) dD.nd (ai c19 hr (aa (aj (dv 1) ab) (aa (dv 3) (aa (aj (dv 2) ab) (aa (dv 4) ag))))))
 (am (aE (aQ (aa (dv 5) (aa (dv 6) ag)))))))))
abbrev mT:Stmt:=top 30
theorem fK:ay ["region","half","kept","pair","spot"] ["region","half"] (al mT):=by walk_at"fs"
theorem A8 (c17:Ce e 1 "sides" qD) (c10:Ce e 3 "side" iN) (c20:Ce e 4 "crossing" ju) (c18:Ce e 3 "from_least" gH) (hr:Rm e 4 "clipped" mT):Bd e fK "clipped" jS:=
 (ah (aq (i:=2) fK.nd (dz ag))
 (aK (dZ PassesOwn.never (bR (ai c17 hr (aa (dv 0) ag))) (aD (i:=3) fK.nd) (aK (bD (nJ (ax (ai c10 hr (aa (dv 1) (aa (aj (dv 3) ab) ag))) (ai c10 hr (aa (dv 1) (aa (aj (dv 3) ab) ag)))) ab) (ah (aq (i:=4) fK.nd (ai c20 hr (aa (dv 1) (aa (aj (dv 3) ab) (aa (aj (dv 3) ab) ag)))))
 (am (bD (Dp hr (dv 4) (dv 2)) (am (fw (i:=2) (dv 4))) aN))) aN)
 (am (bD (zV (ai c10 hr (aa (dv 1) (aa (aj (dv 3) ab) ag))) ab) (am (fw (i:=2) (aj (dv 3) ab))) aN))))
 (am (aE (ai c18 hr (aa (dv 2) ag))))))
abbrev qj:Stmt:=top 32
theorem sR:ay ["one","other"] ["one","other"] (al qj):=by walk_at"fs"
theorem CU (hr:Rm e 0 "across" qj):Bd e sR "across" l9:=
 (am (aE (a9 (ax (aj (dv 0) ab) (aj (dv 1) ab)) (ax (aj (dv 0) ab) (aj (dv 1) ab)))))
abbrev mZ:Stmt:=top 33
theorem fN:ay ["border","step","bottom","x","y"] ["border","step"] (al mZ):=by walk_at"fs"
theorem Bj (c5:Ce e 1 "along" cG) (c1:Ce e 2 "ratio" g9) (hr:Rm e 2 "spot_at" mZ):Bd e fN "spot_at" j4:=
 (ah (aq (i:=2) fN.nd (ax (ai c5 hr (aa (dv 0) (aa (dv 0) ag))) (aj (dv 1) ab)))
 (ah (aq (i:=3) fN.nd (a9 (ax (ax (aj (dv 0) ab) (aj (dv 0) ab)) (aj (dv 1) ab)) (ax (aj (dv 0) ab) (aj (dv 1) ab))))
 (ah (aq (i:=4) fN.nd (aW (ax (ax (aj (dv 0) ab) (aj (dv 0) ab)) (aj (dv 1) ab)) (ax (aj (dv 0) ab) (aj (dv 1) ab))))
 (am (aE (aQ (aa (ai c1 hr (aa (dv 3) (aa (dv 2) ag))) (aa (ai c1 hr (aa (dv 4) (aa (dv 2) ag))) ag))))))))
abbrev u7:Stmt:=top 34
theorem xi:ay ["border","other"] ["border","other"] (al u7):=by walk_at"fs"
theorem HV (c5:Ce e 1 "along" cG) (hr:Rm e 1 "asked" u7):Bd e xi "asked" oJ:=
 (am (aE (a9 (ax (aj (dv 1) ab) (ai c5 hr (aa (dv 0) (aa (dv 0) ag)))) (ax (ai c5 hr (aa (dv 0) (aa (dv 1) ag))) (aj (dv 0) ab)))))
abbrev mY:Stmt:=top 35
theorem iH:ay ["border","other","top","bottom"] ["border","other"] (al mY):=by walk_at"fs"
theorem Bi (c24:Ce e 2 "asked" js) (c22:Ce e 1 "across" ck) (hr:Rm e 2 "meeting" mY):Bd e iH "meeting" j3:=
 (ah (aq (i:=2) iH.nd (ai c24 hr (aa (dv 0) (aa (dv 1) ag))))
 (ah (aq (i:=3) iH.nd (ai c22 hr (aa (dv 0) (aa (dv 1) ag))))
 (ah (bD (nJ (dv 3) ab) (am (aE (aQ (aa (dJ (dv 2)) (aa (dJ (dv 3)) ag))))) aN)
 (am (aE (aQ (aa (dv 2) (aa (dv 3) ag))))))))
abbrev qr:Stmt:=top 36
theorem cX:ay ["border","halves","first","last","place","facing","step"] ["border","halves"] (al qr):=by walk_at"fs"
theorem CZ (m6:e.mg "range"=none) (m1:e.mg "len"=none) (c22:Ce e 1 "across" ck) (c25:Ce e 3 "meeting" kY) (c2:Ce e 1 "below" dO) (hr:Rm e 3 "limits" qr):Bd e cX "limits" mf:=
 (ah (aq (i:=2) cX.nd tY)
 (ah (aq (i:=3) cX.nd tY)
 (aK (dZ PassesOwn.never (cV m6 (aa (bN m1 (aa (dv 1) ag)) ag)) (aD (i:=4) cX.nd) (ah (aq (i:=5) cX.nd (ai c22 hr (aa (dv 0) (aa (aj (dv 1) (dv 4)) ag))))
 (ah (aq (i:=6) cX.nd (ai c25 hr (aa (dv 0) (aa (aj (dv 1) (dv 4)) ag))))
 (aK (bD (Bv (PW.pt (jc (kl (dv 5) ab) (im (PW.pt (KN (Do (dv 2)) (Dq (t5 (ai c2 hr (aa (aj (dv 2) ab) (aa (dv 6) ag))))))))))) (am (aq (i:=2) cX.nd (aQ (aa (dv 6) (aa (dv 4) ag))))) aN)
 (am (bD (Bv (PW.pt (jc (nJ (dv 5) ab) (im (PW.pt (KN (Do (dv 3)) (Dq (t5 (ai c2 hr (aa (dv 6) (aa (aj (dv 3) ab) ag))))))))))) (am (aq (i:=3) cX.nd (aQ (aa (dv 6) (aa (dv 4) ag))))) aN))))))
 (am (aE (aQ (aa (dv 2) (aa (dv 3) ag))))))))
abbrev oD:Stmt:=top 37
theorem xh:ay ["border","halves"] ["border","halves"] (al oD):=by walk_at"fs"
theorem HU (m6:e.mg "range"=none) (m1:e.mg "len"=none) (c22:Ce e 1 "across" ck) (c24:Ce e 2 "asked" js) (hr:Rm e 2 "apart" oD):Bd e xh "apart" oH:=
 (am (aE (fh (N:=["place","border","halves"]) (own:=1) (fr:=[0,1]) (NX:=["border","halves"]) (ar:=al oD) (by decide +kernel) (cV m6 (aa (bN m1 (aa (dv 1) ag)) ag)) bM (fun _ _ _ _=>(aD (i:=0) (show List.Nodup (["place","border","halves"]:List Str) by decide))) (fun _ _ _ _=>(lA (PW.pt (jc (eV hr (ai c22 hr (aa (dv 1) (aa (aj (dv 2) (dv 0)) ag))) ab) (im (kl (ai c24 hr (aa (dv 1) (aa (aj (dv 2) (dv 0)) ag))) ab)))))) (fun _ _ _ _=>(dv 0)))))
abbrev vc:Stmt:=top 38
theorem xk:ay ["border","halves","ends"] ["border","halves","ends"] (al vc):=by walk_at"fs"
theorem HZ (c2:Ce e 1 "below" dO) (c27:Ce e 3 "apart" qB) (hr:Rm e 3 "clash" vc):Bd e xk "clash" oN:=
 (ah (bD (Bv (PW.pt (jc (t4 (aj (dv 2) ab)) (jc (t4 (aj (dv 2) ab)) (im (t5 (ai c2 hr (aa (aj (aj (dv 2) ab) ab) (aa (aj (aj (dv 2) ab) ab) ag))))))))) (am (aE (dz (aa (aj (aj (dv 2) ab) ab) (aa (aj (aj (dv 2) ab) ab) ag))))) aN)
 (am (aE (fG (ai c27 hr (aa (dv 0) (aa (dv 1) ag))) ig (ii ab)))))
abbrev fJ:Stmt:=top 39
theorem fc:ay ["border","ends","end"] ["border","ends"] (al fJ):=by walk_at"fs"
theorem o8 (c23:Ce e 3 "spot_at" iO) (hr:Rm e 3 "spot_between" fJ):Bd e fc "spot_between" dS:=
 (aK (dZ PassesOwn.never (Mp (dv 1)) (aD (i:=2) fc.nd) (am (bD (t4 (dv 2)) (am (aE (ai c23 hr (aa (dv 0) (aa (aj (dv 2) ab) ag))))) aN)))
 (am (aE (ai c23 hr (aa (dv 0) (aa (aQ (aa ab (aa ab ag))) ag))))))
abbrev jJ:Stmt:=top 40
theorem fM:ay ["weights","common","weight"] ["weights"] (al jJ):=by walk_at"fs"
theorem Bg (c0:Ce e 1 "divisor" cD) (hr:Rm e 1 "lowered" jJ):Bd e fM "lowered" jY:=
 (ah (aq (i:=1) fM.nd ab)
 (aK (dZ PassesOwn.never (bR (dv 0)) (aD (i:=2) fM.nd) (am (aq (i:=1) fM.nd (ai c0 hr (aa (dv 1) (aa (dv 2) ag))))))
 (am (aE (fh (N:=["weight","common"]) (own:=1) (fr:=[1]) (NX:=["weights","common","weight"]) (ar:=al jJ) (by decide +kernel) (bR (dv 0)) bM (fun _ _ _ _=>(aD (i:=0) (show List.Nodup (["weight","common"]:List Str) by decide))) (fun _ _ _ _=>eD) (fun _ _ _ _=>(bQ (dv 0) (dv 1))))))))
abbrev iD:Stmt:=top 41
theorem dm:ay ["chosen","one","other","third"] ["chosen"] (al iD):=by walk_at"fs"
theorem tJ (m1:e.mg "len"=none) (m0:e.mg "abs"=none) (c30:Ce e 2 "lowered" iM) (c22:Ce e 1 "across" ck) (hr:Rm e 2 "weights_of" iD):Bd e dm "weights_of" cZ:=
 (ah (aq (i:=1) dm.nd (aj (dv 0) ab))
 (ah (aq (i:=2) dm.nd (aj (dv 0) ab))
 (ah (bD (eV hr (bN m1 (aa (dv 0) ag)) ab) (am (aE (ai c30 hr (aa (dz (aa (aW (dI m0 (aa (aj (dv 2) ab) ag)) (dI m0 (aa (aj (dv 2) ab) ag))) (aa (aW (dI m0 (aa (aj (dv 1) ab) ag)) (dI m0 (aa (aj (dv 1) ab) ag))) ag))) ag)))) aN)
 (ah (aq (i:=3) dm.nd (aj (dv 0) ab))
 (am (aE (ai c30 hr (aa (dz (aa (dI m0 (aa (ai c22 hr (aa (dv 2) (aa (dv 3) ag))) ag)) (aa (dI m0 (aa (ai c22 hr (aa (dv 3) (aa (dv 1) ag))) ag)) (aa (dI m0 (aa (ai c22 hr (aa (dv 1) (aa (dv 2) ag))) ag)) ag)))) ag))))))))
abbrev eJ:Stmt:=top 42
theorem jr:ay ["halves","places"] ["halves","places"] (al eJ):=by walk_at"fs"
theorem qS (c31:Ce e 3 "weights_of" gJ) (hr:Rm e 3 "none_shared" eJ):Bd e jr "none_shared" cI:=
 (am (aE (aQ (aa x9 (aa (dv 1) (aa (ai c31 hr (aa (fh (N:=["place","halves"]) (own:=1) (fr:=[0]) (NX:=["halves","places"]) (ar:=al eJ) (by decide +kernel) (bR (dv 1)) bM (fun _ _ _ _=>(aD (i:=0) (show List.Nodup (["place","halves"]:List Str) by decide))) (fun _ _ _ _=>eD) (fun _ _ _ _=>(aj (dv 1) (dv 0)))) ag)) ag))))))
abbrev qu:Stmt:=top 43
theorem cY:ay ["halves","spot","place","border","before","ends","places"] ["halves"] (al qu):=by walk_at"fs"
theorem C3 (m6:e.mg "range"=none) (m1:e.mg "len"=none) (m2:e.mg "sorted"=none) (c10:Ce e 3 "side" iN) (c26:Ce e 4 "limits" nk) (c28:Ce e 4 "clash" qC) (c32:Ce e 4 "none_shared" fR) (c29:Ce e 4 "spot_between" fe) (hr:Rm e 4 "shared" qu):Bd e cY "shared" mj:=
 (ah (aq (i:=1) cY.nd (aQ (aa (aQ (aa ab (aa ab ag))) (aa (aQ (aa ab (aa ab ag))) ag))))
 (aK (dZ PassesOwn.never (cV m6 (aa (bN m1 (aa (dv 0) ag)) ag)) (aD (i:=2) cY.nd) (ah (aq (i:=3) cY.nd (aj (dv 0) (dv 2)))
 (am (bD (nJ (ai c10 hr (aa (dv 3) (aa (dv 1) ag))) ab) (ah (aq (i:=4) cY.nd (fG (dv 0) ig (ii (dv 2))))
 (ah (aq (i:=5) cY.nd (ai c26 hr (aa (dv 3) (aa (dv 4) ag))))
 (ah (aq (i:=6) cY.nd (ai c28 hr (aa (dv 3) (aa (dv 4) (aa (dv 5) ag)))))
 (ah (bD (kl (bN m1 (aa (dv 6) ag)) ab) (am (aE (ai c32 hr (aa (dv 0) (aa (Ir m2 (aa (x6 (dv 6) (dz (aa (dv 2) ag))) ag)) ag))))) aN)
 (am (aq (i:=1) cY.nd (ai c29 hr (aa (dv 3) (aa (dv 5) ag))))))))) aN))))
 (am (aE (aQ (aa x9 (aa (dv 1) ag)))))))
abbrev dg:Stmt:=top 45
theorem bX:ay ["point","x","y"] ["point"] (al dg):=by walk_at"fs"
theorem j7 (hr:Rm e 0 "upright_and_level" dg):Bd e bX "upright_and_level" ce:=
 (ah (aq (i:=1) bX.nd (aj (dv 0) ab))
 (ah (aq (i:=2) bX.nd (aj (dv 0) ab))
 (am (aE (dz (aa (aQ (aa ab (aa ab (aa (dv 1) ag)))) (aa (aQ (aa (dJ ab) (aa ab (aa (dJ (dv 1)) ag)))) (aa (aQ (aa ab (aa ab (aa (dv 2) ag)))) (aa (aQ (aa ab (aa (dJ ab) (aa (dJ (dv 2)) ag)))) ag)))))))))
abbrev kK:Stmt:=top 46
theorem eX:ay ["points","found","one","other"] ["points"] (al kK):=by walk_at"fs"
theorem xQ (m2:e.mg "sorted"=none) (m3:e.mg "set"=none) (c34:Ce e 1 "upright_and_level" cR) (c4:Ce e 3 "between" kR) (hr:Rm e 3 "bordered" kK):Bd e eX "bordered" iS:=
 (ah (aq (i:=1) eX.nd (dz ag))
 (aK (dZ PassesOwn.never (bR (dv 0)) (aD (i:=2) eX.nd) (ah (Bu (i:=1) (ai c34 hr (aa (dv 2) ag)))
 (am (dZ PassesOwn.never (bR (dv 0)) (aD (i:=3) eX.nd) (am (bD (v9 hr (dv 2) (dv 3)) (am (fw (i:=1) (ai c4 hr (aa (dv 2) (aa (dv 3) ag))))) aN))))))
 (am (aE (pd hr m2 m3 hr.hd (dv 1))))))
abbrev gF:Stmt:=top 47
theorem jq:ay ["points"] ["points"] (al gF):=by walk_at"fs"
theorem qR (m1:e.mg "len"=none) (hr:Rm e 0 "need_points" gF):Bd e jq "need_points" eR:=
 (am (bD (eV hr (bN m1 (aa (dv 0) ag)) ab) (am jb) aN))
abbrev lO:Stmt:=top 48
theorem sT:ay ["points","many"] ["points","many"] (al lO):=by walk_at"fs"
theorem C4 (c36:Ce e 1 "need_points" bf) (c35:Ce e 4 "bordered" jt) (c11:Ce e 1 "many_in" kX) (hr:Rm e 4 "strong" lO):Bd e sT "strong" ml:=
 (ah (t0 (ai c36 hr (aa (dv 0) ag)))
 (am (aE (fh (N:=["found","points","many"]) (own:=1) (fr:=[0,1]) (NX:=["points","many"]) (ar:=al lO) (by decide +kernel) (bR (ai c35 hr (aa (dv 0) ag))) bM (fun _ _ _ _=>(aD (i:=0) (show List.Nodup (["found","points","many"]:List Str) by decide))) (fun _ _ _ _=>(lA (zV (ai c11 hr (aa (dv 0) (aa (dv 1) ag))) (dv 2)))) (fun _ _ _ _=>(dv 0))))))
abbrev qt:Stmt:=top 49
theorem g8:ay ["points","k","part","found"] ["points","k"] (al qt):=by walk_at"fs"
theorem C1 (m1:e.mg "len"=none) (c36:Ce e 1 "need_points" bf) (c16:Ce e 5 "hull" vm) (c37:Ce e 5 "strong" eB) (c21:Ce e 5 "clipped" kS) (hr:Rm e 5 "region" qt):Bd e g8 "region" mh:=
 (ah (t0 (ai c36 hr (aa (dv 0) ag)))
 (ah (bD (nJ (dv 1) ab) (am jb) aN)
 (ah (bD (kl (dv 1) (bN m1 (aa (dv 0) ag))) (am (aE (dz ag))) aN)
 (ah (aq (i:=2) g8.nd (ai c16 hr (aa (dv 0) ag)))
 (aK (dZ PassesOwn.never (bR (ai c37 hr (aa (dv 0) (aa (aW (a9 (bN m1 (aa (dv 0) ag)) (dv 1)) ab) ag)))) (aD (i:=3) g8.nd) (am (aq (i:=2) g8.nd (ai c21 hr (aa (dv 2) (aa (dv 3) ag))))))
 (am (fY (pv 2))))))))
abbrev jH:Stmt:=top 50
theorem bL:ay ["points","k","halves","weights","asked","told"] ["points"] (al jH):=by walk_at"fs"
theorem A9 (m1:e.mg "len"=none) (c36:Ce e 1 "need_points" bf) (c37:Ce e 5 "strong" eB) (c33:Ce e 5 "shared" fy) (hr:Rm e 5 "deepest" jH):Bd e bL "deepest" jT:=
 (ah (t0 (ai c36 hr (aa (dv 0) ag)))
 (ah (aq (i:=1) bL.nd (bN m1 (aa (dv 0) ag)))
 (ah (aq (i:=2) bL.nd (dz ag))
 (ah (aq (i:=3) bL.nd (dz ag))
 (ah (aq (i:=4) bL.nd (ai c37 hr (aa (dv 0) (aa ab ag))))
 (ah (aq (i:=5) bL.nd (ai c33 hr (aa (dv 4) ag)))
 (aK (lw PassesOwn.never (eV hr (aj (dv 5) ab) x9) (ah (eu (i:=2) bL.nd (N:=["place","asked"]) (own:=1) (fr:=[4]) (NX:=["points","k","halves","weights","asked","told"]) (ar:=al jH) (by decide +kernel) (bR (aj (dv 5) ab)) bM (fun _ _ _ _=>(aD (i:=0) (show List.Nodup (["place","asked"]:List Str) by decide))) (fun _ _ _ _=>eD) (fun _ _ _ _=>(aj (dv 1) (dv 0))))
 (ah (aq (i:=3) bL.nd (aj (dv 5) ab))
 (ah (aq (i:=1) bL.nd (a9 (dv 1) ab))
 (ah (aq (i:=4) bL.nd (ai c37 hr (aa (dv 0) (aa (aW (a9 (bN m1 (aa (dv 0) ag)) (dv 1)) ab) ag))))
 (am (aq (i:=5) bL.nd (ai c33 hr (aa (dv 4) ag)))))))))
 (am (Iy (aQ (aa (dv 1) (aa (aj (dv 5) ab) (aa (dv 2) (aa (dv 3) ag))))))))))))))
abbrev jL:Stmt:=top 52
theorem kP:ay ["points","spot","here"] ["points","spot"] (al jL):=by walk_at"fs"
theorem Bk (c13:Ce e 2 "stretched" bY) (hr:Rm e 2 "ways_to" jL):Bd e kP "ways_to" j5:=
 (ah (aq (i:=2) kP.nd (ai c13 hr (aa (dv 1) ag)))
 (am (aE (fh (N:=["point","here"]) (own:=1) (fr:=[2]) (NX:=["points","spot","here"]) (ar:=al jL) (by decide +kernel) (bR (dv 0)) bM (fun _ _ _ _=>(aD (i:=0) (show List.Nodup (["point","here"]:List Str) by decide))) (fun _ _ _ _=>eD) (fun _ _ _ _=>(aQ (aa (a9 (ax (aj (dv 0) ab) (aj (dv 1) ab)) (aj (dv 1) ab)) (aa (a9 (ax (aj (dv 0) ab) (aj (dv 1) ab)) (aj (dv 1) ab)) ag))))))))
abbrev fk:Stmt:=top 53
theorem kq:ay ["ways","facing"] ["ways","facing"] (al fk):=by walk_at"fs"
theorem tI (m1:e.mg "len"=none) (c5:Ce e 1 "along" cG) (hr:Rm e 1 "many_ahead" fk):Bd e kq "many_ahead" fv:=
 (am (aE (bN m1 (aa (fh (N:=["way","facing"]) (own:=1) (fr:=[1]) (NX:=["ways","facing"]) (ar:=al fk) (by decide +kernel) (bR (dv 0)) bM (fun _ _ _ _=>(aD (i:=0) (show List.Nodup (["way","facing"]:List Str) by decide))) (fun _ _ _ _=>(lA (zV (ai c5 hr (aa (dv 0) (aa (dv 1) ag))) ab))) (fun _ _ _ _=>(dv 0))) ag))))
abbrev ga:Stmt:=top 54
theorem iF:ay ["way","ways","thin"] ["way","ways"] (al ga):=by walk_at"fs"
theorem vO (m7:e.mg "max"=none) (m0:e.mg "abs"=none) (c5:Ce e 1 "along" cG) (hr:Rm e 1 "just_past" ga):Bd e iF "just_past" gi:=
 (ah (aq (i:=2) iF.nd (aW ab (Iq m7 (aa (fh (N:=["other","way"]) (own:=1) (fr:=[0]) (NX:=["way","ways","thin"]) (ar:=al ga) (by decide +kernel) (bR (dv 1)) bM (fun _ _ _ _=>(aD (i:=0) (show List.Nodup (["other","way"]:List Str) by decide))) (fun _ _ _ _=>eD) (fun _ _ _ _=>(dI m0 (aa (ai c5 hr (aa (dv 1) (aa (dv 0) ag))) ag)))) ag))))
 (am (aE (aQ (aa (a9 (ax (dJ (aj (dv 0) ab)) (dv 2)) (aj (dv 0) ab)) (aa (a9 (ax (aj (dv 0) ab) (dv 2)) (aj (dv 0) ab)) ag))))))
abbrev jI:Stmt:=top 55
theorem kO:ay ["ways","found"] ["ways"] (al jI):=by walk_at"fs"
theorem Bb (c42:Ce e 2 "just_past" iJ) (hr:Rm e 2 "facings" jI):Bd e kO "facings" jV:=
 (ah (eu (i:=1) kO.nd (N:=["way","ways"]) (own:=1) (fr:=[0]) (NX:=["ways","found"]) (ar:=al jI) (by decide +kernel) (bR (dv 0)) bM (fun _ _ _ _=>(aD (i:=0) (show List.Nodup (["way","ways"]:List Str) by decide))) (fun _ _ _ _=>(lA (v9 hr (dv 0) (aQ (aa ab (aa ab ag)))))) (fun _ _ _ _=>(ai c42 hr (aa (dv 0) (aa (dv 1) ag)))))
 (ah (fw (i:=1) (aQ (aa ab (aa ab ag))))
 (am (fY (pv 1)))))
abbrev gE:Stmt:=top 56
theorem fL:ay ["facing","spot","here"] ["facing","spot"] (al gE):=by walk_at"fs"
theorem qQ (c13:Ce e 2 "stretched" bY) (c3:Ce e 2 "half" lU) (c5:Ce e 1 "along" cG) (hr:Rm e 2 "half_facing" gE):Bd e fL "half_facing" eQ:=
 (ah (aq (i:=2) fL.nd (ai c13 hr (aa (dv 1) ag)))
 (am (aE (ai c3 hr (aa (ax (aj (dv 0) ab) (aj (dv 2) ab)) (aa (ax (aj (dv 0) ab) (aj (dv 2) ab)) (aa (ai c5 hr (aa (dv 0) (aa (dv 2) ag))) ag)))))))
abbrev f7:Stmt:=top 57
theorem qx:ay ["points","spot","ways","emptiest"] ["points","spot"] (al f7):=by walk_at"fs"
theorem Ia {P:Program}{w:World}{K:Frg}{mg:Str->Option Value}{base:Heap}{f:Addr}{A:Around}{outer:List Env}{s:Shared}{H:Hp}{E:XK}{c T mb:Addr} (kb:K.In base) (hhd:PySem.W.codeHdIn K c T=true) (hlam:ir K=some T) (bm:∃ ob,mg "__builtins__"=some (.ref mb)/\mb≠builtinsNs/\mb≠mainGlobals/\base.get? mb=some ob/\ob.cls=.type "module"/\ob.dict=some builtinsNs/\ob.data=.plain) (m1:mg "len"=none) (m8:mg "min"=none) (c40:Callee P w K mg base 3 "ways_to" kZ) (c43:Callee P w K mg base 3 "facings" kT) (c41:Callee P w K mg base 2 "many_ahead" eO) (c44:Callee P w K mg base 3 "half_facing" fQ) (hr:cb 4 (A.deeper (envOfC "depth" (al f7) s.heap.objs.size f (.ref c)))) :
  k8 (qV zx P w K mg base ["points","spot","ways","emptiest"] "depth" (al f7) f (.ref c) A outer s H E).nox (cz f7) (bK K H oO):=
 (ah (bD (eV hr (bN m1 (aa (dv 0) ag)) ab) (am jb) aN)
 (ah (aq (i:=2) qx.nd (ai c40 hr (aa (dv 0) (aa (dv 1) ag))))
 (ah (aq (i:=3) qx.nd (Bs (x:="facing") (y:="ways") (j:=2) rfl hr.hd (cb.in1 hr).depth m8 ⟨rfl,PySem.W.codeHd_of_K kb hhd,bm⟩ ⟨rfl,rfl,rfl,by decide +kernel,rfl,rfl,fun z hz=>EI (by decide +kernel) hz⟩ hlam rfl rfl rfl rfl rfl rfl (fun _ _ _ _=>rfl) (ai c43 hr (aa (dv 2) ag)) (fun _ _ _ _=>(zP c41 ((cb.deeper (cb.in1 hr) _).mono (by decide)) rfl (aa (dv 1) (aa (dv 0) ag))))))
 (am (aE (aQ (aa (ai c41 hr (aa (dv 2) (aa (dv 3) ag))) (aa (ai c44 hr (aa (dv 3) (aa (dv 1) ag))) ag))))))))
abbrev gd:Stmt:=top 59
theorem cC:ay ["_law_script","_law_many","_law_found","_law_k","_law_cell","_law_at"] ["_law_script","_law_many"] (al gd):=by walk_at"fs"
theorem vQ (m6:e.mg "range"=none) (m7:e.mg "max"=none) (m8:e.mg "min"=none) (m1:e.mg "len"=none) (hr:Rm e 0 "_law_numbers" gd):Bd e cC "_law_numbers" gm:=
 (ah (eu (i:=2) cC.nd (N:=["_law_k"]) (own:=1) (fr:=[]) (NX:=["_law_script","_law_many","_law_found","_law_k","_law_cell","_law_at"]) (ar:=al gd) (by decide +kernel) (cV m6 (aa (dv 1) ag)) bM (fun _ _ _ _=>(aD (i:=0) (show List.Nodup (["_law_k"]:List Str) by decide))) (fun _ _ _ _=>eD) (fun _ _ _ _=>ab))
 (aK (dZ PassesOwn.never (cV m6 (aa (Ip m7 (aa (dv 1) (aa (zQ m8 (aa (bN m1 (aa (dv 0) ag)) (aa ab ag))) ag))) ag)) (aD (i:=3) cC.nd) (ah (aq (i:=4) cC.nd ab)
 (aK (bD (kl (bN m1 (aa (dv 0) ag)) ab) (am (aq (i:=4) cC.nd (bh (aj (dv 0) (bh (dv 3) (zQ m8 (aa (bN m1 (aa (dv 0) ag)) (aa ab ag))))) (aW (kD ab ab) ab)))) aN)
 (ah (aq (i:=5) cC.nd (bh (dv 3) (dv 1)))
 (am (pe (i:=2) (dv 5) (bh (aW (aW (ax (aj (dv 2) (dv 5)) ab) (dv 4)) (ax (dv 3) (dv 3))) (aW (kD ab ab) ab))))))))
 (am (fY (pv 2)))))
abbrev jo:Stmt:=top 60
theorem dN:ay ["_law_one","_law_other"] ["_law_one","_law_other"] (al jo):=by walk_at"fs"
theorem vP (m0:e.mg "abs"=none) (hr:Rm e 0 "_law_divisor" jo):Bd e dN "_law_divisor" gj:=
 (ah (aq (i:=0) dN.nd (dI m0 (aa (dv 0) ag)))
 (ah (aq (i:=1) dN.nd (dI m0 (aa (dv 1) ag)))
 (aK (lw PassesOwn.never (kl (dv 1) ab) (am (Dl (i:=0) (j:=1) dN.nd (aa (dv 1) (aa (bh (dv 0) (dv 1)) ag)))))
 (am (fY (pv 0))))))
abbrev iC:Stmt:=top 61
theorem gG:ay ["_law_top","_law_bottom","_law_most"] ["_law_top","_law_bottom"] (al iC):=by walk_at"fs"
theorem tH (c47:Ce e 1 "_law_divisor" iK) (hr:Rm e 1 "_law_fraction" iC):Bd e gG "_law_fraction" ft:=
 (ah (aq (i:=2) gG.nd (ai c47 hr (aa (dv 0) (aa (dv 1) ag))))
 (am (aE (aQ (aa (bQ (dv 0) (dv 2)) (aa (bQ (dv 1) (dv 2)) ag))))))
abbrev mV:Stmt:=top 62
theorem iG:ay ["_law_number","_law_base","_law_place","_law_k"] ["_law_number","_law_base","_law_place"] (al mV):=by walk_at"fs"
theorem Bc (m6:e.mg "range"=none) (hr:Rm e 0 "_law_digit" mV):Bd e iG "_law_digit" jW:=
 (aK (dZ PassesOwn.never (cV m6 (aa (dv 2) ag)) (aD (i:=3) iG.nd) (am (aq (i:=0) iG.nd (bQ (dv 0) (dv 1)))))
 (am (aE (bh (dv 0) (dv 1)))))
abbrev kN:Stmt:=top 63
theorem a7:ay ["_law_head","_law_many","_law_found","_law_way","_law_k","_law_number","_law_x","_law_y"] ["_law_head","_law_many"] (al kN):=by walk_at"fs"
theorem xS (m6:e.mg "range"=none) (c49:Ce e 1 "_law_digit" kU) (hr:Rm e 1 "_law_points" kN):Bd e a7 "_law_points" iU:=
 (ah (aq (i:=2) a7.nd (dz ag))
 (ah (aq (i:=3) a7.nd (bh (aj (dv 0) ab) ab))
 (aK (dZ PassesOwn.never (cV m6 (aa (dv 1) ag)) (aD (i:=4) a7.nd) (ah (aq (i:=5) a7.nd (aj (dv 0) (aW ab (dv 4))))
 (ah (aq (i:=6) a7.nd (a9 (bh (dv 5) ab) ab))
 (ah (aq (i:=7) a7.nd (a9 (bh (bQ (dv 5) ab) ab) ab))
 (aK (bD (eV hr (dv 3) ab) (am (aq (i:=7) a7.nd (a9 (ax ab (dv 6)) ab))) aN)
 (aK (bD (eV hr (dv 3) ab) (am (aq (i:=6) a7.nd ab)) aN)
 (aK (bD (eV hr (dv 3) ab) (am (Dl (i:=6) (j:=7) a7.nd (aa (a9 (bh (dv 5) ab) ab) (aa (a9 (bh (bQ (dv 5) ab) ab) ab) ag)))) aN)
 (aK (bD (kl (dv 3) ab) (ah (aq (i:=6) a7.nd (a9 (bh (dv 5) (aW (ax ab (kD ab ab)) ab)) (kD ab ab)))
 (am (aq (i:=7) a7.nd (a9 (bh (ax (dv 5) ab) (aW (ax ab (kD ab ab)) ab)) (kD ab ab))))) aN)
 (aK (bD (Bv (PW.pt (jc (kl (dv 4) ab) (im (eV hr (ai c49 hr (aa (aj (dv 0) ab) (aa ab (aa (dv 4) ag)))) ab))))) (am (Dm (aj (dv 2) (a9 (dv 4) ab)) (mF (ba (aD (i:=6) a7.nd) (ba (aD (i:=7) a7.nd) jA)) (bb (bb jD))))) aN)
 (am (fw (i:=2) (aQ (aa (dv 6) (aa (dv 7) ag))))))))))))))
 (am (fY (pv 2))))))
abbrev qo:Stmt:=top 64
theorem cH:ay ["_law_points_here","_law_number","_law_way","_law_one","_law_other","_law_third","_law_by","_law_total","_law_x","_law_y"] ["_law_points_here","_law_number"] (al qo):=by walk_at"fs"
theorem CW (m1:e.mg "len"=none) (m9:e.mg "sum"=none) (c48:Ce e 2 "_law_fraction" bE) (hr:Rm e 2 "_law_spot" qo):Bd e cH "_law_spot" md:=
 (ah (aq (i:=2) cH.nd (bh (dv 1) ab))
 (ah (aq (i:=3) cH.nd (aj (dv 0) (bh (bQ (dv 1) ab) (bN m1 (aa (dv 0) ag)))))
 (ah (aq (i:=4) cH.nd (aj (dv 0) (bh (bQ (dv 1) ab) (bN m1 (aa (dv 0) ag)))))
 (ah (aq (i:=5) cH.nd (aj (dv 0) (bh (bQ (dv 1) ab) (bN m1 (aa (dv 0) ag)))))
 (ah (bD (eV hr (dv 2) ab) (am (aE (aQ (aa (aQ (aa (aj (dv 3) ab) (aa ab ag))) (aa (aQ (aa (aj (dv 3) ab) (aa ab ag))) ag))))) aN)
 (ah (bD (eV hr (dv 2) ab) (am (aE (aQ (aa (ai c48 hr (aa (aW (aj (dv 3) ab) (aj (dv 4) ab)) (aa ab ag))) (aa (ai c48 hr (aa (aW (aj (dv 3) ab) (aj (dv 4) ab)) (aa ab ag))) ag))))) aN)
 (ah (aq (i:=6) cH.nd (dz (aa (a9 (bh (bQ (dv 1) ab) ab) ab) (aa (a9 (bh (bQ (dv 1) ab) ab) ab) (aa (aW (bh (bQ (dv 1) ab) ab) ab) ag)))))
 (aK (bD (eV hr (dv 2) ab) (ah (pe (i:=6) ab ab)
 (am (pe (i:=6) ab (a9 ab (aj (dv 6) ab))))) aN)
 (ah (aq (i:=7) cH.nd (Ml m9 (aa (dv 6) ag)))
 (ah (aq (i:=8) cH.nd (aW (aW (ax (aj (dv 6) ab) (aj (dv 3) ab)) (ax (aj (dv 6) ab) (aj (dv 4) ab))) (ax (aj (dv 6) ab) (aj (dv 5) ab))))
 (ah (aq (i:=9) cH.nd (aW (aW (ax (aj (dv 6) ab) (aj (dv 3) ab)) (ax (aj (dv 6) ab) (aj (dv 4) ab))) (ax (aj (dv 6) ab) (aj (dv 5) ab))))
 (am (aE (aQ (aa (ai c48 hr (aa (dv 8) (aa (dv 7) ag))) (aa (ai c48 hr (aa (dv 9) (aa (dv 7) ag))) ag))))))))))))))))
abbrev mW:Stmt:=top 65
theorem bP:ay ["_law_head","_law_p","_law_q","_law_r","_law_s","_law_far"] ["_law_head"] (al mW):=by walk_at"fs"
theorem Be (hr:Rm e 0 "_law_slant" mW):Bd e bP "_law_slant" jX:=
 (ah (aq (i:=1) bP.nd (a9 (bh (aj (dv 0) ab) ab) ab))
 (ah (aq (i:=2) bP.nd (a9 (bh (aj (dv 0) ab) ab) ab))
 (ah (aq (i:=3) bP.nd (a9 (bh (aj (dv 0) ab) ab) ab))
 (ah (aq (i:=4) bP.nd (a9 (bh (aj (dv 0) ab) ab) ab))
 (aK (bD (eV hr (ax (dv 1) (dv 4)) (ax (dv 2) (dv 3))) (am (ph (aQ (aa ab (aa (dv 2) (aa ab (aa (aj (dz (aa ab (aa (dJ ab) ag))) (bh (aj (dv 0) ab) ab)) ag))))) (mF (ba (aD (i:=1) bP.nd) (ba (aD (i:=2) bP.nd) (ba (aD (i:=3) bP.nd) (ba (aD (i:=4) bP.nd) jA)))) (bb (bb (bb (bb jD))))))) aN)
 (ah (aq (i:=5) bP.nd (aj (dz (aa ab (aa (kD ab ab) ag))) (bh (bQ (aj (dv 0) ab) ab) ab)))
 (am (aE (aQ (aa (dv 1) (aa (dv 2) (aa (dv 3) (aa (dv 4) (aa (a9 (bh (aj (dv 0) ab) (aW (ax ab (dv 5)) ab)) (dv 5)) (aa (a9 (bh (aj (dv 0) ab) (aW (ax ab (dv 5)) ab)) (dv 5)) ag)))))))))))))))
abbrev ve:Stmt:=top 66
theorem cj:ay ["_law_way","_law_spot_here","_law_p","_law_q","_law_r","_law_s","_law_right","_law_up","_law_x","_law_y","_law_bottom","_law_one","_law_other"] ["_law_way","_law_spot_here"] (al ve):=by walk_at"fs"
theorem Ib (c48:Ce e 2 "_law_fraction" bE) (hr:Rm e 2 "_law_led" ve):Bd e cj "_law_led" oP:=
 (ah (ph (dv 0) (mF (ba (aD (i:=2) cj.nd) (ba (aD (i:=3) cj.nd) (ba (aD (i:=4) cj.nd) (ba (aD (i:=5) cj.nd) (ba (aD (i:=6) cj.nd) (ba (aD (i:=7) cj.nd) jA)))))) (bb (bb (bb (bb (bb (bb jD))))))))
 (ah (ph (dv 1) (mF (ba (aD (i:=8) cj.nd) (ba (aD (i:=9) cj.nd) jA)) (bb (bb jD))))
 (ah (aq (i:=10) cj.nd (ax (aj (dv 8) ab) (aj (dv 9) ab)))
 (ah (aq (i:=11) cj.nd (aW (aW (ax (ax (dv 2) (aj (dv 8) ab)) (aj (dv 9) ab)) (ax (ax (dv 3) (aj (dv 9) ab)) (aj (dv 8) ab))) (ax (dv 6) (dv 10))))
 (ah (aq (i:=12) cj.nd (aW (aW (ax (ax (dv 4) (aj (dv 8) ab)) (aj (dv 9) ab)) (ax (ax (dv 5) (aj (dv 9) ab)) (aj (dv 8) ab))) (ax (dv 7) (dv 10))))
 (am (aE (aQ (aa (ai c48 hr (aa (dv 11) (aa (dv 10) ag))) (aa (ai c48 hr (aa (dv 12) (aa (dv 10) ag))) ag))))))))))
abbrev lN:Stmt:=top 67
theorem dC:ay ["_law_script","_law_head","_law_points_here","_law_way","_law_p","_law_q","_law_r","_law_s","_law_right","_law_up","_law_others","_law_spot_here","_law_k","_law_corners"] ["_law_script"] (al lN):=by walk_at"fs"
theorem Px (m1:e.mg "len"=none) (m2:e.mg "sorted"=none) (c46:Ce e 1 "_law_numbers" iL) (c50:Ce e 2 "_law_points" jv) (c52:Ce e 1 "_law_slant" kW) (c51:Ce e 3 "_law_spot" ng) (c45:Ce e 5 "depth" fP) (c53:Ce e 3 "_law_led" lV) (c38:Ce e 6 "region" jN) (c39:Ce e 6 "deepest" fO) (hr:Rm e 6 "law" lN):Bd e dC "law" AU:=
 (ah (aq (i:=1) dC.nd (ai c46 hr (aa (dv 0) (aa ab ag))))
 (ah (aq (i:=2) dC.nd (ai c50 hr (aa (dv 1) (aa (aW ab (bh (aj (dv 1) ab) ab)) ag))))
 (ah (aq (i:=3) dC.nd (ai c52 hr (aa (fG (dv 1) (ii ab) ig) ag)))
 (ah (ph (dv 3) (mF (ba (aD (i:=4) dC.nd) (ba (aD (i:=5) dC.nd) (ba (aD (i:=6) dC.nd) (ba (aD (i:=7) dC.nd) (ba (aD (i:=8) dC.nd) (ba (aD (i:=9) dC.nd) jA)))))) (bb (bb (bb (bb (bb (bb jD))))))))
 (ah (eu (i:=10) dC.nd (N:=["_law_x","_law_y","_law_p","_law_q","_law_right","_law_r","_law_s","_law_up"]) (own:=2) (fr:=[4,5,8,6,7,9]) (NX:=["_law_script","_law_head","_law_points_here","_law_way","_law_p","_law_q","_law_r","_law_s","_law_right","_law_up","_law_others","_law_spot_here","_law_k","_law_corners"]) (ar:=al lN) (by decide +kernel) (bR (dv 2)) (IJ (rX bM (rX bM Es sE) sE)) (fun _ _ _ _=>(mF (ba (aD (i:=0) (show List.Nodup (["_law_x","_law_y","_law_p","_law_q","_law_right","_law_r","_law_s","_law_up"]:List Str) by decide)) (ba (aD (i:=1) (show List.Nodup (["_law_x","_law_y","_law_p","_law_q","_law_right","_law_r","_law_s","_law_up"]:List Str) by decide)) jA)) (bb (bb jD)))) (fun _ _ _ _=>eD) (fun _ _ _ _=>(aQ (aa (aW (aW (ax (dv 2) (dv 0)) (ax (dv 3) (dv 1))) (dv 4)) (aa (aW (aW (ax (dv 5) (dv 0)) (ax (dv 6) (dv 1))) (dv 7)) ag)))))
 (ah (aq (i:=11) dC.nd (ai c51 hr (aa (dv 2) (aa (aj (dv 1) ab) ag))))
 (ah (bD (v9 hr (aj (ai c45 hr (aa (dv 2) (aa (dv 11) ag))) ab) (aj (ai c45 hr (aa (dv 10) (aa (ai c53 hr (aa (dv 3) (aa (dv 11) ag))) ag))) ab)) (am (aE KL)) aN)
 (ah (aq (i:=12) dC.nd (aW ab (bh (aj (dv 1) ab) (bN m1 (aa (dv 2) ag)))))
 (ah (eu (i:=13) dC.nd (N:=["_law_corner","_law_way"]) (own:=1) (fr:=[3]) (NX:=["_law_script","_law_head","_law_points_here","_law_way","_law_p","_law_q","_law_r","_law_s","_law_right","_law_up","_law_others","_law_spot_here","_law_k","_law_corners"]) (ar:=al lN) (by decide +kernel) (bR (ai c38 hr (aa (dv 2) (aa (dv 12) ag)))) bM (fun _ _ _ _=>(aD (i:=0) (show List.Nodup (["_law_corner","_law_way"]:List Str) by decide))) (fun _ _ _ _=>eD) (fun _ _ _ _=>(ai c53 hr (aa (dv 1) (aa (dv 0) ag)))))
 (ah (bD (v9 hr (v6 hr m2 (dv 13)) (v6 hr m2 (ai c38 hr (aa (dv 10) (aa (dv 12) ag))))) (am (aE KL)) aN)
 (am (aE (PD hr (aj (ai c39 hr (aa (dv 2) ag)) ab) (aj (ai c39 hr (aa (dv 10) ag)) ab))))))))))))))
end
def Fd (K:Frg)(n:Str)(st:Stmt)(f:Addr):Prop:=∃ (oc:Value) (od:Option Addr) (sl:Array (Option Value)) (kV dc pm:Value) (an:Option Addr) (cd ct:Value),PySem.W.nsIn K mainGlobals n=some (some (.ref f))/\K.lookup f=some ⟨oc,od,.func (PySem.W.fnOf n n (eC st) (cz st) (al st) .none kV dc pm an cd ct),sl⟩/\PySem.W.codeIn K cd n=true/\PySem.W.keepIn K (.ref f)=true
theorem fd_mk {K:Frg}{n:Str}{st:Stmt}{f:Addr}{oc:Value}{od:Option Addr}{sl:Array (Option Value)}{kV dc pm:Value}{an:Option Addr}{cd ct:Value}(a:PySem.W.nsIn K mainGlobals n=some (some (.ref f)))(l:K.lookup f=some ⟨oc,od,.func (PySem.W.fnOf n n (eC st) (cz st) (al st) .none kV dc pm an cd ct),sl⟩)(e:PySem.W.codeIn K cd n=true)(k:PySem.W.keepIn K (.ref f)=true):Fd K n st f:=⟨_,_,_,_,_,_,_,_,_,a,l,e,k⟩
def Sr (n:Str)(st:Stmt)(ps:List Str):Prop:=∀ (kV doc pm:Value) (an:Option Addr) (cdv ct:Value) (us:List Value),us.length=ps.length->bindArgs (PySem.W.fnOf n n (eC st) (cz st) (al st) .none kV doc pm an cdv ct) ⟨us,[]⟩=pure (ps.zip us)
theorem Pz {P:Program}{wd:World}{K:Frg}{mg:Str->Option Value}{base h:Heap}(X:K.In h)(G:h.Ns mainGlobals mg){x:Str}{st:Stmt}{f:Addr}{N ps:List Str}{sp:aM}{w:WS}(k:Nat)(d:Fd K x st f)(S:ay N ps (al st))(hk:∀ ss R,sp ss R->w {nx:=fun _=>R (.t .non),rt:=R} (gK N ss))
  (hbody:∀ (cdv:Value) (A:Around) (outer:List Env) (s:Shared) (H:Hp) (E:XK),Rm ⟨P,wd,K,mg,base,f,cdv,A,outer,s,H,E⟩ k x st->Bd ⟨P,wd,K,mg,base,f,cdv,A,outer,s,H,E⟩ S x w) (hb:Sr x st ps) (hlen:∀ ss R,sp ss R->ss.length=ps.length):Callee P wd K mg base (k+1) x sp:=by
 obtain⟨oc,od,sl,kV,dc,pm,an,cd,ct,a,l,e,q⟩:=d;exact rP (pK l e q) (PySem.W.mg_of X G a) ((pK l e q).binds hb) (Dg (pK l e q) S hlen hbody hk)
theorem all_mk {l:PySem.W.OpenLaw}{w:World}{K:Frg}{h:Heap}{mg:Str->Option Value}{cc T:Addr}{ts:List Addr}{odC odL anL:Option Addr}{vsC:Array Value}{slC slL:Array (Option Value)}{ocL kVL dcL pmL ctL:Value}{fa f_0 f_1 f_2 f_3 f_4 f_5 f_6 f_7 f_8 f_9 f_10 f_11 f_12 f_13 f_14 f_15 f_16 f_17 f_18 f_19 f_20 f_21 f_22 f_23 f_24 f_25 f_26 f_27 f_28 f_29 f_30 f_31 f_32 f_33 f_34 f_35 f_36 f_37 f_38 f_39 f_40 f_41 f_42 f_43 f_44 f_45 f_46 f_47 f_48 f_49 f_50 f_51 f_52 f_53 f_54:Addr} (X:K.In h) (G:h.Ns mainGlobals mg) (hfa:mg "law"=some (.ref fa))
  (d0:Fd K "divisor" mU f_0) (d1:Fd K "ratio" vg f_1) (d2:Fd K "below" u9 f_2) (d3:Fd K "half" yZ f_3) (d4:Fd K "between" mR f_4) (d5:Fd K "along" u6 f_5) (d6:Fd K "as_spot" mQ f_6) (d7:Fd K "bottoms" mS f_7) (d8:Fd K "excess" ql f_8) (d9:Fd K "sign" y8 f_9) (d10:Fd K "side" y6 f_10) (d11:Fd K "many_in" jK f_11) (d12:Fd K "lesser" qp f_12) (d13:Fd K "stretched" jp f_13) (d14:Fd K "turn" y9 f_14) (d15:Fd K "chain" va f_15) (d16:Fd K "hull" vd f_16) (d17:Fd K "sides" oE f_17) (d18:Fd K "from_least" iB f_18) (d19:Fd K "mixed" vf f_19) (d20:Fd K "crossing" kM f_20) (d21:Fd K "clipped" mT f_21) (d22:Fd K "across" qj f_22) (d23:Fd K "spot_at" mZ f_23) (d24:Fd K "asked" u7 f_24) (d25:Fd K "meeting" mY f_25) (d26:Fd K "limits" qr f_26) (d27:Fd K "apart" oD f_27) (d28:Fd K "clash" vc f_28) (d29:Fd K "spot_between" fJ f_29) (d30:Fd K "lowered" jJ f_30) (d31:Fd K "weights_of" iD f_31) (d32:Fd K "none_shared" eJ f_32) (d33:Fd K "shared" qu f_33) (d34:Fd K "upright_and_level" dg f_34) (d35:Fd K "bordered" kK f_35) (d36:Fd K "need_points" gF f_36) (d37:Fd K "strong" lO f_37) (d38:Fd K "region" qt f_38) (d39:Fd K "deepest" jH f_39) (d40:Fd K "ways_to" jL f_40) (d41:Fd K "many_ahead" fk f_41) (d42:Fd K "just_past" ga f_42) (d43:Fd K "facings" jI f_43) (d44:Fd K "half_facing" gE f_44) (aL:PySem.W.nsIn K mainGlobals "depth"=some (some (.ref f_45))) (lL:K.lookup f_45=some ⟨ocL,odL,.func (PySem.W.fnOf "depth" "depth" (eC f7) (cz f7) (al f7) .none kVL dcL pmL anL (.ref cc) ctL),slL⟩) (eL:PySem.W.codeIn K (.ref cc) "depth"=true) (kL:PySem.W.keepIn K (.ref f_45)=true) (d46:Fd K "_law_numbers" gd f_46) (d47:Fd K "_law_divisor" jo f_47) (d48:Fd K "_law_fraction" iC f_48) (d49:Fd K "_law_digit" mV f_49) (d50:Fd K "_law_points" kN f_50) (d51:Fd K "_law_spot" qo f_51) (d52:Fd K "_law_slant" mW f_52) (d53:Fd K "_law_led" ve f_53) (d54:Fd K "law" lN f_54)
  (gc:K.lookup cc=some ⟨.type "code",odC,.fields vsC,slC⟩) (gt:(vsC[11]?:Option Value)=some (.ref T)) (hhd:PySem.W.codeHdIn K cc T=true) (gn:K.lookup T=none) (gs:T∈ts) (z0:PySem.W.nsIn K mainGlobals "abs"=some none) (z1:PySem.W.nsIn K mainGlobals "len"=some none) (z2:PySem.W.nsIn K mainGlobals "sorted"=some none) (z3:PySem.W.nsIn K mainGlobals "set"=some none) (z4:PySem.W.nsIn K mainGlobals "list"=some none) (z5:PySem.W.nsIn K mainGlobals "reversed"=some none) (z6:PySem.W.nsIn K mainGlobals "range"=some none) (z7:PySem.W.nsIn K mainGlobals "max"=some none) (z8:PySem.W.nsIn K mainGlobals "min"=some none) (z9:PySem.W.nsIn K mainGlobals "sum"=some none)
 :∃ (fd:FuncData) (c T:Addr),(∀ (s:Shared) (v:Value),BindsTo s fd ⟨[v],[]⟩ [("_law_script",v)])/\T∈ts/\K.lookup T=none/\PySem.W.codeHdIn K c T=true/\ir K=some T/\∀ base:Heap,K.In base->base.Ns mainGlobals mg->Oz mg base->i8 l.prog w K mg base zx 7 fa fd ["_law_script"] (vy K AK):=by
 obtain⟨oc,od,sl,kV,dc,pm,an,cd,ct,a,l1,e1,k1⟩:=d54;have e:=hfa.symm.trans (PySem.W.mg_of X G a)
 cases e
 have hlam:ir K=some T:=BH aL lL rfl gc gt;have m0:=PySem.W.mg_none_of X G z0;have m1:=PySem.W.mg_none_of X G z1;have m2:=PySem.W.mg_none_of X G z2;have m3:=PySem.W.mg_none_of X G z3;have m4:=PySem.W.mg_none_of X G z4;have m5:=PySem.W.mg_none_of X G z5;have m6:=PySem.W.mg_none_of X G z6;have m7:=PySem.W.mg_none_of X G z7;have m8:=PySem.W.mg_none_of X G z8;have m9:=PySem.W.mg_none_of X G z9;refine⟨PySem.W.fnOf "law" "law" (eC lN) (cz lN) (al lN) .none kV dc pm an cd ct,cc,T,fun s v=>.of_eq rfl,gs,gn,hhd,hlam,fun base kb _ hBM=>?_⟩;obtain⟨mb,bm⟩:=hBM;have Q:=fun {x st f N ps sp u} k=>@Pz l.prog w K mg base h X G x st f N ps sp u k;have c46:=Q 0 d46 cC uV (fun _ _ _ _ _ _ hr=>vQ m6 m7 m8 m1 hr) (by walk_at"bn") (by walk_at"ln")
 have c49:=Q 0 d49 iG yL (fun _ _ _ _ _ _ hr=>Bc m6 hr) (by walk_at"bn") (by walk_at"ln")
 have c50:=Q 1 d50 a7 wZ (fun _ _ _ _ _ _ hr=>xS m6 c49 hr) (by walk_at"bn") (by walk_at"ln")
 have c52:=Q 0 d52 bP yM (fun _ _ _ _ _ _ hr=>Be hr) (by walk_at"bn") (by walk_at"ln")
 have c47:=Q 0 d47 dN uU (fun _ _ _ _ _ _ hr=>vP m0 hr) (by walk_at"bn") (by walk_at"ln")
 have c48:=Q 1 d48 gG rA (fun _ _ _ _ _ _ hr=>tH c47 hr) (by walk_at"bn") (by walk_at"ln")
 have c51:=Q 2 d51 cH BX (fun _ _ _ _ _ _ hr=>CW m1 m9 c48 hr) (by walk_at"bn") (by walk_at"ln")
 have c7:=Q 0 d7 qw yF (fun _ _ _ _ _ _ hr=>A7 hr) (by walk_at"bn") (by walk_at"ln")
 have c13:=Q 1 d13 lS uW (fun _ _ _ _ _ _ hr=>vR c7 hr) (by walk_at"bn") (by walk_at"ln")
 have c40:=Q 2 d40 kP yR (fun _ _ _ _ _ _ hr=>Bk c13 hr) (by walk_at"bn") (by walk_at"ln")
 have c5:=Q 0 d5 xg F9 (fun _ _ _ _ _ _ hr=>HS hr) (by walk_at"bn") (by walk_at"ln")
 have c42:=Q 1 d42 iF uT (fun _ _ _ _ _ _ hr=>vO m7 m0 c5 hr) (by walk_at"bn") (by walk_at"ln")
 have c43:=Q 2 d43 kO yJ (fun _ _ _ _ _ _ hr=>Bb c42 hr) (by walk_at"bn") (by walk_at"ln")
 have c41:=Q 1 d41 kq rB (fun _ _ _ _ _ _ hr=>tI m1 c5 hr) (by walk_at"bn") (by walk_at"ln")
 have c0:=Q 0 d0 dB yI (fun _ _ _ _ _ _ hr=>Ba m0 hr) (by walk_at"bn") (by walk_at"ln")
 have c3:=Q 1 d3 vh Jv (fun _ _ _ _ _ _ hr=>L3 c0 hr) (by walk_at"bn") (by walk_at"ln")
 have c44:=Q 2 d44 fL pX (fun _ _ _ _ _ _ hr=>qQ c13 c3 c5 hr) (by walk_at"bn") (by walk_at"ln")
 have F:=pK (st:=f7) lL eL kL;have c45:Callee l.prog w K mg base 5 "depth" fP:=rP F (PySem.W.mg_of X G aL) (F.binds (ps:=["points","spot"]) (by walk_at"bn")) (Iu ⟨⟨_,_,_,_,_,_,_,_,rfl,lL,eL⟩,kL,hhd,hlam⟩ qx (by walk_at"ln") (fun A outer s H E hr=>Ia kb hhd hlam bm m1 m8 c40 c43 c41 c44 hr) Gf)
 have c53:=Q 2 d53 cj Gg (fun _ _ _ _ _ _ hr=>Ib c48 hr) (by walk_at"bn") (by walk_at"ln")
 have c36:=Q 0 d36 jq pY (fun _ _ _ _ _ _ hr=>qR m1 hr) (by walk_at"bn") (by walk_at"ln")
 have c6:=Q 0 d6 qv yD (fun _ _ _ _ _ _ hr=>A5 hr) (by walk_at"bn") (by walk_at"ln")
 have c8:=Q 1 d8 jM BW (fun _ _ _ _ _ _ hr=>CV c7 hr) (by walk_at"bn") (by walk_at"ln")
 have c14:=Q 2 d14 iI JC (fun _ _ _ _ _ _ hr=>L7 c13 c8 hr) (by walk_at"bn") (by walk_at"ln")
 have c15:=Q 3 d15 lP Gd (fun _ _ _ _ _ _ hr=>HY m1 c14 hr) (by walk_at"bn") (by walk_at"ln")
 have c16:=Q 4 d16 lQ Jw (fun _ _ _ _ _ _ hr=>L4 m2 m3 m1 m4 m5 c6 c15 hr) (by walk_at"bn") (by walk_at"ln")
 have c34:=Q 0 d34 bX jn (fun _ _ _ _ _ _ hr=>j7 hr) (by walk_at"bn") (by walk_at"ln")
 have c4:=Q 2 d4 iE yE (fun _ _ _ _ _ _ hr=>A6 c3 hr) (by walk_at"bn") (by walk_at"ln")
 have c35:=Q 3 d35 eX wX (fun _ _ _ _ _ _ hr=>xQ m2 m3 c34 c4 hr) (by walk_at"bn") (by walk_at"ln")
 have c11:=Q 0 d11 qy yO (fun _ _ _ _ _ _ hr=>Bh m1 hr) (by walk_at"bn") (by walk_at"ln")
 have c37:=Q 4 d37 sT B7 (fun _ _ _ _ _ _ hr=>C4 c36 c35 c11 hr) (by walk_at"bn") (by walk_at"ln")
 have c17:=Q 0 d17 xl Gj (fun _ _ _ _ _ _ hr=>Ie m6 m1 hr) (by walk_at"bn") (by walk_at"ln")
 have c9:=Q 0 d9 AI JA (fun _ _ _ _ _ _ hr=>L6 hr) (by walk_at"bn") (by walk_at"ln")
 have c10:=Q 2 d10 AH Jz (fun _ _ _ _ _ _ hr=>L5 c9 c8 hr) (by walk_at"bn") (by walk_at"ln")
 have c1:=Q 1 d1 lR Gi (fun _ _ _ _ _ _ hr=>Idq c0 hr) (by walk_at"bn") (by walk_at"ln")
 have c19:=Q 2 d19 qz Gh (fun _ _ _ _ _ _ hr=>Ic c1 hr) (by walk_at"bn") (by walk_at"ln")
 have c20:=Q 3 d20 dD wY (fun _ _ _ _ _ _ hr=>xR m0 c8 c7 c19 hr) (by walk_at"bn") (by walk_at"ln")
 have c2:=Q 0 d2 xj Gc (fun _ _ _ _ _ _ hr=>HX hr) (by walk_at"bn") (by walk_at"ln")
 have c12:=Q 1 d12 sS BY (fun _ _ _ _ _ _ hr=>CY c2 hr) (by walk_at"bn") (by walk_at"ln")
 have c18:=Q 2 d18 dk rz (fun _ _ _ _ _ _ hr=>tG m6 m1 c12 hr) (by walk_at"bn") (by walk_at"ln")
 have c21:=Q 4 d21 fK yG (fun _ _ _ _ _ _ hr=>A8 c17 c10 c20 c18 hr) (by walk_at"bn") (by walk_at"ln")
 have c38:=Q 5 d38 g8 B5 (fun _ _ _ _ _ _ hr=>C1 m1 c36 c16 c37 c21 hr) (by walk_at"bn") (by walk_at"ln")
 have c22:=Q 0 d22 sR BV (fun _ _ _ _ _ _ hr=>CU hr) (by walk_at"bn") (by walk_at"ln")
 have c24:=Q 1 d24 xi Gb (fun _ _ _ _ _ _ hr=>HV c5 hr) (by walk_at"bn") (by walk_at"ln")
 have c25:=Q 2 d25 iH yP (fun _ _ _ _ _ _ hr=>Bi c24 c22 hr) (by walk_at"bn") (by walk_at"ln")
 have c26:=Q 3 d26 cX BZ (fun _ _ _ _ _ _ hr=>CZ m6 m1 c22 c25 c2 hr) (by walk_at"bn") (by walk_at"ln")
 have c27:=Q 2 d27 xh Ga (fun _ _ _ _ _ _ hr=>HU m6 m1 c22 c24 hr) (by walk_at"bn") (by walk_at"ln")
 have c28:=Q 3 d28 xk Ge (fun _ _ _ _ _ _ hr=>HZ c2 c27 hr) (by walk_at"bn") (by walk_at"ln")
 have c30:=Q 1 d30 fM yN (fun _ _ _ _ _ _ hr=>Bg c0 hr) (by walk_at"bn") (by walk_at"ln")
 have c31:=Q 2 d31 dm rC (fun _ _ _ _ _ _ hr=>tJ m1 m0 c30 c22 hr) (by walk_at"bn") (by walk_at"ln")
 have c32:=Q 3 d32 jr pZ (fun _ _ _ _ _ _ hr=>qS c31 hr) (by walk_at"bn") (by walk_at"ln")
 have c23:=Q 2 d23 fN yQ (fun _ _ _ _ _ _ hr=>Bj c5 c1 hr) (by walk_at"bn") (by walk_at"ln")
 have c29:=Q 3 d29 fc n0 (fun _ _ _ _ _ _ hr=>o8 c23 hr) (by walk_at"bn") (by walk_at"ln")
 have c33:=Q 4 d33 cY B6 (fun _ _ _ _ _ _ hr=>C3 m6 m1 m2 c10 c26 c28 c32 c29 hr) (by walk_at"bn") (by walk_at"ln")
 have c39:=Q 5 d39 bL yH (fun _ _ _ _ _ _ hr=>A9 m1 c36 c37 c33 hr) (by walk_at"bn") (by walk_at"ln")
 exact Dg (pK (st:=lN) l1 e1 k1) dC (by walk_at"ln") (fun cdv A outer s H E hr=>Px (e:=⟨l.prog,w,K,mg,base,_,cdv,A,outer,s,H,E⟩) m1 m2 c46 c50 c52 c51 c45 c53 c38 c39 hr) Nl
end Law
open PySem PySem.W PyProof.Rows
set_option maxRecDepth 100000 in
set_option maxHeartbeats 0 in
theorem PySem.Challenge.cw_deepspot_k61_whole_points_led_holds : PySem.Challenge.rw_deepspot_k61_whole_points_led.Holds := by
 w_on;o_law;k_head;(case hw=>w_witness2)
 k_fill
 refine DL.walkT (l:=PySem.Challenge.rw_deepspot_k61_whole_points_led) (n:=63) (k:=7) (x:="_law_script") rfl (by decide) rfl ⟨rfl,by decide,by decide⟩ (fun w h Y=>PySem.W.km_in_of Y) (fun w h Y=>PySem.W.km_tabs_of Y) ?F
 case F=>
  intro w mg fa h KX G hmg;refine' Law.all_mk KX G hmg (Law.fd_mk ?_ ?_ ?_ ?_) (Law.fd_mk ?_ ?_ ?_ ?_) (Law.fd_mk ?_ ?_ ?_ ?_) (Law.fd_mk ?_ ?_ ?_ ?_) (Law.fd_mk ?_ ?_ ?_ ?_) (Law.fd_mk ?_ ?_ ?_ ?_) (Law.fd_mk ?_ ?_ ?_ ?_) (Law.fd_mk ?_ ?_ ?_ ?_) (Law.fd_mk ?_ ?_ ?_ ?_) (Law.fd_mk ?_ ?_ ?_ ?_) (Law.fd_mk ?_ ?_ ?_ ?_) (Law.fd_mk ?_ ?_ ?_ ?_) (Law.fd_mk ?_ ?_ ?_ ?_) (Law.fd_mk ?_ ?_ ?_ ?_) (Law.fd_mk ?_ ?_ ?_ ?_) (Law.fd_mk ?_ ?_ ?_ ?_) (Law.fd_mk ?_ ?_ ?_ ?_) (Law.fd_mk ?_ ?_ ?_ ?_) (Law.fd_mk ?_ ?_ ?_ ?_) (Law.fd_mk ?_ ?_ ?_ ?_) (Law.fd_mk ?_ ?_ ?_ ?_) (Law.fd_mk ?_ ?_ ?_ ?_) (Law.fd_mk ?_ ?_ ?_ ?_) (Law.fd_mk ?_ ?_ ?_ ?_) (Law.fd_mk ?_ ?_ ?_ ?_) (Law.fd_mk ?_ ?_ ?_ ?_) (Law.fd_mk ?_ ?_ ?_ ?_) (Law.fd_mk ?_ ?_ ?_ ?_) (Law.fd_mk ?_ ?_ ?_ ?_) (Law.fd_mk ?_ ?_ ?_ ?_) (Law.fd_mk ?_ ?_ ?_ ?_) (Law.fd_mk ?_ ?_ ?_ ?_) (Law.fd_mk ?_ ?_ ?_ ?_) (Law.fd_mk ?_ ?_ ?_ ?_) (Law.fd_mk ?_ ?_ ?_ ?_) (Law.fd_mk ?_ ?_ ?_ ?_) (Law.fd_mk ?_ ?_ ?_ ?_) (Law.fd_mk ?_ ?_ ?_ ?_) (Law.fd_mk ?_ ?_ ?_ ?_) (Law.fd_mk ?_ ?_ ?_ ?_) (Law.fd_mk ?_ ?_ ?_ ?_) (Law.fd_mk ?_ ?_ ?_ ?_) (Law.fd_mk ?_ ?_ ?_ ?_) (Law.fd_mk ?_ ?_ ?_ ?_) (Law.fd_mk ?_ ?_ ?_ ?_) ?aL ?lL ?eL ?kL (Law.fd_mk ?_ ?_ ?_ ?_) (Law.fd_mk ?_ ?_ ?_ ?_) (Law.fd_mk ?_ ?_ ?_ ?_) (Law.fd_mk ?_ ?_ ?_ ?_) (Law.fd_mk ?_ ?_ ?_ ?_) (Law.fd_mk ?_ ?_ ?_ ?_) (Law.fd_mk ?_ ?_ ?_ ?_) (Law.fd_mk ?_ ?_ ?_ ?_) (Law.fd_mk ?_ ?_ ?_ ?_) ?gc ?gt ?gh ?gn ?gs ?_ ?_ ?_ ?_ ?_ ?_ ?_ ?_ ?_ ?_
  (case aL=>k_is)
  (case lL=>k_is)
  (case eL=>k_is)
  (case kL=>k_is)
  (case gc=>k_is)
  (case gt=>rfl)
  (case gh=>kernel_rfl)
  (case gn=>kernel_rfl)
  (case gs=>k_mem)
  all_goals(try k_is)

import PyProof.Rows.All
import Wide.All
import OpenK.AllK
import Wide.FinOn
import Lean
import PyProof.EqAt
import PyProof.EqKinds
import PyProof.TupleCall
import KE.KNestM
import PyProof.NeKinds
import PyProof.CompFree
import PyProof.FitsBits
import KE.LcSums
import PyProof.ZipIter
import PyProof.EnumFor
import PyProof.EnumStmt
import PyProof.Rows.EnumRows
import PyProof.Rows.FactsT2
import PyProof.Rows.SortWalk
import PyProof.Rows.FactsT3
import PyProof.LayNew
import KE.KMinKey
import KE.KLam
import PyProof.Rows.CallKwBuiltin
import KE.KRevIter
import PyProof.SetScanFacts
import PyProof.TupleKey
import PyProof.SetKind
import PyProof.DictStraight
import PyProof.IsRules
import PyProof.WalkLemmas
import PyProof.Rows.SetFrom
import KE.KSortTup
import PyProof.ListNew
import KE.RegKIsAll
import PySem.Challenge.RW_deepspot_k62_whole_a_point_more
abbrev Frg:=PySem.W.Frag
open List (length_map mem_cons mem_map getElem_mem mem_append mem_cons_self mem_singleton getElem_map mem_cons_of_mem mem_of_getElem? getElem?_eq_getElem size_toArray map_cons map_append getElem_of_mem map_map length_cons mem_range getElem?_map mem_append_right mem_append_left pairwise_iff_getElem pairwise_cons mem_filter getElem?_set_ne append_nil length_take not_mem_nil getElem?_set_self length_drop length_singleton length_reverse length_replicate length_range filterMap_cons replicate getElem?_append_left length_set reverse_cons getElem?_set lookup_cons getD_eq_getElem?_getD map_take length_pos_iff getElem?_eq_none map_congr_left map_drop range_succ length_nil pairwise_map countP_eq_length_filter nodup_cons getElem?_append_right range_succ_eq_map length_filter_le take_of_length_le length_eq_zero_iff take_append_drop foldl_append getElem_append_left getElem?_replicate length_dropLast countP_cons nil_append mem_of_mem_take head?_reverse head?_eq_getElem?)
open Nat (le_refl ne_of_lt lt_or_ge le_trans zero_le lt_of_lt_of_le lt_trichotomy lt_irrefl mod_lt lt_of_le_of_lt ne_of_gt succ_pos lt_succ_self le_of_not_lt lt_trans div_le_self eq_zero_or_pos le_of_lt_succ lt_succ_of_lt min_eq_left)
open Int (le_of_lt mul_pos mul_nonneg mul_comm mul_eq_zero lt_or_le mul_zero zero_mul neg_mul mul_neg_of_pos_of_neg toNat_natCast gcd_dvd_left gcd_dvd_right mul_nonpos_of_nonneg_of_nonpos eq_of_mul_eq_mul_right mul_nonneg_of_nonpos_of_nonpos mul_one mul_nonpos_of_nonpos_of_nonneg natAbs_dvd_natAbs mul_le_mul_of_nonneg_right mul_neg)
open Array (length_toList getElem?_toList getD_eq_getD_getElem?)
open Option (isSome_iff_exists getD_none map_some)
set_option Elab.async false
set_option linter.all false
set_option maxRecDepth 100000
namespace L2
open PySem PySem.Spec PyProof.Rows
abbrev Key:=Sum Int Str
def KO:Key->Value->Bool
 | .inl k,v=>Value.isInt k v
 | .inr x,v=>Value.isStrOf x v
def Rt (w:World):Key->Int
 | .inl k=>hashInt k
 | .inr x=>hashStr w x
theorem bS:∀ {k:Key}{v:Value},KO k v=true->(∃ i t,k=Sum.inl i/\v=Value.int i t)\/(∃ x t,k=Sum.inr x/\v=Value.str x t)
 | .inl i,v,h=>by
  obtain⟨t,e⟩:=Value.isInt_shape (k:=i) (v:=v) h;exact .inl ⟨i,t,rfl,e⟩
 | .inr x,v,h=>by
  obtain⟨t,e⟩:=Value.isStrOf_shape (x:=x) (v:=v) h;exact .inr ⟨x,t,rfl,e⟩
theorem MK (a b:Int):decide ((Sum.inl a:Key)=Sum.inl b)=(a == b):=by
 by_cases e:a=b
 ·subst e;simp
 ·have h:¬ (Sum.inl a:Key)=Sum.inl b:=fun q=>e (Sum.inl.inj q);rw[decide_eq_false h];exact(beq_eq_false_iff_ne.mpr e).symm
theorem MN (a b:Str):decide ((Sum.inr a:Key)=Sum.inr b)=decide (a=b):=by
 by_cases e:a=b
 ·subst e;simp
 ·have h:¬ (Sum.inr a:Key)=Sum.inr b:=fun q=>e (Sum.inr.inj q);rw[decide_eq_false h,decide_eq_false e]
theorem ML (a:Int)(b:Str):decide ((Sum.inl a:Key)=Sum.inr b)=false:=decide_eq_false (fun q=>nomatch q)
theorem MM (a:Str)(b:Int):decide ((Sum.inr a:Key)=Sum.inl b)=false:=decide_eq_false (fun q=>nomatch q)
def zZ (prog:Program)(w:World):PySem.KeyKind prog w Key where
 is:=KO
 hash:=Rt w
 inj:=fun v a b ha hb=>by
  rcases bS ha with ⟨i,t,rfl,rfl⟩|⟨x,t,rfl,rfl⟩
  ·rcases bS hb with ⟨j,u,rfl,e⟩|⟨y,u,rfl,e⟩
   ·injection e with e1 _;rw[e1]
   ·exact nomatch e
  ·rcases bS hb with ⟨j,u,rfl,e⟩|⟨y,u,rfl,e⟩
   ·exact nomatch e
   ·injection e with e1 _;rw[e1]
 byValue:=fun k v h=>by
  rcases bS h with ⟨i,t,rfl,rfl⟩|⟨x,t,rfl,rfl⟩ <;> rfl
 pyHash:=fun hv h=>by
  rcases bS hv with ⟨i,t,rfl,rfl⟩|⟨x,t,rfl,rfl⟩
  ·exact wpAny_pyHash_int h
  ·exact wpAny_pyHash_str h
 eqBool:=fun hu hv h=>by
  rcases bS hu with ⟨i,t,rfl,rfl⟩|⟨x,t,rfl,rfl⟩
  ·rcases bS hv with ⟨j,u,rfl,rfl⟩|⟨y,u,rfl,rfl⟩
   ·rw[MK]at h;exact wpAny_eqBool_int h
   ·rw[ML]at h;exact SeqAt.EqAt.int_str i t y u _ _ _ _ h
  ·rcases bS hv with ⟨j,u,rfl,rfl⟩|⟨y,u,rfl,rfl⟩
   ·rw[MM]at h;exact SeqAt.EqAt.str_int x t j u _ _ _ _ h
   ·rw[MN]at h;exact wpAny_eqBool_str h
 «strs»:=fun k x t v h=>by
  rcases bS h with ⟨i,u,rfl,e⟩|⟨y,u,rfl,e⟩
  ·exact nomatch e
  ·injection e with e1 _
   subst e1
   cases v <;> rfl
end L2
namespace L2
open PySem PySem.Spec PyProof.Rows
inductive V where
 | non|bl (b:Bool)|int (i:Int)|str (x:Str)|byt (b:Array UInt8)|flt (b:UInt64)|ref (a:Addr)|ty (n:String)
 deriving DecidableEq
def RelV:V->Value->Prop
 | .non,u=>u=Value.none
 | .bl b,u=>u=Value.bool b
 | .int i,u=>∃ t,u=Value.int i t
 | .str x,u=>∃ t,u=Value.str x t
 | .byt b,u=>∃ t,u=Value.bytes b t
 | .flt b,u=>∃ t,u=Value.float b t
 | .ref a,u=>u=Value.ref a
 | .ty n,u=>u=Value.type n
abbrev aO:List V->List Value->Prop:=Paired RelV
theorem aO.length {xs:List V}{us:List Value}(r:aO xs us):xs.length=us.length:=Paired.length r
theorem aO.get:∀ {xs:List V}{us:List Value}{i:Nat}{x:V},aO xs us->xs[i]?=some x->∃ u,us[i]?=some u/\RelV x u
 | _,_,_,_,.nil,e=>by simp at e
 | _,_,0,_,.cons r _,e=>by simp at e;subst e;exact⟨_,rfl,r⟩
 | _,_,i+1,x,.cons _ t,e=>by
  obtain⟨u,h1,h2⟩:=aO.get (i:=i) (x:=x) t (by simpa using e)
  exact⟨u,by simpa using h1,h2⟩
theorem aO.set {x:V}{u:Value}(r:RelV x u):∀ {xs:List V}{us:List Value} (i:Nat),aO xs us->aO (xs.set i x) (us.set i u)
 | _,_,_,.nil=>.nil
 | _,_,0,.cons _ t=>.cons r t
 | _,_,i+1,.cons q t=>.cons q (aO.set r i t)
theorem aO.append:∀ {xs ys:List V}{us ws:List Value},aO xs us->aO ys ws->aO (xs++ys) (us++ws)
 | _,_,_,_,.nil,s=>s
 | _,_,_,_,.cons r t,s=>.cons r (aO.append t s)
theorem aO.take:∀ {xs:List V}{us:List Value} (n:Nat),aO xs us->aO (xs.take n) (us.take n)
 | _,_,0,_=>.nil
 | _,_,_+1,.nil=>.nil
 | _,_,n+1,.cons r t=>.cons r (aO.take n t)
theorem aO.drop:∀ {xs:List V}{us:List Value} (n:Nat),aO xs us->aO (xs.drop n) (us.drop n)
 | _,_,0,r=>r
 | _,_,_+1,.nil=>.nil
 | _,_,n+1,.cons _ t=>aO.drop n t
def Ho:Option V->Option Value->Prop
 | some v,some u=>RelV v u
 | none,none=>True
 | _,_=>False
def KV {κ:Type}:List (κ × V)->List (κ × Value)->Prop:=Paired fun (p:κ × V) (q:κ × Value)=>p.1=q.1/\RelV p.2 q.2
def kV:Key->V
 | .inl i=>.int i
 | .inr x=>.str x
inductive HO where
  | lst (xs:List V)
  | tup (xs:List V)
  | dK (kvs:List (Key × V))|dT (kvs:List (List Key × V))
  | set (S:Int->Bool) (n:Nat)
  | ins (C dx:Addr) (fs:List (Str × V))
  | own (x:Addr)
  | xd (fs:List (Str × V))
  | met (f x:Addr)
  | rng (lo hi:Int)
  | frz (o:Obj) (u:HO)
  | tbl (ps:Array Value)
  | ext (φ:Heap->Prop)
abbrev Hp:=Addr->Option HO
def cO (H:Hp)(a:Addr)(o:HO):Hp:=fun b=>if b=a then some o else H b
theorem aZ {H:Hp}{a:Addr}{o:HO}:cO H a o a=some o:=by unfold cO;rw[if_pos rfl]
theorem aW {H:Hp}{a b:Addr}{o:HO}(h:b≠a):cO H a o b=H b:=by unfold cO;rw[if_neg h]
theorem bf {H:Hp}{a b:Addr}{o:HO}(h:H a=some o)(h':H b=none):a≠b:=by
 intro e;subst e;rw[h]at h';cases h'
section
variable (P:Program) (w:World)
def f7 (H:Hp)(h:Heap)(a:Addr):HO->Prop
 | .lst xs=>xs.length<=sizeLine/\∃ (its:List Value) (n:Nat),aO xs its/\h.get? a=some {cls:=.type "list",data:=.seq its.toArray n}
 | .tup xs=>xs.length<=sizeLine/\∃ its:List Value,aO xs its/\IsTup h a its.toArray
 | .dK kvs=>kvs.length<=sizeLine/\(a == sysModules)=false/\∃ vs,KV kvs vs/\h.DictOf (zZ P w) a vs
 | .dT kvs=>kvs.length<=sizeLine/\(a == sysModules)=false/\∃ xs:List (List Key × Addr × Value),
   Paired (fun (p:List Key × V) (q:List Key × Addr × Value)=>p.1=q.1/\H q.2.1=some (.tup (p.1.map kV))/\RelV p.2 q.2.2) kvs xs ∧
   ∃ o es ep,h.get? a=some o/\o.ExactDict/\o.data=.dict es ep/\es.toList=xs.map (entryOfKey (tupleKind (zZ P w)))/\(xs.map (·.1)).Nodup
 | .set S n=>h.SetOf (intKind P w) a S n
 | .ins C dx fs=>H dx=some (.own a)/\fs.length<=1000/\dx≠a/\h.get? a=some (PySem.W.instObj C dx) ∧
   ∃ mA,h.Ns1 dx mA/\(∀ f,Ho (fs.lookup f) (mA f))/\PySem.Within mA (fs.map (·.1))
 | .own _=>∃ o,h.get? a=some o
 | .xd fs=>∃ mA,h.Ns1 a mA/\∀ f,Ho (fs.lookup f) (mA f)
 | .rng lo hi=>∃ t u v,h.get? a=some {cls:=.type "range",data:=.fields #[.int lo t,.int hi u,.int 1 v]}
 | .frz o u=>h.get? a=some o/\f7 H h a u
 | .tbl ps=>h.get? a=some {cls:=.none,data:=.fields ps}
 | .met f x=>h.get? a=some (PySem.W.methodObj (.ref f) (.ref x))
 | .ext φ=>φ h/\(∃ o,h.get? a=some o)/\∀ h1 h2:Heap,φ h1->(∀ o,h1.get? a=some o->h2.get? a=some o)->φ h2
def ig (H:Hp)(h:Heap):Prop:=∀ a o,H a=some o->f7 P w H h a o
end
section
variable {P:Program}{w:World}{H H':Hp}{h h':Heap}{a:Addr}{o:HO}
theorem f7.lt (x:f7 P w H h a o):a<h.objs.size:=by
 cases o with
 | lst xs=>obtain⟨_,_,_,_,e⟩:=x;exact Heap.lt_size e
 | tup xs=>obtain⟨_,_,_,p⟩:=x;exact p.lt
 | dK kvs=>obtain⟨_,_,_,_,o,_,_,e,_⟩:=x;exact Heap.lt_size e
 | dT kvs=>obtain⟨_,_,_,_,o,_,_,e,_⟩:=x;exact Heap.lt_size e
 | set S n=>obtain⟨o,_,_,_,e,_⟩:=x;exact Heap.lt_size e
 | ins C dx fs=>obtain⟨_,_,_,e,_⟩:=x;exact Heap.lt_size e
 | own y=>obtain⟨_,e⟩:=x;exact Heap.lt_size e
 | xd fs=>obtain⟨_,⟨_,_,_,e,_⟩,_⟩:=x;exact Heap.lt_size e
 | rng lo hi=>obtain⟨_,_,_,e⟩:=x;exact Heap.lt_size e
 | frz ob u=>obtain⟨e,_⟩:=x;exact Heap.lt_size e
 | tbl ps=>exact Heap.lt_size (show h.get? a=some _ from x)
 | met f y=>exact Heap.lt_size (show h.get? a=some _ from x)
 | ext φ=>obtain⟨_,⟨_,e⟩,_⟩:=x;exact Heap.lt_size e
theorem Paired.mapP {α β:Type}{F G:α->β->Prop}:∀ {l₁:List α}{l₂:List β},Paired F l₁ l₂->(∀ a b,F a b->G a b)->Paired G l₁ l₂
 | _,_,.nil,_=>.nil
 | _,_,.cons r t,f=>.cons (f _ _ r) (Paired.mapP t f)
theorem f7.stay (x:f7 P w H h a o)(k:∀ b u,(b=a\/H b=some (.own a))->h.get? b=some u->h'.get? b=some u)
  (ho:∀ b,H b=some (.own a)->H' b=some (.own a)) (ht:∀ b xs,H b=some (.tup xs)->H' b=some (.tup xs)):f7 P w H' h' a o:=by
 induction o with
 | lst xs=>obtain⟨z,its,n,r,e⟩:=x;exact⟨z,its,n,r,k _ _ (.inl rfl) e⟩
 | tup xs=>obtain⟨z,its,r,ob,e,c⟩:=x;exact⟨z,its,r,ob,k _ _ (.inl rfl) e,c⟩
 | dK kvs=>obtain⟨z,y,vs,r,ob,es,ep,e,c⟩:=x;exact⟨z,y,vs,r,ob,es,ep,k _ _ (.inl rfl) e,c⟩
 | dT kvs=>
  obtain⟨z,y,xs,r,ob,es,ep,e,c⟩:=x;exact⟨z,y,xs,Paired.mapP r fun p q z=>⟨z.1,ht _ _ z.2.1,z.2.2⟩,ob,es,ep,k _ _ (.inl rfl) e,c⟩
 | set S n=>obtain⟨ob,es,ep,t,e,c⟩:=x;exact⟨ob,es,ep,t,k _ _ (.inl rfl) e,c⟩
 | ins C dx fs=>
  obtain⟨d,z,ne,e,mA,⟨od,es,ep,e2,c⟩,r⟩:=x;exact⟨ho _ d,z,ne,k _ _ (.inl rfl) e,mA,⟨od,es,ep,k _ _ (.inr d) e2,c⟩,r⟩
 | own y=>obtain⟨ob,e⟩:=x;exact⟨ob,k _ _ (.inl rfl) e⟩
 | xd fs=>obtain⟨mA,⟨od,es,ep,e,c⟩,r⟩:=x;exact⟨mA,⟨od,es,ep,k _ _ (.inl rfl) e,c⟩,r⟩
 | rng lo hi=>obtain⟨t,u,v,e⟩:=x;exact⟨t,u,v,k _ _ (.inl rfl) e⟩
 | frz ob u ih=>obtain⟨e,q⟩:=x;exact⟨k _ _ (.inl rfl) e,ih q⟩
 | tbl ps=>
  have e:h.get? a=some {cls:=.none,data:=.fields ps}:=x;show h'.get? a=some {cls:=.none,data:=.fields ps};exact k a _ (.inl rfl) e
 | met f y=>
  have e:h.get? a=some (PySem.W.methodObj (.ref f) (.ref y)):=x;show h'.get? a=some (PySem.W.methodObj (.ref f) (.ref y));exact k a _ (.inl rfl) e
 | ext φ=>obtain⟨p,⟨o,e⟩,st⟩:=x;exact⟨st _ _ p fun o q=>k _ _ (.inl rfl) q,⟨o,k _ _ (.inl rfl) e⟩,st⟩
theorem ig.lt (x:ig P w H h)(e:H a=some o):a<h.objs.size:=(x a o e).lt
theorem ig.fresh (x:ig P w H h)(e:h.objs.size<=a):H a=none:=by
 cases q:H a with
 | none=>rfl
 | some u=>exact absurd (lt_of_lt_of_le (x.lt q) e) (lt_irrefl _)
theorem ig.kept (x:ig P w H h)(k:∀ b u,h.get? b=some u->h'.get? b=some u):ig P w H h':=fun a o e=>
 (x a o e).stay (fun b u _ q=>k b u q) (fun _ q=>q) fun _ _ q=>q
theorem ig.laid (x:ig P w H h)(k:∀ b u,h.get? b=some u->h'.get? b=some u)(hp:h.objs.size<=a)(new:f7 P w (cO H a o) h' a o):ig P w (cO H a o) h':=fun b u e=>by
 have hn:=x.fresh hp
 by_cases hb:b=a
 ·subst hb;rw[aZ]at e;cases e;exact new
 ·rw[aW hb]at e;exact(x b u e).stay (fun c v _ q=>k c v q) (fun c q=>by rw[aW (bf q hn)];exact q) fun c xs q=>by rw[aW (bf q hn)];exact q
end
def Rd (H:Hp)(a:Addr)(u:HO):Prop:=H a=some u\/∃ o,H a=some (.frz o u)
theorem Rd.of {H:Hp}{a:Addr}{u:HO}(h:H a=some u):Rd H a u:=.inl h
theorem Rd.ok {P:Program}{w:World}{H:Hp}{h:Heap}{a:Addr}{u:HO}(r:Rd H a u)(x:ig P w H h):f7 P w H h a u:=by
 rcases r with r|⟨o,r⟩
 ·exact x a u r
 ·obtain⟨_,q⟩:=x a _ r;exact q
def QR:Option HO->Prop
 | some (.lst _)=>True
 | some (.dK _)=>True
 | some (.dT _)=>True
 | some (.set _ _)=>True
 | some (.ins _ _ _)=>True
 | some (.ext _)=>True
 | _=>False
section
variable {P:Program}{w:World}{H:Hp}{h h':Heap}{x e:Addr}{o':HO}
theorem ig.write (ok:ig P w H h)(mu:QR (H x))(he:e=x\/H e=some (.own x))(k:∀ b u,b≠e->h.get? b=some u->h'.get? b=some u)(heo:∃ u,h'.get? e=some u)
  (new:f7 P w (cO H x o') h' x o'):ig P w (cO H x o') h':=fun b u q=>by
 have nown:∀ c y,H c=some (.own y)->c≠x:=fun c y r z=>by subst z;rw[r]at mu;exact mu
 have ntup:∀ c xs,H c=some (.tup xs)->c≠x:=fun c xs r z=>by subst z;rw[r]at mu;exact mu
 by_cases hb:b=x
 ·subst hb;rw[aZ]at q;cases q;exact new
 ·rw[aW hb]at q
  by_cases hbe:b=e
  ·have q':H b=some (.own x):=by
    rcases he with z|z
    ·exact absurd (hbe.trans z) hb
    ·rw[hbe];exact z
   rw[q]at q';cases q'
   obtain⟨v,hv⟩:=heo;exact⟨v,by rw[hbe];exact hv⟩
  ·refine(ok b u q).stay (fun c v hc r=>k c v ?_ r) (fun c r=>by rw[aW (nown c b r)];exact r) fun c xs r=>by rw[aW (ntup c xs r)];exact r
   rcases hc with rfl|hc
   ·exact hbe
   ·rintro rfl
    rcases he with z|z
    ·exact nown c b hc z
    ·rw[hc]at z;cases z;exact hb rfl
end
structure Un (fs ex:List Addr) (H H':Hp) (h h':Heap):Prop where
 keep:∀ b o,h.get? b=some o->H b=none->b∉fs->b∉ex->h'.get? b=some o
 slot:∀ b o,h.get? b=some o->H b=none->b∈fs->b∉ex->∃ sl,h'.get? b=some {o with slots:=sl}
 free:∀ b o,h.get? b=some o->H b=none->b∉ex->H' b=none
 there:∀ b o,h.get? b=some o->b∉ex->∃ o',h'.get? b=some o'
 tups:∀ b xs,H b=some (.tup xs)->H' b=some (.tup xs)
 frzs:∀ b o u,H b=some (.frz o u)->H' b=some (.frz o u)
 tbls:∀ b ps,H b=some (.tbl ps)->∃ more,H' b=some (.tbl (ps++more))
section
variable {fs fs' ex ex':List Addr}{H H1 H2:Hp}{h h1 h2 h':Heap}{a x e:Addr}{o:HO}
theorem Un.any (u:Un fs ex H H1 h h1){b:Addr}{ob:Obj}(q:h.get? b=some ob)(n:H b=none)(hx:b∉ex):∃ sl,h1.get? b=some {ob with slots:=sl}:=by
 by_cases hb:b∈fs
 ·exact u.slot b ob q n hb hx
 ·exact⟨ob.slots,u.keep b ob q n hb hx⟩
theorem Un.trans (a:Un fs ex H H1 h h1)(b:Un fs ex H1 H2 h1 h2):Un fs ex H H2 h h2 where
 keep:=fun c ob q n hc hx=>b.keep c ob (a.keep c ob q n hc hx) (a.free c ob q n hx) hc hx
 slot:=fun c ob q n hc hx=>by
  obtain⟨sl,e1⟩:=a.slot c ob q n hc hx;obtain⟨sl',e2⟩:=b.slot c _ e1 (a.free c ob q n hx) hc hx;exact⟨sl',e2⟩
 free:=fun c ob q n hx=>by
  obtain⟨o',e1⟩:=a.there c ob q hx;exact b.free c o' e1 (a.free c ob q n hx) hx
 there:=fun c ob q hx=>by
  obtain⟨o',e1⟩:=a.there c ob q hx;exact b.there c o' e1 hx
 tups:=fun c xs q=>b.tups c xs (a.tups c xs q)
 frzs:=fun c ob xs q=>b.frzs c ob xs (a.frzs c ob xs q)
 tbls:=fun c ps q=>by
  obtain⟨m1,e1⟩:=a.tbls c ps q;obtain⟨m2,e2⟩:=b.tbls c _ e1;exact⟨m1++m2,by rw[e2,Array.append_assoc]⟩
theorem Un.kept (k:∀ b u,h.get? b=some u->h'.get? b=some u):Un fs ex H H h h':=
 ⟨fun b ob q _ _ _=>k b ob q,fun b ob q _ _ _=>⟨ob.slots,k b ob q⟩,fun _ _ _ n _=>n,fun b ob q _=>⟨ob,k b ob q⟩,fun _ _ q=>q,fun _ _ _ q=>q,fun _ ps q=>⟨#[],by rw[q];simp⟩⟩
theorem Un.refl:Un fs ex H H h h:=Un.kept fun _ _ q=>q
theorem Un.laid (k:∀ b u,h.get? b=some u->h'.get? b=some u)(hp:h.objs.size<=a)(hn:H a=none):Un fs ex H (cO H a o) h h' where
 keep:=fun b u q _ _ _=>k b u q
 slot:=fun b u q _ _ _=>⟨u.slots,k b u q⟩
 free:=fun b u q n _=>by rw[aW (ne_of_lt (lt_of_lt_of_le (Heap.lt_size q) hp))];exact n
 there:=fun b u q _=>⟨u,k b u q⟩
 tups:=fun b xs q=>by rw[aW (bf q hn)];exact q
 frzs:=fun b u xs q=>by rw[aW (bf q hn)];exact q
 tbls:=fun b ps q=>⟨#[],by rw[aW (bf q hn),q];simp⟩
theorem Un.write (mu:QR (H x))(he:e=x\/H e=some (.own x))(k:∀ b u,b≠e->h.get? b=some u->h'.get? b=some u)(heo:∃ u,h'.get? e=some u):Un fs ex H (cO H x o) h h':=by
 have hx:∀ b,H b=none->b≠x:=fun b n z=>by subst z;rw[n]at mu;exact mu
 have hb:∀ b,H b=none->b≠e:=fun b n z=>by
  subst z
  rcases he with r|r
  ·exact hx b n r
  ·rw[n]at r;cases r
 have hm:∀ b u,H b=some u->¬ QR (some u)->b≠x:=fun b u q nm z=>by subst z;rw[q]at mu;exact nm mu
 refine⟨fun b u q n _ _=>k b u (hb b n) q,fun b u q n _ _=>⟨u.slots,k b u (hb b n) q⟩,fun b u q n _=>by rw[aW (hx b n)];exact n,fun b u q _=>?_,
  fun b xs q=>by rw[aW (hm b _ q fun z=>z)];exact q,fun b u xs q=>by rw[aW (hm b _ q fun z=>z)];exact q,fun b ps q=>⟨#[],by rw[aW (hm b _ q fun z=>z),q];simp⟩⟩
 by_cases hbe:b=e
 ·subst hbe;exact heo
 ·exact⟨u,k b u hbe q⟩
theorem Un.mono (u:Un fs ex H H1 h h1)(hs:∀ b∈fs,b∈fs')(hx:∀ b∈ex,b∈ex'):Un fs' ex' H H1 h h1:=
 ⟨fun b ob q n hb he=>u.keep b ob q n (fun z=>hb (hs b z)) fun z=>he (hx b z),fun _ _ q n _ he=>u.any q n fun z=>he (hx _ z),fun b ob q n he=>u.free b ob q n fun z=>he (hx b z),fun b ob q he=>u.there b ob q fun z=>he (hx b z),u.tups,u.frzs,u.tbls⟩
end
def QY (h:Heap)(H:Hp):List Addr:=(List.range h.objs.size).filter fun a=>(H a).isSome
def qZ (h:Heap)(H:Hp):Heap:=PySem.W.hideAll h (QY h H)
theorem Bl (h:Heap)(H:Hp):(qZ h H).objs.size=h.objs.size:=PySem.W.hideAll_size _ _
theorem Ek {h:Heap}{H:Hp}{b:Addr}{o:Obj}(e:h.get? b=some o)(n:H b=none):(qZ h H).get? b=some o:=
 PySem.W.hideAll_get _ e fun hm=>by
  have q:(H b).isSome=true:=(mem_filter.mp hm).2;rw[n]at q;simp at q
theorem Jg {h:Heap}{H:Hp}{b:Addr}{o:Obj}(e:(qZ h H).get? b=some o):h.get? b=some o/\H b=none:=by
 have e':h.get? b=some o:=PySem.W.of_hideAll (QY h H) e;refine⟨e',?_⟩
 cases q:H b with
 | none=>rfl
 | some x=>
  have hm:b∈QY h H:=mem_filter.mpr ⟨mem_range.mpr (Heap.lt_size e'),by simp[q]⟩
  have z:(qZ h H).get? b=none:=PySem.W.hideAll_none (QY h H) hm;rw[z]at e;cases e
def HJ (g h:Heap)(L:Addr):List (Addr × Obj):=(List.range h.objs.size).filterMap fun a=>if a=L\/(g.get? a).isSome=true then none else (h.get? a).map fun o=>(a,o)
def rest (g h:Heap)(L d:Addr):List (Addr × Obj):=(HJ g h L).filter fun p=>decide (p.1≠d)
end L2
namespace L2
open PySem PySem.Spec PyProof.Rows
structure Mod (K:Frg) (mg:Str->Option Value) (base:Heap):Prop where
 kin:K.In base
 glob:base.Ns mainGlobals mg
 blt:∃ mb,base.Ns builtinsNs mb/\∀ x:Str,x≠"__name__"->mb x=bootBuiltins x
 nolimit:base.NoLimit
structure Cx where
 prog:Program
 w:World
 K:Frg
 mg:Str->Option Value
 base:Heap
 A:Around
 N:List Str
 s₀:Shared
 H₀:Hp
 env:Env
 outer:List Env
 stack:List Env
 ex:List Addr
 fn:Str->Bool
 calm:Bool
 pn:List (Addr × Obj)
 xe:Value->Shared->Prop
def Bk (l:List Env):List Addr:=l.filterMap (·.frame)
abbrev Cx.fs (X:Cx):List Addr:=Bk X.outer
def QT (sc:Scope)(x:Str):Prop:=sc.names.lookup x=some .local\/sc.names.lookup x=some .cell\/sc.names.lookup x=some .free
def Loc (sc:Scope)(x:Str):Prop:=sc.names.lookup x=some .local\/sc.names.lookup x=some .cell
def Look (env:Env)(h:Heap)(m:Str->Option Value)(x:Str)(u:Value):Prop:=
 (env.kindOf x=some .local/\m x=some u)\/((env.kindOf x=some .cell\/env.kindOf x=some .free)/\∃ c,env.cells.lookup x=some c/\h.IsCell c (some u))
structure Cx.Ok (X:Cx):Prop where
 mod:Mod X.K X.mg X.base
 kind:X.env.scope.kind=.function
 glob:X.env.globals=mainGlobals
 blt:X.env.builtins=builtinsNs
 above:X.s₀.heap.objs.size<=X.env.locals
 inj:∀ x y c,X.env.cells.lookup x=some c->X.env.cells.lookup y=some c->x=y
 has:∀ x,(X.env.kindOf x=some .cell\/X.env.kindOf x=some .free)->∃ c,X.env.cells.lookup x=some c
 cab:∀ x c,X.fn x=true->X.env.cells.lookup x=some c->X.s₀.heap.objs.size<=c
 hd:X.calm=true->X.A.handled=none
 frames:X.A.frames=some X.stack
 stk:X.stack=X.outer\/(X.stack=X.env::X.outer/\X.env.frame=some X.env.locals)
 exf:∀ b∈X.ex,b≠X.env.locals/\∀ x c,X.env.cells.lookup x=some c->c≠b
 bs:∀ b o,X.base.get? b=some o->X.s₀.heap.get? b=some o/\X.H₀ b=none
 bsz:X.base.objs.size<=X.s₀.heap.objs.size
 noex:∀ b o,X.base.get? b=some o->b∉X.ex
 exfs:∀ b∈X.ex,b∉X.fs
 funs:X.s₀.heap.FunFrames X.base X.outer
 frf:∀ b∈X.fs,X.H₀ b=none
structure aF (X:Cx) (pins:List (Addr × Obj)) (σ:List (Option V)) (H:Hp) (s:Shared):Prop where
 ok:X.Ok
 os:s.os=X.s₀.os
 bare:AllBare s.gens
 base:Un X.fs X.ex X.H₀ H X.s₀.heap s.heap
 loc:∃ m,s.heap.Ns X.env.locals m/\∀ (i:Nat) (x:Str) (v:V),X.N[i]?=some x->σ[i]?=some (some v)->QT X.env.scope x->∃ u,RelV v u/\Look X.env s.heap m x u
 cell:∀ x c,X.env.cells.lookup x=some c->∃ v,s.heap.IsCell c v
 free:H X.env.locals=none
 freeC:∀ x c,X.env.cells.lookup x=some c->H c=none
 pin:∀ p∈X.pn++pins,s.heap.get? p.1=some p.2/\H p.1=none/\p.1≠X.env.locals/\p.1∉X.fs/\∀ v,p.2.data≠.cell v
 hok:ig X.prog X.w H s.heap
 len:σ.length=X.N.length
section
variable {X:Cx}{pins:List (Addr × Obj)}{σ:List (Option V)}{H H':Hp}{s:Shared}{h':Heap}
theorem Cx.Ok.nofr (ok:X.Ok){b:Addr}{o:Obj}(e:X.base.get? b=some o):b∉X.fs:=fun hb=>by
 have:=(ok.funs.mem hb).1;rw[e]at this;cases this
theorem aF.bs (I:aF X pins σ H s):∀ b o,X.base.get? b=some o->s.heap.get? b=some o/\H b=none:=fun b o e=>
 ⟨I.base.keep b o (I.ok.bs b o e).1 (I.ok.bs b o e).2 (I.ok.nofr e) (I.ok.noex b o e),I.base.free b o (I.ok.bs b o e).1 (I.ok.bs b o e).2 (I.ok.noex b o e)⟩
theorem aF.bk (I:aF X pins σ H s):∀ b o,X.base.get? b=some o->s.heap.get? b=some o:=fun b o e=>(I.bs b o e).1
theorem aF.mod (I:aF X pins σ H s):Mod X.K X.mg X.base:=I.ok.mod
theorem aF.kIn (I:aF X pins σ H s):X.K.In s.heap:=I.ok.mod.kin.keeps I.bk
theorem aF.nolimit (I:aF X pins σ H s):s.heap.NoLimit:=I.ok.mod.nolimit.keeps I.bk
theorem aF.fr (I:aF X pins σ H s):∃ m,Fr X.base X.env.locals s.heap m:=
 let ⟨m,hn,_⟩:=I.loc
 ⟨m,hn,I.bk,le_trans I.ok.bsz I.ok.above⟩
theorem aF.lt (I:aF X pins σ H s):X.env.locals<s.heap.objs.size:=let ⟨_,hn,_⟩:=I.loc;hn.lt
theorem aF.sz (I:aF X pins σ H s):X.s₀.heap.objs.size<=s.heap.objs.size:=le_trans I.ok.above (Nat.le_of_lt I.lt)
theorem aF.nofs (I:aF X pins σ H s){a:Addr}(h:s.heap.objs.size<=a):a∉X.fs:=fun hb=>by
 obtain⟨_,o,ho,_⟩:=I.ok.funs.mem hb;exact absurd (lt_of_lt_of_le (Heap.lt_size ho) (le_trans I.sz h)) (lt_irrefl _)
theorem aF.cne (I:aF X pins σ H s):∀ x c,X.env.cells.lookup x=some c->c≠X.env.locals:=fun x c e z=>by
 obtain⟨v,o,ho,hd⟩:=I.cell x c e;obtain⟨m,⟨o',es,ep,ho',hd',_⟩,_⟩:=I.loc;rw[z,ho']at ho;cases ho;rw[hd']at hd;cases hd
theorem aF.funs (I:aF X pins σ H s):s.heap.FunFrames X.base X.outer:=by
 have all:∀ (l:List Env),(∀ b∈Bk l,b∈X.fs)->X.s₀.heap.FunFrames X.base l->s.heap.FunFrames X.base l:=by
  intro l
  induction l with
  | nil=>intro _ _;trivial
  | cons env r ih=>
   intro hs hl;obtain⟨hk,⟨L,o,hf,hn,ho,hd⟩,hr⟩:=hl;have hL:L∈X.fs:=hs L (by unfold Bk;rw[filterMap_cons,hf];exact mem_cons_self)
   obtain⟨sl,e⟩:=I.base.slot L o ho (I.ok.frf L hL) hL fun z=>I.ok.exfs L z hL;exact⟨hk,⟨L,_,hf,hn,e,hd⟩,ih (fun b hb=>hs b (by unfold Bk;rw[filterMap_cons,hf];exact mem_cons_of_mem _ hb)) hr⟩
 exact all X.outer (fun _ hb=>hb) I.ok.funs
theorem aF.stack (I:aF X pins σ H s):s.heap.FunFrames X.base X.stack:=by
 rcases I.ok.stk with e|⟨e,hf⟩
 ·rw[e];exact I.funs
 ·rw[e];obtain⟨m,hn,_⟩:=I.loc;refine .cons (by rw[I.ok.kind];decide) hf hn ?_ I.funs
  exact Heap.get?_none_of_le (le_trans I.ok.bsz I.ok.above)
theorem aF.stkSub (I:aF X pins σ H s):∀ b∈Bk X.stack,b∈X.env.locals::X.fs:=fun b hb=>by
 rcases I.ok.stk with e|⟨e,hf⟩
 ·rw[e]at hb;exact mem_cons_of_mem _ hb
 ·rw[e]at hb;unfold Bk at hb;rw[filterMap_cons,hf]at hb;exact hb
theorem aF.stkFree (I:aF X pins σ H s):∀ b∈Bk X.stack,H b=none:=fun b hb=>by
 rcases mem_cons.mp (I.stkSub b hb) with e|hb
 ·rw[e];exact I.free
 ·obtain⟨_,o,ho,_⟩:=I.ok.funs.mem hb;exact I.base.free b o ho (I.ok.frf b hb) fun z=>I.ok.exfs b z hb
theorem aF.step {g':Array GenState}{t':Nat}{d':Drawn}{ch:List Addr}(I:aF X pins σ H s)
  (hch:∀ b∈ch,(b∈X.ex\/X.s₀.heap.objs.size<=b)/\b≠X.env.locals/\(∀ x c,X.env.cells.lookup x=some c->c≠b)/\∀ p∈X.pn++pins,p.1≠b)
  (keep:∀ b o,b≠X.env.locals->b∉X.fs->b∉ch->s.heap.get? b=some o->H b=none->h'.get? b=some o)
  (slot:∀ b o,b≠X.env.locals->b∈X.fs->b∉ch->s.heap.get? b=some o->H b=none->∃ sl,h'.get? b=some {o with slots:=sl}) (free:∀ b o,b∉ch->s.heap.get? b=some o->H b=none->H' b=none)
  (there:∀ b o,b∉ch->s.heap.get? b=some o->∃ o',h'.get? b=some o')
  (tups:∀ b xs,H b=some (.tup xs)->H' b=some (.tup xs)) (frzs:∀ b o u,H b=some (.frz o u)->H' b=some (.frz o u)) (tbls:∀ b ps,H b=some (.tbl ps)->∃ more,H' b=some (.tbl (ps++more)))
  (ns:∀ m,s.heap.Ns X.env.locals m->h'.Ns X.env.locals m) (hok:ig X.prog X.w H' h') (hg:AllBare g') :
  aF X pins σ H' {s with heap:=h',gens:=g',drawn:=d',toks:=t'}:=by
 have neL:∀ b o,X.s₀.heap.get? b=some o->b≠X.env.locals:=fun b o e=>ne_of_lt (lt_of_lt_of_le (Heap.lt_size e) I.ok.above);have neC:∀ b o,X.s₀.heap.get? b=some o->b∉X.ex->b∉ch:=fun b o e hx hb=>by
  rcases(hch b hb).1 with z|z
  ·exact hx z
  ·exact absurd (lt_of_lt_of_le (Heap.lt_size e) z) (lt_irrefl _)
 have cellK:∀ x c,X.env.cells.lookup x=some c->∀ v,s.heap.IsCell c v->h'.IsCell c v:=fun x c e v ⟨o,ho,hd⟩=>by
  have nch:c∉ch:=fun z=>(hch c z).2.2.1 x c e rfl
  by_cases hc:c∈X.fs
  ·obtain⟨sl,q⟩:=slot c o (I.cne x c e) hc nch ho (I.freeC x c e);exact⟨_,q,hd⟩
  ·exact⟨o,keep c o (I.cne x c e) hc nch ho (I.freeC x c e),hd⟩
 refine⟨I.ok,I.os,hg,⟨fun b o e n hb hx=>?_,fun b o e n hb hx=>?_,fun b o e n hx=>?_,fun b o e hx=>?_,fun b xs e=>tups b xs (I.base.tups b xs e),fun b o xs e=>frzs b o xs (I.base.frzs b o xs e),fun b ps e=>?_⟩,?_,fun x c e=>?_,?_,fun x c e=>?_,fun p hp=>?_,hok,I.len⟩
 ·exact keep b o (neL b o e) hb (neC b o e hx) (I.base.keep b o e n hb hx) (I.base.free b o e n hx)
 ·obtain⟨sl,e1⟩:=I.base.slot b o e n hb hx;obtain⟨sl',e2⟩:=slot b _ (neL b o e) hb (neC b o e hx) e1 (I.base.free b o e n hx);exact⟨sl',e2⟩
 ·obtain⟨o',e1⟩:=I.base.there b o e hx;exact free b o' (neC b o e hx) e1 (I.base.free b o e n hx)
 ·obtain⟨o',e1⟩:=I.base.there b o e hx;exact there b o' (neC b o e hx) e1
 ·obtain⟨m1,e1⟩:=I.base.tbls b ps e;obtain⟨m2,e2⟩:=tbls b _ e1;exact⟨m1++m2,by rw[e2,Array.append_assoc]⟩
 ·obtain⟨m,hn,hl⟩:=I.loc;refine⟨m,ns m hn,fun i x v e1 e2 e3=>?_⟩;obtain⟨u,r,l⟩:=hl i x v e1 e2 e3;refine⟨u,r,?_⟩
  rcases l with l|⟨k,c,e,z⟩
  ·exact .inl l
  ·exact .inr ⟨k,c,e,cellK x c e _ z⟩
 ·obtain⟨v,z⟩:=I.cell x c e;exact⟨v,cellK x c e v z⟩
 ·obtain⟨m,⟨o,_,_,ho,_⟩,_⟩:=I.loc;exact free _ o (fun z=>(hch _ z).2.1 rfl) ho I.free
 ·obtain⟨v,o,ho,hd⟩:=I.cell x c e;exact free c o (fun z=>(hch c z).2.2.1 x c e rfl) ho (I.freeC x c e)
 ·obtain⟨e,n,ne,nf,d⟩:=I.pin p hp;have nch:p.1∉ch:=fun z=>(hch p.1 z).2.2.2 p hp rfl;exact⟨keep p.1 p.2 ne nf nch e n,free p.1 p.2 nch e n,ne,nf,d⟩
theorem aF.un {t':Nat}(I:aF X pins σ H s)(u:Un X.fs [] H H' s.heap h')(hok:ig X.prog X.w H' h'):aF X pins σ H' {s with heap:=h',toks:=t'}:=by
 obtain⟨m,⟨o,es,ep,ho,r⟩,_⟩:=id I.loc;obtain⟨sl,hL⟩:=u.any ho I.free (by simp)
 exact I.step (g':=s.gens) (d':=s.drawn) (ch:=[]) (fun _ z=>nomatch z) (fun b o _ hb _ e n=>u.keep b o e n hb (by simp)) (fun b o _ hb _ e n=>u.slot b o e n hb (by simp)) (fun b o _ e n=>u.free b o e n (by simp)) (fun b o _ e=>u.there b o e (by simp)) u.tups u.frzs u.tbls (fun m' hm=>by
  obtain⟨o',es',ep',ho',r'⟩:=hm;rw[ho]at ho';cases ho'
  exact⟨_,es',ep',hL,r'⟩) hok I.bare
theorem aF.call {g':Array GenState}{t':Nat}{d':Drawn}{ch:List Addr}(I:aF X pins σ H s)(u:Un (Bk X.stack) ch H H' s.heap h')(hok:ig X.prog X.w H' h')(hg:AllBare g')
  (hch:∀ b∈ch,(b∈X.ex\/X.s₀.heap.objs.size<=b)/\b≠X.env.locals/\(∀ x c,X.env.cells.lookup x=some c->c≠b)/\∀ p∈X.pn++pins,p.1≠b) :
  aF X pins σ H' {s with heap:=h',gens:=g',drawn:=d',toks:=t'}:=by
 obtain⟨m,⟨o,es,ep,ho,r⟩,_⟩:=id I.loc;obtain⟨sl,hL⟩:=u.any ho I.free fun z=>(hch _ z).2.1 rfl;exact I.step (ch:=ch) hch (fun b o hL hb hc e n=>u.keep b o e n (fun z=>(mem_cons.mp (I.stkSub b z)).elim hL hb) hc) (fun b o _ _ hc e n=>u.any e n hc) (fun b o hc e n=>u.free b o e n hc) (fun b o hc e=>u.there b o e hc) u.tups u.frzs u.tbls (fun m' hm=>by
  obtain⟨o',es',ep',ho',r'⟩:=hm;rw[ho]at ho';cases ho'
  exact⟨_,es',ep',hL,r'⟩) hok hg
theorem aF.turned {t':Nat}{it:Addr}(I:aF X pins σ H s)(k:∀ b o,b≠it->s.heap.get? b=some o->h'.get? b=some o)(hn:H it=none)(hL:it≠X.env.locals)
  (h1:it∈X.ex\/X.s₀.heap.objs.size<=it) (h2:∀ x c,X.env.cells.lookup x=some c->c≠it) (h3:∀ p∈X.pn++pins,p.1≠it):aF X pins σ H {s with heap:=h',toks:=t'}:=by
 have nit:∀ b u,H b=some u->b≠it:=fun b u e z=>by rw[z,hn]at e;cases e
 refine I.step (g':=s.gens) (d':=s.drawn) (ch:=[it]) (fun b hb=>?_) (fun b o _ _ hc e _=>k b o (fun z=>hc (by simp[z])) e) (fun b o _ _ hc e _=>⟨o.slots,k b o (fun z=>hc (by simp[z])) e⟩) (fun _ _ _ _ n=>n)
  (fun b o hc e=>⟨o,k b o (fun z=>hc (by simp[z])) e⟩) (fun _ _ e=>e) (fun _ _ _ e=>e) (fun b ps e=>⟨#[],by rw[e];simp⟩) (fun m hm=>?_) (fun b u e=>?_) I.bare
 ·have e:b=it:=by simpa using hb
  subst e;exact⟨h1,hL,h2,h3⟩
 ·obtain⟨o,es,ep,ho,r⟩:=hm;exact⟨o,es,ep,k _ o (Ne.symm hL) ho,r⟩
 ·refine(I.hok b u e).stay (fun c v hc q=>k c v ?_ q) (fun _ q=>q) fun _ _ q=>q
  rcases hc with z|z
  ·rw[z];exact nit b u e
  ·exact nit c _ z
theorem aF.tok (I:aF X pins σ H s)(t:Nat):aF X pins σ H {s with toks:=t}:=I.un (h':=s.heap) (t':=t) Un.refl I.hok
theorem aF.kept {t':Nat}(I:aF X pins σ H s)(k:∀ b u,s.heap.get? b=some u->h'.get? b=some u):aF X pins σ H {s with heap:=h',toks:=t'}:=I.un (Un.kept k) (I.hok.kept k)
theorem aF.laid {a:Addr}{o:HO}{t':Nat}(I:aF X pins σ H s)(k:∀ b u,s.heap.get? b=some u->h'.get? b=some u)(hp:s.heap.objs.size<=a)(new:f7 X.prog X.w (cO H a o) h' a o) :
  aF X pins σ (cO H a o) {s with heap:=h',toks:=t'}:=I.un (Un.laid k hp (I.hok.fresh hp)) (I.hok.laid k hp new)
theorem aF.write {x e:Addr}{o:HO}{t':Nat}(I:aF X pins σ H s)(mu:QR (H x))(he:e=x\/H e=some (.own x))(k:∀ b u,b≠e->s.heap.get? b=some u->h'.get? b=some u)(heo:∃ u,h'.get? e=some u)
  (new:f7 X.prog X.w (cO H x o) h' x o):aF X pins σ (cO H x o) {s with heap:=h',toks:=t'}:=I.un (Un.write mu he k heo) (I.hok.write mu he k heo new)
theorem aF.pins_of {pins':List (Addr × Obj)}(I:aF X pins σ H s)(h:∀ p∈pins',s.heap.get? p.1=some p.2/\H p.1=none/\p.1≠X.env.locals/\p.1∉X.fs/\∀ v,p.2.data≠.cell v):aF X pins' σ H s:=
 ⟨I.ok,I.os,I.bare,I.base,I.loc,I.cell,I.free,I.freeC,fun p hp=>(mem_append.mp hp).elim (fun z=>I.pin p (mem_append_left _ z)) (h p),I.hok,I.len⟩
theorem wA {N:List Str}(hN:N.Nodup){i j:Nat}{x:Str}(a:N[i]?=some x)(b:N[j]?=some x):i=j:=by
 obtain⟨h1,e1⟩:=List.getElem?_eq_some_iff.mp a;obtain⟨h2,e2⟩:=List.getElem?_eq_some_iff.mp b;exact(List.getElem_inj hN).mp (e1.trans e2.symm)
theorem sW {M:Model}{A:Around}{E:Value->Shared->Prop}{i:Nat}{x:Str}{v:V}{u:Value}{Q:Unit->Shared->Prop}(I:aF X pins σ H s)(hN:X.N.Nodup)(hi:X.N[i]?=some x)(hx:Loc X.env.scope x)(r:RelV v u)
  (h:∀ s',aF X pins (σ.set i (some v)) H s'->(∃ a,Heap.SameBut a s.heap s'.heap/\(a=X.env.locals\/X.env.cells.lookup x=some a))->Q () s') (hf:X.fn x=true\/X.env.scope.names.lookup x=some .local:=by first|exact .inl rfl|exact .inr rfl|assumption):wpAny M A (storeName X.env x u) Q E s:=by
 obtain⟨m,hn,hl⟩:=id I.loc;have hcls:(X.env.scope.kind == .class || (X.env.scope.kind == .module && X.env.locals != X.env.globals))=false:=by rw[I.ok.kind];rfl
 have hiσ:i<σ.length:=by rw[I.len];exact(List.getElem?_eq_some_iff.mp hi).1
 have cne:=I.cne;have tracked:∀ {a:Addr}{h':Heap},(∃ o,s.heap.get? a=some o/\H a=none)->Heap.SameBut a s.heap h'->ig X.prog X.w H h':=fun {a h'} ha hs b ob e=>by
  obtain⟨_,_,hfree⟩:=ha;refine(I.hok b ob e).stay (fun c w' hc q=>(hs.2 c ?_).trans q) (fun _ q=>q) fun _ _ q=>q;rintro rfl
  rcases hc with rfl|hc
  ·rw[hfree]at e;cases e
  ·rw[hfree]at hc;cases hc
 rcases hx with hk|hk
 ·refine wpAny_storeName_local hk hn (fun h' hn' hs=>?_) hcls;obtain⟨oL,_,_,hoL,_⟩:=id hn;refine h _ ⟨I.ok,I.os,I.bare,⟨fun b o e n hb hx=>?_,fun b o e n hb hx=>?_,I.base.free,fun b o e hx=>?_,I.base.tups,I.base.frzs,I.base.tbls⟩,⟨_,hn',fun j y v' e1 e2 e3=>?_⟩,fun y c e=>?_,I.free,I.freeC,fun p hp=>?_,tracked ⟨oL,hoL,I.free⟩ hs,by simpa using I.len⟩ ⟨_,hs,.inl rfl⟩
  ·exact(hs.2 b (ne_of_lt (lt_of_lt_of_le (Heap.lt_size e) I.ok.above))).trans (I.base.keep b o e n hb hx)
  ·obtain⟨sl,e1⟩:=I.base.slot b o e n hb hx;exact⟨sl,(hs.2 b (ne_of_lt (lt_of_lt_of_le (Heap.lt_size e) I.ok.above))).trans e1⟩
  ·obtain⟨o',e1⟩:=I.base.there b o e hx;exact⟨o',(hs.2 b (ne_of_lt (lt_of_lt_of_le (Heap.lt_size e) I.ok.above))).trans e1⟩
  ·by_cases hj:j=i
   ·subst hj;rw[hi]at e1;cases e1
    rw[getElem?_set_self hiσ]at e2
    cases e2
    exact⟨u,r,.inl ⟨hk,by simp⟩⟩
   ·rw[getElem?_set_ne (Ne.symm hj)]at e2;obtain⟨u',r',q⟩:=hl j y v' e1 e2 e3;refine⟨u',r',?_⟩
    rcases q with ⟨k,e⟩|⟨k,c,e,z⟩
    ·refine .inl ⟨k,?_⟩;have:y≠x:=fun e=>hj (wA hN e1 (e ▸ hi));simp[this,e]
    ·exact .inr ⟨k,c,e,z.sameBut hs (cne y c e)⟩
  ·obtain⟨w',z⟩:=I.cell y c e;exact⟨w',z.sameBut hs (cne y c e)⟩
  ·obtain⟨e,n,ne,nf,d⟩:=I.pin p hp;exact⟨(hs.2 p.1 ne).trans e,n,ne,nf,d⟩
 ·have hfn:X.fn x=true:=by
   rcases hf with z|z
   ·exact z
   ·rw[z]at hk;cases hk
  obtain⟨c,hc⟩:=I.ok.has x (.inl hk);obtain⟨w',z⟩:=I.cell x c hc;refine wpAny_storeName_cell I.ok.kind hk hc z (fun h' hc' hs=>?_);obtain⟨oc,hoc,hocd⟩:=id z;refine h {s with heap:=h'} ⟨I.ok,I.os,I.bare,⟨fun b o e n hb hx=>?_,fun b o e n hb hx=>?_,I.base.free,fun b o e hx=>?_,I.base.tups,I.base.frzs,I.base.tbls⟩,⟨m,hn.sameBut hs (Ne.symm (cne x c hc)),fun j y v' e1 e2 e3=>?_⟩,fun y c' e=>?_,I.free,I.freeC,fun p hp=>?_,tracked ⟨oc,hoc,I.freeC x c hc⟩ hs,by simpa using I.len⟩ ⟨c,hs,.inr hc⟩
  ·exact(hs.2 b (ne_of_lt (lt_of_lt_of_le (Heap.lt_size e) (I.ok.cab x c hfn hc)))).trans (I.base.keep b o e n hb hx)
  ·obtain⟨sl,e1⟩:=I.base.slot b o e n hb hx;exact⟨sl,(hs.2 b (ne_of_lt (lt_of_lt_of_le (Heap.lt_size e) (I.ok.cab x c hfn hc)))).trans e1⟩
  ·obtain⟨o',e1⟩:=I.base.there b o e hx;exact⟨o',(hs.2 b (ne_of_lt (lt_of_lt_of_le (Heap.lt_size e) (I.ok.cab x c hfn hc)))).trans e1⟩
  ·by_cases hj:j=i
   ·subst hj;rw[hi]at e1;cases e1
    rw[getElem?_set_self hiσ]at e2
    cases e2
    exact⟨u,r,.inr ⟨.inl hk,c,hc,hc'⟩⟩
   ·rw[getElem?_set_ne (Ne.symm hj)]at e2;obtain⟨u',r',q⟩:=hl j y v' e1 e2 e3;refine⟨u',r',?_⟩
    rcases q with q|⟨k,c',e,z'⟩
    ·exact .inl q
    ·refine .inr ⟨k,c',e,z'.sameBut hs ?_⟩;rintro rfl;exact hj (wA hN e1 (I.ok.inj _ _ _ e hc ▸ hi))
  ·by_cases hcc:c'=c
   ·subst hcc;exact⟨_,hc'⟩
   ·obtain⟨w2,z2⟩:=I.cell y c' e;exact⟨w2,z2.sameBut hs hcc⟩
  ·obtain⟨e,n,ne,nf,d⟩:=I.pin p hp;refine⟨(hs.2 p.1 ?_).trans e,n,ne,nf,d⟩;intro q;rw[q,hoc]at e;have q':oc=p.2:=Option.some.inj e;exact d w' (by rw[<-q'];exact hocd)
theorem mh {M:Model}{A:Around}{E:Value->Shared->Prop}{i:Nat}{x:Str}{v:V}{u:Value}{Q:Unit->Shared->Prop}(I:aF X pins σ H s)(hN:X.N.Nodup)(hi:X.N[i]?=some x)(hx:Loc X.env.scope x)(r:RelV v u)
  (h:∀ s',aF X pins (σ.set i (some v)) H s'->Q () s') (hf:X.fn x=true\/X.env.scope.names.lookup x=some .local:=by first|exact .inl rfl|exact .inr rfl|assumption):wpAny M A (storeName X.env x u) Q E s:=
 sW I hN hi hx r (fun s' I' _=>h s' I') hf
end
abbrev XK:=Value->Option Addr->Hp->Prop
abbrev St:=List (Option V)
abbrev VK:=V->Hp->Prop
abbrev TE:=St->Hp->VK->Prop
abbrev TT:=St->Hp->(Bool->Hp->Prop)->Prop
abbrev TA:=St->Hp->(List V->Hp->Prop)->Prop
structure Ends where
 nx:St->Hp->Prop
 rt:VK
 bk:St->Hp->Prop:=fun _ _=>False
 ct:St->Hp->Prop:=fun _ _=>False
abbrev TS:=Ends->St->Hp->Prop
def EP (X:Cx)(pins:List (Addr × Obj))(σ:St)(Q:VK)(u:Value)(s':Shared):Prop:=∃ v H',aF X pins σ H' s'/\RelV v u/\Q v H'
def TP (X:Cx)(pins:List (Addr × Obj))(σ:St)(Q:Bool->Hp->Prop)(b:Bool)(s':Shared):Prop:=∃ H',aF X pins σ H' s'/\Q b H'
def AP (X:Cx)(pins:List (Addr × Obj))(σ:St)(Q:List V->Hp->Prop)(us:List Value)(s':Shared):Prop:=∃ vs H',aF X pins σ H' s'/\aO vs us/\Q vs H'
def SP (X:Cx)(pins:List (Addr × Obj))(D:Ends)(f:Flow)(s':Shared):Prop:=
 match f with
 | .next=>∃ σ' H',aF X pins σ' H' s'/\D.nx σ' H'
 | .brk=>∃ σ' H',aF X pins σ' H' s'/\D.bk σ' H'
 | .cont=>∃ σ' H',aF X pins σ' H' s'/\D.ct σ' H'
 | .ret u=>∃ v σ' H',aF X pins σ' H' s'/\RelV v u/\D.rt v H'
def PE (X:Cx)(e:Expr)(t:TE):Prop:=
 ∀ (pins:List (Addr × Obj)) (s:Shared) (σ:St) (H:Hp) (Q:VK),aF X pins σ H s->t σ H Q->wpAny (model X.prog X.w) X.A (eval e X.env) (EP X pins σ Q) X.xe s
def PT (X:Cx)(e:Expr)(t:TT):Prop:=
 ∀ (pins:List (Addr × Obj)) (s:Shared) (σ:St) (H:Hp) (Q:Bool->Hp->Prop),aF X pins σ H s->t σ H Q->wpAny (model X.prog X.w) X.A (isTrue e X.env (eval e X.env)) (TP X pins σ Q) X.xe s
def PW (X:Cx)(e:Expr)(t:TT):Prop:=
 ∀ (whole:Sem Value) (pins:List (Addr × Obj)) (s:Shared) (σ:St) (H:Hp) (Q:Bool->Hp->Prop),aF X pins σ H s->t σ H Q->wpAny (model X.prog X.w) X.A (isTrue e X.env whole) (TP X pins σ Q) X.xe s
theorem PW.pt {X:Cx}{e:Expr}{t:TT}(h:PW X e t):PT X e t:=h _
def PA (X:Cx)(es:List Expr)(t:TA):Prop:=
 ∀ (pos:Pos) (pins:List (Addr × Obj)) (s:Shared) (σ:St) (H:Hp) (Q:List V->Hp->Prop),aF X pins σ H s->t σ H Q->wpAny (model X.prog X.w) X.A (spliced (backTo pos (starEach es X.env))) (AP X pins σ Q) X.xe s
def PS (X:Cx)(st:Stmt)(t:TS):Prop:=
 ∀ (pins:List (Addr × Obj)) (s:Shared) (σ:St) (H:Hp) (D:Ends),aF X pins σ H s->t D σ H->wpAny (model X.prog X.w) X.A (exec st X.env) (SP X pins D) X.xe s
def kA (X:Cx)(st:List Stmt)(t:TS):Prop:=
 ∀ (pins:List (Addr × Obj)) (s:Shared) (σ:St) (H:Hp) (D:Ends),aF X pins σ H s->t D σ H->wpAny (model X.prog X.w) X.A (execs st X.env) (SP X pins D) X.xe s
theorem cG {α:Type}{t:Sem α}{Q Q':α->Shared->Prop}{M:Model}{A:Around}{E:Value->Shared->Prop}{s:Shared}(h:wpAny M A t Q E s)(hQ:∀ a s,Q a s->Q' a s):wpAny M A t Q' E s:=wpAny_mono h hQ fun _ _ x=>x
end L2
namespace L2
open PySem PySem.Spec PyProof.Rows
section
variable {X:Cx}
def wU (i:Nat):TE:=fun σ H Q=>∃ v,σ[i]?=some (some v)/\Q v H
def tC (v:V):TE:=fun _ H Q=>Q v H
theorem Gj {i:Nat}{x:Str}{pos:Pos} (hN:X.N[i]?=some x) (hv:QT X.env.scope x) (hd:(x == ("__debug__":Str))=false:=by decide) (hcd:(x == ("__classdict__":Str))=false:=by decide):PE X (.Name x pos) (wU i):=by
 intro pins s σ H Q I h;obtain⟨v,e,h⟩:=h;obtain⟨m,hn,hl⟩:=I.loc;obtain⟨u,r,l⟩:=hl i x v hN e hv;have fin:EP X pins σ Q u s:=⟨v,H,I,r,h⟩
 rcases l with ⟨hk,hm⟩|⟨hk,c,hc,hcell⟩
 ·exact wpAny_Name (wpAny_loadName_local I.ok.kind hk hn hm fin) hd
 ·rcases hk with hk|hk
  ·exact wpAny_Name (wpAny_loadName_cell I.ok.kind hk hc hcell fin) hd
  ·exact wpAny_Name (wpAny_loadName_free I.ok.kind hk hc hcell fin hcd) hd
theorem Nr {i j pos}:PE X (.Constant (.int i) j pos) (tC (.int i)):=fun _ _ _ H _ I h=>wpAny_Constant_int ⟨.int i,H,I.tok _,⟨_,rfl⟩,h⟩
theorem Qh {b j pos}:PE X (.Constant (.bool b) j pos) (tC (.bl b)):=fun _ _ _ H _ I h=>Constant_bool ⟨.bl b,H,I,rfl,h⟩
theorem Nu {j pos}:PE X (.Constant .none j pos) (tC .non):=fun _ _ _ H _ I h=>Constant_none ⟨.non,H,I,rfl,h⟩
theorem Nx {x j pos}:PE X (.Constant (.str x) j pos) (tC (.str x)):=fun _ _ _ H _ I h=>Calls.Constant_str ⟨.str x,H,I.tok _,⟨_,rfl⟩,h⟩
def Gl (X:Cx)(x:Str):Prop:=X.env.kindOf x=some .globalImplicit
theorem IP {E:Value->Shared->Prop}{pins:List (Addr × Obj)}{s:Shared}{σ:St}{H:Hp}{x:Str}{u:Value}{pos:Pos}{Q:Value->Shared->Prop}(I:aF X pins σ H s)(hg:Gl X x)(hm:X.mg x=some u)(h:Q u s)
  (hd:(x == ("__debug__":Str))=false:=by decide):wpAny (model X.prog X.w) X.A (eval (.Name x pos) X.env) Q E s:=
 Calls.Name_function_global I.ok.kind hg (Calls.loadGlobal_global (by rw[I.ok.glob];exact I.mod.glob.keeps I.bk) hm h) hd
theorem kJ {E:Value->Shared->Prop}{pins:List (Addr × Obj)}{s:Shared}{σ:St}{H:Hp}{x:Str}{u:Value}{pos:Pos}{Q:Value->Shared->Prop}(I:aF X pins σ H s)(hg:Gl X x)(hm:X.mg x=none)(hv:bootBuiltins x=some u)(h:Q u s)
  (hn:x≠"__name__":=by decide) (hd:(x == ("__debug__":Str))=false:=by decide):wpAny (model X.prog X.w) X.A (eval (.Name x pos) X.env) Q E s:=by
 obtain⟨mb,h1,h2⟩:=I.mod.blt;exact Calls.Name_function_global I.ok.kind hg (Calls.loadGlobal_builtin (by rw[I.ok.glob];exact I.mod.glob.keeps I.bk) hm (by rw[I.ok.blt];exact h1.keeps I.bk) ((h2 x hn).trans hv) h) hd
variable {a b:Expr}{ta tb:TE}{pos:Pos}
def tB (t:TE):TT:=fun σ H Q=>t σ H fun x H1=>∃ c,x=.bl c/\Q c H1
theorem NI {e:Expr}{t:TE}(h:PE X e t)(he:∀ whole,isTrue e X.env whole=(do let v ← whole;standAt e.pos;holding [v] (truthy v)):=by intro _;rfl):PT X e (tB t):=by
 intro pins s σ H Q I hw;refine isTrue_plain (cG (h pins s σ H _ I hw) fun v s1 ⟨x,H1,I1,r1,q1⟩=>?_) (he _);obtain⟨d,rfl,q⟩:=q1
 cases r1
 exact wpAny_truthy_bool ⟨H1,I1,q⟩
variable {tA tB':TT}{rest:List Expr}
def RJ (t u:TT):TT:=fun σ H Q=>t σ H fun c H1=>if c=true then u σ H1 Q else Q false H1
def Su (t u:TT):TT:=fun σ H Q=>t σ H fun c H1=>if c=true then Q true H1 else u σ H1 Q
theorem JU (ha:PT X a tA):PW X (.BoolOp .And [a] pos) tA:=by
 intro wh pins s σ H Q I h;refine isTrue_and (cG (ha pins s σ H Q I h) fun c s1 e=>?_)
 cases c with
 | true=>exact isTrue_and_nil e
 | false=>exact e
theorem NL (ha:PT X a tA):PW X (.BoolOp .Or [a] pos) tA:=by
 intro wh pins s σ H Q I h;refine isTrue_or (cG (ha pins s σ H Q I h) fun c s1 e=>?_)
 cases c with
 | false=>exact isTrue_or_nil e
 | true=>exact e
theorem NK (ha:PT X a tA)(hb:PW X (.BoolOp .And (b::rest) pos) tB'):PW X (.BoolOp .And (a::b::rest) pos) (RJ tA tB'):=by
 intro wh pins s σ H Q I h;refine isTrue_and (cG (ha pins s σ H _ I h) fun c s1 ⟨H1,I1,q1⟩=>?_)
 cases c with
 | true=>exact hb wh pins s1 σ H1 Q I1 q1
 | false=>exact⟨H1,I1,q1⟩
theorem Qn (ha:PT X a tA)(hb:PW X (.BoolOp .Or (b::rest) pos) tB'):PW X (.BoolOp .Or (a::b::rest) pos) (Su tA tB'):=by
 intro wh pins s σ H Q I h;refine isTrue_or (cG (ha pins s σ H _ I h) fun c s1 ⟨H1,I1,q1⟩=>?_)
 cases c with
 | true=>exact⟨H1,I1,q1⟩
 | false=>exact hb wh pins s1 σ H1 Q I1 q1
def Qv (ta tb:TE):TE:=fun σ H Q=>ta σ H fun x H1=>∃ c,x=.bl c/\if c=true then tb σ H1 Q else Q (.bl false) H1
def Qz (ta:TE):TE:=fun σ H Q=>ta σ H fun x H1=>∃ c,x=.bl c/\Q (.bl (!c)) H1
theorem Nw {op}{t:TE}(h:PE X a t):PE X (.BoolOp op [a] pos) t:=fun pins s σ H Q I hw=>BoolOp_one (h pins s σ H Q I hw)
theorem Np (ha:PE X a ta)(hb:PE X (.BoolOp .And (b::rest) pos) tb):PE X (.BoolOp .And (a::b::rest) pos) (Qv ta tb):=by
 intro pins s σ H Q I h;refine BoolOp_and (cG (ha pins s σ H _ I h) fun v s1 ⟨x,H1,I1,r1,q1⟩=>?_);obtain⟨c,rfl,q1⟩:=q1
 cases r1
 refine wpAny_truthy_bool ?_
 cases c with
 | true=>exact hb pins s1 σ H1 Q I1 q1
 | false=>exact⟨.bl false,H1,I1,rfl,q1⟩
theorem Nv (ha:PE X a ta):PE X (.UnaryOp .Not a pos) (Qz ta):=by
 intro pins s σ H Q I h;refine UnaryOp_ (cG (ha pins s σ H _ I h) fun v s1 ⟨x,H1,I1,r1,q1⟩=>?_);obtain⟨c,rfl,q1⟩:=q1
 cases r1
 exact not_of (wpAny_truthy_bool ⟨.bl (!c),H1,I1,rfl,q1⟩)
def Ss (t:TT)(ta tb:TE):TE:=fun σ H Q=>t σ H fun c H1=>if c=true then ta σ H1 Q else tb σ H1 Q
theorem Gh {c:Expr}(hc:PT X c tA)(ha:PE X a ta)(hb:PE X b tb):PE X (.IfExp c a b pos) (Ss tA ta tb):=by
 intro pins s σ H Q I h;refine wpAny_IfExp (cG (hc pins s σ H _ I h) fun d s1 ⟨H1,I1,q1⟩=>?_)
 cases d with
 | true=>exact ha pins s1 σ H1 Q I1 q1
 | false=>exact hb pins s1 σ H1 Q I1 q1
end
end L2
namespace L2
open PySem PySem.Spec PyProof.Rows
def cX (K:Frg)(H:Hp)(a:Addr)(xs:List V):Prop:=
 Rd H a (.lst xs) ∨
  ∃ (o:Obj) (its:Array Value) (n:Nat),K.lookup a=some o/\o.cls=.type "list"/\o.dict=none/\o.data=.seq its n/\its.size<=sizeLine/\aO xs its.toList
def k8 (K:Frg)(H:Hp)(a:Addr)(xs:List V):Prop:=
 Rd H a (.tup xs) ∨
  ∃ (o:Obj) (its:Array Value) (n:Nat),K.lookup a=some o/\o.cls=.type "tuple"/\o.data=.seq its n/\its.size<=sizeLine/\aO xs its.toList
def Rg:Value->Option V
 | .none=>some .non
 | .bool b=>some (.bl b)
 | .int i _=>some (.int i)
 | .str x _=>some (.str x)
 | .bytes b _=>some (.byt b)
 | .float b _=>some (.flt b)
 | .ref a=>some (.ref a)
 | .type n=>some (.ty n)
 | _=>none
theorem RelV.abs {x:V}{u:Value}(r:RelV x u):Rg u=some x:=by
 cases x with
 | non=>cases r;rfl
 | bl _=>cases r;rfl
 | int _=>obtain⟨t,rfl⟩:=r;rfl
 | str _=>obtain⟨t,rfl⟩:=r;rfl
 | byt _=>obtain⟨t,rfl⟩:=r;rfl
 | flt _=>obtain⟨t,rfl⟩:=r;rfl
 | ref _=>cases r;rfl
 | ty _=>cases r;rfl
theorem RelV.inj {x y:V}{u:Value}(r:RelV x u)(q:RelV y u):x=y:=Option.some.inj (r.abs.symm.trans q.abs)
theorem aO.inj:∀ {xs ys:List V}{us:List Value},aO xs us->aO ys us->xs=ys
 | _,_,_,.nil,.nil=>rfl
 | _,_,_,.cons r t,.cons r' t'=>by rw[r.inj r',aO.inj t t']
section
variable {X:Cx}{pins:List (Addr × Obj)}{σ:St}{H:Hp}{s:Shared}{a:Addr}{xs ys:List V}
theorem cX.of {K:Frg}(h:H a=some (.lst xs)):cX K H a xs:=.inl (.inl h)
theorem k8.of {K:Frg}(h:H a=some (.tup xs)):k8 K H a xs:=.inl (.inl h)
theorem aF.list (I:aF X pins σ H s)(h:cX X.K H a xs):∃ its:List Value,aO xs its/\PlainL s.heap a its.toArray/\xs.length<=sizeLine:=by
 rcases h with h|⟨o,its,n,hk,hc,hd,hs,hz,r⟩
 ·obtain⟨z,its,n,r,e⟩:=h.ok I.hok;exact⟨its,r,⟨_,n,e,rfl,rfl,rfl⟩,z⟩
 ·refine⟨its.toList,r,⟨o,n,I.kIn a o hk,hc,hd,by simpa using hs⟩,?_⟩
  have e:=r.length;simp only[length_toList]at e;omega
theorem aF.tuple (I:aF X pins σ H s)(h:k8 X.K H a xs):∃ its:List Value,aO xs its/\IsTup s.heap a its.toArray/\xs.length<=sizeLine:=by
 rcases h with h|⟨o,its,n,hk,hc,hs,hz,r⟩
 ·obtain⟨z,its,r,p⟩:=h.ok I.hok;exact⟨its,r,p,z⟩
 ·refine⟨its.toList,r,⟨o,I.kIn a o hk,hc,n,by simpa using hs⟩,?_⟩
  have e:=r.length;simp only[length_toList]at e;omega
theorem aF.list_inj (I:aF X pins σ H s)(h:cX X.K H a xs)(h':cX X.K H a ys):xs=ys:=by
 obtain⟨its,r,⟨o,n,e,_,_,d⟩,_⟩:=I.list h;obtain⟨its',r',⟨o',n',e',_,_,d'⟩,_⟩:=I.list h';rw[e]at e';cases e'
 rw[d]at d'
 injection d' with d1 _
 have:its=its':=by simpa using congrArg Array.toList d1
 subst this;exact r.inj r'
theorem aF.tuple_inj (I:aF X pins σ H s)(h:k8 X.K H a xs)(h':k8 X.K H a ys):xs=ys:=by
 obtain⟨its,r,⟨o,e,_,n,d⟩,_⟩:=I.tuple h;obtain⟨its',r',⟨o',e',_,n',d'⟩,_⟩:=I.tuple h';rw[e]at e';cases e'
 rw[d]at d'
 injection d' with d1 _
 have:its=its':=by simpa using congrArg Array.toList d1
 subst this;exact r.inj r'
end
abbrev Cx.wish (X:Cx)(E:Value->Shared->Prop):Cx:={X with xe:=E}
abbrev Cx.nox (X:Cx):Cx:=X.wish fun _ _=>False
theorem Cx.Ok.wish {X:Cx}(ok:X.Ok)(E:Value->Shared->Prop):(X.wish E).Ok:=
 ⟨ok.mod,ok.kind,ok.glob,ok.blt,ok.above,ok.inj,ok.has,ok.cab,ok.hd,ok.frames,ok.stk,ok.exf,ok.bs,ok.bsz,ok.noex,ok.exfs,ok.funs,ok.frf⟩
theorem Cx.Ok.unwish {X:Cx}{E:Value->Shared->Prop}(ok:(X.wish E).Ok):X.Ok:=
 ⟨ok.mod,ok.kind,ok.glob,ok.blt,ok.above,ok.inj,ok.has,ok.cab,ok.hd,ok.frames,ok.stk,ok.exf,ok.bs,ok.bsz,ok.noex,ok.exfs,ok.funs,ok.frf⟩
section
variable {X:Cx}{pins:List (Addr × Obj)}{σ:St}{H:Hp}{s:Shared}{E:Value->Shared->Prop}
theorem aF.wish (I:aF X pins σ H s)(E:Value->Shared->Prop):aF (X.wish E) pins σ H s:=⟨I.ok.wish E,I.os,I.bare,I.base,I.loc,I.cell,I.free,I.freeC,I.pin,I.hok,I.len⟩
theorem aF.unwish (I:aF (X.wish E) pins σ H s):aF X pins σ H s:=⟨I.ok.unwish,I.os,I.bare,I.base,I.loc,I.cell,I.free,I.freeC,I.pin,I.hok,I.len⟩
theorem SP.unwish {D:Ends}{f:Flow}{s':Shared}(h:SP (X.wish E) pins D f s'):SP X pins D f s':=by
 cases f with
 | next=>obtain⟨σ',H',I,q⟩:=h;exact⟨σ',H',I.unwish,q⟩
 | brk=>obtain⟨σ',H',I,q⟩:=h;exact⟨σ',H',I.unwish,q⟩
 | cont=>obtain⟨σ',H',I,q⟩:=h;exact⟨σ',H',I.unwish,q⟩
 | ret u=>obtain⟨v,σ',H',I,r,q⟩:=h;exact⟨v,σ',H',I.unwish,r,q⟩
theorem PE.nox {e:Expr}{t:TE}(h:PE X.nox e t):PE X e t:=fun pins s σ H Q I hw=>
 wpAny_mono (h pins s σ H Q (I.wish _) hw) (fun _ _ ⟨v,H',I',r,q⟩=>⟨v,H',I'.unwish,r,q⟩) fun _ _ z=>False.elim z
theorem PT.nox {e:Expr}{t:TT}(h:PT X.nox e t):PT X e t:=fun pins s σ H Q I hw=>
 wpAny_mono (h pins s σ H Q (I.wish _) hw) (fun _ _ ⟨H',I',q⟩=>⟨H',I'.unwish,q⟩) fun _ _ z=>False.elim z
theorem kA.nox {st:List Stmt}{t:TS}(h:kA X.nox st t):kA X st t:=fun pins s σ H D I hw=>
 wpAny_mono (h pins s σ H D (I.wish _) hw) (fun _ _ q=>q.unwish) fun _ _ z=>False.elim z
end
section
variable {X:Cx}{st:Stmt}{rest:List Stmt}{t u:TS}{e:Expr}{te:TE}{pos:Pos}
def Qx:TS:=fun D σ H=>D.nx σ H
def RQ (t u:TS):TS:=fun D σ H=>t {D with nx:=u D} σ H
theorem JI:kA X [] Qx:=fun _ _ σ H _ I h=>wpAny_execs_nil ⟨σ,H,I,h⟩
theorem wK (h1:PS X st t)(h2:kA X rest u):kA X (st::rest) (RQ t u):=by
 intro pins s σ H D I h;refine wpAny_execs_cons (cG (h1 pins s σ H {D with nx:=u D} I h) fun f s1 q=>?_)
 cases f with
 | next=>
  obtain⟨σ',H',I',q⟩:=q;exact h2 pins s1 σ' H' D I' q
 | ret v=>exact q
 | brk=>exact q
 | cont=>exact q
theorem JJ (h1:PS X st t):kA X [st] t:=by
 intro pins s σ H D I h;refine wpAny_execs_cons (cG (h1 pins s σ H D I h) fun f s1 q=>?_)
 cases f with
 | next=>exact wpAny_execs_nil q
 | ret v=>exact q
 | brk=>exact q
 | cont=>exact q
theorem aF.quiet {pins:List (Addr × Obj)}{σ:St}{H:Hp}{s:Shared}(I:aF X pins σ H s):interactive X.env=false:=by simp[interactive,I.ok.kind]
def Qw (te:TE):TS:=fun D σ H=>te σ H fun _ H1=>D.nx σ H1
theorem oD (he:PE X e te)(hs:swapsWith e none pos.line X.env=pure false:=by rfl):PS X (.Expr e pos) (Qw te):=by
 intro pins s σ H D I h;exact wpAny_Expr_any (cG (he pins s σ H _ I h) fun v s1 ⟨x,H1,I1,r1,q1⟩=>⟨σ,H1,I1,q1⟩) I.quiet hs
def RP (te:TE):TS:=fun D σ H=>te σ H D.rt
theorem yr (he:PE X e te):PS X (.Return (some e) pos) (RP te):=by
 intro pins s σ H D I h;exact wpAny_Return_some (cG (he pins s σ H _ I h) fun v s1 ⟨x,H1,I1,r1,q1⟩=>⟨x,σ,H1,I1,r1,q1⟩)
def RM (c:TT)(t u:TS):TS:=fun D σ H=>c σ H fun b H1=>if b=true then t D σ H1 else u D σ H1
theorem Qm {c:Expr}{a b:List Stmt}{tc:TT}(hc:PT X c tc)(ha:kA X a t)(hb:kA X b u):PS X (.If c a b pos) (RM tc t u):=by
 intro pins s σ H D I h;refine wpAny_If (cG (hc pins s σ H _ I h) fun d s1 ⟨H1,I1,q1⟩=>?_)
 cases d with
 | true=>exact ha pins s1 σ H1 D I1 q1
 | false=>exact hb pins s1 σ H1 D I1 q1
def N4:TS:=fun _ _ _=>False
theorem Gr:PS X st N4:=fun _ _ _ _ _ _ h=>h.elim
end
abbrev TG:=V->St->Hp->(St->Hp->Prop)->Prop
abbrev Hq:=List V->St->Hp->(St->Hp->Prop)->Prop
def PG (X:Cx)(target:Expr)(t:TG):Prop:=
 ∀ (pins:List (Addr × Obj)) (s:Shared) (σ:St) (H:Hp) (v:V) (u:Value) (Q:St->Hp->Prop),aF X pins σ H s->RelV v u->t v σ H Q →
  wpAny (model X.prog X.w) X.A (assign target X.env u) (fun _ s'=>∃ σ' H',aF X pins σ' H' s'/\Q σ' H') X.xe s
def Cm (X:Cx)(ts:List Expr)(t:Hq):Prop:=
 ∀ (pins:List (Addr × Obj)) (s:Shared) (σ:St) (H:Hp) (vs:List V) (us:List Value) (Q:St->Hp->Prop),aF X pins σ H s->aO vs us->t vs σ H Q →
  wpAny (model X.prog X.w) X.A (assignInOrder ((assignEach ts X.env).map (·.2)) us) (fun _ s'=>∃ σ' H',aF X pins σ' H' s'/\Q σ' H') X.xe s
abbrev Lh:=V->V->V->Hp->(Hp->Prop)->Prop
def OK (X:Cx)(t:Lh):Prop:=
 ∀ (pins:List (Addr × Obj)) (s:Shared) (σ:St) (H:Hp) (o i v:V) (ov iv u:Value) (Q:Hp->Prop),aF X pins σ H s->RelV o ov->RelV i iv->RelV v u->t o i v H Q →
  wpAny (model X.prog X.w) X.A (setItem ov iv u) (fun _ s'=>∃ H',aF X pins σ H' s'/\Q H') X.xe s
section
variable {X:Cx}{pos:Pos}
def Eg (i:Nat):TG:=fun v σ H Q=>Q (σ.set i (some v)) H
theorem JA {i:Nat}{x:Str}(hN:X.N.Nodup)(hi:X.N[i]?=some x)(hx:Loc X.env.scope x)(hf:X.fn x=true\/X.env.scope.names.lookup x=some .local:=by first|exact .inl rfl|exact .inr rfl|assumption):PG X (.Name x pos) (Eg i):=by
 intro pins s σ H v u Q I r h;exact wpAny_assign_Name (mh I hN hi hx r (fun s' I'=>⟨_,H,I',h⟩) hf)
def Ri:Hq:=fun vs σ H Q=>vs=[]/\Q σ H
def PN (t:TG)(u:Hq):Hq:=fun vs σ H Q=>∃ v r,vs=v::r/\t v σ H fun σ' H'=>u r σ' H' Q
theorem JB:Cm X [] Ri:=by
 intro pins s σ H vs us Q I r h;obtain⟨e,h⟩:=h;subst e
 cases r
 exact assignInOrder_nil ⟨σ,H,I,h⟩
theorem Gk {e:Expr}{es:List Expr}{t:TG}{u:Hq}(h1:PG X e t)(h2:Cm X es u)
  (hs:(assignEach (e::es) X.env).map (·.2)=assign e X.env::(assignEach es X.env).map (·.2):=by rfl):Cm X (e::es) (PN t u):=by
 intro pins s σ H vs us Q I r h;obtain⟨v,vr,e1,h⟩:=h;subst e1
 cases r with
 | cons r rr=>
  rw[hs];refine assignInOrder_cons (cG (h1 pins s σ H _ _ _ I r h) fun _ s1 ⟨σ1,H1,I1,q1⟩=>?_);exact h2 pins s1 σ1 H1 _ _ Q I1 rr q1
def Rl (K:Frg)(n:Nat)(t:Hq):TG:=fun v σ H Q=>∃ a xs,v=.ref a/\k8 K H a xs/\xs.length=n/\t xs σ H Q
theorem NB {es:List Expr}{k:Nat}{t:Hq}{n:Nat}(hc:X.calm=true)(h:Cm X es t)
  (hn:(assignEach es X.env).length=n:=by rfl) (hst:(assignEach es X.env).findIdx? (·.1)=none:=by rfl):PG X (.Tuple es k pos) (Rl X.K n t):=by
 intro pins s σ H v u Q I r hw;obtain⟨a,xs,e1,hq,hl,hw⟩:=hw;subst e1
 cases r
 obtain⟨its,rv,ht,hz⟩:=I.tuple hq;refine assign_Tuple_tuple (I.ok.hd hc) ht (by simp[hn,<-hl,rv.length]) hst fun h' hx=>?_
 have I1:aF X pins σ H {s with heap:=h'}:=I.kept (t':=s.toks) fun b o e=>hx b o (ne_of_lt (Heap.lt_size e)) e;exact h pins _ σ H xs _ Q I1 (by simpa using rv) hw
def Rj (to ti:TE)(t:Lh):TG:=fun v σ H Q=>to σ H fun o H1=>ti σ H1 fun i H2=>t o i v H2 fun H3=>Q σ H3
theorem NA {o i:Expr}{to ti:TE}{t:Lh}(ho:PE X o to)(hi:PE X i ti)(hs:OK X t)
  (ha:∀ v,assign (.Subscript o i pos) X.env v=(do
   let ov ← holding [v] (eval o X.env)
   let iv ← holding [v,ov] (eval i X.env)
   standAt pos
   holding [v,ov,iv] (setItem ov iv v)
   release [v,ov,iv] []):=by intro _;rfl):PG X (.Subscript o i pos) (Rj to ti t):=by
 intro pins s σ H v u Q I r h;rw[ha];refine wpAny_bind (wpAny_holding (cG (ho pins s σ H _ I h) fun ov s1 ⟨x,H1,I1,r1,q1⟩=>?_));refine wpAny_bind (wpAny_holding (cG (hi pins s1 σ H1 _ I1 q1) fun iv s2 ⟨y,H2,I2,r2,q2⟩=>?_));refine wpAny_bind (wpAny_standAt (wpAny_bind (wpAny_holding (cG (hs pins s2 σ H2 x y v ov iv u _ I2 r1 r2 r q2) fun _ s3 ⟨H3,I3,q3⟩=>?_))));exact wpAny_release ⟨σ,H3,I3,q3⟩
def N3 (te:TE)(g:TG):TS:=fun D σ H=>te σ H fun x H1=>g x σ H1 D.nx
theorem Gq {tg e:Expr}{te:TE}{g:TG}(he:PE X e te)(hg:PG X tg g)(hs:swapsWithSole [tg] e pos.line X.env=pure false:=by rfl)(hw:swappedStores [tg] e X.env=pure none:=by rfl)
  (h1:(assignEach [tg] X.env).map (·.2)=[assign tg X.env]:=by rfl):PS X (.Assign [tg] e pos) (N3 te g):=by
 intro pins s σ H D I h;refine wpAny_Assign_stores (cG (he pins s σ H _ I h) fun v s1 ⟨x,H1,I1,r1,q1⟩=>?_) hs hw;rw[h1];exact cG (hg pins s1 σ H1 x v _ I1 r1 q1) fun _ s2 q=>q
theorem NH {i:Nat}{x:Str}{e:Expr}{te:TE}{pos':Pos}(hN:X.N.Nodup)(hi:X.N[i]?=some x)(hx:Loc X.env.scope x)(he:PE X e te)(hs:swapsWith e (some (.Name x pos')) pos.line X.env=pure false:=by rfl)(hf:X.fn x=true\/X.env.scope.names.lookup x=some .local:=by first|exact .inl rfl|exact .inr rfl|assumption) :
  PS X (.Assign [.Name x pos'] e pos) (N3 te (Eg i)):=by
 intro pins s σ H D I h;refine wpAny_Assign_Name (cG (he pins s σ H _ I h) fun v s1 ⟨y,H1,I1,r1,q1⟩=>?_) hs;exact mh I1 hN hi hx r1 (fun s2 I2=>⟨_,H1,I2,q1⟩) hf
def RO (i j:Nat)(ta:TA):TS:=fun D σ H=>ta σ H fun vs H1=>∃ v w,vs=[v,w]/\D.nx ((σ.set i (some v)).set j (some w)) H1
theorem NG {i j:Nat}{x y:Str}{a b:Expr}{ta:TA}{px py pt:Pos}{kt k2 pt2}(hc:X.calm=true)(hN:X.N.Nodup)(hi:X.N[i]?=some x)(hj:X.N[j]?=some y)(hij:i≠j)
  (hx:X.env.scope.names.lookup x=some .local) (hy:X.env.scope.names.lookup y=some .local) (ha:PA X [a,b] ta)
  (hw:swappedStores [.Tuple [.Name x px,.Name y py] kt pt] (.Tuple [a,b] k2 pt2) X.env=pure (some [x,y]))
  (hs:swapsWithSole [.Tuple [.Name x px,.Name y py] kt pt] (.Tuple [a,b] k2 pt2) pos.line X.env=pure false:=by rfl) :
  PS X (.Assign [.Tuple [.Name x px,.Name y py] kt pt] (.Tuple [a,b] k2 pt2) pos) (RO i j ta):=by
 intro pins s σ H D I h;rw[exec_Assign_arm];refine wpAny_bind (wpAny_standAt ?_);rw[hs];refine wpAny_bind (wpAny_pure ?_);rw[if_neg (by decide)]
 refine wpAny_bind (Tuple_ (cG (ha _ pins s σ H _ I h) fun us s1 ⟨vs,H1,I1,r1,q1⟩=>?_));obtain⟨v,w,e1,q1⟩:=q1;subst e1;obtain⟨u1,u2,rfl,rv,rw'⟩:∃ u1 u2,us=[u1,u2]/\RelV v u1/\RelV w u2:=by
  cases r1 with
  | cons p q=>
   cases q with
   | cons p' q'=>
    cases q'
    exact⟨_,_,rfl,p,p'⟩
 refine wpAny_newObj_type ?_ (by show 2<=sizeLine;decide)
 have I2:aF X pins σ H1 {s1 with heap:=s1.heap.push {cls:=.type "tuple",data:=.seq [u1,u2].toArray}}:=I1.kept (t':=s1.toks) fun b o e=>Heap.get?_push_of_some _ e;rw[hw];refine wpAny_bind (wpAny_pure ?_);show wpAny (model X.prog X.w) X.A (do rule "assign.swapped-stores";let items ← unpackItems (.ref s1.heap.objs.size) 2 none;assignInOrder [fun v=>bindName X.env y v,fun v=>bindName X.env x v] items.reverse;pure Flow.next) _ _ _
 refine wpAny_bind (wpAny_rule (wpAny_bind (unpackItems_tuple (items:=#[u1,u2]) (I.ok.hd hc) (IsTup.new s1.heap _) fun h' hx'=>?_)));have I3:=I2.kept (h':=h') (t':=s1.toks) fun b o e=>hx' b o (ne_of_lt (Heap.lt_size e)) e;show wpAny _ _ (assignInOrder [fun v=>bindName X.env y v,fun v=>bindName X.env x v] [u2,u1] >>= fun _=>pure Flow.next) _ _ _;refine wpAny_bind (assignInOrder_cons (wpAny_bindName (mh I3 hN hj (.inl hy) rw' (fun s2 I4=>?_) (.inr hy))));refine assignInOrder_cons (wpAny_bindName (mh I4 hN hi (.inl hx) rv (fun s3 I5=>assignInOrder_nil (wpAny_pure ?_)) (.inr hx)));rw[List.set_comm _ _ (Ne.symm hij)]at I5;exact⟨_,H1,I5,q1⟩
end
section
variable {X:Cx}{pos:Pos}
def N6 (c:TT)(tb:TS):TS:=fun D σ H=>∃ W:Nat->St->Hp->Prop,(∃ m,W m σ H)/\∀ m σ H,W m σ H →
 c σ H fun b H1=>if b=true then ∃ N:St->Hp->Prop,(∀ σ' H',N σ' H'->∃ m',m'<m/\W m' σ' H')/\tb {D with nx:=N,ct:=N,bk:=D.nx} σ H1 else D.nx σ H1
theorem Gs {c:Expr}{body:List Stmt}{tc:TT}{tb:TS}(hp:PassesOwn (model X.prog X.w) X.A X.env X.xe)(hc:PT X c tc)(hb:kA X body tb):PS X (.While c body [] pos) (N6 tc tb):=by
 intro pins s σ H D I h;obtain⟨W,⟨m0,w0⟩,turn⟩:=h;refine wpAny_While (codeAny_whileLoop (fun n s'=>∃ σ' H',aF X pins σ' H' s'/\W n σ' H') ?_ m0 ⟨σ,H,I,w0⟩);rintro n s1 ⟨σ1,H1,I1,w1⟩;refine wpAny_passesOwn hp (cG (hc pins s1 σ1 H1 _ I1 (turn n σ1 H1 w1)) fun b s2 ⟨H2,I2,q2⟩=>?_)
 cases b with
 | true=>
  obtain⟨N,hN,q2⟩:=q2;rw[if_pos rfl];refine wpAny_passesOwn hp (cG (hb pins s2 σ1 H2 _ I2 q2) fun f s3 q3=>?_)
  cases f with
  | next=>
   obtain⟨σ3,H3,I3,n3⟩:=q3;obtain⟨m',hm,w3⟩:=hN σ3 H3 n3;exact⟨m',hm,σ3,H3,I3,w3⟩
  | cont=>
   obtain⟨σ3,H3,I3,n3⟩:=q3;obtain⟨m',hm,w3⟩:=hN σ3 H3 n3;exact⟨m',hm,σ3,H3,I3,w3⟩
  | brk=>exact q3
  | ret v=>exact q3
 | false=>
  rw[if_neg Bool.false_ne_true];exact wpAny_execs_nil ⟨σ1,H2,I2,q2⟩
end
structure It where
 go:Nat->Hp->Prop
 yld:Nat->Hp->V->Hp->Prop
 stop:Nat->Hp->Prop
def o4 (X:Cx)(pins:List (Addr × Obj))(H:Hp)(b:Addr):Prop:=
 H b=none/\b≠X.env.locals/\b∉X.fs/\(b∈X.ex\/X.s₀.heap.objs.size<=b)/\(∀ x c,X.env.cells.lookup x=some c->c≠b)/\∀ p∈X.pn++pins,p.1≠b
theorem aF.fpOk {X:Cx}{pins:List (Addr × Obj)}{σ:St}{H H':Hp}{s:Shared}{b:Addr}(I:aF X pins σ H s)(hb:s.heap.objs.size<=b)(hn:H' b=none):o4 X pins H' b:=by
 refine⟨hn,ne_of_gt (lt_of_lt_of_le I.lt hb),I.nofs hb,.inr (le_trans I.sz hb),fun x c e z=>?_,fun p hp z=>?_⟩
 ·obtain⟨v,q⟩:=I.cell x c e;exact absurd (lt_of_lt_of_le q.lt (by rw[z];exact hb)) (lt_irrefl _)
 ·exact absurd (lt_of_lt_of_le (Heap.lt_size (I.pin p hp).1) (by rw[z];exact hb)) (lt_irrefl _)
structure Turn (P:Program) (w:World) (K:Frg) (tg:Expr) (J:It) (fp:List Addr) (it:Addr) (tn:Nat->Heap->Prop):Prop where
 mem:it∈fp
 obj:∀ i h,tn i h->∀ b∈fp,∃ o,h.get? b=some o/\∀ v,o.data≠.cell v
 keep:∀ i h h',tn i h->(∀ b∈fp,∀ o,h.get? b=some o->h'.get? b=some o)->tn i h'
 item:∀ (X:Cx),X.prog=P->X.w=w->X.K=K->X.calm=true->∀ (i:Nat) (pins:List (Addr × Obj)) (s:Shared) (σ:St) (H:Hp) (E:Value->Shared->Prop),aF X pins σ H s->(∀ b∈fp,o4 X pins H b)->tn i s.heap->J.go i H →
  wpAny (model P w) X.A (pyNext (.ref it)) (fun r s1=>∃ u,r=some u ∧
   wpAny (model P w) X.A (letOwnedTupleGo tg (.ref it) u) (fun _ s2=>∃ x H',aF X pins σ H' s2/\RelV x u/\J.yld i H x H'/\tn (i+1) s2.heap/\∀ b∈fp,H' b=none) E s1) E s
 done:∀ (X:Cx),X.prog=P->X.w=w->X.K=K->X.calm=true->∀ (i:Nat) (pins:List (Addr × Obj)) (s:Shared) (σ:St) (H:Hp) (E:Value->Shared->Prop),aF X pins σ H s->(∀ b∈fp,o4 X pins H b)->tn i s.heap->J.stop i H →
  wpAny (model P w) X.A (pyNext (.ref it)) (fun r s1=>r=none/\aF X pins σ H s1) E s
 self:∀ (A:Around) (i:Nat) (s:Shared) (Q:Value->Shared->Prop) (E:Value->Shared->Prop),tn i s.heap->Q (.ref it) s->wpAny (model P w) A (pyIter (.ref it)) Q E s
abbrev TI:=St->Hp->(It->Hp->Prop)->Prop
def R5 (X:Cx)(pins:List (Addr × Obj))(σ:St)(tg:Expr)(R:It->Hp->Prop)(itv:Value)(s2:Shared):Prop:=
 ∃ (it:Addr) (fp:List Addr) (tn:Nat->Heap->Prop) (J:It) (H':Hp),itv=.ref it/\aF X pins σ H' s2/\Turn X.prog X.w X.K tg J fp it tn/\tn 0 s2.heap/\(∀ b∈fp,o4 X pins H' b)/\R J H'
def PI (X:Cx)(tg iter:Expr)(wi:TI):Prop:=
 ∀ (pins:List (Addr × Obj)) (s:Shared) (σ:St) (H:Hp) (R:It->Hp->Prop),aF X pins σ H s->wi σ H R →
  wpAny (model X.prog X.w) X.A (eval iter X.env) (fun v s1=>wpAny (model X.prog X.w) X.A (pyIter v) (R5 X pins σ tg R) X.xe s1) X.xe s
theorem Ej {M:Model}{A:Around}{E:Value->Shared->Prop}{s:Shared}{tg:Expr}{it:Addr}{u:Value}{o:Obj}{n:String}{vs:Array Value}{Q:Unit->Shared->Prop}(ho:s.heap.get? it=some o)(hc:o.cls=.type n)(hd:o.data=.fields vs)
  (hn:["enumerate","zip","dict_itemiterator","dict_reverseitemiterator","odict_iterator","itertools.zip_longest","itertools.pairwise"].contains n=false) (hQ:Q () s):wpAny M A (letOwnedTupleGo tg (.ref it) u) Q E s:=by
 unfold letOwnedTupleGo
 cases tg <;> first
  | exact wpAny_pure hQ
  | (cases u <;> first
    | exact wpAny_pure hQ
    | (
      refine wpAny_bind (wpAny_load ho ?_);rw[hc,hd];show wpAny M A (if (["enumerate","zip","dict_itemiterator","dict_reverseitemiterator","odict_iterator","itertools.zip_longest","itertools.pairwise"].contains n && vs[0]? == some (rawInt _))=true then _ else _) Q E s
      rw[if_neg (by intro h;rw[hn,Bool.false_and]at h;cases h)]
      exact wpAny_pure hQ))
def Q5 (K:Frg)(a:Addr):It:=
 ⟨fun i H=>∃ xs x,cX K H a xs/\xs[i]?=some x,fun i H x H'=>H'=H/\∀ xs,cX K H a xs->xs[i]?=some x,fun i H=>∃ xs,cX K H a xs/\xs.length<=i⟩
def Q6 (K:Frg)(a:Addr):It:=
 ⟨fun i H=>∃ xs x,k8 K H a xs/\xs[i]?=some x,fun i H x H'=>H'=H/\∀ xs,k8 K H a xs->xs[i]?=some x,fun i H=>∃ xs,k8 K H a xs/\xs.length<=i⟩
def QP (lo:Int)(n:Nat):It:=⟨fun i _=>i<n,fun i H x H'=>H'=H/\x=.int (lo+i),fun i _=>n<=i⟩
theorem Ca {P:Program}{w:World}{K:Frg}{tg:Expr}(a it:Addr):Turn P w K tg (Q5 K a) [it] it (fun i h=>h.IsListIter it a i) where
 mem:=by simp
 obj:=fun i h st b hb=>by
  have e:b=it:=by simpa using hb
  subst e;obtain⟨o,e,c,d⟩:=st;exact⟨o,e,fun v z=>by rw[d]at z;cases z⟩
 keep:=fun i h h' st k=>st.at fun o e=>k it (by simp) o e
 item:=by
  intro X hP hw hK hc i pins s σ H E I hf st hg;subst hP hw hK;obtain⟨xs,x,hq,hx⟩:=hg;obtain⟨its,rv,p,hz⟩:=I.list hq;obtain⟨u,hu,ru⟩:=rv.get hx;obtain⟨f0,f1,f2,f3,f4,f5⟩:=hf it (by simp)
  refine wpAny_pyNext_list_item st p.isList (x:=u) (by simpa using hu) fun h' st' sb=>?_
  have I1:aF X pins σ H {s with heap:=h'}:=I.turned (t':=s.toks) (fun b o hb e=>(sb.2 b hb).trans e) f0 f1 f3 f4 f5;obtain⟨o,e,c,d⟩:=id st';exact⟨u,rfl,Ej (s:={s with heap:=h'}) e c d (by decide) ⟨x,H,I1,ru,⟨rfl,fun ys hy=>by rw[I.list_inj hy hq];exact hx⟩,st',fun b hb=>(hf b hb).1⟩⟩
 done:=by
  intro X hP hw hK hc i pins s σ H E I hf st hg;subst hP hw hK;obtain⟨xs,hq,hx⟩:=hg;obtain⟨its,rv,p,hz⟩:=I.list hq;obtain⟨f0,f1,f2,f3,f4,f5⟩:=hf it (by simp)
  have hl:=rv.length;exact wpAny_pyNext_list_end (I.ok.hd hc) st p.isList (by simp;omega) fun h' eb=>⟨rfl,I.turned (t':=s.toks) (fun b o hb e=>eb b o hb e) f0 f1 f3 f4 f5⟩
 self:=fun _ _ _ _ _ st h=>wpAny_pyIter_listiter st h
theorem yJ {P:Program}{w:World}{K:Frg}{tg:Expr}(a it:Addr):Turn P w K tg (Q6 K a) [it] it (fun i h=>h.IsTupleIter it a i) where
 mem:=by simp
 obj:=fun i h st b hb=>by
  have e:b=it:=by simpa using hb
  subst e;obtain⟨o,e,c,d⟩:=st;exact⟨o,e,fun v z=>by rw[d]at z;cases z⟩
 keep:=fun i h h' st k=>st.at fun o e=>k it (by simp) o e
 item:=by
  intro X hP hw hK hc i pins s σ H E I hf st hg;subst hP hw hK;obtain⟨xs,x,hq,hx⟩:=hg;obtain⟨its,rv,p,hz⟩:=I.tuple hq;obtain⟨u,hu,ru⟩:=rv.get hx;obtain⟨f0,f1,f2,f3,f4,f5⟩:=hf it (by simp)
  refine wpAny_pyNext_tuple_item st (show s.heap.IsTuple a its.toArray from p) (x:=u) (by simpa using hu) fun h' st' sb=>?_
  have I1:aF X pins σ H {s with heap:=h'}:=I.turned (t':=s.toks) (fun b o hb e=>(sb.2 b hb).trans e) f0 f1 f3 f4 f5;obtain⟨o,e,c,d⟩:=id st';exact⟨u,rfl,Ej (s:={s with heap:=h'}) e c d (by decide) ⟨x,H,I1,ru,⟨rfl,fun ys hy=>by rw[I.tuple_inj hy hq];exact hx⟩,st',fun b hb=>(hf b hb).1⟩⟩
 done:=by
  intro X hP hw hK hc i pins s σ H E I hf st hg;subst hP hw hK;obtain⟨xs,hq,hx⟩:=hg;obtain⟨its,rv,p,hz⟩:=I.tuple hq;obtain⟨f0,f1,f2,f3,f4,f5⟩:=hf it (by simp)
  have hl:=rv.length;exact wpAny_pyNext_tuple_end (I.ok.hd hc) st (show s.heap.IsTuple a its.toArray from p) (by simp;omega) fun h' eb=>⟨rfl,I.turned (t':=s.toks) (fun b o hb e=>eb b o hb e) f0 f1 f3 f4 f5⟩
 self:=fun _ _ _ _ _ st h=>wpAny_pyIter_tupleiter st h
theorem yI {P:Program}{w:World}{K:Frg}{tg:Expr}(it:Addr)(lo:Int)(n:Nat):Turn P w K tg (QP lo n) [it] it (fun i h=>IsRangeIter h it (lo+(i:Nat)*1) ((n:Int)-(i:Nat)) 1) where
 mem:=by simp
 obj:=fun i h st b hb=>by
  have e:b=it:=by simpa using hb
  subst e;exact⟨_,st,fun v z=>by
   have z':Data.fields _=Data.cell v:=z
   cases z'⟩
 keep:=fun i h h' st k=>k it (by simp) _ st
 item:=by
  intro X hP hw hK hc i pins s σ H E I hf st hg;subst hP hw hK;obtain⟨f0,f1,f2,f3,f4,f5⟩:=hf it (by simp)
  have W:=Walks.range (prog:=X.prog) (w:=X.w) (I.ok.hd hc) it lo 1 n;refine W.item i s _ _ hg st fun v h' tk hv st' kk=>?_;obtain⟨t,rfl⟩:=hv;have I1:aF X pins σ H {s with heap:=h',toks:=tk}:=I.turned (fun b o hb e=>kk b o (by simpa using hb) e) f0 f1 f3 f4 f5
  refine⟨_,rfl,Ej (s:={s with heap:=h',toks:=tk}) (n:="range_iterator") st' rfl rfl (by decide) ⟨.int (lo+i),H,I1,⟨t,?_⟩,⟨rfl,rfl⟩,st',fun b hb=>(hf b hb).1⟩⟩
  rw[mul_one]
 done:=by
  intro X hP hw hK hc i pins s σ H E I hf st hg;subst hP hw hK;obtain⟨f0,f1,f2,f3,f4,f5⟩:=hf it (by simp)
  exact wpAny_pyNext_range_end (I.ok.hd hc) st (by have:n<=i:=hg;omega) fun h' eb=>⟨rfl,I.turned (t':=s.toks) (fun b o hb e=>eb b o hb e) f0 f1 f3 f4 f5⟩
 self:=fun _ _ _ _ _ st h=>wpAny_pyIter_rangeiter st h
end L2
namespace L2
open PySem PySem.Spec PyProof.Rows
section
variable {X:Cx}{tg:Expr}
def PQ (K:Frg)(tl:TE):TI:=fun σ H R=>tl σ H fun x H1=>∃ a,x=.ref a/\(∃ xs,cX K H1 a xs)/\R (Q5 K a) H1
def Ro (K:Frg)(tl:TE):TI:=fun σ H R=>tl σ H fun x H1=>∃ a,x=.ref a/\(∃ xs,k8 K H1 a xs)/\R (Q6 K a) H1
theorem JC {l:Expr}{tl:TE}(hl:PE X l tl):PI X tg l (PQ X.K tl):=by
 intro pins s σ H R I h;refine cG (hl pins s σ H _ I h) fun v s1 ⟨x,H1,I1,r1,q1⟩=>?_;obtain⟨a,e,⟨xs,hq⟩,q⟩:=q1;subst e
 cases r1
 obtain⟨its,rv,p,hz⟩:=I1.list hq;refine wpAny_pyIter_list p.isList ?_;refine⟨s1.heap.objs.size,[s1.heap.objs.size],_,_,H1,rfl,I1.kept (t':=s1.toks) fun b o e=>Heap.get?_push_of_some _ e,Ca a _,⟨_,Heap.get?_push_size _ rfl,rfl,rfl⟩,fun b hb=>?_,q⟩;have e:b=s1.heap.objs.size:=by simpa using hb
 subst e;exact I1.fpOk (le_refl _) (I1.hok.fresh (le_refl _))
theorem NC {l:Expr}{tl:TE}(hl:PE X l tl):PI X tg l (Ro X.K tl):=by
 intro pins s σ H R I h;refine cG (hl pins s σ H _ I h) fun v s1 ⟨x,H1,I1,r1,q1⟩=>?_;obtain⟨a,e,⟨xs,hq⟩,q⟩:=q1;subst e
 cases r1
 obtain⟨its,rv,p,hz⟩:=I1.tuple hq;refine wpAny_pyIter_tuple (show s1.heap.IsTuple a its.toArray from p) ?_;refine⟨s1.heap.objs.size,[s1.heap.objs.size],_,_,H1,rfl,I1.kept (t':=s1.toks) fun b o e=>Heap.get?_push_of_some _ e,yJ a _,⟨_,Heap.get?_push_size _ rfl,rfl,rfl⟩,fun b hb=>?_,q⟩;have e:b=s1.heap.objs.size:=by simpa using hb
 subst e;exact I1.fpOk (le_refl _) (I1.hok.fresh (le_refl _))
theorem Gv {pins:List (Addr × Obj)}{σ:St}{H:Hp}{s:Shared}{R:It->Hp->Prop}{E:Value->Shared->Prop}{lo hi:Int}{t u v:Tok}{tk:Nat}(I:aF X pins σ H s)(h1:-(2 ^ 62)<=lo)(h2:lo<2 ^ 62)(h3:-(2 ^ 62)<=hi)(h4:hi<2 ^ 62)
  (q:R (QP lo (hi-lo).toNat) H):wpAny (model X.prog X.w) X.A (pyIter (.ref s.heap.objs.size)) (R5 X pins σ tg R) E {s with heap:=s.heap.push {cls:=.type "range",data:=.fields #[.int lo t,.int hi u,.int 1 v]},toks:=tk}:=by
 refine wpAny_pyIter_range (IsRange.new ..) (small_one h1 h2 h3 h4) ?_;have I1:aF X pins σ H {s with heap:=s.heap.push {cls:=.type "range",data:=.fields #[.int lo t,.int hi u,.int 1 v]},toks:=tk}:=I.kept fun b o e=>Heap.get?_push_of_some _ e;refine⟨(s.heap.push {cls:=.type "range",data:=.fields #[.int lo t,.int hi u,.int 1 v]}).objs.size,[(s.heap.push {cls:=.type "range",data:=.fields #[.int lo t,.int hi u,.int 1 v]}).objs.size],_,_,H,rfl,
  I1.kept (t':=tk) fun b o e=>Heap.get?_push_of_some _ e,yI _ lo (hi-lo).toNat,?_,fun b hb=>?_,q⟩
 ·have e1:lo+((0:Nat):Int)*1=lo:=by simp
  have e2:(((hi-lo).toNat:Nat):Int)-((0:Nat):Int)=Builtin.Range.rangeSize lo hi 1:=by rw[rangeSize_one];split <;> omega
  show IsRangeIter _ _ (lo+((0:Nat):Int)*1) ((((hi-lo).toNat:Nat):Int)-((0:Nat):Int)) 1;rw[e1,e2];exact Heap.get?_push_size _ rfl
 ·have e:b=(s.heap.push {cls:=.type "range",data:=.fields #[.int lo t,.int hi u,.int 1 v]}).objs.size:=by simpa using hb
  subst e;exact I1.fpOk (le_refl _) (I1.hok.fresh (le_refl _))
def PR (ta:TA):TI:=fun σ H R=>ta σ H fun vs H1=>∃ j:Int,vs=[.int j]/\-(2 ^ 62)<=j/\j<2 ^ 62/\R (QP 0 j.toNat) H1
theorem BQ {a:Expr}{ta:TA}{p pos:Pos} (hg:Gl X "range") (hm:X.mg "range"=none) (ha:PA X [a] ta) (hs:starEach [a] X.env=[(false,eval a X.env)]:=by rfl):PI X tg (.Call (.Name "range" p) [a] [] pos) (PR ta):=by
 intro pins s σ H R I h;refine Call_ (kJ I hg hm boot_range (PyProof.Rows.callWith_type1 (cG (ha pos pins s σ H _ I h) fun us s1 ⟨vs,H1,I1,r1,q1⟩=>?_) hs rfl));obtain⟨j,e,q1,q2,q⟩:=q1;subst e
 cases r1 with
 | cons r rr=>
  cases rr
  obtain⟨t,rfl⟩:=r;exact call_range_1 (Gv I1 (by omega) (by omega) q1 q2 (by simpa using q))
def RL (wi:TI)(g:TG)(tb:TS):TS:=fun D σ H=>wi σ H fun J H1=>∃ W:Nat->Nat->St->Hp->Prop,(∃ m,W 0 m σ H1)/\∀ i m σ H,W i m σ H →
 (J.stop i H/\D.nx σ H)\/(J.go i H/\∃ N:St->Hp->Prop,(∀ σ' H',N σ' H'->∃ m',m'<m/\W (i+1) m' σ' H')/\∀ x H',J.yld i H x H'->g x σ H' fun σ2 H2=>tb {D with nx:=N,ct:=N,bk:=D.nx} σ2 H2)
def qj (fp:List Addr)(h:Heap):List (Addr × Obj):=fp.filterMap fun b=>(h.get? b).map fun o=>(b,o)
theorem iC {fp:List Addr}{h:Heap}{b:Addr}{o:Obj}(hb:b∈fp)(e:h.get? b=some o):(b,o)∈qj fp h:=List.mem_filterMap.mpr ⟨b,hb,by rw[e];rfl⟩
theorem BB {fp:List Addr}{h:Heap}{p:Addr × Obj}(hp:p∈qj fp h):p.1∈fp/\h.get? p.1=some p.2:=by
 obtain⟨b,hb,e⟩:=List.mem_filterMap.mp hp
 cases q:h.get? b with
 | none=>rw[q]at e;cases e
 | some o=>
  rw[q]at e;have e':(b,o)=p:=Option.some.inj e;subst e';exact⟨hb,q⟩
theorem aF.pinned {pins:List (Addr × Obj)}{σ:St}{H:Hp}{s:Shared}{fp:List Addr}(I:aF X pins σ H s)(hf:∀ b∈fp,o4 X pins H b)(ho:∀ b∈fp,∃ o,s.heap.get? b=some o/\∀ v,o.data≠.cell v):aF X (pins++qj fp s.heap) σ H s:=
 I.pins_of fun p hp=>(mem_append.mp hp).elim (fun z=>I.pin p (mem_append_right _ z)) fun z=>by
  obtain⟨hb,e⟩:=BB z;obtain⟨f0,f1,f2,_⟩:=hf p.1 hb;obtain⟨o,e',d⟩:=ho p.1 hb;rw[e]at e';cases e'
  exact⟨e,f0,f1,f2,d⟩
theorem aF.unpinned {pins pl:List (Addr × Obj)}{σ:St}{H:Hp}{s:Shared}(I:aF X (pins++pl) σ H s):aF X pins σ H s:=I.pins_of fun p hp=>I.pin p (mem_append_right _ (mem_append_left _ hp))
theorem NF {iter:Expr}{body:List Stmt}{wi:TI}{g:TG}{tb:TS}{pos:Pos}(hp:PassesOwn (model X.prog X.w) X.A X.env X.xe)(hc:X.calm=true)(hi:PI X tg iter wi)(hg:PG X tg g)(hb:kA X body tb)
  (hs:∀ x,foldedSetIterable iter X.env x=pure x:=by intro _;rfl):PS X (.For tg iter body [] pos) (RL wi g tb):=by
 intro pins s σ H D I h;refine wpAny_For (cG (hi pins s σ H _ I h) fun v s1 h1=>cG h1 fun itv s2 h2=>?_) hs;obtain⟨it,fp,tn,J,H2,e,I2,T,st2,f2,W,⟨m0,w0⟩,turn⟩:=h2;subst e;have stat:∀ {H':Hp},(∀ b∈fp,H' b=none)->∀ b∈fp,o4 X pins H' b:=fun hn b hb=>⟨hn b hb,(f2 b hb).2⟩;refine codeAny_forLoop_any (fun n s'=>∃ i σ' H',aF X pins σ' H' s'/\tn i s'.heap/\(∀ b∈fp,H' b=none)/\W i n σ' H') ?_ m0 ⟨0,σ,H2,I2,st2,fun b hb=>(f2 b hb).1,w0⟩;rintro n s3 ⟨i,σ3,H3,I3,st3,fr3,w3⟩
 rcases turn i n σ3 H3 w3 with ⟨stop,qn⟩|⟨go,N,hN,step⟩
 ·refine wpAny_passesOwn hp (cG (T.done X rfl rfl rfl hc i pins s3 σ3 H3 X.xe I3 (stat fr3) st3 stop) fun r s4 ⟨hr,I4⟩=>?_);subst hr;exact wpAny_execs_nil ⟨σ3,H3,I4,qn⟩
 ·refine wpAny_passesOwn hp (cG (T.item X rfl rfl rfl hc i pins s3 σ3 H3 X.xe I3 (stat fr3) st3 go) fun r s4 ⟨u,hr,h4⟩=>?_);subst hr;refine wpAny_passesOwn hp (cG h4 fun _ s5 ⟨x,H5,I5,r5,y5,st5,fr5⟩=>?_);have I5':=I5.pinned (stat fr5) (T.obj _ _ st5);refine wpAny_passesOwn hp (cG (hg _ s5 σ3 H5 x u _ I5' r5 (step x H5 y5)) fun _ s6 ⟨σ6,H6,I6,q6⟩=>?_);refine wpAny_passesOwn hp (cG (hb _ s6 σ6 H6 _ I6 q6) fun f s7 q7=>?_);have again:∀ {σ7:St}{H7:Hp},aF X (pins++qj fp s5.heap) σ7 H7 s7->N σ7 H7->∃ m,m<n/\∃ i σ' H',aF X pins σ' H' s7/\tn i s7.heap/\(∀ b∈fp,H' b=none)/\W i m σ' H':=fun {σ7 H7} I7 n7=>by
   obtain⟨m',hm,w7⟩:=hN σ7 H7 n7;refine⟨m',hm,i+1,σ7,H7,I7.unpinned,T.keep _ _ _ st5 fun b hb o e=>(I7.pin (b,o) (mem_append_right _ (mem_append_right _ (iC hb e)))).1,fun b hb=>?_,w7⟩;obtain⟨o,e,d⟩:=T.obj _ _ st5 b hb;exact(I7.pin (b,o) (mem_append_right _ (mem_append_right _ (iC hb e)))).2.1
  cases f with
  | next=>obtain⟨σ7,H7,I7,n7⟩:=q7;exact again I7 n7
  | cont=>obtain⟨σ7,H7,I7,n7⟩:=q7;exact again I7 n7
  | brk=>obtain⟨σ7,H7,I7,q7⟩:=q7;exact⟨σ7,H7,I7.unpinned,q7⟩
  | ret v=>obtain⟨x7,σ7,H7,I7,r7,q7⟩:=q7;exact⟨x7,σ7,H7,I7.unpinned,r7,q7⟩
end
end L2
namespace L2
open PySem PySem.Spec PyProof.Rows
abbrev R2:=V->V->Hp->VK->Prop
def lc (X:Cx)(f:Value->Value->Sem Value)(r:R2):Prop:=
 ∀ (pins:List (Addr × Obj)) (s:Shared) (σ:St) (H:Hp) (x y:V) (v u:Value) (Q:VK),aF X pins σ H s->RelV x v->RelV y u->r x y H Q →
  wpAny (model X.prog X.w) X.A (f v u) (EP X pins σ Q) X.xe s
def Q9 (X:Cx)(f:Value->Sem Value)(r:V->Hp->VK->Prop):Prop:=
 ∀ (pins:List (Addr × Obj)) (s:Shared) (σ:St) (H:Hp) (x:V) (v:Value) (Q:VK),aF X pins σ H s->RelV x v->r x H Q →
  wpAny (model X.prog X.w) X.A (f v) (EP X pins σ Q) X.xe s
def fZ (X:Cx)(f:Value)(r:List V->Hp->VK->Prop):Prop:=
 ∀ (pins:List (Addr × Obj)) (s:Shared) (σ:St) (H:Hp) (xs:List V) (us:List Value) (Q:VK),aF X pins σ H s->aO xs us->r xs H Q →
  wpAny (model X.prog X.w) X.A (call f us) (EP X pins σ Q) X.xe s
def N5 (r:R2)(ta tb:TE):TE:=fun σ H Q=>ta σ H fun x H1=>tb σ H1 fun y H2=>r x y H2 Q
def Sw (r:V->Hp->VK->Prop)(ta:TE):TE:=fun σ H Q=>ta σ H fun x H1=>r x H1 Q
def rI (C:Int->Int->Prop)(g:Int->Int->V):R2:=fun x y H Q=>∃ i j,x=.int i/\y=.int j/\C i j/\Q (g i j) H
def JY (g:Int->Int->V):R2:=fun x y H Q=>∃ i j,x=.int i/\y=.int j/\Q (g i j) H
def rU (g:Int->V):V->Hp->VK->Prop:=fun x H Q=>∃ i,x=.int i/\Q (g i) H
section
variable {X:Cx}{a b c:Expr}{ta tb tc:TE}{pos:Pos}
theorem LY (ha:PE X a ta)(hb:PE X b tb){pins:List (Addr × Obj)}{s:Shared}{σ:St}{H:Hp}{R:V->V->Hp->Prop}(I:aF X pins σ H s)
  (h:ta σ H fun x H1=>tb σ H1 fun y H2=>R x y H2) {Q:Value->Shared->Prop}{f:Value->Value->Sem Value}
  (hf:∀ v u s2 x y H2,aF X pins σ H2 s2->RelV x v->RelV y u->R x y H2->wpAny (model X.prog X.w) X.A (f v u) Q X.xe s2) :
  wpAny (model X.prog X.w) X.A (eval a X.env) (fun v s₁=>wpAny (model X.prog X.w) X.A (eval b X.env) (fun u s₂=>wpAny (model X.prog X.w) X.A (f v u) Q X.xe s₂) X.xe s₁) X.xe s:=by
 refine cG (ha pins s σ H _ I h) fun v s1 ⟨x,H1,I1,r1,q1⟩=>?_;refine cG (hb pins s1 σ H1 _ I1 q1) fun u s2 ⟨y,H2,I2,r2,q2⟩=>?_;exact hf v u s2 x y H2 I2 r1 r2 q2
theorem qi {op:Operator}{r:R2}(ho:lc X (binaryOp op) r)(ha:PE X a ta)(hb:PE X b tb):PE X (.BinOp a op b pos) (N5 r ta tb):=by
 intro pins s σ H Q I h;exact wpAny_BinOp (LY ha hb I h fun v u s2 x y H2 I2 rx ry q=>ho pins s2 σ H2 x y v u Q I2 rx ry q)
theorem Qj {op:UnaryOp}{r:V->Hp->VK->Prop}(ho:Q9 X (unaryOp op) r)(ha:PE X a ta):PE X (.UnaryOp op a pos) (Sw r ta):=by
 intro pins s σ H Q I h;exact UnaryOp_ (cG (ha pins s σ H _ I h) fun v s1 ⟨x,H1,I1,r1,q1⟩=>ho pins s1 σ H1 x v Q I1 r1 q1)
theorem QX {f:Value->Value->Sem Value}{C:Int->Int->Prop}{g:Int->Int->Int}
  (rule:∀ (i j:Int) (t u:Tok) (s:Shared) (Q:Value->Shared->Prop) (E:Value->Shared->Prop),C i j->Q (.int (g i j) s.toks) {s with toks:=s.toks+1}->wpAny (model X.prog X.w) X.A (f (.int i t) (.int j u)) Q E s) :
  lc X f (rI C fun i j=>.int (g i j)):=by
 intro pins s σ H x y v u Q I rx ry h;obtain⟨i,j,rfl,rfl,hc,q⟩:=h;obtain⟨t,rfl⟩:=rx;obtain⟨t',rfl⟩:=ry;exact rule i j t t' s _ _ hc ⟨.int (g i j),H,I.tok _,⟨_,rfl⟩,q⟩
theorem Qa {f:Value->Value->Sem Value}{g:Int->Int->Int}
  (rule:∀ (i j:Int) (t u:Tok) (s:Shared) (Q:Value->Shared->Prop) (E:Value->Shared->Prop),Q (.int (g i j) s.toks) {s with toks:=s.toks+1}->wpAny (model X.prog X.w) X.A (f (.int i t) (.int j u)) Q E s) :
  lc X f (JY fun i j=>.int (g i j)):=by
 intro pins s σ H x y v u Q I rx ry h;obtain⟨i,j,rfl,rfl,q⟩:=h;obtain⟨t,rfl⟩:=rx;obtain⟨t',rfl⟩:=ry;exact rule i j t t' s _ _ ⟨.int (g i j),H,I.tok _,⟨_,rfl⟩,q⟩
theorem Js {f:Value->Value->Sem Value}{g:Int->Int->Bool}
  (rule:∀ (i j:Int) (t u:Tok) (s:Shared) (Q:Value->Shared->Prop) (E:Value->Shared->Prop),Q (.bool (g i j)) s->wpAny (model X.prog X.w) X.A (f (.int i t) (.int j u)) Q E s) :
  lc X f (JY fun i j=>.bl (g i j)):=by
 intro pins s σ H x y v u Q I rx ry h;obtain⟨i,j,rfl,rfl,q⟩:=h;obtain⟨t,rfl⟩:=rx;obtain⟨t',rfl⟩:=ry;exact rule i j t t' s _ _ ⟨.bl (g i j),H,I,rfl,q⟩
def OE (i j:Int):Prop:=0<=j/\j<=1000000/\i.natAbs<2 ^ 64
def Hj (i j:Int):Prop:=(-(2 ^ 64)<i/\i<2 ^ 64)\/(-(2 ^ 64)<j/\j<2 ^ 64)
theorem Hj.ok {i j:Int}(h:Hj i j):IntMulOk i j:=by
 rcases h with ⟨h1,h2⟩|⟨h1,h2⟩
 ·exact .of_left (intBits_le_64 h1 h2)
 ·exact .of_right (intBits_le_64 h1 h2)
theorem Nf:lc X (binaryOp .Add) (JY fun i j=>.int (i+j)):=Qa fun _ _ _ _ _ _ _ q=>add_int q
theorem Nk:lc X (binaryOp .Sub) (JY fun i j=>.int (i-j)):=Qa fun _ _ _ _ _ _ _ q=>sub_int q
theorem Ju:lc X (binaryOp .Mod) (rI (fun _ j=>j≠0) fun i j=>.int (i.fmod j)):=QX fun _ _ _ _ _ _ _ hc q=>mod_int' hc q
theorem Nj:lc X (binaryOp .Pow) (rI OE fun i j=>.int (i ^ j.toNat)):=QX fun _ _ _ _ _ _ _ hc q=>pow_int_small hc.1 hc.2.1 hc.2.2 q
theorem Sy {f:Value->Sem Value}{g:Int->Int}
  (rule:∀ (i:Int) (t:Tok) (s:Shared) (Q:Value->Shared->Prop) (E:Value->Shared->Prop),Q (.int (g i) s.toks) {s with toks:=s.toks+1}->wpAny (model X.prog X.w) X.A (f (.int i t)) Q E s) :
  Q9 X f (rU fun i=>.int (g i)):=by
 intro pins s σ H x v Q I rx h;obtain⟨i,rfl,q⟩:=h;obtain⟨t,rfl⟩:=rx;exact rule i t s _ _ ⟨.int (g i),H,I.tok _,⟨_,rfl⟩,q⟩
theorem Oe:Q9 X (unaryOp .USub) (rU fun i=>.int (-i)):=Sy fun _ _ _ _ _ q=>neg_int q
end
section
variable {X:Cx}{a b c:Expr}{ta tb tc:TE}{pos:Pos}
theorem Ee {pins:List (Addr × Obj)}{σ:St}{H:Hp}{s:Shared}{Q:VK}{k k':Bool}(I:aF X pins σ H s)(q:Q (.bl k) H)(e:k=k'):EP X pins σ Q (.bool k') s:=by
 subst e;exact⟨.bl k,H,I,rfl,q⟩
theorem KS:lc X (compareOp .Lt) (JY fun i j=>.bl (decide (i<j))):=Js fun _ _ _ _ _ _ _ q=>lt_int q
theorem Qd:lc X (compareOp .LtE) (JY fun i j=>.bl (decide (i<=j))):=Js fun _ _ _ _ _ _ _ q=>le_int q
theorem Qc:lc X (compareOp .Gt) (JY fun i j=>.bl (decide (j<i))):=Js fun _ _ _ _ _ _ _ q=>gt_int q
theorem Qb:lc X (compareOp .GtE) (JY fun i j=>.bl (decide (j<=i))):=Js fun _ _ _ _ _ _ _ q=>ge_int q
theorem Nh:lc X (compareOp .Is) (fun x y H Q=>y=.non/\Q (.bl (decide (x=.non))) H):=by
 intro pins s σ H x y v u Q I rx ry h;obtain⟨rfl,q⟩:=h
 cases ry
 refine is_none_gen (Ee I q ?_)
 cases x <;> first
  | (cases rx;rfl)
  | (obtain⟨t,rfl⟩:=rx;rfl)
theorem Jw:lc X (compareOp .IsNot) (fun x y H Q=>y=.non/\Q (.bl (!decide (x=.non))) H):=by
 intro pins s σ H x y v u Q I rx ry h;obtain⟨rfl,q⟩:=h
 cases ry
 refine isnot_none_gen (Ee I q ?_)
 cases x <;> first
  | (cases rx;rfl)
  | (obtain⟨t,rfl⟩:=rx;rfl)
theorem lc.or {f:Value->Value->Sem Value}{r r':R2}(h:lc X f r)(h':lc X f r'):lc X f (fun x y H Q=>r x y H Q\/r' x y H Q):=by
 intro pins s σ H x y v u Q I rx ry q
 rcases q with q|q
 ·exact h pins s σ H x y v u Q I rx ry q
 ·exact h' pins s σ H x y v u Q I rx ry q
theorem gF (b:Expr){op:CmpOp}(h:op≠.In:=by decide)(h2:op≠.NotIn:=by decide):behindInMarks op b=false:=by
 have e1:(op == CmpOp.In)=false:=by cases op <;> first|rfl|exact absurd rfl h
 have e2:(op == CmpOp.NotIn)=false:=by cases op <;> first|rfl|exact absurd rfl h2
 cases b <;> simp[behindInMarks,e1,e2]
theorem uT {op:CmpOp}{r:R2}(ho:lc X (compareOp op) r)(ha:PE X a ta)(hb:PE X b tb)(hm:behindInMarks op b=false):PE X (.Compare a [op] [b] pos) (N5 r ta tb):=by
 intro pins s σ H Q I h;exact wpAny_Compare1 (LY ha hb I h fun v u s2 x y H2 I2 rx ry q=>ho pins s2 σ H2 x y v u Q I2 rx ry q) hm
def QB (t:TE):TT:=fun σ H Q=>t σ H fun x H'=>∃ k,x=.bl k/\Q k H'
theorem uV {op:CmpOp}{r:R2}(ho:lc X (compareOp op) r)(ha:PE X a ta)(hb:PE X b tb)(hm:behindInMarks op b=false):PT X (.Compare a [op] [b] pos) (QB (N5 r ta tb)):=by
 intro pins s σ H Q I h;refine wpAny_isTrue_Compare1 (cG (ha pins s σ H _ I h) fun v s1 ⟨x,H1,I1,r1,q1⟩=>cG (hb pins s1 σ H1 _ I1 q1) fun u s2 ⟨y,H2,I2,r2,q2⟩=>
  cG (ho pins s2 σ H2 x y v u _ I2 r1 r2 q2) fun c s3 ⟨z,H3,I3,r3,k,e,q3⟩=>?_) hm
 subst e
 cases r3
 exact wpAny_truthy_bool ⟨H3,I3,q3⟩
theorem uK:(sizeLine:Nat)<2 ^ 63:=by rw[sizeLine_eq];decide
theorem vals1 {x:V}{us:List Value}(r:aO [x] us):∃ u,us=[u]/\RelV x u:=by
 cases r with
 | cons r1 r2=>cases r2;exact⟨_,rfl,r1⟩
theorem vals2 {x y:V}{us:List Value}(r:aO [x,y] us):∃ u w',us=[u,w']/\RelV x u/\RelV y w':=by
 cases r with
 | cons r1 r2=>
  cases r2 with
  | cons r3 r4=>cases r4;exact⟨_,_,rfl,r1,r3⟩
theorem CU:fZ X (.builtin "abs") (fun xs H Q=>∃ i,xs=[.int i]/\Q (.int (if i<0 then -i else i)) H):=by
 intro pins s σ H xs us Q I r h;obtain⟨i,rfl,q⟩:=h;obtain⟨u,rfl,t,rfl⟩:=vals1 r;exact call_abs_int fun u tk=>⟨.int (if i<0 then -i else i),H,I.tok _,⟨_,rfl⟩,q⟩
theorem A5 (hc:X.calm=true):fZ X (.builtin "max") (fun xs H Q=>∃ i j,xs=[.int i,.int j]/\Q (.int (if j>i then j else i)) H):=by
 intro pins s σ H xs us Q I r h;obtain⟨i,j,rfl,q⟩:=h;obtain⟨u,w',rfl,⟨t,rfl⟩,⟨t',rfl⟩⟩:=vals2 r;refine max_two_ints (I.ok.hd hc) fun h' tk k=>⟨_,H,I.kept k,?_,q⟩
 by_cases hj:j>i
 ·rw[if_pos hj,if_pos hj];exact⟨_,rfl⟩
 ·rw[if_neg hj,if_neg hj];exact⟨_,rfl⟩
theorem A7 (hc:X.calm=true):fZ X (.builtin "min") (fun xs H Q=>∃ i j,xs=[.int i,.int j]/\Q (.int (if j<i then j else i)) H):=by
 intro pins s σ H xs us Q I r h;obtain⟨i,j,rfl,q⟩:=h;obtain⟨u,w',rfl,⟨t,rfl⟩,⟨t',rfl⟩⟩:=vals2 r;refine min_two_ints (I.ok.hd hc) fun h' tk k=>⟨_,H,I.kept k,?_,q⟩
 by_cases hj:j<i
 ·rw[if_pos hj,if_pos hj];exact⟨_,rfl⟩
 ·rw[if_neg hj,if_neg hj];exact⟨_,rfl⟩
end
end L2
namespace L2
open PySem PySem.Spec PyProof.Rows
structure OJ (h:Heap) (x dx C:Addr) (mA:Str->Option Value):Prop where
 obj:h.get? x=some (PySem.W.instObj C dx)
 ns:h.Ns1 dx mA
 ne:dx≠x
theorem Bx {h:Heap}{dx:Addr}{mA:Str->Option Value}(n:h.Ns1 dx mA):∃ od,h.get? dx=some od/\∀ name,PySem.W.lookIn name od=some (mA name):=by
 obtain⟨o,es,ep,ho,hd,hk,_,hm⟩:=n;refine⟨o,ho,fun name=>?_⟩;have e:=hm name;unfold nsFind findBy at e;rw[<-Array.find?_toList]at e;unfold PySem.W.lookIn;rw[hd];dsimp only
 split
 ·rename_i y q;rw[q]at e;exact congrArg some e
 ·rename_i q;rw[q]at e;have a:es.toList.any (·.refKey)=false:=by
   rw[List.any_eq_false];intro y hy;obtain⟨z,t,hkey⟩:=hk y (Array.mem_toList_iff.mp hy);simp[DictEntry.refKey,hkey]
  have a':¬ es.toList.any (·.refKey)=true:=by rw[a];exact Bool.false_ne_true
  rw[if_neg a'];exact congrArg some e
theorem OJ.look {h:Heap}{x dx C:Addr}{mA:Str->Option Value}(I:OJ h x dx C mA):∃ od,PySem.W.InstAt h x (PySem.W.instObj C dx) C (some od)/\∀ name,PySem.W.lookIn name od=some (mA name):=
 let ⟨od,ho,hl⟩:=Bx I.ns
 ⟨od,⟨I.obj,rfl,rfl,ho⟩,hl⟩
section
variable {prog:Program}{w:World}{A:Around}{E:Value->Shared->Prop}{s:Shared}{K:Frg}{x dx C f:Addr}{mA:Str->Option Value}{name:Str}{v:Value}
end
theorem Ho.some_of {v:V}{o:Option Value}(r:Ho (some v) o):∃ u,o=some u/\RelV v u:=by
 cases o with
 | none=>exact(show False from r).elim
 | some u=>exact⟨u,rfl,r⟩
section
variable {P:Program}{w:World}{H H':Hp}{h h':Heap}{a C dx:Addr}{fs fs':List (Str × V)}
end
structure Q3 (K:Frg) (C:Addr):Prop where
 pg:PySem.W.plainGet K C Str.empty=true
 hd:PySem.W.hasDictIn K C=true
 po:PySem.W.plainOver K C=true
 sa:PySem.W.findIn K (.ref C) "__setattr__"=some (some (.builtin "object.__setattr__"))
theorem Q3.get {K:Frg}{C:Addr}(c:Q3 K C)(f:Str):PySem.W.plainGet K C f=true:=c.pg
structure SD (K:Frg) (C:Addr) (f:Str) (v:V) (u:Value):Prop where
 at_:PySem.W.findIn K (.ref C) f=some (some u)
 rel:RelV v u
 get:PySem.W.specialIn K u "__get__"=some none
 cp:PySem.W.copiedNames.contains f=false
structure Sf (K:Frg) (C:Addr) (m:Str) (f:Addr):Prop where
 at_:PySem.W.findIn K (.ref C) m=some (some (.ref f))
 fn:PySem.W.isFn K (.ref f)=true
 kp:PySem.W.keepIn K (.ref f)=true
section
variable {X:Cx}{pins:List (Addr × Obj)}{σ:St}{H:Hp}{s:Shared}{a C dx:Addr}{fs:List (Str × V)}{f:Str}{v:V}{A:Around}{E:Value->Shared->Prop}
theorem aF.made (I:aF X pins σ H s):aF X pins σ (cO (cO H s.heap.objs.size (.own (s.heap.objs.size+1))) (s.heap.objs.size+1) (.ins C s.heap.objs.size []))
  {s with heap:=(s.heap.push PySem.W.emptyDict).push (PySem.W.instObj C s.heap.objs.size)}:=by
 have e1:(s.heap.push PySem.W.emptyDict).get? s.heap.objs.size=some PySem.W.emptyDict:=Heap.get?_push_size s.heap rfl;have e2:((s.heap.push PySem.W.emptyDict).push (PySem.W.instObj C s.heap.objs.size)).get? (s.heap.objs.size+1)=some (PySem.W.instObj C s.heap.objs.size):=by
  have:=Heap.get?_push_size (s.heap.push PySem.W.emptyDict) (o:=PySem.W.instObj C s.heap.objs.size) rfl
  rwa [Heap.size_push]at this
 have e3:(s.heap.push PySem.W.emptyDict).Ns s.heap.objs.size (fun _=>none):=⟨PySem.W.emptyDict,#[],_,e1,rfl,(fun e he=>absurd he (by simp)),fun _=>rfl⟩
 have I1:=I.laid (a:=s.heap.objs.size) (o:=.own (s.heap.objs.size+1)) (h':=s.heap.push PySem.W.emptyDict) (t':=s.toks) (fun b u q=>Heap.get?_push_of_some _ q) (le_refl _) ⟨_,e1⟩;refine I1.laid (a:=s.heap.objs.size+1) (o:=.ins C s.heap.objs.size []) (t':=s.toks) (fun b u q=>Heap.get?_push_of_some _ q) (Nat.le_of_eq (Heap.size_push _ _)) ?_;have ne:s.heap.objs.size≠s.heap.objs.size+1:=ne_of_lt (lt_succ_self _);refine⟨by rw[aW ne,aZ],zero_le _,ne,e2,fun _=>none,(Heap.Ns1.of_empty e3).at fun o q=>Heap.get?_push_of_some _ q,fun _=>True.intro,fun y hy=>absurd rfl hy⟩
end
section
variable {X:Cx}{o e value:Expr}{f:Str}{pos pos' tpos:Pos}{ta tv:TE}
end
section
variable {X:Cx}{pins:List (Addr × Obj)}{σ:St}{H:Hp}{s:Shared}{A:Around}{E:Value->Shared->Prop}{Q:Value->Shared->Prop}{c:Value}{b:Bool}
inductive o9 (K:Frg) (H:Hp):V->Value->Prop where
 | non:o9 K H .non (.type "NoneType")
 | bl (x:Bool):o9 K H (.bl x) (.type "bool")
 | int (i:Int):o9 K H (.int i) (.type "int")
 | str (x:Str):o9 K H (.str x) (.type "str")
 | flt (x:UInt64):o9 K H (.flt x) (.type "float")
 | lst {a:Addr}{xs:List V} (e:H a=some (.lst xs)):o9 K H (.ref a) (.type "list")
 | frz {a:Addr}{o:Obj}{xs:List V} (e:H a=some (.frz o (.lst xs))):o9 K H (.ref a) (.type "list")
 | tup {a:Addr}{xs:List V} (e:H a=some (.tup xs)):o9 K H (.ref a) (.type "tuple")
 | dK {a:Addr}{kvs:List (Key × V)} (e:H a=some (.dK kvs)):o9 K H (.ref a) (.type "dict")
 | dT {a:Addr}{kvs:List (List Key × V)} (e:H a=some (.dT kvs)):o9 K H (.ref a) (.type "dict")
 | ins {a C dx:Addr}{fs:List (Str × V)} (e:H a=some (.ins C dx fs)) (cl:Q3 K C) (ha:PySem.W.findIn K (.ref C) "__class__"=some (some (.builtin "object.__class__")))
   (hn:PySem.W.specialIn K (.builtin "object.__class__") "__get__"=some (some (.builtin "getset_descriptor.__get__"))) (htk:PySem.W.takesIn K (.builtin "object.__class__")=some true)
   (hm:PySem.W.mroIn K C (.type "object")=some true):o9 K H (.ref a) (.ref C)
end
end L2
namespace L2
open PySem PySem.Spec PyProof.Rows
structure bX (k:Nat) (A:Around):Prop where
 hd:A.handled=none
 dp:A.depth+3*k+5<recursionLimit
 un:A.units+16*k+200<cLine
theorem bX.mono {j k:Nat}{A:Around}(r:bX k A)(h:j<=k):bX j A:=⟨r.hd,by have:=r.dp;omega,by have:=r.un;omega⟩
theorem bX.deeper {k:Nat}{A:Around}(r:bX (k+1) A)(env:Env):bX k (A.deeper env):=
 ⟨r.hd,by have:=r.dp;show A.depth+1+3*k+5<_;omega,by have:=r.un;show A.units+3+16*k+200<_;omega⟩
theorem bX.in1 {k:Nat}{A:Around}(r:bX (k+1) A):bX k A.in1:=
 ⟨r.hd,by have:=r.dp;show A.depth+3*k+5<_;omega,by have:=r.un;show A.units+1+16*k+200<_;omega⟩
theorem bX.depth {k:Nat}{A:Around}(r:bX k A):A.depth<recursionLimit:=by have:=r.dp;omega
theorem bX.units {k:Nat}{A:Around}(r:bX k A):A.units+64<cLine:=by have:=r.un;omega
def Qy:TA:=fun _ H Q=>Q [] H
def K4 (ta:TE)(tr:TA):TA:=fun σ H Q=>ta σ H fun x H1=>tr σ H1 fun xs H2=>Q (x::xs) H2
section
variable {X:Cx}{e:Expr}{es:List Expr}{te:TE}{t:TA}{pos:Pos}
theorem uR:PA X [] Qy:=fun _ _ _ _ H Q I h=>Calls.spliced_nil ⟨[],H,I,.nil,h⟩
theorem oC (ha:PE X e te)(hr:PA X es t)(hs:starEach (e::es) X.env=(false,eval e X.env)::starEach es X.env:=by rfl):PA X (e::es) (K4 te t):=by
 intro pos pins s σ H Q I h;rw[hs];show wpAny _ _ (spliced ((false,eval e X.env)::backTo pos (starEach es X.env))) _ _ s;refine Calls.spliced_cons (cG (ha pins s σ H _ I h) fun u s1 ⟨x,H1,I1,r1,q1⟩=>?_);exact cG (hr pos pins s1 σ H1 _ I1 q1) fun us s2 ⟨xs,H2,I2,r2,q2⟩=>⟨x::xs,H2,I2,.cons r1 r2,q2⟩
def RR (t:TA):TE:=fun σ H Q=>t σ H fun xs H1=>xs.length<=sizeLine/\∀ p,H1 p=none->Q (.ref p) (cO H1 p (.tup xs))
def RN (t:TA):TE:=fun σ H Q=>t σ H fun xs H1=>xs.length<=sizeLine/\∀ p,H1 p=none->Q (.ref p) (cO H1 p (.lst xs))
theorem Ny {x1}(h:PA X es t):PE X (.Tuple es x1 pos) (RR t):=by
 intro pins s σ H Q I hq;refine wpAny_Tuple_spliced (cG (h pos pins s σ H _ I hq) fun us s1 ⟨xs,H1,I1,r,z,q⟩=>⟨by rw[<-r.length];exact z,?_⟩)
 have hf:H1 s1.heap.objs.size=none:=I1.hok.fresh (le_refl _);refine⟨.ref s1.heap.objs.size,cO H1 s1.heap.objs.size (.tup xs),I1.laid (t':=s1.toks) (fun b u e=>Heap.get?_push_of_some _ e) (le_refl _) ?_,rfl,q _ hf⟩;exact⟨z,us,r,⟨_,Heap.get?_push_size _ rfl,rfl,_,rfl⟩⟩
theorem Nt (h:PA X es t):PE X (.List es pos) (RN t):=by
 intro pins s σ H Q I hq;refine wpAny_List_spliced (cG (h pos pins s σ H _ I hq) fun us s1 ⟨xs,H1,I1,r,z,q⟩=>⟨by rw[<-r.length];exact z,?_⟩)
 have hf:H1 s1.heap.objs.size=none:=I1.hok.fresh (le_refl _);refine⟨.ref s1.heap.objs.size,cO H1 s1.heap.objs.size (.lst xs),I1.laid (t':=s1.toks) (fun b u e=>Heap.get?_push_of_some _ e) (le_refl _) ?_,rfl,q _ hf⟩;exact⟨z,us,0,r,Heap.get?_push_size _ rfl⟩
end
abbrev Sp:=List V->Hp->VK->XK->Prop
abbrev Cf:=List Env->Hp->Shared->XK->Value->Shared->Prop
structure xi (P:Program) (w:World) (K:Frg) (mg:Str->Option Value) (base:Heap) (A:Around) (outer:List Env) (s:Shared) (H:Hp):Prop where
 frames:A.frames=some outer
 mod:Mod K mg base
 bs:∀ b o,base.get? b=some o->s.heap.get? b=some o/\H b=none
 bsz:base.objs.size<=s.heap.objs.size
 funs:s.heap.FunFrames base outer
 frf:∀ b∈Bk outer,H b=none
 hok:ig P w H s.heap
 bare:AllBare s.gens
def CE (outer:List Env)(P:Program)(w:World)(H:Hp)(s:Shared)(Q:VK)(u:Value)(s':Shared):Prop:=
 ∃ v H',s'.os=s.os/\AllBare s'.gens/\Un (Bk outer) [] H H' s.heap s'.heap/\ig P w H' s'.heap/\RelV v u/\Q v H'
def CR (CX:Cf)(outer:List Env)(P:Program)(w:World)(H:Hp)(s:Shared)(Q:VK)(E:XK)(r:Result)(s':Shared):Prop:=
 match r with
 | .ok (.ret u)=>CE outer P w H s Q u s'
 | .ok _=>False
 | .error e=>CX outer H s E e s'
structure ja (P:Program) (w:World) (K:Frg) (mg:Str->Option Value) (base:Heap) (CX:Cf) (k:Nat) (f:Addr) (fd:FuncData) (ps:List Str) (sp:Sp):Prop where
 len:∀ vs H Q E,sp vs H Q E->vs.length=ps.length
 run:∀ (A:Around) (outer:List Env) (s:Shared) (H:Hp) (args:Args) (us:List Value) (vs:List V) (Q:VK) (E:XK),bX k A->xi P w K mg base A outer s H->BindsTo s fd args (ps.zip us)->aO vs us->sp vs H Q E →
  codeAny (model P w) A (.call (.ref f) args) (CR CX outer P w H s Q E) s
theorem ja.mono {P:Program}{w:World}{K:Frg}{mg:Str->Option Value}{base:Heap}{CX:Cf}{j k:Nat}{f:Addr}{fd:FuncData}{ps:List Str}{sp:Sp}(F:ja P w K mg base CX j f fd ps sp)(h:j<=k) :
  ja P w K mg base CX k f fd ps sp:=⟨F.len,fun A outer s H args us vs Q E hr=>F.run A outer s H args us vs Q E (hr.mono h)⟩
theorem ja.imp {P:Program}{w:World}{K:Frg}{mg:Str->Option Value}{base:Heap}{CX:Cf}{k:Nat}{f:Addr}{fd:FuncData}{ps:List Str}{sp sp':Sp}(F:ja P w K mg base CX k f fd ps sp)
  (h:∀ vs H Q E,sp' vs H Q E->sp vs H Q E):ja P w K mg base CX k f fd ps sp':=
 ⟨fun vs H Q E q=>F.len vs H Q E (h _ _ _ _ q),fun A outer s H args us vs Q E hr he hb hv hs=>F.run A outer s H args us vs Q E hr he hb hv (h _ _ _ _ hs)⟩
theorem xi.in1 {P:Program}{w:World}{K:Frg}{mg:Str->Option Value}{base:Heap}{A:Around}{outer:List Env}{s:Shared}{H:Hp}(e:xi P w K mg base A outer s H) :
  xi P w K mg base A.in1 outer s H:=⟨e.frames,e.mod,e.bs,e.bsz,e.funs,e.frf,e.hok,e.bare⟩
section
variable {X:Cx}{pins:List (Addr × Obj)}{σ:St}{H:Hp}{s s':Shared}
theorem aF.env0 (I:aF X pins σ H s):xi X.prog X.w X.K X.mg X.base X.A X.stack s H:=
 ⟨I.ok.frames,I.ok.mod,I.bs,le_trans I.ok.bsz I.sz,I.stack,I.stkFree,I.hok,I.bare⟩
theorem aF.after {Q:VK}{u:Value}(I:aF X pins σ H s)(h:CE X.stack X.prog X.w H s Q u s'):EP X pins σ Q u s':=by
 obtain⟨v,H',os,bare,un,hok,r,q⟩:=h;obtain⟨hh,g,d,t,os'⟩:=s';obtain rfl:os'=s.os:=os;exact⟨v,H',I.call (h':=hh) (g':=g) (d':=d) (t':=t) (ch:=[]) un hok bare (fun b z=>absurd z (by simp)),r,q⟩
end
def K3 (sp:Sp)(dvs:List V)(E:XK)(t:TA):TE:=fun σ H Q=>t σ H fun vs H1=>sp (vs++dvs) H1 Q E
def Binds (K:Frg)(fd:FuncData)(ps:List Str)(ds:List Value):Prop:=
 ∀ (s:Shared) (us:List Value),K.In s.heap->(us++ds).length=ps.length->BindsTo s fd ⟨us,[]⟩ (ps.zip (us++ds))
theorem Binds.all {K:Frg}{fd:FuncData}{ps:List Str}(h:∀ us:List Value,us.length=ps.length->bindArgs fd ⟨us,[]⟩=pure (ps.zip us)):Binds K fd ps []:=fun s us _ hl=>by
 rw[append_nil]at hl ⊢;exact .of_eq (h us hl)
def xo (CX:Cf)(X:Cx)(E:XK):Prop:=∀ (pins:List (Addr × Obj)) (σ:St) (H:Hp) (s:Shared) (e:Value) (s':Shared),aF X pins σ H s->CX X.stack H s E e s'->X.xe e s'
section
variable {X:Cx}{CX:Cf}{k:Nat}{f C:Addr}{fd:FuncData}{ps:List Str}{sp:Sp}{dvs:List V}{ds:List Value}{E:XK}{x m:Str}{p pos apos:Pos}{e o:Expr}{es:List Expr}{ta:TE}{t:TA}
theorem NT {pins:List (Addr × Obj)}{σ:St}{H:Hp}{s:Shared}{Q:VK}{us:List Value}{vs:List V}(F:ja X.prog X.w X.K X.mg X.base CX k f fd ps sp)(hr:bX k X.A)(hb:Binds X.K fd ps ds)(hd:aO dvs ds)(hx:xo CX X E)
  (I:aF X pins σ H s) (r:aO vs us) (h:sp (vs++dvs) H Q E):wpAny (model X.prog X.w) X.A (call (.ref f) us) (EP X pins σ Q) X.xe s:=by
 have r2:aO (vs++dvs) (us++ds):=r.append hd;have hl:(us++ds).length=ps.length:=by rw[<-r2.length];exact F.len _ _ _ _ h
 refine wpAny_call (codeAny_mono (F.run X.A X.stack s H ⟨us,[]⟩ (us++ds) (vs++dvs) Q E hr I.env0 (hb s us I.kIn hl) r2 h) fun r s' hq=>?_)
 cases r with
 | error e=>exact hx pins σ H s e s' I hq
 | ok fl=>
  cases fl with
  | ret u=>exact I.after hq
  | next=>exact False.elim hq
  | brk=>exact False.elim hq
  | cont=>exact False.elim hq
theorem Jy (F:ja X.prog X.w X.K X.mg X.base CX k f fd ps sp)(hr:bX k X.A)(hg:Gl X x)(hm:X.mg x=some (.ref f))(hk:PySem.W.keepIn X.K (.ref f)=true)(hb:Binds X.K fd ps ds)(hd:aO dvs ds)(hx:xo CX X E)
  (ha:PA X (e::es) t) (hdb:(x == ("__debug__":Str))=false:=by decide) (he:starEach (e::es) X.env=(false,eval e X.env)::starEach es X.env:=by rfl) (hpl:(backTo pos (starEach es X.env)).any (·.1)=false:=by rfl) :
  PE X (.Call (.Name x p) (e::es) [] pos) (K3 sp dvs E t):=by
 intro pins s σ H Q I h;refine wpAny_Call_Name_kw (IP I hg hm ?_ hdb);refine PySem.W.callWith_K (h₀:=X.base) I.ok.mod.kin hk (cG (ha pos pins s σ H _ I h) fun us s1 ⟨vs,H1,I1,r,q⟩=>⟨I1.kIn,?_⟩) he hpl;exact NT F hr hb hd hx I1 r q
structure Mk (K:Frg) (C f:Addr):Prop where
 makes:PySem.W.makesIn K C=true
 init:PySem.W.findIn K (.ref C) "__init__"=some (some (.ref f))
 fn:PySem.W.isFn K (.ref f)=true
 kp:PySem.W.keepIn K (.ref C)=true
end
section
variable {X:Cx}{CX:Cf}{k:Nat}{f C:Addr}{fd:FuncData}{ps ks:List Str}{sp:Sp}{E:XK}{x m:Str}{p pos apos kpos:Pos}{e o:Expr}{es:List Expr}{kws:List Keyword}{te ta:TE}{t tk:TA}{nm:Option Str}
structure Q7 (K:Frg) (fd:FuncData) (ps ks:List Str) (g:List Value->List Value->List Value) (gV:List V->List V->List V):Prop where
 to:∀ (s:Shared) (us ws:List Value),K.In s.heap->(g us ws).length=ps.length->BindsTo s fd ⟨us,ks.zip ws⟩ (ps.zip (g us ws))
 rel:∀ {vs:List V}{us:List Value}{zs:List V}{ws:List Value},aO vs us->aO zs ws->aO (gV vs zs) (g us ws)
variable {g:List Value->List Value->List Value}{gV:List V->List V->List V}
end
structure ax (N P:List Str) (sc:Scope):Prop where
 kind:sc.kind=.function
 co:sc.isCoroutine=false
 gen:sc.isGenerator=false
 nd:N.Nodup
 pre:N.take P.length=P
 par:∀ x∈P,sc.names.lookup x=some .local\/sc.names.lookup x=some .cell
 nofree:∀ y∈sc.names,y.2≠.free
theorem rT {kindOf:Str->Option NameKind}{x:Str}:∀ {binds:List (Str × Value)}{m:Str->Option Value},(∀ v,(x,v)∉binds)->bindL kindOf binds m x=m x
 | [],_,_=>rfl
 | (n,v)::r,m,h=>by
  unfold bindL;rw[rT fun w hw=>h w (mem_cons_of_mem _ hw)]
  split
  ·have:x≠n:=by rintro rfl;exact h v mem_cons_self
   simp[this]
  ·rfl
theorem rR {kindOf:Str->Option NameKind}{x:Str}:∀ {binds:List (Str × Value)}{m:Str->Option Value},(∀ v,(x,v)∉binds)->bindC kindOf binds m x=m x
 | [],_,_=>rfl
 | (n,v)::r,m,h=>by
  unfold bindC;rw[rR fun w hw=>h w (mem_cons_of_mem _ hw)]
  split
  ·rfl
  ·have:x≠n:=by rintro rfl;exact h v mem_cons_self
   simp[this]
theorem rS {kindOf:Str->Option NameKind}{x:Str}{v:Value}:∀ {P:List Str}{vs:List Value}{i:Nat}{m:Str->Option Value},P.Nodup->P[i]?=some x->vs[i]?=some v->kindOf x=some .local →
  bindL kindOf (P.zip vs) m x=some v
 | [],_,_,_,_,h,_,_=>by simp at h
 | _::_,[],_,_,_,_,h,_=>by simp at h
 | p::P,w::vs,0,m,nd,h1,h2,hk=>by
  simp at h1 h2;subst h1;subst h2;show bindL kindOf ((p,w)::P.zip vs) m p=_;unfold bindL;rw[rT fun v hv=>(nodup_cons.mp nd).1 (List.of_mem_zip hv).1,if_pos hk];simp
 | p::P,w::vs,i+1,m,nd,h1,h2,hk=>by
  show bindL kindOf ((p,w)::P.zip vs) m x=_;unfold bindL;exact rS (i:=i) (nodup_cons.mp nd).2 (by simpa using h1) (by simpa using h2) hk
theorem rQ {kindOf:Str->Option NameKind}{x:Str}{v:Value}:∀ {P:List Str}{vs:List Value}{i:Nat}{m:Str->Option Value},P.Nodup->P[i]?=some x->vs[i]?=some v->kindOf x≠some .local →
  bindC kindOf (P.zip vs) m x=some v
 | [],_,_,_,_,h,_,_=>by simp at h
 | _::_,[],_,_,_,_,h,_=>by simp at h
 | p::P,w::vs,0,m,nd,h1,h2,hk=>by
  simp at h1 h2;subst h1;subst h2;show bindC kindOf ((p,w)::P.zip vs) m p=_;unfold bindC;rw[rR fun v hv=>(nodup_cons.mp nd).1 (List.of_mem_zip hv).1,if_neg hk];simp
 | p::P,w::vs,i+1,m,nd,h1,h2,hk=>by
  show bindC kindOf ((p,w)::P.zip vs) m x=_;unfold bindC;exact rQ (i:=i) (nodup_cons.mp nd).2 (by simpa using h1) (by simpa using h2) hk
def start (N:List Str)(vs:List V):St:=vs.map some++replicate (N.length-vs.length) none
def pC (CX:Cf)(P:Program)(w:World)(K:Frg)(mg:Str->Option Value)(base:Heap)(N:List Str)(qual:Str)(scope:Scope)(f:Addr)(cd:Value)(A:Around)(outer:List Env)(s:Shared)(H:Hp)(E:XK):Cx where
 prog:=P
 w:=w
 K:=K
 mg:=mg
 base:=base
 A:=A.deeper (envOfC qual scope s.heap.objs.size f cd)
 N:=N
 s₀:=s
 H₀:=H
 env:=envOfC qual scope s.heap.objs.size f cd
 outer:=outer
 stack:=envOfC qual scope s.heap.objs.size f cd::outer
 ex:=[]
 calm:=true
 fn:=fun _=>true
 pn:=[]
 xe:=fun e s'=>wpAny (model P w) (A.deeper (envOfC qual scope s.heap.objs.size f cd)) (leaving (envOfC qual scope s.heap.objs.size f cd) e) (fun _ s''=>CX outer H s E e s'') (fun e' s''=>CX outer H s E e' s'') s'
theorem vH {sc:Scope}{n:Nat}{x:Str}(h:sc.names.lookup x=some .cell):∃ c,(cellsFrom n sc.names []).lookup x=some c:=by
 have q:=PySem.W.cellsFrom_some sc.names n [] (.inl h);exact isSome_iff_exists.mp q
theorem Bn {CX:Cf}{P:Program}{w:World}{K:Frg}{mg:Str->Option Value}{base:Heap}{N ps:List Str}{qual:Str}{scope:Scope}{f:Addr}{cd:Value}{A:Around}{outer:List Env}{s s1:Shared}{H:Hp}{E:XK}{us:List Value}{vs:List V}
  (S:ax N ps scope) (hd:A.handled=none) (e0:xi P w K mg base A outer s H) (hl:vs.length=ps.length) (r:aO vs us)
  (x:InCallC s s.heap.objs.size (bindL (envOfC qual scope s.heap.objs.size f cd).kindOf (ps.zip us) fun _=>none) (cellsFrom (s.heap.objs.size+1) scope.names []) (bindC (envOfC qual scope s.heap.objs.size f cd).kindOf (ps.zip us) fun _=>none) s1) :
  aF (pC CX P w K mg base N qual scope f cd A outer s H E) [] (start N vs) H s1:=by
 have hpl:ps.length<=N.length:=by have:=congrArg List.length S.pre;rw[length_take]at this;omega
 obtain⟨h1,tk,rfl,hk⟩:=x.done;have noA:∀ b:Addr,b∉(pC CX P w K mg base N qual scope f cd A outer s H E).ex:=fun b z=>absurd (show b∈([]:List Addr) from z) (by simp)
 refine⟨⟨e0.mod,S.kind,rfl,rfl,le_refl _,fun y z c h1 h2=>?_,fun y hy=>?_,fun y c _ h=>?_,fun _=>hd,Around.frames_deeper e0.frames,.inr ⟨rfl,rfl⟩,fun b z=>absurd z (noA b),e0.bs,e0.bsz,fun b _ _=>noA b,fun b z=>absurd z (noA b),e0.funs,e0.frf⟩,
  rfl,e0.bare,Un.kept hk,⟨_,x.toInCall.ns,fun i y v h1 h2 h3=>?_⟩,fun y c h=>⟨_,x.cell y c h⟩,e0.hok.fresh (le_refl _),fun y c h=>?_,fun p hp=>absurd (show p∈([]:List (Addr × Obj)) from hp) (by simp),e0.hok.kept hk,?_⟩
 ·exact name_of_addr x.apart (PySem.mem_of_lookup h1) (PySem.mem_of_lookup h2)
 ·have hy:scope.names.lookup y=some .cell\/scope.names.lookup y=some .free:=hy
  rcases hy with hy|hy
  ·exact vH hy
  ·exact absurd rfl (S.nofree _ (PySem.mem_of_lookup hy))
 ·exact Nat.le_of_lt (x.above y c (PySem.mem_of_lookup h))
 ·have hi:i<vs.length:=by
   unfold start at h2
   by_cases hi:i<vs.length
   ·exact hi
   ·rw[getElem?_append_right (by simpa using hi)]at h2
    rw[getElem?_replicate]at h2
    split at h2 <;> cases h2
  have ha:vs[i]?=some v:=by
   unfold start at h2;rw[getElem?_append_left (by simpa using hi),getElem?_map]at h2
   cases e:vs[i]? with
   | none=>rw[e]at h2;cases h2
   | some a=>rw[e]at h2;cases h2;rfl
  obtain⟨u,hu,rv⟩:=r.get ha;have hp:ps[i]?=some y:=by
   rw[<-S.pre,List.getElem?_take_of_lt (by omega)];exact h1
  have ndP:ps.Nodup:=by rw[<-S.pre];exact S.nd.sublist (List.take_sublist _ _)
  refine⟨u,rv,?_⟩
  rcases S.par y (mem_of_getElem? hp) with k|k
  ·exact .inl ⟨k,rS ndP hp hu k⟩
  ·obtain⟨c,e⟩:=vH (n:=s.heap.objs.size+1) k;refine .inr ⟨.inl k,c,e,?_⟩;have q:=x.cell y c e;rw[rQ ndP hp hu (by show scope.names.lookup y≠_;rw[k];decide)]at q
   exact q
 ·exact e0.hok.fresh (Nat.le_of_lt (x.above y c (PySem.mem_of_lookup h)))
 ·unfold start;show _=N.length;rw[List.length_append,length_map,length_replicate];omega
theorem KG {CX:Cf}{P:Program}{w:World}{K:Frg}{mg:Str->Option Value}{base:Heap}{k:Nat}{f:Addr}{name qual:Str}{params:Arguments}{body:List Stmt}{scope:Scope}{dV kV doc pm cdv ct oc:Value}{an od:Option Addr}
  {osl:Array (Option Value)}{N ps:List Str}{sp:Sp} (lk:K.lookup f=some ⟨oc,od,.func (PySem.W.fnOf name qual params body scope dV kV doc pm an cdv ct),osl⟩) (hcd:PySem.W.codeIn K cdv qual=true) (S:ax N ps scope)
  (len:∀ vs H Q E,sp vs H Q E->vs.length=ps.length)
  (hbody:∀ (A:Around) (outer:List Env) (s:Shared) (H:Hp) (vs:List V) (Q:VK) (E:XK),bX k (A.deeper (envOfC qual scope s.heap.objs.size f cdv))->sp vs H Q E →
   ∃ t,kA (pC CX P w K mg base N qual scope f cdv A outer s H E) body t/\t {nx:=fun _ H'=>Q .non H',rt:=Q} (start N vs) H) :
  ja P w K mg base CX (k+1) f (PySem.W.fnOf name qual params body scope dV kV doc pm an cdv ct) ps sp:=by
 refine⟨len,fun A outer s H args us vs Q E hr e0 hb r hsp=>?_⟩;have hl:=len _ _ _ _ hsp;have KX:K.In s.heap:=e0.mod.kin.keeps fun b o e=>(e0.bs b o e).1;have lim:s.heap.NoLimit:=e0.mod.nolimit.keeps fun b o e=>(e0.bs b o e).1;have hkind:∀ y∈ps.zip us,scope.names.lookup y.1=some .local\/(scope.names.lookup y.1=some .cell/\((cellsFrom (s.heap.objs.size+1) scope.names []).lookup y.1).isSome=true):=fun ⟨n,v⟩ hy=>by
  rcases S.par n (List.of_mem_zip hy).1 with q|q
  ·exact .inl q
  ·exact .inr ⟨q,PySem.W.cellsFrom_some _ _ _ (.inl q)⟩
 refine codeAny_call_function hr.depth (KX _ _ lk) rfl S.co S.gen rfl (PySem.W.codeRec_of KX hcd) (hb _ _ _ _ ?_);refine wpAny_newFunctionEnv_cells S.kind hkind fun env he s1 x=>?_;subst he;refine⟨lim.keeps x.toInCall.keep,codeAny_func ?_⟩;obtain⟨t,ht,hq⟩:=hbody A outer s H vs Q E (hr.deeper _) hsp;have I:aF (pC CX P w K mg base N qual scope f cdv A outer s H E) [] (start N vs) H s1:=Bn S hr.hd e0 hl r x;refine wpAny_mono (ht [] s1 (start N vs) H _ I hq) (fun fl s' hs=>?_) fun e s' hs=>hs;have fin:∀ {σ':St}{H':Hp}{v:V}{u:Value},aF (pC CX P w K mg base N qual scope f cdv A outer s H E) [] σ' H' s'->RelV v u->Q v H'->CE outer P w H s Q u s':=
  fun {σ' H' v u} J rv q=>⟨v,H',J.os,J.bare,J.base,J.hok,rv,q⟩
 cases fl with
 | ret u=>
  obtain⟨v,σ',H',J,rv,q⟩:=hs;exact fin J rv q
 | next=>
  obtain⟨σ',H',J,q⟩:=hs;exact fin (v:=V.non) (u:=Value.none) J rfl q
 | brk=>
  obtain⟨_,_,_,q⟩:=hs;exact False.elim q
 | cont=>
  obtain⟨_,_,_,q⟩:=hs;exact False.elim q
end L2
namespace L2
open PySem PySem.Spec PyProof.Rows
section
variable {X:Cx}{x:Str}{p pos:Pos}{e:Expr}{es:List Expr}{t:TA}{id T:String}{r:List V->Hp->VK->Prop}
def R9 (r:List V->Hp->VK->Prop)(t:TA):TE:=fun σ H Q=>t σ H fun vs H1=>r vs H1 Q
theorem Gg (hc:fZ X (.builtin id) r) (hg:Gl X x) (hm:X.mg x=none) (hv:bootBuiltins x=some (.builtin id)) (ha:PA X (e::es) t) (hn:x≠"__name__":=by decide) (hdb:(x == ("__debug__":Str))=false:=by decide)
  (he:starEach (e::es) X.env=(false,eval e X.env)::starEach es X.env:=by rfl) (hpl:(backTo pos (starEach es X.env)).any (·.1)=false:=by rfl):PE X (.Call (.Name x p) (e::es) [] pos) (R9 r t):=by
 intro pins s σ H Q I h;refine wpAny_Call_Name_kw (kJ I hg hm hv ?_ hn hdb);exact PyProof.Rows.callWith_builtin1 (cG (ha pos pins s σ H _ I h) fun us s1 ⟨vs,H1,I1,r1,q1⟩=>hc pins s1 σ H1 vs us Q I1 r1 q1) he hpl
end
end L2
namespace HT
open PySem PyProof.Rows
section
open PySem.SeqAt
open PySem.AutoSeq1 (wpAny_loadPart')
open PySem.MeetsSeq PySem.MeetsSeq2 PySem.MeetsSeq3
end
section
variable {prog:Program}{w:World}{A:Around}{E:Value->Shared->Prop}{s:Shared}
def sIx (n d:Nat):Option Int->Nat
 | none=>d
 | some v=>if v<0 then (v+(n:Int)).toNat else min v.toNat n
theorem sIx_none (n d:Nat):sIx n d none=d:=rfl
theorem sIx_nat (n d k:Nat):sIx n d (some (k:Int))=min k n:=by
 show(if (k:Int)<0 then ((k:Int)+(n:Int)).toNat else min (k:Int).toNat n)=min k n
 rw[if_neg (by omega),toNat_natCast]
end
end HT
namespace L2
open PySem PySem.Spec PyProof.Rows
abbrev TO:=St->Hp->(Option Int->Hp->Prop)->Prop
def PO (X:Cx)(e:Option Expr)(t:TO):Prop:=
 ∀ (pins:List (Addr × Obj)) (s:Shared) (σ:St) (H:Hp) (Q:Option Int->Hp->Prop),aF X pins σ H s->t σ H Q →
  wpAny (model X.prog X.w) X.A (evalPart e X.env) (fun u s'=>∃ o H',aF X pins σ H' s'/\IsPart u o/\Q o H') X.xe s
def Kk:TO:=fun _ H Q=>Q none H
def QA (t:TE):TO:=fun σ H Q=>t σ H fun x H1=>∃ i,x=.int i/\Q (some i) H1
section
variable {X:Cx}{e:Expr}{te:TE}{lo hi:Option Expr}{tl th:TO}{pos p2:Pos}
theorem JD:PO X none Kk:=by
 intro pins s σ H Q I h;rw[evalPart_none];exact wpAny_pure ⟨none,H,I,.none,h⟩
theorem JE (h:PE X e te):PO X (some e) (QA te):=by
 intro pins s σ H Q I hw;rw[evalPart_some];refine cG (h pins s σ H _ I hw) fun u s1 ⟨x,H1,I1,r1,q1⟩=>?_;obtain⟨i,rfl,q⟩:=q1;obtain⟨t,rfl⟩:=r1;exact⟨some i,H1,I1,.int i t,q⟩
def Ow (X:Cx)(r:V->Option Int->Option Int->Hp->VK->Prop):Prop:=
 ∀ (pins:List (Addr × Obj)) (s:Shared) (σ:St) (H:Hp) (x:V) (v vl vu:Value) (lo hi:Option Int) (sl:Addr) (Q:VK),aF X pins σ H s->RelV x v->s.heap.IsSliceOf sl vl vu .none->IsPart vl lo->IsPart vu hi->r x lo hi H Q →
  ∃ T id,typeLookup (.type T) "__getitem__"=pure (some (.builtin id))/\s.TypeIs v T/\wpAny (model X.prog X.w) X.A (getItem v (.ref sl)) (EP X pins σ Q) X.xe s
theorem Ow.or {r r':V->Option Int->Option Int->Hp->VK->Prop}(h:Ow X r)(h':Ow X r'):Ow X (fun x lo hi H Q=>r x lo hi H Q\/r' x lo hi H Q):=by
 intro pins s σ H x v vl vu lo hi sl Q I rx hs pl pu q
 rcases q with q|q
 ·exact h pins s σ H x v vl vu lo hi sl Q I rx hs pl pu q
 ·exact h' pins s σ H x v vl vu lo hi sl Q I rx hs pl pu q
def Sv (r:V->Option Int->Option Int->Hp->VK->Prop)(te:TE)(tl th:TO):TE:=fun σ H Q=>te σ H fun x H1=>tl σ H1 fun l H2=>th σ H2 fun u H3=>r x l u H3 Q
theorem Gi {r:V->Option Int->Option Int->Hp->VK->Prop}(hr:Ow X r)(he:PE X e te)(hl:PO X lo tl)(hu:PO X hi th):PE X (.Subscript e (.Slice lo hi none p2) pos) (Sv r te tl th):=by
 intro pins s σ H Q I h;refine Subscript_ (cG (he pins s σ H _ I h) fun v s1 ⟨x,H1,I1,r1,q1⟩=>?_);refine wpAny_Slice (cG (hl pins s1 σ H1 _ I1 q1) fun vl s2 ⟨l,H2,I2,pl,q2⟩=>cG (hu pins s2 σ H2 _ I2 q2) fun vu s3 ⟨u,H3,I3,pu,q3⟩=>?_);rw[evalPart_none];refine wpAny_pure ?_;have I4:aF X pins σ H3 {s3 with heap:=s3.heap.push {cls:=.type "slice",data:=.fields #[vl,vu,.none]}}:=I3.kept (t':=s3.toks) fun b ob q=>Heap.get?_push_of_some _ q;obtain⟨T,id,hT,ht,hg⟩:=hr pins {s3 with heap:=s3.heap.push {cls:=.type "slice",data:=.fields #[vl,vu,.none]}} σ H3 x v vl vu l u s3.heap.objs.size Q I4 r1 (Heap.IsSliceOf.new ..) pl pu q3;show wpAny (model X.prog X.w) X.A (subscriptTail e (.Slice lo hi none p2) v (.ref s3.heap.objs.size)) (EP X pins σ Q) X.xe {s3 with heap:=s3.heap.push {cls:=.type "slice",data:=.fields #[vl,vu,.none]}};exact tail_any (ops:=[.ref s3.heap.objs.size,v]) ht hT hg (by with_unfolding_all rfl)
def Bb (xs:List V)(lo hi:Option Int):List V:=(xs.drop (HT.sIx xs.length 0 lo)).take (HT.sIx xs.length xs.length hi-HT.sIx xs.length 0 lo)
theorem vN (xs:List V)(lo hi:Option Int):(Bb xs lo hi).length<=xs.length:=by
 unfold Bb;rw[length_take,length_drop];omega
end
end L2
namespace L2
open PySem PySem.Spec PyProof.Rows
def uG (n:Nat)(i:Int):Option Nat:=if 0<=i then (if i<n then some i.toNat else none) else if -(n:Int)<=i then some (i+n).toNat else none
def atI {α:Type}(xs:List α)(i:Int):Option α:=(uG xs.length i).bind fun j=>xs[j]?
theorem zM {n:Nat}{i:Int}{j:Nat}(h:uG n i=some j):seqIndex? i n=some j/\j<n/\-(n:Int)<=i/\i<n:=by
 unfold uG at h
 by_cases h0:0<=i
 ·rw[if_pos h0]at h
  by_cases h1:i<n
  ·rw[if_pos h1]at h;have e:i.toNat=j:=Option.some.inj h;exact⟨by rw[seqIndex_of h0 h1,e],by omega,by omega,h1⟩
  ·rw[if_neg h1]at h;cases h
 ·rw[if_neg h0]at h
  by_cases h1:-(n:Int)<=i
  ·rw[if_pos h1]at h;have e:(i+n).toNat=j:=Option.some.inj h;exact⟨by rw[seqIndex_neg (by omega) h1,e],by omega,h1,by omega⟩
  ·rw[if_neg h1]at h;cases h
theorem yT {α:Type}{xs:List α}{i:Int}{v:α}(h:atI xs i=some v):∃ j,seqIndex? i xs.length=some j/\xs[j]?=some v/\j<xs.length/\-(xs.length:Int)<=i/\i<xs.length:=by
 unfold atI at h
 cases e:uG xs.length i with
 | none=>rw[e]at h;cases h
 | some j=>
  rw[e]at h;obtain⟨h1,h2,h3,h4⟩:=zM e;exact⟨j,h1,h,h2,h3,h4⟩
theorem HP {α:Type}{xs:List α}{j:Nat}{v:α}(h:xs[j]?=some v):atI xs (j:Int)=some v:=by
 have hj:j<xs.length:=(List.getElem?_eq_some_iff.mp h).1;have e:uG xs.length (j:Int)=some j:=by
  unfold uG;rw[if_pos (by omega),if_pos (by omega)];simp
 unfold atI;rw[e];exact h
theorem CC {α:Type}(xs:List α)(v:α):atI (xs++[v]) (-1)=some v:=by
 have hl:(xs++[v]).length=xs.length+1:=by simp
 have e:uG (xs++[v]).length (-1)=some xs.length:=by
  unfold uG;rw[hl,if_neg (by decide),if_pos (by omega)]
  congr 1
  omega
 unfold atI;rw[e];show(xs++[v])[xs.length]?=some v;simp
def yQ (b:Expr):Prop:=∀ o i,subscripted b false o i=operate [o,i] (getItem o i)
def La (X:Cx)(r:R2):Prop:=
 ∀ (value slice:Expr) (pins:List (Addr × Obj)) (s:Shared) (σ:St) (H:Hp) (x y:V) (v u:Value) (Q:VK),aF X pins σ H s->RelV x v->RelV y u->r x y H Q →
  subscripted slice false v u=operate [v,u] (getItem v u)->wpAny (model X.prog X.w) X.A (subscriptTail value slice v u) (EP X pins σ Q) X.xe s
def Ou (X:Cx)(id:String)(r:V->List V->Hp->VK->Prop):Prop:=
 ∀ (pins:List (Addr × Obj)) (s:Shared) (σ:St) (H:Hp) (x:V) (xs:List V) (v:Value) (us:List Value) (Q:VK),aF X pins σ H s->RelV x v->aO xs us->r x xs H Q →
  wpAny (model X.prog X.w) X.A (call (.builtin id) (v::us)) (EP X pins σ Q) X.xe s
section
variable {X:Cx}{a b:Expr}{ta tb:TE}{pos:Pos}
theorem La.or {r r':R2}(h:La X r)(h':La X r'):La X (fun x y H Q=>r x y H Q\/r' x y H Q):=by
 intro value slice pins s σ H x y v u Q I rx ry q hs
 rcases q with q|q
 ·exact h value slice pins s σ H x y v u Q I rx ry q hs
 ·exact h' value slice pins s σ H x y v u Q I rx ry q hs
theorem Ou.or {id:String}{r r':V->List V->Hp->VK->Prop}(h:Ou X id r)(h':Ou X id r'):Ou X id (fun x xs H Q=>r x xs H Q\/r' x xs H Q):=by
 intro pins s σ H x xs v us Q I rx rs q
 rcases q with q|q
 ·exact h pins s σ H x xs v us Q I rx rs q
 ·exact h' pins s σ H x xs v us Q I rx rs q
theorem Qi {r:R2}(hr:La X r)(ha:PE X a ta)(hb:PE X b tb)(hs:yQ b):PE X (.Subscript a b pos) (N5 r ta tb):=by
 intro pins s σ H Q I h;exact Subscript_ (LY ha hb I h fun v u s2 x y H2 I2 rx ry q=>hr a b pins s2 σ H2 x y v u Q I2 rx ry q (hs _ _))
def Qo (K:Frg):R2:=fun x y H Q=>∃ p xs i v,x=.ref p/\y=.int i/\cX K H p xs/\atI xs i=some v/\Q v H
def Qp (K:Frg):R2:=fun x y H Q=>∃ p xs i v,x=.ref p/\y=.int i/\k8 K H p xs/\atI xs i=some v/\Q v H
theorem II:La X (Qo X.K):=by
 intro value slice pins s σ H x y v u Q I rx ry h hs;obtain⟨p,xs,i,z,rfl,rfl,hq,he,q⟩:=h
 cases rx
 obtain⟨t,rfl⟩:=ry;obtain⟨its,r,pl,hz⟩:=I.list hq;obtain⟨j,h1,h2,h3,h4,h5⟩:=yT he;obtain⟨w,ew,rw'⟩:=r.get h2;have hl:=r.length;have hn:=uK;have fin:EP X pins σ Q w s:=⟨z,H,I,rw',q⟩
 by_cases h0:0<=i
 ·have hj:i.toNat=j:=by
   rw[seqIndex_of h0 h5]at h1;exact Option.some.inj h1
  exact item_listR pl.isList h0 (by omega) (by rw[hj];simpa using ew) fin hs
 ·have hj:(i+(its.toArray.size:Int)).toNat=j:=by
   rw[seqIndex_neg (by omega) h4]at h1
   rw[size_toArray,<-hl];exact Option.some.inj h1
  exact subscriptTail_builtinR (x:=w) pl.isList.typeIs slot_list_getitem.lookup
   (wpAny_getItem_list_neg (Q:=fun r s'=>r=w/\EP X pins σ Q r s') pl.isList (by omega) (by rw[size_toArray] <;> omega) (by omega) (by rw[hj];simpa using ew) ⟨rfl,fin⟩) hs
theorem MJ:La X (Qp X.K):=by
 intro value slice pins s σ H x y v u Q I rx ry h hs;obtain⟨p,xs,i,z,rfl,rfl,hq,he,q⟩:=h
 cases rx
 obtain⟨t,rfl⟩:=ry;obtain⟨its,r,pl,hz⟩:=I.tuple hq;obtain⟨j,h1,h2,h3,h4,h5⟩:=yT he;obtain⟨w,ew,rw'⟩:=r.get h2;have hl:=r.length;have hn:=uK;have fin:EP X pins σ Q w s:=⟨z,H,I,rw',q⟩;exact subscriptTail_builtinR (x:=w) pl.typeIs slot_tuple_getitem.lookup
  (getItem_tuple (j:=j) (Q:=fun r s'=>r=w/\EP X pins σ Q r s') pl (by omega) (by omega) (by rw[size_toArray,<-hl];exact h1) (by simpa using ew) ⟨rfl,fin⟩) hs
theorem xU (its:List Value) (n j:Nat) (u:Value):Obj.mapSeq (·.setIfInBounds j u) {cls:=.type "list",data:=.seq its.toArray n}={cls:=.type "list",data:=.seq (its.set j u).toArray n}:=by
 simp[Obj.mapSeq]
theorem aF.lst {pins:List (Addr × Obj)}{σ:St}{H:Hp}{s:Shared}{p:Addr}{xs:List V}(I:aF X pins σ H s)(h:H p=some (.lst xs)) :
  ∃ (its:List Value) (n:Nat),aO xs its/\s.heap.get? p=some {cls:=.type "list",data:=.seq its.toArray n}/\xs.length<=sizeLine:=by
 obtain⟨z,its,n,r,e⟩:=I.hok p _ h;exact⟨its,n,r,e,z⟩
theorem aF.lstUpd {pins:List (Addr × Obj)}{σ:St}{H:Hp}{s:Shared}{p:Addr}{xs ys:List V}{its its':List Value}{n n':Nat}{f:Obj->Obj}(I:aF X pins σ H s)(h:H p=some (.lst xs))
  (ho:s.heap.get? p=some {cls:=.type "list",data:=.seq its.toArray n}) (hf:f {cls:=.type "list",data:=.seq its.toArray n}={cls:=.type "list",data:=.seq its'.toArray n'}) (r:aO ys its') (hz:ys.length<=sizeLine) (t:Nat) :
  aF X pins σ (cO H p (.lst ys)) {s with heap:=s.heap.update p f,toks:=t}:=by
 have e:(s.heap.update p f).get? p=some {cls:=.type "list",data:=.seq its'.toArray n'}:=by
  rw[Heap.get?_update_self f ho (by rw[hf] <;> rfl),hf]
 refine I.write (x:=p) (e:=p) (by rw[h];trivial) (.inl rfl) (fun b u hb q=>(Heap.get?_update_other _ _ (Ne.symm hb)).trans q) ⟨_,e⟩ ?_
 exact⟨hz,its',n',r,e⟩
def Qq:V->V->V->Hp->(Hp->Prop)->Prop:=fun o i v H Q=>∃ p xs k j,o=.ref p/\i=.int k/\H p=some (.lst xs)/\uG xs.length k=some j/\Q (cO H p (.lst (xs.set j v)))
theorem set_list:OK X Qq:=by
 intro pins s σ H o i v ov iv u Q I ro ri rv h;obtain⟨p,xs,k,j,rfl,rfl,hp,hj,q⟩:=h
 cases ro
 obtain⟨t,rfl⟩:=ri;obtain⟨its,n,r,ho,hz⟩:=I.lst hp;obtain⟨h1,h2,h3,h4⟩:=zM hj;have hl:=r.length;have hn:=uK;have I':aF X pins σ (cO H p (.lst (xs.set j v))) {s with heap:=s.heap.update p (Obj.mapSeq (·.setIfInBounds j u))}:=
  I.lstUpd hp ho (xU its n j u) (r.set rv j) (by rw[length_set];exact hz) s.toks
 by_cases h0:0<=k
 ·have hk:k.toNat=j:=by
   rw[seqIndex_of h0 h4]at h1;exact Option.some.inj h1
  exact PySem.W.ki_setAt ho h0 (by omega) (by rw[size_toArray,<-hl];exact h4) (by rw[hk];exact⟨_,I',q⟩)
 ·have hk:(k+(its.toArray.size:Int)).toNat=j:=by
   rw[seqIndex_neg (by omega) h3]at h1
   rw[size_toArray,<-hl];exact Option.some.inj h1
  exact PySem.W.ki_setBack ho (by omega) (by rw[size_toArray,<-hl];exact h3) (by omega) (by rw[hk];exact⟨_,I',q⟩)
theorem u6 (lo hi:Option Int)(n:Nat):(sliceBounds lo hi none n).1=((HT.sIx n 0 lo:Nat):Int)/\(sliceBounds lo hi none n).2.1=((HT.sIx n n hi:Nat):Int)/\(sliceBounds lo hi none n).2.2=1:=by
 refine⟨?_,?_,rfl⟩
 ·cases lo with
  | none=>simp[sliceBounds,HT.sIx]
  | some i=>
   simp only[sliceBounds,HT.sIx,getD_none,show(1:Int)>0 by decide,if_true]
   by_cases h:i<0
   ·simp only[h,if_true] <;> omega
   ·simp only[h,if_false] <;> omega
 ·cases hi with
  | none=>simp[sliceBounds,HT.sIx]
  | some i=>
   simp only[sliceBounds,HT.sIx,getD_none,show(1:Int)>0 by decide,if_true]
   by_cases h:i<0
   ·simp only[h,if_true] <;> omega
   ·simp only[h,if_false] <;> omega
theorem rH (its:List Value)(lo hi:Option Int):slicePick its.toArray lo hi none=((its.drop (HT.sIx its.length 0 lo)).take (HT.sIx its.length its.length hi-HT.sIx its.length 0 lo)).toArray:=by
 obtain⟨h1,h2,h3⟩:=u6 lo hi its.toArray.size;unfold slicePick;rw[h1,h2,h3];simp only[sliceRange_one,pick_run,size_toArray] <;> rfl
def RE (K:Frg):V->Option Int->Option Int->Hp->VK->Prop:=fun x lo hi H Q=>∃ a xs,x=.ref a/\cX K H a xs/\∀ p,H p=none->Q (.ref p) (cO H p (.lst (Bb xs lo hi)))
theorem Ke:Ow X (RE X.K):=by
 intro pins s σ H x v vl vu lo hi sl Q I rx hs pl pu h;obtain⟨a,xs,rfl,hx,q⟩:=h
 cases rx
 obtain⟨its,r,ht,hz⟩:=I.list hx;have hlen:=r.length;refine⟨"list",_,slot_list_getitem.lookup,ht.isList.typeIs,?_⟩;refine wpAny_getItem_list_slice ht.isList hs pl pu .none (by simp) ?_ (by rw[size_toArray] <;> omega)
 rw[rH,<-hlen];refine⟨.ref s.heap.objs.size,_,I.laid (t':=s.toks) (o:=.lst (Bb xs lo hi)) (fun b ob q=>Heap.get?_push_of_some _ q) (le_refl _) ?_,rfl,q _ (I.hok.fresh (le_refl _))⟩;exact⟨le_trans (vN xs lo hi) hz,_,0,(r.drop (HT.sIx xs.length 0 lo)).take (HT.sIx xs.length xs.length hi-HT.sIx xs.length 0 lo),Heap.get?_push_size _ rfl⟩
theorem tK:fZ X (.builtin "len") (fun xs H Q=>∃ p ys,xs=[.ref p]/\(cX X.K H p ys\/k8 X.K H p ys)/\Q (.int ys.length) H):=by
 intro pins s σ H xs us Q I r h;obtain⟨p,ys,rfl,hq,q⟩:=h;obtain⟨u,rfl,rx⟩:=vals1 r
 cases rx
 have hn:=uK
 rcases hq with hq|hq
 ·obtain⟨its,r',pl,hz⟩:=I.list hq;have hlen:=r'.length;exact Calls.call_len_list pl.isList (by simp only[size_toArray] <;> omega) ⟨.int ys.length,H,I.tok _,⟨s.toks+1,by rw[size_toArray,hlen]⟩,q⟩
 ·obtain⟨its,r',pl,hz⟩:=I.tuple hq;have hlen:=r'.length;exact len_tuple pl (by simp only[size_toArray] <;> omega) ⟨.int ys.length,H,I.tok _,⟨s.toks+1,by rw[size_toArray,hlen]⟩,q⟩
theorem fZ.or {f:Value}{r r':List V->Hp->VK->Prop}(h:fZ X f r)(h':fZ X f r'):fZ X f (fun xs H Q=>r xs H Q\/r' xs H Q):=by
 intro pins s σ H xs us Q I rs q
 rcases q with q|q
 ·exact h pins s σ H xs us Q I rs q
 ·exact h' pins s σ H xs us Q I rs q
def RY (K:Frg)(T:String)(x:V)(H:Hp):Prop:=match x with
 | .str _=>T="str"
 | .int _=>T="int"
 | .ref p=>(T="list"/\∃ xs,cX K H p xs)\/(T="tuple"/\∃ o,K.lookup p=some o/\o.cls=.type "tuple"/\o.dict=none) ∨
   (T="dict"/\((∃ kvs,H p=some (.dK kvs))\/∃ kvs,H p=some (.dT kvs)))\/(T="set"/\∃ S n,H p=some (.set S n))
 | _=>False
theorem G6 {pins:List (Addr × Obj)}{σ:St}{H:Hp}{s:Shared}{T:String}{x:V}{v:Value}(I:aF X pins σ H s)(r:RelV x v)(ty:RY X.K T x H) :
  s.TypeIs v T/\∀ a,v=.ref a->∃ ob,s.heap.get? a=some ob/\ob.dict=none:=by
 cases x with
 | str z=>
  obtain⟨t,rfl⟩:=r
  cases (show T="str" from ty)
  exact⟨typeIs_str s z t,fun _ e=>nomatch e⟩
 | int i=>
  obtain⟨t,rfl⟩:=r
  cases (show T="int" from ty)
  exact⟨typeIs_int s i t,fun _ e=>nomatch e⟩
 | ref p=>
  cases r
  rcases ty with ⟨rfl,xs,hq⟩|⟨rfl,o,hk,hc,hd⟩|⟨rfl,hk⟩|⟨rfl,S,n,hk⟩
  ·obtain⟨its,_,pl,_⟩:=I.list hq;refine⟨pl.isList.typeIs,fun a e=>?_⟩
   cases e
   obtain⟨o,n,e,c,hd,_⟩:=pl;exact⟨o,e,hd⟩
  ·refine⟨⟨o,I.kIn p o hk,hc⟩,fun a e=>?_⟩
   cases e
   exact⟨o,I.kIn _ o hk,hd⟩
  ·have z:∃ o,s.heap.get? p=some o/\o.ExactDict:=by
    rcases hk with ⟨kvs,hk⟩|⟨kvs,hk⟩
    ·obtain⟨_,_,_,_,o,_,_,e,ex,_⟩:=I.hok p _ hk;exact⟨o,e,ex⟩
    ·obtain⟨_,_,_,_,o,_,_,e,ex,_⟩:=I.hok p _ hk;exact⟨o,e,ex⟩
   obtain⟨o,e,ex⟩:=z;refine⟨⟨o,e,ex.1⟩,fun a e2=>?_⟩
   cases e2
   exact⟨o,e,ex.2.1⟩
  ·obtain⟨o,_,_,_,e,ex,_⟩:=I.hok p _ hk;refine⟨⟨o,e,ex.1⟩,fun a e2=>?_⟩
   cases e2
   exact⟨o,e,ex.2.1⟩
 | _=>exact False.elim ty
def RK (K:Frg)(T:String)(r:V->List V->Hp->VK->Prop)(to:TE):TE:=fun σ H Q=>to σ H fun x H1=>RY K T x H1/\r x [] H1 Q
def Sr (K:Frg)(T:String)(r:V->List V->Hp->VK->Prop)(to:TE)(t:TA):TE:=fun σ H Q=>to σ H fun x H1=>RY K T x H1/\t σ H1 fun xs H2=>r x xs H2 Q
variable {o e:Expr}{es:List Expr}{to:TE}{t:TA}{name:Str}{apos cpos:Pos}{T id:String}{r:V->List V->Hp->VK->Prop}
theorem Nq (pa:PlainAttrs T) (slot:Slot T name id) (hty:typeOf (.builtin id)=pure (.type "method_descriptor")) (hm:Ou X id r) (ho:PE X o to)
  (hbase:attributeBase o name X.env (eval o X.env)=eval o X.env:=by rfl) (hline:(apos.endLine == cpos.line)=true:=by rfl):PE X (.Call (.Attribute o name apos) [] [] cpos) (RK X.K T r to):=by
 intro pins s σ H Q I h;refine wpAny_Call_method0_late hbase hline (cG (ho pins s σ H _ I h) fun v s1 ⟨x,H1,I1,r1,ty,q1⟩=>?_);obtain⟨h1,h2⟩:=G6 I1 r1 ty;exact⟨T,id,pa,slot,hty,h1,h2,Calls.callWith_builtin rfl (PySem.evalArgs_none (hm pins s1 σ H1 x [] v [] Q I1 r1 .nil q1))⟩
theorem KU (pa:PlainAttrs T) (slot:Slot T name id) (hty:typeOf (.builtin id)=pure (.type "method_descriptor")) (hm:Ou X id r) (ho:PE X o to) (ha:PA X (e::es) t)
  (hbase:attributeBase o name X.env (eval o X.env)=eval o X.env:=by rfl)
  (hfew:((backTo cpos (starEach (e::es) X.env)).all (fun x=>!x.1) && (backToKw cpos (keywordEach [] X.env)).all (fun x=>x.1.isSome)
   && decide ((e::es).length+([]:List Keyword).length+(if ([]:List Keyword).isEmpty then 0 else 1)<30))=true:=by rfl)
  (hline:(apos.endLine == cpos.line)=true:=by rfl) (hs:starEach (e::es) X.env=(false,eval e X.env)::starEach es X.env:=by rfl) (hplain:(backTo cpos (starEach es X.env)).any (·.1)=false:=by rfl) :
  PE X (.Call (.Attribute o name apos) (e::es) [] cpos) (Sr X.K T r to t):=by
 intro pins s σ H Q I h;refine wpAny_Call_method_late hbase hfew hline rfl (cG (ho pins s σ H _ I h) fun v s1 ⟨x,H1,I1,r1,ty,q1⟩=>?_);obtain⟨h1,h2⟩:=G6 I1 r1 ty;refine⟨T,id,pa,slot,hty,h1,h2,?_⟩;have hA:=ha cpos pins s1 σ H1 _ I1 q1;rw[hs]at hA ⊢;refine Calls.callWith_builtin (by show(false || (backTo cpos (starEach es X.env)).any (·.1))=false;rw[hplain] <;> rfl) (Calls.evalArgs_plain ?_)
 exact cG hA fun us s2 ⟨vs,H2,I2,r2,q2⟩=>hm pins s2 σ H2 x vs v us Q I2 r1 r2 q2
end
end L2
namespace L2
open PySem PySem.Spec PyProof.Rows
def Q8 (X:Cx)(id:String)(r:V->List V->Hp->VK->Prop):Prop:=
 ∀ (pins:List (Addr × Obj)) (s:Shared) (σ:St) (H:Hp) (x:V) (xs:List V) (v:Value) (us:List Value) (Q:VK),aF X pins σ H s->RelV x v->aO xs us->r x xs H Q →
  wpAny (model X.prog X.w) X.A (call (.builtin id) (v::us)) (EP X pins σ Q) X.xe s
theorem aO.one:∀ {x:V}{us:List Value},aO [x] us->∃ u,us=[u]/\RelV x u
 | _,_,.cons r .nil=>⟨_,rfl,r⟩
theorem aO.two:∀ {x y:V}{us:List Value},aO [x,y] us->∃ u v,us=[u,v]/\RelV x u/\RelV y v
 | _,_,_,.cons r (.cons q .nil)=>⟨_,_,rfl,r,q⟩
theorem aO.zero:∀ {us:List Value},aO [] us->us=[]
 | _,.nil=>rfl
theorem aO.dropLast {xs:List V}{us:List Value}(h:aO xs us):aO xs.dropLast us.dropLast:=by
 induction h with
 | nil=>exact .nil
 | cons r t ih=>
  cases t with
  | nil=>exact .nil
  | cons q t'=>exact .cons r ih
theorem aO.eraseIdx:∀ {xs:List V}{us:List Value} (i:Nat),aO xs us->aO (xs.eraseIdx i) (us.eraseIdx i)
 | _,_,_,.nil=>.nil
 | _,_,0,.cons _ t=>t
 | _,_,i+1,.cons r t=>.cons r (aO.eraseIdx i t)
theorem aO.reverse {xs:List V}{us:List Value}(h:aO xs us):aO xs.reverse us.reverse:=by
 induction h with
 | nil=>exact .nil
 | cons r t ih=>rw[reverse_cons,reverse_cons];exact aO.append ih (.cons r .nil)
theorem xK {α:Type}(l:List α):l.eraseIdx (l.length-1)=l.dropLast:=by
 induction l with
 | nil=>rfl
 | cons a r ih=>
  cases r with
  | nil=>rfl
  | cons b r=>
   have e:(a::b::r).length-1=((b::r).length-1)+1:=by
    have h1:(a::b::r).length=r.length+2:=rfl;have h2:(b::r).length=r.length+1:=rfl;omega
   rw[e,List.eraseIdx_cons_succ,ih]
   all_goals rfl
section
variable {X:Cx}{pins:List (Addr × Obj)}{σ:St}{H:Hp}{s:Shared}{l b:Addr}{xs ys zs:List V}
theorem aF.lset {its its':List Value}{n:Nat}{f:Array Value->Array Value}{t':Nat}(I:aF X pins σ H s)(hH:H l=some (.lst xs))
  (e:s.heap.get? l=some {cls:=.type "list",data:=.seq its.toArray n}) (hf:f its.toArray=its'.toArray) (hv:aO ys its') (hz:ys.length<=sizeLine) :
  aF X pins σ (cO H l (.lst ys)) {s with heap:=s.heap.update l (Obj.mapSeq f),toks:=t'}:=by
 have q:=PySem.IsL.update e f;rw[hf]at q;refine I.write (x:=l) (e:=l) (by rw[hH];exact trivial) (.inl rfl) (fun b' u hb hu=>(Heap.get?_update_other s.heap (Obj.mapSeq f) (Ne.symm hb)).trans hu) ⟨_,q⟩ ?_
 exact⟨hz,its',_,hv,q⟩
theorem aF.lnew {its:List Value}{t':Nat}(I:aF X pins σ H s)(hv:aO ys its)(hz:ys.length<=sizeLine) :
  aF X pins σ (cO H s.heap.objs.size (.lst ys)) {s with heap:=s.heap.push {cls:=.type "list",data:=.seq its.toArray},toks:=t'}:=
 I.laid (fun _ _ q=>Heap.get?_push_of_some _ q) (le_refl _) ⟨hz,its,0,hv,Heap.get?_push_size _ rfl⟩
theorem aF.fresh (I:aF X pins σ H s):H s.heap.objs.size=none:=I.hok.fresh (le_refl _)
theorem aF.lstM (I:aF X pins σ H s) (hH:H l=some (.lst xs)):xs.length<=sizeLine/\∃ (its:List Value) (n:Nat),aO xs its/\xs.length=its.length/\s.heap.get? l=some {cls:=.type "list",data:=.seq its.toArray n}:=by
 obtain⟨z,its,n,r,e⟩:=I.hok l _ hH;exact⟨z,its,n,r,r.length,e⟩
theorem FU {n:Nat}(h:n<=sizeLine):Builtin.List.listTooLong n=false:=by
 unfold Builtin.List.listTooLong;exact decide_eq_false (by omega)
end
section
variable {X:Cx}
def JV:V->List V->Hp->VK->Prop:=fun x vs H Q=>∃ l xs y,x=.ref l/\vs=[y]/\H l=some (.lst xs)/\xs.length<sizeLine/\Q .non (cO H l (.lst (xs++[y])))
theorem sI:Q8 X "list.append" JV:=by
 intro pins s σ H x vs v us Q I rx rv h;obtain⟨l,xs,y,rfl,rfl,hH,hz,q⟩:=h
 cases rx
 obtain⟨u,rfl,ru⟩:=rv.one;obtain⟨z,its,n,r,hl,e⟩:=I.lstM hH;refine call_meets F.slot_list_append ⟨_,e,rfl⟩ F.entry_list_append (F.args_list_append_2 _ _) (PySem.list_append l its.toArray n u (by rw[size_toArray];omega)) ⟨e,?_⟩
 refine⟨.non,_,I.lset (its':=its++[u]) hH e (by simp) (r.append (.cons ru .nil)) ?_,rfl,q⟩
 rw[List.length_append,length_singleton];omega
def JX:V->List V->Hp->VK->Prop:=fun x vs H Q=>∃ l b xs zs,x=.ref l/\vs=[.ref b]/\H l=some (.lst xs)/\H b=some (.lst zs)/\xs.length+zs.length<=sizeLine/\Q .non (cO H l (.lst (xs++zs)))
theorem By:Q8 X "list.extend" JX:=by
 intro pins s σ H x vs v us Q I rx rv h;obtain⟨l,b,xs,zs,rfl,rfl,hH,hB,hz,q⟩:=h
 cases rx
 obtain⟨u,rfl,ru⟩:=rv.one
 cases ru
 obtain⟨z,its,n,r,hl,e⟩:=I.lstM hH;obtain⟨z2,its2,n2,r2,hl2,e2⟩:=I.lstM hB;have hsz:its.toArray.size+its2.toArray.size<=sizeLine:=by rw[size_toArray,size_toArray];omega
 have hlong:¬ (!its.toArray.isEmpty && Builtin.List.listTooLong (its.toArray.size+its2.toArray.size))=true:=by
  rw[FU hsz,Bool.and_false];exact Bool.false_ne_true
 refine call_meets F.slot_list_extend ⟨_,e,rfl⟩ F.entry_list_extend (F.args_list_extend_2 _ _)
  (AutoSeq1.list_extend_list_list_0 l its.toArray n b its2.toArray n2 hlong (by rw[size_toArray];omega) (by omega)) ⟨e,e2,?_⟩
 refine⟨.non,_,I.lset (its':=its++its2) hH e (by simp) (r.append r2) ?_,rfl,q⟩
 rw[List.length_append];omega
def RD:V->List V->Hp->VK->Prop:=fun x vs H Q=>∃ l xs y,x=.ref l/\vs=[]/\H l=some (.lst xs)/\xs[xs.length-1]?=some y/\Q y (cO H l (.lst xs.dropLast))
theorem M0:Q8 X "list.pop" RD:=by
 intro pins s σ H x vs v us Q I rx rv h;obtain⟨l,xs,y,rfl,rfl,hH,hy,q⟩:=h
 cases rx
 have hus:=rv.zero;subst hus;obtain⟨z,its,n,r,hl,e⟩:=I.lstM hH;obtain⟨u,hu,ru⟩:=r.get hy;have hy':its.toArray[its.toArray.size-1]?=some u:=by
  show its.toArray[its.length-1]?=some u;rw[<-getElem?_toList,<-hl];exact hu
 refine call_meets F.slot_list_pop ⟨_,e,rfl⟩ F.entry_list_pop (F.args_list_pop_1 _) (MeetsSeq.list_pop_last l its.toArray n u hy' (by rw[size_toArray];omega)) ⟨e,?_⟩
 refine⟨y,_,I.lset (its':=its.dropLast) hH e ?_ r.dropLast ?_,ru,q⟩
 ·show its.toArray.eraseIdxIfInBounds (its.toArray.size-1)=its.dropLast.toArray;rw[size_toArray,List.eraseIdxIfInBounds_toArray,xK]
 ·rw[length_dropLast];omega
end
section
variable {prog:Program}{w:World}{A:Around}{E:Value->Shared->Prop}{s:Shared}
end
section
variable {X:Cx}
end
end L2
namespace Att
open PySem PySem.W PySem.Calls PyProof.Rows
theorem nW {P:Params}{h:Heap}:∀ (ns:List Int) (vs:List Value),WellAll P h vs (ns.map WData.int)->IntsAre vs ns:=by
 intro ns
 induction ns with
 | nil=>
  intro vs w;rw[List.map_nil]at w
  cases w
  exact .nil
 | cons n ns ih=>
  intro vs w;rw[map_cons]at w
  cases w with
  | cons a b=>
   cases a
   exact .cons _ _ (ih _ b)
theorem B5 {l:OpenLaw}{n:Nat}(hn:l.most=some n){P:Params}{h:Heap}{args:List WData}{vals:List Value}
  (hpre:l.row.toRowW.claim.pre args=true) (hwl:WellAll P h vals args) :
  ∃ a vs ns,vals=[Value.ref a]/\args=[WData.list (ns.map WData.int)]/\h.get? a=some {cls:=.type "list",data:=.seq vs.toArray}/\IntsAre vs ns/\ns.length<=n:=by
 have hsh:WShape.hasAll [] args [.list .int]=true:=(pre_splitW hpre).1;have hc:l.pre.holds [] {args:=args}=true:=(pre_splitW hpre).2;obtain⟨d,r,rfl,h1,h2⟩:=hasAllW_cons hsh;obtain rfl:=hasAllW_nil h2;obtain⟨xs,rfl,h3⟩:=hasW_list h1;obtain⟨ns,rfl⟩:=items_int h3;have hlen:ns.length<=n:=by
  unfold OpenLaw.pre at hc;have h4:(WTm.not (.lt (.lit (.int (n:Int))) (.len (.arg 0)))).holds [] {args:=[.list (ns.map .int)]}=true:=by
   have h4:=(holds_andW hc).1;rw[hn]at h4;exact h4
  have h5:=condW_of h4 (w_not (w_lt w_lit (w_len_list (w_arg rfl))));rw[length_map]at h5;refine le_of_not_lt fun q=>?_;have q':(n:Int)<((ns.length:Nat):Int):=by omega
  first
   | (rw[decide_eq_true q']at h5;exact absurd h5 (by decide))
   | (simp at h5;omega)
 cases hwl with
 | cons w1 w2=>
  cases w2
  cases w1 with
  | list ho hall=>exact⟨_,_,ns,rfl,rfl,ho,nW ns _ hall,hlen⟩
theorem BS (l:OpenLaw)(args:List WData):l.row.toRowW.claim.post args (.bool true) args=true:=
 postW_of (r:=l.row.toRowW) (X:=(true == true))
  (show WShape.has [] (.bool true) .bool=true by first|rfl|decide|simp[WShape.has,WShape.arms,WShape.armsAll])
  (show(WTm.eq .res (.lit (.bool true))).value [] {args:=args,res:=some (.bool true),after:=args}=some (.bool (true == true)) from w_eq_bool (w_res rfl) w_lit) rfl
theorem attach_call {l:OpenLaw}{n:Nat}{q:Program}{loose:List Str}{XP:(Str->Option Value)->Heap->Prop}{YP:World->Heap->Prop}{d:DefRec}
  (hn:l.most=some n) (hdf:d.params.defaults=[])
  (call:∀ (w:World) (s₀ s₁:Shared) (mg mb:Str->Option Value) (fa:Addr) (o:Obj) (pm cd doc:Value) (a:Addr) (vs:List Value) (ns:List Int),
   Ground q loose [] XP w s₀ mg mb s₁.heap->YP w s₁.heap →
   s₁.heap.get? fa=some o->o.data=.func (docDef d.name d.params d.body d.scope pm cd doc)->s₁.heap.CodeRec cd d.name->mg d.name=some (.ref fa) →
   s₁.heap.get? a=some {cls:=.type "list",data:=.seq vs.toArray}->IntsAre vs ns->ns.length<=n->s₁.gens=#[] →
   codeAny (model l.prog w) callerA (.call (.ref fa) ⟨[.ref a],[]⟩) (fun r s'=>r=.ok (.ret (.bool true))/\OldK s₁.heap s'.heap/\s'.os=s₁.os/\AllBare s'.gens) s₁) :
  WalkO q loose XP YP l.row.toRowW d [] (fun f vs=>PySem.call f vs):=by
 intro w s₀ s₁ mg mb G Y fa o pm cd doc dV kV ho hd hcd hD hmg hg args vals as hpre hlay hrd hwl hlo;obtain rfl:dV=.none:=Dflts.none hD hdf;obtain rfl:kV=.none:=Dflts.noKw hD;obtain⟨a,vs,ns,rfl,rfl,hobj,hints,hlen⟩:=B5 hn hpre hwl;refine enter_call (codeAny_mono (call w s₀ s₁ mg mb fa o pm cd doc a vs ns G Y ho (fd_plain hd) hcd hmg hobj hints hlen hg) fun r s' hq=>?_);obtain⟨rfl,h2,h3,h4⟩:=hq;exact⟨.inl ⟨.bool true,.bool true,[],rfl,fun _=>rfl,.bool true,BS l _,fun _=>⟨List.Pairwise.nil,fun _ hm=>(nomatch hm)⟩⟩,h2,h3,h4⟩
section
variable {prog:Program}{w:World}{A:Around}{E:Value->Shared->Prop}{s:Shared}{K:Frag}
end
end Att
namespace L2
open PySem PySem.Spec PyProof.Rows
theorem sZ:∀ {vs:List Value}{ns:List Int},IntsAre vs ns->aO (ns.map V.int) vs
 | _,_,.nil=>.nil
 | _,_,.cons n t h=>.cons ⟨t,rfl⟩ (sZ h)
end L2
namespace L2
open PySem PySem.Spec PyProof.Rows
end L2
namespace L2
open PySem PySem.Spec PyProof.Rows
def eI (s:Stmt):Arguments:=match s with
 | .FunctionDef _ a _ _ _ _ _ _ _ _=>a
 | _=>{posonlyargs:=[],args:=[],vararg:=none,kwonlyargs:=[],kw_defaults:=[],kwarg:=none,defaults:=[]}
def bY (s:Stmt):List Stmt:=match s with
 | .FunctionDef _ _ b _ _ _ _ _ _ _=>b
 | _=>[]
def al (s:Stmt):Scope:=match s with
 | .FunctionDef _ _ _ _ _ _ sc _ _ _=>sc
 | _=>{kind:=.function,names:=[],isGenerator:=false,isCoroutine:=false}
abbrev xg:Cf:=fun _ _ _ _ _ _=>False
abbrev E0:XK:=fun _ _ _=>False
theorem Qg {X:Cx}:xo xg X E0:=fun _ _ _ _ _ _ _ h=>h.elim
structure Ku (K:Frg) (x qual:Str) (st:Stmt) (f:Addr) (fd:FuncData):Prop where
 ex:∃ (oc:Value) (od:Option Addr) (kV doc pm:Value) (an:Option Addr) (cdv ct:Value) (osl:Array (Option Value)),
  fd=PySem.W.fnOf x qual (eI st) (bY st) (al st) .none kV doc pm an cdv ct/\K.lookup f=some ⟨oc,od,.func fd,osl⟩/\PySem.W.codeIn K cdv qual=true
 kp:PySem.W.keepIn K (.ref f)=true
section
variable {P:Program}{w:World}{K:Frg}{mg:Str->Option Value}{base:Heap}
theorem Ku.ok {x qual:Str}{st:Stmt}{f:Addr}{fd:FuncData}{N ps:List Str}{k:Nat}{sp:Sp}(F:Ku K x qual st f fd)(S:ax N ps (al st))(len:∀ vs H Q E,sp vs H Q E->vs.length=ps.length)
  (hbody:∀ (cdv:Value) (A:Around) (outer:List Env) (s:Shared) (H:Hp) (vs:List V) (Q:VK) (E:XK),bX k (A.deeper (envOfC qual (al st) s.heap.objs.size f cdv))->sp vs H Q E →
   ∃ t,kA (pC xg P w K mg base N qual (al st) f cdv A outer s H E).nox (bY st) t/\t {nx:=fun _ H'=>Q .non H',rt:=Q} (start N vs) H):ja P w K mg base xg (k+1) f fd ps sp:=by
 obtain⟨oc,od,kV,doc,pm,an,cdv,ct,osl,rfl,lk,hcd⟩:=F.ex;refine KG lk hcd S len fun A outer s H vs Q E hr hsp=>?_;obtain⟨t,h,q⟩:=hbody cdv A outer s H vs Q E hr hsp;exact⟨t,h.nox,q⟩
theorem Ku.binds {x qual:Str}{st:Stmt}{f:Addr}{fd:FuncData}{ps:List Str}(F:Ku K x qual st f fd)
  (h:∀ (kV doc pm:Value) (an:Option Addr) (cdv ct:Value) (us:List Value),us.length=ps.length->bindArgs (PySem.W.fnOf x qual (eI st) (bY st) (al st) .none kV doc pm an cdv ct) ⟨us,[]⟩=pure (ps.zip us)):Binds K fd ps []:=by
 obtain⟨oc,od,kV,doc,pm,an,cdv,ct,osl,rfl,lk,hcd⟩:=F.ex;exact .all (h kV doc pm an cdv ct)
theorem pT {x qual:Str}{st:Stmt}{f:Addr}{oc:Value}{od an:Option Addr}{osl:Array (Option Value)}{kV doc pm cdv ct:Value}(l:K.lookup f=some ⟨oc,od,.func (PySem.W.fnOf x qual (eI st) (bY st) (al st) .none kV doc pm an cdv ct),osl⟩)
  (c:PySem.W.codeIn K cdv qual=true) (k:PySem.W.keepIn K (.ref f)=true):Ku K x qual st f (PySem.W.fnOf x qual (eI st) (bY st) (al st) .none kV doc pm an cdv ct):=⟨⟨oc,od,kV,doc,pm,an,cdv,ct,osl,rfl,l,c⟩,k⟩
end
theorem B8 {n:Nat}(h:n<=1000):n<sizeLine:=lt_of_le_of_lt h (by decide)
section
variable {X:Cx}
theorem pv (i:Nat) {x:Str}{pos:Pos} (hN:X.N[i]?=some x:=by rfl) (hv:QT X.env.scope x:=by first | exact Or.inl rfl | exact Or.inr (Or.inl rfl) | exact Or.inr (Or.inr rfl)) (hd:(x == ("__debug__":Str))=false:=by decide)
  (hcd:(x == ("__classdict__":Str))=false:=by decide):PE X (.Name x pos) (wU i):=Gj hN hv hd hcd
end
def Same (H H':Hp):Prop:=∀ b o,H b=some o->H' b=some o
theorem Same.refl (H:Hp):Same H H:=fun _ _ h=>h
theorem Same.trans {H H1 H2:Hp}(a:Same H H1)(b:Same H1 H2):Same H H2:=fun c o h=>b c o (a c o h)
theorem Same.free {H H':Hp}(e:Same H H'){l:Addr}(h:H' l=Option.none):H l=Option.none:=by
 cases q:H l with
 | none=>rfl
 | some o=>
  rw[e l o q]at h
  cases h
theorem Same.seq {K:Frg}{H H':Hp}{a:Addr}{xs:List V}(e:Same H H')(h:cX K H a xs):cX K H' a xs:=by
 rcases h with (h|⟨o,h⟩)|h
 ·exact .inl (.inl (e _ _ h))
 ·exact .inl (.inr ⟨o,e _ _ h⟩)
 ·exact .inr h
end L2
namespace DL
open PySem L2
def lamQ:Str:="depth.<locals>.<lambda>"
def HCode (c:Addr):HO:=.ext fun h=>h.CodeRec (.ref c) lamQ
def KR:HO->Bool
 | .tbl _=>false
 | _=>true
def Tab (H:Hp):Prop:=∀ P ps,H P=some (.tbl ps)->TriplesOk ps.toList/\∀ pos v,codeAmong pos ps.toList=some v->∃ c,v=.ref c/\H c=some (HCode c)
def iA (K:Frg):Option Addr:=match PySem.W.nsIn K mainGlobals "depth" with
 | some (some (.ref f))=>(match K.lookup f with
  | some ⟨_,_,.func fd,_⟩=>(match fd.code with
   | .ref c=>(match K.lookup c with
    | some ⟨_,_,.fields vs,_⟩=>(match (vs[11]?:Option Value) with
     | some (.ref P)=>some P
     | _=>none)
    | _=>none)
   | _=>none)
  | _=>none)
 | _=>none
def mI (K:Frg)(H:Hp):Prop:=Tab H/\∀ P,iA K=some P->∃ ps,H P=some (.tbl ps)
structure Same (H H':Hp):Prop where
 all:∀ b o,H b=some o->KR o=true->H' b=some o
 tbl:∀ b ps,H b=some (.tbl ps)->∃ ps',H' b=some (.tbl ps')
theorem Same.get {H H':Hp}(e:Same H H'){b:Addr}{o:HO}(h:H b=some o)(n:KR o=true:=by rfl):H' b=some o:=e.all b o h n
theorem Same.refl (H:Hp):Same H H:=⟨fun _ _ h _=>h,fun _ ps h=>⟨ps,h⟩⟩
theorem Same.trans {H H1 H2:Hp}(a:Same H H1)(b:Same H1 H2):Same H H2:=⟨fun c o h n=>b.all c o (a.all c o h n) n,fun c ps h=>let ⟨ps',h'⟩:=a.tbl c ps h;b.tbl c ps' h'⟩
theorem Same.free {H H':Hp}(e:Same H H'){l:Addr}(h:H' l=Option.none):H l=Option.none:=by
 cases q:H l with
 | none=>rfl
 | some o=>
  cases n:KR o with
  | true=>rw[e.all l o q n]at h;cases h
  | false=>
   cases o <;> first|(cases n)|skip
   obtain⟨ps',z⟩:=e.tbl l _ q;rw[z]at h;cases h
theorem Same.of {H H':Hp}(h:∀ b o,H b=some o->H' b=some o):Same H H':=⟨fun b o q _=>h b o q,fun b ps q=>⟨ps,h b _ q⟩⟩
theorem Same.seq {K:Frg}{H H':Hp}{a:Addr}{xs:List V}(e:Same H H')(h:cX K H a xs):cX K H' a xs:=by
 rcases h with (h|⟨o,h⟩)|h
 ·exact .inl (.inl (e.get h))
 ·exact .inl (.inr ⟨o,e.get h⟩)
 ·exact .inr h
theorem mI.same {K:Frg}{H H':Hp}(t:mI K H)(e:Same H H')(h:Tab H'):mI K H':=⟨h,fun P a=>let ⟨ps,q⟩:=t.2 P a;e.tbl P ps q⟩
theorem vg {H:Hp}{a:Addr}{o:HO}(t:Tab H)(hn:H a=none)(n:KR o=true):Tab (cO H a o):=fun P ps h=>by
 by_cases z:P=a
 ·subst z;rw[aZ]at h;cases h;cases n
 ·rw[aW z]at h;obtain⟨h1,h2⟩:=t P ps h;exact⟨h1,fun pos v q=>let ⟨c,e,g⟩:=h2 pos v q;⟨c,e,by rw[aW (bf g hn)];exact g⟩⟩
theorem Kl {H:Hp}{a:Addr}{xs ys:List V}(t:Tab H)(hn:H a=some (.lst xs)):Tab (cO H a (.lst ys)):=fun P ps h=>by
 by_cases z:P=a
 ·subst z;rw[aZ]at h;cases h
 ·rw[aW z]at h;obtain⟨h1,h2⟩:=t P ps h;exact⟨h1,fun pos v q=>let ⟨c,e,g⟩:=h2 pos v q;⟨c,e,by rw[aW (fun w=>by rw[w,hn]at g;cases g)];exact g⟩⟩
theorem G1 {K:Frg}{H:Hp}{a:Addr}{o:HO}(t:mI K H)(hn:H a=none)(n:KR o=true):mI K (cO H a o):=⟨vg t.1 hn n,fun P e1=>let ⟨ps,q⟩:=t.2 P e1;⟨ps,by rw[aW (bf q hn)];exact q⟩⟩
theorem wV {K:Frg}{H:Hp}{a:Addr}{xs ys:List V}(t:mI K H)(hn:H a=some (.lst xs)):mI K (cO H a (.lst ys)):=⟨Kl t.1 hn,fun P e1=>let ⟨ps,q⟩:=t.2 P e1;⟨ps,by rw[aW (fun w=>by rw[w,hn]at q;cases q)];exact q⟩⟩
theorem GH {H:Hp}{a:Addr}{o:HO}(hn:H a=none):Same H (cO H a o):=.of fun b u q=>by rw[aW (bf q hn)];exact q
inductive T where
 | non|bl (b:Bool)|int (i:Int)|str (x:Str)|tup (xs:List T)|lst (xs:List T)|exc (x:Str)
inductive S where
 | t (x:T)|vt (x:T)|ol (xs:List T)
def ExcAt (H:Hp)(a c:Addr):Prop:=H a=some (.ext fun h=>∃ o,h.get? a=some o/\o.cls=.ref c)
mutual
def aA (K:Frg)(H:Hp):T->V->Prop
 | .non,v=>v=.non
 | .bl b,v=>v=.bl b
 | .int i,v=>v=.int i
 | .str x,v=>v=.str x
 | .tup ts,v=>∃ a xs,v=.ref a/\k8 K H a xs/\au K H ts xs
 | .lst ts,v=>∃ a xs,v=.ref a/\cX K H a xs/\au K H ts xs
 | .exc x,v=>∃ a C,v=.ref a/\PySem.W.nsIn K mainGlobals x=some (some (.ref C))/\ExcAt H a C
def au (K:Frg)(H:Hp):List T->List V->Prop
 | [],xs=>xs=[]
 | t::ts,xs=>∃ x r,xs=x::r/\aA K H t x/\au K H ts r
end
mutual
def lP:T->Bool
 | .tup ts=>cF ts
 | .lst _=>false
 | _=>true
def cF:List T->Bool
 | []=>true
 | t::ts=>lP t && cF ts
end
mutual
theorem aA.mono {K:Frg}{H H':Hp}(h:∀ a xs,k8 K H a xs->k8 K H' a xs)(hl:∀ a xs,cX K H a xs->cX K H' a xs)(he:∀ a c,ExcAt H a c->ExcAt H' a c):∀ (t:T) (v:V),aA K H t v->aA K H' t v
 | .non,_,e=>e
 | .bl _,_,e=>e
 | .int _,_,e=>e
 | .str _,_,e=>e
 | .tup ts,_,⟨a,xs,e,q,r⟩=>⟨a,xs,e,h a xs q,au.mono h hl he ts xs r⟩
 | .lst ts,_,⟨a,xs,e,q,r⟩=>⟨a,xs,e,hl a xs q,au.mono h hl he ts xs r⟩
 | .exc c,_,⟨a,C,e,z,q⟩=>⟨a,C,e,z,he a C q⟩
theorem au.mono {K:Frg}{H H':Hp}(h:∀ a xs,k8 K H a xs->k8 K H' a xs)(hl:∀ a xs,cX K H a xs->cX K H' a xs)(he:∀ a c,ExcAt H a c->ExcAt H' a c):∀ (ts:List T) (xs:List V),au K H ts xs->au K H' ts xs
 | [],_,e=>e
 | t::ts,_,⟨x,r,e,p,q⟩=>⟨x,r,e,aA.mono h hl he t x p,au.mono h hl he ts r q⟩
end
theorem Same.sqT {K:Frg}{H H':Hp}(e:Same H H')(a:Addr)(xs:List V)(h:k8 K H a xs):k8 K H' a xs:=by
 rcases h with (h|⟨o,h⟩)|h
 ·exact .inl (.inl (e.get h))
 ·exact .inl (.inr ⟨o,e.get h⟩)
 ·exact .inr h
theorem aA.same {K:Frg}{H H':Hp}(e:Same H H'){t:T}{v:V}(h:aA K H t v):aA K H' t v:=aA.mono (fun a xs q=>Same.sqT e a xs q) (fun a xs q=>e.seq q) (fun a c q=>e.get q) t v h
theorem au.same {K:Frg}{H H':Hp}(e:Same H H'){ts:List T}{xs:List V}(h:au K H ts xs):au K H' ts xs:=au.mono (fun a xs q=>Same.sqT e a xs q) (fun a xs q=>e.seq q) (fun a c q=>e.get q) ts xs h
def gN (F H:Hp):Prop:=∀ b o,H b=some o->KR o=true->F b=some o\/∃ xs,o=.lst xs
theorem gN.sqT {K:Frg}{F H:Hp}(f:gN F H)(a:Addr)(xs:List V)(h:k8 K H a xs):k8 K F a xs:=by
 rcases h with (h|⟨o,h⟩)|h
 ·rcases f _ _ h rfl with q|⟨ys,q⟩
  ·exact .inl (.inl q)
  ·cases q
 ·rcases f _ _ h rfl with q|⟨ys,q⟩
  ·exact .inl (.inr ⟨o,q⟩)
  ·cases q
 ·exact .inr h
theorem gN.exc {F H:Hp}(f:gN F H){a c:Addr}(h:ExcAt H a c):ExcAt F a c:=by
 rcases f _ _ h rfl with q|⟨ys,q⟩
 ·exact q
 ·cases q
mutual
theorem aA.fullM {K:Frg}{F H:Hp}(e:gN F H):∀ (t:T) (v:V),lP t=true->aA K H t v->aA K F t v
 | .non,_,_,h=>h
 | .bl _,_,_,h=>h
 | .int _,_,_,h=>h
 | .str _,_,_,h=>h
 | .tup ts,_,p,⟨a,xs,h1,h2,h3⟩=>⟨a,xs,h1,e.sqT a xs h2,au.fullM e ts xs (by simpa only [lP] using p) h3⟩
 | .lst _,_,p,_=>by simp[lP]at p
 | .exc _,_,_,⟨a,C,h1,z,h2⟩=>⟨a,C,h1,z,e.exc h2⟩
theorem au.fullM {K:Frg}{F H:Hp}(e:gN F H):∀ (ts:List T) (xs:List V),cF ts=true->au K H ts xs->au K F ts xs
 | [],_,_,h=>h
 | t::ts,_,p,⟨x,r,h1,h2,h3⟩=>by
  simp only[cF,Bool.and_eq_true]at p;exact⟨x,r,h1,aA.fullM e t x p.1 h2,au.fullM e ts r p.2 h3⟩
end
theorem aA.full {K:Frg}{F H:Hp}(e:gN F H){t:T}{v:V}(p:lP t=true)(h:aA K H t v):aA K F t v:=aA.fullM e t v p h
theorem au.full {K:Frg}{F H:Hp}(e:gN F H){ts:List T}{xs:List V}(p:cF ts=true)(h:au K H ts xs):au K F ts xs:=au.fullM e ts xs p h
def norm (x:T):S:=if lP x=true then .t x else .vt x
theorem au.length {K:Frg}{H:Hp}:∀ {ts:List T}{xs:List V},au K H ts xs->xs.length=ts.length
 | [],_,e=>by cases (show _=[] from e);rfl
 | t::ts,_,⟨x,r,e,_,q⟩=>by subst e;rw[length_cons,length_cons,au.length q]
theorem au.get {K:Frg}{H:Hp}:∀ {ts:List T}{xs:List V}{i:Nat}{t:T},au K H ts xs->ts[i]?=some t->∃ x,xs[i]?=some x/\aA K H t x
 | [],_,_,_,_,e=>by simp at e
 | t::ts,_,0,u,⟨x,r,e,p,q⟩,h=>by subst e;simp at h;subst h;exact⟨x,by simp,p⟩
 | t::ts,_,i+1,u,⟨x,r,e,p,q⟩,h=>by
  subst e;obtain⟨y,h1,h2⟩:=au.get (i:=i) q (by simpa using h)
  exact⟨y,by simpa using h1,h2⟩
theorem au.getV {K:Frg}{H:Hp}:∀ {ts:List T}{xs:List V}{i:Nat}{x:V},au K H ts xs->xs[i]?=some x->∃ t,ts[i]?=some t/\aA K H t x
 | [],_,_,_,e,h=>by cases (show _=[] from e);simp at h
 | t::ts,_,0,u,⟨x,r,e,p,q⟩,h=>by subst e;simp at h;subst h;exact⟨t,by simp,p⟩
 | t::ts,_,i+1,u,⟨x,r,e,p,q⟩,h=>by
  subst e;obtain⟨y,h1,h2⟩:=au.getV (i:=i) q (by simpa using h)
  exact⟨y,by simpa using h1,h2⟩
theorem au.append {K:Frg}{H:Hp}:∀ {ts us:List T}{xs ys:List V},au K H ts xs->au K H us ys->au K H (ts++us) (xs++ys)
 | [],_,_,_,e,q=>by cases (show _=[] from e);exact q
 | t::ts,_,_,_,⟨x,r,e,p,q⟩,h=>by subst e;exact⟨x,r++_,rfl,p,au.append q h⟩
theorem au.one {K:Frg}{H:Hp}{t:T}{x:V}(h:aA K H t x):au K H [t] [x]:=⟨x,[],rfl,h,rfl⟩
theorem au.take {K:Frg}{H:Hp}:∀ {ts:List T}{xs:List V} (n:Nat),au K H ts xs->au K H (ts.take n) (xs.take n)
 | _,_,0,_=>by simp only[List.take_zero];rfl
 | [],_,_+1,e=>by cases (show _=[] from e);rfl
 | t::ts,_,n+1,⟨x,r,e,p,q⟩=>by subst e;exact⟨x,r.take n,rfl,p,au.take n q⟩
theorem au.drop {K:Frg}{H:Hp}:∀ {ts:List T}{xs:List V} (n:Nat),au K H ts xs->au K H (ts.drop n) (xs.drop n)
 | _,_,0,h=>by simp only[List.drop_zero];exact h
 | [],_,_+1,e=>by cases (show _=[] from e);rfl
 | t::ts,_,n+1,⟨x,r,e,p,q⟩=>by subst e;exact au.drop n q
theorem au.set {K:Frg}{H:Hp}{u:T}{y:V}(h:aA K H u y):∀ {ts:List T}{xs:List V} (n:Nat),au K H ts xs->au K H (ts.set n u) (xs.set n y)
 | [],_,_,e=>by cases (show _=[] from e);rfl
 | t::ts,_,0,⟨x,r,e,p,q⟩=>by subst e;exact⟨y,r,rfl,h,q⟩
 | t::ts,_,n+1,⟨x,r,e,p,q⟩=>by subst e;exact⟨x,r.set n y,rfl,p,au.set h n q⟩
theorem au.dropLast {K:Frg}{H:Hp}{ts:List T}{xs:List V}(h:au K H ts xs):au K H ts.dropLast xs.dropLast:=by
 rw[List.dropLast_eq_take,List.dropLast_eq_take,h.length];exact h.take _
theorem au.reverse {K:Frg}{H:Hp}:∀ {ts:List T}{xs:List V},au K H ts xs->au K H ts.reverse xs.reverse
 | [],_,e=>by cases (show _=[] from e);rfl
 | t::ts,_,⟨x,r,e,p,q⟩=>by subst e;rw[reverse_cons,reverse_cons];exact au.append (au.reverse q) (au.one p)
theorem au.ints {K:Frg}{H:Hp}:∀ (ns:List Int),au K H (ns.map T.int) (ns.map V.int)
 | []=>rfl
 | n::ns=>⟨.int n,ns.map V.int,rfl,rfl,au.ints ns⟩
abbrev aR:=List (Option S)
abbrev WE:=aR->(S->Prop)->Prop
abbrev WT:=aR->(Bool->Prop)->Prop
abbrev WA:=aR->(List S->Prop)->Prop
structure iX where
 nx:aR->Prop
 rt:S->Prop
 bk:aR->Prop:=fun _=>False
 ct:aR->Prop:=fun _=>False
abbrev WS:=iX->aR->Prop
def fK (K:Frg)(F H:Hp):S->V->Prop
 | .t x,v=>aA K F x v
 | .vt _,_=>False
 | .ol ts,v=>∃ a xs,v=.ref a/\F a=none/\H a=some (.lst xs)/\au K F ts xs
structure Rel (K:Frg) (F H:Hp) (σ:St) (δ:aR):Prop where
 sub:Same F H
 full:gN F H
 len:σ.length=δ.length
 slot:∀ (i:Nat) (s:S),δ[i]?=some (some s)->∃ v,σ[i]?=some (some v)/\fK K F H s v
 dist:∀ (i j:Nat) (a:Addr) (ts us:List T),i≠j->δ[i]?=some (some (.ol ts))->δ[j]?=some (some (.ol us))->σ[i]?=some (some (.ref a))->σ[j]?≠some (some (.ref a))
 tab:mI K H
structure dj (F H F' H':Hp):Prop where
 hh:Same H H'
 ff:Same F F'
 sub:Same F' H'
 full:gN F' H'
 keep:∀ b,H b≠none->F b=none->F' b=none
 tb:Tab H->Tab H'
theorem aM {H H':Hp}(e:Same H H'){b:Addr}(h:H' b=none):H b=none:=e.free h
theorem dj.refl {F H:Hp}(a:Same F H)(b:gN F H):dj F H F H:=⟨Same.refl _,Same.refl _,a,b,fun _ _ h=>h,id⟩
theorem dj.trans {F H F1 H1 F2 H2:Hp}(a:dj F H F1 H1)(b:dj F1 H1 F2 H2):dj F H F2 H2:=
 ⟨a.hh.trans b.hh,a.ff.trans b.ff,b.sub,b.full,fun c h1 h2=>b.keep c (fun z=>h1 (aM a.hh z)) (a.keep c h1 h2),fun t=>b.tb (a.tb t)⟩
theorem fK.ext {K:Frg}{F H F' H':Hp}(e:dj F H F' H'):∀ {s:S}{v:V},fK K F H s v->fK K F' H' s v
 | .t _,_,h=>aA.same e.ff h
 | .vt _,_,h=>h
 | .ol _,_,⟨a,xs,h1,h2,h3,h4⟩=>⟨a,xs,h1,e.keep a (by rw[h3];simp) h2,e.hh.get h3,au.same e.ff h4⟩
theorem Rel.ext {K:Frg}{F H F' H':Hp}{σ:St}{δ:aR}(r:Rel K F H σ δ)(e:dj F H F' H'):Rel K F' H' σ δ:=
 ⟨e.sub,e.full,r.len,fun i s h=>let ⟨v,h1,h2⟩:=r.slot i s h;⟨v,h1,h2.ext e⟩,r.dist,r.tab.same e.hh (e.tb r.tab.1)⟩
theorem Rel.refl {K:Frg}{F H:Hp}{σ:St}{δ:aR}(r:Rel K F H σ δ):dj F H F H:=dj.refl r.sub r.full
def dI (K:Frg)(H F' H':Hp):S->V->Prop
 | .t x,v=>aA K F' x v
 | .vt x,v=>aA K H' x v
 | .ol ts,v=>∃ a xs,v=.ref a/\H a=none/\F' a=none/\H' a=some (.lst xs)/\au K F' ts xs
theorem dI.ext {K:Frg}{H F1 H1 F2 H2:Hp}(e:dj F1 H1 F2 H2):∀ {s:S}{v:V},dI K H F1 H1 s v->dI K H F2 H2 s v
 | .t _,_,h=>aA.same e.ff h
 | .vt _,_,h=>aA.same e.hh h
 | .ol _,_,⟨a,xs,h1,h2,h3,h4⟩=>⟨a,xs,h1,h2,e.keep a (by rw[h4.1];simp) h3,e.hh.get h4.1,au.same e.ff h4.2⟩
theorem dI.start {K:Frg}{H0 H F' H':Hp}(e:Same H0 H):∀ {s:S}{v:V},dI K H F' H' s v->dI K H0 F' H' s v
 | .t _,_,h=>h
 | .vt _,_,h=>h
 | .ol _,_,⟨a,xs,h1,h2,h3⟩=>⟨a,xs,h1,aM e h2,h3⟩
theorem dI.norm {K:Frg}{H F H':Hp}(f:gN F H'){x:T}{v:V}(h:aA K H' x v):dI K H F H' (norm x) v:=by
 unfold DL.norm
 split
 ·rename_i p;exact aA.full f p h
 ·exact h
def gO (K:Frg)(F H:Hp):S->V->Prop
 | .t x,v=>aA K F x v
 | .vt x,v=>aA K H x v
 | .ol ts,v=>∃ a xs,v=.ref a/\cX K H a xs/\au K F ts xs
theorem dI.val {K:Frg}{H0 F H:Hp}(e:Same F H):∀ {s:S}{v:V},dI K H0 F H s v->gO K F H s v
 | .t _,_,h=>h
 | .vt _,_,h=>h
 | .ol _,_,⟨a,xs,h1,_,_,h2,h3⟩=>⟨a,xs,h1,cX.of h2,h3⟩
def tr:S->T
 | .t x=>x
 | .vt x=>x
 | .ol ts=>.lst ts
theorem gO.tree {K:Frg}{F H:Hp}(e:Same F H):∀ {s:S}{v:V},gO K F H s v->aA K H (tr s) v
 | .t _,_,h=>aA.same e h
 | .vt _,_,h=>h
 | .ol _,_,⟨a,xs,h1,h2,h3⟩=>⟨a,xs,h1,h2,au.same e h3⟩
def items:S->Option (List T)
 | .t (.lst ts)=>some ts
 | .vt (.lst ts)=>some ts
 | .ol ts=>some ts
 | _=>none
theorem gO.list {K:Frg}{F H:Hp}(e:Same F H){s:S}{v:V}{ts:List T}(h:gO K F H s v)(q:items s=some ts):∃ a xs,v=.ref a/\cX K H a xs/\au K H ts xs:=by
 cases s with
 | t x=>
  cases x with
  | lst us=>
   have e1:us=ts:=Option.some.inj q;subst e1;unfold gO aA at h;obtain⟨a,xs,h1,h2,h3⟩:=h;exact⟨a,xs,h1,e.seq h2,au.same e h3⟩
  | _=>cases q
 | vt x=>
  cases x with
  | lst us=>
   have e1:us=ts:=Option.some.inj q;subst e1;unfold gO aA at h;exact h
  | _=>cases q
 | ol us=>
  have e1:us=ts:=Option.some.inj q;subst e1;unfold gO at h;obtain⟨a,xs,h1,h2,h3⟩:=h;exact⟨a,xs,h1,h2,au.same e h3⟩
def av (K:Frg)(w:WE):TE:=fun σ H Q=>∃ δ R F,Rel K F H σ δ/\w δ R/\∀ v F' H' s,dj F H F' H'->dI K H F' H' s v->R s->Q v H'
def liftT (K:Frg)(w:WT):TT:=fun σ H Q=>∃ δ R F,Rel K F H σ δ/\w δ R/\∀ F' H' b,dj F H F' H'->R b->Q b H'
def jb (K:Frg)(H F' H':Hp):List S->List V->Prop
 | [],vs=>vs=[]
 | s::ss,vs=>∃ v r,vs=v::r/\dI K H F' H' s v/\jb K H F' H' ss r
theorem jb.start {K:Frg}{H0 H F' H':Hp}(e:Same H0 H):∀ {ss:List S}{vs:List V},jb K H F' H' ss vs->jb K H0 F' H' ss vs
 | [],_,h=>h
 | _::_,_,⟨v,r,h1,h2,h3⟩=>⟨v,r,h1,h2.start e,jb.start e h3⟩
def dA (K:Frg)(w:WA):TA:=fun σ H Q=>∃ δ R F,Rel K F H σ δ/\w δ R/\∀ vs F' H' ss,dj F H F' H'->jb K H F' H' ss vs->R ss->Q vs H'
def Cq (K:Frg)(H₀ H':Hp):S->V->Prop
 | .t x,v=>aA K H' x v
 | .vt _,_=>False
 | .ol ts,v=>∃ a xs,v=.ref a/\H₀ a=none/\H' a=some (.lst xs)/\au K H' ts xs
structure tu (K:Frg) (H₀ F:Hp) (D':iX) (D:Ends):Prop where
 nx:∀ σ' F' H' δ',Same F F'->Rel K F' H' σ' δ'->D'.nx δ'->D.nx σ' H'
 rt:∀ v H' s,Same H₀ H'->mI K H'->Cq K H₀ H' s v->D'.rt s->D.rt v H'
 bk:∀ σ' F' H' δ',Same F F'->Rel K F' H' σ' δ'->D'.bk δ'->D.bk σ' H'
 ct:∀ σ' F' H' δ',Same F F'->Rel K F' H' σ' δ'->D'.ct δ'->D.ct σ' H'
theorem tu.mono {K:Frg}{H₀ F F1:Hp}{D':iX}{D:Ends}(e:tu K H₀ F D' D)(s:Same F F1):tu K H₀ F1 D' D:=
 ⟨fun _ _ _ _ h=>e.nx _ _ _ _ (s.trans h),e.rt,fun _ _ _ _ h=>e.bk _ _ _ _ (s.trans h),fun _ _ _ _ h=>e.ct _ _ _ _ (s.trans h)⟩
def bE (K:Frg)(H₀:Hp)(w:WS):TS:=fun D σ H=>∃ δ D' F,Same H₀ F/\Rel K F H σ δ/\w D' δ/\tu K H₀ F D' D
end DL
namespace L2
open PySem
section
variable {X:Cx}{e:Expr}{t t':TE}
theorem PE.imp (h:PE X e t)(i:∀ σ H Q,t' σ H Q->t σ H Q):PE X e t':=fun pins s σ H Q I q=>h pins s σ H Q I (i σ H Q q)
theorem PT.imp {t t':TT}(h:PT X e t)(i:∀ σ H Q,t' σ H Q->t σ H Q):PT X e t':=fun pins s σ H Q I q=>h pins s σ H Q I (i σ H Q q)
theorem PW.imp {t t':TT}(h:PW X e t)(i:∀ σ H Q,t' σ H Q->t σ H Q):PW X e t':=fun wh pins s σ H Q I q=>h wh pins s σ H Q I (i σ H Q q)
theorem PA.imp {es:List Expr}{t t':TA}(h:PA X es t)(i:∀ σ H Q,t' σ H Q->t σ H Q):PA X es t':=fun pos pins s σ H Q I q=>h pos pins s σ H Q I (i σ H Q q)
theorem PS.imp {st:Stmt}{t t':TS}(h:PS X st t)(i:∀ D σ H,t' D σ H->t D σ H):PS X st t':=fun pins s σ H D I q=>h pins s σ H D I (i D σ H q)
theorem kA.imp {st:List Stmt}{t t':TS}(h:kA X st t)(i:∀ D σ H,t' D σ H->t D σ H):kA X st t':=fun pins s σ H D I q=>h pins s σ H D I (i D σ H q)
theorem PG.imp {tg:Expr}{t t':TG}(h:PG X tg t)(i:∀ v σ H Q,t' v σ H Q->t v σ H Q):PG X tg t':=fun pins s σ H v u Q I r q=>h pins s σ H v u Q I r (i v σ H Q q)
theorem Cm.imp {tg:List Expr}{t t':Hq}(h:Cm X tg t)(i:∀ v σ H Q,t' v σ H Q->t v σ H Q):Cm X tg t':=fun pins s σ H v u Q I r q=>h pins s σ H v u Q I r (i v σ H Q q)
theorem PI.imp {tg iter:Expr}{t t':TI}(h:PI X tg iter t)(i:∀ σ H Q,t' σ H Q->t σ H Q):PI X tg iter t':=fun pins s σ H R I q=>h pins s σ H R I (i σ H R q)
end
end L2
namespace DL
open PySem L2
def wC (x:T):WE:=fun _ R=>R (.t x)
def seen:S->S
 | .ol ts=>.vt (.lst ts)
 | .t x=>.t x
 | .vt x=>.vt x
def ae (i:Nat):WE:=fun δ R=>match δ[i]? with
 | some (some s)=>R (seen s)
 | _=>False
section
variable {X:Cx}{a b c:Expr}{wa wb wc:WE}{pos:Pos}
theorem ab {i j pos}:PE X (.Constant (.int i) j pos) (av X.K (wC (.int i))):=Nr.imp fun _ _ _ ⟨_,_,_,r,h,k⟩=>k _ _ _ (.t (.int i)) r.refl rfl h
theorem zd {i j pos}:PE X (.Constant (.bool i) j pos) (av X.K (wC (.bl i))):=Qh.imp fun _ _ _ ⟨_,_,_,r,h,k⟩=>k _ _ _ (.t (.bl i)) r.refl rfl h
theorem tW {j pos}:PE X (.Constant .none j pos) (av X.K (wC .non)):=Nu.imp fun _ _ _ ⟨_,_,_,r,h,k⟩=>k _ _ _ (.t .non) r.refl rfl h
theorem xF {i j pos}:PE X (.Constant (.str i) j pos) (av X.K (wC (.str i))):=Nx.imp fun _ _ _ ⟨_,_,_,r,h,k⟩=>k _ _ _ (.t (.str i)) r.refl rfl h
theorem Kb {K:Frg}{F H:Hp}(e:Same F H):∀ {s:S}{v:V},fK K F H s v->dI K H F H (seen s) v
 | .t _,_,h=>h
 | .vt _,_,h=>False.elim h
 | .ol _,_,⟨a,xs,h1,_,h3,h4⟩=>⟨a,xs,h1,cX.of h3,au.same e h4⟩
theorem Be {e:Expr}{i:Nat}(h:PE X e (wU i)):PE X e (av X.K (ae i)):=h.imp fun σ H Q ⟨δ,R,F,r,h,k⟩=>by
 unfold ae at h
 split at h
 ·rename_i s hs;obtain⟨v,h1,h2⟩:=r.slot i s hs;exact⟨v,h1,k _ _ _ _ r.refl (Kb r.sub h2) h⟩
 ·exact h.elim
theorem dv (i:Nat) {x:Str}{pos:Pos} (hN:X.N[i]?=some x:=by rfl) (hv:QT X.env.scope x:=by first | exact Or.inl rfl | exact Or.inr (Or.inl rfl) | exact Or.inr (Or.inr rfl)) (hd:(x == ("__debug__":Str))=false:=by decide)
  (hcd:(x == ("__classdict__":Str))=false:=by decide):PE X (.Name x pos) (av X.K (ae i)):=Be (Gj hN hv hd hcd)
def ap (f:S->S->(S->Prop)->Prop)(wa wb:WE):WE:=fun δ R=>wa δ fun x=>wb δ fun y=>f x y R
def He (K:Frg)(r:R2)(f:S->S->(S->Prop)->Prop):Prop:=
 ∀ F H s1 s2 v1 v2 R Q,Same F H->gN F H->gO K F H s1 v1->gO K F H s2 v2->f s1 s2 R->(∀ v F' H' s,dj F H F' H'->dI K H F' H' s v->R s->Q v H')->r v1 v2 H Q
theorem cz {K:Frg}{r:R2}{f:S->S->(S->Prop)->Prop}(ho:He K r f):∀ σ H Q,av K (ap f wa wb) σ H Q->N5 r (av K wa) (av K wb) σ H Q:=by
 rintro σ H Q ⟨δ,R,F,rl,h,k⟩;refine⟨δ,_,F,rl,h,fun v1 F1 H1 s1 e1 p1 h1=>?_⟩;refine⟨δ,_,F1,rl.ext e1,h1,fun v2 F2 H2 s2 e2 p2 h2=>?_⟩;refine ho F2 H2 s1 s2 v1 v2 R Q e2.sub e2.full ((p1.ext e2).val e2.sub) (p2.val e2.sub) h2 fun v F' H' s e p q=>?_;exact k v F' H' s ((e1.trans e2).trans e) (p.start (e1.trans e2).hh) q
def fI (C:Int->Int->Prop)(g:Int->Int->T):S->S->(S->Prop)->Prop
 | .t (.int i),.t (.int j),R=>C i j/\R (.t (g i j))
 | _,_,_=>False
def Iy (g:Int->Int->T):S->S->(S->Prop)->Prop
 | .t (.int i),.t (.int j),R=>R (.t (g i j))
 | _,_,_=>False
theorem Iz {C:Int->Int->Prop}{g:Int->Int->T}:∀ {s1 s2:S}{R:S->Prop},fI C g s1 s2 R->∃ i j,s1=.t (.int i)/\s2=.t (.int j)/\C i j/\R (.t (g i j))
 | .t (.int i),.t (.int j),_,h=>⟨i,j,rfl,rfl,h.1,h.2⟩
theorem Ed {g:Int->Int->T}:∀ {s1 s2:S}{R:S->Prop},Iy g s1 s2 R->∃ i j,s1=.t (.int i)/\s2=.t (.int j)/\R (.t (g i j))
 | .t (.int i),.t (.int j),_,h=>⟨i,j,rfl,rfl,h⟩
def toV:T->V
 | .bl b=>.bl b
 | .int i=>.int i
 | .str x=>.str x
 | _=>.non
def flat:T->Bool
 | .tup _=>false
 | .lst _=>false
 | .exc _=>false
 | _=>true
theorem vT {K:Frg}{F:Hp}:∀ {x:T},flat x=true->aA K F x (toV x)
 | .non,_=>rfl
 | .bl _,_=>rfl
 | .int _,_=>rfl
 | .str _,_=>rfl
theorem Ae {K:Frg}{C:Int->Int->Prop}{g:Int->Int->T}(hg:∀ i j,flat (g i j)=true):He K (rI C fun i j=>toV (g i j)) (fI C g):=by
 intro F H s1 s2 v1 v2 R Q sb fu p1 p2 h k;obtain⟨i,j,rfl,rfl,hc,hr⟩:=Iz h;exact⟨i,j,p1,p2,hc,k _ F H (.t (g i j)) (dj.refl sb fu) (vT (hg i j)) hr⟩
theorem kK {K:Frg}{g:Int->Int->T}(hg:∀ i j,flat (g i j)=true):He K (JY fun i j=>toV (g i j)) (Iy g):=by
 intro F H s1 s2 v1 v2 R Q sb fu p1 p2 h k;obtain⟨i,j,rfl,rfl,hr⟩:=Ed h;exact⟨i,j,p1,p2,k _ F H (.t (g i j)) (dj.refl sb fu) (vT (hg i j)) hr⟩
abbrev dw:=ap (Iy fun i j=>.int (i+j))
abbrev cZ:=ap (Iy fun i j=>.int (i-j))
structure MulOk (i j:Int):Prop where
 ok:IntMulOk i j
structure Co (i j:Int):Prop where
 ok:OE i j
abbrev bv:=ap (fI MulOk fun i j=>.int (i*j))
structure oZ (i j:Int):Prop where
 ne:j≠0
 short:Builtin.divisionGoesByPylong i j=false
abbrev dE:=ap (fI oZ fun i j=>.int (i.fdiv j))
abbrev dG:=ap (fI (fun _ j=>j≠0) fun i j=>.int (i.fmod j))
abbrev w6:=ap (fI Co fun i j=>.int (i ^ j.toNat))
theorem Jv:lc X (binaryOp .Mult) (rI MulOk fun i j=>.int (i*j)):=QX fun _ _ _ _ _ _ _ hc q=>PyProof.Rows.mul_int q hc.ok
theorem Gf:lc X (binaryOp .FloorDiv) (rI oZ fun i j=>.int (i.fdiv j)):=QX fun _ _ _ _ _ _ _ hc q=>PyProof.Rows.floordiv_int hc.ne q (.inl hc.short)
theorem bu (ha:PE X a (av X.K wa))(hb:PE X b (av X.K wb)):PE X (.BinOp a .Add b pos) (av X.K (dw wa wb)):=(qi Nf ha hb).imp (cz (kK fun _ _=>rfl))
theorem ba (ha:PE X a (av X.K wa))(hb:PE X b (av X.K wb)):PE X (.BinOp a .Sub b pos) (av X.K (cZ wa wb)):=(qi Nk ha hb).imp (cz (kK fun _ _=>rfl))
theorem aE (ha:PE X a (av X.K wa))(hb:PE X b (av X.K wb)):PE X (.BinOp a .Mult b pos) (av X.K (bv wa wb)):=(qi Jv ha hb).imp (cz (Ae fun _ _=>rfl))
theorem bI (ha:PE X a (av X.K wa))(hb:PE X b (av X.K wb)):PE X (.BinOp a .FloorDiv b pos) (av X.K (dE wa wb)):=(qi Gf ha hb).imp (cz (Ae fun _ _=>rfl))
theorem bz (ha:PE X a (av X.K wa))(hb:PE X b (av X.K wb)):PE X (.BinOp a .Mod b pos) (av X.K (dG wa wb)):=(qi Ju ha hb).imp (cz (Ae fun _ _=>rfl))
theorem kF (ha:PE X a (av X.K wa))(hb:PE X b (av X.K wb)):PE X (.BinOp a .Pow b pos) (av X.K (w6 wa wb)):=(qi (show lc X (binaryOp .Pow) (rI Co fun i j=>.int (i ^ j.toNat)) from fun pins s σ H x y v u Q I rx ry ⟨i,j,e1,e2,hc,q⟩=>Nj pins s σ H x y v u Q I rx ry ⟨i,j,e1,e2,hc.ok,q⟩) ha hb).imp (cz (Ae fun _ _=>rfl))
abbrev Cc:=ap (Iy fun i j=>.bl (decide (i<j)))
abbrev Sb:=ap (Iy fun i j=>.bl (decide (i<=j)))
abbrev G8:=ap (Iy fun i j=>.bl (decide (j<i)))
abbrev QL:=ap (Iy fun i j=>.bl (decide (j<=i)))
theorem Pv (ha:PE X a (av X.K wa))(hb:PE X b (av X.K wb)):PE X (.Compare a [.Lt] [b] pos) (av X.K (Cc wa wb)):=(uT KS ha hb (gF _)).imp (cz (kK fun _ _=>rfl))
def wB (w:WE):WT:=fun δ R=>w δ fun s=>match s with
 | .t (.bl k)=>R k
 | _=>False
theorem kG {op:CmpOp}{r:R2}{f:S->S->(S->Prop)->Prop}(ho:lc X (compareOp op) r)(hf:He X.K r f)(ha:PE X a (av X.K wa))(hb:PE X b (av X.K wb))(hm:behindInMarks op b=false):PT X (.Compare a [op] [b] pos) (liftT X.K (wB (ap f wa wb))):=
 (uV ho ha hb hm).imp fun σ H Q h=>by
  obtain⟨δ,R,F,rl,h,k⟩:=h;refine cz hf σ H _ ⟨δ,_,F,rl,h,fun v F1 H1 s e p q=>?_⟩
  split at q
  ·exact⟨_,p,k F1 H1 _ e q⟩
  ·exact q.elim
theorem kj (ha:PE X a (av X.K wa))(hb:PE X b (av X.K wb)):PT X (.Compare a [.Lt] [b] pos) (liftT X.K (wB (Cc wa wb))):=kG KS (kK fun _ _=>rfl) ha hb (gF _)
theorem Px (ha:PE X a (av X.K wa))(hb:PE X b (av X.K wb)):PT X (.Compare a [.LtE] [b] pos) (liftT X.K (wB (Sb wa wb))):=kG Qd (kK fun _ _=>rfl) ha hb (gF _)
theorem ki (ha:PE X a (av X.K wa))(hb:PE X b (av X.K wb)):PT X (.Compare a [.Gt] [b] pos) (liftT X.K (wB (G8 wa wb))):=kG Qc (kK fun _ _=>rfl) ha hb (gF _)
theorem zx (ha:PE X a (av X.K wa))(hb:PE X b (av X.K wb)):PT X (.Compare a [.GtE] [b] pos) (liftT X.K (wB (QL wa wb))):=kG Qb (kK fun _ _=>rfl) ha hb (gF _)
theorem pG {e:Expr}{w:WE}(h:PE X e (av X.K w))(he:∀ whole,isTrue e X.env whole=(do let v ← whole;standAt e.pos;holding [v] (truthy v)):=by intro _;rfl):PT X e (liftT X.K (wB w)):=
 (NI h he).imp fun σ H Q h=>by
  obtain⟨δ,R,F,rl,h,k⟩:=h;refine⟨δ,_,F,rl,h,fun v F1 H1 s e p q=>?_⟩
  split at q
  ·exact⟨_,p,k F1 H1 _ e q⟩
  ·exact q.elim
def kz (t u:WT):WT:=fun δ R=>t δ fun k=>if k=true then u δ R else R false
def Ha (t u:WT):WT:=fun δ R=>t δ fun k=>if k=true then R true else u δ R
def QM (t:WT):WT:=fun δ R=>t δ fun k=>R (!k)
theorem iu {t:WT}(ha:PT X a (liftT X.K t)):PW X (.BoolOp .And [a] pos) (liftT X.K t):=JU ha
theorem xI {t:WT}(ha:PT X a (liftT X.K t)):PW X (.BoolOp .Or [a] pos) (liftT X.K t):=NL ha
theorem je {rest:List Expr}{t u:WT}(ha:PT X a (liftT X.K t))(hb:PW X (.BoolOp .And (b::rest) pos) (liftT X.K u)):PW X (.BoolOp .And (a::b::rest) pos) (liftT X.K (kz t u)):=
 (NK ha hb).imp fun σ H Q ⟨δ,R,F,rl,h,k⟩=>⟨δ,_,F,rl,h,fun F1 H1 c e q=>by
  cases c with
  | true=>exact⟨δ,R,F1,rl.ext e,by simpa using q,fun F2 H2 c e2 q=>k F2 H2 c (e.trans e2) q⟩
  | false=>exact k F1 H1 false e (by simpa using q)⟩
theorem Dg {rest:List Expr}{t u:WT}(ha:PT X a (liftT X.K t))(hb:PW X (.BoolOp .Or (b::rest) pos) (liftT X.K u)):PW X (.BoolOp .Or (a::b::rest) pos) (liftT X.K (Ha t u)):=
 (Qn ha hb).imp fun σ H Q ⟨δ,R,F,rl,h,k⟩=>⟨δ,_,F,rl,h,fun F1 H1 c e q=>by
  cases c with
  | false=>exact⟨δ,R,F1,rl.ext e,by simpa using q,fun F2 H2 c e2 q=>k F2 H2 c (e.trans e2) q⟩
  | true=>exact k F1 H1 true e (by simpa using q)⟩
def K7 (t:WT):WT:=fun δ R=>∃ P:Bool->Prop,t δ P/\∀ k,P k->R k
theorem xG {t:WT}(ha:PT X a (liftT X.K t)):PT X a (liftT X.K (K7 t)):=ha.imp fun σ H Q ⟨δ,R,F,rl,⟨P,h,k1⟩,k⟩=>⟨δ,P,F,rl,h,fun F1 H1 c e q=>k F1 H1 c e (k1 c q)⟩
def AD (wa wb:WE):WE:=fun δ R=>wa δ fun s=>match s with
 | .t (.bl k)=>if k=true then wb δ R else R (.t (.bl false))
 | _=>False
def R1 (wa wb:WE):WE:=fun δ R=>wa δ fun s=>match s with
 | .t (.bl k)=>if k=true then R (.t (.bl true)) else wb δ R
 | _=>False
def AE (wa:WE):WE:=fun δ R=>wa δ fun s=>match s with
 | .t (.bl k)=>R (.t (.bl (!k)))
 | _=>False
def Oi (c:WT)(wa wb:WE):WE:=fun δ R=>c δ fun k=>if k=true then wa δ R else wb δ R
theorem C3 {op}(h:PE X a (av X.K wa)):PE X (.BoolOp op [a] pos) (av X.K wa):=Nw h
theorem CZ {rest:List Expr}(ha:PE X a (av X.K wa))(hb:PE X (.BoolOp .And (b::rest) pos) (av X.K wb)):PE X (.BoolOp .And (a::b::rest) pos) (av X.K (AD wa wb)):=
 (Np ha hb).imp fun σ H Q ⟨δ,R,F,rl,h,k⟩=>⟨δ,_,F,rl,h,fun v F1 H1 s e p q=>by
  split at q
  ·rename_i c;refine⟨c,p,?_⟩
   cases c with
   | true=>exact⟨δ,R,F1,rl.ext e,by simpa using q,fun v F2 H2 s e2 p q=>k v F2 H2 s (e.trans e2) (p.start e.hh) q⟩
   | false=>exact k _ F1 H1 (.t (.bl false)) e rfl (by simpa using q)
  ·exact q.elim⟩
theorem C1 (ha:PE X a (av X.K wa)):PE X (.UnaryOp .Not a pos) (av X.K (AE wa)):=
 (Nv ha).imp fun σ H Q ⟨δ,R,F,rl,h,k⟩=>⟨δ,_,F,rl,h,fun v F1 H1 s e p q=>by
  split at q
  ·exact⟨_,p,k _ F1 H1 (.t (.bl _)) e rfl q⟩
  ·exact q.elim⟩
theorem Mc {c:Expr}{t:WT}(hc:PT X c (liftT X.K t))(ha:PE X a (av X.K wa))(hb:PE X b (av X.K wb)):PE X (.IfExp c a b pos) (av X.K (Oi t wa wb)):=
 (Gh hc ha hb).imp fun σ H Q ⟨δ,R,F,rl,h,k⟩=>⟨δ,_,F,rl,h,fun F1 H1 c e q=>by
  cases c with
  | true=>exact⟨δ,R,F1,rl.ext e,by simpa using q,fun v F2 H2 s e2 p q=>k v F2 H2 s (e.trans e2) (p.start e.hh) q⟩
  | false=>exact⟨δ,R,F1,rl.ext e,by simpa using q,fun v F2 H2 s e2 p q=>k v F2 H2 s (e.trans e2) (p.start e.hh) q⟩⟩
def vv (f:S->(S->Prop)->Prop)(wa:WE):WE:=fun δ R=>wa δ fun x=>f x R
def iy:S->(S->Prop)->Prop
 | .t (.int i),R=>R (.t (.int (-i)))
 | _,_=>False
theorem cY (ha:PE X a (av X.K wa)):PE X (.UnaryOp .USub a pos) (av X.K (vv iy wa)):=
 (Qj Oe ha).imp fun σ H Q ⟨δ,R,F,rl,h,k⟩=>⟨δ,_,F,rl,h,fun v F1 H1 s e p q=>by
  unfold iy at q
  split at q
  ·exact⟨_,p,k _ F1 H1 (.t (.int _)) e rfl q⟩
  ·exact q.elim⟩
def atT (ts:List T)(i:Int)(R:S->Prop):Prop:=match atI ts i with
 | some x=>R (.t x)
 | none=>False
def xc (ts:List T)(i:Int)(R:S->Prop):Prop:=match atI ts i with
 | some x=>R (norm x)
 | none=>False
def aI:S->S->(S->Prop)->Prop
 | .t (.tup ts),.t (.int i),R=>atT ts i R
 | .t (.lst ts),.t (.int i),R=>atT ts i R
 | .vt (.tup ts),.t (.int i),R=>xc ts i R
 | .vt (.lst ts),.t (.int i),R=>xc ts i R
 | .ol ts,.t (.int i),R=>atT ts i R
 | _,_,_=>False
theorem au.atI {K:Frg}{H:Hp}{ts:List T}{xs:List V}{i:Int}{t:T}(h:au K H ts xs)(e:atI ts i=some t):∃ x,atI xs i=some x/\aA K H t x:=by
 unfold L2.atI at e ⊢;rw[h.length]
 cases q:uG ts.length i with
 | none=>rw[q]at e;cases e
 | some j=>
  rw[q]at e;obtain⟨x,h1,h2⟩:=h.get (i:=j) (by simpa using e)
  exact⟨x,by simpa using h1,h2⟩
theorem mM {ts:List T}{i:Int}{R:S->Prop}(h:atT ts i R):∃ x,atI ts i=some x/\R (.t x):=by
 unfold atT at h
 cases e:atI ts i with
 | none=>simp only[e]at h
 | some x=>simp only[e]at h;exact⟨x,rfl,h⟩
theorem rN {ts:List T}{i:Int}{R:S->Prop}(h:xc ts i R):∃ x,atI ts i=some x/\R (norm x):=by
 unfold xc at h
 cases e:atI ts i with
 | none=>simp only[e]at h
 | some x=>simp only[e]at h;exact⟨x,rfl,h⟩
theorem Nc {K:Frg}:He K (fun x y H Q=>Qo K x y H Q\/Qp K x y H Q) aI:=by
 intro F H s1 s2 v1 v2 R Q sb fu p1 p2 h k;unfold aI at h
 split at h
 ·obtain⟨x,hx,hr⟩:=mM h;obtain⟨a,xs,e1,h1,h2⟩:=p1;obtain⟨y,h3,h4⟩:=h2.atI hx;exact .inr ⟨a,xs,_,y,e1,p2,Same.sqT sb a xs h1,h3,k _ F H (.t x) (dj.refl sb fu) h4 hr⟩
 ·obtain⟨x,hx,hr⟩:=mM h;obtain⟨a,xs,e1,h1,h2⟩:=p1;obtain⟨y,h3,h4⟩:=h2.atI hx;exact .inl ⟨a,xs,_,y,e1,p2,sb.seq h1,h3,k _ F H (.t x) (dj.refl sb fu) h4 hr⟩
 ·obtain⟨x,hx,hr⟩:=rN h;obtain⟨a,xs,e1,h1,h2⟩:=p1;obtain⟨y,h3,h4⟩:=h2.atI hx;exact .inr ⟨a,xs,_,y,e1,p2,h1,h3,k _ F H _ (dj.refl sb fu) (dI.norm fu h4) hr⟩
 ·obtain⟨x,hx,hr⟩:=rN h;obtain⟨a,xs,e1,h1,h2⟩:=p1;obtain⟨y,h3,h4⟩:=h2.atI hx;exact .inl ⟨a,xs,_,y,e1,p2,h1,h3,k _ F H _ (dj.refl sb fu) (dI.norm fu h4) hr⟩
 ·obtain⟨x,hx,hr⟩:=mM h;obtain⟨a,xs,e1,h1,h2⟩:=p1;obtain⟨y,h3,h4⟩:=h2.atI hx;exact .inl ⟨a,xs,_,y,e1,p2,h1,h3,k _ F H (.t x) (dj.refl sb fu) h4 hr⟩
 ·exact h.elim
theorem aj (ha:PE X a (av X.K wa))(hb:PE X b (av X.K wb))(hs:yQ b:=by exact fun _ _=>rfl):PE X (.Subscript a b pos) (av X.K (ap aI wa wb)):=
 (Qi (II.or MJ) ha hb hs).imp (cz Nc)
end
def Aj:Expr->Bool
 | .Starred ..=>false
 | _=>true
theorem aS {e:Expr}{es:List Expr}{env:Env}(h:Aj e=true):starEach (e::es) env=(false,eval e env)::starEach es env:=by
 cases e <;> first|rfl|cases h
theorem dS {pos:Pos}{env:Env}:∀ {es:List Expr},es.all Aj=true->(backTo pos (starEach es env)).any (·.1)=false
 | [],_=>rfl
 | e::es,h=>by
  simp only[List.all_cons,Bool.and_eq_true]at h;rw[aS h.1];show(false || (backTo pos (starEach es env)).any (·.1))=false
  rw[dS h.2];rfl
end DL
namespace DL
open PySem L2
theorem mm {H:Hp}{p:Addr}{o:HO}(hp:H p=none):Same H (cO H p o):=GH hp
theorem GI {F H:Hp}{p:Addr}{o:HO}(sb:Same F H):Same (cO F p o) (cO H p o):=by
 refine⟨fun b u q n=>?_,fun b ps q=>?_⟩
 ·by_cases e:b=p
  ·subst e;rw[aZ]at q ⊢;exact q
  ·rw[aW e]at q ⊢;exact sb.all _ _ q n
 ·by_cases e:b=p
  ·subst e;rw[aZ]at q;exact⟨ps,by rw[aZ];exact q⟩
  ·rw[aW e]at q ⊢;exact sb.tbl _ _ q
theorem dj.new {F H:Hp}{p:Addr}(o:HO)(sb:Same F H)(fu:gN F H)(hp:H p=none)(n:KR o=true:=by rfl):dj F H (cO F p o) (cO H p o):=by
 have fp:F p=none:=aM sb hp;refine⟨mm hp,mm fp,GI sb,fun b u q n=>?_,fun b h1 h2=>?_,fun t=>vg t hp n⟩
 ·by_cases e:b=p
  ·subst e;rw[aZ]at q;exact .inl (by rw[aZ];exact q)
  ·rw[aW e]at q;rw[aW e];exact fu _ _ q n
 ·have:b≠p:=fun e=>h1 (by rw[e];exact hp)
  rw[aW this];exact h2
theorem dj.newL {F H:Hp}{p:Addr}(xs:List V)(sb:Same F H)(fu:gN F H)(hp:H p=none):dj F H F (cO H p (.lst xs)):=by
 refine⟨mm hp,Same.refl _,sb.trans (mm hp),fun b u q n=>?_,fun b _ h2=>h2,fun t=>vg t hp rfl⟩
 by_cases e:b=p
 ·subst e;rw[aZ]at q;cases q;exact .inr ⟨xs,rfl⟩
 ·rw[aW e]at q;exact fu _ _ q n
def ao:WA:=fun _ R=>R []
def ac (wa:WE)(wr:WA):WA:=fun δ R=>wa δ fun x=>wr δ fun xs=>R (x::xs)
def grow (F H H':Hp)(x:Option Addr):Hp:=fun b=>if (H b).isNone=true then (if x=some b then none else H' b) else F b
theorem some_of {F H:Hp}(sb:Same F H){b:Addr}{o:HO}(h:F b=some o):¬ (H b).isNone=true:=fun z=>by
 rw[aM sb (Option.isNone_iff_eq_none.mp z)]at h;cases h
theorem ID {F H H':Hp}{x:Option Addr}(sb:Same F H){b:Addr}{o:HO}(h:F b=some o):grow F H H' x b=some o:=by
 unfold grow;rw[if_neg (some_of sb h)];exact h
theorem vZ {F H H':Hp}{x:Option Addr}(s:Same F H'):Same (grow F H H' x) H':=by
 refine⟨fun b o q n=>?_,fun b ps q=>?_⟩
 ·unfold grow at q
  split at q
  ·split at q
   ·cases q
   ·exact q
  ·exact s.all _ _ q n
 ·unfold grow at q
  split at q
  ·split at q
   ·cases q
   ·exact⟨ps,q⟩
  ·exact s.tbl _ _ q
theorem lG {F H H':Hp}{x:Option Addr}(sb:Same F H)(fu:gN F H)(s:Same H H')(hx:∀ a,x=some a->∃ xs,H' a=some (.lst xs))(tb:Tab H->Tab H'):dj F H (grow F H H' x) H':=by
 refine⟨s,.of fun b o q=>ID sb q,vZ (sb.trans s),fun b o q n=>?_,fun b h1 h2=>?_,tb⟩
 ·unfold grow
  cases e:H b with
  | none=>
   rw[if_pos (show(none:Option HO).isNone=true from rfl)]
   by_cases z:x=some b
   ·obtain⟨xs,q'⟩:=hx b z;rw[q]at q';cases q'
    exact .inr ⟨xs,rfl⟩
   ·rw[if_neg z];exact .inl q
  | some o'=>
   rw[if_neg (by simp)]
   cases m:KR o' with
   | true=>
    have:=s.all _ _ e m;rw[q]at this;cases this
    exact fu _ _ e n
   | false=>
    cases o' <;> first|(cases m)|skip
    obtain⟨ps',z⟩:=s.tbl _ _ e;rw[q]at z;cases z;cases n
 ·unfold grow;rw[if_neg (fun z=>h1 (Option.isNone_iff_eq_none.mp z))];exact h2
theorem dj.frozen {F H F1 H1:Hp}(sb:Same F H)(e:dj F H F1 H1):dj F H (grow F1 H H1 none) H1/\Same F1 (grow F1 H H1 none):=by
 refine⟨⟨e.hh,⟨fun b o q m=>?_,fun b ps q=>?_⟩,vZ e.sub,fun b o q n=>?_,fun b h1 h2=>?_,e.tb⟩,⟨fun b o q n=>?_,fun b ps q=>?_⟩⟩
 ·unfold grow;rw[if_neg (some_of sb q)];exact e.ff.all _ _ q m
 ·unfold grow;rw[if_neg (some_of sb q)];exact e.ff.tbl _ _ q
 ·unfold grow
  cases z:H b with
  | none=>exact .inl (by rw[if_pos (show(none:Option HO).isNone=true from rfl),if_neg (by simp)];exact q)
  | some o'=>rw[if_neg (by simp)];exact e.full _ _ q n
 ·unfold grow;rw[if_neg (fun z=>h1 (Option.isNone_iff_eq_none.mp z))];exact e.keep b h1 h2
 ·unfold grow
  split
  ·rw[if_neg (by simp)];exact e.sub.all _ _ q n
  ·exact q
 ·unfold grow
  split
  ·rw[if_neg (by simp)];exact e.sub.tbl _ _ q
  ·exact⟨ps,q⟩
def ml:List S->Option (List T)
 | []=>some []
 | .t x::r=>match ml r with
  | some ts=>some (x::ts)
  | none=>none
 | .ol us::r=>match ml r with
  | some ts=>some (.lst us::ts)
  | none=>none
 | .vt _::_=>none
def bN (wa:WA):WE:=fun δ R=>wa δ fun ss=>match ml ss with
 | some ts=>if ts.length<=1000 then R (.t (.tup ts)) else False
 | none=>False
def ia (wa:WA):WE:=fun δ R=>wa δ fun ss=>match ml ss with
 | some ts=>if ts.length<=1000 then R (.ol ts) else False
 | none=>False
theorem jM {K:Frg}{H F' H':Hp}(sm:Same F' (grow F' H H' none)):∀ {ss:List S}{vs:List V}{ts:List T},jb K H F' H' ss vs->ml ss=some ts->au K (grow F' H H' none) ts vs
 | [],_,_,h,e=>by cases e;exact h
 | .t x::r,_,ts,⟨v,vr,e1,h1,h2⟩,e=>by
  subst e1;unfold ml at e
  split at e
  ·rename_i us hu
   cases e
   exact⟨v,vr,rfl,aA.same sm h1,jM sm h2 hu⟩
  ·cases e
 | .vt _::_,_,_,_,e=>by cases e
 | .ol zs::r,_,_,⟨v,vr,e1,h1,h2⟩,e=>by
  subst e1;unfold ml at e
  split at e
  ·rename_i us hu
   cases e
   refine⟨v,vr,rfl,?_,jM sm h2 hu⟩;unfold dI at h1;obtain⟨a,xs,q1,q2,q3,q4,q5⟩:=h1;unfold aA;refine⟨a,xs,q1,cX.of ?_,au.same sm q5⟩;unfold grow;rw[if_pos (by rw[q2];rfl),if_neg (by simp)]
   exact q4
  ·cases e
theorem zQ {n:Nat}(h:n<=1000):n<=sizeLine:=Nat.le_of_lt (B8 h)
def dH (f:List S->(S->Prop)->Prop)(wa:WA):WE:=fun δ R=>wa δ fun ss=>f ss R
def nA (K:Frg)(F H:Hp):List S->List V->Prop
 | [],vs=>vs=[]
 | s::ss,vs=>∃ v r,vs=v::r/\gO K F H s v/\nA K F H ss r
theorem jb.val {K:Frg}{H0 F H:Hp}(e:Same F H):∀ {ss:List S}{vs:List V},jb K H0 F H ss vs->nA K F H ss vs
 | [],_,h=>h
 | _::_,_,⟨v,r,h1,h2,h3⟩=>⟨v,r,h1,h2.val e,jb.val e h3⟩
def ie (K:Frg)(r:List V->Hp->VK->Prop)(f:List S->(S->Prop)->Prop):Prop:=
 ∀ F H ss vs R Q,Same F H->gN F H->nA K F H ss vs->f ss R->(∀ v F' H' s,dj F H F' H'->dI K H F' H' s v->R s->Q v H')->r vs H Q
theorem IT {K:Frg}{r:List V->Hp->VK->Prop}{f:List S->(S->Prop)->Prop}{wa:WA}(ho:ie K r f):∀ σ H Q,av K (dH f wa) σ H Q->R9 r (dA K wa) σ H Q:=by
 rintro σ H Q ⟨δ,R,F,rl,h,k⟩;refine⟨δ,_,F,rl,h,fun vs F1 H1 ss e p q=>?_⟩;exact ho F1 H1 ss vs R Q e.sub e.full (p.val e.sub) q fun v F' H' s e2 p2 q2=>k v F' H' s (e.trans e2) (p2.start e.hh) q2
abbrev aJ:=List S->(S->Prop)->Prop
def nB:S->S
 | .vt x=>.t x
 | .ol ts=>.t (.lst ts)
 | .t x=>.t x
def got:S->S
 | .t x=>norm x
 | .vt x=>.vt x
 | .ol ts=>if cF ts=true then .ol ts else .vt (.lst ts)
def CB:S->Prop
 | .t _=>True
 | _=>False
def vh (K:Frg)(sp:aJ):Sp:=fun vs H Q _=>∃ ss R,mI K H/\(∀ s∈ss,CB s)/\nA K H H ss vs/\sp ss R/\∀ v H' s,Same H H'->mI K H'->Cq K H H' s v->R s->Q v H'
def aw (sp:aJ)(wa:WA):WE:=fun δ R=>wa δ fun ss=>sp (ss.map nB) fun s=>R (got s)
theorem yS {K:Frg}{H0 F H:Hp}(sb:Same F H):∀ {ss:List S}{vs:List V},jb K H0 F H ss vs->(∀ s∈ss.map nB,CB s)/\nA K H H (ss.map nB) vs
 | [],_,h=>⟨fun s hs=>by simp at hs,h⟩
 | s::ss,_,⟨v,r,h1,h2,h3⟩=>by
  obtain⟨a1,a2⟩:=yS sb h3;refine⟨fun u hu=>?_,v,r,h1,?_,a2⟩
  ·rw[map_cons]at hu
   rcases mem_cons.mp hu with e|e
   ·subst e
    cases s <;> exact True.intro
   ·exact a1 u e
  ·cases s with
   | t x=>exact aA.same sb h2
   | vt x=>exact h2
   | ol ts=>
    unfold dI at h2;obtain⟨a,xs,q1,_,_,q2,q3⟩:=h2;show aA K H (.lst ts) v;unfold aA;exact⟨a,xs,q1,cX.of q2,au.same sb q3⟩
theorem Br {K:Frg}{sp:aJ}{wa:WA}{E:XK}:∀ σ H Q,av K (aw sp wa) σ H Q->K3 (vh K sp) [] E (dA K wa) σ H Q:=by
 rintro σ H Q ⟨δ,R,F,rl,h,k⟩;refine⟨δ,_,F,rl,h,fun vs F1 H1 ss e p q=>?_⟩;show vh K sp (vs++[]) H1 Q E;rw[append_nil];obtain⟨a1,a2⟩:=yS e.sub p;refine⟨_,_,(rl.ext e).tab,a1,a2,q,fun v H' s sm tk rc hr=>?_⟩
 cases s with
 | t x=>
  have ex:=lG (x:=none) e.sub e.full sm (fun _ z=>by cases z) (fun _=>tk.1)
  exact k v _ H' (norm x) (e.trans ex) (dI.norm ex.full rc) hr
 | vt x=>exact False.elim rc
 | ol ts=>
  unfold Cq at rc;obtain⟨a,xs,q1,q2,q3,q4⟩:=rc;have ex:=lG (x:=some a) e.sub e.full sm (fun b z=>by cases z;exact⟨xs,q3⟩) (fun _=>tk.1)
  have hr':R (if cF ts=true then .ol ts else .vt (.lst ts)):=hr
  split at hr'
  ·rename_i hp;refine k v _ H' (.ol ts) (e.trans ex) ⟨a,xs,q1,aM e.hh q2,?_,q3,au.full ex.full hp q4⟩ hr';unfold grow;rw[if_pos (by rw[q2];rfl),if_pos rfl]
  ·refine k v _ H' (.vt (.lst ts)) (e.trans ex) ?_ hr';unfold dI aA;exact⟨a,xs,q1,cX.of q3,q4⟩
section
variable {X:Cx}{e:Expr}{es:List Expr}{we:WE}{wr wa:WA}{pos:Pos}
theorem af:PA X [] (dA X.K ao):=uR.imp fun σ H Q ⟨δ,R,F,rl,h,k⟩=>k [] F H [] rl.refl rfl h
theorem aa (ha:PE X e (av X.K we))(hr:PA X es (dA X.K wr))(hs:starEach (e::es) X.env=(false,eval e X.env)::starEach es X.env:=by exact aS rfl):PA X (e::es) (dA X.K (ac we wr)):=
 (oC ha hr hs).imp fun σ H Q ⟨δ,R,F,rl,h,k⟩=>⟨δ,_,F,rl,h,fun v F1 H1 s e p q=>⟨δ,_,F1,rl.ext e,q,fun vs F2 H2 ss e2 ps q2=>k (v::vs) F2 H2 (s::ss) (e.trans e2) ⟨v,vs,rfl,p.ext e2,ps.start e.hh⟩ q2⟩⟩
theorem aP {x1}(h:PA X es (dA X.K wa)):PE X (.Tuple es x1 pos) (av X.K (bN wa)):=
 (Ny h).imp fun σ H Q ⟨δ,R,F,rl,h,k⟩=>⟨δ,_,F,rl,h,fun vs F1 H1 ss e p q=>by
  split at q
  ·rename_i ts ht;obtain⟨ez,sz⟩:=e.frozen rl.sub;have r:=jM sz p ht
   split at q
   ·rename_i hl;refine⟨by rw[r.length];exact zQ hl,fun a ha=>?_⟩
    have ex:=dj.new (.tup vs) ez.sub ez.full ha;refine k _ _ _ (.t (.tup ts)) (ez.trans ex) ?_ q;unfold dI aA;exact⟨a,vs,rfl,k8.of aZ,au.same ex.ff r⟩
   ·exact q.elim
  ·exact q.elim⟩
theorem cH (h:PA X es (dA X.K wa)):PE X (.List es pos) (av X.K (ia wa)):=
 (Nt h).imp fun σ H Q ⟨δ,R,F,rl,h,k⟩=>⟨δ,_,F,rl,h,fun vs F1 H1 ss e p q=>by
  split at q
  ·rename_i ts ht;obtain⟨ez,sz⟩:=e.frozen rl.sub;have r:=jM sz p ht
   split at q
   ·rename_i hl;refine⟨by rw[r.length];exact zQ hl,fun a ha=>?_⟩
    have ex:=dj.newL vs ez.sub ez.full ha;exact k _ _ _ (.ol ts) (ez.trans ex) ⟨a,vs,rfl,aM e.hh ha,aM ez.sub ha,aZ,r⟩ q
   ·exact q.elim
  ·exact q.elim⟩
structure Callee (P:Program) (w:World) (K:Frg) (mg:Str->Option Value) (base:Heap) (k:Nat) (x:Str) (sp:aJ):Prop where
 ex:∃ (f:Addr) (fd:FuncData) (ps:List Str),mg x=some (.ref f)/\ja P w K mg base xg k f fd ps (vh K sp)/\Binds K fd ps []/\PySem.W.keepIn K (.ref f)=true
theorem ze {k:Nat}{x:Str}{sp:aJ}{p:Pos} (C:Callee X.prog X.w X.K X.mg X.base k x sp) (hr:bX k X.A) (hg:Gl X x) (ha:PA X (e::es) (dA X.K wa)) (hdb:(x == ("__debug__":Str))=false:=by decide)
  (he:starEach (e::es) X.env=(false,eval e X.env)::starEach es X.env:=by exact aS rfl) (hpl:(backTo pos (starEach es X.env)).any (·.1)=false:=by exact dS rfl):PE X (.Call (.Name x p) (e::es) [] pos) (av X.K (aw sp wa)):=by
 obtain⟨f,fd,ps,hm,F,hb,hk⟩:=C.ex;exact(Jy F hr hg hm hk hb .nil (E:=E0) Qg ha hdb he hpl).imp Br
theorem eZ {x:Str}{p:Pos}{id:String}{r:List V->Hp->VK->Prop}{f:List S->(S->Prop)->Prop} (hc:fZ X (.builtin id) r) (hf:ie X.K r f) (hm:X.mg x=none) (hv:bootBuiltins x=some (.builtin id)) (ha:PA X (e::es) (dA X.K wa)) (hg:Gl X x:=by rfl) (hn:x≠"__name__":=by decide) (hdb:(x == ("__debug__":Str))=false:=by decide)
  (he:starEach (e::es) X.env=(false,eval e X.env)::starEach es X.env:=by exact aS rfl) (hpl:(backTo pos (starEach es X.env)).any (·.1)=false:=by exact dS rfl):PE X (.Call (.Name x p) (e::es) [] pos) (av X.K (dH f wa)):=
 (Gg hc hg hm hv ha hn hdb he hpl).imp (IT hf)
end
def cE:List S->(S->Prop)->Prop
 | [.t (.tup ts)],R=>R (.t (.int ts.length))
 | [.t (.lst ts)],R=>R (.t (.int ts.length))
 | [.vt (.tup ts)],R=>R (.t (.int ts.length))
 | [.vt (.lst ts)],R=>R (.t (.int ts.length))
 | [.ol ts],R=>R (.t (.int ts.length))
 | _,_=>False
theorem M9 {K:Frg}:ie K (fun xs H Q=>∃ p ys,xs=[.ref p]/\(cX K H p ys\/k8 K H p ys)/\Q (.int ys.length) H) cE:=by
 intro F H ss vs R Q sb fu rp h k;unfold cE at h
 split at h
 ·obtain⟨v,r,rfl,⟨a,xs,rfl,h1,h2⟩,h3⟩:=rp
  cases (show r=[] from h3)
  exact⟨a,xs,rfl,.inr (Same.sqT sb a xs h1),k _ F H (.t (.int _)) (dj.refl sb fu) (by show _=_;rw[h2.length]) h⟩
 ·obtain⟨v,r,rfl,⟨a,xs,rfl,h1,h2⟩,h3⟩:=rp
  cases (show r=[] from h3)
  exact⟨a,xs,rfl,.inl (sb.seq h1),k _ F H (.t (.int _)) (dj.refl sb fu) (by show _=_;rw[h2.length]) h⟩
 ·obtain⟨v,r,rfl,⟨a,xs,rfl,h1,h2⟩,h3⟩:=rp
  cases (show r=[] from h3)
  exact⟨a,xs,rfl,.inr h1,k _ F H (.t (.int _)) (dj.refl sb fu) (by show _=_;rw[h2.length]) h⟩
 ·obtain⟨v,r,rfl,⟨a,xs,rfl,h1,h2⟩,h3⟩:=rp
  cases (show r=[] from h3)
  exact⟨a,xs,rfl,.inl h1,k _ F H (.t (.int _)) (dj.refl sb fu) (by show _=_;rw[h2.length]) h⟩
 ·obtain⟨v,r,rfl,⟨a,xs,rfl,h1,h2⟩,h3⟩:=rp
  cases (show r=[] from h3)
  exact⟨a,xs,rfl,.inl h1,k _ F H (.t (.int _)) (dj.refl sb fu) (by show _=_;rw[h2.length]) h⟩
 ·exact h.elim
def i6:List S->(S->Prop)->Prop
 | [.t (.int i)],R=>R (.t (.int (if i<0 then -i else i)))
 | _,_=>False
theorem M7 {K:Frg}:ie K (fun xs H Q=>∃ i,xs=[.int i]/\Q (.int (if i<0 then -i else i)) H) i6:=by
 intro F H ss vs R Q sb fu rp h k;unfold i6 at h
 split at h
 ·obtain⟨v,r,rfl,rfl,h3⟩:=rp
  cases (show r=[] from h3)
  exact⟨_,rfl,k _ F H (.t (.int _)) (dj.refl sb fu) rfl h⟩
 ·exact h.elim
def vS:List S->(S->Prop)->Prop
 | [.t (.int i),.t (.int j)],R=>R (.t (.int (if j>i then j else i)))
 | _,_=>False
def rZ:List S->(S->Prop)->Prop
 | [.t (.int i),.t (.int j)],R=>R (.t (.int (if j<i then j else i)))
 | _,_=>False
theorem Jl {K:Frg}:ie K (fun xs H Q=>∃ i j,xs=[.int i,.int j]/\Q (.int (if j>i then j else i)) H) vS:=by
 intro F H ss vs R Q sb fu rp h k;unfold vS at h
 split at h
 ·obtain⟨v,r,rfl,rfl,v2,r2,rfl,rfl,h3⟩:=rp
  cases (show r2=[] from h3)
  exact⟨_,_,rfl,k _ F H (.t (.int _)) (dj.refl sb fu) rfl h⟩
 ·exact h.elim
theorem Jm {K:Frg}:ie K (fun xs H Q=>∃ i j,xs=[.int i,.int j]/\Q (.int (if j<i then j else i)) H) rZ:=by
 intro F H ss vs R Q sb fu rp h k;unfold rZ at h
 split at h
 ·obtain⟨v,r,rfl,rfl,v2,r2,rfl,rfl,h3⟩:=rp
  cases (show r2=[] from h3)
  exact⟨_,_,rfl,k _ F H (.t (.int _)) (dj.refl sb fu) rfl h⟩
 ·exact h.elim
def PL:List S->(S->Prop)->Prop
 | [.t (.int i)],R=>R (.t (.int i))
 | [.t (.bl b)],R=>R (.t (.int (if b then 1 else 0)))
 | _,_=>False
def t0:List S->(S->Prop)->Prop
 | [.t (.tup ts)],R=>R (.ol ts)
 | [.t (.lst ts)],R=>R (.ol ts)
 | [.vt (.lst ts)],R=>cF ts=true/\R (.ol ts)
 | [.ol ts],R=>R (.ol ts)
 | _,_=>False
section
variable {X:Cx}{e:Expr}{es:List Expr}{we:WE}{wr wa:WA}{pos p:Pos}
theorem bA (hm:X.mg "len"=none) (ha:PA X [e] (dA X.K wa)) (hg:Gl X "len":=by rfl) (he:starEach [e] X.env=(false,eval e X.env)::starEach [] X.env:=by exact aS rfl):PE X (.Call (.Name "len" p) [e] [] pos) (av X.K (dH cE wa)):=
 eZ tK M9 hm PySem.boot_len ha hg (he:=he) (hpl:=rfl)
theorem dL (hm:X.mg "abs"=none) (ha:PA X [e] (dA X.K wa)) (hg:Gl X "abs":=by rfl) (he:starEach [e] X.env=(false,eval e X.env)::starEach [] X.env:=by exact aS rfl):PE X (.Call (.Name "abs" p) [e] [] pos) (av X.K (dH i6 wa)):=
 eZ CU M7 hm PyProof.Rows.boot_abs ha hg (he:=he) (hpl:=rfl)
theorem Il {e2:Expr} (hm:X.mg "max"=none) (ha:PA X [e,e2] (dA X.K wa)) (hg:Gl X "max":=by rfl) (hc:X.calm=true:=by rfl) (he:starEach [e,e2] X.env=(false,eval e X.env)::starEach [e2] X.env:=by exact aS rfl) (hpl:(backTo pos (starEach [e2] X.env)).any (·.1)=false:=by exact dS rfl):PE X (.Call (.Name "max" p) [e,e2] [] pos) (av X.K (dH vS wa)):=
 eZ (A5 hc) Jl hm PyProof.Rows.boot_max ha hg (he:=he) (hpl:=hpl)
theorem zf {e2:Expr} (hm:X.mg "min"=none) (ha:PA X [e,e2] (dA X.K wa)) (hg:Gl X "min":=by rfl) (hc:X.calm=true:=by rfl) (he:starEach [e,e2] X.env=(false,eval e X.env)::starEach [e2] X.env:=by exact aS rfl) (hpl:(backTo pos (starEach [e2] X.env)).any (·.1)=false:=by exact dS rfl):PE X (.Call (.Name "min" p) [e,e2] [] pos) (av X.K (dH rZ wa)):=
 eZ (A7 hc) Jm hm PyProof.Rows.boot_min ha hg (he:=he) (hpl:=hpl)
end
end DL
namespace DL
open PySem L2
def dy:aR->(Option Int->Prop)->Prop:=fun _ R=>R none
def fU (we:WE):aR->(Option Int->Prop)->Prop:=fun δ R=>we δ fun s=>match s with
 | .t (.int i)=>R (some i)
 | _=>False
def zU (K:Frg)(w:aR->(Option Int->Prop)->Prop):TO:=fun σ H Q=>∃ δ R F,Rel K F H σ δ/\w δ R/\∀ F' H' o,dj F H F' H'->R o->Q o H'
def fX (ts:List T)(lo hi:Option Int):List T:=(ts.drop (HT.sIx ts.length 0 lo)).take (HT.sIx ts.length ts.length hi-HT.sIx ts.length 0 lo)
def yE (lo hi:Option Int)(R:S->Prop):S->Prop
 | .t (.lst ts)=>R (.ol (fX ts lo hi))
 | .vt (.lst ts)=>cF ts=true/\R (.ol (fX ts lo hi))
 | .ol ts=>R (.ol (fX ts lo hi))
 | _=>False
def dz (we:WE)(wl wh:aR->(Option Int->Prop)->Prop):WE:=fun δ R=>we δ fun s=>wl δ fun lo=>wh δ fun hi=>yE lo hi R s
theorem yF {K:Frg}{F H:Hp}{lo hi:Option Int}{R:S->Prop}{s:S}{v:V}(sb:Same F H)(fu:gN F H)(h:yE lo hi R s)(p:gO K F H s v):∃ ts a xs,v=.ref a/\cX K H a xs/\au K F ts xs/\R (.ol (fX ts lo hi)):=by
 unfold yE at h
 split at h
 ·unfold gO aA at p;obtain⟨a,xs,h1,h2,h3⟩:=p;exact⟨_,a,xs,h1,sb.seq h2,h3,h⟩
 ·unfold gO aA at p;obtain⟨a,xs,h1,h2,h3⟩:=p;exact⟨_,a,xs,h1,h2,au.full fu h.1 h3,h.2⟩
 ·unfold gO at p;obtain⟨a,xs,h1,h2,h3⟩:=p;exact⟨_,a,xs,h1,h2,h3,h⟩
 ·exact h.elim
theorem Ik {K:Frg}{F:Hp}{ts:List T}{xs:List V}(h:au K F ts xs)(lo hi:Option Int):au K F (fX ts lo hi) (Bb xs lo hi):=by
 unfold fX Bb;rw[h.length];exact(h.drop _).take _
section
variable {X:Cx}{e:Expr}{we:WE}{lo hi:Option Expr}{wl wh:aR->(Option Int->Prop)->Prop}{pos p2:Pos}
theorem dM:PO X none (zU X.K dy):=fun pins s σ H Q I ⟨δ,R,F,rl,h,k⟩=>JD pins s σ H Q I (k F H none rl.refl h)
theorem dN (h:PE X e (av X.K we)):PO X (some e) (zU X.K (fU we)):=fun pins s σ H Q I ⟨δ,R,F,rl,hw,k⟩=>
 JE h pins s σ H Q I ⟨δ,_,F,rl,hw,fun v F1 H1 s e p q=>by
  split at q
  ·exact⟨_,p,k F1 H1 _ e q⟩
  ·exact q.elim⟩
theorem cI (he:PE X e (av X.K we))(hl:PO X lo (zU X.K wl))(hu:PO X hi (zU X.K wh)):PE X (.Subscript e (.Slice lo hi none p2) pos) (av X.K (dz we wl wh)):=
 (Gi Ke he hl hu).imp fun σ H Q ⟨δ,R,F,rl,h,k⟩=>⟨δ,_,F,rl,h,fun v F1 H1 s e1 p1 q=>⟨δ,_,F1,rl.ext e1,q,fun F2 H2 o e2 q2=>⟨δ,_,F2,(rl.ext e1).ext e2,q2,fun F3 H3 o3 e3 q3=>by
  have e12:=e1.trans (e2.trans e3);obtain⟨ts,a,xs,rfl,h1,h2,h4⟩:=yF e3.sub e3.full q3 ((p1.ext (e2.trans e3)).val e3.sub);refine⟨a,xs,rfl,h1,fun l hl=>?_⟩;exact k _ F3 _ (.ol _) (e12.trans (dj.newL _ e3.sub e3.full hl)) ⟨l,_,rfl,aM e12.hh hl,aM e3.sub hl,aZ,Ik h2 _ _⟩ h4⟩⟩⟩
end
def eM:S->S
 | .ol ts=>.t (.lst ts)
 | .t x=>.t x
 | .vt x=>.vt x
def freeze (δ:aR):aR:=δ.map (Option.map eM)
def setS (i:Nat)(s:S)(δ:aR):aR:=match s with
 | .vt x=>(freeze δ).set i (some (.t x))
 | .t x=>δ.set i (some (.t x))
 | .ol ts=>δ.set i (some (.ol ts))
theorem kI {δ:aR}{i:Nat}{s:S}(h:(freeze δ)[i]?=some (some s)):∃ u,δ[i]?=some (some u)/\s=eM u:=by
 unfold freeze at h;rw[getElem?_map]at h
 cases e:δ[i]? with
 | none=>rw[e]at h;cases h
 | some o=>
  rw[e]at h
  cases o with
  | none=>cases h
  | some u=>exact⟨u,rfl,by simpa using h.symm⟩
theorem Bj {K:Frg}{F H:Hp}(sb:Same F H):∀ {s:S}{v:V},fK K F H s v->fK K H H (eM s) v
 | .t _,_,h=>aA.same sb h
 | .vt _,_,h=>False.elim h
 | .ol _,_,⟨a,xs,h1,_,h3,h4⟩=>by
  show aA K H (.lst _) _;unfold aA;exact⟨a,xs,h1,cX.of h3,au.same sb h4⟩
theorem ko (s:S)(ts:List T):eM s≠.ol ts:=by cases s <;> simp[eM]
theorem Rel.freeze {K:Frg}{F H:Hp}{σ:St}{δ:aR}(r:Rel K F H σ δ):Rel K H H σ (freeze δ):=by
 refine⟨Same.refl _,fun b o h _=>.inl h,?_,fun i s h=>?_,fun i j a ts us _ h1=>?_,r.tab⟩
 ·unfold DL.freeze;rw[length_map];exact r.len
 ·obtain⟨u,h1,rfl⟩:=kI h;obtain⟨v,h2,h3⟩:=r.slot i u h1;exact⟨v,h2,Bj r.sub h3⟩
 ·obtain⟨u,_,e⟩:=kI h1;exact absurd e.symm (ko u ts)
theorem Rel.put {K:Frg}{F H:Hp}{σ:St}{δ:aR}{i:Nat}{s:S}{v:V}(r:Rel K F H σ δ)(h:fK K F H s v)(hs:∀ ts,s≠.ol ts):Rel K F H (σ.set i (some v)) (δ.set i (some s)):=by
 refine⟨r.sub,r.full,by rw[length_set,length_set];exact r.len,fun j u hu=>?_,fun j l a ts us hn h1 h2 h3=>?_,r.tab⟩
 ·by_cases e:i=j
  ·subst e;have hi:i<δ.length:=by
    rw[getElem?_set]at hu;simp at hu;exact hu.1
   rw[getElem?_set_self hi]at hu
   cases hu
   exact⟨v,getElem?_set_self (by rw[r.len];exact hi),h⟩
  ·rw[getElem?_set_ne e]at hu;obtain⟨w,h1,h2⟩:=r.slot j u hu;exact⟨w,by rw[getElem?_set_ne e];exact h1,h2⟩
 ·have n1:i≠j:=fun e=>by
   subst e;have hi:i<δ.length:=by
    rw[getElem?_set]at h1;simp at h1;exact h1.1
   rw[getElem?_set_self hi]at h1
   cases h1
   exact hs ts rfl
  have n2:i≠l:=fun e=>by
   subst e;have hi:i<δ.length:=by
    rw[getElem?_set]at h2;simp at h2;exact h2.1
   rw[getElem?_set_self hi]at h2
   cases h2
   exact hs us rfl
  rw[getElem?_set_ne n1]at h1 h3;rw[getElem?_set_ne n2]at h2 ⊢;exact r.dist j l a ts us hn h1 h2 h3
theorem Rel.putOl {K:Frg}{F H F' H':Hp}{σ:St}{δ:aR}{i:Nat}{ts:List T}{a:Addr}{xs:List V}(r:Rel K F H σ δ)(e:dj F H F' H')(h0:H a=none)(h1:F' a=none)(h2:H' a=some (.lst xs))(h3:au K F' ts xs) :
  Rel K F' H' (σ.set i (some (.ref a))) (δ.set i (some (.ol ts))):=by
 have r':=r.ext e;have old:∀ (j:Nat) (us:List T) (b:Addr),δ[j]?=some (some (.ol us))->σ[j]?=some (some (.ref b))->b≠a:=fun j us b q1 q2 z=>by
  obtain⟨v,p1,c,ys,p2,p3,p4,_⟩:=r.slot j _ q1;rw[q2]at p1
  cases p1
  cases p2
  rw[z,h0]at p4
  cases p4
 refine⟨r'.sub,r'.full,by rw[length_set,length_set];exact r.len,fun j u hu=>?_,fun j l b us ws hn q1 q2 q3=>?_,r'.tab⟩
 ·by_cases z:i=j
  ·subst z;have hi:i<δ.length:=by
    rw[getElem?_set]at hu;simp at hu;exact hu.1
   rw[getElem?_set_self hi]at hu
   cases hu
   exact⟨_,getElem?_set_self (by rw[r.len];exact hi),a,xs,rfl,h1,h2,h3⟩
  ·rw[getElem?_set_ne z]at hu;obtain⟨w,p1,p2⟩:=r'.slot j u hu;exact⟨w,by rw[getElem?_set_ne z];exact p1,p2⟩
 ·by_cases z:i=j
  ·subst z;have hi:i<δ.length:=by
    rw[getElem?_set]at q1;simp at q1;exact q1.1
   rw[getElem?_set_self (by rw[r.len];exact hi)]at q3
   cases q3
   rw[getElem?_set_ne hn]at q2 ⊢;exact fun q=>old l ws a q2 q rfl
  ·rw[getElem?_set_ne z]at q1 q3
   by_cases z2:i=l
   ·subst z2;have hi:i<δ.length:=by
     rw[getElem?_set]at q2;simp at q2;exact q2.1
    rw[getElem?_set_self (by rw[r.len];exact hi)]
    intro q
    cases q
    exact old j us a q1 q3 rfl
   ·rw[getElem?_set_ne z2]at q2 ⊢;exact r.dist j l b us ws hn q1 q2 q3
theorem Rel.setS {K:Frg}{F H F' H':Hp}{σ:St}{δ:aR}{s:S}{v:V}(i:Nat)(r:Rel K F H σ δ)(e:dj F H F' H')(p:dI K H F' H' s v):∃ F2,Same F F2/\Rel K F2 H' (σ.set i (some v)) (setS i s δ):=by
 cases s with
 | t x=>exact⟨F',e.ff,(r.ext e).put (s:=.t x) p (fun _ z=>by cases z)⟩
 | vt x=>exact⟨H',e.ff.trans e.sub,(r.ext e).freeze.put (s:=.t x) p (fun _ z=>by cases z)⟩
 | ol ts=>
  obtain⟨a,xs,rfl,h0,h1,h2,h3⟩:=p;exact⟨F',e.ff,r.putOl e h0 h1 h2 h3⟩
theorem Rel.thaw {K:Frg}{F H F1 H1:Hp}{σ:St}{δ:aR}{ts:List T}{v:V}(rl:Rel K F H σ δ)(ex:dj F H F1 H1)(p:dI K H F1 H1 (.ol ts) v) :
  Rel K (grow F1 H H1 none) H1 σ δ/\Same F (grow F1 H H1 none)/\∃ a xs,v=.ref a/\cX K (grow F1 H H1 none) a xs/\au K (grow F1 H H1 none) ts xs:=by
 obtain⟨ez,sz⟩:=ex.frozen rl.sub;refine⟨rl.ext ez,ez.ff,?_⟩;obtain⟨a,xs,rfl,h0,h1,h2,h3⟩:=p;refine⟨a,xs,rfl,cX.of ?_,au.same sz h3⟩;unfold grow;rw[if_pos (by rw[h0];rfl),if_neg (by simp)]
 exact h2
def bd:WS:=fun D δ=>D.nx δ
def aC (w u:WS):WS:=fun D δ=>w {D with nx:=u D} δ
def bP (w u:WS):WS:=fun D δ=>∃ M:aR->Prop,w {D with nx:=M} δ/\∀ δ',M δ'->u D δ'
def aG (i:Nat)(we:WE):WS:=fun D δ=>we δ fun s=>D.nx (setS i s δ)
def gM (c:WT)(w u:WS):WS:=fun D δ=>c δ fun k=>if k=true then w D δ else u D δ
def out:S->S
 | .vt x=>.t x
 | .t x=>.t x
 | .ol ts=>.ol ts
def a6 (we:WE):WS:=fun D δ=>we δ fun s=>D.rt (out s)
def jv (i:Nat):WS:=fun D δ=>match δ[i]? with
 | some (some s)=>D.rt s
 | _=>False
def QN:WS:=fun D _=>D.rt (.t .non)
def Oh:WS:=fun D δ=>D.bk δ
def QK:WS:=fun D δ=>D.ct δ
def w4 (we:WE):WS:=fun D δ=>we δ fun _=>D.nx δ
def nr:WS:=fun _ _=>False
def qJ (c:WT)(wb:WS):WS:=fun D δ=>∃ I:Nat->aR->Prop,(∃ n,I n δ)/\∀ n δ,I n δ->c δ fun k=>if k=true then wb {nx:=fun δ'=>∃ m,m<n/\I m δ',rt:=D.rt,bk:=D.nx,ct:=fun δ'=>∃ m,m<n/\I m δ'} δ else D.nx δ
abbrev WG:=T->aR->(aR->Prop)->Prop
def xO (g:WG)(wb:WS):List T->iX->aR->Prop
 | [],D,δ=>D.nx δ
 | x::r,D,δ=>g x δ fun δ1=>wb {nx:=fun δ2=>xO g wb r D δ2,rt:=D.rt,bk:=D.nx,ct:=fun δ2=>xO g wb r D δ2} δ1
abbrev WI:=aR->(List T->aR->Prop)->Prop
def xN (g:WG)(wb:WS)(ts:List T)(D:iX)(δ:aR):Prop:=∃ I:List T->aR->Prop,I ts δ/\(∀ δ,I [] δ->D.nx δ)/\∀ x r δ,I (x::r) δ->g x δ fun δ1=>wb {nx:=I r,rt:=D.rt,bk:=D.nx,ct:=I r} δ1
theorem IA {g:WG}{wb:WS}{ts:List T}{D:iX}{δ:aR}(h:xO g wb ts D δ):xN g wb ts D δ:=⟨fun r δ=>xO g wb r D δ,h,fun _ h=>h,fun _ _ _ h=>h⟩
def ju (wi:WI)(g:WG)(wb:WS):WS:=fun D δ=>wi δ fun ts δ'=>xN g wb ts D δ'
def aU (i:Nat):WG:=fun t δ R=>R (δ.set i (some (.t t)))
def w8 (g:List T->aR->(aR->Prop)->Prop):WG:=fun t δ R=>match t with
 | .tup ts=>g ts δ R
 | _=>False
def qL:List T->aR->(aR->Prop)->Prop:=fun ts δ R=>match ts with
 | []=>R δ
 | _=>False
def iW (g:WG)(gr:List T->aR->(aR->Prop)->Prop):List T->aR->(aR->Prop)->Prop:=fun ts δ R=>match ts with
 | t::r=>g t δ fun δ1=>gr r δ1 R
 | []=>False
def Kp (g:WG)(δ:aR)(N:aR->Prop):S->Prop
 | .t t=>g t δ N
 | .vt t=>g t (freeze δ) N
 | .ol ts=>g (.lst ts) δ N
def Hc (we:WE)(g:WG):WS:=fun D δ=>we δ fun s=>Kp g δ D.nx s
def Kq (i j:Nat)(wa:WA):WS:=fun D δ=>wa δ fun ss=>match ss with
 | [.t x,.t y]=>D.nx ((δ.set i (some (.t x))).set j (some (.t y)))
 | _=>False
def fy (i:Nat)(we:WE):WS:=fun D δ=>match δ[i]? with
 | some (some (.ol ts))=>we δ fun s=>match s with
  | .t x=>ts.length<100000/\D.nx (δ.set i (some (.ol (ts++[x]))))
  | _=>False
 | _=>False
def Kr (i:Nat):WS:=fun D δ=>match δ[i]? with
 | some (some (.ol ts))=>ts≠[]/\D.nx (δ.set i (some (.ol ts.dropLast)))
 | _=>False
def nt (i:Nat)(we wv:WE):WS:=fun D δ=>match δ[i]? with
 | some (some (.ol ts))=>wv δ fun v=>we δ fun s=>match v,s with
  | .t x,.t (.int k)=>match uG ts.length k with
   | some j=>D.nx (δ.set i (some (.ol (ts.set j x))))
   | none=>False
  | _,_=>False
 | _=>False
section
variable {X:Cx}{st:Stmt}{rest:List Stmt}{w u:WS}{e:Expr}{we:WE}{pos:Pos}{H₀:Hp}
theorem aK:kA X [] (bE X.K H₀ bd):=JI.imp fun D σ H ⟨δ,D',F,_,rl,h,ok⟩=>ok.nx σ F H δ (Same.refl _) rl h
theorem ah (h1:PS X st (bE X.K H₀ w))(h2:kA X rest (bE X.K H₀ u)):kA X (st::rest) (bE X.K H₀ (aC w u)):=
 (wK h1 h2).imp fun D σ H ⟨δ,D',F,s0,rl,h,ok⟩=>⟨δ,_,F,s0,rl,h,⟨fun σ' F' H' δ' ff rl' h'=>⟨δ',D',F',s0.trans ff,rl',h',ok.mono ff⟩,ok.rt,ok.bk,ok.ct⟩⟩
theorem aH (h1:PS X st (bE X.K H₀ w))(h2:kA X rest (bE X.K H₀ u)):kA X (st::rest) (bE X.K H₀ (bP w u)):=
 (wK h1 h2).imp fun D σ H ⟨δ,D',F,s0,rl,⟨M,h,hk⟩,ok⟩=>⟨δ,_,F,s0,rl,h,⟨fun σ' F' H' δ' ff rl' h'=>⟨δ',D',F',s0.trans ff,rl',hk δ' h',ok.mono ff⟩,ok.rt,ok.bk,ok.ct⟩⟩
theorem am (h1:PS X st (bE X.K H₀ w)):kA X [st] (bE X.K H₀ w):=JJ h1
theorem jd:PS X st (bE X.K H₀ nr):=Gr.imp fun D σ H ⟨δ,D',F,_,rl,h,ok⟩=>h
theorem aq {i:Nat}{x:Str}{pos':Pos}(hN:X.N.Nodup)(he:PE X e (av X.K we))(hi:X.N[i]?=some x:=by rfl)(hx:Loc X.env.scope x:=by first|exact Or.inl rfl|exact Or.inr rfl)(hs:swapsWith e (some (.Name x pos')) pos.line X.env=pure false:=by rfl)(hf:X.fn x=true\/X.env.scope.names.lookup x=some .local:=by first|exact .inl rfl|exact .inr rfl|assumption) :
  PS X (.Assign [.Name x pos'] e pos) (bE X.K H₀ (aG i we)):=
 (NH hN hi hx he hs hf).imp fun D σ H ⟨δ,D',F,s0,rl,h,ok⟩=>⟨δ,_,F,rl,h,fun v F1 H1 s e p q=>by
  obtain⟨F2,ff,r2⟩:=rl.setS i e p;exact ok.nx _ F2 H1 _ ff r2 q⟩
theorem bw {c:Expr}{a b:List Stmt}{t:WT}(hc:PT X c (liftT X.K t))(ha:kA X a (bE X.K H₀ w))(hb:kA X b (bE X.K H₀ u)):PS X (.If c a b pos) (bE X.K H₀ (gM t w u)):=
 (Qm hc ha hb).imp fun D σ H ⟨δ,D',F,s0,rl,h,ok⟩=>⟨δ,_,F,rl,h,fun F1 H1 k e q=>by
  cases k with
  | true=>exact⟨δ,D',F1,s0.trans e.ff,rl.ext e,by simpa using q,ok.mono e.ff⟩
  | false=>exact⟨δ,D',F1,s0.trans e.ff,rl.ext e,by simpa using q,ok.mono e.ff⟩⟩
theorem GC {K:Frg}{F H F1 H1:Hp}(s0:Same H₀ H)(e:dj F H F1 H1):∀ {s:S}{v:V},dI K H F1 H1 s v->Cq K H₀ H1 (out s) v
 | .t _,_,h=>aA.same e.sub h
 | .vt _,_,h=>h
 | .ol _,_,⟨a,xs,h1,h2,_,h3,h4⟩=>⟨a,xs,h1,aM s0 h2,h3,au.same e.sub h4⟩
theorem aB (he:PE X e (av X.K we)):PS X (.Return (some e) pos) (bE X.K H₀ (a6 we)):=
 (yr he).imp fun D σ H ⟨δ,D',F,s0,rl,h,ok⟩=>⟨δ,_,F,rl,h,fun v F1 H1 s e p q=>ok.rt v H1 _ ((s0.trans rl.sub).trans e.hh) (rl.ext e).tab (GC (s0.trans rl.sub) e p) q⟩
theorem GS {K:Frg}{F H:Hp}(s0:Same H₀ F)(sb:Same F H):∀ {s:S}{v:V},fK K F H s v->Cq K H₀ H s v
 | .t _,_,h=>aA.same sb h
 | .vt _,_,h=>False.elim h
 | .ol _,_,⟨a,xs,h1,h2,h3,h4⟩=>⟨a,xs,h1,aM s0 h2,h3,au.same sb h4⟩
def Hb (we:WE):WS:=fun D δ=>we (freeze δ) fun s=>D.rt (out s)
theorem Ir (he:PE X e (av X.K we)):PS X (.Return (some e) pos) (bE X.K H₀ (Hb we)):=
 (yr he).imp fun D σ H ⟨δ,D',F,s0,rl,h,ok⟩=>⟨freeze δ,_,H,rl.freeze,h,fun v F1 H1 s e p q=>ok.rt v H1 _ ((s0.trans rl.sub).trans e.hh) (rl.freeze.ext e).tab (GC (s0.trans rl.sub) e p) q⟩
theorem ga {i:Nat}(he:PE X e (wU i)):PS X (.Return (some e) pos) (bE X.K H₀ (jv i)):=
 (yr he).imp fun D σ H ⟨δ,D',F,s0,rl,h,ok⟩=>by
  unfold jv at h
  split at h
  ·rename_i s hs;obtain⟨v,h1,h2⟩:=rl.slot i s hs;exact⟨v,h1,ok.rt v H s (s0.trans rl.sub) rl.tab (GS s0 rl.sub h2) h⟩
  ·exact h.elim
theorem tY (he:PE X e (av X.K we))(hs:swapsWith e none pos.line X.env=pure false:=by rfl):PS X (.Expr e pos) (bE X.K H₀ (w4 we)):=
 (oD he hs).imp fun D σ H ⟨δ,D',F,s0,rl,h,ok⟩=>⟨δ,_,F,rl,h,fun v F1 H1 s e p q=>ok.nx σ F1 H1 δ e.ff (rl.ext e) q⟩
theorem lC {c:Expr}{body:List Stmt}{t:WT}{wb:WS}(hp:PassesOwn (model X.prog X.w) X.A X.env X.xe)(hc:PT X c (liftT X.K t))(hb:kA X body (bE X.K H₀ wb)):PS X (.While c body [] pos) (bE X.K H₀ (qJ t wb)):=
 (Gs hp hc hb).imp fun D σ H ⟨δ,D',F,s0,rl,⟨I,⟨n,h⟩,step⟩,ok⟩=>by
  refine⟨fun m σ H=>∃ δ F1,Same F F1/\Rel X.K F1 H σ δ/\I m δ,⟨n,δ,F,Same.refl _,rl,h⟩,?_⟩;rintro m σ H ⟨δ,F1,f1,rl,h⟩;refine⟨δ,_,F1,rl,step m δ h,fun F2 H2 k e q=>?_⟩
  cases k with
  | true=>
   refine⟨fun σ' H'=>∃ δ F1 j,j<m/\Same F F1/\Rel X.K F1 H' σ' δ/\I j δ,fun σ' H' ⟨δ',F',j,hj,a1,a2,a3⟩=>⟨j,hj,δ',F',a1,a2,a3⟩,?_⟩;refine⟨δ,{nx:=fun δ'=>∃ j,j<m/\I j δ',rt:=D'.rt,bk:=D'.nx,ct:=fun δ'=>∃ j,j<m/\I j δ'},F2,(s0.trans f1).trans e.ff,rl.ext e,by simpa using q,⟨fun σ' F' H' δ' ff r' ⟨j,hj,h'⟩=>⟨δ',F',j,hj,(f1.trans e.ff).trans ff,r',h'⟩,ok.rt,fun σ' F' H' δ' ff r' h'=>ok.nx σ' F' H' δ' ((f1.trans e.ff).trans ff) r' h',fun σ' F' H' δ' ff r' ⟨j,hj,h'⟩=>⟨δ',F',j,hj,(f1.trans e.ff).trans ff,r',h'⟩⟩⟩
  | false=>exact ok.nx σ F2 H2 δ (f1.trans e.ff) (rl.ext e) (by simpa using q)
end
def lK (K:Frg)(g:WG):TG:=fun v σ H Q=>∃ t δ R F,aA K F t v/\Rel K F H σ δ/\g t δ R/\∀ σ' δ',Rel K F H σ' δ'->R δ'->Q σ' H
def uI (K:Frg)(g:List T->aR->(aR->Prop)->Prop):Hq:=fun vs σ H Q=>∃ ts δ R F,au K F ts vs/\Rel K F H σ δ/\g ts δ R/\∀ σ' δ',Rel K F H σ' δ'->R δ'->Q σ' H
section
variable {X:Cx}{pos:Pos}{H₀:Hp}
theorem aQ {i:Nat}{x:Str}(hN:X.N.Nodup)(hi:X.N[i]?=some x:=by rfl)(hx:Loc X.env.scope x:=by first|exact Or.inl rfl|exact Or.inr rfl)(hf:X.fn x=true\/X.env.scope.names.lookup x=some .local:=by first|exact .inl rfl|exact .inr rfl|assumption):PG X (.Name x pos) (lK X.K (aU i)):=
 (JA hN hi hx hf).imp fun v σ H Q ⟨t,δ,R,F,p,rl,h,k⟩=>k _ _ (rl.put (s:=.t t) p (fun _ z=>by cases z)) h
theorem zj:Cm X [] (uI X.K qL):=JB.imp fun v σ H Q ⟨ts,δ,R,F,p,rl,h,k⟩=>by
 unfold qL at h
 split at h
 ·cases (show v=[] from p)
  exact⟨rfl,k σ δ rl h⟩
 ·exact h.elim
theorem lB {e:Expr}{es:List Expr}{g:WG}{gr:List T->aR->(aR->Prop)->Prop}(h1:PG X e (lK X.K g))(h2:Cm X es (uI X.K gr))
  (hs:(assignEach (e::es) X.env).map (·.2)=assign e X.env::(assignEach es X.env).map (·.2):=by rfl):Cm X (e::es) (uI X.K (iW g gr)):=
 (Gk h1 h2 hs).imp fun v σ H Q ⟨ts,δ,R,F,p,rl,h,k⟩=>by
  unfold iW at h
  split at h
  ·rename_i t r;obtain⟨x,vr,e1,p1,p2⟩:=p;exact⟨x,vr,e1,t,δ,_,F,p1,rl,h,fun σ' δ' rl' h'=>⟨r,δ',R,F,p2,rl',h',k⟩⟩
  ·exact h.elim
theorem C7 {es:List Expr}{k:Nat}{g:List T->aR->(aR->Prop)->Prop}{n:Nat}(h:Cm X es (uI X.K g))(hl:∀ ts δ R,g ts δ R->ts.length=n)(hc:X.calm=true:=by rfl)
  (hn:(assignEach es X.env).length=n:=by rfl) (hst:(assignEach es X.env).findIdx? (·.1)=none:=by rfl):PG X (.Tuple es k pos) (lK X.K (w8 g)):=
 (NB hc h hn hst).imp fun v σ H Q ⟨t,δ,R,F,p,rl,h,k⟩=>by
  unfold w8 at h
  split at h
  ·rename_i ts;obtain⟨a,xs,e1,p1,p2⟩:=p;exact⟨a,xs,e1,Same.sqT rl.sub a xs p1,by rw[p2.length];exact hl ts δ R h,ts,δ,R,F,p2,rl,h,k⟩
  ·exact h.elim
theorem zR:∀ ts δ R,qL ts δ R->ts.length=0:=fun ts δ R h=>by
 unfold qL at h
 split at h
 ·rfl
 ·exact h.elim
theorem lJ {n:Nat}{i:Nat}{gr:List T->aR->(aR->Prop)->Prop}(hr:∀ ts δ R,gr ts δ R->ts.length=n):∀ ts δ R,iW (aU i) gr ts δ R->ts.length=n+1:=fun ts δ R h=>by
 unfold iW at h
 split at h
 ·rw[length_cons,hr _ _ _ h]
 ·exact h.elim
theorem Dd {tg e:Expr}{we:WE}{g:WG}(he:PE X e (av X.K we))(hg:PG X tg (lK X.K g))(hs:swapsWithSole [tg] e pos.line X.env=pure false:=by rfl)(hw:swappedStores [tg] e X.env=pure none:=by rfl)
  (h1:(assignEach [tg] X.env).map (·.2)=[assign tg X.env]:=by rfl):PS X (.Assign [tg] e pos) (bE X.K H₀ (Hc we g)):=
 (Gq he hg hs hw h1).imp fun D σ H ⟨δ,D',F,s0,rl,h,ok⟩=>⟨δ,_,F,rl,h,fun v F1 H1 s e p q=>by
  cases s with
  | t t=>exact⟨t,δ,_,F1,p,rl.ext e,q,fun σ' δ' rl' h'=>ok.nx σ' F1 H1 δ' e.ff rl' h'⟩
  | vt t=>exact⟨t,freeze δ,_,H1,p,(rl.ext e).freeze,q,fun σ' δ' rl' h'=>ok.nx σ' H1 H1 δ' (e.ff.trans e.sub) rl' h'⟩
  | ol ts=>
   obtain⟨rl2,r2⟩:=rl.thaw e p;refine⟨.lst ts,δ,_,_,?_,rl2,q,fun σ' δ' rl' h'=>ok.nx σ' _ H1 δ' r2.1 rl' h'⟩;unfold aA;exact r2.2⟩
theorem Dc {i j:Nat}{x y:Str}{a b:Expr}{wa:WA}{px py pt:Pos}{kt k2 pt2}(hN:X.N.Nodup)(ha:PA X [a,b] (dA X.K wa))(hi:X.N[i]?=some x:=by rfl)(hj:X.N[j]?=some y:=by rfl)(hij:i≠j:=by decide)
  (hx:X.env.scope.names.lookup x=some .local:=by rfl) (hy:X.env.scope.names.lookup y=some .local:=by rfl)
  (hw:swappedStores [.Tuple [.Name x px,.Name y py] kt pt] (.Tuple [a,b] k2 pt2) X.env=pure (some [x,y]):=by rfl) (hc:X.calm=true:=by rfl)
  (hs:swapsWithSole [.Tuple [.Name x px,.Name y py] kt pt] (.Tuple [a,b] k2 pt2) pos.line X.env=pure false:=by rfl) :
  PS X (.Assign [.Tuple [.Name x px,.Name y py] kt pt] (.Tuple [a,b] k2 pt2) pos) (bE X.K H₀ (Kq i j wa)):=
 (NG hc hN hi hj hij hx hy ha hw hs).imp fun D σ H ⟨δ,D',F,s0,rl,h,ok⟩=>⟨δ,_,F,rl,h,fun vs F1 H1 ss e p q=>by
  split at q
  ·rename_i t u;obtain⟨v1,r1,e1,p1,v2,r2,e2,p2,p3⟩:=p
   cases (show r2=[] from p3)
   exact⟨v1,v2,by rw[e1,e2],ok.nx _ F1 H1 _ e.ff (((rl.ext e).put (i:=i) (s:=.t t) p1 (fun _ z=>by cases z)).put (i:=j) (s:=.t u) p2 (fun _ z=>by cases z)) q⟩
  ·exact q.elim⟩
end
def Hl (K:Frg)(F:Hp)(J:It)(ts:List T):Prop:=
 ∀ F1 H1 i,Same F F1->Same F1 H1->gN F1 H1->(∀ t,ts[i]?=some t->J.go i H1/\∀ x H2,J.yld i H1 x H2->∃ F2,dj F1 H1 F2 H2/\aA K F2 t x)/\(ts.length<=i->J.stop i H1)
def pZ (K:Frg)(w:WI):TI:=fun σ H R=>∃ δ W F,Rel K F H σ δ/\w δ W/\∀ J F0 F' H' ts δ',dj F H F0 H'->Same F0 F'->Rel K F' H' σ δ'->Hl K F' J ts->W ts δ'->R J H'
theorem vP {α:Type}{l:List α}{i:Nat}{x:α}{r:List α}(h:l.drop i=x::r):l[i]?=some x/\l.drop (i+1)=r:=by
 constructor
 ·rw[<-List.head?_drop,h];rfl
 ·rw[<-List.tail_drop,h];rfl
section
variable {X:Cx}{pos:Pos}{H₀:Hp}{tg:Expr}
theorem dr {iter:Expr}{body:List Stmt}{wi:WI}{g:WG}{wb:WS}(hp:PassesOwn (model X.prog X.w) X.A X.env X.xe)(hi:PI X tg iter (pZ X.K wi))(hg:PG X tg (lK X.K g))(hb:kA X body (bE X.K H₀ wb))(hc:X.calm=true:=by rfl)
  (hs:∀ x,foldedSetIterable iter X.env x=pure x:=by intro _;rfl):PS X (.For tg iter body [] pos) (bE X.K H₀ (ju wi g wb)):=
 (NF hp hc hi hg hb hs).imp fun D σ H ⟨δ,D',F,s0,rl,h,ok⟩=>⟨δ,_,F,rl,h,fun J F0 F1 H1 ts δ1 e0 f01 rl1 it q=>by
  have f1:Same F F1:=e0.ff.trans f01;obtain⟨W,w0,wend,wstep⟩:=q;refine⟨fun i m σ H=>m=ts.length-i/\i<=ts.length/\∃ δ F2,Same F1 F2/\Rel X.K F2 H σ δ/\W (ts.drop i) δ,⟨ts.length,by simp,zero_le _,δ1,F1,Same.refl _,rl1,by simpa using w0⟩,?_⟩
  rintro i m σ H ⟨rfl,hi,δ,F2,f2,rl,h⟩;obtain⟨hgo,hstop⟩:=it F2 H i f2 rl.sub rl.full
  cases hd:ts.drop i with
  | nil=>
   rw[hd]at h;have:ts.length<=i:=by simpa using hd
   exact .inl ⟨hstop this,ok.nx σ F2 H δ (f1.trans f2) rl (wend δ h)⟩
  | cons x r=>
   rw[hd]at h;obtain⟨h1,h2⟩:=vP hd;obtain⟨go,yld⟩:=hgo x h1;have hlt:i<ts.length:=by
    have:=congrArg List.length hd;simp at this;omega
   have nexts:∀ σ' F' H' δ',Same F1 F'->Rel X.K F' H' σ' δ'->W r δ'->∃ m',m'<ts.length-i/\(m'=ts.length-(i+1)/\i+1<=ts.length/\∃ δ F2,Same F1 F2/\Rel X.K F2 H' σ' δ/\W (ts.drop (i+1)) δ):=
    fun σ' F' H' δ' ff rl' h'=>⟨ts.length-(i+1),by omega,rfl,hlt,δ',F',ff,rl',by rw[h2];exact h'⟩
   refine .inr ⟨go,fun σ' H'=>∃ δ F2,Same F1 F2/\Rel X.K F2 H' σ' δ/\W r δ,fun σ' H' ⟨δ',F',ff,rl',h'⟩=>nexts σ' F' H' δ' ff rl' h',fun v H2 y=>?_⟩;obtain⟨F3,e3,p3⟩:=yld v H2 y;refine⟨x,δ,_,F3,p3,rl.ext e3,wstep x r δ h,fun σ' δ' rl' h'=>?_⟩;exact⟨δ',_,F3,((s0.trans f1).trans f2).trans e3.ff,rl',h',⟨fun σ'' F'' H'' δ'' ff rl'' h''=>⟨δ'',F'',(f2.trans e3.ff).trans ff,rl'',h''⟩,ok.rt,fun σ'' F'' H'' δ'' ff rl'' h''=>ok.nx σ'' F'' H'' δ'' (((f1.trans f2).trans e3.ff).trans ff) rl'' h'',fun σ'' F'' H'' δ'' ff rl'' h''=>⟨δ'',F'',(f2.trans e3.ff).trans ff,rl'',h''⟩⟩⟩⟩
def sF (δ:aR)(W:List T->aR->Prop):S->Prop
 | .t (.lst ts)=>W ts δ
 | .vt (.lst ts)=>W ts (freeze δ)
 | .ol ts=>W ts δ
 | _=>False
def bW (we:WE):WI:=fun δ W=>we δ fun s=>sF δ W s
theorem uF {K:Frg}{F:Hp}{a:Addr}{xs:List V}{ts:List T}(h:cX K F a xs)(r:au K F ts xs):Hl K F (Q5 K a) ts:=by
 intro F1 H1 i f1 sb fu;have q:cX K H1 a xs:=sb.seq (f1.seq h);refine⟨fun t ht=>?_,fun hl=>⟨xs,q,by rw[r.length];exact hl⟩⟩
 obtain⟨x,h1,h2⟩:=r.get ht;refine⟨⟨xs,x,q,h1⟩,fun y H2 hy=>?_⟩;obtain⟨e,hy⟩:=hy;subst e;have:=hy xs q;rw[h1]at this
 cases this
 exact⟨F1,dj.refl sb fu,aA.same f1 h2⟩
end
end DL
namespace DL
open PySem L2
mutual
def eqT:T->T->Bool
 | .non,.non=>true
 | .bl a,.bl b=>a == b
 | .bl a,.int b=>(if a then 1 else 0) == b
 | .int a,.bl b=>a == (if b then 1 else 0)
 | .int a,.int b=>a == b
 | .str a,.str b=>a == b
 | .tup a,.tup b=>cD a b
 | .lst a,.lst b=>cD a b
 | _,_=>false
def cD:List T->List T->Bool
 | [],[]=>true
 | a::r,b::s=>eqT a b && cD r s
 | _,_=>false
end
mutual
def dep:T->Nat
 | .tup ts=>fY ts+1
 | .lst ts=>fY ts+1
 | .exc _=>1000
 | _=>0
def fY:List T->Nat
 | []=>0
 | t::r=>max (dep t) (fY r)
end
mutual
theorem pK:∀ t:T,dep t<1000->eqT t t=true
 | .non,_=>rfl
 | .bl b,_=>by simp[eqT]
 | .int i,_=>by simp[eqT]
 | .str x,_=>by simp[eqT]
 | .tup ts,h=>by simp only[eqT];exact mP ts (by simp only[dep]at h;omega)
 | .lst ts,h=>by simp only[eqT];exact mP ts (by simp only[dep]at h;omega)
 | .exc _,h=>by simp[dep]at h
theorem mP:∀ ts:List T,fY ts<1000->cD ts ts=true
 | [],_=>by simp[cD]
 | t::r,h=>by
  simp only[fY]at h;simp only[cD,pK t (by omega),mP r (by omega)];rfl
end
section
variable {X:Cx}{pins:List (Addr × Obj)}{σ:St}{H:Hp}{s:Shared}
theorem wf (I:aF X pins σ H s){a:Addr}{xs ys:List V}(h:k8 X.K H a xs)(g:cX X.K H a ys):False:=by
 obtain⟨its,_,p1,_⟩:=I.tuple h;obtain⟨its2,_,p2,_⟩:=I.list g;exact SeqAt.ne_of_list_tuple p2.isList p1 rfl
mutual
theorem aA.inj (I:aF X pins σ H s):∀ (t u:T) (v:V),dep t<1000->dep u<1000->aA X.K H t v->aA X.K H u v->t=u
 | .non,u,v,_,_,h,g=>by cases (show v=_ from h);cases u with
  | non=>rfl
  | tup ts=>unfold aA at g;obtain⟨_,_,e,_⟩:=g;cases e
  | lst ts=>unfold aA at g;obtain⟨_,_,e,_⟩:=g;cases e
  | exc c=>unfold aA at g;obtain⟨_,_,e,_⟩:=g;cases e
  | _=>cases g
 | .bl b,u,v,_,_,h,g=>by cases (show v=_ from h);cases u with
  | bl c=>cases g;rfl
  | tup ts=>unfold aA at g;obtain⟨_,_,e,_⟩:=g;cases e
  | lst ts=>unfold aA at g;obtain⟨_,_,e,_⟩:=g;cases e
  | exc c=>unfold aA at g;obtain⟨_,_,e,_⟩:=g;cases e
  | _=>cases g
 | .int b,u,v,_,_,h,g=>by cases (show v=_ from h);cases u with
  | int c=>cases g;rfl
  | tup ts=>unfold aA at g;obtain⟨_,_,e,_⟩:=g;cases e
  | lst ts=>unfold aA at g;obtain⟨_,_,e,_⟩:=g;cases e
  | exc c=>unfold aA at g;obtain⟨_,_,e,_⟩:=g;cases e
  | _=>cases g
 | .str b,u,v,_,_,h,g=>by cases (show v=_ from h);cases u with
  | str c=>cases g;rfl
  | tup ts=>unfold aA at g;obtain⟨_,_,e,_⟩:=g;cases e
  | lst ts=>unfold aA at g;obtain⟨_,_,e,_⟩:=g;cases e
  | exc c=>unfold aA at g;obtain⟨_,_,e,_⟩:=g;cases e
  | _=>cases g
 | .tup ts,u,v,d1,d2,h,g=>by
  unfold aA at h;obtain⟨a,xs,e,h1,h2⟩:=h;subst e
  cases u with
  | tup us=>
   unfold aA at g;obtain⟨b,ys,e,g1,g2⟩:=g
   cases e
   have:=I.tuple_inj h1 g1;subst this;rw[au.inj I ts us xs (by simp only[dep]at d1;omega) (by simp only[dep]at d2;omega) h2 g2]
  | lst us=>
   unfold aA at g;obtain⟨b,ys,e,g1,g2⟩:=g
   cases e
   exact(wf I h1 g1).elim
  | exc c=>simp[dep]at d2
  | _=>cases g
 | .lst ts,u,v,d1,d2,h,g=>by
  unfold aA at h;obtain⟨a,xs,e,h1,h2⟩:=h;subst e
  cases u with
  | lst us=>
   unfold aA at g;obtain⟨b,ys,e,g1,g2⟩:=g
   cases e
   have:=I.list_inj h1 g1;subst this;rw[au.inj I ts us xs (by simp only[dep]at d1;omega) (by simp only[dep]at d2;omega) h2 g2]
  | tup us=>
   unfold aA at g;obtain⟨b,ys,e,g1,g2⟩:=g
   cases e
   exact(wf I g1 h1).elim
  | exc c=>simp[dep]at d2
  | _=>cases g
 | .exc _,_,_,d1,_,_,_=>by simp[dep]at d1
theorem au.inj (I:aF X pins σ H s):∀ (ts us:List T) (xs:List V),fY ts<1000->fY us<1000->au X.K H ts xs->au X.K H us xs->ts=us
 | [],us,xs,_,_,h,g=>by
  cases (show xs=[] from h)
  cases us with
  | nil=>rfl
  | cons u us=>obtain⟨_,_,e,_⟩:=g;cases e
 | t::ts,us,xs,d1,d2,⟨x,r,e,h1,h2⟩,g=>by
  subst e
  cases us with
  | nil=>cases (show _=[] from g)
  | cons u us=>
   obtain⟨y,r',e,g1,g2⟩:=g
   cases e
   simp only[fY]at d1 d2;rw[aA.inj I t u x (by omega) (by omega) h1 g1,au.inj I ts us r (by omega) (by omega) h2 g2]
end
def nU (ts us:List T)(j:Nat):Bool:=match ts[j]?,us[j]? with
 | some a,some b=>eqT a b
 | _,_=>true
theorem qp (n:Nat)(e:Nat->Bool):(List.range (n+1)).all e=(e 0 && (List.range n).all fun j=>e (j+1)):=by
 rw[range_succ_eq_map,List.all_cons,List.all_map];rfl
theorem pL:∀ (ts us:List T),((List.range (min ts.length us.length)).all (nU ts us) && ts.length == us.length)=cD ts us
 | [],[]=>by simp[cD]
 | [],u::us=>by simp[cD]
 | t::ts,[]=>by simp[cD]
 | t::ts,u::us=>by
  have ih:=pL ts us;have e1:min (t::ts).length (u::us).length=min ts.length us.length+1:=by simp only[length_cons];omega
  rw[e1,qp];have e2:nU (t::ts) (u::us) 0=eqT t u:=by simp[nU]
  have e3:(fun j=>nU (t::ts) (u::us) (j+1))=nU ts us:=by funext j;simp[nU]
  have e4:((t::ts).length == (u::us).length)=(ts.length == us.length):=by simp
  rw[e2,e3,e4];simp only[cD];rw[<-ih,Bool.and_assoc]
theorem units_in1 (A:Around):A.in1.units=A.units+1:=rfl
theorem vO:∀ {ts:List T}{j:Nat}{t:T},ts[j]?=some t->dep t<=fY ts
 | [],_,_,h=>by simp at h
 | t::ts,0,u,h=>by simp at h;subst h;simp only[fY];omega
 | t::ts,j+1,u,h=>by
  have:=vO (ts:=ts) (j:=j) (t:=u) (by simpa using h)
  simp only[fY];omega
theorem uS {A:Around}{ts us:List T}{xs ys:List V}{its its2:List Value}(h1:au X.K H ts xs)(h2:au X.K H us ys)(r1:aO xs its)(r2:aO ys its2)
  (ih:∀ t u v1 v2 u1 u2,t∈ts->u∈us->aA X.K H t v1->aA X.K H u v2->RelV v1 u1->RelV v2 u2->SeqAt.EqAt A s u1 u2 (eqT t u)) :
  ∀ j (h1:j<its.toArray.size) (h2:j<its2.toArray.size),SeqAt.EqAt A s its.toArray[j] its2.toArray[j] (nU ts us j):=by
 intro j q1 q2;have l1:=h1.length;have l2:=h2.length;have l3:=r1.length;have l4:=r2.length;rw[size_toArray]at q1 q2;have g1:j<ts.length:=by omega
 have g2:j<us.length:=by omega
 obtain⟨x,p1,p2⟩:=h1.get (getElem?_eq_getElem g1);obtain⟨y,p3,p4⟩:=h2.get (getElem?_eq_getElem g2);obtain⟨w1,p5,p6⟩:=r1.get p1;obtain⟨w2,p7,p8⟩:=r2.get p3;have e1:its.toArray[j]=w1:=by
  have:=getElem?_eq_getElem q1;rw[p5]at this;simpa using (Option.some.inj this).symm
 have e2:its2.toArray[j]=w2:=by
  have:=getElem?_eq_getElem q2;rw[p7]at this;simpa using (Option.some.inj this).symm
 have e3:nU ts us j=eqT ts[j] us[j]:=by
  unfold nU;rw[getElem?_eq_getElem g1,getElem?_eq_getElem g2]
 rw[e1,e2,e3];exact ih _ _ x y w1 w2 (getElem_mem g1) (getElem_mem g2) p2 p4 p6 p8
theorem iB {ts:List T}{t:T}(h:t∈ts):dep t<=fY ts:=by
 obtain⟨j,hj,rfl⟩:=List.mem_iff_getElem.mp h;exact vO (getElem?_eq_getElem hj)
theorem xJ {ts us:List T}(h:ts.length=us.length):(List.range ts.length).all (nU ts us)=cD ts us:=by
 have:=pL ts us;rw[<-h]at this;simpa using this
theorem vR:∀ {ts us:List T},ts.length≠us.length->cD ts us=false
 | [],[],h=>absurd rfl h
 | [],_::_,_=>by simp[cD]
 | _::_,[],_=>by simp[cD]
 | t::ts,u::us,h=>by
  simp only[cD];rw[vR (ts:=ts) (us:=us) (by simpa using h),Bool.and_false]
theorem Qu {A:Around}{a b:Addr}{ts us:List T}{xs ys:List V}{its its2:List Value}(p2:au X.K H ts xs)(g2:au X.K H us ys)(q1:aO xs its)(q2:aO ys its2)(pl:PyProof.Rows.IsTup s.heap a its.toArray)(pl2:PyProof.Rows.IsTup s.heap b its2.toArray)(hu':A.units<cLine)
  (ih:∀ t u v1 v2 u1 u2,t∈ts->u∈us->aA X.K H t v1->aA X.K H u v2->RelV v1 u1->RelV v2 u2->SeqAt.EqAt A.in1 s u1 u2 (eqT t u)) :
  SeqAt.RcAt A s (.ref a) (.ref b) (cD ts us)/\SeqAt.RcNeAt A s (.ref a) (.ref b) (!cD ts us):=by
 have h1:=SeqAt.RcAt.tuples (A:=A) (e:=nU ts us) pl pl2 hu' (uS p2 g2 q1 q2 ih);have h2:=SeqAt.RcNeAt.tuples (A:=A) (e:=nU ts us) pl pl2 hu' (uS p2 g2 q1 q2 ih);rw[size_toArray,size_toArray,<-q1.length,<-q2.length,p2.length,g2.length,pL]at h1 h2;exact⟨h1,h2⟩
theorem Qt {A:Around}{a b:Addr}{ts us:List T}{xs ys:List V}{its its2:List Value}(p2:au X.K H ts xs)(g2:au X.K H us ys)(q1:aO xs its)(q2:aO ys its2)(pl:PlainL s.heap a its.toArray)(pl2:PlainL s.heap b its2.toArray)(hu':A.units<cLine)
  (ih:∀ t u v1 v2 u1 u2,t∈ts->u∈us->aA X.K H t v1->aA X.K H u v2->RelV v1 u1->RelV v2 u2->SeqAt.EqAt A.in1 s u1 u2 (eqT t u)) :
  SeqAt.RcAt A s (.ref a) (.ref b) (cD ts us)/\SeqAt.RcNeAt A s (.ref a) (.ref b) (!cD ts us):=by
 have e1:its.toArray.size=ts.length:=by rw[size_toArray,<-q1.length,p2.length]
 have e2:its2.toArray.size=us.length:=by rw[size_toArray,<-q2.length,g2.length]
 by_cases hl:ts.length=us.length
 ·have hp:=uS (A:=A.in1) p2 g2 q1 q2 ih;have g1:=SeqAt.RcAt.lists pl.isList pl2.isList (by rw[e1,e2,hl]) hu' hp
  have g2:=SeqAt.RcNeAt.lists pl.isList pl2.isList (by rw[e1,e2,hl]) hu' hp
  rw[e1,xJ hl]at g1 g2;exact⟨g1,g2⟩
 ·have ne:(its.toArray.size != its2.toArray.size)=true:=by rw[e1,e2];simpa using hl
  rw[vR hl];exact⟨SeqAt.RcAt.lists_lengths pl.isList pl2.isList ne hu',SeqAt.RcNeAt.lists_lengths pl.isList pl2.isList ne hu'⟩
theorem qt (I:aF X pins σ H s):∀ (n:Nat) (A:Around) (t u:T) (v1 v2:V) (u1 u2:Value),dep t<=n->dep u<1000->n<1000->A.units+n<cLine->aA X.K H t v1->aA X.K H u v2->RelV v1 u1->RelV v2 u2 →
  SeqAt.RcAt A s u1 u2 (eqT t u)/\SeqAt.RcNeAt A s u1 u2 (!eqT t u)/\SeqAt.EqAt A s u1 u2 (eqT t u):=by
 intro n
 induction n with
 | zero=>
  intro A t u v1 v2 u1 u2 hd hd2 hn hu h1 h2 r1 r2;have hu':A.units<cLine:=by omega
  cases t with
  | tup ts=>simp only[dep]at hd;omega
  | lst ts=>simp only[dep]at hd;omega
  | exc c=>simp[dep]at hd
  | non=>
   cases h1;cases r1
   cases u with
   | non=>cases h2;cases r2;exact⟨SeqAt.RcAt.none_none,SeqAt.RcNeAt.none_none,SeqAt.EqAt.same _⟩
   | bl b=>cases h2;cases r2;exact⟨SeqAt.RcAt.none_bool b,SeqAt.RcNeAt.none_bool b,SeqAt.EqAt.none_bool b⟩
   | int b=>cases h2;obtain⟨tk,rfl⟩:=r2;exact⟨SeqAt.RcAt.none_int b tk,SeqAt.RcNeAt.none_int b tk,SeqAt.EqAt.none_int b tk⟩
   | str b=>cases h2;obtain⟨tk,rfl⟩:=r2;exact⟨SeqAt.RcAt.none_str b tk,SeqAt.RcNeAt.none_str b tk,SeqAt.EqAt.none_str b tk⟩
   | tup us=>
    unfold aA at h2;obtain⟨a,xs,rfl,g1,g2⟩:=h2
    cases r2
    obtain⟨its,_,pl,_⟩:=I.tuple g1;exact⟨SeqAt.RcAt.none_tuple pl hu',SeqAt.RcNeAt.none_tuple pl hu',SeqAt.EqAt.none_tuple pl hu'⟩
   | lst us=>
    unfold aA at h2;obtain⟨a,xs,rfl,g1,g2⟩:=h2
    cases r2
    obtain⟨its,_,pl,_⟩:=I.list g1;exact⟨SeqAt.RcAt.none_list pl.isList hu',SeqAt.RcNeAt.none_list pl.isList hu',SeqAt.EqAt.none_list pl.isList hu'⟩
   | exc c=>simp[dep]at hd2
  | bl c=>
   cases h1;cases r1
   cases u with
   | non=>cases h2;cases r2;exact⟨SeqAt.RcAt.bool_none c,SeqAt.RcNeAt.bool_none c,SeqAt.EqAt.bool_none c⟩
   | bl b=>cases h2;cases r2;exact⟨SeqAt.RcAt.bool_bool c b,SeqAt.RcNeAt.bool_bool c b,SeqAt.EqAt.bool_bool c b⟩
   | int b=>cases h2;obtain⟨tk,rfl⟩:=r2;exact⟨SeqAt.RcAt.bool_int c b tk,SeqAt.RcNeAt.bool_int c b tk,SeqAt.EqAt.bool_int c b tk⟩
   | str b=>cases h2;obtain⟨tk,rfl⟩:=r2;exact⟨SeqAt.RcAt.bool_str c b tk,SeqAt.RcNeAt.bool_str c b tk,SeqAt.EqAt.bool_str c b tk⟩
   | tup us=>
    unfold aA at h2;obtain⟨a,xs,rfl,g1,g2⟩:=h2
    cases r2
    obtain⟨its,_,pl,_⟩:=I.tuple g1;exact⟨SeqAt.RcAt.bool_tuple c pl hu',SeqAt.RcNeAt.bool_tuple c pl hu',SeqAt.EqAt.bool_tuple c pl hu'⟩
   | lst us=>
    unfold aA at h2;obtain⟨a,xs,rfl,g1,g2⟩:=h2
    cases r2
    obtain⟨its,_,pl,_⟩:=I.list g1;exact⟨SeqAt.RcAt.bool_list c pl.isList hu',SeqAt.RcNeAt.bool_list c pl.isList hu',SeqAt.EqAt.bool_list c pl.isList hu'⟩
   | exc c=>simp[dep]at hd2
  | int c=>
   cases h1;obtain⟨tk1,rfl⟩:=r1
   cases u with
   | non=>cases h2;cases r2;exact⟨SeqAt.RcAt.int_none c tk1,SeqAt.RcNeAt.int_none c tk1,SeqAt.EqAt.int_none c tk1⟩
   | bl b=>cases h2;cases r2;exact⟨SeqAt.RcAt.int_bool c tk1 b,SeqAt.RcNeAt.int_bool c tk1 b,SeqAt.EqAt.int_bool c tk1 b⟩
   | int b=>cases h2;obtain⟨tk,rfl⟩:=r2;exact⟨SeqAt.RcAt.int_int c tk1 b tk,SeqAt.RcNeAt.int_int c tk1 b tk,SeqAt.EqAt.int_int c tk1 b tk⟩
   | str b=>cases h2;obtain⟨tk,rfl⟩:=r2;exact⟨SeqAt.RcAt.int_str c tk1 b tk,SeqAt.RcNeAt.int_str c tk1 b tk,SeqAt.EqAt.int_str c tk1 b tk⟩
   | tup us=>
    unfold aA at h2;obtain⟨a,xs,rfl,g1,g2⟩:=h2
    cases r2
    obtain⟨its,_,pl,_⟩:=I.tuple g1;exact⟨SeqAt.RcAt.int_tuple c tk1 pl hu',SeqAt.RcNeAt.int_tuple c tk1 pl hu',SeqAt.EqAt.int_tuple c tk1 pl hu'⟩
   | lst us=>
    unfold aA at h2;obtain⟨a,xs,rfl,g1,g2⟩:=h2
    cases r2
    obtain⟨its,_,pl,_⟩:=I.list g1;exact⟨SeqAt.RcAt.int_list c tk1 pl.isList hu',SeqAt.RcNeAt.int_list c tk1 pl.isList hu',SeqAt.EqAt.int_list c tk1 pl.isList hu'⟩
   | exc c=>simp[dep]at hd2
  | str c=>
   cases h1;obtain⟨tk1,rfl⟩:=r1
   cases u with
   | non=>cases h2;cases r2;exact⟨SeqAt.RcAt.str_none c tk1,SeqAt.RcNeAt.str_none c tk1,SeqAt.EqAt.str_none c tk1⟩
   | bl b=>cases h2;cases r2;exact⟨SeqAt.RcAt.str_bool c tk1 b,SeqAt.RcNeAt.str_bool c tk1 b,SeqAt.EqAt.str_bool c tk1 b⟩
   | int b=>cases h2;obtain⟨tk,rfl⟩:=r2;exact⟨SeqAt.RcAt.str_int c tk1 b tk,SeqAt.RcNeAt.str_int c tk1 b tk,SeqAt.EqAt.str_int c tk1 b tk⟩
   | str b=>cases h2;obtain⟨tk,rfl⟩:=r2;exact⟨SeqAt.RcAt.str_str c tk1 b tk,SeqAt.RcNeAt.str_str c tk1 b tk,SeqAt.EqAt.str_str c tk1 b tk⟩
   | tup us=>
    unfold aA at h2;obtain⟨a,xs,rfl,g1,g2⟩:=h2
    cases r2
    obtain⟨its,_,pl,_⟩:=I.tuple g1;exact⟨SeqAt.RcAt.str_tuple c tk1 pl hu',SeqAt.RcNeAt.str_tuple c tk1 pl hu',SeqAt.EqAt.str_tuple c tk1 pl hu'⟩
   | lst us=>
    unfold aA at h2;obtain⟨a,xs,rfl,g1,g2⟩:=h2
    cases r2
    obtain⟨its,_,pl,_⟩:=I.list g1;exact⟨SeqAt.RcAt.str_list c tk1 pl.isList hu',SeqAt.RcNeAt.str_list c tk1 pl.isList hu',SeqAt.EqAt.str_list c tk1 pl.isList hu'⟩
   | exc c=>simp[dep]at hd2
 | succ n ih=>
  intro A t u v1 v2 u1 u2 hd hd2 hn hu h1 h2 r1 r2;have hu':A.units<cLine:=by omega
  have ih:=fun A t u v1 v2 u1 u2 a b=>ih A t u v1 v2 u1 u2 a b (by omega)
  cases t with
  | tup ts=>
   unfold aA at h1;obtain⟨a,xs,rfl,p1,p2⟩:=h1
   cases r1
   obtain⟨its,q1,pl,_⟩:=I.tuple p1
   cases u with
   | tup us=>
    unfold aA at h2;obtain⟨b,ys,rfl,g1,g2⟩:=h2
    cases r2
    obtain⟨its2,q2,pl2,_⟩:=I.tuple g1;simp only[dep]at hd hd2;have rr:SeqAt.RcAt A s (.ref a) (.ref b) (cD ts us)/\SeqAt.RcNeAt A s (.ref a) (.ref b) (!cD ts us):=
     Qu p2 g2 q1 q2 pl pl2 hu' fun t u v1 v2 u1 u2 ht hu2 k1 k2 k3 k4=>
      (ih A.in1 t u v1 v2 u1 u2 (by have:=iB ht;omega) (by have:=iB hu2;omega) (by rw[units_in1];omega) k1 k2 k3 k4).2.2
    refine⟨by simpa only [eqT] using rr.1,by simpa only [eqT] using rr.2,?_⟩
    by_cases hab:a=b
    ·subst hab;have:=I.tuple_inj p1 g1;subst this;have:=au.inj I ts us xs (by omega) (by omega) p2 g2
     subst this;rw[pK _ (by simp only[dep];omega)]
     exact SeqAt.EqAt.same _
    ·simp only[eqT];exact SeqAt.EqAt.of_refs hab rr.1
   | lst us=>
    unfold aA at h2;obtain⟨b,ys,rfl,g1,g2⟩:=h2
    cases r2
    obtain⟨its2,q2,pl2,_⟩:=I.list g1;exact⟨SeqAt.RcAt.tuple_list pl pl2.isList hu',SeqAt.RcNeAt.tuple_list pl pl2.isList hu',SeqAt.EqAt.tuple_list pl pl2.isList hu'⟩
   | non=>cases h2;cases r2;exact⟨SeqAt.RcAt.tuple_none pl hu',SeqAt.RcNeAt.tuple_none pl hu',SeqAt.EqAt.tuple_none pl hu'⟩
   | bl b=>cases h2;cases r2;exact⟨SeqAt.RcAt.tuple_bool b pl hu',SeqAt.RcNeAt.tuple_bool b pl hu',SeqAt.EqAt.tuple_bool b pl hu'⟩
   | int b=>cases h2;obtain⟨tk,rfl⟩:=r2;exact⟨SeqAt.RcAt.tuple_int b tk pl hu',SeqAt.RcNeAt.tuple_int b tk pl hu',SeqAt.EqAt.tuple_int b tk pl hu'⟩
   | str b=>cases h2;obtain⟨tk,rfl⟩:=r2;exact⟨SeqAt.RcAt.tuple_str b tk pl hu',SeqAt.RcNeAt.tuple_str b tk pl hu',SeqAt.EqAt.tuple_str b tk pl hu'⟩
   | exc c=>simp[dep]at hd2
  | lst ts=>
   unfold aA at h1;obtain⟨a,xs,rfl,p1,p2⟩:=h1
   cases r1
   obtain⟨its,q1,pl,_⟩:=I.list p1
   cases u with
   | lst us=>
    unfold aA at h2;obtain⟨b,ys,rfl,g1,g2⟩:=h2
    cases r2
    obtain⟨its2,q2,pl2,_⟩:=I.list g1;simp only[dep]at hd hd2;have rr:SeqAt.RcAt A s (.ref a) (.ref b) (cD ts us)/\SeqAt.RcNeAt A s (.ref a) (.ref b) (!cD ts us):=
     Qt p2 g2 q1 q2 pl pl2 hu' fun t u v1 v2 u1 u2 ht hu2 k1 k2 k3 k4=>
      (ih A.in1 t u v1 v2 u1 u2 (by have:=iB ht;omega) (by have:=iB hu2;omega) (by rw[units_in1];omega) k1 k2 k3 k4).2.2
    refine⟨by simpa only [eqT] using rr.1,by simpa only [eqT] using rr.2,?_⟩
    by_cases hab:a=b
    ·subst hab;have:=I.list_inj p1 g1;subst this;have:=au.inj I ts us xs (by omega) (by omega) p2 g2
     subst this;rw[pK _ (by simp only[dep];omega)]
     exact SeqAt.EqAt.same _
    ·simp only[eqT];exact SeqAt.EqAt.of_refs hab rr.1
   | tup us=>
    unfold aA at h2;obtain⟨b,ys,rfl,g1,g2⟩:=h2
    cases r2
    obtain⟨its2,q2,pl2,_⟩:=I.tuple g1;exact⟨SeqAt.RcAt.list_tuple pl.isList pl2 hu',SeqAt.RcNeAt.list_tuple pl.isList pl2 hu',SeqAt.EqAt.list_tuple pl.isList pl2 hu'⟩
   | non=>cases h2;cases r2;exact⟨SeqAt.RcAt.list_none pl.isList hu',SeqAt.RcNeAt.list_none pl.isList hu',SeqAt.EqAt.list_none pl.isList hu'⟩
   | bl b=>cases h2;cases r2;exact⟨SeqAt.RcAt.list_bool b pl.isList hu',SeqAt.RcNeAt.list_bool b pl.isList hu',SeqAt.EqAt.list_bool b pl.isList hu'⟩
   | int b=>cases h2;obtain⟨tk,rfl⟩:=r2;exact⟨SeqAt.RcAt.list_int b tk pl.isList hu',SeqAt.RcNeAt.list_int b tk pl.isList hu',SeqAt.EqAt.list_int b tk pl.isList hu'⟩
   | str b=>cases h2;obtain⟨tk,rfl⟩:=r2;exact⟨SeqAt.RcAt.list_str b tk pl.isList hu',SeqAt.RcNeAt.list_str b tk pl.isList hu',SeqAt.EqAt.list_str b tk pl.isList hu'⟩
   | exc c=>simp[dep]at hd2
  | exc c=>simp only[dep]at hd;omega
  | non=>exact ih A _ u v1 v2 u1 u2 (by simp only[dep];omega) hd2 (by omega) h1 h2 r1 r2
  | bl c=>exact ih A _ u v1 v2 u1 u2 (by simp only[dep];omega) hd2 (by omega) h1 h2 r1 r2
  | int c=>exact ih A _ u v1 v2 u1 u2 (by simp only[dep];omega) hd2 (by omega) h1 h2 r1 r2
  | str c=>exact ih A _ u v1 v2 u1 u2 (by simp only[dep];omega) hd2 (by omega) h1 h2 r1 r2
end
end DL
namespace DL
open PySem L2
def sh (s:S):Prop:=dep (tr s)<=20
def QU (a b:S):Bool:=eqT (tr a) (tr b)
def dW:S->S->(S->Prop)->Prop:=fun a b R=>sh a/\sh b/\R (.t (.bl (QU a b)))
def dY:S->S->(S->Prop)->Prop:=fun a b R=>sh a/\sh b/\R (.t (.bl (!QU a b)))
abbrev rK:=ap dW
abbrev Oj:=ap dY
def JW (K:Frg)(neg:Bool):R2:=fun x y H Q=>∃ a b,dep a<=20/\dep b<=20/\aA K H a x/\aA K H b y/\Q (.bl (if neg then !eqT a b else eqT a b)) H
def Es (x:T)(ts:List T):Bool:=ts.any fun t=>eqT t x
def PK:S->S->(S->Prop)->Prop:=fun a b R=>match tr b with
 | .lst ts=>sh a/\fY ts<=20/\R (.t (.bl (Es (tr a) ts)))
 | .tup ts=>sh a/\fY ts<=20/\R (.t (.bl (Es (tr a) ts)))
 | _=>False
def kH:S->S->(S->Prop)->Prop:=fun a b R=>match tr b with
 | .lst ts=>sh a/\fY ts<=20/\R (.t (.bl (!Es (tr a) ts)))
 | .tup ts=>sh a/\fY ts<=20/\R (.t (.bl (!Es (tr a) ts)))
 | _=>False
abbrev Sa:=ap PK
abbrev yL:=ap kH
def JZ (K:Frg)(neg:Bool):R2:=fun x y H Q=>∃ a p xs ts,dep a<=20/\fY ts<=20/\aA K H a x/\y=.ref p/\(cX K H p xs\/k8 K H p xs)/\au K H ts xs/\Q (.bl (if neg then !Es a ts else Es a ts)) H
def KL:T->Bool
 | .non=>true
 | _=>false
def G9 (wa:WE):WE:=fun δ R=>wa δ fun s=>R (.t (.bl (KL (tr s))))
def tf (wa:WE):WE:=fun δ R=>wa δ fun s=>R (.t (.bl (!KL (tr s))))
section
variable {X:Cx}
theorem Ge (hu:X.A.units+64<cLine):lc X (compareOp .Eq) (JW X.K false):=by
 intro pins s σ H x y v u Q I rx ry h;obtain⟨a,b,h1,h2,p1,p2,q⟩:=h;exact(qt I 20 X.A a b x y v u h1 (by omega) (by omega) (by omega) p1 p2 rx ry).1 X.prog X.w X.xe _ ⟨.bl _,H,I,rfl,q⟩
theorem Ni (hu:X.A.units+64<cLine):lc X (compareOp .NotEq) (JW X.K true):=by
 intro pins s σ H x y v u Q I rx ry h;obtain⟨a,b,h1,h2,p1,p2,q⟩:=h;exact(qt I 20 X.A a b x y v u h1 (by omega) (by omega) (by omega) p1 p2 rx ry).2.1 X.prog X.w X.xe _ ⟨.bl _,H,I,rfl,q⟩
theorem Gd {K:Frg}:He K (JW K false) dW:=fun F H s1 s2 v1 v2 R Q sb fu p1 p2 h k=>⟨tr s1,tr s2,h.1,h.2.1,p1.tree sb,p2.tree sb,k _ F H (.t (.bl _)) (dj.refl sb fu) rfl h.2.2⟩
theorem Nd {K:Frg}:He K (JW K true) dY:=fun F H s1 s2 v1 v2 R Q sb fu p1 p2 h k=>⟨tr s1,tr s2,h.1,h.2.1,p1.tree sb,p2.tree sb,k _ F H (.t (.bl _)) (dj.refl sb fu) rfl h.2.2⟩
noncomputable def Di (X:Cx) (H:Hp) (a:T) (ts:List T) (u:Value):Bool:=open Classical in decide (∃ t v,t∈ts/\aA X.K H t v/\RelV v u/\eqT t a=true)
theorem Gy {v w:V}{u:Value}(h:RelV v u)(g:RelV w u):v=w:=RelV.inj h g
theorem Dj {pins:List (Addr × Obj)}{σ:St}{H:Hp}{s:Shared}(I:aF X pins σ H s){a:T}{ts:List T}(hd:fY ts<1000){t:T}{v:V}{u:Value}(ht:t∈ts)(h:aA X.K H t v)(r:RelV v u):Di X H a ts u=eqT t a:=by
 unfold Di
 cases e:eqT t a with
 | true=>exact @decide_eq_true _ (Classical.propDecidable _) ⟨t,v,ht,h,r,e⟩
 | false=>
  refine @decide_eq_false _ (Classical.propDecidable _) ?_;rintro⟨t',v',ht',h',r',e'⟩;have:=Gy r r';subst this;have d1:=iB ht;have d2:=iB ht';have:=aA.inj I t t' v (by omega) (by omega) h h'
  subst this;rw[e]at e';cases e'
theorem zA {pins:List (Addr × Obj)}{σ:St}{H:Hp}{s:Shared}(I:aF X pins σ H s){a:T}{us:List T}(hd:fY us<1000):∀ {ts:List T}{xs:List V}{its:List Value},(∀ t∈ts,t∈us)->au X.K H ts xs->aO xs its->its.any (Di X H a us)=ts.any fun t=>eqT t a
 | [],_,_,_,h,r=>by cases (show _=[] from h);cases r;rfl
 | t::ts,_,_,hm,⟨x,r,e,p,q⟩,rv=>by
  subst e
  cases rv with
  | cons r1 r2=>
   rw[List.any_cons,List.any_cons,Dj I hd (hm t mem_cons_self) p r1,zA I hd (fun z hz=>hm z (mem_cons_of_mem _ hz)) q r2]
theorem wx {K:Frg}{H:Hp}:∀ {ts:List T}{xs:List V}{its:List Value}{u:Value},au K H ts xs->aO xs its->u∈its->∃ t v,t∈ts/\aA K H t v/\RelV v u
 | [],_,_,_,h,r,m=>by cases (show _=[] from h);cases r;cases m
 | t::ts,_,_,_,⟨x,r,e,p,q⟩,rv,m=>by
  subst e
  cases rv with
  | cons r1 r2=>
   rcases mem_cons.mp m with rfl|m
   ·exact⟨t,x,mem_cons_self,p,r1⟩
   ·obtain⟨t',v',h1,h2,h3⟩:=wx q r2 m;exact⟨t',v',mem_cons_of_mem _ h1,h2,h3⟩
theorem lH {pins:List (Addr × Obj)}{σ:St}{H:Hp}{s:Shared}(I:aF X pins σ H s)(hu:X.A.units+64<cLine){a:T}{ts:List T}{x:V}{v:Value}{xs:List V}{its:List Value}(h1:dep a<=20)(h2:fY ts<=20)(p1:aA X.K H a x)(rx:RelV x v)(p2:au X.K H ts xs)(r:aO xs its) :
  (∀ y,y∈its.toArray->SeqAt.EqAt X.A.in1 s y v (Di X H a ts y))/\its.toArray.any (Di X H a ts)=Es a ts:=by
 refine⟨fun y hy=>?_,?_⟩
 ·obtain⟨t,w,m1,m2,m3⟩:=wx p2 r (by simpa using hy)
  have d:=iB m1;rw[Dj I (by omega) m1 m2 m3]
  exact(qt I 20 X.A.in1 t a w x y v (by omega) (by omega) (by omega) (by rw[units_in1];omega) m2 p1 m3 rx).2.2
 ·rw[show its.toArray.any (Di X H a ts)=its.any (Di X H a ts) by simp,zA I (by omega) (fun _ h=>h) p2 r]
  rfl
theorem Ng (hu:X.A.units+64<cLine):lc X (compareOp .In) (JZ X.K false):=by
 intro pins s σ H x y v u Q I rx ry h;obtain⟨a,p,xs,ts,h1,h2,p1,rfl,hq,p2,q⟩:=h
 cases ry
 rcases hq with hq|hq
 ·obtain⟨its,r,pl,hz⟩:=I.list hq;obtain⟨g1,g2⟩:=lH I hu h1 h2 p1 rx p2 r;refine SeqAt.in_listAt (Di X H a ts) pl.isList g1 ⟨.bl _,H,I,rfl,?_⟩;rw[g2];exact q
 ·obtain⟨its,r,pl,hz⟩:=I.tuple hq;obtain⟨g1,g2⟩:=lH I hu h1 h2 p1 rx p2 r;refine SeqAt.in_tupleAt (Di X H a ts) pl g1 ⟨.bl _,H,I,rfl,?_⟩;rw[g2];exact q
theorem BN (hu:X.A.units+64<cLine):lc X (compareOp .NotIn) (JZ X.K true):=by
 intro pins s σ H x y v u Q I rx ry h;obtain⟨a,p,xs,ts,h1,h2,p1,rfl,hq,p2,q⟩:=h
 cases ry
 rcases hq with hq|hq
 ·obtain⟨its,r,pl,hz⟩:=I.list hq;obtain⟨g1,g2⟩:=lH I hu h1 h2 p1 rx p2 r;refine SeqAt.notIn_listAt (Di X H a ts) pl.isList g1 ⟨.bl _,H,I,rfl,?_⟩;rw[g2];exact q
 ·obtain⟨its,r,pl,hz⟩:=I.tuple hq;obtain⟨g1,g2⟩:=lH I hu h1 h2 p1 rx p2 r;refine SeqAt.notIn_tupleAt (Di X H a ts) pl g1 ⟨.bl _,H,I,rfl,?_⟩;rw[g2];exact q
theorem Nb {K:Frg}:He K (JZ K false) PK:=fun F H s1 s2 v1 v2 R Q sb fu p1 p2 h k=>by
 have t2:=p2.tree sb;unfold PK at h
 split at h
 ·rename_i ts e;rw[e]at t2;unfold aA at t2;obtain⟨p,xs,q1,q2,q3⟩:=t2;exact⟨tr s1,p,xs,ts,h.1,h.2.1,p1.tree sb,q1,.inl q2,q3,k _ F H (.t (.bl _)) (dj.refl sb fu) rfl h.2.2⟩
 ·rename_i ts e;rw[e]at t2;unfold aA at t2;obtain⟨p,xs,q1,q2,q3⟩:=t2;exact⟨tr s1,p,xs,ts,h.1,h.2.1,p1.tree sb,q1,.inr q2,q3,k _ F H (.t (.bl _)) (dj.refl sb fu) rfl h.2.2⟩
 ·exact h.elim
theorem BM {K:Frg}:He K (JZ K true) kH:=fun F H s1 s2 v1 v2 R Q sb fu p1 p2 h k=>by
 have t2:=p2.tree sb;unfold kH at h
 split at h
 ·rename_i ts e;rw[e]at t2;unfold aA at t2;obtain⟨p,xs,q1,q2,q3⟩:=t2;exact⟨tr s1,p,xs,ts,h.1,h.2.1,p1.tree sb,q1,.inl q2,q3,k _ F H (.t (.bl _)) (dj.refl sb fu) rfl h.2.2⟩
 ·rename_i ts e;rw[e]at t2;unfold aA at t2;obtain⟨p,xs,q1,q2,q3⟩:=t2;exact⟨tr s1,p,xs,ts,h.1,h.2.1,p1.tree sb,q1,.inr q2,q3,k _ F H (.t (.bl _)) (dj.refl sb fu) rfl h.2.2⟩
 ·exact h.elim
variable {a b:Expr}{wa wb:WE}{pos:Pos}
theorem Ps {k:Nat}(hr:bX k X.A)(ha:PE X a (av X.K wa))(hb:PE X b (av X.K wb)):PE X (.Compare a [.Eq] [b] pos) (av X.K (rK wa wb)):=(uT (Ge hr.units) ha hb (gF _)).imp (cz Gd)
theorem dX {k:Nat}(hr:bX k X.A)(ha:PE X a (av X.K wa))(hb:PE X b (av X.K wb)):PT X (.Compare a [.Eq] [b] pos) (liftT X.K (wB (rK wa wb))):=kG (Ge hr.units) Gd ha hb (gF _)
theorem rY {k:Nat}(hr:bX k X.A)(ha:PE X a (av X.K wa))(hb:PE X b (av X.K wb)):PT X (.Compare a [.NotEq] [b] pos) (liftT X.K (wB (Oj wa wb))):=kG (Ni hr.units) Nd ha hb (gF _)
theorem Pu {k:Nat}(hr:bX k X.A)(ha:PE X a (av X.K wa))(hb:PE X b (av X.K wb))(hm:behindInMarks .In b=false:=by rfl):PE X (.Compare a [.In] [b] pos) (av X.K (Sa wa wb)):=(uT (Ng hr.units) ha hb hm).imp (cz Nb)
theorem vQ {k:Nat}(hr:bX k X.A)(ha:PE X a (av X.K wa))(hb:PE X b (av X.K wb))(hm:behindInMarks .NotIn b=false:=by rfl):PT X (.Compare a [.NotIn] [b] pos) (liftT X.K (wB (yL wa wb))):=kG (BN hr.units) BM ha hb hm
theorem Ew {K:Frg}{H:Hp}{t:T}{v:V}(h:aA K H t v):decide (v=.non)=KL t:=by
 cases t <;> first
  | (cases h;rfl)
  | (unfold aA at h;obtain⟨_,_,rfl,_⟩:=h;rfl)
  | (unfold aA at h;obtain⟨_,rfl,_⟩:=h;rfl)
theorem EH {K:Frg}:∀ σ H Q,av K (G9 wa) σ H Q->N5 (fun x y H Q=>y=.non/\Q (.bl (decide (x=.non))) H) (av K wa) (av K (wC .non)) σ H Q:=by
 rintro σ H Q ⟨δ,R,F,rl,h,k⟩;refine⟨δ,_,F,rl,h,fun v1 F1 H1 s1 e1 p1 h1=>?_⟩;refine⟨δ,fun s=>s=.t .non,F1,rl.ext e1,rfl,fun v2 F2 H2 s2 e2 p2 h2=>?_⟩;subst h2;refine⟨p2,k _ F2 H2 (.t (.bl (KL (tr s1)))) (e1.trans e2) ?_ h1⟩;show _=_;rw[Ew (((p1.ext e2).val e2.sub).tree e2.sub)]
theorem Bs {K:Frg}:∀ σ H Q,av K (tf wa) σ H Q->N5 (fun x y H Q=>y=.non/\Q (.bl (!decide (x=.non))) H) (av K wa) (av K (wC .non)) σ H Q:=by
 rintro σ H Q ⟨δ,R,F,rl,h,k⟩;refine⟨δ,_,F,rl,h,fun v1 F1 H1 s1 e1 p1 h1=>?_⟩;refine⟨δ,fun s=>s=.t .non,F1,rl.ext e1,rfl,fun v2 F2 H2 s2 e2 p2 h2=>?_⟩;subst h2;refine⟨p2,k _ F2 H2 (.t (.bl (!KL (tr s1)))) (e1.trans e2) ?_ h1⟩;show _=_;rw[Ew (((p1.ext e2).val e2.sub).tree e2.sub)]
theorem Df {j:Nat}{p:Pos}(ha:PE X a (av X.K wa)):PT X (.Compare a [.Is] [.Constant .none j p] pos) (liftT X.K (wB (G9 wa))):=
 (uV Nh ha tW (gF _)).imp fun σ H Q ⟨δ,R,F,rl,h,k⟩=>by
  refine EH σ H _ ⟨δ,_,F,rl,h,fun v F1 H1 s e p q=>?_⟩
  split at q
  ·exact⟨_,p,k F1 H1 _ e q⟩
  ·exact q.elim
theorem tZ {j:Nat}{p:Pos}(ha:PE X a (av X.K wa)):PT X (.Compare a [.IsNot] [.Constant .none j p] pos) (liftT X.K (wB (tf wa))):=
 (uV Jw ha tW (gF _)).imp fun σ H Q ⟨δ,R,F,rl,h,k⟩=>by
  refine Bs σ H _ ⟨δ,_,F,rl,h,fun v F1 H1 s e p q=>?_⟩
  split at q
  ·exact⟨_,p,k F1 H1 _ e q⟩
  ·exact q.elim
end
inductive Ty where
 | non|bool|int|str|tup|lst|exc
def Ty.nm:Ty->String
 | .non=>"NoneType" | .bool=>"bool" | .int=>"int" | .str=>"str" | .tup=>"tuple" | .lst=>"list" | .exc=>""
def Sx:T->Ty
 | .non=>.non
 | .bl _=>.bool
 | .int _=>.int
 | .str _=>.str
 | .tup _=>.tup
 | .lst _=>.lst
 | .exc _=>.exc
def Cb (s:S):Ty:=Sx (tr s)
def cu:Ty->Ty->Bool
 | .non,.non=>true
 | .bool,.bool=>true
 | .bool,.int=>true
 | .int,.int=>true
 | .str,.str=>true
 | .tup,.tup=>true
 | .lst,.lst=>true
 | _,_=>false
def SA (ty:Ty)(we:WE):WE:=fun δ R=>we δ fun s=>Cb s≠.exc/\R (.t (.bl (cu (Cb s) ty)))
section
variable {X:Cx}
variable {e:Expr}{we:WE}{pos p p2:Pos}
end
theorem Ex {K:Frg}{F:Hp}{a:Addr}{xs:List V}{ts:List T}(h:k8 K F a xs)(r:au K F ts xs):Hl K F (Q6 K a) ts:=by
 intro F1 H1 i f1 sb fu;have q:k8 K H1 a xs:=Same.sqT sb _ _ (Same.sqT f1 _ _ h);refine⟨fun t ht=>?_,fun hl=>⟨xs,q,by rw[r.length];exact hl⟩⟩
 obtain⟨x,h1,h2⟩:=r.get ht;refine⟨⟨xs,x,q,h1⟩,fun y H2 hy=>?_⟩;obtain⟨e,hy⟩:=hy;subst e;have:=hy xs q;rw[h1]at this
 cases this
 exact⟨F1,dj.refl sb fu,aA.same f1 h2⟩
def bT (lo:Int)(n:Nat):List T:=(List.range n).map fun (k:Nat)=>.int (lo+(k:Int))
theorem MI {K:Frg}{F:Hp}(lo:Int)(n:Nat):Hl K F (QP lo n) (bT lo n):=by
 intro F1 H1 i f1 sb fu;refine⟨fun t ht=>?_,fun hl=>(by simpa [bT] using hl:n<=i)⟩
 unfold bT at ht;rw[getElem?_map]at ht
 cases e:(List.range n)[i]? with
 | none=>rw[e]at ht;cases ht
 | some k=>
  rw[e]at ht;have hk:k=i/\i<n:=by
   rw[List.getElem?_eq_some_iff]at e;obtain⟨h1,h2⟩:=e;simp at h1 h2;exact⟨h2.symm,h1⟩
  obtain⟨rfl,hn⟩:=hk;have et:t=.int (lo+k):=by simpa using ht.symm
  refine⟨hn,fun x H2 hy=>?_⟩;obtain⟨e1,e2⟩:=hy;subst e1;subst e2;exact⟨F1,dj.refl sb fu,by rw[et];rfl⟩
def QC (δ:aR)(W:List T->aR->Prop):S->Prop
 | .t (.tup ts)=>W ts δ
 | .vt (.tup ts)=>W ts (freeze δ)
 | _=>False
def Hd (we:WE):WI:=fun δ W=>we δ fun s=>QC δ W s
def kc (i:Int):Prop:=-(2 ^ 62)<=i/\i<2 ^ 62
def fV (wa:WA):WI:=fun δ W=>wa δ fun ss=>match ss with
 | [.t (.int j)]=>kc j/\W (bT 0 j.toNat) δ
 | _=>False
def Ol (wa:WA):WI:=fun δ W=>wa δ fun ss=>match ss with
 | [.t (.int i),.t (.int j)]=>kc i/\kc j/\W (bT i (j-i).toNat) δ
 | _=>False
section
variable {X:Cx}{e e2 tg:Expr}{we:WE}{wa:WA}{p pos:Pos}
theorem bJ (he:PE X e (av X.K we)):PI X tg e (pZ X.K (bW we)):=
 (JC he).imp fun σ H R ⟨δ,W,F,rl,h,k⟩=>⟨δ,_,F,rl,h,fun v F1 H1 s ex p q=>by
  unfold sF at q
  split at q
  ·unfold dI aA at p;obtain⟨a,xs,rfl,h1,h2⟩:=p;exact⟨a,rfl,⟨xs,ex.sub.seq h1⟩,k _ F1 F1 H1 _ δ ex (Same.refl _) (rl.ext ex) (uF h1 h2) q⟩
  ·unfold dI aA at p;obtain⟨a,xs,rfl,h1,h2⟩:=p;exact⟨a,rfl,⟨xs,h1⟩,k _ F1 H1 H1 _ (freeze δ) ex ex.sub (rl.ext ex).freeze (uF h1 h2) q⟩
  ·obtain⟨rl2,sm,a,xs,rfl,g1,g2⟩:=rl.thaw ex p;exact⟨a,rfl,⟨xs,rl2.sub.seq g1⟩,k _ _ _ H1 _ δ (ex.frozen rl.sub).1 (Same.refl _) rl2 (uF g1 g2) q⟩
  ·exact q.elim⟩
theorem Mg (he:PE X e (av X.K we)):PI X tg e (pZ X.K (Hd we)):=
 (NC he).imp fun σ H R ⟨δ,W,F,rl,h,k⟩=>⟨δ,_,F,rl,h,fun v F1 H1 s ex p q=>by
  unfold QC at q
  split at q
  ·unfold dI aA at p;obtain⟨a,xs,rfl,h1,h2⟩:=p;exact⟨a,rfl,⟨xs,Same.sqT ex.sub _ _ h1⟩,k _ F1 F1 H1 _ δ ex (Same.refl _) (rl.ext ex) (Ex h1 h2) q⟩
  ·unfold dI aA at p;obtain⟨a,xs,rfl,h1,h2⟩:=p;exact⟨a,rfl,⟨xs,h1⟩,k _ F1 H1 H1 _ (freeze δ) ex ex.sub (rl.ext ex).freeze (Ex h1 h2) q⟩
  ·exact q.elim⟩
theorem cR (hm:X.mg "range"=none) (ha:PA X [e] (dA X.K wa)) (hg:Gl X "range":=by rfl) (hs:starEach [e] X.env=[(false,eval e X.env)]:=by rfl):PI X tg (.Call (.Name "range" p) [e] [] pos) (pZ X.K (fV wa)):=
 (BQ hg hm ha hs).imp fun σ H R ⟨δ,W,F,rl,h,k⟩=>⟨δ,_,F,rl,h,fun vs F1 H1 ss ex p q=>by
  split at q
  ·obtain⟨v,r,rfl,p1,p2⟩:=p
   cases (show r=[] from p2)
   cases (show v=_ from p1)
   obtain⟨⟨q1,q2⟩,q3⟩:=q;exact⟨_,rfl,q1,q2,k _ F1 F1 H1 _ δ ex (Same.refl _) (rl.ext ex) (MI 0 _) q3⟩
  ·exact q.elim⟩
end
end DL
namespace L2
open PySem PySem.Spec PyProof.Rows
theorem kD {env:Env}:∀ (names:List (Str × NameKind)) (cs:List (Str × Addr)),(∀ y∈names,y.2=.free->∃ c,env.cells.lookup y.1=some c)->(∀ x c,cs.lookup x=some c->env.cells.lookup x=some c) →
  ∃ cl:List (Str × Addr),(forIn names cs (fun (y:Str × NameKind) (r:List (Str × Addr))=>(if (y.2 == NameKind.free)=true then (cellOf env y.1 >>= fun a=>pure (ForInStep.yield ((y.1,a)::r))) else pure (ForInStep.yield r):Sem (ForInStep (List (Str × Addr))))))=(pure cl:Sem (List (Str × Addr))) ∧
   (∀ x c,cl.lookup x=some c->env.cells.lookup x=some c)/\(∀ x,(cs.lookup x).isSome=true->(cl.lookup x).isSome=true)/\∀ y∈names,y.2=.free->(cl.lookup y.1).isSome=true
 | [],cs,_,hc=>⟨cs,by rw[List.forIn_nil],hc,fun _ h=>h,fun y hy=>by cases hy⟩
 | (n,k)::r,cs,h,hc=>by
  by_cases hk:(k == NameKind.free)=true
  ·have hk':k=.free:=by simpa using hk
   obtain⟨a,ha⟩:=h (n,k) mem_cons_self hk';obtain⟨cl,h1,h2,h3,h4⟩:=kD (env:=env) r ((n,a)::cs) (fun y hy=>h y (mem_cons_of_mem _ hy)) (fun x c e=>by
    rw[lookup_cons]at e
    split at e
    ·rename_i z;have:x=n:=by simpa using z
     subst this
     cases e
     exact ha
    ·exact hc x c e)
   have up:∀ x,(cs.lookup x).isSome=true->(((n,a)::cs).lookup x).isSome=true:=fun x z=>by
    rw[lookup_cons]
    split
    ·rfl
    ·exact z
   refine⟨cl,?_,h2,fun x z=>h3 x (up x z),fun y hy hf=>?_⟩
   ·rw[List.forIn_cons];simp only[hk,if_true];have:cellOf env n=pure a:=by unfold cellOf;rw[ha]
    rw[this];exact h1
   ·rcases mem_cons.mp hy with e|e
    ·subst e;exact h3 n (by rw[lookup_cons];simp)
    ·exact h4 y e hf
  ·obtain⟨cl,h1,h2,h3,h4⟩:=kD (env:=env) r cs (fun y hy=>h y (mem_cons_of_mem _ hy)) hc;refine⟨cl,?_,h2,h3,fun y hy hf=>?_⟩
   ·rw[List.forIn_cons];simp only[hk,if_false];exact h1
   ·rcases mem_cons.mp hy with e|e
    ·subst e;exact absurd (by simpa using hf) hk
    ·exact h4 y e hf
theorem xB {scope:Scope}{env:Env}(h:∀ y∈scope.names,y.2=.free->∃ c,env.cells.lookup y.1=some c) :
  ∃ cl,closureFor scope env=pure cl/\(∀ x c,cl.lookup x=some c->env.cells.lookup x=some c)/\∀ y∈scope.names,y.2=.free->(cl.lookup y.1).isSome=true:=by
 obtain⟨cl,h1,h2,_,h4⟩:=kD (env:=env) scope.names [] h (fun x c e=>by cases e)
 refine⟨cl,?_,h2,h4⟩;unfold closureFor;exact(congrArg (fun z=>z >>= fun r=>pure r) h1)
structure i9 (N:List Str) (no:Nat) (fr:List Nat) (NX:List Str) (sc around:Scope):Prop where
 kind:sc.kind=.function
 nocell:∀ y∈sc.names,y.2≠.cell
 nd:N.Nodup
 len:N.length=no+fr.length
 loc:∀ y∈sc.names,y.2=.local->sc.names.lookup y.1=some .local
 free:∀ y∈sc.names,y.2=.free->around.names.lookup y.1=some .cell
 own:∀ (i:Nat) (x:Str),N[i]?=some x->i<no->sc.names.lookup x=some .local
 out:∀ (j i:Nat) (x:Str),fr[j]?=some i->N[no+j]?=some x->NX[i]?=some x/\sc.names.lookup x=some .free
def Hg (own:Nat)(fr:List Nat)(σ:St):St:=replicate own none++fr.map fun i=>(σ[i]?).join
def cW (X:Cx)(N:List Str)(scope:Scope)(cl:List (Str × Addr))(s:Shared)(H:Hp)(fp:List Addr):Cx:=
 {X with N:=N,s₀:=s,H₀:=H,env:=compEnvC scope cl s.heap.objs.size X.env,outer:=X.stack,ex:=fp,fn:=fun _=>false,pn:=[],xe:=fun _ _=>False}
theorem kM {env:Env}:∀ (names:List (Str × NameKind)) (x:Str),(names.map fun (n,k)=>if (k == NameKind.free && env.scope.kind == .function && env.kindOf n == some .cell) then (n,NameKind.cell) else (n,k)).lookup x =
  (names.lookup x).map fun k=>if (k == NameKind.free && env.scope.kind == .function && env.kindOf x == some .cell) then NameKind.cell else k
 | [],_=>rfl
 | (n,k)::r,x=>by
  rw[map_cons];show List.lookup x ((if (k == NameKind.free && env.scope.kind == .function && env.kindOf n == some .cell)=true then (n,NameKind.cell) else (n,k))::_)=_
  cases hx:x == n with
  | true=>
   have e:x=n:=by simpa using hx
   subst e
   by_cases hc:(k == NameKind.free && env.scope.kind == .function && env.kindOf x == some .cell)=true
   ·rw[if_pos hc];simp only[lookup_cons,hx];simp only[map_some,hc,if_true]
   ·rw[if_neg hc];simp only[lookup_cons,hx];simp only[map_some];rw[if_neg hc]
  | false=>
   by_cases hc:(k == NameKind.free && env.scope.kind == .function && env.kindOf n == some .cell)=true
   ·rw[if_pos hc];simp only[lookup_cons,hx];exact kM r x
   ·rw[if_neg hc];simp only[lookup_cons,hx];exact kM r x
theorem Gz {scope:Scope}{env:Env}(x:Str):(relabel scope env).names.lookup x=(scope.names.lookup x).map fun k=>if (k == NameKind.free && env.scope.kind == .function && env.kindOf x == some .cell) then NameKind.cell else k:=kM _ _
section
variable {X:Cx}{pins:List (Addr × Obj)}{σ:St}{H:Hp}{s:Shared}{N:List Str}{own:Nat}{fr:List Nat}{scope:Scope}{cl:List (Str × Addr)}{fp:List Addr}
theorem IG (S:i9 N own fr X.N scope X.env.scope)(I:aF X pins σ H s)(hcl:∀ x c,cl.lookup x=some c->X.env.cells.lookup x=some c)(hcf:∀ y∈scope.names,y.2=.free->(cl.lookup y.1).isSome=true)
  (hfp:∀ b∈fp,o4 X pins H b/\b<s.heap.objs.size) {h':Heap}{t:Nat}{m:Str->Option Value} (hns:h'.Ns s.heap.objs.size m) (hk:∀ b o,s.heap.get? b=some o->h'.get? b=some o) :
  aF (cW X N scope cl s H fp) [] (Hg own fr σ) H {s with heap:=h',toks:=t}:=by
 have kd:∀ x,(cW X N scope cl s H fp).env.kindOf x=(scope.names.lookup x).map fun k=>if (k == NameKind.free && X.env.scope.kind == .function && X.env.kindOf x == some .cell) then NameKind.cell else k:=fun x=>Gz x
 have memOf:∀ {l:List (Str × NameKind)}{x:Str}{k:NameKind},l.lookup x=some k->(x,k)∈l:=fun {l x k} e=>PySem.mem_of_lookup e;have isf:∀ x,((cW X N scope cl s H fp).env.kindOf x=some .cell\/(cW X N scope cl s H fp).env.kindOf x=some .free)->scope.names.lookup x=some .free:=fun x h=>by
  rw[kd]at h
  cases e:scope.names.lookup x with
  | none=>rw[e]at h;simp at h
  | some k=>
   rw[e]at h;simp only[map_some,Option.some.injEq]at h
   by_cases hc:(k == NameKind.free && X.env.scope.kind == .function && X.env.kindOf x == some .cell)=true
   ·have:k=.free:=by
     rw[Bool.and_eq_true,Bool.and_eq_true]at hc;simpa using hc.1.1
    rw[this]
   ·rw[if_neg hc]at h
    rcases h with h|h
    ·exact absurd h (S.nocell _ (memOf e))
    ·rw[h]
 have cellX:∀ x c,cl.lookup x=some c->∃ v,s.heap.IsCell c v:=fun x c e=>I.cell x c (hcl x c e);have cellLt:∀ x c,cl.lookup x=some c->c<s.heap.objs.size:=fun x c e=>let ⟨v,q⟩:=cellX x c e;q.lt;refine⟨⟨I.ok.mod,S.kind,I.ok.glob,I.ok.blt,le_refl _,fun x y c h1 h2=>I.ok.inj x y c (hcl x c h1) (hcl y c h2),fun x hx=>?_,(fun x c h=>by cases h),I.ok.hd,I.ok.frames,.inl rfl,fun b hb=>⟨ne_of_lt (hfp b hb).2,fun x c e=>(hfp b hb).1.2.2.2.2.1 x c (hcl x c e)⟩,
   I.bs,le_trans I.ok.bsz I.sz,fun b o e hb=>?_,fun b hb z=>?_,I.stack,I.stkFree⟩,rfl,I.bare,Un.kept hk,⟨m,hns,fun i x v e1 e2 e3=>?_⟩,fun x c e=>?_,I.hok.fresh (le_refl _),fun x c e=>I.freeC x c (hcl x c e),fun p hp=>absurd (show p∈([]:List (Addr × Obj)) from hp) (by simp),I.hok.kept hk,?_⟩
 ·have:=hcf _ (memOf (isf x hx)) rfl;exact isSome_iff_exists.mp this
 ·rcases(hfp b hb).1.2.2.2.1 with z|z
  ·exact I.ok.noex b o e z
  ·exact absurd (lt_of_lt_of_le (Heap.lt_size e) (le_trans I.ok.bsz z)) (lt_irrefl _)
 ·rcases mem_cons.mp (I.stkSub b z) with q|q
  ·exact(hfp b hb).1.2.1 q
  ·exact(hfp b hb).1.2.2.1 q
 ·
  have e2':(replicate own none++fr.map fun i=>(σ[i]?).join)[i]?=some (some v):=e2;have hi:own<=i:=by
   by_cases hi:i<own
   ·rw[getElem?_append_left (by simpa using hi),getElem?_replicate,if_pos hi]at e2'
    cases e2'
   ·omega
  rw[getElem?_append_right (by simpa using hi),length_replicate,getElem?_map]at e2'
  cases ef:fr[i-own]? with
  | none=>rw[ef]at e2';cases e2'
  | some k=>
   rw[ef]at e2';have ev:(σ[k]?).join=some v:=by simpa using e2'
   have ev':σ[k]?=some (some v):=by
    cases q:σ[k]? with
    | none=>rw[q]at ev;cases ev
    | some o=>rw[q]at ev;simpa using ev
   have eN:N[own+(i-own)]?=some x:=by
    rw[show own+(i-own)=i by omega];exact e1
   obtain⟨q1,q2⟩:=S.out (i-own) k x ef eN;have q3:X.env.scope.names.lookup x=some .cell:=S.free (x,.free) (memOf q2) rfl;obtain⟨mX,_,hl⟩:=I.loc;obtain⟨u,r,l⟩:=hl k x v q1 ev' (.inr (.inl q3));refine⟨u,r,?_⟩
   rcases l with ⟨l1,_⟩|⟨_,c,l2,l3⟩
   ·have:X.env.scope.names.lookup x=some .local:=l1;rw[q3]at this;cases this
   ·have hkd:(cW X N scope cl s H fp).env.kindOf x=some .cell:=by
     rw[kd,q2];simp only[map_some];have e1:X.env.scope.kind=.function:=I.ok.kind;have e2:X.env.kindOf x=some .cell:=q3;rw[e1,e2]
     rfl
    have hc:=isSome_iff_exists.mp (hcf (x,.free) (memOf q2) rfl);obtain⟨c',hc'⟩:=hc;have:c'=c:=by
     have:=hcl x c' hc';rw[l2]at this;exact(Option.some.inj this).symm
    subst this;exact .inr ⟨.inl hkd,c',hc',l3.keeps hk⟩
 ·obtain⟨v,q⟩:=cellX x c e;exact⟨v,q.keeps hk⟩
 ·show(Hg own fr σ).length=N.length;unfold Hg;rw[List.length_append,length_replicate,length_map,S.len]
end
abbrev Kv:Value->Shared->Prop:=fun _ _=>False
section
variable {P:Program}{w:World}{A:Around}{R:Result->Shared->Prop}
def QZ (ifs:List Expr)(env:Env):Sem Bool:=
 forIn ifs true fun c r=>if r=true then do
                        let ok ← isTrue c env (eval c env)
                        pure (ForInStep.yield ok) else pure (ForInStep.yield r)
theorem N7 {env:Env}{s:Shared}{E:Value->Shared->Prop}{Q:Bool->Shared->Prop}(h:Q true s):wpAny (model P w) A (QZ [] env) Q E s:=wpAny_tests_nil h
theorem N8 {env:Env}{c:Expr}{s:Shared}{E:Value->Shared->Prop}{Q:Bool->Shared->Prop}(h:wpAny (model P w) A (isTrue c env (eval c env)) Q E s):wpAny (model P w) A (QZ [c] env) Q E s:=wpAny_tests_one h
theorem xy {elt tg iter:Expr}{ifs:List Expr}{sc:Scope}{pos:Pos}{it acc:Value}{env:Env}{s:Shared}(J:Nat->Shared->Prop)
  (go:∀ n s,J n s->wpAny (model P w) A (pyNext it) (fun r s1=>match r with
   | none=>R (.ok .next) s1
   | some v=>wpAny (model P w) A (letOwnedTupleGo tg it v) (fun _ s2=>wpAny (model P w) A (assign tg env v) (fun _ s3=>wpAny (model P w) A (QZ ifs env) (fun ok s4=>
     if ok=true then wpAny (model P w) A (eval elt env) (fun x s5=>wpAny (model P w) A (call (.builtin "list.append") [acc,x]) (fun _ s6=>∃ m,m<n/\J m s6) Kv s5) Kv s4
     else ∃ m,m<n/\J m s4) Kv s3) Kv s2) Kv s1) Kv s)
  (n:Nat) (h:J n s):codeAny (model P w) A (.compLoop (.ListComp elt [⟨tg,iter,ifs,0⟩] sc pos) 0 it acc env) R s:=by
 have ex:∀ {α:Type}{t:Sem α}{Q:α->Shared->Prop}{s:Shared}{E:Value->Shared->Prop},wpAny (model P w) A t Q Kv s->wpAny (model P w) A t Q E s:=fun hh=>wpAny_mono hh (fun _ _ q=>q) fun _ _ z=>z.elim;refine codeAny_loop rfl J (fun n s hJ=>?_) n h;show wpAny _ _ ((compTurn _ 0 it acc env).onRaise (fun x=>do noteFrame x env;theTreesLotGoes x)) _ _ s
 refine wpAny_noted ?_;rw[compTurn_list];refine wpAny_bind (wpAny_standAt (wpAny_bind (cG (ex (go n s hJ)) fun r s1 h1=>?_)))
 cases r with
 | none=>exact wpAny_pure h1
 | some v=>
  refine wpAny_bind (cG (ex h1) fun _ s2 h2=>wpAny_bind (cG (ex h2) fun _ s3 h3=>?_));refine wpAny_bind (cG (ex h3) fun ok s4 h4=>?_)
  cases ok with
  | false=>exact wpAny_pure ⟨rfl,h4⟩
  | true=>
   exact wpAny_bind (wpAny_bind (cG (ex h4) fun x s5 h5=>wpAny_bind (cG (ex h5) fun _ s6 h6=>wpAny_pure (wpAny_pure ⟨rfl,h6⟩))))
end
def Ax (own:Nat)(fr:List Nat)(wi:TI)(g:TG)(tc:TT)(te:TE):TE:=fun σ H Q=>wi σ H fun J H1=>∀ D,H1 D=none->∃ W:Nat->Nat->St->Hp->Prop,(∃ m,W 0 m (Hg own fr σ) (cO H1 D (.lst [])))/\∀ i m σ' H',W i m σ' H' →
 (J.stop i H'/\Q (.ref D) H')\/(J.go i H'/\∀ x H2,J.yld i H' x H2->g x σ' H2 fun σ2 H3=>tc σ2 H3 fun ok H4=>
  if ok=true then te σ2 H4 fun v H5=>∃ xs,H5 D=some (.lst xs)/\xs.length<sizeLine/\∃ m',m'<m/\W (i+1) m' σ2 (cO H5 D (.lst (xs++[v])))
  else ∃ m',m'<m/\W (i+1) m' σ2 H4)
def Hn (Y:Cx)(ifs:List Expr)(t:TT):Prop:=
 ∀ (pins:List (Addr × Obj)) (s:Shared) (σ:St) (H:Hp) (Q:Bool->Hp->Prop),aF Y pins σ H s->t σ H Q->wpAny (model Y.prog Y.w) Y.A (QZ ifs Y.env) (TP Y pins σ Q) Y.xe s
theorem JK {Y:Cx}:Hn Y [] (fun σ H Q=>Q true H):=fun _ _ σ H _ I h=>N7 ⟨H,I,h⟩
theorem JL {Y:Cx}{c:Expr}{t:TT}(h:PT Y c t):Hn Y [c] t:=fun pins s σ H Q I q=>N8 (h pins s σ H Q I q)
section
variable {X:Cx}{N:List Str}{own:Nat}{fr:List Nat}{scope:Scope}{elt tg iter:Expr}{ifs:List Expr}{pos:Pos}{wi:TI}{g:TG}{tc:TT}{te:TE}
theorem Turn.fpLt {P:Program}{w:World}{K:Frg}{J:It}{fp:List Addr}{it:Addr}{tn:Nat->Heap->Prop}(T:Turn P w K tg J fp it tn){i:Nat}{h:Heap}(st:tn i h):∀ b∈fp,b<h.objs.size:=fun b hb=>by
 obtain⟨o,e,_⟩:=T.obj i h st b hb;exact Heap.lt_size e
def CompEnd (X:Cx)(pins:List (Addr × Obj))(σ:St)(Q:VK)(use:Option (Value->Sem Unit))(QQ:Value->Shared->Prop):Prop:=
 ∀ (D C:Addr) (H':Hp) (s5:Shared) (m5:Str->Option Value),(∀ h6,Heap.SameBut C s5.heap h6->aF X pins σ H' {s5 with heap:=h6})->s5.heap.Ns C m5->H' C=none->X.s₀.heap.objs.size<=C->X.env.locals≠C->(∀ x c,X.env.cells.lookup x=some c->c≠C)->(∀ p∈X.pn++pins,p.1≠C)->Q (.ref D) H' →
  compPost (model X.prog X.w) X.A X.xe use QQ (.ref D) C (.ok .next) s5
theorem rW {use:Option (Value->Sem Unit)}{QQ:Value->Shared->Prop}{ps:Pos}(S:i9 N own fr X.N scope X.env.scope)(hc:X.calm=true)(hi:PI X tg iter wi)
  (hg:∀ cl s H fp,PG (cW X N scope cl s H fp) tg g) (ht:∀ cl s H fp,Hn (cW X N scope cl s H fp) ifs tc) (he:∀ cl s H fp,PE (cW X N scope cl s H fp) elt te)
  (hs:∀ x,foldedSetIterable iter X.env x=pure x) {pins:List (Addr × Obj)}{s:Shared}{σ:St}{H:Hp}{Q:VK} (I:aF X pins σ H s) (h:Ax own fr wi g tc te σ H Q) (finish:CompEnd X pins σ Q use QQ) :
  wpAny (model X.prog X.w) X.A (comprehension (.ListComp elt [⟨tg,iter,ifs,0⟩] scope pos) scope X.env ps (newList []) false (eval iter X.env) use) QQ X.xe s:=by
 obtain⟨cl,hclos,hcl,hcf⟩:=xB (scope:=scope) (env:=X.env) fun y hy hf=>I.ok.has y.1 (.inl (S.free y hy hf));refine wpAny_comprehension_free (use:=use) rfl hs hclos S.kind S.loc (cG (hi pins s σ H _ I h) fun v s1 h1=>cG h1 fun itv s2 h2=>?_);obtain⟨it,fp,tn,J,H2,e,I2,T,st2,f2,h2⟩:=h2;subst e;refine wpAny_newObj_type ?_ (zero_le _);have fr2:H2 s2.heap.objs.size=none:=I2.hok.fresh (le_refl _);obtain⟨W,⟨m0,w0⟩,turn⟩:=h2 s2.heap.objs.size fr2;have I3:aF X pins σ (cO H2 s2.heap.objs.size (.lst [])) {s2 with heap:=s2.heap.push {cls:=.type "list",data:=.seq ([]:List Value).toArray}}:=I2.lnew (t':=s2.toks) (its:=[]) .nil (zero_le _);have st3:tn 0 (s2.heap.push {cls:=.type "list",data:=.seq ([]:List Value).toArray}):=T.keep _ _ _ st2 fun b _ o e=>Heap.get?_push_of_some _ e;generalize hs3:({s2 with heap:=s2.heap.push {cls:=.type "list",data:=.seq ([]:List Value).toArray}}:Shared)=s3 at I3;have st3':tn 0 s3.heap:=by rw[<-hs3];exact st3
 have f3:∀ b∈fp,o4 X pins (cO H2 s2.heap.objs.size (.lst [])) b:=fun b hb=>by
  obtain⟨q0,q⟩:=f2 b hb;refine⟨?_,q⟩;rw[aW (ne_of_lt (T.fpLt st2 b hb))];exact q0
 refine wpAny_newFunctionEnv S.nocell (fun y hy=>by cases hy) (fun h4 hns4 hsb4=>?_) S.kind
 have hk4:∀ b o,s3.heap.get? b=some o->h4.get? b=some o:=fun b o e=>hsb4.extBut b o (ne_of_lt (Heap.lt_size e)) (Heap.get?_push_of_some _ e);have I4:aF (cW X N scope cl s3 (cO H2 s2.heap.objs.size (.lst [])) fp) [] (Hg own fr σ) (cO H2 s2.heap.objs.size (.lst [])) {s3 with heap:=h4,toks:=s3.toks+([]:List (Str × Value)).length}:=
  IG S I3 hcl hcf (fun b hb=>⟨f3 b hb,T.fpLt st3' b hb⟩) hns4 hk4
 have st4:tn 0 h4:=T.keep _ _ _ st3' fun b _ o e=>hk4 b o e;generalize hY:cW X N scope cl s3 (cO H2 s2.heap.objs.size (.lst [])) fp=Y at I4;have hg':=hg cl s3 (cO H2 s2.heap.objs.size (.lst [])) fp;have ht':=ht cl s3 (cO H2 s2.heap.objs.size (.lst [])) fp;have he':=he cl s3 (cO H2 s2.heap.objs.size (.lst [])) fp;rw[hY]at hg' ht' he';have yp:Y.prog=X.prog:=by rw[<-hY];rfl
 have yw:Y.w=X.w:=by rw[<-hY];rfl
 have yK:Y.K=X.K:=by rw[<-hY];rfl
 have yA:Y.A=X.A:=by rw[<-hY];rfl
 have yc:Y.calm=true:=by rw[<-hY];exact hc
 have yx:Y.xe=Kv:=by rw[<-hY];rfl
 have ye:Y.env=compEnvC scope cl s3.heap.objs.size X.env:=by rw[<-hY];rfl
 have fin:∀ {σ':St}{H':Hp}{s5:Shared},aF Y [] σ' H' s5->Q (.ref s2.heap.objs.size) H'->compPost (model X.prog X.w) X.A X.xe use QQ (.ref s2.heap.objs.size) s3.heap.objs.size (.ok .next) s5:=fun {σ' H' s5} I5 q=>by
  obtain⟨m5,hn5,_⟩:=I5.loc;have yl:Y.env.locals=s3.heap.objs.size:=by rw[ye];rfl
  rw[yl]at hn5;have un:=I5.base;have y1:Y.fs=Bk X.stack:=by rw[<-hY];rfl
  have y2:Y.ex=fp:=by rw[<-hY];rfl
  have y3:Y.H₀=cO H2 s2.heap.objs.size (.lst []):=by rw[<-hY];rfl
  have y4:Y.s₀=s3:=by rw[<-hY];rfl
  rw[y1,y2,y3,y4]at un;have free6:H' s3.heap.objs.size=none:=by rw[<-yl];exact I5.free
  refine finish s2.heap.objs.size s3.heap.objs.size H' s5 m5 (fun h6 hs6=>?_) hn5 free6 I3.sz (ne_of_lt I3.lt) (fun x c e=>?_) (fun p hp=>?_) q
  ·have k6:∀ b o,b≠s3.heap.objs.size->s5.heap.get? b=some o->h6.get? b=some o:=fun b o hb e=>hs6.extBut b o hb e;have old:∀ b o,s3.heap.get? b=some o->b≠s3.heap.objs.size:=fun b o e=>ne_of_lt (Heap.lt_size e);have un6:Un (Bk X.stack) fp (cO H2 s2.heap.objs.size (.lst [])) H' s3.heap h6:=
    ⟨fun b o e n hb hx=>k6 b o (old b o e) (un.keep b o e n hb hx),fun b o e n hb hx=>by obtain⟨sl,q⟩:=un.slot b o e n hb hx;exact⟨sl,k6 b _ (old b o e) q⟩,un.free,fun b o e hx=>by obtain⟨o',q⟩:=un.there b o e hx;exact⟨o',k6 b o' (old b o e) q⟩,un.tups,un.frzs,un.tbls⟩
   have hok6:ig X.prog X.w H' h6:=by
    have:=I5.hok;rw[yp,yw]at this;refine fun a o e=>(this a o e).stay (fun b u hb q=>k6 b u ?_ q) (fun _ z=>z) fun _ _ z=>z
    rcases hb with z|z
    ·subst z;intro z;rw[z,free6]at e;cases e
    ·intro y;rw[y,free6]at z;cases z
   obtain⟨hh,gg,dd,tt,os'⟩:=s5;have ho:os'=s3.os:=by have:=I5.os;rw[y4]at this;exact this
   subst ho;refine aF.call (s:=s3) I3 (h':=h6) (g':=gg) (d':=dd) (t':=tt) (ch:=fp) un6 hok6 I5.bare (fun b hb=>?_);obtain⟨_,q1,_,q3,q4,q5⟩:=f3 b hb;exact⟨q3,q1,q4,q5⟩
  ·obtain⟨v,oc,ho,_⟩:=I3.cell x c e;exact ne_of_lt (Heap.lt_size ho)
  ·obtain⟨e,_⟩:=I3.pin p hp;exact ne_of_lt (Heap.lt_size e)
 have loop:∀ s4:Shared,aF Y [] (Hg own fr σ) (cO H2 s2.heap.objs.size (.lst [])) s4->tn 0 s4.heap->codeAny (model X.prog X.w) X.A (.compLoop (.ListComp elt [⟨tg,iter,ifs,0⟩] scope pos) 0 (.ref it) (.ref s2.heap.objs.size) (compEnvC scope cl s3.heap.objs.size X.env))
   (compPost (model X.prog X.w) X.A X.xe use QQ (.ref s2.heap.objs.size) s3.heap.objs.size) s4:=by
  intro s4 I4 st4;have stat:∀ {H':Hp},(∀ b∈fp,H' b=none)->∀ b∈fp,o4 Y [] H' b:=fun {H'} hn b hb=>by
   obtain⟨_,q1,q2,q3,q4,q5⟩:=f3 b hb;refine⟨hn b hb,?_,?_,?_,fun x c e=>?_,fun p hp=>?_⟩
   ·rw[ye];exact ne_of_lt (T.fpLt st3' b hb)
   ·have:Y.fs=Bk X.stack:=by rw[<-hY];rfl
    rw[this];intro z
    rcases mem_cons.mp (I3.stkSub b z) with q|q
    ·exact q1 q
    ·exact q2 q
   ·left;rw[<-hY];exact hb
   ·rw[ye]at e;exact q4 x c (hcl x c e)
   ·rw[<-hY]at hp;cases hp
  refine xy (fun n s'=>∃ i σ' H',aF Y [] σ' H' s'/\tn i s'.heap/\(∀ b∈fp,H' b=none)/\W i n σ' H') ?_ m0 ⟨0,_,_,I4,st4,fun b hb=>(f3 b hb).1,w0⟩;rintro n s5 ⟨i,σ5,H5,I5,st5,fr5,w5⟩;rw[<-yp,<-yw,<-yA,<-ye,<-yx];have T':Turn Y.prog Y.w Y.K tg J fp it tn:=by rw[yp,yw,yK];exact T
  rcases turn i n σ5 H5 w5 with ⟨stop,qn⟩|⟨go,step⟩
  ·refine cG (T'.done Y rfl rfl rfl yc i [] s5 σ5 H5 Y.xe I5 (stat fr5) st5 stop) fun r s6 ⟨hr,I6⟩=>?_;subst hr;have q:=fin I6 qn;rw[<-yp,<-yw,<-yA]at q;exact q
  ·refine cG (T'.item Y rfl rfl rfl yc i [] s5 σ5 H5 Y.xe I5 (stat fr5) st5 go) fun r s6 ⟨u,hr,h6⟩=>?_;subst hr;refine cG h6 fun _ s7 ⟨x,H7,I7,r7,y7,st7,fr7⟩=>?_;have I7':=I7.pinned (stat fr7) (T.obj _ _ st7);have stay:∀ {σ8:St}{H8:Hp}{s8:Shared},aF Y ([]++qj fp s7.heap) σ8 H8 s8->tn (i+1) s8.heap/\∀ b∈fp,H8 b=none:=fun {σ8 H8 s8} I8=>by
    refine⟨T.keep _ _ _ st7 fun b hb o e=>(I8.pin (b,o) (mem_append_right _ (mem_append_right _ (iC hb e)))).1,fun b hb=>?_⟩;obtain⟨o,e,d⟩:=T.obj _ _ st7 b hb;exact(I8.pin (b,o) (mem_append_right _ (mem_append_right _ (iC hb e)))).2.1
   refine cG (hg' _ s7 σ5 H7 x u _ I7' r7 (step x H7 y7)) fun _ s8 ⟨σ8,H8,I8,q8⟩=>?_;refine cG (ht' _ s8 σ8 H8 _ I8 q8) fun ok s9 ⟨H9,I9,q9⟩=>?_
   cases ok with
   | false=>
    obtain⟨m',hm,w9⟩:=q9;obtain⟨t9,f9⟩:=stay I9;exact⟨m',hm,i+1,σ8,H9,I9.unpinned,t9,f9,w9⟩
   | true=>
    refine cG (he' _ s9 σ8 H9 _ I9 q9) fun y s10 ⟨v,H10,I10,r10,xs,hD,hz,m',hm,w10⟩=>?_;refine cG (sI (X:=Y) _ s10 σ8 H10 (.ref s2.heap.objs.size) [v] (.ref s2.heap.objs.size) [y] (fun _ H'=>H'=cO H10 s2.heap.objs.size (.lst (xs++[v]))) I10 rfl (.cons r10 .nil) ⟨_,xs,v,rfl,rfl,hD,hz,rfl⟩) fun _ s11 ⟨_,H11,I11,_,q11⟩=>?_;subst q11;obtain⟨t11,f11⟩:=stay I11;exact⟨m',hm,i+1,σ8,_,I11.unpinned,t11,f11,w10⟩
 have qP:codeAny (model X.prog X.w) X.A (.compLoop (.ListComp elt [⟨tg,iter,ifs,0⟩] scope pos) 0 (.ref it) (.ref s2.heap.objs.size) (compEnvC scope cl s3.heap.objs.size X.env)) (compPost (model X.prog X.w) X.A X.xe use QQ (.ref s2.heap.objs.size) s3.heap.objs.size) {s3 with heap:=h4,toks:=s3.toks+([]:List (Str × Value)).length}:=
  loop _ I4 st4
 exact codeAny_compStart_list qP (T.self X.A 0 _ _ _ st4 qP)
theorem Jz (S:i9 N own fr X.N scope X.env.scope)(hc:X.calm=true)(hi:PI X tg iter wi)
  (hg:∀ cl s H fp,PG (cW X N scope cl s H fp) tg g) (ht:∀ cl s H fp,Hn (cW X N scope cl s H fp) ifs tc) (he:∀ cl s H fp,PE (cW X N scope cl s H fp) elt te)
  (hs:∀ x,foldedSetIterable iter X.env x=pure x:=by intro _;rfl):PE X (.ListComp elt [⟨tg,iter,ifs,0⟩] scope pos) (Ax own fr wi g tc te):=by
 intro pins s σ H Q I h;rw[eval_ListComp];exact rW S hc hi hg ht he hs I h fun D C H' s5 m5 hI hn _ _ _ _ _ q=>⟨m5,hn,fun h6 hs6=>⟨.ref D,H',hI h6 hs6,rfl,q⟩⟩
theorem JG {i:Nat}{x:Str}{pos1 pos':Pos}(hN:X.N.Nodup)(hi':X.N[i]?=some x)(hx:Loc X.env.scope x)(S:i9 N own fr X.N scope X.env.scope)(hc:X.calm=true)(hi:PI X tg iter wi)
  (hg:∀ cl s H fp,PG (cW X N scope cl s H fp) tg g) (ht:∀ cl s H fp,Hn (cW X N scope cl s H fp) ifs tc) (he:∀ cl s H fp,PE (cW X N scope cl s H fp) elt te)
  (hs:∀ x,foldedSetIterable iter X.env x=pure x:=by intro _;rfl) (hw:swapsWith (.ListComp elt [⟨tg,iter,ifs,0⟩] scope pos) (some (.Name x pos')) pos1.line X.env=pure true:=by rfl) (hf:X.fn x=true\/X.env.scope.names.lookup x=some .local:=by first|exact .inl rfl|exact .inr rfl|assumption) :
  PS X (.Assign [.Name x pos'] (.ListComp elt [⟨tg,iter,ifs,0⟩] scope pos) pos1) (N3 (Ax own fr wi g tc te) (Eg i)):=by
 intro pins s σ H D I h;rw[exec_Assign_Name_used x pos' _ pos1 hw];refine wpAny_bind (wpAny_standAt (wpAny_bind ?_));rw[arm_evalThenUse_ListComp];refine wpAny_bind (cG (rW (use:=some (assign (.Name x pos') X.env)) (QQ:=fun _ s'=>SP X pins D .next s') S hc hi hg ht he hs I h fun D' C H' s5 m5 hI hn hfree hsz hL hcs hps q=>?_) fun _ s' h=>wpAny_pure (wpAny_pure h));show wpAny _ _ (assign (.Name x pos') X.env (.ref D')) _ _ s5;refine wpAny_assign_Name (sW (hI s5.heap (.refl ..)) hN hi' hx (show RelV (.ref D') (.ref D') from rfl) (fun s6 I6 ⟨a,hsb,ha⟩=>?_) hf);have nC:a≠C:=by
  rcases ha with z|z
  ·rw[z];exact hL
  ·exact hcs x a z
 refine⟨m5,hn.sameBut hsb (Ne.symm nC),fun h6 hs6=>?_⟩;exact⟨_,H',I6.turned (t':=s6.toks) (it:=C) (fun b o hb e=>hs6.extBut b o hb e) hfree (Ne.symm hL) (.inr hsz) hcs hps,q⟩
end
end L2
namespace DL
open PySem L2
theorem Rel.mutate {K:Frg}{F H:Hp}{σ:St}{δ:aR}{i:Nat}{ts us:List T}{a:Addr}{ys:List V}(r:Rel K F H σ δ)(hi:δ[i]?=some (some (.ol ts)))(ha:σ[i]?=some (some (.ref a)))(hF:F a=none)(hH:∃ xs,H a=some (.lst xs))(hy:au K F us ys) :
  Rel K F (cO H a (.lst ys)) σ (δ.set i (some (.ol us))):=by
 obtain⟨xs,hH⟩:=hH;have ne:∀ b o,F b=some o->b≠a:=fun b o e z=>by rw[z,hF]at e;cases e
 have lt:i<δ.length:=by
  rw[List.getElem?_eq_some_iff]at hi;exact hi.1
 refine⟨⟨fun b o e n=>by rw[aW (ne b o e)];exact r.sub.all _ _ e n,fun b ps e=>by rw[aW (ne b _ e)];exact r.sub.tbl _ _ e⟩,fun b o e n=>?_,by rw[length_set];exact r.len,fun j s hj=>?_,fun j l b ts1 ts2 hn h1 h2 h3=>?_,wV r.tab hH⟩
 ·unfold cO at e
  split at e
  ·cases e;exact .inr ⟨ys,rfl⟩
  ·exact r.full _ _ e n
 ·by_cases z:i=j
  ·subst z;rw[getElem?_set_self lt]at hj
   cases hj
   exact⟨_,ha,a,ys,rfl,hF,aZ,hy⟩
  ·rw[getElem?_set_ne z]at hj;obtain⟨v,q1,q2⟩:=r.slot j s hj;refine⟨v,q1,?_⟩
   cases s with
   | t x=>exact q2
   | vt zs=>exact q2
   | ol zs=>
    obtain⟨b,bs,e1,e2,e3,e4⟩:=q2;have nb:b≠a:=fun y=>by
     subst y;subst e1;exact r.dist i j b ts zs z hi hj ha q1
    exact⟨b,bs,e1,e2,by rw[aW nb];exact e3,e4⟩
 ·have own:∀ (j:Nat) (ts1:List T),(δ.set i (some (.ol us)))[j]?=some (some (.ol ts1))->∃ ts0:List T,δ[j]?=some (some (.ol ts0)):=fun j ts1 h=>by
   by_cases z:i=j
   ·subst z;exact⟨ts,hi⟩
   ·rw[getElem?_set_ne z]at h;exact⟨ts1,h⟩
  obtain⟨t1,g1⟩:=own j ts1 h1;obtain⟨t2,g2⟩:=own l ts2 h2;exact r.dist j l b t1 t2 hn g1 g2 h3
section
variable {X:Cx}{e:Expr}{we wv:WE}{pos:Pos}{H₀:Hp}{i:Nat}{x:Str}{p1 p2:Pos}
theorem ot {n:Nat}(h:n<100000):n<sizeLine:=lt_trans h (by decide)
theorem fF (he:PE X e (av X.K we)) (hv:PE X (.Name x p1) (wU i):=by exact pv _) (hbase:attributeBase (.Name x p1) "append" X.env (eval (.Name x p1) X.env)=eval (.Name x p1) X.env:=by rfl)
  (hfew:((backTo pos (starEach [e] X.env)).all (fun x=>!x.1) && (backToKw pos (keywordEach [] X.env)).all (fun x=>x.1.isSome) && decide ([e].length+([]:List Keyword).length+(if ([]:List Keyword).isEmpty then 0 else 1)<30))=true:=by rfl)
  (hline:(p2.endLine == pos.line)=true:=by rfl) (hs:starEach [e] X.env=(false,eval e X.env)::starEach [] X.env:=by exact aS rfl) (hplain:(backTo pos (starEach [] X.env)).any (·.1)=false:=by exact dS rfl) {pos':Pos}
  (hsw:swapsWith (.Call (.Attribute (.Name x p1) "append" p2) [e] [] pos) none pos'.line X.env=pure false:=by rfl) :
  PS X (.Expr (.Call (.Attribute (.Name x p1) "append" p2) [e] [] pos) pos') (bE X.K H₀ (fy i we)):=
 (oD (KU PySem.F.plainAttrs_list PySem.F.slot_list_append PySem.F.type_list_append sI hv (oC he uR hs) hbase hfew hline hs hplain) hsw).imp fun D σ H ⟨δ,D',F,s0,rl,h,ok⟩=>by
  unfold fy at h
  split at h
  ·rename_i ts hi;obtain⟨v,ha,a,xs,rfl,hF,hH,hr⟩:=rl.slot i _ hi;refine⟨_,ha,.inl ⟨rfl,xs,cX.of hH⟩,δ,_,F,rl,h,fun v F1 H1 s e p q=>?_⟩
   cases s with
   | t y=>
    obtain⟨hl,q⟩:=q;have h1:=e.hh.get hH;refine⟨a,xs,v,rfl,rfl,h1,by rw[hr.length];exact ot hl,?_⟩
    exact ok.nx σ F1 _ _ e.ff ((rl.ext e).mutate hi ha (e.keep a (by rw[hH];simp) hF) ⟨xs,h1⟩ ((au.same e.ff hr).append (au.one p))) q
   | _=>exact q.elim
  ·exact h.elim
theorem EC {α:Type}{l:List α}(h:l≠[]):∃ x,l[l.length-1]?=some x:=by
 cases l with
 | nil=>exact absurd rfl h
 | cons a r=>exact⟨_,getElem?_eq_getElem (by simp)⟩
theorem Mj (hv:PE X (.Name x p1) (wU i):=by exact pv _) (hbase:attributeBase (.Name x p1) "pop" X.env (eval (.Name x p1) X.env)=eval (.Name x p1) X.env:=by rfl) (hline:(p2.endLine == pos.line)=true:=by rfl) {pos':Pos}
  (hsw:swapsWith (.Call (.Attribute (.Name x p1) "pop" p2) [] [] pos) none pos'.line X.env=pure false:=by rfl):PS X (.Expr (.Call (.Attribute (.Name x p1) "pop" p2) [] [] pos) pos') (bE X.K H₀ (Kr i)):=
 (oD (Nq PySem.F.plainAttrs_list PySem.F.slot_list_pop PySem.F.type_list_pop M0 hv hbase hline) hsw).imp fun D σ H ⟨δ,D',F,s0,rl,h,ok⟩=>by
  unfold Kr at h
  split at h
  ·rename_i ts hi;obtain⟨v,ha,a,xs,rfl,hF,hH,hr⟩:=rl.slot i _ hi;obtain⟨hne,h⟩:=h;obtain⟨t,ht⟩:=EC hne;obtain⟨y,hy,_⟩:=hr.get ht;rw[<-hr.length]at hy;refine⟨_,ha,.inl ⟨rfl,xs,cX.of hH⟩,a,xs,y,rfl,rfl,hH,hy,?_⟩;exact ok.nx σ F _ _ (Same.refl _) (rl.mutate hi ha hF ⟨xs,hH⟩ hr.dropLast) h
  ·exact h.elim
theorem pE {v:Expr}(he:PE X e (av X.K we))(hw:PE X v (av X.K wv))(hv:PE X (.Name x p1) (wU i):=by exact pv _)
  (ha:∀ z,assign (.Subscript (.Name x p1) e p2) X.env z=(do
   let ov ← holding [z] (eval (.Name x p1) X.env)
   let iv ← holding [z,ov] (eval e X.env)
   standAt p2
   holding [z,ov,iv] (setItem ov iv z)
   release [z,ov,iv] []):=by intro _;rfl)
  (hs:swapsWithSole [.Subscript (.Name x p1) e p2] v pos.line X.env=pure false:=by rfl) (hsw:swappedStores [.Subscript (.Name x p1) e p2] v X.env=pure none:=by rfl)
  (h1:(assignEach [.Subscript (.Name x p1) e p2] X.env).map (·.2)=[assign (.Subscript (.Name x p1) e p2) X.env]:=by rfl) :
  PS X (.Assign [.Subscript (.Name x p1) e p2] v pos) (bE X.K H₀ (nt i we wv)):=
 (Gq hw (NA hv he set_list ha) hs hsw h1).imp fun D σ H ⟨δ,D',F,s0,rl,h,ok⟩=>by
  unfold nt at h
  split at h
  ·rename_i ts hi;obtain⟨v,ha,a,xs,rfl,hF,hH,hr⟩:=rl.slot i _ hi;refine⟨δ,_,F,rl,h,fun v1 F1 H1 s1 e1 p1 q1=>⟨_,ha,δ,_,F1,rl.ext e1,q1,fun v2 F2 H2 s2 e2 p2 q2=>?_⟩⟩;have e12:=e1.trans e2
   split at q2
   ·rename_i y k
    split at q2
    ·rename_i j hj;have h2:=e12.hh.get hH;refine⟨a,xs,k,j,rfl,p2,h2,by rw[hr.length];exact hj,?_⟩
     exact ok.nx σ F2 _ _ e12.ff ((rl.ext e12).mutate hi ha (e12.keep a (by rw[hH];simp) hF) ⟨xs,h2⟩ ((au.same e12.ff hr).set (aA.same e2.ff p1) j)) q2
    ·exact q2.elim
   ·exact q2.elim
  ·exact h.elim
end
def tN (R:List T->Prop):S->Prop
 | .t (.lst ts)=>R ts
 | .vt (.lst ts)=>cF ts=true/\R ts
 | .ol ts=>R ts
 | _=>False
def nV:S->S->(S->Prop)->Prop:=fun a b R=>tN (fun ts=>tN (fun us=>ts.length+us.length<=100000/\R (.ol (ts++us))) b) a
def KZ (K:Frg):R2:=fun x y H Q=>∃ l b xs zs,x=.ref l/\y=.ref b/\cX K H l xs/\cX K H b zs/\xs.length+zs.length<=sizeLine/\∀ p,H p=none->Q (.ref p) (cO H p (.lst (xs++zs)))
theorem Jt {X:Cx}:lc X (binaryOp .Add) (KZ X.K):=by
 intro pins s σ H x y v u Q I rx ry h;obtain⟨l,b,xs,zs,rfl,rfl,h1,h2,hz,q⟩:=h
 cases rx
 cases ry
 obtain⟨its,r,pl,z⟩:=I.list h1;obtain⟨its2,r2,pl2,z2⟩:=I.list h2;obtain⟨⟨cls,dd,data,sl⟩,ho,hc,n,hd⟩:=pl.isList;obtain⟨⟨cls2,dd2,data2,sl2⟩,ho2,hc2,n2,hd2⟩:=pl2.isList;simp only at hc hd hc2 hd2;subst hc hd hc2 hd2;have l1:=r.length;have l2:=r2.length;refine PySem.concat_meets ⟨_,ho,rfl⟩ ⟨_,ho2,rfl⟩ PySem.noFill_list_add PySem.seq_list_add PySem.F.slot_list_add PySem.F.entry_list_add (PySem.F.args_list_add_2 _ _) (PyProof.Rows.list_addW l b its.toArray its2.toArray n n2 dd dd2 sl sl2 (by rw[size_toArray,size_toArray];omega)) ⟨ho,ho2,?_⟩
 have ea:its.toArray++its2.toArray=(its++its2).toArray:=by simp
 rw[ea];exact⟨.ref _,_,I.lnew (t':=s.toks) (r.append r2) (by rw[List.length_append];omega),rfl,q _ I.fresh⟩
theorem pq {K:Frg}{F H:Hp}{R:List T->Prop}{s:S}{v:V}(sb:Same F H)(fu:gN F H)(h:tN R s)(p:gO K F H s v):∃ ts a xs,v=.ref a/\cX K H a xs/\au K F ts xs/\R ts:=by
 unfold tN at h
 split at h
 ·unfold gO aA at p;obtain⟨a,xs,h1,h2,h3⟩:=p;exact⟨_,a,xs,h1,sb.seq h2,h3,h⟩
 ·unfold gO aA at p;obtain⟨a,xs,h1,h2,h3⟩:=p;exact⟨_,a,xs,h1,h2,au.full fu h.1 h3,h.2⟩
 ·unfold gO at p;obtain⟨a,xs,h1,h2,h3⟩:=p;exact⟨_,a,xs,h1,h2,h3,h⟩
 ·exact h.elim
theorem Jr {K:Frg}:He K (KZ K) nV:=fun F H s1 s2 v1 v2 R Q sb fu p1 p2 h k=>by
 obtain⟨ts,a,xs,rfl,h1,h2,h⟩:=pq sb fu h p1;obtain⟨us,b,ys,rfl,h3,h4,hl,h⟩:=pq sb fu h p2;refine⟨a,b,xs,ys,rfl,rfl,h1,h3,by rw[h2.length,h4.length];exact le_trans hl (by decide),fun p hp=>?_⟩
 exact k _ F _ (.ol _) (dj.newL _ sb fu hp) ⟨p,_,rfl,hp,aM sb hp,aZ,h2.append h4⟩ h
theorem kE {X:Cx}{a b:Expr}{wa wb:WE}{pos:Pos}(ha:PE X a (av X.K wa))(hb:PE X b (av X.K wb)):PE X (.BinOp a .Add b pos) (av X.K (ap nV wa wb)):=(qi Jt ha hb).imp (cz Jr)
def gL (N:List Str)(ss:List S):aR:=ss.map some++replicate (N.length-ss.length) none
theorem sR {K:Frg}{F H:Hp}:∀ {ss:List S}{vs:List V}{i:Nat}{s:S},nA K F H ss vs->ss[i]?=some s->∃ v,vs[i]?=some v/\gO K F H s v
 | [],_,_,_,_,h=>by simp at h
 | s::ss,_,0,u,⟨v,r,e,p,q⟩,h=>by subst e;simp at h;subst h;exact⟨v,by simp,p⟩
 | s::ss,_,i+1,u,⟨v,r,e,p,q⟩,h=>by
  subst e;obtain⟨y,h1,h2⟩:=sR (i:=i) q (by simpa using h)
  exact⟨y,by simpa using h1,h2⟩
theorem jA {K:Frg}{F H:Hp}:∀ {ss:List S}{vs:List V},nA K F H ss vs->vs.length=ss.length
 | [],_,e=>by cases (show _=[] from e);rfl
 | s::ss,_,⟨v,r,e,p,q⟩=>by subst e;rw[length_cons,length_cons,jA q]
theorem sV {N:List Str}{ss:List S}{i:Nat}{s:S}(h:(gL N ss)[i]?=some (some s)):ss[i]?=some s:=by
 unfold gL at h
 by_cases hi:i<ss.length
 ·rw[getElem?_append_left (by simpa using hi),getElem?_map]at h
  cases e:ss[i]? with
  | none=>rw[e]at h;cases h
  | some u=>rw[e]at h;simpa using h
 ·rw[getElem?_append_right (by simpa using hi),getElem?_replicate]at h
  split at h <;> cases h
theorem sQ {K:Frg}{H:Hp}{N:List Str}{ss:List S}{vs:List V}(tk:mI K H)(hn:ss.length<=N.length)(ha:∀ s∈ss,CB s)(r:nA K H H ss vs):Rel K H H (L2.start N vs) (gL N ss):=by
 have hl:=jA r;refine⟨Same.refl _,fun _ _ h _=>.inl h,?_,fun i s h=>?_,fun i j a ts us _ h1=>?_,tk⟩
 ·unfold L2.start gL;rw[List.length_append,List.length_append,length_map,length_map,length_replicate,length_replicate];omega
 ·have h1:=sV h;obtain⟨v,h2,h3⟩:=sR r h1;refine⟨v,?_,?_⟩
  ·unfold L2.start;have hi:i<vs.length:=by rw[List.getElem?_eq_some_iff]at h2;exact h2.1
   rw[getElem?_append_left (by simpa using hi),getElem?_map,h2]
   rfl
  ·have:=ha s (mem_of_getElem? h1)
   cases s with
   | t x=>exact h3
   | vt ts=>exact this.elim
   | ol ts=>exact this.elim
 ·have:=ha _ (mem_of_getElem? (sV h1));exact this.elim
section
variable {P:Program}{wd:World}{K:Frg}{mg:Str->Option Value}{base:Heap}
theorem C4 {x qual:Str}{st:Stmt}{f:Addr}{fd:FuncData}{N ps:List Str}{k:Nat}{sp:aJ}{w:WS}(F:Ku K x qual st f fd)(S:ax N ps (al st))
  (hlen:∀ ss R,sp ss R->ss.length=ps.length)
  (hbody:∀ (cdv:Value) (A:Around) (outer:List Env) (s:Shared) (H:Hp) (E:XK),bX k (A.deeper (PyProof.Rows.envOfC qual (al st) s.heap.objs.size f cdv))->kA (pC xg P wd K mg base N qual (al st) f cdv A outer s H E).nox (bY st) (bE K H w))
  (h:∀ ss R,sp ss R->w {nx:=fun _=>R (.t .non),rt:=R} (gL N ss)):ja P wd K mg base xg (k+1) f fd ps (vh K sp):=by
 have pl:ps.length<=N.length:=by
  have:=congrArg List.length S.pre;rw[length_take]at this;omega
 refine F.ok S (fun vs H Q E hs=>?_) (fun cdv A outer s H vs Q E hr hs=>?_)
 ·obtain⟨ss,R,_,_,r,hs,_⟩:=hs;rw[jA r,hlen ss R hs]
 ·obtain⟨ss,R,tk,ha,r,hs,k⟩:=hs;refine⟨_,hbody cdv A outer s H E hr,gL N ss,_,H,Same.refl _,sQ tk (by rw[hlen ss R hs];exact pl) ha r,h ss R hs,⟨fun σ' F' H' δ' ff rl q=>?_,fun v H' s' sm tk rc q=>k v H' s' sm tk rc q,fun _ _ _ _ _ _ z=>z.elim,fun _ _ _ _ _ _ z=>z.elim⟩⟩
  exact k .non H' (.t .non) (ff.trans rl.sub) rl.tab rfl q
theorem rV {x qual:Str}{st:Stmt}{f:Addr}{fd:FuncData}{ps:List Str}{k:Nat}{sp:aJ}(F:Ku K x qual st f fd)(hm:mg x=some (.ref f))(b:Binds K fd ps [])(h:ja P wd K mg base xg k f fd ps (vh K sp)):Callee P wd K mg base k x sp:=
 ⟨f,fd,ps,hm,h,b,F.kp⟩
def Au:aJ:=fun ss R=>∃ ns:List Int,ss=[.t (.lst (ns.map .int))]/\ns.length<=63/\R (.t (.bl true))
theorem MQ {K:Frg}{H:Hp}{a:Addr}{ns:List Int}(tk:mI K H)(hl:ns.length<=63)(hS:cX K H a (ns.map V.int)):vh K Au [.ref a] H (fun v _=>v=.bl true) fun _ _ _=>False:=
 ⟨[.t (.lst (ns.map .int))],fun s=>s=.t (.bl true),tk,fun s hs=>by simp at hs;subst hs;exact True.intro,⟨.ref a,[],rfl,by show aA K H (.lst _) _;unfold aA;exact⟨a,_,rfl,hS,au.ints ns⟩,rfl⟩,⟨ns,rfl,hl,rfl⟩,fun v H' s _ _ rc e=>by subst e;exact rc⟩
end
end DL
namespace DL
open PySem L2
def qX (own:Nat)(fr:List Nat)(δ:aR):aR:=replicate own none++fr.map fun i=>(δ[i]?).join
def si (k:T->Prop):S->Prop
 | .t y=>lP y=true/\k y
 | .ol ts=>cF ts=true/\k (.lst ts)
 | .vt _=>False
def pA (g:WG)(tc:WT)(te:WE)(ts:List T)(δ:aR)(R:List T->Prop):Prop:=∃ I:List T->aR->List T->Prop,I ts δ []/\(∀ δ acc,I [] δ acc->R acc)/\∀ x r δ acc,I (x::r) δ acc →
 g x δ fun δ1=>tc δ1 fun ok=>if ok=true then te δ1 fun s=>si (fun y=>acc.length<100000/\I r δ1 (acc++[y])) s else I r δ1 acc
def dZ (own:Nat)(fr:List Nat)(wi:WI)(g:WG)(tc:WT)(te:WE):WE:=fun δ R=>wi δ fun ts δ'=>pA g tc te ts (qX own fr (freeze δ')) fun acc=>R (.ol acc)
def nZ:WT:=fun _ R=>R true
def o8 (δ:aR):Prop:=∀ (i:Nat) (ts:List T),δ[i]?≠some (some (S.ol ts))
def QO (g:WG):Prop:=∀ t δ R,o8 δ->g t δ R->g t δ fun δ'=>o8 δ'/\R δ'
theorem o8.set {δ:aR}(h:o8 δ)(i:Nat)(t:T):o8 (δ.set i (some (.t t))):=fun j ts e=>by
 by_cases z:i=j
 ·subst z;rw[getElem?_set]at e;simp at e
 ·rw[getElem?_set_ne z]at e;exact h j ts e
theorem bR {i:Nat}:QO (aU i):=fun t δ R h q=>⟨h.set i t,q⟩
def vx (K:Frg)(H F:Hp)(t:T)(v:V):Prop:=(lP t=true/\aA K F t v)\/∃ ts a xs,t=.lst ts/\cF ts=true/\v=.ref a/\H a=none/\F a=some (.lst xs)/\au K F ts xs
def dJ (K:Frg)(H F:Hp):List T->List V->Prop
 | [],xs=>xs=[]
 | t::ts,xs=>∃ x r,xs=x::r/\vx K H F t x/\dJ K H F ts r
theorem vx.same {K:Frg}{H F F':Hp}(e:Same F F'){t:T}{v:V}(h:vx K H F t v):vx K H F' t v:=by
 rcases h with ⟨p,h⟩|⟨ts,a,xs,h1,h2,h3,h4,h5,h6⟩
 ·exact .inl ⟨p,aA.same e h⟩
 ·exact .inr ⟨ts,a,xs,h1,h2,h3,h4,e.get h5,au.same e h6⟩
theorem dJ.same {K:Frg}{H F F':Hp}(e:Same F F'):∀ {ts:List T}{xs:List V},dJ K H F ts xs->dJ K H F' ts xs
 | [],_,h=>h
 | _::_,_,⟨x,r,h1,h2,h3⟩=>⟨x,r,h1,h2.same e,dJ.same e h3⟩
theorem dJ.snoc {K:Frg}{H F:Hp}{t:T}{v:V}(h:vx K H F t v):∀ {ts:List T}{xs:List V},dJ K H F ts xs->dJ K H F (ts++[t]) (xs++[v])
 | [],_,e=>by cases (show _=[] from e);exact⟨v,[],rfl,h,rfl⟩
 | _::_,_,⟨x,r,h1,h2,h3⟩=>by subst h1;exact⟨x,r++[v],rfl,h2,dJ.snoc h h3⟩
theorem dJ.length {K:Frg}{H F:Hp}:∀ {ts:List T}{xs:List V},dJ K H F ts xs->xs.length=ts.length
 | [],_,e=>by cases (show _=[] from e);rfl
 | _::_,_,⟨x,r,h1,_,h3⟩=>by subst h1;rw[length_cons,length_cons,dJ.length h3]
theorem Rel.other {K:Frg}{F H:Hp}{σ:St}{δ:aR}{a:Addr}{ys:List V}(r:Rel K F H σ δ)(hF:F a=none)(no:o8 δ)(hH:H a=none\/∃ xs,H a=some (.lst xs)):Rel K F (cO H a (.lst ys)) σ δ:=by
 refine⟨⟨fun b o e n=>?_,fun b ps e=>?_⟩,fun b o e n=>?_,r.len,fun j s hj=>?_,fun i j b ts us _ h1=>absurd h1 (no i ts),hH.elim (fun z=>G1 r.tab z rfl) fun ⟨_,z⟩=>wV r.tab z⟩
 ·have:b≠a:=fun z=>by rw[z,hF]at e;cases e
  rw[aW this];exact r.sub.all _ _ e n
 ·have:b≠a:=fun z=>by rw[z,hF]at e;cases e
  rw[aW this];exact r.sub.tbl _ _ e
 ·unfold cO at e
  split at e
  ·cases e;exact .inr ⟨ys,rfl⟩
  ·exact r.full _ _ e n
 ·obtain⟨v,q1,q2⟩:=r.slot j s hj;refine⟨v,q1,?_⟩
  cases s with
  | t x=>exact q2
  | vt x=>exact q2
  | ol ts=>exact absurd hj (no j ts)
theorem nG (δ:aR):o8 (freeze δ):=fun i ts e=>by
 obtain⟨u,_,h⟩:=kI e;exact ko u ts h.symm
theorem vF {own:Nat}{fr:List Nat}{δ:aR}{i:Nat}{s:S}(h:(qX own fr δ)[i]?=some (some s)):own<=i/\∃ k,fr[i-own]?=some k/\δ[k]?=some (some s):=by
 unfold qX at h
 by_cases hi:i<own
 ·rw[getElem?_append_left (by simpa using hi),getElem?_replicate,if_pos hi]at h
  cases h
 ·have hi:own<=i:=by omega
  refine⟨hi,?_⟩;rw[getElem?_append_right (by simpa using hi),length_replicate,getElem?_map]at h
  cases ef:fr[i-own]? with
  | none=>rw[ef]at h;cases h
  | some k=>
   rw[ef]at h;refine⟨k,rfl,?_⟩;have ev:(δ[k]?).join=some s:=by simpa using h
   cases q:δ[k]? with
   | none=>rw[q]at ev;cases ev
   | some o=>rw[q]at ev;simpa using ev
theorem mN {own:Nat}{fr:List Nat}{δ:aR}(h:o8 δ):o8 (qX own fr δ):=fun i ts e=>by
 obtain⟨_,k,_,h2⟩:=vF e;exact h k ts h2
theorem J6 {K:Frg}{H:Hp}{σ:St}{δ:aR}{own:Nat}{fr:List Nat}{D:Addr}(r:Rel K H H σ δ)(no:o8 δ)(hD:H D=none):Rel K H (cO H D (.lst [])) (Hg own fr σ) (qX own fr δ):=by
 have:Rel K H H (Hg own fr σ) (qX own fr δ):=by
  refine⟨r.sub,r.full,?_,fun i s h=>?_,fun i j a ts us _ h1=>absurd h1 (mN no i ts),r.tab⟩
  ·unfold Hg qX;rw[List.length_append,List.length_append,length_replicate,length_replicate,length_map,length_map]
  ·obtain⟨hi,k,h1,h2⟩:=vF h;obtain⟨v,q1,q2⟩:=r.slot k s h2;refine⟨v,?_,q2⟩;unfold Hg;rw[getElem?_append_right (by simpa using hi),length_replicate,getElem?_map,h1]
   simp[q1]
 exact this.other hD (mN no) (.inl hD)
def n5 (N:List Str)(no:Nat)(fr:List Nat)(NX:List Str)(sc around:Scope):Bool:=
 decide (sc.kind=.function) && sc.names.all (fun y=>decide (y.2≠.cell)) && decide N.Nodup && decide (N.length=no+fr.length) &&
 sc.names.all (fun y=>decide (y.2=.local->sc.names.lookup y.1=some .local)) && sc.names.all (fun y=>decide (y.2=.free->around.names.lookup y.1=some .cell)) &&
 (List.range no).all (fun i=>match N[i]? with|some x=>decide (sc.names.lookup x=some .local)|none=>true) &&
 (List.range fr.length).all (fun j=>match fr[j]?,N[no+j]? with|some i,some x=>decide (NX[i]?=some x/\sc.names.lookup x=some .free)|_,_=>true)
theorem CT {N:List Str}{no:Nat}{fr:List Nat}{NX:List Str}{sc around:Scope}(h:n5 N no fr NX sc around=true):i9 N no fr NX sc around:=by
 unfold n5 at h;simp only[Bool.and_eq_true,decide_eq_true_eq,List.all_eq_true,mem_range]at h;obtain⟨⟨⟨⟨⟨⟨⟨h1,h2⟩,h3⟩,h4⟩,h5⟩,h6⟩,h7⟩,h8⟩:=h;refine⟨h1,h2,h3,h4,h5,h6,fun i x e hi=>?_,fun j i x e1 e2=>?_⟩
 ·have:=h7 i hi;rw[e]at this;simpa using this
 ·have hj:j<fr.length:=(List.getElem?_eq_some_iff.mp e1).1;have:=h8 j hj;rw[e1,e2]at this;simpa using this
section
variable {X:Cx}{N:List Str}{own:Nat}{fr:List Nat}{scope:Scope}{elt tg iter:Expr}{ifs:List Expr}{pos:Pos}{wi:WI}{g:WG}{tc:WT}{te:WE}
theorem fj {Y:Cx}:Hn Y [] (liftT Y.K nZ):=fun pins s σ H Q I ⟨δ,R,F,rl,h,k⟩=>JK pins s σ H Q I (k F H true rl.refl h)
theorem lD {Y:Cx}{c:Expr}{t:WT}(h:PT Y c (liftT Y.K t)):Hn Y [c] (liftT Y.K t):=JL h
theorem sA (go:QO g):∀ σ H Q,av X.K (dZ own fr wi g tc te) σ H Q->Ax own fr (pZ X.K wi) (lK X.K g) (liftT X.K tc) (av X.K te) σ H Q:=
 fun σ H Q ⟨δ,R,F,rl,h,k⟩=>⟨δ,_,F,rl,h,fun J F0 F1 H1 ts δ1 e0 f01 rl1 it q D hD=>by
  have sH:Same H H1:=e0.hh;obtain⟨W,w0,wend,wstep⟩:=q;refine⟨fun i m σ' H'=>m=ts.length-i/\i<=ts.length/\∃ δ' F' acc xs,Same H1 F'/\F' D=none/\H' D=some (.lst xs)/\Rel X.K F' H' σ' δ'/\o8 δ'/\dJ X.K H F' acc xs/\W (ts.drop i) δ' acc,
   ⟨ts.length,by simp,zero_le _,qX own fr (freeze δ1),H1,[],[],Same.refl _,hD,aZ,J6 rl1.freeze (nG _) hD,mN (nG _),rfl,by simpa using w0⟩,?_⟩
  rintro i m σ' H' ⟨rfl,hi,δ',F',acc,xs,s1,fD,hH,rl',no,ra,h⟩;obtain⟨hgo,hstop⟩:=it F' H' i (rl1.sub.trans s1) rl'.sub rl'.full
  cases hd:ts.drop i with
  | nil=>
   rw[hd]at h;have:ts.length<=i:=by simpa using hd
   refine .inl ⟨hstop this,?_⟩;have sm:Same H H':=(sH.trans s1).trans rl'.sub;have ex:=lG (x:=some D) rl.sub rl.full sm (fun b z=>by cases z;exact⟨xs,hH⟩) (fun _=>rl'.tab.1)
   have hDn:H D=none:=aM sH hD;refine k _ _ H' (.ol acc) ex ⟨D,xs,rfl,hDn,?_,hH,?_⟩ (wend δ' acc h)
   ·unfold grow;rw[if_pos (by rw[hDn];rfl),if_pos rfl]
   ·have all:∀ {acc:List T}{xs:List V},dJ X.K H F' acc xs->au X.K (grow F H H' (some D)) acc xs:=by
     intro acc
     induction acc with
     | nil=>intro xs z;exact z
     | cons t r ih=>
      rintro xs ⟨x,r',z1,z2,z3⟩;refine⟨x,r',z1,?_,ih z3⟩
      rcases z2 with ⟨p,z⟩|⟨us,a,ys,rfl,p,rfl,y1,y2,y3⟩
      ·exact aA.full ex.full p (aA.same rl'.sub z)
      ·unfold aA;refine⟨a,ys,rfl,cX.of ?_,au.full ex.full p (au.same rl'.sub y3)⟩;have:a≠D:=fun z=>by rw[z,fD]at y2;cases y2
       unfold grow;rw[if_pos (by rw[y1];rfl),if_neg (fun z=>this (Option.some.inj z).symm)]
       exact rl'.sub.get y2
    exact all ra
  | cons x r=>
   rw[hd]at h;obtain⟨h1,h2⟩:=vP hd;obtain⟨goes,yld⟩:=hgo x h1;have hlt:i<ts.length:=by
    have:=congrArg List.length hd;simp at this;omega
   refine .inr ⟨goes,fun v H2 y=>?_⟩;obtain⟨F3,e3,p3⟩:=yld v H2 y;have h:=wstep x r δ' acc h;refine⟨x,δ',_,F3,p3,rl'.ext e3,go x δ' _ no h,fun σ2 δ2 rl2 ⟨no2,h⟩=>?_⟩;have D3:F3 D=none:=e3.keep D (by rw[hH];simp) fD
   have H3:=e3.hh.get hH;refine⟨δ2,_,F3,rl2,h,fun F4 H4 ok e4 h=>?_⟩;have D4:F4 D=none:=e4.keep D (by rw[H3];simp) D3
   have H4D:=e4.hh.get H3;have f4:Same F' F4:=e3.ff.trans e4.ff
   cases ok with
   | false=>
    refine⟨ts.length-(i+1),by omega,rfl,hlt,δ2,F4,acc,xs,s1.trans f4,D4,H4D,rl2.ext e4,no2,ra.same f4,?_⟩
    rw[h2];simpa using h
   | true=>
    simp only[if_true]at h;refine⟨δ2,_,F4,rl2.ext e4,h,fun w F5 H5 s e5 p5 h=>?_⟩;have H5D:=e5.hh.get H4D;refine⟨xs,H5D,?_,ts.length-(i+1),by omega,rfl,hlt,?_⟩
    ·rw[ra.length]
     cases s with
     | t y=>exact ot h.2.1
     | ol us=>exact ot h.2.1
     | vt y=>exact h.elim
    ·cases s with
     | t y=>
      have D5:F5 D=none:=e5.keep D (by rw[H4D];simp) D4
      refine⟨δ2,F5,acc++[y],xs++[w],(s1.trans f4).trans e5.ff,D5,aZ,((rl2.ext e4).ext e5).other D5 no2 (.inr ⟨_,H5D⟩),no2,(ra.same (f4.trans e5.ff)).snoc (.inl ⟨h.1,p5⟩),?_⟩;rw[h2];exact h.2.2
     | ol us=>
      obtain⟨ez,sz⟩:=e5.frozen (rl2.ext e4).sub;have D5:grow F5 H4 H5 none D=none:=ez.keep D (by rw[H4D];simp) D4
      obtain⟨a,ys,rfl,q0,q1,q2,q3⟩:=p5;refine⟨δ2,grow F5 H4 H5 none,acc++[.lst us],xs++[.ref a],(s1.trans f4).trans ez.ff,D5,aZ,((rl2.ext e4).ext ez).other D5 no2 (.inr ⟨_,H5D⟩),no2,(ra.same (f4.trans ez.ff)).snoc (.inr ⟨us,a,ys,rfl,h.1,rfl,?_,?_,au.same sz q3⟩),?_⟩
      ·have s4:Same H H4:=((sH.trans s1).trans f4).trans e4.sub;exact aM s4 q0
      ·unfold grow;rw[if_pos (by rw[q0];rfl),if_neg (by simp)]
       exact q2
      ·rw[h2];exact h.2.2
     | vt y=>exact h.elim⟩
theorem eG {NX:List Str}{ar:Scope}(look:n5 N own fr NX scope ar=true)(hi:PI X tg iter (pZ X.K wi))(go:QO g)
  (hg:∀ cl s H fp,PG (cW X N scope cl s H fp) tg (lK X.K g)) (ht:∀ cl s H fp,Hn (cW X N scope cl s H fp) ifs (liftT X.K tc)) (he:∀ cl s H fp,PE (cW X N scope cl s H fp) elt (av X.K te)) (eN:X.N=NX:=by rfl) (eS:X.env.scope=ar:=by rfl) (hc:X.calm=true:=by rfl)
  (hs:∀ x,foldedSetIterable iter X.env x=pure x:=by intro _;rfl):PE X (.ListComp elt [⟨tg,iter,ifs,0⟩] scope pos) (av X.K (dZ own fr wi g tc te)):=
 (Jz (by subst eN;subst eS;exact CT look) hc hi hg ht he hs).imp (sA go)
theorem ir {H₀:Hp}{NX:List Str}{ar:Scope}{i:Nat}{x:Str}{pos1 pos':Pos}(hN:X.N.Nodup)(look:n5 N own fr NX scope ar=true)(hi:PI X tg iter (pZ X.K wi))(go:QO g)
  (hg:∀ cl s H fp,PG (cW X N scope cl s H fp) tg (lK X.K g)) (ht:∀ cl s H fp,Hn (cW X N scope cl s H fp) ifs (liftT X.K tc)) (he:∀ cl s H fp,PE (cW X N scope cl s H fp) elt (av X.K te)) (eN:X.N=NX:=by rfl) (eS:X.env.scope=ar:=by rfl)
  (hi':X.N[i]?=some x:=by rfl) (hx:Loc X.env.scope x:=by first|exact Or.inl rfl|exact Or.inr rfl) (hw:swapsWith (.ListComp elt [⟨tg,iter,ifs,0⟩] scope pos) (some (.Name x pos')) pos1.line X.env=pure true:=by rfl) (hf:X.fn x=true\/X.env.scope.names.lookup x=some .local:=by first|exact .inl rfl|exact .inr rfl|assumption) (hc:X.calm=true:=by rfl)
  (hs:∀ x,foldedSetIterable iter X.env x=pure x:=by intro _;rfl):PS X (.Assign [.Name x pos'] (.ListComp elt [⟨tg,iter,ifs,0⟩] scope pos) pos1) (bE X.K H₀ (aG i (dZ own fr wi g tc te))):=
 (JG (i:=i) hN hi' hx (by subst eN;subst eS;exact CT look) hc hi hg ht he hs hw hf).imp fun D σ H ⟨δ,D',F,s0,rl,h,ok⟩=>sA go σ H _ ⟨δ,_,F,rl,h,fun v F1 H1 s e p q=>by
  obtain⟨F2,ff,r2⟩:=rl.setS i e p;exact ok.nx _ F2 H1 _ ff r2 q⟩
end
end DL
namespace DL
open L2
def look (i:Nat)(δ:aR)(k:S->Prop):Prop:=match δ[i]? with
 | some (some s)=>k s
 | _=>False
theorem MW (s:S)(r:aR)(k:S->Prop):look 0 (some s::r) k=k s:=rfl
theorem MX (i:Nat)(x:Option S)(r:aR)(k:S->Prop):look (i+1) (x::r) k=look i r k:=rfl
def qa (i:Nat)(δ:aR)(k:List T->Prop):Prop:=match δ[i]? with
 | some (some (.ol ts))=>k ts
 | _=>False
theorem IX (ts:List T)(r:aR)(k:List T->Prop):qa 0 (some (.ol ts)::r) k=k ts:=rfl
theorem IY (i:Nat)(x:Option S)(r:aR)(k:List T->Prop):qa (i+1) (x::r) k=qa i r k:=rfl
section
variable (D:iX) (δ:aR) (R:S->Prop) (w u:WS) (we wa wb wv:WE) (ws:WA) (i j:Nat) (x y:T) (s:S) (t c:WT)
theorem Kx:aC w u D δ=w {D with nx:=u D} δ:=rfl
theorem Ky:aG i we D δ=we δ fun s=>D.nx (setS i s δ):=rfl
theorem Rc:gM c w u D δ=c δ fun k=>if k=true then w D δ else u D δ:=rfl
theorem O5:a6 we D δ=we δ fun s=>D.rt (out s):=rfl
theorem LK:jv i D δ=look i δ D.rt:=rfl
theorem LJ:QN D δ=D.rt (.t .non):=rfl
theorem LD:bd D δ=D.nx δ:=rfl
theorem Hu:Oh D δ=D.bk δ:=rfl
theorem Lo:QK D δ=D.ct δ:=rfl
theorem Lp:w4 we D δ=we δ fun _=>D.nx δ:=rfl
theorem O8:ae i δ R=look i δ fun s=>R (seen s):=rfl
theorem Si:wC x δ R=R (.t x):=rfl
theorem O0 (f:S->S->(S->Prop)->Prop):ap f wa wb δ R=wa δ fun x=>wb δ fun y=>f x y R:=rfl
theorem Rf (f:S->(S->Prop)->Prop):vv f wa δ R=wa δ fun x=>f x R:=rfl
theorem Sh (C:Int->Int->Prop)(g:Int->Int->T)(i j:Int):fI C g (.t (.int i)) (.t (.int j)) R=(C i j/\R (.t (g i j))):=rfl
theorem Ra (g:Int->Int->T)(i j:Int):Iy g (.t (.int i)) (.t (.int j)) R=R (.t (g i j)):=rfl
theorem OY (i:Int):iy (.t (.int i)) R=R (.t (.int (-i))):=rfl
theorem OU (ts:List T)(i:Int):aI (.t (.tup ts)) (.t (.int i)) R=atT ts i R:=rfl
theorem OS (ts:List T)(i:Int):aI (.t (.lst ts)) (.t (.int i)) R=atT ts i R:=rfl
theorem OW (ts:List T)(i:Int):aI (.vt (.tup ts)) (.t (.int i)) R=xc ts i R:=rfl
theorem OV (ts:List T)(i:Int):aI (.vt (.lst ts)) (.t (.int i)) R=xc ts i R:=rfl
theorem OT (ts:List T)(i:Int):aI (.ol ts) (.t (.int i)) R=atT ts i R:=rfl
theorem eu {ts:List T}{i:Int}{x:T}{R:S->Prop}(h:atI ts i=some x):atT ts i R=R (.t x):=by unfold atT;rw[h]
theorem dq {α:Type}{ts:List α}{n:Nat}{x:α}(h:ts[n]?=some x):atI ts (n:Int)=some x:=HP h
theorem Pc (r:List T):atT (x::r) 0 R=R (.t x):=eu (dq (n:=0) rfl)
theorem Pd (r:List T):atT (x::y::r) 1 R=R (.t y):=eu (dq (n:=1) rfl)
theorem Pe (z:T)(r:List T):atT (x::y::z::r) 2 R=R (.t z):=eu (dq (n:=2) rfl)
theorem Pf (z z':T)(r:List T):atT (x::y::z::z'::r) 3 R=R (.t z'):=eu (dq (n:=3) rfl)
theorem ip {ts:List T}{i:Int}{x:T}{R:S->Prop}(h:atI ts i=some x):xc ts i R=R (norm x):=by unfold xc;rw[h]
theorem Pg (r:List T):xc (x::r) 0 R=R (norm x):=ip (dq (n:=0) rfl)
theorem Ph (r:List T):xc (x::y::r) 1 R=R (norm y):=ip (dq (n:=1) rfl)
theorem Pi (z:T)(r:List T):xc (x::y::z::r) 2 R=R (norm z):=ip (dq (n:=2) rfl)
theorem Pj (z z':T)(r:List T):xc (x::y::z::z'::r) 3 R=R (norm z'):=ip (dq (n:=3) rfl)
theorem oA {x:T}(h:lP x=true):norm x=.t x:=if_pos h
theorem FQ:norm .non=.t .non:=rfl
theorem Jb (b:Bool):norm (.bl b)=.t (.bl b):=rfl
theorem FO (i:Int):norm (.int i)=.t (.int i):=rfl
theorem FS (i:PySem.Str):norm (.str i)=.t (.str i):=rfl
theorem FN (i:PySem.Str):norm (.exc i)=.t (.exc i):=rfl
theorem FP (ts:List T):norm (.lst ts)=.vt (.lst ts):=rfl
theorem Jc (a b:Int):norm (.tup [.int a,.int b])=.t (.tup [.int a,.int b]):=rfl
theorem FR (a b c:Int):norm (.tup [.int a,.int b,.int c])=.t (.tup [.int a,.int b,.int c]):=rfl
theorem Jd (a b c d:Int):norm (.tup [.tup [.int a,.int b],.tup [.int c,.int d]])=.t (.tup [.tup [.int a,.int b],.tup [.int c,.int d]]):=rfl
theorem Mx:setS i (.t x) δ=δ.set i (some (.t x)):=rfl
theorem Mw (ts:List T):setS i (.ol ts) δ=δ.set i (some (.ol ts)):=rfl
theorem My:setS i (.vt x) δ=(freeze δ).set i (some (.t x)):=rfl
theorem Iv:seen (.t x)=.t x:=rfl
theorem Iw:seen (.vt x)=.vt x:=rfl
theorem Iu (ts:List T):seen (.ol ts)=.vt (.lst ts):=rfl
theorem Mu:out (.t x)=.t x:=rfl
theorem Mv:out (.vt x)=.t x:=rfl
theorem Mt (ts:List T):out (.ol ts)=.ol ts:=rfl
theorem Mm:nB (.t x)=.t x:=rfl
theorem Mn:nB (.vt x)=.t x:=rfl
theorem Ml (ts:List T):nB (.ol ts)=.t (.lst ts):=rfl
theorem Ms:got (.t x)=norm x:=rfl
theorem dO (ts:List T)(h:cF ts=true):got (.ol ts)=.ol ts:=if_pos h
theorem Mr:eM (.t x)=.t x:=rfl
theorem Mp (ts:List T):eM (.ol ts)=.t (.lst ts):=rfl
theorem Pz:freeze []=[]:=rfl
theorem Mo (r:aR):freeze (none::r)=none::freeze r:=rfl
theorem Mq (s:S)(r:aR):freeze (some s::r)=some (eM s)::freeze r:=rfl
theorem PC:tr (.t x)=x:=rfl
theorem PD:tr (.vt x)=x:=rfl
theorem PB (ts:List T):tr (.ol ts)=.lst ts:=rfl
def R6 (R:Bool->Prop):S->Prop
 | .t (.bl k)=>R k
 | _=>False
theorem Sg (R:Bool->Prop):wB we δ R=we δ (R6 R):=rfl
theorem LQ (R:Bool->Prop)(k:Bool):R6 R (.t (.bl k))=R k:=rfl
theorem Li (R:Bool->Prop):kz t c δ R=t δ fun k=>if k=true then c δ R else R false:=rfl
theorem O1 (R:Bool->Prop):Ha t c δ R=t δ fun k=>if k=true then R true else c δ R:=rfl
theorem LG (R:Bool->Prop):QM t δ R=t δ fun k=>R (!k):=rfl
def Pa (B:Prop)(R:S->Prop):S->Prop
 | .t (.bl k)=>if k=true then B else R (.t (.bl false))
 | _=>False
def R7 (B:Prop)(R:S->Prop):S->Prop
 | .t (.bl k)=>if k=true then R (.t (.bl true)) else B
 | _=>False
def P8 (R:S->Prop):S->Prop
 | .t (.bl k)=>R (.t (.bl (!k)))
 | _=>False
theorem Lj:AD wa wb δ R=wa δ (Pa (wb δ R) R):=rfl
theorem O2:R1 wa wb δ R=wa δ (R7 (wb δ R) R):=rfl
theorem LH:AE wa δ R=wa δ (P8 R):=rfl
theorem HK (B:Prop)(k:Bool):Pa B R (.t (.bl k))=if k=true then B else R (.t (.bl false)):=rfl
theorem Nl (B:Prop)(k:Bool):R7 B R (.t (.bl k))=if k=true then R (.t (.bl true)) else B:=rfl
theorem Jf (k:Bool):P8 R (.t (.bl k))=R (.t (.bl (!k))):=rfl
theorem OP:Oi c wa wb δ R=c δ fun k=>if k=true then wa δ R else wb δ R:=rfl
theorem Rb (f:List S->(S->Prop)->Prop):dH f ws δ R=ws δ fun ss=>f ss R:=rfl
theorem OZ (R:List S->Prop):ao δ R=R []:=rfl
theorem Ln (R:List S->Prop):ac wa ws δ R=wa δ fun x=>ws δ fun xs=>R (x::xs):=rfl
def tupK (R:S->Prop)(ss:List S):Prop:=match ml ss with
 | some ts=>if ts.length<=1000 then R (.t (.tup ts)) else False
 | none=>False
def lstK (R:S->Prop)(ss:List S):Prop:=match ml ss with
 | some ts=>if ts.length<=1000 then R (.ol ts) else False
 | none=>False
theorem O6:bN ws δ R=ws δ (tupK R):=rfl
theorem OX:ia ws δ R=ws δ (lstK R):=rfl
theorem RU:tupK R [.t x]=R (.t (.tup [x])):=rfl
theorem RV:tupK R [.t x,.t y]=R (.t (.tup [x,y])):=rfl
theorem RW (z:T):tupK R [.t x,.t y,.t z]=R (.t (.tup [x,y,z])):=rfl
theorem Rv:lstK R []=R (.ol []):=rfl
theorem Rw:lstK R [.t x]=R (.ol [x]):=rfl
theorem Rx:lstK R [.t x,.t y]=R (.ol [x,y]):=rfl
theorem Ry (z:T):lstK R [.t x,.t y,.t z]=R (.ol [x,y,z]):=rfl
theorem Rz (z z':T):lstK R [.t x,.t y,.t z,.t z']=R (.ol [x,y,z,z']):=rfl
theorem RX (z z':T):tupK R [.t x,.t y,.t z,.t z']=R (.t (.tup [x,y,z,z'])):=rfl
theorem Ll (sp:aJ):aw sp ws δ R=ws δ fun ss=>sp (ss.map nB) fun s=>R (got s):=rfl
theorem Ly (ts:List T):cE [.t (.tup ts)] R=R (.t (.int ts.length)):=rfl
theorem Lw (ts:List T):cE [.t (.lst ts)] R=R (.t (.int ts.length)):=rfl
theorem LA (ts:List T):cE [.vt (.tup ts)] R=R (.t (.int ts.length)):=rfl
theorem Lz (ts:List T):cE [.vt (.lst ts)] R=R (.t (.int ts.length)):=rfl
theorem Lx (ts:List T):cE [.ol ts] R=R (.t (.int ts.length)):=rfl
theorem OM (i:Int):i6 [.t (.int i)] R=R (.t (.int (if i<0 then -i else i))):=rfl
theorem LB (i j:Int):vS [.t (.int i),.t (.int j)] R=R (.t (.int (if j>i then j else i))):=rfl
theorem LC (i j:Int):rZ [.t (.int i),.t (.int j)] R=R (.t (.int (if j<i then j else i))):=rfl
theorem Lv (i:Int):PL [.t (.int i)] R=R (.t (.int i)):=rfl
theorem Lu (b:Bool):PL [.t (.bl b)] R=R (.t (.int (if b then 1 else 0))):=rfl
theorem Hz (ts:List T):t0 [.t (.lst ts)] R=R (.ol ts):=rfl
theorem HB (ts:List T):t0 [.vt (.lst ts)] R=(cF ts=true/\R (.ol ts)):=rfl
theorem HA (ts:List T):t0 [.ol ts] R=R (.ol ts):=rfl
theorem PH (i j:Int):dW (.t (.int i)) (.t (.int j)) R=R (.t (.bl (decide (i=j)))):=by
 have e:(i == j)=decide (i=j):=by cases h:(i == j) <;> simp_all
 show(dep (.int i)<=20/\dep (.int j)<=20/\R (.t (.bl (i == j))))=_;rw[e];exact propext ⟨fun h=>h.2.2,fun h=>⟨zero_le _,zero_le _,h⟩⟩
theorem P6 (i j:Int):dY (.t (.int i)) (.t (.int j)) R=R (.t (.bl (!decide (i=j)))):=by
 have e:(i == j)=decide (i=j):=by cases h:(i == j) <;> simp_all
 show(dep (.int i)<=20/\dep (.int j)<=20/\R (.t (.bl (!(i == j)))))=_;rw[e];exact propext ⟨fun h=>h.2.2,fun h=>⟨zero_le _,zero_le _,h⟩⟩
theorem Re (ty:Ty):SA ty we δ R=we δ fun s=>Cb s≠.exc/\R (.t (.bl (cu (Cb s) ty))):=rfl
theorem Oc:Cb (.t .non)=.non:=rfl
theorem QG (b:Bool):Cb (.t (.bl b))=.bool:=rfl
theorem ty_int (i:Int):Cb (.t (.int i))=.int:=rfl
theorem ty_str (i:PySem.Str):Cb (.t (.str i))=.str:=rfl
theorem Od (ts:List T):Cb (.t (.tup ts))=.tup:=rfl
theorem Ko (ts:List T):Cb (.vt (.tup ts))=.tup:=rfl
theorem QH (ts:List T):Cb (.t (.lst ts))=.lst:=rfl
theorem QJ (ts:List T):Cb (.vt (.lst ts))=.lst:=rfl
theorem QI (ts:List T):Cb (.ol ts)=.lst:=rfl
theorem OQ:G9 wa δ R=wa δ fun s=>R (.t (.bl (KL (tr s)))):=rfl
theorem LF:tf wa δ R=wa δ fun s=>R (.t (.bl (!KL (tr s)))):=rfl
theorem M1:(Ty.non≠Ty.exc)=True:=by simp
theorem M2:(Ty.bool≠Ty.exc)=True:=by simp
theorem M3:(Ty.int≠Ty.exc)=True:=by simp
theorem M4:(Ty.str≠Ty.exc)=True:=by simp
theorem M5:(Ty.tup≠Ty.exc)=True:=by simp
theorem M6:(Ty.lst≠Ty.exc)=True:=by simp
theorem OO (wi:WI)(g:WG):ju wi g w D δ=wi δ fun ts δ'=>xN g w ts D δ':=rfl
theorem Cu (W:List T->aR->Prop):bW we δ W=we δ (sF δ W):=rfl
theorem IU (W:List T->aR->Prop)(ts:List T):sF δ W (.t (.lst ts))=W ts δ:=rfl
theorem IW (W:List T->aR->Prop)(ts:List T):sF δ W (.vt (.lst ts))=W ts (freeze δ):=rfl
theorem IV (W:List T->aR->Prop)(ts:List T):sF δ W (.ol ts)=W ts δ:=rfl
theorem HI (W:List T->aR->Prop):Hd we δ W=we δ (QC δ W):=rfl
theorem QD (W:List T->aR->Prop)(ts:List T):QC δ W (.t (.tup ts))=W ts δ:=rfl
theorem QE (W:List T->aR->Prop)(ts:List T):QC δ W (.vt (.tup ts))=W ts (freeze δ):=rfl
def Qr (δ:aR)(W:List T->aR->Prop):List S->Prop
 | [.t (.int j)]=>kc j/\W (bT 0 j.toNat) δ
 | _=>False
theorem Cw (W:List T->aR->Prop):fV ws δ W=ws δ (Qr δ W):=rfl
theorem NR (W:List T->aR->Prop)(j:Int):Qr δ W [.t (.int j)]=(kc j/\W (bT 0 j.toNat) δ):=rfl
def K0 (δ:aR)(W:List T->aR->Prop):List S->Prop
 | [.t (.int i),.t (.int j)]=>kc i/\kc j/\W (bT i (j-i).toNat) δ
 | _=>False
theorem Cy (W:List T->aR->Prop):Ol ws δ W=ws δ (K0 δ W):=rfl
theorem NS (W:List T->aR->Prop)(i j:Int):K0 δ W [.t (.int i),.t (.int j)]=(kc i/\kc j/\W (bT i (j-i).toNat) δ):=rfl
theorem Hy (R:aR->Prop):aU i x δ R=R (δ.set i (some (.t x))):=rfl
theorem Lr (g:List T->aR->(aR->Prop)->Prop)(R:aR->Prop)(ts:List T):w8 g (.tup ts) δ R=g ts δ R:=rfl
theorem Lq (R:aR->Prop):qL [] δ R=R δ:=rfl
theorem Hx (g:WG)(gr:List T->aR->(aR->Prop)->Prop)(R:aR->Prop)(r:List T):iW g gr (x::r) δ R=g x δ fun δ1=>gr r δ1 R:=rfl
theorem O7 (g:WG):Hc we g D δ=we δ (Kp g δ D.nx):=rfl
theorem Of (g:WG)(N:aR->Prop):Kp g δ N (.t x)=g x δ N:=rfl
theorem Og (g:WG)(N:aR->Prop):Kp g δ N (.vt x)=g x (freeze δ) N:=rfl
def Qf (i j:Nat)(δ:aR)(N:aR->Prop):List S->Prop
 | [.t x,.t y]=>N ((δ.set i (some (.t x))).set j (some (.t y)))
 | _=>False
theorem O3:Kq i j ws D δ=ws δ (Qf i j δ D.nx):=rfl
theorem Nn (N:aR->Prop):Qf i j δ N [.t x,.t y]=N ((δ.set i (some (.t x))).set j (some (.t y))):=rfl
theorem HE (wl wh:aR->(Option Int->Prop)->Prop):dz we wl wh δ R=we δ fun s=>wl δ fun lo=>wh δ fun hi=>yE lo hi R s:=rfl
theorem NZ (lo hi:Option Int)(ts:List T):yE lo hi R (.t (.lst ts))=R (.ol (fX ts lo hi)):=rfl
theorem N1 (lo hi:Option Int)(ts:List T):yE lo hi R (.vt (.lst ts))=(cF ts=true/\R (.ol (fX ts lo hi))):=rfl
theorem N0 (lo hi:Option Int)(ts:List T):yE lo hi R (.ol ts)=R (.ol (fX ts lo hi)):=rfl
theorem LL:Hb we D δ=we (freeze δ) fun s=>D.rt (out s):=rfl
theorem ON (a b:S):nV a b R=tN (fun ts=>tN (fun us=>ts.length+us.length<=100000/\R (.ol (ts++us))) b) a:=rfl
theorem LZ (R:List T->Prop)(ts:List T):tN R (.t (.lst ts))=R ts:=rfl
theorem L3 (R:List T->Prop)(ts:List T):tN R (.vt (.lst ts))=(cF ts=true/\R ts):=rfl
theorem L1 (R:List T->Prop)(ts:List T):tN R (.ol ts)=R ts:=rfl
theorem Lm (own:Nat)(fr:List Nat)(wi:WI)(g:WG)(te:WE):dZ own fr wi g t te δ R=wi δ fun ts δ'=>pA g t te ts (qX own fr (freeze δ')) fun acc=>R (.ol acc):=rfl
theorem O9 (R:Bool->Prop):nZ δ R=R true:=rfl
theorem zL (k:T->Prop):si k (.t x)=(lP x=true/\k x):=rfl
theorem IH (k:T->Prop)(ts:List T):si k (.ol ts)=(cF ts=true/\k (.lst ts)):=rfl
theorem JO:lP .non=true:=rfl
theorem NJ (b:Bool):lP (.bl b)=true:=rfl
theorem JM (b:Int):lP (.int b)=true:=rfl
theorem JP (b:PySem.Str):lP (.str b)=true:=rfl
theorem JQ (ts:List T):lP (.tup ts)=cF ts:=rfl
theorem JN (ts:List T):lP (.lst ts)=false:=rfl
theorem Gu:cF []=true:=rfl
theorem sM (ts:List T):cF (x::ts)=(lP x && cF ts):=rfl
theorem HC (R:Option Int->Prop):dy δ R=R none:=rfl
def Ql (R:Option Int->Prop):S->Prop
 | .t (.int i)=>R (some i)
 | _=>False
theorem LI (R:Option Int->Prop):fU we δ R=we δ (Ql R):=rfl
theorem NE (R:Option Int->Prop)(i:Int):Ql R (.t (.int i))=R (some i):=rfl
def Pb (i:Nat)(δ:aR)(N:aR->Prop)(ts:List T):S->Prop
 | .t x=>ts.length<100000/\N (δ.set i (some (.ol (ts++[x]))))
 | _=>False
theorem Cr:fy i we D δ=qa i δ fun ts=>we δ (Pb i δ D.nx ts):=rfl
theorem LP (N:aR->Prop)(ts:List T):Pb i δ N ts (.t x)=(ts.length<100000/\N (δ.set i (some (.ol (ts++[x]))))):=rfl
theorem O4:Kr i D δ=qa i δ fun ts=>ts≠[]/\D.nx (δ.set i (some (.ol ts.dropLast))):=rfl
def Kd (i:Nat)(δ:aR)(N:aR->Prop)(ts:List T):S->S->Prop
 | .t x,.t (.int k)=>match uG ts.length k with
  | some j=>N (δ.set i (some (.ol (ts.set j x))))
  | none=>False
 | _,_=>False
theorem HD:nt i we wv D δ=qa i δ fun ts=>wv δ fun v=>we δ fun s=>Kd i δ D.nx ts v s:=rfl
end
theorem yU {ts:List T}{i:Int}{R:S->Prop}(h0:0<=i)(h1:i<ts.length)(h:∀ x∈ts,R (.t x)):atT ts i R:=by
 have hl:i.toNat<ts.length:=by omega
 have e:i=((i.toNat:Nat):Int):=by omega
 rw[e,eu (dq (x:=ts[i.toNat]) (by simp[hl]))]
 exact h _ (getElem_mem hl)
theorem CF {ns:List Int}{i:Int}{R:S->Prop}(h0:0<=i)(h1:i<ns.length)(h:∀ v∈ns,R (.t (.int v))):atT (ns.map .int) i R:=
 yU h0 (by rw[length_map];exact h1) fun x hx=>by
  obtain⟨v,hv,rfl⟩:=mem_map.mp hx;exact h v hv
theorem C8 {i j:Int}(h:j≠0)(h2:j.natAbs.log2<9000):oZ i j:=⟨h,PyProof.noPylong_of_log2 h2⟩
theorem Ja {i j:Int}(h1:-18446744073709551616<i)(h2:i<18446744073709551616):MulOk i j:=⟨Hj.ok (.inl ⟨by omega,by omega⟩)⟩
theorem P3 {i j:Int}(h1:-18446744073709551616<j)(h2:j<18446744073709551616):MulOk i j:=⟨Hj.ok (.inr ⟨by omega,by omega⟩)⟩
theorem mK (i:Int):(if i<0 then -i else i)=(i.natAbs:Int):=by split <;> omega
theorem pR (g l:Nat):(g:Int).fmod (l:Int)=((g % l:Nat):Int):=by
 rw[Int.fmod_eq_emod_of_nonneg _ (Int.natCast_nonneg l)];rfl
theorem fmod_lo (c:Int){n:Int}(h:0<n):0<=c.fmod n:=Int.fmod_nonneg_of_pos c h
theorem fmod_hi (c:Int){n:Int}(h:0<n):c.fmod n<n:=Int.fmod_lt_of_pos c h
end DL
namespace DL
open L2
structure Sz (n:Nat) (i:Int):Prop where
 lt:i.natAbs<2 ^ n
theorem Sz.mono {m n:Nat}{i:Int}(h:Sz m i)(l:m<=n):Sz n i:=⟨lt_of_lt_of_le h.lt (Nat.pow_le_pow_right (by decide) l)⟩
theorem Sz.mul {m n:Nat}{a b:Int}(ha:Sz m a)(hb:Sz n b):Sz (m+n) (a*b):=by
 have ha:=ha.lt;have hb:=hb.lt;refine⟨?_⟩;rw[Int.natAbs_mul,Nat.pow_add];exact Nat.mul_lt_mul_of_lt_of_le ha (Nat.le_of_lt hb) (Nat.pos_of_ne_zero (by have:=Nat.two_pow_pos n;omega))
theorem AC {m n:Nat}{x y:Nat}(ha:x<2 ^ m)(hb:y<2 ^ n):x+y<2 ^ (max m n+1):=by
 have h1:2 ^ m<=2 ^ max m n:=Nat.pow_le_pow_right (by decide) (Nat.le_max_left _ _)
 have h2:2 ^ n<=2 ^ max m n:=Nat.pow_le_pow_right (by decide) (Nat.le_max_right _ _)
 rw[Nat.pow_succ];omega
theorem Sz.add {m n:Nat}{a b:Int}(ha:Sz m a)(hb:Sz n b):Sz (max m n+1) (a+b):=by
 have:=AC ha.lt hb.lt;refine⟨?_⟩;omega
theorem Sz.sub {m n:Nat}{a b:Int}(ha:Sz m a)(hb:Sz n b):Sz (max m n+1) (a-b):=by
 have:=AC ha.lt hb.lt;refine⟨?_⟩;omega
theorem Sz.neg {m:Nat}{a:Int}(ha:Sz m a):Sz m (-a):=by
 refine⟨?_⟩;rw[Int.natAbs_neg];exact ha.lt
theorem natAbs_fdiv_le (a b:Int):(a.fdiv b).natAbs<=a.natAbs:=by
 cases a with
 | ofNat m=>
  cases b with
  | ofNat n=>
   cases m with
   | zero=>show(0:Int).natAbs<=_;simp
   | succ m=>show(Int.ofNat ((m+1) / n)).natAbs<=m+1;exact div_le_self (m+1) n
  | negSucc n=>
   cases m with
   | zero=>show(0:Int).natAbs<=_;simp
   | succ m=>
    show(Int.negSucc (m / (n+1))).natAbs<=m+1;have:(Int.negSucc (m / (n+1))).natAbs=m / (n+1)+1:=rfl;rw[this];have:=div_le_self m (n+1);omega
 | negSucc m=>
  cases b with
  | ofNat n=>
   cases n with
   | zero=>show(0:Int).natAbs<=_;simp
   | succ n=>
    show(Int.negSucc (m / (n+1))).natAbs<=m+1;have:(Int.negSucc (m / (n+1))).natAbs=m / (n+1)+1:=rfl;rw[this];have:=div_le_self m (n+1);omega
  | negSucc n=>
   show(Int.ofNat ((m+1) / (n+1))).natAbs<=m+1;exact div_le_self (m+1) (n+1)
theorem Sz.fdiv {m:Nat}{a:Int}(ha:Sz m a)(b:Int):Sz m (a.fdiv b):=⟨lt_of_le_of_lt (natAbs_fdiv_le a b) ha.lt⟩
theorem Sz.fmod {m:Nat}{b:Int}(hb:Sz m b)(h:0<b)(a:Int):Sz m (a.fmod b):=by
 have h1:=Int.fmod_nonneg_of_pos a h;have h2:=Int.fmod_lt_of_pos a h;have:=hb.lt;exact⟨by omega⟩
theorem Sz.of {m:Nat}{a:Int}(h1:-(2 ^ m:Nat)<a)(h2:a<(2 ^ m:Nat)):Sz m a:=⟨by omega⟩
theorem Sz.gcdL {m:Nat}{a b:Int}(ha:Sz m a)(h:a≠0):Sz m (Int.gcd a b):=by
 have:Int.gcd a b<=a.natAbs:=Nat.le_of_dvd (by omega) (Int.gcd_dvd_natAbs_left a b)
 have:=ha.lt;have e:((Int.gcd a b:Nat):Int).natAbs=Int.gcd a b:=rfl;refine⟨?_⟩;rw[e];omega
theorem Sz.gcd {m n:Nat}{a b:Int}(ha:Sz m a)(hb:Sz n b):Sz (max m n) (Int.gcd a b):=by
 by_cases h:a=0
 ·subst h;have e:Int.gcd 0 b=b.natAbs:=Int.gcd_zero_left b;rw[e];exact Sz.mono (show Sz n (b.natAbs:Int) from⟨hb.lt⟩) (Nat.le_max_right _ _)
 ·exact(Sz.gcdL ha h).mono (Nat.le_max_left _ _)
theorem pj {n:Nat}{a:Int}(h:Sz n a)(hn:n<=1048576):PySem.Builtin.Int.intBits a<=2 ^ 20:=by
 unfold PySem.Builtin.Int.intBits;have e:(2:Nat) ^ 20=1048576:=by decide
 rw[e]
 by_cases h0:a.natAbs=0
 ·simp only[h0];split <;> first|omega|simp
 ·have:=(Nat.log2_lt h0).mpr h.lt
  first
   | omega
   | (simp only[h0];omega)
   | (split <;> omega)
theorem bF {m n:Nat}{a b:Int}(ha:Sz m a)(hb:Sz n b)(h1:m<=1048576)(h2:n<=1048576):MulOk a b:=⟨PySem.IntMulOk.of_bits (pj ha h1) (pj hb h2)⟩
theorem zk {n:Nat}{i j:Int}(h:j≠0)(hs:Sz n j)(hn:n<=9000):oZ i j:=by
 refine C8 h ?_;have h0:j.natAbs≠0:=by omega
 have:=(Nat.log2_lt h0).mpr hs.lt;omega
theorem Mh {n:Nat}{i j:Int}(h:j≠0)(hs:Sz n i)(hn:n<=13500):oZ i j:=by
 refine⟨h,?_⟩;unfold PySem.Builtin.divisionGoesByPylong;simp only[Bool.and_eq_false_iff,decide_eq_false_iff_not]
 by_cases h1:(if (j == 0)=true then 0 else j.natAbs.log2 / 30+1)>300
 ·right
  by_cases h0:(i == 0)=true
  ·rw[if_pos h0];omega
  ·rw[if_neg h0];have h0':i.natAbs≠0:=by simpa using h0
   have:=(Nat.log2_lt h0').mpr hs.lt;omega
 ·left;exact h1
theorem lS {i:Int}(h1:-(2 ^ 62)<=i)(h2:i<2 ^ 62):kc i:=⟨h1,h2⟩
theorem Gp {i j:Int}(h1:0<=j)(h2:j<=1000000)(h3:i.natAbs<2 ^ 64):Co i j:=⟨⟨h1,h2,h3⟩⟩
end DL
namespace DL
open L2
abbrev Fr:=Int × Int
abbrev Pt:=Int × Int
abbrev aD:=Fr × Fr
abbrev Hf:=Int × Int × Int
def aN (p:Pt):T:=.tup [.int p.1,.int p.2]
def xf (p:Fr):T:=.tup [.int p.1,.int p.2]
def spT (s:aD):T:=.tup [xf s.1,xf s.2]
def a5 (h:Hf):T:=.tup [.int h.1,.int h.2.1,.int h.2.2]
theorem An (p:Pt):lP (aN p)=true:=rfl
theorem bB {α:Type}{f:α->T}(h:∀ a,lP (f a)=true):∀ l:List α,cF (l.map f)=true
 | []=>rfl
 | a::r=>by rw[map_cons,sM,h a,bB h r];rfl
theorem gU {α:Type}{f:α->T}{n:Nat}(h:∀ a,dep (f a)<=n):∀ l:List α,fY (l.map f)<=n
 | []=>zero_le _
 | a::r=>by
  rw[map_cons];have:=gU h r;have:=h a;simp only[fY];omega
theorem pM {α:Type}{f:α->T}(h:∀ a b,eqT (f a) (f b)=true↔a=b):∀ l m:List α,cD (l.map f) (m.map f)=true↔l=m
 | [],[]=>by simp[cD]
 | [],_::_=>by simp[cD]
 | _::_,[]=>by simp[cD]
 | a::r,b::s=>by
  simp only[map_cons,cD,Bool.and_eq_true,h a b,pM h r s,List.cons.injEq]
theorem br (a b:Int):eqT (.int a) (.int b)=true↔a=b:=by simp[eqT]
theorem bt (a b:Pt):eqT (aN a) (aN b)=true↔a=b:=by
 simp only[aN,eqT,cD,Bool.and_eq_true,beq_iff_eq,Bool.and_true,Prod.ext_iff]
theorem a7 (a b:aD):eqT (spT a) (spT b)=true↔a=b:=by
 obtain⟨⟨a1,a2⟩,a3,a4⟩:=a;obtain⟨⟨b1,b2⟩,b3,b4⟩:=b;simp only[spT,xf,eqT,cD,Bool.and_eq_true,beq_iff_eq,Bool.and_true,Prod.mk.injEq]
theorem bo (a b:Hf):eqT (a5 a) (a5 b)=true↔a=b:=by
 obtain⟨a1,a2,a3⟩:=a;obtain⟨b1,b2,b3⟩:=b;simp only[a5,eqT,cD,Bool.and_eq_true,beq_iff_eq,Bool.and_true,Prod.mk.injEq]
theorem bj (a:Pt):dep (aN a)<=2:=by show 1<=2;decide
theorem bc (a:aD):dep (spT a)<=2:=by show 2<=2;decide
theorem bi (a:Hf):dep (a5 a)<=2:=by show 1<=2;decide
theorem vG {b:Bool}{P:Prop}[Decidable P](h:b=true↔P):b=decide P:=by
 cases b with
 | true=>exact(decide_eq_true (h.mp rfl)).symm
 | false=>exact(decide_eq_false fun p=>by cases h.mpr p).symm
section
variable (R:S->Prop)
theorem DJ {a b:S}{P:Prop}[Decidable P](h1:dep (tr a)<=20)(h2:dep (tr b)<=20)(h:eqT (tr a) (tr b)=true↔P):dW a b R=R (.t (.bl (decide P))):=by
 unfold dW QU;rw[vG h];exact propext ⟨fun z=>z.2.2,fun z=>⟨h1,h2,z⟩⟩
theorem xX {a b:S}{P:Prop}[Decidable P](h1:dep (tr a)<=20)(h2:dep (tr b)<=20)(h:eqT (tr a) (tr b)=true↔P):dY a b R=R (.t (.bl (!decide P))):=by
 unfold dY QU;rw[vG h];exact propext ⟨fun z=>z.2.2,fun z=>⟨h1,h2,z⟩⟩
theorem PJ (a b c d:Int):dW (.t (.tup [.int a,.int b])) (.t (.tup [.int c,.int d])) R=R (.t (.bl (decide (a=c/\b=d)))):=DJ R (by show 1<=20;decide) (by show 1<=20;decide) (by simp[tr,eqT,cD])
theorem P7 (a b c d:Int):dY (.t (.tup [.int a,.int b])) (.t (.tup [.int c,.int d])) R=R (.t (.bl (!decide (a=c/\b=d)))):=xX R (by show 1<=20;decide) (by show 1<=20;decide) (by simp[tr,eqT,cD])
theorem PF (a b c d e f:Int):dW (.t (.tup [.int a,.int b,.int c])) (.t (.tup [.int d,.int e,.int f])) R=R (.t (.bl (decide (a=d/\b=e/\c=f)))):=DJ R (by show 1<=20;decide) (by show 1<=20;decide) (by simp[tr,eqT,cD])
theorem P5 (a b c d e f:Int):dY (.t (.tup [.int a,.int b,.int c])) (.t (.tup [.int d,.int e,.int f])) R=R (.t (.bl (!decide (a=d/\b=e/\c=f)))):=xX R (by show 1<=20;decide) (by show 1<=20;decide) (by simp[tr,eqT,cD])
theorem ay {α:Type}[DecidableEq α]{f:α->T}{a b:S}{l m:List α}(hf:∀ a b,eqT (f a) (f b)=true↔a=b)(hd:∀ a,dep (f a)<=2)(ha:tr a=.lst (l.map f))(hb:tr b=.lst (m.map f)):dW a b R=R (.t (.bl (decide (l=m)))):=
 DJ R (by rw[ha];have:=gU hd l;simp only[dep];omega) (by rw[hb];have:=gU hd m;simp only[dep];omega) (by rw[ha,hb];simp only[eqT];exact pM hf l m)
theorem az {α:Type}[DecidableEq α]{f:α->T}{a b:S}{l m:List α}(hf:∀ a b,eqT (f a) (f b)=true↔a=b)(hd:∀ a,dep (f a)<=2)(ha:tr a=.lst (l.map f))(hb:tr b=.lst (m.map f)):dY a b R=R (.t (.bl (!decide (l=m)))):=
 xX R (by rw[ha];have:=gU hd l;simp only[dep];omega) (by rw[hb];have:=gU hd m;simp only[dep];omega) (by rw[ha,hb];simp only[eqT];exact pM hf l m)
end
def dk (n:Nat)(h:Hf):Prop:=Sz n h.1/\Sz n h.2.1/\Sz n h.2.2
def SzF (n:Nat)(s:Fr):Prop:=Sz n s.1/\Sz n s.2
def fe (n:Nat)(s:aD):Prop:=SzF n s.1/\SzF n s.2
theorem uq:cu .non .non=true:=rfl
theorem rm:cu .non .bool=false:=rfl
theorem um:cu .non .int=false:=rfl
theorem ur:cu .non .str=false:=rfl
theorem ut:cu .non .tup=false:=rfl
theorem uo:cu .non .lst=false:=rfl
theorem re:cu .bool .non=false:=rfl
theorem pV:cu .bool .bool=true:=rfl
theorem rb:cu .bool .int=true:=rfl
theorem rf:cu .bool .str=false:=rfl
theorem rg:cu .bool .tup=false:=rfl
theorem rd:cu .bool .lst=false:=rfl
theorem ue:cu .int .non=false:=rfl
theorem rh:cu .int .bool=false:=rfl
theorem uc:cu .int .int=true:=rfl
theorem uf:cu .int .str=false:=rfl
theorem ug:cu .int .tup=false:=rfl
theorem ud:cu .int .lst=false:=rfl
theorem ux:cu .str .non=false:=rfl
theorem rq:cu .str .bool=false:=rfl
theorem uu:cu .str .int=false:=rfl
theorem uy:cu .str .str=true:=rfl
theorem uz:cu .str .tup=false:=rfl
theorem uv:cu .str .lst=false:=rfl
theorem uC:cu .tup .non=false:=rfl
theorem rz:cu .tup .bool=false:=rfl
theorem uA:cu .tup .int=false:=rfl
theorem uD:cu .tup .str=false:=rfl
theorem uE:cu .tup .tup=true:=rfl
theorem uB:cu .tup .lst=false:=rfl
theorem uj:cu .lst .non=false:=rfl
theorem rj:cu .lst .bool=false:=rfl
theorem uh:cu .lst .int=false:=rfl
theorem uk:cu .lst .str=false:=rfl
theorem ul:cu .lst .tup=false:=rfl
theorem ui:cu .lst .lst=true:=rfl
theorem Ao (l:List Pt):cF (l.map aN)=true:=bB (fun _=>rfl) l
theorem DR (R:S->Prop)(l m:List Pt):dW (.t (.lst (l.map aN))) (.t (.lst (m.map aN))) R=R (.t (.bl (decide (l=m)))):=ay R bt bj rfl rfl
theorem Fu (R:S->Prop)(l m:List Pt):dY (.t (.lst (l.map aN))) (.t (.lst (m.map aN))) R=R (.t (.bl (!decide (l=m)))):=az R bt bj rfl rfl
theorem DS (R:S->Prop)(l m:List Pt):dW (.t (.lst (l.map aN))) (.vt (.lst (m.map aN))) R=R (.t (.bl (decide (l=m)))):=ay R bt bj rfl rfl
theorem Fv (R:S->Prop)(l m:List Pt):dY (.t (.lst (l.map aN))) (.vt (.lst (m.map aN))) R=R (.t (.bl (!decide (l=m)))):=az R bt bj rfl rfl
theorem DQ (R:S->Prop)(l m:List Pt):dW (.t (.lst (l.map aN))) (.ol (m.map aN)) R=R (.t (.bl (decide (l=m)))):=ay R bt bj rfl rfl
theorem Ft (R:S->Prop)(l m:List Pt):dY (.t (.lst (l.map aN))) (.ol (m.map aN)) R=R (.t (.bl (!decide (l=m)))):=az R bt bj rfl rfl
theorem DV (R:S->Prop)(l m:List Pt):dW (.vt (.lst (l.map aN))) (.t (.lst (m.map aN))) R=R (.t (.bl (decide (l=m)))):=ay R bt bj rfl rfl
theorem Fy (R:S->Prop)(l m:List Pt):dY (.vt (.lst (l.map aN))) (.t (.lst (m.map aN))) R=R (.t (.bl (!decide (l=m)))):=az R bt bj rfl rfl
theorem DW (R:S->Prop)(l m:List Pt):dW (.vt (.lst (l.map aN))) (.vt (.lst (m.map aN))) R=R (.t (.bl (decide (l=m)))):=ay R bt bj rfl rfl
theorem Fz (R:S->Prop)(l m:List Pt):dY (.vt (.lst (l.map aN))) (.vt (.lst (m.map aN))) R=R (.t (.bl (!decide (l=m)))):=az R bt bj rfl rfl
theorem DU (R:S->Prop)(l m:List Pt):dW (.vt (.lst (l.map aN))) (.ol (m.map aN)) R=R (.t (.bl (decide (l=m)))):=ay R bt bj rfl rfl
theorem Fx (R:S->Prop)(l m:List Pt):dY (.vt (.lst (l.map aN))) (.ol (m.map aN)) R=R (.t (.bl (!decide (l=m)))):=az R bt bj rfl rfl
theorem DN (R:S->Prop)(l m:List Pt):dW (.ol (l.map aN)) (.t (.lst (m.map aN))) R=R (.t (.bl (decide (l=m)))):=ay R bt bj rfl rfl
theorem Fp (R:S->Prop)(l m:List Pt):dY (.ol (l.map aN)) (.t (.lst (m.map aN))) R=R (.t (.bl (!decide (l=m)))):=az R bt bj rfl rfl
theorem DO (R:S->Prop)(l m:List Pt):dW (.ol (l.map aN)) (.vt (.lst (m.map aN))) R=R (.t (.bl (decide (l=m)))):=ay R bt bj rfl rfl
theorem Fq (R:S->Prop)(l m:List Pt):dY (.ol (l.map aN)) (.vt (.lst (m.map aN))) R=R (.t (.bl (!decide (l=m)))):=az R bt bj rfl rfl
theorem DM (R:S->Prop)(l m:List Pt):dW (.ol (l.map aN)) (.ol (m.map aN)) R=R (.t (.bl (decide (l=m)))):=ay R bt bj rfl rfl
theorem Fo (R:S->Prop)(l m:List Pt):dY (.ol (l.map aN)) (.ol (m.map aN)) R=R (.t (.bl (!decide (l=m)))):=az R bt bj rfl rfl
theorem DP (R:S->Prop)(l:List Pt):dW (.t (.lst (l.map aN))) (.ol []) R=R (.t (.bl (decide (l=[])))):=ay (m:=[]) R bt bj rfl rfl
theorem Fs (R:S->Prop)(l:List Pt):dY (.t (.lst (l.map aN))) (.ol []) R=R (.t (.bl (!decide (l=[])))):=az (m:=[]) R bt bj rfl rfl
theorem DT (R:S->Prop)(l:List Pt):dW (.vt (.lst (l.map aN))) (.ol []) R=R (.t (.bl (decide (l=[])))):=ay (m:=[]) R bt bj rfl rfl
theorem Fw (R:S->Prop)(l:List Pt):dY (.vt (.lst (l.map aN))) (.ol []) R=R (.t (.bl (!decide (l=[])))):=az (m:=[]) R bt bj rfl rfl
theorem DK (R:S->Prop)(l:List Pt):dW (.ol (l.map aN)) (.ol []) R=R (.t (.bl (decide (l=[])))):=ay (m:=[]) R bt bj rfl rfl
theorem Fn (R:S->Prop)(l:List Pt):dY (.ol (l.map aN)) (.ol []) R=R (.t (.bl (!decide (l=[])))):=az (m:=[]) R bt bj rfl rfl
theorem JR (l:List Hf):cF (l.map a5)=true:=bB (fun _=>rfl) l
theorem Dr (R:S->Prop)(l m:List Hf):dW (.t (.lst (l.map a5))) (.t (.lst (m.map a5))) R=R (.t (.bl (decide (l=m)))):=ay R bo bi rfl rfl
theorem E4 (R:S->Prop)(l m:List Hf):dY (.t (.lst (l.map a5))) (.t (.lst (m.map a5))) R=R (.t (.bl (!decide (l=m)))):=az R bo bi rfl rfl
theorem Ds (R:S->Prop)(l m:List Hf):dW (.t (.lst (l.map a5))) (.vt (.lst (m.map a5))) R=R (.t (.bl (decide (l=m)))):=ay R bo bi rfl rfl
theorem E5 (R:S->Prop)(l m:List Hf):dY (.t (.lst (l.map a5))) (.vt (.lst (m.map a5))) R=R (.t (.bl (!decide (l=m)))):=az R bo bi rfl rfl
theorem Dq (R:S->Prop)(l m:List Hf):dW (.t (.lst (l.map a5))) (.ol (m.map a5)) R=R (.t (.bl (decide (l=m)))):=ay R bo bi rfl rfl
theorem E3 (R:S->Prop)(l m:List Hf):dY (.t (.lst (l.map a5))) (.ol (m.map a5)) R=R (.t (.bl (!decide (l=m)))):=az R bo bi rfl rfl
theorem Dv (R:S->Prop)(l m:List Hf):dW (.vt (.lst (l.map a5))) (.t (.lst (m.map a5))) R=R (.t (.bl (decide (l=m)))):=ay R bo bi rfl rfl
theorem E8 (R:S->Prop)(l m:List Hf):dY (.vt (.lst (l.map a5))) (.t (.lst (m.map a5))) R=R (.t (.bl (!decide (l=m)))):=az R bo bi rfl rfl
theorem Dw (R:S->Prop)(l m:List Hf):dW (.vt (.lst (l.map a5))) (.vt (.lst (m.map a5))) R=R (.t (.bl (decide (l=m)))):=ay R bo bi rfl rfl
theorem E9 (R:S->Prop)(l m:List Hf):dY (.vt (.lst (l.map a5))) (.vt (.lst (m.map a5))) R=R (.t (.bl (!decide (l=m)))):=az R bo bi rfl rfl
theorem Du (R:S->Prop)(l m:List Hf):dW (.vt (.lst (l.map a5))) (.ol (m.map a5)) R=R (.t (.bl (decide (l=m)))):=ay R bo bi rfl rfl
theorem E7 (R:S->Prop)(l m:List Hf):dY (.vt (.lst (l.map a5))) (.ol (m.map a5)) R=R (.t (.bl (!decide (l=m)))):=az R bo bi rfl rfl
theorem Dm (R:S->Prop)(l m:List Hf):dW (.ol (l.map a5)) (.t (.lst (m.map a5))) R=R (.t (.bl (decide (l=m)))):=ay R bo bi rfl rfl
theorem EZ (R:S->Prop)(l m:List Hf):dY (.ol (l.map a5)) (.t (.lst (m.map a5))) R=R (.t (.bl (!decide (l=m)))):=az R bo bi rfl rfl
theorem Do (R:S->Prop)(l m:List Hf):dW (.ol (l.map a5)) (.vt (.lst (m.map a5))) R=R (.t (.bl (decide (l=m)))):=ay R bo bi rfl rfl
theorem E1 (R:S->Prop)(l m:List Hf):dY (.ol (l.map a5)) (.vt (.lst (m.map a5))) R=R (.t (.bl (!decide (l=m)))):=az R bo bi rfl rfl
theorem Dl (R:S->Prop)(l m:List Hf):dW (.ol (l.map a5)) (.ol (m.map a5)) R=R (.t (.bl (decide (l=m)))):=ay R bo bi rfl rfl
theorem EY (R:S->Prop)(l m:List Hf):dY (.ol (l.map a5)) (.ol (m.map a5)) R=R (.t (.bl (!decide (l=m)))):=az R bo bi rfl rfl
theorem Dp (R:S->Prop)(l:List Hf):dW (.t (.lst (l.map a5))) (.ol []) R=R (.t (.bl (decide (l=[])))):=ay (m:=[]) R bo bi rfl rfl
theorem E2 (R:S->Prop)(l:List Hf):dY (.t (.lst (l.map a5))) (.ol []) R=R (.t (.bl (!decide (l=[])))):=az (m:=[]) R bo bi rfl rfl
theorem Dt (R:S->Prop)(l:List Hf):dW (.vt (.lst (l.map a5))) (.ol []) R=R (.t (.bl (decide (l=[])))):=ay (m:=[]) R bo bi rfl rfl
theorem E6 (R:S->Prop)(l:List Hf):dY (.vt (.lst (l.map a5))) (.ol []) R=R (.t (.bl (!decide (l=[])))):=az (m:=[]) R bo bi rfl rfl
theorem Dk (R:S->Prop)(l:List Hf):dW (.ol (l.map a5)) (.ol []) R=R (.t (.bl (decide (l=[])))):=ay (m:=[]) R bo bi rfl rfl
theorem EX (R:S->Prop)(l:List Hf):dY (.ol (l.map a5)) (.ol []) R=R (.t (.bl (!decide (l=[])))):=az (m:=[]) R bo bi rfl rfl
theorem JT (l:List aD):cF (l.map spT)=true:=bB (fun _=>rfl) l
theorem D6 (R:S->Prop)(l m:List aD):dW (.t (.lst (l.map spT))) (.t (.lst (m.map spT))) R=R (.t (.bl (decide (l=m)))):=ay R a7 bc rfl rfl
theorem FG (R:S->Prop)(l m:List aD):dY (.t (.lst (l.map spT))) (.t (.lst (m.map spT))) R=R (.t (.bl (!decide (l=m)))):=az R a7 bc rfl rfl
theorem D7 (R:S->Prop)(l m:List aD):dW (.t (.lst (l.map spT))) (.vt (.lst (m.map spT))) R=R (.t (.bl (decide (l=m)))):=ay R a7 bc rfl rfl
theorem FH (R:S->Prop)(l m:List aD):dY (.t (.lst (l.map spT))) (.vt (.lst (m.map spT))) R=R (.t (.bl (!decide (l=m)))):=az R a7 bc rfl rfl
theorem D2 (R:S->Prop)(l m:List aD):dW (.t (.lst (l.map spT))) (.ol (m.map spT)) R=R (.t (.bl (decide (l=m)))):=ay R a7 bc rfl rfl
theorem FF (R:S->Prop)(l m:List aD):dY (.t (.lst (l.map spT))) (.ol (m.map spT)) R=R (.t (.bl (!decide (l=m)))):=az R a7 bc rfl rfl
theorem Ea (R:S->Prop)(l m:List aD):dW (.vt (.lst (l.map spT))) (.t (.lst (m.map spT))) R=R (.t (.bl (decide (l=m)))):=ay R a7 bc rfl rfl
theorem FK (R:S->Prop)(l m:List aD):dY (.vt (.lst (l.map spT))) (.t (.lst (m.map spT))) R=R (.t (.bl (!decide (l=m)))):=az R a7 bc rfl rfl
theorem Eb (R:S->Prop)(l m:List aD):dW (.vt (.lst (l.map spT))) (.vt (.lst (m.map spT))) R=R (.t (.bl (decide (l=m)))):=ay R a7 bc rfl rfl
theorem FL (R:S->Prop)(l m:List aD):dY (.vt (.lst (l.map spT))) (.vt (.lst (m.map spT))) R=R (.t (.bl (!decide (l=m)))):=az R a7 bc rfl rfl
theorem D9 (R:S->Prop)(l m:List aD):dW (.vt (.lst (l.map spT))) (.ol (m.map spT)) R=R (.t (.bl (decide (l=m)))):=ay R a7 bc rfl rfl
theorem FJ (R:S->Prop)(l m:List aD):dY (.vt (.lst (l.map spT))) (.ol (m.map spT)) R=R (.t (.bl (!decide (l=m)))):=az R a7 bc rfl rfl
theorem DZ (R:S->Prop)(l m:List aD):dW (.ol (l.map spT)) (.t (.lst (m.map spT))) R=R (.t (.bl (decide (l=m)))):=ay R a7 bc rfl rfl
theorem FC (R:S->Prop)(l m:List aD):dY (.ol (l.map spT)) (.t (.lst (m.map spT))) R=R (.t (.bl (!decide (l=m)))):=az R a7 bc rfl rfl
theorem D0 (R:S->Prop)(l m:List aD):dW (.ol (l.map spT)) (.vt (.lst (m.map spT))) R=R (.t (.bl (decide (l=m)))):=ay R a7 bc rfl rfl
theorem FD (R:S->Prop)(l m:List aD):dY (.ol (l.map spT)) (.vt (.lst (m.map spT))) R=R (.t (.bl (!decide (l=m)))):=az R a7 bc rfl rfl
theorem DY (R:S->Prop)(l m:List aD):dW (.ol (l.map spT)) (.ol (m.map spT)) R=R (.t (.bl (decide (l=m)))):=ay R a7 bc rfl rfl
theorem FB (R:S->Prop)(l m:List aD):dY (.ol (l.map spT)) (.ol (m.map spT)) R=R (.t (.bl (!decide (l=m)))):=az R a7 bc rfl rfl
theorem D1 (R:S->Prop)(l:List aD):dW (.t (.lst (l.map spT))) (.ol []) R=R (.t (.bl (decide (l=[])))):=ay (m:=[]) R a7 bc rfl rfl
theorem FE (R:S->Prop)(l:List aD):dY (.t (.lst (l.map spT))) (.ol []) R=R (.t (.bl (!decide (l=[])))):=az (m:=[]) R a7 bc rfl rfl
theorem D8 (R:S->Prop)(l:List aD):dW (.vt (.lst (l.map spT))) (.ol []) R=R (.t (.bl (decide (l=[])))):=ay (m:=[]) R a7 bc rfl rfl
theorem FI (R:S->Prop)(l:List aD):dY (.vt (.lst (l.map spT))) (.ol []) R=R (.t (.bl (!decide (l=[])))):=az (m:=[]) R a7 bc rfl rfl
theorem DX (R:S->Prop)(l:List aD):dW (.ol (l.map spT)) (.ol []) R=R (.t (.bl (decide (l=[])))):=ay (m:=[]) R a7 bc rfl rfl
theorem FA (R:S->Prop)(l:List aD):dY (.ol (l.map spT)) (.ol []) R=R (.t (.bl (!decide (l=[])))):=az (m:=[]) R a7 bc rfl rfl
theorem JS (l:List Int):cF (l.map T.int)=true:=bB (fun _=>rfl) l
theorem DD (R:S->Prop)(l m:List Int):dW (.t (.lst (l.map T.int))) (.t (.lst (m.map T.int))) R=R (.t (.bl (decide (l=m)))):=ay R br (fun _=>by show 0<=2;decide) rfl rfl
theorem Fh (R:S->Prop)(l m:List Int):dY (.t (.lst (l.map T.int))) (.t (.lst (m.map T.int))) R=R (.t (.bl (!decide (l=m)))):=az R br (fun _=>by show 0<=2;decide) rfl rfl
theorem DE (R:S->Prop)(l m:List Int):dW (.t (.lst (l.map T.int))) (.vt (.lst (m.map T.int))) R=R (.t (.bl (decide (l=m)))):=ay R br (fun _=>by show 0<=2;decide) rfl rfl
theorem Fi (R:S->Prop)(l m:List Int):dY (.t (.lst (l.map T.int))) (.vt (.lst (m.map T.int))) R=R (.t (.bl (!decide (l=m)))):=az R br (fun _=>by show 0<=2;decide) rfl rfl
theorem DC (R:S->Prop)(l m:List Int):dW (.t (.lst (l.map T.int))) (.ol (m.map T.int)) R=R (.t (.bl (decide (l=m)))):=ay R br (fun _=>by show 0<=2;decide) rfl rfl
theorem Fg (R:S->Prop)(l m:List Int):dY (.t (.lst (l.map T.int))) (.ol (m.map T.int)) R=R (.t (.bl (!decide (l=m)))):=az R br (fun _=>by show 0<=2;decide) rfl rfl
theorem DH (R:S->Prop)(l m:List Int):dW (.vt (.lst (l.map T.int))) (.t (.lst (m.map T.int))) R=R (.t (.bl (decide (l=m)))):=ay R br (fun _=>by show 0<=2;decide) rfl rfl
theorem Fl (R:S->Prop)(l m:List Int):dY (.vt (.lst (l.map T.int))) (.t (.lst (m.map T.int))) R=R (.t (.bl (!decide (l=m)))):=az R br (fun _=>by show 0<=2;decide) rfl rfl
theorem DI (R:S->Prop)(l m:List Int):dW (.vt (.lst (l.map T.int))) (.vt (.lst (m.map T.int))) R=R (.t (.bl (decide (l=m)))):=ay R br (fun _=>by show 0<=2;decide) rfl rfl
theorem Fm (R:S->Prop)(l m:List Int):dY (.vt (.lst (l.map T.int))) (.vt (.lst (m.map T.int))) R=R (.t (.bl (!decide (l=m)))):=az R br (fun _=>by show 0<=2;decide) rfl rfl
theorem DG (R:S->Prop)(l m:List Int):dW (.vt (.lst (l.map T.int))) (.ol (m.map T.int)) R=R (.t (.bl (decide (l=m)))):=ay R br (fun _=>by show 0<=2;decide) rfl rfl
theorem Fk (R:S->Prop)(l m:List Int):dY (.vt (.lst (l.map T.int))) (.ol (m.map T.int)) R=R (.t (.bl (!decide (l=m)))):=az R br (fun _=>by show 0<=2;decide) rfl rfl
theorem Dz (R:S->Prop)(l m:List Int):dW (.ol (l.map T.int)) (.t (.lst (m.map T.int))) R=R (.t (.bl (decide (l=m)))):=ay R br (fun _=>by show 0<=2;decide) rfl rfl
theorem Fc (R:S->Prop)(l m:List Int):dY (.ol (l.map T.int)) (.t (.lst (m.map T.int))) R=R (.t (.bl (!decide (l=m)))):=az R br (fun _=>by show 0<=2;decide) rfl rfl
theorem DA (R:S->Prop)(l m:List Int):dW (.ol (l.map T.int)) (.vt (.lst (m.map T.int))) R=R (.t (.bl (decide (l=m)))):=ay R br (fun _=>by show 0<=2;decide) rfl rfl
theorem Fe (R:S->Prop)(l m:List Int):dY (.ol (l.map T.int)) (.vt (.lst (m.map T.int))) R=R (.t (.bl (!decide (l=m)))):=az R br (fun _=>by show 0<=2;decide) rfl rfl
theorem Dy (R:S->Prop)(l m:List Int):dW (.ol (l.map T.int)) (.ol (m.map T.int)) R=R (.t (.bl (decide (l=m)))):=ay R br (fun _=>by show 0<=2;decide) rfl rfl
theorem Fb (R:S->Prop)(l m:List Int):dY (.ol (l.map T.int)) (.ol (m.map T.int)) R=R (.t (.bl (!decide (l=m)))):=az R br (fun _=>by show 0<=2;decide) rfl rfl
theorem DB (R:S->Prop)(l:List Int):dW (.t (.lst (l.map T.int))) (.ol []) R=R (.t (.bl (decide (l=[])))):=ay (m:=[]) R br (fun _=>by show 0<=2;decide) rfl rfl
theorem Ff (R:S->Prop)(l:List Int):dY (.t (.lst (l.map T.int))) (.ol []) R=R (.t (.bl (!decide (l=[])))):=az (m:=[]) R br (fun _=>by show 0<=2;decide) rfl rfl
theorem DF (R:S->Prop)(l:List Int):dW (.vt (.lst (l.map T.int))) (.ol []) R=R (.t (.bl (decide (l=[])))):=ay (m:=[]) R br (fun _=>by show 0<=2;decide) rfl rfl
theorem Fj (R:S->Prop)(l:List Int):dY (.vt (.lst (l.map T.int))) (.ol []) R=R (.t (.bl (!decide (l=[])))):=az (m:=[]) R br (fun _=>by show 0<=2;decide) rfl rfl
theorem Dx (R:S->Prop)(l:List Int):dW (.ol (l.map T.int)) (.ol []) R=R (.t (.bl (decide (l=[])))):=ay (m:=[]) R br (fun _=>by show 0<=2;decide) rfl rfl
theorem Fa (R:S->Prop)(l:List Int):dY (.ol (l.map T.int)) (.ol []) R=R (.t (.bl (!decide (l=[])))):=az (m:=[]) R br (fun _=>by show 0<=2;decide) rfl rfl
end DL
namespace DL
open PySem L2
section
variable {X:Cx}
variable {o e:Expr}{wo we:WE}{apos cpos:Pos}
section
variable (δ:aR) (R:S->Prop) (we wo:WE)
theorem countP_map {α:Type}[DecidableEq α]{f:α->T}(hf:∀ a b,eqT (f a) (f b)=true↔a=b)(a:α):∀ l:List α,(l.map f).countP (fun t=>eqT t (f a))=l.count a
 | []=>rfl
 | b::r=>by
  rw[map_cons,countP_cons,List.count_cons,countP_map hf a r]
  congr 1
  by_cases e:b=a
  ·subst e;simp[(hf b b).mpr rfl]
  ·have:eqT (f b) (f a)=false:=by
    cases z:eqT (f b) (f a) with
    | false=>rfl
    | true=>exact absurd ((hf b a).mp z) e
   simp[this,e]
end
end
theorem eY {α:Type}{f h:α->T}{p:α->Bool}{g:WG}{tc:WT}{te:WE}{l:List α}{δ0:aR}{R:List T->Prop}(P:aR->Prop)(hp:∀ a∈l,lP (h a)=true)(hl:l.length<100000)(h0:P δ0)
  (step:∀ a∈l,∀ δ,P δ->∀ (Y:aR->S->Prop) (N:aR->Prop),(∀ δ1,P δ1->p a=true->Y δ1 (.t (h a)))->(∀ δ1,P δ1->p a=false->N δ1)->g (f a) δ fun δ1=>tc δ1 fun ok=>if ok=true then te δ1 (fun s=>Y δ1 s) else N δ1)
  (fin:R ((l.filter p).map h)):pA g tc te (l.map f) δ0 R:=by
 refine⟨fun ts δ acc=>∃ pre post,l=pre++post/\ts=post.map f/\P δ/\acc=(pre.filter p).map h,⟨[],l,rfl,rfl,h0,rfl⟩,?_,?_⟩
 ·rintro δ acc ⟨pre,post,e,e2,_,rfl⟩;have:post=[]:=by simpa using e2.symm
  subst this;rw[append_nil]at e;subst e;exact fin
 ·rintro x r δ acc ⟨pre,post,e,e2,hP,rfl⟩
  cases post with
  | nil=>cases e2
  | cons a post=>
   rw[map_cons]at e2
   cases e2
   have ha:a∈l:=by rw[e];simp
   have hlen:((pre.filter p).map h).length<100000:=by
    rw[length_map];have h1:=length_filter_le p pre;have h2:l.length=pre.length+(post.length+1):=by rw[e];simp
    omega
   refine step a ha δ hP _ _ (fun δ1 h1 pa=>⟨hp a ha,hlen,pre++[a],post,by rw[e];simp,rfl,h1,?_⟩) (fun δ1 h1 pa=>⟨pre++[a],post,by rw[e];simp,rfl,h1,?_⟩)
   ·rw[List.filter_append,map_append];simp[List.filter,pa]
   ·rw[List.filter_append,map_append];simp[List.filter,pa]
theorem fL {α:Type}{f h:α->T}{g:WG}{te:WE}{l:List α}{δ0:aR}{R:List T->Prop}(P:aR->Prop)(hp:∀ a∈l,lP (h a)=true)(hl:l.length<100000)(h0:P δ0)
  (step:∀ a∈l,∀ δ,P δ->∀ (Y:aR->S->Prop),(∀ δ1,P δ1->Y δ1 (.t (h a)))->g (f a) δ fun δ1=>te δ1 (fun s=>Y δ1 s))
  (fin:R (l.map h)):pA g nZ te (l.map f) δ0 R:=by
 refine eY (p:=fun _=>true) P hp hl h0 (fun a ha δ hP Y N h1 h2=>?_) (by rw[List.filter_eq_self.mpr (fun _ _=>rfl)];exact fin)
 show g (f a) δ fun δ1=>if true=true then te δ1 (fun s=>Y δ1 s) else N δ1
 simp only[if_true];exact step a ha δ hP Y fun δ1 q=>h1 δ1 q rfl
theorem gX (lo:Int)(n:Nat):(bT lo n).length=n:=by unfold bT;simp
end DL
namespace L2
open PySem PyProof.Rows
theorem lI:∀ {ns:List Int}{its:List Value},aO (ns.map V.int) its->IntsAre its ns
 | [],_,.nil=>.nil
 | n::ns,_,.cons h r=>by
  obtain⟨t,rfl⟩:=h;exact .cons n t (lI r)
section
variable {X:Cx}
theorem A9 (hc:X.calm=true):fZ X (.builtin "sum") (fun xs H Q=>∃ (p:Addr) (ns:List Int),xs=[.ref p]/\cX X.K H p (ns.map V.int)/\Q (.int ns.sum) H):=by
 rintro pins s σ H xs us Q I r ⟨p,ns,rfl,hq,q⟩;obtain⟨u,rfl,rx⟩:=vals1 r
 cases rx
 obtain⟨its,rv,⟨o,n,e,c,d,da⟩,_⟩:=I.list hq;have hl:s.heap.IsList p its.toArray:=⟨o,e,c,n,da⟩;have hi:=lI rv;obtain⟨xs,hx⟩:=hi.allInts.items;have hl':s.heap.IsList p (intItems xs):=hx ▸ hl;refine sum_intListG (I.ok.hd hc) hl' fun h' tk t' hk=>?_;have e1:ns=xs.toList.map (·.1):=by
  rw[<-nums_intItems,<-hx];exact(show numsOf its.toArray.toList=ns from hi.numsOf).symm
 have e2:preSum (numAt xs) xs.size=ns.sum:=by
  rw[preSum_eq,take_of_length_le (by simp),e1]
 rw[e2];exact⟨.int ns.sum,H,I.kept (t':=tk) hk,⟨t',rfl⟩,q⟩
theorem wu {pins:List (Addr × Obj)}{σ:St}{H:Hp}{s:Shared}{p:Addr}{ns:List Int}(I:aF X pins σ H s)(hq:cX X.K H p (ns.map V.int)):∃ xs:Array (Int × Tok),s.heap.IsList p (intItems xs)/\ns=xs.toList.map (·.1):=by
 obtain⟨its,rv,⟨o,n,e,c,d,da⟩,_⟩:=I.list hq;have hl:s.heap.IsList p its.toArray:=⟨o,e,c,n,da⟩;have hi:=lI rv;obtain⟨xs,hx⟩:=hi.allInts.items;refine⟨xs,hx ▸ hl,?_⟩;rw[<-nums_intItems,<-hx];exact(show numsOf its.toArray.toList=ns from hi.numsOf).symm
theorem vE {xs:Array (Int × Tok)}{k:Nat}{v:Value}(hk:k<xs.size)(h:(intItems xs)[k]?=some v):∃ t,v=.int (numAt xs k) t/\numAt xs k∈xs.toList.map (·.1):=by
 obtain⟨t,e⟩:=intItems_at h;refine⟨t,e,?_⟩;have e2:=h;unfold intItems at e2;rw[Array.getElem?_map,Array.getElem?_eq_getElem hk]at e2;simp at e2;rw[e]at e2
 injection e2 with e3 _
 rw[<-e3];exact mem_map.mpr ⟨xs[k],by simp,rfl⟩
theorem Ac {xs:Array (Int × Tok)}{m:Int}(h:m∈xs.toList.map (·.1)):∃ j,j<xs.size/\numAt xs j=m:=by
 obtain⟨p,hp,rfl⟩:=mem_map.mp h;obtain⟨j,hj,e⟩:=getElem_of_mem hp;have hj':j<xs.size:=by simpa using hj
 refine⟨j,hj',?_⟩;have h2:(intItems xs)[j]?=some (.int xs[j].1 xs[j].2):=by unfold intItems;rw[Array.getElem?_map,Array.getElem?_eq_getElem hj'];rfl
 obtain⟨t,e3⟩:=intItems_at h2
 injection e3 with e4 _
 rw[<-e4];have e5:xs[j]=p:=by simpa using e
 rw[e5]
theorem A6 (hc:X.calm=true):fZ X (.builtin "max") (fun xs H Q=>∃ (p:Addr) (ns:List Int),xs=[.ref p]/\cX X.K H p (ns.map V.int)/\ns≠[]/\∀ m∈ns,(∀ x∈ns,x<=m)->Q (.int m) H):=by
 rintro pins s σ H xs us Q I r ⟨p,ns,rfl,hq,hne,q⟩;obtain⟨u,rfl,rx⟩:=vals1 r
 cases rx
 obtain⟨xs,hl,e1⟩:=wu I hq;have hz:0<xs.size:=by
  rcases eq_zero_or_pos xs.size with z|z
  ·exact absurd (by rw[e1];simpa using z) hne
  ·exact z
 refine max_intList (I.ok.hd hc) hl hz fun v h' tk hv hk=>?_;obtain⟨b1,b2⟩:=argBest_gt (numAt xs) (xs.size-1);obtain⟨t,rfl,hm⟩:=vE (by omega) hv
 refine⟨.int _,H,I.kept (t':=tk) hk,⟨t,rfl⟩,q _ (by rw[e1];exact hm) fun x hx=>?_⟩
 rw[e1]at hx;obtain⟨j,hj,rfl⟩:=Ac hx;exact b2 j (by omega)
theorem A8 (hc:X.calm=true):fZ X (.builtin "min") (fun xs H Q=>∃ (p:Addr) (ns:List Int),xs=[.ref p]/\cX X.K H p (ns.map V.int)/\ns≠[]/\∀ m∈ns,(∀ x∈ns,m<=x)->Q (.int m) H):=by
 rintro pins s σ H xs us Q I r ⟨p,ns,rfl,hq,hne,q⟩;obtain⟨u,rfl,rx⟩:=vals1 r
 cases rx
 obtain⟨xs,hl,e1⟩:=wu I hq;have hz:0<xs.size:=by
  rcases eq_zero_or_pos xs.size with z|z
  ·exact absurd (by rw[e1];simpa using z) hne
  ·exact z
 refine min_intList (I.ok.hd hc) hl hz fun v h' tk hv hk=>?_;obtain⟨b1,b2⟩:=argBest_lt (numAt xs) (xs.size-1);obtain⟨t,rfl,hm⟩:=vE (by omega) hv
 refine⟨.int _,H,I.kept (t':=tk) hk,⟨t,rfl⟩,q _ (by rw[e1];exact hm) fun x hx=>?_⟩
 rw[e1]at hx;obtain⟨j,hj,rfl⟩:=Ac hx;exact b2 j (by omega)
end
end L2
namespace DL
open PySem L2
def nJ:List T->Option (List Int)
 | []=>some []
 | .int i::r=>match nJ r with
  | some l=>some (i::l)
  | none=>none
 | _::_=>none
theorem jy:∀ l:List Int,nJ (l.map T.int)=some l
 | []=>rfl
 | a::r=>by rw[map_cons];unfold nJ;rw[jy r]
theorem iz:∀ {ts:List T}{l:List Int},nJ ts=some l->ts=l.map T.int
 | [],l,h=>by cases h;rfl
 | t::r,l,h=>by
  cases t <;> try (simp[nJ]at h)
  rename_i i
  split at h
  ·rename_i m hm;simp at h;subst h;rw[map_cons,iz hm]
  ·simp at h
def sumK (R:S->Prop)(ts:List T):Prop:=match nJ ts with
 | some l=>R (.t (.int l.sum))
 | none=>False
theorem GY (R:S->Prop)(l:List Int):sumK R (l.map T.int)=R (.t (.int l.sum)):=by unfold sumK;rw[jy]
def xL:List S->(S->Prop)->Prop
 | [.t (.lst ts)],R=>sumK R ts
 | [.vt (.lst ts)],R=>sumK R ts
 | [.ol ts],R=>sumK R ts
 | _,_=>False
theorem iS {K:Frg}{F:Hp}:∀ {l:List Int}{xs:List V},au K F (l.map T.int) xs->xs=l.map V.int
 | [],_,h=>h
 | a::r,_,⟨x,ys,e,h1,h2⟩=>by
  subst e;rw[iS h2];exact congrArg (·::_) h1
theorem Na {K:Frg}:ie K (fun xs H Q=>∃ (p:Addr) (ns:List Int),xs=[.ref p]/\cX K H p (ns.map V.int)/\Q (.int ns.sum) H) xL:=by
 intro F H ss vs R Q sb fu rp h k;have fin:∀ {ts:List T}{a:Addr}{xs:List V}{G:Hp},sumK R ts->cX K H a xs->au K G ts xs->∃ (p:Addr) (ns:List Int),[V.ref a]=[.ref p]/\cX K H p (ns.map V.int)/\Q (.int ns.sum) H:=fun {ts a xs G} h1 h2 h3=>by
  unfold sumK at h1
  split at h1
  ·rename_i l hl;rw[iz hl]at h3;have e:=iS h3;subst e;exact⟨a,l,rfl,h2,k _ F H (.t (.int _)) (dj.refl sb fu) rfl h1⟩
  ·exact h1.elim
 unfold xL at h
 split at h
 ·obtain⟨v,r,rfl,⟨a,xs,rfl,h1,h2⟩,h3⟩:=rp
  cases (show r=[] from h3)
  exact fin h (sb.seq h1) h2
 ·obtain⟨v,r,rfl,⟨a,xs,rfl,h1,h2⟩,h3⟩:=rp
  cases (show r=[] from h3)
  exact fin h h1 h2
 ·obtain⟨v,r,rfl,⟨a,xs,rfl,h1,h2⟩,h3⟩:=rp
  cases (show r=[] from h3)
  exact fin h h1 h2
 ·exact h.elim
theorem boot_sum:bootBuiltins "sum"=some (.builtin "sum"):=by decide +kernel
section
variable {X:Cx}{e:Expr}{wa:WA}{pos p:Pos}
theorem Md (hm:X.mg "sum"=none) (ha:PA X [e] (dA X.K wa)) (hg:Gl X "sum":=by rfl) (hc:X.calm=true:=by rfl) (he:starEach [e] X.env=(false,eval e X.env)::starEach [] X.env:=by exact aS rfl):PE X (.Call (.Name "sum" p) [e] [] pos) (av X.K (dH xL wa)):=
 eZ (A9 hc) Na hm boot_sum ha hg (he:=he) (hpl:=rfl)
end
theorem LM (ts:List T)(R:S->Prop):xL [.t (.lst ts)] R=sumK R ts:=rfl
theorem LO (ts:List T)(R:S->Prop):xL [.vt (.lst ts)] R=sumK R ts:=rfl
theorem LN (ts:List T)(R:S->Prop):xL [.ol ts] R=sumK R ts:=rfl
def kg (le:Int->Int->Prop)(R:S->Prop)(ts:List T):Prop:=match nJ ts with
 | some l=>l≠[]/\∀ m∈l,(∀ x∈l,le x m)->R (.t (.int m))
 | none=>False
theorem rO (le:Int->Int->Prop)(R:S->Prop)(l:List Int):kg le R (l.map T.int)=(l≠[]/\∀ m∈l,(∀ x∈l,le x m)->R (.t (.int m))):=by unfold kg;rw[jy]
def pO (le:Int->Int->Prop):List S->(S->Prop)->Prop
 | [.t (.lst ts)],R=>kg le R ts
 | [.vt (.lst ts)],R=>kg le R ts
 | [.ol ts],R=>kg le R ts
 | _,_=>False
abbrev KD:=pO fun x m=>x<=m
abbrev KF:=pO fun x m=>m<=x
theorem Ad {K:Frg}(le:Int->Int->Prop):ie K (fun xs H Q=>∃ (p:Addr) (ns:List Int),xs=[.ref p]/\cX K H p (ns.map V.int)/\ns≠[]/\∀ m∈ns,(∀ x∈ns,le x m)->Q (.int m) H) (pO le):=by
 intro F H ss vs R Q sb fu rp h k;have fin:∀ {ts:List T}{a:Addr}{xs:List V}{G:Hp},kg le R ts->cX K H a xs->au K G ts xs->∃ (p:Addr) (ns:List Int),[V.ref a]=[.ref p]/\cX K H p (ns.map V.int)/\ns≠[]/\∀ m∈ns,(∀ x∈ns,le x m)->Q (.int m) H:=fun {ts a xs G} h1 h2 h3=>by
  unfold kg at h1
  split at h1
  ·rename_i l hl;rw[iz hl]at h3;have e:=iS h3;subst e;exact⟨a,l,rfl,h2,h1.1,fun m hm hx=>k _ F H (.t (.int _)) (dj.refl sb fu) rfl (h1.2 m hm hx)⟩
  ·exact h1.elim
 unfold pO at h
 split at h
 ·obtain⟨v,r,rfl,⟨a,xs,rfl,h1,h2⟩,h3⟩:=rp
  cases (show r=[] from h3)
  exact fin h (sb.seq h1) h2
 ·obtain⟨v,r,rfl,⟨a,xs,rfl,h1,h2⟩,h3⟩:=rp
  cases (show r=[] from h3)
  exact fin h h1 h2
 ·obtain⟨v,r,rfl,⟨a,xs,rfl,h1,h2⟩,h3⟩:=rp
  cases (show r=[] from h3)
  exact fin h h1 h2
 ·exact h.elim
section
variable {X:Cx}{e:Expr}{wa:WA}{pos p:Pos}
theorem Im (hm:X.mg "max"=none) (ha:PA X [e] (dA X.K wa)) (hg:Gl X "max":=by rfl) (hc:X.calm=true:=by rfl) (he:starEach [e] X.env=(false,eval e X.env)::starEach [] X.env:=by exact aS rfl):PE X (.Call (.Name "max" p) [e] [] pos) (av X.K (dH KD wa)):=
 eZ (A6 hc) (Ad _) hm PyProof.Rows.boot_max ha hg (he:=he) (hpl:=rfl)
theorem Io (hm:X.mg "min"=none) (ha:PA X [e] (dA X.K wa)) (hg:Gl X "min":=by rfl) (hc:X.calm=true:=by rfl) (he:starEach [e] X.env=(false,eval e X.env)::starEach [] X.env:=by exact aS rfl):PE X (.Call (.Name "min" p) [e] [] pos) (av X.K (dH KF wa)):=
 eZ (A8 hc) (Ad _) hm PyProof.Rows.boot_min ha hg (he:=he) (hpl:=rfl)
end
theorem Hr (le:Int->Int->Prop)(ts:List T)(R:S->Prop):pO le [.t (.lst ts)] R=kg le R ts:=rfl
theorem Ht (le:Int->Int->Prop)(ts:List T)(R:S->Prop):pO le [.vt (.lst ts)] R=kg le R ts:=rfl
theorem Hs (le:Int->Int->Prop)(ts:List T)(R:S->Prop):pO le [.ol ts] R=kg le R ts:=rfl
def nE (g:WG)(tc:WT)(te:WE):List T->aR->List T->(List T->Prop)->Prop
 | [],_,acc,R=>R acc
 | x::r,δ,acc,R=>g x δ fun δ1=>tc δ1 fun ok=>if ok=true then te δ1 fun s=>si (fun y=>acc.length<100000/\nE g tc te r δ1 (acc++[y]) R) s else nE g tc te r δ1 acc R
theorem lw {g:WG}{tc:WT}{te:WE}{ts:List T}{δ:aR}{R:List T->Prop}(h:nE g tc te ts δ [] R):pA g tc te ts δ R:=⟨fun ts δ acc=>nE g tc te ts δ acc R,h,fun _ _ h=>h,fun _ _ _ _ h=>h⟩
theorem Hw (g:WG)(tc:WT)(te:WE)(δ:aR)(acc:List T)(R:List T->Prop):nE g tc te [] δ acc R=R acc:=rfl
theorem Hv (g:WG)(tc:WT)(te:WE)(x:T)(r:List T)(δ:aR)(acc:List T)(R:List T->Prop):nE g tc te (x::r) δ acc R=g x δ fun δ1=>tc δ1 fun ok=>if ok=true then te δ1 fun s=>si (fun y=>acc.length<100000/\nE g tc te r δ1 (acc++[y]) R) s else nE g tc te r δ1 acc R:=rfl
end DL
namespace L2
open PySem PySem.Spec PyProof.Rows
section
variable {X:Cx}{pins:List (Addr × Obj)}{σ:St}{H:Hp}{s:Shared}
theorem aF.turnedS {h':Heap}{t':Nat}{fp:List Addr}(I:aF X pins σ H s)(k:∀ b o,b∉fp->s.heap.get? b=some o->h'.get? b=some o)(hf:∀ b∈fp,o4 X pins H b):aF X pins σ H {s with heap:=h',toks:=t'}:=by
 have nit:∀ b u,H b=some u->b∉fp:=fun b u e z=>by rw[(hf b z).1]at e;cases e
 refine I.step (g':=s.gens) (d':=s.drawn) (ch:=fp) (fun b hb=>?_) (fun b o _ _ hc e _=>k b o hc e) (fun b o _ _ hc e _=>⟨o.slots,k b o hc e⟩) (fun _ _ _ _ n=>n)
  (fun b o hc e=>⟨o,k b o hc e⟩) (fun _ _ e=>e) (fun _ _ _ e=>e) (fun b ps e=>⟨#[],by rw[e];simp⟩) (fun m hm=>?_) (fun b u e=>?_) I.bare
 ·obtain⟨f0,f1,f2,f3,f4,f5⟩:=hf b hb;exact⟨f3,f1,f4,f5⟩
 ·obtain⟨o,es,ep,ho,r⟩:=hm;exact⟨o,es,ep,k _ o (fun z=>(hf _ z).2.1 rfl) ho,r⟩
 ·refine(I.hok b u e).stay (fun c v hc q=>k c v ?_ q) (fun _ q=>q) fun _ _ q=>q
  rcases hc with z|z
  ·rw[z];exact nit b u e
  ·exact nit c _ z
end
structure Q0 (z TI TO i1 i2:Addr):Prop where
 TIz:TI≠z
 TOz:TO≠z
 i1z:i1≠z
 i2z:i2≠z
 TITO:TI≠TO
 TIi1:TI≠i1
 TIi2:TI≠i2
 TOi1:TO≠i1
 TOi2:TO≠i2
 i12:i1≠i2
section
variable {X:Cx}{elts:List Expr}{x1:Nat}{tp:Pos}
theorem tM:fZ X (.builtin "sorted") (fun xs H Q=>∃ (p:Addr) (ns:List Int),xs=[.ref p]/\cX X.K H p (ns.map V.int)/\ns.length<64/\∀ ms:List Int,ms.Perm ns->ms.Pairwise (·<=·)->∀ l,H l=none->Q (.ref l) (cO H l (.lst (ms.map V.int)))):=by
 rintro pins s σ H xs us Q I r ⟨p,ns,rfl,hq,hl64,q⟩;obtain⟨u,rfl,rx⟩:=vals1 r
 cases rx
 obtain⟨its,rv,pl,_⟩:=I.list hq;have hi:=lI rv;have hlen:its.length<64:=by have:=rv.length;rw[length_map]at this;omega
 refine sorted_ints pl.isList hi hlen fun out ns' a1 a2 a3=>?_;obtain⟨e,he⟩:=sortedAll_at s.heap its out;have hv:∀ {ms:List Int}{us:List Value},IntsAre us ms->aO (ms.map V.int) us:=fun {ms us} h=>by
  induction h with
  | nil=>exact .nil
  | cons n t _ ih=>exact .cons ⟨t,rfl⟩ ih
 refine⟨.ref _,_,I.laid (t':=s.toks) (a:=s.heap.objs.size+1) (o:=.lst (ns'.map V.int)) (fun b u=>sortedAll_old) (by omega) ⟨?_,out.toList,e,hv a1,?_⟩,rfl,q ns' a2 a3 _ (I.hok.fresh (by omega))⟩
 ·rw[length_map,a2.length_eq];exact le_trans (Nat.le_of_lt hl64) (by decide)
 ·rw[Array.toArray_toList];exact he
end
end L2
namespace DL
open PySem L2
def Kt:List T->List T->List T
 | t::ts,u::us=>.tup [t,u]::Kt ts us
 | _,_=>[]
def R3 (δ:aR)(W:List T->aR->Prop):List S->Prop
 | [.t (.lst ts),.t (.lst us)]=>W (Kt ts us) δ
 | [.vt (.lst ts),.vt (.lst us)]=>W (Kt ts us) (freeze δ)
 | _=>False
section
variable {X:Cx}{e e2:Expr}{we:WE}{wa:WA}{p pos tp:Pos}{elts:List Expr}{x1:Nat}
end
theorem Oo (δ:aR)(W:List T->aR->Prop)(ts us:List T):R3 δ W [.vt (.lst ts),.vt (.lst us)]=W (Kt ts us) (freeze δ):=rfl
def iZ (R:S->Prop)(ts:List T):Prop:=match nJ ts with
 | some l=>l.length<64/\∀ ms:List Int,ms.Perm l->ms.Pairwise (·<=·)->R (.ol (ms.map T.int))
 | none=>False
theorem sT (R:S->Prop)(l:List Int):iZ R (l.map T.int)=(l.length<64/\∀ ms:List Int,ms.Perm l->ms.Pairwise (·<=·)->R (.ol (ms.map T.int))):=by unfold iZ;rw[jy]
def pP:List S->(S->Prop)->Prop
 | [.t (.lst ts)],R=>iZ R ts
 | [.vt (.lst ts)],R=>iZ R ts
 | [.ol ts],R=>iZ R ts
 | _,_=>False
theorem pU {K:Frg}{F:Hp}:∀ l:List Int,au K F (l.map T.int) (l.map V.int)
 | []=>rfl
 | a::r=>⟨.int a,_,rfl,rfl,pU r⟩
theorem Jp {K:Frg}:ie K (fun xs H Q=>∃ (p:Addr) (ns:List Int),xs=[.ref p]/\cX K H p (ns.map V.int)/\ns.length<64/\∀ ms:List Int,ms.Perm ns->ms.Pairwise (·<=·)->∀ l,H l=none->Q (.ref l) (cO H l (.lst (ms.map V.int)))) pP:=by
 intro F H ss vs R Q sb fu rp h k;have fin:∀ {ts:List T}{a:Addr}{xs:List V}{G:Hp},iZ R ts->cX K H a xs->au K G ts xs->∃ (p:Addr) (ns:List Int),[V.ref a]=[.ref p]/\cX K H p (ns.map V.int)/\ns.length<64/\∀ ms:List Int,ms.Perm ns->ms.Pairwise (·<=·)->∀ l,H l=none->Q (.ref l) (cO H l (.lst (ms.map V.int))):=fun {ts a xs G} h1 h2 h3=>by
  unfold iZ at h1
  split at h1
  ·rename_i l hl;rw[iz hl]at h3;have e:=iS h3;subst e;refine⟨a,l,rfl,h2,h1.1,fun ms hm hp q hq=>?_⟩;exact k _ F _ (.ol _) (dj.newL _ sb fu hq) ⟨q,_,rfl,hq,aM sb hq,aZ,pU ms⟩ (h1.2 ms hm hp)
  ·exact h1.elim
 unfold pP at h
 split at h
 ·obtain⟨v,r,rfl,⟨a,xs,rfl,h1,h2⟩,h3⟩:=rp
  cases (show r=[] from h3)
  exact fin h (sb.seq h1) h2
 ·obtain⟨v,r,rfl,⟨a,xs,rfl,h1,h2⟩,h3⟩:=rp
  cases (show r=[] from h3)
  exact fin h h1 h2
 ·obtain⟨v,r,rfl,⟨a,xs,rfl,h1,h2⟩,h3⟩:=rp
  cases (show r=[] from h3)
  exact fin h h1 h2
 ·exact h.elim
section
variable {X:Cx}{e:Expr}{wa:WA}{pos p:Pos}
theorem Ip (hm:X.mg "sorted"=none) (ha:PA X [e] (dA X.K wa)) (hg:Gl X "sorted":=by rfl) (he:starEach [e] X.env=(false,eval e X.env)::starEach [] X.env:=by exact aS rfl):PE X (.Call (.Name "sorted" p) [e] [] pos) (av X.K (dH pP wa)):=
 eZ tM Jp hm PyProof.Rows.boot_sorted ha hg (he:=he) (hpl:=rfl)
end
theorem HF (ts:List T)(R:S->Prop):pP [.t (.lst ts)] R=iZ R ts:=rfl
theorem HH (ts:List T)(R:S->Prop):pP [.vt (.lst ts)] R=iZ R ts:=rfl
theorem HG (ts:List T)(R:S->Prop):pP [.ol ts] R=iZ R ts:=rfl
section
variable {X:Cx}{e:Expr}{we:WE}{lo hi:Option Expr}{wl wh:aR->(Option Int->Prop)->Prop}{pos p2:Pos}
end
end DL
set_option maxHeartbeats 4000000
namespace L2
open PySem PySem.Spec PyProof.Rows
section
variable {X:Cx}{pins:List (Addr × Obj)}{σ:St}{H:Hp}{s:Shared}
structure AI (X:Cx) (b:Addr):Prop where
 l:b≠X.env.locals
 f:b∉X.fs
 s:b∈X.ex\/X.s₀.heap.objs.size<=b
 c:∀ x c,X.env.cells.lookup x=some c->c≠b
theorem AI.ok {b:Addr}(h:AI X b)(hn:H b=none)(hp:∀ p∈X.pn++pins,p.1≠b):o4 X pins H b:=⟨hn,h.l,h.f,h.s,h.c,hp⟩
theorem aF.fpSt {b:Addr}(I:aF X pins σ H s)(hb:s.heap.objs.size<=b)(hn:H b=none):AI X b/\∀ p∈X.pn++pins,p.1≠b:=by
 obtain⟨_,h1,h2,h3,h4,h5⟩:=I.fpOk (H':=H) hb hn;exact⟨⟨h1,h2,h3,h4⟩,h5⟩
theorem aF.pinAt (I:aF X pins σ H s){p:Addr × Obj}(hp:p∈pins):s.heap.get? p.1=some p.2/\H p.1=none:=let ⟨a,b,_⟩:=I.pin p (mem_append_right _ hp);⟨a,b⟩
theorem aF.repin {pins':List (Addr × Obj)}(I:aF X pins σ H s)(h:∀ p∈pins',p∈pins\/(s.heap.get? p.1=some p.2/\H p.1=none/\AI X p.1/\∀ v,p.2.data≠.cell v)):aF X pins' σ H s:=
 I.pins_of fun p hp=>by
  rcases h p hp with z|⟨a,b,c,d⟩
  ·exact I.pin p (mem_append_right _ z)
  ·exact⟨a,b,c.l,c.f,d⟩
end
section
variable {X:Cx}{pins:List (Addr × Obj)}{σ:St}{l I S:Addr}{vs:List Value}{R:Result->Shared->Prop}{G:Hp->Prop}
abbrev rP (vb:Value) (k:Int) (t:Tok) (c:Nat):Obj:=seqObj "list" #[vb,.int k t] c
theorem EU (kf:Nat->Int)(q:Addr)(hh:X.A.handled=none)(hl:∀ H s pins,G H->aF X pins σ H s->s.heap.IsList l vs.toArray)(hlI:l≠I)(hSI:S≠I)(fI:AI X I)(fS:AI X S)
  (nI:∀ p∈X.pn++pins,p.1≠I) (nS:∀ p∈X.pn++pins,p.1≠S)
  (turn:∀ (i:Nat) (v:Value),vs[i]?=some v->∀ (own:List (Addr × Obj)) (s:Shared) (H:Hp),G H->aF X (pins++own) σ H s →
   wpAny (model X.prog X.w) X.A.in1 (call (.ref q) [v]) (fun u s'=>∃ t H',u=.int (kf i) t/\aF X (pins++own) σ H' s'/\G H') (fun _ _=>False) s)
  (hR:∀ i v H s,vs[i]?=some v->(∀ j,j<vs.length->kf i<=kf j)->G H->aF X pins σ H s->R (.ok (.ret v)) s) :
  ∀ (r j i:Nat) (s:Shared) (H:Hp) (vb:Value) (tb:Tok) (c:Nat) (oI:Obj),vs.length-(j+1)=r->j+1<=vs.length->G H →
   aF X (pins++[(S,rP vb (kf i) tb c),(I,oI)]) σ H s->s.heap.IsListIter I l (j+1)->(∀ v,oI.data≠.cell v)->vs[i]?=some vb->i<=j->(∀ j',j'<=j->kf i<=kf j') →
   codeAny (model X.prog X.w) X.A (.builtin "min.loop" ⟨[.ref I,.ref q,.ref S],[]⟩) R s:=by
 have hname:(toString "min"++toString ".loop":String)="min.loop":=by decide
 have W:=Walks.list (prog:=X.prog) (w:=X.w) (A:=X.A.in1) hh I l hlI vs.toArray;have hsz:vs.toArray.size=vs.length:=size_toArray ..;have upS:∀ {H:Hp}{s:Shared}{h':Heap}{tk:Nat}{o oI:Obj},aF X (pins++[(S,o),(I,oI)]) σ H s->Heap.SameBut S s.heap h'->aF X (pins++[(I,oI)]) σ H {s with heap:=h',toks:=tk}:=fun {H s h' tk o oI} J sb=>by
  have nS':=(J.pinAt (p:=(S,o)) (by simp)).2
  have J1:aF X (pins++[(I,oI)]) σ H s:=J.repin fun p hp=>.inl (by simp at hp ⊢;rcases hp with z|z <;> simp[z])
  refine J1.turnedS (fp:=[S]) (fun b o hb e=>(sb.2 b (by simpa using hb)).trans e) fun b hb=>?_
  have e:b=S:=by simpa using hb
  subst e;refine fS.ok nS' fun p hp=>?_
  rcases mem_append.mp hp with z|z
  ·exact nS p (mem_append_left _ z)
  ·rcases mem_append.mp z with z|z
   ·exact nS p (mem_append_right _ z)
   ·simp at z;subst z;exact hSI.symm
 have upI:∀ {H:Hp}{s:Shared}{h':Heap}{tk:Nat}{o oI:Obj},aF X (pins++[(S,o),(I,oI)]) σ H s->(∀ b u,b∉[I]->s.heap.get? b=some u->h'.get? b=some u)->aF X (pins++[(S,o)]) σ H {s with heap:=h',toks:=tk}/\H I=none:=fun {H s h' tk o oI} J hk=>by
  have nI':=(J.pinAt (p:=(I,oI)) (by simp)).2
  have J1:aF X (pins++[(S,o)]) σ H s:=J.repin fun p hp=>.inl (by simp at hp ⊢;rcases hp with z|z <;> simp[z])
  refine⟨J1.turnedS (fp:=[I]) hk fun b hb=>?_,nI'⟩;have e:b=I:=by simpa using hb
  subst e;refine fI.ok nI' fun p hp=>?_
  rcases mem_append.mp hp with z|z
  ·exact nI p (mem_append_left _ z)
  ·rcases mem_append.mp z with z|z
   ·exact nI p (mem_append_right _ z)
   ·simp at z;subst z;exact hSI
 intro r
 induction r with
 | zero=>
  intro j i s H vb tb c oI hr hj g J hit hoc hvb hij hbest;have hin:j+1=vs.length:=by omega
  have pS:=J.pinAt (p:=(S,rP vb (kf i) tb c)) (by simp)
  refine codeAny_builtin PySem.F.entry_min_loop ?_;rw[Around.under_plainId PySem.F.plain_min_loop _];show wpAny _ X.A.in1 (seqItems? (.ref S) >>= _) _ _ _;refine wpAny_bind (wpAny_seqItems pS.1 rfl ?_);show wpAny _ X.A.in1 (tryCatch (pyNext (.ref I)) _ >>= _) _ _ _;refine wpAny_bind (wpAny_tryCatch (W.done _ _ _ ⟨by rw[hsz,<-hin];exact hit,hl _ _ _ g J⟩ fun h' tk' hk'=>?_))
  obtain⟨J1,nI'⟩:=upI (tk:=tk') J hk';have pS':=J1.pinAt (p:=(S,rP vb (kf i) tb c)) (by simp)
  have s1:=Heap.SameBut.update h' S (Obj.mapSeq fun _=>(#[]:Array Value));show wpAny _ X.A.in1 (updateSeq S (fun _=>#[]) >>= _) _ _ _;refine wpAny_bind ?_;refine wpAny_updateSeq pS'.1 rfl (wpAny_bind (wpAny_letGo (wpAny_pure ?_)));refine hR i vb H _ hvb (fun j' hj'=>hbest j' (by omega)) g ?_
  have J2:aF X pins σ H {s with heap:=h',toks:=tk'}:=J1.repin fun p hp=>.inl (by simp[hp])
  refine aF.turnedS (s:={s with heap:=h',toks:=tk'}) (t':=tk') J2 (fp:=[S]) (fun b o hb e=>(s1.2 b (by simpa using hb)).trans e) fun b hb=>?_
  have e:b=S:=by simpa using hb
  subst e;exact fS.ok pS'.2 nS
 | succ r ih=>
  intro j i s H vb tb c oI hr hj g J hit hoc hvb hij hbest;have hlt:j+1<vs.length:=by omega
  have pS:=J.pinAt (p:=(S,rP vb (kf i) tb c)) (by simp)
  refine codeAny_builtin PySem.F.entry_min_loop ?_;rw[Around.under_plainId PySem.F.plain_min_loop _];show wpAny _ X.A.in1 (seqItems? (.ref S) >>= _) _ _ _;refine wpAny_bind (wpAny_seqItems pS.1 rfl ?_);show wpAny _ X.A.in1 (tryCatch (pyNext (.ref I)) _ >>= _) _ _ _;refine wpAny_bind (wpAny_tryCatch (W.item (j+1) _ _ _ (by rw[hsz];exact hlt) ⟨hit,hl _ _ _ g J⟩ fun v h' tk' hP hst' hk'=>?_))
  have hv:vs[j+1]?=some v:=by simpa using hP
  obtain⟨oI',hoI',hoc',hod'⟩:=id hst'.1;obtain⟨J1,nI'⟩:=upI (tk:=tk') J hk';have ncell:∀ v,oI'.data≠.cell v:=fun v z=>by rw[hod']at z;cases z
  have J2:aF X (pins++[(S,rP vb (kf i) tb c),(I,oI')]) σ H {s with heap:=h',toks:=tk'}:=J1.repin fun p hp=>by
   simp at hp
   rcases hp with z|z|z
   ·exact .inl (by simp[z])
   ·exact .inl (by simp[z])
   ·subst z;exact .inr ⟨hoI',nI',fI,ncell⟩
  show wpAny _ X.A.in1 (tryCatch (holding [v] (call (.ref q) [v])) _ >>= _) _ _ _;refine wpAny_bind (wpAny_tryCatch (wpAny_holding (wpAny_mono (turn (j+1) v hv _ _ H g J2) (fun x s'' he=>?_) fun _ _ hF=>hF.elim)));obtain⟨t2,H2,rfl,J3,g2⟩:=he;have pS2:=J3.pinAt (p:=(S,rP vb (kf i) tb c)) (by simp)
  have pI2:=J3.pinAt (p:=(I,oI')) (by simp)
  have hit2:s''.heap.IsListIter I l (j+1+1):=⟨oI',pI2.1,hoc',hod'⟩;show wpAny _ X.A.in1 (tryCatch (holding [v,.int (kf (j+1)) t2] (richCompare .Lt (.int (kf (j+1)) t2) (.int (kf i) tb) >>= _)) _ >>= _) _ _ _;refine wpAny_bind (wpAny_tryCatch (wpAny_holding (wpAny_bind (CmpOf.ints_lt (prog:=X.prog) (w:=X.w) (A:=X.A.in1) (P:=fun i v=>∃ t,v=.int (kf i) t) kf (fun i v h=>h) (j+1) i _ _ _ _ _ ⟨t2,rfl⟩ ⟨tb,rfl⟩ ?_))));refine wpAny_bind (wpAny_holding (wpAny_truthy_bool ?_));refine wpAny_bind (wpAny_letGo (wpAny_pure ?_))
  by_cases hb':kf (j+1)<kf i
  ·have s1:=Heap.SameBut.update s''.heap S (Obj.mapSeq fun _=>#[v,.int (kf (j+1)) t2]);obtain⟨c2,hc2⟩:∃ c2,(s''.heap.update S (Obj.mapSeq fun _=>#[v,.int (kf (j+1)) t2])).get? S=some (seqObj "list" #[v,.int (kf (j+1)) t2] c2):=⟨_,get?_update_seq pS2.1 fun _=>#[v,.int (kf (j+1)) t2]⟩;simp only[hb',decide_true,if_true];refine wpAny_bind ?_;refine wpAny_updateSeq pS2.1 rfl (wpAny_bind (wpAny_letGo ?_));rw[hname];have J4:=upS (tk:=s''.toks) J3 s1;refine wpAny_pure ⟨plainId_quiet PySem.F.plain_min_loop _,ih (j+1) (j+1) _ H2 v t2 c2 oI' (by omega) hlt g2 (J4.repin fun p hp=>?_) ⟨oI',(s1.2 I hSI.symm).trans pI2.1,hoc',hod'⟩ ncell hv (le_refl _) fun j' hj'=>?_⟩
   ·simp at hp
    rcases hp with z|z|z
    ·exact .inl (by simp[z])
    ·subst z;exact .inr ⟨hc2,pS2.2,fS,fun v z=>by cases z⟩
    ·exact .inl (by simp[z])
   ·by_cases e:j'=j+1
    ·subst e;omega
    ·have hb1:=hbest j' (by omega)
     omega
  ·simp only[hb',decide_false,Bool.false_eq_true,if_false];refine wpAny_bind (wpAny_letGo ?_);rw[hname];refine wpAny_pure ⟨plainId_quiet PySem.F.plain_min_loop _,ih (j+1) i _ H2 vb tb c oI' (by omega) hlt g2 J3 hit2 ncell hvb (by omega) fun j' hj'=>?_⟩
   by_cases e:j'=j+1
   ·subst e;omega
   ·exact hbest j' (by omega)
theorem tL (kf:Nat->Int)(q:Addr){E:Value->Shared->Prop}{Q:Value->Shared->Prop}{s:Shared}{H:Hp}(hh:X.A.handled=none)(hl:∀ H s pins,G H->aF X pins σ H s->s.heap.IsList l vs.toArray)(hne:0<vs.length)(g:G H)(J:aF X pins σ H s)
  (turn:∀ (i:Nat) (v:Value),vs[i]?=some v->∀ (own:List (Addr × Obj)) (s:Shared) (H:Hp),G H->aF X (pins++own) σ H s →
   wpAny (model X.prog X.w) X.A.in1 (call (.ref q) [v]) (fun u s'=>∃ t H',u=.int (kf i) t/\aF X (pins++own) σ H' s'/\G H') (fun _ _=>False) s)
  (hQ:∀ i v H s,vs[i]?=some v->(∀ j,j<vs.length->kf i<=kf j)->G H->aF X pins σ H s->Q v s) :
  wpAny (model X.prog X.w) X.A (call (.builtin "min") [.ref l] [(Str.ofString "key",.ref q)]) Q E s:=by
 have hname:(toString "min"++toString ".loop":String)="min.loop":=by decide
 have hls:=hl _ _ _ g J;obtain⟨ol,hol,_⟩:=id hls;have hll:l<s.heap.objs.size:=Heap.lt_size hol;refine kmk_tree PySem.F.kind_min PySem.F.plain_min PySem.F.entry_min (kmk_min_key _ _) ?_;show wpAny _ X.A.in1 (Builtin.Builtins.bindParams "min" ["key","default"] 0 ⟨[],[(Str.ofString "key",.ref q)]⟩ >>= _) _ _ s;refine wpAny_bind (wpAny_of_eq (show Builtin.Builtins.bindParams "min" ["key","default"] 0 ⟨[],[(Str.ofString "key",.ref q)]⟩=pure [some (.ref q),none] from rfl) ?_);refine wpAny_bind (wpAny_pure ?_);refine wpAny_bind (wpAny_pyIter_list hls ?_);refine wpAny_bind (wpAny_newList ?_ (zero_le _));rw[hname];refine wpAny_pure ⟨plainId_quiet PySem.F.plain_min_loop _,?_⟩;have hS:(s.heap.push {cls:=.type "list_iterator",data:=.fields #[.ref l,.int 0 0]}).objs.size=s.heap.objs.size+1:=size_push' ..;have hlI:l≠s.heap.objs.size:=ne_of_lt hll;have gI:((s.heap.push {cls:=.type "list_iterator",data:=.fields #[.ref l,.int 0 0]}).push (seqObj "list" #[] 0)).get? s.heap.objs.size=some {cls:=.type "list_iterator",data:=.fields #[.ref l,.int 0 0]}:=
  Heap.get?_push_of_some _ (Heap.get?_push_size _ rfl)
 have gS:((s.heap.push {cls:=.type "list_iterator",data:=.fields #[.ref l,.int 0 0]}).push (seqObj "list" #[] 0)).get? (s.heap.push {cls:=.type "list_iterator",data:=.fields #[.ref l,.int 0 0]}).objs.size=some (seqObj "list" #[] 0):=Heap.get?_push_size _ rfl;have JH:aF X pins σ H {s with heap:=(s.heap.push {cls:=.type "list_iterator",data:=.fields #[.ref l,.int 0 0]}).push (seqObj "list" #[] 0)}:=J.kept (t':=s.toks) fun b o e=>Heap.get?_push_of_some _ (Heap.get?_push_of_some _ e);obtain⟨fI,nI⟩:=J.fpSt (b:=s.heap.objs.size) (le_refl _) (J.hok.fresh (le_refl _));have leS:s.heap.objs.size<=(s.heap.push {cls:=.type "list_iterator",data:=.fields #[.ref l,.int 0 0]}).objs.size:=by rw[hS];exact Nat.le_succ _
 obtain⟨fS,nS⟩:=J.fpSt (b:=(s.heap.push {cls:=.type "list_iterator",data:=.fields #[.ref l,.int 0 0]}).objs.size) leS (J.hok.fresh leS);have hIn:H s.heap.objs.size=none:=J.hok.fresh (le_refl _);have hSn:H (s.heap.push {cls:=.type "list_iterator",data:=.fields #[.ref l,.int 0 0]}).objs.size=none:=J.hok.fresh leS;have hSI:(s.heap.push {cls:=.type "list_iterator",data:=.fields #[.ref l,.int 0 0]}).objs.size≠s.heap.objs.size:=by rw[hS];exact ne_of_gt (lt_succ_self _)
 generalize (s.heap.push {cls:=.type "list_iterator",data:=.fields #[.ref l,.int 0 0]}).objs.size=S at *;generalize hIe:s.heap.objs.size=I at *;generalize (s.heap.push {cls:=.type "list_iterator",data:=.fields #[.ref l,.int 0 0]}).push (seqObj "list" #[] 0)=h1 at *;have W:=Walks.list (prog:=X.prog) (w:=X.w) (A:=X.A.in1) hh I l hlI vs.toArray;have hsz:vs.toArray.size=vs.length:=size_toArray ..;refine codeAny_builtin PySem.F.entry_min_loop ?_;rw[Around.under_plainId PySem.F.plain_min_loop _];show wpAny _ X.A.in1 (seqItems? (.ref _) >>= _) _ _ _;refine wpAny_bind (wpAny_seqItems gS rfl ?_);show wpAny _ X.A.in1 (tryCatch (pyNext (.ref I)) _ >>= _) _ _ _;refine wpAny_bind (wpAny_tryCatch (W.item 0 _ _ _ (by rw[hsz];exact hne) ⟨⟨_,gI,rfl,rfl⟩,hl _ _ _ g JH⟩ fun v h' tk' hP hst' hk'=>?_))
 have hv:vs[0]?=some v:=by simpa using hP
 obtain⟨oI',hoI',hoc',hod'⟩:=id hst'.1;have ncell:∀ v,oI'.data≠.cell v:=fun v z=>by rw[hod']at z;cases z
 have J1:aF X pins σ H {s with heap:=h',toks:=tk'}:=aF.turnedS (s:={s with heap:=h1}) (t':=tk') JH (fp:=[I]) (fun b o hb e=>hk' b o hb e) fun b hb=>by
  have e:b=I:=by simpa using hb
  subst e;exact fI.ok hIn nI
 have J2:aF X (pins++[(S,seqObj "list" #[] 0),(I,oI')]) σ H {s with heap:=h',toks:=tk'}:=J1.repin fun p hp=>by
  simp at hp
  rcases hp with z|z|z
  ·exact .inl z
  ·subst z;exact .inr ⟨hk' S _ (by simpa using hSI) gS,hSn,fS,fun v z=>by cases z⟩
  ·subst z;exact .inr ⟨hoI',hIn,fI,ncell⟩
 show wpAny _ X.A.in1 (tryCatch (holding [v] (call (.ref q) [v])) _ >>= _) _ _ _;refine wpAny_bind (wpAny_tryCatch (wpAny_holding (wpAny_mono (turn 0 v hv _ _ H g J2) (fun x s'' he=>?_) fun _ _ hF=>hF.elim)));obtain⟨t2,H2,rfl,J3,g2⟩:=he;have pS2:=J3.pinAt (p:=(S,seqObj "list" #[] 0)) (by simp)
 have pI2:=J3.pinAt (p:=(I,oI')) (by simp)
 have s1:=Heap.SameBut.update s''.heap S (Obj.mapSeq fun _=>#[v,.int (kf 0) t2]);obtain⟨c2,hc2⟩:∃ c2,(s''.heap.update S (Obj.mapSeq fun _=>#[v,.int (kf 0) t2])).get? S=some (seqObj "list" #[v,.int (kf 0) t2] c2):=⟨_,get?_update_seq pS2.1 fun _=>#[v,.int (kf 0) t2]⟩;show wpAny _ X.A.in1 (updateSeq S (fun _=>#[v,.int (kf 0) t2]) >>= _) _ _ _;refine wpAny_bind ?_;refine wpAny_updateSeq pS2.1 rfl ?_;rw[hname];have J4:aF X (pins++[(I,oI')]) σ H2 {s'' with heap:=s''.heap.update S (Obj.mapSeq fun _=>#[v,.int (kf 0) t2]),toks:=s''.toks}:=by
  have K1:aF X (pins++[(I,oI')]) σ H2 s'':=J3.repin fun p hp=>.inl (by simp at hp ⊢;rcases hp with z|z <;> simp[z])
  refine K1.turnedS (fp:=[S]) (fun b o hb e=>(s1.2 b (by simpa using hb)).trans e) fun b hb=>?_
  have e:b=S:=by simpa using hb
  subst e;refine fS.ok pS2.2 fun p hp=>?_
  rcases mem_append.mp hp with z|z
  ·exact nS p (mem_append_left _ z)
  ·rcases mem_append.mp z with z|z
   ·exact nS p (mem_append_right _ z)
   ·simp at z;subst z;exact hSI.symm
 refine wpAny_pure ⟨plainId_quiet PySem.F.plain_min_loop _,EU kf q hh hl hlI hSI fI fS nI nS turn (fun i v H s a b c d=>hQ i v H s a b c d) _ 0 0 _ H2 v t2 c2 oI' rfl hne g2 (J4.repin fun p hp=>?_) ⟨oI',(s1.2 _ hSI.symm).trans pI2.1,hoc',hod'⟩ ncell hv (le_refl _) fun j' hj'=>?_⟩
 ·simp at hp
  rcases hp with z|z|z
  ·exact .inl (by simp[z])
  ·subst z;exact .inr ⟨hc2,pS2.2,fS,fun v z=>by cases z⟩
  ·exact .inl (by simp[z])
 ·have e:j'=0:=by omega
  subst e;exact Int.le_refl _
end
end L2
set_option maxHeartbeats 4000000
namespace L2
open PySem PySem.Spec PyProof.Rows PySem.W
def y9 (P:Program)(w:World)(K:Frg)(mg:Str->Option Value)(base:Heap)(x y:Str)(qual:Str)(scope:Scope)(f:Addr)(cd:Value)(cl:List (Str × Addr))(A:Around)(outer:List Env)(s:Shared)(H:Hp):Cx where
 prog:=P
 w:=w
 K:=K
 mg:=mg
 base:=base
 A:=A.deeper (envX qual scope s.heap.objs.size f cd cl)
 N:=[x,y]
 s₀:=s
 H₀:=H
 env:=envX qual scope s.heap.objs.size f cd cl
 outer:=outer
 stack:=envX qual scope s.heap.objs.size f cd cl::outer
 ex:=[]
 calm:=true
 fn:=fun _=>false
 pn:=[]
 xe:=fun _ _=>False
structure o6 (x y:Str) (scope:Scope):Prop where
 kind:scope.kind=.function
 co:scope.isCoroutine=false
 gen:scope.isGenerator=false
 nocell:∀ z∈scope.names,z.2≠.cell
 lx:scope.names.lookup x=some .local
 ly:scope.names.lookup y=some .free
 only:∀ z,scope.names.lookup z=some .free->z=y
theorem lookup_mem {α:Type}:∀ {l:List (Str × α)}{x:Str}{v:α},l.lookup x=some v->(x,v)∈l:=fun h=>PySem.mem_of_lookup h
section
variable {X:Cx}{pins:List (Addr × Obj)}{σ:St}{H:Hp}{s:Shared}
theorem Ez {qual x y:Str}{params:Arguments}{body:Expr}{scope:Scope}{pm ctv:Value}{c' cw f:Addr}{t:TE}{Q:VK}{u:Value}{v wv:V}{j:Nat}
  (I:aF X pins σ H s) (hf:(f,kla_obj "<lambda>" qual params body scope [(y,cw)] pm c' ctv)∈pins) (hcd:s.heap.CodeRec (.ref c') qual) (hd:X.A.handled=none) (hdep:X.A.in1.depth<recursionLimit)
  (hbind:∀ u,bindArgs (kla_fn "<lambda>" qual params body scope [(y,cw)] pm (.ref c') ctv) ⟨[u],[]⟩=pure [(x,u)]) (S:o6 x y scope)
  (hN:X.N[j]?=some y) (hk:X.env.scope.names.lookup y=some .cell) (hcw:X.env.cells.lookup y=some cw) (hs:σ[j]?=some (some wv))
  (hb:PE (y9 X.prog X.w X.K X.mg X.base x y qual scope f (.ref c') [(y,cw)] X.A.in1 X.stack s H) body t) (ht:t [some v,some wv] H Q) (rv:RelV v u) :
  wpAny (model X.prog X.w) X.A.in1 (call (.ref f) [u]) (EP X pins σ Q) (fun _ _=>False) s:=by
 have e0:=I.env0.in1;have pf:=I.pinAt hf;have lim:s.heap.NoLimit:=e0.mod.nolimit.keeps fun b o e=>(e0.bs b o e).1;obtain⟨m,hn,hloc⟩:=I.loc;obtain⟨uw,rw',lk⟩:=hloc j y wv hN hs (.inr (.inl hk));have isc:s.heap.IsCell cw (some uw):=by
  rcases lk with ⟨k,_⟩|⟨_,c,e,z⟩
  ·have k':X.env.scope.names.lookup y=some .local:=k;rw[hk]at k';cases k'
  ·rw[hcw]at e;cases e;exact z
 refine wpAny_call (codeAny_mono (R:=CR xg X.stack X.prog X.w H s Q (fun _ _ _=>False)) (kla_callFunE hdep pf.1 rfl S.co S.gen rfl hcd ?_) fun r s' hq=>?_)
 ·rw[hbind];refine wpAny_pure (wpAny_newFunctionEnv S.nocell (fun z hz=>by simp at hz;subst hz;exact S.lx) (fun h₁ hns hsb=>⟨lim.fresh _ hsb,?_⟩) S.kind)
  have hk₁:∀ b o,s.heap.get? b=some o->h₁.get? b=some o:=fun b o e=>hsb.extBut b o (ne_of_lt (Heap.lt_size e)) (Heap.get?_push_of_some _ e);show codeAny _ _ (.expr body (envX qual scope s.heap.objs.size f (.ref c') [(y,cw)])) _ _;have lkc:∀ z c,([(y,cw)]:List (Str × Addr)).lookup z=some c->z=y/\c=cw:=fun z c e=>by
   by_cases q:z=y
   ·subst q;simp at e;exact⟨rfl,e.symm⟩
   ·have:(z == y)=false:=by simpa using q
    simp[List.lookup,this]at e
  have hcx:=I.freeC y cw hcw;have J:aF (y9 X.prog X.w X.K X.mg X.base x y qual scope f (.ref c') [(y,cw)] X.A.in1 X.stack s H) [] [some v,some wv] H {s with heap:=h₁,toks:=s.toks+1}:=by
   have noA:∀ b:Addr,b∉([]:List Addr):=fun b z=>by cases z
   refine⟨⟨e0.mod,S.kind,rfl,rfl,le_refl _,fun z z' c h1 h2=>?_,fun z hz=>?_,fun _ _ z=>(by cases z),fun _=>hd,Around.frames_deeper e0.frames,.inr ⟨rfl,rfl⟩,fun b z=>absurd z (noA b),e0.bs,e0.bsz,fun b _ _=>noA b,fun b z=>absurd z (noA b),e0.funs,e0.frf⟩,
    rfl,e0.bare,Un.kept hk₁,⟨_,hns,fun i z a h1 h2 h3=>?_⟩,fun z c h=>?_,e0.hok.fresh (le_refl _),fun z c h=>?_,fun p hp=>absurd (show p∈([]:List (Addr × Obj)) from hp) (by simp),e0.hok.kept hk₁,rfl⟩
   ·rw[(lkc z c h1).1,(lkc z' c h2).1]
   ·have hz:scope.names.lookup z=some .cell\/scope.names.lookup z=some .free:=hz
    rcases hz with q|q
    ·exact absurd rfl (S.nocell _ (lookup_mem q))
    ·rw[S.only z q];exact⟨cw,by show List.lookup y [(y,cw)]=some cw;simp⟩
   ·match i,h1,h2 with
    | 0,h1,h2=>
     cases h1;cases h2
     exact⟨u,rv,.inl ⟨S.lx,by simp⟩⟩
    | 1,h1,h2=>
     cases h1;cases h2
     exact⟨uw,rw',.inr ⟨.inr S.ly,cw,by show List.lookup y [(y,cw)]=some cw;simp,isc.keeps hk₁⟩⟩
    | n+2,h1,_=>cases h1
   ·obtain⟨rfl,rfl⟩:=lkc z c h;exact⟨_,isc.keeps hk₁⟩
   ·obtain⟨rfl,rfl⟩:=lkc z c h;exact hcx
  refine kla_codeExpr (wpAny_mono (hb [] _ _ H Q J ht) (fun r s' hr=>?_) fun _ _ z=>z.elim);obtain⟨v',H',J',r',q'⟩:=hr;exact⟨v',H',J'.os,J'.bare,J'.base,J'.hok,r',q'⟩
 ·cases r with
  | error e=>exact hq.elim
  | ok fl=>
   cases fl with
   | ret u=>exact I.after hq
   | next=>exact hq.elim
   | brk=>exact hq.elim
   | cont=>exact hq.elim
structure xm (X:Cx) (c P:Addr) (mb:Addr):Prop where
 code:X.env.code=.ref c
 hd:CodeHd X.base c P
 bm:∃ ob,X.mg "__builtins__"=some (.ref mb)/\mb≠builtinsNs/\mb≠mainGlobals/\X.base.get? mb=some ob/\ob.cls=.type "module"/\ob.dict=some builtinsNs/\ob.data=.plain
theorem EA {c P mb:Addr}{y:Str}{cw:Addr}{params:Arguments}{body:Expr}{scope:Scope}{lp:Pos}{ps:Array Value}{E:Value->Shared->Prop}{Q:Value->Shared->Prop}(I:aF X pins σ H s)(L:xm X c P mb)(hP:H P=some (.tbl ps))(tab:DL.Tab H)
  (hcl:closureFor scope X.env=pure [(y,cw)]) (hq:X.env.qual++"<lambda>"=DL.lamQ) (hdef:defaultsOf params X.env=([],[]))
  (h:∀ f c' pm ctv H' s',aF X (pins++[(f,kla_obj "<lambda>" DL.lamQ params body scope [(y,cw)] pm c' ctv)]) σ H' s'->DL.Same H H'->DL.Tab H'->H' c'=some (DL.HCode c')->Q (.ref f) s') :
  wpAny (model X.prog X.w) X.A (eval (.Lambda params body scope lp) X.env) Q E s:=by
 have hPo:s.heap.get? P=some (tabObj ps):=I.hok P _ hP;obtain⟨ht,hcodes⟩:=tab P ps hP;have hgs:s.heap.Ns mainGlobals X.mg:=I.ok.mod.glob.keeps I.bk;have nP:∀ b o,X.base.get? b=some o->b≠P:=fun b o e z=>by have:=(I.bs b o e).2;rw[z,hP]at this;cases this
 have hgP:mainGlobals≠P:=by
  obtain⟨o,_,_,e,_⟩:=I.ok.mod.glob;exact nP _ _ e
 obtain⟨ob,b1,b2,b3,b4,b5,b6,b7⟩:=L.bm;have hb:s.heap.BuiltinsAt X.mg P:=⟨mb,ob,b1,b2,b3,nP _ _ b4,I.bk _ _ b4,b5,b6,b7⟩;have C:=L.hd.keeps I.bk;have ncell:∀ (o:Obj),o=kla_obj "<lambda>" DL.lamQ params body scope [(y,cw)] ((X.mg "__name__").getD .none) 0 .none->True:=fun _ _=>trivial;refine kla_eval hdef ?_;rw[hq]
 cases hf:codeAmong lp ps.toList with
 | some cv=>
  obtain⟨c',rfl,hc'⟩:=hcodes lp cv hf;refine kla_makeFunctionHit (mg:=X.mg) hcl I.ok.glob hgs L.code C hPo ht hf hb fun ctv h' tk hk hsz=>?_;have J1:aF X pins σ H {s with heap:=h'.push {cls:=.type "function",data:=.func (kla_fn "<lambda>" DL.lamQ params body scope [(y,cw)] ((X.mg "__name__").getD .none) (.ref c') ctv)},toks:=tk}:=I.kept fun b o e=>Heap.get?_push_of_some _ (hk b o e);obtain⟨fs,_⟩:=I.fpSt (b:=h'.objs.size) hsz (I.hok.fresh hsz);exact h h'.objs.size c' _ ctv H _ (J1.repin fun p hp=>by
   rcases mem_append.mp hp with z|z
   ·exact .inl z
   ·simp at z;subst z;exact .inr ⟨Heap.get?_push_size _ rfl,I.hok.fresh hsz,fs,fun v z=>by cases z⟩) (DL.Same.refl _) tab hc'
 | none=>
  refine kla_makeFunction (mg:=X.mg) hcl I.ok.glob hgs L.code C hPo ht hf hgP hb fun c' ctv h' tk hx hge hlt hrec htb=>?_;have hcn:H c'=none:=I.hok.fresh hge;have cP:c'≠P:=fun z=>by rw[z,hP]at hcn;cases hcn
  have hsz:s.heap.objs.size<=h'.objs.size:=Nat.le_of_lt (lt_of_le_of_lt hge hlt)
  let kob:Obj:=kla_obj "<lambda>" DL.lamQ params body scope [(y,cw)] ((X.mg "__name__").getD .none) c' ctv
  let ps':Array Value:=ps++#[rawInt lp.line,rawInt lp.col,.ref c']
  let H':Hp:=cO (cO H P (.tbl ps')) c' (DL.HCode c')
  have old:∀ b o,b≠P->s.heap.get? b=some o->(h'.push kob).get? b=some o:=fun b o n e=>Heap.get?_push_of_some _ (hx b o n e);have gP:(h'.push kob).get? P=some (tabObj ps'):=Heap.get?_push_of_some _ htb;have H'o:∀ b,b≠P->b≠c'->H' b=H b:=fun b n1 n2=>by show cO (cO H P _) c' _ b=_;rw[aW n2,aW n1]
  have H'P:H' P=some (.tbl ps'):=by show cO (cO H P _) c' _ P=_;rw[aW (Ne.symm cP),aZ]
  have H'c:H' c'=some (DL.HCode c'):=aZ;have un:Un X.fs [] H H' s.heap (h'.push kob):=by
   have np:∀ b,H b=none->b≠P:=fun b n z=>by rw[z,hP]at n;cases n
   have nc:∀ b o,s.heap.get? b=some o->b≠c':=fun b o e=>ne_of_lt (lt_of_lt_of_le (Heap.lt_size e) hge);refine⟨fun b o e n _ _=>old b o (np b n) e,fun b o e n _ _=>⟨o.slots,old b o (np b n) e⟩,fun b o e n _=>by rw[H'o b (np b n) (nc b o e)];exact n,fun b o e _=>?_,fun b xs e=>?_,fun b o u e=>?_,fun b qs e=>?_⟩
   ·by_cases z:b=P
    ·subst z;exact⟨_,gP⟩
    ·exact⟨o,old b o z e⟩
   ·rw[H'o b (fun z=>by rw[z,hP]at e;cases e) (bf e hcn)];exact e
   ·rw[H'o b (fun z=>by rw[z,hP]at e;cases e) (bf e hcn)];exact e
   ·by_cases z:b=P
    ·subst z;rw[hP]at e;cases e;exact⟨_,H'P⟩
    ·exact⟨#[],by rw[H'o b z (bf e hcn),e];simp⟩
  have hrec':(h'.push kob).CodeRec (.ref c') DL.lamQ:=hrec.push _;have hok:ig X.prog X.w H' (h'.push kob):=fun a o e=>by
   by_cases z1:a=c'
   ·subst z1;rw[H'c]at e;cases e
    refine⟨hrec',?_,fun h1 h2 ⟨c,o,vs,t,q1,q2,q3,q4⟩ k=>?_⟩
    ·obtain⟨c,o,vs,t,q1,q2,_⟩:=hrec'
     cases q1;exact⟨o,q2⟩
    ·cases q1;exact⟨_,o,vs,t,rfl,k o q2,q3,q4⟩
   ·by_cases z2:a=P
    ·subst z2;rw[H'P]at e;cases e
     exact gP
    ·have e':H a=some o:=by rw[<-H'o a z2 z1];exact e
     refine(I.hok a o e').stay (fun b u hb q=>old b u ?_ q) (fun b q=>?_) fun b xs q=>?_
     ·rcases hb with rfl|hb
      ·exact z2
      ·exact fun z=>by rw[z,hP]at hb;cases hb
     ·rw[H'o b (fun z=>by rw[z,hP]at q;cases q) (bf q hcn)];exact q
     ·rw[H'o b (fun z=>by rw[z,hP]at q;cases q) (bf q hcn)];exact q
  have J1:aF X pins σ H' {s with heap:=h'.push kob,toks:=tk}:=I.un un hok;obtain⟨fs,_⟩:=I.fpSt (b:=h'.objs.size) hsz (I.hok.fresh hsz);have hfn:H' h'.objs.size=none:=by
   rw[H'o _ (fun z=>?_) (fun z=>?_)]
   ·exact I.hok.fresh hsz
   ·have:=I.hok.lt hP;rw[<-z]at this;exact absurd (lt_of_lt_of_le this hsz) (lt_irrefl _)
   ·rw[<-z]at hlt;exact absurd hlt (lt_irrefl _)
  have sm:DL.Same H H':=⟨fun b o e n=>by
    have n1:b≠P:=fun z=>by rw[z,hP]at e;cases e;cases n
    rw[H'o b n1 (bf e hcn)];exact e,fun b qs e=>by
    by_cases z:b=P
    ·subst z;exact⟨_,H'P⟩
    ·exact⟨qs,by rw[H'o b z (bf e hcn)];exact e⟩⟩
  have tab':DL.Tab H':=fun P2 qs e=>by
   have keepc:∀ c,H c=some (DL.HCode c)->H' c=some (DL.HCode c):=fun c q=>sm.get q
   by_cases z1:P2=c'
   ·subst z1;rw[H'c]at e;cases e
   ·by_cases z2:P2=P
    ·subst z2;rw[H'P]at e;cases e
     refine⟨?_,fun pos v q=>?_⟩
     ·show TriplesOk (ps++#[rawInt lp.line,rawInt lp.col,.ref c']).toList;rw[Array.toList_append];exact TriplesOk_snoc _ _ _ _ ht
     ·have q':codeAmong pos (ps.toList++[rawInt lp.line,rawInt lp.col,.ref c'])=some v:=by rw[<-Array.toList_append]at *;exact q
      have key:∀ l:List Value,TriplesOk l->codeAmong pos (l++[rawInt lp.line,rawInt lp.col,.ref c'])=some v->codeAmong pos l=some v\/v=.ref c':=by
       intro l hl
       fun_induction TriplesOk l with
       | case1=>
        intro hq;simp only[nil_append,codeAmong,rawInt]at hq
        split at hq
        ·exact .inr (Option.some.inj hq).symm
        ·cases hq
       | case2 a t b u x rest ih=>
        intro hq;simp only[List.cons_append,codeAmong]at hq ⊢
        split
        ·rename_i hc;rw[if_pos hc]at hq;exact .inl hq
        ·rename_i hc;rw[if_neg hc]at hq;exact ih hl hq
       | case3=>exact hl.elim
      rcases key _ ht q' with z|z
      ·obtain⟨c,e1,e2⟩:=hcodes pos v z;exact⟨c,e1,keepc c e2⟩
      ·exact⟨c',z,H'c⟩
    ·rw[H'o P2 z2 z1]at e;obtain⟨t1,t2⟩:=tab P2 qs e;exact⟨t1,fun pos v q=>let ⟨c,e1,e2⟩:=t2 pos v q;⟨c,e1,keepc c e2⟩⟩
  exact h h'.objs.size c' _ ctv H' _ (J1.repin fun p hp=>by
   rcases mem_append.mp hp with z|z
   ·exact .inl z
   ·simp at z;subst z;exact .inr ⟨Heap.get?_push_size _ rfl,hfn,fs,fun v z=>by cases z⟩) sm tab' H'c
end
end L2
set_option maxHeartbeats 4000000
namespace L2
open PySem PySem.Spec PyProof.Rows PySem.W
def Kj (K:Frg)(P:Addr)(te tb:TE)(j:Nat):TE:=fun σ H Q=>te σ H fun x H1=>∃ (a:Addr) (xs:List Addr) (ps:Array Value) (G:Hp->Prop) (kf:Nat->Int) (wv:V),x=.ref a/\xs≠[]/\H1 P=some (.tbl ps)/\DL.Tab H1/\σ[j]?=some (some wv) ∧
 (∀ H2,DL.Same H1 H2->DL.Tab H2->G H2)/\(∀ H2,G H2->cX K H2 a (xs.map V.ref))/\(∀ i v H2,xs[i]?=some v->G H2->tb [some (.ref v),some wv] H2 fun r H3=>r=.int (kf i)/\G H3/\DL.Same H2 H3) ∧
 ∀ i v H2,xs[i]?=some v->(∀ j,j<xs.length->kf i<=kf j)->G H2->Q (.ref v) H2
theorem td:∀ {xs:List Addr}{us:List Value},aO (xs.map V.ref) us->us=xs.map Value.ref
 | [],_,.nil=>rfl
 | _::_,_,.cons r t=>by cases r;rw[td t];rfl
section
variable {X:Cx}
theorem BP {c P mb cw:Addr}{x y:Str}{params:Arguments}{body e:Expr}{scope:Scope}{lp p pos kp:Pos}{te tb:TE}{j:Nat} (hc:X.calm=true) (hd:X.A.handled=none) (hdep:X.A.in1.depth<recursionLimit) (hm:X.mg "min"=none) (L:xm X c P mb) (S:o6 x y scope)
  (hN:X.N[j]?=some y) (hk:X.env.scope.names.lookup y=some .cell) (hcw:X.env.cells.lookup y=some cw) (hcl:closureFor scope X.env=pure [(y,cw)]) (hq:X.env.qual++"<lambda>"=DL.lamQ) (hdef:defaultsOf params X.env=([],[]))
  (hbind:∀ pm cd ctv u,bindArgs (kla_fn "<lambda>" DL.lamQ params body scope [(y,cw)] pm cd ctv) ⟨[u],[]⟩=pure [(x,u)])
  (he:PE X e te) (hmono:∀ σ H (Q Q2:VK),(∀ x H1,Q x H1->Q2 x H1)->te σ H Q->te σ H Q2) (hb:∀ f c' s H,PE (y9 X.prog X.w X.K X.mg X.base x y DL.lamQ scope f (.ref c') [(y,cw)] X.A.in1 X.stack s H) body tb)
  (hg:Gl X "min":=by rfl) (hs:starEach [e] X.env=(false,eval e X.env)::starEach [] X.env:=by exact aS rfl)
  (hks:(backToKw pos (keywordEach [⟨some "key",.Lambda params body scope lp,kp⟩] X.env)).filterMap (·.1)=[Str.ofString "key"]:=by rfl)
  (h1:backTo pos (starEach [e] X.env)=(false,eval e X.env)::backTo pos (starEach [] X.env):=by rfl) (h2:(backTo pos (starEach [e] X.env)).any (·.1)=false:=by exact dS rfl)
  (h3:(backToKw pos (keywordEach [⟨some "key",.Lambda params body scope lp,kp⟩] X.env)).all (·.1.isSome)=true:=by rfl) (h4:(backToKw pos (keywordEach [⟨some "key",.Lambda params body scope lp,kp⟩] X.env)).any (·.1.isNone)=false:=by rfl) :
  PE X (.Call (.Name "min" p) [e] [⟨some "key",.Lambda params body scope lp,kp⟩] pos) (Kj X.K P te tb j):=by
 intro pins s σ H Q I h;refine wpAny_Call_Name_kw (kJ I hg hm PyProof.Rows.boot_min ?_);have h':K4 te Qy σ H (fun vs H1=>∃ x,vs=[x]/\∃ (a:Addr) (xs:List Addr) (ps:Array Value) (G:Hp->Prop) (kf:Nat->Int) (wv:V),x=.ref a/\xs≠[]/\H1 P=some (.tbl ps)/\DL.Tab H1/\σ[j]?=some (some wv) ∧
   (∀ H2,DL.Same H1 H2->DL.Tab H2->G H2)/\(∀ H2,G H2->cX X.K H2 a (xs.map V.ref))/\(∀ i v H2,xs[i]?=some v->G H2->tb [some (.ref v),some wv] H2 fun r H3=>r=.int (kf i)/\G H3/\DL.Same H2 H3) ∧
   ∀ i v H2,xs[i]?=some v->(∀ j,j<xs.length->kf i<=kf j)->G H2->Q (.ref v) H2):=hmono _ _ _ _ (fun x H1 q=>⟨x,rfl,q⟩) h
 refine callWith_kw (cG (oC he uR hs pos pins s σ H _ I h') fun us s1 ⟨vs,H1,I1,r1,q1⟩=>?_) h1 h2 h3 h4;obtain⟨x0,rfl,a,xs,ps,G,kf,wv,rfl,hne,hP,tab,hwv,hG,hL,turn,fin⟩:=q1;obtain⟨u0,us,rfl,r0,rn⟩:∃ u0 us',us=u0::us'/\RelV (.ref a) u0/\aO [] us':=by
  cases r1 with|cons r t=>exact⟨_,_,rfl,r,t⟩
 cases rn;cases r0
 refine kws_cons (EA I1 L hP tab hcl hq hdef fun f c' pm ctv H2 s2 I2 sm tab2 hc'=>kws_nil ?_);rw[hks];refine tL (X:=X) (pins:=pins++[(f,kla_obj "<lambda>" DL.lamQ params body scope [(y,cw)] pm c' ctv)]) (σ:=σ) (l:=a) (vs:=xs.map Value.ref) (G:=fun H=>G H/\H c'=some (DL.HCode c')) kf f hd (fun H s pins g J=>?_) (by rw[length_map];exact length_pos_iff.mpr hne) ⟨hG H2 sm tab2,hc'⟩ I2 (fun i u hi own s3 H3 g3 J3=>?_) fun i u H3 s3 hi hmin g3 J3=>?_
 ·obtain⟨its,r,p,_⟩:=J.list (hL H g.1);rw[td r]at p;obtain⟨o,n,e1,e2,e3,e4⟩:=p;exact⟨o,e1,e2,n,e4⟩
 ·obtain⟨v,hv,rfl⟩:∃ v,xs[i]?=some v/\u=.ref v:=by
   rw[getElem?_map]at hi
   cases e:xs[i]? with
   | none=>rw[e]at hi;cases hi
   | some v=>rw[e]at hi;cases hi;exact⟨v,rfl,rfl⟩
  have hcd:s3.heap.CodeRec (.ref c') DL.lamQ:=(J3.hok c' _ g3.2).1;refine cG (Ez (pm:=pm) (ctv:=ctv) (t:=tb) (v:=.ref v) (wv:=wv) (Q:=fun r H4=>r=.int (kf i)/\G H4/\DL.Same H3 H4) J3 (by simp) hcd hd hdep (hbind _ _ _) S hN hk hcw hwv (hb f c' s3 H3) (turn i v H3 hv g3.1) rfl) fun u s4 ⟨r,H4,J4,rr,e,g4,sm4⟩=>?_
  subst e;obtain⟨t,rfl⟩:=rr;exact⟨t,H4,rfl,J4,g4,sm4.get g3.2⟩
 ·obtain⟨v,hv,rfl⟩:∃ v,xs[i]?=some v/\u=.ref v:=by
   rw[getElem?_map]at hi
   cases e:xs[i]? with
   | none=>rw[e]at hi;cases hi
   | some v=>rw[e]at hi;cases hi;exact⟨v,rfl,rfl⟩
  exact⟨.ref v,H3,J3.repin fun p hp=>.inl (by simp[hp]),rfl,fin i v H3 hv (fun j hj=>hmin j (by rw[length_map];exact hj)) g3.1⟩
end
end L2
set_option maxHeartbeats 4000000
namespace DL
open PySem L2 PyProof.Rows PySem.W
def tups:List T->Bool
 | []=>true
 | .tup us::r=>cF us && tups r
 | _::_=>false
theorem wX:∀ {ts:List T},tups ts=true->∀ t∈ts,lP t=true
 | [],_,t,h=>by cases h
 | .tup us::r,h,t,m=>by
  simp only[tups,Bool.and_eq_true]at h
  rcases mem_cons.mp m with z|z
  ·subst z;simpa only [lP] using h.1
  ·exact wX h.2 t z
theorem sX {K:Frg}{H:Hp}:∀ {ts:List T}{vs:List V},tups ts=true->au K H ts vs->∃ as:List Addr,vs=as.map V.ref
 | [],_,_,h=>⟨[],h⟩
 | .tup us::r,_,h,⟨x,q,e,p,t⟩=>by
  simp only[tups,Bool.and_eq_true]at h;obtain⟨as,z⟩:=sX h.2 t;unfold aA at p;obtain⟨a,xs,e1,_,_⟩:=p;exact⟨a::as,by rw[e,z,e1];rfl⟩
def vk (we:WE)(j:Nat)(wb:WE):WE:=fun δ R=>we δ fun s=>∃ (ts:List T) (kf:T->Int) (sj:S),items s=some ts/\ts≠[]/\tups ts=true/\δ[j]?=some (some sj) ∧
 (∀ t∈ts,wb [some (.t t),some (.t (tr sj))] fun r=>r=.t (.int (kf t)))/\∀ t∈ts,(∀ u∈ts,kf t<=kf u)->R (.t t)
def RA (j:Nat)(wb:WE)(δ:aR)(R:S->Prop)(s:S):Prop:=∃ (ts:List T) (kf:T->Int) (sj:S),items s=some ts/\ts≠[]/\tups ts=true/\δ[j]?=some (some sj) ∧
 (∀ t∈ts,wb [some (.t t),some (.t (tr sj))] fun r=>r=.t (.int (kf t)))/\∀ t∈ts,(∀ u∈ts,kf t<=kf u)->R (.t t)
theorem Ct {we wb:WE}{j:Nat}{δ:aR}{R:S->Prop}:vk we j wb δ R=we δ (RA j wb δ R):=rfl
theorem fK.tree {K:Frg}{F H:Hp}(e:Same F H):∀ {s:S}{v:V},fK K F H s v->aA K H (tr s) v
 | .t _,_,h=>aA.same e h
 | .vt _,_,h=>h.elim
 | .ol _,_,⟨a,xs,h1,h2,h3,h4⟩=>⟨a,xs,h1,cX.of h3,au.same e h4⟩
section
variable {X:Cx}
theorem Bc {c P mb cw:Addr}{x y:Str}{params:Arguments}{body e:Expr}{scope:Scope}{lp p pos kp:Pos}{we wb:WE}{j:Nat} (hc:X.calm=true) (hd:X.A.handled=none) (hdep:X.A.in1.depth<recursionLimit) (hm:X.mg "min"=none) (L:xm X c P mb) (S:o6 x y scope) (hlam:iA X.K=some P)
  (hN:X.N[j]?=some y) (hk:X.env.scope.names.lookup y=some .cell) (hcw:X.env.cells.lookup y=some cw) (hcl:closureFor scope X.env=pure [(y,cw)]) (hq:X.env.qual++"<lambda>"=DL.lamQ) (hdef:defaultsOf params X.env=([],[]))
  (hbind:∀ pm cd ctv u,bindArgs (kla_fn "<lambda>" DL.lamQ params body scope [(y,cw)] pm cd ctv) ⟨[u],[]⟩=pure [(x,u)])
  (he:PE X e (av X.K we)) (hb:∀ f c' s H,PE (y9 X.prog X.w X.K X.mg X.base x y DL.lamQ scope f (.ref c') [(y,cw)] X.A.in1 X.stack s H) body (av X.K wb))
  (hg:Gl X "min":=by rfl) (hs:starEach [e] X.env=(false,eval e X.env)::starEach [] X.env:=by exact aS rfl)
  (hks:(backToKw pos (keywordEach [⟨some "key",.Lambda params body scope lp,kp⟩] X.env)).filterMap (·.1)=[Str.ofString "key"]:=by rfl)
  (h1:backTo pos (starEach [e] X.env)=(false,eval e X.env)::backTo pos (starEach [] X.env):=by rfl) (h2:(backTo pos (starEach [e] X.env)).any (·.1)=false:=by exact dS rfl)
  (h3:(backToKw pos (keywordEach [⟨some "key",.Lambda params body scope lp,kp⟩] X.env)).all (·.1.isSome)=true:=by rfl) (h4:(backToKw pos (keywordEach [⟨some "key",.Lambda params body scope lp,kp⟩] X.env)).any (·.1.isNone)=false:=by rfl) :
  PE X (.Call (.Name "min" p) [e] [⟨some "key",.Lambda params body scope lp,kp⟩] pos) (av X.K (vk we j wb)):=
 (BP (te:=av X.K we) (tb:=av X.K wb) hc hd hdep hm L S hN hk hcw hcl hq hdef hbind he (fun σ H Q Q2 i ⟨δ,R,F,rl,h,k⟩=>⟨δ,R,F,rl,h,fun v F' H' s a b c=>i _ _ (k v F' H' s a b c)⟩) hb hg hs hks h1 h2 h3 h4).imp fun σ H Q ⟨δ,R,F,rl,h,k⟩=>⟨δ,_,F,rl,h,fun v F1 H1 s e p q=>by
  obtain⟨ts,kf,sj,hi,hne,ht,hsj,hbo,hf⟩:=q;obtain⟨a,vs,rfl,sq,tp⟩:=(p.val e.sub).list e.sub hi;obtain⟨as,rfl⟩:=sX ht tp;have tk:=(rl.ext e).tab;obtain⟨ps,hP⟩:=tk.2 P hlam;obtain⟨wv,hσ,so⟩:=rl.slot j sj hsj;have tw:=(so.ext e).tree e.sub;have len:=tp.length;rw[length_map]at len;have at_:∀ (i:Nat) (v:Addr),as[i]?=some v->∃ t,ts[i]?=some t/\aA X.K H1 t (.ref v):=fun i v hv=>tp.getV (by rw[getElem?_map,hv];rfl)
  refine⟨a,as,ps,fun H2=>Same H1 H2/\Tab H2,fun i=>kf (ts.getD i .non),wv,rfl,fun z=>?_,hP,tk.1,hσ,fun H2 s2 t2=>⟨s2,t2⟩,fun H2 g=>g.1.seq sq,fun i v H2 hv g=>?_,fun i v H2 hv hmin g=>?_⟩
  ·subst z;exact hne (length_eq_zero_iff.mp (by simpa using len.symm))
  ·obtain⟨t,h1,h2⟩:=at_ i v hv;have hd:ts.getD i .non=t:=by rw[getD_eq_getElem?_getD,h1];rfl
   refine⟨[some (.t t),some (.t (tr sj))],_,H2,⟨Same.refl _,fun _ _ h _=>.inl h,rfl,fun m s hm=>?_,fun m n b us ws _ hm=>?_,tk.same g.1 g.2⟩,hbo t (mem_of_getElem? h1),fun r F3 H3 s e3 p3 q3=>?_⟩
   ·match m,hm with
    | 0,hm=>cases hm;exact⟨_,rfl,aA.same g.1 h2⟩
    | 1,hm=>cases hm;exact⟨_,rfl,aA.same g.1 tw⟩
    | n+2,hm=>cases hm
   ·match m,hm with
    | 0,hm=>cases hm
    | 1,hm=>cases hm
    | n+2,hm=>cases hm
   ·subst q3;refine⟨?_,⟨g.1.trans e3.hh,e3.tb g.2⟩,e3.hh⟩;show r=V.int (kf (ts.getD i .non));rw[hd];exact p3
  ·obtain⟨t,h1,h2⟩:=at_ i v hv;have hm:=mem_of_getElem? h1;have hd:ts.getD i .non=t:=by rw[getD_eq_getElem?_getD,h1];rfl
   have ex:=lG (x:=none) e.sub e.full g.1 (fun _ z=>by cases z) (fun _=>g.2)
   refine k _ _ H2 (.t t) (e.trans ex) (aA.same ex.ff (aA.full e.full (wX ht t hm) h2)) (hf t hm fun u hu=>?_);obtain⟨n,hn,hu'⟩:=getElem_of_mem hu;have:kf (ts.getD i .non)<=kf (ts.getD n .non):=hmin n (by omega)
   rw[hd]at this;have hd2:ts.getD n .non=u:=by rw[getD_eq_getElem?_getD,getElem?_eq_getElem hn,hu'];rfl
   rw[hd2]at this;exact this⟩
end
theorem EB {l:List (Str × NameKind)}{y z:Str}(h:∀ p∈l,p.2=.free->p.1=y)(hz:l.lookup z=some .free):z=y:=h _ (lookup_mem hz) rfl
theorem Bp {K:Frg}{f c T:Addr}{oc oc':Value}{od od':Option Addr}{fd:FuncData}{sl sl':Array (Option Value)}{vs:Array Value} (h1:PySem.W.nsIn K mainGlobals "depth"=some (some (.ref f))) (h2:K.lookup f=some ⟨oc,od,.func fd,sl⟩) (h3:fd.code=.ref c) (h4:K.lookup c=some ⟨oc',od',.fields vs,sl'⟩) (h5:(vs[11]?:Option Value)=some (.ref T)):iA K=some T:=by
 unfold iA;simp only[h1,h2,h3,h4,h5]
structure K9 (K:Frg) (x qual:Str) (st:Stmt) (f:Addr) (fd:FuncData) (c P:Addr):Prop where
 ex:∃ (oc:Value) (od:Option Addr) (kV doc pm:Value) (an:Option Addr) (ct:Value) (osl:Array (Option Value)),
  fd=PySem.W.fnOf x qual (eI st) (bY st) (al st) .none kV doc pm an (.ref c) ct/\K.lookup f=some ⟨oc,od,.func fd,osl⟩/\PySem.W.codeIn K (.ref c) qual=true
 kp:PySem.W.keepIn K (.ref f)=true
 hd:PySem.W.codeHdIn K c P=true
 lam:iA K=some P
theorem K9.fn {K:Frg}{x qual:Str}{st:Stmt}{f c P:Addr}{fd:FuncData}(F:K9 K x qual st f fd c P):Ku K x qual st f fd:=
 let ⟨oc,od,kV,doc,pm,an,ct,osl,e1,e2,e3⟩:=F.ex;⟨⟨oc,od,kV,doc,pm,an,.ref c,ct,osl,e1,e2,e3⟩,F.kp⟩
section
variable {P:Program}{wd:World}{K:Frg}{mg:Str->Option Value}{base:Heap}
theorem Iq {x qual:Str}{st:Stmt}{f c T:Addr}{fd:FuncData}{N ps:List Str}{k:Nat}{sp:aJ}{w:WS}(F:K9 K x qual st f fd c T)(S:ax N ps (al st))
  (hlen:∀ ss R,sp ss R->ss.length=ps.length)
  (hbody:∀ (A:Around) (outer:List Env) (s:Shared) (H:Hp) (E:XK),bX k (A.deeper (PyProof.Rows.envOfC qual (al st) s.heap.objs.size f (.ref c)))->kA (pC xg P wd K mg base N qual (al st) f (.ref c) A outer s H E).nox (bY st) (bE K H w))
  (h:∀ ss R,sp ss R->w {nx:=fun _=>R (.t .non),rt:=R} (gL N ss)):ja P wd K mg base xg (k+1) f fd ps (vh K sp):=by
 have pl:ps.length<=N.length:=by
  have:=congrArg List.length S.pre;rw[length_take]at this;omega
 obtain⟨oc,od,kV,doc,pm,an,ct,osl,rfl,lk,hcd⟩:=F.ex;refine KG lk hcd S (fun vs H Q E hs=>?_) fun A outer s H vs Q E hr hs=>?_
 ·obtain⟨ss,R,_,_,r,hs,_⟩:=hs;rw[jA r,hlen ss R hs]
 ·obtain⟨ss,R,tk,ha,r,hs,k⟩:=hs;refine⟨_,(hbody A outer s H E hr).nox,gL N ss,_,H,Same.refl _,sQ tk (by rw[hlen ss R hs];exact pl) ha r,h ss R hs,⟨fun σ' F' H' δ' ff rl q=>?_,fun v H' s' sm tk rc q=>k v H' s' sm tk rc q,fun _ _ _ _ _ _ z=>z.elim,fun _ _ _ _ _ _ z=>z.elim⟩⟩
  exact k .non H' (.t .non) (ff.trans rl.sub) rl.tab rfl q
end
end DL
set_option maxHeartbeats 4000000
namespace DL
open PySem PySem.Spec L2 PyProof.Rows PySem.W
def Oq (mg:Str->Option Value) (base:Heap):Prop:=∃ mb ob,mg "__builtins__"=some (.ref mb)/\mb≠builtinsNs/\mb≠mainGlobals/\base.get? mb=some ob/\ob.cls=.type "module"/\ob.dict=some builtinsNs/\ob.data=.plain
theorem Bq {P:Program}{w:World}{K:Frg}{mg mb:Str->Option Value}{CX:Cf}{k:Nat}{fa a c T:Addr}{fd:FuncData}{x:Str}{sp:Sp}{s₁:Shared}{vs:List Value}{ns:List Int}
  (hTK:K.lookup T=none) (hT:s₁.heap.get? T=some (tabObj #[])) (hTc:CodeHd s₁.heap c T)
  (KX:K.In s₁.heap) (hns:s₁.heap.Ns mainGlobals mg) (hb:s₁.heap.Ns builtinsNs mb) (hbm:Oq mg s₁.heap) (hbb:∀ x:Str,x≠"__name__"->mb x=bootBuiltins x) (hlim:s₁.heap.NoLimit) (hg:s₁.gens=#[])
  (ha:s₁.heap.get? a=some {cls:=.type "list",data:=.seq vs.toArray}) (hi:IntsAre vs ns) (hl:ns.length<=sizeLine) (hr:bX k callerA)
  (F:∀ base:Heap,K.In base->base.Ns mainGlobals mg->Oq mg base->ja P w K mg base CX k fa fd [x] sp) (hbind:∀ (s:Shared) (u:Value),BindsTo s fd ⟨[u],[]⟩ [(x,u)])
  (hsp:∀ H:Hp,Tab H->(∃ ps,H T=some (.tbl ps))->cX K H a (ns.map V.int)->sp [.ref a] H (fun v _=>v=.bl true) fun _ _ _=>False)
  (hCX:∀ H e s',CX [] H s₁ (fun _ _ _=>False) e s'->False) :
  codeAny (model P w) callerA (.call (.ref fa) ⟨[.ref a],[]⟩) (fun r s'=>r=.ok (.ret (.bool true))/\OldK s₁.heap s'.heap/\s'.os=s₁.os/\AllBare s'.gens) s₁:=by
 have rv:=sZ hi;have lenV:=hi.length;have naT:a≠T:=fun z=>by
  rw[z,hT]at ha
  cases ha
 have core:∀ H:Hp,(∀ b,H b=none\/b=T\/∃ o xs,b=a/\H b=some (.frz o (.lst xs)))->H T=some (.tbl #[])->cX K H a (ns.map V.int)->ig P w H s₁.heap->(H a≠none->K.lookup a=none) →
   codeAny (model P w) callerA (.call (.ref fa) ⟨[.ref a],[]⟩) (fun r s'=>r=.ok (.ret (.bool true))/\OldK s₁.heap s'.heap/\s'.os=s₁.os/\AllBare s'.gens) s₁:=by
  intro H hO hHT hS hok hK;have hA:∀ b,H b≠none->b=a\/b=T:=fun b z=>by
   rcases hO b with q|q|⟨_,_,q,_⟩
   ·exact absurd q z
   ·exact .inr q
   ·exact .inl q
  have base_of:∀ {b:Addr}{o:Obj},s₁.heap.get? b=some o->H b=none->(qZ s₁.heap H).get? b=some o:=fun e n=>Ek e n;have noA:∀ {b:Addr}{o:Obj},s₁.heap.get? b=some o->(∀ its n,o.data≠.seq its n)->(∀ ps,o.data≠.fields ps)->H b=none:=fun {b o} e d1 d2=>by
   cases q:H b with
   | none=>rfl
   | some u=>
    rcases hA b (by rw[q];simp) with e'|e'
    ·subst e';rw[ha]at e;cases e
     exact absurd rfl (d1 vs.toArray 0)
    ·subst e';rw[hT]at e;cases e
     exact absurd rfl (d2 #[])
  have nsK:∀ {b:Addr}{m:Str->Option Value},s₁.heap.Ns b m->(qZ s₁.heap H).Ns b m:=fun {b m} ⟨o,es,ep,e,d,r⟩=>⟨o,es,ep,base_of e (noA e (fun _ _ z=>by rw[d]at z;cases z) (fun _ z=>by rw[d]at z;cases z)),d,r⟩
  have hKb:K.In (qZ s₁.heap H):=fun b o e=>base_of (KX b o e) (by
   cases q:H b with
   | none=>rfl
   | some u=>
    rcases hA b (by rw[q];simp) with e'|e'
    ·subst e';rw[hK (by rw[q];simp)]at e;cases e
    ·subst e';rw[hTK]at e;cases e)
  have hM:Mod K mg (qZ s₁.heap H):=⟨hKb,nsK hns,⟨mb,nsK hb,hbb⟩,let ⟨mc,h1,h2⟩:=hlim;⟨mc,nsK h1,h2⟩⟩;have hB:Oq mg (qZ s₁.heap H):=by
   obtain⟨bm,ob,b1,b2,b3,b4,b5,b6,b7⟩:=hbm;exact⟨bm,ob,b1,b2,b3,base_of b4 (noA b4 (fun _ _ z=>by rw[b7]at z;cases z) (fun _ z=>by rw[b7]at z;cases z)),b5,b6,b7⟩
  have e0:xi P w K mg (qZ s₁.heap H) callerA [] s₁ H:=⟨rfl,hM,fun b o e=>Jg e,Nat.le_of_eq (Bl _ _),trivial,fun b hb=>absurd (show b∈([]:List Addr) from hb) (by simp),hok,.of_eq hg⟩
  have tab:Tab H:=fun P2 ps e=>by
   rcases hO P2 with q|q|⟨_,_,_,q⟩
   ·rw[e]at q;cases q
   ·subst q;rw[hHT]at e;cases e
    exact⟨trivial,fun pos v z=>by cases z⟩
   ·rw[e]at q;cases q
  refine codeAny_mono ((F _ hKb (nsK hns) hB).run callerA [] s₁ H ⟨[.ref a],[]⟩ [.ref a] [.ref a] _ _ hr e0 (hbind s₁ (.ref a)) (.cons rfl .nil) (hsp H tab ⟨_,hHT⟩ hS)) fun r s' h=>?_
  cases r with
  | error e=>exact(hCX H e s' h).elim
  | ok fl=>
   cases fl with
   | next=>exact False.elim h
   | brk=>exact False.elim h
   | cont=>exact False.elim h
   | ret u=>
    obtain⟨v,H',os,bare,un,hok',r',q⟩:=h;have q':v=.bl true:=q;subst q';obtain rfl:u=Value.bool true:=r';have keepN:∀ b o,b≠T->s₁.heap.get? b=some o->s'.heap.get? b=some o:=fun b o nT e=>by
     rcases hO b with q|q|⟨ob,xs,_,z⟩
     ·exact un.keep b o e q (by intro z;exact absurd (show b∈([]:List Addr) from z) (by simp)) (by simp)
     ·exact absurd q nT
     ·have z2:=un.frzs b ob _ z;obtain⟨e1,_⟩:=hok b _ z;obtain⟨e2,_⟩:=hok' b _ z2;rw[e]at e1;cases e1
      exact e2
    obtain⟨more,hm⟩:=un.tbls T _ hHT;have gT:s'.heap.get? T=some (tabObj (#[]++more)):=hok' T _ hm;refine⟨rfl,⟨fun b o e=>?_,fun b o e=>?_⟩,os,bare⟩
    ·by_cases z:b=T
     ·subst z;rw[hT]at e;cases e
      exact .inr (.inl ⟨(hTc.tab hT).isCodeTable,rfl,#[],more,rfl,gT⟩)
     ·exact .inl (keepN b o z e)
    ·by_cases z:b=T
     ·subst z;exact⟨_,gT⟩
     ·exact⟨o,keepN b o z e⟩
 cases hk:K.lookup a with
 | some o=>
  have e:=KX a o hk;rw[ha]at e
  cases e
  refine core (fun b=>if b=T then some (.tbl #[]) else none) (fun b=>?_) (if_pos rfl) (.inr ⟨_,vs.toArray,_,hk,rfl,rfl,rfl,by rw[size_toArray,lenV];exact hl,by simpa using rv⟩) (fun b u z=>?_) fun z=>absurd (if_neg naT) z
  ·by_cases hb:b=T
   ·exact .inr (.inl hb)
   ·exact .inl (if_neg hb)
  ·by_cases hb:b=T
   ·have z':=(if_pos hb).symm.trans z
    cases z'
    subst hb;exact hT
   ·have z':=(if_neg hb).symm.trans z
    cases z'
 | none=>
  have H2:∀ b,b≠T->b≠a->(if b=T then some (HO.tbl #[]) else if b=a then some (HO.frz {cls:=.type "list",data:=.seq vs.toArray} (.lst (ns.map V.int))) else none)=none:=fun b h1 h2=>by rw[if_neg h1,if_neg h2]
  have H3:(if a=T then some (HO.tbl #[]) else if a=a then some (HO.frz {cls:=.type "list",data:=.seq vs.toArray} (.lst (ns.map V.int))) else none)=some (HO.frz {cls:=.type "list",data:=.seq vs.toArray} (.lst (ns.map V.int))):=by rw[if_neg naT,if_pos rfl]
  refine core (fun b=>if b=T then some (.tbl #[]) else if b=a then some (.frz {cls:=.type "list",data:=.seq vs.toArray} (.lst (ns.map V.int))) else none) (fun b=>?_) (if_pos rfl) (.inl (.inr ⟨{cls:=.type "list",data:=.seq vs.toArray},H3⟩)) (fun b u z=>?_) fun _=>hk
  ·by_cases hb:b=T
   ·exact .inr (.inl hb)
   ·by_cases hb2:b=a
    ·subst hb2;exact .inr (.inr ⟨_,_,rfl,H3⟩)
    ·exact .inl (H2 b hb hb2)
  ·by_cases hb:b=T
   ·have z':=(if_pos hb).symm.trans z
    cases z'
    subst hb;exact hT
   ·by_cases hb2:b=a
    ·subst hb2;have z':=H3.symm.trans z
     cases z'
     exact⟨ha,by rw[length_map];exact hl,vs,_,rv,ha⟩
    ·have z':=(H2 b hb hb2).symm.trans z
     cases z'
theorem walkT {l:PySem.W.OpenLaw}{n k:Nat}{q:Program}{loose:List Str}{XP:(Str->Option Value)->Heap->Prop}{YP:World->Heap->Prop}{d:DefRec}{K:Params->Frg}{x:Str}{ts:List Addr}
  (hn:l.most=some n) (hn2:n<=63) (hdf:d.params.defaults=[]) (hr:bX k callerA)
  (hY:∀ (w:World) (h:Heap),YP w h->(K w.params).In h) (hYT:∀ (w:World) (h:Heap),YP w h->∀ P∈ts,h.get? P=some (tabObj #[]))
  (F:∀ (w:World) (mg:Str->Option Value) (fa:Addr) (h:Heap),(K w.params).In h->h.Ns mainGlobals mg->mg d.name=some (.ref fa) →
   ∃ (fd:FuncData) (c T:Addr),(∀ (s:Shared) (u:Value),BindsTo s fd ⟨[u],[]⟩ [(x,u)])/\T∈ts/\(K w.params).lookup T=none/\PySem.W.codeHdIn (K w.params) c T=true/\iA (K w.params)=some T ∧
    ∀ base:Heap,(K w.params).In base->base.Ns mainGlobals mg->Oq mg base->ja l.prog w (K w.params) mg base xg k fa fd [x] (vh (K w.params) Au)) :
  PySem.W.WalkO q loose XP YP l.row.toRowW d [] (fun f vs=>PySem.call f vs):=by
 refine Att.attach_call hn hdf fun w s₀ s₁ mg mb fa o pm cd doc a vs ns G Y ho hd hcd hmg hobj hints hlen hg=>?_;have KX:=hY w _ Y;obtain⟨fd,c,T,hb,hts,hTK,hhd,hlam,hF⟩:=F w mg fa _ KX G.T.g hmg;have hBM:Oq mg s₁.heap:=by
  obtain⟨bm,ob,b1,b2,b3,b4,b5,b6⟩:=G.T.bmain;refine⟨bm,ob,b1,b2,fun z=>?_,b3,b4,b5,b6⟩;obtain⟨o2,es,ep,e,d,_⟩:=G.T.g;rw[<-z,b3]at e
  cases e
  rw[b6]at d;cases d
 exact Bq hTK (hYT w _ Y T hts) (codeHd_of_K KX hhd) KX G.T.g G.T.b hBM G.T.builtins G.T.nolimit hg hobj hints (le_trans hlen (le_trans hn2 (by decide))) hr hF hb (fun H ht hps hS=>MQ ⟨ht,fun P e=>by rw[hlam]at e;cases e;exact hps⟩ (le_trans hlen hn2) hS) fun _ _ _ z=>z
end DL
set_option maxHeartbeats 4000000
namespace DL
open PySem PySem.Spec L2 PyProof.Rows
theorem xT:typeLookup (.type "list_reverseiterator") "__len__"=pure none:=by rw[typeLookup_type,builtinLookup_eq_fast];kernel_rfl
theorem rJ:Slot "list_reverseiterator" "__length_hint__" "list_reverseiterator.__length_hint__":=
 .of (owner:="list_reverseiterator") (n:="__length_hint__") (by rw[typeLookup_type,builtinLookup_eq_fast];kernel_rfl) (by decide +kernel) (by decide +kernel) (by decide +kernel)
  (by first|exact .inl (by decide +kernel)|exact .inr (by decide +kernel)) (by rw[isSubtype_type];kernel_rfl)
section
variable {prog:Program}{w:World}{A:Around}{E:Value->Shared->Prop}{s:Shared}
theorem qM {it l:Addr}{i:Int}{Q:Bool->Shared->Prop}(hit:s.heap.IsRevIter it l i)(h:Q false s):wpAny (model prog w) A (Builtin.List.listLengthHint (.ref it)) Q E s:=by
 unfold Builtin.List.listLengthHint;refine wpAny_bind (wpAny_specialOf hit.typeIs xT ?_);show wpAny _ A (specialOf (Value.ref it) (Str.ofString "__length_hint__") >>= _) _ _ _;refine wpAny_bind (wpAny_specialOf hit.typeIs rJ.lookup ?_);generalize hid:("list_reverseiterator.__length_hint__":String)=id0
 wp_delta
 rw[show splitId id0=some ("list_reverseiterator","__length_hint__") from by subst hid;decide +kernel]
 subst hid;refine wpAny_bind (wpAny_isInstance (T:="list_reverseiterator") (b:=true) hit.typeIs (by rw[isSubtype_type];kernel_rfl) ?_)
 refine wpAny_ite_split (fun hab=>absurd hab (by decide)) (fun _=>?_)
 refine wpAny_ite_split (fun _=>?_) (fun hab=>absurd (by decide +kernel) hab)
 refine wpAny_ite_split (fun hab=>absurd hab (by decide +kernel)) (fun _=>?_)
 exact wpAny_pure h
theorem nu {R:Result->Shared->Prop}{I l:Addr}{items:Array Value} (hh:A.handled=none) (hit:s.heap.IsRevIter I l ((items.size:Int)-1)) (hl:s.heap.IsList l items) (hz:items.size<=sizeLine) (S:Addr) (res:Value) (c₀:Nat) (hS:s.heap.get? S=some {cls:=.type "list",data:=.seq #[] c₀}) (hlI:l≠I) (hSI:S≠I) (hSl:S≠l)
  (hR:∀ h' tk acc' c',(∀ b o,b≠S->b≠I->s.heap.get? b=some o->h'.get? b=some o)->h'.get? S=some {cls:=.type "list",dict:=none,data:=.seq acc' c',slots:=#[]} →
   ItemsOf (fun i v=>items[items.size-1-i]?=some v) acc' items.size->R (.ok (.ret res)) {s with heap:=h',toks:=tk}) :
  wpAny (model prog w) A.in1 (Builtin.List.listExtendWith (.ref S) (.ref I) res)
   (fun fin s'=>match fin with|.done f=>R (.ok f) s'|.again c'=>c'.quiet=true/\codeAny (model prog w) A c' R s') (fun e s'=>R (.error e) s') s:=by
 have W:=(Walks.listRev (prog:=prog) (w:=w) (A:=A.in1) hh I l hlI items).toS;have hSf:S∉[I,l]:=fun hm=>by
  rcases mem_cons.mp hm with e|e
  ·exact hSI e
  ·exact hSl (mem_singleton.mp e)
 unfold Builtin.List.listExtendWith;refine wpAny_bind (wpAny_typeOf hit.typeIs ?_);have h1:Builtin.List.listSameRef (.ref S) (.ref I)=false:=by simp[Builtin.List.listSameRef,hSI]
 have h2:(Value.type "list_reverseiterator" == Value.type "list")=false:=by decide
 have h3:(Value.type "list_reverseiterator" == Value.type "tuple")=false:=by decide
 simp only[h1,h2,h3,Bool.or_false,Bool.false_eq_true,if_false];refine wpAny_bind (wpAny_pyIter_revIter hit ?_);refine wpAny_bind (wpAny_holding (qM hit ?_));refine wpAny_ite_split (fun hab=>absurd hab (by decide)) (fun _=>wpAny_pure ⟨plainId_quiet F.plain_extend_loop _,?_⟩)
 have e0:(items.size:Int)-1-((0:Nat):Int)=(items.size:Int)-1:=by omega
 refine codeAny_extend_loopS W hz S hSf res items.size 0 s #[] c₀ rfl (zero_le _) ⟨zero_le _,by rw[e0];exact hit,hl⟩ hS (ItemsOf.nil _) fun s' acc' c' hm hS' hacc=>?_
 rw[Moved.eq_with hm];refine hR s'.heap s'.toks acc' c' (fun b o hb hb2 e=>hm.heap b o (fun hmem=>?_) e) hS' hacc
 rcases mem_cons.mp hmem with e'|hmem
 ·exact hb e'
 ·exact hb2 (mem_singleton.mp hmem)
theorem j8 {R:Result->Shared->Prop}{I l:Addr}{items:Array Value} (hh:A.handled=none) (hit:s.heap.IsRevIter I l ((items.size:Int)-1)) (hl:s.heap.IsList l items) (hz:items.size<=sizeLine) (S:Addr) (hS:s.heap.get? S=some {cls:=.type "list",data:=.seq #[]}) (hlI:l≠I) (hSI:S≠I) (hSl:S≠l)
  (hR:∀ h' tk acc' c',(∀ b o,b≠S->b≠I->s.heap.get? b=some o->h'.get? b=some o)->h'.get? S=some {cls:=.type "list",dict:=none,data:=.seq acc' c',slots:=#[]} →
   ItemsOf (fun i v=>items[items.size-1-i]?=some v) acc' items.size->R (.ok (.ret .none)) {s with heap:=h',toks:=tk}) :
  wpAny (model prog w) A.in1 (Builtin.«list.__init__» ⟨[.ref S,.ref I],[]⟩)
   (fun fin s'=>match fin with|.done f=>R (.ok f) s'|.again c'=>c'.quiet=true/\codeAny (model prog w) A c' R s') (fun e s'=>R (.error e) s') s:=by
 show wpAny _ _ (do let old ← Builtin.List.listItems (.ref S);Builtin.List.listUpdate (.ref S) (fun _=>#[]);letGo old.toList.reverse;Builtin.List.listExtendWith (.ref S) (.ref I) .none) _ _ s
 refine wpAny_bind ?_;unfold Builtin.List.listItems;refine wpAny_bind (wpAny_seqItems hS rfl (wpAny_pure ?_));show wpAny _ _ (updateSeq S (fun _=>#[]) >>= fun _=>letGo (#[]:Array Value).toList.reverse >>= fun _=>Builtin.List.listExtendWith (.ref S) (.ref I) .none) _ _ s;refine wpAny_bind (wpAny_updateSeq hS rfl ?_);have hS₂:=Heap.get?_update_self (Obj.mapSeq (fun _=>(#[]:Array Value))) hS rfl;have oth:∀ b o,b≠S->s.heap.get? b=some o->(s.heap.update S (Obj.mapSeq (fun _=>(#[]:Array Value)))).get? b=some o:=
  fun b o hb e=>(Heap.get?_update_other _ _ (Ne.symm hb)).trans e
 refine wpAny_bind (wpAny_letGo ?_);refine nu hh (hit.at fun o e=>oth I o (Ne.symm hSI) e) (hl.at fun o e=>oth l o (Ne.symm hSl) e) hz S .none _ hS₂ hlI hSI hSl fun h' tk acc' c' hk hS' hacc=>?_;exact hR h' tk acc' c' (fun b o hb hb2 e=>hk b o hb hb2 (oth b o hb e)) hS' hacc
theorem qY {Q:Value->Shared->Prop}{I l:Addr}{items:Array Value}(hh:A.handled=none)(hit:s.heap.IsRevIter I l ((items.size:Int)-1))(hl:s.heap.IsList l items)(hz:items.size<=sizeLine)(hlI:l≠I)
  (hQ:∀ h' tk acc' c',(∀ b o,b≠I->s.heap.get? b=some o->h'.get? b=some o) →
   h'.get? s.heap.objs.size=some {cls:=.type "list",dict:=none,data:=.seq acc' c',slots:=#[]}->ItemsOf (fun i v=>items[items.size-1-i]?=some v) acc' items.size->Q (.ref s.heap.objs.size) {s with heap:=h',toks:=tk}) :
  wpAny (model prog w) A (call (.type "list") [.ref I]) Q E s:=by
 obtain⟨oI,hoI,_⟩:=id hit;obtain⟨ol,hol,_⟩:=id hl;refine callType_codes (Q₁:=fun obj s₁=>obj=.ref s.heap.objs.size/\s₁={s with heap:=s.heap.push {cls:=.type "list",data:=.seq #[]}}) F.called_list (F.typeCall_list_1 _) F.entry_list_init
  (code_list_new _ ⟨rfl,rfl⟩) fun obj s₁ h₁=>?_
 obtain⟨rfl,rfl⟩:=h₁;have hS:(s.heap.push {cls:=.type "list",data:=.seq #[]}).get? s.heap.objs.size=some {cls:=.type "list",data:=.seq #[]}:=Heap.get?_push_size _ rfl;refine⟨⟨_,hS,rfl⟩,F.args_list_init_2 _ _,j8 (A:=A.in1) hh (hit.at fun o e=>Heap.get?_push_of_some _ e) (hl.at fun o e=>Heap.get?_push_of_some _ e) hz _ hS hlI (fun e=>ne_of_lt (Heap.lt_size hoI) e.symm) (fun e=>ne_of_lt (Heap.lt_size hol) e.symm) fun h' tk acc' c' hk hS' hacc=>?_⟩;exact⟨rfl,hQ h' tk acc' c' (fun b o hb e=>hk b o (ne_of_lt (Heap.lt_size e)) hb (Heap.get?_push_of_some _ e)) hS' hacc⟩
theorem Bo {its:List Value}{acc:Array Value}(h:ItemsOf (fun i v=>its.toArray[its.toArray.size-1-i]?=some v) acc its.toArray.size):acc=its.reverse.toArray:=by
 obtain⟨h1,h2⟩:=h;have e:acc.toList=its.reverse:=by
  apply List.ext_getElem?;intro i
  by_cases hi:i<acc.size
  ·have h3:=h2 i acc[i] (Array.getElem?_eq_getElem hi);have hi':i<its.length:=by simpa [h1] using hi
   rw[getElem?_toList,Array.getElem?_eq_getElem hi,List.getElem?_reverse hi'];simpa using h3.symm
  ·rw[getElem?_eq_none (by simpa using le_of_not_lt hi),getElem?_eq_none (by simp[h1]at hi;simpa using hi)]
 rw[<-e]
theorem wZ:∀ {xs:List V}{us:List Value},aO xs us->aO xs.reverse us.reverse
 | [],_,.nil=>.nil
 | x::xs,u::us,.cons r t=>by
  rw[reverse_cons,reverse_cons];exact(wZ t).append (.cons r .nil)
end
def GZ (K:Frg)(te:TE):TE:=fun σ H Q=>te σ H fun x H1=>∃ p ys,x=.ref p/\cX K H1 p ys/\∀ l,H1 l=none->Q (.ref l) (cO H1 l (.lst ys.reverse))
section
variable {X:Cx}{e:Expr}{te:TE}{p1 p2 pos1 pos2:Pos}
theorem ym (hm1:X.mg "list"=none) (hm2:X.mg "reversed"=none) (hd:X.A.handled=none) (he:PE X e te) (hg1:Gl X "list":=by rfl) (hg2:Gl X "reversed":=by rfl)
  (hs2:starEach [e] X.env=(false,eval e X.env)::starEach [] X.env:=by exact aS rfl) (hs1:starEach [.Call (.Name "reversed" p2) [e] [] pos2] X.env=(false,eval (.Call (.Name "reversed" p2) [e] [] pos2) X.env)::starEach [] X.env:=by rfl) :
  PE X (.Call (.Name "list" p1) [.Call (.Name "reversed" p2) [e] [] pos2] [] pos1) (GZ X.K te):=by
 intro pins s σ H Q I h;refine wpAny_Call_Name_kw (kJ I hg1 hm1 PyProof.Rows.boot_list ?_);refine PyProof.Rows.callWith_type1 ?_ hs1;rw[hs1];show wpAny _ _ (spliced ((false,eval (.Call (.Name "reversed" p2) [e] [] pos2) X.env)::backTo pos1 (starEach [] X.env))) _ _ s;refine Calls.spliced_cons ?_;refine wpAny_Call_Name_kw (kJ I hg2 hm2 PyProof.Rows.boot_reversed ?_);refine PyProof.Rows.callWith_type1 ?_ hs2;rw[hs2];show wpAny _ _ (spliced ((false,eval e X.env)::backTo pos2 (starEach [] X.env))) _ _ s;refine Calls.spliced_cons (cG (he pins s σ H _ I h) fun u s1 ⟨x,H1,I1,r1,q1⟩=>?_);obtain⟨p,ys,rfl,hq,fin⟩:=q1
 cases r1
 refine Calls.spliced_nil ?_;obtain⟨its,r,pl,hz⟩:=I1.list hq;have hl:=pl.isList;obtain⟨ol,hol,_⟩:=id hl;refine call_reversed_list hl ?_;have hit:((s1.heap.push (revObj p ((its.toArray.size:Int)-1))).IsRevIter s1.heap.objs.size p ((its.toArray.size:Int)-1)):=⟨_,Heap.get?_push_size _ rfl,rfl,rfl⟩;refine Calls.spliced_nil ?_;have hlen:=r.length;refine qY hd hit (hl.at fun o e=>Heap.get?_push_of_some _ e) (by rw[size_toArray];omega) (ne_of_lt (Heap.lt_size hol)) fun h' tk acc' c' hk hS' hacc=>?_
 have hacc':=Bo hacc;subst hacc';have keep:∀ b o,s1.heap.get? b=some o->h'.get? b=some o:=fun b o e=>hk b o (ne_of_lt (Heap.lt_size e)) (Heap.get?_push_of_some _ e);have hsz:(s1.heap.push (revObj p ((its.toArray.size:Int)-1))).objs.size=s1.heap.objs.size+1:=size_push' ..;rw[hsz]at hS' ⊢;have le:s1.heap.objs.size<=s1.heap.objs.size+1:=Nat.le_succ _;exact⟨.ref (s1.heap.objs.size+1),_,I1.laid (t':=tk) keep le (show f7 X.prog X.w _ h' _ (.lst ys.reverse) from⟨by rw[length_reverse];exact hz,its.reverse,c',wZ r,hS'⟩),rfl,fin _ (I1.hok.fresh le)⟩
def BV (R:S->Prop)(s:S):Prop:=match items s with
 | some ts=>cF ts=true/\R (.ol ts.reverse)
 | none=>False
def qI (we:WE):WE:=fun δ R=>we δ (BV R)
theorem xE {we:WE} (hm1:X.mg "list"=none) (hm2:X.mg "reversed"=none) (hd:X.A.handled=none) (he:PE X e (av X.K we)) (hg1:Gl X "list":=by rfl) (hg2:Gl X "reversed":=by rfl)
  (hs2:starEach [e] X.env=(false,eval e X.env)::starEach [] X.env:=by exact aS rfl) (hs1:starEach [.Call (.Name "reversed" p2) [e] [] pos2] X.env=(false,eval (.Call (.Name "reversed" p2) [e] [] pos2) X.env)::starEach [] X.env:=by rfl) :
  PE X (.Call (.Name "list" p1) [.Call (.Name "reversed" p2) [e] [] pos2] [] pos1) (av X.K (qI we)):=
 (ym hm1 hm2 hd he hg1 hg2 hs2 hs1).imp fun σ H Q ⟨δ,R,F,rl,h,k⟩=>⟨δ,_,F,rl,h,fun v F1 H1 s ex p q=>by
  unfold BV at q
  split at q
  ·rename_i ts hi;obtain⟨a,xs,rfl,sq,tp⟩:=(p.val ex.sub).list ex.sub hi;refine⟨a,xs,rfl,sq,fun l hl=>?_⟩;have e2:=dj.newL xs.reverse ex.sub ex.full hl;exact k _ F1 _ (.ol ts.reverse) (ex.trans e2) ⟨l,xs.reverse,rfl,aM ex.hh hl,aM ex.sub hl,aZ,(au.full ex.full q.1 tp).reverse⟩ q.2
  ·exact q.elim⟩
end
theorem De {X:Cx}{H₀:Hp}{es:List Expr}{k:Nat}{a b:Expr}{p p2 pos:Pos}{we:WE}{g:WG}(he:PE X (.Subscript a b p2) (av X.K we))(hg:PG X (.Tuple es k p) (lK X.K g)):PS X (.Assign [.Tuple es k p] (.Subscript a b p2) pos) (bE X.K H₀ (Hc we g)):=Dd he hg rfl rfl rfl
theorem AJ (we:WE)(δ:aR)(R:S->Prop):qI we δ R=we δ (BV R):=rfl
theorem NN (R:S->Prop)(ts:List T):BV R (.t (.lst ts))=(cF ts=true/\R (.ol ts.reverse)):=rfl
theorem NQ (R:S->Prop)(ts:List T):BV R (.vt (.lst ts))=(cF ts=true/\R (.ol ts.reverse)):=rfl
theorem NP (R:S->Prop)(ts:List T):BV R (.ol ts)=(cF ts=true/\R (.ol ts.reverse)):=rfl
end DL
namespace ST
open PySem PySem.SetTable
def line (mask:Nat):Nat->Nat->Nat->List Nat
 | 0,_,_=>[]
 | n+1,i,p=>(List.range (runEnd mask i+1-i)).map (i + ·)++line mask n (leap mask i p).1 (leap mask i p).2
def rem (mask N:Nat)(p:Probe):List Nat:=
 (List.range (p.more+1)).map (p.j + ·)++line mask N (leap mask p.i p.perturb).1 (leap mask p.i p.perturb).2
def way (mask:Nat)(h:Int):List Nat:=line mask (mask+14) (bits h % (mask+1)) (bits h)
theorem mY (mask i:Nat):i<=runEnd mask i:=by unfold runEnd;split <;> omega
theorem BW (mask i:Nat):runEnd mask i<=i+9:=by unfold runEnd;split <;> omega
theorem jh (mask:Nat):∀ n i p,(line mask n i p).length<=10*n
 | 0,_,_=>by simp[line]
 | n+1,i,p=>by
  have h1:=jh mask n (leap mask i p).1 (leap mask i p).2;have h2:=BW mask i;simp only[line,List.length_append,length_map,length_range];omega
theorem BU (t:SetTable)(h:Int)(N:Nat):rem t.mask N (t.probeStart h)=line t.mask (N+1) (bits h % (t.mask+1)) (bits h):=by
 have h1:=mY t.mask (bits h % (t.mask+1));unfold rem probeStart;simp only[line];rw[show runEnd t.mask (bits h % (t.mask+1))-bits h % (t.mask+1)+1=runEnd t.mask (bits h % (t.mask+1))+1-bits h % (t.mask+1) by omega]
theorem Aq (t:SetTable)(h:Int):rem t.mask (t.mask+13) (t.probeStart h)=way t.mask h:=BU t h _
theorem qr (m j:Nat):(List.range (m+1+1)).map (j + ·)=j::(List.range (m+1)).map (j+1 + ·):=by
 rw[range_succ_eq_map,map_cons,map_map]
 congr 1
 exact map_congr_left fun a _=>by simp only[Function.comp];omega
theorem GB {t:SetTable}{N:Nat}{p:Probe}(h:0<p.more):rem t.mask N p=p.j::rem t.mask N (t.advance p):=by
 obtain⟨j,more,i,per,d⟩:=p
 cases more with
 | zero=>simp at h
 | succ m=>
  simp only[rem,advance,succ_pos,if_true,gt_iff_lt,Nat.zero_lt_succ];rw[qr]
  rfl
theorem GA {t:SetTable}{N:Nat}{p:Probe}(h:p.more=0):rem t.mask (N+1) p=p.j::rem t.mask N (t.advance p):=by
 obtain⟨j,more,i,per,d⟩:=p;simp only at h;subst h;have h1:=mY t.mask (leap t.mask i per).1;simp only[rem,advance,line,gt_iff_lt,lt_irrefl,if_false];rw[show runEnd t.mask (leap t.mask i per).1-(leap t.mask i per).1+1=runEnd t.mask (leap t.mask i per).1+1-(leap t.mask i per).1 by omega]
 simp
theorem ke {t:SetTable}{p:Probe}:(t.advance p).dummy=p.dummy:=by
 unfold advance;split <;> rfl
theorem IC {t:SetTable}{hashAt:Nat->Int}{h:Int}(nd:∀ j,t.slot j≠.dummy):∀ (fuel N:Nat) (p:Probe),(rem t.mask N p).length<=fuel->p.dummy=none →
  (∃ j∈rem t.mask N p,t.slot j=.empty) →
  ∃ pre j post,rem t.mask N p=pre++j::post/\(∀ x∈pre,∃ i,t.slot x=.live i/\hashAt i≠h) ∧
   (
    (t.slot j=.empty/\probe.go t hashAt h fuel p=some (.empty j none)) ∨
    (∃ i N' p',t.slot j=.live i/\hashAt i=h/\probe.go t hashAt h fuel p=some (.candidate j i p')/\rem t.mask N' p'=post/\p'.dummy=none)):=by
 intro fuel
 induction fuel with
 | zero=>
  intro N p hl _ ⟨j,hj,_⟩;have:=List.length_pos_of_mem hj;omega
 | succ fuel ih=>
  intro N p hl hd ⟨j,hj,hje⟩;have key:(∃ N',rem t.mask N p=p.j::rem t.mask N' (t.advance p))\/rem t.mask N p=[p.j]:=by
   rcases eq_zero_or_pos p.more with h0|h0
   ·cases N with
    | zero=>right;simp[rem,h0,line]
    | succ N=>left;exact⟨N,GA h0⟩
   ·left;exact⟨N,GB h0⟩
  cases hs:t.slot p.j with
  | dummy=>exact absurd hs (nd _)
  | empty=>
   have hgo:probe.go t hashAt h (fuel+1) p=some (.empty p.j none):=by
    simp only[probe.go,hs,hd]
   rcases key with ⟨N',e⟩|e
   ·exact⟨[],p.j,_,e,by simp,.inl ⟨hs,hgo⟩⟩
   ·exact⟨[],p.j,[],e,by simp,.inl ⟨hs,hgo⟩⟩
  | live i=>
   rcases key with ⟨N',e⟩|e
   ·by_cases hh:hashAt i=h
    ·refine⟨[],p.j,_,e,by simp,.inr ⟨i,N',t.advance p,hs,hh,?_,rfl,ke.trans hd⟩⟩
     simp only[probe.go,hs,hh,beq_self_eq_true,if_true]
    ·have hgo:probe.go t hashAt h (fuel+1) p=probe.go t hashAt h fuel (t.advance p):=by
      simp only[probe.go,hs];rw[if_neg (by simpa using hh)]
     rw[e]at hj hl;have hj':j∈rem t.mask N' (t.advance p):=by
      rcases mem_cons.mp hj with rfl|hj
      ·rw[hje]at hs;exact nomatch hs
      ·exact hj
     simp only[length_cons]at hl;obtain⟨pre,j',post,e',hpre,hh'⟩:=ih N' (t.advance p) (by omega) (ke.trans hd) ⟨j,hj',hje⟩
     refine⟨p.j::pre,j',post,by rw[e,e'];rfl,?_,by rw[hgo];exact hh'⟩
     intro x hx
     rcases mem_cons.mp hx with rfl|hx
     ·exact⟨i,hs,hh⟩
     ·exact hpre x hx
   ·rw[e]at hj;obtain rfl:=mem_singleton.mp hj;rw[hje]at hs;exact nomatch hs
def RC (mask:Nat):Nat->Nat->Nat->Nat
 | 0,_,acc=>acc
 | n+1,i,acc=>RC mask n ((i*5+1) % (mask+1)) (acc ||| (1 <<< i))
theorem IZ (mask i:Nat):i∈(List.range (runEnd mask i+1-i)).map (i + ·):=
 mem_map.mpr ⟨0,mem_range.mpr (by have:=mY mask i;omega),by omega⟩
theorem Ag (mask j:Nat):∀ n i acc,(RC mask n i acc).testBit j=true->acc.testBit j=true\/j∈line mask n i 0
 | 0,i,acc,h=>.inl h
 | n+1,i,acc,h=>by
  rcases Ag mask j n _ _ h with h|h
  ·rw[Nat.testBit_or,Bool.or_eq_true]at h
   rcases h with h|h
   ·exact .inl h
   ·right
    have:j=i:=by
     rw[Nat.one_shiftLeft,Nat.testBit_two_pow]at h;simpa using (of_decide_eq_true h).symm
    subst this;exact mem_append_left _ (IZ mask j)
  ·right
   exact mem_append_right _ (by simpa [leap] using h)
def Ji (mask:Nat):Prop:=mask=7\/mask=31\/mask=127
theorem Jx {mask:Nat}(ok:Ji mask):∀ i,i<mask+1->RC mask (mask+1) i 0=2 ^ (mask+1)-1:=by
 rcases ok with rfl|rfl|rfl <;> decide +kernel
theorem Bv {mask i j:Nat}(ok:Ji mask)(hi:i<mask+1)(hj:j<mask+1):j∈line mask (mask+1) i 0:=by
 rcases Ag mask j (mask+1) i 0 (by rw[Jx ok i hi,Nat.testBit_two_pow_sub_one];simpa using hj) with h|h
 ·simp at h
 ·exact h
theorem sC {mask n j:Nat}(hz:∀ i,i<mask+1->j∈line mask n i 0):∀ k i p,i<mask+1->p<32 ^ k->j∈line mask (k+n) i p
 | 0,i,p,hi,hp=>by
  have:p=0:=by simpa using hp
  subst this;rw[Nat.zero_add];exact hz i hi
 | k+1,i,p,hi,hp=>by
  rw[Nat.add_right_comm];refine mem_append_right _ (sC hz k _ _ (mod_lt _ (succ_pos _)) ?_);show p / 32<32 ^ k;rw[Nat.div_lt_iff_lt_mul (by decide)]
  rwa [Nat.pow_succ]at hp
theorem Ic (h:Int):bits h<2 ^ 64:=by
 unfold bits;have h1:h % (2 ^ 64:Int)<2 ^ 64:=Int.emod_lt_of_pos _ (by decide)
 have h2:0<=h % (2 ^ 64:Int):=Int.emod_nonneg _ (by decide)
 omega
theorem AG {mask j:Nat}{h:Int}(ok:Ji mask)(hj:j<=mask):j∈way mask h:=by
 unfold way;rw[show mask+14=13+(mask+1) by omega]
 exact sC (fun i hi=>Bv ok hi (by omega)) 13 _ _ (mod_lt _ (succ_pos _)) (lt_of_lt_of_le (Ic h) (by decide))
theorem zW {mask x:Nat}:∀ n i p,i<=mask->x∈line mask n i p->x<=mask
 | 0,_,_,_,h=>by simp[line]at h
 | n+1,i,p,hi,h=>by
  rcases mem_append.mp h with h|h
  ·obtain⟨k,hk,rfl⟩:=mem_map.mp h;have hk:=mem_range.mp hk;unfold runEnd at hk
   split at hk <;> omega
  ·exact zW n _ _ (le_of_lt_succ (mod_lt _ (succ_pos _))) h
theorem yM {mask x:Nat}{h:Int}(hx:x∈way mask h):x<=mask:=zW _ _ _ (le_of_lt_succ (mod_lt _ (succ_pos _))) hx
theorem CP {xs:Array Nat}{j:Nat}(ris:xs.toList.Pairwise (· < ·)):∀ fuel lo hi,hi-lo<=fuel->lo<=hi->hi<=xs.size →
  (∀ m (h:m<xs.size),m<lo->xs[m]<j)->(∀ m (h:m<xs.size),hi<=m->¬ xs[m]<j) →
  below.go xs j fuel lo hi<=xs.size/\∀ m (h:m<xs.size),m<below.go xs j fuel lo hi↔xs[m]<j:=by
 intro fuel;have mono:∀ a b (ha:a<xs.size) (hb:b<xs.size),a<b->xs[a]<xs[b]:=fun a b ha hb hab=>by
  have:=pairwise_iff_getElem.mp ris a b (by simpa using ha) (by simpa using hb) hab
  simpa using this
 induction fuel with
 | zero=>
  intro lo hi hf hl hs h1 h2;have:lo=hi:=by omega
  subst this;refine⟨hs,fun m h=>⟨h1 m h,fun hm=>?_⟩⟩
  rcases lt_or_ge m lo with hh|hh
  ·exact hh
  ·exact absurd hm (h2 m h hh)
 | succ fuel ih=>
  intro lo hi hf hl hs h1 h2;simp only[below.go]
  by_cases hlt:lo<hi
  ·rw[if_pos hlt];have hm:(lo+hi) / 2<xs.size:=by omega
   have hg:xs.getD ((lo+hi) / 2) j=xs[(lo+hi) / 2]:=by simp[Array.getD,hm]
   rw[hg]
   by_cases hc:xs[(lo+hi) / 2]<j
   ·rw[if_pos hc];refine ih _ _ (by omega) (by omega) hs (fun m h hm'=>?_) h2
    rcases lt_or_ge m ((lo+hi) / 2) with hh|hh
    ·exact lt_trans (mono m _ h hm hh) hc
    ·have:m=(lo+hi) / 2:=by omega
     subst this;exact hc
   ·rw[if_neg hc];refine ih _ _ (by omega) (by omega) (by omega) h1 (fun m h hm'=>?_)
    rcases lt_or_ge ((lo+hi) / 2) m with hh|hh
    ·exact fun hx=>hc (lt_trans (mono _ m hm h hh) hx)
    ·have:m=(lo+hi) / 2:=by omega
     subst this;exact hc
  ·rw[if_neg hlt];have:lo=hi:=by omega
   subst this;refine⟨hs,fun m h=>⟨h1 m h,fun hm=>?_⟩⟩
   rcases lt_or_ge m lo with hh|hh
   ·exact hh
   ·exact absurd hm (h2 m h hh)
theorem lh {xs:Array Nat}(j:Nat)(ris:xs.toList.Pairwise (· < ·)) :
  below xs j<=xs.size/\∀ m (h:m<xs.size),m<below xs j↔xs[m]<j:=
 CP ris _ _ _ (by omega) (by omega) (le_refl _) (fun m _ h=>by omega) (fun m h h'=>by omega)
theorem below_at {xs:Array Nat}(ris:xs.toList.Pairwise (· < ·))(i:Nat)(hi:i<xs.size):below xs xs[i]=i:=by
 obtain⟨h1,h2⟩:=lh xs[i] ris;have mono:∀ a b (ha:a<xs.size) (hb:b<xs.size),a<b->xs[a]<xs[b]:=fun a b ha hb hab=>by
  have:=pairwise_iff_getElem.mp ris a b (by simpa using ha) (by simpa using hb) hab
  simpa using this
 rcases lt_trichotomy (below xs xs[i]) i with h|h|h
 ·have:=(h2 (below xs xs[i]) (by omega)).mpr (mono _ _ (by omega) hi h)
  omega
 ·exact h
 ·have:=(h2 i hi).mp h;omega
theorem zJ (j:Nat):has #[] j=false:=by
 unfold has;simp
theorem B7 {t:SetTable}(ris:t.place.toList.Pairwise (· < ·))(i:Nat)(hi:i<t.place.size):t.slot t.place[i]=.live i:=by
 unfold slot;simp only[below_at ris i hi];simp[hi]
theorem slot_of {t:SetTable}(ris:t.place.toList.Pairwise (· < ·))(nd:t.dummies=#[])(j:Nat) :
  (t.slot j=.empty/\j∉t.place.toList)\/∃ i,∃ hi:i<t.place.size,t.slot j=.live i/\t.place[i]=j:=by
 by_cases hj:j∈t.place.toList
 ·right
  obtain⟨i,hi,e⟩:=getElem_of_mem hj;have hi':i<t.place.size:=by simpa using hi
  have e':t.place[i]=j:=by simpa using e
  exact⟨i,hi',by rw[<-e'];exact B7 ris i hi',e'⟩
 ·left
  refine⟨?_,hj⟩;unfold slot;have hne:(t.place[below t.place j]? == some j)=false:=by
   rw[beq_eq_false_iff_ne];intro e;obtain⟨hb,e⟩:=Array.getElem?_eq_some_iff.mp e;exact hj (by rw[<-e];simp)
  simp only[hne,nd,zJ];simp
end ST
namespace ST
open PySem PySem.SetTable
structure Tab (t:SetTable) (es:Array (Int × Value)) (ps:List (Nat × (Int × Value))):Prop where
 pl:t.place.toList=ps.map (·.1)
 en:es.toList=ps.map (·.2)
 ris:(ps.map (·.1)).Pairwise (· < ·)
 top:∀ q∈ps,q.1<=t.mask
 dum:t.dummies=#[]
 ok:Ji t.mask
 reach:∀ q∈ps,∃ pre post,way t.mask q.2.1=pre++q.1::post/\∀ x∈pre,x∈ps.map (·.1)
def bX (mask n:Nat):Prop:=(mask=7/\n<=4)\/(mask=31/\n<=18)\/(mask=127/\n<=76)
namespace Tab
variable {t:SetTable}{es:Array (Int × Value)}{ps:List (Nat × (Int × Value))}
theorem psz (T:Tab t es ps):t.place.size=ps.length:=by rw[<-length_toList,T.pl,length_map]
theorem esz (T:Tab t es ps):es.size=ps.length:=by rw[<-length_toList,T.en,length_map]
theorem ris' (T:Tab t es ps):t.place.toList.Pairwise (· < ·):=by rw[T.pl];exact T.ris
theorem fits (T:Tab t es ps)(r:ps.length<=t.mask):t.fits es.size=true:=by
 simp only[SetTable.fits,SetTable.fill,T.dum,T.psz,T.esz];simpa using r
theorem put (T:Tab t es ps){j:Nat}{e:Int × Value}(hj:j<=t.mask)(hn:j∉ps.map (·.1))
  (hr:∃ pre post,way t.mask e.1=pre++j::post/\∀ x∈pre,x∈ps.map (·.1)) :
  Tab (t.put j).1 (insertAt es (t.put j).2 e) (ps.take (t.put j).2++(j,e)::ps.drop (t.put j).2):=by
 have hmem:∀ x,x∈ps.map (·.1)->x∈(ps.take (t.put j).2++(j,e)::ps.drop (t.put j).2).map (·.1):=fun x hx=>by
  obtain⟨q,hq,rfl⟩:=mem_map.mp hx;refine mem_map.mpr ⟨q,?_,rfl⟩;rw[<-take_append_drop (t.put j).2 ps]at hq
  rcases mem_append.mp hq with h|h
  ·exact mem_append_left _ h
  ·exact mem_append_right _ (mem_cons_of_mem _ h)
 have hmem':∀ q,q∈ps.take (t.put j).2++(j,e)::ps.drop (t.put j).2->q=(j,e)\/q∈ps:=fun q hq=>by
  rcases mem_append.mp hq with h|h
  ·exact .inr (mem_of_mem_take h)
  ·rcases mem_cons.mp h with h|h
   ·exact .inl h
   ·exact .inr (List.mem_of_mem_drop h)
 have hb:=lh j T.ris';have hp:(t.put j).2=below t.place j:=rfl;have hm:(t.put j).1.mask=t.mask:=rfl;have hg:∀ m (h:m<(ps.map (·.1)).length),(ps.map (·.1))[m]=t.place[m]'(by rw[T.psz];simpa using h):=fun m h=>by
  have:=T.pl;simp only[<-this];simp
 refine⟨?_,?_,?_,?_,?_,?_,?_⟩
 ·show(insertAt t.place (below t.place j) j).toList=_;rw[toList_insertAt,T.pl,map_append,map_cons,map_take,map_drop,hp]
 ·rw[toList_insertAt,T.en,map_append,map_cons,map_take,map_drop]
 ·rw[map_append,map_cons,map_take,map_drop,hp];rw[List.pairwise_append,pairwise_cons];have low:∀ a∈(ps.map (·.1)).take (below t.place j),a<j:=fun a ha=>by
   obtain⟨m,hm,rfl⟩:=getElem_of_mem ha;rw[length_take]at hm;rw[List.getElem_take,hg];exact(hb.2 m _).mp (by omega)
  have high:∀ a∈(ps.map (·.1)).drop (below t.place j),j<a:=fun a ha=>by
   have hin:=List.mem_of_mem_drop ha;obtain⟨m,hm,rfl⟩:=getElem_of_mem ha;rw[length_drop]at hm;rw[List.getElem_drop]at hin ⊢;have h1:¬ (ps.map (·.1))[below t.place j+m]<j:=by
    rw[hg];exact fun h=>by have:=(hb.2 _ _).mpr h;omega
   have h2:(ps.map (·.1))[below t.place j+m]≠j:=fun h=>hn (h ▸ hin);omega
  refine⟨T.ris.sublist (List.take_sublist _ _),⟨high,T.ris.sublist (List.drop_sublist _ _)⟩,fun a ha b hb'=>?_⟩
  rcases mem_cons.mp hb' with rfl|hb'
  ·exact low a ha
  ·exact lt_trans (low a ha) (high b hb')
 ·intro q hq
  rcases hmem' q hq with rfl|h
  ·exact hj
  ·exact T.top q h
 ·show(if has t.dummies j=true then _ else t.dummies)=#[]
  rw[T.dum,zJ];rfl
 ·exact T.ok
 ·intro q hq
  rcases hmem' q hq with rfl|h
  ·obtain⟨pre,post,e1,h1⟩:=hr;exact⟨pre,post,e1,fun x hx=>hmem x (h1 x hx)⟩
  ·obtain⟨pre,post,e1,h1⟩:=T.reach q h;exact⟨pre,post,e1,fun x hx=>hmem x (h1 x hx)⟩
end Tab
theorem sE (mask:Nat):∀ n i p,∃ r,line mask (n+1) i p=line mask n i p++r
 | 0,i,p=>⟨line mask 1 i p,rfl⟩
 | n+1,i,p=>by
  obtain⟨r,e⟩:=sE mask n (leap mask i p).1 (leap mask i p).2;refine⟨r,?_⟩;show _++line mask (n+1) _ _=(_++line mask n _ _)++r;rw[e,List.append_assoc]
theorem free_eq (mask:Nat)(owner:Array (Option Nat)):∀ fuel i p,layClean.free mask owner fuel i p=(line mask fuel i p).find? (fun j=>(owner.getD j (some 0)).isNone)
 | 0,i,p=>rfl
 | fuel+1,i,p=>by
  simp only[layClean.free,line,List.find?_append,List.find?_map];have e:(fun k=>(owner.getD (i+k) (some 0)).isNone)=((fun j=>(owner.getD j (some 0)).isNone) ∘ fun x=>i+x):=rfl;rw[e]
  cases hf:List.find? ((fun j=>(owner.getD j (some 0)).isNone) ∘ fun x=>i+x) (List.range (runEnd mask i+1-i)) with
  | some k=>rfl
  | none=>
   simp only[Option.map_none,Option.none_or];exact free_eq mask owner fuel _ _
theorem wO:∀ (l:List (Option Nat)) (j k:Nat),l[j]?=some none->List.Perm ((l.set j (some k)).filterMap id) (k::l.filterMap id)
 | [],j,k,h=>by simp at h
 | a::l,0,k,h=>by
  simp only[List.getElem?_cons_zero,Option.some.injEq]at h;subst h;simp
 | a::l,j+1,k,h=>by
  simp only[List.getElem?_cons_succ]at h;have ih:=wO l j k h
  cases a with
  | none=>simpa using ih
  | some b=>
   simp only[List.set_cons_succ,filterMap_cons,id];exact(List.Perm.cons b ih).trans (List.Perm.swap k b _)
theorem vz:∀ l:List (Option Nat),(∀ x∈l,x.isSome=true)->(l.filterMap id).length=l.length
 | [],_=>rfl
 | none::l,h=>by have:=h none mem_cons_self;simp at this
 | some a::l,h=>by
  simp only[filterMap_cons,id,length_cons];rw[vz l fun x hx=>h x (mem_cons_of_mem _ hx)]
structure Own (mask:Nat) (hs:List Int) (owner:Array (Option Nat)):Prop where
 sz:owner.size=mask+1
 pm:List.Perm (owner.toList.filterMap id) (List.range hs.length)
 rc:∀ j k,owner[j]?=some (some k)->∃ h,hs[k]?=some h/\∃ pre post,way mask h=pre++j::post/\∀ x∈pre,∃ k',owner[x]?=some (some k')
theorem Own.step {mask:Nat}{hs:List Int}{owner:Array (Option Nat)}(O:Own mask hs owner)(ok:Ji mask)(hl:hs.length<mask+1)(h:Int) :
  ∃ j,layClean.free mask owner (turns mask) (bits h % (mask+1)) (bits h)=some j/\Own mask (hs++[h]) (owner.setIfInBounds j (some hs.length)):=by
 have hex:∃ j,j<mask+1/\owner[j]?=some none:=by
  apply Classical.byContradiction;intro hc;have hall:∀ x∈owner.toList,x.isSome=true:=fun x hx=>by
   obtain⟨m,hm,rfl⟩:=getElem_of_mem hx;have hm':m<owner.size:=by simpa using hm
   cases hx:owner[m] with
   | some v=>simp[hx]
   | none=>exact absurd ⟨m,by rw[<-O.sz];exact hm',by rw[Array.getElem?_eq_getElem hm',hx]⟩ hc
  have h1:=vz _ hall;have h2:=O.pm.length_eq;rw[length_range]at h2;have h3:owner.toList.length=mask+1:=by simpa using O.sz
  have h4:=h1.symm.trans h2;rw[h3]at h4;omega
 obtain⟨j0,hj0,e0⟩:=hex;have hgd:∀ x,x<mask+1->owner.getD x (some 0)=owner[x]?.getD (some 0):=fun x hx=>by
  rw[getD_eq_getD_getElem?]
 have hsome:((way mask h).find? (fun j=>(owner.getD j (some 0)).isNone)).isSome=true:=by
  rw[List.find?_isSome];exact⟨j0,AG ok (by omega),by rw[hgd j0 hj0,e0];rfl⟩
 obtain⟨j,hj⟩:=isSome_iff_exists.mp hsome;have hfree:layClean.free mask owner (turns mask) (bits h % (mask+1)) (bits h)=some j:=by
  rw[free_eq];obtain⟨r,e⟩:=sE mask (mask+14) (bits h % (mask+1)) (bits h);show(line mask (mask+14+1) _ _).find? _=_;rw[e,List.find?_append];show Option.or ((way mask h).find? _) _=_;rw[hj];rfl
 obtain⟨hjn,pre,post,ew,hpre⟩:=List.find?_eq_some_iff_append.mp hj;have hjm:j<mask+1:=Nat.lt_succ_of_le (yM (h:=h) (by rw[ew];simp))
 have hjo:owner[j]?=some none:=by
  have hjs:j<owner.size:=by rw[O.sz];exact hjm
  have:=hjn;rw[hgd j hjm,Array.getElem?_eq_getElem hjs]at this;rw[Array.getElem?_eq_getElem hjs];simpa using this
 have hjs:j<owner.size:=by rw[O.sz];exact hjm
 have hset:∀ x,(owner.setIfInBounds j (some hs.length))[x]?=if j=x then some (some hs.length) else owner[x]?:=fun x=>by
  rw[Array.getElem?_setIfInBounds]
  split
  ·rename_i e;subst e;simp[hjs]
  ·rfl
 have hkeep:∀ (x k':Nat),owner[x]?=some (some k')->∃ k'',(owner.setIfInBounds j (some hs.length))[x]?=some (some k''):=fun x k' e=>by
  rw[hset]
  split
  ·exact⟨_,rfl⟩
  ·exact⟨k',e⟩
 refine⟨j,hfree,⟨by simpa using O.sz,?_,?_⟩⟩
 ·rw[Array.toList_setIfInBounds];refine(wO _ _ _ (by simpa using hjo)).trans ?_
  rw[List.length_append,length_singleton,range_succ];exact(List.Perm.cons _ O.pm).trans (List.perm_append_singleton _ _).symm
 ·intro j' k' e;rw[hset]at e
  split at e
  ·rename_i ej;subst ej;obtain rfl:hs.length=k':=by simpa using e
   refine⟨h,by simp,pre,post,ew,fun x hx=>?_⟩
   have hx1:=hpre x hx;have hxm:x<mask+1:=Nat.lt_succ_of_le (yM (h:=h) (by rw[ew];exact mem_append_left _ hx))
   have hxs:x<owner.size:=by rw[O.sz];exact hxm
   rw[hgd x hxm,Array.getElem?_eq_getElem hxs]at hx1
   cases ho:owner[x] with
   | none=>simp[ho]at hx1
   | some v=>exact hkeep x v (by rw[Array.getElem?_eq_getElem hxs,ho])
  ·obtain⟨h',eh,pre',post',ew',hp'⟩:=O.rc j' k' e;refine⟨h',?_,pre',post',ew',fun x hx=>?_⟩
   ·rw[getElem?_append_left (by
     rcases lt_or_ge k' hs.length with hh|hh
     ·exact hh
     ·rw[getElem?_eq_none hh]at eh;simp at eh)]
    exact eh
   ·obtain⟨v,hv⟩:=hp' x hx;exact hkeep x v hv
theorem wH {mask:Nat}(ok:Ji mask):∀ (l hs:List Int) (owner:Array (Option Nat)),Own mask hs owner->hs.length+l.length<=mask+1 →
  ∃ owner',l.foldl (init:=some (owner,hs.length)) (fun acc h=>do
   let (owner,k) ← acc
   let j ← layClean.free mask owner (turns mask) (bits h % (mask+1)) (bits h)
   pure (owner.setIfInBounds j (some k),k+1))=some (owner',(hs++l).length)/\Own mask (hs++l) owner'
 | [],hs,owner,O,_=>⟨owner,by simp,by simpa using O⟩
 | h::l,hs,owner,O,hl=>by
  simp only[length_cons]at hl;obtain⟨j,hj,O'⟩:=O.step ok (by omega) h
  obtain⟨owner',e,O''⟩:=wH ok l (hs++[h]) _ O' (by simp;omega)
  refine⟨owner',?_,by simpa using O''⟩
  rw[List.foldl_cons];simp only[Option.bind_eq_bind,Option.bind_some,hj,Option.pure_def]at e ⊢;rw[List.append_assoc]at e;simp only[List.length_append,length_singleton,List.singleton_append]at e ⊢;exact e
theorem wj {mask:Nat}(ok:Ji mask)(hashes:Array Int)(hl:hashes.size<=mask+1) :
  ∃ owner,layClean mask hashes=some owner/\Own mask hashes.toList owner:=by
 have O:Own mask [] (Array.replicate (mask+1) none):=⟨by simp,by simp,fun j k e=>by
  rw[Array.getElem?_replicate]at e
  split at e <;> simp at e⟩
 obtain⟨owner,e,O'⟩:=wH ok hashes.toList [] _ O (by simpa using hl)
 refine⟨owner,?_,by simpa using O'⟩
 unfold layClean;rw[<-Array.foldl_toList];simp only[length_nil]at e;rw[e];rfl
theorem wn (f:Nat->Option Nat):∀ l:List Nat,(l.filterMap fun j=>(f j).map (j,·)).map (·.1)=l.filter fun j=>(f j).isSome
 | []=>rfl
 | a::l=>by
  have ih:=wn f l
  cases h:f a <;> simp[h]at ih ⊢ <;> exact ih
theorem wq (f:Nat->Option Nat):∀ l:List Nat,(l.filterMap fun j=>(f j).map (j,·)).map (·.2)=l.filterMap f
 | []=>rfl
 | a::l=>by
  have ih:=wq f l
  cases h:f a <;> simp[h]at ih ⊢ <;> exact ih
theorem vU {α β:Type}{f g:α->Option β}:∀ l:List α,(∀ x∈l,f x=g x)->l.filterMap f=l.filterMap g
 | [],_=>rfl
 | a::l,h=>by
  rw[filterMap_cons,filterMap_cons,h a mem_cons_self,vU l fun x hx=>h x (mem_cons_of_mem _ hx)]
theorem range_getD (o:Array (Option Nat)):(List.range o.size).filterMap (fun j=>o.getD j none)=o.toList.filterMap id:=by
 have e:=filterMap_getElem?_range o;rw[<-e,List.filterMap_filterMap];refine vU _ fun x hx=>?_;have hx:=mem_range.mp hx;simp[Array.getD,hx]
theorem IL {mask finger moves:Nat}{led plain:Bool}(ok:Ji mask)(es:Array (Int × Value))(hl:es.size<=mask+1) :
  ∃ t order ps,laid mask finger moves led plain (es.map (·.1))=some (t,order)/\Tab t (order.filterMap (es[·]?)) ps/\t.mask=mask/\t.led=led/\t.plain=plain ∧
   List.Perm (order.filterMap (es[·]?)).toList es.toList:=by
 obtain⟨owner,e,O⟩:=wj ok (es.map (·.1)) (by simpa using hl)
 have hlen:((es.map (·.1)).toList).length=es.size:=by simp
 have hrc:∀ j k,owner[j]?=some (some k)->∃ q:k<es.size,∃ pre post,way mask es[k].1=pre++j::post/\∀ x∈pre,∃ k',owner[x]?=some (some k'):=fun j k ho=>by
  obtain⟨h,eh,r⟩:=O.rc j k ho;have hk:k<es.size:=by
   rcases lt_or_ge k es.size with hh|hh
   ·exact hh
   ·rw[getElem?_eq_none (by simpa using hh)]at eh;simp at eh
  refine⟨hk,?_⟩;have:h=es[k].1:=by simpa [hk] using eh.symm
  rw[<-this];exact r
 let live:=(List.range (mask+1)).filterMap fun j=>(owner.getD j none).map (j,·)
 have hlive:∀ q∈live,q.1<mask+1/\owner[q.1]?=some (some q.2):=fun q hq=>by
  obtain⟨j,hj,e⟩:=List.mem_filterMap.mp hq;have hj:=mem_range.mp hj;have hjs:j<owner.size:=by rw[O.sz];exact hj
  cases ho:owner[j] with
  | none=>simp[Array.getD,hjs,ho]at e
  | some k=>
   have:q=(j,k):=by simpa [Array.getD,hjs,ho] using e.symm
   subst this;exact⟨hj,by rw[Array.getElem?_eq_getElem hjs,ho]⟩
 have hfst:live.map (·.1)=(List.range (mask+1)).filter fun j=>(owner.getD j none).isSome:=wn _ _;have hsnd:live.map (·.2)=owner.toList.filterMap id:=by
  rw[<-range_getD,O.sz];exact wq _ _
 have hperm:List.Perm (live.map (·.2)) (List.range es.size):=by rw[hsnd,<-hlen];exact O.pm
 have hpm:List.Perm ((live.map (·.2)).filterMap (es[·]?)) es.toList:=by
  have:=hperm.filterMap (es[·]?)
  rwa [filterMap_getElem?_range]at this
 let d:Int × Value:=(0,.none)
 have hmapEq:(live.map (·.2)).filterMap (es[·]?)=live.map (fun q=>es.getD q.2 d):=by
  rw[List.filterMap_map];have:∀ (l:List (Nat × Nat)),(∀ q∈l,q.2<es.size)->l.filterMap ((es[·]?) ∘ (·.2))=l.map (fun q=>es.getD q.2 d):=by
   intro l
   induction l with
   | nil=>intro _;rfl
   | cons a l ih=>
    intro h;have ha:=h a mem_cons_self;rw[List.filterMap_cons_some (b:=es.getD a.2 d) (by simp[Array.getD,ha]),ih fun q hq=>h q (mem_cons_of_mem _ hq)]
    rfl
  exact this live fun q hq=>(hrc q.1 q.2 (hlive q hq).2).1
 refine⟨_,_,live.map (fun q=>(q.1,es.getD q.2 d)),by unfold laid;rw[e];rfl,?_,rfl,rfl,rfl,?_⟩
 ·have hin:∀ x k,owner[x]?=some (some k)->x∈(live.map (fun q=>(q.1,es.getD q.2 d))).map (·.1):=fun x k ho=>by
   have hxs:x<owner.size:=by
    rcases lt_or_ge x owner.size with hh|hh
    ·exact hh
    ·rw[Array.getElem?_eq_none hh]at ho;simp at ho
   rw[map_map];show x∈live.map (·.1);rw[hfst,mem_filter];refine⟨mem_range.mpr (by rw[<-O.sz];exact hxs),?_⟩
   rw[Array.getElem?_eq_getElem hxs]at ho;simp[Array.getD,hxs,Option.some.inj ho]
  refine⟨?_,?_,?_,?_,rfl,ok,?_⟩
  ·show(live.map (·.1))=_;rw[map_map];rfl
  ·rw[Array.toList_filterMap];show(live.map (·.2)).filterMap _=_;rw[hmapEq,map_map];rfl
  ·rw[map_map];show(live.map (·.1)).Pairwise _;rw[hfst];exact List.pairwise_lt_range.sublist List.filter_sublist
  ·intro q hq;obtain⟨q',hq',rfl⟩:=mem_map.mp hq;exact le_of_lt_succ (hlive q' hq').1
  ·intro q hq;obtain⟨q',hq',rfl⟩:=mem_map.mp hq;obtain⟨hk,pre,post,ew,hp⟩:=hrc q'.1 q'.2 (hlive q' hq').2;refine⟨pre,post,?_,fun x hx=>?_⟩
   ·show way mask (es.getD q'.2 d).1=_;simp only[Array.getD,hk,dif_pos];exact ew
   ·obtain⟨k',hk'⟩:=hp x hx;exact hin x k' hk'
 ·rw[Array.toList_filterMap];exact hpm
end ST
namespace ST
open PySem PySem.SetTable
abbrev ik (prog:Program)(w:World):=intKind prog w
structure Holds (prog:Program) (w:World) (h:Heap) (es:Array (Int × Value)) (ms:List (Addr × List Int)):Prop where
 pm:List.Perm es.toList (ms.map fun m=>(tupleKeyHash (ik prog w) m.2,Value.ref m.1))
 key:∀ m∈ms,IsTupleKey (ik prog w) h m.2 m.1
 nd:(ms.map (·.2)).Nodup
theorem wY {j k:Nat}:∀ {pre pre' post post':List Nat},pre++j::post=pre'++k::post'->k∈pre\/j=k\/j∈pre'
 | [],[],_,_,e=>by simp at e;exact .inr (.inl e.1)
 | [],a::pre',_,_,e=>by simp at e;exact .inr (.inr (by rw[e.1];exact mem_cons_self))
 | a::pre,[],_,_,e=>by simp at e;exact .inl (by rw[e.1];exact mem_cons_self)
 | a::pre,b::pre',_,_,e=>by
  simp only[List.cons_append,List.cons.injEq]at e
  rcases wY e.2 with h|h|h
  ·exact .inl (mem_cons_of_mem _ h)
  ·exact .inr (.inl h)
  ·exact .inr (.inr (mem_cons_of_mem _ h))
section
variable {prog:Program}{w:World}{A:Around}{E:Value->Shared->Prop}{s:Shared}
theorem nO {ks:List Int}{b:Addr}{Q:Bool->Shared->Prop}(n:Nat)(hk:IsTupleKey (ik prog w) s.heap ks b)(h:Q false s) :
  wpAny (model prog w) A (ofAClassStatement (n+1) (.ref b)) Q E s:=by
 have hT:=hk.typeIs;obtain⟨o,items,m,ho,_,hd,hi⟩:=hk;unfold ofAClassStatement;refine wpAny_bind (wpAny_typeOf hT ?_);dsimp only;rw[if_pos (by decide)]
 refine wpAny_bind (wpAny_pure ?_);simp only[Bool.not_true,Bool.false_eq_true,if_false];refine wpAny_bind (wpAny_seqItems ho hd ?_);dsimp only;refine wpAny_bind ?_;rw[<-Array.forIn_toList];refine wpAny_forIn_list _ (fun rest r s'=>r.1=none/\s'=s/\∀ v∈rest,carriedByValue v=true) _ ?_ ?_ _ _ ⟨rfl,rfl,hi.byValue⟩
 ·rintro v rest r s' ⟨hr,rfl,hall⟩;have hv:=hall v mem_cons_self;have e:ofAClassStatement n v=pure false:=by
   cases v with
   | ref a=>simp[carriedByValue]at hv
   | _=>unfold ofAClassStatement;rfl
  rw[e];refine wpAny_bind (wpAny_pure ?_);simp only[Bool.false_eq_true,if_false];exact wpAny_pure ⟨rfl,rfl,fun u hu'=>hall u (mem_cons_of_mem _ hu')⟩
 ·rintro⟨r1,r2⟩ s' ⟨hr,rfl,_⟩;simp only at hr;subst hr;exact wpAny_pure h
theorem qN {ks:List Int}{b:Addr}{l:List Value}{Q:Bool->Shared->Prop}(hk:IsTupleKey (ik prog w) s.heap ks b)
  (hl:∀ v∈l,∃ c ks',v=.ref c/\IsTupleKey (ik prog w) s.heap ks' c) (h:Q false s) :
  wpAny (model prog w) A (searchCouldBeSeen (.ref b) l) Q E s:=by
 unfold searchCouldBeSeen;refine wpAny_bind ?_;refine wpAny_forIn_list _ (fun rest r s'=>r.1=none/\s'=s/\∀ v∈rest,∃ c ks',v=.ref c/\IsTupleKey (ik prog w) s.heap ks' c) _ ?_ ?_ _ _ ⟨rfl,rfl,hl⟩
 ·rintro v rest r s' ⟨hr,rfl,hall⟩;obtain⟨c,ks',rfl,hc⟩:=hall v mem_cons_self;have htl:∀ v∈rest,∃ c ks',v=.ref c/\IsTupleKey (ik prog w) s'.heap ks' c:=fun u hu'=>hall u (mem_cons_of_mem _ hu');dsimp only;refine wpAny_ite_split (fun _=>wpAny_pure ⟨rfl,rfl,htl⟩) (fun _=>?_);refine wpAny_bind (wpAny_eqIsQuiet_tuple hk ?_);simp only[Bool.not_true,Bool.false_eq_true,if_false];refine wpAny_bind (wpAny_eqIsQuiet_tuple hc ?_);simp only[Bool.not_true,Bool.false_eq_true,if_false];refine wpAny_bind (nO 7 hk ?_);simp only[Bool.false_eq_true,if_false];refine wpAny_bind (nO 7 hc ?_);simp only[Bool.false_eq_true,if_false];exact wpAny_pure ⟨rfl,rfl,htl⟩
 ·rintro⟨r1,r2⟩ s' ⟨hr,rfl,_⟩;simp only at hr;subst hr;exact wpAny_pure h
theorem qO {ks:List Int}{b:Addr}{Q:Bool->Shared->Prop}(n:Nat)(hk:IsTupleKey (ik prog w) s.heap ks b)(h:Q true s) :
  wpAny (model prog w) A (hashByValue (n+1) (.ref b)) Q E s:=by
 have hT:=hk.typeIs;obtain⟨o,items,m,ho,_,hd,hi⟩:=hk;unfold hashByValue;refine wpAny_bind (wpAny_specialOf hT F.slot_tuple_hash.lookup ?_);dsimp only;refine wpAny_bind (wpAny_seqItems ho hd ?_);simp only[Option.getD_some];refine wpAny_bind ?_;rw[<-Array.forIn_toList];refine wpAny_forIn_list _ (fun rest r s'=>r.1=none/\s'=s/\∃ ks',ItemsAre (ik prog w) ks' rest) _ ?_ ?_ _ _ ⟨rfl,rfl,ks,hi⟩
 ·rintro v rest r s' ⟨hr,rfl,ks',hall⟩
  cases hall with
  | @cons k _ ks'' _ h1 h2=>
   obtain⟨t,rfl⟩:=Value.isInt_shape h1;have e:hashByValue n (.int k t)=pure true:=by unfold hashByValue;rfl
   rw[e];refine wpAny_bind (wpAny_pure ?_);simp only[Bool.not_true,Bool.false_eq_true,if_false];exact wpAny_pure ⟨rfl,rfl,ks'',h2⟩
 ·rintro⟨r1,r2⟩ s' ⟨hr,rfl,_⟩;simp only at hr;subst hr;exact wpAny_pure h
theorem Ce {a b:Addr}{o:Obj}{es:Array (Int × Value)}{ep:Nat}{t:SetTable}{ps:List (Nat × (Int × Value))}{ms:List (Addr × List Int)}{ks:List Int}{Q:SetFound->Shared->Prop}
  (hu:A.units<cLine) (ho:s.heap.get? a=some o) (hd:o.data=.set es ep t) (T:Tab t es ps) (hlen:ps.length<=t.mask) (H:Holds prog w s.heap es ms)
  (hk:IsTupleKey (ik prog w) s.heap ks b)
  (hin:ks∈ms.map (·.2)->Q (.there none) s)
  (hout:ks∉ms.map (·.2)->∀ j pre post,way t.mask (tupleKeyHash (ik prog w) ks)=pre++j::post->(∀ x∈pre,x∈ps.map (·.1))->j∉ps.map (·.1)->Q (.free j false) s) :
  ∀ (fuel N:Nat) (p:Probe) (stand:Option Probe) (done:List Nat),stand.getD (t.probeStart (tupleKeyHash (ik prog w) ks))=p->p.dummy=none →
   way t.mask (tupleKeyHash (ik prog w) ks)=done++rem t.mask N p->(rem t.mask N p).length<fuel →
   (∀ x∈done,∃ q∈ps,q.1=x/\∀ c,q.2.2=.ref c->¬ IsTupleKey (ik prog w) s.heap ks c) →
   wpAny (model prog w) A (setSearchFrom a (.ref b) (tupleKeyHash (ik prog w) ks) true fuel stand) Q E s:=by
 have hf:=T.fits hlen;have hnd:∀ j,t.slot j≠.dummy:=fun j=>by
  rcases slot_of T.ris' T.dum j with ⟨e,_⟩|⟨i,_,e,_⟩ <;> rw[e] <;> exact fun h=>nomatch h
 have hmemb:∀ q∈ps,∃ m∈ms,q.2=(tupleKeyHash (ik prog w) m.2,Value.ref m.1):=fun q hq=>by
  have h1:q.2∈es.toList:=by rw[T.en];exact mem_map.mpr ⟨q,hq,rfl⟩
  obtain⟨m,hm,e⟩:=mem_map.mp (H.pm.mem_iff.mp h1);exact⟨m,hm,e.symm⟩
 have hemp:∃ j,j<=t.mask/\t.slot j=.empty:=by
  apply Classical.byContradiction;intro hc;have hsub:∀ j,j∈List.range (t.mask+1)->j∈ps.map (·.1):=fun j hj=>by
   have hj:=mem_range.mp hj
   rcases slot_of T.ris' T.dum j with ⟨e,_⟩|⟨i,hi,_,e⟩
   ·exact absurd ⟨j,by omega,e⟩ hc
   ·rw[<-T.pl,<-e];simp
  have:=List.nodup_range.length_le_of_subset (l₂:=ps.map (·.1)) (fun j hj=>hsub j hj);simp at this;omega
 intro fuel
 induction fuel with
 | zero=>intro N p stand done _ _ _ hl;omega
 | succ fuel ih=>
  intro N p stand done hst hpd hway hl hdone;unfold setSearchFrom;refine wpAny_bind (wpAny_setState_of ho hd hf ?_);dsimp only;rw[if_neg (by rcases T.ok with e|e|e <;> simp[gaveWay,e])]
  obtain⟨j0,hj0,e0⟩:=hemp;have hj0w:j0∈rem t.mask N p:=by
   have h1:=AG (h:=tupleKeyHash (ik prog w) ks) T.ok hj0;rw[hway]at h1
   rcases mem_append.mp h1 with h1|h1
   ·obtain⟨q,hq,e,_⟩:=hdone _ h1
    rcases slot_of T.ris' T.dum j0 with ⟨_,hn⟩|⟨i,hi,e',_⟩
    ·exact absurd (by rw[T.pl,<-e];exact mem_map.mpr ⟨q,hq,rfl⟩) hn
    ·rw[e0]at e';exact nomatch e'
   ·exact h1
  have hlen2:(rem t.mask N p).length<=10*turns t.mask:=by
   have h1:=jh t.mask (t.mask+14) (bits (tupleKeyHash (ik prog w) ks) % (t.mask+1)) (bits (tupleKeyHash (ik prog w) ks));have h2:(way t.mask (tupleKeyHash (ik prog w) ks)).length=done.length+(rem t.mask N p).length:=by rw[hway,List.length_append]
   unfold way at h2;unfold turns;omega
  obtain⟨pre,j,post,erem,hpre,hcase⟩:=IC (hashAt:=fun i=>(es[i]?.map (·.1)).getD 0) (h:=tupleKeyHash (ik prog w) ks) hnd (10*turns t.mask) N p hlen2 hpd ⟨j0,hj0w,e0⟩;have hpre':∀ x∈pre,∃ q∈ps,q.1=x/\∀ c,q.2.2=.ref c->¬ IsTupleKey (ik prog w) s.heap ks c:=fun x hx=>by
   obtain⟨i,hs,hne⟩:=hpre x hx
   rcases slot_of T.ris' T.dum x with ⟨e,_⟩|⟨i',hi',e,e'⟩
   ·rw[e]at hs;exact nomatch hs
   ·rw[e]at hs;obtain rfl:i'=i:=by injection hs
    have hi2:i'<ps.length:=by rw[<-T.psz];exact hi'
    have hpe:ps[i'].1=x:=by
     rw[<-e'];have:=T.pl;have h3:t.place.toList[i']?=(ps.map (·.1))[i']?:=by rw[this]
     simpa [hi',hi2] using h3.symm
    refine⟨ps[i'],getElem_mem hi2,hpe,fun c hc hkc=>hne ?_⟩;obtain⟨m,hm,em⟩:=hmemb ps[i'] (getElem_mem hi2);rw[em]at hc;obtain rfl:m.1=c:=by injection hc
    have hkm:=(H.key m hm).inj hkc;have h4:es[i']?=some ps[i'].2:=by
     have:es.toList[i']?=(ps.map (·.2))[i']?:=by rw[T.en]
     simpa [hi2] using this
    rw[h4,em,hkm];rfl
  generalize hpr:t.probe _ (tupleKeyHash (ik prog w) ks) (stand.getD _)=pr;rw[hst]at hpr
  rcases hcase with ⟨hs,hgo⟩|⟨i,N',p',hs,hh,hgo,erem',hpd'⟩
  ·obtain rfl:pr=some (.empty j none):=hpr.symm.trans hgo;have hjn:j∉ps.map (·.1):=by
    rcases slot_of T.ris' T.dum j with ⟨_,hn⟩|⟨i,hi,e',_⟩
    ·rw[<-T.pl];exact hn
    ·rw[hs]at e';exact nomatch e'
   have hall:∀ x∈done++pre,∃ q∈ps,q.1=x/\∀ c,q.2.2=.ref c->¬ IsTupleKey (ik prog w) s.heap ks c:=fun x hx=>by
    rcases mem_append.mp hx with hx|hx
    ·exact hdone x hx
    ·exact hpre' x hx
   have ecut:way t.mask (tupleKeyHash (ik prog w) ks)=(done++pre)++j::post:=by rw[hway,erem,List.append_assoc]
   refine wpAny_pure (hout (fun hin'=>?_) j (done++pre) post ecut (fun x hx=>?_) hjn)
   ·obtain⟨m,hm,ek⟩:=mem_map.mp hin';have he:(tupleKeyHash (ik prog w) m.2,Value.ref m.1)∈es.toList:=H.pm.mem_iff.mpr (mem_map.mpr ⟨m,hm,rfl⟩);rw[T.en]at he;obtain⟨q,hq,eq⟩:=mem_map.mp he;obtain⟨pre',post',ew,hp'⟩:=T.reach q hq;have eq1:q.2.1=tupleKeyHash (ik prog w) ks:=by rw[eq,ek]
    rw[eq1,ecut]at ew
    rcases wY ew with h|h|h
    ·obtain⟨q',hq',e1,h1⟩:=hall _ h;have:q'=q:=by
      have hnd:=T.ris.imp (fun h=>ne_of_lt h);obtain⟨i1,hi1,rfl⟩:=getElem_of_mem hq';obtain⟨i2,hi2,rfl⟩:=getElem_of_mem hq;have:i1=i2:=by
       have h5:=pairwise_iff_getElem.mp T.ris
       rcases lt_trichotomy i1 i2 with h6|h6|h6
       ·have:=h5 i1 i2 (by simpa using hi1) (by simpa using hi2) h6
        simp only[getElem_map]at this;omega
       ·exact h6
       ·have:=h5 i2 i1 (by simpa using hi2) (by simpa using hi1) h6
        simp only[getElem_map]at this;omega
      subst this;rfl
     subst this;exact h1 m.1 (by rw[eq]) (ek ▸ H.key m hm)
    ·exact hjn (h ▸ mem_map.mpr ⟨q,hq,rfl⟩)
    ·exact hjn (hp' j h)
   ·obtain⟨q,hq,e,_⟩:=hall x hx;exact mem_map.mpr ⟨q,hq,e⟩
  ·obtain rfl:pr=some (.candidate j i p'):=hpr.symm.trans hgo;dsimp only;obtain⟨i',hi',es1,ej⟩:∃ i',∃ hi:i'<t.place.size,t.slot j=.live i'/\t.place[i']=j:=by
    rcases slot_of T.ris' T.dum j with ⟨e,_⟩|r
    ·rw[e]at hs;exact nomatch hs
    ·exact r
   rw[hs]at es1;obtain rfl:i=i':=by injection es1
   have hi2:i<ps.length:=by rw[<-T.psz];exact hi'
   have hpe:ps[i].1=j:=by
    rw[<-ej];have h3:t.place.toList[i]?=(ps.map (·.1))[i]?:=by rw[T.pl]
    simpa [hi',hi2] using h3.symm
   have h4:es[i]?=some ps[i].2:=by
    have:es.toList[i]?=(ps.map (·.2))[i]?:=by rw[T.en]
    simpa [hi2] using this
   obtain⟨m,hm,em⟩:=hmemb ps[i] (getElem_mem hi2);rw[em]at h4;have hseen:∀ v∈(es.filter (·.1 == tupleKeyHash (ik prog w) ks)).toList.map (·.2),∃ c ks',v=.ref c/\IsTupleKey (ik prog w) s.heap ks' c:=fun v hv=>by
    obtain⟨e,he,rfl⟩:=mem_map.mp hv;have he2:e∈es.toList:=by
     have:=Array.mem_toList_iff.mp he;exact Array.mem_toList_iff.mpr (Array.mem_filter.mp this).1
    obtain⟨m',hm',em'⟩:=mem_map.mp (H.pm.mem_iff.mp he2);exact⟨m'.1,m'.2,by rw[<-em'],H.key m' hm'⟩
   refine wpAny_ite_split (fun _=>wpAny_bind (qN hk hseen ?_)) (fun _=>?_)
   all_goals try simp only[Bool.false_eq_true,if_false]
   all_goals rw[h4]
   all_goals dsimp only
   all_goals refine wpAny_bind (wpAny_holding (wpAny_eqBool_tuple hu (H.key m hm) hk ?_))
   all_goals refine wpAny_bind (wpAny_setState_of ho hd hf ?_)
   all_goals by_cases hkk:m.2=ks
   all_goals try (
    rw[decide_eq_true hkk];simp only[Bool.and_self,if_true];exact wpAny_pure (hin (mem_map.mpr ⟨m,hm,hkk⟩)))
   all_goals rw[decide_eq_false hkk]
   all_goals simp only[Bool.and_false,Bool.false_eq_true,if_false,sameMemory,beq_self_eq_true,if_true]
   all_goals rw[hs]
   all_goals dsimp only
   all_goals rw[h4]
   all_goals dsimp only
   all_goals refine wpAny_bind (wpAny_isSame_ref_self ?_)
   all_goals simp only[if_true]
   all_goals refine wpAny_bind (wpAny_pure ?_)
   all_goals dsimp only
   all_goals(
    refine ih N' p' (some p') (done++pre++[j]) rfl hpd' (by rw[erem',hway,erem];simp) ?_ ?_
    ·rw[erem'];have:(rem t.mask N p).length=pre.length+(post.length+1):=by rw[erem];simp
     omega
    ·intro x hx
     rcases mem_append.mp hx with hx|hx
     ·rcases mem_append.mp hx with hx|hx
      ·exact hdone x hx
      ·exact hpre' x hx
     ·obtain rfl:=mem_singleton.mp hx;refine⟨ps[i],getElem_mem hi2,hpe,fun c hc hkc=>?_⟩;rw[em]at hc;obtain rfl:m.1=c:=by injection hc
      exact hkk ((H.key m hm).inj hkc))
end
end ST
namespace ST
open PySem PySem.SetTable
def er (prog:Program)(w:World)(h:Heap)(a:Addr)(ms:List (Addr × List Int)):Prop:=
 ∃ o es ep t ps,h.get? a=some o/\o.ExactSet/\o.data=.set es ep t/\Tab t es ps/\bX t.mask ps.length/\Holds prog w h es ms/\t.plain=true/\t.led=!(w.params.followText "set-order")
theorem bX.le {mask n:Nat}(r:bX mask n):n<=mask:=by
 rcases r with ⟨e,h⟩|⟨e,h⟩|⟨e,h⟩ <;> omega
section
variable {prog:Program}{w:World}{A:Around}{E:Value->Shared->Prop}{s:Shared}
theorem v9 {h h':Heap}{a c:Addr}{ks:List Int}{o:Obj}{es:Array (Int × Value)}{ep:Nat}{t:SetTable}(x:IsTupleKey (ik prog w) h ks c)(ho:h.get? a=some o)(hd:o.data=.set es ep t)
  (hs:Heap.SameBut a h h'):IsTupleKey (ik prog w) h' ks c:=by
 obtain⟨o',items,n,ho',hc,hd',hi⟩:=x;have hne:c≠a:=by
  rintro rfl;obtain rfl:o'=o:=Option.some.inj (ho'.symm.trans ho);rw[hd]at hd';exact nomatch hd'
 exact⟨o',items,n,(hs.2 c hne).trans ho',hc,hd',hi⟩
theorem Holds.len {h:Heap}{es:Array (Int × Value)}{ms:List (Addr × List Int)}(H:Holds prog w h es ms):es.size=ms.length:=by
 rw[<-length_toList,H.pm.length_eq,length_map]
def gQ (ms:List (Addr × List Int))(b:Addr)(ks:List Int):List (Addr × List Int):=if ks∈ms.map (·.2) then ms else ms++[(b,ks)]
theorem Om {a b:Addr}{ks:List Int}{ms:List (Addr × List Int)}{Q:Bool->Shared->Prop}(hu:A.units<cLine)(hS:er prog w s.heap a ms)(hk:IsTupleKey (ik prog w) s.heap ks b)(hroom:ms.length<76)
  (h:∀ h' r,Heap.SameBut a s.heap h'->er prog w h' a (gQ ms b ks)->Q r {s with heap:=h'}) :
  wpAny (model prog w) A (setAddHashed a (.ref b) (tupleKeyHash (ik prog w) ks)) Q E s:=by
 obtain⟨o,es,ep,t,ps,ho,hex,hd,T,R,H,hpl,hled⟩:=id hS;have hf:=T.fits R.le;have hlen:ps.length=ms.length:=by rw[<-T.esz,H.len]
 unfold setAddHashed setAddHashedIn;refine wpAny_holding (wpAny_bind (wpAny_setState_of ho hd hf ?_));dsimp only;rw[if_neg (by simp[byScan,Value.scannable])]
 refine wpAny_bind ?_;unfold setSearch;refine Ce hu ho hd T R.le H hk (fun hin=>?_) (fun hout j pre post ew hpre hj=>?_) 100000 (t.mask+13) _ none [] rfl rfl (by rw[getD_none,Aq,nil_append]) ?_ (fun x hx=>absurd hx not_mem_nil)
 ·refine wpAny_pure ?_;have e:s={s with heap:=s.heap}:=by cases s;rfl
  rw[e];exact h s.heap false (Heap.SameBut.refl a s.heap) (by unfold gQ;rw[if_pos hin];exact hS)
 ·dsimp only;refine wpAny_bind (wpAny_setState_of ho hd hf ?_);dsimp only;have hj':j<=t.mask:=yM (h:=tupleKeyHash (ik prog w) ks) (by rw[ew];simp)
  have T1:=T.put (e:=(tupleKeyHash (ik prog w) ks,Value.ref b)) hj' hj ⟨pre,post,ew,hpre⟩;have hpl1:(t.put j).1.plain=true:=hpl;rw[if_pos hpl1];refine wpAny_bind (qO 7 hk ?_);simp only[if_true];have hn1:ps.length+1<=(t.put j).1.mask:=by
   show ps.length+1<=t.mask
   rcases R with ⟨e,h⟩|⟨e,h⟩|⟨e,h⟩ <;> omega
  generalize hps1:ps.take (t.put j).2++(j,(tupleKeyHash (ik prog w) ks,Value.ref b))::ps.drop (t.put j).2=ps1 at T1;generalize hes1:insertAt es (t.put j).2 (tupleKeyHash (ik prog w) ks,Value.ref b)=es1 at T1 ⊢;have hl1:ps1.length=ps.length+1:=by
   rw[<-hps1];have:=congrArg List.length (take_append_drop (t.put j).2 ps);simp only[List.length_append,length_cons]at this ⊢;omega
  have hpm1:List.Perm es1.toList (gQ ms b ks |>.map fun m=>(tupleKeyHash (ik prog w) m.2,Value.ref m.1)):=by
   unfold gQ;rw[if_neg hout,<-hes1,map_append];refine(SetTable.insertAt_perm _ _ _).trans ?_;rw[Array.toList_push];exact H.pm.append_right _
  have hnd1:((gQ ms b ks).map (·.2)).Nodup:=by
   unfold gQ;rw[if_neg hout,map_append,List.nodup_append];refine⟨H.nd,by simp,fun x hx y hy=>?_⟩
   obtain rfl:y=ks:=by simpa using hy
   exact fun e=>hout (e ▸ hx)
  have hkey1:∀ m∈gQ ms b ks,IsTupleKey (ik prog w) s.heap m.2 m.1:=by
   unfold gQ;rw[if_neg hout];intro m hm
   rcases mem_append.mp hm with hm|hm
   ·exact H.key m hm
   ·obtain rfl:=mem_singleton.mp hm;exact hk
  have hfin1:(t.put j).1.fits es1.size=true:=T1.fits (by rw[hl1];exact hn1)
  have hes1z:es1.size<=sizeLine:=by
   rw[T1.esz,hl1];have:sizeLine=16777216:=sizeLine_eq;have h0:ps.length=ms.length:=hlen;omega
  refine wpAny_bind (wpAny_storeSet_of ho hd ?_ hes1z);have hsb1:=Heap.SameBut.update s.heap a (Obj.putSet es1 (t.put j).1);have hg1:(s.heap.update a (Obj.putSet es1 (t.put j).1)).get? a=some {o with data:=.set es1 (ep+1) (t.put j).1}:=by
   have:=Heap.get?_update_self (Obj.putSet es1 (t.put j).1) ho (by rw[putSet_of es1 (t.put j).1 hd];rfl)
   rw[putSet_of es1 (t.put j).1 hd]at this;exact this
  have hfill:(t.put j).1.fill=ps.length+1:=by
   show(t.put j).1.place.size+(t.put j).1.dummies.size=_;rw[T1.psz,T1.dum,hl1];rfl
  have hmask:(t.put j).1.mask=t.mask:=rfl;refine wpAny_ite_split (fun hfull=>?_) (fun hfull=>?_)
  ·simp only[Bool.not_false,Bool.true_and,tooFull,hfill,hmask,ge_iff_le,decide_eq_true_eq]at hfull;obtain⟨mk,hmk,okm,hroom'⟩:∃ mk,sizeAbove (grown (es.size+1))=mk+1/\Ji mk/\bX mk (ps.length+1):=by
    rw[T.esz]
    rcases R with ⟨e,h⟩|⟨e,h⟩|⟨e,h⟩
    ·have e4:ps.length=4:=by omega
     rw[e4];exact⟨31,by decide,.inr (.inl rfl),.inr (.inl ⟨rfl,by decide⟩)⟩
    ·have e4:ps.length=18:=by omega
     rw[e4];exact⟨127,by decide,.inr (.inr rfl),.inr (.inr ⟨rfl,by decide⟩)⟩
    ·omega
   refine wpAny_bind ?_;unfold setRelay;refine wpAny_bind (wpAny_setState_of hg1 rfl hfin1 ?_);dsimp only;have hm128:mk<=127:=by rcases okm with e|e|e <;> omega
   rw[hmk,if_neg (by rw[sizeLine_eq];omega)]
   obtain⟨t2,order,ps2,el,T2,em2,el2,epl2,hpm2⟩:=IL (finger:=(t.put j).1.finger) (moves:=(t.put j).1.movedTo mk) (led:=(t.put j).1.led) (plain:=(t.put j).1.plain) okm es1 (by rw[T1.esz,hl1];have:=hroom'.le;omega)
   have erl:(t.put j).1.relaid (es1.map (·.1)) (grown (es.size+1))=some (t2,order):=by
    unfold relaid;rw[hmk,Nat.add_sub_cancel];exact el
   rw[erl];generalize hes2:order.filterMap (es1[·]?)=es2 at T2 hpm2;have hsz2:es2.size=es1.size:=by rw[<-length_toList,hpm2.length_eq,length_toList]
   have hl2:ps2.length=ps.length+1:=by rw[<-T2.esz,hsz2,T1.esz,hl1]
   refine wpAny_bind ?_;show wpAny (model prog w) A (if ((order.filterMap (es1[·]?)).size != es1.size)=true then _ else _) _ _ _
   rw[hes2,if_neg (by rw[hsz2];simp)]
   refine wpAny_pure ?_;dsimp only;refine wpAny_storeSet_of (s:={s with heap:=s.heap.update a (Obj.putSet es1 (t.put j).1)}) hg1 rfl ?_ (by rw[hsz2];exact hes1z)
   have hsb2:=hsb1.trans (Heap.SameBut.update (s.heap.update a (Obj.putSet es1 (t.put j).1)) a (Obj.putSet es2 t2));have hg2:((s.heap.update a (Obj.putSet es1 (t.put j).1)).update a (Obj.putSet es2 t2)).get? a=some {o with data:=.set es2 (ep+1+1) t2}:=by
    have:=Heap.get?_update_self (Obj.putSet es2 t2) hg1 (by rw[putSet_of es2 t2 rfl];rfl)
    rw[putSet_of es2 t2 rfl]at this;exact this
   refine wpAny_pure (h _ true hsb2 ⟨_,es2,ep+1+1,t2,ps2,hg2,hex,rfl,T2,by rw[em2,hl2];exact hroom',⟨hpm2.trans hpm1,fun m hm=>v9 (hkey1 m hm) ho hd hsb2,hnd1⟩,by rw[epl2];exact hpl,by rw[el2];exact hled⟩)
  ·refine wpAny_pure (h _ true hsb1 ⟨_,es1,ep+1,(t.put j).1,ps1,hg1,hex,rfl,T1,?_,⟨hpm1,fun m hm=>v9 (hkey1 m hm) ho hd hsb1,hnd1⟩,hpl,hled⟩);rw[hl1,hmask];simp only[Bool.not_false,Bool.true_and,tooFull,hfill,hmask,ge_iff_le,decide_eq_true_eq]at hfull
   rcases R with ⟨e,h⟩|⟨e,h⟩|⟨e,h⟩
   ·left;omega
   ·right;left;omega
   ·right;right;omega
 ·rw[getD_none,Aq];unfold way;have h1:=jh t.mask (t.mask+14) (bits (tupleKeyHash (ik prog w) ks) % (t.mask+1)) (bits (tupleKeyHash (ik prog w) ks))
  rcases T.ok with e|e|e <;> rw[e]at h1 ⊢ <;> omega
end
end ST
set_option maxHeartbeats 3200000
namespace ST
open PySem PySem.SetTable
def met (km:Nat->Addr × List Int)(i:Nat):List (Addr × List Int):=((List.range i).map km).foldl (fun ms m=>gQ ms m.1 m.2) []
theorem lN (km:Nat->Addr × List Int)(i:Nat):met km (i+1)=gQ (met km i) (km i).1 (km i).2:=by
 unfold met;rw[range_succ,map_append,foldl_append];rfl
theorem met_len (km:Nat->Addr × List Int):∀ i,(met km i).length<=i
 | 0=>by simp[met]
 | i+1=>by
  have:=met_len km i;rw[lN];unfold gQ
  split
  ·omega
  ·simp;omega
theorem met_of (km:Nat->Addr × List Int):∀ i m,m∈met km i->∃ k,k<i/\m=km k
 | 0,m,h=>by simp[met]at h
 | i+1,m,h=>by
  rw[lN]at h;unfold gQ at h
  split at h
  ·obtain⟨k,hk,e⟩:=met_of km i m h;exact⟨k,by omega,e⟩
  ·rcases mem_append.mp h with h|h
   ·obtain⟨k,hk,e⟩:=met_of km i m h;exact⟨k,by omega,e⟩
   ·exact⟨i,by omega,by simpa using h⟩
theorem met_has (km:Nat->Addr × List Int):∀ i k,k<i->(km k).2∈(met km i).map (·.2)
 | 0,k,h=>by omega
 | i+1,k,h=>by
  rw[lN];unfold gQ
  rcases lt_or_ge k i with hk|hk
  ·have:=met_has km i k hk
   split
   ·exact this
   ·rw[map_append];exact mem_append_left _ this
  ·have:k=i:=by omega
   subst this
   split
   ·assumption
   ·simp
section
variable {prog:Program}{w:World}{A:Around}{E:Value->Shared->Prop}{s:Shared}
theorem er.kept {h h':Heap}{a:Addr}{ms:List (Addr × List Int)}(S:er prog w h a ms)(ka:∀ o,h.get? a=some o->h'.get? a=some o)
  (km:∀ m∈ms,∀ o,h.get? m.1=some o->h'.get? m.1=some o):er prog w h' a ms:=by
 obtain⟨o,es,ep,t,ps,ho,hex,hd,T,R,H,r⟩:=S;refine⟨o,es,ep,t,ps,ka o ho,hex,hd,T,R,⟨H.pm,fun m hm=>?_,H.nd⟩,r⟩;obtain⟨o',items,n,ho',x⟩:=H.key m hm;exact⟨o',items,n,km m hm o' ho',x⟩
theorem EQ {R:Result->Shared->Prop}{I:Addr}{fp wr:List Addr}{G:Array GenState->Array GenState->Prop}{n:Nat}{P:Nat->Value->Prop}{St:Nat->Shared->Prop}
  (W:WalksS prog w A.in1 I fp wr G n P St) (S:Addr) (hSf:S∉fp) (km:Nat->Addr × List Int) (hval:∀ i v,P i v->v=.ref (km i).1) (hnw:∀ i,i<n->(km i).1∉S::wr) (hn:n<=76) (hu:A.in1.units<cLine) :
  ∀ (k i:Nat) (s:Shared),n-i=k->i<=n->St i s->(∀ i,i<n->IsTupleKey (ik prog w) s.heap (km i).2 (km i).1)->er prog w s.heap S (met km i) →
   (∀ s',Moved (S::wr) G s s'->er prog w s'.heap S (met km n)->R (.ok (.ret .none)) s') →
   codeAny (model prog w) A (.builtin "set.update.loop" ⟨[.ref S,.ref I],[]⟩) R s:=by
 have hSw:S∉wr:=fun h=>hSf (W.sub _ h);have hup:∀ b∈wr,b∈S::wr:=fun b hb=>mem_cons_of_mem _ hb;have mv:∀ {s s':Shared} (i:Nat),i<=n->Moved wr G s s'->er prog w s.heap S (met km i)->er prog w s'.heap S (met km i):=fun i hi hm hS=>
  hS.kept (fun o e=>hm.heap S o hSw e) fun m hmem o e=>by
   obtain⟨k,hk,rfl⟩:=met_of km i m hmem;exact hm.heap _ o (fun hw=>hnw k (by omega) (mem_cons_of_mem _ hw)) e
 intro k
 induction k with
 | zero=>
  intro i s hk hi hst hkey hS hR;obtain rfl:i=n:=by omega
  refine codeAny_builtin PyProof.Rows.F.entry_set_update_loop ?_;rw[Around.under_plainId PyProof.Rows.F.plain_set_update_loop _];show wpAny _ A.in1 (pyNext (.ref I) >>= _) _ _ s;refine wpAny_bind (W.done s _ _ hst fun s' hm=>?_);show wpAny _ A.in1 (ret Value.none) _ _ s';exact wpAny_pure (hR s' (hm.mono hup) (mv i (le_refl _) hm hS))
 | succ k ih=>
  intro i s hk hi hst hkey hS hR;have hlt:i<n:=by omega
  refine codeAny_builtin PyProof.Rows.F.entry_set_update_loop ?_;rw[Around.under_plainId PyProof.Rows.F.plain_set_update_loop _];show wpAny _ A.in1 (pyNext (.ref I) >>= _) _ _ s;refine wpAny_bind (W.item i s _ _ hlt hst fun v s1 hP hst1 hm=>?_);obtain rfl:=hval i v hP;have hS1:=mv i hi hm hS;have hkey1:∀ i,i<n->IsTupleKey (ik prog w) s1.heap (km i).2 (km i).1:=fun i hi=>by
   obtain⟨o',items,m',ho',x⟩:=hkey i hi;exact⟨o',items,m',hm.heap _ o' (fun hw=>hnw i hi (mem_cons_of_mem _ hw)) ho',x⟩
  show wpAny _ A.in1 (holding [Value.ref (km i).1] (setAdd S (.ref (km i).1)) >>= _) _ _ s1;refine wpAny_bind (wpAny_holding ?_);unfold setAdd;refine wpAny_holding (wpAny_bind (wpAny_pyHash_tuple hu (hkey1 i hlt) ?_));refine Om (s:={s1 with toks:=s1.toks+((km i).2.length+1)}) hu hS1 (hkey1 i hlt) (lt_of_le_of_lt (met_len km i) (by omega)) fun h' r hsb hS2=>?_
  rw[<-lN]at hS2;have hoff:∀ b o,b≠S->s1.heap.get? b=some o->h'.get? b=some o:=fun b o hb e=>(hsb.2 b hb).trans e;refine wpAny_pure ⟨plainId_quiet PyProof.Rows.F.plain_set_update_loop _,ih (i+1) _ (by omega) hlt (W.frame _ s1 h' _ hst1 (Nat.le_add_right _ _) fun b hb o e=>hoff b o (fun hh:b=S=>hSf (hh ▸ hb)) e) (fun i hi=>?_) hS2 fun s2 hm2 hS3=>?_⟩
  ·obtain⟨o',items,m',ho',x⟩:=hkey1 i hi;exact⟨o',items,m',hoff _ o' (fun hh=>hnw i hi (hh ▸ mem_cons_self)) ho',x⟩
  ·refine hR s2 (Moved.trans W.gtrans ((hm.mono hup).then_heap (Nat.le_add_right _ _) fun b o hb e=>?_) hm2) hS3;exact hoff b o (fun hh=>hb (hh ▸ mem_cons_self)) e
theorem tR (a:Value){Q1:Value->Shared->Prop}
  (h:Q1 (.ref s.heap.objs.size) {s with heap:=s.heap.push {cls:=.type "set",dict:=none,data:=.set #[] 0 (.fresh 0 0 (!(w.params.followText "set-order")))}}) :
  codeAny (model prog w) A (.call (.builtin "set.__new__") ⟨[.type "set",a],[]⟩) (wants Q1 E) s:=by
 refine codeAny_of_tree ?_;show wpAny _ A.in1 (checkBuiltinCall "set.__new__" ⟨[.type "set",a],[]⟩ >>= fun _=>again (.builtin "set.__new__" ⟨[.type "set",a],[]⟩)) _ _ s;refine wpAny_bind (wpAny_of_eq (F.newCall_set_1 a) (wpAny_pure ⟨plainId_quiet F.plain_set_new _,codeAny_builtin F.entry_set_new ?_⟩));rw[Around.under_plainId F.plain_set_new _];unfold Builtin.«set.__new__» Builtin.Frozenset.newClass;have hsub:=sub_set_self;obtain⟨hp,g,d,tk,os⟩:=s;dsimp only
 wp_walk
 refine wpAny_askSetting (wpAny_pure ?_);dsimp only;simp only[newObj];refine wpAny_bind (wpAny_alloc (wpAny_pure ?_));exact wpAny_pure h
theorem Bi {h:Heap}{a:Addr} (ho:h.get? a=some {cls:=.type "set",dict:=none,data:=.set #[] 0 (.fresh 0 0 (!(w.params.followText "set-order")))}):er prog w h a []:=
 ⟨_,#[],0,_,[],ho,⟨rfl,rfl,rfl⟩,rfl,⟨rfl,rfl,.nil,fun q hq=>absurd hq not_mem_nil,rfl,.inl rfl,fun q hq=>absurd hq not_mem_nil⟩,.inl ⟨rfl,by decide⟩,
  ⟨.refl _,fun m hm=>absurd hm not_mem_nil,.nil⟩,rfl,rfl⟩
theorem call_set_tup {l:Addr}{items:Array Value}{km:Nat->Addr × List Int}{Q:Value->Shared->Prop}
  (hh:A.handled=none) (hu:A.units+10<cLine) (hl:s.heap.IsList l items) (hv:∀ (i:Nat) (v:Value),items[i]?=some v->v=.ref (km i).1) (hkey:∀ i,i<items.size->IsTupleKey (ik prog w) s.heap (km i).2 (km i).1) (hn:items.size<=76)
  (h:∀ (h':Heap) (tk:Nat),er prog w h' s.heap.objs.size (met km items.size)->(∀ b o,b<s.heap.objs.size->s.heap.get? b=some o->h'.get? b=some o)->Q (.ref s.heap.objs.size) {s with heap:=h',toks:=tk}) :
  wpAny (model prog w) A (call (.type "set") [.ref l]) Q E s:=by
 obtain⟨c,tl,hmro⟩:=F.called_set.mro;have hmade:=F.called_set.made;have hsub:=F.called_set.sub;refine wpAny_call (codeAny_of_tree ?_);show wpAny _ _ (callAny (.type "set") _) _ _ _;refine wpAny_pure ⟨Code.quiet_builtin _ (by decide +kernel),codeAny_builtin F.entry_type_call ?_⟩
 rw[Around.under_plain (weight_type_call_type "set" [.ref l] []) rfl];have h1:=F.called_set.notType;have h2:=F.called_set.canCreate;have hct:=F.typeCall_set_1 (.ref l)
 repeat (any_goals (first|assumption|wp_step))
 generalize hob:({cls:=.type "set",dict:=none,data:=.set #[] 0 (.fresh 0 0 (!(w.params.followText "set-order")))}:Obj)=ob;refine codeAny_mono (tR (.ref l) (E:=E) (Q1:=fun v s1=>v=.ref s.heap.objs.size/\s1={s with heap:=s.heap.push ob}) (hob ▸ ⟨rfl,rfl⟩)) fun r s1 hr=>?_
 cases r with
 | error e=>exact hr
 | ok fl=>
  cases fl with
  | ret v=>
   obtain⟨rfl,rfl⟩:=hr;have hS:(s.heap.push ob).get? s.heap.objs.size=some ob:=Heap.get?_push_size _ (by rw[<-hob];rfl)
   have hT:Shared.TypeIs {s with heap:=s.heap.push ob} (.ref s.heap.objs.size) "set":=⟨_,hS,by rw[<-hob]⟩
   have hli:=F.called_set.init.lookup;have hbi:=F.called_set.init.bind (.ref s.heap.objs.size)
   repeat (any_goals (first|assumption|wp_step))
   refine codeAny_mono (codeAny_call_builtin (R:=wants (fun r s2=>r=.none/\∃ h' tk,s2={s with heap:=h',toks:=tk}/\er prog w h' s.heap.objs.size (met km items.size) ∧
     (∀ b o,b<s.heap.objs.size->s.heap.get? b=some o->h'.get? b=some o)) E) F.called_set.init.plain F.entry_set_init (check_set_init_1 hT ?_)) fun r2 s2 hr2=>?_
   ·obtain⟨ol,hol,hcl,nl,hdl⟩:=id hl;obtain⟨ocls,odict,odata,oslots⟩:=ol;simp only at hcl hdl;subst hcl;subst hdl;have hol':(s.heap.push ob).get? l=some {cls:=.type "list",dict:=odict,data:=.seq items nl,slots:=oslots}:=Heap.get?_push_of_some _ hol;have hsls:=F.sub_list_set;have hslf:=F.sub_list_frozenset;have hne:(Value.type "list" == Value.type "dict")=false:=by decide
    have hl1:(s.heap.push ob).IsList l items:=⟨_,hol',rfl,nl,rfl⟩;subst hob;unfold Builtin.«set.__init__» noKeywords Builtin.Frozenset.updateFrom;generalize hPI:pyIter=PI
    wp_walk
    subst hPI;refine wpAny_pyIter_list hl1 ?_;refine wpAny_bind (wpAny_runValue ?_);generalize hob:({cls:=.type "set",dict:=none,data:=.set #[] 0 (.fresh 0 0 (!(w.params.followText "set-order")))}:Obj)=ob at *;have hlS:l<s.heap.objs.size:=Heap.lt_size hol;have hsz:(s.heap.push ob).objs.size=s.heap.objs.size+1:=by rw[Heap.size_push]
    have hneI:l≠(s.heap.push ob).objs.size:=by rw[hsz];exact ne_of_lt (lt_succ_of_lt hlS)
    have hSf:s.heap.objs.size∉[(s.heap.push ob).objs.size,l]:=by
     rw[hsz];intro hm
     rcases mem_cons.mp hm with e|hm
     ·exact ne_of_lt (lt_succ_self _) e
     ·exact ne_of_gt hlS (mem_singleton.mp hm)
    have off:∀ b:Nat,b<s.heap.objs.size->b∉s.heap.objs.size::[(s.heap.push ob).objs.size]:=fun b hb hm=>by
     rw[hsz]at hm
     rcases mem_cons.mp hm with e|hm
     ·exact ne_of_lt hb e
     ·exact ne_of_lt (lt_succ_of_lt hb) (mem_singleton.mp hm)
    have hnw:∀ i,i<items.size->(km i).1∉s.heap.objs.size::[(s.heap.push ob).objs.size]:=fun i hi=>off _ (by
     obtain⟨o',_,_,ho',_⟩:=hkey i hi;exact Heap.lt_size ho')
    refine EQ ((Walks.list (by simp[hh]) _ l hneI items).toS) s.heap.objs.size hSf km hv hnw hn (by show A.units+1+1+1<cLine;omega) (items.size-0) 0 _ (by omega) (zero_le _)
     ⟨⟨_,Heap.get?_push_size _ rfl,rfl,rfl⟩,(hl1.push _)⟩ (fun i hi=>?_) ?_ ?_
    ·obtain⟨o',its',m',ho',x⟩:=hkey i hi;exact⟨o',its',m',Heap.get?_push_of_some _ (Heap.get?_push_of_some _ ho'),x⟩
    ·refine Bi ?_;rw[hob];exact Heap.get?_push_of_some _ hS
    ·intro s' hm hS';obtain⟨h',g',d',tk',os'⟩:=s';have eg:g'=s.gens:=hm.gens;have ed:d'=s.drawn:=hm.drawn;have eo:os'=s.os:=hm.os;subst eg;subst ed;subst eo;show wpAny _ _ _ _ _ _;refine wpAny_pure ?_;show wpAny _ _ (ret Value.none) _ _ _;refine wpAny_pure ⟨rfl,h',tk',rfl,hS',fun b o hb e=>?_⟩;exact hm.heap b o (off b hb) (Heap.get?_push_of_some _ (Heap.get?_push_of_some _ e))
   ·cases r2 with
    | error e=>exact hr2
    | ok fl2=>
     cases fl2 with
     | ret r=>
      obtain⟨rfl,h',tk,rfl,hS',hk'⟩:=hr2
      repeat (any_goals (first|assumption|wp_step))
      exact h _ _ hS' hk'
     | _=>exact hr2.elim
  | _=>exact hr.elim
end
end ST
set_option maxHeartbeats 3200000
namespace ST
open PySem PySem.SetTable
theorem pN {α:Type}:∀ (l:List α) (i:Nat) (h:i<l.length),List.Perm (l[i]::l.eraseIdx i) l
 | [],i,h=>by simp at h
 | a::l,0,h=>by simp
 | a::l,i+1,h=>by
  simp only[List.getElem_cons_succ,List.eraseIdx_cons_succ];exact(List.Perm.swap _ _ _).trans (List.Perm.cons a (pN l i (by simpa using h)))
theorem Ah {α:Type}(next:Nat->Nat):∀ (fuel k:Nat) (left:List α) (out:Array α),left.length=fuel->List.Perm (pickOrder.go next fuel k left out).toList (out.toList++left)
 | 0,k,left,out,h=>by
  have:left=[]:=length_eq_zero_iff.mp h;subst this;simp[pickOrder.go]
 | fuel+1,k,left,out,h=>by
  have hi:next k % left.length<left.length:=mod_lt _ (by omega)
  simp only[pickOrder.go,getElem?_eq_getElem hi];refine(Ah next fuel (k+1) _ _ (by rw[List.length_eraseIdx_of_lt hi];omega)).trans ?_
  rw[Array.toList_push,List.append_assoc];exact List.Perm.append_left _ (pN _ _ hi)
theorem BR {α:Type}(next:Nat->Nat)(xs:Array α):List.Perm (pickOrder next xs).toList xs.toList:=by
 have:=Ah next xs.size 0 xs.toList #[] (by simp)
 simpa [pickOrder] using this
def de (w:World)(a:Addr)(ep:Nat)(es:Array (Int × Value)):List Value:=
 if w.params.followText "set-order"=true then (pickOrder (w.params.setOrder a ep) es).toList.map (·.2) else es.toList.map (·.2)
theorem tj (w:World)(a:Addr)(ep:Nat)(es:Array (Int × Value)):List.Perm (de w a ep es) (es.toList.map (·.2)):=by
 unfold de
 split
 ·exact(BR _ es).map _
 ·exact .refl _
theorem xw {xs:Array Nat}(ris:xs.toList.Pairwise (· < ·)):below xs 0=0:=by
 obtain⟨h1,h2⟩:=lh 0 ris
 rcases eq_zero_or_pos (below xs 0) with h|h
 ·exact h
 ·have:=(h2 0 (by omega)).mp h
  omega
theorem xv {xs:Array Nat}(ris:xs.toList.Pairwise (· < ·)){i:Nat}(hi:i<xs.size):below xs (xs[i]+1)=i+1:=by
 obtain⟨h1,h2⟩:=lh (xs[i]+1) ris;have mono:∀ a b (ha:a<xs.size) (hb:b<xs.size),a<b->xs[a]<xs[b]:=fun a b ha hb hab=>by
  have:=pairwise_iff_getElem.mp ris a b (by simpa using ha) (by simpa using hb) hab
  simpa using this
 rcases lt_trichotomy (below xs (xs[i]+1)) (i+1) with h|h|h
 ·have:=(h2 i hi).mpr (by omega)
  omega
 ·exact h
 ·have h3:=(h2 (i+1) (by omega)).mp h
  have:=mono i (i+1) hi (by omega) (by omega)
  omega
theorem eU:Slot "set_iterator" "__next__" "set_iterator.__next__":=
 .of (owner:="set_iterator") (n:="__next__") (by rw[typeLookup_type,builtinLookup_eq_fast];kernel_rfl) (by decide +kernel) (by decide +kernel) (by decide +kernel)
  (by first|exact .inl (by decide +kernel)|exact .inr (by decide +kernel)) (by rw[isSubtype_type];kernel_rfl)
theorem pJ:entryFor table "set_iterator.__next__"=some Builtin.«set_iterator.__next__»:=entryFor_of_tree (by kernel_rfl)
theorem sJ:Manifest.owners.lookup (String.ofList ("set_iterator".toList.reverse).reverse)=some Manifest.sig_set_iterator:=by kernel_rfl
theorem qT (a:Value):argsOk "set_iterator.__next__" ⟨[a],[]⟩:=by
 unfold argsOk;rw[signature?_of (id:="set_iterator.__next__") (n:="__next__".toList.reverse) (o:="set_iterator".toList.reverse) (by kernel_rfl) sJ];kernel_rfl
theorem ku:Slot "set_iterator" "__iter__" "set_iterator.__iter__":=
 .of (owner:="set_iterator") (n:="__iter__") (by rw[typeLookup_type,builtinLookup_eq_fast];kernel_rfl) (by decide +kernel) (by decide +kernel) (by decide +kernel)
  (by first|exact .inl (by decide +kernel)|exact .inr (by decide +kernel)) (by rw[isSubtype_type];kernel_rfl)
theorem qS (a:Value):argsOk "set_iterator.__iter__" ⟨[a],[]⟩:=by
 unfold argsOk;rw[signature?_of (id:="set_iterator.__iter__") (n:="__iter__".toList.reverse) (o:="set_iterator".toList.reverse) (by kernel_rfl) sJ];kernel_rfl
theorem pI:entryFor table "set_iterator.__iter__"=some Builtin.«dict_keyiterator.__iter__»:=
 entryFor_alias (id':="dict_keyiterator.__iter__") (by kernel_rfl) (by first | rfl | decide +kernel) (by decide +kernel) (by kernel_rfl)
theorem pH:entryFor table "set.__iter__"=some Builtin.«frozenset.__iter__»:=
 entryFor_alias (id':="frozenset.__iter__") (by kernel_rfl) rfl (by decide +kernel) (by kernel_rfl)
structure kB (w:World) (o:Obj) (es:Array (Int × Value)) (ep:Nat) (t:SetTable):Prop where
 ex:o.ExactSet
 dt:o.data=.set es ep t
 fit:t.fits es.size=true
 ris:t.place.toList.Pairwise (· < ·)
 pl:t.plain=true
 led:t.led=!(w.params.followText "set-order")
def lb (h:Heap) (I S:Addr) (sl i n ep:Nat):Prop:=∃ o,h.get? I=some o/\o.cls=.type "set_iterator"/\o.data=.fields #[rawInt sl,rawInt i,.ref S,rawInt n,rawInt ep]
section
variable {prog:Program}{w:World}{A:Around}{E:Value->Shared->Prop}{s:Shared}{o:Obj}{es:Array (Int × Value)}{ep:Nat}{t:SetTable}{S I:Addr}
theorem lb.typeIs {sl i n:Nat} (x:lb s.heap I S sl i n ep):s.TypeIs (.ref I) "set_iterator":=let ⟨o,ho,hc,_⟩:=x;⟨o,ho,hc⟩
theorem lb.at {h h':Heap}{sl i n:Nat}(x:lb h I S sl i n ep)(e:∀ o,h.get? I=some o->h'.get? I=some o):lb h' I S sl i n ep:=let ⟨o,ho,r⟩:=x;⟨o,e _ ho,r⟩
theorem yN {sl i:Nat}{Q:Option (Value × Nat)->Shared->Prop}(W:kB w o es ep t)(ho:s.heap.get? S=some o)
  (hsl:w.params.followText "set-order"=false->below t.place sl=i)
  (hsome:∀ v sl',(de w S ep es)[i]?=some v->(w.params.followText "set-order"=false->below t.place sl'=i+1)->Q (some (v,sl')) s) (hnone:(de w S ep es)[i]?=none->Q none s) :
  wpAny (model prog w) A (setNext S sl i ep) Q E s:=by
 unfold setNext;refine wpAny_bind (wpAny_setState_of ho W.dt W.fit ?_);dsimp only;unfold setsByText;refine wpAny_bind (wpAny_bind (wpAny_askSetting (wpAny_pure ?_)))
 by_cases hb:w.params.followText "set-order"=true
 ·show wpAny _ _ (if w.params.followText "set-order"=true then _ else _) _ _ _
  rw[if_pos hb];rw[if_neg (by simp)]
  unfold setWalk;refine wpAny_bind (wpAny_bind (wpAny_setState_of ho W.dt W.fit ?_));dsimp only;unfold setsByText;refine wpAny_bind (wpAny_bind (wpAny_askSetting (wpAny_pure ?_)));show wpAny _ _ (if w.params.followText "set-order"=true then _ else _) _ _ _
  rw[if_pos hb];refine wpAny_bind (wpAny_askSetting (wpAny_pure ?_));refine wpAny_pure ?_;have ew:de w S ep es=(pickOrder (w.params.setOrder S ep) es).toList.map (·.2):=by unfold de;rw[if_pos hb]
  show Q (((pickOrder (w.params.setOrder S ep) es)[i]?).map fun e=>(e.2,sl)) s
  cases hp:(pickOrder (w.params.setOrder S ep) es)[i]? with
  | none=>
   have:=hnone (by rw[ew,getElem?_map,getElem?_toList,hp];rfl)
   exact this
  | some e=>
   have:=hsome e.2 sl (by rw[ew,getElem?_map,getElem?_toList,hp];rfl) (fun h=>by rw[hb]at h;exact nomatch h)
   exact this
 ·have hb':w.params.followText "set-order"=false:=by simpa using hb
  show wpAny _ _ (if w.params.followText "set-order"=true then _ else _) _ _ _
  rw[if_neg hb];show wpAny _ _ (if (!t.plain && decide (es.size>1))=true then _ else _) _ _ _
  rw[if_neg (by simp[W.pl])]
  refine wpAny_bind ?_;show wpAny _ _ (if (!t.led && !es.isEmpty)=true then _ else _) _ _ _
  rw[if_neg (by simp[W.led,hb'])]
  refine wpAny_pure ?_;rw[hsl hb'];refine wpAny_pure ?_;have hps:t.place.size=es.size:=by
   have:=W.fit;simp only[SetTable.fits,Bool.and_eq_true,beq_iff_eq]at this;exact this.1
  have ew:de w S ep es=es.toList.map (·.2):=by unfold de;rw[if_neg hb]
  rcases lt_or_ge i es.size with hi|hi
  ·have hi':i<t.place.size:=by rw[hps];exact hi
   have:=hsome es[i].2 (t.place[i]+1) (by rw[ew];simp[hi]) (fun _=>xv W.ris hi')
   simpa [hi,hi'] using this
  ·have:=hnone (by rw[ew];simpa using hi)
   have hi':t.place.size<=i:=by rw[hps];exact hi
   simpa [Array.getElem?_eq_none hi,Array.getElem?_eq_none hi'] using this
theorem nQ {sl i:Nat}{Q:Option Value->Shared->Prop}(hh:A.handled=none)(W:kB w o es ep t)(ho:s.heap.get? S=some o)(hne:S≠I)
  (hit:lb s.heap I S sl i es.size ep) (hsl:w.params.followText "set-order"=false->below t.place sl=i)
  (hsome:∀ v sl' h',(de w S ep es)[i]?=some v->lb h' I S sl' (i+1) es.size ep->(w.params.followText "set-order"=false->below t.place sl'=i+1)->Heap.ExtBut I s.heap h'->Q (some v) {s with heap:=h'})
  (hnone:∀ h',(de w S ep es)[i]?=none->Heap.ExtBut I s.heap h'->Q none {s with heap:=h'}) :
  wpAny (model prog w) A (pyNext (.ref I)) Q E s:=by
 obtain⟨oI,hoI,hcI,hdI⟩:=id hit;unfold pyNext;refine wpAny_bind (wpAny_attempt (wpAny_callSpecial?_slot (name:=Str.ofString "__next__") hit.typeIs eU
  (wpAny_call_entry eU hit.typeIs pJ ?_ (qT _))))
 unfold Builtin.«set_iterator.__next__»;refine wpAny_bind (wpAny_of_eq (a:=(Value.ref I,[])) rfl ?_);refine wpAny_bind (wpAny_fieldsOf hoI hdI ?_);simp only[rawInt,List.toList_toArray];refine wpAny_bind (wpAny_setEntries_of ho W.dt W.fit ?_);rw[if_neg (by simp)]
 simp only[toNat_natCast];have hlI:∀ {h':Heap},Heap.SameBut I s.heap h'->h'.get? S=some o:=fun hs=>(hs.2 S hne).trans ho;refine wpAny_bind (yN W ho hsl (fun v sl' hv hsl'=>?_) (fun hv=>?_))
 ·dsimp only;refine wpAny_bind (wpAny_setField hoI hdI (by simp) ?_)
  have g1:=Heap.get?_update_self (Obj.mapFields (·.setIfInBounds 0 (Value.int (sl':Int) 0))) hoI (Obj.isFreed_of_fields (Obj.data_mapFields hdI _));have d1:=Obj.data_mapFields hdI (·.setIfInBounds 0 (Value.int (sl':Int) 0));refine wpAny_bind (wpAny_setField (s:={s with heap:=s.heap.update I (Obj.mapFields (·.setIfInBounds 0 (Value.int (sl':Int) 0)))}) g1 d1 (by simp) ?_)
  refine wpAny_pure ⟨v,rfl,wpAny_pure (hsome v sl' _ hv ?_ hsl' ((Heap.SameBut.update ..).trans (Heap.SameBut.update ..)).extBut)⟩;refine⟨_,Heap.get?_update_self _ g1 (Obj.isFreed_of_fields (Obj.data_mapFields d1 _)),(Obj.cls_mapFields ..).trans ((Obj.cls_mapFields ..).trans hcI),?_⟩;rw[Obj.data_mapFields d1];simp[rawInt]
 ·dsimp only;refine wpAny_bind (wpAny_setField hoI hdI (by simp) ?_)
  show wpAny _ _ (newExc (.type "StopIteration") [] >>= _) _ _ _;refine wpAny_bind ?_;simp only[newExc,newTuple];refine wpAny_bind (wpAny_newObj_type ?_ (by size_fits))
  refine wpAny_bind (m:=firstArgMember _ _) (wpAny_of_eq (a:=Value.none) (by first|rfl|(simp only[firstArgMember];rfl)) ?_)
  refine wpAny_newObj_type ?_ (by size_fits)
  simp only[raiseNew];refine wpAny_bind (wpAny_handled ?_);rw[show A.in1.handled=none from hh];refine wpAny_bind (wpAny_pure (wpAny_throw ?_));refine wpAny_bind (wpAny_isInstance (T:="StopIteration") (b:=true) ⟨_,Heap.get?_push_size _ rfl,rfl⟩ isSubtype_stop ?_);exact wpAny_pure (hnone _ hv (((Heap.SameBut.update ..).extBut.push _).push _))
theorem xb {sl i n:Nat}{Q:Value->Shared->Prop}(hit:lb s.heap I S sl i n ep)(h:Q (.ref I) s):wpAny (model prog w) A (pyIter (.ref I)) Q E s:=by
 refine wpAny_pyIter_slot hit.typeIs ku (wpAny_call_entry ku hit.typeIs pI ?_ (qS _));show wpAny _ _ (ret (.ref I)) _ _ s;exact wpAny_pure ⟨_,rfl,"set_iterator",_,hit.typeIs,eU.lookup,h⟩
theorem qK (W:kB w o es ep t):(de w S ep es).length=es.size:=by
 rw[(tj w S ep es).length_eq,length_map,length_toList]
theorem Cd (hh:A.handled=none)(W:kB w o es ep t)(hne:S≠I) :
  Walks prog w A I [I,S] [I] es.size (fun i v=>(de w S ep es)[i]?=some v)
   (fun i h=>∃ sl,lb h I S sl i es.size ep/\(w.params.followText "set-order"=false->below t.place sl=i)/\h.get? S=some o) where
 sub:=fun b hb=>by simp at hb;simp[hb]
 frame:=fun _ _ _ ⟨sl,x1,x2,x3⟩ hk=>⟨sl,x1.at fun o e=>hk I (by simp) o e,x2,hk S (by simp) _ x3⟩
 item:=fun i s Q E hi ⟨sl,x1,x2,x3⟩ hQ=>by
  refine nQ hh W x3 hne x1 x2 (fun v sl' h' hv hit' hsl' he=>?_) (fun h' hv=>?_)
  ·exact hQ v h' s.toks hv ⟨sl',hit',hsl',he S o hne x3⟩ fun b o' hb e=>he b o' (fun h=>hb (by simp[h])) e
  ·rw[List.getElem?_eq_none_iff,qK W]at hv;omega
 done:=fun s Q E ⟨sl,x1,x2,x3⟩ hQ=>by
  refine nQ hh W x3 hne x1 x2 (fun v sl' h' hv hit' hsl' he=>?_) (fun h' hv he=>?_)
  ·have:=List.getElem?_eq_some_iff.mp hv;obtain⟨h1,_⟩:=this;rw[qK W]at h1;omega
  ·exact hQ h' s.toks fun b o' hb e=>he b o' (fun h=>hb (by simp[h])) e
 self:=fun _ _ _ _ ⟨_,x1,_⟩ hQ=>xb x1 hQ
theorem xa {Q:Value->Shared->Prop}(W:kB w o es ep t)(ho:s.heap.get? S=some o)
  (hQ:Q (.ref s.heap.objs.size) {s with heap:=s.heap.push {cls:=.type "set_iterator",data:=.fields #[rawInt (0:Nat),rawInt (0:Nat),.ref S,rawInt es.size,rawInt ep]}}) :
  wpAny (model prog w) A (pyIter (.ref S)) Q E s:=by
 have hT:s.TypeIs (.ref S) "set":=⟨o,ho,W.ex.1⟩;refine wpAny_pyIter_slot hT F.slot_set_iter (wpAny_call_entry F.slot_set_iter hT pH ?_ (F.args_set_iter_1 _));unfold Builtin.«frozenset.__iter__» Builtin.Frozenset.slot0 slotArgs;simp only[List.isEmpty_nil,Bool.not_true,Bool.false_eq_true,↓reduceIte,bind_assoc,length_nil,bne_self_eq_false];unfold Builtin.Frozenset.addrOf Builtin.Frozenset.sizeOf;refine wpAny_bind (wpAny_pure ?_)
 try dsimp only
 refine wpAny_bind (wpAny_pure ?_);refine wpAny_bind (wpAny_bind (wpAny_setEntries_of ho W.dt W.fit (wpAny_pure ?_)));unfold setDrawn setsByText;refine wpAny_bind (wpAny_bind (wpAny_setState_of ho W.dt W.fit ?_));dsimp only;refine wpAny_bind (wpAny_bind (wpAny_askSetting (wpAny_pure ?_)));refine wpAny_pure ?_;show wpAny _ _ (if (!(w.params.followText "set-order") && (!t.plain && decide (es.size>1)))=true then _ else _) _ _ _
 rw[if_neg (by simp[W.pl])]
 refine wpAny_bind (wpAny_pure ?_);refine wpAny_bind (wpAny_setEpoch_of ho W.dt W.fit ?_);exact wpAny_bind (wpAny_newObj_type (wpAny_pure ⟨_,rfl,"set_iterator",_,⟨_,Heap.get?_push_size _ rfl,rfl⟩,eU.lookup,hQ⟩))
end
end ST
namespace ST
open PySem PySem.W PyProof.Rows
section
variable (O:KeyOrd) (key:Nat->O.α) (n:Nat)
def c0 (i j:Nat)(C:Bool->Shared->Prop)(s:Shared):Prop:=i<n/\j<n/\C (O.blt (key i) (key j)) s
def Rk (p:Array Nat)(k:Nat):O.α:=key (p.getD k 0)
def yR (p:Array Nat):Prop:=∀ k,p.getD k 0<n
def ci (p:Array Nat)(m:Nat):Prop:=∀ i j,i<=j->j<m->O.kle (Rk O key p i) (Rk O key p j)
variable {O key n}
variable {s:Shared}
theorem lF {p q:Array Nat}{i j:Nat}(h:p[i]?=q[j]?):p.getD i 0=q.getD j 0:=by
 rw[getD_eq_getD_getElem?,getD_eq_getD_getElem?,h]
theorem GU {p:Array Nat}(hn:0<n)(h:∀ x∈p.toList,x<n):yR n p:=fun k=>by
 rw[getD_eq_getD_getElem?]
 cases e:p[k]? with
 | none=>simpa using hn
 | some x=>
  obtain⟨hk,rfl⟩:=Array.getElem?_eq_some_iff.mp e;exact h _ (by simp)
theorem yv {p:Array Nat}{i j:Nat}(hj:j<=p.size)(k:Nat):Rk O key (kas_rev p i j) k=if i<=k/\k<j then Rk O key p (i+j-1-k) else Rk O key p k:=by
 have e:=getElem?_mirror_all (i:=i) hj k;unfold Rk kas_rev
 by_cases h1:i<=k/\k<j
 ·rw[if_pos h1]at e ⊢;rw[lF e]
 ·rw[if_neg h1]at e ⊢;rw[lF e]
theorem GD {p:Array Nat}{src d:Nat}(hs:src<p.size)(hd:d<=src)(k:Nat) :
  Rk O key (bubble p src d) k=if k=src-d then Rk O key p src else if src-d<k/\k<=src then Rk O key p (k-1) else Rk O key p k:=by
 have e:=getElem?_bubble hs d hd k;unfold Rk
 by_cases h1:k=src-d
 ·rw[if_pos h1]at e ⊢;rw[lF e]
 ·rw[if_neg h1]at e ⊢
  by_cases h2:src-d<k/\k<=src
  ·rw[if_pos h2]at e ⊢;rw[lF e]
  ·rw[if_neg h2]at e ⊢;rw[lF e]
theorem xq {Q:Nat->Shared->Prop}:∀ (f m:Nat) (p:Array Nat),yR n p->1<=m →
  (∀ m',m<=m'->m'<=m+f->(∀ k,m<=k->k<m'->O.kle (Rk O key p (k-1)) (Rk O key p k))->(m'<m+f->O.klt (Rk O key p m') (Rk O key p (m'-1)))->Q m' s) →
  (kas_asc p f m).kasWp (c0 O key n) Q s
 | 0,m,p,hs,h1,h=>h m (le_refl _) (by omega) (fun k _ _=>by omega) (fun _=>by omega)
 | f+1,m,p,hs,h1,h=>by
  refine⟨hs _,hs _,?_⟩
  cases hb:O.blt (key (p.getD m 0)) (key (p.getD (m-1) 0)) with
  | true=>
   simp only[if_true];exact h m (le_refl _) (by omega) (fun k _ _=>by omega) (fun _=>hb)
  | false=>
   simp only[Bool.false_eq_true,if_false];refine xq f (m+1) p hs (by omega) fun m' a1 a2 a3 a4=>h m' (by omega) (by omega) (fun k b1 b2=>?_) (fun hlt=>a4 (by omega))
   rcases lt_or_ge m k with hk|hk
   ·exact a3 k hk b2
   ·have:k=m:=by omega
    subst this;exact hb
structure OG (p:Array Nat) (m q:Nat):Prop where
 ni:∀ i j,i<=j->j<m->O.kle (Rk O key p j) (Rk O key p i)
 eq:∀ k,m-(q+1)<=k->k<m->Rk O key p k=Rk O key p (m-1)
 le:q+1<=m
theorem mW {p:Array Nat}{i j:Nat}(hj:j<=p.size)(heq:∀ k,i<=k->k<j->Rk O key p k=Rk O key p (j-1))(k:Nat):Rk O key (kas_rev p i j) k=Rk O key p k:=by
 rw[yv hj]
 split
 ·rw[heq _ (by omega) (by omega),heq k (by omega) (by omega)]
 ·rfl
theorem eD {p q:Array Nat}(hn:0<n)(h:q.Perm p)(hp:∀ x∈p.toList,x<n):yR n q:=
 GU hn fun x hx=>hp x ((Array.perm_iff_toList_perm.mp h).mem_iff.mp hx)
theorem gW {p:Array Nat}{m:Nat}(D:∀ i j,i<=j->j<m->O.kle (Rk O key p j) (Rk O key p i))(h1:1<=m)(hl:O.kle (Rk O key p m) (Rk O key p (m-1))) :
  ∀ i j,i<=j->j<m+1->O.kle (Rk O key p j) (Rk O key p i):=fun i j hij hj=>by
 rcases lt_or_ge j m with h|h
 ·exact D i j hij h
 ·have:j=m:=by omega
  subst this
  rcases lt_or_ge i j with h'|h'
  ·exact KeyOrd.kle_trans hl (D i (j-1) (by omega) (by omega))
  ·have:i=j:=by omega
   subst this;exact KeyOrd.kle_refl _
theorem n9 {Q:Array Nat × Nat × Nat->Shared->Prop}{p0:Array Nat}(hn:0<n)(h0:∀ x∈p0.toList,x<n):∀ (f:Nat) (p:Array Nat) (m q:Nat),p.Perm p0->OG (O:=O) (key:=key) p m q->m+f<=p0.size →
  (∀ p' m' q',p'.Perm p0->m<=m'->m'<=m+f->OG (O:=O) (key:=key) p' m' q'->Q (p',m',q') s) →
  (kas_desc f p m q).kasWp (c0 O key n) Q s
 | 0,p,m,q,hp,D,hf,h=>h p m q hp (le_refl _) (by omega) D
 | f+1,p,m,q,hp,D,hf,h=>by
  have hsm:=eD hn hp h0;have hsz:p.size=p0.size:=hp.size_eq;have hm1:1<=m:=by have:=D.le;omega
  refine⟨hsm _,hsm _,?_⟩
  cases hb:O.blt (key (p.getD m 0)) (key (p.getD (m-1) 0)) with
  | true=>
   simp only[if_true];have hlt:O.klt (Rk O key p m) (Rk O key p (m-1)):=hb
   split
   ·have hr:∀ k,Rk O key (kas_rev p (m-(q+1)) m) k=Rk O key p k:=mW (by omega) D.eq
    refine n9 hn h0 f _ (m+1) 0 ((mirror_perm ..).trans hp) ⟨fun i j hij hj=>?_,fun k b1 b2=>?_,by omega⟩ (by omega) fun p' m' q' a1 a2 a3 a4=>h p' m' q' a1 (by omega) (by omega) a4
    ·rw[hr,hr];exact gW D.ni hm1 (KeyOrd.kle_of_klt hlt) i j hij hj
    ·have:k=m+1-1:=by omega
     rw[this]
   ·refine n9 hn h0 f p (m+1) 0 hp ⟨gW D.ni hm1 (KeyOrd.kle_of_klt hlt),fun k b1 b2=>?_,by omega⟩ (by omega) fun p' m' q' a1 a2 a3 a4=>h p' m' q' a1 (by omega) (by omega) a4
    have:k=m+1-1:=by omega
    rw[this]
  | false=>
   simp only[Bool.false_eq_true,if_false];refine⟨hsm _,hsm _,?_⟩
   cases hd:O.blt (key (p.getD (m-1) 0)) (key (p.getD m 0)) with
   | true=>
    simp only[if_true];exact h p m q hp (le_refl _) (by omega) D
   | false=>
    simp only[Bool.false_eq_true,if_false];have he:Rk O key p m=Rk O key p (m-1):=O.total _ _ hb hd;refine n9 hn h0 f p (m+1) (q+1) hp ⟨gW D.ni hm1 (by rw[he];exact KeyOrd.kle_refl _),fun k b1 b2=>?_,by have:=D.le;omega⟩ (by omega) fun p' m' q' a1 a2 a3 a4=>h p' m' q' a1 (by omega) (by omega) a4
    rw[Nat.add_sub_cancel,he]
    rcases lt_or_ge k m with hk|hk
    ·exact D.eq k (by omega) hk
    ·have:k=m:=by omega
     subst this;exact he
theorem pe {p:Array Nat}{m m':Nat}(h1:1<=m)(hs:ci O key p m)(ha:∀ k,m<=k->k<m'->O.kle (Rk O key p (k-1)) (Rk O key p k)):ci O key p m':=by
 intro i j hij hj
 induction j with
 | zero=>
      have:i=0:=by omega
      subst this;exact KeyOrd.kle_refl _
 | succ j ih=>
  rcases lt_or_ge (j+1) m with h|h
  ·exact hs i (j+1) hij h
  ·rcases lt_or_ge i (j+1) with h'|h'
   ·exact KeyOrd.kle_trans (ih (by omega) (by omega)) (ha (j+1) h hj)
   ·have:i=j+1:=by omega
    subst this;exact KeyOrd.kle_refl _
theorem Ay {Q:Nat × Array Nat->Shared->Prop}{p p0:Array Nat}{m nrem:Nat}(hn:0<n)(h0:∀ x∈p0.toList,x<n)(hp:p.Perm p0)(h1:1<=m)(hm:m<=nrem)(hr:nrem<=p0.size)
  (hD:∀ i j,i<=j->j<m->O.kle (Rk O key p j) (Rk O key p i)) (h:∀ m' p',p'.Perm p0->1<=m'->m'<=nrem->ci O key p' m'->Q (m',p') s):(kas_tail3 m nrem p).kasWp (c0 O key n) Q s:=by
 have hsz:p.size=p0.size:=hp.size_eq;have hp':(kas_rev p 0 m).Perm p0:=(mirror_perm ..).trans hp;unfold kas_tail3;rw[KasT.kasWp_bind];refine xq _ _ _ (eD hn hp' h0) h1 fun m' a1 a2 a3 _=>h m' _ hp' (by omega) (by omega) (pe h1 ?_ a3)
 intro i j hij hj;rw[yv (by omega),yv (by omega),if_pos (by omega),if_pos (by omega)]
 exact hD _ _ (by omega) (by omega)
theorem nF {Q:Nat × Array Nat->Shared->Prop}{p p0:Array Nat}{m nrem:Nat}(hn:0<n)(h0:∀ x∈p0.toList,x<n)(hp:p.Perm p0)(h1:1<=m)(hm:m<nrem)(hr:nrem<=p0.size)
  (hD:∀ i j,i<=j->j<m+1->O.kle (Rk O key p j) (Rk O key p i)) (h:∀ m' p',p'.Perm p0->1<=m'->m'<=nrem->ci O key p' m'->Q (m',p') s):(kas_descPart m nrem p).kasWp (c0 O key n) Q s:=by
 unfold kas_descPart;rw[KasT.kasWp_bind];refine n9 hn h0 _ p (m+1) 0 hp ⟨hD,fun k b1 b2=>by rw[show k=m+1-1 by omega],by omega⟩ (by omega) fun p' m' q' a1 a2 a3 D=>?_
 have hsz:p'.size=p0.size:=a1.size_eq;dsimp only
 split
 ·have hrv:∀ k,Rk O key (kas_rev p' (m'-(q'+1)) m') k=Rk O key p' k:=mW (by omega) D.eq
  exact Ay hn h0 ((mirror_perm ..).trans a1) (by omega) (by omega) hr (fun i j hij hj=>by rw[hrv,hrv];exact D.ni i j hij hj) h
 ·exact Ay hn h0 a1 (by omega) (by omega) hr D.ni h
theorem CY {Q:Nat × Array Nat->Shared->Prop}{p0:Array Nat}{nrem:Nat}(hn:0<n)(h0:∀ x∈p0.toList,x<n)(h1:1<=nrem)(hr:nrem<=p0.size)
  (h:∀ m' p',p'.Perm p0->1<=m'->m'<=nrem->ci O key p' m'->Q (m',p') s):(kas_count nrem p0).kasWp (c0 O key n) Q s:=by
 unfold kas_count;rw[KasT.kasWp_bind];refine xq _ _ _ (eD hn (Array.Perm.refl _) h0) (le_refl _) fun m a1 a2 a3 a4=>?_;have hso:ci O key p0 m:=pe (m:=1) (le_refl _) (fun i j hij hj=>by
  have:i=j:=by omega
  subst this;exact KeyOrd.kle_refl _) a3
 by_cases he:m=nrem
 ·rw[if_pos (by simpa using he)]
  exact h m p0 (Array.Perm.refl _) a1 (by omega) hso
 ·rw[if_neg (by simpa using he)]
  have hlt:=a4 (by omega)
  split
  ·refine⟨eD hn (Array.Perm.refl _) h0 _,eD hn (Array.Perm.refl _) h0 _,?_⟩
   cases hb:O.blt (key (p0.getD 0 0)) (key (p0.getD (m-1) 0)) with
   | true=>
    simp only[if_true];exact h m p0 (Array.Perm.refl _) a1 (by omega) hso
   | false=>
    simp only[Bool.false_eq_true,if_false];have hle:O.kle (Rk O key p0 (m-1)) (Rk O key p0 0):=hb;have heq:∀ k,k<m->Rk O key p0 k=Rk O key p0 (m-1):=fun k hk=>
     KeyOrd.kle_antisymm (hso k (m-1) (by omega) (by omega)) (KeyOrd.kle_trans hle (hso 0 k (by omega) hk))
    have hrv:∀ k,Rk O key (kas_rev p0 0 m) k=Rk O key p0 k:=mW (by omega) fun k _ hk=>heq k hk
    refine nF hn h0 (mirror_perm ..) a1 (by omega) hr (fun i j hij hj=>?_) h
    rw[hrv,hrv];refine gW (m:=m) (fun i j hij hj=>?_) a1 (KeyOrd.kle_of_klt hlt) i j hij hj;rw[heq i (by omega),heq j hj];exact KeyOrd.kle_refl _
  ·have hm1:m=1:=by omega
   subst hm1;refine nF hn h0 (Array.Perm.refl _) a1 (by omega) hr (gW (fun i j hij hj=>?_) (le_refl _) (KeyOrd.kle_of_klt hlt)) h
   have:i=j:=by omega
   subst this;exact KeyOrd.kle_refl _
theorem ql {Q:Nat->Shared->Prop}{p:Array Nat}{k:Nat}(hsm:yR n p)(hso:ci O key p k):∀ (f l r:Nat),l<=r->r<=k->r-l<=f →
  (∀ i,i<l->O.kle (Rk O key p i) (Rk O key p k))->(∀ i,r<=i->i<k->O.klt (Rk O key p k) (Rk O key p i)) →
  (∀ l',l'<=k->(∀ i,i<l'->O.kle (Rk O key p i) (Rk O key p k))->(∀ i,l'<=i->i<k->O.klt (Rk O key p k) (Rk O key p i))->Q l' s) →
  (kas_place p k f l r).kasWp (c0 O key n) Q s
 | 0,l,r,hlr,hrk,hf,h1,h2,h=>by
  have:l=r:=by omega
  subst this;exact h l hrk h1 h2
 | f+1,l,r,hlr,hrk,hf,h1,h2,h=>by
  unfold kas_place
  split
  ·have:l=r:=by omega
   subst this;exact h l hrk h1 h2
  ·refine⟨hsm _,hsm _,?_⟩
   cases hb:O.blt (key (p.getD k 0)) (key (p.getD ((l+r) / 2) 0)) with
   | true=>
    simp only[if_true];refine ql hsm hso f l ((l+r) / 2) (by omega) (by omega) (by omega) h1 (fun i a1 a2=>?_) h
    exact KeyOrd.klt_of_klt_of_kle hb (hso _ _ a1 a2)
   | false=>
    simp only[Bool.false_eq_true,if_false];refine ql hsm hso f ((l+r) / 2+1) r (by omega) hrk (by omega) (fun i a1=>?_) h2 h
    exact KeyOrd.kle_trans (hso i ((l+r) / 2) (by omega) (by omega)) hb
theorem CS {Q:Array Nat->Shared->Prop}{p0:Array Nat}(hn:0<n)(h0:∀ x∈p0.toList,x<n):∀ (f:Nat) (p:Array Nat) (k:Nat),p.Perm p0->k+f=p0.size->ci O key p k →
  (∀ p',p'.Perm p0->ci O key p' p0.size->Q p' s)->(kas_bin f p k).kasWp (c0 O key n) Q s
 | 0,p,k,hp,hk,hso,h=>h p hp (by rw[<-hk];exact hso)
 | f+1,p,k,hp,hk,hso,h=>by
  have hsz:p.size=p0.size:=hp.size_eq;unfold kas_bin;rw[KasT.kasWp_bind];refine ql (eD hn hp h0) hso k 0 k (by omega) (le_refl _) (by omega) (fun i hi=>by omega) (fun i a1 a2=>by omega) fun l hl b1 b2=>?_
  refine CS hn h0 f _ (k+1) ((bubble_perm ..).trans hp) (by omega) (fun i j hij hj=>?_) h
  rw[GD (by omega) (by omega),GD (by omega) (by omega),show k-(k-l)=l by omega]
  rcases lt_trichotomy i l with hi|hi|hi
  ·rw[if_neg (by omega),if_neg (by omega)]
   split
   ·exact b1 i hi
   ·split
    ·exact hso i (j-1) (by omega) (by omega)
    ·exact hso i j hij (by omega)
  ·rw[if_pos hi]
   split
   ·exact KeyOrd.kle_refl _
   ·rw[if_pos (by omega)]
    exact KeyOrd.kle_of_klt (b2 (j-1) (by omega) (by omega))
  ·rw[if_neg (by omega),if_pos (by omega),if_neg (by omega),if_pos (by omega)]
   exact hso _ _ (by omega) (by omega)
theorem Kf {Q:Array Nat->Shared->Prop}(hn:0<n)(h:∀ p,List.Perm p.toList (List.range n)->ci O key p n->Q p s):(kas_sort n).kasWp (c0 O key n) Q s:=by
 have h0:∀ x∈(List.range n).toArray.toList,x<n:=fun x hx=>by simpa using hx
 have hs0:(List.range n).toArray.size=n:=by simp
 unfold kas_sort;rw[KasT.kasWp_bind];refine CY hn h0 hn (by omega) fun m p hp h1 hm hso=>?_
 have fin:∀ p',p'.Perm (List.range n).toArray->ci O key p' n->Q p' s:=fun p' a b=>h p' (by simpa using Array.perm_iff_toList_perm.mp a) b
 dsimp only
 split
 ·refine CS hn h0 _ p _ hp (by omega) (by rw[show max m 1=m by omega];exact hso) fun p' a b=>fin p' a (by rw[hs0]at b;exact b)
 ·have:m=n:=by omega
  subst this;exact fin p hp hso
end
end ST
set_option maxHeartbeats 3200000
namespace ST
open PySem PySem.W PyProof.Rows
def lexB:List Int->List Int->Bool
 | [],[]=>false
 | [],_::_=>true
 | _::_,[]=>false
 | a::x,b::y=>if a=b then lexB x y else decide (a<b)
theorem lex_irr:∀ a,lexB a a=false
 | []=>rfl
 | a::x=>by simp[lexB,lex_irr x]
theorem sn:∀ a b c,lexB a b=true->lexB b c=true->lexB a c=true
 | [],[],c,h1,h2=>h2
 | [],_::_,[],h1,h2=>by simp[lexB]at h2
 | [],_::_,_::_,h1,h2=>rfl
 | _::_,[],c,h1,h2=>by simp[lexB]at h1
 | _::_,_::_,[],h1,h2=>by simp[lexB]at h2
 | a::x,b::y,c::z,h1,h2=>by
  simp only[lexB]at h1 h2 ⊢
  by_cases e1:a=b
  ·subst e1
   by_cases e2:a=c
   ·subst e2;simp only[if_true]at h1 h2 ⊢;exact sn x y z h1 h2
   ·simp only[if_true,e2,if_false]at h1 h2 ⊢;exact h2
  ·by_cases e2:b=c
   ·subst e2;simp only[e1,if_false,if_true]at h1 h2 ⊢;exact h1
   ·simp only[e1,e2,if_false,decide_eq_true_eq]at h1 h2 ⊢;have:a≠c:=by omega
    simp only[this,if_false,decide_eq_true_eq];omega
theorem zS:∀ a b c,lexB a c=true->lexB a b=true\/lexB b c=true
 | [],[],c,h=>.inr h
 | [],_::_,c,h=>.inl rfl
 | _::_,b,[],h=>by simp[lexB]at h
 | _::_,[],_::_,h=>.inr rfl
 | a::x,b::y,c::z,h=>by
  simp only[lexB]at h ⊢
  by_cases e1:a=b
  ·subst e1
   by_cases e2:a=c
   ·subst e2;simp only[if_true]at h ⊢;exact zS x y z h
   ·simp only[e2,if_false]at h ⊢;exact .inr h
  ·by_cases e2:b=c
   ·subst e2;simp only[e1,if_false]at h ⊢;exact .inl h
   ·simp only[e1,e2,if_false,decide_eq_true_eq]at h ⊢
    by_cases e3:a=c
    ·subst e3;omega
    ·simp only[e3,if_false,decide_eq_true_eq]at h;omega
theorem mS:∀ a b,lexB a b=false->lexB b a=false->a=b
 | [],[],_,_=>rfl
 | [],_::_,h,_=>by simp[lexB]at h
 | _::_,[],_,h=>by simp[lexB]at h
 | a::x,b::y,h1,h2=>by
  simp only[lexB]at h1 h2
  by_cases e:a=b
  ·subst e;simp only[if_true]at h1 h2;rw[mS x y h1 h2]
  ·have e':b≠a:=fun h=>e h.symm;simp only[e,e',if_false,decide_eq_false_iff_not]at h1 h2;omega
def ED:KeyOrd:=⟨List Int,lexB,lex_irr,sn,zS,mS⟩
theorem wp_at {O:KeyOrd}{key:Nat->O.α}{n:Nat}{α:Type}{c':Nat->Nat->(Bool->Shared->Prop)->Shared->Prop}{s:Shared}(hc:∀ i j C,i<n->j<n->C (O.blt (key i) (key j)) s->c' i j C s){Q:α->Shared->Prop} :
  ∀ t:KasT α,t.kasWp (c0 O key n) Q s->t.kasWp c' Q s
 | .ret a,h=>h
 | .ask i j k,⟨h1,h2,h3⟩=>hc i j _ h1 h2 (wp_at hc (k _) h3)
section
variable {prog:Program}{w:World}{A:Around}{E:Value->Shared->Prop}{s:Shared}
theorem EF {b:Bool}{Q:Bool->Shared->Prop}:∀ (ks ls:List Int) (xs ys:List Value) (i:Nat),ItemsAre (ik prog w) ks xs->ItemsAre (ik prog w) ls ys->ks.length=ls.length->Q (lexB ks ls) s →
  KatLex prog w A b false Q (xs.zip ys) i s
 | _,_,_,_,i,.nil,.nil,_,h=>h
 | _,_,_,_,i,.nil,.cons _ _,e,h=>by simp at e
 | _,_,_,_,i,.cons _ _,.nil,e,h=>by simp at e
 | _,_,_,_,i,.cons (k:=k) (v:=v) (ks:=ks) (vs:=vs) h1 h2,.cons (k:=k') (v:=v') (ks:=ks') (vs:=vs') h3 h4,e,h=>by
  obtain⟨t,rfl⟩:=Value.isInt_shape h1;obtain⟨t',rfl⟩:=Value.isInt_shape h3;refine kat_cons (wpAny_eqBool_int ?_)
  by_cases hk:k=k'
  ·subst hk;rw[beq_self_eq_true];refine kat_yes (EF ks ks' vs vs' (i+1) h2 h4 (by simpa using e) ?_)
   simpa [lexB] using h
  ·rw[beq_eq_false_iff_ne.mpr hk];refine kat_no ?_;have h':Q (decide (k<k')) s:=by simpa [lexB,hk] using h
   cases hb:(b && i == 0) with
   | true=>exact oneLt_int h'
   | false=>exact kat_one _ _ (wpAny_lt_int h')
theorem AA {h:Heap}:∀ (vs:List Value) (km:Nat->Addr × List Int),(∀ i,i<vs.length->vs.getD i Value.none=.ref (km i).1/\IsTupleKey (ik prog w) h (km i).2 (km i).1/\0<(km i).2.length) →
  ∃ fs,KatTups h vs fs/\fs.length=vs.length/\∀ v∈fs,∃ k t,v=Value.int k t
 | [],km,_=>⟨[],.nil,rfl,fun v hv=>absurd hv not_mem_nil⟩
 | v::vs,km,hk=>by
  obtain⟨fs,h1,h2,h3⟩:=AA vs (fun i=>km (i+1)) fun i hi=>by
   have:=hk (i+1) (by simpa using hi)
   simpa using this
  obtain⟨e,⟨o,items,m,ho,hc,hd,hi⟩,hpos⟩:=hk 0 (by simp)
  have ev:v=.ref (km 0).1:=by simpa using e
  subst ev;generalize (km 0).2=kk at hi hpos;obtain⟨k,t,rest,hit⟩:∃ k t rest,items.toList=Value.int k t::rest:=by
   generalize items.toList=il at hi
   cases hi with
   | nil=>simp at hpos
   | @cons k v _ vs' h1 _=>
    obtain⟨t,rfl⟩:=Value.isInt_shape h1;exact⟨k,t,vs',rfl⟩
  refine⟨Value.int k t::fs,.cons ho hc hd (f:=Value.int k t) ?_ h1,by simp[h2],fun u hu=>?_⟩
  ·rw[<-getElem?_toList,hit];rfl
  ·rcases mem_cons.mp hu with rfl|hu
   ·exact⟨k,t,rfl⟩
   ·exact h3 u hu
theorem BO:∀ vs:List Value,vs.length<2->(vs.toArray.zip vs.toArray).map (·.2)=((List.range vs.length).toArray.toList.map fun i=>vs.getD i Value.none).toArray
 | [],_=>by simp
 | [v],_=>by simp[range_succ]
 | _::_::_,h=>absurd h (by simp only[length_cons];omega)
theorem GV {a:Addr}{n d:Nat}{vs:List Value}{km:Nat->Addr × List Int}{P:PySem.Fin->Shared->Prop} (ho:s.heap.get? a=some (seqObj "list" vs.toArray n)) (h64:vs.length<64) (hd0:0<d)
  (hk:∀ i,i<vs.length->vs.getD i Value.none=.ref (km i).1/\IsTupleKey (ik prog w) s.heap (km i).2 (km i).1/\(km i).2.length=d)
  (h:∀ h' (p:Array Nat) e,(∀ b o,b≠a->s.heap.get? b=some o->h'.get? b=some o)->h'.get? a=some (seqObj "list" (p.toList.map fun i=>vs.getD i Value.none).toArray e) →
   List.Perm p.toList (List.range vs.length)->ci ED (fun i=>(km i).2) p vs.length->P (.done (.ret .none)) {s with heap:=h'}) :
  wpAny (model prog w) A (Builtin.«list.sort» ⟨[.ref a],[]⟩) P E s:=by
 have ha:a<s.heap.objs.size:=Heap.lt_size ho;have s1:=Heap.SameBut.update s.heap a (Obj.mapSeq fun _=>(#[]:Array Value));obtain⟨e1,ho1⟩:∃ e1,(s.heap.update a (Obj.mapSeq fun _=>(#[]:Array Value))).get? a=some (seqObj "list" #[] e1):=⟨_,get?_update_seq ho fun _=>#[]⟩;generalize hh3:((s.heap.update a (Obj.mapSeq fun _=>(#[]:Array Value))).push (seqObj "tuple" vs.toArray 0)).push (seqObj "list" #[] 0)=h3;have k3:∀ b o,b≠a->s.heap.get? b=some o->h3.get? b=some o:=fun b o hb e=>by
  rw[<-hh3];exact Heap.get?_push_of_some _ (Heap.get?_push_of_some _ ((s1.2 b hb).trans e))
 have a3:h3.get? a=some (seqObj "list" #[] e1):=by rw[<-hh3];exact Heap.get?_push_of_some _ (Heap.get?_push_of_some _ ho1)
 have hk3:∀ i,i<vs.length->vs.getD i Value.none=.ref (km i).1/\IsTupleKey (ik prog w) h3 (km i).2 (km i).1/\(km i).2.length=d:=fun i hi=>by
  obtain⟨x1,⟨o',items,m',ho',hc',hd',hi'⟩,x3⟩:=hk i hi;refine⟨x1,⟨o',items,m',k3 _ o' (fun e=>?_) ho',hc',hd',hi'⟩,x3⟩;rw[e,ho]at ho';obtain rfl:=Option.some.inj ho';exact absurd hc' (by simp[seqObj])
 have fin:∀ p:Array Nat,List.Perm p.toList (List.range vs.length)->ci ED (fun i=>(km i).2) p vs.length->∃ e,
   (h3.update a (Obj.mapSeq fun _=>(p.toList.map fun i=>vs.getD i Value.none).toArray)).get? a=some (seqObj "list" (p.toList.map fun i=>vs.getD i Value.none).toArray e) ∧
   P (.done (.ret .none)) {s with heap:=h3.update a (Obj.mapSeq fun _=>(p.toList.map fun i=>vs.getD i Value.none).toArray)}:=fun p hp hs=>by
  have hg:=get?_update_seq a3 fun _=>(p.toList.map fun i=>vs.getD i Value.none).toArray;exact⟨_,hg,h _ p _ (fun b o hb e=>((Heap.SameBut.update h3 a _).2 b hb).trans (k3 b o hb e)) hg hp hs⟩
 rw[list_sort_plain];refine wpAny_bind (listItems_at ho rfl ?_);refine wpAny_bind (listUpdate_at ho rfl ?_ (by rw[size_toArray,sizeLine_eq];omega) (zero_le _))
 refine wpAny_bind (seqEpoch_at ho1 rfl ?_);refine wpAny_bind (wpAny_newTuple ?_ (by show vs.length<=_;rw[sizeLine_eq];omega))
 refine wpAny_bind (wpAny_newList ?_ (zero_le _));refine wpAny_holding ?_;show wpAny (model prog w) A _ P E {s with heap:=((s.heap.update a (Obj.mapSeq fun _=>(#[]:Array Value))).push (seqObj "tuple" vs.toArray 0)).push (seqObj "list" #[] 0)};rw[hh3];dsimp only
 by_cases h2:vs.toArray.size<2
 ·rw[if_pos h2,if_pos h2];refine wpAny_bind (wpAny_pure ?_);rw[StateT.run_pure];refine wpAny_bind (wpAny_pure ?_);dsimp only;have hout:(arrOf (SortSt.mk' general' (vs.toArray.zip vs.toArray) #[] 7 none)).map (·.2)=((List.range vs.length).toArray.toList.map fun i=>vs.getD i Value.none).toArray:=by
   exact BO vs (by simpa using h2)
  obtain⟨e,hg,hP⟩:=fin (List.range vs.length).toArray (.refl _) (fun i j hij hj=>by
   have h2':vs.length<2:=by simpa using h2
   have:i=j:=by omega
   subst this;exact KeyOrd.kle_refl _)
  rw[hout];refine wpAny_bind (seqEpoch_at a3 rfl ?_);refine wpAny_bind (listUpdate_at a3 rfl ?_ (zero_le _) (by simp[sizeLine_eq];omega))
  simp only[bne_self_eq_false,Bool.false_eq_true,if_false];exact wpAny_pure hP
 ·rw[if_neg h2,if_neg h2];have h2':2<=vs.length:=by simpa using h2
  obtain⟨fs,t1,t2,t3⟩:=AA (prog:=prog) (w:=w) (h:=h3) vs km fun i hi=>⟨(hk3 i hi).1,(hk3 i hi).2.1,by rw[(hk3 i hi).2.2];exact hd0⟩
  refine wpAny_bind (kat_kind (T:=.type "int") t1 (by omega) (fun v hv=>by
   obtain⟨k,t,rfl⟩:=t3 v hv;exact Looks.of_pure rfl) (by decide) ?_)
  refine wpAny_bind (wpAny_mono (kat_run (Q:=fun st' s'=>∃ p:Array Nat,arrOf st'=p.map (kas_item (vs.toArray.zip vs.toArray))/\failedOf st'=none/\s'={s with heap:=h3}/\List.Perm p.toList (List.range vs.length)/\ci ED (fun i=>(km i).2) p vs.length)
   (G:=fun p s'=>s'={s with heap:=h3}/\List.Perm p.toList (List.range vs.length)/\ci ED (fun i=>(km i).2) p vs.length)
   rfl h2' h64 (fun p' st' s' a1 a2 a3 a4=>⟨p',a2,a3,a4⟩) ?_) ?_ fun _ _ e=>e)
  ·refine wp_at (O:=ED) (key:=fun i=>(km i).2) (n:=vs.length) (fun i j C hi hj hC=>?_) _ (Kf (by omega) fun p hp hs=>⟨rfl,hp,hs⟩)
   obtain⟨x1,⟨o1,it1,m1,ho1',hc1,hd1,hi1⟩,x3⟩:=hk3 i hi;obtain⟨y1,⟨o2,it2,m2,ho2',hc2,hd2,hi2⟩,y3⟩:=hk3 j hj;unfold kas_ask;rw[x1,y1];have hsz:decide (it1.size<it2.size)=false:=by
    have e1:=hi1.length;have e2:=hi2.length;simp only[length_toList]at e1 e2;simp only[decide_eq_false_iff_not];omega
   refine kat_lt ho1' hd1 ho2' hd2 ?_;rw[hsz];exact EF _ _ _ _ 0 hi1 hi2 (x3.trans y3.symm) hC
  ·rintro⟨⟨⟩,st'⟩ s' ⟨p,har,hf,rfl,hp,hs⟩;dsimp only;obtain⟨e,hg,hP⟩:=fin p hp hs;have hout:=kat_snds (ks:=vs) (vs:=vs) rfl har;rw[hout];refine wpAny_bind (seqEpoch_at a3 rfl ?_);refine wpAny_bind (listUpdate_at a3 rfl ?_ (zero_le _) (by
    rw[size_toArray,length_map,hp.length_eq,length_range,sizeLine_eq];omega))
   rw[hf];simp only[bne_self_eq_false,Bool.false_eq_true,if_false];exact wpAny_pure hP
end
end ST
set_option maxHeartbeats 3200000
namespace ST
open PySem PySem.W PyProof.Rows
section
variable {prog:Program}{w:World}{A:Around}{E:Value->Shared->Prop}{s:Shared}{o:Obj}{es:Array (Int × Value)}{ep:Nat}{t:SetTable}{S:Addr}
theorem El {Q:Bool->Shared->Prop} (hT:s.TypeIs (.ref S) "set") (h:Q false s):wpAny (model prog w) A (Builtin.List.listLengthHint (.ref S)) Q E s:=by
 unfold Builtin.List.listLengthHint;refine wpAny_bind (wpAny_specialOf hT F.slot_set_len.lookup ?_);generalize hid:("set.__len__":String)=id0
 wp_delta
 rw[show splitId id0=some ("set","__len__") from by subst hid;decide +kernel]
 subst hid;refine wpAny_bind (wpAny_isInstance (T:="set") (b:=true) hT sub_set_self ?_);refine wpAny_ite_split (fun hab=>absurd hab (by decide)) (fun _=>?_)
 refine wpAny_ite_split (fun _=>?_) (fun hab=>absurd (by decide +kernel) hab)
 refine wpAny_bind (wpAny_typeOf hT ?_);exact wpAny_pure h
theorem xR {ws:List Value}{acc:Array Value}(h:ItemsOf (fun i v=>ws[i]?=some v) acc ws.length):acc=ws.toArray:=by
 obtain⟨h1,h2⟩:=h;have e:acc.toList=ws:=by
  apply List.ext_getElem?;intro i
  by_cases hi:i<acc.size
  ·have h3:=h2 i acc[i] (Array.getElem?_eq_getElem hi);rw[getElem?_toList,Array.getElem?_eq_getElem hi,h3]
  ·rw[getElem?_eq_none (by simpa using le_of_not_lt hi),getElem?_eq_none (by rw[<-h1];exact le_of_not_lt hi)]
 rw[<-e]
theorem vK {Q:List Value->Shared->Prop}(hh:A.handled=none)(W:kB w o es ep t)(ho:s.heap.get? S=some o)(hz:es.size<=76)
  (h:∀ h' tk,(∀ b o,s.heap.get? b=some o->h'.get? b=some o)->s.heap.objs.size<=h'.objs.size->Q (de w S ep es) {s with heap:=h',toks:=tk}) :
  wpAny (model prog w) A (collect (.ref S)) Q E s:=by
 have hS0:S<s.heap.objs.size:=Heap.lt_size ho;unfold collect;refine wpAny_bind (wpAny_runValue (codeAny_builtin entry_proto_collect' ?_));show wpAny _ _ (newList [] >>= fun l=>again (.builtin "list.__iadd__" ⟨[l,.ref S],[]⟩)) _ _ s;refine wpAny_bind (wpAny_newList (wpAny_pure ⟨Code.quiet_builtin _ (by decide +kernel),codeAny_builtin entry_list_iadd' ?_⟩))
 show wpAny _ _ (Builtin.List.listExtendWith (.ref s.heap.objs.size) (.ref S) (.ref s.heap.objs.size)) _ _ {s with heap:=s.heap.push (seqObj "list" #[] 0)};have ho1:(s.heap.push (seqObj "list" #[] 0)).get? S=some o:=Heap.get?_push_of_some _ ho;have hT1:Shared.TypeIs {s with heap:=s.heap.push (seqObj "list" #[] 0)} (.ref S) "set":=⟨o,ho1,W.ex.1⟩;unfold Builtin.List.listExtendWith;refine wpAny_bind (wpAny_typeOf hT1 ?_);have b1:Builtin.List.listSameRef (.ref s.heap.objs.size) (.ref S)=false:=by
  have:s.heap.objs.size≠S:=ne_of_gt hS0;simp[Builtin.List.listSameRef,this]
 have b2:(Value.type "set" == Value.type "list")=false:=by decide
 have b3:(Value.type "set" == Value.type "tuple")=false:=by decide
 simp only[b1,b2,b3,Bool.or_false,Bool.false_eq_true,if_false];refine wpAny_bind (xa W ho1 ?_);generalize hio:({cls:=.type "set_iterator",data:=.fields #[rawInt (0:Nat),rawInt (0:Nat),.ref S,rawInt es.size,rawInt ep]}:Obj)=io;have hsz1:(s.heap.push (seqObj "list" #[] 0)).objs.size=s.heap.objs.size+1:=size_push' ..;dsimp only;rw[hsz1];have ho2:((s.heap.push (seqObj "list" #[] 0)).push io).get? S=some o:=Heap.get?_push_of_some _ ho1;refine wpAny_bind (wpAny_holding (El ⟨o,ho2,W.ex.1⟩ ?_));refine wpAny_ite_split (fun _=>?_) (fun hab=>absurd (by decide +kernel) hab)
 refine wpAny_bind (wpAny_rule ?_);have hL2:((s.heap.push (seqObj "list" #[] 0)).push io).get? s.heap.objs.size=some (seqObj "list" #[] 0):=Heap.get?_push_of_some _ (Heap.get?_push_size _ rfl);unfold Builtin.List.listTouch;refine wpAny_bind (wpAny_bind (listUpdate_at hL2 rfl ?_ (zero_le _) (by simp[sizeLine_eq])))
 have hL3:=get?_update_seq hL2 (·.push Value.none);refine listUpdate_at (s:={s with heap:=((s.heap.push (seqObj "list" #[] 0)).push io).update s.heap.objs.size (Obj.mapSeq (·.push Value.none))}) hL3 rfl ?_ (by simp[sizeLine_eq]) (by simp[sizeLine_eq])
 have hL4:=get?_update_seq hL3 (·.pop);generalize hh4:(((s.heap.push (seqObj "list" #[] 0)).push io).update s.heap.objs.size (Obj.mapSeq (·.push Value.none))).update s.heap.objs.size (Obj.mapSeq (·.pop))=h4 at hL4 ⊢;obtain⟨c4,hL4⟩:∃ c4,h4.get? s.heap.objs.size=some (seqObj "list" #[] c4):=⟨_,hL4⟩;have k4:∀ b o,b≠s.heap.objs.size->((s.heap.push (seqObj "list" #[] 0)).push io).get? b=some o->h4.get? b=some o:=fun b o hb e=>by
  rw[<-hh4];exact((Heap.SameBut.update _ _ _).2 b hb).trans (((Heap.SameBut.update _ _ _).2 b hb).trans e)
 have hI4:h4.get? (s.heap.objs.size+1)=some io:=k4 _ _ (Nat.succ_ne_self _) (by
  have:=Heap.get?_push_size (s.heap.push (seqObj "list" #[] 0)) (o:=io) (by rw[<-hio];rfl)
  rwa [hsz1]at this)
 have hne:S≠s.heap.objs.size+1:=ne_of_lt (lt_succ_of_lt hS0);have hSf:s.heap.objs.size∉[s.heap.objs.size+1,S]:=fun hm=>by
  rcases mem_cons.mp hm with e|hm
  ·exact ne_of_lt (lt_succ_self _) e
  ·exact ne_of_gt hS0 (mem_singleton.mp hm)
 refine wpAny_pure ⟨plainId_quiet F.plain_extend_loop _,?_⟩;refine codeAny_extend_loopS ((Cd (by simp[hh]) W hne).toS) (by rw[sizeLine_eq];omega) s.heap.objs.size hSf _ es.size 0 _ #[] c4 rfl (zero_le _)
  ⟨0,⟨_,hI4,by rw[<-hio],by rw[<-hio]⟩,fun _=>xw W.ris,k4 S o (ne_of_lt hS0) ho2⟩ hL4 (ItemsOf.nil _) fun s' acc' c' hm hS' hacc=>?_
 have hacc':acc'=(de w S ep es).toArray:=xR (by rw[qK W];exact hacc)
 subst hacc';have key:∀ b o,s.heap.get? b=some o->s'.heap.get? b=some o:=fun b o e=>by
  have hb:b<s.heap.objs.size:=Heap.lt_size e;refine hm.heap b o (fun hmem=>?_) (k4 b o (ne_of_lt hb) (Heap.get?_push_of_some _ (Heap.get?_push_of_some _ e)))
  rcases mem_cons.mp hmem with e'|hmem
  ·exact ne_of_lt hb e'
  ·exact ne_of_lt (lt_succ_of_lt hb) (mem_singleton.mp hmem)
 rw[Moved.eq_with hm];show wpAny (model prog w) A (load s.heap.objs.size >>= fun o=>match o.data with
   | .seq xs _=>pure xs.toList
   | _=>unsupported "internal:collect") Q E {s with heap:=s'.heap,toks:=s'.toks}
 refine wpAny_bind (wpAny_load hS' ?_);exact wpAny_pure (h s'.heap s'.toks key (Nat.le_of_lt (Heap.lt_size hS')))
theorem sK {α β:Type}{f:α->β}:∀ (ms:List α) (l:List β),List.Perm l (ms.map f)->∃ ms1,List.Perm ms1 ms/\l=ms1.map f
 | [],l,h=>⟨[],.refl _,by simpa using h⟩
 | m::ms,l,h=>by
  rw[map_cons]at h;obtain⟨l1,l2,rfl⟩:=List.append_of_mem (h.mem_iff.mpr mem_cons_self);have h2:List.Perm (l1++l2) (ms.map f):=List.Perm.cons_inv (a:=f m) (List.perm_middle.symm.trans h);obtain⟨ms1,hp,e⟩:=sK ms _ h2;obtain⟨a,b,rfl,ea,eb⟩:=List.append_eq_map_iff.mp e;refine⟨a++m::b,List.perm_middle.trans (List.Perm.cons m hp),?_⟩;rw[map_append,map_cons,ea,eb]
theorem wt {α:Type}(l:List α)(d:α):(List.range l.length).map (fun i=>l.getD i d)=l:=by
 apply List.ext_getElem?;intro i;rw[getElem?_map]
 rcases lt_or_ge i l.length with h|h
 ·simp[h]
 ·simp[h]
theorem call_sorted_set {Q:Value->Shared->Prop}{ms:List (Addr × List Int)}{d:Nat}(hh:A.handled=none)(hS:er prog w s.heap S ms)(h64:ms.length<64)(hd0:0<d)(hd:∀ m∈ms,m.2.length=d)
  (h:∀ h' tk D e (ns:List (Addr × List Int)),List.Perm ns ms->ns.Pairwise (fun a b=>lexB a.2 b.2=true)->(∀ b o,s.heap.get? b=some o->h'.get? b=some o)->s.heap.objs.size<=D →
   h'.get? D=some (seqObj "list" (ns.map fun m=>Value.ref m.1).toArray e)->Q (.ref D) {s with heap:=h',toks:=tk}) :
  wpAny (model prog w) A (call (.builtin "sorted") [.ref S]) Q E s:=by
 obtain⟨o,es,ep,t,ps,ho,hex,hdt,T,R,H,hpl,hled⟩:=hS;have W:kB w o es ep t:=⟨hex,hdt,T.fits R.le,T.ris',hpl,hled⟩;have hes:es.size=ms.length:=H.len;refine Calls.call_function_entry kind_sorted plain_sorted entry_sorted (args_sorted1 _) ?_;unfold Builtin.«sorted»;refine wpAny_bind (m:=checkCount "sorted" 1 1 _) (wpAny_pure ?_);refine wpAny_bind (vK (by simp[hh]) W ho (by omega) fun h1 tk k1 le1=>?_)
 have hwp:List.Perm (de w S ep es) (ms.map fun m=>Value.ref m.1):=by
  refine(tj w S ep es).trans ?_;have:=H.pm.map (·.2);rw[map_map]at this;exact this
 obtain⟨ms1,hpm1,ews⟩:∃ ms1:List (Addr × List Int),List.Perm ms1 ms/\de w S ep es=ms1.map fun m=>Value.ref m.1:=sK ms _ hwp;have hlen1:ms1.length=ms.length:=hpm1.length_eq;rw[ews];refine wpAny_bind (wpAny_newList ?_ (by rw[length_map,sizeLine_eq];omega))
 dsimp only;have hoL:(h1.push (seqObj "list" (ms1.map fun m=>Value.ref m.1).toArray 0)).get? h1.objs.size=some (seqObj "list" (ms1.map fun m=>Value.ref m.1).toArray 0):=Heap.get?_push_size _ rfl;refine wpAny_bind (wpAny_holding (wpAny_call_entry slot_list_sort ⟨_,hoL,rfl⟩ entry_list_sort ?_ (args_list_sort _)));refine GV (s:={s with heap:=h1.push (seqObj "list" (ms1.map fun m=>Value.ref m.1).toArray 0),toks:=tk}) (km:=fun i=>ms1.getD i (0,[])) hoL (by rw[length_map];omega) hd0 (fun i hi=>?_) fun h' p e hk hg hp hs=>?_
 ·have hi':i<ms1.length:=by simpa using hi
  have hm:ms1.getD i (0,[])=ms1[i]:=by simp[hi']
  have hmem:ms1[i]∈ms:=hpm1.mem_iff.mp (getElem_mem hi');dsimp only;rw[hm];refine⟨by simp[hi'],?_,hd _ hmem⟩
  obtain⟨o',its,m',ho',x⟩:=H.key _ hmem;exact⟨o',its,m',Heap.get?_push_of_some _ (k1 _ _ ho'),x⟩
 ·refine⟨_,rfl,wpAny_pure ⟨_,rfl,?_⟩⟩;rw[length_map]at hp hs;have hns:(p.toList.map fun i=>(ms1.map fun m=>Value.ref m.1).getD i Value.none)=(p.toList.map fun i=>ms1.getD i (0,[])).map fun m=>Value.ref m.1:=by
   rw[map_map];refine map_congr_left fun i hi=>?_;have hi':i<ms1.length:=by simpa using hp.mem_iff.mp hi
   simp[hi']
  have hpn:List.Perm (p.toList.map fun i=>ms1.getD i (0,[])) ms1:=by
   have:=hp.map fun i=>ms1.getD i ((0:Addr),([]:List Int))
   rwa [wt]at this
  rw[hns]at hg;refine h h' tk _ e _ (hpn.trans hpm1) ?_ (fun b o e=>hk b o (fun hb=>?_) (Heap.get?_push_of_some _ (k1 b o e))) ?_ hg
  ·have hnd:((p.toList.map fun i=>ms1.getD i ((0:Addr),([]:List Int))).map (·.2)).Nodup:=((hpn.trans hpm1).map (·.2)).nodup_iff.mpr H.nd;have hpl:p.toList.length=ms1.length:=by rw[hp.length_eq,length_range]
   rw[pairwise_iff_getElem];intro i j hi hj hij;rw[length_map]at hi hj;have h1:=hs i j (Nat.le_of_lt hij) (by omega)
   have ei:p.getD i 0=p.toList[i]:=by simp at hi;simp[Array.getD,hi]
   have ej:p.getD j 0=p.toList[j]:=by simp at hj;simp[Array.getD,hj]
   have hne:=pairwise_iff_getElem.mp hnd i j (by simpa using hi) (by simpa using hj) hij
   simp only[getElem_map]at hne ⊢;unfold KeyOrd.kle Rk at h1;rw[ei,ej]at h1
   cases hb:lexB (ms1.getD p.toList[i] (0,[])).2 (ms1.getD p.toList[j] (0,[])).2 with
   | true=>rfl
   | false=>exact absurd (mS _ _ hb h1) hne
  ·exact ne_of_lt (Heap.lt_size (k1 b o e)) hb
  ·exact le1
end
end ST
set_option maxHeartbeats 4000000
namespace DL
open PySem PySem.Spec L2 PyProof.Rows
def refs (km:List (Addr × List Int)):List V:=km.map fun m=>V.ref m.1
def G0 (K:Frg)(te:TE):TE:=fun σ H Q=>te σ H fun x H1=>∃ p d,∃ km:List (Addr × List Int),x=.ref p/\cX K H1 p (refs km)/\km.length<=63/\0<d ∧
 (∀ m∈km,k8 K H1 m.1 (m.2.map V.int)/\m.2.length=d) ∧
 ∀ ns:List (Addr × List Int),(∀ m∈ns,m∈km)->(∀ m∈km,m.2∈ns.map (·.2))->(ns.map (·.2)).Nodup->(km.length<=63->ns.Pairwise (fun a b=>ST.lexB a.2 b.2=true))->∀ l,H1 l=none->Q (.ref l) (cO H1 l (.lst (refs ns)))
theorem sP:∀ {km:List (Addr × List Int)}{us:List Value},aO (refs km) us->us=km.map fun m=>Value.ref m.1
 | [],_,.nil=>rfl
 | m::km,_,.cons r t=>by cases r;rw[sP t];rfl
theorem zP:∀ km:List (Addr × List Int),aO (refs km) (km.map fun m=>Value.ref m.1)
 | []=>.nil
 | m::km=>.cons rfl (zP km)
section
variable {X:Cx}{e:Expr}{te:TE}{p1 p2 pos1 pos2:Pos}
theorem pW {prog:Program}{w:World}:∀ {ks:List Int}{us:List Value},aO (ks.map V.int) us->ItemsAre (intKind prog w) ks us
 | [],_,.nil=>.nil
 | k::ks,_,.cons r t=>by obtain⟨tk,rfl⟩:=r;exact .cons (intKind_is _ _ _ _) (pW t)
theorem Kn {pins:List (Addr × Obj)}{σ:L2.St}{H:Hp}{s:Shared}(I:aF X pins σ H s){a:Addr}{ks:List Int}(h:k8 X.K H a (ks.map V.int)):IsTupleKey (ST.ik X.prog X.w) s.heap ks a:=by
 obtain⟨its,r,⟨o,ho,hc,n,hd⟩,_⟩:=I.tuple h;exact⟨o,its.toArray,n,ho,hc,hd,by simpa using pW r⟩
theorem yo {k:Nat} (hr:bX k X.A) (hm1:X.mg "sorted"=none) (hm2:X.mg "set"=none) (hd:X.A.handled=none) (he:PE X e te) (hg1:Gl X "sorted":=by rfl) (hg2:Gl X "set":=by rfl)
  (hs2:starEach [e] X.env=(false,eval e X.env)::starEach [] X.env:=by exact aS rfl) (hs1:starEach [.Call (.Name "set" p2) [e] [] pos2] X.env=(false,eval (.Call (.Name "set" p2) [e] [] pos2) X.env)::starEach [] X.env:=by rfl) :
  PE X (.Call (.Name "sorted" p1) [.Call (.Name "set" p2) [e] [] pos2] [] pos1) (G0 X.K te):=by
 intro pins s σ H Q I h;refine wpAny_Call_Name_kw (kJ I hg1 hm1 PyProof.Rows.boot_sorted ?_);refine PyProof.Rows.callWith_builtin1 ?_ hs1;rw[hs1];show wpAny _ _ (spliced ((false,eval (.Call (.Name "set" p2) [e] [] pos2) X.env)::backTo pos1 (starEach [] X.env))) _ _ s;refine Calls.spliced_cons ?_;refine wpAny_Call_Name_kw (kJ I hg2 hm2 PyProof.Rows.boot_set ?_);refine PyProof.Rows.callWith_type1 ?_ hs2;rw[hs2];show wpAny _ _ (spliced ((false,eval e X.env)::backTo pos2 (starEach [] X.env))) _ _ s;refine Calls.spliced_cons (cG (he pins s σ H _ I h) fun u s1 ⟨x,H1,I1,r1,q1⟩=>?_);obtain⟨p,d,km,rfl,hq,hlen,hd0,hkm,fin⟩:=q1
 cases r1
 refine Calls.spliced_nil ?_;obtain⟨its,r,pl,hz⟩:=I1.list hq;have eits:=sP r;subst eits;have hsz:((km.map fun m=>Value.ref m.1).toArray).size=km.length:=by simp
 refine ST.call_set_tup (km:=fun i=>km.getD i (0,[])) hd (by have:=hr.units;omega) pl.isList (fun i v hv=>?_) (fun i hi=>?_) (by rw[hsz];omega) fun h2 tk2 hS k2=>?_
 ·rw[List.getElem?_toArray,getElem?_map]at hv
  cases hk:km[i]? with
  | none=>rw[hk]at hv;simp at hv
  | some m=>
   rw[hk]at hv;simp only[getD_eq_getElem?_getD,hk,Option.getD_some];simpa using hv.symm
 ·rw[hsz]at hi;have e1:km.getD i (0,[])=km[i]:=by simp[hi]
  rw[e1];exact Kn I1 (hkm _ (getElem_mem hi)).1
 refine Calls.spliced_nil ?_;rw[hsz]at hS;have hmet:∀ m∈ST.met (fun i=>km.getD i (0,[])) km.length,m∈km:=fun m hm=>by
  obtain⟨i,hi,rfl⟩:=ST.met_of _ _ m hm;have e1:km.getD i (0,[])=km[i]:=by simp[hi]
  rw[e1];exact getElem_mem hi
 refine ST.call_sorted_set (s:={s1 with heap:=h2,toks:=tk2}) hd hS (Nat.lt_succ_of_le (le_trans (ST.met_len _ _) hlen)) hd0 (fun m hm=>(hkm m (hmet m hm)).2) fun h3 tk3 D c3 ns hpm hpw k3 le3 hD=>?_;have hnd:(ns.map (·.2)).Nodup:=pairwise_map.mpr (hpw.imp fun h e=>by rw[e,ST.lex_irr]at h;exact nomatch h)
 have keep:∀ b o,s1.heap.get? b=some o->h3.get? b=some o:=fun b o e=>k3 b o (k2 b o (Heap.lt_size e) e);have le:s1.heap.objs.size<=D:=by
  obtain⟨o2,_,_,_,_,ho2,_⟩:=hS;exact le_trans (Nat.le_of_lt (Heap.lt_size ho2)) le3
 have hnl:ns.length<=63:=by rw[hpm.length_eq];exact le_trans (ST.met_len _ _) hlen
 refine⟨.ref D,_,I1.laid (t':=tk3) keep le (show f7 X.prog X.w _ h3 _ (.lst (refs ns)) from⟨?_,_,c3,zP ns,hD⟩),rfl,fin ns (fun m hm=>hmet m (hpm.mem_iff.mp hm)) (fun m hm=>?_) hnd (fun _=>hpw) _ (I1.hok.fresh le)⟩
 ·unfold refs;rw[length_map];exact le_trans hnl (by decide)
 ·obtain⟨i,hi,rfl⟩:=getElem_of_mem hm;have h1:=ST.met_has (fun i=>km.getD i (0,[])) km.length i hi;have e1:km.getD i (0,[])=km[i]:=by simp[hi]
  rw[e1]at h1;exact(hpm.map (·.2)).mem_iff.mpr h1
end
def nY (ks:List Int):T:=.tup (ks.map T.int)
def RH (R:S->Prop)(s:S):Prop:=match items s with
 | some ts=>∃ (d:Nat) (kss:List (List Int)),0<d/\ts=kss.map nY/\(∀ ks∈kss,ks.length=d)/\kss.length<=63 ∧
   ∀ ns:List (List Int),(∀ k∈ns,k∈kss)->(∀ k∈kss,k∈ns)->ns.Nodup->(kss.length<=63->ns.Pairwise (fun a b=>ST.lexB a b=true))->R (.ol (ns.map nY))
 | none=>False
def mn (we:WE):WE:=fun δ R=>we δ (RH R)
theorem sN:∀ ks:List Int,cF (ks.map T.int)=true
 | []=>rfl
 | k::ks=>by simp only[map_cons,cF,lP,Bool.true_and];exact sN ks
theorem sO:∀ kss:List (List Int),cF (kss.map nY)=true
 | []=>rfl
 | k::kss=>by
  simp only[map_cons,cF,Bool.and_eq_true];exact⟨by unfold nY;simp only[lP];exact sN k,sO kss⟩
theorem nN {K:Frg}{H:Hp}:∀ {ks:List Int}{xs:List V},au K H (ks.map T.int) xs->xs=ks.map V.int
 | [],_,h=>h
 | k::ks,_,⟨x,r,e,p,q⟩=>by subst e;cases p;rw[nN q];rfl
theorem wW {K:Frg}{H:Hp}:∀ {kss:List (List Int)}{xs:List V},au K H (kss.map nY) xs →
  ∃ km:List (Addr × List Int),km.map (·.2)=kss/\xs=refs km/\∀ m∈km,k8 K H m.1 (m.2.map V.int)/\aA K H (nY m.2) (.ref m.1)
 | [],_,h=>⟨[],rfl,h,fun m hm=>absurd hm not_mem_nil⟩
 | k::kss,_,⟨x,r,e,p,q⟩=>by
  subst e;obtain⟨km,e1,e2,h1⟩:=wW q;obtain⟨a,ys,e3,sq,ty⟩:=id p;subst e3;have e4:=nN ty;subst e4;refine⟨(a,k)::km,by rw[map_cons,e1],by rw[e2];rfl,fun m hm=>?_⟩
  rcases mem_cons.mp hm with rfl|hm
  ·exact⟨sq,p⟩
  ·exact h1 m hm
theorem wg {K:Frg}{H:Hp}:∀ ns:List (Addr × List Int),(∀ m∈ns,aA K H (nY m.2) (.ref m.1))->au K H ((ns.map (·.2)).map nY) (refs ns)
 | [],_=>rfl
 | m::ns,h=>⟨.ref m.1,refs ns,rfl,h m mem_cons_self,wg ns fun m' hm=>h m' (mem_cons_of_mem _ hm)⟩
section
variable {X:Cx}{e:Expr}{p1 p2 pos1 pos2:Pos}
theorem pD {k:Nat}{we:WE} (hr:bX k X.A) (hm1:X.mg "sorted"=none) (hm2:X.mg "set"=none) (hd:X.A.handled=none) (he:PE X e (av X.K we)) (hg1:Gl X "sorted":=by rfl) (hg2:Gl X "set":=by rfl)
  (hs2:starEach [e] X.env=(false,eval e X.env)::starEach [] X.env:=by exact aS rfl) (hs1:starEach [.Call (.Name "set" p2) [e] [] pos2] X.env=(false,eval (.Call (.Name "set" p2) [e] [] pos2) X.env)::starEach [] X.env:=by rfl) :
  PE X (.Call (.Name "sorted" p1) [.Call (.Name "set" p2) [e] [] pos2] [] pos1) (av X.K (mn we)):=
 (yo hr hm1 hm2 hd he hg1 hg2 hs2 hs1).imp fun σ H Q ⟨δ,R,F,rl,h,k⟩=>⟨δ,_,F,rl,h,fun v F1 H1 s ex p q=>by
  unfold RH at q
  split at q
  ·rename_i ts hi;obtain⟨a,xs,rfl,sq,tp⟩:=(p.val ex.sub).list ex.sub hi;obtain⟨d,kss,hd0,rfl,hlen,h63,fin⟩:=q;obtain⟨km,e1,e2,h1⟩:=wW tp;subst e2;have hkm:∀ m∈km,m.2∈kss:=fun m hm=>by rw[<-e1];exact mem_map.mpr ⟨m,hm,rfl⟩
   refine⟨a,d,km,rfl,sq,by rw[<-e1,length_map]at h63;exact h63,hd0,fun m hm=>⟨(h1 m hm).1,hlen _ (hkm m hm)⟩,fun ns n1 n2 n4 n3 l hl=>?_⟩
   have e2:=dj.newL (refs ns) ex.sub ex.full hl;have hp:au X.K F1 ((ns.map (·.2)).map nY) (refs ns):=au.full ex.full (sO _) (wg ns fun m hm=>(h1 m (n1 m hm)).2);exact k _ F1 _ (.ol ((ns.map (·.2)).map nY)) (ex.trans e2) ⟨l,refs ns,rfl,aM ex.hh hl,aM ex.sub hl,aZ,hp⟩
    (fin _ (fun k hk=>by obtain⟨m,hm,rfl⟩:=mem_map.mp hk;exact hkm m (n1 m hm)) (fun k hk=>by
     rw[<-e1]at hk;obtain⟨m,hm,rfl⟩:=mem_map.mp hk;exact n2 m hm) n4 (fun h=>pairwise_map.mpr (n3 (by rwa [<-e1,length_map]at h))))
  ·exact q.elim⟩
end
theorem AK (we:WE)(δ:aR)(R:S->Prop):mn we δ R=we δ (RH R):=rfl
end DL
set_option maxHeartbeats 4000000
namespace DL
open PySem PySem.Spec L2 PyProof.Rows
def Mz (i:Nat)(δ:aR)(N:aR->Prop)(ts:List T):S->Prop
 | .ol us=>ts.length+us.length<100000/\N (δ.set i (some (.ol (ts++us))))
 | _=>False
def oO (i:Nat)(we:WE):WS:=fun D δ=>match δ[i]? with
 | some (some (.ol ts))=>we δ (Mz i δ D.nx ts)
 | _=>False
theorem Cs {i:Nat}{we:WE}{D:iX}{δ:aR}:oO i we D δ=qa i δ fun ts=>we δ (Mz i δ D.nx ts):=rfl
theorem MA {i:Nat}{δ:aR}(N:aR->Prop)(ts us:List T):Mz i δ N ts (.ol us)=(ts.length+us.length<100000/\N (δ.set i (some (.ol (ts++us))))):=rfl
section
variable {X:Cx}{e:Expr}{we:WE}{pos:Pos}{H₀:Hp}{i:Nat}{x:Str}{p1 p2:Pos}
theorem Bg (he:PE X e (av X.K we)) (hv:PE X (.Name x p1) (wU i):=by exact pv _) (hbase:attributeBase (.Name x p1) "extend" X.env (eval (.Name x p1) X.env)=eval (.Name x p1) X.env:=by rfl)
  (hfew:((backTo pos (starEach [e] X.env)).all (fun x=>!x.1) && (backToKw pos (keywordEach [] X.env)).all (fun x=>x.1.isSome) && decide ([e].length+([]:List Keyword).length+(if ([]:List Keyword).isEmpty then 0 else 1)<30))=true:=by rfl)
  (hline:(p2.endLine == pos.line)=true:=by rfl) (hs:starEach [e] X.env=(false,eval e X.env)::starEach [] X.env:=by rfl) (hplain:(backTo pos (starEach [] X.env)).any (·.1)=false:=by rfl) {pos':Pos}
  (hsw:swapsWith (.Call (.Attribute (.Name x p1) "extend" p2) [e] [] pos) none pos'.line X.env=pure false:=by rfl) :
  PS X (.Expr (.Call (.Attribute (.Name x p1) "extend" p2) [e] [] pos) pos') (bE X.K H₀ (oO i we)):=
 (oD (KU PySem.F.plainAttrs_list PySem.F.slot_list_extend PySem.F.type_list_extend By hv (oC he uR hs) hbase hfew hline hs hplain) hsw).imp fun D σ H ⟨δ,D',F,s0,rl,h,ok⟩=>by
  unfold oO at h
  split at h
  ·rename_i ts hi;obtain⟨v,ha,a,xs,rfl,hF,hH,hr⟩:=rl.slot i _ hi;refine⟨_,ha,.inl ⟨rfl,xs,cX.of hH⟩,δ,_,F,rl,h,fun v F1 H1 s e p q=>?_⟩
   cases s with
   | ol us=>
    obtain⟨hl,q⟩:=q;obtain⟨b,zs,rfl,_,hFb,hHb,hr2⟩:=p;have h1:=e.hh.get hH;refine⟨a,b,xs,zs,rfl,rfl,h1,hHb,by rw[hr.length,hr2.length];exact Nat.le_of_lt (ot hl),?_⟩
    exact ok.nx σ F1 _ _ e.ff ((rl.ext e).mutate hi ha (e.keep a (by rw[hH];simp) hF) ⟨xs,h1⟩ ((au.same e.ff hr).append hr2)) q
   | _=>exact q.elim
  ·exact h.elim
end
end DL
open L2 DL
def K8:List String:=("Cs MA AJ NN NQ NP AK MW MX IX IY Kx Ky Rc O5 LK LJ LD Hu Lo Lp O8 Si O0 Rf Sh Ra OY OU OS OV OT Pc Pd Pe Pf Mx Mw My Iv Iw Iu Mu Mv Mt Mm Mn Ml Ms dO Mr Mp Pz Mo Mq Sg LQ Li O1 LG Lj O2 LH HK Nl Jf OP Rb OZ Ln O6 OX RU RV RW Rv Rw Rx Ry Rz Ll Ly Lw Lz Lx OM LB LC Lv Lu Hz HB HA PH P6 Re Oc QG ty_int Od QH QJ QI uq rm um ur ut uo re pV rb rf rg rd ue rh uc uf ug ud ux rq uu uy uz uv uC rz uA uD uE uB uj rj uh uk ul ui OO Cu IU IW IV HI QD Cw NR Cy NS Hy Lr Lq Hx O7 Of O3 Nn HE NZ N1 N0 HC LI NE Cr LP O4 HD List.set_cons_zero List.set_cons_succ List.map_cons List.map_nil if_true if_false true_and and_true Bool.not_true Bool.not_false Bool.not_eq_true decide_eq_true_eq decide_eq_false_iff_not Bool.not_not Bool.false_eq_true Bool.true_eq_false ite_true ite_false Int.reducePow Int.reduceToNat Int.reduceNeg Int.reduceMul Int.reduceAdd Int.reduceSub List.length_cons List.length_nil Nat.zero_add Nat.reduceAdd ite_not Pg Ph Pi Pj FQ Jb FO FS FN FP Jc FR Jd PC PD PB OW LA RX ty_str Ko OQ LF KL M1 M2 M3 M4 M5 M6 QE Og LL ON LZ L3 L1 Lm O9 zL IH JO NJ JM JP JQ JN Gu sM Bool.and_true Bool.true_and Bool.and_self Ao DR Fu DS Fv DQ Ft DV Fy DW Fz DU Fx DN Fp DO Fq DM Fo DP Fs DT Fw DK Fn JR Dr E4 Ds E5 Dq E3 Dv E8 Dw E9 Du E7 Dm EZ Do E1 Dl EY Dp E2 Dt E6 Dk EX JT D6 FG D7 FH D2 FF Ea FK Eb FL D9 FJ DZ FC D0 FD DY FB D1 FE D8 FI DX FA JS DD Fh DE Fi DC Fg DH Fl DI Fm DG Fk Dz Fc DA Fe Dy Fb DB Ff DF Fj Dx Fa a5 aN xf spT PJ P7 PF P5 qX List.replicate_succ List.replicate_zero List.cons_append List.nil_append List.getElem?_cons_succ List.getElem?_cons_zero Option.join_some Option.join_none LM LO LN Hr Ht Hs Hw Hv HF HH HG Oo Ct".splitOn " ")
local macro_rules | `(tactic| walk_at"d")=>do {let ids:Array (Lean.TSyntax `ident):=K8.toArray.map (fun x=>Lean.mkIdent x.toName);`(tactic| try simp only[$[$ids:ident],*])}
local macro_rules | `(tactic| walk_at"db")=>do {let ids:Array (Lean.TSyntax `ident):=K8.toArray.map (fun x=>Lean.mkIdent x.toName);`(tactic| try simp (config:={implicitDefEqProofs:=false}) only [$[$ids:ident],*])}
local macro_rules | `(tactic| walk_at"sz")=>`(tactic| first | assumption | with_reducible exact Sz.of (m:=250) (by omega) (by omega) | with_reducible exact Sz.mul (by walk_at"sz") (by walk_at"sz") | with_reducible exact Sz.add (by walk_at"sz") (by walk_at"sz") | with_reducible exact Sz.sub (by walk_at"sz") (by walk_at"sz") | with_reducible exact Sz.neg (by walk_at"sz"))
local macro_rules | `(tactic| walk_at"szk")=>`(tactic| first | assumption | exact Sz.mono (by walk_at"sz") (by decide))
local macro_rules | `(tactic| walk_at"mul")=>`(tactic| first | with_reducible exact Ja (by decide) (by decide) | with_reducible exact bF (by walk_at"sz") (by walk_at"sz") (by decide) (by decide) | with_reducible exact Ja (by omega) (by omega) | with_reducible exact P3 (by omega) (by omega))
local macro_rules | `(tactic| walk_at"side")=>`(tactic| first | decide | with_reducible exact Gp (by decide) (by decide) (by decide) | with_reducible exact C8 (by decide) (by decide +kernel) | walk_at"mul" | omega | assumption)
local macro_rules | `(tactic| walk_at"pre")=>`(tactic| repeat ((with_reducible apply And.intro);(case left=>walk_at"side")))
local macro_rules | `(tactic| walk_at"go")=>`(tactic| (walk_at"d";walk_at"pre"))
local macro_rules | `(tactic| walk_at"gb")=>`(tactic| (walk_at"db";walk_at"pre"))
local macro_rules | `(tactic| walk_at"o")=>`(tactic| first | lia | omega)
namespace Law
open L2 DL
abbrev Ok (sp:aJ)(w:WS)(N:List PySem.Str):Prop:=∀ ss R,sp ss R->w {nx:=fun _=>R (.t .non),rt:=R} (gL N ss)
def cq:aJ:=fun ss R=>∃ a b:Int,ss=[.t (.int a),.t (.int b)]/\R (.t (.int (Int.gcd a b)))
def iM:aJ:=cq
def jS:WS:=
 (aC (aG 2 (dH i6 (ac (ae 0) ao)))
 (aC (aG 3 (dH i6 (ac (ae 1) ao)))
 (bP (qJ (wB (Oj (ae 3) (wC (.int 0)))) (aC (aG 4 (dG (ae 2) (ae 3)))
 (aC (aG 2 (ae 3))
 (aG 3 (ae 4)))))
 (jv 2))))
def gv:WS:=
 (aC (aG 0 (dH i6 (ac (ae 0) ao)))
 (aC (aG 1 (dH i6 (ac (ae 1) ao)))
 (bP (qJ (wB (G8 (ae 1) (wC (.int 0)))) (Kq 0 1 (ac (ae 1) (ac (dG (ae 0) (ae 1)) ao))))
 (jv 0))))
theorem vY (g l:Nat):Nat.gcd l (g % l)=Nat.gcd g l:=by
 rw[Nat.gcd_comm l (g % l),<-Nat.gcd_rec,Nat.gcd_comm]
theorem ya:Ok cq jS ["one","other","greater","lesser","rest"]:=by
 rintro ss R ⟨a,b,rfl,h⟩;show jS _ [some (.t (.int a)),some (.t (.int b)),none,none,none];unfold jS;walk_at"d";rw[mK,mK];refine⟨fun δ=>∃ r,δ=[some (.t (.int a)),some (.t (.int b)),some (.t (.int (Int.gcd a b))),some (.t (.int 0)),r],?_,fun δ ⟨r,e⟩=>by subst e;walk_at"d";exact h⟩
 refine⟨fun n δ=>∃ (g l:Nat) (r:Option S),δ=[some (.t (.int a)),some (.t (.int b)),some (.t (.int g)),some (.t (.int l)),r]/\l=n/\Nat.gcd g l=Int.gcd a b,⟨_,_,_,none,rfl,rfl,rfl⟩,?_⟩;rintro n δ ⟨g,l,r,rfl,rfl,hg⟩;walk_at"d"
 cases l with
 | zero=>rw[if_neg (by simp)];exact⟨r,by rw[<-hg];simp⟩
 | succ l=>
  rw[if_pos (by simp;omega)]
  refine⟨by omega,?_⟩
  rw[pR];exact⟨_,mod_lt g (by omega),_,_,_,rfl,rfl,by rw[vY];exact hg⟩
theorem uO:Ok iM gv ["_law_one","_law_other"]:=by
 rintro ss R ⟨a,b,rfl,h⟩;show gv _ [some (.t (.int a)),some (.t (.int b))];unfold gv;walk_at"d";rw[mK,mK];refine⟨fun δ=>δ=[some (.t (.int (Int.gcd a b))),some (.t (.int 0))],?_,fun δ e=>by subst e;walk_at"d";exact h⟩
 refine⟨fun n δ=>∃ (g l:Nat),δ=[some (.t (.int g)),some (.t (.int l))]/\l=n/\Nat.gcd g l=Int.gcd a b,⟨_,_,_,rfl,rfl,rfl⟩,?_⟩;rintro n δ ⟨g,l,rfl,rfl,hg⟩;walk_at"d"
 cases l with
 | zero=>rw[if_neg (by simp)];rw[<-hg];simp
 | succ l=>
  rw[if_pos (by omega)]
  refine⟨by omega,?_⟩
  rw[pR];exact⟨_,mod_lt g (by omega),_,_,rfl,rfl,by rw[vY];exact hg⟩
end Law
namespace Law
open L2 DL
def aY (h:Hf)(s:aD):Int:=h.1*s.1.1*s.2.2+h.2.1*s.2.1*s.1.2-h.2.2*(s.1.2*s.2.2)
def sgn (i:Int):Int:=if i>0 then 1 else if i<0 then -1 else 0
def cM:aJ:=fun ss R=>∃ s:aD,ss=[.t (spT s)]/\fe 60000 s/\R (.t (.int (s.1.2*s.2.2)))
def dD:aJ:=fun ss R=>∃ (h:Hf) (s:aD),ss=[.t (a5 h),.t (spT s)]/\dk 300000 h/\fe 60000 s/\R (.t (.int (aY h s)))
def mf:aJ:=fun ss R=>∃ i:Int,ss=[.t (.int i)]/\R (.t (.int (sgn i)))
def iP:aJ:=fun ss R=>∃ (h:Hf) (s:aD),ss=[.t (a5 h),.t (spT s)]/\dk 300000 h/\fe 60000 s/\R (.t (.int (sgn (aY h s))))
def jP:WS:=
 (a6 (bv (ap aI (ap aI (ae 0) (wC (.int 0))) (wC (.int 1))) (ap aI (ap aI (ae 0) (wC (.int 1))) (wC (.int 1)))))
def mq:WS:=
 (aC (aG 2 (ap aI (ae 1) (wC (.int 0))))
 (aC (aG 3 (ap aI (ae 1) (wC (.int 1))))
 (a6 (cZ (dw (bv (bv (ap aI (ae 0) (wC (.int 0))) (ap aI (ae 2) (wC (.int 0)))) (ap aI (ae 3) (wC (.int 1)))) (bv (bv (ap aI (ae 0) (wC (.int 1))) (ap aI (ae 3) (wC (.int 0)))) (ap aI (ae 2) (wC (.int 1))))) (bv (ap aI (ae 0) (wC (.int 2))) (aw cM (ac (ae 1) ao)))))))
def vo:WS:=
 (aC (gM (wB (G8 (ae 0) (wC (.int 0)))) (a6 (wC (.int 1))) bd)
 (aC (gM (wB (Cc (ae 0) (wC (.int 0)))) (a6 (vv iy (wC (.int 1)))) bd)
 (a6 (wC (.int 0)))))
def w_side:WS:=
 (a6 (aw mf (ac (aw dD (ac (ae 0) (ac (ae 1) ao))) ao)))
theorem x6:Ok cM jP ["spot"]:=by
 rintro ss R ⟨⟨⟨x,p⟩,y,q⟩,rfl,⟨⟨z1,z2⟩,z3,z4⟩,h⟩;dsimp only at z1 z2 z3 z4;show jP _ [some (.t (.tup [.tup [.int x,.int p],.tup [.int y,.int q]]))]
 delta jP
 walk_at"d";exact⟨bF z2 z4 (by decide) (by decide),h⟩
theorem BD:Ok dD mq ["half","spot","x","y"]:=by
 rintro ss R ⟨⟨a,b,c⟩,⟨⟨x,p⟩,y,q⟩,rfl,⟨y1,y2,y3⟩,⟨⟨z1,z2⟩,z3,z4⟩,h⟩;dsimp only at y1 y2 y3 z1 z2 z3 z4;show mq _ [some (.t (.tup [.int a,.int b,.int c])),some (.t (.tup [.tup [.int x,.int p],.tup [.int y,.int q]])),none,none]
 delta mq
 walk_at"d";refine⟨by walk_at"mul",by walk_at"mul",by walk_at"mul",by walk_at"mul",⟨(x,p),(y,q)⟩,rfl,⟨⟨z1,z2⟩,z3,z4⟩,?_⟩
 walk_at"d";exact⟨by walk_at"mul",h⟩
theorem Jo:Ok mf vo ["number"]:=by
 rintro ss R ⟨i,rfl,h⟩;show vo _ [some (.t (.int i))]
 delta vo
 unfold sgn at h;walk_at"d"
 split
 ·rename_i hi;rw[if_pos hi]at h;exact h
 ·rename_i hi;rw[if_neg hi]at h
  split
  ·rename_i hj;rw[if_pos hj]at h;exact h
  ·rename_i hj;rw[if_neg hj]at h;exact h
theorem Jn:Ok iP w_side ["half","spot"]:=by
 rintro ss R ⟨a,s,rfl,y,z,h⟩;show w_side _ [some (.t (a5 a)),some (.t (spT s))]
 delta w_side
 walk_at"d";refine⟨a,s,rfl,y,z,?_⟩;walk_at"d";refine⟨_,rfl,?_⟩;walk_at"d";exact h
end Law
namespace Law
open L2 DL
theorem b9 {a d:Int}(h:d ∣ a):a.fdiv d*d=a:=by
 obtain⟨k,rfl⟩:=h
 by_cases hd:d=0
 ·subst hd;simp
 ·rw[Int.mul_fdiv_cancel_left _ hd,mul_comm]
theorem zC {a d:Int}(h:d ∣ a)(ha:a≠0):a.fdiv d≠0:=fun e=>by
 have:=b9 h;rw[e]at this;omega
def j7 (a b c:Int):Nat:=Int.gcd (Int.gcd a b) c
theorem Eh (a b c:Int):(j7 a b c:Int) ∣ a:=Int.dvd_trans (gcd_dvd_left _ _) (gcd_dvd_left _ _)
theorem Ei (a b c:Int):(j7 a b c:Int) ∣ b:=Int.dvd_trans (gcd_dvd_left _ _) (gcd_dvd_right _ _)
theorem MC (a b c:Int):(j7 a b c:Int) ∣ c:=gcd_dvd_right _ _
theorem gD {a b:Int}(h:a≠0\/b≠0):(Int.gcd a b:Int)≠0:=fun e=>by
 have e':Int.gcd a b=0:=by omega
 rw[Int.gcd_eq_zero_iff]at e';omega
theorem zH {a b c:Int}(h:a≠0\/b≠0):(j7 a b c:Int)≠0:=gD (.inl (gD h))
def ME (a b c:Int):Hf:=(a.fdiv (j7 a b c),b.fdiv (j7 a b c),c.fdiv (j7 a b c))
def lr (a b:Int):Int:=if b<0 then -(Int.gcd a b:Int) else (Int.gcd a b:Int)
def lE (a b:Int):Int × Int:=(a.fdiv (lr a b),b.fdiv (lr a b))
def xA (p q:Pt):Hf:=ME (p.2-q.2) (q.1-p.1) ((p.2-q.2)*p.1+(q.1-p.1)*p.2)
def md:aJ:=fun ss R=>∃ a b c:Int,ss=[.t (.int a),.t (.int b),.t (.int c)]/\(a≠0\/b≠0)/\dk 9000 (a,b,c)/\R (.t (a5 (ME a b c)))
def kS:aJ:=fun ss R=>∃ p q:Pt,ss=[.t (aN p),.t (aN q)]/\p≠q/\SzF 4000 p/\SzF 4000 q/\R (.t (a5 (xA p q)))
def hX:aJ:=fun ss R=>∃ a b:Int,ss=[.t (.int a),.t (.int b)]/\b≠0/\Sz 9000 b/\R (.t (xf (lE a b)))
def dR:aJ:=fun ss R=>∃ p q:Int × Int,ss=[.t (xf p),.t (xf q)]/\SzF 60000 p/\SzF 60000 q/\R (.t (.bl (decide (p.1*q.2<q.1*p.2))))
def vm:WS:=
 (aC (gM (K7 (kz (wB (rK (ae 0) (wC (.int 0)))) (wB (rK (ae 1) (wC (.int 0)))))) nr bd)
 (aC (aG 3 (aw cq (ac (aw cq (ac (ae 0) (ac (ae 1) ao))) (ac (ae 2) ao))))
 (a6 (bN (ac (dE (ae 0) (ae 3)) (ac (dE (ae 1) (ae 3)) (ac (dE (ae 2) (ae 3)) ao)))))))
def jO:WS:=
 (aC (aG 2 (cZ (ap aI (ae 0) (wC (.int 1))) (ap aI (ae 1) (wC (.int 1)))))
 (aC (aG 3 (cZ (ap aI (ae 1) (wC (.int 0))) (ap aI (ae 0) (wC (.int 0)))))
 (a6 (aw md (ac (ae 2) (ac (ae 3) (ac (dw (bv (ae 2) (ap aI (ae 0) (wC (.int 0)))) (bv (ae 3) (ap aI (ae 0) (wC (.int 1))))) ao)))))))
def oX:WS:=
 (aC (gM (wB (rK (ae 1) (wC (.int 0)))) nr bd)
 (aC (aG 2 (aw cq (ac (ae 0) (ac (ae 1) ao))))
 (bP (gM (wB (Cc (ae 1) (wC (.int 0)))) (aG 2 (vv iy (ae 2))) bd)
 (a6 (bN (ac (dE (ae 0) (ae 2)) (ac (dE (ae 1) (ae 2)) ao)))))))
def oS:WS:=
 (a6 (Cc (bv (ap aI (ae 0) (wC (.int 0))) (ap aI (ae 1) (wC (.int 1)))) (bv (ap aI (ae 1) (wC (.int 0))) (ap aI (ae 0) (wC (.int 1))))))
theorem Jj:Ok md vm ["a","b","c","common"]:=by
 rintro ss R ⟨a,b,c,rfl,hne,⟨sa,sb,sc⟩,h⟩;dsimp only at sa sb sc;show vm _ [some (.t (.int a)),some (.t (.int b)),some (.t (.int c)),none]
 delta vm
 walk_at"d";refine⟨fun k=>k=false,?_,?_⟩
 ·walk_at"d"
  split
  ·rename_i e;omega
  ·trivial
 rintro k rfl;walk_at"d";refine⟨_,_,rfl,?_⟩;walk_at"d";refine⟨_,_,rfl,?_⟩;walk_at"d";have hg:(j7 a b c:Int)≠0:=zH hne;have sg:Sz 9000 (j7 a b c:Int):=(Sz.gcd (Sz.gcd sa sb) sc).mono (by decide)
 have dv:∀ z,oZ z (j7 a b c:Int):=fun z=>zk hg sg (by decide)
 exact⟨dv _,dv _,dv _,h⟩
theorem x5:Ok kS jO ["one","other","a","b"]:=by
 rintro ss R ⟨⟨u,v⟩,⟨x,y⟩,rfl,hne,⟨s1,s2⟩,⟨s3,s4⟩,h⟩;dsimp only at s1 s2 s3 s4;show jO _ [some (.t (.tup [.int u,.int v])),some (.t (.tup [.int x,.int y])),none,none]
 delta jO
 walk_at"d";have sa:Sz 4001 (v-y):=by walk_at"szk"
 have sb:Sz 4001 (x-u):=by walk_at"szk"
 have sc:Sz 9000 ((v-y)*u+(x-u)*v):=by walk_at"szk"
 refine⟨bF sa s1 (by decide) (by decide),bF sb s2 (by decide) (by decide),_,_,_,rfl,?_,⟨sa.mono (by decide),sb.mono (by decide),sc⟩,h⟩
 by_cases e:v-y=0
 ·right
  intro e2;exact hne (by rw[show u=x by omega,show v=y by omega])
 ·exact .inl e
theorem F9:Ok hX oX ["top","bottom","common"]:=by
 rintro ss R ⟨a,b,rfl,hne,sb,h⟩;show oX _ [some (.t (.int a)),some (.t (.int b)),none]
 delta oX
 walk_at"d";rw[if_neg (by simpa using hne)]
 refine⟨_,_,rfl,?_⟩;walk_at"d";refine⟨fun δ=>δ=[some (.t (.int a)),some (.t (.int b)),some (.t (.int (lr a b)))],?_,?_⟩
 ·walk_at"d";unfold lr
  split <;> rfl
 rintro δ rfl;walk_at"d";have hg:lr a b≠0:=by
  have:=gD (a:=a) (.inr hne);unfold lr;split <;> omega
 have sg:Sz 9000 (lr a b):=by
  have q:Sz 9000 (Int.gcd a b:Int):=by rw[Int.gcd_comm];exact Sz.gcdL sb hne
  unfold lr
  split
  ·exact Sz.neg q
  ·exact q
 have dv:∀ z,oZ z (lr a b):=fun z=>zk hg sg (by decide)
 exact⟨dv _,dv _,h⟩
theorem FY:Ok dR oS ["one","other"]:=by
 rintro ss R ⟨⟨a,b⟩,⟨c,d⟩,rfl,⟨s1,s2⟩,⟨s3,s4⟩,h⟩;dsimp only at s1 s2 s3 s4;show oS _ [some (.t (.tup [.int a,.int b])),some (.t (.tup [.int c,.int d]))]
 delta oS
 walk_at"d";exact⟨bF s1 s4 (by decide) (by decide),bF s3 s2 (by decide) (by decide),h⟩
end Law
namespace Law
open L2 DL
def fi (p:Pt):aD:=((p.1,1),(p.2,1))
def ag (s:aD):Hf:=(s.1.1*s.2.2,s.2.1*s.1.2,s.1.2*s.2.2)
def QW (u v:Hf):Hf:=(u.2.1*v.2.2-u.2.2*v.2.1,u.2.2*v.1-u.1*v.2.2,u.2.1*v.1-u.1*v.2.1)
def vj (a b c:aD):Int:=aY (QW (ag a) (ag b)) c
def RT (p q r:Pt):Int:=vj (fi p) (fi q) (fi r)
theorem Oa (p q r:Pt):RT p q r=(p.2-q.2)*r.1+(q.1-p.1)*r.2-(p.2*q.1-p.1*q.2):=by
 unfold RT vj aY QW ag fi;simp only[mul_one,Int.one_mul]
def kR:aJ:=fun ss R=>∃ p:Pt,ss=[.t (aN p)]/\R (.t (spT (fi p)))
def bU:aJ:=fun ss R=>∃ s:aD,ss=[.t (spT s)]/\fe 30000 s/\R (.t (a5 (ag s)))
def iR:aJ:=fun ss R=>∃ a b c:aD,ss=[.t (spT a),.t (spT b),.t (spT c)]/\fe 30000 a/\fe 30000 b/\fe 30000 c/\R (.t (.int (vj a b c)))
def jN:WS:=
 (a6 (bN (ac (bN (ac (ap aI (ae 0) (wC (.int 0))) (ac (wC (.int 1)) ao))) (ac (bN (ac (ap aI (ae 0) (wC (.int 1))) (ac (wC (.int 1)) ao))) ao))))
def gA:WS:=
 (a6 (bN (ac (bv (ap aI (ap aI (ae 0) (wC (.int 0))) (wC (.int 0))) (ap aI (ap aI (ae 0) (wC (.int 1))) (wC (.int 1)))) (ac (bv (ap aI (ap aI (ae 0) (wC (.int 1))) (wC (.int 0))) (ap aI (ap aI (ae 0) (wC (.int 0))) (wC (.int 1)))) (ac (aw cM (ac (ae 0) ao)) ao)))))
def vp:WS:=
 (aC (aG 3 (aw bU (ac (ae 0) ao)))
 (aC (aG 4 (aw bU (ac (ae 1) ao)))
 (aC (aG 5 (cZ (bv (ap aI (ae 3) (wC (.int 1))) (ap aI (ae 4) (wC (.int 2)))) (bv (ap aI (ae 3) (wC (.int 2))) (ap aI (ae 4) (wC (.int 1))))))
 (aC (aG 6 (cZ (bv (ap aI (ae 3) (wC (.int 2))) (ap aI (ae 4) (wC (.int 0)))) (bv (ap aI (ae 3) (wC (.int 0))) (ap aI (ae 4) (wC (.int 2))))))
 (aC (aG 7 (cZ (bv (ap aI (ae 3) (wC (.int 1))) (ap aI (ae 4) (wC (.int 0)))) (bv (ap aI (ae 3) (wC (.int 0))) (ap aI (ae 4) (wC (.int 1))))))
 (a6 (aw dD (ac (bN (ac (ae 5) (ac (ae 6) (ac (ae 7) ao)))) (ac (ae 2) ao)))))))))
theorem xZ:Ok kR jN ["point"]:=by
 rintro ss R ⟨⟨x,y⟩,rfl,h⟩;show jN _ [some (.t (.tup [.int x,.int y]))]
 delta jN
 walk_at"go";exact h
theorem uQ:Ok bU gA ["spot"]:=by
 rintro ss R ⟨⟨⟨x,p⟩,y,q⟩,rfl,⟨⟨z1,z2⟩,z3,z4⟩,h⟩;dsimp only at z1 z2 z3 z4;show gA _ [some (.t (.tup [.tup [.int x,.int p],.tup [.int y,.int q]]))]
 delta gA
 walk_at"d";refine⟨bF z1 z4 (by decide) (by decide),bF z3 z2 (by decide) (by decide),((x,p),(y,q)),rfl,⟨⟨z1.mono (by decide),z2.mono (by decide)⟩,z3.mono (by decide),z4.mono (by decide)⟩,?_⟩
 walk_at"d";exact h
theorem Jq:Ok iR vp ["one","other","third","here","there","a","b","c"]:=by
 rintro ss R ⟨s,t,u,rfl,zs,zt,zu,h⟩;show vp _ [some (.t (spT s)),some (.t (spT t)),some (.t (spT u)),none,none,none,none,none]
 delta vp
 have ss3:dk 60000 (ag s):=⟨(Sz.mul zs.1.1 zs.2.2).mono (by decide),(Sz.mul zs.2.1 zs.1.2).mono (by decide),(Sz.mul zs.1.2 zs.2.2).mono (by decide)⟩
 have tt3:dk 60000 (ag t):=⟨(Sz.mul zt.1.1 zt.2.2).mono (by decide),(Sz.mul zt.2.1 zt.1.2).mono (by decide),(Sz.mul zt.1.2 zt.2.2).mono (by decide)⟩
 walk_at"d";refine⟨s,rfl,zs,?_⟩;obtain⟨a1,a2,a3⟩:=ss3;generalize he:ag s=hs at a1 a2 a3 ⊢;obtain⟨x1,y1,w1⟩:=hs;dsimp only at a1 a2 a3;walk_at"d";refine⟨t,rfl,zt,?_⟩;obtain⟨b1,b2,b3⟩:=tt3;generalize hf:ag t=ht at b1 b2 b3 ⊢;obtain⟨x2,y2,w2⟩:=ht;dsimp only at b1 b2 b3;walk_at"d";refine⟨bF a2 b3 (by decide) (by decide),bF a3 b2 (by decide) (by decide),bF a3 b1 (by decide) (by decide),bF a1 b3 (by decide) (by decide),bF a2 b1 (by decide) (by decide),bF a1 b2 (by decide) (by decide),(y1*w2-w1*y2,w1*x2-x1*w2,y1*x2-x1*y2),u,rfl,⟨by walk_at"szk",by walk_at"szk",by walk_at"szk"⟩,⟨⟨zu.1.1.mono (by decide),zu.1.2.mono (by decide)⟩,zu.2.1.mono (by decide),zu.2.2.mono (by decide)⟩,?_⟩
 unfold vj QW at h;rw[he,hf]at h;exact h
end Law
namespace Law
open L2 DL
def cr (p q r:Pt):Int:=(q.1-p.1)*(r.2-p.2)-(q.2-p.2)*(r.1-p.1)
def fn (m p:Pt):Int:=m.1*p.1+m.2*p.2
theorem N9 (p q r:Pt):RT p q r=cr p q r:=by
 rw[Oa];unfold cr;grind
theorem MG (a b p q:Pt):cr a p q=cr a b q-cr a b p+cr b p q:=by unfold cr;grind
theorem MH (m a b p q:Pt):(fn m b-fn m a)*cr a p q=(fn m p-fn m a)*cr a b q-(fn m q-fn m a)*cr a b p:=by unfold cr fn;grind
theorem Er (m z t p q:Pt):(fn m t-fn m z)*cr t p q=(fn m p-fn m t)*cr z t q-(fn m q-fn m t)*cr z t p:=by unfold cr fn;grind
theorem Ep (m a b c p:Pt):(fn m c-fn m b)*cr a b p=(fn m p-fn m b)*cr a b c+(fn m b-fn m a)*cr b c p:=by unfold cr fn;grind
theorem Eo (m a b v u w:Pt):(fn m b-fn m v)*cr u w a+(fn m v-fn m a)*cr u w b=(fn m b-fn m a)*cr u w v-fn m (w.1-u.1,w.2-u.2)*cr a b v:=by unfold cr fn;grind
theorem tS (a b:Pt):cr a b b=0:=by unfold cr;grind
theorem vM (a b:Pt):cr a b a=0:=by unfold cr;grind
theorem Ij (a b q:Pt):cr b a q=-cr a b q:=by unfold cr;grind
theorem mV {f x:Int}(hf:0<f)(h:0<=f*x):0<=x:=by
 rcases lt_or_le x 0 with hx|hx
 ·have:=mul_neg_of_pos_of_neg hf hx;omega
 ·exact hx
theorem xY {a b:Int}(ha:a<=0)(hb:0<=b):a*b<=0:=mul_nonpos_of_nonpos_of_nonneg ha hb
def xh:List Pt->Prop
 | c::b::a::r=>0<cr a b c/\xh (b::a::r)
 | _=>True
def Lf (q:Pt):List Pt->Prop
 | b::a::r=>0<=cr a b q/\Lf q (a::r)
 | _=>True
def Dn (m:Pt)(k:List Pt):Prop:=k.Pairwise fun b a=>fn m a<fn m b
def popTo (p:Pt):List Pt->List Pt
 | b::a::r=>if cr a b p<=0 then popTo p (a::r) else b::a::r
 | k=>k
def tO (ps:List Pt):List Pt:=ps.foldl (fun k p=>p::popTo p k) []
theorem rX:∀ {b:Pt}{k:List Pt},xh (b::k)->xh k
 | _,[],_=>trivial
 | _,[_],_=>trivial
 | _,_::_::_,h=>h.2
theorem IR:∀ {q b:Pt}{k:List Pt},Lf q (b::k)->Lf q k
 | _,_,[],_=>trivial
 | _,_,_::_,h=>h.2
structure Off (m:Pt) (D:List Pt) (p p0:Pt) (t:Pt) (k:List Pt):Prop where
 dn:Dn m (t::k)
 cv:xh (t::k)
 lf:∀ q∈D,Lf q (t::k)
 sb:∀ x∈t::k,x∈D
 ls:(t::k).getLast?=some p0
 ne:∀ q∈D,fn m t<=fn m q->0<=cr t p q
theorem Jh {m p p0 b a:Pt}{D r:List Pt}(hp:∀ q∈D,fn m q<fn m p)(O:Off m D p p0 b (a::r))(hle:cr a b p<=0):Off m D p p0 a r:=by
 have hab:fn m a<fn m b:=(pairwise_cons.mp O.dn).1 a mem_cons_self;refine⟨(pairwise_cons.mp O.dn).2,rX O.cv,fun q hq=>IR (O.lf q hq),fun x hx=>O.sb x (mem_cons_of_mem _ hx),by simpa using O.ls,fun q hq hqa=>?_⟩
 have h1:0<=cr a b q:=(O.lf q hq).1
 rcases lt_or_le (fn m q) (fn m b) with hqb|hqb
 ·have hap:fn m a<fn m p:=hp a (O.sb a (by simp))
  have i:=MH m a b p q;have g1:0<=(fn m p-fn m a)*cr a b q:=mul_nonneg (by omega) h1
  have g2:(fn m q-fn m a)*cr a b p<=0:=mul_nonpos_of_nonneg_of_nonpos (by omega) hle
  exact mV (f:=fn m b-fn m a) (by omega) (by omega)
 ·have h2:=O.ne q hq hqb;have i:=MG a b p q;omega
theorem Gn {m p p0:Pt}{D:List Pt}(hp:∀ q∈D,fn m q<fn m p):∀ (k:List Pt) (t:Pt),Off m D p p0 t k →
  ∃ t' k',popTo p (t::k)=t'::k'/\Off m D p p0 t' k'/\∀ z r,k'=z::r->0<cr z t' p
 | [],t,O=>⟨t,[],rfl,O,fun z r e=>nomatch e⟩
 | a::r,t,O=>by
  by_cases h:cr a t p<=0
  ·obtain⟨t',k',e,O',h'⟩:=Gn hp r a (Jh hp O h);exact⟨t',k',by simp only[popTo,if_pos h];exact e,O',h'⟩
  ·refine⟨t,a::r,by simp only[popTo,if_neg h],O,fun z r' e=>?_⟩
   cases e;omega
theorem Ap {m p:Pt}:∀ (k:List Pt) (t:Pt),Dn m (t::k)->xh (t::k)->(∀ x∈t::k,fn m x<fn m p)->(∀ z r,k=z::r->0<=cr z t p)->Lf p (t::k)
 | [],t,_,_,_,_=>trivial
 | z::r,t,hd,hc,hx,h=>by
  refine⟨h z r rfl,Ap r z (pairwise_cons.mp hd).2 (rX hc) (fun x hx'=>hx x (mem_cons_of_mem _ hx')) fun y r' e=>?_⟩;subst e;have h1:0<cr y z t:=hc.1;have hzt:fn m z<fn m t:=(pairwise_cons.mp hd).1 z mem_cons_self;have hyz:fn m y<fn m z:=(pairwise_cons.mp (pairwise_cons.mp hd).2).1 y mem_cons_self;have hzp:=hx z (by simp)
  have i:=Ep m y z t p;have g1:0<=(fn m p-fn m z)*cr y z t:=mul_nonneg (by omega) (by omega)
  have g2:0<=(fn m z-fn m y)*cr z t p:=mul_nonneg (by omega) (h z (y::r') rfl)
  exact mV (f:=fn m t-fn m z) (by omega) (by omega)
structure Ch (m:Pt) (D:List Pt) (p0 t:Pt) (k:List Pt):Prop where
 dn:Dn m (t::k)
 cv:xh (t::k)
 lf:∀ q∈D,Lf q (t::k)
 sb:∀ x∈t::k,x∈D
 ls:(t::k).getLast?=some p0
 hi:∀ q∈D,q≠t->fn m q<fn m t
 lo:∀ q∈D,fn m p0<=fn m q
theorem Ih {m p p0 t:Pt}{D k:List Pt}(C:Ch m D p0 t k)(hp:∀ q∈D,fn m q<fn m p):∃ k',popTo p (t::k)=k'/\Ch m (D++[p]) p0 p k':=by
 have O:Off m D p p0 t k:=⟨C.dn,C.cv,C.lf,C.sb,C.ls,fun q hq h=>by
  by_cases e:q=t
  ·subst e;rw[vM];exact Int.le_refl _
  ·have:=C.hi q hq e;omega⟩
 obtain⟨t',k',e,O',h'⟩:=Gn hp k t O;have hall:∀ q∈D,0<=cr t' p q:=fun q hq=>by
  rcases lt_or_le (fn m q) (fn m t') with h|h
  ·cases k' with
   | nil=>
    have:t'=p0:=by simpa using O'.ls
    subst this;have:=C.lo q hq;omega
   | cons z r=>
    have hz:=h' z r rfl;have hzt:fn m z<fn m t':=(pairwise_cons.mp O'.dn).1 z mem_cons_self;have h1:0<=cr z t' q:=(O'.lf q hq).1;have htp:=hp t' (O'.sb t' (by simp))
    have i:=Er m z t' p q;have g1:0<=(fn m p-fn m t')*cr z t' q:=mul_nonneg (by omega) h1
    have g2:(fn m q-fn m t')*cr z t' p<=0:=xY (by omega) (by omega)
    exact mV (f:=fn m t'-fn m z) (by omega) (by omega)
  ·exact O'.ne q hq h
 refine⟨_,e,pairwise_cons.mpr ⟨fun x hx=>hp x (O'.sb x hx),O'.dn⟩,?_,fun q hq=>?_,fun x hx=>?_,?_,fun q hq hne=>?_,fun q hq=>?_⟩
 ·cases k' with
  | nil=>trivial
  | cons z r=>exact⟨h' z r rfl,O'.cv⟩
 ·rcases mem_append.mp hq with hq|hq
  ·exact⟨hall q hq,O'.lf q hq⟩
  ·obtain rfl:=mem_singleton.mp hq;refine⟨by rw[tS];exact Int.le_refl _,Ap (m:=m) k' t' O'.dn O'.cv (fun x hx=>hp x (O'.sb x hx)) fun z r e=>le_of_lt (h' z r e)⟩
 ·rcases mem_cons.mp hx with rfl|hx
  ·simp
  ·exact mem_append_left _ (O'.sb x hx)
 ·have:=O'.ls;simpa using this
 ·rcases mem_append.mp hq with hq|hq
  ·exact hp q hq
  ·exact absurd (mem_singleton.mp hq) hne
 ·rcases mem_append.mp hq with hq|hq
  ·exact C.lo q hq
  ·obtain rfl:=mem_singleton.mp hq;have hh:p0∈D:=O'.sb p0 (List.mem_of_getLast? O'.ls);exact le_of_lt (hp p0 hh)
theorem yX {m p0:Pt}:∀ (l D:List Pt) (t:Pt) (k:List Pt),Ch m D p0 t k->(D++l).Pairwise (fun a b=>fn m a<fn m b) →
  ∃ t' k',l.foldl (fun k p=>p::popTo p k) (t::k)=t'::k'/\Ch m (D++l) p0 t' k'/\(l≠[]->l.getLast?=some t')/\(l=[]->t'=t)
 | [],D,t,k,C,_=>⟨t,k,rfl,by simpa using C,fun h=>absurd rfl h,fun _=>rfl⟩
 | p::l,D,t,k,C,hs=>by
  have hp:∀ q∈D,fn m q<fn m p:=fun q hq=>(List.pairwise_append.mp hs).2.2 q hq p mem_cons_self;obtain⟨k',e,C'⟩:=Ih C hp;obtain⟨t',k2,e2,C2,h1,h2⟩:=yX l (D++[p]) p k' C' (by simpa using hs)
  refine⟨t',k2,by rw[List.foldl_cons,e];exact e2,by simpa using C2,fun _=>?_,fun h=>nomatch h⟩
  cases l with
  | nil=>rw[h2 rfl];rfl
  | cons x l=>simpa using h1 (by simp)
theorem CV {m p0:Pt}{l:List Pt}(hs:(p0::l).Pairwise (fun a b=>fn m a<fn m b)):∃ t k,tO (p0::l)=t::k/\Ch m (p0::l) p0 t k/\(p0::l).getLast?=some t:=by
 have C0:Ch m [p0] p0 p0 []:=⟨List.pairwise_singleton _ _,trivial,fun q hq=>trivial,fun x hx=>hx,rfl,fun q hq hne=>absurd (mem_singleton.mp hq) hne,fun q hq=>by rw[mem_singleton.mp hq];exact Int.le_refl _⟩
 obtain⟨t,k,e,C,h1,h2⟩:=yX l [p0] p0 [] C0 hs;refine⟨t,k,e,C,?_⟩
 cases l with
 | nil=>rw[h2 rfl];rfl
 | cons x l=>simpa using h1 (by simp)
end Law
namespace Law
open L2 DL
theorem MF (m a v u w:Pt):(fn m a-fn m v)*cr u v w=(fn m w-fn m v)*cr u v a-(fn m v-fn m u)*cr v w a:=by unfold cr fn;grind
structure yO (m:Pt) (S C:List Pt):Prop where
 left:∀ i (h:i+1<C.length),∀ q∈S,0<=cr C[i] C[i+1] q
 conv:∀ i (h:i+2<C.length),0<cr C[i] C[i+1] C[i+2]
 up:∀ i j (hi:i<C.length) (hj:j<C.length),i<j->fn m C[i]<fn m C[j]
 sub:∀ x∈C,x∈S
 lo:∀ q∈S,∀ h:0<C.length,fn m C[0]<=fn m q
 hi:∀ q∈S,∀ h:C.length-1<C.length,fn m q<=fn m C[C.length-1]
theorem EG {q:Pt}:∀ (k:List Pt),Lf q k->∀ i (h:i+1<k.length),0<=cr k[i+1] k[i] q
 | [],_,i,h=>by simp at h
 | [a],_,i,h=>by simp at h
 | b::a::r,hl,0,h=>hl.1
 | b::a::r,hl,i+1,h=>EG (a::r) hl.2 i (by simpa using h)
theorem vL:∀ (k:List Pt),xh k->∀ i (h:i+2<k.length),0<cr k[i+2] k[i+1] k[i]
 | [],_,i,h=>by simp at h
 | [a],_,i,h=>by simp at h
 | [a,b],_,i,h=>absurd h (by simp only[length_cons,length_nil];omega)
 | c::b::a::r,hl,0,h=>hl.1
 | c::b::a::r,hl,i+1,h=>vL (b::a::r) hl.2 i (by simpa using h)
theorem vJ {m p0 t:Pt}{S k:List Pt}(C:Ch m S p0 t k):yO m S (t::k).reverse:=by
 have hr:∀ i (h:i<(t::k).reverse.length),(t::k).reverse[i]=(t::k)[(t::k).length-1-i]'(by simp at h ⊢;omega):=fun i h=>List.getElem_reverse h
 have hdn:=pairwise_iff_getElem.mp C.dn;refine⟨fun i h q hq=>?_,fun i h=>?_,fun i j hi hj hij=>?_,fun x hx=>C.sb x (List.mem_reverse.mp hx),fun q hq h=>?_,fun q hq h=>?_⟩
 ·rw[hr,hr];simp only[length_reverse]at h;have:=EG _ (C.lf q hq) ((t::k).length-1-(i+1)) (by omega)
  have e:(t::k).length-1-(i+1)+1=(t::k).length-1-i:=by omega
  simpa only [e] using this
 ·rw[hr,hr,hr];simp only[length_reverse]at h;have:=vL _ C.cv ((t::k).length-1-(i+2)) (by omega)
  have e:(t::k).length-1-(i+2)+1=(t::k).length-1-(i+1):=by omega
  have e2:(t::k).length-1-(i+2)+2=(t::k).length-1-i:=by omega
  simpa only [e,e2] using this
 ·rw[hr,hr];simp only[length_reverse]at hi hj;exact hdn _ _ (by omega) (by omega) (by omega)
 ·have e:(t::k).reverse[0]=p0:=by
   have h1:=C.ls;rw[<-head?_reverse]at h1;rw[head?_eq_getElem?,getElem?_eq_getElem h]at h1;exact Option.some.inj h1
  rw[e];exact C.lo q hq
 ·have e:(t::k).reverse[(t::k).reverse.length-1]=t:=by
   rw[hr];simp
  rw[e]
  by_cases hqt:q=t
  ·rw[hqt];exact Int.le_refl _
  ·exact le_of_lt (C.hi q hq hqt)
theorem strict {m m':Pt}{S C C':List Pt}(A:yO m S C)(A':yO m' S C')(hc:1<C.length)(hc':1<C'.length)(e1:C'[0]=C[C.length-1])(e2:C'[C'.length-1]=C[0])
  (inj:∀ a∈S,∀ b∈S,fn m a=fn m b->a=b) {i:Nat} (hi:i+1<C.length) {v:Pt} (hv:v∈C\/v∈C') (h1:v≠C[i]) (h2:v≠C[i+1]):0<cr C[i] C[i+1] v:=by
 have hvS:v∈S:=by
  rcases hv with h|h
  ·exact A.sub v h
  ·exact A'.sub v h
 have haS:C[i]∈S:=A.sub _ (getElem_mem _);have hbS:C[i+1]∈S:=A.sub _ (getElem_mem _);have hge:=A.left i hi v hvS;have hab:=A.up i (i+1) (by omega) hi (by omega)
 rcases Int.lt_or_eq_of_le hge with h|h
 ·exact h
 exfalso;have h0:cr C[i] C[i+1] v=0:=h.symm;have na:fn m v≠fn m C[i]:=fun e=>h1 (inj _ hvS _ haS e);have nb:fn m v≠fn m C[i+1]:=fun e=>h2 (inj _ hvS _ hbS e)
 rcases lt_or_le (fn m C[i+1]) (fn m v) with hgt|hle
 ·rcases lt_or_ge (i+2) C.length with hl|hl
  ·have c1:=A.conv i hl
   have c2:=A.left (i+1) hl v hvS;have id:=Ep m C[i] C[i+1] C[i+2] v;rw[h0,mul_zero]at id;have g1:0<(fn m v-fn m C[i+1])*cr C[i] C[i+1] C[i+2]:=mul_pos (by omega) c1
   have g2:0<=(fn m C[i+1]-fn m C[i])*cr C[i+1] C[i+2] v:=mul_nonneg (by omega) c2
   omega
  ·have:=A.hi v hvS (by omega)
   have e:C.length-1=i+1:=by omega
   simp only[e]at this;omega
 rcases lt_or_le (fn m v) (fn m C[i]) with hlt|hge2
 ·cases i with
  | zero=>have:=A.lo v hvS (by omega);omega
  | succ i=>
   have c1:=A.conv i (by omega)
   have c2:=A.left i (by omega) v hvS
   have hzt:=A.up i (i+1) (by omega) (by omega) (by omega)
   have id:=Er m C[i] C[i+1] C[i+1+1] v;rw[h0,mul_zero]at id;have g1:0<=(fn m C[i+1+1]-fn m C[i+1])*cr C[i] C[i+1] v:=mul_nonneg (by omega) c2
   have g2:(fn m v-fn m C[i+1])*cr C[i] C[i+1] C[i+1+1]<0:=Int.mul_neg_of_neg_of_pos (by omega) c1
   omega
 have hav:fn m C[i]<fn m v:=by omega
 have hvb:fn m v<fn m C[i+1]:=by omega
 rcases hv with hv|hv
 ·obtain⟨j,hj,rfl⟩:=getElem_of_mem hv
  rcases lt_trichotomy j i with h|h|h
  ·have:=A.up j i hj (by omega) h;omega
  ·subst h;omega
  ·rcases lt_or_ge (i+1) j with h'|h'
   ·have:=A.up (i+1) j hi hj h';omega
   ·have:j=i+1:=by omega
    subst this;omega
 ·obtain⟨j,hj,rfl⟩:=getElem_of_mem hv;have hj0:j≠0:=fun e=>by
   subst e;rw[e1]at hvb;have:=A.hi C[i+1] hbS (by omega)
   omega
  have hjl:j≠C'.length-1:=fun e=>by
   subst e;rw[e2]at hav;have:=A.lo C[i] haS (by omega)
   omega
  obtain⟨j,rfl⟩:∃ j',j=j'+1:=⟨j-1,by omega⟩
  have hl:j+2<C'.length:=by omega
  have cv:=A'.conv j hl
  have l1:=A'.left j (by omega) C[i] haS
  have l2:=A'.left j (by omega) C[i+1] hbS
  have l3:=A'.left (j+1) hl C[i] haS;have l4:=A'.left (j+1) hl C[i+1] hbS;have i1:=Eo m C[i] C[i+1] C'[j+1] C'[j] C'[j+1];have i2:=Eo m C[i] C[i+1] C'[j+1] C'[j+1] C'[j+2];rw[h0,tS,mul_zero,mul_zero]at i1;rw[h0,vM,mul_zero,mul_zero]at i2;have g1:0<=(fn m C[i+1]-fn m C'[j+1])*cr C'[j] C'[j+1] C[i]:=mul_nonneg (by omega) l1
  have g2:0<=(fn m C'[j+1]-fn m C[i])*cr C'[j] C'[j+1] C[i+1]:=mul_nonneg (by omega) l2
  have g3:0<=(fn m C[i+1]-fn m C'[j+1])*cr C'[j+1] C'[j+2] C[i]:=mul_nonneg (by omega) l3
  have g4:0<=(fn m C'[j+1]-fn m C[i])*cr C'[j+1] C'[j+2] C[i+1]:=mul_nonneg (by omega) l4
  have z1:cr C'[j] C'[j+1] C[i]=0:=by
   have:(fn m C[i+1]-fn m C'[j+1])*cr C'[j] C'[j+1] C[i]=0:=by omega
   rcases mul_eq_zero.mp this with h|h
   ·omega
   ·exact h
  have z2:cr C'[j+1] C'[j+2] C[i]=0:=by
   have:(fn m C[i+1]-fn m C'[j+1])*cr C'[j+1] C'[j+2] C[i]=0:=by omega
   rcases mul_eq_zero.mp this with h|h
   ·omega
   ·exact h
  have i3:=MF m C[i] C'[j+1] C'[j] C'[j+2];rw[z1,z2,mul_zero,mul_zero]at i3
  rcases mul_eq_zero.mp (show(fn m C[i]-fn m C'[j+1])*cr C'[j] C'[j+1] C'[j+2]=0 by omega) with h|h
  ·omega
  ·omega
def OB (H:List Pt)(k:Nat)(hk:k<H.length):Pt:=if h:k=0 then H[H.length-1] else H[k-1]
structure OL (S H:List Pt):Prop where
 left:∀ k (hk:k<H.length),∀ q∈S,0<=cr (OB H k hk) H[k] q
 strict:∀ k (hk:k<H.length),∀ v∈H,v≠OB H k hk->v≠H[k]->0<cr (OB H k hk) H[k] v
 sub:∀ x∈H,x∈S
 fst:∀ k (hk:k<H.length),0<k->H[k]≠H[0]
 two:∀ h:H.length=2,∀ q∈S,cr H[0] H[1] q=0/\∃ m:Pt,fn m H[0]<=fn m q/\fn m q<=fn m H[1]/\S.Pairwise fun a b=>fn m a<fn m b
 len:2<=H.length
def nH (S:List Pt):List Pt:=(tO S).reverse.dropLast++(tO S.reverse).reverse.dropLast
def neg (m:Pt):Pt:=(-m.1,-m.2)
theorem t4 (m p:Pt):fn (neg m) p=-fn m p:=by unfold fn neg;grind
theorem GF {m p0 p1:Pt}{l:List Pt}(hs:(p0::p1::l).Pairwise (fun a b=>fn m a<fn m b)):OL (p0::p1::l) (nH (p0::p1::l))/\∀ h:0<(nH (p0::p1::l)).length,(nH (p0::p1::l))[0]=p0:=by
 obtain⟨t,k,e,C,hl⟩:=CV hs;generalize hS:p0::p1::l=S at *;have hrev:S.reverse.Pairwise (fun a b=>fn (neg m) a<fn (neg m) b):=by
  rw[List.pairwise_reverse];exact hs.imp fun h=>by rw[t4,t4];omega
 obtain⟨z,r,hr⟩:∃ z r,S.reverse=z::r:=by
  cases h:S.reverse with
  | nil=>rw[List.reverse_eq_nil_iff]at h;rw[h]at hS;exact nomatch hS
  | cons z r=>exact⟨z,r,rfl⟩
 have hz:z=t:=by
  have h1:S.reverse.head?=some z:=by rw[hr];rfl
  rw[head?_reverse,hl]at h1;exact(Option.some.inj h1).symm
 subst hz;rw[hr]at hrev;obtain⟨t',k',e',C',hl'⟩:=CV hrev;have ht':t'=p0:=by
  rw[<-hr,List.getLast?_reverse,<-hS]at hl';exact(Option.some.inj hl').symm
 subst ht';have A:=vJ C;have A':yO (neg m) S (t'::k').reverse:=by
  have B:=vJ C';have hm:∀ q,q∈z::r↔q∈S:=fun q=>by rw[<-hr];exact List.mem_reverse
  exact⟨fun i h q hq=>B.left i h q ((hm q).mpr hq),B.conv,B.up,fun x hx=>(hm x).mp (B.sub x hx),fun q hq h=>B.lo q ((hm q).mpr hq) h,fun q hq h=>B.hi q ((hm q).mpr hq) h⟩
 have eL0:(z::k).reverse.head?=some t':=by rw[head?_reverse];exact C.ls
 have eU0:(t'::k').reverse.head?=some z:=by rw[head?_reverse];exact C'.ls
 have eL1:(z::k).reverse.getLast?=some z:=by rw[List.getLast?_reverse];rfl
 have eU1:(t'::k').reverse.getLast?=some t':=by rw[List.getLast?_reverse];rfl
 have hzS:z∈S:=C.sb z mem_cons_self;have htS:t'∈S:=by rw[<-hS];exact mem_cons_self
 have inj:∀ a∈S,∀ b∈S,fn m a=fn m b->a=b:=fun a ha b hb hab=>by
  obtain⟨i,hi,rfl⟩:=getElem_of_mem ha;obtain⟨j,hj,rfl⟩:=getElem_of_mem hb;have hp:=pairwise_iff_getElem.mp hs
  rcases lt_trichotomy i j with h|h|h
  ·have:=hp i j hi hj h;omega
  ·subst h;rfl
  ·have:=hp j i hj hi h;omega
 have hne:t'≠z:=fun h=>by
  have h1:p1∈S:=by rw[<-hS];simp
  have h2:fn m t'<fn m p1:=by rw[<-hS]at hs;exact(pairwise_cons.mp hs).1 p1 mem_cons_self
  by_cases h3:p1=z
  ·rw[h3,<-h]at h2;omega
  ·have:=C.hi p1 h1 h3;rw[<-h]at this;omega
 have eH:nH S=(z::k).reverse.dropLast++(t'::k').reverse.dropLast:=by unfold nH;rw[e,hr,e']
 rw[eH];generalize (z::k).reverse=L at *;generalize (t'::k').reverse=U at *;have lenOf:∀ {l:List Pt}{a b:Pt},l.head?=some a->l.getLast?=some b->a≠b->1<l.length:=fun {l a b} h1 h2 h3=>by
  match l with
  | []=>simp at h1
  | [x]=>simp at h1 h2;exact absurd (h1.symm.trans h2) h3
  | _::_::_=>simp
 have hL:=lenOf eL0 eL1 hne;have hU:=lenOf eU0 eU1 (Ne.symm hne);have gL0:L[0]=t':=by rw[head?_eq_getElem?,getElem?_eq_getElem (by omega)]at eL0;exact Option.some.inj eL0
 have gU0:U[0]=z:=by rw[head?_eq_getElem?,getElem?_eq_getElem (by omega)]at eU0;exact Option.some.inj eU0
 have gL1:L[L.length-1]=z:=by rw[List.getLast?_eq_getElem?,getElem?_eq_getElem (by omega)]at eL1;exact Option.some.inj eL1
 have gU1:U[U.length-1]=t':=by rw[List.getLast?_eq_getElem?,getElem?_eq_getElem (by omega)]at eU1;exact Option.some.inj eU1
 have inj':∀ a∈S,∀ b∈S,fn (neg m) a=fn (neg m) b->a=b:=fun a ha b hb hab=>inj a ha b hb (by rw[t4,t4]at hab;omega)
 have hlen:(L.dropLast++U.dropLast).length=L.length-1+(U.length-1):=by simp
 have at1:∀ i (h:i<(L.dropLast++U.dropLast).length) (h':i<L.length-1),(L.dropLast++U.dropLast)[i]=L[i]:=fun i h h'=>by
  rw[getElem_append_left (by simpa using h'),List.getElem_dropLast]
 have at2:∀ i (h:i<(L.dropLast++U.dropLast).length) (h':L.length-1<=i),(L.dropLast++U.dropLast)[i]=U[i-(L.length-1)]'(by rw[hlen]at h;omega):=fun i h h'=>by
  rw[List.getElem_append_right (by simpa using h'),List.getElem_dropLast]
  simp
 have hvm:∀ v∈L.dropLast++U.dropLast,v∈L\/v∈U:=fun v hv=>by
  rcases mem_append.mp hv with h|h
  ·exact .inl ((List.dropLast_sublist _).subset h)
  ·exact .inr ((List.dropLast_sublist _).subset h)
 have side:∀ k (hk:k<(L.dropLast++U.dropLast).length),(∃ i,∃ hi:i+1<L.length,OB (L.dropLast++U.dropLast) k hk=L[i]/\(L.dropLast++U.dropLast)[k]=L[i+1]) ∨
   (∃ i,∃ hi:i+1<U.length,OB (L.dropLast++U.dropLast) k hk=U[i]/\(L.dropLast++U.dropLast)[k]=U[i+1]):=fun k hk=>by
  unfold OB
  by_cases h0:k=0
  ·subst h0
   right
   refine⟨U.length-2,by omega,?_,?_⟩
   ·rw[dif_pos rfl];simp only[hlen];rw[at2 _ _ (by omega)]
    congr 1;omega
   ·rw[at1 _ _ (by omega),gL0,<-gU1]
    congr 1;omega
  ·rw[dif_neg h0]
   rcases lt_or_ge (L.length-1) k with h|h
   ·right
    refine⟨k-1-(L.length-1),by omega,?_,?_⟩
    ·rw[at2 _ _ (by omega)]
    ·rw[at2 _ _ (by omega)]
     congr 1;omega
   ·left
    refine⟨k-1,by omega,?_,?_⟩
    ·rw[at1 _ _ (by omega)]
    ·rcases lt_or_ge k (L.length-1) with h'|h'
     ·rw[at1 _ _ h']
      congr 1;omega
     ·have:k=L.length-1:=by omega
      subst this;rw[at2 _ _ (by omega)]
      have e1:L.length-1-(L.length-1)=0:=by omega
      have e2:L.length-1-1+1=L.length-1:=by omega
      simp only[e1,e2];rw[gU0,gL1]
 refine⟨⟨fun k hk q hq=>?_,fun k hk v hv h1 h2=>?_,fun x hx=>?_,fun k hk h0=>?_,fun h2 q hq=>?_,by rw[hlen];omega⟩,fun h=>by rw[at1 _ _ (by omega),gL0]⟩
 ·rcases side k hk with ⟨i,hi,ea,eb⟩|⟨i,hi,ea,eb⟩
  ·rw[ea,eb];exact A.left i hi q hq
  ·rw[ea,eb];exact A'.left i hi q hq
 ·rcases side k hk with ⟨i,hi,ea,eb⟩|⟨i,hi,ea,eb⟩
  ·rw[ea,eb];exact strict A A' hL hU (by rw[gU0,gL1]) (by rw[gU1,gL0]) inj hi (hvm v hv) (by rw[<-ea];exact h1) (by rw[<-eb];exact h2)
  ·rw[ea,eb];exact strict A' A hU hL (by rw[gL0,gU1]) (by rw[gL1,gU0]) inj' hi ((hvm v hv).symm) (by rw[<-ea];exact h1) (by rw[<-eb];exact h2)
 ·rcases hvm x hx with h|h
  ·exact A.sub x h
  ·exact A'.sub x h
 ·rw[at1 0 (by omega) (by omega),gL0]
  rcases lt_or_ge k (L.length-1) with h'|h'
  ·rw[at1 _ _ h'];intro h3;have:=A.up 0 k (by omega) (by omega) h0
   rw[gL0,h3]at this;omega
  ·rw[at2 _ _ h'];intro h3;have:=A'.up (k-(L.length-1)) (U.length-1) (by rw[hlen]at hk;omega) (by omega) (by rw[hlen]at hk;omega)
   rw[gU1,h3]at this;omega
 ·have hL2:L.length=2:=by omega
  have hU2:U.length=2:=by omega
  have x0:(L.dropLast++U.dropLast)[0]=t':=by rw[at1 _ _ (by omega),gL0]
  have x1:(L.dropLast++U.dropLast)[1]=z:=by
   rw[at2 _ _ (by omega)]
   simp only[hL2];exact gU0
  have y0:=A.left 0 (by omega) q hq
  have y1:=A'.left 0 (by omega) q hq
  have gl1:L[1]=z:=by simpa only [hL2] using gL1
  have gu1:U[1]=t':=by simpa only [hU2] using gU1
  simp only[Nat.zero_add]at y0 y1;rw[gL0,gl1]at y0;rw[gU0,gu1,Ij]at y1;rw[x0,x1];refine⟨by omega,m,?_,?_,hs⟩
  ·have:=A.lo q hq (by omega);rwa [gL0]at this
  ·have:=A.hi q hq (by omega);rwa [gL1]at this
end Law
namespace Law
open L2 DL
def ce (p:Pt):T:=spT (fi p)
theorem lQ (p:Pt):lP (ce p)=true:=rfl
theorem yH {n:Nat}{p:Pt}(h:SzF n p)(hn:1<=n):fe n (fi p):=⟨⟨h.1,⟨by show 1<2 ^ n;exact Nat.one_lt_two_pow (by omega)⟩⟩,h.2,⟨by show 1<2 ^ n;exact Nat.one_lt_two_pow (by omega)⟩⟩
theorem _root_.DL.SzF.mono3 {n m:Nat}{p:Pt}(h:SzF n p)(l:n<=m):SzF m p:=⟨h.1.mono l,h.2.mono l⟩
def ma:aJ:=fun ss R=>∃ ps:List Pt,ss=[.t (.lst (ps.map ce))]/\ps.length<=1000/\(∀ p∈ps,SzF 120 p)/\R (.ol ((tO ps).reverse.map ce))
def oT:WS:=
 (aC (aG 1 (ia ao))
 (bP (ju (bW (ae 0)) (aU 2) (bP (qJ (K7 (kz (wB (G8 (dH cE (ac (ae 1) ao)) (wC (.int 1)))) (wB (Sb (aw iR (ac (ap aI (ae 1) (vv iy (wC (.int 2)))) (ac (ap aI (ae 1) (vv iy (wC (.int 1)))) (ac (ae 2) ao)))) (wC (.int 0)))))) (Kr 1))
 (fy 1 (ae 2))))
 (jv 1)))
theorem Ak {p:Pt}:∀ k:List Pt,∀ x∈popTo p k,x∈k
 | [],x,h=>h
 | [b],x,h=>h
 | b::a::r,x,h=>by
  simp only[popTo]at h
  split at h
  ·exact mem_cons_of_mem _ (Ak (a::r) x h)
  ·exact h
theorem uU {p:Pt}:∀ k:List Pt,(popTo p k).length<=k.length
 | []=>le_refl _
 | [b]=>le_refl _
 | b::a::r=>by
  simp only[popTo]
  split
  ·exact Nat.le_succ_of_le (uU (a::r))
  ·exact le_refl _
theorem CW (l:List Pt)(p:Pt):tO (l++[p])=p::popTo p (tO l):=by unfold tO;rw[foldl_append];rfl
theorem vV (p:List Pt):∀ (k:List Pt),(∀ x∈p.foldl (fun k p=>p::popTo p k) k,x∈k\/x∈p)/\(p.foldl (fun k p=>p::popTo p k) k).length<=k.length+p.length:=by
 induction p with
 | nil=>exact fun k=>⟨fun x h=>.inl h,le_refl _⟩
 | cons a p ih=>
  intro k;obtain⟨h1,h2⟩:=ih (a::popTo a k);refine⟨fun x hx=>?_,?_⟩
  ·rcases h1 x hx with h|h
   ·rcases mem_cons.mp h with rfl|h
    ·exact .inr mem_cons_self
    ·exact .inl (Ak _ x h)
   ·exact .inr (mem_cons_of_mem _ h)
  ·have:=uU (p:=a) k;rw[List.foldl_cons];simp only[length_cons]at h2 ⊢;omega
theorem Ig (l:List Pt):∀ x∈tO l,x∈l:=fun x hx=>((vV l []).1 x hx).resolve_left (by simp)
theorem lj (l:List Pt):(tO l).length<=l.length:=by have:=(vV l []).2;simpa [tO] using this
theorem PV (l:List T)(a b:T):atI (l++[a,b]) (-2)=some a:=by
 have e:uG (l++[a,b]).length (-2)=some l.length:=by
  unfold uG;rw[List.length_append,length_cons,length_cons,length_nil,if_neg (by decide),if_pos (by omega)]
  congr 1;omega
 unfold atI;rw[e];simp
theorem Pk {l:List T}{b:Pt}{R:S->Prop}:xc (l++[ce b]) (-1) R=R (.t (ce b)):=by rw[ip (CC l _),oA (lQ b)]
theorem Pl {l:List T}{a b:Pt}{R:S->Prop}:xc (l++[ce a,ce b]) (-2) R=R (.t (ce a)):=by rw[ip (PV l _ _),oA (lQ a)]
theorem FZ:Ok ma oT ["spots","kept","spot"]:=by
 rintro ss R ⟨ps,rfl,hl,hz,h⟩;show oT _ [some (.t (.lst (ps.map ce))),none,none]
 delta oT
 walk_at"d";refine⟨fun δ=>∃ r,δ=[some (.t (.lst (ps.map ce))),some (.ol ((tO ps).reverse.map ce)),r],?_,?_⟩
 ·refine⟨fun ts δ=>∃ pre post r,ps=pre++post/\ts=post.map ce/\δ=[some (.t (.lst (ps.map ce))),some (.ol ((tO pre).reverse.map ce)),r],⟨[],ps,_,rfl,rfl,rfl⟩,?_,?_⟩
  ·rintro δ ⟨pre,post,r,e1,e2,rfl⟩;have:post=[]:=by simpa using e2.symm
   subst this;rw[append_nil]at e1;subst e1;exact⟨r,rfl⟩
  ·rintro x ts δ ⟨pre,post,r,e1,e2,rfl⟩
   cases post with
   | nil=>cases e2
   | cons p post=>
    rw[map_cons]at e2
    cases e2
    have hpz:SzF 120 p:=hz p (by rw[e1];simp)
    have hprz:∀ x∈tO pre,SzF 120 x:=fun x hx=>hz x (by rw[e1];exact mem_append_left _ (Ig pre x hx))
    have hlp:(tO pre).length<=1000:=by
     have:=lj pre;have:ps.length=pre.length+(post.length+1):=by rw[e1];simp
     omega
    walk_at"d";refine⟨fun δ=>δ=[some (.t (.lst (ps.map ce))),some (.ol ((popTo p (tO pre)).reverse.map ce)),some (.t (ce p))],?_,?_⟩
    ·refine⟨fun n δ=>∃ k,k.length=n/\popTo p k=popTo p (tO pre)/\(∀ x∈k,SzF 120 x)/\δ=[some (.t (.lst (ps.map ce))),some (.ol (k.reverse.map ce)),some (.t (ce p))],⟨_,tO pre,rfl,rfl,hprz,rfl⟩,?_⟩;rintro n δ ⟨k,hk,hpop,hkz,rfl⟩;have base:popTo p k=k->(fun δ=>δ=[some (S.t (.lst (ps.map ce))),some (.ol ((popTo p (tO pre)).reverse.map ce)),some (.t (ce p))]) [some (.t (.lst (ps.map ce))),some (.ol (k.reverse.map ce)),some (.t (ce p))]:=fun e=>by
      rw[<-hpop,e]
     match k,hk,hpop,hkz,base with
     | [],hk,hpop,hkz,base=>
      refine⟨fun k=>k=false,?_,?_⟩
      ·walk_at"d"
       first|trivial|(rw[if_neg (by simp)];trivial)
      ·rintro k rfl;rw[if_neg (by decide)]
       exact base rfl
     | [b],hk,hpop,hkz,base=>
      refine⟨fun k=>k=false,?_,?_⟩
      ·walk_at"d"
       first|trivial|(rw[if_neg (by simp)];trivial)
      ·rintro k rfl;rw[if_neg (by decide)]
       exact base rfl
     | b::a::r,hk,hpop,hkz,base=>
      have el:(b::a::r).reverse.map ce=(r.reverse.map ce)++[ce a,ce b]:=by simp
      have el2:(b::a::r).reverse.map ce=((a::r).reverse.map ce)++[ce b]:=by simp
      refine⟨fun k=>k=decide (cr a b p<=0),?_,?_⟩
      ·walk_at"d";rw[if_pos (by simp;omega)]
       walk_at"d";rw[el,Pl];walk_at"d";rw[<-el,el2,Pk];walk_at"d";refine⟨fi a,fi b,fi p,rfl,yH ((hkz a (by simp)).mono3 (by decide)) (by decide),yH ((hkz b (by simp)).mono3 (by decide)) (by decide),yH (hpz.mono3 (by decide)) (by decide),?_⟩
       walk_at"d";rw[show vj (fi a) (fi b) (fi p)=cr a b p from N9 a b p]
      ·rintro k rfl
       by_cases hc:cr a b p<=0
       ·rw[if_pos (by simpa using hc)]
        walk_at"d";refine⟨by simp,r.length+1,by simp at hk;omega,a::r,rfl,?_,fun x hx=>hkz x (mem_cons_of_mem _ hx),?_⟩
        ·rw[<-hpop];simp only[popTo,if_pos hc]
        ·rw[el2,List.dropLast_concat]
       ·rw[if_neg (by simpa using hc)]
        exact base (by simp only[popTo,if_neg hc])
    ·rintro δ rfl;walk_at"d";refine⟨?_,pre++[p],post,some (.t (ce p)),by rw[e1];simp,rfl,?_⟩
     ·rw[length_map,length_reverse];have:=uU (p:=p) (tO pre);omega
     ·rw[CW,reverse_cons,map_append];rfl
 ·rintro δ ⟨r,rfl⟩;walk_at"d";exact h
end Law
namespace Law
open L2 DL
def Gm (p:Pt):List Int:=[p.1,p.2]
def cQ (a b:Pt):Prop:=a.1<b.1\/(a.1=b.1/\a.2<b.2)
def bO (S:List Pt):List Pt:=if S.length<2 then S else nH S
def SetOf (ps S:List Pt):Prop:=(∀ p∈S,p∈ps)/\(∀ p∈ps,p∈S)/\S.Pairwise cQ
theorem MT (a b:Pt):ST.lexB (Gm a) (Gm b)=true↔cQ a b:=by
 unfold cQ Gm;simp only[ST.lexB]
 by_cases h:a.1=b.1
 ·rw[if_pos h]
  by_cases h2:a.2=b.2
  ·rw[if_pos h2];constructor
   ·intro h;cases h
   ·intro h;omega
  ·rw[if_neg h2,decide_eq_true_eq];omega
 ·rw[if_neg h,decide_eq_true_eq];omega
theorem Ai {ps:List Pt}:∀ ns:List (List Int),(∀ k∈ns,k∈ps.map Gm)->∃ S:List Pt,ns=S.map Gm/\∀ p∈S,p∈ps
 | [],_=>⟨[],rfl,fun p hp=>by cases hp⟩
 | k::ns,h=>by
  obtain⟨S,e,hs⟩:=Ai ns fun k hk=>h k (mem_cons_of_mem _ hk);obtain⟨p,hp,rfl⟩:=mem_map.mp (h k mem_cons_self);exact⟨p::S,by rw[e];rfl,fun q hq=>by
   rcases mem_cons.mp hq with rfl|hq
   ·exact hp
   ·exact hs q hq⟩
theorem ND {a b:Pt}(h:Gm a=Gm b):a=b:=by
 unfold Gm at h;simp only[List.cons.injEq,and_true]at h;exact Prod.ext h.1 h.2
def va:aJ:=fun ss R=>∃ ps:List Pt,ss=[.t (.lst (ps.map aN))]/\ps.length<=63/\(∀ p∈ps,SzF 120 p)/\∀ S:List Pt,SetOf ps S->R (.ol ((bO S).map ce))
def vn:WS:=
 (aC (aG 1 (dZ 1 [] (bW (mn (ae 0))) (aU 0) nZ (aw kR (ac (ae 0) ao))))
 (aC (gM (wB (Cc (dH cE (ac (ae 1) ao)) (wC (.int 2)))) (jv 1) bd)
 (aC (aG 2 (aw ma (ac (ae 1) ao)))
 (aC (aG 3 (aw ma (ac (qI (ae 1)) ao)))
 (a6 (ap nV (dz (ae 2) dy (fU (vv iy (wC (.int 1))))) (dz (ae 3) dy (fU (vv iy (wC (.int 1)))))))))))
theorem sk {S:List Pt}(h:S.Pairwise cQ):S.Nodup:=h.imp fun h e=>by subst e;unfold cQ at h;omega
theorem lA (ts:List T):fX ts none (some (-1))=ts.dropLast:=by
 unfold fX;show(ts.drop 0).take (HT.sIx ts.length ts.length (some (-1))-0)=_;have:HT.sIx ts.length ts.length (some (-1))=ts.length-1:=by
  show(if (-1:Int)<0 then ((-1:Int)+(ts.length:Int)).toNat else min (-1:Int).toNat ts.length)=_
  rw[if_pos (by decide)];omega
 rw[this,List.dropLast_eq_take];simp
theorem Jk:Ok va vn ["points","spots","under","above"]:=by
 rintro ss R ⟨ps,rfl,hl,hz,h⟩;show vn _ [some (.t (.lst (ps.map aN))),none,none,none]
 delta vn
 walk_at"d";refine⟨2,ps.map Gm,by decide,by rw[map_map];rfl,fun ks hk=>by obtain⟨p,_,rfl⟩:=mem_map.mp hk;rfl,by rw[length_map];omega,fun ns n1 n2 _ n3=>?_⟩
 replace n3:=n3 (by rw[length_map];exact hl)
 obtain⟨S,rfl,hS⟩:=Ai ns n1;have hset:SetOf ps S:=⟨hS,fun p hp=>by
  obtain⟨q,hq,e⟩:=mem_map.mp (n2 (Gm p) (mem_map.mpr ⟨p,hp,rfl⟩));rw[<-ND e];exact hq,by
  rw[pairwise_map]at n3;exact n3.imp fun h=>(MT _ _).mp h⟩
 have hSl:S.length<=63:=le_trans (List.Nodup.length_le_of_subset (sk hset.2.2) hset.1) hl;have hSz:∀ p∈S,SzF 120 p:=fun p hp=>hz p (hS p hp);have e:(S.map Gm).map nY=S.map aN:=by rw[map_map];rfl
 rw[e];walk_at"d";refine fL (h:=ce) (fun δ=>∃ r,δ=[r]) (fun p _=>lQ p) (by omega) ⟨_,rfl⟩ ?_ ?_
 ·rintro p hp δ ⟨r,rfl⟩ Y hY;walk_at"d";refine⟨p,rfl,?_⟩;walk_at"d";exact hY _ ⟨_,rfl⟩
 have hR:=h S hset;unfold bO at hR;walk_at"d"
 by_cases h2:S.length<2
 ·rw[if_pos h2]at hR;rw[if_pos (by rw[length_map];omega)]
  walk_at"d";exact hR
 ·rw[if_neg h2]at hR;rw[if_neg (by rw[length_map];omega)]
  walk_at"d";refine⟨S,rfl,by omega,hSz,?_⟩
  have pu:∀ l:List Pt,cF (l.map ce)=true:=bB fun p=>lQ p;have g:∀ l:List Pt,got (.ol (l.map ce))=.ol (l.map ce):=fun l=>dO _ (pu l);dsimp only;rw[g];walk_at"d";refine⟨pu S,S.reverse,by rw[List.map_reverse],by rw[length_reverse];omega,fun p hp=>hSz p (List.mem_reverse.mp hp),?_⟩
  dsimp only;rw[g];walk_at"d";refine⟨pu _,pu _,?_,?_⟩
  ·rw[lA,lA,length_dropLast,length_dropLast,length_map,length_map,length_reverse,length_reverse];have a1:=lj S;have a2:=lj S.reverse;rw[length_reverse]at a2;omega
  ·rw[lA,lA,<-List.map_dropLast,<-List.map_dropLast,<-map_append];exact hR
end Law
namespace Law
open L2 DL
def aX (a b c:Hf):Int:=a.1*(b.2.1*c.2.2-c.2.1*b.2.2)-a.2.1*(b.1*c.2.2-c.1*b.2.2)+a.2.2*(b.1*c.2.1-c.1*b.2.1)
def k9 (a b:Hf):Bool:=if a.1*b.2.2≠b.1*a.2.2 then decide (a.1*b.2.2<b.1*a.2.2) else decide (a.2.1*b.2.2<b.2.1*a.2.2)
def qQ (s:Fr):Prop:=0<s.2/\Int.gcd s.1 s.2=1
def bC (s:aD):Prop:=qQ s.1/\qQ s.2
end Law
namespace Law
open L2 DL
def df {α:Type}(H:List α)(k:Nat)(hk:k<H.length):α:=if h:k=0 then H[H.length-1] else H[k-1]
structure Lc (F:List Hf):Prop where
 fst:∀ k (hk:k<F.length),0<k->k9 F[0] F[k]=true
 trn:2<F.length->∀ k (hk:k<F.length),∀ v∈F,v≠F[k]->v≠df F k hk->0<aX (df F k hk) F[k] v
structure bK (F:List Hf) (q:Hf):Prop where
 ne:0<F.length
 few:F.length<3->aX F[0] F[F.length-1] q=0/\k9 q F[0]=false/\k9 F[F.length-1] q=false
 all:3<=F.length->∀ k (hk:k<F.length),0<=aX (df F k hk) F[k] q
theorem mj {n m:Nat}{s:Hf}(h:dk n s)(l:n<=m):dk m s:=⟨h.1.mono l,h.2.1.mono l,h.2.2.mono l⟩
theorem qo {α:Type}{F:List α}{k:Nat}(hk:k<F.length):df F k hk∈F:=by
 unfold df
 split <;> exact getElem_mem _
theorem zE {α:Type}{f:α->T}{l:List α}{g:WG}{wb:WS}{D:iX}{δ:aR}(M:aR->Prop)(h0:M δ)(hend:∀ δ,M δ->D.nx δ)
  (step:∀ a∈l,∀ δ,M δ->∀ N:aR->Prop,(∀ δ1,M δ1->N δ1)->g (f a) δ fun δ1=>wb {nx:=N,rt:=D.rt,bk:=D.nx,ct:=N} δ1):xN g wb (l.map f) D δ:=by
 refine⟨fun ts δ=>(∀ t∈ts,∃ a∈l,t=f a)/\M δ,⟨fun t ht=>?_,h0⟩,fun δ h=>hend δ h.2,?_⟩
 ·obtain⟨a,ha,rfl⟩:=mem_map.mp ht;exact⟨a,ha,rfl⟩
 ·rintro x r δ ⟨ht,hM⟩;obtain⟨a,ha,rfl⟩:=ht x mem_cons_self;exact step a ha δ hM _ fun δ1 h1=>⟨fun t ht'=>ht t (mem_cons_of_mem _ ht'),h1⟩
end Law
namespace Law
open L2 DL
set_option maxHeartbeats 4000000
theorem n6 {a b c:Int}(h:Int.gcd a b=1)(hd:b ∣ a*c):b ∣ c:=by
 have h1:b.natAbs ∣ a.natAbs*c.natAbs:=by rw[<-Int.natAbs_mul];exact natAbs_dvd_natAbs.mpr hd
 have h2:Nat.Coprime b.natAbs a.natAbs:=by
  rw[Nat.coprime_comm];exact h
 exact natAbs_dvd_natAbs.mp (h2.dvd_of_dvd_mul_left h1)
theorem zF {p q:Fr}(hp:qQ p)(hq:qQ q)(h:p.1*q.2=q.1*p.2):p=q:=by
 obtain⟨p0,p1⟩:=hp;obtain⟨q0,q1⟩:=hq;have d1:p.2 ∣ q.2:=n6 p1 ⟨q.1,by rw[h,mul_comm]⟩
 have d2:q.2 ∣ p.2:=n6 q1 ⟨p.1,by rw[<-h,mul_comm]⟩
 have e:p.2=q.2:=Int.dvd_antisymm (by omega) (by omega) d1 d2
 rw[e]at h;have:=eq_of_mul_eq_mul_right (by omega) h
 exact Prod.ext this e
theorem L7 {a b:Int}(hb:b≠0):lr a b≠0:=by
 have:=gD (a:=a) (.inr hb);unfold lr
 split <;> omega
theorem yZ (a b:Int):lr a b ∣ a/\lr a b ∣ b:=by
 unfold lr
 split
 ·exact⟨Int.neg_dvd.mpr (gcd_dvd_left _ _),Int.neg_dvd.mpr (gcd_dvd_right _ _)⟩
 ·exact⟨gcd_dvd_left _ _,gcd_dvd_right _ _⟩
theorem Ef {a b:Int}(hb:b≠0):qQ (lE a b):=by
 have hc:=L7 (a:=a) hb;obtain⟨d1,d2⟩:=yZ a b;have e1:=b9 d1;have e2:=b9 d2;unfold lE qQ;dsimp only;generalize a.fdiv (lr a b)=x at e1 ⊢;generalize b.fdiv (lr a b)=y at e2 ⊢;constructor
 ·have hs:(b<0/\lr a b<0)\/(0<b/\0<lr a b):=by
   have:=gD (a:=a) (.inr hb);unfold lr at hc ⊢
   split <;> rename_i h <;> first|(left;omega)|(right;omega)
  rcases hs with ⟨h1,h2⟩|⟨h1,h2⟩
  ·rcases lt_or_le 0 y with z|z
   ·exact z
   ·have:=mul_nonneg_of_nonpos_of_nonpos z (le_of_lt h2);omega
  ·rcases lt_or_le 0 y with z|z
   ·exact z
   ·have:=mul_nonpos_of_nonpos_of_nonneg z (le_of_lt h2);omega
 ·have eg:Int.gcd a b=Int.gcd x y*(lr a b).natAbs:=by
   have:=Int.gcd_mul_right x (lr a b) y;rw[e1,e2]at this;exact this
  have en:(lr a b).natAbs=Int.gcd a b:=by
   unfold lr
   split
   ·rw[Int.natAbs_neg,Int.natAbs_natCast]
   ·rw[Int.natAbs_natCast]
  rw[en]at eg;have hg:0<Int.gcd a b:=by have:=gD (a:=a) (.inr hb);omega
  exact(Nat.eq_of_mul_eq_mul_right hg (by rw[Nat.one_mul];exact eg)).symm
def Oz (p q:Fr):Bool:=decide (p.1*q.2<q.1*p.2)
def Hh (p q:aD):Bool:=if p.1=q.1 then Oz p.2 q.2 else Oz p.1 q.1
theorem qd {a b c:Int}(hc:0<c):a*c<b*c↔a<b:=⟨fun h=>Int.lt_of_mul_lt_mul_right h (le_of_lt hc),fun h=>Int.mul_lt_mul_of_pos_right h hc⟩
theorem qb {p q:aD}(hp:bC p)(hq:bC q):Hh p q=k9 (ag p) (ag q):=by
 obtain⟨⟨x0,x1⟩,⟨y0,y1⟩⟩:=p;obtain⟨⟨u0,u1⟩,⟨v0,v1⟩⟩:=q;have hx:0<x1:=hp.1.1;have hy:0<y1:=hp.2.1;have hu:0<u1:=hq.1.1;have hv:0<v1:=hq.2.1;have hyv:0<y1*v1:=mul_pos hy hv;have hxu:0<x1*u1:=mul_pos hx hu;unfold Hh k9 ag Oz;dsimp only;have a1:x0*y1*(u1*v1)=(x0*u1)*(y1*v1):=by grind
 have a2:u0*v1*(x1*y1)=(u0*x1)*(y1*v1):=by grind
 have b1:y0*x1*(u1*v1)=(y0*v1)*(x1*u1):=by grind
 have b2:v0*u1*(x1*y1)=(v0*y1)*(x1*u1):=by grind
 rw[a1,a2,b1,b2]
 by_cases e:((x0,x1):Fr)=(u0,u1)
 ·rw[if_pos e];have e0:x0=u0:=congrArg Prod.fst e;have e1:x1=u1:=congrArg Prod.snd e;subst e0;subst e1;rw[if_neg (by simp)]
  exact decide_eq_decide.mpr (qd hxu).symm
 ·rw[if_neg e];have hne:x0*u1*(y1*v1)≠u0*x1*(y1*v1):=fun h=>e (zF hp.1 hq.1 (eq_of_mul_eq_mul_right (by omega) h))
  rw[if_pos hne];exact decide_eq_decide.mpr (qd hyv).symm
theorem G5 (a b c:aD):vj a b c=aX (ag a) (ag b) (ag c):=by
 unfold vj aY QW aX ag;dsimp only;grind
end Law
namespace Law
open L2 DL
set_option maxHeartbeats 1000000
theorem aT (a b c:Hf):aX a b c=aX b c a:=by unfold aX;grind
theorem pF (a b:Hf):aX a a b=0:=by unfold aX;grind
theorem gC (a b:Hf):aX a b a=0:=by unfold aX;grind
theorem eA (a b:Hf):aX a b b=0:=by unfold aX;grind
theorem zz (a b c:Hf):aX a c b=-aX a b c:=by unfold aX;grind
theorem Py (a e b c d:Hf):aX a e c*aX a b d=aX a e b*aX a c d+aX a e d*aX a b c:=by unfold aX;grind
def vq (u p q:Hf):Prop:=∃ κ α β:Int,0<κ/\0<α/\0<β/\κ*u.1=α*p.1+β*q.1/\κ*u.2.1=α*p.2.1+β*q.2.1/\κ*u.2.2=α*p.2.2+β*q.2.2
theorem lO (u:Hf):vq u u u:=⟨2,1,1,by decide,by decide,by decide,by walk_at"o",by walk_at"o",by walk_at"o"⟩
theorem uL {u p q:Hf}{κ α β:Int}(e1:κ*u.1=α*p.1+β*q.1)(e2:κ*u.2.1=α*p.2.1+β*q.2.1)(e3:κ*u.2.2=α*p.2.2+β*q.2.2)(v w:Hf):κ*aX u v w=α*aX p v w+β*aX q v w:=by
 unfold aX;have h:κ*(u.1*(v.2.1*w.2.2-w.2.1*v.2.2)-u.2.1*(v.1*w.2.2-w.1*v.2.2)+u.2.2*(v.1*w.2.1-w.1*v.2.1))=κ*u.1*(v.2.1*w.2.2-w.2.1*v.2.2)-κ*u.2.1*(v.1*w.2.2-w.1*v.2.2)+κ*u.2.2*(v.1*w.2.1-w.1*v.2.1):=by grind
 rw[h,e1,e2,e3];grind
theorem du {κ x:Int}(hk:0<κ)(h:0<κ*x):0<x:=by
 rcases lt_or_le 0 x with z|z
 ·exact z
 ·have:=mul_nonpos_of_nonneg_of_nonpos (le_of_lt hk) z;walk_at"o"
theorem cS {κ x:Int}(hk:0<κ)(h:0<=κ*x):0<=x:=by
 rcases lt_or_le x 0 with z|z
 ·have:=mul_neg_of_pos_of_neg hk z;walk_at"o"
 ·exact z
theorem uM {u p q:Hf}(h:vq u p q)(v w:Hf)(h1:0<=aX p v w)(h2:0<=aX q v w):0<=aX u v w:=by
 obtain⟨κ,α,β,k0,a0,b0,e1,e2,e3⟩:=h;have e:=uL e1 e2 e3 v w;have x1:=mul_nonneg (le_of_lt a0) h1;have x2:=mul_nonneg (le_of_lt b0) h2;exact cS k0 (by walk_at"o")
theorem ow {u p q:Hf}(h:vq u p q)(v w:Hf)(h1:0<=aX p v w)(h2:0<=aX q v w)(h3:0<aX p v w\/0<aX q v w):0<aX u v w:=by
 obtain⟨κ,α,β,k0,a0,b0,e1,e2,e3⟩:=h;have e:=uL e1 e2 e3 v w;have x1:=mul_nonneg (le_of_lt a0) h1;have x2:=mul_nonneg (le_of_lt b0) h2;refine du k0 ?_
 rcases h3 with h3|h3
 ·have:=mul_pos a0 h3;walk_at"o"
 ·have:=mul_pos b0 h3;walk_at"o"
theorem qc {u p q:Hf}(h:vq u p q):aX p q u=0:=by
 obtain⟨κ,α,β,k0,a0,b0,e1,e2,e3⟩:=h;have e:=uL e1 e2 e3 p q;rw[pF,gC,mul_zero,mul_zero,aT u p q]at e
 rcases mul_eq_zero.mp (show κ*aX p q u=0 by walk_at"o") with z | z
 ·walk_at"o"
 ·exact z
theorem RB {u v w p p' q q' r r':Hf}(hu:vq u p p')(hv:vq v q q')(hw:vq w r r')(n:∀ x,x=p\/x=p'->∀ y,y=q\/y=q'->∀ z,z=r\/z=r'->0<=aX x y z)
  (s:∃ x y z,(x=p\/x=p')/\(y=q\/y=q')/\(z=r\/z=r')/\0<aX x y z):0<aX u v w:=by
 obtain⟨x0,y0,z0,hx0,hy0,hz0,h0⟩:=s;have nw:∀ x,x=p\/x=p'->∀ y,y=q\/y=q'->0<=aX x y w:=fun x hx y hy=>by
  rw[<-aT w x y];refine uM hw x y ?_ ?_
  ·rw[aT];exact n x hx y hy r (.inl rfl)
  ·rw[aT];exact n x hx y hy r' (.inr rfl)
 have pw:0<aX x0 y0 w:=by
  rw[<-aT w x0 y0];refine ow hw x0 y0 ?_ ?_ ?_
  ·rw[aT];exact n x0 hx0 y0 hy0 r (.inl rfl)
  ·rw[aT];exact n x0 hx0 y0 hy0 r' (.inr rfl)
  ·rcases hz0 with e|e
   ·left;rw[aT,<-e];exact h0
   ·right;rw[aT,<-e];exact h0
 have nv:∀ x,x=p\/x=p'->0<=aX x v w:=fun x hx=>by
  rw[aT];refine uM hv w x ?_ ?_
  ·rw[<-aT];exact nw x hx q (.inl rfl)
  ·rw[<-aT];exact nw x hx q' (.inr rfl)
 have pv:0<aX x0 v w:=by
  rw[aT];refine ow hv w x0 ?_ ?_ ?_
  ·rw[<-aT];exact nw x0 hx0 q (.inl rfl)
  ·rw[<-aT];exact nw x0 hx0 q' (.inr rfl)
  ·rcases hy0 with e|e
   ·left;rw[<-aT,<-e];exact pw
   ·right;rw[<-aT,<-e];exact pw
 refine ow hu v w (nv p (.inl rfl)) (nv p' (.inr rfl)) ?_
 rcases hx0 with e|e
 ·left;rw[<-e];exact pv
 ·right;rw[<-e];exact pv
def qR (P:Nat->Hf)(n:Nat):Prop:=∀ a b c,a<b->b<c->c<n->0<aX (P a) (P b) (P c)
def bg (n i:Nat):Nat:=if i=0 then n-1 else i-1
theorem wk {P:Nat->Hf}{n:Nat}(hT:qR P n){a b c:Nat}(h1:a<=b)(h2:b<=c)(h3:c<n):0<=aX (P a) (P b) (P c):=by
 rcases lt_or_ge a b with l1|l1
 ·rcases lt_or_ge b c with l2|l2
  ·exact le_of_lt (hT a b c l1 l2 h3)
  ·have:b=c:=by walk_at"o"
   rw[this,eA];exact Int.le_refl _
 ·have:a=b:=by walk_at"o"
  rw[this,pF];exact Int.le_refl _
theorem SC {P:Nat->Hf}{n:Nat}(hT:qR P n){b c:Nat}(h2:b<=c)(h3:c<n):0<=aX (P (n-1)) (P b) (P c):=by
 rw[aT];exact wk hT h2 (by walk_at"o") (by walk_at"o")
def lo (n:Nat)(s:Bool)(i:Nat):Nat:=if s=true then bg n i else i
theorem p9 {n:Nat}{s:Bool}{i a:Nat}(h:a=lo n s i\/a=i):a=i\/(s=true/\a=bg n i):=by
 unfold lo at h
 cases s with
 | true=>
      rcases h with h|h
      ·exact .inr ⟨rfl,by simpa using h⟩
      ·exact .inl h
 | false=>
       rcases h with h|h
       ·exact .inl (by simpa using h)
       ·exact .inl h
theorem RS {P:Nat->Hf}{n:Nat}(hn:3<=n)(hT:qR P n){u v w:Hf}{su sv sw:Bool}{i j k:Nat}(hu:vq u (P (lo n su i)) (P i))(hv:vq v (P (lo n sv j)) (P j))(hw:vq w (P (lo n sw k)) (P k))(hk:k<n)
  (ij:i<j\/(i=j/\su=true/\sv=false)) (jk:j<k\/(j=k/\sv=true/\sw=false))
  (x1:su=true->i=j->sw=false->k≠bg n i) (x2:sv=true->j=k->su=false->i≠bg n j):0<aX u v w:=by
 refine RB hu hv hw ?_ ?_
 ·intro x hx y hy z hz;obtain⟨a,rfl,ha⟩:∃ a,x=P a/\(a=lo n su i\/a=i):=hx.elim (fun e=>⟨_,e,.inl rfl⟩) (fun e=>⟨_,e,.inr rfl⟩);obtain⟨b,rfl,hb⟩:∃ b,y=P b/\(b=lo n sv j\/b=j):=hy.elim (fun e=>⟨_,e,.inl rfl⟩) (fun e=>⟨_,e,.inr rfl⟩);obtain⟨c,rfl,hc⟩:∃ c,z=P c/\(c=lo n sw k\/c=k):=hz.elim (fun e=>⟨_,e,.inl rfl⟩) (fun e=>⟨_,e,.inr rfl⟩);have ha:=p9 ha;have hb:=p9 hb;have hc:=p9 hc;have hbj:i<=b/\b<=j:=by
   rcases hb with h|⟨h,h'⟩
   ·walk_at"o"
   ·rcases ij with l|⟨_,_,l⟩
    ·unfold bg at h';rw[if_neg (by walk_at"o")]at h';walk_at"o"
    ·rw[h]at l;cases l
  have hck:b<=c/\c<=k:=by
   rcases hc with h|⟨h,h'⟩
   ·walk_at"o"
   ·rcases jk with l|⟨_,_,l⟩
    ·unfold bg at h';rw[if_neg (by walk_at"o")]at h';walk_at"o"
    ·rw[h]at l;cases l
  rcases ha with h|⟨h,h'⟩
  ·exact wk hT (by walk_at"o") hck.1 (by walk_at"o")
  ·unfold bg at h'
   split at h'
   ·rw[h'];exact SC hT hck.1 (by walk_at"o")
   ·exact wk hT (by walk_at"o") hck.1 (by walk_at"o")
 ·have hlo:∀ (s:Bool) (m:Nat),s=true->lo n s m=bg n m:=fun s m h=>by unfold lo;rw[if_pos h]
  rcases ij with l1|⟨e1,e2,e3⟩
  ·rcases jk with l2|⟨f1,f2,f3⟩
   ·exact⟨P i,P j,P k,.inr rfl,.inr rfl,.inr rfl,hT i j k l1 l2 hk⟩
   ·have hl:lo n sv j=j-1:=by rw[hlo sv j f2];unfold bg;rw[if_neg (by walk_at"o")]
    by_cases h:i<j-1
    ·exact⟨P i,P (j-1),P k,.inr rfl,.inl (by rw[hl]),.inr rfl,hT i (j-1) k h (by walk_at"o") hk⟩
    ·have hi:i=j-1:=by walk_at"o"
     have hs:su=true:=by
      cases su with
      | true=>rfl
      | false=>exact absurd (by unfold bg;rw[if_neg (by walk_at"o")];exact hi) (x2 f2 f1 rfl)
     by_cases i0:i=0
     ·refine⟨P (n-1),P (j-1),P k,.inl (by rw[hlo su i hs];unfold bg;rw[if_pos i0]),.inl (by rw[hl]),.inr rfl,?_⟩
      rw[aT];exact hT (j-1) k (n-1) (by walk_at"o") (by walk_at"o") (by walk_at"o")
     ·exact⟨P (i-1),P (j-1),P k,.inl (by rw[hlo su i hs];unfold bg;rw[if_neg i0]),.inl (by rw[hl]),.inr rfl,hT (i-1) (j-1) k (by walk_at"o") (by walk_at"o") hk⟩
  ·have jk':j<k:=by
    rcases jk with l|⟨_,f,_⟩
    ·exact l
    ·rw[f]at e3;cases e3
   by_cases i0:i=0
   ·have hl:lo n su i=n-1:=by rw[hlo su i e2];unfold bg;rw[if_pos i0]
    by_cases hk1:k<n-1
    ·refine⟨P (n-1),P j,P k,.inl (by rw[hl]),.inr rfl,.inr rfl,?_⟩
     rw[aT];exact hT j k (n-1) jk' hk1 (by walk_at"o")
    ·have hs:sw=true:=by
      cases sw with
      | true=>rfl
      | false=>exact absurd (by unfold bg;rw[if_pos i0];walk_at"o") (x1 e2 e1 rfl)
     refine⟨P (n-1),P j,P (k-1),.inl (by rw[hl]),.inr rfl,.inl (by rw[hlo sw k hs];unfold bg;rw[if_neg (by walk_at"o")]),?_⟩
     rw[aT];exact hT j (k-1) (n-1) (by walk_at"o") (by walk_at"o") (by walk_at"o")
   ·exact⟨P (i-1),P j,P k,.inl (by rw[hlo su i e2];unfold bg;rw[if_neg i0]),.inr rfl,.inr rfl,hT (i-1) j k (by walk_at"o") jk' hk⟩
theorem dg {P:Nat->Hf}{n:Nat}(hT:qR P n){k j:Nat}(hk:k<n)(hj:j<n)(h1:j≠k)(h2:j≠bg n k):0<aX (P (bg n k)) (P k) (P j):=by
 unfold bg at *
 split at h2
 ·rename_i k0;rw[if_pos k0,aT];exact hT k j (n-1) (by walk_at"o") (by walk_at"o") (by walk_at"o")
 ·rename_i k0;rw[if_neg k0]
  rcases lt_or_ge j k with l|l
  ·rw[<-aT];exact hT j (k-1) k (by walk_at"o") (by walk_at"o") hk
  ·exact hT (k-1) k j (by walk_at"o") (by walk_at"o") hj
theorem iw {P:Nat->Hf}{n:Nat}(hT:qR P n){k j:Nat}(hk:k<n)(hj:j<n):0<=aX (P (bg n k)) (P k) (P j):=by
 by_cases h1:j=k
 ·rw[h1,eA];exact Int.le_refl _
 ·by_cases h2:j=bg n k
  ·rw[h2,gC];exact Int.le_refl _
  ·exact le_of_lt (dg hT hk hj h1 h2)
theorem KW {P:Nat->Hf}{n:Nat}(hn:3<=n)(hT:qR P n){i j:Nat}(hi:i<n)(hj:j<n)(h:i≠j):P i≠P j:=fun e=>by
 obtain⟨m,hm,h1,h2⟩:∃ m,m<n/\m≠i/\m≠j:=by
  by_cases a:0≠i/\0≠j
  ·exact⟨0,by walk_at"o",a⟩
  ·by_cases b:1≠i/\1≠j
   ·exact⟨1,by walk_at"o",b⟩
   ·exact⟨2,by walk_at"o",by walk_at"o",by walk_at"o"⟩
 have sorted:∀ a b c,a<b->b<c->c<n->P a=P b\/P b=P c\/P a=P c->False:=fun a b c h1 h2 h3 e=>by
  have:=hT a b c h1 h2 h3
  rcases e with e|e|e
  ·rw[e,pF]at this;walk_at"o"
  ·rw[e,eA]at this;walk_at"o"
  ·rw[e,gC]at this;walk_at"o"
 rcases lt_trichotomy i j with l|l|l
 ·rcases lt_or_ge m i with q|q
  ·exact sorted m i j q l hj (.inr (.inl e))
  ·rcases lt_or_ge m j with q'|q'
   ·exact sorted i m j (by walk_at"o") q' hj (.inr (.inr e))
   ·exact sorted i j m l (by walk_at"o") hm (.inl e)
 ·exact h l
 ·rcases lt_or_ge m j with q|q
  ·exact sorted m j i q l hi (.inr (.inl e.symm))
  ·rcases lt_or_ge m i with q'|q'
   ·exact sorted j m i (by walk_at"o") q' hi (.inr (.inr e.symm))
   ·exact sorted j i m l (by walk_at"o") hm (.inl e.symm)
theorem cm {n k:Nat} (h:k<n):bg n k<n:=by unfold bg;split <;> walk_at"o"
theorem iE {n k:Nat}(h:3<=n)(hk:k<n):bg n k≠k/\bg n (bg n k)≠k/\bg n (bg n k)≠bg n k:=by
 unfold bg;refine⟨?_,?_,?_⟩
 ·split <;> walk_at"o"
 ·split
  ·split <;> walk_at"o"
  ·split <;> walk_at"o"
 ·split
  ·split <;> walk_at"o"
  ·split <;> walk_at"o"
def tz (F:List Hf):Prop:=∀ a b c (_:a<b) (_:b<c) (h3:c<F.length),0<aX F[a] F[b] F[c]
theorem B9 {α:Type}{R:α->α->Prop}{f:α->Hf}{L:List α}(hp:L.Pairwise R)(h:∀ x∈L,∀ y∈L,∀ z∈L,R x y->R y z->0<aX (f x) (f y) (f z)):tz (L.map f):=by
 intro a b c h1 h2 h3;rw[length_map]at h3;rw[getElem_map,getElem_map,getElem_map];rw[pairwise_iff_getElem]at hp;exact h _ (getElem_mem _) _ (getElem_mem _) _ (getElem_mem _) (hp a b (by walk_at"o") (by walk_at"o") h1) (hp b c (by walk_at"o") (by walk_at"o") h2)
theorem fT {F:List Hf}(R:Lc F):tz F:=by
 by_cases hn:F.length<3
 ·intro a b c h1 h2 h3;walk_at"o"
 have hn:3<=F.length:=by walk_at"o"
 have trn:=R.trn (by walk_at"o")
 have ne0:∀ k (hk:k<F.length),0<k->F[0]≠F[k]:=fun k hk h0 e=>by
  have:=R.fst k hk h0;rw[<-e]at this;unfold k9 at this;simp at this
 have ed:∀ k (hk:k<F.length) (h0:0<k) v,v∈F->v≠F[k]->v≠F[k-1]->0<aX F[k-1] F[k] v:=fun k hk h0 v hv h1 h2=>by
  have:=trn k hk v hv h1 (by unfold df;rw[dif_neg (by walk_at"o")];exact h2)
  unfold df at this;rw[dif_neg (by walk_at"o")]at this
  exact this
 have fan:∀ (a:Nat) (ha:a+1<F.length),(∀ c (hc:c<F.length),a+1<c->0<aX F[a] F[a+1] F[c])->(∀ c (hc:c+1<F.length),a<c->0<aX F[a] F[c] F[c+1])->∀ b c (_:a<b) (_:b<c) (hc:c<F.length),0<aX F[a] F[b] F[c]:=by
  intro a ha hA hB b c hab hbc
  induction c with
  | zero=>walk_at"o"
  | succ c ih=>
   intro hc
   by_cases e:b=c
   ·subst e;exact hB b hc hab
   ·have i1:=ih (by walk_at"o") (by walk_at"o")
    by_cases eb:b=a+1
    ·subst eb;exact hA (c+1) hc (by walk_at"o")
    ·have q1:=hA b (by walk_at"o") (by walk_at"o")
     have q2:=hA c (by walk_at"o") (by walk_at"o")
     have q3:=hA (c+1) hc (by walk_at"o")
     have q4:=hB c hc (by walk_at"o")
     have pl:=Py F[a] F[a+1] F[b] F[c] F[c+1];have m1:=mul_pos q1 q4;have m2:=mul_pos q3 i1;exact du q2 (by walk_at"o")
 have B0:∀ c (hc:c+1<F.length),0<c->0<aX F[0] F[c] F[c+1]:=fun c hc h0=>by
  have:=ed (c+1) hc (by walk_at"o") F[0] (getElem_mem _) (ne0 _ hc (by walk_at"o")) (ne0 c (by walk_at"o") h0)
  rw[<-aT]at this;exact this
 have A0:∀ c (hc:c<F.length),1<c->0<aX F[0] F[1] F[c]:=fun c hc h1=>by
  have nn:∀ c (hc:c<F.length),1<=c->0<=aX F[0] F[1] F[c]:=fun c hc h1=>by
   by_cases e:F[c]=F[1]
   ·rw[e,eA];exact Int.le_refl _
   ·exact le_of_lt (ed 1 (by walk_at"o") (by walk_at"o") F[c] (getElem_mem _) e (fun e'=>ne0 c hc (by walk_at"o") e'.symm))
  by_cases e:F[c]=F[1]
  ·exfalso;obtain⟨d,rfl⟩:∃ d,c=d+1:=⟨c-1,by walk_at"o"⟩
   have b:=B0 d hc (by walk_at"o")
   rw[e,zz]at b;have:=nn d (by walk_at"o") (by walk_at"o")
   walk_at"o"
  ·exact ed 1 (by walk_at"o") (by walk_at"o") F[c] (getElem_mem _) e (fun e'=>ne0 c hc (by walk_at"o") e'.symm)
 have T0:=fan 0 (by walk_at"o") A0 B0
 have ne:∀ b c (hb:b<F.length) (hc:c<F.length),b<c->F[b]≠F[c]:=fun b c hb hc h e=>by
  by_cases b0:b=0
  ·subst b0;exact ne0 c hc h e
  ·have:=T0 b c (by walk_at"o") h hc
   rw[e,eA]at this;walk_at"o"
 intro a b c h1 h2 h3;refine fan a (by walk_at"o") (fun c hc h=>?_) (fun c hc h=>?_) b c h1 h2 h3
 ·exact ed (a+1) (by walk_at"o") (by walk_at"o") F[c] (getElem_mem _) (fun e=>ne (a+1) c (by walk_at"o") hc h e.symm) (fun e=>ne a c (by walk_at"o") hc (by walk_at"o") e.symm)
 ·have:=ed (c+1) hc (by walk_at"o") F[a] (getElem_mem _) (ne a (c+1) (by walk_at"o") hc (by walk_at"o")) (ne a c (by walk_at"o") (by walk_at"o") h)
  rw[<-aT]at this;exact this
theorem yt {F:List Hf}(hT:tz F)(h2:2<F.length)(k:Nat)(hk:k<F.length)(v:Hf)(hv:v∈F)(h1:v≠F[k])(h3:v≠df F k hk):0<aX (df F k hk) F[k] v:=by
 obtain⟨j,hj,rfl⟩:=getElem_of_mem hv;have hP:qR (fun i=>F.getD i (0,0,0)) F.length:=fun a b c q1 q2 q3=>by
  have:=hT a b c q1 q2 q3;simp only[getD_eq_getElem?_getD,getElem?_eq_getElem (show a<F.length by walk_at"o"),getElem?_eq_getElem (show b<F.length by walk_at"o"),getElem?_eq_getElem q3,Option.getD_some]
  exact this
 have g:∀ i (hi:i<F.length),F.getD i (0,0,0)=F[i]:=fun i hi=>by simp[getD_eq_getElem?_getD,getElem?_eq_getElem hi]
 have hpv:df F k hk=F.getD (bg F.length k) (0,0,0):=by
  rw[g _ (cm hk)];unfold df bg
  split <;> rename_i e
  ·simp[e]
  ·simp[e]
 rw[hpv]at h3 ⊢;have:=dg hP hk hj (fun e=>h1 (by subst e;rfl)) (fun e=>h3 (by rw[<-e,g _ hj]))
 rw[g _ hj,g _ hk]at this;exact this
end Law
namespace Law
open L2 DL
set_option maxHeartbeats 1000000
def ic (x:Int):Int:=if x<0 then -x else x
theorem mJ {x:Int}(h:x≠0):0<ic x:=by unfold ic;split <;> omega
def KQ (p q:Fr)(a b:Int):Fr:=lE (p.1*q.2*a+q.1*p.2*b) (p.2*q.2*(a+b))
def dF (h:Hf)(p q:aD):aD:=(KQ p.1 q.1 (ic (aY h q)*(p.1.2*p.2.2)) (ic (aY h p)*(q.1.2*q.2.2)),KQ p.2 q.2 (ic (aY h q)*(p.1.2*p.2.2)) (ic (aY h p)*(q.1.2*q.2.2)))
theorem Ab (p q:Fr)(a b:Int):KQ p q a b=KQ q p b a:=by
 unfold KQ;have e1:p.1*q.2*a+q.1*p.2*b=q.1*p.2*b+p.1*q.2*a:=Int.add_comm _ _;have e2:p.2*q.2*(a+b)=q.2*p.2*(b+a):=by rw[mul_comm p.2,Int.add_comm a]
 rw[e1,e2]
theorem n8 (h:Hf)(p q:aD):dF h p q=dF h q p:=by
 unfold dF;rw[Ab p.1,Ab p.2]
theorem zG {a b:Int}(hb:0<b):∃ g:Int,0<g/\a=g*(lE a b).1/\b=g*(lE a b).2:=by
 have hg:0<(Int.gcd a b:Int):=by have:=gD (a:=a) (b:=b) (.inr (by omega));omega
 have hc:lr a b=(Int.gcd a b:Int):=by unfold lr;rw[if_neg (by omega)]
 obtain⟨d1,d2⟩:=yZ a b;have e1:=b9 d1;have e2:=b9 d2;refine⟨lr a b,by omega,?_,?_⟩
 ·unfold lE;dsimp only;rw[mul_comm];exact e1.symm
 ·unfold lE;dsimp only;rw[mul_comm];exact e2.symm
theorem Sn (px0 px1 py1 qx0 qx1 qy1 A B:Int):(px0*qx1*(A*(px1*py1))+qx0*px1*(B*(qx1*qy1)))*(py1*qy1*(A*(px1*py1)+B*(qx1*qy1)))=(A*(px1*py1)+B*(qx1*qy1))*(px1*py1*(qx1*qy1))*(A*(px0*py1)+B*(qx0*qy1)):=by grind
theorem So (py0 px1 py1 qy0 qx1 qy1 A B:Int):(py0*qy1*(A*(px1*py1))+qy0*py1*(B*(qx1*qy1)))*(px1*qx1*(A*(px1*py1)+B*(qx1*qy1)))=(A*(px1*py1)+B*(qx1*qy1))*(px1*py1*(qx1*qy1))*(A*(py0*px1)+B*(qy0*qx1)):=by grind
theorem Sq (px1 py1 qx1 qy1 A B:Int):px1*qx1*(A*(px1*py1)+B*(qx1*qy1))*(py1*qy1*(A*(px1*py1)+B*(qx1*qy1)))=(A*(px1*py1)+B*(qx1*qy1))*(px1*py1*(qx1*qy1))*(A*(px1*py1)+B*(qx1*qy1)):=by grind
theorem y8 {h:Hf}{p q:aD}(op:bC p)(oq:bC q)(hp:aY h p≠0)(hq:aY h q≠0) :
  bC (dF h p q)/\∃ κ c:Int,0<κ/\0<c/\κ*(ag (dF h p q)).1=c*(ic (aY h q)*(ag p).1+ic (aY h p)*(ag q).1)/\κ*(ag (dF h p q)).2.1=c*(ic (aY h q)*(ag p).2.1+ic (aY h p)*(ag q).2.1)/\κ*(ag (dF h p q)).2.2=c*(ic (aY h q)*(ag p).2.2+ic (aY h p)*(ag q).2.2):=by
 obtain⟨⟨px0,px1⟩,⟨py0,py1⟩⟩:=p;obtain⟨⟨qx0,qx1⟩,⟨qy0,qy1⟩⟩:=q;have p1:0<px1:=op.1.1;have p2:0<py1:=op.2.1;have q1:0<qx1:=oq.1.1;have q2:0<qy1:=oq.2.1;have A0:=mJ hq;have B0:=mJ hp;unfold dF ag;generalize ic (aY h ((qx0,qx1),qy0,qy1))=A at A0;generalize ic (aY h ((px0,px1),py0,py1))=B at B0;unfold KQ;dsimp only;have pp:0<px1*py1:=mul_pos p1 p2;have qq:0<qx1*qy1:=mul_pos q1 q2;have W0:0<A*(px1*py1)+B*(qx1*qy1):=by
  have:=mul_pos A0 pp;have:=mul_pos B0 qq;omega
 have bx:0<px1*qx1*(A*(px1*py1)+B*(qx1*qy1)):=mul_pos (mul_pos p1 q1) W0;have by':0<py1*qy1*(A*(px1*py1)+B*(qx1*qy1)):=mul_pos (mul_pos p2 q2) W0
 have ox:=Ef (a:=px0*qx1*(A*(px1*py1))+qx0*px1*(B*(qx1*qy1))) (b:=px1*qx1*(A*(px1*py1)+B*(qx1*qy1))) (by omega)
 have oy:=Ef (a:=py0*qy1*(A*(px1*py1))+qy0*py1*(B*(qx1*qy1))) (b:=py1*qy1*(A*(px1*py1)+B*(qx1*qy1))) (by omega)
 obtain⟨gx,gx0,ex1,ex2⟩:=zG (a:=px0*qx1*(A*(px1*py1))+qx0*px1*(B*(qx1*qy1))) bx;obtain⟨gy,gy0,ey1,ey2⟩:=zG (a:=py0*qy1*(A*(px1*py1))+qy0*py1*(B*(qx1*qy1))) by'
 refine⟨⟨ox,oy⟩,gx*gy,(A*(px1*py1)+B*(qx1*qy1))*(px1*py1*(qx1*qy1)),mul_pos gx0 gy0,mul_pos W0 (mul_pos pp qq),?_,?_,?_⟩
 ·rw[show ∀ a d:Int,gx*gy*(a*d)=gx*a*(gy*d) from fun a d=>by grind,<-ex1,<-ey2]
  exact Sn ..
 ·rw[show ∀ a d:Int,gx*gy*(a*d)=gy*a*(gx*d) from fun a d=>by grind,<-ey1,<-ex2]
  exact So ..
 ·rw[show ∀ a d:Int,gx*gy*(a*d)=gx*a*(gy*d) from fun a d=>by grind,<-ex2,<-ey2]
  exact Sq ..
theorem eJ (h:Hf)(s:aD):aY h s=h.1*(ag s).1+h.2.1*(ag s).2.1-h.2.2*(ag s).2.2:=by
 unfold aY ag;dsimp only;grind
def i8 (h:Hf)(p q:aD):Prop:=sgn (aY h p)*sgn (aY h q)<0
def mG (h:Hf)(q:aD):Prop:=sgn (aY h q)>=0
instance (h:Hf) (p q:aD):Decidable (i8 h p q):=inferInstanceAs (Decidable (_<_))
instance (h:Hf) (q:aD):Decidable (mG h q):=inferInstanceAs (Decidable (_>=_))
theorem ca {h:Hf}{p q:aD}:i8 h p q↔(0<aY h p/\aY h q<0)\/(aY h p<0/\0<aY h q):=by
 unfold i8 sgn
 by_cases a:aY h p>0
 ·by_cases b:aY h q>0
  ·simp[a,b] <;> omega
  ·by_cases c:aY h q<0
   ·simp[a,b,c]
   ·simp[a,b,c] <;> omega
 ·by_cases a':aY h p<0
  ·by_cases b:aY h q>0
   ·simp[a,a',b]
   ·by_cases c:aY h q<0
    ·simp[a,a',b,c]
    ·simp[a,a',b,c]
  ·simp[a,a']
theorem bV {h:Hf}{q:aD}:mG h q↔0<=aY h q:=by
 unfold mG sgn
 split
 ·simp;omega
 ·split <;> simp <;> omega
theorem gB {h:Hf}{p q:aD}(op:bC p)(oq:bC q)(ho:i8 h p q):bC (dF h p q)/\vq (ag (dF h p q)) (ag p) (ag q)/\aY h (dF h p q)=0:=by
 have ho:=ca.mp ho;have hp:aY h p≠0:=by omega
 have hq:aY h q≠0:=by omega
 obtain⟨ok,κ,c,k0,c0,e1,e2,e3⟩:=y8 op oq hp hq;have A0:=mJ hq;have B0:=mJ hp;refine⟨ok,⟨κ,c*ic (aY h q),c*ic (aY h p),k0,mul_pos c0 A0,mul_pos c0 B0,by rw[e1];grind,by rw[e2];grind,by rw[e3];grind⟩,?_⟩
 have z:ic (aY h q)*aY h p+ic (aY h p)*aY h q=0:=by
  rcases ho with ⟨a,b⟩|⟨a,b⟩
  ·have x1:ic (aY h q)=-aY h q:=by unfold ic;rw[if_pos b]
   have x2:ic (aY h p)=aY h p:=by unfold ic;rw[if_neg (by omega)]
   rw[x1,x2];grind
  ·have x1:ic (aY h q)=aY h q:=by unfold ic;rw[if_neg (by omega)]
   have x2:ic (aY h p)=-aY h p:=by unfold ic;rw[if_pos a]
   rw[x1,x2];grind
 have k:κ*aY h (dF h p q)=c*(ic (aY h q)*aY h p+ic (aY h p)*aY h q):=by
  rw[eJ h (dF h p q)];generalize ag (dF h p q)=f at e1 e2 e3;have t:κ*(h.1*f.1+h.2.1*f.2.1-h.2.2*f.2.2)=h.1*(κ*f.1)+h.2.1*(κ*f.2.1)-h.2.2*(κ*f.2.2):=by grind
  rw[t,e1,e2,e3];generalize ic (aY h q)=A;generalize ic (aY h p)=B;rw[eJ h p,eJ h q];grind
 rw[z,mul_zero]at k
 rcases mul_eq_zero.mp k with z|z
 ·omega
 ·exact z
theorem lR {x a y b z c:Int}(hb:0<b)(ha:0<a)(hc:0<c)(h1:x*b<=y*a)(h2:y*c<=z*b):x*c<=z*a/\((x*b<y*a\/y*c<z*b)->x*c<z*a):=by
 have m1:=mul_le_mul_of_nonneg_right h1 (le_of_lt hc);have m2:=mul_le_mul_of_nonneg_right h2 (le_of_lt ha);have t1:x*b*c=x*c*b:=by grind
 have t2:z*b*a=z*a*b:=by grind
 have t3:y*a*c=y*c*a:=by grind
 refine⟨Int.le_of_mul_le_mul_right (show x*c*b<=z*a*b by omega) hb,fun h=>Int.lt_of_mul_lt_mul_right (a:=b) ?_ (le_of_lt hb)⟩
 rcases h with h|h
 ·have:=Int.mul_lt_mul_of_pos_right h hc;omega
 ·have:=Int.mul_lt_mul_of_pos_right h ha;omega
def Bf (a b:Hf):Prop:=a.1*b.2.2<b.1*a.2.2\/(a.1*b.2.2=b.1*a.2.2/\a.2.1*b.2.2<b.2.1*a.2.2)
theorem fg {a b:Hf}:k9 a b=true↔Bf a b:=by
 unfold k9 Bf
 split
 ·rw[decide_eq_true_eq];omega
 ·rw[decide_eq_true_eq];omega
theorem bQ {a b:Hf}:k9 a b=false↔¬ Bf a b:=by
 rw[<-fg]
 cases k9 a b <;> simp
theorem Bf.trans {a b c:Hf}(ha:0<a.2.2)(hb:0<b.2.2)(hc:0<c.2.2)(h1:Bf a b)(h2:Bf b c):Bf a c:=by
 unfold Bf at *
 rcases h1 with h1|⟨h1,h1'⟩
 ·left
  refine(lR hb ha hc (le_of_lt h1) ?_).2 (.inl h1);omega
 ·rcases h2 with h2|⟨h2,h2'⟩
  ·left
   exact(lR hb ha hc (by omega) (le_of_lt h2)).2 (.inr h2)
  ·right
   have k1:=(lR (x:=a.1) (y:=b.1) (z:=c.1) hb ha hc (by omega) (by omega)).1
   have k2:=(lR (x:=-a.1) (y:=-b.1) (z:=-c.1) hb ha hc (by rw[neg_mul,neg_mul];omega) (by rw[neg_mul,neg_mul];omega)).1
   rw[neg_mul,neg_mul]at k2;exact⟨by omega,(lR hb ha hc (le_of_lt h1') (le_of_lt h2')).2 (.inl h1')⟩
theorem Bf.irr (a:Hf):¬ Bf a a:=by unfold Bf;omega
theorem Bf.asym {a b:Hf}(h:Bf a b):¬ Bf b a:=by unfold Bf at *;omega
theorem cf {s:aD}(h:bC s):0<(ag s).2.2:=mul_pos h.1.1 h.2.1
theorem CQ {p q:aD}(hp:bC p)(hq:bC q)(h:p≠q):Bf (ag p) (ag q)\/Bf (ag q) (ag p):=by
 by_cases a:Bf (ag p) (ag q)
 ·exact .inl a
 ·right
  by_cases b:Bf (ag q) (ag p)
  ·exact b
  ·exfalso;apply h;unfold Bf ag at a b;have x1:0<p.2.2:=hp.2.1;have x2:0<q.2.2:=hq.2.1;have x3:0<p.1.2:=hp.1.1;have x4:0<q.1.2:=hq.1.1;dsimp only at a b;have e1:p.1.1*p.2.2*(q.1.2*q.2.2)=q.1.1*q.2.2*(p.1.2*p.2.2):=by omega
   have e2:p.2.1*p.1.2*(q.1.2*q.2.2)=q.2.1*q.1.2*(p.1.2*p.2.2):=by omega
   refine Prod.ext (zF hp.1 hq.1 ?_) (zF hp.2 hq.2 ?_)
   ·refine eq_of_mul_eq_mul_right (a:=p.2.2*q.2.2) (by have:=mul_pos x1 x2;omega) ?_
    have t1:p.1.1*q.1.2*(p.2.2*q.2.2)=p.1.1*p.2.2*(q.1.2*q.2.2):=by grind
    have t2:q.1.1*p.1.2*(p.2.2*q.2.2)=q.1.1*q.2.2*(p.1.2*p.2.2):=by grind
    rw[t1,t2,e1]
   ·refine eq_of_mul_eq_mul_right (a:=p.1.2*q.1.2) (by have:=mul_pos x3 x4;omega) ?_
    have t1:p.2.1*q.2.2*(p.1.2*q.1.2)=p.2.1*p.1.2*(q.1.2*q.2.2):=by grind
    have t2:q.2.1*p.2.2*(p.1.2*q.1.2)=q.2.1*q.1.2*(p.1.2*p.2.2):=by grind
    rw[t1,t2,e2]
theorem MZ {u p q:Hf}(h:vq u p q)(hp:0<p.2.2)(hq:0<q.2.2)(hb:Bf p q):¬ Bf u p/\¬ Bf q u:=by
 obtain⟨κ,α,β,k0,a0,b0,e1,e2,e3⟩:=h;have i1:κ*(u.1*p.2.2-p.1*u.2.2)=β*(q.1*p.2.2-p.1*q.2.2):=by
  have t:κ*(u.1*p.2.2-p.1*u.2.2)=κ*u.1*p.2.2-p.1*(κ*u.2.2):=by grind
  rw[t,e1,e3];grind
 have i2:κ*(u.2.1*p.2.2-p.2.1*u.2.2)=β*(q.2.1*p.2.2-p.2.1*q.2.2):=by
  have t:κ*(u.2.1*p.2.2-p.2.1*u.2.2)=κ*u.2.1*p.2.2-p.2.1*(κ*u.2.2):=by grind
  rw[t,e2,e3];grind
 have i3:κ*(q.1*u.2.2-u.1*q.2.2)=α*(q.1*p.2.2-p.1*q.2.2):=by
  have t:κ*(q.1*u.2.2-u.1*q.2.2)=q.1*(κ*u.2.2)-κ*u.1*q.2.2:=by grind
  rw[t,e1,e3];grind
 have i4:κ*(q.2.1*u.2.2-u.2.1*q.2.2)=α*(q.2.1*p.2.2-p.2.1*q.2.2):=by
  have t:κ*(q.2.1*u.2.2-u.2.1*q.2.2)=q.2.1*(κ*u.2.2)-κ*u.2.1*q.2.2:=by grind
  rw[t,e2,e3];grind
 have sg:∀ {γ d e:Int},0<γ->κ*d=γ*e->(0<e->0<d)/\(e=0->d=0):=fun {γ d e} g0 ee=>⟨fun h=>du k0 (by rw[ee];exact mul_pos g0 h),fun h=>by
  rw[h,mul_zero]at ee
  rcases mul_eq_zero.mp ee with z|z
  ·omega
  ·exact z⟩
 have s1:=sg b0 i1;have s2:=sg b0 i2;have s3:=sg a0 i3;have s4:=sg a0 i4;unfold Bf at *
 rcases hb with hb|⟨hb,hb'⟩
 ·have:=s1.1 (by omega)
  have:=s3.1 (by omega)
  omega
 ·have:=s1.2 (by omega)
  have:=s3.2 (by omega)
  have:=s2.1 (by omega)
  have:=s4.1 (by omega)
  omega
def Kw (Q:Hf->Prop)(l:Hf)(s:aD):Prop:=Q l/\(l.1≠0\/l.2.1≠0)/\aY l s=0
abbrev Ov (l:Hf)(s:aD):Prop:=Kw (dk 300) l s
def Cn (s:aD):Prop:=∃ l m:Hf,Ov l s/\Ov m s/\l.1*m.2.1-l.2.1*m.1≠0
def Cj (Q:Hf->Prop)(p q:aD):Prop:=∃ l:Hf,Kw Q l p/\Kw Q l q
abbrev Lk (p q:aD):Prop:=Cj (dk 300) p q
theorem KH {f:Fr}{N D:Int}{n:Nat}(hf:qQ f)(hD:D≠0)(h:D*f.1=N*f.2)(zN:Sz n N)(zD:Sz n D):SzF n f:=by
 obtain⟨f0,f1⟩:=hf;have d1:f.2 ∣ D:=n6 f1 ⟨N,by rw[mul_comm,h,mul_comm]⟩
 have d2:f.1 ∣ N:=by
  refine n6 (a:=f.2) (b:=f.1) (by rw[Int.gcd_comm];exact f1) ⟨D,by rw[mul_comm,<-h,mul_comm]⟩
 constructor
 ·by_cases e:N=0
  ·rw[e,zero_mul]at h
   rcases mul_eq_zero.mp h with z|z
   ·exact absurd z hD
   ·rw[z];exact⟨Nat.two_pow_pos n⟩
  ·exact⟨lt_of_le_of_lt (Nat.le_of_dvd (by omega) (natAbs_dvd_natAbs.mpr d2)) zN.lt⟩
 ·exact⟨lt_of_le_of_lt (Nat.le_of_dvd (by omega) (natAbs_dvd_natAbs.mpr d1)) zD.lt⟩
theorem Pp {s:aD}(ok:bC s)(h:Cn s):fe 602 s:=by
 obtain⟨l,m,⟨zl,_,el⟩,⟨zm,_,em⟩,hD⟩:=h;rw[eJ]at el em;unfold ag at el em;dsimp only at el em;have x1:0<s.1.2:=ok.1.1;have x2:0<s.2.2:=ok.2.1;have zD:Sz 602 (l.1*m.2.1-l.2.1*m.1):=(Sz.sub (Sz.mul zl.1 zm.2.1) (Sz.mul zl.2.1 zm.1)).mono (by decide)
 have zX:Sz 602 (l.2.2*m.2.1-m.2.2*l.2.1):=(Sz.sub (Sz.mul zl.2.2 zm.2.1) (Sz.mul zm.2.2 zl.2.1)).mono (by decide)
 have zY:Sz 602 (l.1*m.2.2-m.1*l.2.2):=(Sz.sub (Sz.mul zl.1 zm.2.2) (Sz.mul zm.1 zl.2.2)).mono (by decide)
 refine⟨KH ok.1 hD (N:=l.2.2*m.2.1-m.2.2*l.2.1) ?_ zX zD,KH ok.2 hD (N:=l.1*m.2.2-m.1*l.2.2) ?_ zY zD⟩
 ·refine eq_of_mul_eq_mul_right (a:=s.2.2) (by omega) ?_
  grind
 ·refine eq_of_mul_eq_mul_right (a:=s.1.2) (by omega) ?_
  grind
theorem xC {Q:Hf->Prop}{h l:Hf}{p q:aD}(op:bC p)(oq:bC q)(ho:i8 h p q)(hp:Kw Q l p)(hq:Kw Q l q):Kw Q l (dF h p q):=by
 refine⟨hp.1,hp.2.1,?_⟩;obtain⟨_,⟨κ,α,β,k0,a0,b0,e1,e2,e3⟩,_⟩:=gB op oq ho;have ep:=hp.2.2;have eq:=hq.2.2;rw[eJ]at ep eq ⊢;generalize ag (dF h p q)=f at *;have t:κ*(l.1*f.1+l.2.1*f.2.1-l.2.2*f.2.2)=l.1*(κ*f.1)+l.2.1*(κ*f.2.1)-l.2.2*(κ*f.2.2):=by grind
 have t2:κ*(l.1*f.1+l.2.1*f.2.1-l.2.2*f.2.2)=α*(l.1*(ag p).1+l.2.1*(ag p).2.1-l.2.2*(ag p).2.2)+β*(l.1*(ag q).1+l.2.1*(ag q).2.1-l.2.2*(ag q).2.2):=by
  rw[t,e1,e2,e3];grind
 rw[ep,eq,mul_zero,mul_zero]at t2
 rcases mul_eq_zero.mp (show κ*(l.1*f.1+l.2.1*f.2.1-l.2.2*f.2.2)=0 by omega) with z|z
 ·omega
 ·exact z
theorem KA {h:Hf}{p q:aD}(op:bC p)(oq:bC q)(ho:i8 h p q)(zh:dk 300 h)(nh:h.1≠0\/h.2.1≠0)(hl:Lk p q):Cn (dF h p q):=by
 obtain⟨l,lp,lq⟩:=hl;refine⟨l,h,xC op oq ho lp lq,⟨zh,nh,(gB op oq ho).2.2⟩,fun e=>?_⟩;have ep:=lp.2.2;have eq:=lq.2.2;have z1:=cf op;have z2:=cf oq;have ho:=ca.mp ho;rw[eJ]at ep eq;rw[eJ,eJ]at ho;generalize ag p=u at *;generalize ag q=v at *;have n:=lp.2.1;have a1:v.2.2*(h.1*u.1+h.2.1*u.2.1-h.2.2*u.2.2)=u.2.2*(h.1*v.1+h.2.1*v.2.1-h.2.2*v.2.2):=by
  have b1:l.1*(v.2.2*(h.1*u.1+h.2.1*u.2.1-h.2.2*u.2.2)-u.2.2*(h.1*v.1+h.2.1*v.2.1-h.2.2*v.2.2))=0:=by grind
  have b2:l.2.1*(v.2.2*(h.1*u.1+h.2.1*u.2.1-h.2.2*u.2.2)-u.2.2*(h.1*v.1+h.2.1*v.2.1-h.2.2*v.2.2))=0:=by grind
  rcases n with n|n
  ·rcases mul_eq_zero.mp b1 with z|z
   ·exact absurd z n
   ·omega
  ·rcases mul_eq_zero.mp b2 with z|z
   ·exact absurd z n
   ·omega
 rcases ho with ⟨o1,o2⟩|⟨o1,o2⟩
 ·have:=mul_pos z2 o1;have:=mul_neg_of_pos_of_neg z1 o2;omega
 ·have:=mul_neg_of_pos_of_neg z2 o1;have:=mul_pos z1 o2;omega
theorem zV {h u v w:Hf}(nh:h.1≠0\/h.2.1≠0)(hu:h.1*u.1+h.2.1*u.2.1-h.2.2*u.2.2=0)(hv:h.1*v.1+h.2.1*v.2.1-h.2.2*v.2.2=0)(hw:h.1*w.1+h.2.1*w.2.1-h.2.2*w.2.2=0):aX u v w=0:=by
 unfold aX
 rcases nh with n|n
 ·refine(mul_eq_zero.mp (show h.1*_=0 from ?_)).resolve_left n;grind
 ·refine(mul_eq_zero.mp (show h.2.1*_=0 from ?_)).resolve_left n;grind
end Law
namespace Law
open L2 DL
set_option maxHeartbeats 1000000
def s0:aD:=((0,1),(0,1))
def sL (L:List aD):List (aD × aD):=(List.range L.length).map fun k=>if hk:k<L.length then (df L k hk,L[k]) else (((0,0),(0,0)),((0,0),(0,0)))
def qP (h:Hf)(ks:List aD)(x:aD × aD):List aD:=
 if mG h x.2 then (if i8 h x.1 x.2/\¬ dF h x.1 x.2∈ks then ks++[dF h x.1 x.2] else ks)++[x.2] else (if i8 h x.1 x.2/\¬ dF h x.1 x.2∈ks then ks++[dF h x.1 x.2] else ks)
def gR (h:Hf)(L:List aD):List aD:=(sL L).foldl (qP h) []
def gt (L:List aD)(i:Nat):aD:=L.getD i s0
theorem bD {L:List aD}{i:Nat}(h:i<L.length):gt L i=L[i]:=by unfold gt;simp[getD_eq_getElem?_getD,getElem?_eq_getElem h]
theorem iD {L:List aD}{k:Nat}(hk:k<L.length):df L k hk=gt L (bg L.length k):=by
 rw[bD (cm hk)];unfold df bg
 split <;> rename_i e
 ·simp[e]
 ·simp[e]
theorem yq (L:List aD):sL L=(List.range L.length).map fun k=>(gt L (bg L.length k),gt L k):=by
 unfold sL;refine map_congr_left fun k hk=>?_;have hk:=mem_range.mp hk;rw[dif_pos hk,iD hk,bD hk]
abbrev Itm:=Nat × Bool × aD
def KM (h:Hf)(G:Nat->aD)(n i:Nat):List Itm:=(if i8 h (G (bg n i)) (G i) then [(i,true,dF h (G (bg n i)) (G i))] else [])++(if mG h (G i) then [(i,false,G i)] else [])
def KI (h:Hf)(G:Nat->aD)(n m:Nat):List Itm:=(List.range m).flatMap (KM h G n)
def Is (h:Hf)(G:Nat->aD)(n:Nat)(x:Itm):Prop:=(x.2.1=true/\i8 h (G (bg n x.1)) (G x.1)/\x.2.2=dF h (G (bg n x.1)) (G x.1))\/(x.2.1=false/\mG h (G x.1)/\x.2.2=G x.1)
theorem ou {h:Hf}{G:Nat->aD}{n i:Nat}{x:Itm}:x∈KM h G n i↔x.1=i/\Is h G n x:=by
 unfold KM Is;obtain⟨j,b,s⟩:=x;constructor
 ·intro hx
  rcases mem_append.mp hx with hx|hx
  ·split at hx
   ·rename_i ho;simp only[mem_singleton,Prod.mk.injEq]at hx;obtain⟨rfl,rfl,rfl⟩:=hx;exact⟨rfl,.inl ⟨rfl,ho,rfl⟩⟩
   ·cases hx
  ·split at hx
   ·rename_i hk;simp only[mem_singleton,Prod.mk.injEq]at hx;obtain⟨rfl,rfl,rfl⟩:=hx;exact⟨rfl,.inr ⟨rfl,hk,rfl⟩⟩
   ·cases hx
 ·rintro⟨e,hx⟩;dsimp only at e hx;subst e
  rcases hx with ⟨rfl,ho,rfl⟩|⟨rfl,hk,rfl⟩
  ·rw[if_pos ho];simp
  ·rw[if_pos hk];simp
theorem ck {h:Hf}{G:Nat->aD}{n m:Nat}{x:Itm}:x∈KI h G n m↔x.1<m/\Is h G n x:=by
 unfold KI;rw[List.mem_flatMap];constructor
 ·rintro⟨i,hi,hx⟩;obtain⟨e,h⟩:=ou.mp hx;rw[e];exact⟨mem_range.mp hi,h⟩
 ·rintro⟨hi,h⟩;exact⟨x.1,mem_range.mpr hi,ou.mpr ⟨rfl,h⟩⟩
def RI (x y:Itm):Prop:=x.1<y.1\/(x.1=y.1/\x.2.1=true/\y.2.1=false)
theorem wL (h:Hf)(G:Nat->aD)(n m:Nat):(KI h G n m).Pairwise RI:=by
 unfold KI;rw[List.pairwise_flatMap];refine⟨fun i _=>?_,List.pairwise_lt_range.imp fun hab x hx y hy=>.inl (by rw[(ou.mp hx).1,(ou.mp hy).1];exact hab)⟩
 unfold KM
 split <;> split <;> simp[RI]
theorem yP (h:Hf)(G:Nat->aD)(n m:Nat):KI h G n (m+1)=KI h G n m++KM h G n m:=by
 unfold KI;rw[range_succ,List.flatMap_append];simp
section
variable {h:Hf}{G:Nat->aD}{n:Nat} (hn:3<=n) (ok:∀ i,i<n->bC (G i)) (hT:qR (fun i=>ag (G i)) n)
include hn ok hT
theorem v8 {x:Itm}(hx:x.1<n)(hi:Is h G n x):bC x.2.2/\vq (ag x.2.2) (ag (G (lo n x.2.1 x.1))) (ag (G x.1))/\0<=aY h x.2.2:=by
 rcases hi with ⟨e,ho,e2⟩|⟨e,hk,e2⟩
 ·obtain⟨a,b,c⟩:=gB (ok _ (cm hx)) (ok _ hx) ho;rw[e2,e];refine⟨a,?_,by omega⟩
  unfold lo;rw[if_pos rfl];exact b
 ·rw[e2,e];refine⟨ok _ hx,?_,bV.mp hk⟩;unfold lo;rw[if_neg (by decide)]
  exact lO _
theorem G3:tz ((KI h G n n).map fun x=>ag x.2.2):=by
 refine B9 (wL h G n n) fun x hx y hy z hz rxy ryz=>?_;obtain⟨xn,hx⟩:=ck.mp hx;obtain⟨yn,hy⟩:=ck.mp hy;obtain⟨zn,hz⟩:=ck.mp hz;refine RS (P:=fun i=>ag (G i)) hn hT (v8 hn ok hT xn hx).2.1 (v8 hn ok hT yn hy).2.1 (v8 hn ok hT zn hz).2.1 zn rxy ryz ?_ ?_
 ·intro e1 e2 e3 e4
  rcases hx with ⟨_,ho,_⟩|⟨e,_⟩
  ·have y2:mG h (G y.1):=by
    rcases hy with ⟨e,_⟩|⟨_,k,_⟩
    ·rcases rxy with l|⟨_,_,l⟩
     ·omega
     ·rw[e]at l;cases l
    ·exact k
   have z2:mG h (G z.1):=by
    rcases hz with ⟨e,_⟩|⟨_,k,_⟩
    ·rw[e]at e3;cases e3
    ·exact k
   rw[<-e2]at y2;rw[e4]at z2;have:=ca.mp ho;have:=bV.mp y2;have:=bV.mp z2;omega
  ·rw[e]at e1;cases e1
 ·intro e1 e2 e3 e4
  rcases hy with ⟨_,ho,_⟩|⟨e,_⟩
  ·have x2:mG h (G x.1):=by
    rcases hx with ⟨e,_⟩|⟨_,k,_⟩
    ·rw[e]at e3;cases e3
    ·exact k
   have z2:mG h (G z.1):=by
    rcases hz with ⟨e,_⟩|⟨_,k,_⟩
    ·rcases ryz with l|⟨_,_,l⟩
     ·omega
     ·rw[e]at l;cases l
    ·exact k
   rw[e4]at x2;rw[<-e2]at z2;have:=ca.mp ho;have:=bV.mp x2;have:=bV.mp z2;omega
  ·rw[e]at e1;cases e1
theorem GG {i j:Nat}(hi:i<n)(hj:j<n)(ho:i8 h (G (bg n i)) (G i)):dF h (G (bg n i)) (G i)≠G j:=fun e=>by
 obtain⟨_,b,c⟩:=gB (ok _ (cm hi)) (ok _ hi) ho;have o:=ca.mp ho
 by_cases h1:j=i
 ·rw[e,h1]at c;omega
 by_cases h2:j=bg n i
 ·rw[e,h2]at c;omega
 have:=dg (P:=fun i=>ag (G i)) hT hi hj h1 h2;have z:=qc b;rw[e]at z;omega
theorem NU {i j:Nat}(hi:i<n)(hj:j<n)(hij:i≠j)(ho:i8 h (G (bg n i)) (G i))(ho':i8 h (G (bg n j)) (G j)):dF h (G (bg n i)) (G i)≠dF h (G (bg n j)) (G j):=fun e=>by
 obtain⟨_,b,_⟩:=gB (ok _ (cm hi)) (ok _ hi) ho;obtain⟨_,b',_⟩:=gB (ok _ (cm hj)) (ok _ hj) ho';have z:=qc b;rw[e]at z;have n1:=iw (P:=fun i=>ag (G i)) hT hi hj;have n2:=iw (P:=fun i=>ag (G i)) hT hi (cm hj);have pos:0<aX (ag (G (bg n i))) (ag (G i)) (ag (dF h (G (bg n j)) (G j))):=by
  rw[<-aT];refine ow b' _ _ (by rw[aT];exact n2) (by rw[aT];exact n1) ?_
  by_cases h2:j=bg n i
  ·left
   rw[aT];have q:=iE hn hi;exact dg (P:=fun i=>ag (G i)) hT hi (cm hj) (by rw[h2];exact q.2.1) (by rw[h2];exact q.2.2)
  ·right
   rw[aT];exact dg (P:=fun i=>ag (G i)) hT hi hj (fun e=>hij e.symm) h2
 omega
theorem KN {x y:Itm}(xn:x.1<n)(yn:y.1<n)(hx:Is h G n x)(hy:Is h G n y)(r:RI x y):x.2.2≠y.2.2:=by
 rcases hx with ⟨ex,ox,px⟩|⟨ex,kx,px⟩
 ·rcases hy with ⟨ey,oy,py⟩|⟨ey,ky,py⟩
  ·rw[px,py];refine NU hn ok hT xn yn ?_ ox oy
   rcases r with r|⟨_,_,r⟩
   ·omega
   ·rw[ey]at r;cases r
  ·rw[px,py];exact GG hn ok hT xn yn ox
 ·rcases hy with ⟨ey,oy,py⟩|⟨ey,ky,py⟩
  ·rw[px,py];exact fun e=>GG hn ok hT yn xn oy e.symm
  ·rw[px,py];have:x.1≠y.1:=by
    rcases r with r|⟨_,r,_⟩
    ·omega
    ·rw[ex]at r;cases r
   exact fun e=>KW (P:=fun i=>ag (G i)) hn hT xn yn this (congrArg ag e)
theorem oi:∀ m,m<=n->((List.range m).map fun k=>(G (bg n k),G k)).foldl (qP h) []=(KI h G n m).map (·.2.2)
 | 0,_=>rfl
 | m+1,hm=>by
  rw[range_succ,map_append,foldl_append,oi m (by omega),yP,map_append]
  show qP h _ (G (bg n m),G m)=_;unfold qP KM;dsimp only;have hnot:i8 h (G (bg n m)) (G m)->¬ dF h (G (bg n m)) (G m)∈(KI h G n m).map (·.2.2):=fun ho hmem=>by
   obtain⟨y,hy,e⟩:=mem_map.mp hmem;obtain⟨yn,hy⟩:=ck.mp hy;exact KN hn ok hT (x:=y) (y:=(m,true,dF h (G (bg n m)) (G m))) (by omega) (show m<n by omega) hy (.inl ⟨rfl,ho,rfl⟩) (.inl yn) e
  by_cases ho:i8 h (G (bg n m)) (G m)
  ·have c:i8 h (G (bg n m)) (G m)/\¬ dF h (G (bg n m)) (G m)∈(KI h G n m).map (·.2.2):=⟨ho,hnot ho⟩
   by_cases hk:mG h (G m)
   ·rw[if_pos hk,if_pos c,if_pos ho,if_pos hk];simp
   ·rw[if_neg hk,if_pos c,if_pos ho,if_neg hk];simp
  ·have c:¬ (i8 h (G (bg n m)) (G m)/\¬ dF h (G (bg n m)) (G m)∈(KI h G n m).map (·.2.2)):=fun z=>ho z.1
   by_cases hk:mG h (G m)
   ·rw[if_pos hk,if_neg c,if_neg ho,if_pos hk];simp
   ·rw[if_neg hk,if_neg c,if_neg ho,if_neg hk];simp
theorem P4:((KI h G n n).map (·.2.2)).Nodup:=by
 unfold List.Nodup;rw[pairwise_map];exact(wL h G n n).imp_of_mem fun {x y} hx hy r=>KN hn ok hT (ck.mp hx).1 (ck.mp hy).1 (ck.mp hx).2 (ck.mp hy).2 r
theorem MR (nh:h.1≠0\/h.2.1≠0):(KI h G n n).length<=n+2:=by
 have e:=List.length_eq_countP_add_countP (fun x:Itm=>x.2.1) (l:=KI h G n n);have c1:(KI h G n n).countP (fun x:Itm=>x.2.1)<=2:=by
  rw[countP_eq_length_filter]
  rcases lt_or_ge 2 ((KI h G n n).filter fun x=>x.2.1).length with l|l
  ·exfalso;have hp:((KI h G n n).filter fun x=>x.2.1).Pairwise RI:=(wL h G n n).filter _;have all:∀ x∈(KI h G n n).filter (fun x=>x.2.1),x∈KI h G n n/\aY h x.2.2=0:=fun x hx=>by
    obtain⟨h1,h2⟩:=mem_filter.mp hx;refine⟨h1,?_⟩;obtain⟨hx,hi⟩:=ck.mp h1
    rcases hi with ⟨_,ho,e⟩|⟨e,_⟩
    ·rw[e];exact(gB (ok _ (cm hx)) (ok _ hx) ho).2.2
    ·rw[e]at h2;cases h2
   have T:=G3 hn ok hT (h:=h);generalize (KI h G n n).filter (fun x=>x.2.1)=C at *;have R:=pairwise_iff_getElem.mp hp;have r1:=R 0 1 (by omega) (by omega) (by omega)
   have r2:=R 1 2 (by omega) (by omega) (by omega)
   obtain⟨m0,z0⟩:=all C[0] (getElem_mem _);obtain⟨m1,z1⟩:=all C[1] (getElem_mem _);obtain⟨m2,z2⟩:=all C[2] (getElem_mem _);rw[eJ]at z0 z1 z2;have zero:=zV nh z0 z1 z2;have ix:∀ {x y:Itm}{i j:Nat} (hi:i<(KI h G n n).length) (hj:j<(KI h G n n).length),(KI h G n n)[i]=x->(KI h G n n)[j]=y->RI x y->i<j:=fun {x y i j} hi hj ex ey r=>by
    rcases lt_trichotomy i j with l|l|l
    ·exact l
    ·subst l;rw[<-ex,<-ey]at r;unfold RI at r
     rcases r with r|⟨_,r1,r2⟩
     ·omega
     ·rw[r1]at r2;cases r2
    ·have:=pairwise_iff_getElem.mp (wL h G n n) j i hj hi l;rw[ex,ey]at this;unfold RI at r this
     rcases r with r|⟨r,r1,r2⟩ <;> rcases this with q|⟨q,q1,q2⟩
     ·omega
     ·omega
     ·omega
     ·rw[r1]at q2;cases q2
   obtain⟨i0,h0,e0⟩:=getElem_of_mem m0;obtain⟨i1,h1,e1⟩:=getElem_of_mem m1;obtain⟨i2,h2,e2⟩:=getElem_of_mem m2;have:=T i0 i1 i2 (ix h0 h1 e0 e1 r1) (ix h1 h2 e1 e2 r2) (by rw[length_map];exact h2)
   rw[getElem_map,getElem_map,getElem_map,e0,e1,e2]at this;omega
  ·exact l
 have c2:(KI h G n n).countP (fun x:Itm=>¬ x.2.1=true)<=n:=by
  rw[countP_eq_length_filter];have hp:((KI h G n n).filter fun x=>decide (¬ x.2.1=true)).Pairwise RI:=(wL h G n n).filter _;have all:∀ x∈(KI h G n n).filter (fun x=>decide (¬ x.2.1=true)),x.1<n/\x.2.1=false:=fun x hx=>by
   obtain⟨h1,h2⟩:=mem_filter.mp hx;exact⟨(ck.mp h1).1,by simpa using h2⟩
  generalize (KI h G n n).filter (fun x=>decide (¬ x.2.1=true))=C at *;have nd:(C.map (·.1)).Nodup:=by
   unfold List.Nodup;rw[pairwise_map];refine hp.imp_of_mem fun {x y} hx hy r=>?_
   rcases r with r|⟨_,r,_⟩
   ·omega
   ·rw[(all x hx).2]at r;cases r
  have:=List.Nodup.length_le_of_subset nd (l₂:=List.range n) (fun i hi=>by
   obtain⟨x,hx,rfl⟩:=mem_map.mp hi;exact mem_range.mpr (all x hx).1)
  rw[length_map,length_range]at this;exact this
 simp only[decide_not,Bool.decide_eq_true]at c2 e;omega
end
end Law
namespace Law
open L2 DL
set_option maxHeartbeats 1000000
theorem uH {A:List aD}(h:0<A.length):A.getLast?=some A[A.length-1]:=by
 rw[List.getLast?_eq_getElem?,getElem?_eq_getElem (by omega)]
theorem fk {A:List aD}{x:aD}:(A++[x]).getLast?=some x:=by simp
theorem mR {A:List aD}{x y:aD}(h:(A++[x]).head?=some y):A.head?=some y\/(A=[]/\y=x):=by
 cases A with
 | nil=>right;exact⟨rfl,by simpa using h.symm⟩
 | cons a A=>left;simpa using h
def xj (Q:Hf->Prop)(h:Hf):Prop:=Q h/\(h.1≠0\/h.2.1≠0)
abbrev ig (h:Hf):Prop:=xj (dk 300) h
def Hi (Q:Hf->Prop)(A:List aD):Prop:=∀ k (h:k+1<A.length),Cj Q A[k] A[k+1]
theorem mL {Q:Hf->Prop}{A:List aD}{x:aD}(h:Hi Q A)(hl:∀ y,A.getLast?=some y->Cj Q y x):Hi Q (A++[x]):=by
 intro k hk;rw[List.length_append,length_singleton]at hk
 by_cases l:k+1<A.length
 ·rw[getElem_append_left (by omega),getElem_append_left l]
  exact h k l
 ·have e:k+1=A.length:=by omega
  have e2:(A++[x])[k+1]'(by simp;omega)=x:=by
   rw[List.getElem_append_right (by omega)];simp
  rw[e2,getElem_append_left (by omega)]
  refine hl _ ?_;rw[uH (by omega)]
  congr 2;omega
structure Ck (Q:Hf->Prop) (h:Hf) (q0 qm:aD) (A:List aD):Prop where
 adj:Hi Q A
 inn:0<=aY h qm->A.getLast?=some qm
 out:aY h qm<0->∀ x,A.getLast?=some x->aY h x=0
 hd:aY h q0<0->∀ y,A.head?=some y->aY h y=0
theorem EM {Q:Hf->Prop}{h:Hf}(hh:xj Q h){p q:aD}(hp:aY h p=0)(hq:aY h q=0):Cj Q p q:=⟨h,⟨hh.1,hh.2,hp⟩,hh.1,hh.2,hq⟩
theorem Bw {Q:Hf->Prop}{h:Hf}(hh:xj Q h){q0 p q:aD}{A:List aD}(op:bC p)(oq:bC q)(hl:Cj Q p q)(H:Ck Q h q0 p A) :
  Ck Q h q0 q (A++((if i8 h p q then [dF h p q] else [])++(if mG h q then [q] else []))):=by
 by_cases ho:i8 h p q
 ·obtain⟨_,_,fs⟩:=gB op oq ho;have o:=ca.mp ho;obtain⟨l,lp,lq⟩:=hl;have ls:=xC op oq ho lp lq;have A1:Hi Q (A++[dF h p q]):=mL H.adj fun y hy=>by
   rcases o with ⟨o1,o2⟩|⟨o1,o2⟩
   ·rw[H.inn (by omega)]at hy
    cases hy
    exact⟨l,lp,ls⟩
   ·exact EM hh (H.out o1 y hy) fs
  have H1:aY h q0<0->∀ y,(A++[dF h p q]).head?=some y->aY h y=0:=fun h0 y hy=>by
   rcases mR hy with e|⟨_,e⟩
   ·exact H.hd h0 y e
   ·rw[e];exact fs
  rw[if_pos ho]
  by_cases hk:mG h q
  ·rw[if_pos hk,<-List.append_assoc];have k:=bV.mp hk;refine⟨mL A1 fun y hy=>?_,fun _=>fk,fun z=>by omega,fun h0 y hy=>?_⟩
   ·rw[fk]at hy
    cases hy
    exact⟨l,ls,lq⟩
   ·rcases mR hy with e|⟨e,_⟩
    ·exact H1 h0 y e
    ·simp at e
  ·rw[if_neg hk,append_nil];have k:¬ 0<=aY h q:=fun z=>hk (bV.mpr z);exact⟨A1,fun z=>absurd z k,fun _ x hx=>by rw[fk]at hx;cases hx;exact fs,H1⟩
 ·rw[if_neg ho,nil_append];have o:¬ ((0<aY h p/\aY h q<0)\/(aY h p<0/\0<aY h q)):=fun z=>ho (ca.mpr z)
  by_cases hk:mG h q
  ·rw[if_pos hk];have k:=bV.mp hk;refine⟨mL H.adj fun y hy=>?_,fun _=>fk,fun z=>by omega,fun h0 y hy=>?_⟩
   ·by_cases hp:0<=aY h p
    ·rw[H.inn hp]at hy
     cases hy
     exact hl
    ·exact EM hh (H.out (by omega) y hy) (by omega)
   ·rcases mR hy with e|⟨e,rfl⟩
    ·exact H.hd h0 y e
    ·by_cases hp:0<=aY h p
     ·have:=H.inn hp;rw[e]at this;cases this
     ·omega
  ·rw[if_neg hk,append_nil];have k:¬ 0<=aY h q:=fun z=>hk (bV.mpr z);refine⟨H.adj,fun z=>absurd z k,fun _ x hx=>?_,H.hd⟩
   by_cases hp:0<=aY h p
   ·rw[H.inn hp]at hx
    cases hx
    omega
   ·exact H.out (by omega) x hx
theorem oo {Q:Hf->Prop}{h:Hf}(hh:xj Q h){G:Nat->aD}{n:Nat}(hn:0<n)(ok:∀ i,i<n->bC (G i))(hl:∀ k,k<n->Cj Q (G (bg n k)) (G k)) :
  ∀ m,m<=n->Ck Q h (G (n-1)) (G (bg n m)) ((if 0<=aY h (G (n-1)) then [G (n-1)] else [])++(KI h G n m).map (·.2.2))
 | 0,_=>by
  have e:bg n 0=n-1:=rfl;rw[e];show Ck Q h _ _ (_++[]);rw[append_nil]
  by_cases z:0<=aY h (G (n-1))
  ·rw[if_pos z];exact⟨fun k hk=>by simp at hk,fun _=>rfl,fun z'=>by omega,fun z'=>by omega⟩
  ·rw[if_neg z];exact⟨fun k hk=>by simp at hk,fun z'=>absurd z' z,fun _ x hx=>(nomatch hx),fun _ y hy=>(nomatch hy)⟩
 | m+1,hm=>by
  have:=Bw hh (ok _ (cm (show m<n by omega))) (ok m (by omega)) (hl m (by omega)) (oo hh hn ok hl m (by omega))
  have e:bg n (m+1)=m:=by unfold bg;rw[if_neg (by omega)];rfl
  rw[e,yP,map_append,<-List.append_assoc];have e2:(KM h G n m).map (·.2.2)=(if i8 h (G (bg n m)) (G m) then [dF h (G (bg n m)) (G m)] else [])++(if mG h (G m) then [G m] else []):=by
   unfold KM
   split <;> split <;> rfl
  rw[e2];exact this
theorem tV {Q:Hf->Prop}{h:Hf}(hh:xj Q h){q0:aD}{K:List aD}(H:Ck Q h q0 q0 ((if 0<=aY h q0 then [q0] else [])++K))(k:Nat)(hk:k<K.length):Cj Q (df K k hk) K[k]:=by
 by_cases z:0<=aY h q0
 ·rw[if_pos z]at H;have a:=H.adj k (by simp;omega)
  have hlast:=H.inn z;unfold df
  split <;> rename_i e
  ·subst e;have:K[K.length-1]=q0:=by
    rw[uH (by simp)]at hlast
    have:=Option.some.inj hlast;rw[<-this];simp only[List.singleton_append,length_cons,Nat.add_sub_cancel];rw[List.getElem_cons,dif_neg (by omega)]
   rw[this];simpa using a
  ·have e1:([q0]++K)[k]'(by simp;omega)=K[k-1]:=by
    simp only[List.singleton_append];rw[List.getElem_cons,dif_neg e]
   rw[e1]at a;simpa using a
 ·rw[if_neg z,nil_append]at H;unfold df
  split <;> rename_i e
  ·subst e;have hl:=H.out (by omega) K[K.length-1] (uH hk)
   have hh0:=H.hd (by omega) K[0] (by rw[head?_eq_getElem?,getElem?_eq_getElem hk])
   exact EM hh hl hh0
  ·have a:=H.adj (k-1) (by omega)
   have e1:k-1+1=k:=by omega
   simp only[e1]at a;exact a
structure j4 (L:List aD):Prop where
 ok:∀ s∈L,bC s
 reg:Lc (L.map ag)
 cn:∀ s∈L,Cn s
 lk:∀ k (hk:k<L.length),Lk (df L k hk) L[k]
structure vw (h:Hf) (L K:List aD):Prop where
 ok:∀ u∈K,bC u
 nd:K.Nodup
 tri:tz (K.map ag)
 cn:∀ u∈K,Cn u
 lk:∀ k (hk:k<K.length),Lk (df K k hk) K[k]
 len:K.length<=L.length+2
 hold:∀ u∈K,bK (L.map ag) (ag u)/\0<=aY h u
 kept:∀ s∈L,0<=aY h s->s∈K
 cross:∀ k (hk:k<L.length),i8 h (df L k hk) L[k]->dF h (df L k hk) L[k]∈K
theorem Sm {h:Hf}{L:List aD}(hh:ig h)(R:j4 L)(hn:3<=L.length):vw h L (gR h L):=by
 have T:=fT R.reg;have ok:∀ i,i<L.length->bC (gt L i):=fun i hi=>by rw[bD hi];exact R.ok _ (getElem_mem _)
 have hT:qR (fun i=>ag (gt L i)) L.length:=fun a b c h1 h2 h3=>by
  have:=T a b c h1 h2 (by rw[length_map];exact h3)
  rw[getElem_map,getElem_map,getElem_map]at this;dsimp only;rw[bD (show a<L.length by omega),bD (show b<L.length by omega),bD h3]
  exact this
 have lk:∀ k,k<L.length->Lk (gt L (bg L.length k)) (gt L k):=fun k hk=>by
  have:=R.lk k hk;rw[iD hk]at this;rw[bD hk];exact this
 have e:gR h L=(KI h (gt L) L.length L.length).map (·.2.2):=by
  unfold gR;rw[yq];exact oi hn ok hT _ (le_refl _)
 rw[e];have mem:∀ u,u∈(KI h (gt L) L.length L.length).map (·.2.2)->∃ x:Itm,x.1<L.length/\Is h (gt L) L.length x/\u=x.2.2:=fun u hu=>by
  obtain⟨x,hx,e⟩:=mem_map.mp hu;exact⟨x,(ck.mp hx).1,(ck.mp hx).2,e.symm⟩
 refine⟨fun u hu=>?_,P4 hn ok hT,?_,fun u hu=>?_,fun k hk=>?_,?_,fun u hu=>?_,fun s hs hf=>?_,fun k hk ho=>?_⟩
 ·obtain⟨x,hx,hi,rfl⟩:=mem u hu;exact(v8 hn ok hT hx hi).1
 ·have:=G3 hn ok hT (h:=h);rw[map_map];exact this
 ·obtain⟨x,hx,hi,rfl⟩:=mem u hu
  rcases hi with ⟨_,ho,e⟩|⟨_,_,e⟩
  ·rw[e];exact KA (ok _ (cm hx)) (ok _ hx) ho hh.1 hh.2 (lk _ hx)
  ·rw[e,bD hx];exact R.cn _ (getElem_mem _)
 ·have H:=oo hh (show 0<L.length by omega) ok lk L.length (le_refl _)
  have e2:bg L.length L.length=L.length-1:=by unfold bg;rw[if_neg (by omega)]
  rw[e2]at H;exact tV hh H k hk
 ·rw[length_map];exact MR hn ok hT hh.2
 ·obtain⟨x,hx,hi,rfl⟩:=mem u hu;obtain⟨_,mx,f⟩:=v8 hn ok hT hx hi;refine⟨⟨by rw[length_map];omega,fun z=>by rw[length_map]at z;omega,fun _ k hk=>?_⟩,f⟩
  rw[length_map]at hk;have hpv:df (L.map ag) k (by rw[length_map];exact hk)=ag (gt L (bg L.length k)):=by
   rw[bD (cm hk)];unfold df bg
   split <;> rename_i e
   ·simp[e]
   ·simp[e]
  rw[hpv,getElem_map,<-bD hk,<-aT];have lox:lo L.length x.2.1 x.1<L.length:=by
   unfold lo
   split
   ·exact cm hx
   ·exact hx
  refine uM mx _ _ ?_ ?_
  ·rw[aT];exact iw (P:=fun i=>ag (gt L i)) hT hk lox
  ·rw[aT];exact iw (P:=fun i=>ag (gt L i)) hT hk hx
 ·obtain⟨j,hj,rfl⟩:=getElem_of_mem hs;refine mem_map.mpr ⟨(j,false,L[j]),ck.mpr ⟨hj,.inr ⟨rfl,?_,?_⟩⟩,rfl⟩
  ·rw[bD hj];exact bV.mpr hf
  ·exact(bD hj).symm
 ·rw[iD hk,<-bD hk]at ho ⊢;exact mem_map.mpr ⟨(k,true,_),ck.mpr ⟨hk,.inl ⟨rfl,ho,rfl⟩⟩,rfl⟩
theorem Sj {h:Hf}:vw h [] (gR h []):=by
 show vw h [] [];exact⟨fun u hu=>(nomatch hu),List.nodup_nil,fun a b c _ _ h3=>(nomatch h3),fun u hu=>(nomatch hu),fun k hk=>(nomatch hk),by decide,fun u hu=>(nomatch hu),fun u hu=>(nomatch hu),fun k hk=>(nomatch hk)⟩
theorem vi {F:List Hf}(h:F.length<3):tz F:=fun a b c h1 h2 h3=>by omega
theorem Af {h:Hf}{p:aD}:¬ i8 h p p:=fun z=>by have:=ca.mp z;omega
theorem yG {h:Hf}{ks:List aD}{x:aD × aD}(ho:¬ i8 h x.1 x.2):qP h ks x=if mG h x.2 then ks++[x.2] else ks:=by
 have c:¬ (i8 h x.1 x.2/\¬ dF h x.1 x.2∈ks):=fun z=>ho z.1;unfold qP
 by_cases hk:mG h x.2
 ·rw[if_pos hk,if_pos hk,if_neg c]
 ·rw[if_neg hk,if_neg hk,if_neg c]
theorem Sk {h:Hf}{p:aD}(R:j4 [p]):vw h [p] (gR h [p]):=by
 have hp:=R.ok p (by simp)
 have e:gR h [p]=if mG h p then [p] else []:=by
  show qP h [] (p,p)=_;rw[yG (x:=(p,p)) Af]
  rfl
 rw[e];have lkp:=R.lk 0 (by simp)
 have cross:∀ k (hk:k < [p].length) (K:List aD),i8 h (df [p] k hk) [p][k]->dF h (df [p] k hk) [p][k]∈K:=fun k hk K ho=>by
  have:k=0:=by simp at hk;exact hk
  subst this;exact absurd ho Af
 by_cases hk:mG h p
 ·rw[if_pos hk];refine⟨fun u hu=>R.ok u hu,by simp,vi (by simp),R.cn,R.lk,by simp,fun u hu=>?_,fun s hs _=>hs,fun k hk' ho=>cross k hk' _ ho⟩
  obtain rfl:=mem_singleton.mp hu;exact⟨⟨by simp,fun _=>⟨pF _ _,bQ.mpr (Bf.irr _),bQ.mpr (Bf.irr _)⟩,fun z=>by simp at z⟩,bV.mp hk⟩
 ·rw[if_neg hk];refine⟨fun u hu=>(nomatch hu),List.nodup_nil,fun a b c _ _ h3=>(nomatch h3),fun u hu=>(nomatch hu),fun k hk=>(nomatch hk),by simp,fun u hu=>(nomatch hu),fun s hs hf=>?_,fun k hk' ho=>cross k hk' _ ho⟩
  obtain rfl:=mem_singleton.mp hs;exact absurd (bV.mpr hf) hk
theorem Sl {h:Hf}{p q:aD}(hh:ig h)(R:j4 [p,q]):vw h [p,q] (gR h [p,q]):=by
 have hp:=R.ok p (by simp)
 have hq:=R.ok q (by simp)
 have hb:Bf (ag p) (ag q):=fg.mp (R.reg.fst 1 (by simp) (by decide))
 have hne:p≠q:=fun e=>by rw[e]at hb;exact Bf.irr _ hb
 have lk:Lk p q:=R.lk 1 (by simp)
 have e:gR h [p,q]=qP h (qP h [] (q,p)) (p,q):=rfl;have hpos:∀ u,vq (ag u) (ag p) (ag q)\/u=p\/u=q->bK ([p,q].map ag) (ag u):=fun u hu=>by
  refine⟨by simp,fun _=>?_,fun z=>by simp at z⟩
  show aX (ag p) (ag q) (ag u)=0/\k9 (ag u) (ag p)=false/\k9 (ag q) (ag u)=false;rw[bQ,bQ]
  rcases hu with m|rfl|rfl
  ·exact⟨qc m,MZ m (cf hp) (cf hq) hb⟩
  ·exact⟨gC _ _,Bf.irr _,hb.asym⟩
  ·exact⟨eA _ _,hb.asym,Bf.irr _⟩
 have prs:∀ k (hk:k < [p,q].length),(df [p,q] k hk=q/\[p,q][k]=p)\/(df [p,q] k hk=p/\[p,q][k]=q):=fun k hk=>by
  have:k=0\/k=1:=by simp at hk;omega
  rcases this with rfl|rfl
  ·exact .inl ⟨rfl,rfl⟩
  ·exact .inr ⟨rfl,rfl⟩
 have lkAll:∀ K:List aD,(∃ l,∀ u∈K,Ov l u)->∀ k (hk:k<K.length),Lk (df K k hk) K[k]:=fun K ⟨l,hl⟩ k hk=>⟨l,hl _ (qo hk),hl _ (getElem_mem _)⟩;obtain⟨l,lp,lq⟩:=lk
 by_cases ho:i8 h p q
 ·have ho':i8 h q p:=ca.mpr (by have:=ca.mp ho;omega)
  obtain⟨so,sm,sf⟩:=gB hp hq ho;have ls:=xC hp hq ho lp lq;have cs:=KA hp hq ho hh.1 hh.2 ⟨l,lp,lq⟩;have o:=ca.mp ho;have mk:∀ x:aD,(x=p\/x=q)->0<=aY h x->(∀ s∈[p,q],0<=aY h s->s=x)->vw h [p,q] [dF h p q,x]:=fun x hx fx only=>by
   have ox:bC x:=by rcases hx with rfl|rfl;exact hp;exact hq
   have lx:Ov l x:=by rcases hx with rfl|rfl;exact lp;exact lq
   have nx:dF h p q≠x:=fun e=>by
    rw[e]at sf
    rcases hx with rfl|rfl <;> omega
   have all:∀ u∈[dF h p q,x],u=dF h p q\/u=x:=fun u hu=>by simpa using hu
   refine⟨fun u hu=>?_,?_,vi (by simp),fun u hu=>?_,lkAll _ ⟨l,fun u hu=>?_⟩,by simp,fun u hu=>?_,fun s hs hf=>?_,fun k hk _=>?_⟩
   ·rcases all u hu with rfl|rfl;exact so;exact ox
   ·simp[nx]
   ·rcases all u hu with rfl|rfl
    ·exact cs
    ·rcases hx with e|e <;> rw[e] <;> exact R.cn _ (by simp)
   ·rcases all u hu with rfl|rfl;exact ls;exact lx
   ·rcases all u hu with rfl|rfl
    ·exact⟨hpos _ (.inl sm),by omega⟩
    ·exact⟨hpos _ (.inr hx),fx⟩
   ·rw[only s hs hf];simp
   ·rcases prs k hk with ⟨e1,e2⟩|⟨e1,e2⟩
    ·rw[e1,e2,n8 h q p];simp
    ·rw[e1,e2];simp
  rcases o with ⟨o1,o2⟩|⟨o1,o2⟩
  ·have e2:gR h [p,q]=[dF h p q,p]:=by
    rw[e];have s1:qP h [] (q,p)=[dF h p q,p]:=by
     unfold qP;dsimp only;rw[if_pos (bV.mpr (by omega)),if_pos (show _/\_ from⟨ho',by simp⟩),n8 h q p]
     rfl
    rw[s1];unfold qP;dsimp only;rw[if_neg (fun z=>by have:=bV.mp z;omega),if_neg (fun z=>z.2 (by simp))]
   rw[e2];exact mk p (.inl rfl) (by omega) fun s hs hf=>by
    rcases mem_cons.mp hs with r|r
    ·exact r
    ·have:=mem_singleton.mp r;rw[this]at hf;omega
  ·have e2:gR h [p,q]=[dF h p q,q]:=by
    rw[e];have s1:qP h [] (q,p)=[dF h p q]:=by
     unfold qP;dsimp only;rw[if_neg (fun z=>by have:=bV.mp z;omega),if_pos (show _/\_ from⟨ho',by simp⟩),n8 h q p]
     rfl
    rw[s1];unfold qP;dsimp only;rw[if_pos (bV.mpr (by omega)),if_neg (fun z=>z.2 (by simp))]
    rfl
   rw[e2];exact mk q (.inr rfl) (by omega) fun s hs hf=>by
    rcases mem_cons.mp hs with r|r
    ·rw[r]at hf;omega
    ·exact mem_singleton.mp r
 ·have ho':¬ i8 h q p:=fun z=>ho (ca.mpr (by have:=ca.mp z;omega))
  have e2:gR h [p,q]=[p,q].filter fun s=>decide (mG h s):=by
   rw[e];rw[yG (x:=(q,p)) ho',yG (x:=(p,q)) ho];dsimp only
   by_cases a:mG h p <;> by_cases b:mG h q <;> simp[a,b]
  rw[e2];have sub:∀ u∈[p,q].filter (fun s=>decide (mG h s)),u∈[p,q]/\mG h u:=fun u hu=>by
   obtain⟨a,b⟩:=mem_filter.mp hu;exact⟨a,of_decide_eq_true b⟩
  have hlen:([p,q].filter fun s=>decide (mG h s)).length<=2:=length_filter_le _ [p,q];refine⟨fun u hu=>R.ok u (sub u hu).1,?_,vi (by rw[length_map];omega),fun u hu=>R.cn u (sub u hu).1,lkAll _ ⟨l,fun u hu=>?_⟩,by simp only[length_cons,length_nil];omega,fun u hu=>⟨hpos u ?_,bV.mp (sub u hu).2⟩,fun s hs hf=>mem_filter.mpr ⟨hs,decide_eq_true (bV.mpr hf)⟩,fun k hk hx=>?_⟩
  ·have:[p,q].Nodup:=by simp[hne]
   exact this.filter _
  ·rcases mem_cons.mp (sub u hu).1 with r|r
   ·rw[r];exact lp
   ·rw[mem_singleton.mp r];exact lq
  ·rcases mem_cons.mp (sub u hu).1 with r|r
   ·exact .inr (.inl r)
   ·exact .inr (.inr (mem_singleton.mp r))
  ·rcases prs k hk with ⟨e1,e2⟩|⟨e1,e2⟩
   ·rw[e1,e2]at hx;exact absurd hx ho'
   ·rw[e1,e2]at hx;exact absurd hx ho
theorem yY {h:Hf}{L:List aD}(hh:ig h)(R:j4 L):vw h L (gR h L):=by
 match L,R with
 | [],_=>exact Sj
 | [p],R=>exact Sk R
 | [p,q],R=>exact Sl hh R
 | p::q::r::l,R=>exact Sm hh R (by simp)
end Law
namespace Law
open L2 DL
def fl (p:Pt):Hf:=(p.1,p.2,1)
theorem k7 (p:Pt):ag (fi p)=fl p:=by unfold ag fi fl;simp
theorem zv (a b c:Pt):aX (fl a) (fl b) (fl c)=cr a b c:=by unfold aX fl cr;grind
theorem tI (a b:Pt):k9 (fl a) (fl b)=true↔cQ a b:=by
 unfold k9 fl cQ;simp only[mul_one]
 by_cases h:a.1=b.1
 ·rw[if_neg (by simpa using h),decide_eq_true_eq];omega
 ·rw[if_pos h,decide_eq_true_eq];omega
theorem yV {a b:Pt}(h:¬ cQ a b):k9 (fl a) (fl b)=false:=by
 cases e:k9 (fl a) (fl b) with
 | false=>rfl
 | true=>exact absurd ((tI a b).mp e) h
theorem lex_irr (a:Pt):¬ cQ a a:=by unfold cQ;omega
theorem EE {a b:Pt}(h:cQ a b):¬ cQ b a:=by unfold cQ at *;omega
theorem MS {S:List Pt}(h:S.Pairwise cQ):∃ m:Pt,S.Pairwise fun a b=>fn m a<fn m b:=by
 obtain⟨B,hB0,hB⟩:∃ B:Int,0<=B/\∀ p∈S,-B<=p.2/\p.2<=B:=by
  clear h
  induction S with
  | nil=>exact⟨0,Int.le_refl _,fun p hp=>by cases hp⟩
  | cons a S ih=>
   obtain⟨B,h0,h1⟩:=ih;refine⟨B+(a.2.natAbs:Int),by omega,fun p hp=>?_⟩
   rcases mem_cons.mp hp with rfl|hp
   ·omega
   ·have:=h1 p hp;omega
 refine⟨(2*B+1,1),?_⟩;rw[pairwise_iff_getElem]at h ⊢;intro i j hi hj hij;have h1:=h i j hi hj hij;have b1:=hB _ (getElem_mem hi);have b2:=hB _ (getElem_mem hj);unfold fn;dsimp only
 rcases h1 with h1|⟨h1,h2⟩
 ·have h3:(2*B+1)*(S[i].1+1)<=(2*B+1)*S[j].1:=Int.mul_le_mul_of_nonneg_left (by omega) (by omega)
  rw[Int.mul_add]at h3;omega
 ·rw[h1];omega
theorem gG {α β:Type}(f:α->β)(H:List α)(k:Nat)(hk:k<(H.map f).length):df (H.map f) k hk=f (df H k (by simpa using hk)):=by
 unfold df
 split
 ·simp
 ·simp
theorem wm {S:List Pt}{m:Pt}(hl:S.Pairwise cQ)(hf:S.Pairwise fun a b=>fn m a<fn m b){a b:Pt}(ha:a∈S)(hb:b∈S)(h:cQ a b):fn m a<fn m b:=by
 obtain⟨i,hi,rfl⟩:=getElem_of_mem ha;obtain⟨j,hj,rfl⟩:=getElem_of_mem hb
 rcases lt_trichotomy i j with hij|hij|hij
 ·exact pairwise_iff_getElem.mp hf i j hi hj hij
 ·subst hij;exact absurd h (lex_irr _)
 ·exact absurd (pairwise_iff_getElem.mp hl j i hj hi hij) (EE h)
structure xk (S H:List Pt):Prop where
 reg:Lc (H.map fl)
 hold:∀ p∈S,bK (H.map fl) (fl p)
 sub:∀ p∈H,p∈S
 ne:H≠[]
theorem IF {S:List Pt}(hs:S.Pairwise cQ)(hne:S≠[]):xk S (bO S):=by
 unfold bO
 match S,hne,hs with
 | [p],_,_=>
  rw[if_pos (by simp)]
  refine⟨⟨fun k hk h0=>by simp at hk;omega,fun h=>by simp at h⟩,fun q hq=>?_,fun q hq=>hq,by simp⟩
  obtain rfl:=mem_singleton.mp hq;refine⟨by simp,fun _=>?_,fun h=>by simp at h⟩
  show aX (fl q) (fl q) (fl q)=0/\k9 (fl q) (fl q)=false/\k9 (fl q) (fl q)=false;exact⟨by rw[zv,tS],yV (lex_irr q),yV (lex_irr q)⟩
 | p0::p1::l,_,hs=>
  rw[if_neg (by simp only[length_cons];omega)]
  obtain⟨m,hm⟩:=MS hs;obtain⟨R,h0⟩:=GF hm;generalize nH (p0::p1::l)=H at R h0;have hlen:=R.len;have hH0:=h0 (by omega)
  have hml:(H.map fl).length=H.length:=length_map ..;refine⟨⟨fun k hk hk0=>?_,fun h2 k hk v hv h1 h3=>?_⟩,fun p hp=>⟨by omega,fun h=>?_,fun h3 k hk=>?_⟩,R.sub,fun e=>by rw[e]at hlen;simp at hlen⟩
  ·rw[getElem_map,getElem_map,tI,hH0];have h1:=R.sub _ (getElem_mem (show k<H.length by omega))
   have h2:=R.fst k (by omega) hk0
   rw[hH0]at h2
   rcases mem_cons.mp h1 with h|h
   ·exact absurd h h2
   ·exact(pairwise_cons.mp hs).1 _ h
  ·obtain⟨x,hx,rfl⟩:=mem_map.mp hv;rw[gG]at h3 ⊢;rw[getElem_map]at h1 ⊢;rw[zv];exact R.strict k (by omega) x hx (fun e=>h3 (by rw[e];rfl)) (fun e=>h1 (by rw[e]))
  ·have e2:H.length=2:=by omega
   obtain⟨c,m',f1,f2,hm'⟩:=R.two e2 p hp;have x0:=R.sub _ (getElem_mem (show 0<H.length by omega))
   have x1:=R.sub _ (getElem_mem (show 1<H.length by omega))
   have el:(H.map fl)[(H.map fl).length-1]'(by omega)=fl H[1]:=by
    rw[getElem_map]
    congr 2;omega
   rw[el,getElem_map,zv];refine⟨c,yV fun h=>?_,yV fun h=>?_⟩
   ·have:=wm hs hm' hp x0 h;omega
   ·have:=wm hs hm' x1 hp h;omega
  ·rw[gG,getElem_map,zv];exact R.left k (by omega) p hp
end Law
namespace Law
open L2 DL
set_option maxHeartbeats 1000000
def wy (L:List aD)(m:Nat):Nat:=(List.range m).foldl (fun f k=>if Hh (gt L k) (gt L f)=true then k else f) 0
def MB (L:List aD):List aD:=L.drop (wy L L.length)++L.take (wy L L.length)
theorem wz (L:List aD)(m:Nat):wy L (m+1)=if Hh (gt L m) (gt L (wy L m))=true then m else wy L m:=by
 unfold wy;rw[range_succ,foldl_append]
 rfl
theorem mU {L:List aD}(ok:∀ s∈L,bC s)(h0:0<L.length):∀ m,m<=L.length->wy L m<L.length/\∀ j,j<m->¬ Bf (ag (gt L j)) (ag (gt L (wy L m)))
 | 0,_=>⟨h0,fun j hj=>by walk_at"o"⟩
 | m+1,hm=>by
  obtain⟨i1,i2⟩:=mU ok h0 m (by walk_at"o")
  have og:∀ i,i<L.length->bC (gt L i):=fun i hi=>by rw[bD hi];exact ok _ (getElem_mem _)
  rw[wz,qb (og m (by walk_at"o")) (og _ i1)]
  split
  ·rename_i hb;rw[fg]at hb;refine⟨by walk_at"o",fun j hj=>?_⟩
   by_cases e:j=m
   ·rw[e];exact Bf.irr _
   ·exact fun z=>i2 j (by walk_at"o") (Bf.trans (cf (og j (by walk_at"o"))) (cf (og m (by walk_at"o"))) (cf (og _ i1)) z hb)
  ·rename_i hb;rw[fg]at hb;refine⟨i1,fun j hj=>?_⟩
   by_cases e:j=m
   ·rw[e];exact hb
   ·exact i2 j (by walk_at"o")
def qu (n m i:Nat):Nat:=if i<n-m then m+i else i-(n-m)
theorem kN {n m i:Nat} (hm:m<n) (hi:i<n):qu n m i<n:=by unfold qu;split <;> walk_at"o"
theorem lT {α:Type}(K:List α){m:Nat}(hm:m<=K.length):(K.drop m++K.take m).length=K.length:=by
 rw[List.length_append,length_drop,length_take];walk_at"o"
theorem eO {α:Type}{K:List α}{m i:Nat} (hm:m<K.length) (hi:i<K.length):(K.drop m++K.take m)[i]'(by rw[lT K (by walk_at"o")];exact hi)=K[qu K.length m i]'(kN hm hi):=by
 unfold qu
 split
 ·rename_i h;rw[getElem_append_left (by rw[length_drop];exact h),List.getElem_drop]
 ·rename_i h;rw[List.getElem_append_right (by rw[length_drop];walk_at"o"),List.getElem_take]
  simp only[length_drop]
theorem uW {α:Type}{K:List α}{m:Nat}{u:α}:u∈K.drop m++K.take m↔u∈K:=by
 rw[mem_append,Or.comm,<-mem_append,take_append_drop]
theorem yy {α:Type}{K:List α}{m i:Nat} (hm:m<K.length) (hi:i<K.length):df (K.drop m++K.take m) i (by rw[lT K (by walk_at"o")];exact hi)=df K (qu K.length m i) (kN hm hi):=by
 have hl:=lT K (m:=m) (by walk_at"o")
 unfold df
 by_cases e:i=0
 ·rw[dif_pos e];have hl1:(K.drop m++K.take m).length-1=K.length-1:=by rw[hl]
  simp only[hl1];rw[eO hm (by walk_at"o")]
  subst e;have r0:qu K.length m 0=m:=by unfold qu;rw[if_pos (by walk_at"o")];rfl
  by_cases m0:m=0
  ·rw[dif_pos (by rw[r0];exact m0)]
   congr 1
   unfold qu;rw[if_pos (by walk_at"o")];walk_at"o"
  ·rw[dif_neg (by rw[r0];exact m0)]
   congr 1
   rw[r0];unfold qu;rw[if_neg (by walk_at"o")];walk_at"o"
 ·rw[dif_neg e,eO hm (by walk_at"o")]
  by_cases z:qu K.length m i=0
  ·rw[dif_pos z]
   congr 1
   unfold qu at z ⊢
   split at z
   ·walk_at"o"
   ·rw[if_pos (by walk_at"o")];walk_at"o"
  ·rw[dif_neg z]
   congr 1
   unfold qu at z ⊢
   split at z
   ·rw[if_pos (by walk_at"o"),if_pos (by walk_at"o")];walk_at"o"
   ·rename_i c;rw[if_neg (by walk_at"o"),if_neg c];walk_at"o"
theorem Km {F:List Hf}{m:Nat}(hm:m<F.length)(T:tz F):tz (F.drop m++F.take m):=by
 intro a b c h1 h2 h3;rw[lT F (by walk_at"o")]at h3
 rw[eO hm (by walk_at"o"),eO hm (by walk_at"o"),eO hm h3]
 unfold qu
 by_cases hc:c<F.length-m
 ·simp only[if_pos hc,if_pos (show b<F.length-m by walk_at"o"),if_pos (show a<F.length-m by walk_at"o")]
  exact T _ _ _ (by walk_at"o") (by walk_at"o") _
 ·by_cases hb:b<F.length-m
  ·simp only[if_neg hc,if_pos hb,if_pos (show a<F.length-m by walk_at"o")]
   rw[<-aT];exact T _ _ _ (by walk_at"o") (by walk_at"o") _
  ·by_cases ha:a<F.length-m
   ·simp only[if_neg hc,if_neg hb,if_pos ha];rw[aT];exact T _ _ _ (by walk_at"o") (by walk_at"o") _
   ·simp only[if_neg hc,if_neg hb,if_neg ha];exact T _ _ _ (by walk_at"o") (by walk_at"o") _
theorem Gw {h:Hf}{L K:List aD}(C:vw h L K):j4 (MB K)/\(∀ u,u∈MB K↔u∈K)/\(MB K).length=K.length:=by
 by_cases h0:K.length=0
 ·have e:K=[]:=length_eq_zero_iff.mp h0;subst e;exact⟨⟨fun u hu=>(nomatch hu),⟨fun k hk=>(nomatch hk),fun h=>(nomatch h)⟩,fun u hu=>(nomatch hu),fun k hk=>(nomatch hk)⟩,fun u=>Iff.rfl,rfl⟩
 have hp:0<K.length:=by walk_at"o"
 obtain⟨hm,hmin⟩:=mU C.ok hp K.length (le_refl _);unfold MB;generalize wy K K.length=m at hm hmin;have hl:=lT K (m:=m) (by walk_at"o")
 have em:(K.drop m++K.take m).map ag=(K.map ag).drop m++(K.map ag).take m:=by rw[map_append,map_drop,map_take]
 have T:tz ((K.drop m++K.take m).map ag):=by
  rw[em];exact Km (by rw[length_map];exact hm) C.tri
 refine⟨⟨fun u hu=>C.ok u (uW.mp hu),⟨fun k hk hk0=>?_,fun h2 k hk v hv h1 h3=>yt T h2 k hk v hv h1 h3⟩,fun u hu=>C.cn u (uW.mp hu),fun k hk=>?_⟩,fun u=>uW,hl⟩
 ·rw[length_map,hl]at hk;rw[getElem_map,getElem_map,eO hm hp,eO hm hk,fg];have r0:qu K.length m 0=m:=by unfold qu;rw[if_pos (by walk_at"o")];rfl
  have hr:=kN hm hk;have rk:qu K.length m k≠m:=by unfold qu;split <;> walk_at"o"
  simp only[r0];have a:=hmin _ hr;rw[bD hr,bD hm]at a;have ne:K[m]≠K[qu K.length m k]:=fun e=>by
   rcases lt_trichotomy m (qu K.length m k) with l|l|l
   ·exact pairwise_iff_getElem.mp C.nd _ _ hm hr l e
   ·exact rk l.symm
   ·exact pairwise_iff_getElem.mp C.nd _ _ hr hm l e.symm
  exact(CQ (C.ok _ (getElem_mem _)) (C.ok _ (getElem_mem _)) ne).resolve_right a
 ·have hk':k<K.length:=by rw[hl]at hk;exact hk
  rw[yy hm hk',eO hm hk'];exact C.lk _ _
def iq (h:Hf)(L:List aD):List aD:=MB (gR h L)
structure Se (h:Hf) (L K:List aD):Prop where
 reg:j4 K
 len:K.length<=L.length+2
 hold:∀ u∈K,bK (L.map ag) (ag u)/\0<=aY h u
 kept:∀ s∈L,0<=aY h s->s∈K
 cross:∀ k (hk:k<L.length),i8 h (df L k hk) L[k]->dF h (df L k hk) L[k]∈K
theorem tP {h:Hf}{L:List aD}(hh:ig h)(R:j4 L):Se h L (iq h L):=by
 have C:=yY hh R;obtain⟨a,b,c⟩:=Gw C;exact⟨a,by unfold iq;rw[c];exact C.len,fun u hu=>C.hold u ((b u).mp hu),fun s hs hf=>(b s).mpr (C.kept s hs hf),fun k hk ho=>(b _).mpr (C.cross k hk ho)⟩
theorem tJ {q u x:Hf}(hq:vq q u u):(Bf q x↔Bf u x)/\(Bf x q↔Bf x u):=by
 obtain⟨κ,α,β,k0,a0,b0,e1,e2,e3⟩:=hq;have c0:0<α+β:=by walk_at"o"
 have f1:κ*q.1=(α+β)*u.1:=by rw[e1];grind
 have f2:κ*q.2.1=(α+β)*u.2.1:=by rw[e2];grind
 have f3:κ*q.2.2=(α+β)*u.2.2:=by rw[e3];grind
 generalize α+β=c at c0 f1 f2 f3;have i1:κ*(q.1*x.2.2-x.1*q.2.2)=c*(u.1*x.2.2-x.1*u.2.2):=by
  have t:κ*(q.1*x.2.2-x.1*q.2.2)=κ*q.1*x.2.2-x.1*(κ*q.2.2):=by grind
  rw[t,f1,f3];grind
 have i2:κ*(q.2.1*x.2.2-x.2.1*q.2.2)=c*(u.2.1*x.2.2-x.2.1*u.2.2):=by
  have t:κ*(q.2.1*x.2.2-x.2.1*q.2.2)=κ*q.2.1*x.2.2-x.2.1*(κ*q.2.2):=by grind
  rw[t,f2,f3];grind
 have sg:∀ {d e:Int},κ*d=c*e->(0<d↔0<e)/\(d<0↔e<0):=fun {d e} h=>by
  constructor
  ·exact⟨fun z=>du c0 (by rw[<-h];exact mul_pos k0 z),fun z=>du k0 (by rw[h];exact mul_pos c0 z)⟩
  ·constructor
   ·intro z;have:=du (κ:=c) (x:=-e) c0 (by rw[mul_neg,<-h];have:=mul_neg_of_pos_of_neg k0 z;walk_at"o")
    walk_at"o"
   ·intro z;have:=du (κ:=κ) (x:=-d) k0 (by rw[mul_neg,h];have:=mul_neg_of_pos_of_neg c0 z;walk_at"o")
    walk_at"o"
 have s1:=sg i1;have s2:=sg i2;unfold Bf;generalize q.1*x.2.2=A1 at *;generalize x.1*q.2.2=A2 at *;generalize u.1*x.2.2=A3 at *;generalize x.1*u.2.2=A4 at *;generalize q.2.1*x.2.2=B1 at *;generalize x.2.1*q.2.2=B2 at *;generalize u.2.1*x.2.2=B3 at *;generalize x.2.1*u.2.2=B4 at *;constructor <;> constructor <;> intro z <;> walk_at"o"
theorem xH {q u:Hf}(hq:vq q u u)(v w:Hf):(0<=aX v w u->0<=aX v w q)/\(aX v w u=0->aX v w q=0):=by
 refine⟨fun h=>?_,fun h=>?_⟩
 ·rw[<-aT];exact uM hq v w (by rw[aT];exact h) (by rw[aT];exact h)
 ·obtain⟨κ,α,β,k0,a0,b0,e1,e2,e3⟩:=hq;have e:=uL e1 e2 e3 v w;rw[aT q v w,aT u v w,h,mul_zero,mul_zero]at e
  rcases mul_eq_zero.mp (show κ*aX v w q=0 by walk_at"o") with z | z
  ·walk_at"o"
  ·exact z
theorem jx {L:List aD}(R:j4 L){s:aD}(hs:s∈L){q:Hf}(hq:vq q (ag s) (ag s)):bK (L.map ag) q:=by
 obtain⟨j,hj,rfl⟩:=getElem_of_mem hs;have hl:(L.map ag).length=L.length:=length_map ..;have hmem:ag L[j]∈L.map ag:=mem_map.mpr ⟨_,getElem_mem hj,rfl⟩;refine⟨by walk_at"o",fun h3=>?_,fun h3 k hk=>(xH hq _ _).1 ?_⟩
 ·rw[hl]at h3;rw[bQ,bQ,(tJ hq).1,(tJ hq).2];have el:(L.map ag)[(L.map ag).length-1]'(by walk_at"o")=ag L[L.length-1]:=by
   rw[getElem_map];congr 2;walk_at"o"
  rw[el,getElem_map];have z:j=0\/j=L.length-1:=by walk_at"o"
  have ord:L.length=2->Bf (ag L[0]) (ag L[L.length-1]):=fun e=>by
   have:=R.reg.fst 1 (by rw[hl];walk_at"o") (by decide)
   rw[getElem_map,getElem_map,fg]at this;have e1:L.length-1=1:=by walk_at"o"
   simp only[e1];exact this
  rcases z with z|z
  ·subst z;refine⟨(xH hq _ _).2 (gC _ _),Bf.irr _,?_⟩
   by_cases e:L.length=2
   ·exact(ord e).asym
   ·have e1:L.length-1=0:=by walk_at"o"
    simp only[e1];exact Bf.irr _
  ·subst z;refine⟨(xH hq _ _).2 (eA _ _),?_,Bf.irr _⟩
   by_cases e:L.length=2
   ·exact(ord e).asym
   ·have e1:L.length-1=0:=by walk_at"o"
    simp only[e1];exact Bf.irr _
 ·by_cases e1:ag L[j]=(L.map ag)[k]
  ·rw[e1,eA];exact Int.le_refl _
  ·by_cases e2:ag L[j]=df (L.map ag) k hk
   ·rw[e2,gC];exact Int.le_refl _
   ·exact le_of_lt (R.reg.trn (by walk_at"o") k hk _ hmem e1 e2)
def aV (h u:Hf):Int:=h.1*u.1+h.2.1*u.2.1-h.2.2*u.2.2
theorem cJ (h:Hf)(s:aD):aV h (ag s)=aY h s:=(eJ h s).symm
theorem GW (p:Pt):bC (fi p):=⟨⟨by show(0:Int)<1;decide,by show Int.gcd p.1 1=1;simp⟩,by show(0:Int)<1;decide,by show Int.gcd p.2 1=1;simp⟩
theorem ve {n:Nat} (h:1<=n):Sz n 1:=⟨by show 1<2 ^ n;exact Nat.one_lt_two_pow (by walk_at"o")⟩
theorem vf {n:Nat}:Sz n 0:=⟨Nat.two_pow_pos n⟩
end Law
namespace Law
open L2 DL
set_option maxHeartbeats 1000000
theorem Nm {l u p q:Hf}{κ α β:Int}(e1:κ*u.1=α*p.1+β*q.1)(e2:κ*u.2.1=α*p.2.1+β*q.2.1)(e3:κ*u.2.2=α*p.2.2+β*q.2.2):κ*aV l u=α*aV l p+β*aV l q:=by
 unfold aV;have t:κ*(l.1*u.1+l.2.1*u.2.1-l.2.2*u.2.2)=l.1*(κ*u.1)+l.2.1*(κ*u.2.1)-l.2.2*(κ*u.2.2):=by grind
 rw[t,e1,e2,e3];grind
def R4 (L:List aD)(q:Hf):Prop:=∃ a b c:aD,a∈L/\b∈L/\c∈L/\∃ κ α β γ:Int,0<κ/\0<=α/\0<=β/\0<=γ/\κ*q.1=α*(ag a).1+β*(ag b).1+γ*(ag c).1/\κ*q.2.1=α*(ag a).2.1+β*(ag b).2.1+γ*(ag c).2.1/\κ*q.2.2=α*(ag a).2.2+β*(ag b).2.2+γ*(ag c).2.2
theorem oB {l q a b c:Hf}{κ α β γ:Int}(e1:κ*q.1=α*a.1+β*b.1+γ*c.1)(e2:κ*q.2.1=α*a.2.1+β*b.2.1+γ*c.2.1)(e3:κ*q.2.2=α*a.2.2+β*b.2.2+γ*c.2.2):κ*aV l q=α*aV l a+β*aV l b+γ*aV l c:=by
 unfold aV;have t:κ*(l.1*q.1+l.2.1*q.2.1-l.2.2*q.2.2)=l.1*(κ*q.1)+l.2.1*(κ*q.2.1)-l.2.2*(κ*q.2.2):=by grind
 rw[t,e1,e2,e3];grind
def Cv (L:List aD)(q:Hf):Prop:=∀ l:Hf,(∀ s∈L,0<=aV l (ag s))->0<=aV l q
theorem Ma {L:List aD}{q:Hf}(h:R4 L q):Cv L q:=by
 obtain⟨a,b,c,ha,hb,hc,κ,α,β,γ,k0,a0,b0,c0,e1,e2,e3⟩:=h;intro l hl;have e:=oB (l:=l) e1 e2 e3;have x1:=mul_nonneg a0 (hl a ha);have x2:=mul_nonneg b0 (hl b hb);have x3:=mul_nonneg c0 (hl c hc);exact cS k0 (by walk_at"o")
theorem change (f:Nat->Int):∀ m,2<=m->0<=f 1->f m<=0->∃ i,1<=i/\i<m/\0<=f i/\f (i+1)<=0
 | 0,h,_,_=>by walk_at"o"
 | 1,h,_,_=>by walk_at"o"
 | m+2,_,h1,h2=>by
  by_cases h:0<=f (m+1)
  ·exact⟨m+1,by walk_at"o",by walk_at"o",h,h2⟩
  ·by_cases hm:m=0
   ·subst hm;exact absurd h1 h
   ·obtain⟨i,i1,i2,i3,i4⟩:=change f (m+1) (by walk_at"o") h1 (by walk_at"o")
    exact⟨i,i1,by walk_at"o",i3,i4⟩
theorem L9 (a b c q:Hf):aX a b c*q.1=aX b c q*a.1+aX c a q*b.1+aX a b q*c.1/\aX a b c*q.2.1=aX b c q*a.2.1+aX c a q*b.2.1+aX a b q*c.2.1/\aX a b c*q.2.2=aX b c q*a.2.2+aX c a q*b.2.2+aX a b q*c.2.2:=by
 unfold aX;refine⟨?_,?_,?_⟩ <;> grind
theorem e6 {L:List aD}(R:j4 L):qR (fun i=>ag (gt L i)) L.length:=fun a b c h1 h2 h3=>by
 have:=fT R.reg a b c h1 h2 (by rw[length_map];exact h3)
 rw[getElem_map,getElem_map,getElem_map]at this;dsimp only;rw[bD (show a<L.length by walk_at"o"),bD (show b<L.length by walk_at"o"),bD h3]
 exact this
theorem jw {L:List aD}{q:Hf}(h:bK (L.map ag) q)(h3:3<=L.length)(k:Nat)(hk:k<L.length):0<=aX (ag (gt L (bg L.length k))) (ag (gt L k)) q:=by
 have:=h.all (by rw[length_map];exact h3) k (by rw[length_map];exact hk)
 rw[gG,getElem_map,iD hk,<-bD hk]at this;exact this
theorem Ii {p r q:Hf}(hd:aX p r q=0)(hb:Bf p r)(h1:¬ Bf q p)(h2:¬ Bf r q)(zp:0<p.2.2)(zr:0<r.2.2)(zq:0<q.2.2):∃ κ α β:Int,0<κ/\0<=α/\0<=β/\κ*q.1=α*p.1+β*r.1/\κ*q.2.1=α*p.2.1+β*r.2.1/\κ*q.2.2=α*p.2.2+β*r.2.2:=by
 unfold Bf at hb h1 h2;unfold aX at hd
 rcases hb with hb|⟨hb,hb'⟩
 ·refine⟨r.1*p.2.2-p.1*r.2.2,r.1*q.2.2-q.1*r.2.2,q.1*p.2.2-p.1*q.2.2,by walk_at"o",by walk_at"o",by walk_at"o",?_,?_,?_⟩
  ·grind
  ·grind
  ·grind
 ·have x1:q.1*p.2.2-p.1*q.2.2=0:=by
   have:(q.1*p.2.2-p.1*q.2.2)*(r.2.1*p.2.2-p.2.1*r.2.2)=0:=by grind
   rcases mul_eq_zero.mp this with z|z
   ·exact z
   ·walk_at"o"
  have x2:r.1*q.2.2-q.1*r.2.2=0:=by
   have:p.2.2*(r.1*q.2.2-q.1*r.2.2)=0:=by grind
   rcases mul_eq_zero.mp this with z|z
   ·walk_at"o"
   ·exact z
  refine⟨r.2.1*p.2.2-p.2.1*r.2.2,r.2.1*q.2.2-q.2.1*r.2.2,q.2.1*p.2.2-p.2.1*q.2.2,by walk_at"o",by walk_at"o",by walk_at"o",?_,?_,?_⟩
  ·grind
  ·grind
  ·grind
theorem lm {L:List aD}{q:Hf}(R:j4 L)(zq:0<q.2.2)(h:bK (L.map ag) q):R4 L q:=by
 match L,R,h with
 | [],_,h=>exact absurd h.ne (by simp)
 | [p],R,h=>
  obtain⟨_,h1,h2⟩:=h.few (by simp)
  have h1:¬ Bf q (ag p):=bQ.mp h1;have h2:¬ Bf (ag p) q:=bQ.mp h2;have zp:=cf (R.ok p (by simp))
  unfold Bf at h1 h2;refine⟨p,p,p,by simp,by simp,by simp,(ag p).2.2,q.2.2,0,0,zp,by walk_at"o",by walk_at"o",by walk_at"o",?_,?_,?_⟩
  ·have:q.1*(ag p).2.2=(ag p).1*q.2.2:=by walk_at"o"
   grind
  ·have:q.2.1*(ag p).2.2=(ag p).2.1*q.2.2:=by walk_at"o"
   grind
  ·grind
 | [p,r],R,h=>
  obtain⟨h0,h1,h2⟩:=h.few (by simp)
  have h0:aX (ag p) (ag r) q=0:=h0;have h1:¬ Bf q (ag p):=bQ.mp h1;have h2:¬ Bf (ag r) q:=bQ.mp h2;have hb:Bf (ag p) (ag r):=fg.mp (R.reg.fst 1 (by simp) (by decide))
  obtain⟨κ,α,β,k0,a0,b0,e1,e2,e3⟩:=Ii h0 hb h1 h2 (cf (R.ok p (by simp))) (cf (R.ok r (by simp))) zq
  exact⟨p,r,p,by simp,by simp,by simp,κ,α,β,0,k0,a0,b0,by walk_at"o",by rw[e1];walk_at"o",by rw[e2];walk_at"o",by rw[e3];walk_at"o"⟩
 | p::r::s::t,R,h=>
  have h3:3<=(p::r::s::t).length:=by simp
  generalize p::r::s::t=L at R h h3;have hT:=e6 R;have f1:=jw h h3 1 (by walk_at"o")
  have f2:=jw h h3 0 (by walk_at"o")
  have e1:bg L.length 1=0:=rfl;have e2:bg L.length 0=L.length-1:=rfl;rw[e1]at f1;rw[e2]at f2;obtain⟨i,i1,i2,i3,i4⟩:=change (fun i=>aX (ag (gt L 0)) (ag (gt L i)) q) (L.length-1) (by walk_at"o") f1 (by
   have:aX (ag (gt L 0)) (ag (gt L (L.length-1))) q=-aX (ag (gt L (L.length-1))) (ag (gt L 0)) q:=by unfold aX;grind
   show aX (ag (gt L 0)) (ag (gt L (L.length-1))) q<=0;walk_at"o")
  have f3:=jw h h3 (i+1) (by walk_at"o")
  have e3:bg L.length (i+1)=i:=by unfold bg;rw[if_neg (by walk_at"o")];rfl
  rw[e3]at f3;have i3:0<=aX (ag (gt L 0)) (ag (gt L i)) q:=i3;have i4:aX (ag (gt L 0)) (ag (gt L (i+1))) q<=0:=i4;have D:=hT 0 i (i+1) (by walk_at"o") (by walk_at"o") (by walk_at"o")
  obtain⟨c1,c2,c3⟩:=L9 (ag (gt L 0)) (ag (gt L i)) (ag (gt L (i+1))) q;have i5:0<=aX (ag (gt L (i+1))) (ag (gt L 0)) q:=by
   have:aX (ag (gt L (i+1))) (ag (gt L 0)) q=-aX (ag (gt L 0)) (ag (gt L (i+1))) q:=by unfold aX;grind
   walk_at"o"
  have mem:∀ j,j<L.length->gt L j∈L:=fun j hj=>by rw[bD hj];exact getElem_mem _
  exact⟨gt L 0,gt L i,gt L (i+1),mem _ (by walk_at"o"),mem _ (by walk_at"o"),mem _ (by walk_at"o"),_,_,_,_,D,f3,i5,i3,c1,c2,c3⟩
def sG (a b:Hf):Hf:=(a.2.1*b.2.2-b.2.1*a.2.2,b.1*a.2.2-a.1*b.2.2,b.1*a.2.1-a.1*b.2.1)
theorem fN (a b q:Hf):aV (sG a b) q=aX a b q:=by unfold aV sG aX;grind
theorem oj {L:List aD}{q:Hf}(R:j4 L)(zq:0<q.2.2)(h:Cv L q):bK (L.map ag) q:=by
 match L,R,h with
 | [],_,h=>
  have:=h (0,0,1) (fun s hs=>by cases hs)
  unfold aV at this;dsimp only at this;walk_at"o"
 | [p],R,h=>
  have zp:=cf (R.ok p (by simp))
  have all:∀ l:Hf,0<=aV l (ag p)->0<=aV l q:=fun l hl=>h l (fun s hs=>by rw[mem_singleton.mp hs];exact hl)
  have a1:=all ((ag p).2.2,0,(ag p).1) (by unfold aV;grind)
  have a2:=all (-(ag p).2.2,0,-(ag p).1) (by unfold aV;grind)
  have a3:=all (0,(ag p).2.2,(ag p).2.1) (by unfold aV;grind)
  have a4:=all (0,-(ag p).2.2,-(ag p).2.1) (by unfold aV;grind)
  unfold aV at a1 a2 a3 a4;dsimp only at a1 a2 a3 a4;rw[zero_mul]at a1 a2 a3 a4;simp only[neg_mul]at a1 a2 a3 a4;rw[mul_comm (ag p).2.2 q.1]at a1 a2;rw[mul_comm (ag p).2.2 q.2.1]at a3 a4;refine⟨by simp,fun _=>⟨pF _ _,bQ.mpr (fun z=>?_),bQ.mpr (fun z=>?_)⟩,fun z=>by simp at z⟩
  ·have z:Bf q (ag p):=z;unfold Bf at z;walk_at"o"
  ·have z:Bf (ag p) q:=z;unfold Bf at z;walk_at"o"
 | [p,r],R,h=>
  have zp:=cf (R.ok p (by simp))
  have zr:=cf (R.ok r (by simp))
  have hb:Bf (ag p) (ag r):=fg.mp (R.reg.fst 1 (by simp) (by decide))
  have all:∀ l:Hf,0<=aV l (ag p)->0<=aV l (ag r)->0<=aV l q:=fun l hl hl'=>h l (fun s hs=>by
   rcases mem_cons.mp hs with e|e
   ·rw[e];exact hl
   ·rw[mem_singleton.mp e];exact hl')
  refine⟨by simp,fun _=>?_,fun z=>by simp at z⟩
  show aX (ag p) (ag r) q=0/\k9 q (ag p)=false/\k9 (ag r) q=false;generalize ag p=u at *;generalize ag r=v at *;have d1:=all (sG u v) (by rw[fN,gC];exact Int.le_refl _) (by rw[fN,eA];exact Int.le_refl _)
  have d2:=all (sG v u) (by rw[fN,eA];exact Int.le_refl _) (by rw[fN,gC];exact Int.le_refl _)
  rw[fN]at d1 d2;have d3:aX v u q=-aX u v q:=by unfold aX;grind
  have hd:aX u v q=0:=by walk_at"o"
  have hdd:=hd;unfold aX at hdd;have ends:¬ Bf q u/\¬ Bf v q:=by
   unfold Bf at hb ⊢
   rcases hb with hb|⟨hb,hb'⟩
   ·have a1:=all (u.2.2,0,u.1) (by unfold aV;grind) (by unfold aV;dsimp only;rw[zero_mul,mul_comm u.2.2];walk_at"o")
    have a2:=all (-v.2.2,0,-v.1) (by unfold aV;dsimp only;rw[zero_mul,neg_mul,neg_mul,mul_comm v.2.2];walk_at"o") (by unfold aV;grind)
    unfold aV at a1 a2;dsimp only at a1 a2;rw[zero_mul]at a1 a2;simp only[neg_mul]at a1 a2;rw[mul_comm u.2.2]at a1;rw[mul_comm v.2.2]at a2;have k1:q.1*u.2.2=u.1*q.2.2->q.2.1*u.2.2=u.2.1*q.2.2:=fun e=>by
     have:(q.2.1*u.2.2-u.2.1*q.2.2)*(v.1*u.2.2-u.1*v.2.2)=0:=by grind
     rcases mul_eq_zero.mp this with z|z
     ·walk_at"o"
     ·walk_at"o"
    have k2:v.1*q.2.2=q.1*v.2.2->v.2.1*q.2.2=q.2.1*v.2.2:=fun e=>by
     have:(v.2.1*q.2.2-q.2.1*v.2.2)*(v.1*u.2.2-u.1*v.2.2)=0:=by grind
     rcases mul_eq_zero.mp this with z|z
     ·walk_at"o"
     ·walk_at"o"
    constructor
    ·rintro(z|⟨z,z'⟩)
     ·walk_at"o"
     ·have:=k1 z;walk_at"o"
    ·rintro(z|⟨z,z'⟩)
     ·walk_at"o"
     ·have:=k2 z;walk_at"o"
   ·have x1:q.1*u.2.2-u.1*q.2.2=0:=by
     have:(q.1*u.2.2-u.1*q.2.2)*(v.2.1*u.2.2-u.2.1*v.2.2)=0:=by grind
     rcases mul_eq_zero.mp this with z|z
     ·exact z
     ·walk_at"o"
    have x2:v.1*q.2.2-q.1*v.2.2=0:=by
     have:u.2.2*(v.1*q.2.2-q.1*v.2.2)=0:=by grind
     rcases mul_eq_zero.mp this with z|z
     ·walk_at"o"
     ·exact z
    have a1:=all (0,u.2.2,u.2.1) (by unfold aV;grind) (by unfold aV;dsimp only;rw[zero_mul,mul_comm u.2.2];walk_at"o")
    have a2:=all (0,-v.2.2,-v.2.1) (by unfold aV;dsimp only;rw[zero_mul,neg_mul,neg_mul,mul_comm v.2.2];walk_at"o") (by unfold aV;grind)
    unfold aV at a1 a2;dsimp only at a1 a2;rw[zero_mul]at a1 a2;simp only[neg_mul]at a1 a2;rw[mul_comm u.2.2]at a1;rw[mul_comm v.2.2]at a2;constructor
    ·rintro(z | ⟨z,z'⟩) <;> walk_at"o"
    ·rintro(z | ⟨z,z'⟩) <;> walk_at"o"
  exact⟨hd,bQ.mpr ends.1,bQ.mpr ends.2⟩
 | p::r::s::t,R,h=>
  have h3:3<=(p::r::s::t).length:=by simp
  generalize p::r::s::t=L at R h h3;have hT:=e6 R;refine⟨by rw[length_map];walk_at"o",fun z=>by rw[length_map]at z;walk_at"o",fun _ k hk=>?_⟩
  rw[length_map]at hk;rw[gG,getElem_map,iD hk,<-bD hk,<-fN];refine h _ fun s hs=>?_;obtain⟨j,hj,rfl⟩:=getElem_of_mem hs;rw[fN,<-bD hj];exact iw (P:=fun i=>ag (gt L i)) hT hk hj
theorem jf {L:List aD}{q:Hf}(R:j4 L)(zq:0<q.2.2):bK (L.map ag) q↔Cv L q:=⟨fun h=>Ma (lm R zq h),oj R zq⟩
end Law
namespace Law
open L2 DL
set_option maxHeartbeats 1000000
def Q4 (Q:Hf->Prop)(l:Hf):Prop:=∀ x,Q x->0<=aV l x
theorem Ba (l u v w q:Hf):aV l q*aX u v w=aX v w q*aV l u+aX w u q*aV l v+aX u v q*aV l w:=by
 unfold aV aX;grind
theorem PM {h:Hf}{G:Nat->aD}{n:Nat}(hn:3<=n){i:Nat}(hi:i<n)(hf:0<aY h (G i)):3<=(KI h G n n).length:=by
 obtain⟨j,hj,ej,jne,jne2⟩:∃ j,j<n/\bg n j=i/\j≠i/\j≠bg n i:=by
  by_cases e:i=n-1
  ·refine⟨0,by walk_at"o",?_,by walk_at"o",?_⟩
   ·unfold bg;rw[if_pos rfl];walk_at"o"
   ·unfold bg;rw[if_neg (by walk_at"o")];walk_at"o"
  ·refine⟨i+1,by walk_at"o",?_,by walk_at"o",?_⟩
   ·unfold bg;rw[if_neg (by walk_at"o")];walk_at"o"
   ·unfold bg;split <;> walk_at"o"
 have m1:((i,false,G i):Itm)∈KI h G n n:=ck.mpr ⟨hi,.inr ⟨rfl,bV.mpr (show 0<=aY h (G i) by walk_at"o"),rfl⟩⟩
 obtain⟨x,mx,ex⟩:∃ x:Itm,x∈KI h G n n/\((x.1=i/\x.2.1=true)\/(x.1=bg n i/\x.2.1=false)):=by
  by_cases z:0<=aY h (G (bg n i))
  ·exact⟨(bg n i,false,G (bg n i)),ck.mpr ⟨cm hi,.inr ⟨rfl,bV.mpr z,rfl⟩⟩,.inr ⟨rfl,rfl⟩⟩
  ·exact⟨(i,true,dF h (G (bg n i)) (G i)),ck.mpr ⟨hi,.inl ⟨rfl,ca.mpr (by dsimp only;walk_at"o"),rfl⟩⟩,.inl ⟨rfl,rfl⟩⟩
 obtain⟨y,my,ey⟩:∃ y:Itm,y∈KI h G n n/\y.1=j:=by
  by_cases z:0<=aY h (G j)
  ·exact⟨(j,false,G j),ck.mpr ⟨hj,.inr ⟨rfl,bV.mpr z,rfl⟩⟩,rfl⟩
  ·exact⟨(j,true,dF h (G (bg n j)) (G j)),ck.mpr ⟨hj,.inl ⟨rfl,ca.mpr (by dsimp only;rw[ej];walk_at"o"),rfl⟩⟩,rfl⟩
 have pn:=(iE hn hi).1;have nd:[((i,false,G i):Itm),x,y].Nodup:=by
  simp only[nodup_cons,mem_cons,not_mem_nil,or_false,not_or,not_false_eq_true,and_true,List.nodup_nil];refine⟨⟨fun e=>?_,fun e=>?_⟩,fun e=>?_⟩
  ·have e1:x.1=i:=by rw[<-e]
   have e2:x.2.1=false:=by rw[<-e]
   rcases ex with ⟨_,z⟩|⟨z,_⟩
   ·rw[z]at e2;cases e2
   ·walk_at"o"
  ·have e1:y.1=i:=by rw[<-e]
   walk_at"o"
  ·have e1:x.1=y.1:=by rw[e]
   rcases ex with ⟨z,_⟩ | ⟨z,_⟩ <;> walk_at"o"
 have:=List.Nodup.length_le_of_subset nd (l₂:=KI h G n n) (fun z hz=>by
  simp only[mem_cons,not_mem_nil,or_false]at hz
  rcases hz with rfl|rfl|rfl
  ·exact m1
  ·exact mx
  ·exact my)
 exact this
theorem pQ {h:Hf}{L:List aD}(hh:ig h)(R:j4 L):(iq h L).length=(gR h L).length:=(Gw (yY hh R)).2.2
theorem sY {h l:Hf}{p r:aD}{A B:Int}(op:bC p)(or':bC r)(ho:i8 h p r)(hc:0<=aV l (ag (dF h p r)))(hp:0<=aV l (ag p))(A0:0<=A)(B0:0<=B)(fq:0<=A*aV h (ag p)+B*aV h (ag r))(s:0<aY h p\/False):0<=A*aV l (ag p)+B*aV l (ag r):=by
 have s:=s.resolve_right id;have o:=ca.mp ho;have r0:aY h r<0:=by walk_at"o"
 obtain⟨_,κ,c,k0,c0,e1,e2,e3⟩:=y8 op or' (show aY h p≠0 by walk_at"o") (show aY h r≠0 by walk_at"o")
 have x1:ic (aY h r)=-aY h r:=by unfold ic;rw[if_pos r0]
 have x2:ic (aY h p)=aY h p:=by unfold ic;rw[if_neg (by walk_at"o")]
 rw[x1,x2]at e1 e2 e3;rw[cJ,cJ]at fq;have t:=Nm (l:=l) (u:=ag (dF h p r)) (p:=ag p) (q:=ag r) (κ:=κ) (α:=c*-aY h r) (β:=c*aY h p) (by rw[e1];grind) (by rw[e2];grind) (by rw[e3];grind)
 generalize aV l (ag (dF h p r))=S at t hc;generalize aV l (ag p)=P at *;generalize aV l (ag r)=Rr at *;generalize aY h p=F at *;generalize aY h r=G at *;refine cS (κ:=c*F) (mul_pos c0 s) ?_;have k:c*F*(A*P+B*Rr)=B*(κ*S)+c*(P*(A*F+B*G)):=by rw[t];grind
 rw[k];have a1:=mul_nonneg B0 (mul_nonneg (le_of_lt k0) hc);have a2:=mul_nonneg (le_of_lt c0) (mul_nonneg hp fq);walk_at"o"
theorem Bm {h:Hf}{L:List aD}(hh:ig h)(R:j4 L){q:Hf}(zq:0<q.2.2)(hL:bK (L.map ag) q)(hf:0<=aV h q):bK ((iq h L).map ag) q:=by
 have C:=tP hh R;obtain⟨a,b,c,ha,hb,hc,κ,α,β,γ,k0,a0,b0,c0,e1,e2,e3⟩:=lm R zq hL;have lin:=fun l=>oB (l:=l) e1 e2 e3
 by_cases n3:3<=L.length
 ·have ok:∀ i,i<L.length->bC (gt L i):=fun i hi=>by rw[bD hi];exact R.ok _ (getElem_mem _)
  have hT:=e6 R;have eK:gR h L=(KI h (gt L) L.length L.length).map (·.2.2):=by
   unfold gR;rw[yq];exact oi n3 ok hT _ (le_refl _)
  by_cases k3:3<=(iq h L).length
  ·let Q:Hf->Prop:=fun x=>bK (L.map ag) x/\0<=aV h x
   have hQh:xj (Q4 Q) h:=⟨fun x hx=>hx.2,hh.2⟩;have lkQ:∀ k,k<L.length->Cj (Q4 Q) (gt L (bg L.length k)) (gt L k):=fun k hk=>by
    have B:(sG (ag (gt L (bg L.length k))) (ag (gt L k))).1≠0\/(sG (ag (gt L (bg L.length k))) (ag (gt L k))).2.1≠0:=by
     by_cases z:(sG (ag (gt L (bg L.length k))) (ag (gt L k))).1=0/\(sG (ag (gt L (bg L.length k))) (ag (gt L k))).2.1=0
     ·exfalso;obtain⟨m,hm,m1,m2⟩:∃ m,m<L.length/\m≠k/\m≠bg L.length k:=⟨bg L.length (bg L.length k),cm (cm hk),(iE n3 hk).2.1,(iE n3 hk).2.2⟩;have p1:=dg (P:=fun i=>ag (gt L i)) hT hk hm m1 m2;have p2:aV (sG (ag (gt L (bg L.length k))) (ag (gt L k))) (ag (gt L k))=0:=by rw[fN,eA]
      have p1:0<aX (ag (gt L (bg L.length k))) (ag (gt L k)) (ag (gt L m)):=p1;rw[<-fN]at p1;have z1:=cf (ok k hk);unfold aV at p1 p2;rw[z.1,z.2,zero_mul,zero_mul]at p1 p2;have z2:(sG (ag (gt L (bg L.length k))) (ag (gt L k))).2.2=0:=by
       rcases mul_eq_zero.mp (show(sG (ag (gt L (bg L.length k))) (ag (gt L k))).2.2*(ag (gt L k)).2.2=0 by walk_at"o") with y | y
       ·exact y
       ·walk_at"o"
      rw[z2,zero_mul]at p1;walk_at"o"
     ·by_cases z1:(sG (ag (gt L (bg L.length k))) (ag (gt L k))).1=0
      ·exact .inr fun z2=>z ⟨z1,z2⟩
      ·exact .inl z1
    have A:∀ x,Q x->0<=aV (sG (ag (gt L (bg L.length k))) (ag (gt L k))) x:=fun x hx=>by
     rw[fN];exact jw hx.1 n3 k hk
    refine⟨sG (ag (gt L (bg L.length k))) (ag (gt L k)),⟨A,B,?_⟩,⟨A,B,?_⟩⟩
    ·rw[<-cJ,fN,gC]
    ·rw[<-cJ,fN,eA]
   have H:=oo hQh (show 0<L.length by walk_at"o") ok lkQ L.length (le_refl _)
   have e2:bg L.length L.length=L.length-1:=by unfold bg;rw[if_neg (by walk_at"o")]
   rw[e2,<-eK]at H;have cyc:=tV hQh H;have inQ:∀ u∈iq h L,Q (ag u):=fun u hu=>⟨(C.hold u hu).1,by rw[cJ];exact(C.hold u hu).2⟩
   have T:=fT C.reg.reg;refine⟨by rw[length_map];walk_at"o",fun z=>by rw[length_map]at z;walk_at"o",fun _ k hk=>?_⟩
   rw[length_map]at hk;rw[gG,getElem_map];have hlk:Cj (Q4 Q) (df (iq h L) k hk) (iq h L)[k]:=by
    have hm0:0<(gR h L).length:=by rw[<-pQ hh R];walk_at"o"
    obtain⟨hm,_⟩:=mU (yY hh R).ok hm0 (gR h L).length (le_refl _);have hk2:k<(gR h L).length:=by rw[<-pQ hh R];exact hk
    have g1:(iq h L)[k]=(gR h L)[qu (gR h L).length (wy (gR h L) (gR h L).length) k]'(kN hm hk2):=eO hm hk2;have g2:df (iq h L) k hk=df (gR h L) (qu (gR h L).length (wy (gR h L) (gR h L).length) k) (kN hm hk2):=yy hm hk2;rw[g1,g2];exact cyc _ _
   obtain⟨l,⟨gl,nl,lu⟩,⟨_,_,lv⟩⟩:=hlk;have hpv:=iD hk;have hgk:=bD hk;obtain⟨m,hm,m1,m2⟩:∃ m,m<(iq h L).length/\m≠k/\m≠bg (iq h L).length k:=⟨bg (iq h L).length (bg (iq h L).length k),cm (cm hk),(iE k3 hk).2.1,(iE k3 hk).2.2⟩;have pos:0<aX (ag (df (iq h L) k hk)) (ag (iq h L)[k]) (ag (gt (iq h L) m)):=by
    rw[hpv,<-hgk];exact dg (P:=fun i=>ag (gt (iq h L) i)) (e6 C.reg) hk hm m1 m2
   have gw:0<=aV l (ag (gt (iq h L) m)):=gl _ (inQ _ (by rw[bD hm];exact getElem_mem _))
   have gq:0<=aV l q:=gl _ ⟨hL,hf⟩;rw[<-cJ]at lu lv;have cr:=Ba l (ag (df (iq h L) k hk)) (ag (iq h L)[k]) (ag (gt (iq h L) m)) q;rw[lu,lv,mul_zero,mul_zero]at cr;have gw':0<aV l (ag (gt (iq h L) m)):=by
    rcases lt_or_le 0 (aV l (ag (gt (iq h L) m))) with z|z
    ·exact z
    ·have z0:aV l (ag (gt (iq h L) m))=0:=by walk_at"o"
     unfold aV at lu lv z0;have:=zV nl lu lv z0;walk_at"o"
   have x:=mul_nonneg gq (le_of_lt pos);refine cS gw' ?_;rw[mul_comm];walk_at"o"
  ·
   have no:∀ s∈L,aY h s<=0:=fun s hs=>by
    rcases lt_or_le 0 (aY h s) with z|z
    ·exfalso;obtain⟨i,hi,rfl⟩:=getElem_of_mem hs;rw[<-bD hi]at z;have:=PM n3 hi z;have e:=pQ hh R;rw[eK,length_map]at e;walk_at"o"
    ·exact z
   refine oj C.reg zq fun l hl=>?_;have fl:=lin h;have f1:∀ s∈L,∀ w:Int,0<=w->w*aV h (ag s)<=0/\(w*aV h (ag s)=0->0<=w*aV l (ag s)):=fun s hs w w0=>by
    have ns:=no s hs;rw[<-cJ]at ns;refine⟨mul_nonpos_of_nonneg_of_nonpos w0 ns,fun e=>?_⟩
    rcases mul_eq_zero.mp e with z|z
    ·rw[z,zero_mul];exact Int.le_refl _
    ·exact mul_nonneg w0 (hl s (C.kept s hs (by rw[<-cJ];walk_at"o")))
   have q0:=mul_nonneg (le_of_lt k0) hf;have x1:=f1 a ha α a0;have x2:=f1 b hb β b0;have x3:=f1 c hc γ c0;have y1:=x1.2 (by walk_at"o")
   have y2:=x2.2 (by walk_at"o")
   have y3:=x3.2 (by walk_at"o")
   have ll:=lin l;exact cS k0 (by walk_at"o")
 ·refine oj C.reg zq fun l hl=>?_
  match L,R,C,n3,hl,ha,hb,hc with
  | [],_,_,_,_,ha,_,_=>cases ha
  | [p],R,C,_,hl,ha,hb,hc=>
   rw[mem_singleton.mp ha,mem_singleton.mp hb,mem_singleton.mp hc]at lin;have z3:=lin (0,0,-1);have zp:=cf (R.ok p (by simp))
   have hz:0<α+β+γ:=by
    unfold aV at z3;dsimp only at z3;have:=mul_pos k0 zq
    rcases lt_or_le 0 (α+β+γ) with z|z
    ·exact z
    ·have t:κ*q.2.2=(α+β+γ)*(ag p).2.2:=by grind
     have:=mul_nonpos_of_nonpos_of_nonneg z (le_of_lt zp);walk_at"o"
   have t:∀ m:Hf,κ*aV m q=(α+β+γ)*aV m (ag p):=fun m=>by rw[lin m];grind
   have fp:0<=aV h (ag p):=cS hz (by rw[<-t];exact mul_nonneg (le_of_lt k0) hf)
   have:=hl p (C.kept p (by simp) (by rw[<-cJ];exact fp))
   exact cS k0 (by rw[t];exact mul_nonneg (le_of_lt hz) this)
  | [p,r],R,C,_,hl,ha,hb,hc=>
   have op:=R.ok p (by simp)
   have or':=R.ok r (by simp)
   obtain⟨A,B,A0,B0,t⟩:∃ A B:Int,0<=A/\0<=B/\∀ m:Hf,κ*aV m q=A*aV m (ag p)+B*aV m (ag r):=by
    have one:∀ s∈[p,r],∀ w:Int,0<=w->∃ x y:Int,0<=x/\0<=y/\∀ m:Hf,w*aV m (ag s)=x*aV m (ag p)+y*aV m (ag r):=fun s hs w w0=>by
     rcases mem_cons.mp hs with e|e
     ·exact⟨w,0,w0,by walk_at"o",fun m=>by rw[e];walk_at"o"⟩
     ·exact⟨0,w,by walk_at"o",w0,fun m=>by rw[mem_singleton.mp e];walk_at"o"⟩
    obtain⟨x1,y1,h1,h2,h3⟩:=one a ha α a0;obtain⟨x2,y2,h4,h5,h6⟩:=one b hb β b0;obtain⟨x3,y3,h7,h8,h9⟩:=one c hc γ c0;exact⟨x1+x2+x3,y1+y2+y3,by walk_at"o",by walk_at"o",fun m=>by rw[lin m,h3 m,h6 m,h9 m];grind⟩
   have fq:=mul_nonneg (le_of_lt k0) hf;rw[t]at fq;have kp:0<=aV h (ag p)->0<=aV l (ag p):=fun z=>hl p (C.kept p (by simp) (by rw[<-cJ];exact z))
   have kr:0<=aV h (ag r)->0<=aV l (ag r):=fun z=>hl r (C.kept r (by simp) (by rw[<-cJ];exact z))
   have kh:i8 h p r->0<=aV l (ag (dF h p r)):=fun ho=>hl _ (C.cross 1 (by simp) ho)
   refine cS k0 ?_;rw[t]
   by_cases zp:0<=aV h (ag p)
   ·by_cases zr:0<=aV h (ag r)
    ·have:=mul_nonneg A0 (kp zp);have:=mul_nonneg B0 (kr zr);walk_at"o"
    ·by_cases zp0:aV h (ag p)=0
     ·rw[zp0,mul_zero]at fq;have:B=0:=by
       rcases lt_or_le 0 B with y|y
       ·have:=mul_neg_of_pos_of_neg y (show aV h (ag r)<0 by walk_at"o");walk_at"o"
       ·walk_at"o"
      rw[this,zero_mul];have:=mul_nonneg A0 (kp zp);walk_at"o"
     ·have ho:i8 h p r:=ca.mpr (by rw[<-cJ,<-cJ];walk_at"o")
      exact sY op or' ho (kh ho) (kp zp) A0 B0 fq (.inl (by rw[<-cJ];walk_at"o"))
   ·by_cases zr:0<=aV h (ag r)
    ·by_cases zr0:aV h (ag r)=0
     ·rw[zr0,mul_zero]at fq;have:A=0:=by
       rcases lt_or_le 0 A with y|y
       ·have:=mul_neg_of_pos_of_neg y (show aV h (ag p)<0 by walk_at"o");walk_at"o"
       ·walk_at"o"
      rw[this,zero_mul];have:=mul_nonneg B0 (kr zr);walk_at"o"
     ·have ho:i8 h r p:=ca.mpr (by rw[<-cJ,<-cJ];walk_at"o")
      have ho':i8 h p r:=ca.mpr (by rw[<-cJ,<-cJ];walk_at"o")
      have c:=kh ho';rw[n8]at c;rw[Int.add_comm]at fq ⊢;exact sY or' op ho c (kr zr) B0 A0 fq (.inl (by rw[<-cJ];walk_at"o"))
    ·have:A=0/\B=0:=by
      have a1:=mul_nonpos_of_nonneg_of_nonpos A0 (show aV h (ag p)<=0 by walk_at"o")
      have b1:=mul_nonpos_of_nonneg_of_nonpos B0 (show aV h (ag r)<=0 by walk_at"o")
      constructor
      ·rcases lt_or_le 0 A with y|y
       ·have:=mul_neg_of_pos_of_neg y (show aV h (ag p)<0 by walk_at"o");walk_at"o"
       ·walk_at"o"
      ·rcases lt_or_le 0 B with y|y
       ·have:=mul_neg_of_pos_of_neg y (show aV h (ag r)<0 by walk_at"o");walk_at"o"
       ·walk_at"o"
     rw[this.1,this.2];walk_at"o"
  | _::_::_::_,_,_,n3,_,_,_,_=>exact absurd (by simp) n3
theorem PU {h:Hf}{L:List aD}(hh:ig h)(R:j4 L){q:Hf}(zq:0<q.2.2):bK ((iq h L).map ag) q↔bK (L.map ag) q/\0<=aV h q:=by
 refine⟨fun hK=>?_,fun z=>Bm hh R zq z.1 z.2⟩;have C:=tP hh R;have cK:=(jf C.reg zq).mp hK;refine⟨oj R zq fun l hl=>cK l fun s hs=>?_,cK h fun s hs=>by rw[cJ];exact(C.hold s hs).2⟩
 exact(jf R (cf (C.reg.ok s hs))).mp (C.hold s hs).1 l hl
end Law
namespace Law
open L2 DL
set_option maxHeartbeats 1000000
theorem JF {p q:aD}(hp:bC p)(hq:bC q){κ c:Int}(k0:0<κ)(e1:κ*(ag p).1=c*(ag q).1)(e2:κ*(ag p).2.1=c*(ag q).2.1)(e3:κ*(ag p).2.2=c*(ag q).2.2):p=q:=by
 have zp:=cf hp;have zq:=cf hq;have c0:0<c:=by
  rcases lt_or_le 0 c with z|z
  ·exact z
  ·have:=mul_pos k0 zp;have:=mul_nonpos_of_nonpos_of_nonneg z (le_of_lt zq);walk_at"o"
 have hm:vq (ag p) (ag q) (ag q):=⟨2*κ,c,c,by walk_at"o",c0,c0,by grind,by grind,by grind⟩
 by_cases h:p=q
 ·exact h
 ·rcases CQ hp hq h with z|z
  ·exact absurd ((tJ hm).1.mp z) (Bf.irr _)
  ·exact absurd ((tJ hm).2.mp z) (Bf.irr _)
theorem Rh {L:List aD}(R:j4 L){u:aD}(hu:u∈L):∃ g:Hf,aV g (ag u)=0/\∀ s∈L,s≠u->0<aV g (ag s):=by
 match L,R,hu with
 | [],_,hu=>cases hu
 | [p],_,hu=>exact⟨(0,0,0),by unfold aV;simp,fun s hs h=>absurd ((mem_singleton.mp hs).trans (mem_singleton.mp hu).symm) h⟩
 | [p,r],R,hu=>
  have hb:Bf (ag p) (ag r):=fg.mp (R.reg.fst 1 (by simp) (by decide))
  have two:∀ s∈[p,r],s=p\/s=r:=fun s hs=>by simpa using hs
  unfold Bf at hb
  rcases two u hu with rfl|rfl
  ·rcases hb with hb|⟨_,hb⟩
   ·refine⟨((ag u).2.2,0,(ag u).1),by unfold aV;grind,fun s hs h=>?_⟩
    rw[(two s hs).resolve_left h];unfold aV;dsimp only;rw[zero_mul,mul_comm (ag u).2.2];walk_at"o"
   ·refine⟨(0,(ag u).2.2,(ag u).2.1),by unfold aV;grind,fun s hs h=>?_⟩
    rw[(two s hs).resolve_left h];unfold aV;dsimp only;rw[zero_mul,mul_comm (ag u).2.2];walk_at"o"
  ·rcases hb with hb|⟨_,hb⟩
   ·refine⟨(-(ag u).2.2,0,-(ag u).1),by unfold aV;grind,fun s hs h=>?_⟩
    rw[(two s hs).resolve_right h];unfold aV;dsimp only;rw[zero_mul,neg_mul,neg_mul,mul_comm (ag u).2.2];walk_at"o"
   ·refine⟨(0,-(ag u).2.2,-(ag u).2.1),by unfold aV;grind,fun s hs h=>?_⟩
    rw[(two s hs).resolve_right h];unfold aV;dsimp only;rw[zero_mul,neg_mul,neg_mul,mul_comm (ag u).2.2];walk_at"o"
 | a::b::c::t,R,hu=>
  have h3:3<=(a::b::c::t).length:=by simp
  generalize a::b::c::t=L at R hu h3;have hT:=e6 R;obtain⟨i,hi,rfl⟩:=getElem_of_mem hu;obtain⟨j,hj,ej⟩:∃ j,j<L.length/\bg L.length j=i:=by
   by_cases e:i=L.length-1
   ·exact⟨0,by walk_at"o",by unfold bg;rw[if_pos rfl];walk_at"o"⟩
   ·exact⟨i+1,by walk_at"o",by unfold bg;rw[if_neg (by walk_at"o")];walk_at"o"⟩
  let g1:=sG (ag (gt L (bg L.length i))) (ag (gt L i))
  let g2:=sG (ag (gt L i)) (ag (gt L j))
  have sum:∀ x:Hf,aV (g1.1+g2.1,g1.2.1+g2.2.1,g1.2.2+g2.2.2) x=aX (ag (gt L (bg L.length i))) (ag (gt L i)) x+aX (ag (gt L i)) (ag (gt L j)) x:=fun x=>by
   rw[<-fN,<-fN];show aV _ x=aV g1 x+aV g2 x;unfold aV;dsimp only;grind
  refine⟨(g1.1+g2.1,g1.2.1+g2.2.1,g1.2.2+g2.2.2),?_,fun s hs h=>?_⟩
  ·rw[sum,<-bD hi,eA,gC];rfl
  ·obtain⟨m,hm,rfl⟩:=getElem_of_mem hs;rw[sum,<-bD hm];have mi:m≠i:=fun e=>h (by subst e;rfl)
   have n1:=iw (P:=fun i=>ag (gt L i)) hT hi hm;have n2:=iw (P:=fun i=>ag (gt L i)) hT hj hm;have n1:0<=aX (ag (gt L (bg L.length i))) (ag (gt L i)) (ag (gt L m)):=n1;have n2:0<=aX (ag (gt L (bg L.length j))) (ag (gt L j)) (ag (gt L m)):=n2;rw[ej]at n2
   by_cases e:m=bg L.length i
   ·have ne:=(iE h3 hj).2.1;rw[ej]at ne;have:=dg (P:=fun i=>ag (gt L i)) hT hj hm (by rw[e];exact ne) (by rw[ej];exact mi)
    have this:0<aX (ag (gt L (bg L.length j))) (ag (gt L j)) (ag (gt L m)):=this;rw[ej]at this;walk_at"o"
   ·have:=dg (P:=fun i=>ag (gt L i)) hT hi hm mi e;have this:0<aX (ag (gt L (bg L.length i))) (ag (gt L i)) (ag (gt L m)):=this;walk_at"o"
theorem y6 {L L':List aD}(R:j4 L)(R':j4 L')(h1:∀ q:Hf,0<q.2.2->bK (L.map ag) q->bK (L'.map ag) q)(h2:∀ s∈L',bK (L.map ag) (ag s)):∀ u∈L,u∈L':=fun u hu=>by
 have zu:=cf (R.ok u hu);obtain⟨g,g0,gp⟩:=Rh R hu;have hL':=h1 _ zu (jx R hu (lO _));have gn:∀ s∈L,0<=aV g (ag s):=fun s hs=>by
  by_cases e:s=u
  ·rw[e,g0];exact Int.le_refl _
  ·exact le_of_lt (gp s hs e)
 have gn':∀ s∈L',0<=aV g (ag s):=fun s hs=>(jf R (cf (R'.ok s hs))).mp (h2 s hs) g gn;have zero:∀ s∈L',aV g (ag s)=0->s=u:=fun s hs e=>by
  obtain⟨a,b,c,ha,hb,hc,κ,α,β,γ,k0,a0,b0,c0,e1,e2,e3⟩:=lm R (cf (R'.ok s hs)) (h2 s hs);have l:=oB (l:=g) e1 e2 e3;rw[e,mul_zero]at l;have n1:=mul_nonneg a0 (gn a ha);have n2:=mul_nonneg b0 (gn b hb);have n3:=mul_nonneg c0 (gn c hc);have is:∀ x∈L,∀ w:Int,w*aV g (ag x)=0->w=0\/x=u:=fun x hx w z=>by
   rcases mul_eq_zero.mp z with z|z
   ·exact .inl z
   ·right
    by_cases e:x=u
    ·exact e
    ·have:=gp x hx e;walk_at"o"
  have t:∀ x∈L,∀ w:Int,w*aV g (ag x)=0->w*(ag x).1=w*(ag u).1/\w*(ag x).2.1=w*(ag u).2.1/\w*(ag x).2.2=w*(ag u).2.2:=fun x hx w z=>by
   rcases is x hx w z with e|e
   ·rw[e];simp
   ·rw[e];exact⟨rfl,rfl,rfl⟩
  have ta:=t a ha α (by walk_at"o")
  have tb:=t b hb β (by walk_at"o")
  have tc:=t c hc γ (by walk_at"o")
  refine JF (R'.ok s hs) (R.ok u hu) k0 (c:=α+β+γ) ?_ ?_ ?_
  ·rw[e1,ta.1,tb.1,tc.1];grind
  ·rw[e2,ta.2.1,tb.2.1,tc.2.1];grind
  ·rw[e3,ta.2.2,tb.2.2,tc.2.2];grind
 obtain⟨a,b,c,ha,hb,hc,κ,α,β,γ,k0,a0,b0,c0,e1,e2,e3⟩:=lm R' zu hL';have l:=oB (l:=g) e1 e2 e3;rw[g0,mul_zero]at l;have n1:=mul_nonneg a0 (gn' a ha);have n2:=mul_nonneg b0 (gn' b hb);have n3:=mul_nonneg c0 (gn' c hc);have done:∀ x∈L',∀ w:Int,0<w->w*aV g (ag x)=0->u∈L':=fun x hx w w0 z=>by
  rcases mul_eq_zero.mp z with z|z
  ·walk_at"o"
  ·rw[<-zero x hx z];exact hx
 rcases lt_or_le 0 α with z|z
 ·exact done a ha α z (by walk_at"o")
 ·rcases lt_or_le 0 β with z'|z'
  ·exact done b hb β z' (by walk_at"o")
  ·rcases lt_or_le 0 γ with z''|z''
   ·exact done c hc γ z'' (by walk_at"o")
   ·exfalso;have x1:α=0:=by walk_at"o"
    have x2:β=0:=by walk_at"o"
    have x3:γ=0:=by walk_at"o"
    rw[x1,x2,x3,zero_mul,zero_mul,zero_mul]at e3;have:=mul_pos k0 zu;walk_at"o"
theorem sU {α:Type}{P:α->α->Prop}(as:∀ a b,P a b->¬ P b a):∀ {l m:List α},l.Pairwise P->m.Pairwise P->(∀ x,x∈l↔x∈m)->l=m
 | [],[],_,_,_=>rfl
 | [],b::m,_,_,h=>absurd ((h b).mpr mem_cons_self) (by simp)
 | a::l,[],_,_,h=>absurd ((h a).mp mem_cons_self) (by simp)
 | a::l,b::m,hl,hm,h=>by
  obtain⟨h1,h2⟩:=pairwise_cons.mp hl;obtain⟨h3,h4⟩:=pairwise_cons.mp hm;have e:a=b:=by
   rcases mem_cons.mp ((h a).mp mem_cons_self) with e|e
   ·exact e
   ·rcases mem_cons.mp ((h b).mpr mem_cons_self) with e'|e'
    ·exact e'.symm
    ·exact absurd (h1 b e') (as _ _ (h3 a e))
  subst e;refine congrArg _ (sU as h2 h4 fun x=>⟨fun hx=>?_,fun hx=>?_⟩)
  ·rcases mem_cons.mp ((h x).mp (mem_cons_of_mem _ hx)) with e|e
   ·subst e;exact absurd (h1 _ hx) (as _ _ (h1 _ hx))
   ·exact e
  ·rcases mem_cons.mp ((h x).mpr (mem_cons_of_mem _ hx)) with e|e
   ·subst e;exact absurd (h3 _ hx) (as _ _ (h3 _ hx))
   ·exact e
theorem NM {L L':List aD}(R:j4 L)(R':j4 L')(h:∀ q:Hf,0<q.2.2->(bK (L.map ag) q↔bK (L'.map ag) q)):L=L':=by
 have s1:∀ u∈L,u∈L':=y6 R R' (fun q z hq=>(h q z).mp hq) fun s hs=>(h _ (cf (R'.ok s hs))).mpr (jx R' hs (lO _));have s2:∀ u∈L',u∈L:=y6 R' R (fun q z hq=>(h q z).mpr hq) fun s hs=>(h _ (cf (R.ok s hs))).mp (jx R hs (lO _));have ord:∀ {a:aD}{l:List aD},j4 (a::l)->(∀ s∈l,Bf (ag a) (ag s))/\l.Pairwise (fun b c=>0<aX (ag a) (ag b) (ag c)):=fun {a l} R=>by
  constructor
  ·intro s hs;obtain⟨k,hk,rfl⟩:=getElem_of_mem hs;have:=R.reg.fst (k+1) (by simp;walk_at"o") (by walk_at"o")
   simpa [fg] using this
  ·rw[pairwise_iff_getElem];intro i j hi hj hij;have:=fT R.reg 0 (i+1) (j+1) (by walk_at"o") (by walk_at"o") (by simp;walk_at"o")
   simpa using this
 match L,L',R,R',s1,s2 with
 | [],[],_,_,_,_=>rfl
 | [],b::m,_,_,_,s2=>exact absurd (s2 b mem_cons_self) (by simp)
 | a::l,[],_,_,s1,_=>exact absurd (s1 a mem_cons_self) (by simp)
 | a::l,b::m,R,R',s1,s2=>
  obtain⟨o1,p1⟩:=ord R;obtain⟨o2,p2⟩:=ord R';have e:a=b:=by
   rcases mem_cons.mp (s1 a mem_cons_self) with e|e
   ·exact e
   ·rcases mem_cons.mp (s2 b mem_cons_self) with e'|e'
    ·exact e'.symm
    ·exact absurd (o1 b e') (o2 a e).asym
  subst e;refine congrArg _ (sU (fun b c h1 h2=>by rw[zz]at h2;walk_at"o") p1 p2 fun x=>⟨fun hx=>?_,fun hx=>?_⟩)
  ·rcases mem_cons.mp (s1 x (mem_cons_of_mem _ hx)) with e|e
   ·subst e;exact absurd (o1 _ hx) (Bf.irr _)
   ·exact e
  ·rcases mem_cons.mp (s2 x (mem_cons_of_mem _ hx)) with e|e
   ·subst e;exact absurd (o2 _ hx) (Bf.irr _)
   ·exact e
end Law
namespace Law
open L2 DL
set_option maxHeartbeats 1000000
def xl (L0:List aD)(D:List Hf)(L:List aD):Prop:=j4 L/\L.length<=L0.length+2*D.length/\∀ q:Hf,0<q.2.2->(bK (L.map ag) q↔bK (L0.map ag) q/\∀ h∈D,0<=aV h q)
theorem Rq {L0:List aD}(R:j4 L0):xl L0 [] L0:=⟨R,by simp,fun q _=>⟨fun h=>⟨h,fun _ hh=>(nomatch hh)⟩,fun h=>h.1⟩⟩
theorem Eu {L0 L:List aD}{D:List Hf}{h:Hf}(hh:ig h)(I:xl L0 D L):xl L0 (D++[h]) (iq h L):=by
 obtain⟨R,hl,hq⟩:=I;have C:=tP hh R;refine⟨C.reg,by have:=C.len;rw[List.length_append,length_singleton];walk_at"o",fun q zq=>?_⟩
 rw[PU hh R zq,hq q zq];constructor
 ·rintro⟨⟨a,b⟩,c⟩;refine⟨a,fun x hx=>?_⟩
  rcases mem_append.mp hx with hx|hx
  ·exact b x hx
  ·rw[mem_singleton.mp hx];exact c
 ·rintro⟨a,b⟩;exact⟨⟨a,fun x hx=>b x (mem_append_left _ hx)⟩,b h (mem_append_right _ (mem_singleton.mpr rfl))⟩
theorem Qe {a b c:Int}(hne:a≠0\/b≠0)(q:Hf):0<=aV (ME a b c) q↔0<=aV (a,b,c) q:=by
 have g0:0<(j7 a b c:Int):=by have:=zH (c:=c) hne;walk_at"o"
 have e1:=b9 (Eh a b c);have e2:=b9 (Ei a b c);have e3:=b9 (MC a b c);have k:(j7 a b c:Int)*aV (ME a b c) q=aV (a,b,c) q:=by
  unfold ME aV;dsimp only;generalize a.fdiv (j7 a b c)=x at *;generalize b.fdiv (j7 a b c)=y at *;generalize c.fdiv (j7 a b c)=z at *;generalize (j7 a b c:Int)=g at *;rw[<-e1,<-e2,<-e3];grind
 rw[<-k];exact⟨fun h=>mul_nonneg (le_of_lt g0) h,fun h=>cS g0 h⟩
theorem PP {a b c:Int}(hne:a≠0\/b≠0)(hz:dk 300 (a,b,c)):ig (ME a b c):=by
 refine⟨⟨hz.1.fdiv _,hz.2.1.fdiv _,hz.2.2.fdiv _⟩,?_⟩
 rcases hne with h|h
 ·exact .inl (zC (Eh a b c) h)
 ·exact .inr (zC (Ei a b c) h)
theorem nD {p q:Pt}(hne:p≠q)(x:Hf):0<=aV (xA p q) x↔0<=aX (fl p) (fl q) x:=by
 have n:p.2-q.2≠0\/q.1-p.1≠0:=by
  by_cases a:p.2-q.2=0
  ·exact .inr fun b=>hne (Prod.ext (by walk_at"o") (by walk_at"o"))
  ·exact .inl a
 unfold xA;rw[Qe n];have:aV (p.2-q.2,q.1-p.1,(p.2-q.2)*p.1+(q.1-p.1)*p.2) x=aX (fl p) (fl q) x:=by
  unfold aV aX fl;grind
 rw[this]
theorem Pn {p q:Pt}(hne:p≠q)(zp:SzF 110 p)(zq:SzF 110 q):ig (xA p q):=by
 have n:p.2-q.2≠0\/q.1-p.1≠0:=by
  by_cases a:p.2-q.2=0
  ·exact .inr fun b=>hne (Prod.ext (by walk_at"o") (by walk_at"o"))
  ·exact .inl a
 have za:Sz 120 (p.2-q.2):=(Sz.sub zp.2 zq.2).mono (by decide)
 have zb:Sz 120 (q.1-p.1):=(Sz.sub zq.1 zp.1).mono (by decide)
 have zc:Sz 300 ((p.2-q.2)*p.1+(q.1-p.1)*p.2):=(Sz.add (Sz.mul za zp.1) (Sz.mul zb zp.2)).mono (by decide)
 exact PP n ⟨za.mono (by decide),zb.mono (by decide),zc⟩
theorem Gb {p:Pt}(z:SzF 115 p):Ov (1,0,p.1) (fi p):=⟨⟨ve (by decide),vf,z.1.mono (by decide)⟩,.inl (show(1:Int)≠0 by decide),by unfold aY fi;simp⟩
theorem P9 {p:Pt}(z:SzF 115 p):Ov (0,1,p.2) (fi p):=⟨⟨vf,ve (by decide),z.2.mono (by decide)⟩,.inr (show(1:Int)≠0 by decide),by unfold aY fi;simp⟩
theorem MV {p q:Pt}(zp:SzF 115 p)(zq:SzF 115 q):Lk (fi p) (fi q):=by
 by_cases e:p=q
 ·subst e;exact⟨_,Gb zp,Gb zp⟩
 ·have za:Sz 120 (p.2-q.2):=(Sz.sub zp.2 zq.2).mono (by decide)
  have zb:Sz 120 (q.1-p.1):=(Sz.sub zq.1 zp.1).mono (by decide)
  have zc:Sz 300 ((p.2-q.2)*p.1+(q.1-p.1)*p.2):=(Sz.add (Sz.mul za zp.1) (Sz.mul zb zp.2)).mono (by decide)
  have n:p.2-q.2≠0\/q.1-p.1≠0:=by
   by_cases a:p.2-q.2=0
   ·exact .inr fun b=>e (Prod.ext (by walk_at"o") (by walk_at"o"))
   ·exact .inl a
  have s:dk 300 (p.2-q.2,q.1-p.1,(p.2-q.2)*p.1+(q.1-p.1)*p.2):=⟨za.mono (by decide),zb.mono (by decide),zc⟩
  refine⟨(p.2-q.2,q.1-p.1,(p.2-q.2)*p.1+(q.1-p.1)*p.2),⟨s,n,?_⟩,⟨s,n,?_⟩⟩
  ·unfold aY fi;dsimp only;grind
  ·unfold aY fi;dsimp only;grind
theorem gY {S H:List Pt}(O:xk S H)(z:∀ p∈H,SzF 115 p):j4 (H.map fi):=by
 have eF:(H.map fi).map ag=H.map fl:=by rw[map_map];exact map_congr_left fun p _=>k7 p
 refine⟨fun s hs=>?_,by rw[eF];exact O.reg,fun s hs=>?_,fun k hk=>?_⟩
 ·obtain⟨p,_,rfl⟩:=mem_map.mp hs;exact GW p
 ·obtain⟨p,hp,rfl⟩:=mem_map.mp hs;exact⟨_,_,Gb (z p hp),P9 (z p hp),show(1:Int)*1-0*0≠0 by decide⟩
 ·obtain⟨p,hp,e1⟩:=mem_map.mp (qo hk);obtain⟨q,hq,e2⟩:=mem_map.mp (getElem_mem hk);rw[<-e1,<-e2];exact MV (z p hp) (z q hq)
theorem qE {ps S1:List Pt}(hS:SetOf ps S1)(hne:ps≠[]):xk S1 (bO S1):=by
 have hn1:S1≠[]:=fun e=>by
  cases ps with
  | nil=>exact hne rfl
  | cons p ps=>have:=hS.2.1 p mem_cons_self;rw[e]at this;cases this
 exact IF hS.2.2 hn1
theorem ES (H:List Pt):(H.map fi).map ag=H.map fl:=by rw[map_map];exact map_congr_left fun p _=>k7 p
end Law
namespace Law
open L2 DL
set_option maxHeartbeats 4000000
theorem pX {α:Type}(f:α->T){L:List α}{k:Nat}(hk:k<L.length):atI (L.map f) (k:Int)=some (f L[k]):=dq (by rw[getElem?_map,getElem?_eq_getElem hk];rfl)
theorem zO {α:Type}(f:α->T){L:List α}(h:0<L.length):atI (L.map f) (-1)=some (f L[L.length-1]):=by
 have e:uG (L.map f).length (-1)=some (L.length-1):=by
  unfold uG;rw[length_map,if_neg (by decide),if_pos (by omega)]
  congr 1;omega
 unfold atI;rw[e];show(L.map f)[L.length-1]?=_;rw[getElem?_map,getElem?_eq_getElem (by omega)];rfl
theorem IJ {α:Type}(f:α->T){L:List α}{k:Nat}(hk:k<L.length):atI (L.map f) ((k:Int)-1)=some (f (df L k hk)):=by
 unfold df
 by_cases h0:k=0
 ·subst h0;rw[dif_pos rfl];exact zO f hk
 ·rw[dif_neg h0];have:(k:Int)-1=((k-1:Nat):Int):=by omega
  rw[this];exact pX f (by omega)
theorem bG {n m:Nat}{s:aD}(h:fe n s)(l:n<=m):fe m s:=⟨⟨h.1.1.mono l,h.1.2.mono l⟩,h.2.1.mono l,h.2.2.mono l⟩
def Qk (q:aD × aD):T:=.tup [spT q.1,spT q.2]
theorem wM (k n:Nat):bT (k:Int) (n+1)=.int k::bT ((k+1:Nat):Int) n:=by
 unfold bT;rw[range_succ_eq_map,map_cons,map_map]
 congr 1
 ·simp;intro a _;omega
theorem IB {g:WG}{wb:WS}{D:iX}{δ:aR}(I:Nat->aR->Prop)(n:Nat)(h0:I 0 δ)(hend:∀ δ,I n δ->D.nx δ)
  (hstep:∀ k,k<n->∀ δ,I k δ->g (.int (k:Int)) δ fun δ1=>wb {nx:=I (k+1),rt:=D.rt,bk:=D.nx,ct:=I (k+1)} δ1):xN g wb (bT 0 n) D δ:=by
 refine⟨fun ts δ=>∃ k j:Nat,ts=bT (k:Int) j/\k+j=n/\I k δ,⟨0,n,rfl,by omega,h0⟩,?_,?_⟩
 ·rintro δ ⟨k,j,e,hk,h⟩
  cases j with
  | zero=>exact hend δ (by rw[Nat.add_zero]at hk;rw[<-hk];exact h)
  | succ j=>rw[wM]at e;cases e
 ·rintro x r δ ⟨k,j,e,hk,h⟩
  cases j with
  | zero=>cases e
  | succ j=>
   rw[wM]at e;obtain⟨rfl,rfl⟩:=List.cons.inj e;have q:=hstep k (by omega) δ h
   have z:I (k+1)=fun δ=>∃ k' j':Nat,bT ((k+1:Nat):Int) j=bT (k':Int) j'/\k'+j'=n/\I k' δ:=by
    funext δ'
    refine propext ⟨fun hi=>⟨k+1,j,rfl,by omega,hi⟩,?_⟩
    rintro⟨k',j',e',hk',hi⟩;have:=congrArg List.length e';rw[gX,gX]at this;have:k'=k+1:=by omega
    rw[<-this];exact hi
   show g _ δ fun δ1=>wb {nx:=fun δ=>∃ k' j':Nat,bT ((k+1:Nat):Int) j=bT (k':Int) j'/\k'+j'=n/\I k' δ,rt:=D.rt,bk:=D.nx,ct:=fun δ=>∃ k' j':Nat,bT ((k+1:Nat):Int) j=bT (k':Int) j'/\k'+j'=n/\I k' δ} δ1;rw[<-z];exact q
def fG:aJ:=fun ss R=>∃ p q:aD,ss=[.t (spT p),.t (spT q)]/\fe 20000 p/\fe 20000 q/\R (.t (.bl (Hh p q)))
def js:aJ:=fun ss R=>∃ L:List aD,ss=[.t (.lst (L.map spT))]/\L.length<=200/\R (.ol ((sL L).map Qk))
def gH:aJ:=fun ss R=>∃ L:List aD,ss=[.t (.lst (L.map spT))]/\L.length<=400/\(∀ p∈L,bC p/\fe 20000 p)/\R (.ol ((MB L).map spT))
def me:aJ:=fun ss R=>∃ (p q:Fr) (a b:Int),ss=[.t (xf p),.t (.int a),.t (xf q),.t (.int b)]/\SzF 700 p/\SzF 700 q/\Sz 3200 a/\Sz 3200 b/\0<a/\0<b/\0<p.2/\0<q.2/\R (.t (xf (KQ p q a b)))
def jq:aJ:=fun ss R=>∃ (h:Hf) (p q:aD),ss=[.t (a5 h),.t (spT p),.t (spT q)]/\dk 300 h/\fe 700 p/\fe 700 q/\bC p/\bC q/\aY h p≠0/\aY h q≠0/\R (.t (spT (dF h p q)))
def kT:aJ:=fun ss R=>∃ (L:List aD) (h:Hf),ss=[.t (.lst (L.map spT)),.t (a5 h)]/\L.length<=180/\(∀ p∈L,bC p/\fe 700 p)/\dk 300 h/\R (.ol ((iq h L).map spT))
def mB:WS:=
 (aC (gM (wB (rK (ap aI (ae 0) (wC (.int 0))) (ap aI (ae 1) (wC (.int 0))))) (a6 (aw dR (ac (ap aI (ae 0) (wC (.int 1))) (ac (ap aI (ae 1) (wC (.int 1))) ao)))) bd)
 (a6 (aw dR (ac (ap aI (ae 0) (wC (.int 0))) (ac (ap aI (ae 1) (wC (.int 0))) ao)))))
def oY:WS:=
 (a6 (dZ 1 [0] (fV (ac (dH cE (ac (ae 0) ao)) ao)) (aU 0) nZ (bN (ac (ap aI (ae 1) (cZ (ae 0) (wC (.int 1)))) (ac (ap aI (ae 1) (ae 0)) ao)))))
def fA:WS:=
 (aC (aG 1 (wC (.int 0)))
 (bP (ju (fV (ac (dH cE (ac (ae 0) ao)) ao)) (aU 2) (gM (wB (aw fG (ac (ap aI (ae 0) (ae 2)) (ac (ap aI (ae 0) (ae 1)) ao)))) (aG 1 (ae 2)) bd))
 (a6 (ap nV (dz (ae 0) (fU (ae 1)) dy) (dz (ae 0) dy (fU (ae 1)))))))
def oW:WS:=
 (aC (aG 4 (dw (bv (bv (ap aI (ae 0) (wC (.int 0))) (ap aI (ae 2) (wC (.int 1)))) (ae 1)) (bv (bv (ap aI (ae 2) (wC (.int 0))) (ap aI (ae 0) (wC (.int 1)))) (ae 3))))
 (a6 (aw hX (ac (ae 4) (ac (bv (bv (ap aI (ae 0) (wC (.int 1))) (ap aI (ae 2) (wC (.int 1)))) (dw (ae 1) (ae 3))) ao)))))
def iU:WS:=
 (aC (aG 3 (bv (dH i6 (ac (aw dD (ac (ae 0) (ac (ae 2) ao))) ao)) (aw cM (ac (ae 1) ao))))
 (aC (aG 4 (bv (dH i6 (ac (aw dD (ac (ae 0) (ac (ae 1) ao))) ao)) (aw cM (ac (ae 2) ao))))
 (aC (aG 5 (aw me (ac (ap aI (ae 1) (wC (.int 0))) (ac (ae 3) (ac (ap aI (ae 2) (wC (.int 0))) (ac (ae 4) ao))))))
 (aC (aG 6 (aw me (ac (ap aI (ae 1) (wC (.int 1))) (ac (ae 3) (ac (ap aI (ae 2) (wC (.int 1))) (ac (ae 4) ao))))))
 (a6 (bN (ac (ae 5) (ac (ae 6) ao))))))))
def jQ:WS:=
 (aC (aG 2 (ia ao))
 (bP (ju (bW (aw js (ac (ae 0) ao))) (aU 3) (bP (gM (wB (Cc (bv (aw iP (ac (ae 1) (ac (ap aI (ae 3) (wC (.int 0))) ao))) (aw iP (ac (ae 1) (ac (ap aI (ae 3) (wC (.int 1))) ao)))) (wC (.int 0)))) (aC (aG 4 (aw jq (ac (ae 1) (ac (ap aI (ae 3) (wC (.int 0))) (ac (ap aI (ae 3) (wC (.int 1))) ao)))))
 (gM (wB (yL (ae 4) (ae 2))) (fy 2 (ae 4)) bd)) bd)
 (gM (wB (QL (aw iP (ac (ae 1) (ac (ap aI (ae 3) (wC (.int 1))) ao))) (wC (.int 0)))) (fy 2 (ap aI (ae 3) (wC (.int 1)))) bd)))
 (a6 (aw gH (ac (ae 2) ao)))))
theorem BG:Ok fG mB ["one","other"]:=by
 rintro ss R ⟨⟨⟨x0,x1⟩,y0,y1⟩,⟨⟨u0,u1⟩,v0,v1⟩,rfl,⟨⟨z1,z2⟩,z3,z4⟩,⟨⟨s1,s2⟩,s3,s4⟩,h⟩;dsimp only at z1 z2 z3 z4 s1 s2 s3 s4;show mB _ [some (.t (.tup [.tup [.int x0,.int x1],.tup [.int y0,.int y1]])),some (.t (.tup [.tup [.int u0,.int u1],.tup [.int v0,.int v1]]))]
 delta mB
 unfold Hh at h;walk_at"d"
 by_cases e:x0=u0/\x1=u1
 ·rw[if_pos (by simpa using e)]
  rw[if_pos (by rw[e.1,e.2])]at h
  exact⟨(y0,y1),(v0,v1),rfl,⟨z3.mono (by decide),z4.mono (by decide)⟩,⟨s3.mono (by decide),s4.mono (by decide)⟩,h⟩
 ·rw[if_neg (by simpa using e)]
  rw[if_neg (fun z=>e ⟨congrArg Prod.fst z,congrArg Prod.snd z⟩)]at h;exact⟨(x0,x1),(u0,u1),rfl,⟨z1.mono (by decide),z2.mono (by decide)⟩,⟨s1.mono (by decide),s2.mono (by decide)⟩,h⟩
theorem Ga:Ok js oY ["region"]:=by
 rintro ss R ⟨L,rfl,hl,h⟩;show oY _ [some (.t (.lst (L.map spT)))]
 delta oY
 walk_at"d";refine⟨lS (by omega) (by rw[length_map];omega),?_⟩
 rw[length_map,toNat_natCast]
 let pr:Nat->aD × aD:=fun k=>if hk:k<L.length then (df L k hk,L[k]) else (((0,0),(0,0)),((0,0),(0,0)))
 refine fL (f:=fun k:Nat=>.int (0+(k:Int))) (h:=fun k=>Qk (pr k)) (l:=List.range L.length) (fun δ=>∃ r,δ=[r,some (.t (.lst (L.map spT)))]) (fun k _=>rfl) (by rw[length_range];omega) ⟨_,rfl⟩ ?_ ?_
 ·rintro k hk δ ⟨r,rfl⟩ Y hY;have hk:=mem_range.mp hk;have e:pr k=(df L k hk,L[k]):=dif_pos hk;rw[Int.zero_add];walk_at"d";rw[eu (IJ spT hk)];walk_at"d";rw[eu (pX spT hk)];rw[e]at hY;exact hY _ ⟨_,rfl⟩
 ·have e:(List.range L.length).map (fun k=>Qk (pr k))=(sL L).map Qk:=by unfold sL;rw[map_map];rfl
  rw[e];exact h
theorem rA:Ok gH fA ["corners","first","place"]:=by
 rintro ss R ⟨L,rfl,hl,hz,h⟩;show fA _ [some (.t (.lst (L.map spT))),none,none]
 delta fA
 walk_at"d"
 let I:Nat->aR->Prop:=fun k δ=>∃ r:Option S,δ=[some (.t (.lst (L.map spT))),some (.t (.int (wy L k))),r]
 refine⟨I L.length,?_,?_⟩
 ·walk_at"d";refine⟨lS (by omega) (by rw[length_map];omega),?_⟩
  rw[length_map,toNat_natCast];refine IB I L.length ⟨_,rfl⟩ (fun δ h=>h) ?_;rintro k hk δ ⟨r,rfl⟩;obtain⟨hf1,_⟩:=mU (fun p hp=>(hz p hp).1) (show 0<L.length by omega) k (by omega)
  walk_at"d";rw[eu (pX spT hk)];walk_at"d";rw[eu (pX spT hf1)];walk_at"d";refine⟨L[k],L[wy L k],rfl,(hz _ (getElem_mem _)).2,(hz _ (getElem_mem _)).2,?_⟩;have e:=wz L k;rw[bD hk,bD hf1]at e;walk_at"d"
  split
  ·rename_i c;rw[if_pos c]at e;exact⟨_,by rw[e]⟩
  ·rename_i c;rw[if_neg c]at e;exact⟨_,by rw[e]⟩
 ·rintro δ ⟨r,rfl⟩;walk_at"d";have hfl:wy L L.length<=L.length:=by
   by_cases e:0<L.length
   ·exact Nat.le_of_lt (mU (fun p hp=>(hz p hp).1) e L.length (le_refl _)).1
   ·have:L=[]:=length_eq_zero_iff.mp (by omega)
    subst this;exact le_refl _
  unfold MB at h;generalize wy L L.length=f at h hfl;have c1:fX (L.map spT) (some (f:Int)) none=(L.drop f).map spT:=by
   unfold fX;rw[HT.sIx_nat,HT.sIx_none,length_map,min_eq_left hfl,<-map_drop,<-map_take];rw[take_of_length_le (by rw[length_drop];omega)]
  have c2:fX (L.map spT) none (some (f:Int))=(L.take f).map spT:=by
   unfold fX;rw[HT.sIx_nat,HT.sIx_none,length_map,min_eq_left hfl,List.drop_zero,Nat.sub_zero,<-map_take]
  rw[c1,c2,<-map_append];exact⟨by simp only[length_map,length_drop,length_take];omega,h⟩
theorem EW {p q:Fr}{a b:Int}(zp:SzF 700 p)(zq:SzF 700 q)(za:Sz 3200 a)(zb:Sz 3200 b):Sz 5000 (p.1*q.2*a+q.1*p.2*b)/\Sz 5000 (p.2*q.2*(a+b))/\SzF 5000 (KQ p q a b):=by
 have st:Sz 5000 (p.1*q.2*a+q.1*p.2*b):=(Sz.add (Sz.mul (Sz.mul zp.1 zq.2) za) (Sz.mul (Sz.mul zq.1 zp.2) zb)).mono (by decide)
 have sB:Sz 5000 (p.2*q.2*(a+b)):=(Sz.mul (Sz.mul zp.2 zq.2) (Sz.add za zb)).mono (by decide)
 exact⟨st,sB,st.fdiv _,sB.fdiv _⟩
theorem F8:Ok me oW ["one","one_weight","other","other_weight","top"]:=by
 rintro ss R ⟨⟨x0,x1⟩,⟨y0,y1⟩,a,b,rfl,⟨z1,z2⟩,⟨z3,z4⟩,sa,sb,a0,b0,p0,q0,h⟩;obtain⟨st,sB,_⟩:=EW (p:=(x0,x1)) (q:=(y0,y1)) ⟨z1,z2⟩ ⟨z3,z4⟩ sa sb;dsimp only at z1 z2 z3 z4 p0 q0 st sB;show oW _ [some (.t (.tup [.int x0,.int x1])),some (.t (.int a)),some (.t (.tup [.int y0,.int y1])),some (.t (.int b)),none]
 delta oW
 have hB:x1*y1*(a+b)≠0:=by
  have:=mul_pos (mul_pos p0 q0) (show 0<a+b by omega)
  omega
 walk_at"d";refine⟨bF z1 z4 (by decide) (by decide),bF (Sz.mul z1 z4) sa (by decide) (by decide),bF z3 z2 (by decide) (by decide),bF (Sz.mul z3 z2) sb (by decide) (by decide),bF z2 z4 (by decide) (by decide),bF (Sz.mul z2 z4) (Sz.add sa sb) (by decide) (by decide),_,_,rfl,hB,sB.mono (by decide),?_⟩
 walk_at"d";exact h
theorem Ec {h:Hf}{s:aD}(hh:dk 300 h)(hs:fe 700 s):Sz 1750 (aY h s):=by
 obtain⟨a,b,c⟩:=hh;obtain⟨⟨x0,x1⟩,y0,y1⟩:=hs;unfold aY;exact(Sz.sub (Sz.add (Sz.mul (Sz.mul a x0) y1) (Sz.mul (Sz.mul b y0) x1)) (Sz.mul c (Sz.mul x1 y1))).mono (by decide)
theorem Cz {n:Nat}{x:Int}(h:Sz n x):Sz n (ic x):=by
 unfold ic
 split
 ·exact⟨by rw[Int.natAbs_neg];exact h.lt⟩
 ·exact h
theorem tm {h:Hf}{p q:aD}(hh:dk 300 h)(hp:fe 700 p)(hq:fe 700 q):Sz 3200 (ic (aY h q)*(p.1.2*p.2.2)):=(Sz.mul (Cz (Ec hh hq)) (Sz.mul hp.1.2 hp.2.2)).mono (by decide)
theorem Pq {h:Hf}{p q:aD}(hh:dk 300 h)(hp:fe 700 p)(hq:fe 700 q):fe 5000 (dF h p q):=⟨(EW hp.1 hq.1 (tm hh hp hq) (tm hh hq hp)).2.2,(EW hp.2 hq.2 (tm hh hp hq) (tm hh hq hp)).2.2⟩
theorem wF:Ok jq iU ["half","one","other","one_weight","other_weight","x","y"]:=by
 rintro ss R ⟨hf,p,q,rfl,hh,hp,hq,op,oq,ep,eq,h⟩;show iU _ [some (.t (a5 hf)),some (.t (spT p)),some (.t (spT q)),none,none,none,none]
 delta iU
 have sh:=mj hh (show 300<=300000 by decide)
 have sp:=bG hp (show 700<=60000 by decide)
 have sq:=bG hq (show 700<=60000 by decide)
 have bp:0<p.1.2*p.2.2:=mul_pos op.1.1 op.2.1;have bq:0<q.1.2*q.2.2:=mul_pos oq.1.1 oq.2.1;have zbp:Sz 1400 (p.1.2*p.2.2):=Sz.mul hp.1.2 hp.2.2;have zbq:Sz 1400 (q.1.2*q.2.2):=Sz.mul hq.1.2 hq.2.2;have zq:=Cz (Ec hh hq);have zp:=Cz (Ec hh hp);have k1:0<ic (aY hf q)*(p.1.2*p.2.2):=mul_pos (mJ eq) bp;have k2:0<ic (aY hf p)*(q.1.2*q.2.2):=mul_pos (mJ ep) bq;have k3:=tm hh hp hq;have k4:=tm hh hq hp;unfold dF at h;have fold:∀ x:Int,(if x<0 then -x else x)=ic x:=fun _=>rfl
 walk_at"d";refine⟨hf,q,rfl,sh,sq,?_⟩;walk_at"d";refine⟨p,rfl,sp,?_⟩;walk_at"d";rw[fold];refine⟨bF zq zbp (by decide) (by decide),hf,p,rfl,sh,sp,?_⟩
 walk_at"d";refine⟨q,rfl,sq,?_⟩;walk_at"d";rw[fold];refine⟨bF zp zbq (by decide) (by decide),p.1,q.1,_,_,rfl,hp.1,hq.1,k3,k4,k1,k2,op.1.1,oq.1.1,?_⟩
 walk_at"d";refine⟨p.2,q.2,_,_,rfl,hp.2,hq.2,k3,k4,k1,k2,op.2.1,oq.2.1,?_⟩;walk_at"d";exact h
theorem GQ (a:Int):-1<=sgn a/\sgn a<=1:=by
 unfold sgn
 split
 ·omega
 ·split <;> omega
theorem FT {s:aD}{ks:List aD}{y:S}{R:S->Prop}(hy:tr y=.lst (ks.map spT))(h1:s∈ks->R (.t (.bl false)))(h2:¬ s∈ks->R (.t (.bl true))):kH (.t (spT s)) y R:=by
 unfold kH;rw[hy];refine⟨by show 2<=20;decide,le_trans (gU bc _) (by decide),?_⟩
 by_cases h:s∈ks
 ·have e:Es (tr (.t (spT s))) (ks.map spT)=true:=by
   unfold Es;rw[List.any_map,List.any_eq_true];exact⟨s,h,(a7 s s).mpr rfl⟩
  rw[e];exact h1 h
 ·have e:Es (tr (.t (spT s))) (ks.map spT)=false:=by
   unfold Es;rw[List.any_map,List.any_eq_false];intro x hx hc;exact h (((a7 x s).mp hc) ▸ hx)
  rw[e];exact h2 h
theorem Al {L:List aD}{q:aD × aD}(h:q∈sL L):q.1∈L/\q.2∈L:=by
 obtain⟨k,hk,rfl⟩:=mem_map.mp h;have hk:=mem_range.mp hk;rw[dif_pos hk];exact⟨qo hk,getElem_mem hk⟩
theorem se (h:Hf)(pre:List (aD × aD))(q:aD × aD):(pre++[q]).foldl (qP h) []=qP h (pre.foldl (qP h) []) q:=by rw[foldl_append];rfl
theorem x8:Ok kT jQ ["region","half","kept","pair","spot"]:=by
 rintro ss R ⟨L,hf,rfl,hl,hz,hh,h⟩;show jQ _ [some (.t (.lst (L.map spT))),some (.t (a5 hf)),none,none,none]
 delta jQ
 walk_at"d";have hS:∀ p∈L,fe 60000 p:=fun p hp=>bG (hz p hp).2 (by decide)
 have hH:dk 300000 hf:=mj hh (by decide)
 let K:List (aD × aD)->List aD->Prop:=fun pre ks=>ks=pre.foldl (qP hf) []/\ks.length<=2*pre.length/\∀ p∈ks,bC p/\fe 20000 p
 refine⟨fun δ=>∃ ks r3 r4,δ=[some (.t (.lst (L.map spT))),some (.t (a5 hf)),some (.ol (ks.map spT)),r3,r4]/\K (sL L) ks,?_,?_⟩
 ·refine⟨L,rfl,by omega,?_⟩
  dsimp only;rw[dO _ (bB (fun _=>rfl) _)];walk_at"d";refine⟨fun ts δ=>∃ (pre post:List (aD × aD)) (ks:List aD) (r3 r4:Option S),sL L=pre++post/\ts=post.map Qk/\δ=[some (.t (.lst (L.map spT))),some (.t (a5 hf)),some (.ol (ks.map spT)),r3,r4]/\K pre ks,⟨[],sL L,[],_,_,rfl,rfl,rfl,by simp[K]⟩,?_,?_⟩
  ·rintro δ ⟨pre,post,ks,r3,r4,e3,e4,rfl,hK⟩;have:post=[]:=by simpa using e4.symm
   subst this;rw[append_nil]at e3;rw[e3];exact⟨ks,r3,r4,rfl,hK⟩
  ·rintro x ts δ ⟨pre,post,ks,r3,r4,e3,e4,rfl,hK⟩
   cases post with
   | nil=>cases e4
   | cons q post=>
    rw[map_cons]at e4
    cases e4
    obtain⟨q1,q2⟩:=Al (L:=L) (q:=q) (by rw[e3];simp)
    have hpl:pre.length<=180:=by
     have e5:(sL L).length=L.length:=by unfold sL;simp
     rw[e3]at e5;simp only[List.length_append,length_cons]at e5;omega
    obtain⟨hK1,hK2,hK3⟩:=hK;have b1:=GQ (aY hf q.1);have b2:=GQ (aY hf q.2);have app:∀ {n:Nat}{ks:List aD}{s:aD},ks.length<=n->(∀ p∈ks,bC p/\fe 20000 p)->bC s/\fe 20000 s->(ks++[s]).length<=n+1/\∀ p∈ks++[s],bC p/\fe 20000 p:=fun {n ks s} h1 h2 h3=>⟨by rw[List.length_append,length_singleton];omega,fun p hp=>by
     rcases mem_append.mp hp with hp|hp
     ·exact h2 p hp
     ·rw[mem_singleton.mp hp];exact h3⟩
    have z2:bC q.2/\fe 20000 q.2:=⟨(hz _ q2).1,bG (hz _ q2).2 (by decide)⟩
    let k1:List aD:=if i8 hf q.1 q.2/\¬ dF hf q.1 q.2∈ks then ks++[dF hf q.1 q.2] else ks
    show aU 3 (.tup [spT q.1,spT q.2]) _ _;walk_at"d";refine⟨fun δ=>∃ (r4:Option S),δ=[some (.t (.lst (L.map spT))),some (.t (a5 hf)),some (.ol (k1.map spT)),some (.t (.tup [spT q.1,spT q.2])),r4]/\k1.length<=2*pre.length+1/\∀ p∈k1,bC p/\fe 20000 p,?_,?_⟩
    ·walk_at"d";refine⟨hf,q.1,rfl,hH,hS _ q1,hf,q.2,rfl,hH,hS _ q2,?_⟩;walk_at"d";refine⟨Ja (by omega) (by omega),?_⟩
     split
     ·rename_i hlt;have ho:i8 hf q.1 q.2:=hlt;have o:=ca.mp ho;refine⟨hf,q.1,q.2,rfl,hh,(hz _ q1).2,(hz _ q2).2,(hz _ q1).1,(hz _ q2).1,by omega,by omega,?_⟩
      walk_at"d";have zs:bC (dF hf q.1 q.2)/\fe 20000 (dF hf q.1 q.2):=⟨(gB (hz _ q1).1 (hz _ q2).1 ho).1,bG (Pq hh (hz _ q1).2 (hz _ q2).2) (by decide)⟩
      refine FT (ks:=ks) rfl (fun hin=>?_) (fun hin=>?_)
      ·walk_at"d";have e:k1=ks:=if_neg fun z=>z.2 hin;rw[e];exact⟨_,rfl,by omega,hK3⟩
      ·walk_at"d";have e:k1=ks++[dF hf q.1 q.2]:=if_pos ⟨ho,hin⟩;obtain⟨a1,a2⟩:=app hK2 hK3 zs;rw[e];exact⟨by rw[length_map];omega,_,by rw[map_append];rfl,a1,a2⟩
     ·rename_i hlt;have e:k1=ks:=if_neg fun z=>hlt z.1;rw[e];exact⟨_,rfl,by omega,hK3⟩
    ·rintro δ ⟨r4',rfl,l1,l2⟩;walk_at"d";refine⟨hf,q.2,rfl,hH,hS _ q2,?_⟩;walk_at"d"
     split
     ·rename_i hk;obtain⟨a1,a2⟩:=app l1 l2 z2;refine⟨by rw[length_map];omega,pre++[q],post,k1++[q.2],some (.t (.tup [spT q.1,spT q.2])),r4',by rw[e3];simp,rfl,by rw[map_append];rfl,?_,?_,a2⟩
      ·rw[se,<-hK1];exact(if_pos (show mG hf q.2 from hk)).symm
      ·rw[List.length_append (as:=pre),length_singleton];omega
     ·rename_i hk;refine⟨pre++[q],post,k1,some (.t (.tup [spT q.1,spT q.2])),r4',by rw[e3];simp,rfl,rfl,?_,?_,l2⟩
      ·rw[se,<-hK1];exact(if_neg (show ¬ mG hf q.2 from hk)).symm
      ·rw[List.length_append,length_singleton];omega
 ·rintro δ ⟨ks,r3,r4,rfl,k1,k2,k3⟩;have e5:(sL L).length=L.length:=by unfold sL;simp
  walk_at"d";refine⟨ks,rfl,by omega,k3,?_⟩
  dsimp only;rw[dO _ (bB (fun _=>rfl) _)];walk_at"d";unfold iq gR at h;rw[<-k1]at h;exact h
end Law
namespace Law
open L2 DL
set_option maxHeartbeats 4000000
def OA (a b s:aD):Bool:=decide (vj a b s=0) && !Hh s a && !Hh b s
def K2 (L:List aD)(s:aD):List Int:=(sL L).map fun q=>sgn (vj q.1 q.2 s)
def OH (l:List Int)(m:Int):Prop:=m∈l/\∀ x∈l,m<=x
def OI (L:List aD)(s:aD)(m:Int):Prop:=
 (L=[]/\m=-1)\/(∃ h:0<L.length,L.length<3/\m=if OA L[0] L[L.length-1] s=true then 0 else -1)\/(3<=L.length/\OH (K2 L s) m)
def gJ:aJ:=fun ss R=>∃ a b s:aD,ss=[.t (spT a),.t (spT b),.t (spT s)]/\fe 20000 a/\fe 20000 b/\fe 20000 s/\R (.t (.bl (OA a b s)))
def kX:aJ:=fun ss R=>∃ (L:List aD) (s:aD),ss=[.t (.lst (L.map spT)),.t (spT s)]/\L.length<=200/\(∀ p∈L,fe 20000 p)/\fe 20000 s/\∀ m,OI L s m->R (.t (.int m))
def fE:WS:=
 (aC (gM (wB (Oj (aw iR (ac (ae 0) (ac (ae 1) (ac (ae 2) ao)))) (wC (.int 0)))) (a6 (wC (.bl false))) bd)
 (a6 (AD (AE (aw fG (ac (ae 2) (ac (ae 0) ao)))) (AE (aw fG (ac (ae 1) (ac (ae 2) ao)))))))
def jV:WS:=
 (aC (gM (wB (rK (dH cE (ac (ae 0) ao)) (wC (.int 0)))) (a6 (vv iy (wC (.int 1)))) bd)
 (aC (gM (wB (Cc (dH cE (ac (ae 0) ao)) (wC (.int 3)))) (a6 (Oi (wB (aw gJ (ac (ap aI (ae 0) (wC (.int 0))) (ac (ap aI (ae 0) (vv iy (wC (.int 1)))) (ac (ae 1) ao))))) (wC (.int 0)) (vv iy (wC (.int 1))))) bd)
 (a6 (dH KF (ac (dZ 1 [1] (bW (aw js (ac (ae 0) ao))) (aU 0) nZ (aw mf (ac (aw iR (ac (ap aI (ae 0) (wC (.int 0))) (ac (ap aI (ae 0) (wC (.int 1))) (ac (ae 1) ao)))) ao))) ao)))))
theorem rD:Ok gJ fE ["first","last","spot"]:=by
 rintro ss R ⟨a,b,s,rfl,za,zb,zs,h⟩;show fE _ [some (.t (spT a)),some (.t (spT b)),some (.t (spT s))]
 delta fE
 unfold OA at h;walk_at"d";refine⟨a,b,s,rfl,bG za (by decide),bG zb (by decide),bG zs (by decide),?_⟩
 walk_at"d"
 by_cases e:vj a b s=0
 ·rw[if_neg (by simpa using e)]
  rw[decide_eq_true e,Bool.true_and]at h;walk_at"d";refine⟨s,a,rfl,zs,za,?_⟩;walk_at"d"
  cases hl:Hh s a with
  | true=>
   rw[hl]at h;walk_at"d";exact h
  | false=>
   rw[hl]at h;walk_at"d";refine⟨b,s,rfl,zb,zs,?_⟩;walk_at"d";exact h
 ·rw[if_pos (by simpa using e)]
  rw[decide_eq_false e,Bool.false_and,Bool.false_and]at h;walk_at"d";exact h
theorem yf:Ok kX jV ["region","spot"]:=by
 rintro ss R ⟨L,s,rfl,hl,hz,zs,h⟩;show jV _ [some (.t (.lst (L.map spT))),some (.t (spT s))]
 delta jV
 walk_at"d"
 by_cases h0:L.length=0
 ·rw[if_pos (by rw[length_map];omega)]
  walk_at"d";exact h _ (.inl ⟨length_eq_zero_iff.mp h0,rfl⟩)
 rw[if_neg (by rw[length_map];omega)]
 walk_at"d";have hp:0<L.length:=by omega
 by_cases h3:L.length<3
 ·rw[if_pos (by rw[length_map];omega)]
  walk_at"d";rw[eu (show atI (L.map spT) 0=some (spT L[0]) from pX (k:=0) spT hp)];walk_at"d";rw[eu (zO spT hp)];walk_at"d";refine⟨L[0],L[L.length-1],s,rfl,hz _ (getElem_mem _),hz _ (getElem_mem _),zs,?_⟩;walk_at"d";have hm:=h _ (.inr (.inl ⟨hp,h3,rfl⟩))
  split
  ·rename_i e;rw[if_pos e]at hm;exact hm
  ·rename_i e;rw[if_neg e]at hm;exact hm
 ·rw[if_neg (by rw[length_map];omega)]
  walk_at"d";refine⟨L,rfl,hl,?_⟩;dsimp only;rw[dO _ (bB (fun _=>rfl) _)];walk_at"d";refine fL (h:=fun q:aD × aD=>.int (sgn (vj q.1 q.2 s))) (fun δ=>∃ r,δ=[r,some (.t (spT s))]) (fun _ _=>rfl) (by unfold sL;simp;omega) ⟨_,rfl⟩ ?_ ?_
  ·rintro q hq δ ⟨r,rfl⟩ Y hY;obtain⟨q1,q2⟩:=Al hq;show aU 0 (.tup [spT q.1,spT q.2]) _ _;walk_at"d";refine⟨q.1,q.2,s,rfl,bG (hz _ q1) (by decide),bG (hz _ q2) (by decide),bG zs (by decide),?_⟩
   walk_at"d";refine⟨_,rfl,?_⟩;walk_at"d";exact hY _ ⟨_,rfl⟩
  ·walk_at"d";have e:(sL L).map (fun q:aD × aD=>T.int (sgn (vj q.1 q.2 s)))=(K2 L s).map T.int:=by unfold K2;rw[map_map];rfl
   rw[e,rO];refine⟨fun z=>?_,fun m hm hx=>h m (.inr (.inr ⟨by omega,hm,hx⟩))⟩
   have:(K2 L s).length=L.length:=by unfold K2 sL;simp
   rw[z]at this;simp at this;omega
theorem GR (x:Int):(sgn x<0↔x<0)/\(sgn x=0↔x=0)/\(0<sgn x↔0<x)/\sgn x<=1/\-1<=sgn x:=by
 unfold sgn
 split
 ·omega
 ·split <;> omega
theorem IS {L:List aD}{s:aD}(hL:∀ p∈L,bC p)(hs:bC s){m:Int}(h:OI L s m):0<=m↔bK (L.map ag) (ag s):=by
 have hml:(L.map ag).length=L.length:=length_map ..;have hd:∀ k (hk:k<(L.map ag).length),aX (df (L.map ag) k hk) (L.map ag)[k] (ag s)=vj (df L k (by omega)) (L[k]'(by omega)) s:=fun k hk=>by
  rw[gG,getElem_map,G5]
 rcases h with ⟨rfl,rfl⟩|⟨hp,h3,rfl⟩|⟨h3,hm,hx⟩
 ·exact⟨fun h=>absurd h (by decide),fun h=>absurd h.ne (by simp)⟩
 ·have g0:(L.map ag)[0]'(by omega)=ag L[0]:=getElem_map ..
  have g1:(L.map ag)[(L.map ag).length-1]'(by omega)=ag L[L.length-1]:=by
   rw[getElem_map];congr 2;omega
  have k0:=hL _ (getElem_mem hp);have k1:=hL _ (getElem_mem (show L.length-1<L.length by omega))
  have iff:bK (L.map ag) (ag s)↔OA L[0] L[L.length-1] s=true:=by
   unfold OA;constructor
   ·intro z;have:=z.few (by omega)
    rw[g0,g1,<-G5,<-qb hs k0,<-qb k1 hs]at this;simp[this.1,this.2.1,this.2.2]
   ·intro z;simp only[Bool.and_eq_true,decide_eq_true_eq,Bool.not_eq_true']at z;refine⟨by omega,fun _=>?_,fun _=>by omega⟩
    rw[g0,g1,<-G5,<-qb hs k0,<-qb k1 hs];exact⟨z.1.1,z.1.2,z.2⟩
  rw[iff]
  by_cases ho:OA L[0] L[L.length-1] s=true
  ·rw[if_pos ho];exact⟨fun _=>ho,fun _=>by decide⟩
  ·rw[if_neg ho];exact⟨fun z=>absurd z (by decide),fun z=>absurd z ho⟩
 ·have mem:∀ k (hk:k<L.length),sgn (vj (df L k hk) L[k] s)∈K2 L s:=fun k hk=>by
   unfold K2 sL;rw[map_map];refine mem_map.mpr ⟨k,mem_range.mpr hk,?_⟩;show sgn (vj (if hk:k<L.length then (df L k hk,L[k]) else (((0,0),(0,0)),((0,0),(0,0)))).1 (if hk:k<L.length then (df L k hk,L[k]) else (((0,0),(0,0)),((0,0),(0,0)))).2 s)=_
   rw[dif_pos hk]
  obtain⟨k0,hk0,e0⟩:∃ k,∃ hk:k<L.length,m=sgn (vj (df L k hk) L[k] s):=by
   unfold K2 sL at hm;rw[map_map]at hm;obtain⟨k,hk,e⟩:=mem_map.mp hm;have hk:=mem_range.mp hk;refine⟨k,hk,?_⟩;rw[<-e];show sgn (vj (if hk:k<L.length then (df L k hk,L[k]) else (((0,0),(0,0)),((0,0),(0,0)))).1 (if hk:k<L.length then (df L k hk,L[k]) else (((0,0),(0,0)),((0,0),(0,0)))).2 s)=_
   rw[dif_pos hk]
  have so:=GR (vj (df L k0 hk0) L[k0] s);constructor
  ·intro hm0;refine⟨by omega,fun _=>by omega,fun _ k hk=>?_⟩
   rw[hd];have q:=hx _ (mem k (by omega))
   have so2:=GR (vj (df L k (by omega)) (L[k]'(by omega)) s)
   omega
  ·intro z;have:=z.all (by omega) k0 (by omega)
   rw[hd]at this;omega
theorem Mb {ps S1:List Pt}(hS:SetOf ps S1)(hz:∀ p∈ps,SzF 115 p)(l:Hf):(∀ p∈bO S1,0<=aV l (fl p))↔∀ p∈ps,0<=aV l (fl p):=by
 cases ps with
 | nil=>
  have e:S1=[]:=by
   cases S1 with
   | nil=>rfl
   | cons p r=>have:=hS.1 p mem_cons_self;cases this
  subst e;simp[bO]
 | cons p0 r=>
  have O:=qE hS (by simp)
  have R:=gY O fun p hp=>hz p (hS.1 p (O.sub p hp));constructor
  ·intro h p hp;have h1:=O.hold p (hS.2.1 p hp);rw[<-ES]at h1;refine(jf R (show(0:Int)<1 by decide)).mp h1 l fun s hs=>?_
   obtain⟨p',hp',rfl⟩:=mem_map.mp hs;rw[k7];exact h p' hp'
  ·intro h p hp;exact h p (hS.1 p (O.sub p hp))
theorem Em {ps S1:List Pt}(hS:SetOf ps S1)(hne:ps≠[])(hz:∀ p∈ps,SzF 115 p){q:Hf}(zq:0<q.2.2):bK (((bO S1).map fi).map ag) q↔∀ l:Hf,(∀ p∈ps,0<=aV l (fl p))->0<=aV l q:=by
 have O:=qE hS hne;have R:=gY O fun p hp=>hz p (hS.1 p (O.sub p hp));rw[jf R zq];unfold Cv;refine forall_congr' fun l=>?_;rw[<-Mb hS hz l];refine imp_congr ⟨fun h p hp=>?_,fun h s hs=>?_⟩ Iff.rfl
 ·have:=h (fi p) (mem_map.mpr ⟨p,hp,rfl⟩)
  rwa [k7]at this
 ·obtain⟨p',hp',rfl⟩:=mem_map.mp hs;rw[k7];exact h p' hp'
end Law
namespace Law
open L2 DL
def a9 (v f:Pt):Int:=v.1*f.1+v.2*f.2
def kh (u v:Pt):Int:=u.1*v.2-u.2*v.1
def ahead (vs:List Pt)(f:Pt):Nat:=vs.countP fun v=>decide (0<=a9 v f)
def Ey (w:Pt)(t:Int):Pt:=(-w.2*t-w.1,w.1*t-w.2)
theorem Mi (w v:Pt)(t:Int):a9 v (Ey w t)=t*kh w v-a9 w v:=by
 unfold a9 Ey kh;grind
def wI (w v:Pt):Bool:=decide (0<kh w v\/(kh w v=0/\a9 w v<=0))
theorem xW {t x:Int}(ht:0<t)(hx:x<=-1):t*x<=-t:=by
 have:=Int.mul_le_mul_of_nonneg_left hx (le_of_lt ht);omega
theorem xV {t x:Int}(ht:0<t)(hx:1<=x):t<=t*x:=by
 have:=Int.mul_le_mul_of_nonneg_left hx (le_of_lt ht);omega
theorem Rn {t c d:Int}(h1:d<t)(h2:-t<d):0<=t*c+d↔0<c\/(c=0/\0<=d):=by
 have ht:0<t:=by omega
 constructor
 ·intro h
  by_cases h0:c=0
  ·subst h0;rw[mul_zero]at h;exact .inr ⟨rfl,by omega⟩
  ·refine .inl ?_
   by_cases hp:0<c
   ·exact hp
   ·have:=xW ht (show c<=-1 by omega)
    omega
 ·rintro(h|⟨rfl,h⟩)
  ·have:=xV ht (show 1<=c by omega)
   omega
  ·rw[mul_zero];omega
theorem IK {w v:Pt}{t:Int}(h1:a9 w v<t)(h2:-t<a9 w v):decide (0<=a9 v (Ey w t))=wI w v:=by
 rw[Mi];unfold wI;have:=Rn (c:=kh w v) (d:=-a9 w v) (t:=t) (by omega) (by omega)
 rw[decide_eq_decide];rw[show t*kh w v-a9 w v=t*kh w v + -a9 w v by omega,this]
 constructor
 ·rintro(h|⟨h,h'⟩)
  ·exact .inl h
  ·exact .inr ⟨h,by omega⟩
 ·rintro(h|⟨h,h'⟩)
  ·exact .inl h
  ·exact .inr ⟨h,by omega⟩
theorem CA {vs:List Pt}{w:Pt}{t:Int}(h:∀ v∈vs,a9 w v<t/\-t<a9 w v):ahead vs (Ey w t)=vs.countP (wI w):=by
 unfold ahead;refine List.countP_congr fun v hv=>?_;rw[IK (h v hv).1 (h v hv).2]
theorem wQ (x:Int):0<=x*x:=by
 rcases Int.le_total 0 x with h|h
 ·exact mul_nonneg h h
 ·exact mul_nonneg_of_nonpos_of_nonpos h h
theorem Kg {x:Int}(h:x≠0):0<x*x:=by
 have:=wQ x;have:x*x≠0:=fun z=>by
  rcases mul_eq_zero.mp z with e|e <;> exact h e
 omega
theorem N2 {w g:Pt}(h:a9 w g<0):0<w.1*w.1+w.2*w.2:=by
 have a:=wQ w.1 ;have b:=wQ w.2
 by_cases e1:w.1=0
 ·by_cases e2:w.2=0
  ·unfold a9 at h;rw[e1,e2]at h;omega
  ·have:=Kg e2;omega
 ·have:=Kg e1;omega
theorem xD (u v w g:Pt):kh u w*a9 v g=kh u v*a9 w g+kh v w*a9 u g:=by
 unfold kh a9;grind
theorem xp (w v g:Pt):a9 v g*(w.1*w.1+w.2*w.2)=a9 w v*a9 w g+kh w v*kh w g:=by
 unfold kh a9;grind
theorem nK (g:Pt):∀ vs:List Pt,(∀ v∈vs,0<=a9 v g)\/∃ w∈vs,a9 w g<0/\∀ v∈vs,a9 v g<0->kh w v<=0
 | []=>.inl fun v h=>by cases h
 | u::vs=>by
  rcases nK g vs with h|⟨w,hw,hg,hl⟩
  ·by_cases hu:0<=a9 u g
   ·refine .inl fun v hv=>?_
    rcases mem_cons.mp hv with z|z
    ·subst z;exact hu
    ·exact h v z
   ·refine .inr ⟨u,mem_cons_self,by omega,fun v hv hn=>?_⟩
    rcases mem_cons.mp hv with z|z
    ·subst z;have:kh v v=0:=by unfold kh;grind
     omega
    ·have:=h v z;omega
  ·by_cases hu:0<=a9 u g
   ·refine .inr ⟨w,mem_cons_of_mem _ hw,hg,fun v hv hn=>?_⟩
    rcases mem_cons.mp hv with z|z
    ·subst z;omega
    ·exact hl v z hn
   ·by_cases hc:kh w u<=0
    ·refine .inr ⟨w,mem_cons_of_mem _ hw,hg,fun v hv hn=>?_⟩
     rcases mem_cons.mp hv with z|z
     ·subst z;exact hc
     ·exact hl v z hn
    ·refine .inr ⟨u,mem_cons_self,by omega,fun v hv hn=>?_⟩
     rcases mem_cons.mp hv with z|z
     ·subst z;have:kh v v=0:=by unfold kh;grind
      omega
     ·have c1:=hl v z hn;have anti:kh u w=-kh w u:=by unfold kh;grind
      have key:=xD u w v g;have p1:0<=kh u w*a9 v g:=mul_nonneg_of_nonpos_of_nonpos (by omega) (by omega)
      have p2:0<=kh w v*a9 u g:=mul_nonneg_of_nonpos_of_nonpos (by omega) (by omega)
      by_cases hp:kh u v<=0
      ·exact hp
      ·have:=mul_neg_of_pos_of_neg (a:=kh u v) (b:=a9 w g) (by omega) hg
       omega
theorem wJ {w v g:Pt}(hw:a9 w g<0)(hv:a9 v g<0)(hc:kh w v<=0):wI w v=false:=by
 unfold wI;rw[decide_eq_false_iff_not];rintro(h|⟨h0,hd⟩)
 ·omega
 ·have key:=xp w v g;rw[h0,zero_mul,Int.add_zero]at key;have p1:=Int.mul_neg_of_neg_of_pos hv (N2 hw);have p2:=mul_nonneg_of_nonpos_of_nonpos hd (by omega:a9 w g<=0)
  omega
theorem vy (vs:List Pt)(g:Pt):vs.length<=ahead vs g\/∃ w∈vs,w≠(0,0)/\vs.countP (wI w)<=ahead vs g:=by
 rcases nK g vs with h|⟨w,hw,hg,hl⟩
 ·refine .inl ?_;have:ahead vs g=vs.length:=by
   unfold ahead;rw[List.countP_eq_length];exact fun v hv=>decide_eq_true (h v hv)
  omega
 ·refine .inr ⟨w,hw,fun z=>?_,?_⟩
  ·subst z;unfold a9 at hg;simp at hg
  ·unfold ahead;refine List.countP_mono_left fun v hv hp=>?_;rw[decide_eq_true_eq]
   by_cases hn:0<=a9 v g
   ·exact hn
   ·rw[wJ hg (by omega) (hl v hv (by omega))]at hp
    cases hp
theorem pb (vs:List Pt)(g:Pt):ahead vs g<=vs.length:=List.countP_le_length
def o5 (vs:List Pt)(n:Nat):Prop:=(∃ f:Pt,f≠(0,0)/\ahead vs f=n)/\∀ g:Pt,g≠(0,0)->n<=ahead vs g
theorem xQ {vs:List Pt}{m n:Nat}(h:o5 vs m)(k:o5 vs n):m=n:=by
 obtain⟨⟨f,h1,h2⟩,h3⟩:=h;obtain⟨⟨g,k1,k2⟩,k3⟩:=k;have:=h3 g k1;have:=k3 f h1;omega
theorem C5 (vs:List Pt):∃ n,o5 vs n:=by
 have key:∀ (n:Nat) (f:Pt),f≠(0,0)->ahead vs f<=n->∃ m,o5 vs m:=by
  intro n
  induction n with
  | zero=>exact fun f hf h=>⟨0,⟨f,hf,by omega⟩,fun g _=>zero_le _⟩
  | succ n ih=>
   intro f hf h
   by_cases hx:∃ g:Pt,g≠(0,0)/\ahead vs g<=n
   ·obtain⟨g,h1,h2⟩:=hx;exact ih g h1 h2
   ·refine⟨n+1,⟨f,hf,?_⟩,fun g hg=>?_⟩
    ·have:¬ ahead vs f<=n:=fun z=>hx ⟨f,hf,z⟩;omega
    ·have:¬ ahead vs g<=n:=fun z=>hx ⟨g,hg,z⟩;omega
 exact key vs.length (1,0) (by decide) (pb _ _)
noncomputable def j6 (vs:List Pt):Nat:=Classical.choose (C5 vs)
theorem fM (vs:List Pt):o5 vs (j6 vs):=Classical.choose_spec (C5 vs)
theorem C9 {vs:List Pt}{n:Nat}(h:o5 vs n):j6 vs=n:=xQ (fM vs) h
def Ci (vs:List Pt)(fs:List Pt):Prop:=(∀ f∈fs,f≠(0,0))/\fs≠[]/\∀ w∈vs,w≠(0,0)->∃ f∈fs,ahead vs f=vs.countP (wI w)
theorem xM {vs fs:List Pt}(h:Ci vs fs){f:Pt}(hf:f∈fs)(hm:∀ g∈fs,ahead vs f<=ahead vs g):o5 vs (ahead vs f):=by
 obtain⟨h1,h2,h3⟩:=h;refine⟨⟨f,h1 f hf,rfl⟩,fun g hg=>?_⟩
 rcases vy vs g with z|⟨w,hw,hn,z⟩
 ·have:=pb vs f;omega
 ·obtain⟨k,hk,e⟩:=h3 w hw hn;have:=hm k hk;omega
theorem PX {w:Pt}{t:Int}(h:w≠(0,0)):Ey w t≠(0,0):=fun z=>by
 have h1:-w.2*t-w.1=0:=congrArg Prod.fst z;have h2:w.1*t-w.2=0:=congrArg Prod.snd z;have e:w.1*w.1+w.2*w.2=0:=by
  have e1:w.1=-w.2*t:=by omega
  have e2:w.2=w.1*t:=by omega
  have a:w.1*w.1=-(w.2*(w.1*t)):=by
   have:w.1*w.1=w.1*(-w.2*t):=by rw[<-e1]
   rw[this];grind
  rw[a,<-e2];omega
 have a:=wQ w.1;have b:=wQ w.2;apply h;have e1:w.1=0:=by
  by_cases z:w.1=0
  ·exact z
  ·have:=Kg z;omega
 have e2:w.2=0:=by
  by_cases z:w.2=0
  ·exact z
  ·have:=Kg z;omega
 exact Prod.ext e1 e2
def lf (u v:Pt):Bool:=decide (0<kh u v)
end Law
namespace Law
open L2 DL
def ua (h:Hf)(p:Pt):Bool:=decide (h.2.2<=h.1*p.1+h.2.1*p.2)
def gd (h:Hf)(ps:List Pt):Nat:=ps.countP (ua h)
def kY:aJ:=fun ss R=>∃ (h:Hf) (ps:List Pt),ss=[.t (a5 h),.t (.lst (ps.map aN))]/\dk 60000 h/\(∀ p∈ps,SzF 60000 p)/\ps.length<10000/\R (.t (.int (gd h ps)))
def jX:WS:=
 (a6 (dH cE (ac (dZ 1 [0] (bW (ae 1)) (aU 0) (wB (QL (dw (bv (ap aI (ae 1) (wC (.int 0))) (ap aI (ae 0) (wC (.int 0)))) (bv (ap aI (ae 1) (wC (.int 1))) (ap aI (ae 0) (wC (.int 1))))) (ap aI (ae 1) (wC (.int 2))))) (ae 0)) ao)))
theorem yh:Ok kY jX ["half","points"]:=by
 rintro ss R ⟨⟨a,b,c⟩,ps,rfl,⟨y1,y2,y3⟩,hs,hl,h⟩;dsimp only at y1 y2 y3;show jX _ [some (.t (.tup [.int a,.int b,.int c])),some (.t (.lst (ps.map aN)))]
 delta jX
 walk_at"d";refine eY (f:=aN) (h:=aN) (p:=ua (a,b,c)) (fun δ=>∃ r,δ=[r,some (.t (.tup [.int a,.int b,.int c]))]) (fun p _=>An p) (by omega) ⟨_,rfl⟩ ?_ ?_
 ·rintro⟨x,y⟩ hp δ ⟨r,rfl⟩ Y N h1 h2;obtain⟨z1,z2⟩:=hs _ hp;dsimp only at z1 z2;walk_at"go"
  split
  ·rename_i hc;exact h1 _ ⟨_,rfl⟩ (by simp[ua];exact hc)
  ·rename_i hc;exact h2 _ ⟨_,rfl⟩ (by simp[ua];omega)
 ·walk_at"d";rw[length_map,<-countP_eq_length_filter];exact h
end Law
namespace Law
open L2 DL
set_option maxHeartbeats 1000000
def G7 (p:Pt):List Hf:=[(1,0,p.1),(-1,0,-p.1),(0,1,p.2),(0,-1,-p.2)]
def fW (ps:List Pt)(h:Hf):Prop:=(∃ p∈ps,h∈G7 p)\/∃ p∈ps,∃ q∈ps,p≠q/\h=xA p q
theorem fW.sub {B ps:List Pt}(hs:∀ p∈B,p∈ps){h:Hf}(hb:fW B h):fW ps h:=by
 rcases hb with ⟨p,hp,hh⟩|⟨p,hp,q,hq,hne,e⟩
 ·exact .inl ⟨p,hs p hp,hh⟩
 ·exact .inr ⟨p,hs p hp,q,hs q hq,hne,e⟩
instance Ru (a b:Pt):Decidable (cQ a b):=inferInstanceAs (Decidable (_\/_))
def ins (p:Pt):List Pt->List Pt
 | []=>[p]
 | q::l=>if cQ p q then p::q::l else if p=q then q::l else q::ins p l
theorem MU {a b c:Pt} (h1:cQ a b) (h2:cQ b c):cQ a c:=by unfold cQ at *;walk_at"o"
theorem IQ {a b:Pt}(h1:¬ cQ a b)(h2:a≠b):cQ b a:=by
 unfold cQ at *;have:a.1≠b.1\/a.2≠b.2:=by
  by_cases e:a.1=b.1
  ·right;intro e2;exact h2 (Prod.ext e e2)
  ·exact .inl e
 walk_at"o"
theorem lM (p x:Pt):∀ l:List Pt,x∈ins p l↔x=p\/x∈l
 | []=>by simp[ins]
 | q::l=>by
  unfold ins
  split
  ·simp
  ·split
   ·rename_i e;subst e;simp
   ·simp only[mem_cons,lM p x l];exact⟨fun h=>by rcases h with h|h|h <;> simp[h],fun h=>by rcases h with h|h|h <;> simp[h]⟩
theorem Et (p:Pt):∀ l:List Pt,l.Pairwise cQ->(ins p l).Pairwise cQ
 | [],_=>by simp[ins]
 | q::l,h=>by
  unfold ins;have h':=pairwise_cons.mp h
  split
  ·rename_i e;exact pairwise_cons.mpr ⟨fun x hx=>by
    rcases mem_cons.mp hx with rfl|hx
    ·exact e
    ·exact MU e (h'.1 x hx),h⟩
  ·split
   ·exact h
   ·rename_i e1 e2;refine pairwise_cons.mpr ⟨fun x hx=>?_,Et p l h'.2⟩
    rcases(lM p x l).mp hx with rfl|hx
    ·exact IQ e1 e2
    ·exact h'.1 x hx
theorem NW (B:List Pt):∃ S:List Pt,SetOf B S:=by
 induction B with
 | nil=>exact⟨[],by simp[SetOf]⟩
 | cons p B ih=>
  obtain⟨S,h1,h2,h3⟩:=ih;refine⟨ins p S,fun x hx=>?_,fun x hx=>?_,Et p S h3⟩
  ·rcases(lM p x S).mp hx with rfl|hx
   ·exact mem_cons_self
   ·exact mem_cons_of_mem _ (h1 x hx)
  ·rcases mem_cons.mp hx with rfl|hx
   ·exact(lM _ _ S).mpr (.inl rfl)
   ·exact(lM _ _ S).mpr (.inr (h2 x hx))
theorem qh (l:Hf)(p:Pt):aV l (fl p)=l.1*p.1+l.2.1*p.2-l.2.2:=by unfold aV fl;simp
theorem ub (h:Hf)(p:Pt):ua h p=true↔0<=aV h (fl p):=by
 rw[qh];unfold ua;rw[decide_eq_true_eq];walk_at"o"
theorem KB (a b c:Hf):aX b a c=-aX a b c:=by unfold aX;grind
theorem zy (a c:Hf):aX a a c=0:=by unfold aX;grind
theorem KY {L:List aD}(R:j4 L)(h1:1<L.length)(k:Nat)(hk:k<L.length):df L k hk≠L[k]:=by
 by_cases h3:3<=L.length
 ·rw[iD hk,<-bD hk];exact fun e=>KW (P:=fun i=>ag (gt L i)) h3 (e6 R) (cm hk) hk (iE h3 hk).1 (congrArg ag e)
 ·have e2:L.length=2:=by walk_at"o"
  match L,e2,R with
  | [a,b],_,R=>
   have hb:Bf (ag a) (ag b):=fg.mp (R.reg.fst 1 (by simp) (by decide))
   have ne:a≠b:=fun e=>by rw[e]at hb;exact Bf.irr _ hb
   have:k=0\/k=1:=by simp at hk;walk_at"o"
   rcases this with rfl|rfl
   ·exact fun e=>ne e.symm
   ·exact ne
theorem R8 {B S1:List Pt}(hS:SetOf B S1)(hne:B≠[])(hz:∀ p∈B,SzF 110 p){c:Hf}(zc:0<c.2.2)(hc:¬ bK (((bO S1).map fi).map ag) c) :
  ∃ h,fW B h/\(∀ p∈B,0<=aV h (fl p))/\aV h c<0:=by
 have O:=qE hS hne;have R:=gY O fun p hp=>(hz p (hS.1 p (O.sub p hp))).mono3 (by decide)
 rw[ES]at hc;have inB:∀ p∈bO S1,p∈B:=fun p hp=>hS.1 p (O.sub p hp);have hold:∀ p∈B,bK ((bO S1).map fl) (fl p):=fun p hp=>O.hold p (hS.2.1 p hp);have hne':=O.ne;generalize bO S1=H at *;have hp:0<H.length:=length_pos_iff.mpr hne';have hml:(H.map fl).length=H.length:=length_map ..
 rcases lt_or_ge H.length 3 with h3|h3
 ·have g0:(H.map fl)[0]'(by walk_at"o")=fl H[0]:=getElem_map ..
  have g1:(H.map fl)[(H.map fl).length-1]'(by walk_at"o")=fl H[H.length-1]:=by
   rw[getElem_map];congr 2;walk_at"o"
  have few:∀ p∈B,aX (fl H[0]) (fl H[H.length-1]) (fl p)=0/\¬ cQ p H[0]/\¬ cQ H[H.length-1] p:=fun p hp=>by
   have:=(hold p hp).few (by walk_at"o")
   rw[g0,g1]at this;exact⟨this.1,fun z=>by rw[(tI _ _).mpr z]at this;exact absurd this.2.1 (by decide),fun z=>by rw[(tI _ _).mpr z]at this;exact absurd this.2.2 (by decide)⟩
  have b0:=inB _ (getElem_mem hp);have b1:=inB _ (getElem_mem (show H.length-1<H.length by walk_at"o"))
  have hc':¬ (aX (fl H[0]) (fl H[H.length-1]) c=0/\k9 c (fl H[0])=false/\k9 (fl H[H.length-1]) c=false):=fun z=>hc ⟨by walk_at"o",fun _=>by rw[g0,g1];exact z,fun z=>by walk_at"o"⟩
  generalize H[0]=p0 at *;generalize H[H.length-1]=p1 at *
  by_cases hd:aX (fl p0) (fl p1) c=0
  ·
   have hv:p1.1≠p0.1\/p1.1=p0.1:=by walk_at"o"
   have line:c.1=p0.1*c.2.2->c.2.1≠p0.2*c.2.2->p1.1=p0.1:=fun e1 e2=>by
    have e3:(p1.1-p0.1)*(c.2.1-p0.2*c.2.2)=0:=by
     have:(p1.1-p0.1)*(c.2.1-p0.2*c.2.2)=aX (fl p0) (fl p1) c+(p1.2-p0.2)*(c.1-p0.1*c.2.2):=by unfold aX fl;grind
     rw[this,hd,e1];simp
    rcases mul_eq_zero.mp e3 with h|h
    ·walk_at"o"
    ·exact absurd (by walk_at"o") e2
   have line1:c.1=p1.1*c.2.2->c.2.1≠p1.2*c.2.2->p1.1=p0.1:=fun e1 e2=>by
    have e3:(p1.1-p0.1)*(c.2.1-p1.2*c.2.2)=0:=by
     have:(p1.1-p0.1)*(c.2.1-p1.2*c.2.2)=aX (fl p0) (fl p1) c+(p1.2-p0.2)*(c.1-p1.1*c.2.2):=by unfold aX fl;grind
     rw[this,hd,e1];simp
    rcases mul_eq_zero.mp e3 with h|h
    ·walk_at"o"
    ·exact absurd (by walk_at"o") e2
   by_cases hb:k9 c (fl p0)=false
   ·have hb1:k9 (fl p1) c=true:=by
     cases hx:k9 (fl p1) c with
     | true=>rfl
     | false=>exact absurd ⟨hd,hb,hx⟩ hc'
    unfold k9 fl at hb1;simp only[mul_one,ne_eq]at hb1
    split at hb1
    ·rename_i e;have:=of_decide_eq_true hb1;refine⟨(-1,0,-p1.1),.inl ⟨p1,b1,by simp[G7]⟩,fun p hp=>?_,?_⟩
     ·have:=(few p hp).2.2;rw[qh];unfold cQ at this;simp only;walk_at"o"
     ·unfold aV;simp only;have e5:=neg_mul p1.1 c.2.2;walk_at"o"
    ·rename_i e;have:=of_decide_eq_true hb1;have ex:=line1 (by walk_at"o") (by walk_at"o")
     refine⟨(0,-1,-p1.2),.inl ⟨p1,b1,by simp[G7]⟩,fun p hp=>?_,?_⟩
     ·have f:=(few p hp).2;rw[qh];unfold cQ at f;simp only;walk_at"o"
     ·unfold aV;simp only;have e5:=neg_mul p1.2 c.2.2;walk_at"o"
   ·have hb:k9 c (fl p0)=true:=by simpa using hb
    unfold k9 fl at hb;simp only[mul_one,ne_eq]at hb
    split at hb
    ·rename_i e;have:=of_decide_eq_true hb;refine⟨(1,0,p0.1),.inl ⟨p0,b0,by simp[G7]⟩,fun p hp=>?_,?_⟩
     ·have:=(few p hp).2.1;rw[qh];unfold cQ at this;simp only;walk_at"o"
     ·unfold aV;simp only;walk_at"o"
    ·rename_i e;have:=of_decide_eq_true hb;have ex:=line (by walk_at"o") (by walk_at"o")
     refine⟨(0,1,p0.2),.inl ⟨p0,b0,by simp[G7]⟩,fun p hp=>?_,?_⟩
     ·have f:=(few p hp).2;rw[qh];unfold cQ at f;simp only;walk_at"o"
     ·unfold aV;simp only;walk_at"o"
  ·have hne2:p0≠p1:=fun e=>hd (by rw[e];exact zy _ _)
   rcases Int.lt_or_gt_of_ne hd with hl|hg
   ·refine⟨xA p0 p1,.inr ⟨p0,b0,p1,b1,hne2,rfl⟩,fun p hp=>(nD hne2 _).mpr (by rw[(few p hp).1];decide),?_⟩
    have:=mt (nD hne2 c).mp (by walk_at"o")
    walk_at"o"
   ·refine⟨xA p1 p0,.inr ⟨p1,b1,p0,b0,hne2.symm,rfl⟩,fun p hp=>(nD hne2.symm _).mpr (by rw[KB,(few p hp).1];decide),?_⟩
    have:=mt (nD hne2.symm c).mp (by rw[KB];walk_at"o")
    walk_at"o"
 ·have:∃ k,∃ hk:k<H.length,aX (fl (df H k hk)) (fl H[k]) c<0:=by
   apply Classical.byContradiction;intro hx;refine hc ⟨by walk_at"o",fun z=>by walk_at"o",fun _ k hk=>?_⟩
   rw[gG,getElem_map];have:¬ aX (fl (df H k (by walk_at"o"))) (fl (H[k]'(by walk_at"o"))) c<0:=fun z=>hx ⟨k,by walk_at"o",z⟩
   walk_at"o"
  obtain⟨k,hk,hlt⟩:=this;have hne2:df H k hk≠H[k]:=fun e=>by
   have:=KY R (by rw[length_map];walk_at"o") k (by rw[length_map];exact hk)
   rw[gG,getElem_map]at this;exact this (congrArg fi e)
  refine⟨xA (df H k hk) H[k],.inr ⟨_,inB _ (qo hk),_,inB _ (getElem_mem hk),hne2,rfl⟩,fun p hp=>(nD hne2 _).mpr ?_,?_⟩
  ·have:=(hold p hp).all (by walk_at"o") k (by walk_at"o")
   rwa [gG,getElem_map]at this
  ·have:=mt (nD hne2 c).mp (by walk_at"o")
   walk_at"o"
def ib (h:Hf)(p:Pt):Pt:=(p.1*h.2.2-h.1,p.2*h.2.2-h.2.1)
theorem rM (c:Hf)(ps:List Pt)(f:Pt):ahead (ps.map (ib c)) f=ps.countP fun p=>decide (0<=a9 (ib c p) f):=by
 unfold ahead;rw[List.countP_map];rfl
theorem tQ {α:Type}(p:α->Bool)(l:List α):l.countP p+l.countP (fun x=>!p x)=l.length:=by
 induction l with
 | nil=>rfl
 | cons x l ih=>
  rw[countP_cons,countP_cons,length_cons]
  cases p x <;> simp <;> walk_at"o"
theorem Mf {ps:List Pt}{c h:Hf}(zc:0<c.2.2)(hn:h.1≠0\/h.2.1≠0)(ho:aV h c<0):j6 (ps.map (ib c))+gd h ps<=ps.length:=by
 have hf:((-h.1,-h.2.1):Pt)≠(0,0):=fun e=>by
  have:=Prod.mk.inj e;walk_at"o"
 have h1:=(fM (ps.map (ib c))).2 _ hf;rw[rM]at h1;have h2:ps.countP (fun p=>decide (0<=a9 (ib c p) (-h.1,-h.2.1)))<=ps.countP fun p=>!ua h p:=by
  refine List.countP_mono_left fun p _ hp=>?_;have hp:=of_decide_eq_true hp
  cases hb:ua h p with
  | false=>rfl
  | true=>
   exfalso;rw[ub,qh]at hb;unfold a9 ib at hp;unfold aV at ho;dsimp only at hp;have e:(p.1*c.2.2-c.1)*-h.1+(p.2*c.2.2-c.2.1)*-h.2.1=-(c.2.2*(h.1*p.1+h.2.1*p.2-h.2.2))+(h.1*c.1+h.2.1*c.2.1-h.2.2*c.2.2):=by grind
   rw[e]at hp;have:=mul_nonneg (le_of_lt zc) hb;walk_at"o"
 have h3:=tQ (ua h) ps;unfold gd;walk_at"o"
theorem Me {ps:List Pt}(hz:∀ p∈ps,SzF 110 p){c:Hf}(zc:0<c.2.2){k:Nat}(hk:k<=ps.length)(hk1:1<=k)(hall:∀ h,fW ps h->ps.length+1<=gd h ps+k->0<=aV h c):k<=j6 (ps.map (ib c)):=by
 apply Classical.byContradiction;intro hlt;obtain⟨⟨f,hf,hd⟩,_⟩:=fM (ps.map (ib c));rw[rM]at hd
 let B:=ps.filter fun p=>!decide (0<=a9 (ib c p) f)
 have hBm:∀ p,p∈B↔p∈ps/\a9 (ib c p) f<0:=fun p=>by
  simp only[B,mem_filter,Bool.not_eq_true',decide_eq_false_iff_not];constructor
  ·rintro⟨a,b⟩;exact⟨a,by walk_at"o"⟩
  ·rintro⟨a,b⟩;exact⟨a,by walk_at"o"⟩
 have hBl:ps.countP (fun p=>decide (0<=a9 (ib c p) f))+B.length=ps.length:=by
  have:=tQ (fun p=>decide (0<=a9 (ib c p) f)) ps;rw[countP_eq_length_filter (p:=fun p=>!decide (0<=a9 (ib c p) f))]at this;exact this
 have hBne:B≠[]:=fun e=>by rw[e,length_nil]at hBl;walk_at"o"
 obtain⟨S1,hS⟩:=NW B;have hzB:∀ p∈B,SzF 110 p:=fun p hp=>hz p ((hBm p).mp hp).1;have hno:¬ bK (((bO S1).map fi).map ag) c:=fun hh=>by
  have:=(Em hS hBne (fun p hp=>(hzB p hp).mono3 (by decide)) zc).mp hh (-(c.2.2*f.1),-(c.2.2*f.2),1-(c.1*f.1+c.2.1*f.2)) fun p hp=>?_
  ·unfold aV at this;dsimp only at this;have e:-(c.2.2*f.1)*c.1 + -(c.2.2*f.2)*c.2.1-(1-(c.1*f.1+c.2.1*f.2))*c.2.2=-c.2.2:=by grind
   rw[e]at this;walk_at"o"
  ·have h1:=((hBm p).mp hp).2;rw[qh];unfold a9 ib at h1;dsimp only at h1 ⊢;have e:-(c.2.2*f.1)*p.1 + -(c.2.2*f.2)*p.2-(1-(c.1*f.1+c.2.1*f.2))=-((p.1*c.2.2-c.1)*f.1+(p.2*c.2.2-c.2.1)*f.2)-1:=by grind
   rw[e];walk_at"o"
 obtain⟨h,hb,hall',ho⟩:=R8 hS hBne hzB zc hno;have hm:B.length<=gd h ps:=by
  have:B.length=ps.countP fun p=>!decide (0<=a9 (ib c p) f):=(countP_eq_length_filter ..).symm;rw[this];refine List.countP_mono_left fun p hp hq=>(ub h p).mpr (hall' p ((hBm p).mpr ⟨hp,?_⟩));simp only[Bool.not_eq_true',decide_eq_false_iff_not]at hq;walk_at"o"
 have:=hall h (hb.sub fun p hp=>((hBm p).mp hp).1) (by walk_at"o")
 walk_at"o"
theorem li {ps:List Pt}(hz:∀ p∈ps,SzF 110 p){h:Hf}(hb:fW ps h):ig h:=by
 rcases hb with ⟨p,hp,hh⟩|⟨p,hp,q,hq,hne,rfl⟩
 ·have z:=hz p hp;have o0:Sz 300 (0:Int):=vf;have o1:Sz 300 (1:Int):=ve (by decide)
  have o2:Sz 300 (-1:Int):=(ve (n:=300) (by decide)).neg
  simp only[G7,mem_cons,not_mem_nil,or_false]at hh
  rcases hh with rfl|rfl|rfl|rfl
  ·exact⟨⟨o1,o0,z.1.mono (by decide)⟩,.inl (show(1:Int)≠0 by decide)⟩
  ·exact⟨⟨o2,o0,z.1.neg.mono (by decide)⟩,.inl (show(-1:Int)≠0 by decide)⟩
  ·exact⟨⟨o0,o1,z.2.mono (by decide)⟩,.inr (show(1:Int)≠0 by decide)⟩
  ·exact⟨⟨o0,o2,z.2.neg.mono (by decide)⟩,.inr (show(-1:Int)≠0 by decide)⟩
 ·exact Pn hne (hz p hp) (hz q hq)
theorem tX {ps:List Pt}(hz:∀ p∈ps,SzF 110 p){c:Hf}(zc:0<c.2.2){k:Nat}(hk:k<=ps.length)(hk1:1<=k):k<=j6 (ps.map (ib c))↔∀ h,fW ps h->ps.length+1<=gd h ps+k->0<=aV h c:=by
 refine⟨fun hd h hb hm=>?_,Me hz zc hk hk1⟩
 rcases lt_or_le (aV h c) 0 with ho|ho
 ·have:=Mf (ps:=ps) zc (li hz hb).2 ho;walk_at"o"
 ·exact ho
theorem C6 {ps S1:List Pt}(hS:SetOf ps S1)(hne:ps≠[])(hz:∀ p∈ps,SzF 110 p){c:Hf}(zc:0<c.2.2){k:Nat}(hk1:1<=k)(hall:∀ h,fW ps h->ps.length+1<=gd h ps+k->0<=aV h c):bK (((bO S1).map fi).map ag) c:=by
 apply Classical.byContradiction;intro hc;obtain⟨h,hb,ha,ho⟩:=R8 hS hne hz zc hc;have hm:gd h ps=ps.length:=List.countP_eq_length.mpr fun p hp=>(ub h p).mpr (ha p hp);have:=hall h hb (by walk_at"o")
 walk_at"o"
end Law
namespace Law
open L2 DL
set_option maxHeartbeats 1000000
def Hm (G:Hf->Prop)(L:List aD):Prop:=3<=L.length->∀ k (hk:k<L.length),Cj G (df L k hk) L[k]
theorem ER {p q:aD}(hp:bC p)(hq:bC q)(h1:k9 (ag p) (ag q)=false)(h2:k9 (ag q) (ag p)=false):p=q:=by
 rw[<-qb hp hq]at h1;rw[<-qb hq hp]at h2;unfold Hh at h1 h2;have fr:∀ {f g:Fr},qQ f->qQ g->Oz f g=false->Oz g f=false->f=g:=fun {f g} hf hg a b=>by
  unfold Oz at a b;have a:=of_decide_eq_false a;have b:=of_decide_eq_false b;exact zF hf hg (by walk_at"o")
 by_cases e:p.1=q.1
 ·rw[if_pos e]at h1;rw[if_pos e.symm]at h2;exact Prod.ext e (fr hp.2 hq.2 h1 h2)
 ·rw[if_neg e]at h1;rw[if_neg fun z=>e z.symm]at h2;exact absurd (fr hp.1 hq.1 h1 h2) e
theorem L4 {h:Hf}{L:List aD}(hh:ig h)(R:j4 L)(h3:3<=(iq h L).length):3<=L.length:=by
 have C:=tP hh R
 rcases lt_or_ge L.length 3 with hl|hl
 ·exfalso;have T:=fT C.reg.reg 0 1 2 (by walk_at"o") (by walk_at"o") (by rw[length_map];walk_at"o")
  rw[getElem_map,getElem_map,getElem_map]at T;have f:=fun i (hi:i<(iq h L).length)=>(C.hold _ (getElem_mem hi)).1;have oks:=fun i (hi:i<(iq h L).length)=>C.reg.ok _ (getElem_mem hi);have f0:=f 0 (by walk_at"o")
  have f1:=f 1 (by walk_at"o")
  have f2:=f 2 (by walk_at"o")
  have o0:=oks 0 (by walk_at"o")
  have o1:=oks 1 (by walk_at"o")
  have o2:=oks 2 (by walk_at"o")
  clear f oks C;generalize (iq h L)[0]=u at *;generalize (iq h L)[1]=v at *;generalize (iq h L)[2]=w at *;clear h3
  rcases L with _|⟨a,_|⟨b,_|⟨c,r⟩⟩⟩
  ·exact absurd f0.ne (by simp)
  ·have oa:=R.ok a mem_cons_self;have q0:=(f0.few (by simp)).2
   have q1:=(f1.few (by simp)).2
   have e0:u=a:=ER o0 oa q0.1 q0.2;have e1:v=a:=ER o1 oa q1.1 q1.2;rw[e0,e1,zy]at T;exact absurd T (by decide)
  ·have q0:=(f0.few (by simp)).1
   have q1:=(f1.few (by simp)).1
   have q2:=(f2.few (by simp)).1
   have ne:Bf (ag a) (ag b):=fg.mp (R.reg.fst 1 (by simp) (by decide))
   have nz:(sG (ag a) (ag b)).1≠0\/(sG (ag a) (ag b)).2.1≠0:=by
    apply Classical.byContradiction;intro z;unfold sG at z;simp only[not_or,ne_eq,Classical.not_not]at z;unfold Bf at ne;walk_at"o"
   have g:∀ x:Hf,aX (ag a) (ag b) x=0->aV (sG (ag a) (ag b)) x=0:=fun x hx=>by rw[fN];exact hx
   have y0:=g _ q0;have y1:=g _ q1;have y2:=g _ q2;unfold aV at y0 y1 y2;have:=zV nz y0 y1 y2;walk_at"o"
  ·simp at hl;walk_at"o"
 ·exact hl
theorem EO {G:Hf->Prop}{h:Hf}{L:List aD}(hh:ig h)(hG:G h)(R:j4 L)(H:Hm G L):Hm G (iq h L):=fun k3 k hk=>by
 have n3:=L4 hh R k3;have ok:∀ i,i<L.length->bC (gt L i):=fun i hi=>by rw[bD hi];exact R.ok _ (getElem_mem _)
 have hT:=e6 R;have eK:gR h L=(KI h (gt L) L.length L.length).map (·.2.2):=by
  unfold gR;rw[yq];exact oi n3 ok hT _ (le_refl _)
 have hQh:xj G h:=⟨hG,hh.2⟩;have lkQ:∀ k,k<L.length->Cj G (gt L (bg L.length k)) (gt L k):=fun k hk=>by
  have:=H n3 k hk
  rwa [iD hk,<-bD hk]at this
 have H':=oo hQh (show 0<L.length by walk_at"o") ok lkQ L.length (le_refl _)
 have e2:bg L.length L.length=L.length-1:=by unfold bg;rw[if_neg (by walk_at"o")]
 rw[e2,<-eK]at H';have cyc:=tV hQh H';have hm0:0<(gR h L).length:=by rw[<-pQ hh R];walk_at"o"
 obtain⟨hm,_⟩:=mU (yY hh R).ok hm0 (gR h L).length (le_refl _);have hk2:k<(gR h L).length:=by rw[<-pQ hh R];exact hk
 have g1:(iq h L)[k]=(gR h L)[qu (gR h L).length (wy (gR h L) (gR h L).length) k]'(kN hm hk2):=eO hm hk2;have g2:df (iq h L) k hk=df (gR h L) (qu (gR h L).length (wy (gR h L) (gR h L).length) k) (kN hm hk2):=yy hm hk2;rw[g1,g2];exact cyc _ _
theorem yW {p q:Pt}(hne:p≠q){x:Hf}(h:aX (fl p) (fl q) x=0):aV (xA p q) x=0:=by
 have h1:=(nD hne x).mpr (by walk_at"o")
 have h2:=(nD hne (-x.1,-x.2.1,-x.2.2)).mpr (by
  have:aX (fl p) (fl q) (-x.1,-x.2.1,-x.2.2)=-aX (fl p) (fl q) x:=by unfold aX;grind
  walk_at"o")
 have h3:aV (xA p q) (-x.1,-x.2.1,-x.2.2)=-aV (xA p q) x:=by unfold aV;grind
 walk_at"o"
theorem EN {ps S1:List Pt}(hS:SetOf ps S1)(hne:ps≠[])(hz:∀ p∈ps,SzF 110 p):Hm (fW ps) ((bO S1).map fi):=fun h3 k hk=>by
 have O:=qE hS hne;have R:=gY O fun p hp=>(hz p (hS.1 p (O.sub p hp))).mono3 (by decide)
 have hn:=KY R (by walk_at"o") k hk
 have hk':k<(bO S1).length:=by rwa [length_map]at hk
 rw[gG,getElem_map]at hn ⊢;have hn':df (bO S1) k hk'≠(bO S1)[k]:=fun e=>hn (congrArg fi e);have m1:=hS.1 _ (O.sub _ (qo hk'));have m2:=hS.1 _ (O.sub _ (getElem_mem hk'));have b:fW ps (xA (df (bO S1) k hk') (bO S1)[k]):=.inr ⟨_,m1,_,m2,hn',rfl⟩;have nz:=(li hz b).2;refine⟨_,⟨b,nz,?_⟩,b,nz,?_⟩
 ·rw[<-cJ,k7];exact yW hn' (by unfold aX;grind)
 ·rw[<-cJ,k7];exact yW hn' (by unfold aX;grind)
theorem Bh {G:Hf->Prop}{L:List aD}(R:j4 L)(H:Hm G L)(h3:3<=L.length){D:List Hf}(hD:∀ l,G l->l∈D):L.length<=D.length:=by
 classical
 let f:Nat->Hf:=fun k=>if hk:k<L.length then Classical.choose (H h3 k hk) else (0,0,0)
 have hf:∀ k (hk:k<L.length),Kw G (f k) (gt L (bg L.length k))/\Kw G (f k) (gt L k):=fun k hk=>by
  have:=Classical.choose_spec (H h3 k hk);simp only[f,dif_pos hk];rw[<-iD hk,bD hk];exact this
 have hT:=e6 R;have key:∀ i j,i<L.length->j<L.length->i≠j->j≠bg L.length i->f i≠f j:=fun i j hi hj hij hp e=>by
  have pos:0<aX (ag (gt L (bg L.length i))) (ag (gt L i)) (ag (gt L j)):=dg (P:=fun i=>ag (gt L i)) hT hi hj (fun z=>hij z.symm) hp;have a:=(hf i hi).1.2.2;have b:=(hf i hi).2.2.2;have c:=(hf j hj).2.2.2;rw[<-e]at c;rw[<-cJ]at a b c;unfold aV at a b c;have:=zV (hf i hi).1.2.1 a b c;walk_at"o"
 have nd:((List.range L.length).map f).Nodup:=by
  refine pairwise_map.mpr (List.Pairwise.imp_of_mem (fun {i j} hi hj hij e=>?_) List.nodup_range);have hi:=mem_range.mp hi;have hj:=mem_range.mp hj
  by_cases hp:j=bg L.length i
  ·by_cases hq:i=bg L.length j
   ·have:=(iE h3 hi).2.1;rw[<-hp,<-hq]at this;exact this rfl
   ·exact key j i hj hi (fun z=>hij z.symm) hq e.symm
  ·exact key i j hi hj hij hp e
 have:=List.Nodup.length_le_of_subset nd (l₂:=D) (fun l hl=>by
  obtain⟨k,hk,rfl⟩:=mem_map.mp hl;exact hD _ (hf k (mem_range.mp hk)).1.1)
 rwa [length_map,length_range]at this
end Law
namespace Law
open L2 DL
set_option maxHeartbeats 4000000
def j9 (ps:List Pt)(hs:List Hf):Prop:=(∀ h,h∈hs↔fW ps h)/\hs.length<=70
def mH (m:Int)(ps:List Pt)(hs:List Hf):List Hf:=hs.filter fun g=>decide (m<=gd g ps)
def cN:aJ:=fun ss R=>∃ p:Pt,ss=[.t (aN p)]/\R (.ol ((G7 p).map a5))
def jp:aJ:=fun ss R=>∃ ps:List Pt,ss=[.t (.lst (ps.map aN))]/\ps.length<=6/\(∀ p∈ps,SzF 100 p)/\∀ hs:List Hf,j9 ps hs->R (.ol (hs.map a5))
def bb:aJ:=fun ss R=>∃ (t:T) (ts:List T),ss=[.t (.lst (t::ts))]/\R (.t .non)
def eE:aJ:=fun ss R=>∃ (ps:List Pt) (m:Int),ss=[.t (.lst (ps.map aN)),.t (.int m)]/\ps≠[]/\ps.length<=6/\(∀ p∈ps,SzF 100 p)/\∀ hs:List Hf,j9 ps hs->R (.ol ((mH m ps hs).map a5))
def b8:WS:=
 (aC (aG 1 (ap aI (ae 0) (wC (.int 0))))
 (aC (aG 2 (ap aI (ae 0) (wC (.int 1))))
 (a6 (ia (ac (bN (ac (wC (.int 1)) (ac (wC (.int 0)) (ac (ae 1) ao)))) (ac (bN (ac (vv iy (wC (.int 1))) (ac (wC (.int 0)) (ac (vv iy (ae 1)) ao)))) (ac (bN (ac (wC (.int 0)) (ac (wC (.int 1)) (ac (ae 2) ao)))) (ac (bN (ac (wC (.int 0)) (ac (vv iy (wC (.int 1))) (ac (vv iy (ae 2)) ao)))) ao))))))))
def iT:WS:=
 (aC (aG 1 (ia ao))
 (bP (ju (bW (ae 0)) (aU 2) (aC (oO 1 (aw cN (ac (ae 2) ao)))
 (ju (bW (ae 0)) (aU 3) (gM (wB (Oj (ae 2) (ae 3))) (fy 1 (aw kS (ac (ae 2) (ac (ae 3) ao)))) bd))))
 (a6 (mn (ae 1)))))
def eX:WS:=
 (gM (wB (rK (dH cE (ac (ae 0) ao)) (wC (.int 0)))) nr bd)
def mF:WS:=
 (aC (w4 (aw bb (ac (ae 0) ao)))
 (a6 (dZ 1 [0,1] (bW (aw jp (ac (ae 0) ao))) (aU 0) (wB (QL (aw kY (ac (ae 0) (ac (ae 1) ao))) (ae 2))) (ae 0))))
theorem jj:Ok cN b8 ["point","x","y"]:=by
 rintro ss R ⟨⟨x,y⟩,rfl,h⟩;show b8 _ [some (.t (.tup [.int x,.int y])),none,none]
 delta b8
 walk_at"d";exact h
theorem qf:Ok bb eX ["points"]:=by
 rintro ss R ⟨t,ts,rfl,h⟩;show eX _ [some (.t (.lst (t::ts)))]
 delta eX
 walk_at"d";rw[if_neg (by omega)]
 exact h
def KJ (h:Hf):List Int:=[h.1,h.2.1,h.2.2]
theorem v6 {hs:List Hf}:∀ ns:List (List Int),(∀ k∈ns,k∈hs.map KJ)->∃ gs:List Hf,ns=gs.map KJ/\∀ g∈gs,g∈hs
 | [],_=>⟨[],rfl,fun p hp=>by cases hp⟩
 | k::ns,h=>by
  obtain⟨gs,e,hg⟩:=v6 ns fun k hk=>h k (mem_cons_of_mem _ hk);obtain⟨p,hp,rfl⟩:=mem_map.mp (h k mem_cons_self);exact⟨p::gs,by rw[e];rfl,fun q hq=>by
   rcases mem_cons.mp hq with rfl|hq
   ·exact hp
   ·exact hg q hq⟩
theorem IE {a b:Hf}(h:KJ a=KJ b):a=b:=by
 unfold KJ at h;simp only[List.cons.injEq,and_true]at h;exact Prod.ext h.1 (Prod.ext h.2.1 h.2.2)
theorem L8 {p:Pt}:∀ {ps:List Pt},p∈ps->ps.countP (fun q=>decide (q≠p))+1<=ps.length:=fun {ps} h=>by
 have h1:=tQ (fun q=>decide (q≠p)) ps;have h2:0<ps.countP fun q=>!decide (q≠p):=List.countP_pos_iff.mpr ⟨p,h,by simp⟩
 omega
theorem wD:Ok jp iT ["points","found","one","other"]:=by
 rintro ss R ⟨ps,rfl,hl,hz,h⟩;show iT _ [some (.t (.lst (ps.map aN))),none,none,none]
 delta iT
 walk_at"d"
 let M:List Pt->List Hf->Prop:=fun pre hs=>hs.length<=pre.length*10/\(∀ h∈hs,fW ps h)/\∀ p∈pre,(∀ h∈G7 p,h∈hs)/\∀ q∈ps,p≠q->xA p q∈hs
 refine⟨fun δ=>∃ (hs:List Hf) (r2 r3:Option S),δ=[some (.t (.lst (ps.map aN))),some (.ol (hs.map a5)),r2,r3]/\M ps hs,?_,?_⟩
 ·refine⟨fun ts δ=>∃ (pre post:List Pt) (hs:List Hf) (r2 r3:Option S),ps=pre++post/\ts=post.map aN/\δ=[some (.t (.lst (ps.map aN))),some (.ol (hs.map a5)),r2,r3]/\M pre hs,⟨[],ps,[],_,_,rfl,rfl,rfl,by simp,fun h hh=>(nomatch hh),fun p hp=>(nomatch hp)⟩,?_,?_⟩
  ·rintro δ ⟨pre,post,hs,r2,r3,e1,e2,rfl,hM⟩;have:post=[]:=by simpa using e2.symm
   subst this;rw[append_nil]at e1;subst e1;exact⟨hs,r2,r3,rfl,hM⟩
  ·rintro x ts δ ⟨pre,post,hs,r2,r3,e1,e2,rfl,h1,h2,h3⟩
   cases post with
   | nil=>cases e2
   | cons p post=>
    rw[map_cons]at e2
    cases e2
    have hpm:p∈ps:=by rw[e1];simp
    have hpz:SzF 100 p:=hz p hpm;have hln:ps.length=pre.length+(post.length+1):=by rw[e1];simp
    walk_at"d";refine⟨p,rfl,?_⟩;dsimp only;rw[dO _ (bB (fun _=>rfl) _)];walk_at"d";refine⟨by simp only[length_map];show hs.length+4<100000;omega,?_⟩
    rw[<-map_append]
    let N:List Pt->List Hf->Prop:=fun p2 gs=>gs.length<=hs.length+4+p2.countP (fun q=>decide (q≠p))/\(∀ h∈gs,fW ps h)/\(∀ h∈hs,h∈gs)/\(∀ h∈G7 p,h∈gs)/\∀ q∈p2,p≠q->xA p q∈gs
    refine⟨fun ts δ=>∃ (p2 q2:List Pt) (gs:List Hf) (r3:Option S),ps=p2++q2/\ts=q2.map aN/\δ=[some (.t (.lst (ps.map aN))),some (.ol (gs.map a5)),some (.t (aN p)),r3]/\N p2 gs,⟨[],ps,hs++G7 p,_,rfl,rfl,rfl,by simp[G7],fun h hh=>?_,fun h hh=>mem_append_left _ hh,fun h hh=>mem_append_right _ hh,fun q hq=>(nomatch hq)⟩,?_,?_⟩
    ·rcases mem_append.mp hh with hh|hh
     ·exact h2 h hh
     ·exact .inl ⟨p,hpm,hh⟩
    ·rintro δ ⟨p2,q2,gs,r3,e3,e4,rfl,g1,g2,g3,g4,g5⟩;have:q2=[]:=by simpa using e4.symm
     subst this;rw[append_nil]at e3;subst e3;have hc:=L8 hpm;refine⟨pre++[p],post,gs,_,_,by rw[List.append_assoc];exact e1,rfl,rfl,by rw[List.length_append,length_singleton];omega,g2,fun p' hp'=>?_⟩
     rcases mem_append.mp hp' with hp'|hp'
     ·exact⟨fun h hh=>g3 h ((h3 p' hp').1 h hh),fun q hq hne=>g3 _ ((h3 p' hp').2 q hq hne)⟩
     ·rw[mem_singleton.mp hp'];exact⟨g4,g5⟩
    ·rintro x ts δ ⟨p2,q2,gs,r3,e3,e4,rfl,g1,g2,g3,g4,g5⟩
     cases q2 with
     | nil=>cases e4
     | cons q q2=>
      rw[map_cons]at e4
      cases e4
      have hqm:q∈ps:=by rw[e3];simp
      have hqz:SzF 100 q:=hz q hqm;have hln2:ps.length=p2.length+(q2.length+1):=by rw[e3];simp
      have hcl:p2.countP (fun q=>decide (q≠p))<=p2.length:=List.countP_le_length;walk_at"d"
      by_cases hpq:p.1=q.1/\p.2=q.2
      ·rw[decide_eq_true hpq,if_neg (by decide)]
       have epq:q=p:=(Prod.ext hpq.1 hpq.2).symm;refine⟨p2++[q],q2,gs,_,by rw[List.append_assoc];exact e3,rfl,rfl,?_,g2,g3,g4,fun q' hq' hne=>?_⟩
       ·rw[List.countP_append];omega
       ·rcases mem_append.mp hq' with hq'|hq'
        ·exact g5 q' hq' hne
        ·rw[mem_singleton.mp hq',epq]at hne;exact absurd rfl hne
      ·rw[decide_eq_false hpq,if_pos (by decide)]
       have hne:p≠q:=fun e=>hpq ⟨by rw[e],by rw[e]⟩
       refine⟨p,q,rfl,hne,hpz.mono3 (by decide),hqz.mono3 (by decide),?_⟩
       walk_at"d";refine⟨by rw[length_map];omega,p2++[q],q2,gs++[xA p q],_,by rw[List.append_assoc];exact e3,rfl,by rw[map_append];rfl,?_,fun g hg=>?_,fun g hg=>mem_append_left _ (g3 g hg),fun g hg=>mem_append_left _ (g4 g hg),fun q' hq' hne'=>?_⟩
       ·rw[List.length_append,length_singleton,List.countP_append,List.countP_singleton,if_pos (by simpa using hne.symm)];omega
       ·rcases mem_append.mp hg with hg|hg
        ·exact g2 g hg
        ·rw[mem_singleton.mp hg];exact .inr ⟨p,hpm,q,hqm,hne,rfl⟩
       ·rcases mem_append.mp hq' with hq'|hq'
        ·exact mem_append_left _ (g5 q' hq' hne')
        ·rw[mem_singleton.mp hq'];exact mem_append_right _ (mem_singleton.mpr rfl)
 ·rintro δ ⟨hs,r2,r3,rfl,h1,h2,h3⟩;walk_at"d";refine⟨3,hs.map KJ,by decide,by rw[map_map];rfl,fun ks hk=>by obtain⟨p,_,rfl⟩:=mem_map.mp hk;rfl,by rw[length_map];omega,fun ns n1 n2 n3 _=>?_⟩
  obtain⟨gs,rfl,hg⟩:=v6 ns n1;have hgl:gs.length<=hs.length:=by
   have:=List.Nodup.length_le_of_subset n3 n1;simpa using this
  have e:(gs.map KJ).map nY=gs.map a5:=by rw[map_map];rfl
  rw[e];walk_at"d";refine h gs ⟨fun g=>⟨fun hg'=>h2 g (hg g hg'),fun hb=>?_⟩,by omega⟩
  have hin:g∈hs:=by
   rcases hb with ⟨p,hp,hh⟩|⟨p,hp,q,hq,hne,rfl⟩
   ·exact(h3 p hp).1 g hh
   ·exact(h3 p hp).2 q hq hne
  obtain⟨g',hg',e'⟩:=mem_map.mp (n2 (KJ g) (mem_map.mpr ⟨g,hin,rfl⟩));rw[<-IE e'];exact hg'
theorem Idq {ps:List Pt}(hz:∀ p∈ps,SzF 100 p){h:Hf}(hb:fW ps h):dk 300 h:=(li (fun p hp=>(hz p hp).mono3 (by decide)) hb).1
theorem BK:Ok eE mF ["points","many"]:=by
 rintro ss R ⟨ps,m,rfl,hne,hl,hz,h⟩;obtain⟨p0,pr,rfl⟩:∃ p0 pr,ps=p0::pr:=by
  cases ps with
  | nil=>exact absurd rfl hne
  | cons a b=>exact⟨a,b,rfl⟩
 show mF _ [some (.t (.lst ((p0::pr).map aN))),some (.t (.int m))]
 delta mF
 generalize hps:p0::pr=ps at *;have hnp:∀ R:S->Prop,R (.t .non)->bb [.t (.lst (ps.map aN))] R:=fun R hR=>⟨aN p0,pr.map aN,by rw[<-hps];rfl,hR⟩
 walk_at"d";refine hnp _ ?_;walk_at"d";refine⟨ps,rfl,hl,hz,fun hs hsB=>?_⟩;dsimp only;rw[dO _ (bB (fun _=>rfl) _)];walk_at"d";have hs1:=hsB.2;refine eY (f:=a5) (h:=a5) (p:=fun g=>decide (m<=gd g ps)) (fun δ=>∃ r,δ=[r,some (.t (.lst (ps.map aN))),some (.t (.int m))]) (fun _ _=>rfl) (by omega) ⟨_,rfl⟩ ?_ ?_
 ·rintro g hg δ ⟨r,rfl⟩ Y N h1 h2;walk_at"d";refine⟨g,ps,rfl,mj (Idq hz ((hsB.1 g).mp hg)) (by decide),fun p hp=>(hz p hp).mono3 (by decide),by omega,?_⟩
  walk_at"d"
  split
  ·rename_i hc;exact h1 _ ⟨_,rfl⟩ (by simpa using hc)
  ·rename_i hc;exact h2 _ ⟨_,rfl⟩ (by simpa using hc)
 ·walk_at"d";exact h hs hsB
end Law
namespace Law
open L2 DL
set_option maxHeartbeats 4000000
structure Cp (ps:List Pt) (k:Nat) (L:List aD):Prop where
 reg:j4 L
 hold:∀ q:Hf,0<q.2.2->(bK (L.map ag) q↔k<=j6 (ps.map (ib q)))
 len:L.length<=160
 few:3<=L.length->L.length<=70
 lk:Hm (fW ps) L
def hZ:aJ:=fun ss R=>∃ (ps:List Pt) (k:Nat),ss=[.t (.lst (ps.map aN)),.t (.int (k:Int))]/\ps≠[]/\ps.length<=6/\(∀ p∈ps,SzF 100 p)/\1<=k/\∀ L:List aD,Cp ps k L->R (.ol (L.map spT))
def mD:WS:=
 (aC (w4 (aw bb (ac (ae 0) ao)))
 (aC (gM (wB (Cc (ae 1) (wC (.int 1)))) nr bd)
 (aC (gM (wB (G8 (ae 1) (dH cE (ac (ae 0) ao)))) (a6 (ia ao)) bd)
 (aC (aG 2 (aw va (ac (ae 0) ao)))
 (bP (ju (bW (aw eE (ac (ae 0) (ac (dw (cZ (dH cE (ac (ae 0) ao)) (ae 1)) (wC (.int 1))) ao)))) (aU 3) (aG 2 (aw kT (ac (ae 2) (ac (ae 3) ao)))))
 (jv 2))))))
theorem yu {L:List aD}(R:j4 L):∀ s∈L,bC s/\fe 700 s:=fun s hs=>⟨R.ok s hs,bG (Pp (R.ok s hs) (R.cn s hs)) (by decide)⟩
theorem GP {ps S1:List Pt}(h:SetOf ps S1):S1.length<=ps.length:=List.Nodup.length_le_of_subset (sk h.2.2) h.1
theorem zK (S1:List Pt):(bO S1).length<=2*S1.length:=by
 unfold bO
 split
 ·omega
 ·unfold nH;have a1:=lj S1;have a2:=lj S1.reverse;rw[length_reverse]at a2;simp only[List.length_append,length_dropLast,length_reverse];omega
theorem zi (ps:List Pt)(q:Hf):j6 (ps.map (ib q))<=ps.length:=by
 have h:=(fM (ps.map (ib q))).2 (1,0) (by decide)
 have:=pb (ps.map (ib q)) (1,0);rw[length_map]at this;omega
theorem J0:j4 ([]:List aD):=⟨fun s hs=>(nomatch hs),⟨fun k hk=>(nomatch hk),fun h=>(nomatch h)⟩,fun s hs=>(nomatch hs),fun k hk=>(nomatch hk)⟩
theorem Gx {ps:List Pt}{k:Nat}(h:ps.length<k):Cp ps k []:=by
 refine⟨J0,fun q _=>⟨fun z=>absurd z.ne (by simp),fun z=>?_⟩,by simp,fun h=>by simp at h,fun h=>by simp at h⟩
 have:=zi ps q;omega
theorem J5 {ps S1:List Pt}{k:Nat}(hS:SetOf ps S1)(hne:ps≠[])(h7:ps.length<=6)(hz:∀ p∈ps,SzF 100 p)(hk1:1<=k)(hk:k<=ps.length){hs:List Hf}(hB:j9 ps hs){L:List aD}
  (I:xl ((bO S1).map fi) (mH ((ps.length:Int)-k+1) ps hs) L) (hl:Hm (fW ps) L):Cp ps k L:=by
 have hz':∀ p∈ps,SzF 110 p:=fun p hp=>(hz p hp).mono3 (by decide)
 have mem:∀ h,h∈mH ((ps.length:Int)-k+1) ps hs↔fW ps h/\ps.length+1<=gd h ps+k:=fun h=>by
  unfold mH;rw[mem_filter,hB.1,decide_eq_true_eq];exact⟨fun z=>⟨z.1,by omega⟩,fun z=>⟨z.1,by omega⟩⟩
 have sl:(mH ((ps.length:Int)-k+1) ps hs).length<=70:=le_trans (length_filter_le ..) hB.2;refine⟨I.1,fun q zq=>?_,?_,fun h3=>le_trans (Bh I.1 hl h3 (D:=hs) fun l hl=>(hB.1 l).mpr hl) hB.2,hl⟩
 ·rw[I.2.2 q zq,tX hz' zq hk hk1];constructor
  ·rintro⟨_,z⟩ h hb hm;exact z h ((mem h).mpr ⟨hb,hm⟩)
  ·intro z;exact⟨C6 hS hne hz' zq hk1 z,fun h hh=>z h ((mem h).mp hh).1 ((mem h).mp hh).2⟩
 ·have:=I.2.1;have h1:=zK S1;have h2:=GP hS;rw[length_map]at this;omega
theorem BI:Ok hZ mD ["points","k","part","found"]:=by
 rintro ss R ⟨ps,k,rfl,hne,hl,hz,hk1,h⟩;obtain⟨p0,pr,rfl⟩:∃ p0 pr,ps=p0::pr:=by
  cases ps with
  | nil=>exact absurd rfl hne
  | cons a b=>exact⟨a,b,rfl⟩
 show mD _ [some (.t (.lst ((p0::pr).map aN))),some (.t (.int (k:Int))),none,none]
 delta mD
 generalize hps:p0::pr=ps at *;have hlen:1<=ps.length:=by rw[<-hps];simp
 have hnp:∀ R:S->Prop,R (.t .non)->bb [.t (.lst (ps.map aN))] R:=fun R hR=>⟨aN p0,pr.map aN,by rw[<-hps];rfl,hR⟩
 walk_at"d";refine hnp _ ?_;walk_at"d";rw[if_neg (by omega)]
 walk_at"d"
 by_cases hkn:ps.length<k
 ·rw[if_pos (by rw[length_map];omega)]
  walk_at"d";exact h [] (Gx hkn)
 rw[if_neg (by rw[length_map];omega)]
 walk_at"d";refine⟨ps,rfl,by omega,fun p hp=>(hz p hp).mono3 (by decide),fun S1 hS1=>?_⟩
 dsimp only;have eL:(bO S1).map ce=((bO S1).map fi).map spT:=by rw[map_map];rfl
 have g2:∀ l:List aD,got (.ol (l.map spT))=.ol (l.map spT):=fun l=>dO _ (bB (fun _=>rfl) l);rw[eL,g2];walk_at"d";have hz':∀ p∈ps,SzF 110 p:=fun p hp=>(hz p hp).mono3 (by decide)
 have O:=qE hS1 hne;have R0:j4 ((bO S1).map fi):=gY O fun p hp=>(hz' p (hS1.1 p (O.sub p hp))).mono3 (by decide)
 have lk0:=EN hS1 hne hz';have L0l:((bO S1).map fi).length<=14:=by
  have h1:=zK S1;have h2:=GP hS1;rw[length_map];omega
 let M:aR->Prop:=fun δ=>∃ (hs:List Hf) (L:List aD) (v2:S) (r3:Option S),δ=[some (.t (.lst (ps.map aN))),some (.t (.int (k:Int))),some v2,r3]/\v2=.ol (L.map spT)/\j9 ps hs/\xl ((bO S1).map fi) (mH ((ps.length:Int)-k+1) ps hs) L/\Hm (fW ps) L
 refine⟨M,?_,?_⟩
 ·refine⟨ps,_,rfl,hne,hl,hz,fun hs hB=>?_⟩;dsimp only;rw[dO _ (bB (fun _=>rfl) _)];walk_at"d";rw[length_map];have hok:∀ g∈mH ((ps.length:Int)-k+1) ps hs,ig g/\fW ps g:=fun g hg=>by
   have:=(hB.1 g).mp (mem_filter.mp hg).1;exact⟨li hz' this,this⟩
  have sl:(mH ((ps.length:Int)-k+1) ps hs).length<=70:=le_trans (length_filter_le ..) hB.2;have hend:∀ (L:List aD) (v2:S) (r3:Option S),v2=.ol (L.map spT)->xl ((bO S1).map fi) (mH ((ps.length:Int)-k+1) ps hs) L->Hm (fW ps) L->M [some (.t (.lst (ps.map aN))),some (.t (.int (k:Int))),some v2,r3]:=fun L v2 r3 a b c=>⟨hs,L,v2,r3,rfl,a,hB,b,c⟩;generalize mH ((ps.length:Int)-k+1) ps hs=st at hok sl hend;refine⟨fun ts δ=>∃ (pre post:List Hf) (L:List aD) (v2:S) (r3:Option S),st=pre++post/\ts=post.map a5/\δ=[some (.t (.lst (ps.map aN))),some (.t (.int (k:Int))),some v2,r3]/\v2=.ol (L.map spT)/\xl ((bO S1).map fi) pre L/\Hm (fW ps) L,⟨[],st,_,_,_,rfl,rfl,rfl,rfl,Rq R0,lk0⟩,?_,?_⟩
  ·rintro δ ⟨pre,post,L,v2,r3,e1,e2,rfl,h2,hI,hL⟩;have:post=[]:=by simpa using e2.symm
   subst this;rw[append_nil]at e1;rw[<-e1]at hI;exact hend L v2 r3 h2 hI hL
  ·rintro x ts δ ⟨pre,post,L,v2,r3,e1,e2,rfl,h2,hI,hL⟩
   cases post with
   | nil=>cases e2
   | cons g post=>
    rw[map_cons]at e2
    cases e2
    obtain⟨gk,gb⟩:=hok g (by rw[e1];simp)
    have hpl:pre.length<=70:=by
     have:=congrArg List.length e1;simp only[List.length_append,length_cons]at this;omega
    have hIl:=hI.2.1;subst h2
    (
     walk_at"d";refine⟨L,g,rfl,by omega,yu hI.1,gk.1,?_⟩
     dsimp only;rw[g2];walk_at"d";exact⟨pre++[g],post,iq g L,_,_,by rw[e1];simp,rfl,rfl,rfl,Eu gk hI,EO gk gb hI.1 hL⟩)
 ·rintro δ ⟨hs,L,v2,r3,rfl,h2,hB,hI,hL⟩;have hR:=h L (J5 hS1 hne hl hz hk1 (by omega) hB hI hL)
  subst h2;walk_at"d";exact hR
end Law
namespace Law
open L2 DL
set_option maxHeartbeats 4000000
theorem CD {α:Type}{f:α->T}{l:List α}{k:Nat}{x:α}{R:S->Prop}(e:l[k]?=some x):atT (l.map f) (k:Int) R=R (.t (f x)):=
 eu (dq (by rw[getElem?_map,e];rfl))
theorem sS (k n:Nat):bT (k:Int) (n+1)=.int k::bT ((k+1:Nat):Int) n:=by
 unfold bT;rw[range_succ_eq_map,map_cons,map_map]
 congr 1
 ·simp;intro a _;walk_at"o"
theorem vX {g:WG}{wb:WS}{D:iX}{δ:aR}{n m:Nat}(e:m=n)(I:Nat->aR->Prop)(h0:I 0 δ)(hend:∀ δ,I n δ->D.nx δ)
  (hstep:∀ k δ,k<n->I k δ->g (.int (k:Int)) δ fun δ1=>wb {nx:=I (k+1),rt:=D.rt,bk:=D.nx,ct:=I (k+1)} δ1):xN g wb (bT 0 m) D δ:=by
 subst e;refine⟨fun ts δ=>∃ k j:Nat,ts=bT (k:Int) j/\k+j=m/\I k δ,⟨0,m,rfl,by walk_at"o",h0⟩,?_,?_⟩
 ·rintro δ ⟨k,j,e,hk,h⟩
  cases j with
  | zero=>exact hend δ (by rw[Nat.add_zero]at hk;rw[<-hk];exact h)
  | succ j=>rw[sS]at e;cases e
 ·rintro x r δ ⟨k,j,e,hk,h⟩
  cases j with
  | zero=>cases e
  | succ j=>
   rw[sS]at e;obtain⟨rfl,rfl⟩:=List.cons.inj e;have q:=hstep k δ (by walk_at"o") h
   have z:I (k+1)=fun δ=>∃ k' j':Nat,bT ((k+1:Nat):Int) j=bT (k':Int) j'/\k'+j'=m/\I k' δ:=by
    funext δ'
    refine propext ⟨fun hi=>⟨k+1,j,rfl,by walk_at"o",hi⟩,?_⟩
    rintro⟨k',j',e',hk',hi⟩;have:=congrArg List.length e';rw[gX,gX]at this;have:k'=k+1:=by walk_at"o"
    rw[<-this];exact hi
   show g _ δ fun δ1=>wb {nx:=fun δ=>∃ k' j':Nat,bT ((k+1:Nat):Int) j=bT (k':Int) j'/\k'+j'=m/\I k' δ,rt:=D.rt,bk:=D.nx,ct:=fun δ=>∃ k' j':Nat,bT ((k+1:Nat):Int) j=bT (k':Int) j'/\k'+j'=m/\I k' δ} δ1;rw[<-z];exact q
theorem NY {i:Nat}{δ:aR}{N:aR->Prop}{vs:List Int}{x:Int}{j:Nat}(h:j<vs.length):Kd i δ N (vs.map .int) (.t (.int x)) (.t (.int (j:Int)))=N (δ.set i (some (.ol ((vs.set j x).map .int)))):=by
 have:uG (vs.map T.int).length (j:Int)=some j:=by unfold uG;rw[if_pos (by walk_at"o"),if_pos (by rw[length_map];walk_at"o")];rfl
 show(match uG _ _ with|some j=>_|none=>False)=_
 rw[this,List.map_set]
abbrev big:Int:=1000000000000000000000000000000000000000000000000000000000007
theorem n0:(0:Int)<big:=by decide
def la (x:Int):Prop:=-1000000000000000000<=x/\x<=1000000000000000000
theorem Dh {x:Int} (h:la x):Sz 60 x:=by unfold la at h;exact Sz.of (by walk_at"o") (by walk_at"o")
def iN:aJ:=fun ss R=>∃ (ns:List Int) (m:Nat),ss=[.t (.lst (ns.map .int)),.t (.int (m:Int))]/\ns.length<=63/\0<m/\m<=100/\∀ vs:List Int,vs.length=m->(∀ v∈vs,0<=v/\v<big)->R (.ol (vs.map .int))
def kW:aJ:=fun ss R=>∃ n b k:Int,ss=[.t (.int n),.t (.int b),.t (.int k)]/\b=5/\0<=k/\k<1000/\∀ v:Int,R (.t (.int v))
def jr:aJ:=fun ss R=>∃ (hd:List Int) (m:Int),ss=[.t (.lst (hd.map .int)),.t (.int m)]/\4+m<=hd.length/\(∀ v∈hd,0<=v/\v<big)/\1<=m/\m<=8/\∀ ps:List Pt,ps.length=m.toNat->(∀ p∈ps,la p.1/\la p.2)->R (.ol (ps.map aN))
def cB:aJ:=fun ss R=>∃ a b:Int,ss=[.t (.int a),.t (.int b)]/\0<b/\Sz 900000 a/\Sz 9000 b/\R (.t (xf (lE a b)))
def fc (s:aD)(ps:List Pt):List Pt:=ps.map (ib (ag s))
def nj:aJ:=fun ss R=>∃ (ps:List Pt) (n:Int),ss=[.t (.lst (ps.map aN)),.t (.int n)]/\ps≠[]/\ps.length<=1000/\(∀ p∈ps,SzF 100 p)/\∀ s:aD,bC s->fe 119 s->R (.t (spT s))
def gz:WS:=
 (aC (aG 2 (dZ 1 [] (fV (ac (ae 1) ao)) (aU 0) nZ (wC (.int 0))))
 (bP (ju (fV (ac (dH vS (ac (ae 1) (ac (dH rZ (ac (dH cE (ac (ae 0) ao)) (ac (wC (.int 63)) ao))) ao))) ao)) (aU 3) (aC (aG 4 (wC (.int 0)))
 (bP (gM (wB (G8 (dH cE (ac (ae 0) ao)) (wC (.int 0)))) (aG 4 (dG (ap aI (ae 0) (dG (ae 3) (dH rZ (ac (dH cE (ac (ae 0) ao)) (ac (wC (.int 63)) ao))))) (dw (w6 (wC (.int 10)) (wC (.int 60))) (wC (.int 7))))) bd)
 (aC (aG 5 (dG (ae 3) (ae 1)))
 (nt 2 (ae 5) (dG (dw (dw (bv (ap aI (ae 2) (ae 5)) (wC (.int 48271))) (ae 4)) (bv (ae 3) (ae 3))) (dw (w6 (wC (.int 10)) (wC (.int 60))) (wC (.int 7)))))))))
 (jv 2)))
def jU:WS:=
 (bP (ju (fV (ac (ae 2) ao)) (aU 3) (aG 0 (dE (ae 0) (ae 1))))
 (a6 (dG (ae 0) (ae 1))))
def iV:WS:=
 (aC (aG 2 (ia ao))
 (aC (aG 3 (dG (ap aI (ae 0) (wC (.int 0))) (wC (.int 8))))
 (bP (ju (fV (ac (ae 1) ao)) (aU 4) (aC (aG 5 (ap aI (ae 0) (dw (wC (.int 4)) (ae 4))))
 (aC (aG 6 (cZ (dG (ae 5) (wC (.int 7))) (wC (.int 3))))
 (aC (aG 7 (cZ (dG (dE (ae 5) (wC (.int 7))) (wC (.int 7))) (wC (.int 3))))
 (bP (gM (wB (rK (ae 3) (wC (.int 1)))) (aG 7 (cZ (bv (wC (.int 2)) (ae 6)) (wC (.int 1)))) bd)
 (bP (gM (wB (rK (ae 3) (wC (.int 2)))) (aG 6 (wC (.int 1))) bd)
 (bP (gM (wB (rK (ae 3) (wC (.int 3)))) (Kq 6 7 (ac (cZ (dG (ae 5) (wC (.int 3))) (wC (.int 1))) (ac (cZ (dG (dE (ae 5) (wC (.int 3))) (wC (.int 3))) (wC (.int 1))) ao))) bd)
 (bP (gM (wB (G8 (ae 3) (wC (.int 5)))) (aC (aG 6 (cZ (dG (ae 5) (dw (bv (wC (.int 2)) (w6 (wC (.int 10)) (wC (.int 18)))) (wC (.int 1)))) (w6 (wC (.int 10)) (wC (.int 18)))))
 (aG 7 (cZ (dG (bv (ae 5) (wC (.int 69621))) (dw (bv (wC (.int 2)) (w6 (wC (.int 10)) (wC (.int 18)))) (wC (.int 1)))) (w6 (wC (.int 10)) (wC (.int 18)))))) bd)
 (bP (gM (K7 (kz (wB (G8 (ae 4) (wC (.int 0)))) (wB (rK (aw kW (ac (ap aI (ae 0) (wC (.int 1))) (ac (wC (.int 5)) (ac (ae 4) ao)))) (wC (.int 1)))))) (Hc (ap aI (ae 2) (cZ (ae 4) (wC (.int 1)))) (w8 (iW (aU 6) (iW (aU 7) qL)))) bd)
 (fy 2 (bN (ac (ae 6) (ac (ae 7) ao)))))))))))))
 (jv 2))))
def fB:WS:=
 (aC (aG 2 (aw iM (ac (ae 0) (ac (ae 1) ao))))
 (a6 (bN (ac (dE (ae 0) (ae 2)) (ac (dE (ae 1) (ae 2)) ao)))))
def mw:WS:=
 (aC (aG 2 (dG (ae 1) (wC (.int 5))))
 (aC (aG 3 (ap aI (ae 0) (dG (dE (ae 1) (wC (.int 5))) (dH cE (ac (ae 0) ao)))))
 (aC (aG 4 (ap aI (ae 0) (dG (dE (ae 1) (wC (.int 60))) (dH cE (ac (ae 0) ao)))))
 (aC (aG 5 (ap aI (ae 0) (dG (dE (ae 1) (wC (.int 720))) (dH cE (ac (ae 0) ao)))))
 (aC (gM (wB (rK (ae 2) (wC (.int 0)))) (a6 (bN (ac (bN (ac (ap aI (ae 3) (wC (.int 0))) (ac (wC (.int 1)) ao))) (ac (bN (ac (ap aI (ae 3) (wC (.int 1))) (ac (wC (.int 1)) ao))) ao)))) bd)
 (aC (gM (wB (rK (ae 2) (wC (.int 1)))) (a6 (bN (ac (aw cB (ac (dw (ap aI (ae 3) (wC (.int 0))) (ap aI (ae 4) (wC (.int 0)))) (ac (wC (.int 2)) ao))) (ac (aw cB (ac (dw (ap aI (ae 3) (wC (.int 1))) (ap aI (ae 4) (wC (.int 1)))) (ac (wC (.int 2)) ao))) ao)))) bd)
 (aC (aG 6 (ia (ac (cZ (dG (dE (ae 1) (wC (.int 8640))) (wC (.int 7))) (wC (.int 1))) (ac (cZ (dG (dE (ae 1) (wC (.int 60480))) (wC (.int 7))) (wC (.int 1))) (ac (dw (dG (dE (ae 1) (wC (.int 423360))) (wC (.int 7))) (wC (.int 3))) ao)))))
 (bP (gM (wB (rK (ae 2) (wC (.int 2)))) (aC (nt 6 (wC (.int 2)) (wC (.int 0)))
 (nt 6 (wC (.int 1)) (cZ (wC (.int 7)) (ap aI (ae 6) (wC (.int 0)))))) bd)
 (aC (aG 7 (dH xL (ac (ae 6) ao)))
 (aC (aG 8 (dw (dw (bv (ap aI (ae 6) (wC (.int 0))) (ap aI (ae 3) (wC (.int 0)))) (bv (ap aI (ae 6) (wC (.int 1))) (ap aI (ae 4) (wC (.int 0))))) (bv (ap aI (ae 6) (wC (.int 2))) (ap aI (ae 5) (wC (.int 0))))))
 (aC (aG 9 (dw (dw (bv (ap aI (ae 6) (wC (.int 0))) (ap aI (ae 3) (wC (.int 1)))) (bv (ap aI (ae 6) (wC (.int 1))) (ap aI (ae 4) (wC (.int 1))))) (bv (ap aI (ae 6) (wC (.int 2))) (ap aI (ae 5) (wC (.int 1))))))
 (a6 (bN (ac (aw cB (ac (ae 8) (ac (ae 7) ao))) (ac (aw cB (ac (ae 9) (ac (ae 7) ao))) ao)))))))))))))))
theorem Kc {vs:List Int}{P:Int->Prop}{j:Nat}{x:Int}(h:∀ v∈vs,P v)(hx:P x):∀ v∈vs.set j x,P v:=fun v hv=>by
 rcases List.mem_or_eq_of_mem_set hv with z|z
 ·exact h v z
 ·rw[z];exact hx
theorem J7 (m:Nat):(List.range m).map (fun _=>T.int 0)=(replicate m (0:Int)).map T.int:=by
 rw[List.map_replicate];exact List.eq_replicate_iff.mpr ⟨by simp,fun b hb=>by simp at hb;exact hb.2.symm⟩
theorem uP:Ok iN gz ["_law_script","_law_many","_law_found","_law_k","_law_cell","_law_at"]:=by
 rintro ss R ⟨ns,m,rfl,hl,m0,m1,h⟩;show gz _ [some (.t (.lst (ns.map .int))),some (.t (.int (m:Int))),none,none,none,none]
 delta gz
 walk_at"d";refine⟨lS (by walk_at"o") (by walk_at"o"),?_⟩
 rw[toNat_natCast];refine fL (f:=fun k:Nat=>.int (0+(k:Int))) (h:=fun _=>.int 0) (l:=List.range m) (fun δ=>∃ r,δ=[r]) (fun _ _=>rfl) (by rw[length_range];walk_at"o") ⟨_,rfl⟩ ?_ ?_
 ·rintro k hk δ ⟨r,rfl⟩ Y hY;walk_at"d";exact hY _ ⟨_,rfl⟩
 rw[J7]
 let I:aR->Prop:=fun δ=>∃ (vs:List Int) (r3 r4 r5:Option S),δ=[some (.t (.lst (ns.map .int))),some (.t (.int (m:Int))),some (.ol (vs.map .int)),r3,r4,r5]/\vs.length=m/\∀ v∈vs,0<=v/\v<big
 have i0:∀ v∈replicate m (0:Int),0<=v/\v<big:=fun v hv=>by
  rw[List.eq_of_mem_replicate hv];decide
 refine⟨I,?_,?_⟩
 ·walk_at"d";simp only[length_map];refine⟨lS (by(repeat' split) <;> walk_at"o") (by(repeat' split) <;> walk_at"o"),vX rfl (fun _=>I) ⟨_,_,_,_,rfl,by simp,i0⟩ (fun _ z=>z) ?_⟩
  rintro k δ hk ⟨vs,r3,r4,r5,rfl,vl,hv⟩;have hk:k<1000:=by revert hk;(repeat' split) <;> walk_at"o"
  walk_at"d"
  try simp only[length_map]
  refine⟨fun δ=>∃ c:Int,δ=[some (.t (.lst (ns.map .int))),some (.t (.int (m:Int))),some (.ol (vs.map .int)),some (.t (.int k)),some (.t (.int c)),r5]/\0<=c/\c<big,?_,?_⟩
  ·walk_at"d"
   try simp only[length_map]
   split
   ·rename_i c;have hq:∃ q:Int,(if 63<(ns.length:Int) then (63:Int) else ns.length)=q/\0<q/\q<=ns.length:=⟨_,rfl,by split <;> walk_at"o",by split <;> walk_at"o"⟩
    obtain⟨q,eq,q0,q1⟩:=hq;rw[eq];have f1:=fmod_lo (k:Int) q0;have f2:=fmod_hi (k:Int) q0;walk_at"d";refine⟨by walk_at"o",CF f1 (by walk_at"o") fun v _=>?_⟩
    walk_at"d";refine⟨Gp (by decide) (by decide) (by decide),by decide,?_⟩
    exact⟨v.fmod big,rfl,fmod_lo v n0,fmod_hi v n0⟩
   ·exact⟨0,rfl,by decide,by decide⟩
  rintro δ ⟨c,rfl,c0,c1⟩;have ea:(k:Int).fmod (m:Int)=((k % m:Nat):Int):=pR k m;have hj:k % m<vs.length:=by rw[vl];exact mod_lt _ m0
  have ev:vs[k % m]?=some (vs[k % m]'hj):=getElem?_eq_getElem _;generalize vs[k % m]'hj=v at ev;walk_at"d";refine⟨by walk_at"o",?_⟩
  rw[ea];rw[ip (dq (show(vs.map T.int)[k % m]?=some (.int v) by rw[getElem?_map,ev];rfl))]
  walk_at"d";refine⟨P3 (by decide) (by decide),Ja (by walk_at"o") (by walk_at"o"),Gp (by decide) (by decide) (by decide),by decide,?_⟩
  rw[NY hj];exact⟨_,_,_,_,rfl,by rw[length_set];exact vl,Kc hv ⟨fmod_lo (n:=big) _ n0,fmod_hi (n:=big) _ n0⟩⟩
 ·rintro δ ⟨vs,r3,r4,r5,rfl,vl,hv⟩;walk_at"d";exact h vs vl hv
theorem yd:Ok kW jU ["_law_number","_law_base","_law_place","_law_k"]:=by
 rintro ss R ⟨n,b,k,rfl,rfl,k0,k1,h⟩;show jU _ [some (.t (.int n)),some (.t (.int 5)),some (.t (.int k)),none]
 delta jU
 walk_at"d";refine⟨fun δ=>∃ (v:Int) (r:Option S),δ=[some (.t (.int v)),some (.t (.int 5)),some (.t (.int k)),r],?_,?_⟩
 ·walk_at"d";refine⟨lS (by walk_at"o") (by walk_at"o"),fun ts δ=>∃ (v:Int) (r:Option S),δ=[some (.t (.int v)),some (.t (.int 5)),some (.t (.int k)),r],⟨_,_,rfl⟩,fun _ q=>q,?_⟩
  rintro t ts δ ⟨v,r,rfl⟩;walk_at"d";exact⟨C8 (by decide) (by decide +kernel),_,_,rfl⟩
 rintro δ ⟨v,r,rfl⟩;walk_at"d";exact⟨by decide,h _⟩
theorem kl {hd:List Int}{i:Nat}{R:S->Prop}(hi:i<hd.length)(hb:∀ v∈hd,0<=v/\v<big)(h:∀ v,0<=v->v<big->R (.t (.int v))):atT (hd.map T.int) (i:Int) R:=by
 have e:hd[i]?=some (hd[i]'(by walk_at"o")):=getElem?_eq_getElem _
 rw[CD e];have:=hb _ (mem_of_getElem? e);exact h _ this.1 this.2
theorem MD {hd:List Int}{i:Nat}{R:S->Prop}(hi:i<hd.length)(hb:∀ v∈hd,0<=v/\v<big)(h:∀ v,0<=v->v<big->R (.t (.int v))):xc (hd.map T.int) (i:Int) R:=by
 have e:hd[i]?=some (hd[i]'(by walk_at"o")):=getElem?_eq_getElem _
 rw[ip (dq (show(hd.map T.int)[i]?=some (.int _) by rw[getElem?_map,e];rfl))]
 have:=hb _ (mem_of_getElem? e);exact h _ this.1 this.2
theorem LR {l:List Pt}{k:Nat}{x:Pt}{R:S->Prop}(e:l[k]?=some x):xc (l.map aN) (k:Int) R=R (.t (aN x)):=by
 rw[ip (dq (x:=aN x) (by rw[getElem?_map,e];rfl))];rfl
theorem wG:Ok jr iV ["_law_head","_law_many","_law_found","_law_way","_law_k","_law_number","_law_x","_law_y"]:=by
 rintro ss R ⟨hd,m,rfl,hl,hb,m0,m1,h⟩;have dummy:Sz 1 0:=⟨by decide⟩
 show iV _ [some (.t (.lst (hd.map .int))),some (.t (.int m)),none,none,none,none,none,none]
 delta iV
 walk_at"d";refine kl (i:=0) (by walk_at"o") hb fun v0 _ _=>?_
 walk_at"go";generalize v0.fmod 8=way
 let M (n:Nat):aR->Prop:=fun δ=>∃ (ps:List Pt) (r4 r5 r6 r7:Option S),δ=[some (.t (.lst (hd.map .int))),some (.t (.int m)),some (.ol (ps.map aN)),some (.t (.int way)),r4,r5,r6,r7]/\ps.length=n/\∀ p∈ps,la p.1/\la p.2
 refine⟨M m.toNat,?_,?_⟩
 ·walk_at"d";refine⟨lS (by walk_at"o") (by walk_at"o"),vX rfl M ⟨[],_,_,_,_,rfl,rfl,fun p hp=>by cases hp⟩ (fun _ z=>z) ?_⟩
  rintro k δ hk ⟨ps,r4,r5,r6,r7,rfl,pl,hs⟩;have hk8:k<8:=by walk_at"o"
  walk_at"d";rw[show(4+(k:Int))=((4+k:Nat):Int) by walk_at"o"]
  refine kl (i:=4+k) (by walk_at"o") hb fun v v0 v1=>?_
  have a1:=fmod_lo v (n:=7) (by decide)
  have a2:=fmod_hi v (n:=7) (by decide)
  have a3:=fmod_lo (v.fdiv 7) (n:=7) (by decide)
  have a4:=fmod_hi (v.fdiv 7) (n:=7) (by decide)
  have b1:=fmod_lo v (n:=3) (by decide)
  have b2:=fmod_hi v (n:=3) (by decide)
  have b3:=fmod_lo (v.fdiv 3) (n:=3) (by decide)
  have b4:=fmod_hi (v.fdiv 3) (n:=3) (by decide)
  have c1:=fmod_lo v (n:=2000000000000000001) (by decide)
  have c2:=fmod_hi v (n:=2000000000000000001) (by decide)
  have c3:=fmod_lo (v*69621) (n:=2000000000000000001) (by decide)
  have c4:=fmod_hi (v*69621) (n:=2000000000000000001) (by decide)
  let N:aR->Prop:=fun δ=>∃ x y:Int,δ=[some (.t (.lst (hd.map .int))),some (.t (.int m)),some (.ol (ps.map aN)),some (.t (.int way)),some (.t (.int k)),some (.t (.int v)),some (.t (.int x)),some (.t (.int y))]/\la x/\la y
  walk_at"go";refine⟨N,?_,?_⟩
  ·walk_at"go"
   split
   ·walk_at"go";exact⟨_,_,rfl,(by unfold la;walk_at"o"),(by unfold la;walk_at"o")⟩
   ·exact⟨_,_,rfl,(by unfold la;walk_at"o"),(by unfold la;walk_at"o")⟩
  rintro δ ⟨x,y,rfl,sx,sy⟩;walk_at"d";refine⟨N,?_,?_⟩
  ·walk_at"go"
   split
   ·exact⟨_,_,rfl,(by unfold la;walk_at"o"),sy⟩
   ·exact⟨_,_,rfl,sx,sy⟩
  clear sx sy x y;rintro δ ⟨x,y,rfl,sx,sy⟩;walk_at"d";refine⟨N,?_,?_⟩
  ·walk_at"go"
   split
   ·walk_at"go";exact⟨_,_,rfl,(by unfold la;walk_at"o"),(by unfold la;walk_at"o")⟩
   ·exact⟨_,_,rfl,sx,sy⟩
  clear sx sy x y;rintro δ ⟨x,y,rfl,sx,sy⟩;walk_at"d";refine⟨N,?_,?_⟩
  ·walk_at"go"
   split
   ·walk_at"go";exact⟨_,_,rfl,(by unfold la;walk_at"o"),(by unfold la;walk_at"o")⟩
   ·exact⟨_,_,rfl,sx,sy⟩
  clear sx sy x y;rintro δ ⟨x,y,rfl,sx,sy⟩;walk_at"d";refine⟨N,?_,?_⟩
  ·walk_at"d";refine⟨fun b=>b=true->0<k,?_,?_⟩
   ·walk_at"d"
    split
    ·refine kl (i:=1) (by walk_at"o") hb fun d0 _ _=>?_
     walk_at"d";refine⟨_,5,k,rfl,rfl,by walk_at"o",by walk_at"o",fun d=>?_⟩
     walk_at"d";intro _;walk_at"o"
    ·exact fun z=>z.elim
   ·rintro b hb1;walk_at"d"
    split
    ·rename_i hb2;have k0:=hb1 hb2;have e:ps[k-1]?=some (ps[k-1]'(by walk_at"o")):=getElem?_eq_getElem _
     have hm:=hs _ (mem_of_getElem? e);generalize ps[k-1]'(by walk_at"o")=q at e hm
     rw[show((k:Int)-1)=((k-1:Nat):Int) by walk_at"o",LR e]
     walk_at"d";exact⟨_,_,rfl,hm.1,hm.2⟩
    ·exact⟨_,_,rfl,sx,sy⟩
  clear sx sy x y;rintro δ ⟨x,y,rfl,sx,sy⟩;walk_at"d";refine⟨by rw[length_map,pl];walk_at"o",ps++[(x,y)],_,_,_,_,by rw[map_append];rfl,by simp[pl],fun q hq=>?_⟩
  rcases mem_append.mp hq with z|z
  ·exact hs q z
  ·have z:=mem_singleton.mp z;subst z;exact⟨sx,sy⟩
 rintro δ ⟨ps,r4,r5,r6,r7,rfl,pl,hs⟩;walk_at"d";exact h ps pl hs
theorem xP {a b:Int}(hb:0<b):lE a b=(a.fdiv (Int.gcd a b),b.fdiv (Int.gcd a b)):=by
 unfold lE lr;rw[if_neg (by walk_at"o")]
theorem rB:Ok cB fB ["_law_top","_law_bottom","_law_most"]:=by
 rintro ss R ⟨a,b,rfl,hb,sa,sb,h⟩;show fB _ [some (.t (.int a)),some (.t (.int b)),none]
 delta fB
 rw[xP hb]at h;walk_at"d";refine⟨a,b,rfl,?_⟩;walk_at"d";have hg:(Int.gcd a b:Int)≠0:=gD (.inr (by walk_at"o"))
 have sg:Sz 9000 (Int.gcd a b:Int):=by
  have:=Sz.gcdL (b:=a) sb (by walk_at"o")
  rwa [Int.gcd_comm]at this
 exact⟨zk hg sg (by decide),zk hg sg (by decide),h⟩
theorem t8 {a b:Int}(hb:0<b):qQ (lE a b)/\(lE a b).1*b=a*(lE a b).2:=by
 refine⟨Ef (by walk_at"o"),?_⟩
 rw[xP hb];have e1:=b9 (gcd_dvd_left a b);have e2:=b9 (gcd_dvd_right a b);show a.fdiv (Int.gcd a b)*b=a*b.fdiv (Int.gcd a b);generalize (Int.gcd a b:Int)=g at *;generalize hx:a.fdiv g=x at *;generalize hy:b.fdiv g=y at *;rw[<-e1,<-e2];grind
theorem t7 {a b:Int}{n:Nat}(hb:0<b)(sa:Sz n a)(sb:Sz n b):SzF n (lE a b):=by
 rw[xP hb];exact⟨sa.fdiv _,sb.fdiv _⟩
theorem RF (i:Nat)(δ:aR)(N:aR->Prop)(a b c x:T):Kd i δ N [a,b,c] (.t x) (.t (.int 1))=N (δ.set i (some (.ol [a,x,c]))):=rfl
theorem RG (i:Nat)(δ:aR)(N:aR->Prop)(a b c x:T):Kd i δ N [a,b,c] (.t x) (.t (.int 2))=N (δ.set i (some (.ol [a,b,x]))):=rfl
theorem u7 {ps:List Pt}{i:Int}{R:S->Prop}(h0:0<=i)(h1:i<ps.length)(h:∀ p∈ps,R (.t (aN p))):atT (ps.map aN) i R:=yU h0 (by rw[length_map];exact h1) fun x hx=>by
 obtain⟨p,hp,rfl⟩:=mem_map.mp hx;exact h p hp
theorem BF:Ok nj mw ["_law_points_here","_law_number","_law_way","_law_one","_law_other","_law_third","_law_by","_law_total","_law_x","_law_y"]:=by
 rintro ss R ⟨ps,n,rfl,hne,hl,hp,h⟩;have dummy:Sz 1 0:=⟨by decide⟩
 have hlen:0<ps.length:=length_pos_iff.mpr hne;show mw _ [some (.t (.lst (ps.map aN))),some (.t (.int n)),none,none,none,none,none,none,none,none]
 delta mw
 have hq:0<(ps.length:Int):=by walk_at"o"
 have f1:=fmod_lo (n.fdiv 5) hq;have f2:=fmod_hi (n.fdiv 5) hq;have f3:=fmod_lo (n.fdiv 60) hq;have f4:=fmod_hi (n.fdiv 60) hq;have f5:=fmod_lo (n.fdiv 720) hq;have f6:=fmod_hi (n.fdiv 720) hq;have g1:=fmod_lo (n.fdiv 8640) (n:=7) (by decide)
 have g2:=fmod_hi (n.fdiv 8640) (n:=7) (by decide)
 have g3:=fmod_lo (n.fdiv 60480) (n:=7) (by decide)
 have g4:=fmod_hi (n.fdiv 60480) (n:=7) (by decide)
 have g5:=fmod_lo (n.fdiv 423360) (n:=7) (by decide)
 have g6:=fmod_hi (n.fdiv 423360) (n:=7) (by decide)
 have el:((ps.map aN).length:Int)=(ps.length:Int):=by rw[length_map]
 walk_at"go";rw[el];refine u7 f1 f2 fun p1 h1=>?_;obtain⟨x1,y1⟩:=p1;obtain⟨u1,v1⟩:=hp _ h1;dsimp only at u1 v1;walk_at"go";rw[el];refine u7 f3 f4 fun p2 h2=>?_;obtain⟨x2,y2⟩:=p2;obtain⟨u2,v2⟩:=hp _ h2;dsimp only at u2 v2;walk_at"go";rw[el];refine u7 f5 f6 fun p3 h3=>?_;obtain⟨x3,y3⟩:=p3;obtain⟨u3,v3⟩:=hp _ h3;dsimp only at u3 v3;have one:Sz 119 (1:Int):=⟨by decide⟩
 have two:Sz 119 (2:Int):=⟨by decide⟩
 walk_at"go"
 split
 ·exact h ((x1,1),(y1,1)) (GW (x1,y1)) ⟨⟨u1.mono (by decide),one⟩,v1.mono (by decide),one⟩
 split
 ·have sx:=t7 (a:=x1+x2) (b:=2) (n:=119) (by decide) ((Sz.add u1 u2).mono (by decide)) two
  have sy:=t7 (a:=y1+y2) (b:=2) (n:=119) (by decide) ((Sz.add v1 v2).mono (by decide)) two
  refine⟨x1+x2,2,rfl,by decide,(Sz.add u1 u2).mono (by decide),two.mono (by decide),?_⟩
  walk_at"d";refine⟨y1+y2,2,rfl,by decide,(Sz.add v1 v2).mono (by decide),two.mono (by decide),?_⟩
  walk_at"d";exact h (lE (x1+x2) 2,lE (y1+y2) 2) ⟨(t8 (by decide)).1,(t8 (by decide)).1⟩ ⟨sx,sy⟩
 generalize (n.fdiv 8640).fmod 7=c0 at *;generalize (n.fdiv 60480).fmod 7=c1 at *;generalize (n.fdiv 423360).fmod 7=c2 at *;walk_at"go";refine⟨fun δ=>∃ b0 b1 b2:Int,δ=[some (.t (.lst (ps.map aN))),some (.t (.int n)),some (.t (.int (n.fmod 5))),some (.t (.tup [.int x1,.int y1])),some (.t (.tup [.int x2,.int y2])),some (.t (.tup [.int x3,.int y3])),some (.ol [.int b0,.int b1,.int b2]),none,none,none]/\0<b0+b1+b2/\-20<b0/\b0<20/\-20<b1/\b1<20/\-20<b2/\b2<20,?_,?_⟩
 ·walk_at"d"
  split
  ·rw[RG];walk_at"d";rw[RF];exact⟨_,_,_,rfl,by walk_at"o",by walk_at"o",by walk_at"o",by walk_at"o",by walk_at"o",by walk_at"o",by walk_at"o"⟩
  ·exact⟨_,_,_,rfl,by walk_at"o",by walk_at"o",by walk_at"o",by walk_at"o",by walk_at"o",by walk_at"o",by walk_at"o"⟩
 rintro δ ⟨b0,b1,b2,rfl,hb,l0,h0,l1,h1',l2,h2'⟩;walk_at"db";show sumK _ ([b0,b1,b2].map T.int);rw[GY];have es:[b0,b1,b2].sum=b0+b1+b2:=by simp[List.sum];walk_at"o"
 rw[es];have sb0:Sz 5 b0:=Sz.of (by walk_at"o") (by walk_at"o")
 have sb1:Sz 5 b1:=Sz.of (by walk_at"o") (by walk_at"o")
 have sb2:Sz 5 b2:=Sz.of (by walk_at"o") (by walk_at"o")
 have st:Sz 119 (b0+b1+b2):=Sz.of (by walk_at"o") (by walk_at"o")
 generalize ht:b0+b1+b2=t at *;walk_at"go";have tx:Sz 119 (b0*x1+b1*x2+b2*x3):=(Sz.add (Sz.add (Sz.mul sb0 u1) (Sz.mul sb1 u2)) (Sz.mul sb2 u3)).mono (by decide)
 have ty:Sz 119 (b0*y1+b1*y2+b2*y3):=(Sz.add (Sz.add (Sz.mul sb0 v1) (Sz.mul sb1 v2)) (Sz.mul sb2 v3)).mono (by decide)
 refine⟨_,t,rfl,by walk_at"o",tx.mono (by decide),st.mono (by decide),?_⟩
 walk_at"d";refine⟨_,t,rfl,by walk_at"o",ty.mono (by decide),st.mono (by decide),?_⟩
 walk_at"d";exact h (lE (b0*x1+b1*x2+b2*x3) t,lE (b0*y1+b1*y2+b2*y3) t) ⟨(t8 hb).1,(t8 hb).1⟩ ⟨t7 hb tx st,t7 hb ty st⟩
end Law
namespace Law
open L2 DL
def im (p q:Hf):Int:=p.1*q.1+p.2.1*q.2.1
def bH (p q:Hf):Int:=p.1*q.2.1-p.2.1*q.1
def lg (b o:Hf):Int:=o.2.2*im b b-im b o*b.2.2
def jz (b o:Hf):Fr:=if bH b o<0 then (-lg b o,-bH b o) else (lg b o,bH b o)
def Nz (h:Hf):Prop:=h.1≠0\/h.2.1≠0
def OC (b:Hf)(s:Fr):Int:=b.1*b.2.2*s.2-b.2.1*s.1
def OD (b:Hf)(s:Fr):Int:=b.2.1*b.2.2*s.2+b.1*s.1
def Av (b:Hf)(s:Fr):Int:=im b b*s.2
def J8 (b:Hf)(s:Fr):aD:=(lE (OC b s) (Av b s),lE (OD b s) (Av b s))
def Lb (s:Fr):Prop:=0<s.2/\Int.gcd s.1 s.2=1
def Ot (s:aD):Prop:=Lb s.1/\Lb s.2
theorem vc {a:Int}(h:a≠0):0<a*a:=by
 rcases Int.lt_or_gt_of_ne h with z|z
 ·exact Int.mul_pos_of_neg_of_neg z z
 ·exact mul_pos z z
theorem GX (a:Int):0<=a*a:=by
 by_cases h:a=0
 ·subst h;decide
 ·exact le_of_lt (vc h)
theorem pc {b:Hf}(h:Nz b):0<im b b:=by
 unfold im
 rcases h with z|z
 ·have:=vc z;have:=GX b.2.1;omega
 ·have:=vc z;have:=GX b.1;omega
theorem FM {c t:Int}(hc:0<c)(h:0<=c*t):0<=t:=by
 rcases lt_or_le t 0 with z|z
 ·have:=mul_neg_of_pos_of_neg hc z;omega
 ·exact z
theorem bL {c t:Int}(hc:0<c)(h:0<c*t):0<t:=by
 rcases lt_or_le 0 t with z|z
 ·exact z
 ·have:=mul_nonpos_of_nonneg_of_nonpos (le_of_lt hc) z;omega
theorem t5 {a b:Int}(hb:0<b):Lb (lE a b)/\(lE a b).1*b=a*(lE a b).2:=by
 have hg:(Int.gcd a b:Int)≠0:=gD (.inr (by omega))
 have hp:0<(Int.gcd a b:Int):=by omega
 have ec:lr a b=(Int.gcd a b:Int):=by unfold lr;rw[if_neg (by omega)]
 unfold lE;rw[ec];have e1:=b9 (gcd_dvd_left a b);have e2:=b9 (gcd_dvd_right a b);have d1:a.fdiv (Int.gcd a b:Int)=a / (Int.gcd a b:Int):=Int.fdiv_eq_ediv_of_nonneg _ (by omega)
 have d2:b.fdiv (Int.gcd a b:Int)=b / (Int.gcd a b:Int):=Int.fdiv_eq_ediv_of_nonneg _ (by omega)
 refine⟨⟨?_,?_⟩,?_⟩
 ·refine bL hp ?_;rw[mul_comm,e2];exact hb
 ·dsimp only;rw[d1,d2,Int.gcd_ediv_gcd_ediv_gcd (by omega)]
 ·dsimp only;have f1:a.fdiv (Int.gcd a b:Int)*b=a.fdiv (Int.gcd a b:Int)*(b.fdiv (Int.gcd a b:Int)*(Int.gcd a b:Int)):=by rw[e2]
  have f2:a*b.fdiv (Int.gcd a b:Int)=a.fdiv (Int.gcd a b:Int)*(Int.gcd a b:Int)*b.fdiv (Int.gcd a b:Int):=by rw[e1]
  rw[f1,f2,mul_comm (b.fdiv _),<-Int.mul_assoc]
theorem NV {b:Hf}{s:Fr}(hb:Nz b)(hs:0<s.2):Ot (J8 b s):=by
 have:0<Av b s:=mul_pos (pc hb) hs;exact⟨(t5 this).1,(t5 this).1⟩
theorem KC {b:Hf}{s:Fr}(o:Hf)(hb:Nz b)(hs:0<s.2)(h:lg b o*s.2<=bH b o*s.1):0<=aY o (J8 b s):=by
 have hD:0<Av b s:=mul_pos (pc hb) hs;obtain⟨⟨a1,_⟩,a2⟩:=t5 (a:=OC b s) hD;obtain⟨⟨b1,_⟩,b2⟩:=t5 (a:=OD b s) hD;unfold aY J8;generalize lE (OC b s) (Av b s)=X at *;generalize lE (OD b s) (Av b s)=Y at *;dsimp only;refine FM hD ?_;have e:Av b s*(o.1*X.1*Y.2+o.2.1*Y.1*X.2-o.2.2*(X.2*Y.2))=(X.2*Y.2)*(bH b o*s.1-lg b o*s.2):=by
  have e1:bH b o*s.1-lg b o*s.2=o.1*OC b s+o.2.1*OD b s-o.2.2*Av b s:=by
   unfold bH lg OC OD Av im;grind
  rw[e1];grind
 rw[e];exact mul_nonneg (le_of_lt (mul_pos a1 b1)) (by omega)
theorem mQ (h:Hf)(p:aD):aY h p=h.1*(p.1.1*p.2.2)+h.2.1*(p.2.1*p.1.2)-h.2.2*(p.1.2*p.2.2):=by unfold aY;grind
theorem L6 {b f l:Hf}{p:aD}(hb:Nz b)(hp1:0<p.1.2)(hp2:0<p.2.2)(e1:0<=aY f p)(e2:0<=aY l p)(e3:aY b p<0)(c1:0<bH b f)(c2:bH b l<0)
  (hm:(jz b l).1*(jz b f).2<(jz b f).1*(jz b l).2) :
  0<bH f l/\0<bH l b/\0<f.2.2*bH l b+l.2.2*bH b f+b.2.2*bH f l:=by
 have hn:=pc hb;unfold jz at hm;rw[if_pos c2,if_neg (by omega)]at hm
 dsimp only at hm;have k1:bH l b=-bH b l:=by unfold bH;grind
 have k2:im b b*(f.2.2*bH l b+l.2.2*bH b f+b.2.2*bH f l)=lg b f*-bH b l+lg b l*bH b f:=by unfold lg bH im;grind
 have k3:0<f.2.2*bH l b+l.2.2*bH b f+b.2.2*bH f l:=by
  refine bL hn ?_;rw[k2];have:-lg b l*bH b f=-(lg b l*bH b f):=by grind
  omega
 refine⟨?_,by omega,k3⟩
 rcases lt_or_le 0 (bH f l) with z|z
 ·exact z
 exfalso;have hz:0<p.1.2*p.2.2:=mul_pos hp1 hp2;have k4:bH l b*aY f p+bH b f*aY l p+bH f l*aY b p=-((f.2.2*bH l b+l.2.2*bH b f+b.2.2*bH f l)*(p.1.2*p.2.2)):=by
  rw[mQ,mQ,mQ];unfold bH;grind
 have q1:0<=bH l b*aY f p:=mul_nonneg (by omega) e1
 have q2:0<=bH b f*aY l p:=mul_nonneg (by omega) e2
 have q3:0<=bH f l*aY b p:=mul_nonneg_of_nonpos_of_nonpos z (le_of_lt e3);have q4:0<(f.2.2*bH l b+l.2.2*bH b f+b.2.2*bH f l)*(p.1.2*p.2.2):=mul_pos k3 hz;omega
def jg (h:Hf):Int:=(h.1.natAbs:Int)+(h.2.1.natAbs:Int)
theorem pY {h:Hf}(hn:Nz h):0<jg h:=by
 unfold jg
 rcases hn with z|z <;> omega
theorem rL {n a x y:Int}(hn:0<n)(ha:a<0)(h:n*x=a*y):n*(x.natAbs:Int)=-a*(y.natAbs:Int):=by
 rcases lt_or_le y 0 with z|z
 ·have:0<n*x:=by rw[h];exact Int.mul_pos_of_neg_of_neg ha z
  have:=bL hn this;rw[show(x.natAbs:Int)=x by omega,show(y.natAbs:Int)=-y by omega,h];grind
 ·have:0<=n*-x:=by
   have:n*-x=-a*y:=by rw[mul_neg,h];grind
   rw[this];exact mul_nonneg (by omega) z
  have:=FM hn this;rw[show(x.natAbs:Int)=-x by omega,show(y.natAbs:Int)=y by omega,mul_neg,h];grind
theorem L5 {b o:Hf}{p:aD}(hb:Nz b)(ho:Nz o)(hp1:0<p.1.2)(hp2:0<p.2.2)(e2:0<=aY o p)(e3:aY b p<0)(c:bH b o=0)(hk:0<lg b o) :
  jg b*o.1+jg o*b.1=0/\jg b*o.2.1+jg o*b.2.1=0/\0<jg b*o.2.2+jg o*b.2.2:=by
 have hn:=pc hb;have hz:0<p.1.2*p.2.2:=mul_pos hp1 hp2;have i1:im b b*o.1=im b o*b.1:=by unfold im;unfold bH at c;grind
 have i2:im b b*o.2.1=im b o*b.2.1:=by unfold im;unfold bH at c;grind
 have neg:im b o<0:=by
  rcases lt_or_le (im b o) 0 with z|z
  ·exact z
  exfalso;have k:im b b*aY o p=im b o*aY b p-(p.1.2*p.2.2)*lg b o:=by
   rw[mQ,mQ];have:im b b*(o.1*(p.1.1*p.2.2)+o.2.1*(p.2.1*p.1.2)-o.2.2*(p.1.2*p.2.2))=(im b b*o.1)*(p.1.1*p.2.2)+(im b b*o.2.1)*(p.2.1*p.1.2)-im b b*o.2.2*(p.1.2*p.2.2):=by grind
   rw[this,i1,i2];unfold lg;grind
  have q1:0<=im b b*aY o p:=mul_nonneg (by omega) e2
  have q2:im b o*aY b p<=0:=mul_nonpos_of_nonneg_of_nonpos z (le_of_lt e3);have q3:0<(p.1.2*p.2.2)*lg b o:=mul_pos hz hk;omega
 have j1:=rL hn neg i1;have j2:=rL hn neg i2;have jl:im b b*jg o=-im b o*jg b:=by unfold jg;rw[Int.mul_add,j1,j2,Int.mul_add]
 have z0:∀ {t:Int},im b b*t=0->t=0:=fun {t} h=>by
  rcases mul_eq_zero.mp h with z|z
  ·omega
  ·exact z
 refine⟨z0 ?_,z0 ?_,bL hn ?_⟩
 ·have:im b b*(jg b*o.1+jg o*b.1)=jg b*(im b b*o.1)+(im b b*jg o)*b.1:=by grind
  rw[this,i1,jl];grind
 ·have:im b b*(jg b*o.2.1+jg o*b.2.1)=jg b*(im b b*o.2.1)+(im b b*jg o)*b.2.1:=by grind
  rw[this,i2,jl];grind
 ·have:im b b*(jg b*o.2.2+jg o*b.2.2)=jg b*(im b b*o.2.2)+(im b b*jg o)*b.2.2:=by grind
  rw[this,jl];have:jg b*(im b b*o.2.2) + -im b o*jg b*b.2.2=jg b*lg b o:=by unfold lg;grind
  rw[this];exact mul_pos (pY hb) hk
def ji (s t:Fr):Prop:=s.1*t.2<=t.1*s.2
theorem mT {s t u:Fr}(ht:0<t.2)(hs:0<s.2)(hu:0<u.2)(h1:ji s t)(h2:ji t u):ji s u:=by
 unfold ji at *;have q1:=mul_le_mul_of_nonneg_right h1 (le_of_lt hu);have q2:=mul_le_mul_of_nonneg_right h2 (le_of_lt hs);have:t.2*(s.1*u.2)<=t.2*(u.1*s.2):=by
  have z1:t.2*(s.1*u.2)=s.1*t.2*u.2:=by grind
  have z2:t.2*(u.1*s.2)=u.1*t.2*s.2:=by grind
  have z3:t.1*s.2*u.2=t.1*u.2*s.2:=by grind
  omega
 exact Int.le_of_mul_le_mul_left this ht
theorem gE {b h:Hf}(c:bH b h≠0):0<(jz b h).2:=by
 unfold jz;split <;> dsimp only <;> omega
abbrev En:=Option (Fr × Nat)
def i7:En->T
 | none=>.non
 | some (s,p)=>.tup [xf s,.int (p:Int)]
structure nR (b:Hf) (hs:List Hf) (f:En):Prop where
 non:f=none->∀ h∈hs,¬ 0<bH b h
 som:∀ s p,f=some (s,p)->(∃ h,hs[p]?=some h/\0<bH b h/\s=jz b h)/\∀ h∈hs,0<bH b h->ji (jz b h) s
structure o7 (b:Hf) (hs:List Hf) (f:En):Prop where
 non:f=none->∀ h∈hs,¬ bH b h<0
 som:∀ s p,f=some (s,p)->(∃ h,hs[p]?=some h/\bH b h<0/\s=jz b h)/\∀ h∈hs,bH b h<0->ji s (jz b h)
def fR (f l:En):Fr:=match f,l with
 | some (s,_),_=>s
 | none,some (s,_)=>s
 | none,none=>(0,1)
theorem wR {b:Hf}{hs:List Hf}{f l:En}(F:nR b hs f)(L:o7 b hs l):0<(fR f l).2:=by
 unfold fR
 split
 ·obtain⟨⟨h,_,c,rfl⟩,_⟩:=F.som _ _ rfl;exact gE (by omega)
 ·obtain⟨⟨h,_,c,rfl⟩,_⟩:=L.som _ _ rfl;exact gE (by omega)
 ·decide
theorem xx {b:Hf}{hs:List Hf}{f l:En}(hb:Nz b)(F:nR b hs f)(L:o7 b hs l)(hm:∀ s p t q,f=some (s,p)->l=some (t,q)->ji s t)(hz:∀ h∈hs,bH b h=0->lg b h<=0) :
  ∀ h∈hs,0<=aY h (J8 b (fR f l)):=by
 intro h hh;have sp:=wR F L;refine KC h hb sp ?_
 rcases Int.lt_trichotomy (bH b h) 0 with c|c|c
 ·
  have key:ji (fR f l) (jz b h):=by
   cases l with
   | none=>exact absurd c (L.non rfl h hh)
   | some tq=>
    obtain⟨t,q⟩:=tq;obtain⟨⟨h',_,c',rfl⟩,g⟩:=L.som _ _ rfl;have g':=g h hh c
    cases f with
    | none=>exact g'
    | some u=>
     obtain⟨s,p⟩:=u;have g2:=hm s p _ q rfl rfl;exact mT (gE (by omega)) sp (gE (by omega)) g2 g'
  unfold ji jz at key;rw[if_pos c]at key;dsimp only at key;grind
 ·rw[c];have:=mul_nonpos_of_nonpos_of_nonneg (hz h hh c) (le_of_lt sp);omega
 ·have key:ji (jz b h) (fR f l):=by
   cases f with
   | none=>exact absurd c (F.non rfl h hh)
   | some u=>
    obtain⟨s,p⟩:=u;exact(F.som _ _ rfl).2 h hh c
  unfold ji jz at key;rw[if_neg (by omega)]at key
  dsimp only at key;grind
theorem BL {b:Hf}{s:Fr}(hb:Nz b)(hs:0<s.2):0<=aY b (J8 b s):=by
 refine KC b hb hs ?_;have:bH b b=0:=by unfold bH;grind
 have e:lg b b=0:=by unfold lg;grind
 rw[this,e];omega
end Law
namespace Law
open L2 DL
theorem cj {α:Type}{f:α->T}{l:List α}{k:Nat}{x:α}{R:S->Prop}(e:l[k]?=some x):atT (l.map f) (k:Int) R=R (.t (f x)):=
 eu (dq (by rw[getElem?_map,e];rfl))
theorem qv (k n:Nat):bT (k:Int) (n+1)=.int k::bT ((k+1:Nat):Int) n:=by
 unfold bT;rw[range_succ_eq_map,map_cons,map_map]
 congr 1
 ·simp;intro a _;omega
theorem vW {g:WG}{wb:WS}{D:iX}{δ:aR}{n m:Nat}(e:m=n)(I:Nat->aR->Prop)(h0:I 0 δ)(hend:∀ δ,I n δ->D.nx δ)
  (hstep:∀ k δ,k<n->I k δ->g (.int (k:Int)) δ fun δ1=>wb {nx:=I (k+1),rt:=D.rt,bk:=D.nx,ct:=I (k+1)} δ1):xN g wb (bT 0 m) D δ:=by
 subst e;refine⟨fun ts δ=>∃ k j:Nat,ts=bT (k:Int) j/\k+j=m/\I k δ,⟨0,m,rfl,by omega,h0⟩,?_,?_⟩
 ·rintro δ ⟨k,j,e,hk,h⟩
  cases j with
  | zero=>exact hend δ (by rw[Nat.add_zero]at hk;rw[<-hk];exact h)
  | succ j=>rw[qv]at e;cases e
 ·rintro x r δ ⟨k,j,e,hk,h⟩
  cases j with
  | zero=>cases e
  | succ j=>
   rw[qv]at e;obtain⟨rfl,rfl⟩:=List.cons.inj e;have q:=hstep k δ (by omega) h
   have z:I (k+1)=fun δ=>∃ k' j':Nat,bT ((k+1:Nat):Int) j=bT (k':Int) j'/\k'+j'=m/\I k' δ:=by
    funext δ'
    refine propext ⟨fun hi=>⟨k+1,j,rfl,by omega,hi⟩,?_⟩
    rintro⟨k',j',e',hk',hi⟩;have:=congrArg List.length e';rw[gX,gX]at this;have:k'=k+1:=by omega
    rw[<-this];exact hi
   show g _ δ fun δ1=>wb {nx:=fun δ=>∃ k' j':Nat,bT ((k+1:Nat):Int) j=bT (k':Int) j'/\k'+j'=m/\I k' δ,rt:=D.rt,bk:=D.nx,ct:=fun δ=>∃ k' j':Nat,bT ((k+1:Nat):Int) j=bT (k':Int) j'/\k'+j'=m/\I k' δ} δ1;rw[<-z];exact q
structure Ox (A B:Prop) (x:Bool):Prop where
 yes:x=true->A
 no:x=false->B
theorem K5 {A B:Prop}(h:A):Ox A B true:=⟨fun _=>h,fun z=>(by cases z)⟩
theorem Az {A B:Prop}(h:B):Ox A B false:=⟨fun z=>(by cases z),fun _=>h⟩
theorem G4 {A B p:Prop}[Decidable p](h:p->A)(g:¬p->B):Ox A B (decide p):=⟨fun z=>h (of_decide_eq_true z),fun z=>g (of_decide_eq_false z)⟩
def cA:aJ:=fun ss R=>∃ (a b c d:Int) (r1 r2:List T),ss=[.t (.tup (.int a::.int b::r1)),.t (.tup (.int c::.int d::r2))]/\Sz 60000 a/\Sz 60000 b/\Sz 60000 c/\Sz 60000 d/\R (.t (.int (a*c+b*d)))
def cb:aJ:=fun ss R=>∃ p q:Hf,ss=[.t (a5 p),.t (a5 q)]/\dk 60000 p/\dk 60000 q/\R (.t (.int (bH p q)))
def jo:aJ:=fun ss R=>∃ b o:Hf,ss=[.t (a5 b),.t (a5 o)]/\dk 20000 b/\dk 20000 o/\R (.t (.int (lg b o)))
def kZ:aJ:=fun ss R=>∃ b o:Hf,ss=[.t (a5 b),.t (a5 o)]/\dk 20000 b/\dk 20000 o/\R (.t (xf (jz b o)))
def iQ:aJ:=fun ss R=>∃ (b:Hf) (s:Fr),ss=[.t (a5 b),.t (xf s)]/\Nz b/\0<s.2/\dk 400 b/\SzF 1500 s/\R (.t (spT (J8 b s)))
def nk:aJ:=fun ss R=>∃ (b:Hf) (hs:List Hf),ss=[.t (a5 b),.t (.lst (hs.map a5))]/\dk 400 b/\(∀ h∈hs,dk 400 h)/\hs.length<=1000/\∀ f l,nR b hs f->o7 b hs l->R (.t (.tup [i7 f,i7 l]))
def Oy (b:Hf)(hs:List Hf)(k:Nat):Bool:=match hs[k]? with
 | some h=>decide (bH b h=0) && decide (0<lg b h)
 | none=>false
def HL (b:Hf)(hs:List Hf):List Nat:=(List.range hs.length).filter (Oy b hs)
def v7 (k:Nat):T:=.int (k:Int)
def qF:aJ:=fun ss R=>∃ (b:Hf) (hs:List Hf),ss=[.t (a5 b),.t (.lst (hs.map a5))]/\dk 400 b/\(∀ h∈hs,dk 400 h)/\hs.length<=1000/\R (.ol ((HL b hs).map v7))
def KP (s t:Fr):Prop:=s.1*t.2<t.1*s.2
def QS (n:Nat)(f:En):Prop:=∀ s p,f=some (s,p)->SzF n s
def qG:aJ:=fun ss R=>∃ (b:Hf) (hs:List Hf) (f l:En),ss=[.t (a5 b),.t (.lst (hs.map a5)),.t (.tup [i7 f,i7 l])]/\dk 400 b/\(∀ h∈hs,dk 400 h)/\hs.length<=1000/\QS 1500 f/\QS 1500 l ∧
 (∀ s (p:Nat) t (q:Nat),f=some (s,p)->l=some (t,q)->KP t s->R (.ol [.int (p:Int),.int (q:Int)])) ∧
 ((∀ s (p:Nat) t (q:Nat),f=some (s,p)->l=some (t,q)->¬ KP t s)->(∀ (i:Nat) h,hs[i]?=some h->bH b h=0->0<lg b h->R (.ol [.int (i:Int)]))/\((∀ h∈hs,bH b h=0->lg b h<=0)->R (.ol [])))
def fh:aJ:=fun ss R=>∃ (b:Hf) (f l:En),ss=[.t (a5 b),.t (.tup [i7 f,i7 l])]/\Nz b/\dk 400 b/\0<(fR f l).2/\SzF 1500 (fR f l)/\R (.t (spT (J8 b (fR f l))))
def iO:aJ:=fun ss R=>∃ ws:List Int,ss=[.t (.lst (ws.map .int))]/\ws≠[]/\ws.length<=1000/\(∀ w∈ws,0<w/\Sz 5000 w)/\∀ (g:Int) (vs:List Int),0<g->vs.map (·*g)=ws->R (.ol (vs.map .int))
def gK:aJ:=fun ss R=>(∃ p q:Hf,ss=[.t (.lst ([p,q].map a5))]/\Nz p/\Nz q/\dk 400 p/\dk 400 q/\∀ g u v:Int,0<g->u*g=jg q->v*g=jg p->R (.ol [.int u,.int v])) ∨
 (∃ p q r:Hf,ss=[.t (.lst ([p,q,r].map a5))]/\dk 400 p/\dk 400 q/\dk 400 r/\bH q r≠0/\bH r p≠0/\bH p q≠0/\∀ g u v w:Int,0<g->u*g=(bH q r).natAbs->v*g=(bH r p).natAbs->w*g=(bH p q).natAbs->R (.ol [.int u,.int v,.int w]))
def Le (p q:Hf)(u v:Int):Prop:=u*p.1+v*q.1=0/\u*p.2.1+v*q.2.1=0/\0<u*p.2.2+v*q.2.2
def Lg (p q r:Hf)(u v w:Int):Prop:=u*p.1+v*q.1+w*r.1=0/\u*p.2.1+v*q.2.1+w*r.2.1=0/\0<u*p.2.2+v*q.2.2+w*r.2.2
inductive AH (hs:List Hf):List Nat->List Int->Prop
 | two (i j:Nat) (p q:Hf) (u v:Int):i<j->hs[i]?=some p->hs[j]?=some q->0<u->0<v->Le p q u v->AH hs [i,j] [u,v]
 | three (i j k:Nat) (p q r:Hf) (u v w:Int):i<j->j<k->hs[i]?=some p->hs[j]?=some q->hs[k]?=some r->0<u->0<v->0<w->Lg p q r u v w->AH hs [i,j,k] [u,v,w]
def nL (pl:List Nat) (ws:List Int):T:=.tup [.str "none",.lst (pl.map v7),.lst (ws.map .int)]
def fQ:aJ:=fun ss R=>∃ (hs:List Hf) (pl:List Nat),ss=[.t (.lst (hs.map a5)),.t (.lst (pl.map v7))]/\(∀ h∈hs,dk 400 h/\Nz h) ∧
 ((∃ (i j:Nat) (p q:Hf),pl=[i,j]/\hs[i]?=some p/\hs[j]?=some q/\∀ g u v:Int,0<g->u*g=jg q->v*g=jg p->R (.t (nL [i,j] [u,v]))) ∨
 (∃ (i j k:Nat) (p q r:Hf),pl=[i,j,k]/\hs[i]?=some p/\hs[j]?=some q/\hs[k]?=some r/\bH q r≠0/\bH r p≠0/\bH p q≠0/\∀ g u v w:Int,0<g->u*g=(bH q r).natAbs->v*g=(bH r p).natAbs->w*g=(bH p q).natAbs->R (.t (nL [i,j,k] [u,v,w]))))
def fH:aJ:=fun ss R=>∃ hs:List Hf,ss=[.t (.lst (hs.map a5))]/\(∀ h∈hs,dk 400 h/\Nz h)/\hs.length<=1000 ∧
 (∀ s:aD,Ot s->fe 5000 s->(∀ h∈hs,0<=aY h s)->R (.t (.tup [.str "spot",spT s])))/\∀ pl ws,AH hs pl ws->(∀ w∈ws,Sz 5000 w)->R (.t (nL pl ws))
def oP:WS:=
 (a6 (dw (bv (ap aI (ae 0) (wC (.int 0))) (ap aI (ae 1) (wC (.int 0)))) (bv (ap aI (ae 0) (wC (.int 1))) (ap aI (ae 1) (wC (.int 1))))))
def mo:WS:=
 (a6 (cZ (bv (ap aI (ae 0) (wC (.int 0))) (ap aI (ae 1) (wC (.int 1)))) (bv (ap aI (ae 0) (wC (.int 1))) (ap aI (ae 1) (wC (.int 0))))))
def oR:WS:=
 (a6 (cZ (bv (ap aI (ae 1) (wC (.int 2))) (aw cA (ac (ae 0) (ac (ae 0) ao)))) (bv (aw cA (ac (ae 0) (ac (ae 1) ao))) (ap aI (ae 0) (wC (.int 2))))))
def jY:WS:=
 (aC (aG 2 (aw jo (ac (ae 0) (ac (ae 1) ao))))
 (aC (aG 3 (aw cb (ac (ae 0) (ac (ae 1) ao))))
 (aC (gM (wB (Cc (ae 3) (wC (.int 0)))) (a6 (bN (ac (vv iy (ae 2)) (ac (vv iy (ae 3)) ao)))) bd)
 (a6 (bN (ac (ae 2) (ac (ae 3) ao)))))))
def jZ:WS:=
 (aC (aG 2 (bv (aw cA (ac (ae 0) (ac (ae 0) ao))) (ap aI (ae 1) (wC (.int 1)))))
 (aC (aG 3 (cZ (bv (bv (ap aI (ae 0) (wC (.int 0))) (ap aI (ae 0) (wC (.int 2)))) (ap aI (ae 1) (wC (.int 1)))) (bv (ap aI (ae 0) (wC (.int 1))) (ap aI (ae 1) (wC (.int 0))))))
 (aC (aG 4 (dw (bv (bv (ap aI (ae 0) (wC (.int 1))) (ap aI (ae 0) (wC (.int 2)))) (ap aI (ae 1) (wC (.int 1)))) (bv (ap aI (ae 0) (wC (.int 0))) (ap aI (ae 1) (wC (.int 0))))))
 (a6 (bN (ac (aw hX (ac (ae 3) (ac (ae 2) ao))) (ac (aw hX (ac (ae 4) (ac (ae 2) ao))) ao)))))))
def mC:WS:=
 (aC (aG 2 (wC .non))
 (aC (aG 3 (wC .non))
 (bP (ju (fV (ac (dH cE (ac (ae 1) ao)) ao)) (aU 4) (aC (aG 5 (aw cb (ac (ae 0) (ac (ap aI (ae 1) (ae 4)) ao))))
 (aC (aG 6 (aw kZ (ac (ae 0) (ac (ap aI (ae 1) (ae 4)) ao))))
 (bP (gM (K7 (kz (wB (G8 (ae 5) (wC (.int 0)))) (Ha (wB (G9 (ae 2))) (wB (aw dR (ac (ap aI (ae 2) (wC (.int 0))) (ac (ae 6) ao))))))) (aG 2 (bN (ac (ae 6) (ac (ae 4) ao)))) bd)
 (gM (K7 (kz (wB (Cc (ae 5) (wC (.int 0)))) (Ha (wB (G9 (ae 3))) (wB (aw dR (ac (ae 6) (ac (ap aI (ae 3) (wC (.int 0))) ao))))))) (aG 3 (bN (ac (ae 6) (ac (ae 4) ao)))) bd)))))
 (a6 (bN (ac (ae 2) (ac (ae 3) ao)))))))
def oQ:WS:=
 (a6 (dZ 1 [0,1] (fV (ac (dH cE (ac (ae 1) ao)) ao)) (aU 0) (kz (wB (rK (aw cb (ac (ae 1) (ac (ap aI (ae 2) (ae 0)) ao))) (wC (.int 0)))) (wB (G8 (aw jo (ac (ae 1) (ac (ap aI (ae 2) (ae 0)) ao))) (wC (.int 0))))) (ae 0)))
def oU:WS:=
 (aC (gM (K7 (kz (wB (tf (ap aI (ae 2) (wC (.int 0))))) (kz (wB (tf (ap aI (ae 2) (wC (.int 1))))) (wB (aw dR (ac (ap aI (ap aI (ae 2) (wC (.int 1))) (wC (.int 0))) (ac (ap aI (ap aI (ae 2) (wC (.int 0))) (wC (.int 0))) ao))))))) (a6 (ia (ac (ap aI (ap aI (ae 2) (wC (.int 0))) (wC (.int 1))) (ac (ap aI (ap aI (ae 2) (wC (.int 1))) (wC (.int 1))) ao)))) bd)
 (a6 (dz (aw qF (ac (ae 0) (ac (ae 1) ao))) dy (fU (wC (.int 1))))))
def dU:WS:=
 (bP (ju (Hd (ae 1)) (aU 2) (gM (wB (tf (ae 2))) (a6 (aw iQ (ac (ae 0) (ac (ap aI (ae 2) (wC (.int 0))) ao)))) bd))
 (a6 (aw iQ (ac (ae 0) (ac (bN (ac (wC (.int 0)) (ac (wC (.int 1)) ao))) ao)))))
def jW:WS:=
 (aC (aG 1 (wC (.int 0)))
 (bP (ju (bW (ae 0)) (aU 2) (aG 1 (aw cq (ac (ae 1) (ac (ae 2) ao)))))
 (a6 (dZ 1 [1] (bW (ae 0)) (aU 0) nZ (dE (ae 0) (ae 1))))))
def cV:WS:=
 (aC (aG 1 (ap aI (ae 0) (wC (.int 0))))
 (aC (aG 2 (ap aI (ae 0) (wC (.int 1))))
 (aC (gM (wB (rK (dH cE (ac (ae 0) ao)) (wC (.int 2)))) (a6 (aw iO (ac (ia (ac (dw (dH i6 (ac (ap aI (ae 2) (wC (.int 0))) ao)) (dH i6 (ac (ap aI (ae 2) (wC (.int 1))) ao))) (ac (dw (dH i6 (ac (ap aI (ae 1) (wC (.int 0))) ao)) (dH i6 (ac (ap aI (ae 1) (wC (.int 1))) ao))) ao))) ao))) bd)
 (aC (aG 3 (ap aI (ae 0) (wC (.int 2))))
 (a6 (aw iO (ac (ia (ac (dH i6 (ac (aw cb (ac (ae 2) (ac (ae 3) ao))) ao)) (ac (dH i6 (ac (aw cb (ac (ae 3) (ac (ae 1) ao))) ao)) (ac (dH i6 (ac (aw cb (ac (ae 1) (ac (ae 2) ao))) ao)) ao)))) ao)))))))
def cC:WS:=
 (a6 (bN (ac (wC (.str "none")) (ac (ae 1) (ac (aw gK (ac (dZ 1 [0] (bW (ae 1)) (aU 0) nZ (ap aI (ae 1) (ae 0))) ao)) ao)))))
def mE:WS:=
 (aC (aG 1 (bN (ac (bN (ac (wC (.int 0)) (ac (wC (.int 1)) ao))) (ac (bN (ac (wC (.int 0)) (ac (wC (.int 1)) ao))) ao))))
 (bP (ju (fV (ac (dH cE (ac (ae 0) ao)) ao)) (aU 2) (aC (aG 3 (ap aI (ae 0) (ae 2)))
 (gM (wB (Cc (aw iP (ac (ae 3) (ac (ae 1) ao))) (wC (.int 0)))) (aC (aG 4 (dz (ae 0) dy (fU (ae 2))))
 (aC (aG 5 (aw nk (ac (ae 3) (ac (ae 4) ao))))
 (aC (aG 6 (aw qG (ac (ae 3) (ac (ae 4) (ac (ae 5) ao)))))
 (aC (gM (wB (G8 (dH cE (ac (ae 6) ao)) (wC (.int 0)))) (a6 (aw fQ (ac (ae 0) (ac (dH pP (ac (ap nV (ae 6) (ia (ac (ae 2) ao))) ao)) ao)))) bd)
 (aG 1 (aw fh (ac (ae 3) (ac (ae 5) ao)))))))) bd)))
 (a6 (bN (ac (wC (.str "spot")) (ac (ae 1) ao))))))
theorem FV:Ok cA oP ["one","other"]:=by
 rintro ss R ⟨a,b,c,d,r1,r2,rfl,sa,sb,sc,sd,h⟩;show oP _ [some (.t (.tup (.int a::.int b::r1))),some (.t (.tup (.int c::.int d::r2)))]
 delta oP
 walk_at"d";exact⟨bF sa sc (by decide) (by decide),bF sb sd (by decide) (by decide),h⟩
theorem BC:Ok cb mo ["one","other"]:=by
 rintro ss R ⟨p,q,rfl,⟨a1,a2,a3⟩,⟨b1,b2,b3⟩,h⟩;show mo _ [some (.t (a5 p)),some (.t (a5 q))]
 delta mo
 walk_at"d";exact⟨bF a1 b2 (by decide) (by decide),bF a2 b1 (by decide) (by decide),h⟩
theorem pd {n:Nat}{p q:Hf}(hp:dk n p)(hq:dk n q):Sz (n+n+1) (im p q):=by
 have:=Sz.add (Sz.mul hp.1 hq.1) (Sz.mul hp.2.1 hq.2.1);exact this.mono (by omega)
theorem jc {n:Nat}{p q:Hf}(hp:dk n p)(hq:dk n q):Sz (n+n+1) (bH p q):=by
 have:=Sz.sub (Sz.mul hp.1 hq.2.1) (Sz.mul hp.2.1 hq.1);exact this.mono (by omega)
theorem Kz {n:Nat}{p q:Hf}(hp:dk n p)(hq:dk n q):Sz (n+n+n+2) (lg p q):=by
 have:=Sz.sub (Sz.mul hq.2.2 (pd hp hp)) (Sz.mul (pd hp hq) hp.2.2);exact this.mono (by omega)
theorem ET {n:Nat}{p q:Hf}(hp:dk n p)(hq:dk n q):SzF (n+n+n+2) (jz p q):=by
 unfold jz
 split
 ·exact⟨(Kz hp hq).neg,(jc hp hq).neg.mono (by omega)⟩
 ·exact⟨Kz hp hq,(jc hp hq).mono (by omega)⟩
theorem bh {m n:Nat}{p:Hf}(h:dk m p)(l:m<=n):dk n p:=⟨h.1.mono l,h.2.1.mono l,h.2.2.mono l⟩
theorem fb {m n:Nat}{p:Fr}(h:SzF m p)(l:m<=n):SzF n p:=⟨h.1.mono l,h.2.mono l⟩
theorem FX:Ok jo oR ["border","other"]:=by
 rintro ss R ⟨b,o,rfl,sb,so,h⟩;have sb':=bh (n:=60000) sb (by decide)
 have so':=bh (n:=60000) so (by decide)
 show oR _ [some (.t (a5 b)),some (.t (a5 o))]
 delta oR
 walk_at"d";refine⟨_,_,_,_,_,_,rfl,sb'.1,sb'.2.1,sb'.1,sb'.2.1,?_⟩;walk_at"d";refine⟨bF so.2.2 (pd sb sb) (by decide) (by decide),_,_,_,_,_,_,rfl,sb'.1,sb'.2.1,so'.1,so'.2.1,?_⟩
 walk_at"d";exact⟨bF (pd sb so) sb.2.2 (by decide) (by decide),h⟩
theorem yi:Ok kZ jY ["border","other","top","bottom"]:=by
 rintro ss R ⟨b,o,rfl,sb,so,h⟩;have sb':=bh (n:=60000) sb (by decide)
 have so':=bh (n:=60000) so (by decide)
 show jY _ [some (.t (a5 b)),some (.t (a5 o)),none,none]
 delta jY
 walk_at"d";refine⟨b,o,rfl,sb,so,?_⟩;walk_at"d";refine⟨b,o,rfl,sb',so',?_⟩;walk_at"d";unfold jz at h
 split
 ·rename_i c;rw[if_pos c]at h;exact h
 ·rename_i c;rw[if_neg c]at h;exact h
theorem yj:Ok iQ jZ ["border","step","bottom","x","y"]:=by
 rintro ss R ⟨b,s,rfl,hb,hs,sb,⟨s1,s2⟩,h⟩;have sb':=bh (n:=60000) sb (by decide)
 have hD:0<Av b s:=mul_pos (pc hb) hs;have sD:Sz 9000 (Av b s):=(Sz.mul (pd sb sb) s2).mono (by decide)
 show jZ _ [some (.t (a5 b)),some (.t (xf s)),none,none,none]
 delta jZ
 walk_at"d";refine⟨_,_,_,_,_,_,rfl,sb'.1,sb'.2.1,sb'.1,sb'.2.1,?_⟩;walk_at"d";refine⟨bF (pd sb sb) s2 (by decide) (by decide),bF sb.1 sb.2.2 (by decide) (by decide),bF (Sz.mul sb.1 sb.2.2) s2 (by decide) (by decide),bF sb.2.1 s1 (by decide) (by decide),bF sb.2.1 sb.2.2 (by decide) (by decide),bF (Sz.mul sb.2.1 sb.2.2) s2 (by decide) (by decide),bF sb.1 s1 (by decide) (by decide),_,_,rfl,by show Av b s≠0;omega,sD,?_⟩
 walk_at"d";refine⟨_,_,rfl,by show Av b s≠0;omega,sD,?_⟩
 walk_at"d";exact h
theorem ww (s:Fr):ji s s:=Int.le_refl _
theorem EJ (b:Hf):nR b [] none:=⟨fun _ h hh=>(by cases hh),fun s p e=>(by cases e)⟩
theorem EL (b:Hf):o7 b [] none:=⟨fun _ h hh=>(by cases hh),fun s p e=>(by cases e)⟩
theorem zI {α:Type}{l:List α}{x y:α}{p:Nat}(h:l[p]?=some y):(l++[x])[p]?=some y:=by
 have:p<l.length:=by rw[List.getElem?_eq_some_iff]at h;exact h.1
 rw[getElem?_append_left this];exact h
theorem Bt {b h:Hf}{pre:List Hf}{f:En}(F:nR b pre f)(c:0<bH b h->∃ s p,f=some (s,p)/\ji (jz b h) s):nR b (pre++[h]) f:=by
 refine⟨fun e x hx=>?_,fun s p e=>?_⟩
 ·rcases mem_append.mp hx with z|z
  ·exact F.non e x z
  ·simp at z;subst z;intro cc;obtain⟨s,p,e',_⟩:=c cc;rw[e]at e';cases e'
 ·obtain⟨⟨x,h1,h2⟩,g⟩:=F.som s p e;refine⟨⟨x,zI h1,h2⟩,fun y hy cy=>?_⟩
  rcases mem_append.mp hy with z|z
  ·exact g y z cy
  ·simp at z;subst z;obtain⟨s',p',e',q⟩:=c cy;rw[e]at e';cases e'
   exact q
theorem EI {b h:Hf}{pre:List Hf}{f:En}(F:nR b pre f)(c:0<bH b h)(lt:∀ s p,f=some (s,p)->ji s (jz b h)):nR b (pre++[h]) (some (jz b h,pre.length)):=by
 refine⟨fun e=>(by cases e),fun s p e=>?_⟩
 cases e
 refine⟨⟨h,by simp,c,rfl⟩,fun y hy cy=>?_⟩
 rcases mem_append.mp hy with z|z
 ·cases f with
  | none=>exact absurd cy (F.non rfl y z)
  | some u=>
   obtain⟨s,p⟩:=u;obtain⟨⟨x,_,cx,rfl⟩,g⟩:=F.som _ _ rfl;exact mT (gE (by omega)) (gE (by omega)) (gE (by omega)) (g y z cy) (lt _ _ rfl)
 ·simp at z;subst z;exact ww _
theorem Bu {b h:Hf}{pre:List Hf}{f:En}(F:o7 b pre f)(c:bH b h<0->∃ s p,f=some (s,p)/\ji s (jz b h)):o7 b (pre++[h]) f:=by
 refine⟨fun e x hx=>?_,fun s p e=>?_⟩
 ·rcases mem_append.mp hx with z|z
  ·exact F.non e x z
  ·simp at z;subst z;intro cc;obtain⟨s,p,e',_⟩:=c cc;rw[e]at e';cases e'
 ·obtain⟨⟨x,h1,h2⟩,g⟩:=F.som s p e;refine⟨⟨x,zI h1,h2⟩,fun y hy cy=>?_⟩
  rcases mem_append.mp hy with z|z
  ·exact g y z cy
  ·simp at z;subst z;obtain⟨s',p',e',q⟩:=c cy;rw[e]at e';cases e'
   exact q
theorem EK {b h:Hf}{pre:List Hf}{f:En}(F:o7 b pre f)(c:bH b h<0)(lt:∀ s p,f=some (s,p)->ji (jz b h) s):o7 b (pre++[h]) (some (jz b h,pre.length)):=by
 refine⟨fun e=>(by cases e),fun s p e=>?_⟩
 cases e
 refine⟨⟨h,by simp,c,rfl⟩,fun y hy cy=>?_⟩
 rcases mem_append.mp hy with z|z
 ·cases f with
  | none=>exact absurd cy (F.non rfl y z)
  | some u=>
   obtain⟨s,p⟩:=u;obtain⟨⟨x,_,cx,rfl⟩,g⟩:=F.som _ _ rfl;exact mT (gE (by omega)) (gE (by omega)) (gE (by omega)) (lt _ _ rfl) (g y z cy)
 ·simp at z;subst z;exact ww _
theorem xS {b:Hf}{hs:List Hf}(sb:dk 400 b)(sh:∀ h∈hs,dk 400 h){f:En}(F:nR b hs f):QS 1500 f:=fun s p e=>by
 obtain⟨⟨x,h1,_,rfl⟩,_⟩:=F.som s p e;exact fb (ET sb (sh x (mem_of_getElem? h1))) (by decide)
theorem uJ {b:Hf}{hs:List Hf}(sb:dk 400 b)(sh:∀ h∈hs,dk 400 h){f:En}(F:o7 b hs f):QS 1500 f:=fun s p e=>by
 obtain⟨⟨x,h1,_,rfl⟩,_⟩:=F.som s p e;exact fb (ET sb (sh x (mem_of_getElem? h1))) (by decide)
theorem fJ {α:Type}{l:List α}{k:Nat}{x:α}(e:l[k]?=some x):l.take (k+1)=l.take k++[x]:=by
 rw[List.take_succ,e];rfl
theorem BH:Ok nk mC ["border","halves","first","last","place","facing","step"]:=by
 rintro ss R ⟨b,hs,rfl,sb,sh,hl,h⟩;have sb6:=bh (n:=60000) sb (by decide)
 have sb2:=bh (n:=20000) sb (by decide)
 show mC _ [some (.t (a5 b)),some (.t (.lst (hs.map a5))),none,none,none,none,none]
 delta mC
 walk_at"d"
 let I (k:Nat):aR->Prop:=fun δ=>∃ (f l:En) (r4 r5 r6:Option S),δ=[some (.t (a5 b)),some (.t (.lst (hs.map a5))),some (.t (i7 f)),some (.t (i7 l)),r4,r5,r6]/\nR b (hs.take k) f/\o7 b (hs.take k) l
 refine⟨I hs.length,⟨lS (by omega) (by rw[length_map];omega),vW (n:=hs.length) (by rw[length_map,toNat_natCast]) I ⟨none,none,_,_,_,rfl,EJ b,EL b⟩ (fun _ z=>z) ?_⟩,?_⟩
 ·rintro k δ hk ⟨f,l,r4,r5,r6,rfl,F,L⟩;have e:hs[k]?=some hs[k]:=getElem?_eq_getElem hk;have tk:(hs.take k).length=k:=by rw[length_take];omega
  generalize hs[k]=h at e;have s4:=sh h (mem_of_getElem? e);have mz:=ET sb s4;have fz:=xS sb (fun x hx=>sh x (mem_of_mem_take hx)) F;have lz:=uJ sb (fun x hx=>sh x (mem_of_mem_take hx)) L;walk_at"d";rw[cj e];walk_at"d";refine⟨b,h,rfl,sb6,bh s4 (by decide),?_⟩
  walk_at"d";rw[cj e];walk_at"d";refine⟨b,h,rfl,sb2,bh s4 (by decide),?_⟩
  walk_at"d";refine⟨fun δ=>∃ f':En,δ=[some (.t (a5 b)),some (.t (.lst (hs.map a5))),some (.t (i7 f')),some (.t (i7 l)),some (.t (.int k)),some (.t (.int (bH b h))),some (.t (xf (jz b h)))]/\nR b (hs.take (k+1)) f',?_,?_⟩
  ·walk_at"d";refine⟨Ox (0<bH b h/\∀ s p,f=some (s,p)->KP s (jz b h)) (0<bH b h->∃ s p,f=some (s,p)/\¬ KP s (jz b h)),?_,?_⟩
   ·walk_at"d"
    split
    ·rename_i c
     rcases f with _|⟨s,p⟩
     ·unfold i7;walk_at"d";exact K5 ⟨c,fun _ _ z=>by cases z⟩
     ·unfold i7;walk_at"d";refine⟨s,jz b h,rfl,fb (fz s p rfl) (by decide),fb mz (by decide),?_⟩
      walk_at"d";exact G4 (fun z=>⟨c,fun s' p' q=>by cases q;exact z⟩) fun z _=>⟨s,p,rfl,z⟩
    ·rename_i c;exact Az fun z=>absurd z c
   rintro x ⟨x1,x2⟩
   cases x with
   | true=>
    obtain⟨c,g⟩:=x1 rfl;walk_at"d";refine⟨some (jz b h,k),rfl,?_⟩;rw[fJ e];have:=EI (h:=h) F c fun s p q=>le_of_lt (g s p q);rw[tk]at this;exact this
   | false=>
    walk_at"d";refine⟨f,rfl,?_⟩;rw[fJ e];refine Bt F fun c=>?_;obtain⟨s,p,q1,q2⟩:=x2 rfl c;exact⟨s,p,q1,Int.not_lt.mp q2⟩
  ·rintro δ ⟨f',rfl,F'⟩;walk_at"d";refine⟨Ox (bH b h<0/\∀ s p,l=some (s,p)->KP (jz b h) s) (bH b h<0->∃ s p,l=some (s,p)/\¬ KP (jz b h) s),?_,?_⟩
   ·walk_at"d"
    split
    ·rename_i c
     rcases l with _|⟨s,p⟩
     ·unfold i7;walk_at"d";exact K5 ⟨c,fun _ _ z=>by cases z⟩
     ·unfold i7;walk_at"d";refine⟨jz b h,s,rfl,fb mz (by decide),fb (lz s p rfl) (by decide),?_⟩
      walk_at"d";exact G4 (fun z=>⟨c,fun s' p' q=>by cases q;exact z⟩) fun z _=>⟨s,p,rfl,z⟩
    ·rename_i c;exact Az fun z=>absurd z c
   rintro x ⟨x1,x2⟩
   cases x with
   | true=>
    obtain⟨c,g⟩:=x1 rfl;walk_at"d";refine⟨f',some (jz b h,k),_,_,_,rfl,F',?_⟩;rw[fJ e];have:=EK (h:=h) L c fun s p q=>le_of_lt (g s p q);rw[tk]at this;exact this
   | false=>
    walk_at"d";refine⟨f',l,_,_,_,rfl,F',?_⟩;rw[fJ e];refine Bu L fun c=>?_;obtain⟨s,p,q1,q2⟩:=x2 rfl c;exact⟨s,p,q1,Int.not_lt.mp q2⟩
 ·rintro δ ⟨f,l,r4,r5,r6,rfl,F,L⟩;rw[List.take_length]at F L;walk_at"d";exact h f l F L
theorem HM {b:Hf}{hs:List Hf}{k:Nat}(h:k∈HL b hs):∃ x,hs[k]?=some x/\bH b x=0/\0<lg b x:=by
 unfold HL at h;have:=(mem_filter.mp h).2;unfold Oy at this
 split at this
 ·rename_i x hx;simp at this;exact⟨x,hx,this.1,this.2⟩
 ·cases this
theorem HN {b:Hf}{hs:List Hf}(h:HL b hs=[]):∀ x∈hs,bH b x=0->lg b x<=0:=by
 intro x hx c;obtain⟨k,hk,rfl⟩:=getElem_of_mem hx
 rcases lt_or_le 0 (lg b hs[k]) with z|z
 ·exfalso;have:k∈HL b hs:=by
   unfold HL;refine mem_filter.mpr ⟨mem_range.mpr hk,?_⟩;unfold Oy;rw[getElem?_eq_getElem hk];simp[c,z]
  rw[h]at this;cases this
 ·exact z
theorem FW:Ok qF oQ ["border","halves"]:=by
 rintro ss R ⟨b,hs,rfl,sb,sh,hl,h⟩;show oQ _ [some (.t (a5 b)),some (.t (.lst (hs.map a5)))]
 delta oQ
 walk_at"d";refine⟨lS (by omega) (by rw[length_map];omega),?_⟩
 rw[length_map,toNat_natCast];refine eY (f:=fun k:Nat=>.int (0+(k:Int))) (h:=v7) (p:=Oy b hs) (l:=List.range hs.length) (fun δ=>∃ r,δ=[r,some (.t (a5 b)),some (.t (.lst (hs.map a5)))]) (fun _ _=>rfl) (by rw[length_range];omega) ⟨_,rfl⟩ ?_ ?_
 ·rintro k hk δ ⟨r,rfl⟩ Y N hY hN;have e:hs[k]?=some (hs[k]'(mem_range.mp hk)):=getElem?_eq_getElem _;generalize hs[k]'(mem_range.mp hk)=x at e;have s4:=sh x (mem_of_getElem? e);have ep:Oy b hs k=(decide (bH b x=0) && decide (0<lg b x)):=by unfold Oy;rw[e]
  rw[Int.zero_add];walk_at"d";rw[cj e];walk_at"d";refine⟨b,x,rfl,bh sb (by decide),bh s4 (by decide),?_⟩
  walk_at"d"
  split
  ·rename_i c;rw[cj e];walk_at"d";refine⟨b,x,rfl,bh sb (by decide),bh s4 (by decide),?_⟩
   walk_at"d"
   split
   ·rename_i c2;exact hY _ ⟨_,rfl⟩ (by rw[ep];simp[c,c2])
   ·rename_i c2;exact hN _ ⟨_,rfl⟩ (by rw[ep];simp[c2])
  ·rename_i c;exact hN _ ⟨_,rfl⟩ (by rw[ep];simp[c])
 ·exact h
theorem pB {α:Type}{f:α->T}(l:List α)(k:Nat):fX (l.map f) none (some (k:Int))=(l.take k).map f:=by
 unfold fX;rw[HT.sIx_nat,HT.sIx_none,List.drop_zero,Nat.sub_zero,length_map,map_take]
 rcases Nat.le_total k l.length with z|z
 ·rw[min_eq_left z]
 ·rw[Nat.min_eq_right z,take_of_length_le (by simp),take_of_length_le (by simpa using z)]
theorem F6:Ok qG oU ["border","halves","ends"]:=by
 rintro ss R ⟨b,hs,f,l,rfl,sb,sh,hl,sf,sl,hA,hB⟩;show oU _ [some (.t (a5 b)),some (.t (.lst (hs.map a5))),some (.t (.tup [i7 f,i7 l]))]
 delta oU
 walk_at"d";refine⟨Ox (∃ s p t q,f=some (s,p)/\l=some (t,q)/\KP t s) (∀ s p t q,f=some (s,p)->l=some (t,q)->¬ KP t s),?_,?_⟩
 ·rcases f with _|⟨s,p⟩
  ·unfold i7;walk_at"d";exact Az fun s p t q z=>by cases z
  ·rcases l with _|⟨t,q⟩
   ·unfold i7;walk_at"d";exact Az fun s p t q _ z=>by cases z
   ·unfold i7;walk_at"d";refine⟨t,s,rfl,fb (sl t q rfl) (by decide),fb (sf s p rfl) (by decide),?_⟩
    walk_at"d";refine G4 (fun z=>⟨s,p,t,q,rfl,rfl,z⟩) fun z s' p' t' q' e1 e2=>?_
    cases e1;cases e2
    exact z
 ·rintro x ⟨x1,x2⟩
  cases x with
  | true=>
   obtain⟨s,p,t,q,rfl,rfl,lt⟩:=x1 rfl;unfold i7;walk_at"d";exact hA s p t q rfl rfl lt
  | false=>
   have nc:=x2 rfl;obtain⟨h1,h2⟩:=hB nc;walk_at"d";refine⟨b,hs,rfl,sb,sh,hl,?_⟩;dsimp only;rw[show got (.ol ((HL b hs).map v7))=.ol ((HL b hs).map v7) from if_pos (bB (fun _=>rfl) _)];walk_at"d";rw[show(1:Int)=((1:Nat):Int) from rfl,pB]
   cases e:HL b hs with
   | nil=>
    exact h2 (HN e)
   | cons k r=>
    obtain⟨x,e1,e2,e3⟩:=HM (b:=b) (hs:=hs) (k:=k) (by rw[e];simp)
    exact h1 k x e1 e2 e3
theorem nX:Ok fh dU ["border","ends","end"]:=by
 rintro ss R ⟨b,f,l,rfl,hb,sb,hp,sp,h⟩;show dU _ [some (.t (a5 b)),some (.t (.tup [i7 f,i7 l])),none]
 delta dU
 walk_at"d";refine⟨fun δ=>δ=[some (.t (a5 b)),some (.t (.tup [.non,.non])),some (.t .non)]/\f=none/\l=none,IA ?_,?_⟩
 ·unfold xO xO xO
  rcases f with _|⟨s,p⟩
  ·rcases l with _|⟨t,q⟩
   ·unfold i7;walk_at"d"
   ·unfold i7;walk_at"d";refine⟨b,t,rfl,hb,hp,sb,sp,?_⟩;walk_at"d";exact h
  ·unfold i7;walk_at"d";refine⟨b,s,rfl,hb,hp,sb,sp,?_⟩;walk_at"d";exact h
 ·rintro δ ⟨rfl,rfl,rfl⟩;walk_at"d";refine⟨b,(0,1),rfl,hb,hp,sb,sp,?_⟩;walk_at"d";exact h
theorem yg:Ok iO jW ["weights","common","weight"]:=by
 rintro ss R ⟨ws,rfl,hne,hl,hw,h⟩;show jW _ [some (.t (.lst (ws.map .int))),none,none]
 delta jW
 walk_at"d";refine⟨fun δ=>∃ (c:Int) (r:Option S),δ=[some (.t (.lst (ws.map .int))),some (.t (.int c)),r]/\0<c/\∀ w∈ws,c ∣ w,⟨fun ts δ=>∃ (pre post:List Int) (c:Int) (r:Option S),ws=pre++post/\ts=post.map .int/\δ=[some (.t (.lst (ws.map .int))),some (.t (.int c)),r]/\(pre≠[]->0<c)/\∀ w∈pre,c ∣ w,⟨[],ws,0,none,rfl,rfl,rfl,fun z=>absurd rfl z,fun w hw=>(by cases hw)⟩,?_,?_⟩,?_⟩
 ·rintro δ ⟨pre,post,c,r,e,e2,rfl,h1,h2⟩
  cases post with
  | cons a b=>cases e2
  | nil=>
   rw[append_nil]at e;subst e;exact⟨c,r,rfl,h1 hne,h2⟩
 ·rintro x r δ ⟨pre,post,c,q,e,e2,rfl,h1,h2⟩
  cases post with
  | nil=>cases e2
  | cons a b=>
   obtain⟨rfl,rfl⟩:=List.cons.inj e2;walk_at"d";refine⟨_,_,rfl,?_⟩;walk_at"d";have ha:a∈ws:=by rw[e];simp
   refine⟨pre++[a],b,_,_,by rw[e];simp,rfl,rfl,fun _=>?_,fun w hm=>?_⟩
   ·have:=gD (a:=c) (b:=a) (.inr (by have:=(hw a ha).1;omega))
    omega
   ·rcases mem_append.mp hm with z|z
    ·exact Int.dvd_trans (gcd_dvd_left _ _) (h2 w z)
    ·simp at z;subst z;exact gcd_dvd_right _ _
 ·rintro δ ⟨c,r,rfl,hc,hd⟩;walk_at"d";refine fL (f:=T.int) (h:=fun w=>.int (w.fdiv c)) (l:=ws) (fun δ=>∃ r,δ=[r,some (.t (.int c))]) (fun _ _=>rfl) (by omega) ⟨_,rfl⟩ ?_ ?_
  ·rintro w hm δ ⟨r,rfl⟩ Y hY;walk_at"d";exact⟨Mh (by omega) (hw w hm).2 (by decide),hY _ ⟨_,rfl⟩⟩
  ·have e:ws.map (fun w=>T.int (w.fdiv c))=(ws.map fun w=>w.fdiv c).map .int:=by rw[map_map];rfl
   rw[e];refine h c _ hc ?_;rw[map_map]
   conv=>rhs;rw[<-List.map_id ws]
   exact map_congr_left fun w hm=>b9 (hd w hm)
theorem zT {h:Hf}(s:dk 400 h):Sz 5000 (jg h):=by
 have a:Sz 400 (h.1.natAbs:Int):=⟨by have:=s.1.lt;omega⟩
 have b:Sz 400 (h.2.1.natAbs:Int):=⟨by have:=s.2.1.lt;omega⟩
 exact(Sz.add a b).mono (by decide)
theorem ii {n:Nat}{i:Int}(s:Sz n i):Sz n (i.natAbs:Int):=⟨by have:=s.lt;omega⟩
theorem Ob {vs:List Int}{g a b:Int}(h:vs.map (·*g)=[a,b]):∃ u v,vs=[u,v]/\u*g=a/\v*g=b:=by
 match vs,h with
 | [u,v],h=>simp at h;exact⟨u,v,rfl,h.1,h.2⟩
theorem G2 {vs:List Int}{g a b c:Int}(h:vs.map (·*g)=[a,b,c]):∃ u v w,vs=[u,v,w]/\u*g=a/\v*g=b/\w*g=c:=by
 match vs,h with
 | [u,v,w],h=>simp at h;exact⟨u,v,w,rfl,h.1,h.2.1,h.2.2⟩
theorem rE:Ok gK cV ["chosen","one","other","third"]:=by
 rintro ss R (⟨p,q,rfl,np,nq,sp,sq,h⟩|⟨p,q,r,rfl,sp,sq,sr,n1,n2,n3,h⟩)
 ·show cV _ [some (.t (.lst [a5 p,a5 q])),none,none,none]
  delta cV
  walk_at"d";rw[if_pos (by decide)]
  simp only[mK];refine⟨[jg q,jg p],rfl,by simp,by simp,fun w hw=>?_,fun g vs hg e=>?_⟩
  ·simp at hw
   rcases hw with rfl|rfl
   ·exact⟨pY nq,zT sq⟩
   ·exact⟨pY np,zT sp⟩
  ·obtain⟨u,v,rfl,e1,e2⟩:=Ob e;walk_at"d";exact h g u v hg e1 e2
 ·show cV _ [some (.t (.lst [a5 p,a5 q,a5 r])),none,none,none]
  delta cV
  walk_at"d";rw[if_neg (by decide)]
  walk_at"d";refine⟨q,r,rfl,bh sq (by decide),bh sr (by decide),?_⟩
  walk_at"d";refine⟨r,p,rfl,bh sr (by decide),bh sp (by decide),?_⟩
  walk_at"d";refine⟨p,q,rfl,bh sp (by decide),bh sq (by decide),?_⟩
  walk_at"d";simp only[mK];refine⟨[((bH q r).natAbs:Int),((bH r p).natAbs:Int),((bH p q).natAbs:Int)],rfl,by simp,by simp,fun w hw=>?_,fun g vs hg e=>?_⟩
  ·simp only[mem_cons,not_mem_nil,or_false]at hw
   rcases hw with rfl|rfl|rfl
   ·exact⟨by omega,(ii (jc sq sr)).mono (by decide)⟩
   ·exact⟨by omega,(ii (jc sr sp)).mono (by decide)⟩
   ·exact⟨by omega,(ii (jc sp sq)).mono (by decide)⟩
  ·obtain⟨u,v,w,rfl,e1,e2,e3⟩:=G2 e;walk_at"d";exact h g u v w hg e1 e2 e3
theorem K6 {R:S->Prop}(x y:T)(ts:List T):tupK R [.t x,.t y,.ol ts]=R (.t (.tup [x,y,.lst ts])):=rfl
theorem qg:Ok fQ cC ["halves","places"]:=by
 rintro ss R ⟨hs,pl,rfl,hh,⟨i,j,p,q,rfl,e1,e2,h⟩|⟨i,j,k,p,q,r,rfl,e1,e2,e3,n1,n2,n3,h⟩⟩
 ·have h1:=hh p (mem_of_getElem? e1);have h2:=hh q (mem_of_getElem? e2);show cC _ [some (.t (.lst (hs.map a5))),some (.t (.lst [.int (i:Int),.int (j:Int)]))]
  delta cC
  walk_at"d";refine lw ?_;walk_at"d";rw[cj e1];walk_at"d";refine⟨by simp,?_⟩
  rw[cj e2];walk_at"d";refine⟨by simp,?_⟩
  refine .inl ⟨p,q,rfl,h1.2,h2.2,h1.1,h2.1,fun g u v hg a b=>?_⟩;walk_at"d";rw[K6];exact h g u v hg a b
 ·have h1:=hh p (mem_of_getElem? e1);have h2:=hh q (mem_of_getElem? e2);have h3:=hh r (mem_of_getElem? e3);show cC _ [some (.t (.lst (hs.map a5))),some (.t (.lst [.int (i:Int),.int (j:Int),.int (k:Int)]))]
  delta cC
  walk_at"d";refine lw ?_;walk_at"d";rw[cj e1];walk_at"d";refine⟨by simp,?_⟩
  rw[cj e2];walk_at"d";refine⟨by simp,?_⟩
  rw[cj e3];walk_at"d";refine⟨by simp,?_⟩
  refine .inr ⟨p,q,r,rfl,h1.1,h2.1,h3.1,n1,n2,n3,fun g u v w hg a b c=>?_⟩;walk_at"d";rw[K6];exact h g u v w hg a b c
end Law
namespace Law
open L2 DL
theorem As {i:Int}:sgn i<0↔i<0:=by
 unfold sgn
 split
 ·omega
 ·split <;> omega
theorem qH {α:Type}{l:List α}{k p:Nat}{x:α}(h:(l.take k)[p]?=some x):p<k/\l[p]?=some x:=by
 rw[List.getElem?_take]at h
 split at h
 ·exact⟨by assumption,h⟩
 ·cases h
theorem Am (f:En):lP (i7 f)=true:=by
 rcases f with _|⟨s,p⟩ <;> rfl
theorem BA (f l:En):norm (.tup [i7 f,i7 l])=.t (.tup [i7 f,i7 l]):=by
 unfold norm;rw[if_pos];show(lP (i7 f) && (lP (i7 l) && true))=true;rw[Am,Am];rfl
theorem u9 {ms t:List Int}(h:ms.Perm t)(h1:ms.Pairwise (·<=·))(h2:t.Pairwise (·<=·)):ms=t:=
 List.Perm.eq_of_pairwise (fun _ _ _ _ a b=>Int.le_antisymm a b) h1 h2 h
theorem Aw {p q r:Hf}{g u v w A B C:Int}(hg:0<g)(e1:u*g=A)(e2:v*g=B)(e3:w*g=C)(hA:0<A)(hB:0<B)(hC:0<C)
  (s1:A*p.1+B*q.1+C*r.1=0) (s2:A*p.2.1+B*q.2.1+C*r.2.1=0) (s3:0<A*p.2.2+B*q.2.2+C*r.2.2):0<u/\0<v/\0<w/\Lg p q r u v w:=by
 have z:∀ {t:Int},g*t=0->t=0:=fun {t} h=>by
  rcases mul_eq_zero.mp h with y|y
  ·omega
  ·exact y
 refine⟨bL hg (by rw[mul_comm,e1];exact hA),bL hg (by rw[mul_comm,e2];exact hB),bL hg (by rw[mul_comm,e3];exact hC),z ?_,z ?_,bL hg ?_⟩
 ·rw[<-s1,<-e1,<-e2,<-e3];grind
 ·rw[<-s2,<-e1,<-e2,<-e3];grind
 ·have:g*(u*p.2.2+v*q.2.2+w*r.2.2)=A*p.2.2+B*q.2.2+C*r.2.2:=by rw[<-e1,<-e2,<-e3];grind
  rw[this];exact s3
theorem Ki {p q:Hf}{g u v A B:Int}(hg:0<g)(e1:u*g=A)(e2:v*g=B)(hA:0<A)(hB:0<B)
  (s1:A*p.1+B*q.1=0) (s2:A*p.2.1+B*q.2.1=0) (s3:0<A*p.2.2+B*q.2.2):0<u/\0<v/\Le p q u v:=by
 have z:∀ {t:Int},g*t=0->t=0:=fun {t} h=>by
  rcases mul_eq_zero.mp h with y|y
  ·omega
  ·exact y
 refine⟨bL hg (by rw[mul_comm,e1];exact hA),bL hg (by rw[mul_comm,e2];exact hB),z ?_,z ?_,bL hg ?_⟩
 ·rw[<-s1,<-e1,<-e2];grind
 ·rw[<-s2,<-e1,<-e2];grind
 ·have:g*(u*p.2.2+v*q.2.2)=A*p.2.2+B*q.2.2:=by rw[<-e1,<-e2];grind
  rw[this];exact s3
theorem tU (p q r:Hf):bH q r*p.1+bH r p*q.1+bH p q*r.1=0/\bH q r*p.2.1+bH r p*q.2.1+bH p q*r.2.1=0:=by
 constructor <;> unfold bH <;> grind
theorem tT (p q:Hf):bH p q=-bH q p:=by unfold bH;grind
theorem t6 {m n:Nat}{a b:Int}(ha:Sz m a)(hb:Sz n b):Sz m (lE a b).1/\Sz n (lE a b).2:=⟨ha.fdiv _,hb.fdiv _⟩
theorem Qs {b:Hf}{s:Fr}(sb:dk 400 b)(ss:SzF 1500 s):fe 5000 (J8 b s):=by
 have x:Sz 2400 (OC b s):=(Sz.sub (Sz.mul (Sz.mul sb.1 sb.2.2) ss.2) (Sz.mul sb.2.1 ss.1)).mono (by decide)
 have y:Sz 2400 (OD b s):=(Sz.add (Sz.mul (Sz.mul sb.2.1 sb.2.2) ss.2) (Sz.mul sb.1 ss.1)).mono (by decide)
 have d:Sz 2400 (Av b s):=(Sz.mul (pd sb sb) ss.2).mono (by decide)
 exact⟨⟨(t6 x d).1.mono (by decide),(t6 x d).2.mono (by decide)⟩,⟨(t6 y d).1.mono (by decide),(t6 y d).2.mono (by decide)⟩⟩
theorem Kh {b:Hf}{hs:List Hf}(sb:dk 400 b)(sh:∀ h∈hs,dk 400 h){f l:En}(F:nR b hs f)(L:o7 b hs l):SzF 1500 (fR f l):=by
 unfold fR
 split
 ·exact xS sb sh F _ _ rfl
 ·exact uJ sb sh L _ _ rfl
 ·exact⟨Sz.of (by decide) (by decide),Sz.of (by decide) (by decide)⟩
theorem jt {n:Nat}{u g A:Int}(hg:0<g)(e:u*g=A)(s:Sz n A):Sz n u:=by
 have h:=s.lt;have e2:u.natAbs*g.natAbs=A.natAbs:=by rw[<-Int.natAbs_mul,e]
 have:u.natAbs<=u.natAbs*g.natAbs:=Nat.le_mul_of_pos_right _ (by omega)
 exact⟨by omega⟩
theorem BJ:Ok fH mE ["halves","spot","place","border","before","ends","places"]:=by
 rintro ss R ⟨hs,rfl,hh,hl,hS,hC⟩;show mE _ [some (.t (.lst (hs.map a5))),none,none,none,none,none,none]
 delta mE
 walk_at"db"
 let I (k:Nat):aR->Prop:=fun δ=>∃ (s:aD) (r2 r3 r4 r5 r6:Option S),δ=[some (.t (.lst (hs.map a5))),some (.t (spT s)),r2,r3,r4,r5,r6]/\Ot s/\fe 5000 s/\∀ h∈hs.take k,0<=aY h s
 have z1:Sz 5000 0:=Sz.of (by decide) (by decide)
 have z2:Sz 5000 1:=Sz.of (by decide) (by decide)
 refine⟨I hs.length,⟨lS (by omega) (by rw[length_map];omega),vW (n:=hs.length) (by rw[length_map,toNat_natCast]) I ⟨((0,1),(0,1)),_,_,_,_,_,rfl,⟨⟨by decide,by decide⟩,⟨by decide,by decide⟩⟩,⟨⟨z1,z2⟩,⟨z1,z2⟩⟩,fun h hm=>(by cases hm)⟩ (fun _ z=>z) ?_⟩,?_⟩
 ·rintro k δ hk ⟨s,r2,r3,r4,r5,r6,rfl,lo,sz,hold⟩;have e:hs[k]?=some hs[k]:=getElem?_eq_getElem hk;generalize hs[k]=b at e;obtain⟨sb,nb⟩:=hh b (mem_of_getElem? e);have th:∀ h∈hs.take k,dk 400 h:=fun h hm=>(hh h (mem_of_mem_take hm)).1;walk_at"db";rw[cj e];walk_at"db";refine⟨b,s,rfl,bh sb (by decide),⟨⟨sz.1.1.mono (by decide),sz.1.2.mono (by decide)⟩,⟨sz.2.1.mono (by decide),sz.2.2.mono (by decide)⟩⟩,?_⟩
  walk_at"db"
  split
  ·rename_i neg;have neg:=As.mp neg;rw[pB];refine⟨b,hs.take k,rfl,sb,th,by rw[length_take];omega,fun f l F L=>?_⟩
   dsimp only;rw[show got (.t (.tup [i7 f,i7 l]))=norm (.tup [i7 f,i7 l]) from rfl,BA];walk_at"db";refine⟨b,hs.take k,f,l,rfl,sb,th,by rw[length_take];omega,xS sb th F,uJ sb th L,?_,fun nc=>⟨?_,?_⟩⟩
   ·
    rintro s1 p t q rfl rfl lt;obtain⟨⟨hf,g1,c1,rfl⟩,_⟩:=F.som _ _ rfl;obtain⟨⟨hl',g2,c2,rfl⟩,_⟩:=L.som _ _ rfl;obtain⟨pk,g1'⟩:=qH g1;obtain⟨qk,g2'⟩:=qH g2;have s1':=(hh hf (mem_of_getElem? g1')).1;have s2':=(hh hl' (mem_of_getElem? g2')).1;have npq:p≠q:=fun z=>by
     subst z;rw[g1]at g2;cases g2;omega
    obtain⟨w1,w2,w3⟩:=L6 nb lo.1.1 lo.2.1 (hold hf (mem_of_getElem? g1)) (hold hl' (mem_of_getElem? g2)) neg c1 c2 lt;have sw1:=tT hf b;have sw2:=tT b hl';have sw3:=tT hl' hf;walk_at"db";rw[if_pos (by decide)]
    refine⟨by decide,?_⟩
    show iZ _ ([(p:Int),(q:Int),(k:Int)].map T.int);rw[sT];refine⟨by simp,fun ms pm ps=>?_⟩
    rcases lt_or_ge p q with o|o
    ·rw[u9 (t:=[(p:Int),(q:Int),(k:Int)]) pm ps (by simp;omega)]
     refine⟨hs,[p,q,k],rfl,hh,.inr ⟨p,q,k,hf,hl',b,rfl,g1',g2',e,by omega,by omega,by omega,fun g u v w hg a b' c=>?_⟩⟩
     obtain⟨p1,p2,p3,p4⟩:=Aw (p:=hf) (q:=hl') (r:=b) (A:=bH hl' b) (B:=bH b hf) (C:=bH hf hl') (u:=u) (v:=v) (w:=w) hg (by omega) (by omega) (by omega) (by omega) (by omega) (by omega) (tU hf hl' b).1 (tU hf hl' b).2 (by have:=w3;grind)
     refine hC _ _ (.three p q k hf hl' b u v w o (by omega) g1' g2' e p1 p2 p3 p4) fun x hx=>?_
     simp only[mem_cons,not_mem_nil,or_false]at hx
     rcases hx with rfl|rfl|rfl
     ·exact jt hg a ((ii (jc s2' sb)).mono (by decide))
     ·exact jt hg b' ((ii (jc sb s1')).mono (by decide))
     ·exact jt hg c ((ii (jc s1' s2')).mono (by decide))
    ·rw[u9 (t:=[(q:Int),(p:Int),(k:Int)]) (pm.trans (List.Perm.swap _ _ _)) ps (by simp;omega)]
     refine⟨hs,[q,p,k],rfl,hh,.inr ⟨q,p,k,hl',hf,b,rfl,g2',g1',e,by omega,by omega,by omega,fun g u v w hg a b' c=>?_⟩⟩
     obtain⟨p1,p2,p3,p4⟩:=Aw (p:=hl') (q:=hf) (r:=b) (A:=bH b hf) (B:=bH hl' b) (C:=bH hf hl') (u:=u) (v:=v) (w:=w) hg (by omega) (by omega) (by omega) (by omega) (by omega) (by omega) (by have:=(tU hf hl' b).1;grind) (by have:=(tU hf hl' b).2;grind) (by have:=w3;grind)
     refine hC _ _ (.three q p k hl' hf b u v w (by omega) (by omega) g2' g1' e p1 p2 p3 p4) fun x hx=>?_
     simp only[mem_cons,not_mem_nil,or_false]at hx
     rcases hx with rfl|rfl|rfl
     ·exact jt hg a ((ii (jc s1' sb)).mono (by decide))
     ·exact jt hg b' ((ii (jc sb s2')).mono (by decide))
     ·exact jt hg c ((ii (jc s2' s1')).mono (by decide))
   ·
    intro i o g1 c ak;obtain⟨ik,g1'⟩:=qH g1;have no:=(hh o (mem_of_getElem? g1')).2;obtain⟨w1,w2,w3⟩:=L5 nb no lo.1.1 lo.2.1 (hold o (mem_of_getElem? g1)) neg c ak;walk_at"db";rw[if_pos (by decide)]
    refine⟨by decide,?_⟩
    show iZ _ ([(i:Int),(k:Int)].map T.int);rw[sT];refine⟨by simp,fun ms pm ps=>?_⟩
    rw[u9 (t:=[(i:Int),(k:Int)]) pm ps (by simp;omega)]
    refine⟨hs,[i,k],rfl,hh,.inl ⟨i,k,o,b,rfl,g1',e,fun g u v hg a b'=>?_⟩⟩;obtain⟨p1,p2,p4⟩:=Ki (p:=o) (q:=b) (A:=jg b) (B:=jg o) hg a b' (pY nb) (pY no) w1 w2 w3;refine hC _ _ (.two i k o b u v ik g1' e p1 p2 p4) fun x hx=>?_;simp only[mem_cons,not_mem_nil,or_false]at hx
    rcases hx with rfl|rfl
    ·exact jt hg a (zT sb)
    ·exact jt hg b' (zT (hh o (mem_of_getElem? g1')).1)
   ·
    intro nz;have hm:∀ s p t q,f=some (s,p)->l=some (t,q)->ji s t:=fun s p t q e1 e2=>Int.not_lt.mp (nc s p t q e1 e2);have sp:=wR F L;have st:=Kh sb th F L;walk_at"db";rw[if_neg (by decide)]
    refine⟨b,f,l,rfl,nb,sb,sp,st,?_⟩;walk_at"db";refine⟨J8 b (fR f l),_,_,_,_,_,rfl,NV nb sp,Qs sb st,fun h hm'=>?_⟩;rw[fJ e]at hm'
    rcases mem_append.mp hm' with z|z
    ·exact xx nb F L hm nz h z
    ·simp at z;subst z;exact BL nb sp
  ·rename_i nn;have nn:0<=aY b s:=by
    have:¬ aY b s<0:=fun z=>nn (As.mpr z);omega
   refine⟨s,_,_,_,_,_,rfl,lo,sz,fun h hm=>?_⟩;rw[fJ e]at hm
   rcases mem_append.mp hm with z|z
   ·exact hold h z
   ·simp at z;subst z;exact nn
 ·rintro δ ⟨s,r2,r3,r4,r5,r6,rfl,lo,sz,hold⟩;rw[List.take_length]at hold;walk_at"db";exact hS s lo sz hold
end Law
namespace Law
open L2 DL
def QV (f:Pt)(s:aD):Hf:=ME (f.1*(ag s).2.2) (f.2*(ag s).2.2) (f.1*(ag s).1+f.2*(ag s).2.1)
def k5:aJ:=fun ss R=>∃ (ps:List Pt) (s:aD),ss=[.t (.lst (ps.map aN)),.t (spT s)]/\ps.length<=1000/\(∀ p∈ps,SzF 120 p)/\fe 600 s/\R (.ol ((fc s ps).map aN))
def eV:aJ:=fun ss R=>∃ (vs:List Pt) (f:Pt),ss=[.t (.lst (vs.map aN)),.t (aN f)]/\vs.length<=1000/\(∀ p∈vs,SzF 1400 p)/\SzF 4300 f/\R (.t (.int (ahead vs f)))
def iL:aJ:=fun ss R=>∃ (w:Pt) (vs:List Pt),ss=[.t (aN w),.t (.lst (vs.map aN))]/\vs.length<=1000/\vs≠[]/\SzF 1400 w/\(∀ p∈vs,SzF 1400 p)/\∀ t:Int,(∀ v∈vs,a9 w v<t/\-t<a9 w v)->SzF 4300 (Ey w t)->R (.t (aN (Ey w t)))
def kU:aJ:=fun ss R=>∃ vs:List Pt,ss=[.t (.lst (vs.map aN))]/\vs.length<=1000/\(∀ p∈vs,SzF 1400 p)/\∀ fs:List Pt,Ci vs fs->(∀ f∈fs,SzF 4300 f)->R (.ol (fs.map aN))
def fP:aJ:=fun ss R=>∃ (f:Pt) (s:aD),ss=[.t (aN f),.t (spT s)]/\f≠(0,0)/\s.1.2≠0/\s.2.2≠0/\SzF 4300 f/\fe 600 s/\R (.t (a5 (QV f s)))
def di:aJ:=fun ss R=>∃ (ps:List Pt) (s:aD),ss=[.t (.lst (ps.map aN)),.t (spT s)]/\ps≠[]/\ps.length<=1000/\(∀ p∈ps,SzF 120 p)/\fe 600 s/\s.1.2≠0/\s.2.2≠0 ∧
 ∀ f:Pt,f≠(0,0)->SzF 4300 f->ahead (fc s ps) f=j6 (fc s ps)->R (.t (.tup [.int (j6 (fc s ps)),a5 (QV f s)]))
def j3:WS:=
 (aC (aG 2 (aw bU (ac (ae 1) ao)))
 (a6 (dZ 1 [2] (bW (ae 0)) (aU 0) nZ (bN (ac (cZ (bv (ap aI (ae 0) (wC (.int 0))) (ap aI (ae 1) (wC (.int 2)))) (ap aI (ae 1) (wC (.int 0)))) (ac (cZ (bv (ap aI (ae 0) (wC (.int 1))) (ap aI (ae 1) (wC (.int 2)))) (ap aI (ae 1) (wC (.int 1)))) ao))))))
def fC:WS:=
 (a6 (dH cE (ac (dZ 1 [1] (bW (ae 0)) (aU 0) (wB (QL (aw cA (ac (ae 0) (ac (ae 1) ao))) (wC (.int 0)))) (ae 0)) ao)))
def gu:WS:=
 (aC (aG 2 (dw (wC (.int 1)) (dH KD (ac (dZ 1 [0] (bW (ae 1)) (aU 0) nZ (dH i6 (ac (aw cA (ac (ae 1) (ac (ae 0) ao))) ao))) ao))))
 (a6 (bN (ac (cZ (bv (vv iy (ap aI (ae 0) (wC (.int 1)))) (ae 2)) (ap aI (ae 0) (wC (.int 0)))) (ac (cZ (bv (ap aI (ae 0) (wC (.int 0))) (ae 2)) (ap aI (ae 0) (wC (.int 1)))) ao)))))
def jT:WS:=
 (aC (aG 1 (dZ 1 [0] (bW (ae 0)) (aU 0) (wB (Oj (ae 0) (bN (ac (wC (.int 0)) (ac (wC (.int 0)) ao))))) (aw iL (ac (ae 0) (ac (ae 1) ao)))))
 (aC (fy 1 (bN (ac (wC (.int 1)) (ac (wC (.int 0)) ao))))
 (jv 1)))
def eW:WS:=
 (aC (aG 2 (aw bU (ac (ae 1) ao)))
 (a6 (aw md (ac (bv (ap aI (ae 0) (wC (.int 0))) (ap aI (ae 2) (wC (.int 2)))) (ac (bv (ap aI (ae 0) (wC (.int 1))) (ap aI (ae 2) (wC (.int 2)))) (ac (aw cA (ac (ae 0) (ac (ae 2) ao))) ao))))))
def oV:WS:=
 (aC (gM (wB (rK (dH cE (ac (ae 0) ao)) (wC (.int 0)))) nr bd)
 (aC (aG 2 (aw k5 (ac (ae 0) (ac (ae 1) ao))))
 (aC (aG 3 (vk (aw kU (ac (ae 2) ao)) 2 (aw eV (ac (ae 1) (ac (ae 0) ao)))))
 (a6 (bN (ac (aw eV (ac (ae 2) (ac (ae 3) ao))) (ac (aw fP (ac (ae 3) (ac (ae 1) ao))) ao)))))))
theorem vd {s:aD}(h:fe 600 s):dk 1200 (ag s):=by
 obtain⟨⟨z1,z2⟩,z3,z4⟩:=h;exact⟨Sz.mul z1 z4,Sz.mul z3 z2,Sz.mul z2 z4⟩
theorem On {s:aD}{p:Pt}(h:fe 600 s)(hp:SzF 120 p):SzF 1400 (ib (ag s) p):=by
 obtain⟨y1,y2,y3⟩:=vd h;exact⟨(Sz.sub (Sz.mul hp.1 y3) y1).mono (by decide),(Sz.sub (Sz.mul hp.2 y3) y2).mono (by decide)⟩
theorem Ks {s:aD}{ps:List Pt}(h:fe 600 s)(hp:∀ p∈ps,SzF 120 p):∀ v∈fc s ps,SzF 1400 v:=fun v hv=>by
 obtain⟨p,hm,rfl⟩:=mem_map.mp hv;exact On h (hp p hm)
theorem yk:Ok k5 j3 ["points","spot","here"]:=by
 rintro ss R ⟨ps,s,rfl,hl,hp,hs,h⟩;show j3 _ [some (.t (.lst (ps.map aN))),some (.t (spT s)),none]
 delta j3
 walk_at"d";refine⟨s,rfl,bG hs (by decide),?_⟩
 obtain⟨y1,y2,y3⟩:=vd hs;generalize hh:ag s=hr at *;obtain⟨X,Y,B⟩:=hr;dsimp only at y1 y2 y3;walk_at"d";refine fL (f:=aN) (h:=fun p=>aN (ib (X,Y,B) p)) (l:=ps) (fun δ=>∃ r,δ=[r,some (.t (.tup [.int X,.int Y,.int B]))]) (fun _ _=>rfl) (by omega) ⟨_,rfl⟩ ?_ ?_
 ·rintro⟨x,y⟩ hm δ ⟨r,rfl⟩ Y' h1;obtain⟨z1,z2⟩:=hp _ hm;dsimp only at z1 z2;walk_at"go";exact h1 _ ⟨_,rfl⟩
 ·have e:(ps.map fun p=>aN (ib (X,Y,B) p))=(fc s ps).map aN:=by unfold fc;rw[map_map,hh];rfl
  rw[e];walk_at"d";exact h
theorem rC:Ok eV fC ["ways","facing"]:=by
 rintro ss R ⟨vs,⟨a,b⟩,rfl,hl,hp,⟨y1,y2⟩,h⟩;dsimp only at y1 y2;show fC _ [some (.t (.lst (vs.map aN))),some (.t (.tup [.int a,.int b]))]
 delta fC
 walk_at"d";refine eY (f:=aN) (h:=aN) (p:=fun v=>decide (0<=a9 v (a,b))) (fun δ=>∃ r,δ=[r,some (.t (.tup [.int a,.int b]))]) (fun p _=>An p) (by omega) ⟨_,rfl⟩ ?_ ?_
 ·rintro⟨x,y⟩ hm δ ⟨r,rfl⟩ Y N h1 h2;obtain⟨z1,z2⟩:=hp _ hm;dsimp only at z1 z2;walk_at"d";refine⟨x,y,a,b,[],[],rfl,z1.mono (by decide),z2.mono (by decide),y1.mono (by decide),y2.mono (by decide),?_⟩
  walk_at"d"
  split
  ·rename_i hc;exact h1 _ ⟨_,rfl⟩ (by rw[decide_eq_true_eq];exact hc)
  ·rename_i hc;exact h2 _ ⟨_,rfl⟩ (by rw[decide_eq_false_iff_not];exact hc)
 ·walk_at"d";rw[length_map,<-countP_eq_length_filter];exact h
theorem uN:Ok iL gu ["way","ways","thin"]:=by
 rintro ss R ⟨⟨a,b⟩,vs,rfl,hl,hne,⟨y1,y2⟩,hp,h⟩;dsimp only at y1 y2;show gu _ [some (.t (.tup [.int a,.int b])),some (.t (.lst (vs.map aN))),none]
 delta gu
 walk_at"d";refine fL (f:=aN) (h:=fun v=>T.int (if a9 (a,b) v<0 then -a9 (a,b) v else a9 (a,b) v)) (l:=vs) (fun δ=>∃ r,δ=[r,some (.t (.tup [.int a,.int b]))]) (fun _ _=>rfl) (by omega) ⟨_,rfl⟩ ?_ ?_
 ·rintro⟨x,y⟩ hm δ ⟨r,rfl⟩ Y h1;obtain⟨z1,z2⟩:=hp _ hm;dsimp only at z1 z2;walk_at"d";refine⟨a,b,x,y,[],[],rfl,y1.mono (by decide),y2.mono (by decide),z1.mono (by decide),z2.mono (by decide),?_⟩
  walk_at"d";exact h1 _ ⟨_,rfl⟩
 ·have e:(vs.map fun v=>T.int (if a9 (a,b) v<0 then -a9 (a,b) v else a9 (a,b) v))=(vs.map fun v=>(if a9 (a,b) v<0 then -a9 (a,b) v else a9 (a,b) v)).map T.int:=by rw[map_map];rfl
  rw[e];walk_at"d";rw[rO];refine⟨by simpa using hne,fun m hm hall=>?_⟩
  have sm:Sz 2801 m:=by
   obtain⟨v,hv,rfl⟩:=mem_map.mp hm;obtain⟨z1,z2⟩:=hp _ hv;have sd:Sz 2801 (a9 (a,b) v):=(Sz.add (Sz.mul y1 z1) (Sz.mul y2 z2)).mono (by decide)
   split
   ·exact Sz.neg sd
   ·exact sd
  have st:Sz 2802 (1+m):=by
   have:Sz 2801 (1:Int):=⟨by decide⟩
   exact(Sz.add this sm).mono (by decide)
  have hb:∀ v∈vs,a9 (a,b) v<1+m/\-(1+m)<a9 (a,b) v:=fun v hv=>by
   have:(if a9 (a,b) v<0 then -a9 (a,b) v else a9 (a,b) v)<=m:=hall _ (mem_map.mpr ⟨v,hv,rfl⟩)
   split at this <;> omega
  have hz:SzF 4300 (Ey (a,b) (1+m)):=⟨(Sz.sub (Sz.mul (Sz.neg y2) st) y1).mono (by decide),(Sz.sub (Sz.mul y1 st) y2).mono (by decide)⟩
  have fin:=h (1+m) hb hz;walk_at"go";exact fin
theorem yb:Ok kU jT ["ways","found"]:=by
 rintro ss R ⟨vs,rfl,hl,hp,h⟩;show jT _ [some (.t (.lst (vs.map aN))),none]
 delta jT
 walk_at"d";refine⟨fun ts δ acc=>∃ pre post fs r,vs=pre++post/\ts=post.map aN/\δ=[r,some (.t (.lst (vs.map aN)))]/\acc=fs.map aN/\fs.length<=pre.length/\(∀ f∈fs,f≠(0,0)/\SzF 4300 f)/\∀ w∈pre,w≠(0,0)->∃ f∈fs,ahead vs f=vs.countP (wI w),⟨[],vs,[],_,rfl,rfl,rfl,rfl,le_refl _,fun f hf=>(by cases hf),fun w hw=>(by cases hw)⟩,?_,?_⟩
 ·rintro δ acc ⟨pre,post,fs,r,e1,e2,rfl,rfl,hlen,hfs,hall⟩;have:post=[]:=by simpa using e2.symm
  subst this;rw[append_nil]at e1;subst e1;have dummy:Sz 1 0:=⟨by decide⟩
  walk_at"d";have e:fs.map aN++[T.tup [.int 1,.int 0]]=(fs++[(1,0)]).map aN:=by rw[map_append];rfl
  refine⟨by rw[length_map];omega,?_⟩
  rw[e];refine h (fs++[(1,0)]) ⟨fun f hf=>?_,by simp,fun w hw hn=>?_⟩ fun f hf=>?_
  ·rcases mem_append.mp hf with z|z
   ·exact(hfs f z).1
   ·simp at z;subst z;decide
  ·obtain⟨f,hf,e⟩:=hall w hw hn;exact⟨f,mem_append_left _ hf,e⟩
  ·rcases mem_append.mp hf with z|z
   ·exact(hfs f z).2
   ·simp at z;subst z;exact⟨⟨by decide⟩,⟨by decide⟩⟩
 ·rintro x r δ acc ⟨pre,post,fs,r0,e1,e2,rfl,rfl,hlen,hfs,hall⟩
  cases post with
  | nil=>cases e2
  | cons w post=>
   rw[map_cons]at e2
   cases e2
   have hw:w∈vs:=by rw[e1];simp
   have hlv:vs.length=pre.length+(post.length+1):=by rw[e1];simp
   obtain⟨a,b⟩:=w;walk_at"d"
   split
   ·rename_i hc;have hn:((a,b):Pt)≠(0,0):=fun z=>by
     cases z
     simp at hc
    refine⟨(a,b),vs,rfl,hl,List.ne_nil_of_mem hw,hp _ hw,hp,fun t ht hz=>?_⟩;show si _ (.t (aN (Ey (a,b) t)));rw[zL];refine⟨rfl,by rw[length_map];omega,pre++[(a,b)],post,fs++[Ey (a,b) t],_,by rw[e1];simp,rfl,rfl,by rw[map_append];rfl,by simp;omega,fun f hf=>?_,fun u hu hun=>?_⟩
    ·rcases mem_append.mp hf with z|z
     ·exact hfs f z
     ·have z:=mem_singleton.mp z;subst z;exact⟨PX hn,hz⟩
    ·rcases mem_append.mp hu with z|z
     ·obtain⟨f,hf,e⟩:=hall u z hun;exact⟨f,mem_append_left _ hf,e⟩
     ·have z:=mem_singleton.mp z;subst z;exact⟨Ey (a,b) t,by simp,CA ht⟩
   ·rename_i hc;have hz:a=0/\b=0:=by simpa using hc
    refine⟨pre++[(a,b)],post,fs,_,by rw[e1];simp,rfl,rfl,rfl,by simp;omega,hfs,fun u hu hun=>?_⟩
    rcases mem_append.mp hu with z|z
    ·exact hall u z hun
    ·have z:=mem_singleton.mp z;subst z;exact absurd (Prod.ext hz.1 hz.2) hun
theorem qe:Ok fP eW ["facing","spot","here"]:=by
 rintro ss R ⟨⟨a,b⟩,s,rfl,hf,h1,h2,⟨z1,z2⟩,hs,h⟩;dsimp only at z1 z2;show eW _ [some (.t (.tup [.int a,.int b])),some (.t (spT s)),none]
 delta eW
 walk_at"d";refine⟨s,rfl,bG hs (by decide),?_⟩
 obtain⟨y1,y2,y3⟩:=vd hs;have hB:(ag s).2.2≠0:=fun z=>by
  rcases mul_eq_zero.mp (show s.1.2*s.2.2=0 from z) with e|e
  ·exact h1 e
  ·exact h2 e
 unfold QV at h;generalize ag s=hr at *;obtain⟨X,Y,B⟩:=hr;dsimp only at y1 y2 y3 hB h;walk_at"go";refine⟨a,b,X,Y,[],[.int B],rfl,z1.mono (by decide),z2.mono (by decide),y1.mono (by decide),y2.mono (by decide),?_⟩
 walk_at"d";refine⟨_,_,_,rfl,?_,⟨(Sz.mul z1 y3).mono (by decide),(Sz.mul z2 y3).mono (by decide),(Sz.add (Sz.mul z1 y1) (Sz.mul z2 y2)).mono (by decide)⟩,h⟩
 by_cases e:a=0
 ·right
  intro q
  rcases mul_eq_zero.mp q with q|q
  ·exact hf (Prod.ext e q)
  ·exact hB q
 ·left
  intro q
  rcases mul_eq_zero.mp q with q|q
  ·exact e q
  ·exact hB q
theorem AB:∀ fs:List Pt,tups (fs.map aN)=true
 | []=>rfl
 | p::r=>by rw[map_cons];show tups (T.tup _::_)=true;unfold tups;rw[AB r];rfl
def RZ:T->Pt
 | .tup [.int a,.int b]=>(a,b)
 | _=>(0,0)
theorem F7:Ok di oV ["points","spot","ways","emptiest"]:=by
 rintro ss R ⟨ps,s,rfl,hne,hl,hp,hs,h1,h2,h⟩;show oV _ [some (.t (.lst (ps.map aN))),some (.t (spT s)),none,none]
 delta oV
 have hlen:((ps.map aN).length:Int)≠0:=by
  rw[length_map];have:=length_pos_iff.mpr hne;omega
 walk_at"d";rw[if_neg (by simpa using hlen)]
 refine⟨ps,s,rfl,hl,hp,hs,?_⟩;have hw:=Ks hs hp;have hwl:(fc s ps).length<=1000:=by unfold fc;rw[length_map];exact hl
 walk_at"d";refine⟨fc s ps,rfl,hwl,hw,fun fs hF hfs=>?_⟩;walk_at"d";refine⟨fs.map aN,fun t=>(ahead (fc s ps) (RZ t):Int),.ol ((fc s ps).map aN),rfl,fun z=>hF.2.1 (List.map_eq_nil_iff.mp z),AB fs,rfl,fun t ht=>?_,fun t ht hmin=>?_⟩
 ·obtain⟨f,hf,rfl⟩:=mem_map.mp ht;walk_at"d";refine⟨fc s ps,f,rfl,hwl,hw,hfs f hf,?_⟩
  rfl
 ·obtain⟨f,hf,rfl⟩:=mem_map.mp ht;have hd:=xM hF hf fun g hg=>by
   have:(ahead (fc s ps) f:Int)<=(ahead (fc s ps) g:Int):=hmin _ (mem_map.mpr ⟨g,hg,rfl⟩);omega
  have e:=C9 hd;walk_at"d";refine⟨fc s ps,f,rfl,hwl,hw,hfs f hf,?_⟩;walk_at"d";refine⟨f,s,rfl,hF.1 f hf,h1,h2,hfs f hf,hs,?_⟩;have fin:=h f (hF.1 f hf) (hfs f hf) e.symm;rw[e]at fin;walk_at"d";exact fin
end Law
namespace Law
open L2 DL
set_option maxHeartbeats 4000000
inductive ny (G:Hf->Prop):List Hf->List Int->Prop
 | two (p q:Hf) (u v:Int):G p->G q->0<u->0<v->Le p q u v->ny G [p,q] [u,v]
 | three (p q r:Hf) (u v w:Int):G p->G q->G r->0<u->0<v->0<w->Lg p q r u v w->ny G [p,q,r] [u,v,w]
def Ld (ps:List Pt)(k:Nat)(h:Hf):Prop:=fW ps h/\ps.length+1<=gd h ps+k
theorem vI {G:Hf->Prop}{hs:List Hf}{ws:List Int}(C:ny G hs ws){c:Hf}(zc:0<c.2.2)(h:∀ l,G l->0<=aV l c):False:=by
 cases C with
 | two p q u v gp gq u0 v0 s=>
  obtain⟨s1,s2,s3⟩:=s;have a:=mul_nonneg (le_of_lt u0) (h p gp);have b:=mul_nonneg (le_of_lt v0) (h q gq);have e:u*aV p c+v*aV q c=(u*p.1+v*q.1)*c.1+(u*p.2.1+v*q.2.1)*c.2.1-(u*p.2.2+v*q.2.2)*c.2.2:=by unfold aV;grind
  rw[s1,s2]at e;have:=mul_pos s3 zc;omega
 | three p q r u v w gp gq gr u0 v0 w0 s=>
  obtain⟨s1,s2,s3⟩:=s;have a:=mul_nonneg (le_of_lt u0) (h p gp);have b:=mul_nonneg (le_of_lt v0) (h q gq);have d:=mul_nonneg (le_of_lt w0) (h r gr);have e:u*aV p c+v*aV q c+w*aV r c=(u*p.1+v*q.1+w*r.1)*c.1+(u*p.2.1+v*q.2.1+w*r.2.1)*c.2.1-(u*p.2.2+v*q.2.2+w*r.2.2)*c.2.2:=by unfold aV;grind
  rw[s1,s2]at e;have:=mul_pos s3 zc;omega
theorem Ie {hs:List Hf}{G:Hf->Prop}(hG:∀ h∈hs,G h){pl:List Nat}{ws:List Int}(C:AH hs pl ws):∃ gs:List Hf,ny G gs ws/\pl.map (fun i=>hs[i]?)=gs.map some:=by
 cases C with
 | two i j p q u v hij ei ej u0 v0 s=>exact⟨[p,q],.two p q u v (hG p (mem_of_getElem? ei)) (hG q (mem_of_getElem? ej)) u0 v0 s,by simp[ei,ej]⟩
 | three i j k p q r u v w hij hjk ei ej ek u0 v0 w0 s=>exact⟨[p,q,r],.three p q r u v w (hG p (mem_of_getElem? ei)) (hG q (mem_of_getElem? ej)) (hG r (mem_of_getElem? ek)) u0 v0 w0 s,by simp[ei,ej,ek]⟩
structure Cg (ps:List Pt) (k:Nat) (s:aD):Prop where
 k1:1<=k
 kn:k<=ps.length
 ok:bC s
 sz:fe 5000 s
 dep:j6 (ps.map (ib (ag s)))=k
 top:∀ c:Hf,0<c.2.2->j6 (ps.map (ib c))<=k
def fO:aJ:=fun ss R=>∃ ps:List Pt,ss=[.t (.lst (ps.map aN))]/\ps≠[]/\ps.length<=6/\(∀ p∈ps,SzF 100 p)/\∀ k s x y,Cg ps k s->R (.t (.tup [.int (k:Int),spT s,.lst x,.lst y]))
def jR:WS:=
 (aC (w4 (aw bb (ac (ae 0) ao)))
 (aC (aG 1 (dH cE (ac (ae 0) ao)))
 (aC (aG 2 (ia ao))
 (aC (aG 3 (ia ao))
 (aC (aG 4 (aw eE (ac (ae 0) (ac (wC (.int 1)) ao))))
 (aC (aG 5 (aw fH (ac (ae 4) ao)))
 (bP (qJ (wB (rK (ap aI (ae 5) (wC (.int 0))) (wC (.str "none")))) (aC (aG 2 (dZ 1 [4] (bW (ap aI (ae 5) (wC (.int 1)))) (aU 0) nZ (ap aI (ae 1) (ae 0))))
 (aC (aG 3 (ap aI (ae 5) (wC (.int 2))))
 (aC (aG 1 (cZ (ae 1) (wC (.int 1))))
 (aC (aG 4 (aw eE (ac (ae 0) (ac (dw (cZ (dH cE (ac (ae 0) ao)) (ae 1)) (wC (.int 1))) ao))))
 (aG 5 (aw fH (ac (ae 4) ao))))))))
 (Hb (bN (ac (ae 1) (ac (ap aI (ae 5) (wC (.int 1))) (ac (ae 2) (ac (ae 3) ao)))))))))))))
theorem Bz {ps:List Pt}(hz:∀ p∈ps,SzF 110 p){k:Nat}{hs:List Hf}{ws:List Int}(hk1:1<=k)(hk:k<=ps.length)(C:ny (Ld ps k) hs ws):∀ c:Hf,0<c.2.2->j6 (ps.map (ib c))<k:=fun c zc=>by
 rcases lt_or_ge (j6 (ps.map (ib c))) k with z|z
 ·exact z
 ·exact(vI C zc fun l hl=>(tX hz zc hk hk1).mp z l hl.1 hl.2).elim
def Ls (v:S)(ts:List T):Prop:=v=.ol ts\/v=.t (.lst ts)
theorem zB (a b:PySem.Str)(R:S->Prop):dW (.t (.str a)) (.t (.str b)) R=R (.t (.bl (a == b))):=by
 show(dep (.str a)<=20/\dep (.str b)<=20/\R (.t (.bl (a == b))))=_;exact propext ⟨fun h=>h.2.2,fun h=>⟨zero_le _,zero_le _,h⟩⟩
theorem MY {s:aD}(h:Ot s):bC s:=⟨⟨h.1.1,h.1.2⟩,⟨h.2.1,h.2.2⟩⟩
theorem x9:Ok fO jR ["points","k","halves","weights","asked","told"]:=by
 rintro ss R ⟨ps,rfl,hne,hl,hz,h⟩;obtain⟨p0,pr,rfl⟩:∃ p0 pr,ps=p0::pr:=by
  cases ps with
  | nil=>exact absurd rfl hne
  | cons a b=>exact⟨a,b,rfl⟩
 show jR _ [some (.t (.lst ((p0::pr).map aN))),none,none,none,none,none]
 delta jR
 have hp0:p0∈p0::pr:=mem_cons_self;generalize hps:p0::pr=ps at *;have hlen:1<=ps.length:=by rw[<-hps];simp
 have hnp:∀ R:S->Prop,R (.t .non)->bb [.t (.lst (ps.map aN))] R:=fun R hR=>⟨aN p0,pr.map aN,by rw[<-hps];rfl,hR⟩
 have hz':∀ p∈ps,SzF 110 p:=fun p hp=>(hz p hp).mono3 (by decide)
 have dummy:Sz 1 0:=⟨by decide⟩
 walk_at"d";refine hnp _ ?_;walk_at"d";refine⟨ps,1,rfl,hne,hl,hz,fun hs0 hB0=>?_⟩;have gh:∀ l:List Hf,got (.ol (l.map a5))=.ol (l.map a5):=fun l=>dO _ (bB (fun _=>rfl) l);dsimp only;rw[gh];have mem:∀ (k:Nat) (hs:List Hf),j9 ps hs->∀ l∈mH ((ps.length:Int)-k+1) ps hs,Ld ps k l:=fun k hs hB l hl=>by
  unfold mH at hl;rw[mem_filter,hB.1,decide_eq_true_eq]at hl;exact⟨hl.1,by omega⟩
 have all:∀ (k:Nat) (hs:List Hf),j9 ps hs->∀ l,Ld ps k l->l∈mH ((ps.length:Int)-k+1) ps hs:=fun k hs hB l hl=>by
  unfold mH;rw[mem_filter,hB.1,decide_eq_true_eq];exact⟨hl.1,by have:=hl.2;omega⟩
 have oks:∀ (k:Nat) (hs:List Hf),j9 ps hs->(∀ l∈mH ((ps.length:Int)-k+1) ps hs,dk 400 l/\Nz l)/\(mH ((ps.length:Int)-k+1) ps hs).length<=1000:=fun k hs hB=>by
  refine⟨fun l hl=>?_,le_trans (le_trans (length_filter_le ..) hB.2) (by decide)⟩
  have:=li hz' (mem k hs hB l hl).1;exact⟨mj this.1 (by decide),this.2⟩
 let Td:Nat->List Hf->T->Prop:=fun k st t=>(∃ s:aD,t=.tup [.str "spot",spT s]/\Ot s/\fe 5000 s/\∀ h∈st,0<=aY h s)\/∃ pl ws,t=nL pl ws/\AH st pl ws/\∀ w∈ws,Sz 5000 w
 let HW:Nat->S->S->Prop:=fun k v2 v3=>∃ (gs:List Hf) (ws:List Int),Ls v2 (gs.map a5)/\Ls v3 (ws.map .int)/\(∀ w∈ws,Sz 5000 w)/\((k=ps.length/\gs=[]/\ws=[]/\v2=.ol []/\v3=.ol [])\/(k<ps.length/\ny (Ld ps (k+1)) gs ws))
 let SP:Nat->aR->Prop:=fun k δ=>∃ (s:aD) (v2 v3 v4:S),δ=[some (.t (.lst (ps.map aN))),some (.t (.int (k:Int))),some v2,some v3,some v4,some (.t (.tup [.str "spot",spT s]))]/\Ot s/\fe 5000 s/\(∀ l,Ld ps k l->0<=aY l s)/\HW k v2 v3/\1<=k/\k<=ps.length
 let NO:Nat->aR->Prop:=fun k δ=>∃ (hs:List Hf) (pl:List Nat) (ws:List Int) (v2 v3:S),δ=[some (.t (.lst (ps.map aN))),some (.t (.int (k:Int))),some v2,some v3,some (.t (.lst ((mH ((ps.length:Int)-k+1) ps hs).map a5))),some (.t (nL pl ws))]/\j9 ps hs/\AH (mH ((ps.length:Int)-k+1) ps hs) pl ws/\(∀ w∈ws,Sz 5000 w)/\1<=k/\k<=ps.length
 let I:Nat->aR->Prop:=fun k δ=>SP k δ\/NO k δ
 have inI:∀ (k:Nat) (hs:List Hf) (t:T) (v2 v3 v4:S) (o:Option S),j9 ps hs->Td k (mH ((ps.length:Int)-k+1) ps hs) t->HW k v2 v3->1<=k->k<=ps.length->(v4=.ol ((mH ((ps.length:Int)-k+1) ps hs).map a5)\/v4=.t (.lst ((mH ((ps.length:Int)-k+1) ps hs).map a5)))->I k (setS 5 (norm t) [some (.t (.lst (ps.map aN))),some (.t (.int (k:Int))),some v2,some v3,some v4,o]):=by
  rintro k hs t v2 v3 v4 o hB ht ⟨gs,ws',l2,l3,zw',hc⟩ hk1 hkn h4
  rcases ht with ⟨s,rfl,lo,sz,hh⟩|⟨pl,ws,rfl,C,zw⟩
  ·rw[oA (x:=.tup [.str "spot",spT s]) rfl];exact .inl ⟨s,v2,v3,v4,rfl,lo,sz,fun l hl=>hh l (all k hs hB l hl),⟨gs,ws',l2,l3,zw',hc⟩,hk1,hkn⟩
  ·have en:norm (nL pl ws)=.vt (nL pl ws):=rfl;rw[en];refine .inr ⟨hs,pl,ws,eM v2,eM v3,?_,hB,C,zw,hk1,hkn⟩
   rcases h4 with rfl|rfl <;> rfl
 have one:∀ hs ws,¬ ny (Ld ps 1) hs ws:=fun hs ws C=>vI C (c:=fl p0) (show(0:Int)<1 by decide) fun l hl=>by
  have hm:=hl.2;have hle:gd l ps<=ps.length:=List.countP_le_length;have he:gd l ps=ps.length:=by omega
  exact(ub l p0).mp (List.countP_eq_length.mp he p0 hp0)
 have shd:∀ (k:Nat) (hs:List Hf),j9 ps hs->∀ R':S->Prop,(∀ t,Td k (mH ((ps.length:Int)-k+1) ps hs) t->R' (.t t))->fH [.t (.lst ((mH ((ps.length:Int)-k+1) ps hs).map a5))] R':=fun k hs hB R' hR=>by
  obtain⟨o1,o2⟩:=oks k hs hB;exact⟨_,rfl,o1,o2,fun s lo sz hh=>hR _ (.inl ⟨s,rfl,lo,sz,hh⟩),fun pl ws C zw=>hR _ (.inr ⟨pl,ws,rfl,C,zw⟩)⟩
 have e1:(1:Int)=(ps.length:Int)-(ps.length:Nat)+1:=by omega
 have e0:mH 1 ps hs0=mH ((ps.length:Int)-(ps.length:Nat)+1) ps hs0:=congrArg (fun i=>mH i ps hs0) e1;rw[e0];walk_at"d";refine shd ps.length hs0 hB0 _ fun t ht=>?_;rw[show got (.t t)=norm t from rfl];walk_at"d";rw[length_map]
 let M:aR->Prop:=fun δ=>∃ k,SP k δ
 refine⟨M,⟨I,⟨ps.length,inI ps.length hs0 t _ _ _ _ hB0 ht ⟨[],[],.inl rfl,.inl rfl,fun w hw=>(by cases hw),.inl ⟨rfl,rfl,rfl,rfl,rfl⟩⟩ hlen (le_refl _) (by first|exact .inl rfl|exact .inr rfl)⟩,?_⟩,?_⟩
 ·rintro k δ (⟨s,v2,v3,v4,rfl,lo,sz,hh,hw,hk1,hkn⟩|⟨hs,pl,ws,v2,v3,rfl,hB,C,zw,hk1,hkn⟩)
  ·walk_at"d";rw[zB];walk_at"d";exact⟨k,s,v2,v3,v4,rfl,lo,sz,hh,hw,hk1,hkn⟩
  ·obtain⟨gs,cg,_⟩:=Ie (mem k hs hB) C;have k2:2<=k:=by
    rcases lt_or_ge 1 k with z|z
    ·exact z
    ·have:k=1:=by omega
     subst this;exact(one _ _ cg).elim
   have ek:((List.map aN ps).length:Int)-((k:Int)-1)+1=(ps.length:Int)-((k-1:Nat):Int)+1:=by rw[length_map];omega
   have ek2:(k:Int)-1=((k-1:Nat):Int):=by omega
   have go:∀ gs':List Hf,ny (Ld ps k) gs' ws->eE [S.t (T.lst (List.map aN ps)),S.t (T.int (((List.map aN ps).length:Int)-((k:Int)-1)+1))] fun s=>
    look 4 (setS 4 (got s) [some (S.t (T.lst (List.map aN ps))),some (S.t (T.int ((k:Int)-1))),some (S.ol (gs'.map a5)),some (S.t (T.lst (List.map T.int ws))),some (S.t (T.lst (List.map a5 (mH ((ps.length:Int)-k+1) ps hs)))),some (S.t (T.tup [T.str (PySem.Str.ofString "none"),T.lst (List.map v7 pl),T.lst (List.map T.int ws)]))]) fun s_1=>
     fH [nB (seen s_1)] fun s_2=>∃ m,m<k/\I m (setS 5 (got s_2) (setS 4 (got s) [some (S.t (T.lst (List.map aN ps))),some (S.t (T.int ((k:Int)-1))),some (S.ol (gs'.map a5)),some (S.t (T.lst (List.map T.int ws))),some (S.t (T.lst (List.map a5 (mH ((ps.length:Int)-k+1) ps hs)))),some (S.t (T.tup [T.str (PySem.Str.ofString "none"),T.lst (List.map v7 pl),T.lst (List.map T.int ws)]))])):=fun gs' cg'=>by
    rw[ek,ek2];refine⟨ps,_,rfl,hne,hl,hz,fun hs1 hB1=>?_⟩;dsimp only;rw[gh];walk_at"d";refine shd (k-1) hs1 hB1 _ fun t ht=>?_;rw[show got (.t t)=norm t from rfl];exact⟨k-1,by omega,inI (k-1) hs1 t _ _ _ _ hB1 ht ⟨gs',ws,.inl rfl,.inr rfl,zw,.inr ⟨by omega,by rw[show k-1+1=k by omega];exact cg'⟩⟩ (by omega) (by omega) (.inl rfl)⟩
   unfold nL;walk_at"d";rw[zB];walk_at"d";rw[if_pos (by decide)]
   cases C with
   | two i j p q u v hij e1 e2 u0 v0 sm=>
    show pA _ _ _ [.int (i:Int),.int (j:Int)] _ _;refine lw ?_;walk_at"d";rw[cj e1];walk_at"d";refine⟨by simp,?_⟩
    rw[cj e2];walk_at"d";refine⟨by simp,?_⟩
    exact go [p,q] (.two p q u v (mem k hs hB p (mem_of_getElem? e1)) (mem k hs hB q (mem_of_getElem? e2)) u0 v0 sm)
   | three i j l p q r u v w hij hjk e1 e2 e3 u0 v0 w0 sm=>
    show pA _ _ _ [.int (i:Int),.int (j:Int),.int (l:Int)] _ _;refine lw ?_;walk_at"d";rw[cj e1];walk_at"d";refine⟨by simp,?_⟩
    rw[cj e2];walk_at"d";refine⟨by simp,?_⟩
    rw[cj e3];walk_at"d";refine⟨by simp,?_⟩
    exact go [p,q,r] (.three p q r u v w (mem k hs hB p (mem_of_getElem? e1)) (mem k hs hB q (mem_of_getElem? e2)) (mem k hs hB r (mem_of_getElem? e3)) u0 v0 w0 sm)
 ·rintro δ ⟨k,s,v2,v3,v4,rfl,lo,sz,hh,⟨gs,ws,l2,l3,zw,hc⟩,hk1,hkn⟩;have zc:0<(ag s).2.2:=mul_pos lo.1.1 lo.2.1;have ge:k<=j6 (ps.map (ib (ag s))):=(tX hz' zc hkn hk1).mpr fun l b m=>by
   have:=hh l ⟨b,m⟩;rw[mQ]at this;exact this
  have top:∀ c:Hf,0<c.2.2->j6 (ps.map (ib c))<=k:=fun c zc=>by
   rcases hc with ⟨rfl,_⟩|⟨lt,C⟩
   ·exact zi ps c
   ·exact le_of_lt_succ (Bz hz' (by omega) (by omega) C c zc)
  have fin:=fun x y=>h k s x y ⟨hk1,hkn,MY lo,sz,Nat.le_antisymm (top _ zc) ge,top⟩
  rcases l2 with rfl|rfl <;> rcases l3 with rfl|rfl
  all_goals(
   walk_at"d";exact fin (gs.map a5) (ws.map .int))
end Law
namespace Law
open L2 DL
set_option maxHeartbeats 4000000
theorem Da {vs ws:List Pt}(h:vs.Perm ws):j6 vs=j6 ws:=by
 have e:∀ f,ahead vs f=ahead ws f:=fun f=>h.countP_eq _;obtain⟨⟨f,hf,ef⟩,hg⟩:=fM ws;exact C9 ⟨⟨f,hf,by rw[e,ef]⟩,fun g z=>by rw[e];exact hg g z⟩
theorem kC (vs:List Pt)(u f:Pt):ahead (u::vs) f=ahead vs f+(if 0<=a9 u f then 1 else 0):=by
 unfold ahead;rw[countP_cons];simp
theorem I0 (vs:List Pt)(u:Pt):j6 vs<=j6 (u::vs):=by
 obtain⟨⟨f,hf,e⟩,_⟩:=fM (u::vs);have:=(fM vs).2 f hf;rw[kC]at e;omega
theorem Aa (vs:List Pt)(u:Pt):j6 (u::vs)<=j6 vs+1:=by
 obtain⟨⟨f,hf,e⟩,_⟩:=fM vs;have:=(fM (u::vs)).2 f hf;rw[kC]at this
 split at this <;> omega
theorem EV (vs:List Pt):j6 ((0,0)::vs)=j6 vs+1:=by
 have:=Aa vs (0,0);obtain⟨⟨f,hf,e⟩,_⟩:=fM ((0,0)::vs);have h2:=(fM vs).2 f hf;rw[kC,if_pos (by simp[a9])]at e
 omega
theorem oh {ps qs:List Pt}(h:qs.Perm ps)(c:Hf):j6 (qs.map (ib c))=j6 (ps.map (ib c)):=Da (h.map _)
theorem oe {os ps:List Pt}{m:Pt}(h:os.Perm (m::ps))(c:Hf):j6 (ps.map (ib c))<=j6 (os.map (ib c))/\j6 (os.map (ib c))<=j6 (ps.map (ib c))+1:=by
 rw[oh h c];exact⟨I0 ..,Aa ..⟩
theorem Pw {os ps:List Pt}{m:Pt}(h:os.Perm (m::ps)):j6 (os.map (ib (ag (fi m))))=j6 (ps.map (ib (ag (fi m))))+1:=by
 rw[oh h,map_cons,show ib (ag (fi m)) m=(0,0) by unfold ib ag fi;simp]
 exact EV _
theorem Pr {α:Type}{f:α->T}(l:List α)(k:Nat):fX (l.map f) (some (k:Int)) none=(l.drop k).map f:=by
 unfold fX;rw[HT.sIx_nat,HT.sIx_none,length_map,<-map_drop,take_of_length_le (by rw[length_map,length_drop];omega)]
 rcases Nat.le_total k l.length with h|h
 ·rw[min_eq_left h]
 ·rw[Nat.min_eq_right h,List.drop_eq_nil_of_le (le_refl _),List.drop_eq_nil_of_le h]
def ng:aJ:=fun ss R=>∃ (ps:List Pt) (hd:List Int),ss=[.t (.lst (ps.map aN)),.t (.lst (hd.map .int))]/\ps≠[]/\ps.length<=100/\hd.length=14/\(∀ v∈hd,0<=v/\v<big)/\(∀ p∈ps,la p.1/\la p.2)/\∀ (m:Pt) (os:List Pt),os.Perm (m::ps)->(∀ p∈os,la p.1/\la p.2)->R (.t (.tup [.lst (os.map aN),aN m]))
def mr:WS:=
 (aC (aG 2 (dG (ap aI (ae 1) (wC (.int 10))) (dw (dH cE (ac (ae 0) ao)) (wC (.int 1)))))
 (aC (aG 3 (bN (ac (cZ (dG (ap aI (ae 1) (wC (.int 11))) (wC (.int 9))) (wC (.int 4))) (ac (cZ (dG (dE (ap aI (ae 1) (wC (.int 11))) (wC (.int 9))) (wC (.int 9))) (wC (.int 4))) ao))))
 (bP (gM (wB (rK (dG (dE (ap aI (ae 1) (wC (.int 10))) (wC (.int 7))) (wC (.int 2))) (wC (.int 1)))) (aG 3 (ap aI (ae 0) (dG (ap aI (ae 1) (wC (.int 11))) (dH cE (ac (ae 0) ao))))) bd)
 (a6 (bN (ac (ap nV (ap nV (dz (ae 0) dy (fU (ae 2))) (ia (ac (ae 3) ao))) (dz (ae 0) (fU (ae 2)) dy)) (ac (ae 3) ao)))))))
theorem QF {R:S->Prop}(y:T)(ts:List T):tupK R [.ol ts,.t y]=R (.t (.tup [.lst ts,y])):=rfl
theorem BE:Ok ng mr ["_law_points_here","_law_head","_law_at","_law_more_here"]:=by
 rintro ss R ⟨ps,hd,rfl,hne,hl,hdl,hdb,hE,h⟩;have dummy:Sz 1 0:=⟨by decide⟩
 show mr _ [some (.t (.lst (ps.map aN))),some (.t (.lst (hd.map .int))),none,none]
 delta mr
 have hlen:0<ps.length:=length_pos_iff.mpr hne;have fin:∀ (m:Pt) (at':Int),la m.1->la m.2->0<=at'->a6 (bN (ac (ap nV (ap nV (dz (ae 0) dy (fU (ae 2))) (ia (ac (ae 3) ao))) (dz (ae 0) (fU (ae 2)) dy)) (ac (ae 3) ao))) {nx:=fun _=>R (.t .non),rt:=R} [some (.t (.lst (ps.map aN))),some (.t (.lst (hd.map .int))),some (.t (.int at')),some (.t (aN m))]:=fun m at' m1 m2 h0=>by
  obtain⟨k,rfl⟩:∃ k:Nat,at'=k:=⟨at'.toNat,by omega⟩
  walk_at"d";rw[pB,Pr];have pm:(ps.take k++[m]++ps.drop k).Perm (m::ps):=by
   have:=List.perm_middle (a:=m) (l₁:=ps.take k) (l₂:=ps.drop k);rw[take_append_drop]at this;rw[List.append_assoc];exact this
  have ln:(ps.take k).length<=ps.length:=by rw[length_take];omega
  refine⟨by rw[length_map];omega,by simp only[List.length_append,length_map,length_drop,length_singleton];omega,?_⟩
  rw[QF];have fn:=h m _ pm fun p hp=>by
   rcases mem_cons.mp (pm.mem_iff.mp hp) with rfl|z
   ·exact⟨m1,m2⟩
   ·exact hE p z
  rw[map_append,map_append]at fn;exact fn
 walk_at"d";refine kl (i:=10) (by omega) hdb fun v10 _ _=>?_
 walk_at"go";refine kl (i:=11) (by omega) hdb fun v11 _ _=>?_
 walk_at"go";refine kl (i:=11) (by omega) hdb fun w11 _ _=>?_
 walk_at"go";have b1:=fmod_lo v11 (n:=9) (by decide)
 have b2:=fmod_hi v11 (n:=9) (by decide)
 have b3:=fmod_lo (w11.fdiv 9) (n:=9) (by decide)
 have b4:=fmod_hi (w11.fdiv 9) (n:=9) (by decide)
 have a0:0<=v10.fmod ((ps.length:Int)+1):=fmod_lo _ (by omega)
 rw[length_map];generalize v10.fmod ((ps.length:Int)+1)=at' at *;refine⟨fun δ=>∃ m:Pt,la m.1/\la m.2/\δ=[some (.t (.lst (ps.map aN))),some (.t (.lst (hd.map .int))),some (.t (.int at')),some (.t (aN m))],?_,?_⟩
 ·walk_at"d";refine kl (i:=10) (by omega) hdb fun w10 _ _=>?_
  walk_at"go"
  split
  ·refine kl (i:=11) (by omega) hdb fun u11 _ _=>?_
   walk_at"go";rw[length_map];have c1:=fmod_lo u11 (n:=(ps.length:Int)) (by omega)
   have c2:=fmod_hi u11 (n:=(ps.length:Int)) (by omega)
   obtain⟨j,ej⟩:∃ j:Nat,u11.fmod (ps.length:Int)=j:=⟨(u11.fmod (ps.length:Int)).toNat,by omega⟩
   have hj:j<ps.length:=by omega
   rw[ej,CD (getElem?_eq_getElem hj)];have:=hE _ (getElem_mem hj);exact⟨by omega,ps[j],this.1,this.2,rfl⟩
  ·exact⟨(v11.fmod 9-4,(w11.fdiv 9).fmod 9-4),by unfold la;omega,by unfold la;omega,rfl⟩
 ·rintro δ ⟨m,m1,m2,rfl⟩;exact fin m at' m1 m2 a0
end Law
namespace Law
open L2 DL
set_option maxHeartbeats 4000000
def MP:WS:=
 (a6 (AD (rK (aw hZ (ac (ae 5) (ac (ae 9) ao))) (ae 10)) (Sa (cZ (ap aI (aw fO (ac (ae 3) ao)) (wC (.int 0))) (ap aI (aw fO (ac (ae 2) ao)) (wC (.int 0)))) (ia (ac (wC (.int 0)) (ac (wC (.int 1)) ao))))))
def MO:WS:=
 (bP (ju (bW (aw hZ (ac (ae 2) (ac (ae 9) ao)))) (aU 11) (gM (wB (Cc (aw kX (ac (ae 10) (ac (ae 11) ao))) (wC (.int 0)))) (a6 (wC (.bl false))) bd)) MP)
def IN:WS:=
 (aC (aG 9 (dw (wC (.int 1)) (dG (ap aI (ae 1) (wC (.int 13))) (dH cE (ac (ae 2) ao)))))
 (aC (aG 10 (aw hZ (ac (ae 3) (ac (ae 9) ao)))) MO))
def IM:WS:=
 (aC (aG 7 (bN (ac (bN (ac (ap aI (ae 4) (wC (.int 0))) (ac (wC (.int 1)) ao))) (ac (bN (ac (ap aI (ae 4) (wC (.int 1))) (ac (wC (.int 1)) ao))) ao))))
 (aC (gM (wB (Oj (ap aI (aw di (ac (ae 3) (ac (ae 7) ao))) (wC (.int 0))) (dw (ap aI (aw di (ac (ae 2) (ac (ae 7) ao))) (wC (.int 0))) (wC (.int 1))))) (a6 (wC (.bl false))) bd) IN))
def AF:WS:=
 (aC (aG 1 (aw iN (ac (ae 0) (ac (wC (.int 14)) ao))))
 (aC (aG 2 (aw jr (ac (ae 1) (ac (dw (wC (.int 1)) (dG (ap aI (ae 1) (wC (.int 2))) (wC (.int 5)))) ao))))
 (aC (Hc (aw ng (ac (ae 2) (ac (ae 1) ao))) (w8 (iW (aU 3) (iW (aU 4) qL))))
 (aC (aG 5 (ap nV (dz (ae 3) (fU (wC (.int 1))) dy) (dz (ae 3) dy (fU (wC (.int 1))))))
 (bP (ju (bW (ap nV (dz (ae 0) dy (fU (wC (.int 4)))) (ia (ac (ap aI (ae 1) (wC (.int 12))) ao)))) (aU 6) (aC (aG 7 (aw nj (ac (ae 2) (ac (dG (ae 6) (w6 (wC (.int 10)) (wC (.int 18)))) ao))))
 (aC (aG 8 (ap aI (aw di (ac (ae 2) (ac (ae 7) ao))) (wC (.int 0))))
 (gM (K7 (Ha (wB (yL (cZ (ap aI (aw di (ac (ae 3) (ac (ae 7) ao))) (wC (.int 0))) (ae 8)) (ia (ac (wC (.int 0)) (ac (wC (.int 1)) ao))))) (wB (Oj (ap aI (aw di (ac (ae 5) (ac (ae 7) ao))) (wC (.int 0))) (ap aI (aw di (ac (ae 3) (ac (ae 7) ao))) (wC (.int 0))))))) (a6 (wC (.bl false))) bd)))) IM)))))
theorem Rp {k:Int}(R:S->Prop)(h:k=0\/k=1)(hR:R (.t (.bl true))):PK (.t (.int k)) (.ol [.int 0,.int 1]) R:=by
 unfold PK;show _/\_/\_;refine⟨zero_le _,by decide,?_⟩
 rcases h with rfl|rfl <;> exact hR
theorem Je {k:Int}(R:S->Prop)(h:k=0\/k=1)(hR:R (.t (.bl false))):kH (.t (.int k)) (.ol [.int 0,.int 1]) R:=by
 unfold kH;show _/\_/\_;refine⟨zero_le _,by decide,?_⟩
 rcases h with rfl|rfl <;> exact hR
theorem mO {l:List Pt}{s:aD}{R:S->Prop}(hne:l≠[])(hl:l.length<=7)(hz:∀ p∈l,SzF 100 p)(ok:bC s)(sz:fe 119 s)(h:R (.t (.int (j6 (l.map (ib (ag s))))))):di [.t (.lst (l.map aN)),.t (spT s)] fun x=>aI (got x) (.t (.int 0)) R:=
 ⟨l,s,rfl,hne,by omega,fun p hp=>(hz p hp).mono3 (by decide),bG sz (by decide),by have:=ok.1.1;omega,by have:=ok.2.1;omega,fun f _ _ _=>by
  show aI (norm _) _ R;rw[oA (x:=.tup [.int (j6 (fc s l)),a5 (QV f s)]) rfl];exact h⟩
theorem Gc:Sz 119 (1:Int):=⟨by decide⟩
structure Hk (ps os ls:List Pt) (m:Pt):Prop where
 pne:ps≠[]
 pl:ps.length<=6
 pz:∀ p∈ps,SzF 100 p
 one:os≠[]
 ol:os.length<=6
 oz:∀ p∈os,SzF 100 p
 lne:ls≠[]
 ll:ls.length<=6
 lz:∀ p∈ls,SzF 100 p
 pm:os.Perm (m::ps)
 lp:ls.Perm os
theorem zg {l:List Pt}{R:S->Prop}(hne:l≠[])(hl:l.length<=6)(hz:∀ p∈l,SzF 100 p)(h:∀ k s,Cg l k s->R (.t (.int (k:Nat)))):fO [.t (.lst (l.map aN))] fun x=>aI (got x) (.t (.int 0)) R:=
 ⟨l,rfl,hne,by omega,hz,fun k s x y d=>by
  show aI (norm _) _ R;rw[show norm (.tup [.int (k:Int),spT s,.lst x,.lst y])=.vt (.tup [.int (k:Int),spT s,.lst x,.lst y]) from rfl];exact h k s d⟩
theorem P1 {ps os ls:List Pt}{m:Pt}{k:Nat}{L:List aD}{v5 v10:S}{ts hd:List T}{r6 r7 r8 r11:Option S}{R:S->Prop}(E:Hk ps os ls m)(hk1:1<=k)(hK:Cp os k L)(h5:v5=.t (.lst (ls.map aN))\/v5=.ol (ls.map aN))(h10:v10=.t (.lst (L.map spT))\/v10=.ol (L.map spT))(h:R (.t (.bl true))) :
  MP {nx:=fun _=>R (.t .non),rt:=R} [some (.t (.lst ts)),some (.t (.lst hd)),some (.t (.lst (ps.map aN))),some (.t (.lst (os.map aN))),some (.t (aN m)),some v5,r6,r7,r8,some (.t (.int (k:Int))),some v10,r11]:=by
 unfold MP;have g2:∀ l:List aD,got (.ol (l.map spT))=.ol (l.map spT):=fun l=>dO _ (bB (fun _=>rfl) l)
 rcases h5 with rfl|rfl <;> rcases h10 with rfl|rfl
 all_goals(
  walk_at"d";refine⟨ls,k,rfl,E.lne,by have:=E.ll;omega,E.lz,hk1,fun L' hL'=>?_⟩
  dsimp only;rw[g2];walk_at"d";have e:L'=L:=NM hL'.reg hK.reg fun q zq=>by rw[hL'.hold q zq,hK.hold q zq,oh E.lp]
  rw[if_pos e];refine zg E.one E.ol E.oz fun a s da=>?_;refine zg E.pne E.pl E.pz fun b u db=>?_;walk_at"d";have h1:=(oe E.pm (ag s)).2;have h2:=db.top _ (cf da.ok);have h3:=(oe E.pm (ag u)).1;have h4:=da.top _ (cf db.ok);have h5:=da.dep;have h6:=db.dep;exact Rp _ (by omega) h)
theorem B6 {L:List aD}(R:j4 L){s:aD}(hs:s∈L):bK (L.map ag) (ag s):=jx R hs ⟨2,1,1,by decide,by decide,by decide,by omega,by omega,by omega⟩
theorem P0 {ps os ls:List Pt}{m:Pt}{k:Nat}{L:List aD}{v5:S}{ts hd:List T}{r6 r7 r8:Option S}{R:S->Prop}(E:Hk ps os ls m)(hk1:1<=k)(hK:Cp os k L)(h5:v5=.t (.lst (ls.map aN))\/v5=.ol (ls.map aN))(h:R (.t (.bl true))) :
  MO {nx:=fun _=>R (.t .non),rt:=R} [some (.t (.lst ts)),some (.t (.lst hd)),some (.t (.lst (ps.map aN))),some (.t (.lst (os.map aN))),some (.t (aN m)),some v5,r6,r7,r8,some (.t (.int (k:Int))),some (.ol (L.map spT)),none]:=by
 unfold MO;have g2:∀ l:List aD,got (.ol (l.map spT))=.ol (l.map spT):=fun l=>dO _ (bB (fun _=>rfl) l)
 let M:aR->Prop:=fun δ=>∃ (v10:S) (r11:Option S),δ=[some (.t (.lst ts)),some (.t (.lst hd)),some (.t (.lst (ps.map aN))),some (.t (.lst (os.map aN))),some (.t (aN m)),some v5,r6,r7,r8,some (.t (.int (k:Int))),some v10,r11]/\(v10=.t (.lst (L.map spT))\/v10=.ol (L.map spT))
 refine⟨M,?_,?_⟩
 ·walk_at"d";refine⟨ps,k,rfl,E.pne,by have:=E.pl;omega,E.pz,hk1,fun L' hL'=>?_⟩
  dsimp only;rw[g2];walk_at"d";refine zE (f:=spT) M ⟨_,_,rfl,by first | exact .inl rfl | exact .inr rfl⟩ (fun δ z=>z) ?_
  rintro c hc δ ⟨v10,r11,rfl,h10⟩ N hN;have hh:bK (L.map ag) (ag c):=by
   have zc:=cf (hL'.reg.ok c hc);rw[hK.hold _ zc];exact le_trans ((hL'.hold _ zc).mp (B6 hL'.reg hc)) (oe E.pm _).1
  rcases h10 with rfl|rfl
  all_goals(
   walk_at"d";refine⟨L,c,rfl,by have:=hK.len;omega,fun p hp=>bG (yu hK.reg p hp).2 (by decide),bG (yu hL'.reg c hc).2 (by decide),fun i hi=>?_⟩
   have:=(IS (fun p hp=>hK.reg.ok p hp) (hL'.reg.ok c hc) hi).mpr hh;walk_at"d";rw[if_neg (by omega)]
   exact hN _ ⟨_,_,rfl,by first|exact .inl rfl|exact .inr rfl⟩)
 ·rintro δ ⟨v10,r11,rfl,h10⟩;exact P1 E hk1 hK h5 h10 h
theorem PZ {ps os ls:List Pt}{m:Pt}{v5:S}{ts:List T}{hd:List Int}{r6 r7 r8:Option S}{R:S->Prop}(E:Hk ps os ls m)(h5:v5=.t (.lst (ls.map aN))\/v5=.ol (ls.map aN))(hdl:hd.length=14)(hdb:∀ v∈hd,0<=v/\v<big)(h:R (.t (.bl true))) :
  IN {nx:=fun _=>R (.t .non),rt:=R} [some (.t (.lst ts)),some (.t (.lst (hd.map .int))),some (.t (.lst (ps.map aN))),some (.t (.lst (os.map aN))),some (.t (aN m)),some v5,r6,r7,r8,none,none,none]:=by
 unfold IN;have g2:∀ l:List aD,got (.ol (l.map spT))=.ol (l.map spT):=fun l=>dO _ (bB (fun _=>rfl) l);have hl:0<ps.length:=length_pos_iff.mpr E.pne;have dummy:Sz 1 0:=⟨by decide⟩
 walk_at"d";refine kl (i:=13) (by omega) hdb fun v13 _ _=>?_
 walk_at"go";rw[length_map];have c1:=fmod_lo v13 (n:=(ps.length:Int)) (by omega)
 obtain⟨k,ek⟩:∃ k:Nat,1+v13.fmod (ps.length:Int)=k:=⟨(1+v13.fmod (ps.length:Int)).toNat,by omega⟩
 rw[ek];refine⟨by omega,os,k,rfl,E.one,by have:=E.ol;omega,E.oz,by omega,fun L hL=>?_⟩
 dsimp only;rw[g2];walk_at"d";exact P0 E (by omega) hL h5 h
theorem PY {ps os ls:List Pt}{m:Pt}{v5:S}{ts:List T}{hd:List Int}{r6 r7 r8:Option S}{R:S->Prop}(E:Hk ps os ls m)(h5:v5=.t (.lst (ls.map aN))\/v5=.ol (ls.map aN))(hdl:hd.length=14)(hdb:∀ v∈hd,0<=v/\v<big)(h:R (.t (.bl true))) :
  IM {nx:=fun _=>R (.t .non),rt:=R} [some (.t (.lst ts)),some (.t (.lst (hd.map .int))),some (.t (.lst (ps.map aN))),some (.t (.lst (os.map aN))),some (.t (aN m)),some v5,r6,r7,r8,none,none,none]:=by
 have zo:=E.oz m (E.pm.mem_iff.mpr mem_cons_self);have zm:fe 119 (fi m):=⟨⟨zo.1.mono (by decide),Gc⟩,zo.2.mono (by decide),Gc⟩
 have om:bC (fi m):=⟨⟨(by show(0:Int)<1;decide),(by show Int.gcd m.1 1=1;simp)⟩,⟨(by show(0:Int)<1;decide),(by show Int.gcd m.2 1=1;simp)⟩⟩
 have d:=Pw E.pm;unfold IM;generalize hC:IN=C;rw[Kx,Ky];walk_at"d";refine mO (s:=fi m) E.one (by have:=E.ol;omega) E.oz om zm ?_
 refine mO (s:=fi m) E.pne (by have:=E.pl;omega) E.pz om zm ?_
 walk_at"d";rw[if_neg (by rw[d];simp)]
 rw[<-hC];exact PZ E h5 hdl hdb h
theorem M8:Ok Au AF ["_law_script","_law_head","_law_points_here","_law_others","_law_more_here","_law_later","_law_cell","_law_spot_here","_law_many","_law_k","_law_corners","_law_corner"]:=by
 rintro ss R ⟨ns,rfl,hn,h⟩;have dummy:Sz 1 0:=⟨by decide⟩
 show AF _ [some (.t (.lst (ns.map .int))),none,none,none,none,none,none,none,none,none,none,none]
 delta AF
 generalize hB:IM=B;walk_at"d";refine⟨ns,14,rfl,hn,by decide,by decide,fun hd hdl hdb=>?_⟩
 walk_at"d";refine MD (i:=2) (by omega) hdb fun v2 _ _=>?_
 have b1:=fmod_lo v2 (n:=5) (by decide)
 have b2:=fmod_hi v2 (n:=5) (by decide)
 walk_at"go";refine⟨hd,_,rfl,by omega,hdb,by omega,by omega,fun ps hl hE=>?_⟩
 have g:∀ l:List Pt,got (.ol (l.map aN))=.ol (l.map aN):=fun l=>dO _ (Ao l);dsimp only;rw[g];walk_at"d";have hps:ps≠[]:=fun e=>by rw[e]at hl;simp at hl;omega
 have hl5:ps.length<=5:=by omega
 refine⟨ps,hd,rfl,hps,by omega,hdl,hdb,hE,fun m os pm hEo=>?_⟩
 have zof:∀ l:List Pt,(∀ p∈l,la p.1/\la p.2)->∀ p∈l,SzF 100 p:=fun l h p hp=>⟨(Dh (h p hp).1).mono (by decide),(Dh (h p hp).2).mono (by decide)⟩
 have hz:=zof ps hE;have ho:=zof os hEo;walk_at"d";rw[show norm (T.tup [.lst (os.map aN),.tup [.int m.1,.int m.2]])=.vt (.tup [.lst (os.map aN),aN m]) from rfl];walk_at"d";rw[show fX (os.map aN) (some 1) none=(os.drop 1).map aN from Pr os 1,show fX (os.map aN) none (some 1)=(os.take 1).map aN from pB os 1,<-map_append];have pl:(os.drop 1++os.take 1).Perm os:=by
  have:=List.perm_append_comm (l₁:=os.drop 1) (l₂:=os.take 1);rw[take_append_drop]at this;exact this
 have lo:os.length<=6:=by rw[pm.length_eq,length_cons];omega
 have one:os≠[]:=fun e=>by rw[e]at pm;exact nomatch pm.length_eq
 refine⟨by simp only[length_map,length_drop,length_take];omega,?_⟩
 generalize os.drop 1++os.take 1=ls at *;have hEl:∀ p∈ls,SzF 100 p:=fun p hp=>ho p (pl.mem_iff.mp hp);have ll:ls.length<=6:=by rw[pl.length_eq];exact lo
 have lne:ls≠[]:=fun e=>one (by rw[e]at pl;exact pl.symm.eq_nil)
 let M:aR->Prop:=fun δ=>∃ r6 r7 r8:Option S,δ=[some (.t (.lst (ns.map .int))),some (.t (.lst (hd.map .int))),some (.t (.lst (ps.map aN))),some (.t (.lst (os.map aN))),some (.t (aN m)),some (.ol (ls.map aN)),r6,r7,r8,none,none,none]
 refine⟨M,?_,?_⟩
 ·walk_at"d";refine kl (i:=12) (by omega) hdb fun v12 _ _=>?_
  walk_at"d";rw[show fX (ns.map T.int) none (some 4)=(ns.take 4).map T.int from pB ns 4,show [T.int v12]=[v12].map T.int from rfl,<-map_append];refine⟨by rw[length_map,length_take];omega,?_⟩
  refine zE (f:=T.int) M ⟨_,_,_,rfl⟩ (fun δ z=>z) ?_;rintro c hc δ ⟨r6,r7,r8,rfl⟩ N hN;walk_at"go";refine⟨ps,_,rfl,hps,by omega,hz,fun s ok zs=>?_⟩
  walk_at"d";refine mO hps (by omega) hz ok zs ?_
  walk_at"d";refine⟨fun b=>b=false,?_,?_⟩
  ·walk_at"d";refine mO one (by omega) ho ok zs ?_
   walk_at"d";have dm:=oe pm (ag s);refine Je _ (by omega) ?_
   walk_at"d";refine mO lne (by omega) hEl ok zs ?_
   refine mO one (by omega) ho ok zs ?_
   rw[oh pl];walk_at"d";simp
  ·rintro b rfl;walk_at"d";exact hN _ ⟨_,_,_,rfl⟩
 ·rintro δ ⟨r6,r7,r8,rfl⟩;rw[<-hB];exact PY ⟨hps,by omega,hz,one,lo,ho,lne,ll,hEl,pm,pl⟩ (.inr rfl) hdl hdb h
end Law
namespace PySem.W.Fast
def tw10240335526249621160:Nat:=0
def tw10298108720863026573:Nat:=0
def tw10347240409179198700:Nat:=0
def tw10427301163555681875:Nat:=0
def tw10498841894092142669:Nat:=0
def tw10523149824243762424:Nat:=0
def tw10549770734847297069:Nat:=0
def tw10605025444316649935:Nat:=0
def tw10892499519841407562:Nat:=0
def tw10900667524707286588:Nat:=0
def tw11032136381510735792:Nat:=0
def tw11258356079075097357:Nat:=0
def tw1169958689957652597:Nat:=0
def tw11893363676384116755:Nat:=0
def tw11924201276892388656:Nat:=0
def tw12019404588717905774:Nat:=0
def tw12123170392254811304:Nat:=0
def tw12212437212591847402:Nat:=0
def tw12215167975260098868:Nat:=0
def tw12295583670176670418:Nat:=0
def tw1238502118759383589:Nat:=0
def tw12691643788637397642:Nat:=0
def tw12730701370944153363:Nat:=0
def tw1275077484432761866:Nat:=0
def tw12757145473895335783:Nat:=0
def tw12824006232147432395:Nat:=0
def tw12834108955280325765:Nat:=0
def tw12873764270476838603:Nat:=0
def tw12927357638509162511:Nat:=0
def tw13225979323000448314:Nat:=0
def tw13799662259946985253:Nat:=0
def tw13921484566584743219:Nat:=0
def tw13934852585119015281:Nat:=0
def tw14027727762169595824:Nat:=0
def tw14305191554456074317:Nat:=0
def tw1439148357189562891:Nat:=0
def tw14465848685886993365:Nat:=0
def tw14507163483602862468:Nat:=0
def tw14618736567534983405:Nat:=0
def tw14660274261632441610:Nat:=0
def tw14988300931148554536:Nat:=0
def tw15101482150342690760:Nat:=0
def tw15208933985492777941:Nat:=0
def tw15224153086391333514:Nat:=0
def tw15311602732647111347:Nat:=0
def tw15398051253742276821:Nat:=0
def tw15450130474629279908:Nat:=0
def tw1546237389955270392:Nat:=0
def tw15542903600960687683:Nat:=0
def tw15567567616219711679:Nat:=0
def tw15809908670975415641:Nat:=0
def tw1639265718327439865:Nat:=0
def tw16511608702417059441:Nat:=0
def tw16580052978916253372:Nat:=0
def tw1659835522516097853:Nat:=0
def tw1660138712370324912:Nat:=0
def tw17447878767749764767:Nat:=0
def tw17449863923734534468:Nat:=0
def tw1767890231515669616:Nat:=0
def tw17935452841666641583:Nat:=0
def tw1798133336775309012:Nat:=0
def tw18122659278787789929:Nat:=0
def tw18204058613382141140:Nat:=0
def tw18328953438387661078:Nat:=0
def tw18348359949205309207:Nat:=0
def tw18426499241512689503:Nat:=0
def tw1882962387538178927:Nat:=0
def tw1920262658705506450:Nat:=0
def tw1949908850149384349:Nat:=0
def tw2064024562858892623:Nat:=0
def tw2099058501106541051:Nat:=0
def tw2463606960417116969:Nat:=0
def tw2645564350296802253:Nat:=0
def tw2649981980596286630:Nat:=0
def tw2793076294183354764:Nat:=0
def tw2797196407982596898:Nat:=0
def tw2975142240627660228:Nat:=0
def tw3078762244095948959:Nat:=0
def tw3350958298030732412:Nat:=0
def tw3427882889871243829:Nat:=0
def tw3740110011894528819:Nat:=0
def tw401130250600705099:Nat:=0
def tw4041393490213157811:Nat:=0
def tw40910486617893947:Nat:=0
def tw4151126636997626750:Nat:=0
def tw4179046356399713696:Nat:=0
def tw429482295566765782:Nat:=0
def tw4673213352518088498:Nat:=0
def tw4834240190849044587:Nat:=0
def tw4854282694534944606:Nat:=0
def tw5192634052863663803:Nat:=0
def tw5264984701841912276:Nat:=0
def tw5295233805271057714:Nat:=0
def tw5365993494554395697:Nat:=0
def tw5607058940234390628:Nat:=0
def tw5671540773584873360:Nat:=0
def tw567777546742975510:Nat:=0
def tw5741246197205646029:Nat:=0
def tw609775867423815866:Nat:=0
def tw6266551344492228286:Nat:=0
def tw633834659093491100:Nat:=0
def tw6557823507277918180:Nat:=0
def tw659771664159827741:Nat:=0
def tw6605048035570173474:Nat:=0
def tw663763814936735044:Nat:=0
def tw6919892664247249761:Nat:=0
def tw6935567826904794813:Nat:=0
def tw7064163423150012068:Nat:=0
def tw7221773116582515058:Nat:=0
def tw7295422120859022141:Nat:=0
def tw7336028075453212294:Nat:=0
def tw7454877961063731804:Nat:=0
def tw7785462569526304708:Nat:=0
def tw7849156064865988820:Nat:=0
def tw7904286617369894246:Nat:=0
def tw814433572218060852:Nat:=0
def tw8339677336876967750:Nat:=0
def tw8484418315248446855:Nat:=0
def tw855619329328274751:Nat:=0
def tw8803337428420488284:Nat:=0
def tw8995427132834913834:Nat:=0
def tw9627305423206824639:Nat:=0
def tw9706397423611718832:Nat:=0
def tw9892393020160169313:Nat:=0
def tw9945894744022499739:Nat:=0
end PySem.W.Fast
namespace Law
open PySem PyProof.Rows L2 DL
set_option maxHeartbeats 4000000
def top (i:Nat):Stmt:=PySem.Challenge.pw_deepspot_k62_whole_a_point_more.main.body.getD i (.Pass ⟨0,0,0,0⟩)
local macro_rules | `(tactic| walk_at"fs")=>`(tactic| exact⟨rfl,rfl,rfl,by decide +kernel,rfl,by decide +kernel,by decide +kernel⟩)
local macro_rules | `(tactic| walk_at"ln")=>`(tactic| (intro ss R h;repeat (first | (obtain⟨h,_⟩:=h;subst h;rfl) | (cases h with | inl h=>(repeat (first | (obtain⟨h,_⟩:=h;subst h;rfl) | (obtain⟨_,h⟩:=h))) | inr h=>(repeat (first | (obtain⟨h,_⟩:=h;subst h;rfl) | (obtain⟨_,h⟩:=h)))) | (obtain⟨_,h⟩:=h))))
local macro_rules | `(tactic| walk_at"bn")=>`(tactic| exact fun _ _ _ _ _ _ us hl=>match us,hl with | [_],_=>rfl)
local macro_rules | `(tactic| walk_at"bn")=>`(tactic| exact fun _ _ _ _ _ _ us hl=>match us,hl with | [_,_],_=>rfl)
local macro_rules | `(tactic| walk_at"bn")=>`(tactic| exact fun _ _ _ _ _ _ us hl=>match us,hl with | [_,_,_],_=>rfl)
local macro_rules | `(tactic| walk_at"bn")=>`(tactic| exact fun _ _ _ _ _ _ us hl=>match us,hl with | [_,_,_,_],_=>rfl)
section
variable {X:Cx}{e:Expr}{es:List Expr}{wa:WA}{pos:Pos}
theorem ai {k k':Nat}{x:Str}{sp:aJ}{p:Pos} (C:Callee X.prog X.w X.K X.mg X.base k x sp) (hr:bX k' X.A) (ha:PA X (e::es) (dA X.K wa)) (hk:k<=k':=by decide) (hg:Gl X x:=by rfl) (hdb:(x == ("__debug__":Str))=false:=by decide)
  (he:starEach (e::es) X.env=(false,eval e X.env)::starEach es X.env:=by exact aS rfl) (hpl:(backTo pos (starEach es X.env)).any (·.1)=false:=by exact dS rfl):PE X (.Call (.Name x p) (e::es) [] pos) (av X.K (aw sp wa)):=ze C (hr.mono hk) hg ha hdb he hpl
end
abbrev Rm (A:Around)(s:Shared)(f:Addr)(cdv:Value)(k:Nat)(n:Str)(st:Stmt):Prop:=bX k (A.deeper (envOfC n (al st) s.heap.objs.size f cdv))
abbrev Bd (P:Program)(w:World)(K:Frg)(mg:Str->Option Value)(base:Heap)(f:Addr)(cdv:Value)(A:Around)(outer:List Env)(s:Shared)(H:Hp)(E:XK)(N:List Str)(n:Str)(st:Stmt)(u:WS):Prop:=kA (pC xg P w K mg base N n (al st) f cdv A outer s H E).nox (bY st) (bE K H u)
section
variable {P:Program}{w:World}{K:Frg}{mg:Str->Option Value}{base:Heap}{f:Addr}{cdv:Value}{A:Around}{outer:List Env}{s:Shared}{H:Hp}{E:XK}
abbrev jF:Stmt:=top 7
theorem eB:ax ["one","other","greater","lesser","rest"] ["one","other"] (al jF):=by walk_at"fs"
theorem AR (m0:mg "abs"=none) (hr:Rm A s f cdv 0 "divisor" jF):Bd P w K mg base f cdv A outer s H E ["one","other","greater","lesser","rest"] "divisor" jF jS:=
 (ah (aq (i:=2) eB.nd (dL m0 (aa (dv 0) af)))
 (ah (aq (i:=3) eB.nd (dL m0 (aa (dv 1) af)))
 (aH (lC PassesOwn.never (rY hr (dv 3) ab) (ah (aq (i:=4) eB.nd (bz (dv 2) (dv 3)))
 (ah (aq (i:=2) eB.nd (dv 3))
 (am (aq (i:=3) eB.nd (dv 4))))))
 (am (ga (pv 2))))))
abbrev oM:Stmt:=top 8
theorem qC:ax ["top","bottom","common"] ["top","bottom"] (al oM):=by walk_at"fs"
theorem Ia (c0:Callee P w K mg base 1 "divisor" cq) (hr:Rm A s f cdv 1 "ratio" oM):Bd P w K mg base f cdv A outer s H E ["top","bottom","common"] "ratio" oM oX:=
 (ah (bw (dX hr (dv 1) ab) (am jd) aK)
 (ah (aq (i:=2) qC.nd (ai c0 hr (aa (dv 0) (aa (dv 1) af))))
 (aH (bw (kj (dv 1) ab) (am (aq (i:=2) qC.nd (cY (dv 2)))) aK)
 (am (aB (aP (aa (bI (dv 0) (dv 2)) (aa (bI (dv 1) (dv 2)) af))))))))
abbrev oG:Stmt:=top 9
theorem GM:ax ["one","other"] ["one","other"] (al oG):=by walk_at"fs"
theorem HU (hr:Rm A s f cdv 0 "below" oG):Bd P w K mg base f cdv A outer s H E ["one","other"] "below" oG oS:=
 (am (aB (Pv (aE (aj (dv 0) ab) (aj (dv 1) ab)) (aE (aj (dv 1) ab) (aj (dv 0) ab)))))
abbrev uX:Stmt:=top 11
theorem Ar:ax ["a","b","c","common"] ["a","b","c"] (al uX):=by walk_at"fs"
theorem LS (c0:Callee P w K mg base 1 "divisor" cq) (hr:Rm A s f cdv 1 "half" uX):Bd P w K mg base f cdv A outer s H E ["a","b","c","common"] "half" uX vm:=
 (ah (bw (xG (PW.pt (je (dX hr (dv 0) ab) (iu (dX hr (dv 1) ab))))) (am jd) aK)
 (ah (aq (i:=3) Ar.nd (ai c0 hr (aa (ai c0 hr (aa (dv 0) (aa (dv 1) af))) (aa (dv 2) af))))
 (am (aB (aP (aa (bI (dv 0) (dv 3)) (aa (bI (dv 1) (dv 3)) (aa (bI (dv 2) (dv 3)) af))))))))
abbrev jC:Stmt:=top 12
theorem kO:ax ["one","other","a","b"] ["one","other"] (al jC):=by walk_at"fs"
theorem AM (c3:Callee P w K mg base 2 "half" md) (hr:Rm A s f cdv 2 "between" jC):Bd P w K mg base f cdv A outer s H E ["one","other","a","b"] "between" jC jO:=
 (ah (aq (i:=2) kO.nd (ba (aj (dv 0) ab) (aj (dv 1) ab)))
 (ah (aq (i:=3) kO.nd (ba (aj (dv 1) ab) (aj (dv 0) ab)))
 (am (aB (ai c3 hr (aa (dv 2) (aa (dv 3) (aa (bu (aE (dv 2) (aj (dv 0) ab)) (aE (dv 3) (aj (dv 0) ab))) af))))))))
abbrev oE:Stmt:=top 13
theorem GJ:ax ["one","other"] ["one","other"] (al oE):=by walk_at"fs"
theorem HQ (hr:Rm A s f cdv 0 "along" oE):Bd P w K mg base f cdv A outer s H E ["one","other"] "along" oE oP:=
 (am (aB (bu (aE (aj (dv 0) ab) (aj (dv 1) ab)) (aE (aj (dv 0) ab) (aj (dv 1) ab)))))
abbrev jB:Stmt:=top 14
theorem yz:ax ["point"] ["point"] (al jB):=by walk_at"fs"
theorem AL (hr:Rm A s f cdv 0 "as_spot" jB):Bd P w K mg base f cdv A outer s H E ["point"] "as_spot" jB jN:=
 (am (aB (aP (aa (aP (aa (aj (dv 0) ab) (aa ab af))) (aa (aP (aa (aj (dv 0) ab) (aa ab af))) af)))))
abbrev jD:Stmt:=top 15
theorem yB:ax ["spot"] ["spot"] (al jD):=by walk_at"fs"
theorem AN (hr:Rm A s f cdv 0 "bottoms" jD):Bd P w K mg base f cdv A outer s H E ["spot"] "bottoms" jD jP:=
 (am (aB (aE (aj (aj (dv 0) ab) ab) (aj (aj (dv 0) ab) ab))))
abbrev lW:Stmt:=top 16
theorem mZ:ax ["half","spot","x","y"] ["half","spot"] (al lW):=by walk_at"fs"
theorem CH (c7:Callee P w K mg base 1 "bottoms" cM) (hr:Rm A s f cdv 1 "excess" lW):Bd P w K mg base f cdv A outer s H E ["half","spot","x","y"] "excess" lW mq:=
 (ah (aq (i:=2) mZ.nd (aj (dv 1) ab))
 (ah (aq (i:=3) mZ.nd (aj (dv 1) ab))
 (am (aB (ba (bu (aE (aE (aj (dv 0) ab) (aj (dv 2) ab)) (aj (dv 3) ab)) (aE (aE (aj (dv 0) ab) (aj (dv 3) ab)) (aj (dv 2) ab))) (aE (aj (dv 0) ab) (ai c7 hr (aa (dv 1) af))))))))
abbrev uZ:Stmt:=top 17
theorem Ka:ax ["number"] ["number"] (al uZ):=by walk_at"fs"
theorem LW (hr:Rm A s f cdv 0 "sign" uZ):Bd P w K mg base f cdv A outer s H E ["number"] "sign" uZ vo:=
 (ah (bw (ki (dv 0) ab) (am (aB ab)) aK)
 (ah (bw (kj (dv 0) ab) (am (aB (cY ab))) aK)
 (am (aB ab))))
abbrev uY:Stmt:=top 18
theorem J9:ax ["half","spot"] ["half","spot"] (al uY):=by walk_at"fs"
theorem LV (c9:Callee P w K mg base 1 "sign" mf) (c8:Callee P w K mg base 2 "excess" dD) (hr:Rm A s f cdv 2 "side" uY):Bd P w K mg base f cdv A outer s H E ["half","spot"] "side" uY w_side:=
 (am (aB (ai c9 hr (aa (ai c8 hr (aa (dv 0) (aa (dv 1) af))) af))))
abbrev hV:Stmt:=top 19
theorem yD:ax ["half","points"] ["half","points"] (al hV):=by walk_at"fs"
theorem AW (m1:mg "len"=none) (hr:Rm A s f cdv 0 "many_in" hV):Bd P w K mg base f cdv A outer s H E ["half","points"] "many_in" hV jX:=
 (am (aB (bA m1 (aa (eG (N:=["point","half"]) (own:=1) (fr:=[0]) (NX:=["half","points"]) (ar:=al hV) (by decide +kernel) (bJ (dv 1)) bR (fun _ _ _ _=>(aQ (i:=0) (show List.Nodup (["point","half"]:List Str) by decide))) (fun _ _ _ _=>(lD (zx (bu (aE (aj (dv 1) ab) (aj (dv 0) ab)) (aE (aj (dv 1) ab) (aj (dv 0) ab))) (aj (dv 1) ab)))) (fun _ _ _ _=>(dv 0))) af))))
abbrev lZ:Stmt:=top 21
theorem BY:ax ["one","other"] ["one","other"] (al lZ):=by walk_at"fs"
theorem CK (c2:Callee P w K mg base 1 "below" dR) (hr:Rm A s f cdv 1 "lesser" lZ):Bd P w K mg base f cdv A outer s H E ["one","other"] "lesser" lZ mB:=
 (ah (bw (dX hr (aj (dv 0) ab) (aj (dv 1) ab)) (am (aB (ai c2 hr (aa (aj (dv 0) ab) (aa (aj (dv 1) ab) af))))) aK)
 (am (aB (ai c2 hr (aa (aj (dv 0) ab) (aa (aj (dv 1) ab) af))))))
abbrev gj:Stmt:=top 22
theorem u5:ax ["spot"] ["spot"] (al gj):=by walk_at"fs"
theorem vD (c7:Callee P w K mg base 1 "bottoms" cM) (hr:Rm A s f cdv 1 "stretched" gj):Bd P w K mg base f cdv A outer s H E ["spot"] "stretched" gj gA:=
 (am (aB (aP (aa (aE (aj (aj (dv 0) ab) ab) (aj (aj (dv 0) ab) ab)) (aa (aE (aj (aj (dv 0) ab) ab) (aj (aj (dv 0) ab) ab)) (aa (ai c7 hr (aa (dv 0) af)) af))))))
abbrev u4:Stmt:=top 23
theorem jL:ax ["one","other","third","here","there","a","b","c"] ["one","other","third"] (al u4):=by walk_at"fs"
theorem LX (c13:Callee P w K mg base 2 "stretched" bU) (c8:Callee P w K mg base 2 "excess" dD) (hr:Rm A s f cdv 2 "turn" u4):Bd P w K mg base f cdv A outer s H E ["one","other","third","here","there","a","b","c"] "turn" u4 vp:=
 (ah (aq (i:=3) jL.nd (ai c13 hr (aa (dv 0) af)))
 (ah (aq (i:=4) jL.nd (ai c13 hr (aa (dv 1) af)))
 (ah (aq (i:=5) jL.nd (ba (aE (aj (dv 3) ab) (aj (dv 4) ab)) (aE (aj (dv 3) ab) (aj (dv 4) ab))))
 (ah (aq (i:=6) jL.nd (ba (aE (aj (dv 3) ab) (aj (dv 4) ab)) (aE (aj (dv 3) ab) (aj (dv 4) ab))))
 (ah (aq (i:=7) jL.nd (ba (aE (aj (dv 3) ab) (aj (dv 4) ab)) (aE (aj (dv 3) ab) (aj (dv 4) ab))))
 (am (aB (ai c8 hr (aa (aP (aa (dv 5) (aa (dv 6) (aa (dv 7) af)))) (aa (dv 2) af))))))))))
abbrev oH:Stmt:=top 24
theorem qx:ax ["spots","kept","spot"] ["spots"] (al oH):=by walk_at"fs"
theorem HV (m1:mg "len"=none) (c14:Callee P w K mg base 3 "turn" iR) (hr:Rm A s f cdv 3 "chain" oH):Bd P w K mg base f cdv A outer s H E ["spots","kept","spot"] "chain" oH oT:=
 (ah (aq (i:=1) qx.nd (cH af))
 (aH (dr PassesOwn.never (bJ (dv 0)) (aQ (i:=2) qx.nd) (aH (lC PassesOwn.never (xG (PW.pt (je (ki (bA m1 (aa (dv 1) af)) ab) (iu (Px (ai c14 hr (aa (aj (dv 1) (cY ab)) (aa (aj (dv 1) (cY ab)) (aa (dv 2) af)))) ab))))) (am (Mj (i:=1))))
 (am (fF (i:=1) (dv 2)))))
 (am (ga (pv 1)))))
abbrev qw:Stmt:=top 25
theorem oN:ax ["points","spots","under","above"] ["points"] (al qw):=by walk_at"fs"
theorem LU (m2:mg "sorted"=none) (m3:mg "set"=none) (m1:mg "len"=none) (m4:mg "list"=none) (m5:mg "reversed"=none) (c6:Callee P w K mg base 1 "as_spot" kR) (c15:Callee P w K mg base 4 "chain" ma) (hr:Rm A s f cdv 4 "hull" qw):Bd P w K mg base f cdv A outer s H E ["points","spots","under","above"] "hull" qw vn:=
 (ah (ir (i:=1) oN.nd (N:=["point"]) (own:=1) (fr:=[]) (NX:=["points","spots","under","above"]) (ar:=al qw) (by decide +kernel) (bJ (pD hr m2 m3 hr.hd (dv 0))) bR (fun _ _ _ _=>(aQ (i:=0) (show List.Nodup (["point"]:List Str) by decide))) (fun _ _ _ _=>fj) (fun _ _ _ _=>(ai c6 hr (aa (dv 0) af))))
 (ah (bw (kj (bA m1 (aa (dv 1) af)) ab) (am (ga (pv 1))) aK)
 (ah (aq (i:=2) oN.nd (ai c15 hr (aa (dv 1) af)))
 (ah (aq (i:=3) oN.nd (ai c15 hr (aa (xE m4 m5 hr.hd (dv 1)) af)))
 (am (aB (kE (cI (dv 2) dM (dN (cY ab))) (cI (dv 3) dM (dN (cY ab))))))))))
abbrev l8:Stmt:=top 26
theorem GO:ax ["region"] ["region"] (al l8):=by walk_at"fs"
theorem Ib (m6:mg "range"=none) (m1:mg "len"=none) (hr:Rm A s f cdv 0 "sides" l8):Bd P w K mg base f cdv A outer s H E ["region"] "sides" l8 oY:=
 (am (aB (eG (N:=["place","region"]) (own:=1) (fr:=[0]) (NX:=["region"]) (ar:=al l8) (by decide +kernel) (cR m6 (aa (bA m1 (aa (dv 0) af)) af)) bR (fun _ _ _ _=>(aQ (i:=0) (show List.Nodup (["place","region"]:List Str) by decide))) (fun _ _ _ _=>fj) (fun _ _ _ _=>(aP (aa (aj (dv 1) (ba (dv 0) ab)) (aa (aj (dv 1) (dv 0)) af)))))))
abbrev fm:Stmt:=top 27
theorem eR:ax ["corners","first","place"] ["corners"] (al fm):=by walk_at"fs"
theorem tD (m6:mg "range"=none) (m1:mg "len"=none) (c12:Callee P w K mg base 2 "lesser" fG) (hr:Rm A s f cdv 2 "from_least" fm):Bd P w K mg base f cdv A outer s H E ["corners","first","place"] "from_least" fm fA:=
 (ah (aq (i:=1) eR.nd ab)
 (aH (dr PassesOwn.never (cR m6 (aa (bA m1 (aa (dv 0) af)) af)) (aQ (i:=2) eR.nd) (am (bw (pG (ai c12 hr (aa (aj (dv 0) (dv 2)) (aa (aj (dv 0) (dv 1)) af)))) (am (aq (i:=1) eR.nd (dv 2))) aK)))
 (am (aB (kE (cI (dv 0) (dN (dv 1)) dM) (cI (dv 0) dM (dN (dv 1))))))))
abbrev oK:Stmt:=top 28
theorem wN:ax ["one","one_weight","other","other_weight","top"] ["one","one_weight","other","other_weight"] (al oK):=by walk_at"fs"
theorem HZ (c1:Callee P w K mg base 2 "ratio" hX) (hr:Rm A s f cdv 2 "mixed" oK):Bd P w K mg base f cdv A outer s H E ["one","one_weight","other","other_weight","top"] "mixed" oK oW:=
 (ah (aq (i:=4) wN.nd (bu (aE (aE (aj (dv 0) ab) (aj (dv 2) ab)) (dv 1)) (aE (aE (aj (dv 2) ab) (aj (dv 0) ab)) (dv 3))))
 (am (aB (ai c1 hr (aa (dv 4) (aa (aE (aE (aj (dv 0) ab) (aj (dv 2) ab)) (bu (dv 1) (dv 3))) af))))))
abbrev iG:Stmt:=top 29
theorem e9:ax ["half","one","other","one_weight","other_weight","x","y"] ["half","one","other"] (al iG):=by walk_at"fs"
theorem xt (m0:mg "abs"=none) (c8:Callee P w K mg base 2 "excess" dD) (c7:Callee P w K mg base 1 "bottoms" cM) (c19:Callee P w K mg base 3 "mixed" me) (hr:Rm A s f cdv 3 "crossing" iG):Bd P w K mg base f cdv A outer s H E ["half","one","other","one_weight","other_weight","x","y"] "crossing" iG iU:=
 (ah (aq (i:=3) e9.nd (aE (dL m0 (aa (ai c8 hr (aa (dv 0) (aa (dv 2) af))) af)) (ai c7 hr (aa (dv 1) af))))
 (ah (aq (i:=4) e9.nd (aE (dL m0 (aa (ai c8 hr (aa (dv 0) (aa (dv 1) af))) af)) (ai c7 hr (aa (dv 2) af))))
 (ah (aq (i:=5) e9.nd (ai c19 hr (aa (aj (dv 1) ab) (aa (dv 3) (aa (aj (dv 2) ab) (aa (dv 4) af))))))
 (ah (aq (i:=6) e9.nd (ai c19 hr (aa (aj (dv 1) ab) (aa (dv 3) (aa (aj (dv 2) ab) (aa (dv 4) af))))))
 (am (aB (aP (aa (dv 5) (aa (dv 6) af)))))))))
abbrev jE:Stmt:=top 30
theorem iI:ax ["region","half","kept","pair","spot"] ["region","half"] (al jE):=by walk_at"fs"
theorem AO (c17:Callee P w K mg base 1 "sides" js) (c10:Callee P w K mg base 3 "side" iP) (c20:Callee P w K mg base 4 "crossing" jq) (c18:Callee P w K mg base 3 "from_least" gH) (hr:Rm A s f cdv 4 "clipped" jE):Bd P w K mg base f cdv A outer s H E ["region","half","kept","pair","spot"] "clipped" jE jQ:=
 (ah (aq (i:=2) iI.nd (cH af))
 (aH (dr PassesOwn.never (bJ (ai c17 hr (aa (dv 0) af))) (aQ (i:=3) iI.nd) (aH (bw (kj (aE (ai c10 hr (aa (dv 1) (aa (aj (dv 3) ab) af))) (ai c10 hr (aa (dv 1) (aa (aj (dv 3) ab) af)))) ab) (ah (aq (i:=4) iI.nd (ai c20 hr (aa (dv 1) (aa (aj (dv 3) ab) (aa (aj (dv 3) ab) af)))))
 (am (bw (vQ hr (dv 4) (dv 2)) (am (fF (i:=2) (dv 4))) aK))) aK)
 (am (bw (zx (ai c10 hr (aa (dv 1) (aa (aj (dv 3) ab) af))) ab) (am (fF (i:=2) (aj (dv 3) ab))) aK))))
 (am (aB (ai c18 hr (aa (dv 2) af))))))
abbrev ft:Stmt:=top 31
theorem rG:ax ["first","last","spot"] ["first","last","spot"] (al ft):=by walk_at"fs"
theorem tG (c14:Callee P w K mg base 3 "turn" iR) (c12:Callee P w K mg base 2 "lesser" fG) (hr:Rm A s f cdv 3 "on_stretch" ft):Bd P w K mg base f cdv A outer s H E ["first","last","spot"] "on_stretch" ft fE:=
 (ah (bw (rY hr (ai c14 hr (aa (dv 0) (aa (dv 1) (aa (dv 2) af)))) ab) (am (aB zd)) aK)
 (am (aB (CZ (C1 (ai c12 hr (aa (dv 2) (aa (dv 0) af)))) (C3 (C1 (ai c12 hr (aa (dv 1) (aa (dv 2) af)))))))))
abbrev g8:Stmt:=top 32
theorem yC:ax ["region","spot"] ["region","spot"] (al g8):=by walk_at"fs"
theorem AU (m1:mg "len"=none) (m7:mg "min"=none) (c22:Callee P w K mg base 4 "on_stretch" gJ) (c17:Callee P w K mg base 1 "sides" js) (c9:Callee P w K mg base 1 "sign" mf) (c14:Callee P w K mg base 3 "turn" iR) (hr:Rm A s f cdv 4 "lies_in" g8):Bd P w K mg base f cdv A outer s H E ["region","spot"] "lies_in" g8 jV:=
 (ah (bw (dX hr (bA m1 (aa (dv 0) af)) ab) (am (aB (cY ab))) aK)
 (ah (bw (kj (bA m1 (aa (dv 0) af)) ab) (am (aB (Mc (pG (ai c22 hr (aa (aj (dv 0) ab) (aa (aj (dv 0) (cY ab)) (aa (dv 1) af))))) ab (cY ab)))) aK)
 (am (aB (Io m7 (aa (eG (N:=["pair","spot"]) (own:=1) (fr:=[1]) (NX:=["region","spot"]) (ar:=al g8) (by decide +kernel) (bJ (ai c17 hr (aa (dv 0) af))) bR (fun _ _ _ _=>(aQ (i:=0) (show List.Nodup (["pair","spot"]:List Str) by decide))) (fun _ _ _ _=>fj) (fun _ _ _ _=>(ai c9 hr (aa (ai c14 hr (aa (aj (dv 0) ab) (aa (aj (dv 0) ab) (aa (dv 1) af)))) af)))) af))))))
abbrev hW:Stmt:=top 34
theorem qD:ax ["points","spot","here"] ["points","spot"] (al hW):=by walk_at"fs"
theorem AZ (c13:Callee P w K mg base 2 "stretched" bU) (hr:Rm A s f cdv 2 "ways_to" hW):Bd P w K mg base f cdv A outer s H E ["points","spot","here"] "ways_to" hW j3:=
 (ah (aq (i:=2) qD.nd (ai c13 hr (aa (dv 1) af)))
 (am (aB (eG (N:=["point","here"]) (own:=1) (fr:=[2]) (NX:=["points","spot","here"]) (ar:=al hW) (by decide +kernel) (bJ (dv 0)) bR (fun _ _ _ _=>(aQ (i:=0) (show List.Nodup (["point","here"]:List Str) by decide))) (fun _ _ _ _=>fj) (fun _ _ _ _=>(aP (aa (ba (aE (aj (dv 0) ab) (aj (dv 1) ab)) (aj (dv 1) ab)) (aa (ba (aE (aj (dv 0) ab) (aj (dv 1) ab)) (aj (dv 1) ab)) af))))))))
abbrev dP:Stmt:=top 35
theorem rF:ax ["ways","facing"] ["ways","facing"] (al dP):=by walk_at"fs"
theorem tF (m1:mg "len"=none) (c5:Callee P w K mg base 1 "along" cA) (hr:Rm A s f cdv 1 "many_ahead" dP):Bd P w K mg base f cdv A outer s H E ["ways","facing"] "many_ahead" dP fC:=
 (am (aB (bA m1 (aa (eG (N:=["way","facing"]) (own:=1) (fr:=[1]) (NX:=["ways","facing"]) (ar:=al dP) (by decide +kernel) (bJ (dv 0)) bR (fun _ _ _ _=>(aQ (i:=0) (show List.Nodup (["way","facing"]:List Str) by decide))) (fun _ _ _ _=>(lD (zx (ai c5 hr (aa (dv 0) (aa (dv 1) af))) ab))) (fun _ _ _ _=>(dv 0))) af))))
abbrev e7:Stmt:=top 36
theorem l9:ax ["way","ways","thin"] ["way","ways"] (al e7):=by walk_at"fs"
theorem vA (m8:mg "max"=none) (m0:mg "abs"=none) (c5:Callee P w K mg base 1 "along" cA) (hr:Rm A s f cdv 1 "just_past" e7):Bd P w K mg base f cdv A outer s H E ["way","ways","thin"] "just_past" e7 gu:=
 (ah (aq (i:=2) l9.nd (bu ab (Im m8 (aa (eG (N:=["other","way"]) (own:=1) (fr:=[0]) (NX:=["way","ways","thin"]) (ar:=al e7) (by decide +kernel) (bJ (dv 1)) bR (fun _ _ _ _=>(aQ (i:=0) (show List.Nodup (["other","way"]:List Str) by decide))) (fun _ _ _ _=>fj) (fun _ _ _ _=>(dL m0 (aa (ai c5 hr (aa (dv 1) (aa (dv 0) af))) af)))) af))))
 (am (aB (aP (aa (ba (aE (cY (aj (dv 0) ab)) (dv 2)) (aj (dv 0) ab)) (aa (ba (aE (aj (dv 0) ab) (dv 2)) (aj (dv 0) ab)) af))))))
abbrev g7:Stmt:=top 37
theorem qz:ax ["ways","found"] ["ways"] (al g7):=by walk_at"fs"
theorem AS (c26:Callee P w K mg base 2 "just_past" iL) (hr:Rm A s f cdv 2 "facings" g7):Bd P w K mg base f cdv A outer s H E ["ways","found"] "facings" g7 jT:=
 (ah (ir (i:=1) qz.nd (N:=["way","ways"]) (own:=1) (fr:=[0]) (NX:=["ways","found"]) (ar:=al g7) (by decide +kernel) (bJ (dv 0)) bR (fun _ _ _ _=>(aQ (i:=0) (show List.Nodup (["way","ways"]:List Str) by decide))) (fun _ _ _ _=>(lD (rY hr (dv 0) (aP (aa ab (aa ab af)))))) (fun _ _ _ _=>(ai c26 hr (aa (dv 0) (aa (dv 1) af)))))
 (ah (fF (i:=1) (aP (aa ab (aa ab af))))
 (am (ga (pv 1)))))
abbrev eP:Stmt:=top 38
theorem jn:ax ["facing","spot","here"] ["facing","spot"] (al eP):=by walk_at"fs"
theorem qU (c13:Callee P w K mg base 2 "stretched" bU) (c3:Callee P w K mg base 2 "half" md) (c5:Callee P w K mg base 1 "along" cA) (hr:Rm A s f cdv 2 "half_facing" eP):Bd P w K mg base f cdv A outer s H E ["facing","spot","here"] "half_facing" eP eW:=
 (ah (aq (i:=2) jn.nd (ai c13 hr (aa (dv 1) af)))
 (am (aB (ai c3 hr (aa (aE (aj (dv 0) ab) (aj (dv 2) ab)) (aa (aE (aj (dv 0) ab) (aj (dv 2) ab)) (aa (ai c5 hr (aa (dv 0) (aa (dv 2) af))) af)))))))
abbrev gf:Stmt:=top 39
theorem qy:ax ["points","spot","ways","emptiest"] ["points","spot"] (al gf):=by walk_at"fs"
theorem HY {c T mb:Addr} (kb:K.In base) (hhd:PySem.W.codeHdIn K c T=true) (hlam:iA K=some T) (bm:∃ ob,mg "__builtins__"=some (.ref mb)/\mb≠builtinsNs/\mb≠mainGlobals/\base.get? mb=some ob/\ob.cls=.type "module"/\ob.dict=some builtinsNs/\ob.data=.plain) (m1:mg "len"=none) (m7:mg "min"=none) (c24:Callee P w K mg base 3 "ways_to" k5) (c27:Callee P w K mg base 3 "facings" kU) (c25:Callee P w K mg base 2 "many_ahead" eV) (c28:Callee P w K mg base 3 "half_facing" fP) (hr:bX 4 (A.deeper (envOfC "depth" (al gf) s.heap.objs.size f (.ref c)))) :
  kA (pC xg P w K mg base ["points","spot","ways","emptiest"] "depth" (al gf) f (.ref c) A outer s H E).nox (bY gf) (bE K H oV):=
 (ah (bw (dX hr (bA m1 (aa (dv 0) af)) ab) (am jd) aK)
 (ah (aq (i:=2) qy.nd (ai c24 hr (aa (dv 0) (aa (dv 1) af))))
 (ah (aq (i:=3) qy.nd (Bc (x:="facing") (y:="ways") (j:=2) rfl hr.hd (bX.in1 hr).depth m7 ⟨rfl,PySem.W.codeHd_of_K kb hhd,bm⟩ ⟨rfl,rfl,rfl,by decide +kernel,rfl,rfl,fun z hz=>EB (by decide +kernel) hz⟩ hlam rfl rfl rfl rfl rfl rfl (fun _ _ _ _=>rfl) (ai c27 hr (aa (dv 2) af)) (fun _ _ _ _=>(ze c25 ((bX.deeper (bX.in1 hr) _).mono (by decide)) rfl (aa (dv 1) (aa (dv 0) af))))))
 (am (aB (aP (aa (ai c25 hr (aa (dv 2) (aa (dv 3) af))) (aa (ai c28 hr (aa (dv 3) (aa (dv 1) af))) af))))))))
abbrev lU:Stmt:=top 41
theorem BX:ax ["one","other"] ["one","other"] (al lU):=by walk_at"fs"
theorem CG (hr:Rm A s f cdv 0 "across" lU):Bd P w K mg base f cdv A outer s H E ["one","other"] "across" lU mo:=
 (am (aB (ba (aE (aj (dv 0) ab) (aj (dv 1) ab)) (aE (aj (dv 0) ab) (aj (dv 1) ab)))))
abbrev jI:Stmt:=top 42
theorem iK:ax ["border","step","bottom","x","y"] ["border","step"] (al jI):=by walk_at"fs"
theorem AY (c5:Callee P w K mg base 1 "along" cA) (c1:Callee P w K mg base 2 "ratio" hX) (hr:Rm A s f cdv 2 "spot_at" jI):Bd P w K mg base f cdv A outer s H E ["border","step","bottom","x","y"] "spot_at" jI jZ:=
 (ah (aq (i:=2) iK.nd (aE (ai c5 hr (aa (dv 0) (aa (dv 0) af))) (aj (dv 1) ab)))
 (ah (aq (i:=3) iK.nd (ba (aE (aE (aj (dv 0) ab) (aj (dv 0) ab)) (aj (dv 1) ab)) (aE (aj (dv 0) ab) (aj (dv 1) ab))))
 (ah (aq (i:=4) iK.nd (bu (aE (aE (aj (dv 0) ab) (aj (dv 0) ab)) (aj (dv 1) ab)) (aE (aj (dv 0) ab) (aj (dv 1) ab))))
 (am (aB (aP (aa (ai c1 hr (aa (dv 3) (aa (dv 2) af))) (aa (ai c1 hr (aa (dv 4) (aa (dv 2) af))) af))))))))
abbrev oF:Stmt:=top 43
theorem GL:ax ["border","other"] ["border","other"] (al oF):=by walk_at"fs"
theorem HS (c5:Callee P w K mg base 1 "along" cA) (hr:Rm A s f cdv 1 "asked" oF):Bd P w K mg base f cdv A outer s H E ["border","other"] "asked" oF oR:=
 (am (aB (ba (aE (aj (dv 1) ab) (ai c5 hr (aa (dv 0) (aa (dv 0) af)))) (aE (ai c5 hr (aa (dv 0) (aa (dv 1) af))) (aj (dv 0) ab)))))
abbrev jH:Stmt:=top 44
theorem kQ:ax ["border","other","top","bottom"] ["border","other"] (al jH):=by walk_at"fs"
theorem AX (c32:Callee P w K mg base 2 "asked" jo) (c30:Callee P w K mg base 1 "across" cb) (hr:Rm A s f cdv 2 "meeting" jH):Bd P w K mg base f cdv A outer s H E ["border","other","top","bottom"] "meeting" jH jY:=
 (ah (aq (i:=2) kQ.nd (ai c32 hr (aa (dv 0) (aa (dv 1) af))))
 (ah (aq (i:=3) kQ.nd (ai c30 hr (aa (dv 0) (aa (dv 1) af))))
 (ah (bw (kj (dv 3) ab) (am (aB (aP (aa (cY (dv 2)) (aa (cY (dv 3)) af))))) aK)
 (am (aB (aP (aa (dv 2) (aa (dv 3) af))))))))
abbrev l5:Stmt:=top 45
theorem dB:ax ["border","halves","first","last","place","facing","step"] ["border","halves"] (al l5):=by walk_at"fs"
theorem CL (m6:mg "range"=none) (m1:mg "len"=none) (c30:Callee P w K mg base 1 "across" cb) (c33:Callee P w K mg base 3 "meeting" kZ) (c2:Callee P w K mg base 1 "below" dR) (hr:Rm A s f cdv 3 "limits" l5):Bd P w K mg base f cdv A outer s H E ["border","halves","first","last","place","facing","step"] "limits" l5 mC:=
 (ah (aq (i:=2) dB.nd tW)
 (ah (aq (i:=3) dB.nd tW)
 (aH (dr PassesOwn.never (cR m6 (aa (bA m1 (aa (dv 1) af)) af)) (aQ (i:=4) dB.nd) (ah (aq (i:=5) dB.nd (ai c30 hr (aa (dv 0) (aa (aj (dv 1) (dv 4)) af))))
 (ah (aq (i:=6) dB.nd (ai c33 hr (aa (dv 0) (aa (aj (dv 1) (dv 4)) af))))
 (aH (bw (xG (PW.pt (je (ki (dv 5) ab) (iu (PW.pt (Dg (Df (dv 2)) (xI (pG (ai c2 hr (aa (aj (dv 2) ab) (aa (dv 6) af))))))))))) (am (aq (i:=2) dB.nd (aP (aa (dv 6) (aa (dv 4) af))))) aK)
 (am (bw (xG (PW.pt (je (kj (dv 5) ab) (iu (PW.pt (Dg (Df (dv 3)) (xI (pG (ai c2 hr (aa (dv 6) (aa (aj (dv 3) ab) af))))))))))) (am (aq (i:=3) dB.nd (aP (aa (dv 6) (aa (dv 4) af))))) aK))))))
 (am (aB (aP (aa (dv 2) (aa (dv 3) af))))))))
abbrev lV:Stmt:=top 46
theorem GK:ax ["border","halves"] ["border","halves"] (al lV):=by walk_at"fs"
theorem HR (m6:mg "range"=none) (m1:mg "len"=none) (c30:Callee P w K mg base 1 "across" cb) (c32:Callee P w K mg base 2 "asked" jo) (hr:Rm A s f cdv 2 "apart" lV):Bd P w K mg base f cdv A outer s H E ["border","halves"] "apart" lV oQ:=
 (am (aB (eG (N:=["place","border","halves"]) (own:=1) (fr:=[0,1]) (NX:=["border","halves"]) (ar:=al lV) (by decide +kernel) (cR m6 (aa (bA m1 (aa (dv 1) af)) af)) bR (fun _ _ _ _=>(aQ (i:=0) (show List.Nodup (["place","border","halves"]:List Str) by decide))) (fun _ _ _ _=>(lD (PW.pt (je (dX hr (ai c30 hr (aa (dv 1) (aa (aj (dv 2) (dv 0)) af))) ab) (iu (ki (ai c32 hr (aa (dv 1) (aa (aj (dv 2) (dv 0)) af))) ab)))))) (fun _ _ _ _=>(dv 0)))))
abbrev oJ:Stmt:=top 47
theorem GN:ax ["border","halves","ends"] ["border","halves","ends"] (al oJ):=by walk_at"fs"
theorem HX (c2:Callee P w K mg base 1 "below" dR) (c35:Callee P w K mg base 3 "apart" qF) (hr:Rm A s f cdv 3 "clash" oJ):Bd P w K mg base f cdv A outer s H E ["border","halves","ends"] "clash" oJ oU:=
 (ah (bw (xG (PW.pt (je (tZ (aj (dv 2) ab)) (je (tZ (aj (dv 2) ab)) (iu (pG (ai c2 hr (aa (aj (aj (dv 2) ab) ab) (aa (aj (aj (dv 2) ab) ab) af))))))))) (am (aB (cH (aa (aj (aj (dv 2) ab) ab) (aa (aj (aj (dv 2) ab) ab) af))))) aK)
 (am (aB (cI (ai c35 hr (aa (dv 0) (aa (dv 1) af))) dM (dN ab)))))
abbrev dQ:Stmt:=top 48
theorem iY:ax ["border","ends","end"] ["border","ends"] (al dQ):=by walk_at"fs"
theorem ph (c31:Callee P w K mg base 3 "spot_at" iQ) (hr:Rm A s f cdv 3 "spot_between" dQ):Bd P w K mg base f cdv A outer s H E ["border","ends","end"] "spot_between" dQ dU:=
 (aH (dr PassesOwn.never (Mg (dv 1)) (aQ (i:=2) iY.nd) (am (bw (tZ (dv 2)) (am (aB (ai c31 hr (aa (dv 0) (aa (aj (dv 2) ab) af))))) aK)))
 (am (aB (ai c31 hr (aa (dv 0) (aa (aP (aa ab (aa ab af))) af))))))
abbrev g9:Stmt:=top 49
theorem iJ:ax ["weights","common","weight"] ["weights"] (al g9):=by walk_at"fs"
theorem AV (c0:Callee P w K mg base 1 "divisor" cq) (hr:Rm A s f cdv 1 "lowered" g9):Bd P w K mg base f cdv A outer s H E ["weights","common","weight"] "lowered" g9 jW:=
 (ah (aq (i:=1) iJ.nd ab)
 (aH (dr PassesOwn.never (bJ (dv 0)) (aQ (i:=2) iJ.nd) (am (aq (i:=1) iJ.nd (ai c0 hr (aa (dv 1) (aa (dv 2) af))))))
 (am (aB (eG (N:=["weight","common"]) (own:=1) (fr:=[1]) (NX:=["weights","common","weight"]) (ar:=al g9) (by decide +kernel) (bJ (dv 0)) bR (fun _ _ _ _=>(aQ (i:=0) (show List.Nodup (["weight","common"]:List Str) by decide))) (fun _ _ _ _=>fj) (fun _ _ _ _=>(bI (dv 0) (dv 1))))))))
abbrev fv:Stmt:=top 50
theorem eT:ax ["chosen","one","other","third"] ["chosen"] (al fv):=by walk_at"fs"
theorem tH (m1:mg "len"=none) (m0:mg "abs"=none) (c38:Callee P w K mg base 2 "lowered" iO) (c30:Callee P w K mg base 1 "across" cb) (hr:Rm A s f cdv 2 "weights_of" fv):Bd P w K mg base f cdv A outer s H E ["chosen","one","other","third"] "weights_of" fv cV:=
 (ah (aq (i:=1) eT.nd (aj (dv 0) ab))
 (ah (aq (i:=2) eT.nd (aj (dv 0) ab))
 (ah (bw (dX hr (bA m1 (aa (dv 0) af)) ab) (am (aB (ai c38 hr (aa (cH (aa (bu (dL m0 (aa (aj (dv 2) ab) af)) (dL m0 (aa (aj (dv 2) ab) af))) (aa (bu (dL m0 (aa (aj (dv 1) ab) af)) (dL m0 (aa (aj (dv 1) ab) af))) af))) af)))) aK)
 (ah (aq (i:=3) eT.nd (aj (dv 0) ab))
 (am (aB (ai c38 hr (aa (cH (aa (dL m0 (aa (ai c30 hr (aa (dv 2) (aa (dv 3) af))) af)) (aa (dL m0 (aa (ai c30 hr (aa (dv 3) (aa (dv 1) af))) af)) (aa (dL m0 (aa (ai c30 hr (aa (dv 1) (aa (dv 2) af))) af)) af)))) af))))))))
abbrev dh:Stmt:=top 51
theorem qB:ax ["halves","places"] ["halves","places"] (al dh):=by walk_at"fs"
theorem qW (c39:Callee P w K mg base 3 "weights_of" gK) (hr:Rm A s f cdv 3 "none_shared" dh):Bd P w K mg base f cdv A outer s H E ["halves","places"] "none_shared" dh cC:=
 (am (aB (aP (aa xF (aa (dv 1) (aa (ai c39 hr (aa (eG (N:=["place","halves"]) (own:=1) (fr:=[0]) (NX:=["halves","places"]) (ar:=al dh) (by decide +kernel) (bJ (dv 1)) bR (fun _ _ _ _=>(aQ (i:=0) (show List.Nodup (["place","halves"]:List Str) by decide))) (fun _ _ _ _=>fj) (fun _ _ _ _=>(aj (dv 1) (dv 0)))) af)) af))))))
abbrev l7:Stmt:=top 52
theorem dC:ax ["halves","spot","place","border","before","ends","places"] ["halves"] (al l7):=by walk_at"fs"
theorem CN (m6:mg "range"=none) (m1:mg "len"=none) (m2:mg "sorted"=none) (c10:Callee P w K mg base 3 "side" iP) (c34:Callee P w K mg base 4 "limits" nk) (c36:Callee P w K mg base 4 "clash" qG) (c40:Callee P w K mg base 4 "none_shared" fQ) (c37:Callee P w K mg base 4 "spot_between" fh) (hr:Rm A s f cdv 4 "shared" l7):Bd P w K mg base f cdv A outer s H E ["halves","spot","place","border","before","ends","places"] "shared" l7 mE:=
 (ah (aq (i:=1) dC.nd (aP (aa (aP (aa ab (aa ab af))) (aa (aP (aa ab (aa ab af))) af))))
 (aH (dr PassesOwn.never (cR m6 (aa (bA m1 (aa (dv 0) af)) af)) (aQ (i:=2) dC.nd) (ah (aq (i:=3) dC.nd (aj (dv 0) (dv 2)))
 (am (bw (kj (ai c10 hr (aa (dv 3) (aa (dv 1) af))) ab) (ah (aq (i:=4) dC.nd (cI (dv 0) dM (dN (dv 2))))
 (ah (aq (i:=5) dC.nd (ai c34 hr (aa (dv 3) (aa (dv 4) af))))
 (ah (aq (i:=6) dC.nd (ai c36 hr (aa (dv 3) (aa (dv 4) (aa (dv 5) af)))))
 (ah (bw (ki (bA m1 (aa (dv 6) af)) ab) (am (aB (ai c40 hr (aa (dv 0) (aa (Ip m2 (aa (kE (dv 6) (cH (aa (dv 2) af))) af)) af))))) aK)
 (am (aq (i:=1) dC.nd (ai c37 hr (aa (dv 3) (aa (dv 5) af))))))))) aK))))
 (am (aB (aP (aa xF (aa (dv 1) af)))))))
abbrev bZ:Stmt:=top 54
theorem cL:ax ["point","x","y"] ["point"] (al bZ):=by walk_at"fs"
theorem j5 (hr:Rm A s f cdv 0 "upright_and_level" bZ):Bd P w K mg base f cdv A outer s H E ["point","x","y"] "upright_and_level" bZ b8:=
 (ah (aq (i:=1) cL.nd (aj (dv 0) ab))
 (ah (aq (i:=2) cL.nd (aj (dv 0) ab))
 (am (aB (cH (aa (aP (aa ab (aa ab (aa (dv 1) af)))) (aa (aP (aa (cY ab) (aa ab (aa (cY (dv 1)) af)))) (aa (aP (aa ab (aa ab (aa (dv 2) af)))) (aa (aP (aa ab (aa (cY ab) (aa (cY (dv 2)) af)))) af)))))))))
abbrev iF:Stmt:=top 55
theorem gm:ax ["points","found","one","other"] ["points"] (al iF):=by walk_at"fs"
theorem xr (m2:mg "sorted"=none) (m3:mg "set"=none) (c42:Callee P w K mg base 1 "upright_and_level" cN) (c4:Callee P w K mg base 3 "between" kS) (hr:Rm A s f cdv 3 "bordered" iF):Bd P w K mg base f cdv A outer s H E ["points","found","one","other"] "bordered" iF iT:=
 (ah (aq (i:=1) gm.nd (cH af))
 (aH (dr PassesOwn.never (bJ (dv 0)) (aQ (i:=2) gm.nd) (ah (Bg (i:=1) (ai c42 hr (aa (dv 2) af)))
 (am (dr PassesOwn.never (bJ (dv 0)) (aQ (i:=3) gm.nd) (am (bw (rY hr (dv 2) (dv 3)) (am (fF (i:=1) (ai c4 hr (aa (dv 2) (aa (dv 3) af))))) aK))))))
 (am (aB (pD hr m2 m3 hr.hd (dv 1))))))
abbrev eQ:Stmt:=top 56
theorem qA:ax ["points"] ["points"] (al eQ):=by walk_at"fs"
theorem qV (m1:mg "len"=none) (hr:Rm A s f cdv 0 "need_points" eQ):Bd P w K mg base f cdv A outer s H E ["points"] "need_points" eQ eX:=
 (am (bw (dX hr (bA m1 (aa (dv 0) af)) ab) (am jd) aK))
abbrev jm:Stmt:=top 57
theorem BZ:ax ["points","many"] ["points","many"] (al jm):=by walk_at"fs"
theorem CO (c44:Callee P w K mg base 1 "need_points" bb) (c43:Callee P w K mg base 4 "bordered" jp) (c11:Callee P w K mg base 1 "many_in" kY) (hr:Rm A s f cdv 4 "strong" jm):Bd P w K mg base f cdv A outer s H E ["points","many"] "strong" jm mF:=
 (ah (tY (ai c44 hr (aa (dv 0) af)))
 (am (aB (eG (N:=["found","points","many"]) (own:=1) (fr:=[0,1]) (NX:=["points","many"]) (ar:=al jm) (by decide +kernel) (bJ (ai c43 hr (aa (dv 0) af))) bR (fun _ _ _ _=>(aQ (i:=0) (show List.Nodup (["found","points","many"]:List Str) by decide))) (fun _ _ _ _=>(lD (zx (ai c11 hr (aa (dv 0) (aa (dv 1) af))) (dv 2)))) (fun _ _ _ _=>(dv 0))))))
abbrev l6:Stmt:=top 58
theorem jK:ax ["points","k","part","found"] ["points","k"] (al l6):=by walk_at"fs"
theorem CM (m1:mg "len"=none) (c44:Callee P w K mg base 1 "need_points" bb) (c16:Callee P w K mg base 5 "hull" va) (c45:Callee P w K mg base 5 "strong" eE) (c21:Callee P w K mg base 5 "clipped" kT) (hr:Rm A s f cdv 5 "region" l6):Bd P w K mg base f cdv A outer s H E ["points","k","part","found"] "region" l6 mD:=
 (ah (tY (ai c44 hr (aa (dv 0) af)))
 (ah (bw (kj (dv 1) ab) (am jd) aK)
 (ah (bw (ki (dv 1) (bA m1 (aa (dv 0) af))) (am (aB (cH af))) aK)
 (ah (aq (i:=2) jK.nd (ai c16 hr (aa (dv 0) af)))
 (aH (dr PassesOwn.never (bJ (ai c45 hr (aa (dv 0) (aa (bu (ba (bA m1 (aa (dv 0) af)) (dv 1)) ab) af)))) (aQ (i:=3) jK.nd) (am (aq (i:=2) jK.nd (ai c21 hr (aa (dv 2) (aa (dv 3) af))))))
 (am (ga (pv 2))))))))
abbrev gZ:Stmt:=top 59
theorem bM:ax ["points","k","halves","weights","asked","told"] ["points"] (al gZ):=by walk_at"fs"
theorem AQ (m1:mg "len"=none) (c44:Callee P w K mg base 1 "need_points" bb) (c45:Callee P w K mg base 5 "strong" eE) (c41:Callee P w K mg base 5 "shared" fH) (hr:Rm A s f cdv 5 "deepest" gZ):Bd P w K mg base f cdv A outer s H E ["points","k","halves","weights","asked","told"] "deepest" gZ jR:=
 (ah (tY (ai c44 hr (aa (dv 0) af)))
 (ah (aq (i:=1) bM.nd (bA m1 (aa (dv 0) af)))
 (ah (aq (i:=2) bM.nd (cH af))
 (ah (aq (i:=3) bM.nd (cH af))
 (ah (aq (i:=4) bM.nd (ai c45 hr (aa (dv 0) (aa ab af))))
 (ah (aq (i:=5) bM.nd (ai c41 hr (aa (dv 4) af)))
 (aH (lC PassesOwn.never (dX hr (aj (dv 5) ab) xF) (ah (ir (i:=2) bM.nd (N:=["place","asked"]) (own:=1) (fr:=[4]) (NX:=["points","k","halves","weights","asked","told"]) (ar:=al gZ) (by decide +kernel) (bJ (aj (dv 5) ab)) bR (fun _ _ _ _=>(aQ (i:=0) (show List.Nodup (["place","asked"]:List Str) by decide))) (fun _ _ _ _=>fj) (fun _ _ _ _=>(aj (dv 1) (dv 0))))
 (ah (aq (i:=3) bM.nd (aj (dv 5) ab))
 (ah (aq (i:=1) bM.nd (ba (dv 1) ab))
 (ah (aq (i:=4) bM.nd (ai c45 hr (aa (dv 0) (aa (bu (ba (bA m1 (aa (dv 0) af)) (dv 1)) ab) af))))
 (am (aq (i:=5) bM.nd (ai c41 hr (aa (dv 4) af)))))))))
 (am (Ir (aP (aa (dv 1) (aa (aj (dv 5) ab) (aa (dv 2) (aa (dv 3) af))))))))))))))
abbrev e8:Stmt:=top 61
theorem cT:ax ["_law_script","_law_many","_law_found","_law_k","_law_cell","_law_at"] ["_law_script","_law_many"] (al e8):=by walk_at"fs"
theorem vC (m6:mg "range"=none) (m8:mg "max"=none) (m7:mg "min"=none) (m1:mg "len"=none) (hr:Rm A s f cdv 0 "_law_numbers" e8):Bd P w K mg base f cdv A outer s H E ["_law_script","_law_many","_law_found","_law_k","_law_cell","_law_at"] "_law_numbers" e8 gz:=
 (ah (ir (i:=2) cT.nd (N:=["_law_k"]) (own:=1) (fr:=[]) (NX:=["_law_script","_law_many","_law_found","_law_k","_law_cell","_law_at"]) (ar:=al e8) (by decide +kernel) (cR m6 (aa (dv 1) af)) bR (fun _ _ _ _=>(aQ (i:=0) (show List.Nodup (["_law_k"]:List Str) by decide))) (fun _ _ _ _=>fj) (fun _ _ _ _=>ab))
 (aH (dr PassesOwn.never (cR m6 (aa (Il m8 (aa (dv 1) (aa (zf m7 (aa (bA m1 (aa (dv 0) af)) (aa ab af))) af))) af)) (aQ (i:=3) cT.nd) (ah (aq (i:=4) cT.nd ab)
 (aH (bw (ki (bA m1 (aa (dv 0) af)) ab) (am (aq (i:=4) cT.nd (bz (aj (dv 0) (bz (dv 3) (zf m7 (aa (bA m1 (aa (dv 0) af)) (aa ab af))))) (bu (kF ab ab) ab)))) aK)
 (ah (aq (i:=5) cT.nd (bz (dv 3) (dv 1)))
 (am (pE (i:=2) (dv 5) (bz (bu (bu (aE (aj (dv 2) (dv 5)) ab) (dv 4)) (aE (dv 3) (dv 3))) (bu (kF ab ab) ab))))))))
 (am (ga (pv 2)))))
abbrev gi:Stmt:=top 62
theorem fw:ax ["_law_one","_law_other"] ["_law_one","_law_other"] (al gi):=by walk_at"fs"
theorem vB (m0:mg "abs"=none) (hr:Rm A s f cdv 0 "_law_divisor" gi):Bd P w K mg base f cdv A outer s H E ["_law_one","_law_other"] "_law_divisor" gi gv:=
 (ah (aq (i:=0) fw.nd (dL m0 (aa (dv 0) af)))
 (ah (aq (i:=1) fw.nd (dL m0 (aa (dv 1) af)))
 (aH (lC PassesOwn.never (ki (dv 1) ab) (am (Dc (i:=0) (j:=1) fw.nd (aa (dv 1) (aa (bz (dv 0) (dv 1)) af)))))
 (am (ga (pv 0))))))
abbrev fo:Stmt:=top 63
theorem kq:ax ["_law_top","_law_bottom","_law_most"] ["_law_top","_law_bottom"] (al fo):=by walk_at"fs"
theorem tE (c49:Callee P w K mg base 1 "_law_divisor" iM) (hr:Rm A s f cdv 1 "_law_fraction" fo):Bd P w K mg base f cdv A outer s H E ["_law_top","_law_bottom","_law_most"] "_law_fraction" fo fB:=
 (ah (aq (i:=2) kq.nd (ai c49 hr (aa (dv 0) (aa (dv 1) af))))
 (am (aB (aP (aa (bI (dv 0) (dv 2)) (aa (bI (dv 1) (dv 2)) af))))))
abbrev jG:Stmt:=top 64
theorem kP:ax ["_law_number","_law_base","_law_place","_law_k"] ["_law_number","_law_base","_law_place"] (al jG):=by walk_at"fs"
theorem AT (m6:mg "range"=none) (hr:Rm A s f cdv 0 "_law_digit" jG):Bd P w K mg base f cdv A outer s H E ["_law_number","_law_base","_law_place","_law_k"] "_law_digit" jG jU:=
 (aH (dr PassesOwn.never (cR m6 (aa (dv 2) af)) (aQ (i:=3) kP.nd) (am (aq (i:=0) kP.nd (bI (dv 0) (dv 1)))))
 (am (aB (bz (dv 0) (dv 1)))))
abbrev iH:Stmt:=top 65
theorem a8:ax ["_law_head","_law_many","_law_found","_law_way","_law_k","_law_number","_law_x","_law_y"] ["_law_head","_law_many"] (al iH):=by walk_at"fs"
theorem xu (m6:mg "range"=none) (c51:Callee P w K mg base 1 "_law_digit" kW) (hr:Rm A s f cdv 1 "_law_points" iH):Bd P w K mg base f cdv A outer s H E ["_law_head","_law_many","_law_found","_law_way","_law_k","_law_number","_law_x","_law_y"] "_law_points" iH iV:=
 (ah (aq (i:=2) a8.nd (cH af))
 (ah (aq (i:=3) a8.nd (bz (aj (dv 0) ab) ab))
 (aH (dr PassesOwn.never (cR m6 (aa (dv 1) af)) (aQ (i:=4) a8.nd) (ah (aq (i:=5) a8.nd (aj (dv 0) (bu ab (dv 4))))
 (ah (aq (i:=6) a8.nd (ba (bz (dv 5) ab) ab))
 (ah (aq (i:=7) a8.nd (ba (bz (bI (dv 5) ab) ab) ab))
 (aH (bw (dX hr (dv 3) ab) (am (aq (i:=7) a8.nd (ba (aE ab (dv 6)) ab))) aK)
 (aH (bw (dX hr (dv 3) ab) (am (aq (i:=6) a8.nd ab)) aK)
 (aH (bw (dX hr (dv 3) ab) (am (Dc (i:=6) (j:=7) a8.nd (aa (ba (bz (dv 5) ab) ab) (aa (ba (bz (bI (dv 5) ab) ab) ab) af)))) aK)
 (aH (bw (ki (dv 3) ab) (ah (aq (i:=6) a8.nd (ba (bz (dv 5) (bu (aE ab (kF ab ab)) ab)) (kF ab ab)))
 (am (aq (i:=7) a8.nd (ba (bz (aE (dv 5) ab) (bu (aE ab (kF ab ab)) ab)) (kF ab ab))))) aK)
 (aH (bw (xG (PW.pt (je (ki (dv 4) ab) (iu (dX hr (ai c51 hr (aa (aj (dv 0) ab) (aa ab (aa (dv 4) af)))) ab))))) (am (De (aj (dv 2) (ba (dv 4) ab)) (C7 (lB (aQ (i:=6) a8.nd) (lB (aQ (i:=7) a8.nd) zj)) (lJ (lJ zR))))) aK)
 (am (fF (i:=2) (aP (aa (dv 6) (aa (dv 7) af))))))))))))))
 (am (ga (pv 2))))))
abbrev lY:Stmt:=top 66
theorem cU:ax ["_law_points_here","_law_number","_law_way","_law_one","_law_other","_law_third","_law_by","_law_total","_law_x","_law_y"] ["_law_points_here","_law_number"] (al lY):=by walk_at"fs"
theorem CJ (m1:mg "len"=none) (m9:mg "sum"=none) (c50:Callee P w K mg base 2 "_law_fraction" cB) (hr:Rm A s f cdv 2 "_law_spot" lY):Bd P w K mg base f cdv A outer s H E ["_law_points_here","_law_number","_law_way","_law_one","_law_other","_law_third","_law_by","_law_total","_law_x","_law_y"] "_law_spot" lY mw:=
 (ah (aq (i:=2) cU.nd (bz (dv 1) ab))
 (ah (aq (i:=3) cU.nd (aj (dv 0) (bz (bI (dv 1) ab) (bA m1 (aa (dv 0) af)))))
 (ah (aq (i:=4) cU.nd (aj (dv 0) (bz (bI (dv 1) ab) (bA m1 (aa (dv 0) af)))))
 (ah (aq (i:=5) cU.nd (aj (dv 0) (bz (bI (dv 1) ab) (bA m1 (aa (dv 0) af)))))
 (ah (bw (dX hr (dv 2) ab) (am (aB (aP (aa (aP (aa (aj (dv 3) ab) (aa ab af))) (aa (aP (aa (aj (dv 3) ab) (aa ab af))) af))))) aK)
 (ah (bw (dX hr (dv 2) ab) (am (aB (aP (aa (ai c50 hr (aa (bu (aj (dv 3) ab) (aj (dv 4) ab)) (aa ab af))) (aa (ai c50 hr (aa (bu (aj (dv 3) ab) (aj (dv 4) ab)) (aa ab af))) af))))) aK)
 (ah (aq (i:=6) cU.nd (cH (aa (ba (bz (bI (dv 1) ab) ab) ab) (aa (ba (bz (bI (dv 1) ab) ab) ab) (aa (bu (bz (bI (dv 1) ab) ab) ab) af)))))
 (aH (bw (dX hr (dv 2) ab) (ah (pE (i:=6) ab ab)
 (am (pE (i:=6) ab (ba ab (aj (dv 6) ab))))) aK)
 (ah (aq (i:=7) cU.nd (Md m9 (aa (dv 6) af)))
 (ah (aq (i:=8) cU.nd (bu (bu (aE (aj (dv 6) ab) (aj (dv 3) ab)) (aE (aj (dv 6) ab) (aj (dv 4) ab))) (aE (aj (dv 6) ab) (aj (dv 5) ab))))
 (ah (aq (i:=9) cU.nd (bu (bu (aE (aj (dv 6) ab) (aj (dv 3) ab)) (aE (aj (dv 6) ab) (aj (dv 4) ab))) (aE (aj (dv 6) ab) (aj (dv 5) ab))))
 (am (aB (aP (aa (ai c50 hr (aa (dv 8) (aa (dv 7) af))) (aa (ai c50 hr (aa (dv 9) (aa (dv 7) af))) af))))))))))))))))
abbrev lX:Stmt:=top 67
theorem jJ:ax ["_law_points_here","_law_head","_law_at","_law_more_here"] ["_law_points_here","_law_head"] (al lX):=by walk_at"fs"
theorem CI (m1:mg "len"=none) (hr:Rm A s f cdv 0 "_law_more" lX):Bd P w K mg base f cdv A outer s H E ["_law_points_here","_law_head","_law_at","_law_more_here"] "_law_more" lX mr:=
 (ah (aq (i:=2) jJ.nd (bz (aj (dv 1) ab) (bu (bA m1 (aa (dv 0) af)) ab)))
 (ah (aq (i:=3) jJ.nd (aP (aa (ba (bz (aj (dv 1) ab) ab) ab) (aa (ba (bz (bI (aj (dv 1) ab) ab) ab) ab) af))))
 (aH (bw (dX hr (bz (bI (aj (dv 1) ab) ab) ab) ab) (am (aq (i:=3) jJ.nd (aj (dv 0) (bz (aj (dv 1) ab) (bA m1 (aa (dv 0) af)))))) aK)
 (am (aB (aP (aa (kE (kE (cI (dv 0) dM (dN (dv 2))) (cH (aa (dv 3) af))) (cI (dv 0) (dN (dv 2)) dM)) (aa (dv 3) af))))))))
abbrev nM:Stmt:=top 68
theorem eC:ax ["_law_script","_law_head","_law_points_here","_law_others","_law_more_here","_law_later","_law_cell","_law_spot_here","_law_many","_law_k","_law_corners","_law_corner"] ["_law_script"] (al nM):=by walk_at"fs"
theorem Pm (m1:mg "len"=none) (c48:Callee P w K mg base 1 "_law_numbers" iN) (c52:Callee P w K mg base 2 "_law_points" jr) (c54:Callee P w K mg base 1 "_law_more" ng) (c53:Callee P w K mg base 3 "_law_spot" nj) (c29:Callee P w K mg base 5 "depth" di) (c46:Callee P w K mg base 6 "region" hZ) (c23:Callee P w K mg base 5 "lies_in" kX) (c47:Callee P w K mg base 6 "deepest" fO) (hr:Rm A s f cdv 6 "law" nM):Bd P w K mg base f cdv A outer s H E ["_law_script","_law_head","_law_points_here","_law_others","_law_more_here","_law_later","_law_cell","_law_spot_here","_law_many","_law_k","_law_corners","_law_corner"] "law" nM AF:=
 (ah (aq (i:=1) eC.nd (ai c48 hr (aa (dv 0) (aa ab af))))
 (ah (aq (i:=2) eC.nd (ai c52 hr (aa (dv 1) (aa (bu ab (bz (aj (dv 1) ab) ab)) af))))
 (ah (Dd (ai c54 hr (aa (dv 2) (aa (dv 1) af))) (C7 (lB (aQ (i:=3) eC.nd) (lB (aQ (i:=4) eC.nd) zj)) (lJ (lJ zR))))
 (ah (aq (i:=5) eC.nd (kE (cI (dv 3) (dN ab) dM) (cI (dv 3) dM (dN ab))))
 (aH (dr PassesOwn.never (bJ (kE (cI (dv 0) dM (dN ab)) (cH (aa (aj (dv 1) ab) af)))) (aQ (i:=6) eC.nd) (ah (aq (i:=7) eC.nd (ai c53 hr (aa (dv 2) (aa (bz (dv 6) (kF ab ab)) af))))
 (ah (aq (i:=8) eC.nd (aj (ai c29 hr (aa (dv 2) (aa (dv 7) af))) ab))
 (am (bw (xG (PW.pt (Dg (vQ hr (ba (aj (ai c29 hr (aa (dv 3) (aa (dv 7) af))) ab) (dv 8)) (cH (aa ab (aa ab af)))) (xI (rY hr (aj (ai c29 hr (aa (dv 5) (aa (dv 7) af))) ab) (aj (ai c29 hr (aa (dv 3) (aa (dv 7) af))) ab)))))) (am (aB zd)) aK)))))
 (ah (aq (i:=7) eC.nd (aP (aa (aP (aa (aj (dv 4) ab) (aa ab af))) (aa (aP (aa (aj (dv 4) ab) (aa ab af))) af))))
 (ah (bw (rY hr (aj (ai c29 hr (aa (dv 3) (aa (dv 7) af))) ab) (bu (aj (ai c29 hr (aa (dv 2) (aa (dv 7) af))) ab) ab)) (am (aB zd)) aK)
 (ah (aq (i:=9) eC.nd (bu ab (bz (aj (dv 1) ab) (bA m1 (aa (dv 2) af)))))
 (ah (aq (i:=10) eC.nd (ai c46 hr (aa (dv 3) (aa (dv 9) af))))
 (aH (dr PassesOwn.never (bJ (ai c46 hr (aa (dv 2) (aa (dv 9) af)))) (aQ (i:=11) eC.nd) (am (bw (kj (ai c23 hr (aa (dv 10) (aa (dv 11) af))) ab) (am (aB zd)) aK)))
 (am (aB (CZ (Ps hr (ai c46 hr (aa (dv 5) (aa (dv 9) af))) (dv 10)) (C3 (Pu hr (ba (aj (ai c47 hr (aa (dv 3) af)) ab) (aj (ai c47 hr (aa (dv 2) af)) ab)) (cH (aa ab (aa ab af))))))))))))))))))
end
def Fd (K:Frg)(n:Str)(st:Stmt)(f:Addr):Prop:=∃ (oc:Value) (od:Option Addr) (sl:Array (Option Value)) (kV dc pm:Value) (an:Option Addr) (cd ct:Value),PySem.W.nsIn K mainGlobals n=some (some (.ref f))/\K.lookup f=some ⟨oc,od,.func (PySem.W.fnOf n n (eI st) (bY st) (al st) .none kV dc pm an cd ct),sl⟩/\PySem.W.codeIn K cd n=true/\PySem.W.keepIn K (.ref f)=true
theorem fd_mk {K:Frg}{n:Str}{st:Stmt}{f:Addr}{oc:Value}{od:Option Addr}{sl:Array (Option Value)}{kV dc pm:Value}{an:Option Addr}{cd ct:Value}(a:PySem.W.nsIn K mainGlobals n=some (some (.ref f)))(l:K.lookup f=some ⟨oc,od,.func (PySem.W.fnOf n n (eI st) (bY st) (al st) .none kV dc pm an cd ct),sl⟩)(e:PySem.W.codeIn K cd n=true)(k:PySem.W.keepIn K (.ref f)=true):Fd K n st f:=⟨_,_,_,_,_,_,_,_,_,a,l,e,k⟩
def Sd (n:Str)(st:Stmt)(ps:List Str):Prop:=∀ (kV doc pm:Value) (an:Option Addr) (cdv ct:Value) (us:List Value),us.length=ps.length->bindArgs (PySem.W.fnOf n n (eI st) (bY st) (al st) .none kV doc pm an cdv ct) ⟨us,[]⟩=pure (ps.zip us)
theorem Po {P:Program}{wd:World}{K:Frg}{mg:Str->Option Value}{base h:Heap}(X:K.In h)(G:h.Ns mainGlobals mg){x:Str}{st:Stmt}{f:Addr}{N ps:List Str}{sp:aJ}{w:WS}(k:Nat)(d:Fd K x st f)(S:ax N ps (al st))(hk:∀ ss R,sp ss R->w {nx:=fun _=>R (.t .non),rt:=R} (gL N ss))
  (hbody:∀ (cdv:Value) (A:Around) (outer:List Env) (s:Shared) (H:Hp) (E:XK),bX k (A.deeper (envOfC x (al st) s.heap.objs.size f cdv))->kA (pC xg P wd K mg base N x (al st) f cdv A outer s H E).nox (bY st) (bE K H w)) (hb:Sd x st ps) (hlen:∀ ss R,sp ss R->ss.length=ps.length):Callee P wd K mg base (k+1) x sp:=by
 obtain⟨oc,od,sl,kV,dc,pm,an,cd,ct,a,l,e,q⟩:=d;exact rV (pT l e q) (PySem.W.mg_of X G a) ((pT l e q).binds hb) (C4 (pT l e q) S hlen hbody hk)
theorem all_mk {l:PySem.W.OpenLaw}{w:World}{K:Frg}{h:Heap}{mg:Str->Option Value}{cc T:Addr}{ts:List Addr}{odC odL anL:Option Addr}{vsC:Array Value}{slC slL:Array (Option Value)}{ocL kVL dcL pmL ctL:Value}{fa f_0 f_1 f_2 f_3 f_4 f_5 f_6 f_7 f_8 f_9 f_10 f_11 f_12 f_13 f_14 f_15 f_16 f_17 f_18 f_19 f_20 f_21 f_22 f_23 f_24 f_25 f_26 f_27 f_28 f_29 f_30 f_31 f_32 f_33 f_34 f_35 f_36 f_37 f_38 f_39 f_40 f_41 f_42 f_43 f_44 f_45 f_46 f_47 f_48 f_49 f_50 f_51 f_52 f_53 f_54 f_55:Addr} (X:K.In h) (G:h.Ns mainGlobals mg) (hfa:mg "law"=some (.ref fa))
  (d0:Fd K "divisor" jF f_0) (d1:Fd K "ratio" oM f_1) (d2:Fd K "below" oG f_2) (d3:Fd K "half" uX f_3) (d4:Fd K "between" jC f_4) (d5:Fd K "along" oE f_5) (d6:Fd K "as_spot" jB f_6) (d7:Fd K "bottoms" jD f_7) (d8:Fd K "excess" lW f_8) (d9:Fd K "sign" uZ f_9) (d10:Fd K "side" uY f_10) (d11:Fd K "many_in" hV f_11) (d12:Fd K "lesser" lZ f_12) (d13:Fd K "stretched" gj f_13) (d14:Fd K "turn" u4 f_14) (d15:Fd K "chain" oH f_15) (d16:Fd K "hull" qw f_16) (d17:Fd K "sides" l8 f_17) (d18:Fd K "from_least" fm f_18) (d19:Fd K "mixed" oK f_19) (d20:Fd K "crossing" iG f_20) (d21:Fd K "clipped" jE f_21) (d22:Fd K "on_stretch" ft f_22) (d23:Fd K "lies_in" g8 f_23) (d24:Fd K "ways_to" hW f_24) (d25:Fd K "many_ahead" dP f_25) (d26:Fd K "just_past" e7 f_26) (d27:Fd K "facings" g7 f_27) (d28:Fd K "half_facing" eP f_28) (aL:PySem.W.nsIn K mainGlobals "depth"=some (some (.ref f_29))) (lL:K.lookup f_29=some ⟨ocL,odL,.func (PySem.W.fnOf "depth" "depth" (eI gf) (bY gf) (al gf) .none kVL dcL pmL anL (.ref cc) ctL),slL⟩) (eL:PySem.W.codeIn K (.ref cc) "depth"=true) (kL:PySem.W.keepIn K (.ref f_29)=true) (d30:Fd K "across" lU f_30) (d31:Fd K "spot_at" jI f_31) (d32:Fd K "asked" oF f_32) (d33:Fd K "meeting" jH f_33) (d34:Fd K "limits" l5 f_34) (d35:Fd K "apart" lV f_35) (d36:Fd K "clash" oJ f_36) (d37:Fd K "spot_between" dQ f_37) (d38:Fd K "lowered" g9 f_38) (d39:Fd K "weights_of" fv f_39) (d40:Fd K "none_shared" dh f_40) (d41:Fd K "shared" l7 f_41) (d42:Fd K "upright_and_level" bZ f_42) (d43:Fd K "bordered" iF f_43) (d44:Fd K "need_points" eQ f_44) (d45:Fd K "strong" jm f_45) (d46:Fd K "region" l6 f_46) (d47:Fd K "deepest" gZ f_47) (d48:Fd K "_law_numbers" e8 f_48) (d49:Fd K "_law_divisor" gi f_49) (d50:Fd K "_law_fraction" fo f_50) (d51:Fd K "_law_digit" jG f_51) (d52:Fd K "_law_points" iH f_52) (d53:Fd K "_law_spot" lY f_53) (d54:Fd K "_law_more" lX f_54) (d55:Fd K "law" nM f_55)
  (gc:K.lookup cc=some ⟨.type "code",odC,.fields vsC,slC⟩) (gt:(vsC[11]?:Option Value)=some (.ref T)) (hhd:PySem.W.codeHdIn K cc T=true) (gn:K.lookup T=none) (gs:T∈ts) (z0:PySem.W.nsIn K mainGlobals "abs"=some none) (z1:PySem.W.nsIn K mainGlobals "len"=some none) (z2:PySem.W.nsIn K mainGlobals "sorted"=some none) (z3:PySem.W.nsIn K mainGlobals "set"=some none) (z4:PySem.W.nsIn K mainGlobals "list"=some none) (z5:PySem.W.nsIn K mainGlobals "reversed"=some none) (z6:PySem.W.nsIn K mainGlobals "range"=some none) (z7:PySem.W.nsIn K mainGlobals "min"=some none) (z8:PySem.W.nsIn K mainGlobals "max"=some none) (z9:PySem.W.nsIn K mainGlobals "sum"=some none)
 :∃ (fd:FuncData) (c T:Addr),(∀ (s:Shared) (v:Value),BindsTo s fd ⟨[v],[]⟩ [("_law_script",v)])/\T∈ts/\K.lookup T=none/\PySem.W.codeHdIn K c T=true/\iA K=some T/\∀ base:Heap,K.In base->base.Ns mainGlobals mg->Oq mg base->ja l.prog w K mg base xg 7 fa fd ["_law_script"] (vh K Au):=by
 obtain⟨oc,od,sl,kV,dc,pm,an,cd,ct,a,l1,e1,k1⟩:=d55;have e:=hfa.symm.trans (PySem.W.mg_of X G a)
 cases e
 have hlam:iA K=some T:=Bp aL lL rfl gc gt;have m0:=PySem.W.mg_none_of X G z0;have m1:=PySem.W.mg_none_of X G z1;have m2:=PySem.W.mg_none_of X G z2;have m3:=PySem.W.mg_none_of X G z3;have m4:=PySem.W.mg_none_of X G z4;have m5:=PySem.W.mg_none_of X G z5;have m6:=PySem.W.mg_none_of X G z6;have m7:=PySem.W.mg_none_of X G z7;have m8:=PySem.W.mg_none_of X G z8;have m9:=PySem.W.mg_none_of X G z9;refine⟨PySem.W.fnOf "law" "law" (eI nM) (bY nM) (al nM) .none kV dc pm an cd ct,cc,T,fun s v=>.of_eq rfl,gs,gn,hhd,hlam,fun base kb _ hBM=>?_⟩;obtain⟨mb,bm⟩:=hBM;have Q:=fun {x st f N ps sp u} k=>@Po l.prog w K mg base h X G x st f N ps sp u k;have c48:=Q 0 d48 cT uP (fun _ _ _ _ _ _ hr=>vC m6 m8 m7 m1 hr) (by walk_at"bn") (by walk_at"ln")
 have c51:=Q 0 d51 kP yd (fun _ _ _ _ _ _ hr=>AT m6 hr) (by walk_at"bn") (by walk_at"ln")
 have c52:=Q 1 d52 a8 wG (fun _ _ _ _ _ _ hr=>xu m6 c51 hr) (by walk_at"bn") (by walk_at"ln")
 have c54:=Q 0 d54 jJ BE (fun _ _ _ _ _ _ hr=>CI m1 hr) (by walk_at"bn") (by walk_at"ln")
 have c49:=Q 0 d49 fw uO (fun _ _ _ _ _ _ hr=>vB m0 hr) (by walk_at"bn") (by walk_at"ln")
 have c50:=Q 1 d50 kq rB (fun _ _ _ _ _ _ hr=>tE c49 hr) (by walk_at"bn") (by walk_at"ln")
 have c53:=Q 2 d53 cU BF (fun _ _ _ _ _ _ hr=>CJ m1 m9 c50 hr) (by walk_at"bn") (by walk_at"ln")
 have c7:=Q 0 d7 yB x6 (fun _ _ _ _ _ _ hr=>AN hr) (by walk_at"bn") (by walk_at"ln")
 have c13:=Q 1 d13 u5 uQ (fun _ _ _ _ _ _ hr=>vD c7 hr) (by walk_at"bn") (by walk_at"ln")
 have c24:=Q 2 d24 qD yk (fun _ _ _ _ _ _ hr=>AZ c13 hr) (by walk_at"bn") (by walk_at"ln")
 have c5:=Q 0 d5 GJ FV (fun _ _ _ _ _ _ hr=>HQ hr) (by walk_at"bn") (by walk_at"ln")
 have c26:=Q 1 d26 l9 uN (fun _ _ _ _ _ _ hr=>vA m8 m0 c5 hr) (by walk_at"bn") (by walk_at"ln")
 have c27:=Q 2 d27 qz yb (fun _ _ _ _ _ _ hr=>AS c26 hr) (by walk_at"bn") (by walk_at"ln")
 have c25:=Q 1 d25 rF rC (fun _ _ _ _ _ _ hr=>tF m1 c5 hr) (by walk_at"bn") (by walk_at"ln")
 have c0:=Q 0 d0 eB ya (fun _ _ _ _ _ _ hr=>AR m0 hr) (by walk_at"bn") (by walk_at"ln")
 have c3:=Q 1 d3 Ar Jj (fun _ _ _ _ _ _ hr=>LS c0 hr) (by walk_at"bn") (by walk_at"ln")
 have c28:=Q 2 d28 jn qe (fun _ _ _ _ _ _ hr=>qU c13 c3 c5 hr) (by walk_at"bn") (by walk_at"ln")
 have F:=pT (st:=gf) lL eL kL;have c29:Callee l.prog w K mg base 5 "depth" di:=rV F (PySem.W.mg_of X G aL) (F.binds (ps:=["points","spot"]) (by walk_at"bn")) (Iq ⟨⟨_,_,_,_,_,_,_,_,rfl,lL,eL⟩,kL,hhd,hlam⟩ qy (by walk_at"ln") (fun A outer s H E hr=>HY kb hhd hlam bm m1 m7 c24 c27 c25 c28 hr) F7)
 have c44:=Q 0 d44 qA qf (fun _ _ _ _ _ _ hr=>qV m1 hr) (by walk_at"bn") (by walk_at"ln")
 have c6:=Q 0 d6 yz xZ (fun _ _ _ _ _ _ hr=>AL hr) (by walk_at"bn") (by walk_at"ln")
 have c8:=Q 1 d8 mZ BD (fun _ _ _ _ _ _ hr=>CH c7 hr) (by walk_at"bn") (by walk_at"ln")
 have c14:=Q 2 d14 jL Jq (fun _ _ _ _ _ _ hr=>LX c13 c8 hr) (by walk_at"bn") (by walk_at"ln")
 have c15:=Q 3 d15 qx FZ (fun _ _ _ _ _ _ hr=>HV m1 c14 hr) (by walk_at"bn") (by walk_at"ln")
 have c16:=Q 4 d16 oN Jk (fun _ _ _ _ _ _ hr=>LU m2 m3 m1 m4 m5 c6 c15 hr) (by walk_at"bn") (by walk_at"ln")
 have c42:=Q 0 d42 cL jj (fun _ _ _ _ _ _ hr=>j5 hr) (by walk_at"bn") (by walk_at"ln")
 have c4:=Q 2 d4 kO x5 (fun _ _ _ _ _ _ hr=>AM c3 hr) (by walk_at"bn") (by walk_at"ln")
 have c43:=Q 3 d43 gm wD (fun _ _ _ _ _ _ hr=>xr m2 m3 c42 c4 hr) (by walk_at"bn") (by walk_at"ln")
 have c11:=Q 0 d11 yD yh (fun _ _ _ _ _ _ hr=>AW m1 hr) (by walk_at"bn") (by walk_at"ln")
 have c45:=Q 4 d45 BZ BK (fun _ _ _ _ _ _ hr=>CO c44 c43 c11 hr) (by walk_at"bn") (by walk_at"ln")
 have c17:=Q 0 d17 GO Ga (fun _ _ _ _ _ _ hr=>Ib m6 m1 hr) (by walk_at"bn") (by walk_at"ln")
 have c9:=Q 0 d9 Ka Jo (fun _ _ _ _ _ _ hr=>LW hr) (by walk_at"bn") (by walk_at"ln")
 have c10:=Q 2 d10 J9 Jn (fun _ _ _ _ _ _ hr=>LV c9 c8 hr) (by walk_at"bn") (by walk_at"ln")
 have c1:=Q 1 d1 qC F9 (fun _ _ _ _ _ _ hr=>Ia c0 hr) (by walk_at"bn") (by walk_at"ln")
 have c19:=Q 2 d19 wN F8 (fun _ _ _ _ _ _ hr=>HZ c1 hr) (by walk_at"bn") (by walk_at"ln")
 have c20:=Q 3 d20 e9 wF (fun _ _ _ _ _ _ hr=>xt m0 c8 c7 c19 hr) (by walk_at"bn") (by walk_at"ln")
 have c2:=Q 0 d2 GM FY (fun _ _ _ _ _ _ hr=>HU hr) (by walk_at"bn") (by walk_at"ln")
 have c12:=Q 1 d12 BY BG (fun _ _ _ _ _ _ hr=>CK c2 hr) (by walk_at"bn") (by walk_at"ln")
 have c18:=Q 2 d18 eR rA (fun _ _ _ _ _ _ hr=>tD m6 m1 c12 hr) (by walk_at"bn") (by walk_at"ln")
 have c21:=Q 4 d21 iI x8 (fun _ _ _ _ _ _ hr=>AO c17 c10 c20 c18 hr) (by walk_at"bn") (by walk_at"ln")
 have c46:=Q 5 d46 jK BI (fun _ _ _ _ _ _ hr=>CM m1 c44 c16 c45 c21 hr) (by walk_at"bn") (by walk_at"ln")
 have c22:=Q 3 d22 rG rD (fun _ _ _ _ _ _ hr=>tG c14 c12 hr) (by walk_at"bn") (by walk_at"ln")
 have c23:=Q 4 d23 yC yf (fun _ _ _ _ _ _ hr=>AU m1 m7 c22 c17 c9 c14 hr) (by walk_at"bn") (by walk_at"ln")
 have c30:=Q 0 d30 BX BC (fun _ _ _ _ _ _ hr=>CG hr) (by walk_at"bn") (by walk_at"ln")
 have c32:=Q 1 d32 GL FX (fun _ _ _ _ _ _ hr=>HS c5 hr) (by walk_at"bn") (by walk_at"ln")
 have c33:=Q 2 d33 kQ yi (fun _ _ _ _ _ _ hr=>AX c32 c30 hr) (by walk_at"bn") (by walk_at"ln")
 have c34:=Q 3 d34 dB BH (fun _ _ _ _ _ _ hr=>CL m6 m1 c30 c33 c2 hr) (by walk_at"bn") (by walk_at"ln")
 have c35:=Q 2 d35 GK FW (fun _ _ _ _ _ _ hr=>HR m6 m1 c30 c32 hr) (by walk_at"bn") (by walk_at"ln")
 have c36:=Q 3 d36 GN F6 (fun _ _ _ _ _ _ hr=>HX c2 c35 hr) (by walk_at"bn") (by walk_at"ln")
 have c38:=Q 1 d38 iJ yg (fun _ _ _ _ _ _ hr=>AV c0 hr) (by walk_at"bn") (by walk_at"ln")
 have c39:=Q 2 d39 eT rE (fun _ _ _ _ _ _ hr=>tH m1 m0 c38 c30 hr) (by walk_at"bn") (by walk_at"ln")
 have c40:=Q 3 d40 qB qg (fun _ _ _ _ _ _ hr=>qW c39 hr) (by walk_at"bn") (by walk_at"ln")
 have c31:=Q 2 d31 iK yj (fun _ _ _ _ _ _ hr=>AY c5 c1 hr) (by walk_at"bn") (by walk_at"ln")
 have c37:=Q 3 d37 iY nX (fun _ _ _ _ _ _ hr=>ph c31 hr) (by walk_at"bn") (by walk_at"ln")
 have c41:=Q 4 d41 dC BJ (fun _ _ _ _ _ _ hr=>CN m6 m1 m2 c10 c34 c36 c40 c37 hr) (by walk_at"bn") (by walk_at"ln")
 have c47:=Q 5 d47 bM x9 (fun _ _ _ _ _ _ hr=>AQ m1 c44 c45 c41 hr) (by walk_at"bn") (by walk_at"ln")
 exact C4 (pT (st:=nM) l1 e1 k1) eC (by walk_at"ln") (fun cdv A outer s H E hr=>Pm m1 c48 c52 c54 c53 c29 c46 c23 c47 hr) M8
end Law
open PySem PySem.W PyProof.Rows
set_option maxRecDepth 100000 in
set_option maxHeartbeats 0 in
theorem PySem.Challenge.cw_deepspot_k62_whole_a_point_more_holds : PySem.Challenge.rw_deepspot_k62_whole_a_point_more.Holds := by
 w_on;o_law;k_head;(case hw=>w_witness2)
 k_fill
 refine DL.walkT (l:=PySem.Challenge.rw_deepspot_k62_whole_a_point_more) (n:=63) (k:=7) (x:="_law_script") rfl (by decide) rfl ⟨rfl,by decide,by decide⟩ (fun w h Y=>PySem.W.km_in_of Y) (fun w h Y=>PySem.W.km_tabs_of Y) ?F
 case F=>
  intro w mg fa h KX G hmg;refine' Law.all_mk KX G hmg (Law.fd_mk ?_ ?_ ?_ ?_) (Law.fd_mk ?_ ?_ ?_ ?_) (Law.fd_mk ?_ ?_ ?_ ?_) (Law.fd_mk ?_ ?_ ?_ ?_) (Law.fd_mk ?_ ?_ ?_ ?_) (Law.fd_mk ?_ ?_ ?_ ?_) (Law.fd_mk ?_ ?_ ?_ ?_) (Law.fd_mk ?_ ?_ ?_ ?_) (Law.fd_mk ?_ ?_ ?_ ?_) (Law.fd_mk ?_ ?_ ?_ ?_) (Law.fd_mk ?_ ?_ ?_ ?_) (Law.fd_mk ?_ ?_ ?_ ?_) (Law.fd_mk ?_ ?_ ?_ ?_) (Law.fd_mk ?_ ?_ ?_ ?_) (Law.fd_mk ?_ ?_ ?_ ?_) (Law.fd_mk ?_ ?_ ?_ ?_) (Law.fd_mk ?_ ?_ ?_ ?_) (Law.fd_mk ?_ ?_ ?_ ?_) (Law.fd_mk ?_ ?_ ?_ ?_) (Law.fd_mk ?_ ?_ ?_ ?_) (Law.fd_mk ?_ ?_ ?_ ?_) (Law.fd_mk ?_ ?_ ?_ ?_) (Law.fd_mk ?_ ?_ ?_ ?_) (Law.fd_mk ?_ ?_ ?_ ?_) (Law.fd_mk ?_ ?_ ?_ ?_) (Law.fd_mk ?_ ?_ ?_ ?_) (Law.fd_mk ?_ ?_ ?_ ?_) (Law.fd_mk ?_ ?_ ?_ ?_) (Law.fd_mk ?_ ?_ ?_ ?_) ?aL ?lL ?eL ?kL (Law.fd_mk ?_ ?_ ?_ ?_) (Law.fd_mk ?_ ?_ ?_ ?_) (Law.fd_mk ?_ ?_ ?_ ?_) (Law.fd_mk ?_ ?_ ?_ ?_) (Law.fd_mk ?_ ?_ ?_ ?_) (Law.fd_mk ?_ ?_ ?_ ?_) (Law.fd_mk ?_ ?_ ?_ ?_) (Law.fd_mk ?_ ?_ ?_ ?_) (Law.fd_mk ?_ ?_ ?_ ?_) (Law.fd_mk ?_ ?_ ?_ ?_) (Law.fd_mk ?_ ?_ ?_ ?_) (Law.fd_mk ?_ ?_ ?_ ?_) (Law.fd_mk ?_ ?_ ?_ ?_) (Law.fd_mk ?_ ?_ ?_ ?_) (Law.fd_mk ?_ ?_ ?_ ?_) (Law.fd_mk ?_ ?_ ?_ ?_) (Law.fd_mk ?_ ?_ ?_ ?_) (Law.fd_mk ?_ ?_ ?_ ?_) (Law.fd_mk ?_ ?_ ?_ ?_) (Law.fd_mk ?_ ?_ ?_ ?_) (Law.fd_mk ?_ ?_ ?_ ?_) (Law.fd_mk ?_ ?_ ?_ ?_) (Law.fd_mk ?_ ?_ ?_ ?_) (Law.fd_mk ?_ ?_ ?_ ?_) (Law.fd_mk ?_ ?_ ?_ ?_) (Law.fd_mk ?_ ?_ ?_ ?_) ?gc ?gt ?gh ?gn ?gs ?_ ?_ ?_ ?_ ?_ ?_ ?_ ?_ ?_ ?_
  (case aL=>k_is)
  (case lL=>k_is)
  (case eL=>k_is)
  (case kL=>k_is)
  (case gc=>k_is)
  (case gt=>rfl)
  (case gh=>kernel_rfl)
  (case gn=>kernel_rfl)
  (case gs=>k_mem)
  all_goals(try k_is)

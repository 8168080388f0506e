import PyProof.Rows.All
import Wide.All
import OpenK.AllK
import Wide.FinOn
import Lean
import PyProof.EqAt
import PyProof.EqKinds
import PyProof.TupleCall
import KE.KNestM
import PyProof.NeKinds
import PyProof.CompFree
import PyProof.FitsBits
import KE.LcSums
import PyProof.ZipIter
import PyProof.EnumFor
import PyProof.EnumStmt
import PyProof.Rows.EnumRows
import PyProof.Rows.FactsT2
import PyProof.Rows.SortWalk
import PyProof.Rows.FactsT3
import PyProof.LayNew
import KE.KMinKey
import KE.KLam
import PyProof.Rows.CallKwBuiltin
import KE.KRevIter
import PyProof.SetScanFacts
import PyProof.TupleKey
import PyProof.SetKind
import PyProof.DictStraight
import PyProof.IsRules
import PyProof.WalkLemmas
import PyProof.Rows.SetFrom
import KE.KSortTup
import PyProof.ListNew
import KE.RegKIsAll
import PySem.Challenge.RW_deepspot_k61_whole_points_led
local macro_rules|`(tactic|ext)=>`(tactic|first|lia|omega)
local macro_rules|`(tactic|symm)=>`(tactic|walk_at"d")
local macro_rules|`(⋯)=>`(by first|decide|ext)
abbrev Frg:=PySem.W.Frag
open List (length_map mem_map mem_cons getElem_mem mem_append mem_singleton getElem_map mem_cons_self mem_of_getElem? mem_cons_of_mem map_cons getElem?_eq_getElem size_toArray map_map getElem_of_mem map_append length_cons getElem?_map mem_append_right mem_range pairwise_iff_getElem mem_append_left pairwise_cons not_mem_nil mem_filter getElem?_set_ne append_nil getElem?_set_self length_reverse length_take length_drop length_singleton length_range pairwise_map length_replicate map_congr_left filterMap_cons replicate getElem?_append_left length_set reverse_cons getElem?_set lookup_cons getD_eq_getElem?_getD map_take nodup_cons getElem?_eq_none map_drop range_succ length_nil countP_eq_length_filter getElem?_append_right range_succ_eq_map length_filter_le take_of_length_le length_pos_iff foldl_append getElem_append_left getElem?_replicate length_dropLast nil_append length_eq_zero_iff mem_of_mem_take head?_reverse head?_eq_getElem? nodup_nil countP_congr)
open Int (mul_pos le_of_lt mul_nonneg mul_eq_zero mul_comm lt_or_le mul_zero zero_mul neg_mul mul_neg_of_pos_of_neg toNat_natCast gcd_dvd_left gcd_dvd_right mul_nonpos_of_nonneg_of_nonpos eq_of_mul_eq_mul_right mul_nonneg_of_nonpos_of_nonpos mul_one mul_nonpos_of_nonpos_of_nonneg natAbs_dvd_natAbs mul_le_mul_of_nonneg_right mul_neg)
open Nat (le_refl ne_of_lt lt_or_ge le_trans zero_le lt_of_lt_of_le lt_trichotomy lt_irrefl mod_lt lt_of_le_of_lt ne_of_gt succ_pos lt_succ_self le_of_not_lt lt_trans div_le_self le_of_lt_succ lt_succ_of_lt min_eq_left)
open Array (length_toList getElem?_toList getD_eq_getD_getElem?)
open Option (isSome_iff_exists getD_none map_some)
set_option Elab.async false
set_option linter.all false
set_option maxRecDepth 100000
namespace L2
open PySem PySem.Spec PyProof.Rows
abbrev Key:=Sum Int Str
def Ib:Key->Value->Bool
 | .inl k,v=>Value.isInt k v
 | .inr x,v=>Value.isStrOf x v
def OW (w:World):Key->Int
 | .inl k=>hashInt k
 | .inr x=>hashStr w x
theorem bT:∀ {k:Key}{v:Value},Ib k v=true->(∃ i t,k=Sum.inl i/\v=Value.int i t)\/(∃ x t,k=Sum.inr x/\v=Value.str x t)
 | .inl i,v,h=>by
  obtain⟨t,e⟩:=Value.isInt_shape (k:=i) (v:=v) h;exact .inl ⟨i,t,rfl,e⟩
 | .inr x,v,h=>by
  obtain⟨t,e⟩:=Value.isStrOf_shape (x:=x) (v:=v) h;exact .inr ⟨x,t,rfl,e⟩
theorem Kc (a b:Int):decide ((Sum.inl a:Key)=Sum.inl b)=(a == b):=by
 by_cases e:a=b
 .subst e;simp
 .have h:¬ (Sum.inl a:Key)=Sum.inl b:=λq=>e (Sum.inl.inj q);rw[decide_eq_false h];exact(beq_eq_false_iff_ne.mpr e).symm
theorem Kf (a b:Str):decide ((Sum.inr a:Key)=Sum.inr b)=decide (a=b):=by
 by_cases e:a=b
 .subst e;simp
 .have h:¬ (Sum.inr a:Key)=Sum.inr b:=λq=>e (Sum.inr.inj q);rw[decide_eq_false h,decide_eq_false e]
theorem Kd (a:Int)(b:Str):decide ((Sum.inl a:Key)=Sum.inr b)=false:=decide_eq_false (λq=>nomatch q)
theorem Ke (a:Str)(b:Int):decide ((Sum.inr a:Key)=Sum.inl b)=false:=decide_eq_false (λq=>nomatch q)
def xC (prog:Program)(w:World):PySem.KeyKind prog w Key where
 is:=Ib
 hash:=OW w
 inj:=λv a b m g=>by
  obtain⟨i,t,rfl,rfl⟩|⟨x,t,rfl,rfl⟩:=bT m
  .rcases bT g with ⟨j,u,rfl,e⟩|⟨y,u,rfl,e⟩
   .injection e with e1 _;rw[e1]
   .exact nomatch e
  .rcases bT g with ⟨j,u,rfl,e⟩|⟨y,u,rfl,e⟩
   .exact nomatch e
   .injection e with e1 _;rw[e1]
 byValue:=λk v h=>by
  rcases bT h with ⟨i,t,rfl,rfl⟩|⟨x,t,rfl,rfl⟩ <;> rfl
 pyHash:=λg h=>by
  obtain⟨i,t,rfl,rfl⟩|⟨x,t,rfl,rfl⟩:=bT g
  .exact wpAny_pyHash_int h
  .exact wpAny_pyHash_str h
 eqBool:=λm g h=>by
  obtain⟨i,t,rfl,rfl⟩|⟨x,t,rfl,rfl⟩:=bT m
  .rcases bT g with ⟨j,u,rfl,rfl⟩|⟨y,u,rfl,rfl⟩
   .rw[Kc]at h;exact wpAny_eqBool_int h
   .rw[Kd]at h;exact SeqAt.EqAt.int_str i t y u _ _ _ _ h
  .rcases bT g with ⟨j,u,rfl,rfl⟩|⟨y,u,rfl,rfl⟩
   .rw[Ke]at h;exact SeqAt.EqAt.str_int x t j u _ _ _ _ h
   .rw[Kf]at h;exact wpAny_eqBool_str h
 «strs»:=λk x t v h=>by
  obtain⟨i,u,rfl,e⟩|⟨y,u,rfl,e⟩:=bT h
  .exact nomatch e
  .injection e with e1 _
   subst e1
   cases v <;> rfl
inductive V where
 |non|bl (b:Bool)|int (i:Int)|str (x:Str)|byt (b:Array UInt8)|flt (b:UInt64)|ref (a:Addr)|ty (n:String)
 deriving DecidableEq
def RelV:V->Value->Prop
 | .non,u=>u=Value.none
 | .bl b,u=>u=Value.bool b
 | .int i,u=>∃ t,u=Value.int i t
 | .str x,u=>∃ t,u=Value.str x t
 | .byt b,u=>∃ t,u=Value.bytes b t
 | .flt b,u=>∃ t,u=Value.float b t
 | .ref a,u=>u=Value.ref a
 | .ty n,u=>u=Value.type n
abbrev aP:List V->List Value->Prop:=Paired RelV
theorem aP.length (r:aP xs us):xs.length=us.length:=Paired.length r
theorem aP.get:∀ {xs:List V}{us:List Value}{i:Nat}{x:V},aP xs us->xs[i]?=some x->∃ u,us[i]?=some u/\RelV x u
 |_,_,_,_,.nil,e=>by simp at e
 |_,_,0,_,.cons r _,e=>by simp at e;subst e;exact⟨_,rfl,r⟩
 |_,_,i+1,x,.cons _ t,e=>by
  obtain⟨u,h,g⟩:=aP.get (i:=i) (x:=x) t (by simpa using e)
  exact⟨u,by simpa using h,g⟩
theorem aP.set (r:RelV x u):∀ {xs:List V}{us:List Value} (i:Nat),aP xs us->aP (xs.set i x) (us.set i u)
 |_,_,_,.nil=>.nil
 |_,_,0,.cons _ t=>.cons r t
 |_,_,i+1,.cons q t=>.cons q (aP.set r i t)
theorem aP.append:∀ {xs ys:List V}{us e:List Value},aP xs us->aP ys e->aP (xs++ys) (us++e)
 |_,_,_,_,.nil,s=>s
 |_,_,_,_,.cons r t,s=>.cons r (aP.append t s)
theorem aP.take:∀ {xs:List V}{us:List Value} (n:Nat),aP xs us->aP (xs.take n) (us.take n)
 |_,_,0,_=>.nil
 |_,_,_+1,.nil=>.nil
 |_,_,n+1,.cons r t=>.cons r (aP.take n t)
theorem aP.drop:∀ {xs:List V}{us:List Value} (n:Nat),aP xs us->aP (xs.drop n) (us.drop n)
 |_,_,0,r=>r
 |_,_,_+1,.nil=>.nil
 |_,_,n+1,.cons _ t=>aP.drop n t
def ES:Option V->Option Value->Prop
 |some v,some u=>RelV v u
 |none,none=>True
 |_,_=>False
def KV {κ:Type}:List (κ × V)->List (κ × Value)->Prop:=Paired λ(p:κ × V) (q:κ × Value)=>p.1=q.1/\RelV p.2 q.2
def kV:Key->V
 | .inl i=>.int i
 | .inr x=>.str x
inductive HO where
  |lst (xs:List V)
  |tup (xs:List V)
  |dK (kvs:List (Key × V))|dT (kvs:List (List Key × V))
  |set (S:Int->Bool) (n:Nat)
  |ins (C dx:Addr) (fs:List (Str × V))
  |own (x:Addr)
  |xd (fs:List (Str × V))
  |met (f x:Addr)
  |rng (lo hi:Int)
  |frz (o:Obj) (u:HO)
  |tbl (ps:Array Value)
  |ext (φ:Heap->Prop)
abbrev Hp:=Addr->Option HO
def cG (H:Hp)(a:Addr)(o:HO):Hp:=λb=>if b=a then some o else H b
theorem aY:cG H a o a=some o:=by unfold cG;rw[if_pos rfl]
theorem aZ (h:b≠a):cG H a o b=H b:=by unfold cG;rw[if_neg h]
theorem bj {H:Hp}{a b:Addr}{o:HO}(h:H a=some o)(h':H b=none):a≠b:=by
 intro e;subst e;rw[h]at h';cases h'
section
variable (P:Program) (w:World)
def eV (H:Hp)(h:Heap)(a:Addr):HO->Prop
 | .lst e=>e.length<=sizeLine/\∃ (i:List Value) (n:Nat),aP e i/\h.get? a=some {cls:=.type "list",data:=.seq i.toArray n}
 | .tup e=>e.length<=sizeLine/\∃ i:List Value,aP e i/\IsTup h a i.toArray
 | .dK k=>k.length<=sizeLine/\(a == sysModules)=false/\∃ g,KV k g/\h.DictOf (xC P w) a g
 | .dT k=>k.length<=sizeLine/\(a == sysModules)=false/\∃ e:List (List Key × Addr × Value),
   Paired (λ(p:List Key × V) (q:List Key × Addr × Value)=>p.1=q.1/\H q.2.1=some (.tup (p.1.map kV))/\RelV p.2 q.2.2) k e ∧
   ∃ o g i,h.get? a=some o/\o.ExactDict/\o.data=.dict g i/\g.toList=e.map (entryOfKey (tupleKind (xC P w)))/\(e.map (·.1)).Nodup
 | .set S n=>h.SetOf (intKind P w) a S n
 | .ins C e fs=>H e=some (.own a)/\fs.length<=1000/\e≠a/\h.get? a=some (PySem.W.instObj C e) ∧
   ∃ m,h.Ns1 e m/\(∀ f,ES (fs.lookup f) (m f))/\PySem.Within m (fs.map (·.1))
 | .own _=>∃ o,h.get? a=some o
 | .xd fs=>∃ m,h.Ns1 a m/\∀ f,ES (fs.lookup f) (m f)
 | .rng lo hi=>∃ t u v,h.get? a=some {cls:=.type "range",data:=.fields #[.int lo t,.int hi u,.int 1 v]}
 | .frz o u=>h.get? a=some o/\eV H h a u
 | .tbl e=>h.get? a=some {cls:=.none,data:=.fields e}
 | .met f x=>h.get? a=some (PySem.W.methodObj (.ref f) (.ref x))
 | .ext e=>e h/\(∃ o,h.get? a=some o)/\∀ g i:Heap,e g->(∀ o,g.get? a=some o->i.get? a=some o)->e i
def gm (H:Hp)(h:Heap):Prop:=∀ a o,H a=some o->eV P w H h a o
end
section
variable {P:Program}{w:World}{H H':Hp}{h h':Heap}{a:Addr}{o:HO}
theorem eV.lt (x:eV P w H h a o):a<h.objs.size:=by
 cases o with
 |lst g=>obtain⟨_,_,_,_,e⟩:=x;exact Heap.lt_size e
 |tup g=>obtain⟨_,_,_,p⟩:=x;exact p.lt
 |dK k=>obtain⟨_,_,_,_,o,_,_,e,_⟩:=x;exact Heap.lt_size e
 |dT k=>obtain⟨_,_,_,_,o,_,_,e,_⟩:=x;exact Heap.lt_size e
 |set S n=>obtain⟨o,_,_,_,e,_⟩:=x;exact Heap.lt_size e
 |ins C g fs=>obtain⟨_,_,_,e,_⟩:=x;exact Heap.lt_size e
 |own y=>obtain⟨_,e⟩:=x;exact Heap.lt_size e
 |xd fs=>obtain⟨_,⟨_,_,_,e,_⟩,_⟩:=x;exact Heap.lt_size e
 |rng lo hi=>obtain⟨_,_,_,e⟩:=x;exact Heap.lt_size e
 |frz g u=>obtain⟨e,_⟩:=x;exact Heap.lt_size e
 |tbl g=>exact Heap.lt_size (show h.get? a=some _ from x)
 |met f y=>exact Heap.lt_size (show h.get? a=some _ from x)
 |ext g=>obtain⟨_,⟨_,e⟩,_⟩:=x;exact Heap.lt_size e
theorem Paired.mapP:∀ {e:List α}{l₂:List β},Paired F e l₂->(∀ a b,F a b->G a b)->Paired G e l₂
 |_,_,.nil,_=>.nil
 |_,_,.cons r t,f=>.cons (f _ _ r) (Paired.mapP t f)
theorem eV.stay (x:eV P w H h a o)(k:∀ b u,(b=a\/H b=some (.own a))->h.get? b=some u->h'.get? b=some u)
  (E:∀ b,H b=some (.own a)->H' b=some (.own a)) (F:∀ b xs,H b=some (.tup xs)->H' b=some (.tup xs)):eV P w H' h' a o:=by
 induction o with
 |lst xs=>obtain⟨z,i,n,r,e⟩:=x;exact⟨z,i,n,r,k _ _ (.inl rfl) e⟩
 |tup xs=>obtain⟨z,i,r,g,e,c⟩:=x;exact⟨z,i,r,g,k _ _ (.inl rfl) e,c⟩
 |dK m=>obtain⟨z,y,B,r,g,j,i,e,c⟩:=x;exact⟨z,y,B,r,g,j,i,k _ _ (.inl rfl) e,c⟩
 |dT m=>
  obtain⟨z,y,xs,r,g,j,i,e,c⟩:=x;exact⟨z,y,xs,Paired.mapP r λp q z=>⟨z.1,F _ _ z.2.1,z.2.2⟩,g,j,i,k _ _ (.inl rfl) e,c⟩
 |set S n=>obtain⟨g,j,i,t,e,c⟩:=x;exact⟨g,j,i,t,k _ _ (.inl rfl) e,c⟩
 |ins C m fs=>
  obtain⟨d,z,ne,e,m,⟨B,j,i,D,c⟩,r⟩:=x;exact⟨E _ d,z,ne,k _ _ (.inl rfl) e,m,⟨B,j,i,k _ _ (.inr d) D,c⟩,r⟩
 |own y=>obtain⟨g,e⟩:=x;exact⟨g,k _ _ (.inl rfl) e⟩
 |xd fs=>obtain⟨m,⟨B,j,i,e,c⟩,r⟩:=x;exact⟨m,⟨B,j,i,k _ _ (.inl rfl) e,c⟩,r⟩
 |rng lo hi=>obtain⟨t,u,v,e⟩:=x;exact⟨t,u,v,k _ _ (.inl rfl) e⟩
 |frz g u i=>obtain⟨e,q⟩:=x;exact⟨k _ _ (.inl rfl) e,i q⟩
 |tbl g=>
  have e:h.get? a=some {cls:=.none,data:=.fields g}:=x;show h'.get? a=some {cls:=.none,data:=.fields g};exact k a _ (.inl rfl) e
 |met f y=>
  have e:h.get? a=some (PySem.W.methodObj (.ref f) (.ref y)):=x;show h'.get? a=some (PySem.W.methodObj (.ref f) (.ref y));exact k a _ (.inl rfl) e
 |ext g=>obtain⟨p,⟨o,e⟩,g⟩:=x;exact⟨g _ _ p λo q=>k _ _ (.inl rfl) q,⟨o,k _ _ (.inl rfl) e⟩,g⟩
theorem gm.lt (x:gm P w H h)(e:H a=some o):a<h.objs.size:=(x a o e).lt
theorem gm.fresh (x:gm P w H h)(e:h.objs.size<=a):H a=none:=by
 cases q:H a with
 |none=>rfl
 |some u=>exact absurd (lt_of_lt_of_le (x.lt q) e) (lt_irrefl _)
theorem gm.kept (x:gm P w H h)(k:∀ b u,h.get? b=some u->h'.get? b=some u):gm P w H h':=λa o e=>
 (x a o e).stay (λb u _ q=>k b u q) (λ_ q=>q) λ_ _ q=>q
theorem gm.laid (x:gm P w H h)(k:∀ b u,h.get? b=some u->h'.get? b=some u)(p:h.objs.size<=a)(new:eV P w (cG H a o) h' a o):gm P w (cG H a o) h':=λb u e=>by
 have n:=x.fresh p
 by_cases g:b=a
 .subst g;rw[aY]at e;cases e;exact new
 .rw[aZ g]at e;exact(x b u e).stay (λc v _ q=>k c v q) (λc q=>by rw[aZ (bj q n)];exact q) λc g q=>by rw[aZ (bj q n)];exact q
end
def Rd (H:Hp)(a:Addr)(u:HO):Prop:=H a=some u\/∃ o,H a=some (.frz o u)
theorem Rd.of (h:H a=some u):Rd H a u:=.inl h
theorem Rd.ok (r:Rd H a u)(x:gm P w H h):eV P w H h a u:=by
 obtain r|⟨o,r⟩:=r
 .exact x a u r
 .obtain⟨_,q⟩:=x a _ r;exact q
def Om:Option HO->Prop
 |some (.lst _)=>True
 |some (.dK _)=>True
 |some (.dT _)=>True
 |some (.set _ _)=>True
 |some (.ins _ _ _)=>True
 |some (.ext _)=>True
 |_=>False
section
variable {P:Program}{w:World}{H:Hp}{h h':Heap}{x e:Addr}{o':HO}
theorem gm.write (ok:gm P w H h)(m:Om (H x))(he:e=x\/H e=some (.own x))(k:∀ b u,b≠e->h.get? b=some u->h'.get? b=some u)(B:∃ u,h'.get? e=some u)
  (new:eV P w (cG H x o') h' x o'):gm P w (cG H x o') h':=λb u q=>by
 have n:∀ c y,H c=some (.own y)->c≠x:=λc y r z=>by subst z;rw[r]at m;exact m
 have p:∀ c o,H c=some (.tup o)->c≠x:=λc o r z=>by subst z;rw[r]at m;exact m
 by_cases i:b=x
 .subst i;rw[aY]at q;cases q;exact new
 .rw[aZ i]at q
  by_cases g:b=e
  .have j:H b=some (.own x):=by
    obtain z|z:=he
    .exact absurd (g.trans z) i
    .rw[g];exact z
   rw[q]at j;cases j
   obtain⟨v,j⟩:=B;exact⟨v,by rw[g];exact j⟩
  .refine(ok b u q).stay (λc v j r=>k c v ?_ r) (λc r=>by rw[aZ (n c b r)];exact r) λc o r=>by rw[aZ (p c o r)];exact r
   obtain rfl|j:=j
   .exact g
   .rintro rfl
    obtain z|z:=he
    .exact n c b j z
    .rw[j]at z;cases z;exact i rfl
end
structure Un (fs ex:List Addr) (H H':Hp) (h h':Heap):Prop where
 keep:∀ b o,h.get? b=some o->H b=none->b∉fs->b∉ex->h'.get? b=some o
 slot:∀ b o,h.get? b=some o->H b=none->b∈fs->b∉ex->∃ sl,h'.get? b=some {o with slots:=sl}
 free:∀ b o,h.get? b=some o->H b=none->b∉ex->H' b=none
 there:∀ b o,h.get? b=some o->b∉ex->∃ o',h'.get? b=some o'
 tups:∀ b xs,H b=some (.tup xs)->H' b=some (.tup xs)
 frzs:∀ b o u,H b=some (.frz o u)->H' b=some (.frz o u)
 tbls:∀ b ps,H b=some (.tbl ps)->∃ more,H' b=some (.tbl (ps++more))
section
variable {fs fs' ex ex':List Addr}{H H1 H2:Hp}{h h1 h2 h':Heap}{a x e:Addr}{o:HO}
theorem Un.any (u:Un fs ex H H1 h h1)(q:h.get? b=some g)(n:H b=none)(j:b∉ex):∃ k,h1.get? b=some {g with slots:=k}:=by
 by_cases i:b∈fs
 .exact u.slot b g q n i j
 .exact⟨g.slots,u.keep b g q n i j⟩
theorem Un.trans (a:Un fs ex H H1 h h1)(b:Un fs ex H1 H2 h1 h2):Un fs ex H H2 h h2 where
 keep:=λc i q n k g=>b.keep c i (a.keep c i q n k g) (a.free c i q n g) k g
 slot:=λc i q n k g=>by
  obtain⟨j,j⟩:=a.slot c i q n k g;obtain⟨p,m⟩:=b.slot c _ j (a.free c i q n g) k g;exact⟨p,m⟩
 free:=λc i q n g=>by
  obtain⟨k,j⟩:=a.there c i q g;exact b.free c k j (a.free c i q n g) g
 there:=λc i q g=>by
  obtain⟨k,j⟩:=a.there c i q g;exact b.there c k j g
 tups:=λc g q=>b.tups c g (a.tups c g q)
 frzs:=λc i g q=>b.frzs c i g (a.frzs c i g q)
 tbls:=λc p q=>by
  obtain⟨g,j⟩:=a.tbls c p q;obtain⟨i,m⟩:=b.tbls c _ j;exact⟨g++i,by rw[m,Array.append_assoc]⟩
theorem Un.kept (k:∀ b u,h.get? b=some u->h'.get? b=some u):Un fs ex H H h h':=
 ⟨λb g q _ _ _=>k b g q,λb g q _ _ _=>⟨g.slots,k b g q⟩,λ_ _ _ n _=>n,λb g q _=>⟨g,k b g q⟩,λ_ _ q=>q,λ_ _ _ q=>q,λ_ p q=>⟨#[],by rw[q];simp⟩⟩
theorem Un.refl:Un fs ex H H h h:=Un.kept λ_ _ q=>q
theorem Un.laid (k:∀ b u,h.get? b=some u->h'.get? b=some u)(p:h.objs.size<=a)(g:H a=none):Un fs ex H (cG H a o) h h' where
 keep:=λb u q _ _ _=>k b u q
 slot:=λb u q _ _ _=>⟨u.slots,k b u q⟩
 free:=λb u q n _=>by rw[aZ (ne_of_lt (lt_of_lt_of_le (Heap.lt_size q) p))];exact n
 there:=λb u q _=>⟨u,k b u q⟩
 tups:=λb i q=>by rw[aZ (bj q g)];exact q
 frzs:=λb u i q=>by rw[aZ (bj q g)];exact q
 tbls:=λb i q=>⟨#[],by rw[aZ (bj q g),q];simp⟩
theorem Un.write (m:Om (H x))(he:e=x\/H e=some (.own x))(k:∀ b u,b≠e->h.get? b=some u->h'.get? b=some u)(i:∃ u,h'.get? e=some u):Un fs ex H (cG H x o) h h':=by
 have p:∀ b,H b=none->b≠x:=λb n z=>by subst z;rw[n]at m;exact m
 have j:∀ b,H b=none->b≠e:=λb n z=>by
  subst z
  obtain r|r:=he
  .exact p b n r
  .rw[n]at r;cases r
 have g:∀ b u,H b=some u->¬ Om (some u)->b≠x:=λb u q nm z=>by subst z;rw[q]at m;exact nm m
 refine⟨λb u q n _ _=>k b u (j b n) q,λb u q n _ _=>⟨u.slots,k b u (j b n) q⟩,λb u q n _=>by rw[aZ (p b n)];exact n,λb u q _=>?_,
  λb j q=>by rw[aZ (g b _ q λz=>z)];exact q,λb u j q=>by rw[aZ (g b _ q λz=>z)];exact q,λb p q=>⟨#[],by rw[aZ (g b _ q λz=>z),q];simp⟩⟩
 by_cases g:b=e
 .subst g;exact i
 .exact⟨u,k b u g q⟩
theorem Un.mono (u:Un fs ex H H1 h h1)(hs:∀ b∈fs,b∈fs')(j:∀ b∈ex,b∈ex'):Un fs' ex' H H1 h h1:=
 ⟨λb i q n k g=>u.keep b i q n (λz=>k (hs b z)) λz=>g (j b z),λ_ _ q n _ g=>u.any q n λz=>g (j _ z),λb i q n g=>u.free b i q n λz=>g (j b z),λb i q g=>u.there b i q λz=>g (j b z),u.tups,u.frzs,u.tbls⟩
end
def Ov (h:Heap)(H:Hp):List Addr:=(List.range h.objs.size).filter λa=>(H a).isSome
def oZ (h:Heap)(H:Hp):Heap:=PySem.W.hideAll h (Ov h H)
theorem yU (h:Heap)(H:Hp):(oZ h H).objs.size=h.objs.size:=PySem.W.hideAll_size _ _
theorem BP (e:h.get? b=some o)(n:H b=none):(oZ h H).get? b=some o:=
 PySem.W.hideAll_get _ e λm=>by
  have q:(H b).isSome=true:=(mem_filter.mp m).2;rw[n]at q;simp at q
theorem Gy (e:(oZ h H).get? b=some o):h.get? b=some o/\H b=none:=by
 have g:h.get? b=some o:=PySem.W.of_hideAll (Ov h H) e;refine⟨g,?_⟩
 cases q:H b with
 |none=>rfl
 |some x=>
  have m:b∈Ov h H:=mem_filter.mpr ⟨mem_range.mpr (Heap.lt_size g),by simp[q]⟩
  have z:(oZ h H).get? b=none:=PySem.W.hideAll_none (Ov h H) m;rw[z]at e;cases e
def Fc (g h:Heap)(L:Addr):List (Addr × Obj):=(List.range h.objs.size).filterMap λa=>if a=L\/(g.get? a).isSome=true then none else (h.get? a).map λo=>(a,o)
def rest (g h:Heap)(L d:Addr):List (Addr × Obj):=(Fc g h L).filter λp=>decide (p.1≠d)
structure Mod (K:Frg) (mg:Str->Option Value) (base:Heap):Prop where
 kin:K.In base
 glob:base.Ns mainGlobals mg
 blt:∃ mb,base.Ns builtinsNs mb/\∀ x:Str,x≠"__name__"->mb x=bootBuiltins x
 nolimit:base.NoLimit
structure Cx where
 prog:Program
 w:World
 K:Frg
 mg:Str->Option Value
 base:Heap
 A:Around
 N:List Str
 s₀:Shared
 H₀:Hp
 env:Env
 outer:List Env
 stack:List Env
 ex:List Addr
 fn:Str->Bool
 calm:Bool
 pn:List (Addr × Obj)
 xe:Value->Shared->Prop
def yT (l:List Env):List Addr:=l.filterMap (·.frame)
abbrev Cx.fs (X:Cx):List Addr:=yT X.outer
def Oo (e:Scope)(x:Str):Prop:=e.names.lookup x=some .local\/e.names.lookup x=some .cell\/e.names.lookup x=some .free
def Loc (e:Scope)(x:Str):Prop:=e.names.lookup x=some .local\/e.names.lookup x=some .cell
def Look (env:Env)(h:Heap)(m:Str->Option Value)(x:Str)(u:Value):Prop:=
 (env.kindOf x=some .local/\m x=some u)\/((env.kindOf x=some .cell\/env.kindOf x=some .free)/\∃ c,env.cells.lookup x=some c/\h.IsCell c (some u))
structure Cx.Ok (X:Cx):Prop where
 mod:Mod X.K X.mg X.base
 kind:X.env.scope.kind=.function
 glob:X.env.globals=mainGlobals
 blt:X.env.builtins=builtinsNs
 above:X.s₀.heap.objs.size<=X.env.locals
 inj:∀ x y c,X.env.cells.lookup x=some c->X.env.cells.lookup y=some c->x=y
 has:∀ x,(X.env.kindOf x=some .cell\/X.env.kindOf x=some .free)->∃ c,X.env.cells.lookup x=some c
 cab:∀ x c,X.fn x=true->X.env.cells.lookup x=some c->X.s₀.heap.objs.size<=c
 hd:X.calm=true->X.A.handled=none
 frames:X.A.frames=some X.stack
 stk:X.stack=X.outer\/(X.stack=X.env::X.outer/\X.env.frame=some X.env.locals)
 exf:∀ b∈X.ex,b≠X.env.locals/\∀ x c,X.env.cells.lookup x=some c->c≠b
 bs:∀ b o,X.base.get? b=some o->X.s₀.heap.get? b=some o/\X.H₀ b=none
 bsz:X.base.objs.size<=X.s₀.heap.objs.size
 noex:∀ b o,X.base.get? b=some o->b∉X.ex
 exfs:∀ b∈X.ex,b∉X.fs
 funs:X.s₀.heap.FunFrames X.base X.outer
 frf:∀ b∈X.fs,X.H₀ b=none
structure aI (X:Cx) (pins:List (Addr × Obj)) (σ:List (Option V)) (H:Hp) (s:Shared):Prop where
 ok:X.Ok
 os:s.os=X.s₀.os
 bare:AllBare s.gens
 base:Un X.fs X.ex X.H₀ H X.s₀.heap s.heap
 loc:∃ m,s.heap.Ns X.env.locals m/\∀ (i:Nat) (x:Str) (v:V),X.N[i]?=some x->σ[i]?=some (some v)->Oo X.env.scope x->∃ u,RelV v u/\Look X.env s.heap m x u
 cell:∀ x c,X.env.cells.lookup x=some c->∃ v,s.heap.IsCell c v
 free:H X.env.locals=none
 freeC:∀ x c,X.env.cells.lookup x=some c->H c=none
 pin:∀ p∈X.pn++pins,s.heap.get? p.1=some p.2/\H p.1=none/\p.1≠X.env.locals/\p.1∉X.fs/\∀ v,p.2.data≠.cell v
 hok:gm X.prog X.w H s.heap
 len:σ.length=X.N.length
section
variable {X:Cx}{pins:List (Addr × Obj)}{σ:List (Option V)}{H H':Hp}{s:Shared}{h':Heap}
theorem Cx.Ok.nofr (ok:X.Ok)(e:X.base.get? b=some o):b∉X.fs:=λh=>by
 have:=(ok.funs.mem h).1;rw[e]at this;cases this
theorem aI.bs (I:aI X pins σ H s):∀ b o,X.base.get? b=some o->s.heap.get? b=some o/\H b=none:=λb o e=>
 ⟨I.base.keep b o (I.ok.bs b o e).1 (I.ok.bs b o e).2 (I.ok.nofr e) (I.ok.noex b o e),I.base.free b o (I.ok.bs b o e).1 (I.ok.bs b o e).2 (I.ok.noex b o e)⟩
theorem aI.bk (I:aI X pins σ H s):∀ b o,X.base.get? b=some o->s.heap.get? b=some o:=λb o e=>(I.bs b o e).1
theorem aI.mod (I:aI X pins σ H s):Mod X.K X.mg X.base:=I.ok.mod
theorem aI.kIn (I:aI X pins σ H s):X.K.In s.heap:=I.ok.mod.kin.keeps I.bk
theorem aI.nolimit (I:aI X pins σ H s):s.heap.NoLimit:=I.ok.mod.nolimit.keeps I.bk
theorem aI.fr (I:aI X pins σ H s):∃ m,Fr X.base X.env.locals s.heap m:=
 let ⟨m,hn,_⟩:=I.loc
 ⟨m,hn,I.bk,le_trans I.ok.bsz I.ok.above⟩
theorem aI.lt (I:aI X pins σ H s):X.env.locals<s.heap.objs.size:=let ⟨_,hn,_⟩:=I.loc;hn.lt
theorem aI.sz (I:aI X pins σ H s):X.s₀.heap.objs.size<=s.heap.objs.size:=le_trans I.ok.above (Nat.le_of_lt I.lt)
theorem aI.nofs (I:aI X pins σ H s)(h:s.heap.objs.size<=a):a∉X.fs:=λe=>by
 obtain⟨_,o,g,_⟩:=I.ok.funs.mem e;exact absurd (lt_of_lt_of_le (Heap.lt_size g) (le_trans I.sz h)) (lt_irrefl _)
theorem aI.cne (I:aI X pins σ H s):∀ x c,X.env.cells.lookup x=some c->c≠X.env.locals:=λx c e z=>by
 obtain⟨v,o,i,hd⟩:=I.cell x c e;obtain⟨m,⟨g,g,p,g,h,_⟩,_⟩:=I.loc;rw[z,g]at i;cases i;rw[h]at hd;cases hd
theorem aI.funs (I:aI X pins σ H s):s.heap.FunFrames X.base X.outer:=by
 have all:∀ (l:List Env),(∀ b∈yT l,b∈X.fs)->X.s₀.heap.FunFrames X.base l->s.heap.FunFrames X.base l:=by
  intro l
  induction l with
  |nil=>intro _ _;trivial
  |cons env r p=>
   intro i h;obtain⟨k,⟨L,o,g,n,j,hd⟩,m⟩:=h;have h:L∈X.fs:=i L (by unfold yT;rw[filterMap_cons,g];exact mem_cons_self)
   obtain⟨q,e⟩:=I.base.slot L o j (I.ok.frf L h) h λz=>I.ok.exfs L z h;exact⟨k,⟨L,_,g,n,e,hd⟩,p (λb h=>i b (by unfold yT;rw[filterMap_cons,g];exact mem_cons_of_mem _ h)) m⟩
 exact all X.outer (λ_ h=>h) I.ok.funs
theorem aI.stack (I:aI X pins σ H s):s.heap.FunFrames X.base X.stack:=by
 obtain e|⟨e,h⟩:=I.ok.stk
 .rw[e];exact I.funs
 .rw[e];obtain⟨m,n,_⟩:=I.loc;refine .cons (by rw[I.ok.kind];decide) h n ?_ I.funs
  exact Heap.get?_none_of_le (le_trans I.ok.bsz I.ok.above)
theorem aI.stkSub (I:aI X pins σ H s):∀ b∈yT X.stack,b∈X.env.locals::X.fs:=λb h=>by
 obtain e|⟨e,g⟩:=I.ok.stk
 .rw[e]at h;exact mem_cons_of_mem _ h
 .rw[e]at h;unfold yT at h;rw[filterMap_cons,g]at h;exact h
theorem aI.stkFree (I:aI X pins σ H s):∀ b∈yT X.stack,H b=none:=λb h=>by
 obtain e|h:=mem_cons.mp (I.stkSub b h)
 .rw[e];exact I.free
 .obtain⟨_,o,g,_⟩:=I.ok.funs.mem h;exact I.base.free b o g (I.ok.frf b h) λz=>I.ok.exfs b z h
theorem aI.step {g':Array GenState}{t':Nat}{d':Drawn}{ch:List Addr}(I:aI X pins σ H s)
  (j:∀ b∈ch,(b∈X.ex\/X.s₀.heap.objs.size<=b)/\b≠X.env.locals/\(∀ x c,X.env.cells.lookup x=some c->c≠b)/\∀ p∈X.pn++pins,p.1≠b)
  (keep:∀ b o,b≠X.env.locals->b∉X.fs->b∉ch->s.heap.get? b=some o->H b=none->h'.get? b=some o)
  (slot:∀ b o,b≠X.env.locals->b∈X.fs->b∉ch->s.heap.get? b=some o->H b=none->∃ M,h'.get? b=some {o with slots:=M}) (free:∀ b o,b∉ch->s.heap.get? b=some o->H b=none->H' b=none)
  (there:∀ b o,b∉ch->s.heap.get? b=some o->∃ J,h'.get? b=some J)
  (tups:∀ b B,H b=some (.tup B)->H' b=some (.tup B)) (frzs:∀ b o u,H b=some (.frz o u)->H' b=some (.frz o u)) (tbls:∀ b L,H b=some (.tbl L)->∃ g,H' b=some (.tbl (L++g)))
  (ns:∀ m,s.heap.Ns X.env.locals m->h'.Ns X.env.locals m) (hok:gm X.prog X.w H' h') (P:AllBare g') :
  aI X pins σ H' {s with heap:=h',gens:=g',drawn:=d',toks:=t'}:=by
 have G:∀ b o,X.s₀.heap.get? b=some o->b≠X.env.locals:=λb o e=>ne_of_lt (lt_of_lt_of_le (Heap.lt_size e) I.ok.above);have C:∀ b o,X.s₀.heap.get? b=some o->b∉X.ex->b∉ch:=λb o e h D=>by
  obtain z|z:=(j b D).1
  .exact h z
  .exact absurd (lt_of_lt_of_le (Heap.lt_size e) z) (lt_irrefl _)
 have g:∀ x c,X.env.cells.lookup x=some c->∀ v,s.heap.IsCell c v->h'.IsCell c v:=λx c e v ⟨o,E,hd⟩=>by
  have y:c∉ch:=λz=>(j c z).2.2.1 x c e rfl
  by_cases F:c∈X.fs
  .obtain⟨M,q⟩:=slot c o (I.cne x c e) F y E (I.freeC x c e);exact⟨_,q,hd⟩
  .exact⟨o,keep c o (I.cne x c e) F y E (I.freeC x c e),hd⟩
 refine⟨I.ok,I.os,P,⟨λb o e n D h=>?_,λb o e n D h=>?_,λb o e n h=>?_,λb o e h=>?_,λb B e=>tups b B (I.base.tups b B e),λb o B e=>frzs b o B (I.base.frzs b o B e),λb L e=>?_⟩,?_,λx c e=>?_,?_,λx c e=>?_,λp O=>?_,hok,I.len⟩
 .exact keep b o (G b o e) D (C b o e h) (I.base.keep b o e n D h) (I.base.free b o e n h)
 .obtain⟨M,B⟩:=I.base.slot b o e n D h;obtain⟨M,F⟩:=slot b _ (G b o e) D (C b o e h) B (I.base.free b o e n h);exact⟨M,F⟩
 .obtain⟨J,B⟩:=I.base.there b o e h;exact free b J (C b o e h) B (I.base.free b o e n h)
 .obtain⟨J,B⟩:=I.base.there b o e h;exact there b J (C b o e h) B
 .obtain⟨h,B⟩:=I.base.tbls b L e;obtain⟨C,F⟩:=tbls b _ B;exact⟨h++C,by rw[F,Array.append_assoc]⟩
 .obtain⟨m,h,C⟩:=I.loc;refine⟨m,ns m h,λi x v B F h=>?_⟩;obtain⟨u,r,l⟩:=C i x v B F h;refine⟨u,r,?_⟩
  obtain l|⟨k,c,e,z⟩:=l
  .exact .inl l
  .exact .inr ⟨k,c,e,g x c e _ z⟩
 .obtain⟨v,z⟩:=I.cell x c e;exact⟨v,g x c e v z⟩
 .obtain⟨m,⟨o,_,_,E,_⟩,_⟩:=I.loc;exact free _ o (λz=>(j _ z).2.1 rfl) E I.free
 .obtain⟨v,o,E,hd⟩:=I.cell x c e;exact free c o (λz=>(j c z).2.2.1 x c e rfl) E (I.freeC x c e)
 .obtain⟨e,n,ne,g,d⟩:=I.pin p O;have y:p.1∉ch:=λz=>(j p.1 z).2.2.2 p O rfl;exact⟨keep p.1 p.2 ne g y e n,free p.1 p.2 y e n,ne,g,d⟩
theorem aI.un {t':Nat}(I:aI X pins σ H s)(u:Un X.fs [] H H' s.heap h')(hok:gm X.prog X.w H' h'):aI X pins σ H' {s with heap:=h',toks:=t'}:=by
 obtain⟨m,⟨o,g,p,j,r⟩,_⟩:=id I.loc;obtain⟨g,k⟩:=u.any j I.free (by simp)
 exact I.step (g':=s.gens) (d':=s.drawn) (ch:=[]) (λ_ z=>nomatch z) (λb o _ h _ e n=>u.keep b o e n h (by simp)) (λb o _ h _ e n=>u.slot b o e n h (by simp)) (λb o _ e n=>u.free b o e n (by simp)) (λb o _ e=>u.there b o e (by simp)) u.tups u.frzs u.tbls (λg p=>by
  obtain⟨g,i,g,h,q⟩:=p;rw[j]at h;cases h
  exact⟨_,i,g,k,q⟩) hok I.bare
theorem aI.call {g':Array GenState}{t':Nat}{d':Drawn}{ch:List Addr}(I:aI X pins σ H s)(u:Un (yT X.stack) ch H H' s.heap h')(hok:gm X.prog X.w H' h')(v:AllBare g')
  (g:∀ b∈ch,(b∈X.ex\/X.s₀.heap.objs.size<=b)/\b≠X.env.locals/\(∀ x c,X.env.cells.lookup x=some c->c≠b)/\∀ p∈X.pn++pins,p.1≠b) :
  aI X pins σ H' {s with heap:=h',gens:=g',drawn:=d',toks:=t'}:=by
 obtain⟨m,⟨o,h,h,q,r⟩,_⟩:=id I.loc;obtain⟨h,k⟩:=u.any q I.free λz=>(g _ z).2.1 rfl;exact I.step (ch:=ch) g (λb o k i h e n=>u.keep b o e n (λz=>(mem_cons.mp (I.stkSub b z)).elim k i) h) (λb o _ _ h e n=>u.any e n h) (λb o h e n=>u.free b o e n h) (λb o h e=>u.there b o e h) u.tups u.frzs u.tbls (λh y=>by
  obtain⟨h,j,i,h,B⟩:=y;rw[q]at h;cases h
  exact⟨_,j,i,k,B⟩) hok v
theorem aI.turned {t':Nat}{it:Addr}(I:aI X pins σ H s)(k:∀ b o,b≠it->s.heap.get? b=some o->h'.get? b=some o)(F:H it=none)(i:it≠X.env.locals)
  (B:it∈X.ex\/X.s₀.heap.objs.size<=it) (C:∀ x c,X.env.cells.lookup x=some c->c≠it) (D:∀ p∈X.pn++pins,p.1≠it):aI X pins σ H {s with heap:=h',toks:=t'}:=by
 have g:∀ b u,H b=some u->b≠it:=λb u e z=>by rw[z,F]at e;cases e
 refine I.step (g':=s.gens) (d':=s.drawn) (ch:=[it]) (λb j=>?_) (λb o _ _ h e _=>k b o (λz=>h (by simp[z])) e) (λb o _ _ h e _=>⟨o.slots,k b o (λz=>h (by simp[z])) e⟩) (λ_ _ _ _ n=>n)
  (λb o h e=>⟨o,k b o (λz=>h (by simp[z])) e⟩) (λ_ _ e=>e) (λ_ _ _ e=>e) (λb y e=>⟨#[],by rw[e];simp⟩) (λm E=>?_) (λb u e=>?_) I.bare
 .have e:b=it:=by simpa using j
  subst e;exact⟨B,i,C,D⟩
 .obtain⟨o,y,j,G,r⟩:=E;exact⟨o,y,j,k _ o (Ne.symm i) G,r⟩
 .refine(I.hok b u e).stay (λc v h q=>k c v ?_ q) (λ_ q=>q) λ_ _ q=>q
  obtain z|z:=h
  .rw[z];exact g b u e
  .exact g c _ z
theorem aI.tok (I:aI X pins σ H s)(t:Nat):aI X pins σ H {s with toks:=t}:=I.un (h':=s.heap) (t':=t) Un.refl I.hok
theorem aI.kept (I:aI X pins σ H s)(k:∀ b u,s.heap.get? b=some u->h'.get? b=some u):aI X pins σ H {s with heap:=h',toks:=t'}:=I.un (Un.kept k) (I.hok.kept k)
theorem aI.laid (I:aI X pins σ H s)(k:∀ b u,s.heap.get? b=some u->h'.get? b=some u)(h:s.heap.objs.size<=a)(new:eV X.prog X.w (cG H a o) h' a o) :
  aI X pins σ (cG H a o) {s with heap:=h',toks:=t'}:=I.un (Un.laid k h (I.hok.fresh h)) (I.hok.laid k h new)
theorem aI.write (I:aI X pins σ H s)(m:Om (H x))(he:e=x\/H e=some (.own x))(k:∀ b u,b≠e->s.heap.get? b=some u->h'.get? b=some u)(h:∃ u,h'.get? e=some u)
  (new:eV X.prog X.w (cG H x o) h' x o):aI X pins σ (cG H x o) {s with heap:=h',toks:=t'}:=I.un (Un.write m he k h) (I.hok.write m he k h new)
theorem aI.pins_of (I:aI X pins σ H s)(h:∀ p∈e,s.heap.get? p.1=some p.2/\H p.1=none/\p.1≠X.env.locals/\p.1∉X.fs/\∀ v,p.2.data≠.cell v):aI X e σ H s:=
 ⟨I.ok,I.os,I.bare,I.base,I.loc,I.cell,I.free,I.freeC,λp g=>(mem_append.mp g).elim (λz=>I.pin p (mem_append_left _ z)) (h p),I.hok,I.len⟩
theorem uq {N:List Str}(h:N.Nodup){i j:Nat}{x:Str}(a:N[i]?=some x)(b:N[j]?=some x):i=j:=by
 obtain⟨e,e⟩:=List.getElem?_eq_some_iff.mp a;obtain⟨g,g⟩:=List.getElem?_eq_some_iff.mp b;exact(List.getElem_inj h).mp (e.trans g.symm)
theorem qj {M:Model}{A:Around}{E:Value->Shared->Prop}{i:Nat}{x:Str}{v:V}{u:Value}{Q:Unit->Shared->Prop}(I:aI X pins σ H s)(hN:X.N.Nodup)(hi:X.N[i]?=some x)(F:Loc X.env.scope x)(r:RelV v u)
  (h:∀ s',aI X pins (σ.set i (some v)) H s'->(∃ a,Heap.SameBut a s.heap s'.heap/\(a=X.env.locals\/X.env.cells.lookup x=some a))->Q () s') (hf:X.fn x=true\/X.env.scope.names.lookup x=some .local:=by first|exact .inl rfl|exact .inr rfl|assumption):wpAny M A (storeName X.env x u) Q E s:=by
 obtain⟨m,hn,hl⟩:=id I.loc;have hcls:(X.env.scope.kind == .class || (X.env.scope.kind == .module && X.env.locals != X.env.globals))=false:=by rw[I.ok.kind];rfl
 have L:i<σ.length:=by rw[I.len];exact(List.getElem?_eq_some_iff.mp hi).1
 have cne:=I.cne;have C:∀ {a:Addr}{h':Heap},(∃ o,s.heap.get? a=some o/\H a=none)->Heap.SameBut a s.heap h'->gm X.prog X.w H h':=λ{a h'} ha g b ob e=>by
  obtain⟨_,_,G⟩:=ha;refine(I.hok b ob e).stay (λc w' D q=>(g.2 c ?_).trans q) (λ_ q=>q) λ_ _ q=>q;rintro rfl
  obtain rfl|D:=D
  .rw[G]at e;cases e
  .rw[G]at D;cases D
 obtain O|O:=F
 .refine wpAny_storeName_local O hn (λh' hn' g=>?_) hcls;obtain⟨oL,_,_,hoL,_⟩:=id hn;refine h _ ⟨I.ok,I.os,I.bare,⟨λb o e n P F=>?_,λb o e n P F=>?_,I.base.free,λb o e F=>?_,I.base.tups,I.base.frzs,I.base.tbls⟩,⟨_,hn',λj y v' B J e3=>?_⟩,λy c e=>?_,I.free,I.freeC,λp hp=>?_,C ⟨oL,hoL,I.free⟩ g,by simpa using I.len⟩ ⟨_,g,.inl rfl⟩
  .exact(g.2 b (ne_of_lt (lt_of_lt_of_le (Heap.lt_size e) I.ok.above))).trans (I.base.keep b o e n P F)
  .obtain⟨sl,B⟩:=I.base.slot b o e n P F;exact⟨sl,(g.2 b (ne_of_lt (lt_of_lt_of_le (Heap.lt_size e) I.ok.above))).trans B⟩
  .obtain⟨o',B⟩:=I.base.there b o e F;exact⟨o',(g.2 b (ne_of_lt (lt_of_lt_of_le (Heap.lt_size e) I.ok.above))).trans B⟩
  .by_cases U:j=i
   .subst U;rw[hi]at B;cases B
    rw[getElem?_set_self L]at J
    cases J
    exact⟨u,r,.inl ⟨O,by simp⟩⟩
   .rw[getElem?_set_ne (Ne.symm U)]at J;obtain⟨u',r',q⟩:=hl j y v' B J e3;refine⟨u',r',?_⟩
    obtain⟨k,e⟩|⟨k,c,e,z⟩:=q
    .refine .inl ⟨k,?_⟩;have:y≠x:=λe=>U (uq hN B (e ▸ hi));simp[this,e]
    .exact .inr ⟨k,c,e,z.sameBut g (cne y c e)⟩
  .obtain⟨w',z⟩:=I.cell y c e;exact⟨w',z.sameBut g (cne y c e)⟩
  .obtain⟨e,n,ne,nf,d⟩:=I.pin p hp;exact⟨(g.2 p.1 ne).trans e,n,ne,nf,d⟩
 .have R:X.fn x=true:=by
   obtain z|z:=hf
   .exact z
   .rw[z]at O;cases O
  obtain⟨c,D⟩:=I.ok.has x (.inl O);obtain⟨w',z⟩:=I.cell x c D;refine wpAny_storeName_cell I.ok.kind O D z (λh' Y g=>?_);obtain⟨oc,hoc,hocd⟩:=id z;refine h {s with heap:=h'} ⟨I.ok,I.os,I.bare,⟨λb o e n P F=>?_,λb o e n P F=>?_,I.base.free,λb o e F=>?_,I.base.tups,I.base.frzs,I.base.tbls⟩,⟨m,hn.sameBut g (Ne.symm (cne x c D)),λj y v' B J e3=>?_⟩,λy c' e=>?_,I.free,I.freeC,λp hp=>?_,C ⟨oc,hoc,I.freeC x c D⟩ g,by simpa using I.len⟩ ⟨c,g,.inr D⟩
  .exact(g.2 b (ne_of_lt (lt_of_lt_of_le (Heap.lt_size e) (I.ok.cab x c R D)))).trans (I.base.keep b o e n P F)
  .obtain⟨sl,B⟩:=I.base.slot b o e n P F;exact⟨sl,(g.2 b (ne_of_lt (lt_of_lt_of_le (Heap.lt_size e) (I.ok.cab x c R D)))).trans B⟩
  .obtain⟨o',B⟩:=I.base.there b o e F;exact⟨o',(g.2 b (ne_of_lt (lt_of_lt_of_le (Heap.lt_size e) (I.ok.cab x c R D)))).trans B⟩
  .by_cases U:j=i
   .subst U;rw[hi]at B;cases B
    rw[getElem?_set_self L]at J
    cases J
    exact⟨u,r,.inr ⟨.inl O,c,D,Y⟩⟩
   .rw[getElem?_set_ne (Ne.symm U)]at J;obtain⟨u',r',q⟩:=hl j y v' B J e3;refine⟨u',r',?_⟩
    obtain q|⟨k,c',e,z'⟩:=q
    .exact .inl q
    .refine .inr ⟨k,c',e,z'.sameBut g ?_⟩;rintro rfl;exact U (uq hN B (I.ok.inj _ _ _ e D ▸ hi))
  .by_cases Z:c'=c
   .subst Z;exact⟨_,Y⟩
   .obtain⟨w2,z2⟩:=I.cell y c' e;exact⟨w2,z2.sameBut g Z⟩
  .obtain⟨e,n,ne,nf,d⟩:=I.pin p hp;refine⟨(g.2 p.1 ?_).trans e,n,ne,nf,d⟩;intro q;rw[q,hoc]at e;have q':oc=p.2:=Option.some.inj e;exact d w' (by rw[<-q'];exact hocd)
theorem kB (I:aI X pins σ H s)(n:X.N.Nodup)(hi:X.N[i]?=some x)(k:Loc X.env.scope x)(r:RelV v u)
  (h:∀ e,aI X pins (σ.set i (some v)) H e->Q () e) (j:X.fn x=true\/X.env.scope.names.lookup x=some .local:=by first|exact .inl rfl|exact .inr rfl|assumption):wpAny M A (storeName X.env x u) Q E s:=
 qj I n hi k r (λe g _=>h e g) j
end
abbrev XK:=Value->Option Addr->Hp->Prop
abbrev St:=List (Option V)
abbrev VK:=V->Hp->Prop
abbrev TE:=St->Hp->VK->Prop
abbrev TT:=St->Hp->(Bool->Hp->Prop)->Prop
abbrev TA:=St->Hp->(List V->Hp->Prop)->Prop
structure Ends where
 nx:St->Hp->Prop
 rt:VK
 bk:St->Hp->Prop:=λ_ _=>False
 ct:St->Hp->Prop:=λ_ _=>False
abbrev TS:=Ends->St->Hp->Prop
def EP (X:Cx)(pins:List (Addr × Obj))(σ:St)(Q:VK)(u:Value)(e:Shared):Prop:=∃ v h,aI X pins σ h e/\RelV v u/\Q v h
def TP (X:Cx)(pins:List (Addr × Obj))(σ:St)(Q:Bool->Hp->Prop)(b:Bool)(e:Shared):Prop:=∃ h,aI X pins σ h e/\Q b h
def AP (X:Cx)(pins:List (Addr × Obj))(σ:St)(Q:List V->Hp->Prop)(us:List Value)(e:Shared):Prop:=∃ v h,aI X pins σ h e/\aP v us/\Q v h
def SP (X:Cx)(pins:List (Addr × Obj))(D:Ends)(f:Flow)(g:Shared):Prop:=
 match f with
 | .next=>∃ e h,aI X pins e h g/\D.nx e h
 | .brk=>∃ e h,aI X pins e h g/\D.bk e h
 | .cont=>∃ e h,aI X pins e h g/\D.ct e h
 | .ret u=>∃ v e h,aI X pins e h g/\RelV v u/\D.rt v h
def PE (X:Cx)(e:Expr)(t:TE):Prop:=
 ∀ (p:List (Addr × Obj)) (s:Shared) (g:St) (H:Hp) (Q:VK),aI X p g H s->t g H Q->wpAny (model X.prog X.w) X.A (eval e X.env) (EP X p g Q) X.xe s
def PT (X:Cx)(e:Expr)(t:TT):Prop:=
 ∀ (p:List (Addr × Obj)) (s:Shared) (g:St) (H:Hp) (Q:Bool->Hp->Prop),aI X p g H s->t g H Q->wpAny (model X.prog X.w) X.A (isTrue e X.env (eval e X.env)) (TP X p g Q) X.xe s
def PW (X:Cx)(e:Expr)(t:TT):Prop:=
 ∀ (g:Sem Value) (p:List (Addr × Obj)) (s:Shared) (h:St) (H:Hp) (Q:Bool->Hp->Prop),aI X p h H s->t h H Q->wpAny (model X.prog X.w) X.A (isTrue e X.env g) (TP X p h Q) X.xe s
theorem PW.pt (h:PW X e t):PT X e t:=h _
def PA (X:Cx)(es:List Expr)(t:TA):Prop:=
 ∀ (e:Pos) (p:List (Addr × Obj)) (s:Shared) (g:St) (H:Hp) (Q:List V->Hp->Prop),aI X p g H s->t g H Q->wpAny (model X.prog X.w) X.A (spliced (backTo e (starEach es X.env))) (AP X p g Q) X.xe s
def PS (X:Cx)(st:Stmt)(t:TS):Prop:=
 ∀ (p:List (Addr × Obj)) (s:Shared) (e:St) (H:Hp) (D:Ends),aI X p e H s->t D e H->wpAny (model X.prog X.w) X.A (exec st X.env) (SP X p D) X.xe s
def jT (X:Cx)(st:List Stmt)(t:TS):Prop:=
 ∀ (p:List (Addr × Obj)) (s:Shared) (e:St) (H:Hp) (D:Ends),aI X p e H s->t D e H->wpAny (model X.prog X.w) X.A (execs st X.env) (SP X p D) X.xe s
theorem cM (h:wpAny M A t Q E s)(e:∀ a s,Q a s->q a s):wpAny M A t q E s:=wpAny_mono h e λ_ _ x=>x
section
variable {X:Cx}
def uM (i:Nat):TE:=λe H Q=>∃ v,e[i]?=some (some v)/\Q v H
def tC (v:V):TE:=λ_ H Q=>Q v H
theorem DU (q:X.N[i]?=some x) (B:Oo X.env.scope x) (hd:(x == ("__debug__":Str))=false:=by decide) (j:(x == ("__classdict__":Str))=false:=by decide):PE X (.Name x o) (uM i):=by
 intro p s k H Q I h;obtain⟨v,e,h⟩:=h;obtain⟨m,z,g⟩:=I.loc;obtain⟨u,r,l⟩:=g i x v q e B;have n:EP X p k Q u s:=⟨v,H,I,r,h⟩
 obtain⟨k,y⟩|⟨k,c,p,g⟩:=l
 .exact wpAny_Name (wpAny_loadName_local I.ok.kind k z y n) hd
 .rcases k with k|k
  .exact wpAny_Name (wpAny_loadName_cell I.ok.kind k p g n) hd
  .exact wpAny_Name (wpAny_loadName_free I.ok.kind k p g n j) hd
theorem KZ {i j p}:PE X (.Constant (.int i) j p) (tC (.int i)):=λ_ _ _ H _ I h=>wpAny_Constant_int ⟨.int i,H,I.tok _,⟨_,rfl⟩,h⟩
theorem NI {b j p}:PE X (.Constant (.bool b) j p) (tC (.bl b)):=λ_ _ _ H _ I h=>Constant_bool ⟨.bl b,H,I,rfl,h⟩
theorem K2 {j p}:PE X (.Constant .none j p) (tC .non):=λ_ _ _ H _ I h=>Constant_none ⟨.non,H,I,rfl,h⟩
theorem K3 {x j p}:PE X (.Constant (.str x) j p) (tC (.str x)):=λ_ _ _ H _ I h=>Calls.Constant_str ⟨.str x,H,I.tok _,⟨_,rfl⟩,h⟩
def Gl (X:Cx)(x:Str):Prop:=X.env.kindOf x=some .globalImplicit
theorem Gd (I:aI X pins σ H s)(g:Gl X x)(m:X.mg x=some u)(h:Q u s)
  (hd:(x == ("__debug__":Str))=false:=by decide):wpAny (model X.prog X.w) X.A (eval (.Name x p) X.env) Q E s:=
 Calls.Name_function_global I.ok.kind g (Calls.loadGlobal_global (by rw[I.ok.glob];exact I.mod.glob.keeps I.bk) m h) hd
theorem ij (I:aI X pins σ H s)(i:Gl X x)(m:X.mg x=none)(v:bootBuiltins x=some u)(h:Q u s)
  (n:x≠"__name__":=by decide) (hd:(x == ("__debug__":Str))=false:=by decide):wpAny (model X.prog X.w) X.A (eval (.Name x p) X.env) Q E s:=by
 obtain⟨e,e,g⟩:=I.mod.blt;exact Calls.Name_function_global I.ok.kind i (Calls.loadGlobal_builtin (by rw[I.ok.glob];exact I.mod.glob.keeps I.bk) m (by rw[I.ok.blt];exact e.keeps I.bk) ((g x n).trans v) h) hd
variable {a b:Expr}{ta tb:TE}{pos:Pos}
def tB (t:TE):TT:=λe H Q=>t e H λx h=>∃ c,x=.bl c/\Q c h
theorem Ld (h:PE X e t)(he:∀ g,isTrue e X.env g=(do let v ← g;standAt e.pos;holding [v] (truthy v)):=by intro _;rfl):PT X e (tB t):=by
 intro p s i H Q I g;refine isTrue_plain (cM (h p s i H _ I g) ?_) (he _);rintro v g ⟨x,g,i,k,j⟩;obtain⟨d,rfl,q⟩:=j
 cases k
 exact wpAny_truthy_bool ⟨g,i,q⟩
variable {tA tB':TT}{rest:List Expr}
def Pd (t u:TT):TT:=λe H Q=>t e H λc h=>if c=true then u e h Q else Q false h
def P7 (t u:TT):TT:=λe H Q=>t e H λc h=>if c=true then Q true h else u e h Q
theorem Hg (g:PT X a tA):PW X (.BoolOp .And [a] pos) tA:=by
 intro i p s i H Q I h;refine isTrue_and (cM (g p s i H Q I h) λc i e=>?_)
 cases c with
 |true=>exact isTrue_and_nil e
 |false=>exact e
theorem Lh (g:PT X a tA):PW X (.BoolOp .Or [a] pos) tA:=by
 intro i p s i H Q I h;refine isTrue_or (cM (g p s i H Q I h) λc i e=>?_)
 cases c with
 |false=>exact isTrue_or_nil e
 |true=>exact e
theorem Lg (j:PT X a tA)(k:PW X (.BoolOp .And (b::rest) pos) tB'):PW X (.BoolOp .And (a::b::rest) pos) (Pd tA tB'):=by
 intro n p s g H Q I h;refine isTrue_and (cM (j p s g H _ I h) ?_);rintro c m ⟨e,i,q⟩
 cases c with
 |true=>exact k n p m g e Q i q
 |false=>exact⟨e,i,q⟩
theorem NP (j:PT X a tA)(k:PW X (.BoolOp .Or (b::rest) pos) tB'):PW X (.BoolOp .Or (a::b::rest) pos) (P7 tA tB'):=by
 intro n p s g H Q I h;refine isTrue_or (cM (j p s g H _ I h) ?_);rintro c m ⟨e,i,q⟩
 cases c with
 |true=>exact⟨e,i,q⟩
 |false=>exact k n p m g e Q i q
end
def cV (K:Frg)(H:Hp)(a:Addr)(xs:List V):Prop:=
 Rd H a (.lst xs) ∨
  ∃ (o:Obj) (i:Array Value) (n:Nat),K.lookup a=some o/\o.cls=.type "list"/\o.dict=none/\o.data=.seq i n/\i.size<=sizeLine/\aP xs i.toList
def je (K:Frg)(H:Hp)(a:Addr)(xs:List V):Prop:=
 Rd H a (.tup xs) ∨
  ∃ (o:Obj) (i:Array Value) (n:Nat),K.lookup a=some o/\o.cls=.type "tuple"/\o.data=.seq i n/\i.size<=sizeLine/\aP xs i.toList
def OM:Value->Option V
 | .none=>some .non
 | .bool b=>some (.bl b)
 | .int i _=>some (.int i)
 | .str x _=>some (.str x)
 | .bytes b _=>some (.byt b)
 | .float b _=>some (.flt b)
 | .ref a=>some (.ref a)
 | .type n=>some (.ty n)
 |_=>none
theorem RelV.abs (r:RelV x u):OM u=some x:=by
 cases x with
 |non=>cases r;rfl
 |bl _=>cases r;rfl
 |int _=>obtain⟨t,rfl⟩:=r;rfl
 |str _=>obtain⟨t,rfl⟩:=r;rfl
 |byt _=>obtain⟨t,rfl⟩:=r;rfl
 |flt _=>obtain⟨t,rfl⟩:=r;rfl
 |ref _=>cases r;rfl
 |ty _=>cases r;rfl
theorem RelV.inj (r:RelV x u)(q:RelV y u):x=y:=Option.some.inj (r.abs.symm.trans q.abs)
theorem aP.inj:∀ {xs ys:List V}{us:List Value},aP xs us->aP ys us->xs=ys
 |_,_,_,.nil,.nil=>rfl
 |_,_,_,.cons r t,.cons r' t'=>by rw[r.inj r',aP.inj t t']
section
variable {X:Cx}{pins:List (Addr × Obj)}{σ:St}{H:Hp}{s:Shared}{a:Addr}{xs ys:List V}
theorem cV.of {K:Frg}(h:H a=some (.lst xs)):cV K H a xs:=.inl (.inl h)
theorem je.of {K:Frg}(h:H a=some (.tup xs)):je K H a xs:=.inl (.inl h)
theorem aI.list (I:aI X pins σ H s)(h:cV X.K H a xs):∃ its:List Value,aP xs its/\PlainL s.heap a its.toArray/\xs.length<=sizeLine:=by
 obtain h|⟨o,its,n,k,g,hd,i,hz,r⟩:=h
 .obtain⟨z,its,n,r,e⟩:=h.ok I.hok;exact⟨its,r,⟨_,n,e,rfl,rfl,rfl⟩,z⟩
 .refine⟨its.toList,r,⟨o,n,I.kIn a o k,g,hd,by simpa using i⟩,?_⟩
  have e:=r.length;simp only[length_toList]at e;ext
theorem aI.tuple (I:aI X pins σ H s)(h:je X.K H a xs):∃ its:List Value,aP xs its/\IsTup s.heap a its.toArray/\xs.length<=sizeLine:=by
 obtain h|⟨o,its,n,k,g,i,hz,r⟩:=h
 .obtain⟨z,its,r,p⟩:=h.ok I.hok;exact⟨its,r,p,z⟩
 .refine⟨its.toList,r,⟨o,I.kIn a o k,g,n,by simpa using i⟩,?_⟩
  have e:=r.length;simp only[length_toList]at e;ext
theorem aI.list_inj (I:aI X pins σ H s)(h:cV X.K H a xs)(h':cV X.K H a ys):xs=ys:=by
 obtain⟨g,r,⟨o,n,e,_,_,d⟩,_⟩:=I.list h;obtain⟨i,m,⟨j,j,k,_,_,j⟩,_⟩:=I.list h';rw[e]at k;cases k
 rw[d]at j
 injection j with d1 _
 have:g=i:=by simpa using congrArg Array.toList d1
 subst this;exact r.inj m
theorem aI.tuple_inj (I:aI X pins σ H s)(h:je X.K H a xs)(h':je X.K H a ys):xs=ys:=by
 obtain⟨g,r,⟨o,e,_,n,d⟩,_⟩:=I.tuple h;obtain⟨i,m,⟨j,k,_,j,j⟩,_⟩:=I.tuple h';rw[e]at k;cases k
 rw[d]at j
 injection j with d1 _
 have:g=i:=by simpa using congrArg Array.toList d1
 subst this;exact r.inj m
end
abbrev Cx.wish (X:Cx)(E:Value->Shared->Prop):Cx:={X with xe:=E}
abbrev Cx.nox (X:Cx):Cx:=X.wish λ_ _=>False
theorem Cx.Ok.wish {X:Cx}(ok:X.Ok)(E:Value->Shared->Prop):(X.wish E).Ok:=
 ⟨ok.mod,ok.kind,ok.glob,ok.blt,ok.above,ok.inj,ok.has,ok.cab,ok.hd,ok.frames,ok.stk,ok.exf,ok.bs,ok.bsz,ok.noex,ok.exfs,ok.funs,ok.frf⟩
theorem Cx.Ok.unwish {X:Cx}{E:Value->Shared->Prop}(ok:(X.wish E).Ok):X.Ok:=
 ⟨ok.mod,ok.kind,ok.glob,ok.blt,ok.above,ok.inj,ok.has,ok.cab,ok.hd,ok.frames,ok.stk,ok.exf,ok.bs,ok.bsz,ok.noex,ok.exfs,ok.funs,ok.frf⟩
section
variable {X:Cx}{pins:List (Addr × Obj)}{σ:St}{H:Hp}{s:Shared}{E:Value->Shared->Prop}
theorem aI.wish (I:aI X pins σ H s)(E:Value->Shared->Prop):aI (X.wish E) pins σ H s:=⟨I.ok.wish E,I.os,I.bare,I.base,I.loc,I.cell,I.free,I.freeC,I.pin,I.hok,I.len⟩
theorem aI.unwish (I:aI (X.wish E) pins σ H s):aI X pins σ H s:=⟨I.ok.unwish,I.os,I.bare,I.base,I.loc,I.cell,I.free,I.freeC,I.pin,I.hok,I.len⟩
theorem SP.unwish (h:SP (X.wish E) pins D f i):SP X pins D f i:=by
 cases f with
 |next=>obtain⟨e,g,I,q⟩:=h;exact⟨e,g,I.unwish,q⟩
 |brk=>obtain⟨e,g,I,q⟩:=h;exact⟨e,g,I.unwish,q⟩
 |cont=>obtain⟨e,g,I,q⟩:=h;exact⟨e,g,I.unwish,q⟩
 |ret u=>obtain⟨v,e,g,I,r,q⟩:=h;exact⟨v,e,g,I.unwish,r,q⟩
theorem PE.nox (h:PE X.nox e t):PE X e t:=λpins s σ H Q I g=>
 wpAny_mono (h pins s σ H Q (I.wish _) g) (by rintro _ _ ⟨v,g,i,r,q⟩;exact⟨v,g,i.unwish,r,q⟩) λ_ _ z=>False.elim z
theorem PT.nox (h:PT X.nox e t):PT X e t:=λpins s σ H Q I g=>
 wpAny_mono (h pins s σ H Q (I.wish _) g) (by rintro _ _ ⟨g,i,q⟩;exact⟨g,i.unwish,q⟩) λ_ _ z=>False.elim z
theorem jT.nox {st:List Stmt}{t:TS}(h:jT X.nox st t):jT X st t:=λpins s σ H D I e=>
 wpAny_mono (h pins s σ H D (I.wish _) e) (λ_ _ q=>q.unwish) λ_ _ z=>False.elim z
end
section
variable {X:Cx}{st:Stmt}{rest:List Stmt}{t u:TS}{e:Expr}{te:TE}{pos:Pos}
def N0:TS:=λD g H=>D.nx g H
def Pk (t u:TS):TS:=λD g H=>t {D with nx:=u D} g H
theorem G3:jT X [] N0:=λ_ _ g H _ I h=>wpAny_execs_nil ⟨g,H,I,h⟩
theorem uz (k:PS X st t)(m:jT X rest u):jT X (st::rest) (Pk t u):=by
 intro p s o H D I h;refine wpAny_execs_cons (cM (k p s o H {D with nx:=u D} I h) λf n q=>?_)
 cases f with
 |next=>
  obtain⟨g,i,j,q⟩:=q;exact m p n g i D j q
 |ret v=>exact q
 |brk=>exact q
 |cont=>exact q
theorem G4 (g:PS X st t):jT X [st] t:=by
 intro p s i H D I h;refine wpAny_execs_cons (cM (g p s i H D I h) λf j q=>?_)
 cases f with
 |next=>exact wpAny_execs_nil q
 |ret v=>exact q
 |brk=>exact q
 |cont=>exact q
theorem aI.quiet (I:aI X pins σ H s):interactive X.env=false:=by simp[interactive,I.ok.kind]
def NZ (te:TE):TS:=λD g H=>te g H λ_ h=>D.nx g h
theorem my (he:PE X e te)(hs:swapsWith e none pos.line X.env=pure false:=by rfl):PS X (.Expr e pos) (NZ te):=by
 intro p s g H D I h;exact wpAny_Expr_any (cM (he p s g H _ I h) <| by rintro v i ⟨x,i,j,k,q⟩;exact⟨g,i,j,q⟩) I.quiet hs
def Pj (te:TE):TS:=λD g H=>te g H D.rt
theorem wj (he:PE X e te):PS X (.Return (some e) pos) (Pj te):=by
 intro p s g H D I h;exact wpAny_Return_some (cM (he p s g H _ I h) <| by rintro v i ⟨x,i,j,k,q⟩;exact⟨x,g,i,j,k,q⟩)
def Pg (c:TT)(t u:TS):TS:=λD g H=>c g H λb h=>if b=true then t D g h else u D g h
theorem NN (v:PT X c m)(n:jT X a t)(o:jT X b u):PS X (.If c a b pos) (Pg m t u):=by
 intro p s g H D I h;refine wpAny_If (cM (v p s g H _ I h) ?_);rintro d k ⟨i,j,q⟩
 cases d with
 |true=>exact n p k g i D j q
 |false=>exact o p k g i D j q
def LB:TS:=λ_ _ _=>False
theorem D0:PS X st LB:=λ_ _ _ _ _ _ h=>h.elim
end
abbrev TG:=V->St->Hp->(St->Hp->Prop)->Prop
abbrev ID:=List V->St->Hp->(St->Hp->Prop)->Prop
def PG (X:Cx)(e:Expr)(t:TG):Prop:=
 ∀ (p:List (Addr × Obj)) (s:Shared) (g:St) (H:Hp) (v:V) (u:Value) (Q:St->Hp->Prop),aI X p g H s->RelV v u->t v g H Q →
  wpAny (model X.prog X.w) X.A (assign e X.env u) (λ_ i=>∃ g h,aI X p g h i/\Q g h) X.xe s
def zT (X:Cx)(ts:List Expr)(t:ID):Prop:=
 ∀ (p:List (Addr × Obj)) (s:Shared) (g:St) (H:Hp) (v:List V) (e:List Value) (Q:St->Hp->Prop),aI X p g H s->aP v e->t v g H Q →
  wpAny (model X.prog X.w) X.A (assignInOrder ((assignEach ts X.env).map (·.2)) e) (λ_ g=>∃ e h,aI X p e h g/\Q e h) X.xe s
abbrev Mh:=V->V->V->Hp->(Hp->Prop)->Prop
def Mf (X:Cx)(t:Mh):Prop:=
 ∀ (p:List (Addr × Obj)) (s:Shared) (g:St) (H:Hp) (o i v:V) (ov e u:Value) (Q:Hp->Prop),aI X p g H s->RelV o ov->RelV i e->RelV v u->t o i v H Q →
  wpAny (model X.prog X.w) X.A (setItem ov e u) (λ_ e=>∃ h,aI X p g h e/\Q h) X.xe s
section
variable {X:Cx}{pos:Pos}
def BK (i:Nat):TG:=λv e H Q=>Q (e.set i (some v)) H
theorem GV (n:X.N.Nodup)(hi:X.N[i]?=some x)(j:Loc X.env.scope x)(g:X.fn x=true\/X.env.scope.names.lookup x=some .local:=by first|exact .inl rfl|exact .inr rfl|assumption):PG X (.Name x pos) (BK i):=by
 intro p s m H v u Q I r h;exact wpAny_assign_Name (kB I n hi j r (λk e=>⟨_,H,e,h⟩) g)
def OP:ID:=λv e H Q=>v=[]/\Q e H
def Nc (t:TG)(u:ID):ID:=λe g H Q=>∃ v r,e=v::r/\t v g H λe h=>u r e h Q
theorem GW:zT X [] OP:=by
 intro p s g H v i Q I r h;obtain⟨e,h⟩:=h;subst e
 cases r
 exact assignInOrder_nil ⟨g,H,I,h⟩
theorem DV (k:PG X e t)(m:zT X es u)
  (hs:(assignEach (e::es) X.env).map (·.2)=assign e X.env::(assignEach es X.env).map (·.2):=by rfl):zT X (e::es) (Nc t u):=by
 intro p s i H g g Q I r h;obtain⟨v,g,g,h⟩:=h;subst g
 cases r with
 |cons r n=>
  rw[hs];refine assignInOrder_cons (cM (k p s i H _ _ _ I r h) ?_);rintro _ o ⟨g,i,j,q⟩;exact m p o g i _ _ Q j n q
def OS (K:Frg)(n:Nat)(t:ID):TG:=λv e H Q=>∃ a x,v=.ref a/\je K H a x/\x.length=n/\t x e H Q
theorem K6 (y:X.calm=true)(h:zT X es t)
  (z:(assignEach es X.env).length=n:=by rfl) (g:(assignEach es X.env).findIdx? (·.1)=none:=by rfl):PG X (.Tuple es k pos) (OS X.K n t):=by
 intro p s m H v u Q I r i;obtain⟨a,C,j,x,q,i⟩:=i;subst j
 cases r
 obtain⟨j,j,B,hz⟩:=I.tuple x;refine assign_Tuple_tuple (I.ok.hd y) B (by simp[z,<-q,j.length]) g λx B=>?_
 have q:aI X p m H {s with heap:=x}:=I.kept (t':=s.toks) λb o e=>B b o (ne_of_lt (Heap.lt_size e)) e;exact h p _ m H C _ Q q (by simpa using j) i
def OQ (to g:TE)(t:Mh):TG:=λv e H Q=>to e H λo h=>g e h λi h=>t o i v h λh=>Q e h
theorem K5 (ho:PE X o to)(hi:PE X i ti)(hs:Mf X t)
  (ha:∀ v,assign (.Subscript o i pos) X.env v=(do
   let ov ← holding [v] (eval o X.env)
   let iv ← holding [v,ov] (eval i X.env)
   standAt pos
   holding [v,ov,iv] (setItem ov iv v)
   release [v,ov,iv] []):=by intro _;rfl):PG X (.Subscript o i pos) (OQ to ti t):=by
 intro pins s σ H v u Q I r h;rw[ha];refine wpAny_bind (wpAny_holding (cM (ho pins s σ H _ I h) ?_));rintro ov s1 ⟨x,H1,I1,r1,q1⟩;refine wpAny_bind (wpAny_holding (cM (hi pins s1 σ H1 _ I1 q1) ?_));rintro iv s2 ⟨y,H2,I2,r2,q2⟩;refine wpAny_bind (wpAny_standAt (wpAny_bind (wpAny_holding (cM (hs pins s2 σ H2 x y v ov iv u _ I2 r1 r2 r q2) ?_))));rintro _ s3 ⟨H3,I3,q3⟩;exact wpAny_release ⟨σ,H3,I3,q3⟩
def LA (te:TE)(g:TG):TS:=λD e H=>te e H λx h=>g x e h D.nx
theorem DZ (he:PE X e te)(o:PG X i g)(hs:swapsWithSole [i] e pos.line X.env=pure false:=by rfl)(y:swappedStores [i] e X.env=pure none:=by rfl)
  (n:(assignEach [i] X.env).map (·.2)=[assign i X.env]:=by rfl):PS X (.Assign [i] e pos) (LA te g):=by
 intro p s j H D I h;refine wpAny_Assign_stores (cM (he p s j H _ I h) ?_) hs y;rintro v C ⟨x,k,m,B,z⟩;rw[n];exact cM (o p C j k x v _ m B z) λ_ j q=>q
theorem Lc (n:X.N.Nodup)(hi:X.N[i]?=some x)(q:Loc X.env.scope x)(he:PE X e te)(hs:swapsWith e (some (.Name x p)) pos.line X.env=pure false:=by rfl)(o:X.fn x=true\/X.env.scope.names.lookup x=some .local:=by first|exact .inl rfl|exact .inr rfl|assumption) :
  PS X (.Assign [.Name x p] e pos) (LA te (BK i)):=by
 intro g s C H D I h;refine wpAny_Assign_Name (cM (he g s C H _ I h) ?_) hs;rintro v E ⟨y,j,k,B,z⟩;exact kB k n hi q B (λF m=>⟨_,j,m,z⟩) o
def Pi (i j:Nat)(g:TA):TS:=λD e H=>g e H λk h=>∃ v w,k=[v,w]/\D.nx ((e.set i (some v)).set j (some w)) h
theorem Lb {F E k}(hc:X.calm=true)(Q:X.N.Nodup)(hi:X.N[i]?=some x)(hj:X.N[j]?=some y)(B:i≠j)
  (R:X.env.scope.names.lookup x=some .local) (U:X.env.scope.names.lookup y=some .local) (ha:PA X [a,b] Y)
  (hw:swappedStores [.Tuple [.Name x G,.Name y J] F pt] (.Tuple [a,b] E k) X.env=pure (some [x,y]))
  (hs:swapsWithSole [.Tuple [.Name x G,.Name y J] F pt] (.Tuple [a,b] E k) pos.line X.env=pure false:=by rfl) :
  PS X (.Assign [.Tuple [.Name x G,.Name y J] F pt] (.Tuple [a,b] E k) pos) (Pi i j Y):=by
 intro g s Z H D I h;rw[exec_Assign_arm];refine wpAny_bind (wpAny_standAt ?_);rw[hs];refine wpAny_bind (wpAny_pure ?_);rw[if_neg ⋯]
 refine wpAny_bind (Tuple_ (cM (ha _ g s Z H _ I h) ?_));rintro us m ⟨vs,O,I1,r1,L⟩;obtain⟨v,w,e1,L⟩:=L;subst e1;obtain⟨n,z,rfl,rv,M⟩:∃ n z,us=[n,z]/\RelV v n/\RelV w z:=by
  cases r1 with
  |cons p q=>
   cases q with
   |cons p' q'=>
    cases q'
    exact⟨_,_,rfl,p,p'⟩
 refine wpAny_newObj_type ?_ (by show 2<=sizeLine;decide)
 have I2:aI X g Z O {m with heap:=m.heap.push {cls:=.type "tuple",data:=.seq [n,z].toArray}}:=I1.kept (t':=m.toks) λb o e=>Heap.get?_push_of_some _ e;rw[hw];refine wpAny_bind (wpAny_pure ?_);show wpAny (model X.prog X.w) X.A (do rule "assign.swapped-stores";let items ← unpackItems (.ref m.heap.objs.size) 2 none;assignInOrder [λv=>bindName X.env y v,λv=>bindName X.env x v] items.reverse;pure Flow.next) _ _ _
 refine wpAny_bind (wpAny_rule (wpAny_bind (unpackItems_tuple (items:=#[n,z]) (I.ok.hd hc) (IsTup.new m.heap _) λh' C=>?_)));have I3:=I2.kept (h':=h') (t':=m.toks) λb o e=>C b o (ne_of_lt (Heap.lt_size e)) e;show wpAny _ _ (assignInOrder [λv=>bindName X.env y v,λv=>bindName X.env x v] [z,n] >>= λ_=>pure Flow.next) _ _ _;refine wpAny_bind (assignInOrder_cons (wpAny_bindName (kB I3 Q hj (.inl U) M (λs2 I4=>?_) (.inr U))));refine assignInOrder_cons (wpAny_bindName (kB I4 Q hi (.inl R) rv (λs3 P=>assignInOrder_nil (wpAny_pure ?_)) (.inr R)));rw[List.set_comm _ _ (Ne.symm B)]at P;exact⟨_,O,P,L⟩
end
section
variable {X:Cx}{pos:Pos}
def LF (c:TT)(tb:TS):TS:=λD e H=>∃ W:Nat->St->Hp->Prop,(∃ m,W m e H)/\∀ m e H,W m e H →
 c e H λb i=>if b=true then ∃ N:St->Hp->Prop,(∀ g h,N g h->∃ j,j<m/\W j g h)/\tb {D with nx:=N,ct:=N,bk:=D.nx} e i else D.nx e i
theorem D1 (M:PassesOwn (model X.prog X.w) X.A X.env X.xe)(R:PT X c O)(Q:jT X y tb):PS X (.While c y [] pos) (LF O tb):=by
 intro p s σ H D I h;obtain⟨W,⟨U,w0⟩,j⟩:=h;refine wpAny_While (codeAny_whileLoop (λn Y=>∃ k E,aI X p k E Y/\W n k E) ?_ U ⟨σ,H,I,w0⟩);rintro n Z ⟨g,F,P,w1⟩;refine wpAny_passesOwn M (cM (R p Z g F _ P (j n g F w1)) ?_);rintro b s2 ⟨G,J,q⟩
 cases b with
 |true=>
  obtain⟨N,L,q⟩:=q;rw[if_pos rfl];refine wpAny_passesOwn M (cM (Q p s2 g G _ J q) λf s3 m=>?_)
  cases f with
  |next=>
   obtain⟨e,i,o,B⟩:=m;obtain⟨z,x,C⟩:=L e i B;exact⟨z,x,e,i,o,C⟩
  |cont=>
   obtain⟨e,i,o,B⟩:=m;obtain⟨z,x,C⟩:=L e i B;exact⟨z,x,e,i,o,C⟩
  |brk=>exact m
  |ret v=>exact m
 |false=>
  rw[if_neg Bool.false_ne_true];exact wpAny_execs_nil ⟨g,G,J,q⟩
end
structure It where
 go:Nat->Hp->Prop
 yld:Nat->Hp->V->Hp->Prop
 stop:Nat->Hp->Prop
def mP (X:Cx)(pins:List (Addr × Obj))(H:Hp)(b:Addr):Prop:=
 H b=none/\b≠X.env.locals/\b∉X.fs/\(b∈X.ex\/X.s₀.heap.objs.size<=b)/\(∀ x c,X.env.cells.lookup x=some c->c≠b)/\∀ p∈X.pn++pins,p.1≠b
theorem aI.fpOk (I:aI X pins σ H s)(h:s.heap.objs.size<=b)(n:H' b=none):mP X pins H' b:=by
 refine⟨n,ne_of_gt (lt_of_lt_of_le I.lt h),I.nofs h,.inr (le_trans I.sz h),λx c e z=>?_,λp g z=>?_⟩
 .obtain⟨v,q⟩:=I.cell x c e;exact absurd (lt_of_lt_of_le q.lt (by rw[z];exact h)) (lt_irrefl _)
 .exact absurd (lt_of_lt_of_le (Heap.lt_size (I.pin p g).1) (by rw[z];exact h)) (lt_irrefl _)
structure Turn (P:Program) (w:World) (K:Frg) (tg:Expr) (J:It) (fp:List Addr) (it:Addr) (tn:Nat->Heap->Prop):Prop where
 mem:it∈fp
 obj:∀ i h,tn i h->∀ b∈fp,∃ o,h.get? b=some o/\∀ v,o.data≠.cell v
 keep:∀ i h h',tn i h->(∀ b∈fp,∀ o,h.get? b=some o->h'.get? b=some o)->tn i h'
 item:∀ (X:Cx),X.prog=P->X.w=w->X.K=K->X.calm=true->∀ (i:Nat) (pins:List (Addr × Obj)) (s:Shared) (σ:St) (H:Hp) (E:Value->Shared->Prop),aI X pins σ H s->(∀ b∈fp,mP X pins H b)->tn i s.heap->J.go i H →
  wpAny (model P w) X.A (pyNext (.ref it)) (λr s1=>∃ u,r=some u ∧
   wpAny (model P w) X.A (letOwnedTupleGo tg (.ref it) u) (λ_ s2=>∃ x H',aI X pins σ H' s2/\RelV x u/\J.yld i H x H'/\tn (i+1) s2.heap/\∀ b∈fp,H' b=none) E s1) E s
 done:∀ (X:Cx),X.prog=P->X.w=w->X.K=K->X.calm=true->∀ (i:Nat) (pins:List (Addr × Obj)) (s:Shared) (σ:St) (H:Hp) (E:Value->Shared->Prop),aI X pins σ H s->(∀ b∈fp,mP X pins H b)->tn i s.heap->J.stop i H →
  wpAny (model P w) X.A (pyNext (.ref it)) (λr s1=>r=none/\aI X pins σ H s1) E s
 self:∀ (A:Around) (i:Nat) (s:Shared) (Q:Value->Shared->Prop) (E:Value->Shared->Prop),tn i s.heap->Q (.ref it) s->wpAny (model P w) A (pyIter (.ref it)) Q E s
abbrev TI:=St->Hp->(It->Hp->Prop)->Prop
def PB (X:Cx)(pins:List (Addr × Obj))(σ:St)(j:Expr)(R:It->Hp->Prop)(i:Value)(g:Shared):Prop:=
 ∃ (e:Addr) (p:List Addr) (n:Nat->Heap->Prop) (J:It) (h:Hp),i=.ref e/\aI X pins σ h g/\Turn X.prog X.w X.K j J p e n/\n 0 g.heap/\(∀ b∈p,mP X pins h b)/\R J h
def PI (X:Cx)(h i:Expr)(j:TI):Prop:=
 ∀ (p:List (Addr × Obj)) (s:Shared) (e:St) (H:Hp) (R:It->Hp->Prop),aI X p e H s->j e H R →
  wpAny (model X.prog X.w) X.A (eval i X.env) (λv g=>wpAny (model X.prog X.w) X.A (pyIter v) (PB X p e h R) X.xe g) X.xe s
theorem BN (j:s.heap.get? it=some o)(e:o.cls=.type n)(hd:o.data=.fields vs)
  (i:["enumerate","zip","dict_itemiterator","dict_reverseitemiterator","odict_iterator","itertools.zip_longest","itertools.pairwise"].contains n=false) (q:Q () s):wpAny M A (letOwnedTupleGo g (.ref it) u) Q E s:=by
 unfold letOwnedTupleGo
 cases g <;> first
  |exact wpAny_pure q
  | (cases u <;> first
    |exact wpAny_pure q
    | (
      refine wpAny_bind (wpAny_load j ?_);rw[e,hd];show wpAny M A (if (["enumerate","zip","dict_itemiterator","dict_reverseitemiterator","odict_iterator","itertools.zip_longest","itertools.pairwise"].contains n && vs[0]? == some (rawInt _))=true then _ else _) Q E s
      rw[if_neg (by intro h;rw[i,Bool.false_and]at h;cases h)]
      exact wpAny_pure q))
def OA (K:Frg)(a:Addr):It:=
 ⟨λi H=>∃ e x,cV K H a e/\e[i]?=some x,λi H x h=>h=H/\∀ e,cV K H a e->e[i]?=some x,λi H=>∃ e,cV K H a e/\e.length<=i⟩
def OB (K:Frg)(a:Addr):It:=
 ⟨λi H=>∃ e x,je K H a e/\e[i]?=some x,λi H x h=>h=H/\∀ e,je K H a e->e[i]?=some x,λi H=>∃ e,je K H a e/\e.length<=i⟩
def Ol (lo:Int)(n:Nat):It:=⟨λi _=>i<n,λi H x h=>h=H/\x=.int (lo+i),λi _=>n<=i⟩
theorem zK {P:Program}{w:World}{K:Frg}{tg:Expr}(a it:Addr):Turn P w K tg (OA K a) [it] it (λi h=>h.IsListIter it a i) where
 mem:=by simp
 obj:=λi h g b m=>by
  have e:b=it:=by simpa using m
  subst e;obtain⟨o,e,c,d⟩:=g;exact⟨o,e,λv z=>by rw[d]at z;cases z⟩
 keep:=λi h q g k=>g.at λo e=>k it (by simp) o e
 item:=by
  intro X M Q L Z i j s σ H E I y g O;subst M Q L;obtain⟨xs,x,B,R⟩:=O;obtain⟨U,Y,p,hz⟩:=I.list B;obtain⟨u,n,ru⟩:=Y.get R;obtain⟨C,D,f2,F,G,J⟩:=y it (by simp)
  refine wpAny_pyNext_list_item g p.isList (x:=u) (by simpa using n) λq n sb=>?_
  have I1:aI X j σ H {s with heap:=q}:=I.turned (t':=s.toks) (λb o m e=>(sb.2 b m).trans e) C D F G J;obtain⟨o,e,c,d⟩:=id n;exact⟨u,rfl,BN (s:={s with heap:=q}) e c d ⋯ ⟨x,H,I1,ru,⟨rfl,λys hy=>by rw[I.list_inj hy B];exact R⟩,n,λb m=>(y b m).1⟩⟩
 done:=by
  intro X M Q L Z i j s σ H E I y g O;subst M Q L;obtain⟨xs,B,R⟩:=O;obtain⟨U,Y,p,hz⟩:=I.list B;obtain⟨C,D,f2,F,G,J⟩:=y it (by simp)
  have j:=Y.length;exact wpAny_pyNext_list_end (I.ok.hd Z) g p.isList (by simp;ext) λq j=>⟨rfl,I.turned (t':=s.toks) (λb o m e=>j b o m e) C D F G J⟩
 self:=λ_ _ _ _ _ g h=>wpAny_pyIter_listiter g h
theorem wG {P:Program}{w:World}{K:Frg}{tg:Expr}(a it:Addr):Turn P w K tg (OB K a) [it] it (λi h=>h.IsTupleIter it a i) where
 mem:=by simp
 obj:=λi h g b m=>by
  have e:b=it:=by simpa using m
  subst e;obtain⟨o,e,c,d⟩:=g;exact⟨o,e,λv z=>by rw[d]at z;cases z⟩
 keep:=λi h y g k=>g.at λo e=>k it (by simp) o e
 item:=by
  intro X O R M Z i j s σ H E I B g Q;subst O R M;obtain⟨xs,x,C,U⟩:=Q;obtain⟨n,Y,p,hz⟩:=I.tuple C;obtain⟨u,q,ru⟩:=Y.get U;obtain⟨D,F,f2,G,J,L⟩:=B it (by simp)
  refine wpAny_pyNext_tuple_item g (show s.heap.IsTuple a n.toArray from p) (x:=u) (by simpa using q) λy q sb=>?_
  have I1:aI X j σ H {s with heap:=y}:=I.turned (t':=s.toks) (λb o m e=>(sb.2 b m).trans e) D F G J L;obtain⟨o,e,c,d⟩:=id q;exact⟨u,rfl,BN (s:={s with heap:=y}) e c d ⋯ ⟨x,H,I1,ru,⟨rfl,λys hy=>by rw[I.tuple_inj hy C];exact U⟩,q,λb m=>(B b m).1⟩⟩
 done:=by
  intro X O R M Z i j s σ H E I B g Q;subst O R M;obtain⟨xs,C,U⟩:=Q;obtain⟨n,Y,p,hz⟩:=I.tuple C;obtain⟨D,F,f2,G,J,L⟩:=B it (by simp)
  have j:=Y.length;exact wpAny_pyNext_tuple_end (I.ok.hd Z) g (show s.heap.IsTuple a n.toArray from p) (by simp;ext) λy j=>⟨rfl,I.turned (t':=s.toks) (λb o m e=>j b o m e) D F G J L⟩
 self:=λ_ _ _ _ _ g h=>wpAny_pyIter_tupleiter g h
theorem wF {P:Program}{w:World}{K:Frg}{tg:Expr}(it:Addr)(lo:Int)(n:Nat):Turn P w K tg (Ol lo n) [it] it (λi h=>IsRangeIter h it (lo+(i:Nat)*1) ((n:Int)-(i:Nat)) 1) where
 mem:=by simp
 obj:=λi h g b j=>by
  have e:b=it:=by simpa using j
  subst e;exact⟨_,g,λv z=>by
   have m:Data.fields _=Data.cell v:=z
   cases m⟩
 keep:=λi h q g k=>k it (by simp) _ g
 item:=by
  intro X J O G L i p s R H E I x g M;subst J O G;obtain⟨y,B,Y,C,D,F⟩:=x it (by simp)
  have W:=Walks.range (prog:=X.prog) (w:=X.w) (I.ok.hd L) it lo 1 n;refine W.item i s _ _ M g λv q Q U m Z=>?_;obtain⟨t,rfl⟩:=U;have U:aI X p R H {s with heap:=q,toks:=Q}:=I.turned (λb o j e=>Z b o (by simpa using j) e) y B C D F
  refine⟨_,rfl,BN (s:={s with heap:=q,toks:=Q}) (n:="range_iterator") m rfl rfl ⋯ ⟨.int (lo+i),H,U,⟨t,?_⟩,⟨rfl,rfl⟩,m,λb j=>(x b j).1⟩⟩
  rw[mul_one]
 done:=by
  intro X J O G L i p s R H E I x g M;subst J O G;obtain⟨y,B,Y,C,D,F⟩:=x it (by simp)
  exact wpAny_pyNext_range_end (I.ok.hd L) g (by have:n<=i:=M;ext) λq m=>⟨rfl,I.turned (t':=s.toks) (λb o j e=>m b o j e) y B C D F⟩
 self:=λ_ _ _ _ _ g h=>wpAny_pyIter_rangeiter g h
section
variable {X:Cx}{tg:Expr}
def Nf (K:Frg)(e:TE):TI:=λg H R=>e g H λx h=>∃ a,x=.ref a/\(∃ g,cV K h a g)/\R (OA K a) h
def OU (K:Frg)(e:TE):TI:=λg H R=>e g H λx h=>∃ a,x=.ref a/\(∃ g,je K h a g)/\R (OB K a) h
theorem GX {l:Expr}{j:TE}(m:PE X l j):PI X tg l (Nf X.K j):=by
 intro g s i H R I h;refine cM (m g s i H _ I h) ?_;rintro v g ⟨x,k,i,z,y⟩;obtain⟨a,e,⟨n,n⟩,q⟩:=y;subst e
 cases z
 obtain⟨y,y,p,hz⟩:=i.list n;refine wpAny_pyIter_list p.isList ?_;refine⟨g.heap.objs.size,[g.heap.objs.size],_,_,k,rfl,i.kept (t':=g.toks) λb o e=>Heap.get?_push_of_some _ e,zK a _,⟨_,Heap.get?_push_size _ rfl,rfl,rfl⟩,λb k=>?_,q⟩;have e:b=g.heap.objs.size:=by simpa using k
 subst e;exact i.fpOk (le_refl _) (i.hok.fresh (le_refl _))
theorem K7 {l:Expr}{k:TE}(n:PE X l k):PI X tg l (OU X.K k):=by
 intro g s i H R I h;refine cM (n g s i H _ I h) ?_;rintro v g ⟨x,m,i,z,j⟩;obtain⟨a,e,⟨y,y⟩,q⟩:=j;subst e
 cases z
 obtain⟨j,z,p,hz⟩:=i.tuple y;refine wpAny_pyIter_tuple (show g.heap.IsTuple a j.toArray from p) ?_;refine⟨g.heap.objs.size,[g.heap.objs.size],_,_,m,rfl,i.kept (t':=g.toks) λb o e=>Heap.get?_push_of_some _ e,wG a _,⟨_,Heap.get?_push_size _ rfl,rfl,rfl⟩,λb j=>?_,q⟩;have e:b=g.heap.objs.size:=by simpa using j
 subst e;exact i.fpOk (le_refl _) (i.hok.fresh (le_refl _))
theorem D4 {pins:List (Addr × Obj)}{σ:St}{H:Hp}{s:Shared}{R:It->Hp->Prop}{E:Value->Shared->Prop}{lo hi:Int}{t u v:Tok}{tk:Nat}(I:aI X pins σ H s)(j:-(2 ^ 62)<=lo)(k:lo<2 ^ 62)(m:-(2 ^ 62)<=hi)(n:hi<2 ^ 62)
  (q:R (Ol lo (hi-lo).toNat) H):wpAny (model X.prog X.w) X.A (pyIter (.ref s.heap.objs.size)) (PB X pins σ tg R) E {s with heap:=s.heap.push {cls:=.type "range",data:=.fields #[.int lo t,.int hi u,.int 1 v]},toks:=tk}:=by
 refine wpAny_pyIter_range (IsRange.new ..) (small_one j k m n) ?_;have i:aI X pins σ H {s with heap:=s.heap.push {cls:=.type "range",data:=.fields #[.int lo t,.int hi u,.int 1 v]},toks:=tk}:=I.kept λb o e=>Heap.get?_push_of_some _ e;refine⟨(s.heap.push {cls:=.type "range",data:=.fields #[.int lo t,.int hi u,.int 1 v]}).objs.size,[(s.heap.push {cls:=.type "range",data:=.fields #[.int lo t,.int hi u,.int 1 v]}).objs.size],_,_,H,rfl,
  i.kept (t':=tk) λb o e=>Heap.get?_push_of_some _ e,wF _ lo (hi-lo).toNat,?_,λb p=>?_,q⟩
 .have g:lo+((0:Nat):Int)*1=lo:=by simp
  have h:(((hi-lo).toNat:Nat):Int)-((0:Nat):Int)=Builtin.Range.rangeSize lo hi 1:=by rw[rangeSize_one];split <;> ext
  show IsRangeIter _ _ (lo+((0:Nat):Int)*1) ((((hi-lo).toNat:Nat):Int)-((0:Nat):Int)) 1;rw[g,h];exact Heap.get?_push_size _ rfl
 .have e:b=(s.heap.push {cls:=.type "range",data:=.fields #[.int lo t,.int hi u,.int 1 v]}).objs.size:=by simpa using p
  subst e;exact i.fpOk (le_refl _) (i.hok.fresh (le_refl _))
def Ng (e:TA):TI:=λg H R=>e g H λv h=>∃ j:Int,v=[.int j]/\-(2 ^ 62)<=j/\j<2 ^ 62/\R (Ol 0 j.toNat) h
theorem zz {a:Expr}{ta:TA}{p pos:Pos} (hg:Gl X "range") (hm:X.mg "range"=none) (ha:PA X [a] ta) (hs:starEach [a] X.env=[(false,eval a X.env)]:=by rfl):PI X tg (.Call (.Name "range" p) [a] [] pos) (Ng ta):=by
 intro pins s σ H R I h;refine Call_ (ij I hg hm boot_range (PyProof.Rows.callWith_type1 (cM (ha pos pins s σ H _ I h) ?_) hs rfl));rintro us s1 ⟨vs,H1,I1,r1,q1⟩;obtain⟨j,e,q1,q2,q⟩:=q1;subst e
 cases r1 with
 |cons r rr=>
  cases rr
  obtain⟨t,rfl⟩:=r;exact call_range_1 (D4 I1 ⋯ ⋯ q1 q2 (by simpa using q))
def Pf (n:TI)(g:TG)(tb:TS):TS:=λD e H=>n e H λJ h=>∃ W:Nat->Nat->St->Hp->Prop,(∃ m,W 0 m e h)/\∀ i m e H,W i m e H →
 (J.stop i H/\D.nx e H)\/(J.go i H/\∃ N:St->Hp->Prop,(∀ j h,N j h->∃ k,k<m/\W (i+1) k j h)/\∀ x h,J.yld i H x h->g x e h λe h=>tb {D with nx:=N,ct:=N,bk:=D.nx} e h)
def n6 (fp:List Addr)(h:Heap):List (Addr × Obj):=fp.filterMap λb=>(h.get? b).map λo=>(b,o)
theorem gC (g:b∈fp)(e:h.get? b=some o):(b,o)∈n6 fp h:=List.mem_filterMap.mpr ⟨b,g,by rw[e];rfl⟩
theorem zh (j:p∈n6 fp h):p.1∈fp/\h.get? p.1=some p.2:=by
 obtain⟨b,i,e⟩:=List.mem_filterMap.mp j
 cases q:h.get? b with
 |none=>rw[q]at e;cases e
 |some o=>
  rw[q]at e;have g:(b,o)=p:=Option.some.inj e;subst g;exact⟨i,q⟩
theorem aI.pinned (I:aI X pins σ H s)(m:∀ b∈fp,mP X pins H b)(n:∀ b∈fp,∃ o,s.heap.get? b=some o/\∀ v,o.data≠.cell v):aI X (pins++n6 fp s.heap) σ H s:=
 I.pins_of λp h=>(mem_append.mp h).elim (λz=>I.pin p (mem_append_right _ z)) λz=>by
  obtain⟨h,e⟩:=zh z;obtain⟨i,j,k,_⟩:=m p.1 h;obtain⟨o,g,d⟩:=n p.1 h;rw[e]at g;cases g
  exact⟨e,i,j,k,d⟩
theorem aI.unpinned (I:aI X (pins++pl) σ H s):aI X pins σ H s:=I.pins_of λp h=>I.pin p (mem_append_right _ (mem_append_left _ h))
theorem La (R:PassesOwn (model X.prog X.w) X.A X.env X.xe)(hc:X.calm=true)(hi:PI X tg B wi)(hg:PG X tg g)(z:jT X L tb)
  (hs:∀ x,foldedSetIterable B X.env x=pure x:=by intro _;rfl):PS X (.For tg B L [] pos) (Pf wi g tb):=by
 intro p s σ H D I h;refine wpAny_For (cM (hi p s σ H _ I h) λv s1 h1=>cM h1 λitv s2 h2=>?_) hs;obtain⟨it,P,tn,J,H2,e,I2,T,st2,f2,W,⟨m0,w0⟩,Z⟩:=h2;subst e;have C:∀ {G:Hp},(∀ b∈P,G b=none)->∀ b∈P,mP X p G b:=λhn b z=>⟨hn b z,(f2 b z).2⟩;refine codeAny_forLoop_any (λn s'=>∃ i E G,aI X p E G s'/\tn i s'.heap/\(∀ b∈P,G b=none)/\W i n E G) ?_ m0 ⟨0,σ,H2,I2,st2,λb z=>(f2 b z).1,w0⟩;rintro n s3 ⟨i,F,H3,I3,Y,Q,w3⟩
 obtain⟨stop,qn⟩|⟨go,N,hN,step⟩:=Z i n F H3 w3
 .refine wpAny_passesOwn R (cM (T.done X rfl rfl rfl hc i p s3 F H3 X.xe I3 (C Q) Y stop) ?_);rintro r s4 ⟨hr,I4⟩;subst hr;exact wpAny_execs_nil ⟨F,H3,I4,qn⟩
 .refine wpAny_passesOwn R (cM (T.item X rfl rfl rfl hc i p s3 F H3 X.xe I3 (C Q) Y go) ?_);rintro r s4 ⟨u,hr,h4⟩;subst hr;refine wpAny_passesOwn R (cM h4 ?_);rintro _ s5 ⟨x,H5,I5,r5,y5,O,fr5⟩;have I5':=I5.pinned (C fr5) (T.obj _ _ O);refine wpAny_passesOwn R (cM (hg _ s5 F H5 x u _ I5' r5 (step x H5 y5)) ?_);rintro _ s6 ⟨σ6,H6,I6,q6⟩;refine wpAny_passesOwn R (cM (z _ s6 σ6 H6 _ I6 q6) λf s7 M=>?_);have y:∀ {j:St}{k:Hp},aI X (p++n6 P s5.heap) j k s7->N j k->∃ m,m<n/\∃ i E G,aI X p E G s7/\tn i s7.heap/\(∀ b∈P,G b=none)/\W i m E G:=λ{j k} q U=>by
   obtain⟨m',hm,w7⟩:=hN j k U;refine⟨m',hm,i+1,j,k,q.unpinned,T.keep _ _ _ O λb z o e=>(q.pin (b,o) (mem_append_right _ (mem_append_right _ (gC z e)))).1,λb z=>?_,w7⟩;obtain⟨o,e,d⟩:=T.obj _ _ O b z;exact(q.pin (b,o) (mem_append_right _ (mem_append_right _ (gC z e)))).2.1
  cases f with
  |next=>obtain⟨j,k,q,U⟩:=M;exact y q U
  |cont=>obtain⟨j,k,q,U⟩:=M;exact y q U
  |brk=>obtain⟨j,k,q,M⟩:=M;exact⟨j,k,q.unpinned,M⟩
  |ret v=>obtain⟨x7,j,k,q,r7,M⟩:=M;exact⟨x7,j,k,q.unpinned,r7,M⟩
end
abbrev R2:=V->V->Hp->VK->Prop
def kQ (X:Cx)(f:Value->Value->Sem Value)(r:R2):Prop:=
 ∀ (p:List (Addr × Obj)) (s:Shared) (e:St) (H:Hp) (x y:V) (v u:Value) (Q:VK),aI X p e H s->RelV x v->RelV y u->r x y H Q →
  wpAny (model X.prog X.w) X.A (f v u) (EP X p e Q) X.xe s
def OG (X:Cx)(f:Value->Sem Value)(r:V->Hp->VK->Prop):Prop:=
 ∀ (p:List (Addr × Obj)) (s:Shared) (e:St) (H:Hp) (x:V) (v:Value) (Q:VK),aI X p e H s->RelV x v->r x H Q →
  wpAny (model X.prog X.w) X.A (f v) (EP X p e Q) X.xe s
def fQ (X:Cx)(f:Value)(r:List V->Hp->VK->Prop):Prop:=
 ∀ (p:List (Addr × Obj)) (s:Shared) (g:St) (H:Hp) (x:List V) (e:List Value) (Q:VK),aI X p g H s->aP x e->r x H Q →
  wpAny (model X.prog X.w) X.A (call f e) (EP X p g Q) X.xe s
def LC (r:R2)(g tb:TE):TE:=λe H Q=>g e H λx h=>tb e h λy h=>r x y h Q
def P9 (r:V->Hp->VK->Prop)(e:TE):TE:=λg H Q=>e g H λx h=>r x h Q
def rI (C:Int->Int->Prop)(g:Int->Int->V):R2:=λx y H Q=>∃ i j,x=.int i/\y=.int j/\C i j/\Q (g i j) H
def Hk (g:Int->Int->V):R2:=λx y H Q=>∃ i j,x=.int i/\y=.int j/\Q (g i j) H
def rU (g:Int->V):V->Hp->VK->Prop:=λx H Q=>∃ i,x=.int i/\Q (g i) H
section
variable {X:Cx}{a b c:Expr}{ta tb tc:TE}{pos:Pos}
theorem Jq (m:PE X a ta)(n:PE X b tb){pins:List (Addr × Obj)}{s:Shared}{σ:St}{H:Hp}{R:V->V->Hp->Prop}(I:aI X pins σ H s)
  (h:ta σ H λx k=>tb σ k λy e=>R x y e) {Q:Value->Shared->Prop}{f:Value->Value->Sem Value}
  (o:∀ v u j x y e,aI X pins σ e j->RelV x v->RelV y u->R x y e->wpAny (model X.prog X.w) X.A (f v u) Q X.xe j) :
  wpAny (model X.prog X.w) X.A (eval a X.env) (λv g=>wpAny (model X.prog X.w) X.A (eval b X.env) (λu i=>wpAny (model X.prog X.w) X.A (f v u) Q X.xe i) X.xe g) X.xe s:=by
 refine cM (m pins s σ H _ I h) ?_;rintro v p ⟨x,k,i,g,q⟩;refine cM (n pins p σ k _ i q) ?_;rintro u j ⟨y,e,i,k,q⟩;exact o v u j x y e i g k q
theorem n5 {op:Operator}{r:R2}(o:kQ X (binaryOp op) r)(g:PE X a ta)(j:PE X b tb):PE X (.BinOp a op b pos) (LC r ta tb):=by
 intro p s z H Q I h;exact wpAny_BinOp (Jq g j I h λv u n x y e i k m q=>o p n z e x y v u Q i k m q)
theorem NK (o:OG X (unaryOp op) r)(j:PE X a ta):PE X (.UnaryOp op a pos) (P9 r ta):=by
 intro p s e H Q I h;exact UnaryOp_ (cM (j p s e H _ I h) <| by rintro v m ⟨x,g,i,k,q⟩;exact o p m e g x v Q i k q)
theorem Ou {f:Value->Value->Sem Value}{C:Int->Int->Prop}{g:Int->Int->Int}
  (e:∀ (i j:Int) (t u:Tok) (s:Shared) (Q:Value->Shared->Prop) (E:Value->Shared->Prop),C i j->Q (.int (g i j) s.toks) {s with toks:=s.toks+1}->wpAny (model X.prog X.w) X.A (f (.int i t) (.int j u)) Q E s) :
  kQ X f (rI C λi j=>.int (g i j)):=by
 intro p s k H x y v u Q I m n h;obtain⟨i,j,rfl,rfl,k,q⟩:=h;obtain⟨t,rfl⟩:=m;obtain⟨m,rfl⟩:=n;exact e i j t m s _ _ k ⟨.int (g i j),H,I.tok _,⟨_,rfl⟩,q⟩
theorem NB {f:Value->Value->Sem Value}{g:Int->Int->Int}
  (e:∀ (i j:Int) (t u:Tok) (s:Shared) (Q:Value->Shared->Prop) (E:Value->Shared->Prop),Q (.int (g i j) s.toks) {s with toks:=s.toks+1}->wpAny (model X.prog X.w) X.A (f (.int i t) (.int j u)) Q E s) :
  kQ X f (Hk λi j=>.int (g i j)):=by
 intro p s k H x y v u Q I k m h;obtain⟨i,j,rfl,rfl,q⟩:=h;obtain⟨t,rfl⟩:=k;obtain⟨k,rfl⟩:=m;exact e i j t k s _ _ ⟨.int (g i j),H,I.tok _,⟨_,rfl⟩,q⟩
theorem GM {f:Value->Value->Sem Value}{g:Int->Int->Bool}
  (e:∀ (i j:Int) (t u:Tok) (s:Shared) (Q:Value->Shared->Prop) (E:Value->Shared->Prop),Q (.bool (g i j)) s->wpAny (model X.prog X.w) X.A (f (.int i t) (.int j u)) Q E s) :
  kQ X f (Hk λi j=>.bl (g i j)):=by
 intro p s k H x y v u Q I k m h;obtain⟨i,j,rfl,rfl,q⟩:=h;obtain⟨t,rfl⟩:=k;obtain⟨k,rfl⟩:=m;exact e i j t k s _ _ ⟨.bl (g i j),H,I,rfl,q⟩
def Mc (i j:Int):Prop:=0<=j/\j<=1000000/\i.natAbs<2 ^ 64
def EK (i j:Int):Prop:=(-(2 ^ 64)<i/\i<2 ^ 64)\/(-(2 ^ 64)<j/\j<2 ^ 64)
theorem EK.ok (h:EK i j):IntMulOk i j:=by
 obtain⟨e,g⟩|⟨e,g⟩:=h
 .exact .of_left (intBits_le_64 e g)
 .exact .of_right (intBits_le_64 e g)
theorem KN:kQ X (binaryOp .Add) (Hk λi j=>.int (i+j)):=NB λ_ _ _ _ _ _ _ q=>add_int q
theorem KR:kQ X (binaryOp .Sub) (Hk λi j=>.int (i-j)):=NB λ_ _ _ _ _ _ _ q=>sub_int q
theorem GO:kQ X (binaryOp .Mod) (rI (λ_ j=>j≠0) λi j=>.int (i.fmod j)):=Ou λ_ _ _ _ _ _ _ h q=>mod_int' h q
theorem KQ:kQ X (binaryOp .Pow) (rI Mc λi j=>.int (i ^ j.toNat)):=Ou λ_ _ _ _ _ _ _ h q=>pow_int_small h.1 h.2.1 h.2.2 q
theorem Qb {f:Value->Sem Value}{g:Int->Int}
  (e:∀ (i:Int) (t:Tok) (s:Shared) (Q:Value->Shared->Prop) (E:Value->Shared->Prop),Q (.int (g i) s.toks) {s with toks:=s.toks+1}->wpAny (model X.prog X.w) X.A (f (.int i t)) Q E s) :
  OG X f (rU λi=>.int (g i)):=by
 intro p s j H x v Q I j h;obtain⟨i,rfl,q⟩:=h;obtain⟨t,rfl⟩:=j;exact e i t s _ _ ⟨.int (g i),H,I.tok _,⟨_,rfl⟩,q⟩
theorem LN:OG X (unaryOp .USub) (rU λi=>.int (-i)):=Qb λ_ _ _ _ _ q=>neg_int q
end
section
variable {X:Cx}{a b c:Expr}{ta tb tc:TE}{pos:Pos}
theorem BJ (I:aI X pins σ H s)(q:Q (.bl k) H)(e:k=g):EP X pins σ Q (.bool g) s:=by
 subst e;exact⟨.bl k,H,I,rfl,q⟩
theorem Ig:kQ X (compareOp .Lt) (Hk λi j=>.bl (decide (i<j))):=GM λ_ _ _ _ _ _ _ q=>lt_int q
theorem NE:kQ X (compareOp .LtE) (Hk λi j=>.bl (decide (i<=j))):=GM λ_ _ _ _ _ _ _ q=>le_int q
theorem ND:kQ X (compareOp .Gt) (Hk λi j=>.bl (decide (j<i))):=GM λ_ _ _ _ _ _ _ q=>gt_int q
theorem NC:kQ X (compareOp .GtE) (Hk λi j=>.bl (decide (j<=i))):=GM λ_ _ _ _ _ _ _ q=>ge_int q
theorem KO:kQ X (compareOp .Is) (λx y H Q=>y=.non/\Q (.bl (decide (x=.non))) H):=by
 intro p s e H x y v u Q I e g h;obtain⟨rfl,q⟩:=h
 cases g
 refine is_none_gen (BJ I q ?_)
 cases x <;> first
  | (cases e;rfl)
  | (obtain⟨t,rfl⟩:=e;rfl)
theorem GQ:kQ X (compareOp .IsNot) (λx y H Q=>y=.non/\Q (.bl (!decide (x=.non))) H):=by
 intro p s e H x y v u Q I e g h;obtain⟨rfl,q⟩:=h
 cases g
 refine isnot_none_gen (BJ I q ?_)
 cases x <;> first
  | (cases e;rfl)
  | (obtain⟨t,rfl⟩:=e;rfl)
theorem kQ.or (h:kQ X f r)(h':kQ X f e):kQ X f (λx y H Q=>r x y H Q\/e x y H Q):=by
 intro p s j H x y v u Q I g i q
 obtain q|q:=q
 .exact h p s j H x y v u Q I g i q
 .exact h' p s j H x y v u Q I g i q
theorem fJ (b:Expr)(h:op≠.In:=by decide)(i:op≠.NotIn:=by decide):behindInMarks op b=false:=by
 have e:(op == CmpOp.In)=false:=by cases op <;> first|rfl|exact absurd rfl h
 have g:(op == CmpOp.NotIn)=false:=by cases op <;> first|rfl|exact absurd rfl i
 cases b <;> simp[behindInMarks,e,g]
theorem xH {op:CmpOp}{r:R2}(o:kQ X (compareOp op) r)(g:PE X a ta)(j:PE X b tb)(m:behindInMarks op b=false):PE X (.Compare a [op] [b] pos) (LC r ta tb):=by
 intro p s B H Q I h;exact wpAny_Compare1 (Jq g j I h λv u z x y e i k n q=>o p z B e x y v u Q i k n q) m
def N3 (t:TE):TT:=λe H Q=>t e H λx h=>∃ k,x=.bl k/\Q k h
theorem si (q:kQ X (compareOp op) r)(m:PE X a ta)(n:PE X b tb)(o:behindInMarks op b=false):PT X (.Compare a [op] [b] pos) (N3 (LC r ta tb)):=by
 intro p s g H Q I h;refine wpAny_isTrue_Compare1 (cM (m p s g H _ I h) λv D ⟨x,i,j,C,B⟩=>cM (n p D g i _ j B) λu E ⟨y,i,j,D,B⟩=>
  cM (q p E g i x y v u _ j C D B) λc g ⟨z,g,i,p,k,e,j⟩=>?_) o
 subst e
 cases p
 exact wpAny_truthy_bool ⟨g,i,j⟩
theorem rS:(sizeLine:Nat)<2 ^ 63:=by rw[sizeLine_eq];decide
theorem vals1 (r:aP [x] us):∃ u,us=[u]/\RelV x u:=by
 cases r with
 |cons e g=>cases g;exact⟨_,rfl,e⟩
theorem vals2 (r:aP [x,y] us):∃ u e,us=[u,e]/\RelV x u/\RelV y e:=by
 cases r with
 |cons e g=>
  cases g with
  |cons g h=>cases h;exact⟨_,_,rfl,e,g⟩
theorem Aw:fQ X (.builtin "abs") (λxs H Q=>∃ i,xs=[.int i]/\Q (.int (if i<0 then -i else i)) H):=by
 intro p s e H xs e Q I r h;obtain⟨i,rfl,q⟩:=h;obtain⟨u,rfl,t,rfl⟩:=vals1 r;exact call_abs_int λu k=>⟨.int (if i<0 then -i else i),H,I.tok _,⟨_,rfl⟩,q⟩
theorem yC (g:X.calm=true):fQ X (.builtin "max") (λxs H Q=>∃ i j,xs=[.int i,.int j]/\Q (.int (if j>i then j else i)) H):=by
 intro p s e H xs e Q I r h;obtain⟨i,j,rfl,q⟩:=h;obtain⟨u,e,rfl,⟨t,rfl⟩,⟨e,rfl⟩⟩:=vals2 r;refine max_two_ints (I.ok.hd g) λe e k=>⟨_,H,I.kept k,?_,q⟩
 by_cases e:j>i
 .rw[if_pos e,if_pos e];exact⟨_,rfl⟩
 .rw[if_neg e,if_neg e];exact⟨_,rfl⟩
theorem yE (g:X.calm=true):fQ X (.builtin "min") (λxs H Q=>∃ i j,xs=[.int i,.int j]/\Q (.int (if j<i then j else i)) H):=by
 intro p s e H xs e Q I r h;obtain⟨i,j,rfl,q⟩:=h;obtain⟨u,e,rfl,⟨t,rfl⟩,⟨e,rfl⟩⟩:=vals2 r;refine min_two_ints (I.ok.hd g) λe e k=>⟨_,H,I.kept k,?_,q⟩
 by_cases e:j<i
 .rw[if_pos e,if_pos e];exact⟨_,rfl⟩
 .rw[if_neg e,if_neg e];exact⟨_,rfl⟩
end
structure Me (h:Heap) (x dx C:Addr) (mA:Str->Option Value):Prop where
 obj:h.get? x=some (PySem.W.instObj C dx)
 ns:h.Ns1 dx mA
 ne:dx≠x
theorem zd {h:Heap}{x:Addr}{m:Str->Option Value}(n:h.Ns1 x m):∃ od,h.get? x=some od/\∀ name,PySem.W.lookIn name od=some (m name):=by
 obtain⟨o,i,C,v,hd,k,_,p⟩:=n;refine⟨o,v,λname=>?_⟩;have e:=p name;unfold nsFind findBy at e;rw[<-Array.find?_toList]at e;unfold PySem.W.lookIn;rw[hd];dsimp only
 split
 .rename_i y q;rw[q]at e;exact congrArg some e
 .rename_i q;rw[q]at e;have a:i.toList.any (·.refKey)=false:=by
   rw[List.any_eq_false];intro y B;obtain⟨z,t,g⟩:=k y (Array.mem_toList_iff.mp B);simp[DictEntry.refKey,g]
  have j:¬ i.toList.any (·.refKey)=true:=by rw[a];exact Bool.false_ne_true
  rw[if_neg j];exact congrArg some e
theorem Me.look (I:Me h x e C m):∃ od,PySem.W.InstAt h x (PySem.W.instObj C e) C (some od)/\∀ name,PySem.W.lookIn name od=some (m name):=
 let ⟨od,ho,hl⟩:=zd I.ns
 ⟨od,⟨I.obj,rfl,rfl,ho⟩,hl⟩
section
variable {prog:Program}{w:World}{A:Around}{E:Value->Shared->Prop}{s:Shared}{K:Frg}{x dx C f:Addr}{mA:Str->Option Value}{name:Str}{v:Value}
end
theorem ES.some_of (r:ES (some v) o):∃ u,o=some u/\RelV v u:=by
 cases o with
 |none=>exact(show False from r).elim
 |some u=>exact⟨u,rfl,r⟩
section
variable {P:Program}{w:World}{H H':Hp}{h h':Heap}{a C dx:Addr}{fs fs':List (Str × V)}
end
structure Oy (K:Frg) (C:Addr):Prop where
 pg:PySem.W.plainGet K C Str.empty=true
 hd:PySem.W.hasDictIn K C=true
 po:PySem.W.plainOver K C=true
 sa:PySem.W.findIn K (.ref C) "__setattr__"=some (some (.builtin "object.__setattr__"))
theorem Oy.get {K:Frg}{C:Addr}(c:Oy K C)(f:Str):PySem.W.plainGet K C f=true:=c.pg
structure Qe (K:Frg) (C:Addr) (f:Str) (v:V) (u:Value):Prop where
 at_:PySem.W.findIn K (.ref C) f=some (some u)
 rel:RelV v u
 get:PySem.W.specialIn K u "__get__"=some none
 cp:PySem.W.copiedNames.contains f=false
structure PM (K:Frg) (C:Addr) (m:Str) (f:Addr):Prop where
 at_:PySem.W.findIn K (.ref C) m=some (some (.ref f))
 fn:PySem.W.isFn K (.ref f)=true
 kp:PySem.W.keepIn K (.ref f)=true
section
variable {X:Cx}{pins:List (Addr × Obj)}{σ:St}{H:Hp}{s:Shared}{a C dx:Addr}{fs:List (Str × V)}{f:Str}{v:V}{A:Around}{E:Value->Shared->Prop}
theorem aI.made (I:aI X pins σ H s):aI X pins σ (cG (cG H s.heap.objs.size (.own (s.heap.objs.size+1))) (s.heap.objs.size+1) (.ins C s.heap.objs.size []))
  {s with heap:=(s.heap.push PySem.W.emptyDict).push (PySem.W.instObj C s.heap.objs.size)}:=by
 have g:(s.heap.push PySem.W.emptyDict).get? s.heap.objs.size=some PySem.W.emptyDict:=Heap.get?_push_size s.heap rfl;have h:((s.heap.push PySem.W.emptyDict).push (PySem.W.instObj C s.heap.objs.size)).get? (s.heap.objs.size+1)=some (PySem.W.instObj C s.heap.objs.size):=by
  have:=Heap.get?_push_size (s.heap.push PySem.W.emptyDict) (o:=PySem.W.instObj C s.heap.objs.size) rfl
  rwa [Heap.size_push]at this
 have j:(s.heap.push PySem.W.emptyDict).Ns s.heap.objs.size (λ_=>none):=⟨PySem.W.emptyDict,#[],_,g,rfl,(λe i=>absurd i (by simp)),λ_=>rfl⟩
 have i:=I.laid (a:=s.heap.objs.size) (o:=.own (s.heap.objs.size+1)) (h':=s.heap.push PySem.W.emptyDict) (t':=s.toks) (λb u q=>Heap.get?_push_of_some _ q) (le_refl _) ⟨_,g⟩;refine i.laid (a:=s.heap.objs.size+1) (o:=.ins C s.heap.objs.size []) (t':=s.toks) (λb u q=>Heap.get?_push_of_some _ q) (Nat.le_of_eq (Heap.size_push _ _)) ?_;have ne:s.heap.objs.size≠s.heap.objs.size+1:=ne_of_lt (lt_succ_self _);refine⟨by rw[aZ ne,aY],zero_le _,ne,h,λ_=>none,(Heap.Ns1.of_empty j).at λo q=>Heap.get?_push_of_some _ q,λ_=>True.intro,λy h=>absurd rfl h⟩
end
section
variable {X:Cx}{o e value:Expr}{f:Str}{pos pos' tpos:Pos}{ta tv:TE}
end
section
variable {X:Cx}{pins:List (Addr × Obj)}{σ:St}{H:Hp}{s:Shared}{A:Around}{E:Value->Shared->Prop}{Q:Value->Shared->Prop}{c:Value}{b:Bool}
inductive mT (K:Frg) (H:Hp):V->Value->Prop where
 |non:mT K H .non (.type "NoneType")
 |bl (x:Bool):mT K H (.bl x) (.type "bool")
 |int (i:Int):mT K H (.int i) (.type "int")
 |str (x:Str):mT K H (.str x) (.type "str")
 |flt (x:UInt64):mT K H (.flt x) (.type "float")
 |lst {a:Addr}{xs:List V} (e:H a=some (.lst xs)):mT K H (.ref a) (.type "list")
 |frz {a:Addr}{o:Obj}{xs:List V} (e:H a=some (.frz o (.lst xs))):mT K H (.ref a) (.type "list")
 |tup {a:Addr}{xs:List V} (e:H a=some (.tup xs)):mT K H (.ref a) (.type "tuple")
 |dK {a:Addr}{kvs:List (Key × V)} (e:H a=some (.dK kvs)):mT K H (.ref a) (.type "dict")
 |dT {a:Addr}{kvs:List (List Key × V)} (e:H a=some (.dT kvs)):mT K H (.ref a) (.type "dict")
 |ins {a C dx:Addr}{fs:List (Str × V)} (e:H a=some (.ins C dx fs)) (cl:Oy K C) (ha:PySem.W.findIn K (.ref C) "__class__"=some (some (.builtin "object.__class__")))
   (hn:PySem.W.specialIn K (.builtin "object.__class__") "__get__"=some (some (.builtin "getset_descriptor.__get__"))) (htk:PySem.W.takesIn K (.builtin "object.__class__")=some true)
   (hm:PySem.W.mroIn K C (.type "object")=some true):mT K H (.ref a) (.ref C)
end
structure b9 (k:Nat) (A:Around):Prop where
 hd:A.handled=none
 dp:A.depth+3*k+5<recursionLimit
 un:A.units+16*k+200<cLine
theorem b9.mono (r:b9 k A) (h:j<=k):b9 j A:=⟨r.hd,by have:=r.dp;ext,by have:=r.un;ext⟩
theorem b9.deeper (r:b9 (k+1) A)(env:Env):b9 k (A.deeper env):=
 ⟨r.hd,by have:=r.dp;show A.depth+1+3*k+5<_;ext,by have:=r.un;show A.units+3+16*k+200<_;ext⟩
theorem b9.in1 (r:b9 (k+1) A):b9 k A.in1:=
 ⟨r.hd,by have:=r.dp;show A.depth+3*k+5<_;ext,by have:=r.un;show A.units+1+16*k+200<_;ext⟩
theorem b9.depth (r:b9 k A):A.depth<recursionLimit:=by have:=r.dp;ext
theorem b9.units (r:b9 k A):A.units+64<cLine:=by have:=r.un;ext
def N1:TA:=λ_ H Q=>Q [] H
def Io (g:TE)(tr:TA):TA:=λe H Q=>g e H λx h=>tr e h λe h=>Q (x::e) h
section
variable {X:Cx}{e:Expr}{es:List Expr}{te:TE}{t:TA}{pos:Pos}
theorem se:PA X [] N1:=λ_ _ _ _ H Q I h=>Calls.spliced_nil ⟨[],H,I,.nil,h⟩
theorem mx (k:PE X e te)(m:PA X es t)(hs:starEach (e::es) X.env=(false,eval e X.env)::starEach es X.env:=by rfl):PA X (e::es) (Io te t):=by
 intro pos p s g H Q I h;rw[hs];show wpAny _ _ (spliced ((false,eval e X.env)::backTo pos (starEach es X.env))) _ _ s;refine Calls.spliced_cons (cM (k p s g H _ I h) ?_);rintro u o ⟨x,i,j,n,q⟩;exact cM (m pos p o g i _ j q) <| by rintro g g ⟨o,g,i,j,q⟩;exact⟨x::o,g,i,.cons n j,q⟩
def Pl (t:TA):TE:=λg H Q=>t g H λx h=>x.length<=sizeLine/\∀ p,h p=none->Q (.ref p) (cG h p (.tup x))
def Ph (t:TA):TE:=λg H Q=>t g H λx h=>x.length<=sizeLine/\∀ p,h p=none->Q (.ref p) (cG h p (.lst x))
theorem K4 {x}(h:PA X es t):PE X (.Tuple es x pos) (Pl t):=by
 intro p s i H Q I g;refine wpAny_Tuple_spliced (cM (h pos p s i H _ I g) λm g ⟨n,i,j,r,z,q⟩=>⟨by rw[<-r.length];exact z,?_⟩)
 have k:i g.heap.objs.size=none:=j.hok.fresh (le_refl _);refine⟨.ref g.heap.objs.size,cG i g.heap.objs.size (.tup n),j.laid (t':=g.toks) (λb u e=>Heap.get?_push_of_some _ e) (le_refl _) ?_,rfl,q _ k⟩;exact⟨z,m,r,⟨_,Heap.get?_push_size _ rfl,rfl,_,rfl⟩⟩
theorem K0 (h:PA X es t):PE X (.List es pos) (Ph t):=by
 intro p s i H Q I g;refine wpAny_List_spliced (cM (h pos p s i H _ I g) λm g ⟨x,i,j,r,z,q⟩=>⟨by rw[<-r.length];exact z,?_⟩)
 have k:i g.heap.objs.size=none:=j.hok.fresh (le_refl _);refine⟨.ref g.heap.objs.size,cG i g.heap.objs.size (.lst x),j.laid (t':=g.toks) (λb u e=>Heap.get?_push_of_some _ e) (le_refl _) ?_,rfl,q _ k⟩;exact⟨z,m,0,r,Heap.get?_push_size _ rfl⟩
end
abbrev Sp:=List V->Hp->VK->XK->Prop
abbrev zO:=List Env->Hp->Shared->XK->Value->Shared->Prop
structure u4 (P:Program) (w:World) (K:Frg) (mg:Str->Option Value) (base:Heap) (A:Around) (outer:List Env) (s:Shared) (H:Hp):Prop where
 frames:A.frames=some outer
 mod:Mod K mg base
 bs:∀ b o,base.get? b=some o->s.heap.get? b=some o/\H b=none
 bsz:base.objs.size<=s.heap.objs.size
 funs:s.heap.FunFrames base outer
 frf:∀ b∈yT outer,H b=none
 hok:gm P w H s.heap
 bare:AllBare s.gens
def CE (outer:List Env)(P:Program)(w:World)(H:Hp)(s:Shared)(Q:VK)(u:Value)(e:Shared):Prop:=
 ∃ v h,e.os=s.os/\AllBare e.gens/\Un (yT outer) [] H h s.heap e.heap/\gm P w h e.heap/\RelV v u/\Q v h
def CR (CX:zO)(outer:List Env)(P:Program)(w:World)(H:Hp)(s:Shared)(Q:VK)(E:XK)(r:Result)(g:Shared):Prop:=
 match r with
 | .ok (.ret u)=>CE outer P w H s Q u g
 | .ok _=>False
 | .error e=>CX outer H s E e g
structure h8 (P:Program) (w:World) (K:Frg) (mg:Str->Option Value) (base:Heap) (CX:zO) (k:Nat) (f:Addr) (fd:FuncData) (ps:List Str) (sp:Sp):Prop where
 len:∀ vs H Q E,sp vs H Q E->vs.length=ps.length
 run:∀ (A:Around) (outer:List Env) (s:Shared) (H:Hp) (args:Args) (us:List Value) (vs:List V) (Q:VK) (E:XK),b9 k A->u4 P w K mg base A outer s H->BindsTo s fd args (ps.zip us)->aP vs us->sp vs H Q E →
  codeAny (model P w) A (.call (.ref f) args) (CR CX outer P w H s Q E) s
theorem h8.mono {P:Program}{w:World}{K:Frg}{mg:Str->Option Value}{base:Heap}{CX:zO}{j k:Nat}{f:Addr}{g:FuncData}{ps:List Str}{sp:Sp}(F:h8 P w K mg base CX j f g ps sp)(h:j<=k) :
  h8 P w K mg base CX k f g ps sp:=⟨F.len,λA outer s H e m v Q E i=>F.run A outer s H e m v Q E (i.mono h)⟩
theorem h8.imp {P:Program}{w:World}{K:Frg}{mg:Str->Option Value}{base:Heap}{CX:zO}{k:Nat}{f:Addr}{i:FuncData}{ps:List Str}{sp g:Sp}(F:h8 P w K mg base CX k f i ps sp)
  (h:∀ vs H Q E,g vs H Q E->sp vs H Q E):h8 P w K mg base CX k f i ps g:=
 ⟨λvs H Q E q=>F.len vs H Q E (h _ _ _ _ q),λA outer s H e p vs Q E n m j v o=>F.run A outer s H e p vs Q E n m j v (h _ _ _ _ o)⟩
theorem u4.in1 {P:Program}{w:World}{K:Frg}{mg:Str->Option Value}{base:Heap}{A:Around}{outer:List Env}{s:Shared}{H:Hp}(e:u4 P w K mg base A outer s H) :
  u4 P w K mg base A.in1 outer s H:=⟨e.frames,e.mod,e.bs,e.bsz,e.funs,e.frf,e.hok,e.bare⟩
section
variable {X:Cx}{pins:List (Addr × Obj)}{σ:St}{H:Hp}{s s':Shared}
theorem aI.env0 (I:aI X pins σ H s):u4 X.prog X.w X.K X.mg X.base X.A X.stack s H:=
 ⟨I.ok.frames,I.ok.mod,I.bs,le_trans I.ok.bsz I.sz,I.stack,I.stkFree,I.hok,I.bare⟩
theorem aI.after (I:aI X pins σ H s)(h:CE X.stack X.prog X.w H s Q u s'):EP X pins σ Q u s':=by
 obtain⟨v,e,os,bare,un,hok,r,q⟩:=h;obtain⟨hh,g,d,t,o⟩:=s';obtain rfl:o=s.os:=os;exact⟨v,e,I.call (h':=hh) (g':=g) (d':=d) (t':=t) (ch:=[]) un hok bare (λb z=>absurd z (by simp)),r,q⟩
end
def Im (sp:Sp)(e:List V)(E:XK)(t:TA):TE:=λg H Q=>t g H λv h=>sp (v++e) h Q E
def Binds (K:Frg)(h:FuncData)(ps:List Str)(g:List Value):Prop:=
 ∀ (s:Shared) (e:List Value),K.In s.heap->(e++g).length=ps.length->BindsTo s h ⟨e,[]⟩ (ps.zip (e++g))
theorem Binds.all {K:Frg}{e:FuncData}{ps:List Str}(h:∀ us:List Value,us.length=ps.length->bindArgs e ⟨us,[]⟩=pure (ps.zip us)):Binds K e ps []:=λs us _ g=>by
 rw[append_nil]at g ⊢;exact .of_eq (h us g)
def va (CX:zO)(X:Cx)(E:XK):Prop:=∀ (p:List (Addr × Obj)) (h:St) (H:Hp) (s:Shared) (e:Value) (g:Shared),aI X p h H s->CX X.stack H s E e g->X.xe e g
section
variable {X:Cx}{CX:zO}{k:Nat}{f C:Addr}{fd:FuncData}{ps:List Str}{sp:Sp}{dvs:List V}{ds:List Value}{E:XK}{x m:Str}{p pos apos:Pos}{e o:Expr}{es:List Expr}{ta:TE}{t:TA}
theorem Lo (F:h8 X.prog X.w X.K X.mg X.base CX k f fd ps sp)(n:b9 k X.A)(i:Binds X.K fd ps ds)(hd:aP dvs ds)(v:va CX X E)
  (I:aI X pins σ H s) (r:aP vs us) (h:sp (vs++dvs) H Q E):wpAny (model X.prog X.w) X.A (call (.ref f) us) (EP X pins σ Q) X.xe s:=by
 have g:aP (vs++dvs) (us++ds):=r.append hd;have j:(us++ds).length=ps.length:=by rw[<-g.length];exact F.len _ _ _ _ h
 refine wpAny_call (codeAny_mono (F.run X.A X.stack s H ⟨us,[]⟩ (us++ds) (vs++dvs) Q E n I.env0 (i s us I.kIn j) g h) λr y q=>?_)
 cases r with
 |error e=>exact v pins σ H s e y I q
 |ok fl=>
  cases fl with
  |ret u=>exact I.after q
  |next=>exact False.elim q
  |brk=>exact False.elim q
  |cont=>exact False.elim q
theorem GS (F:h8 X.prog X.w X.K X.mg X.base CX k f fd ps sp)(hr:b9 k X.A)(hg:Gl X x)(hm:X.mg x=some (.ref f))(hk:PySem.W.keepIn X.K (.ref f)=true)(hb:Binds X.K fd ps ds)(hd:aP dvs ds)(hx:va CX X E)
  (ha:PA X (e::es) t) (hdb:(x == ("__debug__":Str))=false:=by decide) (he:starEach (e::es) X.env=(false,eval e X.env)::starEach es X.env:=by rfl) (hpl:(backTo pos (starEach es X.env)).any (·.1)=false:=by rfl) :
  PE X (.Call (.Name x p) (e::es) [] pos) (Im sp dvs E t):=by
 intro pins s σ H Q I h;refine wpAny_Call_Name_kw (Gd I hg hm ?_ hdb);refine PySem.W.callWith_K (h₀:=X.base) I.ok.mod.kin hk (cM (ha pos pins s σ H _ I h) λus s1 ⟨vs,H1,I1,r,q⟩=>⟨I1.kIn,?_⟩) he hpl;exact Lo F hr hb hd hx I1 r q
structure Mk (K:Frg) (C f:Addr):Prop where
 makes:PySem.W.makesIn K C=true
 init:PySem.W.findIn K (.ref C) "__init__"=some (some (.ref f))
 fn:PySem.W.isFn K (.ref f)=true
 kp:PySem.W.keepIn K (.ref C)=true
end
section
variable {X:Cx}{CX:zO}{k:Nat}{f C:Addr}{fd:FuncData}{ps ks:List Str}{sp:Sp}{E:XK}{x m:Str}{p pos apos kpos:Pos}{e o:Expr}{es:List Expr}{kws:List Keyword}{te ta:TE}{t tk:TA}{nm:Option Str}
structure OC (K:Frg) (fd:FuncData) (ps ks:List Str) (g:List Value->List Value->List Value) (gV:List V->List V->List V):Prop where
 to:∀ (s:Shared) (us ws:List Value),K.In s.heap->(g us ws).length=ps.length->BindsTo s fd ⟨us,ks.zip ws⟩ (ps.zip (g us ws))
 rel:∀ {vs:List V}{us:List Value}{zs:List V}{ws:List Value},aP vs us->aP zs ws->aP (gV vs zs) (g us ws)
variable {g:List Value->List Value->List Value}{gV:List V->List V->List V}
end
structure ay (N P:List Str) (sc:Scope):Prop where
 kind:sc.kind=.function
 co:sc.isCoroutine=false
 gen:sc.isGenerator=false
 nd:N.Nodup
 pre:N.take P.length=P
 par:∀ x∈P,sc.names.lookup x=some .local\/sc.names.lookup x=some .cell
 nofree:∀ y∈sc.names,y.2≠.free
theorem pD {k:Str->Option NameKind}{x:Str}:∀ {binds:List (Str × Value)}{m:Str->Option Value},(∀ v,(x,v)∉binds)->bindL k binds m x=m x
 | [],_,_=>rfl
 | (n,v)::r,m,h=>by
  unfold bindL;rw[pD λw e=>h w (mem_cons_of_mem _ e)]
  split
  .have:x≠n:=by rintro rfl;exact h v mem_cons_self
   simp[this]
  .rfl
theorem pB {k:Str->Option NameKind}{x:Str}:∀ {binds:List (Str × Value)}{m:Str->Option Value},(∀ v,(x,v)∉binds)->bindC k binds m x=m x
 | [],_,_=>rfl
 | (n,v)::r,m,h=>by
  unfold bindC;rw[pB λw e=>h w (mem_cons_of_mem _ e)]
  split
  .rfl
  .have:x≠n:=by rintro rfl;exact h v mem_cons_self
   simp[this]
theorem pC {k:Str->Option NameKind}{x:Str}{v:Value}:∀ {P:List Str}{vs:List Value}{i:Nat}{m:Str->Option Value},P.Nodup->P[i]?=some x->vs[i]?=some v->k x=some .local →
  bindL k (P.zip vs) m x=some v
 | [],_,_,_,_,h,_,_=>by simp at h
 |_::_,[],_,_,_,_,h,_=>by simp at h
 |p::P,w::vs,0,m,nd,e,g,j=>by
  simp at e g;subst e;subst g;show bindL k ((p,w)::P.zip vs) m p=_;unfold bindL;rw[pD λv n=>(nodup_cons.mp nd).1 (List.of_mem_zip n).1,if_pos j];simp
 |p::P,w::vs,i+1,m,nd,e,g,j=>by
  show bindL k ((p,w)::P.zip vs) m x=_;unfold bindL;exact pC (i:=i) (nodup_cons.mp nd).2 (by simpa using e) (by simpa using g) j
theorem pA {k:Str->Option NameKind}{x:Str}{v:Value}:∀ {P:List Str}{vs:List Value}{i:Nat}{m:Str->Option Value},P.Nodup->P[i]?=some x->vs[i]?=some v->k x≠some .local →
  bindC k (P.zip vs) m x=some v
 | [],_,_,_,_,h,_,_=>by simp at h
 |_::_,[],_,_,_,_,h,_=>by simp at h
 |p::P,w::vs,0,m,nd,e,g,j=>by
  simp at e g;subst e;subst g;show bindC k ((p,w)::P.zip vs) m p=_;unfold bindC;rw[pB λv n=>(nodup_cons.mp nd).1 (List.of_mem_zip n).1,if_neg j];simp
 |p::P,w::vs,i+1,m,nd,e,g,j=>by
  show bindC k ((p,w)::P.zip vs) m x=_;unfold bindC;exact pA (i:=i) (nodup_cons.mp nd).2 (by simpa using e) (by simpa using g) j
def start (N:List Str)(vs:List V):St:=vs.map some++replicate (N.length-vs.length) none
def oY (CX:zO)(P:Program)(w:World)(K:Frg)(mg:Str->Option Value)(base:Heap)(N:List Str)(q:Str)(scope:Scope)(f:Addr)(h:Value)(A:Around)(outer:List Env)(s:Shared)(H:Hp)(E:XK):Cx where
 prog:=P
 w:=w
 K:=K
 mg:=mg
 base:=base
 A:=A.deeper (envOfC q scope s.heap.objs.size f h)
 N:=N
 s₀:=s
 H₀:=H
 env:=envOfC q scope s.heap.objs.size f h
 outer:=outer
 stack:=envOfC q scope s.heap.objs.size f h::outer
 ex:=[]
 calm:=true
 fn:=λ_=>true
 pn:=[]
 xe:=λe j=>wpAny (model P w) (A.deeper (envOfC q scope s.heap.objs.size f h)) (leaving (envOfC q scope s.heap.objs.size f h) e) (λ_ g=>CX outer H s E e g) (λi g=>CX outer H s E i g) j
theorem tJ {e:Scope}{n:Nat}{x:Str}(h:e.names.lookup x=some .cell):∃ c,(cellsFrom n e.names []).lookup x=some c:=by
 have q:=PySem.W.cellsFrom_some e.names n [] (.inl h);exact isSome_iff_exists.mp q
theorem yW {CX:zO}{P:Program}{w:World}{K:Frg}{mg:Str->Option Value}{base:Heap}{N ps:List Str}{g:Str}{scope:Scope}{f:Addr}{C:Value}{A:Around}{outer:List Env}{s G:Shared}{H:Hp}{E:XK}{us:List Value}{vs:List V}
  (S:ay N ps scope) (hd:A.handled=none) (m:u4 P w K mg base A outer s H) (J:vs.length=ps.length) (r:aP vs us)
  (x:InCallC s s.heap.objs.size (bindL (envOfC g scope s.heap.objs.size f C).kindOf (ps.zip us) λ_=>none) (cellsFrom (s.heap.objs.size+1) scope.names []) (bindC (envOfC g scope s.heap.objs.size f C).kindOf (ps.zip us) λ_=>none) G) :
  aI (oY CX P w K mg base N g scope f C A outer s H E) [] (start N vs) H G:=by
 have j:ps.length<=N.length:=by have:=congrArg List.length S.pre;rw[length_take]at this;ext
 obtain⟨D,j,rfl,F⟩:=x.done;have B:∀ b:Addr,b∉(oY CX P w K mg base N g scope f C A outer s H E).ex:=λb z=>absurd (show b∈([]:List Addr) from z) (by simp)
 refine⟨⟨m.mod,S.kind,rfl,rfl,le_refl _,λy z c D j=>?_,λy o=>?_,λy c _ h=>?_,λ_=>hd,Around.frames_deeper m.frames,.inr ⟨rfl,rfl⟩,λb z=>absurd z (B b),m.bs,m.bsz,λb _ _=>B b,λb z=>absurd z (B b),m.funs,m.frf⟩,
  rfl,m.bare,Un.kept F,⟨_,x.toInCall.ns,λi y v D j B=>?_⟩,λy c h=>⟨_,x.cell y c h⟩,m.hok.fresh (le_refl _),λy c h=>?_,λp B=>absurd (show p∈([]:List (Addr × Obj)) from B) (by simp),m.hok.kept F,?_⟩
 .exact name_of_addr x.apart (PySem.mem_of_lookup D) (PySem.mem_of_lookup j)
 .have o:scope.names.lookup y=some .cell\/scope.names.lookup y=some .free:=o
  obtain o|o:=o
  .exact tJ o
  .exact absurd rfl (S.nofree _ (PySem.mem_of_lookup o))
 .exact Nat.le_of_lt (x.above y c (PySem.mem_of_lookup h))
 .have hi:i<vs.length:=by
   unfold start at j
   by_cases hi:i<vs.length
   .exact hi
   .rw[getElem?_append_right (by simpa using hi)]at j
    rw[getElem?_replicate]at j
    split at j <;> cases j
  have F:vs[i]?=some v:=by
   unfold start at j;rw[getElem?_append_left (by simpa using hi),getElem?_map]at j
   cases e:vs[i]? with
   |none=>rw[e]at j;cases j
   |some a=>rw[e]at j;cases j;rfl
  obtain⟨u,o,I⟩:=r.get F;have B:ps[i]?=some y:=by
   rw[<-S.pre,List.getElem?_take_of_lt ⋯];exact D
  have j:ps.Nodup:=by rw[<-S.pre];exact S.nd.sublist (List.take_sublist _ _)
  refine⟨u,I,?_⟩
  obtain k|k:=S.par y (mem_of_getElem? B)
  .exact .inl ⟨k,pC j B o k⟩
  .obtain⟨c,e⟩:=tJ (n:=s.heap.objs.size+1) k;refine .inr ⟨.inl k,c,e,?_⟩;have q:=x.cell y c e;rw[pA j B o (by show scope.names.lookup y≠_;rw[k];decide)]at q
   exact q
 .exact m.hok.fresh (Nat.le_of_lt (x.above y c (PySem.mem_of_lookup h)))
 .unfold start;show _=N.length;rw[List.length_append,length_map,length_replicate];ext
theorem HV {CX:zO}{P:Program}{w:World}{K:Frg}{mg:Str->Option Value}{base:Heap}{k:Nat}{f:Addr}{name g:Str}{p:Arguments}{i:List Stmt}{scope:Scope}{dV kV D pm h ct oc:Value}{an od:Option Addr}
  {U:Array (Option Value)}{N ps:List Str}{sp:Sp} (lk:K.lookup f=some ⟨oc,od,.func (PySem.W.fnOf name g p i scope dV kV D pm an h ct),U⟩) (M:PySem.W.codeIn K h g=true) (S:ay N ps scope)
  (len:∀ vs H Q E,sp vs H Q E->vs.length=ps.length)
  (z:∀ (A:Around) (outer:List Env) (s:Shared) (H:Hp) (vs:List V) (Q:VK) (E:XK),b9 k (A.deeper (envOfC g scope s.heap.objs.size f h))->sp vs H Q E →
   ∃ t,jT (oY CX P w K mg base N g scope f h A outer s H E) i t/\t {nx:=λ_ m=>Q .non m,rt:=Q} (start N vs) H) :
  h8 P w K mg base CX (k+1) f (PySem.W.fnOf name g p i scope dV kV D pm an h ct) ps sp:=by
 refine⟨len,λA outer s H args us vs Q E O F hb r L=>?_⟩;have hl:=len _ _ _ _ L;have Z:K.In s.heap:=F.mod.kin.keeps λb o e=>(F.bs b o e).1;have R:s.heap.NoLimit:=F.mod.nolimit.keeps λb o e=>(F.bs b o e).1;have B:∀ y∈ps.zip us,scope.names.lookup y.1=some .local\/(scope.names.lookup y.1=some .cell/\((cellsFrom (s.heap.objs.size+1) scope.names []).lookup y.1).isSome=true):=λ⟨n,v⟩ hy=>by
  obtain q|q:=S.par n (List.of_mem_zip hy).1
  .exact .inl q
  .exact .inr ⟨q,PySem.W.cellsFrom_some _ _ _ (.inl q)⟩
 refine codeAny_call_function O.depth (Z _ _ lk) rfl S.co S.gen rfl (PySem.W.codeRec_of Z M) (hb _ _ _ _ ?_);refine wpAny_newFunctionEnv_cells S.kind B λenv he s1 x=>?_;subst he;refine⟨R.keeps x.toInCall.keep,codeAny_func ?_⟩;obtain⟨t,ht,hq⟩:=z A outer s H vs Q E (O.deeper _) L;have I:aI (oY CX P w K mg base N g scope f h A outer s H E) [] (start N vs) H s1:=yW S O.hd F hl r x;refine wpAny_mono (ht [] s1 (start N vs) H _ I hq) (λfl Y C=>?_) λe Y C=>C;have G:∀ {j:St}{m:Hp}{v:V}{u:Value},aI (oY CX P w K mg base N g scope f h A outer s H E) [] j m Y->RelV v u->Q v m->CE outer P w H s Q u Y:=
  λ{j m v u} J X q=>⟨v,m,J.os,J.bare,J.base,J.hok,X,q⟩
 cases fl with
 |ret u=>
  obtain⟨v,j,m,J,X,q⟩:=C;exact G J X q
 |next=>
  obtain⟨j,m,J,q⟩:=C;exact G (v:=V.non) (u:=Value.none) J rfl q
 |brk=>
  obtain⟨_,_,_,q⟩:=C;exact False.elim q
 |cont=>
  obtain⟨_,_,_,q⟩:=C;exact False.elim q
section
variable {X:Cx}{x:Str}{p pos:Pos}{e:Expr}{es:List Expr}{t:TA}{id T:String}{r:List V->Hp->VK->Prop}
def PH (r:List V->Hp->VK->Prop)(t:TA):TE:=λg H Q=>t g H λv h=>r v h Q
theorem DR (n:fQ X (.builtin id) r) (o:Gl X x) (q:X.mg x=none) (y:bootBuiltins x=some (.builtin id)) (m:PA X (e::es) t) (v:x≠"__name__":=by decide) (hdb:(x == ("__debug__":Str))=false:=by decide)
  (he:starEach (e::es) X.env=(false,eval e X.env)::starEach es X.env:=by rfl) (hpl:(backTo pos (starEach es X.env)).any (·.1)=false:=by rfl):PE X (.Call (.Name x p) (e::es) [] pos) (PH r t):=by
 intro g s i H Q I h;refine wpAny_Call_Name_kw (ij I o q y ?_ v hdb);exact PyProof.Rows.callWith_builtin1 (cM (m pos g s i H _ I h) <| by rintro D C ⟨E,j,k,B,z⟩;exact n g C i j E D Q k B z) he hpl
end
end L2
namespace HT
open PySem PyProof.Rows
section
open PySem.SeqAt
open PySem.AutoSeq1 (wpAny_loadPart')
open PySem.MeetsSeq PySem.MeetsSeq2 PySem.MeetsSeq3
end
section
variable {prog:Program}{w:World}{A:Around}{E:Value->Shared->Prop}{s:Shared}
def sIx (n d:Nat):Option Int->Nat
 |none=>d
 |some v=>if v<0 then (v+(n:Int)).toNat else min v.toNat n
theorem sIx_none (n d:Nat):sIx n d none=d:=rfl
theorem sIx_nat (n d k:Nat):sIx n d (some (k:Int))=min k n:=by
 show(if (k:Int)<0 then ((k:Int)+(n:Int)).toNat else min (k:Int).toNat n)=min k n
 rw[if_neg ⋯,toNat_natCast]
end
end HT
namespace L2
open PySem PySem.Spec PyProof.Rows
abbrev TO:=St->Hp->(Option Int->Hp->Prop)->Prop
def PO (X:Cx)(e:Option Expr)(t:TO):Prop:=
 ∀ (p:List (Addr × Obj)) (s:Shared) (g:St) (H:Hp) (Q:Option Int->Hp->Prop),aI X p g H s->t g H Q →
  wpAny (model X.prog X.w) X.A (evalPart e X.env) (λu i=>∃ o h,aI X p g h i/\IsPart u o/\Q o h) X.xe s
def Hz:TO:=λ_ H Q=>Q none H
def N2 (t:TE):TO:=λe H Q=>t e H λx h=>∃ i,x=.int i/\Q (some i) h
section
variable {X:Cx}{e:Expr}{te:TE}{lo hi:Option Expr}{tl th:TO}{pos p2:Pos}
theorem GY:PO X none Hz:=by
 intro p s g H Q I h;rw[evalPart_none];exact wpAny_pure ⟨none,H,I,.none,h⟩
theorem GZ (h:PE X e te):PO X (some e) (N2 te):=by
 intro p s j H Q I g;rw[evalPart_some];refine cM (h p s j H _ I g) ?_;rintro u g ⟨x,g,j,m,k⟩;obtain⟨i,rfl,q⟩:=k;obtain⟨t,rfl⟩:=m;exact⟨some i,g,j,.int i t,q⟩
def L3 (X:Cx)(r:V->Option Int->Option Int->Hp->VK->Prop):Prop:=
 ∀ (p:List (Addr × Obj)) (s:Shared) (j:St) (H:Hp) (x:V) (v h i:Value) (lo hi:Option Int) (g:Addr) (Q:VK),aI X p j H s->RelV x v->s.heap.IsSliceOf g h i .none->IsPart h lo->IsPart i hi->r x lo hi H Q →
  ∃ T id,typeLookup (.type T) "__getitem__"=pure (some (.builtin id))/\s.TypeIs v T/\wpAny (model X.prog X.w) X.A (getItem v (.ref g)) (EP X p j Q) X.xe s
theorem L3.or (h:L3 X r)(h':L3 X j):L3 X (λx lo hi H Q=>r x lo hi H Q\/j x lo hi H Q):=by
 intro p s y H x v n o lo hi m Q I k g pl i q
 obtain q|q:=q
 .exact h p s y H x v n o lo hi m Q I k g pl i q
 .exact h' p s y H x v n o lo hi m Q I k g pl i q
def P8 (r:V->Option Int->Option Int->Hp->VK->Prop)(te:TE)(tl th:TO):TE:=λg H Q=>te g H λx h=>tl g h λl h=>th g h λu h=>r x l u h Q
theorem DS (B:L3 X r)(he:PE X e te)(z:PO X lo tl)(D:PO X hi th):PE X (.Subscript e (.Slice lo hi none p2) pos) (P8 r te tl th):=by
 intro p s i H Q I h;refine Subscript_ (cM (he p s i H _ I h) ?_);rintro v m ⟨x,g,j,G,k⟩;refine wpAny_Slice (cM (z p m i g _ j k) λj n ⟨l,g,k,pl,m⟩=>cM (D p n i g _ k m) ?_);rintro k g ⟨u,m,n,E,F⟩;rw[evalPart_none];refine wpAny_pure ?_;have o:aI X p i m {g with heap:=g.heap.push {cls:=.type "slice",data:=.fields #[j,k,.none]}}:=n.kept (t':=g.toks) λb n q=>Heap.get?_push_of_some _ q;obtain⟨T,id,n,C,y⟩:=B p {g with heap:=g.heap.push {cls:=.type "slice",data:=.fields #[j,k,.none]}} i m x v j k l u g.heap.objs.size Q o G (Heap.IsSliceOf.new ..) pl E F;show wpAny (model X.prog X.w) X.A (subscriptTail e (.Slice lo hi none p2) v (.ref g.heap.objs.size)) (EP X p i Q) X.xe {g with heap:=g.heap.push {cls:=.type "slice",data:=.fields #[j,k,.none]}};exact tail_any (ops:=[.ref g.heap.objs.size,v]) C n y (by with_unfolding_all rfl)
def yH (xs:List V)(lo hi:Option Int):List V:=(xs.drop (HT.sIx xs.length 0 lo)).take (HT.sIx xs.length xs.length hi-HT.sIx xs.length 0 lo)
theorem tP (xs:List V)(lo hi:Option Int):(yH xs lo hi).length<=xs.length:=by
 unfold yH;rw[length_take,length_drop];ext
end
def rM (n:Nat)(i:Int):Option Nat:=if 0<=i then (if i<n then some i.toNat else none) else if -(n:Int)<=i then some (i+n).toNat else none
def atI {α:Type}(xs:List α)(i:Int):Option α:=(rM xs.length i).bind λj=>xs[j]?
theorem xt (h:rM n i=some j):seqIndex? i n=some j/\j<n/\-(n:Int)<=i/\i<n:=by
 unfold rM at h
 by_cases k:0<=i
 .rw[if_pos k]at h
  by_cases g:i<n
  .rw[if_pos g]at h;have e:i.toNat=j:=Option.some.inj h;exact⟨by rw[seqIndex_of k g,e],⋯,⋯,g⟩
  .rw[if_neg g]at h;cases h
 .rw[if_neg k]at h
  by_cases g:-(n:Int)<=i
  .rw[if_pos g]at h;have e:(i+n).toNat=j:=Option.some.inj h;exact⟨by rw[seqIndex_neg ⋯ g,e],⋯,g,⋯⟩
  .rw[if_neg g]at h;cases h
theorem wR (h:atI xs i=some v):∃ j,seqIndex? i xs.length=some j/\xs[j]?=some v/\j<xs.length/\-(xs.length:Int)<=i/\i<xs.length:=by
 unfold atI at h
 cases e:rM xs.length i with
 |none=>rw[e]at h;cases h
 |some j=>
  rw[e]at h;obtain⟨g,k,m,n⟩:=xt e;exact⟨j,g,h,k,m,n⟩
theorem Fi {α:Type}{xs:List α}{j:Nat}{v:α}(h:xs[j]?=some v):atI xs (j:Int)=some v:=by
 have g:j<xs.length:=(List.getElem?_eq_some_iff.mp h).1;have e:rM xs.length (j:Int)=some j:=by
  unfold rM;rw[if_pos ⋯,if_pos ⋯];simp
 unfold atI;rw[e];exact h
theorem Ag (xs:List α)(v:α):atI (xs++[v]) (-1)=some v:=by
 have h:(xs++[v]).length=xs.length+1:=by simp
 have e:rM (xs++[v]).length (-1)=some xs.length:=by
  unfold rM;rw[h,if_neg ⋯,if_pos ⋯]
  congr 1
  ext
 unfold atI;rw[e];show(xs++[v])[xs.length]?=some v;simp
def wM (b:Expr):Prop:=∀ o i,subscripted b false o i=operate [o,i] (getItem o i)
def Iw (X:Cx)(r:R2):Prop:=
 ∀ (g e:Expr) (p:List (Addr × Obj)) (s:Shared) (h:St) (H:Hp) (x y:V) (v u:Value) (Q:VK),aI X p h H s->RelV x v->RelV y u->r x y H Q →
  subscripted e false v u=operate [v,u] (getItem v u)->wpAny (model X.prog X.w) X.A (subscriptTail g e v u) (EP X p h Q) X.xe s
def L0 (X:Cx)(id:String)(r:V->List V->Hp->VK->Prop):Prop:=
 ∀ (p:List (Addr × Obj)) (s:Shared) (h:St) (H:Hp) (x:V) (g:List V) (v:Value) (e:List Value) (Q:VK),aI X p h H s->RelV x v->aP g e->r x g H Q →
  wpAny (model X.prog X.w) X.A (call (.builtin id) (v::e)) (EP X p h Q) X.xe s
section
variable {X:Cx}{a b:Expr}{ta tb:TE}{pos:Pos}
theorem Iw.or (h:Iw X r)(h':Iw X j):Iw X (λx y H Q=>r x y H Q\/j x y H Q):=by
 intro g e p s n H x y v u Q I k m q i
 obtain q|q:=q
 .exact h g e p s n H x y v u Q I k m q i
 .exact h' g e p s n H x y v u Q I k m q i
theorem L0.or {id:String}{r e:V->List V->Hp->VK->Prop}(h:L0 X id r)(h':L0 X id e):L0 X id (λx xs H Q=>r x xs H Q\/e x xs H Q):=by
 intro p s k H x xs v j Q I i g q
 obtain q|q:=q
 .exact h p s k H x xs v j Q I i g q
 .exact h' p s k H x xs v j Q I i g q
theorem NJ (k:Iw X r)(g:PE X a ta)(j:PE X b tb)(hs:wM b):PE X (.Subscript a b pos) (LC r ta tb):=by
 intro p s z H Q I h;exact Subscript_ (Jq g j I h λv u o x y e i m n q=>k a b p o z e x y v u Q i m n q (hs _ _))
def NR (K:Frg):R2:=λx y H Q=>∃ p e i v,x=.ref p/\y=.int i/\cV K H p e/\atI e i=some v/\Q v H
def NS (K:Frg):R2:=λx y H Q=>∃ p e i v,x=.ref p/\y=.int i/\je K H p e/\atI e i=some v/\Q v H
theorem F4:Iw X (NR X.K):=by
 intro e e e s D H x y v u Q I m n h C;obtain⟨p,g,i,z,rfl,rfl,g,k,q⟩:=h
 cases m
 obtain⟨t,rfl⟩:=n;obtain⟨m,r,pl,hz⟩:=I.list g;obtain⟨j,g,n,o,E,F⟩:=wR k;obtain⟨w,o,k⟩:=r.get n;have G:=r.length;have n:=rS;have n:EP X e D Q w s:=⟨z,H,I,k,q⟩
 by_cases B:0<=i
 .have k:i.toNat=j:=by
   rw[seqIndex_of B F]at g;exact Option.some.inj g
  exact item_listR pl.isList B ⋯ (by rw[k];simpa using o) n C
 .have k:(i+(m.toArray.size:Int)).toNat=j:=by
   rw[seqIndex_neg ⋯ E]at g
   rw[size_toArray,<-G];exact Option.some.inj g
  exact subscriptTail_builtinR (x:=w) pl.isList.typeIs slot_list_getitem.lookup
   (wpAny_getItem_list_neg (Q:=λr g=>r=w/\EP X e D Q r g) pl.isList ⋯ (by rw[size_toArray] <;> ext) ⋯ (by rw[k];simpa using o) ⟨rfl,n⟩) C
theorem Kb:Iw X (NS X.K):=by
 intro e e e s k H x y v u Q I n o h C;obtain⟨p,g,i,z,rfl,rfl,m,g,q⟩:=h
 cases n
 obtain⟨t,rfl⟩:=o;obtain⟨n,r,pl,hz⟩:=I.tuple m;obtain⟨j,o,n,m,m,m⟩:=wR g;obtain⟨w,m,g⟩:=r.get n;have B:=r.length;have n:=rS;have n:EP X e k Q w s:=⟨z,H,I,g,q⟩;exact subscriptTail_builtinR (x:=w) pl.typeIs slot_tuple_getitem.lookup
  (getItem_tuple (j:=j) (Q:=λr g=>r=w/\EP X e k Q r g) pl ⋯ ⋯ (by rw[size_toArray,<-B];exact o) (by simpa using m) ⟨rfl,n⟩) C
theorem vL (its:List Value) (n j:Nat) (u:Value):Obj.mapSeq (·.setIfInBounds j u) {cls:=.type "list",data:=.seq its.toArray n}={cls:=.type "list",data:=.seq (its.set j u).toArray n}:=by
 simp[Obj.mapSeq]
theorem aI.lst (I:aI X pins σ H s)(h:H p=some (.lst xs)) :
  ∃ (its:List Value) (n:Nat),aP xs its/\s.heap.get? p=some {cls:=.type "list",data:=.seq its.toArray n}/\xs.length<=sizeLine:=by
 obtain⟨z,its,n,r,e⟩:=I.hok p _ h;exact⟨its,n,r,e,z⟩
theorem aI.lstUpd {pins:List (Addr × Obj)}{σ:St}{H:Hp}{s:Shared}{p:Addr}{xs ys:List V}{its its':List Value}{n g:Nat}{f:Obj->Obj}(I:aI X pins σ H s)(h:H p=some (.lst xs))
  (o:s.heap.get? p=some {cls:=.type "list",data:=.seq its.toArray n}) (i:f {cls:=.type "list",data:=.seq its.toArray n}={cls:=.type "list",data:=.seq its'.toArray g}) (r:aP ys its') (hz:ys.length<=sizeLine) (t:Nat) :
  aI X pins σ (cG H p (.lst ys)) {s with heap:=s.heap.update p f,toks:=t}:=by
 have e:(s.heap.update p f).get? p=some {cls:=.type "list",data:=.seq its'.toArray g}:=by
  rw[Heap.get?_update_self f o (by rw[i] <;> rfl),i]
 refine I.write (x:=p) (e:=p) (by rw[h];trivial) (.inl rfl) (λb u j q=>(Heap.get?_update_other _ _ (Ne.symm j)).trans q) ⟨_,e⟩ ?_
 exact⟨hz,its',g,r,e⟩
def NT:V->V->V->Hp->(Hp->Prop)->Prop:=λo i v H Q=>∃ p x k j,o=.ref p/\i=.int k/\H p=some (.lst x)/\rM x.length k=some j/\Q (cG H p (.lst (x.set j v)))
theorem set_list:Mf X NT:=by
 intro g s G H o i v ov e u Q I m e E h;obtain⟨p,F,k,j,rfl,rfl,B,x,q⟩:=h
 cases m
 obtain⟨t,rfl⟩:=e;obtain⟨e,n,r,y,hz⟩:=I.lst B;obtain⟨m,z,C,D⟩:=xt x;have x:=r.length;have z:=rS;have z:aI X g G (cG H p (.lst (F.set j v))) {s with heap:=s.heap.update p (Obj.mapSeq (·.setIfInBounds j u))}:=
  I.lstUpd B y (vL e n j u) (r.set E j) (by rw[length_set];exact hz) s.toks
 by_cases B:0<=k
 .have g:k.toNat=j:=by
   rw[seqIndex_of B D]at m;exact Option.some.inj m
  exact PySem.W.ki_setAt y B ⋯ (by rw[size_toArray,<-x];exact D) (by rw[g];exact⟨_,z,q⟩)
 .have g:(k+(e.toArray.size:Int)).toNat=j:=by
   rw[seqIndex_neg ⋯ C]at m
   rw[size_toArray,<-x];exact Option.some.inj m
  exact PySem.W.ki_setBack y ⋯ (by rw[size_toArray,<-x];exact C) ⋯ (by rw[g];exact⟨_,z,q⟩)
theorem sF (lo hi:Option Int)(n:Nat):(sliceBounds lo hi none n).1=((HT.sIx n 0 lo:Nat):Int)/\(sliceBounds lo hi none n).2.1=((HT.sIx n n hi:Nat):Int)/\(sliceBounds lo hi none n).2.2=1:=by
 refine⟨?_,?_,rfl⟩
 .cases lo with
  |none=>simp[sliceBounds,HT.sIx]
  |some i=>
   simp only[sliceBounds,HT.sIx,getD_none,show(1:Int)>0 by decide,if_true]
   by_cases h:i<0
   .simp only[h,if_true] <;> ext
   .simp only[h,if_false] <;> ext
 .cases hi with
  |none=>simp[sliceBounds,HT.sIx]
  |some i=>
   simp only[sliceBounds,HT.sIx,getD_none,show(1:Int)>0 by decide,if_true]
   by_cases h:i<0
   .simp only[h,if_true] <;> ext
   .simp only[h,if_false] <;> ext
theorem pp (its:List Value)(lo hi:Option Int):slicePick its.toArray lo hi none=((its.drop (HT.sIx its.length 0 lo)).take (HT.sIx its.length its.length hi-HT.sIx its.length 0 lo)).toArray:=by
 obtain⟨h,e,g⟩:=sF lo hi its.toArray.size;unfold slicePick;rw[h,e,g];simp only[sliceRange_one,pick_run,size_toArray] <;> rfl
def O8 (K:Frg):V->Option Int->Option Int->Hp->VK->Prop:=λx lo hi H Q=>∃ a e,x=.ref a/\cV K H a e/\∀ p,H p=none->Q (.ref p) (cG H p (.lst (yH e lo hi)))
theorem Hu:L3 X (O8 X.K):=by
 intro p s e H x v e e lo hi e Q I g i pl p h;obtain⟨a,e,rfl,j,q⟩:=h
 cases g
 obtain⟨g,r,g,hz⟩:=I.list j;have n:=r.length;refine⟨"list",_,slot_list_getitem.lookup,g.isList.typeIs,?_⟩;refine wpAny_getItem_list_slice g.isList i pl p .none (by simp) ?_ (by rw[size_toArray] <;> ext)
 rw[pp,<-n];refine⟨.ref s.heap.objs.size,_,I.laid (t':=s.toks) (o:=.lst (yH e lo hi)) (λb g q=>Heap.get?_push_of_some _ q) (le_refl _) ?_,rfl,q _ (I.hok.fresh (le_refl _))⟩;exact⟨le_trans (tP e lo hi) hz,_,0,(r.drop (HT.sIx e.length 0 lo)).take (HT.sIx e.length e.length hi-HT.sIx e.length 0 lo),Heap.get?_push_size _ rfl⟩
theorem qF:fQ X (.builtin "len") (λxs H Q=>∃ p ys,xs=[.ref p]/\(cV X.K H p ys\/je X.K H p ys)/\Q (.int ys.length) H):=by
 intro e s e H xs e Q I r h;obtain⟨p,ys,rfl,e,q⟩:=h;obtain⟨u,rfl,x⟩:=vals1 r
 cases x
 have n:=rS
 obtain e|e:=e
 .obtain⟨i,g,pl,hz⟩:=I.list e;have n:=g.length;exact Calls.call_len_list pl.isList (by simp only[size_toArray] <;> ext) ⟨.int ys.length,H,I.tok _,⟨s.toks+1,by rw[size_toArray,n]⟩,q⟩
 .obtain⟨i,g,pl,hz⟩:=I.tuple e;have n:=g.length;exact len_tuple pl (by simp only[size_toArray] <;> ext) ⟨.int ys.length,H,I.tok _,⟨s.toks+1,by rw[size_toArray,n]⟩,q⟩
theorem fQ.or (h:fQ X f r)(h':fQ X f e):fQ X f (λxs H Q=>r xs H Q\/e xs H Q):=by
 intro p s j H xs i Q I g q
 obtain q|q:=q
 .exact h p s j H xs i Q I g q
 .exact h' p s j H xs i Q I g q
def Pu (K:Frg)(T:String)(x:V)(H:Hp):Prop:=match x with
 | .str _=>T="str"
 | .int _=>T="int"
 | .ref p=>(T="list"/\∃ e,cV K H p e)\/(T="tuple"/\∃ o,K.lookup p=some o/\o.cls=.type "tuple"/\o.dict=none) ∨
   (T="dict"/\((∃ k,H p=some (.dK k))\/∃ k,H p=some (.dT k)))\/(T="set"/\∃ S n,H p=some (.set S n))
 |_=>False
theorem EA (I:aI X pins σ H s)(r:RelV x v)(ty:Pu X.K T x H) :
  s.TypeIs v T/\∀ a,v=.ref a->∃ j,s.heap.get? a=some j/\j.dict=none:=by
 cases x with
 |str z=>
  obtain⟨t,rfl⟩:=r
  cases (show T="str" from ty)
  exact⟨typeIs_str s z t,λ_ e=>nomatch e⟩
 |int i=>
  obtain⟨t,rfl⟩:=r
  cases (show T="int" from ty)
  exact⟨typeIs_int s i t,λ_ e=>nomatch e⟩
 |ref p=>
  cases r
  obtain⟨rfl,g,q⟩|⟨rfl,o,h,g,hd⟩|⟨rfl,h⟩|⟨rfl,S,n,h⟩:=ty
  .obtain⟨j,_,pl,_⟩:=I.list q;refine⟨pl.isList.typeIs,λa e=>?_⟩
   cases e
   obtain⟨o,n,e,c,hd,_⟩:=pl;exact⟨o,e,hd⟩
  .refine⟨⟨o,I.kIn p o h,g⟩,λa e=>?_⟩
   cases e
   exact⟨o,I.kIn _ o h,hd⟩
  .have z:∃ o,s.heap.get? p=some o/\o.ExactDict:=by
    obtain⟨k,h⟩|⟨k,h⟩:=h
    .obtain⟨_,_,_,_,o,_,_,e,ex,_⟩:=I.hok p _ h;exact⟨o,e,ex⟩
    .obtain⟨_,_,_,_,o,_,_,e,ex,_⟩:=I.hok p _ h;exact⟨o,e,ex⟩
   obtain⟨o,e,ex⟩:=z;refine⟨⟨o,e,ex.1⟩,λa g=>?_⟩
   cases g
   exact⟨o,e,ex.2.1⟩
  .obtain⟨o,_,_,_,e,ex,_⟩:=I.hok p _ h;refine⟨⟨o,e,ex.1⟩,λa g=>?_⟩
   cases g
   exact⟨o,e,ex.2.1⟩
 |_=>exact False.elim ty
def Pe (K:Frg)(T:String)(r:V->List V->Hp->VK->Prop)(to:TE):TE:=λe H Q=>to e H λx h=>Pu K T x h/\r x [] h Q
def P6 (K:Frg)(T:String)(r:V->List V->Hp->VK->Prop)(to:TE)(t:TA):TE:=λe H Q=>to e H λx h=>Pu K T x h/\t e h λe h=>r x e h Q
variable {o e:Expr}{es:List Expr}{to:TE}{t:TA}{name:Str}{apos cpos:Pos}{T id:String}{r:V->List V->Hp->VK->Prop}
theorem KY (D:PlainAttrs T) (slot:Slot T name id) (y:typeOf (.builtin id)=pure (.type "method_descriptor")) (B:L0 X id r) (C:PE X o to)
  (g:attributeBase o name X.env (eval o X.env)=eval o X.env:=by rfl) (i:(apos.endLine == cpos.line)=true:=by rfl):PE X (.Call (.Attribute o name apos) [] [] cpos) (Pe X.K T r to):=by
 intro p s m H Q I h;refine wpAny_Call_method0_late g i (cM (C p s m H _ I h) ?_);rintro v F ⟨x,n,j,k,ty,E⟩;obtain⟨q,z⟩:=EA j k ty;exact⟨T,id,D,slot,y,q,z,Calls.callWith_builtin rfl (PySem.evalArgs_none (B p F m n x [] v [] Q j k .nil E))⟩
theorem Ih (G:PlainAttrs T) (slot:Slot T name id) (y:typeOf (.builtin id)=pure (.type "method_descriptor")) (E:L0 X id r) (F:PE X o to) (D:PA X (e::es) t)
  (g:attributeBase o name X.env (eval o X.env)=eval o X.env:=by rfl)
  (j:((backTo cpos (starEach (e::es) X.env)).all (λx=>!x.1) && (backToKw cpos (keywordEach [] X.env)).all (λx=>x.1.isSome)
   && decide ((e::es).length+([]:List Keyword).length+(if ([]:List Keyword).isEmpty then 0 else 1)<30))=true:=by rfl)
  (i:(apos.endLine == cpos.line)=true:=by rfl) (hs:starEach (e::es) X.env=(false,eval e X.env)::starEach es X.env:=by rfl) (n:(backTo cpos (starEach es X.env)).any (·.1)=false:=by rfl) :
  PE X (.Call (.Attribute o name apos) (e::es) [] cpos) (P6 X.K T r to t):=by
 intro p s k H Q I h;refine wpAny_Call_method_late g j i rfl (cM (F p s k H _ I h) ?_);rintro v L ⟨x,B,m,z,ty,J⟩;obtain⟨q,C⟩:=EA m z ty;refine⟨T,id,G,slot,y,q,C,?_⟩;have q:=D cpos p L k B _ m J;rw[hs]at q ⊢;refine Calls.callWith_builtin (by show(false || (backTo cpos (starEach es X.env)).any (·.1))=false;rw[n] <;> rfl) (Calls.evalArgs_plain ?_)
 exact cM q <| by rintro L J ⟨M,m,q,C,B⟩;exact E p J k m x M v L Q q z C B
end
def OD (X:Cx)(id:String)(r:V->List V->Hp->VK->Prop):Prop:=
 ∀ (p:List (Addr × Obj)) (s:Shared) (h:St) (H:Hp) (x:V) (g:List V) (v:Value) (e:List Value) (Q:VK),aI X p h H s->RelV x v->aP g e->r x g H Q →
  wpAny (model X.prog X.w) X.A (call (.builtin id) (v::e)) (EP X p h Q) X.xe s
theorem aP.one:∀ {x:V}{us:List Value},aP [x] us->∃ u,us=[u]/\RelV x u
 |_,_,.cons r .nil=>⟨_,rfl,r⟩
theorem aP.two:∀ {x y:V}{us:List Value},aP [x,y] us->∃ u v,us=[u,v]/\RelV x u/\RelV y v
 |_,_,_,.cons r (.cons q .nil)=>⟨_,_,rfl,r,q⟩
theorem aP.zero:∀ {us:List Value},aP [] us->us=[]
 |_,.nil=>rfl
theorem aP.dropLast (h:aP xs us):aP xs.dropLast us.dropLast:=by
 induction h with
 |nil=>exact .nil
 |cons r t i=>
  cases t with
  |nil=>exact .nil
  |cons q e=>exact .cons r i
theorem aP.eraseIdx:∀ {xs:List V}{us:List Value} (i:Nat),aP xs us->aP (xs.eraseIdx i) (us.eraseIdx i)
 |_,_,_,.nil=>.nil
 |_,_,0,.cons _ t=>t
 |_,_,i+1,.cons r t=>.cons r (aP.eraseIdx i t)
theorem aP.reverse (h:aP xs us):aP xs.reverse us.reverse:=by
 induction h with
 |nil=>exact .nil
 |cons r t i=>rw[reverse_cons,reverse_cons];exact aP.append i (.cons r .nil)
theorem vz (l:List α):l.eraseIdx (l.length-1)=l.dropLast:=by
 induction l with
 |nil=>rfl
 |cons a r h=>
  cases r with
  |nil=>rfl
  |cons b r=>
   have e:(a::b::r).length-1=((b::r).length-1)+1:=by
    have g:(a::b::r).length=r.length+2:=rfl;have g:(b::r).length=r.length+1:=rfl;ext
   rw[e,List.eraseIdx_cons_succ,h]
   all_goals rfl
section
variable {X:Cx}{pins:List (Addr × Obj)}{σ:St}{H:Hp}{s:Shared}{l b:Addr}{xs ys zs:List V}
theorem aI.lset {its its':List Value}{n:Nat}{f:Array Value->Array Value}{t':Nat}(I:aI X pins σ H s)(h:H l=some (.lst xs))
  (e:s.heap.get? l=some {cls:=.type "list",data:=.seq its.toArray n}) (i:f its.toArray=its'.toArray) (v:aP ys its') (hz:ys.length<=sizeLine) :
  aI X pins σ (cG H l (.lst ys)) {s with heap:=s.heap.update l (Obj.mapSeq f),toks:=t'}:=by
 have q:=PySem.IsL.update e f;rw[i]at q;refine I.write (x:=l) (e:=l) (by rw[h];exact trivial) (.inl rfl) (λg u g j=>(Heap.get?_update_other s.heap (Obj.mapSeq f) (Ne.symm g)).trans j) ⟨_,q⟩ ?_
 exact⟨hz,its',_,v,q⟩
theorem aI.lnew (I:aI X pins σ H s)(h:aP ys its)(hz:ys.length<=sizeLine) :
  aI X pins σ (cG H s.heap.objs.size (.lst ys)) {s with heap:=s.heap.push {cls:=.type "list",data:=.seq its.toArray},toks:=t'}:=
 I.laid (λ_ _ q=>Heap.get?_push_of_some _ q) (le_refl _) ⟨hz,its,0,h,Heap.get?_push_size _ rfl⟩
theorem aI.fresh (I:aI X pins σ H s):H s.heap.objs.size=none:=I.hok.fresh (le_refl _)
theorem aI.lstM (I:aI X pins σ H s) (h:H l=some (.lst xs)):xs.length<=sizeLine/\∃ (its:List Value) (n:Nat),aP xs its/\xs.length=its.length/\s.heap.get? l=some {cls:=.type "list",data:=.seq its.toArray n}:=by
 obtain⟨z,its,n,r,e⟩:=I.hok l _ h;exact⟨z,its,n,r,r.length,e⟩
theorem DA (h:n<=sizeLine):Builtin.List.listTooLong n=false:=by
 unfold Builtin.List.listTooLong;exact decide_eq_false ⋯
end
section
variable {X:Cx}
def Hh:V->List V->Hp->VK->Prop:=λx v H Q=>∃ l e y,x=.ref l/\v=[y]/\H l=some (.lst e)/\e.length<sizeLine/\Q .non (cG H l (.lst (e++[y])))
theorem pW:OD X "list.append" Hh:=by
 intro p s g H x g v g Q I j i h;obtain⟨l,g,y,rfl,rfl,g,hz,q⟩:=h
 cases j
 obtain⟨u,rfl,j⟩:=i.one;obtain⟨z,i,n,r,k,e⟩:=I.lstM g;refine call_meets F.slot_list_append ⟨_,e,rfl⟩ F.entry_list_append (F.args_list_append_2 _ _) (PySem.list_append l i.toArray n u (by rw[size_toArray];ext)) ⟨e,?_⟩
 refine⟨.non,_,I.lset (its':=i++[u]) g e (by simp) (r.append (.cons j .nil)) ?_,rfl,q⟩
 rw[List.length_append,length_singleton];ext
def Hj:V->List V->Hp->VK->Prop:=λx v H Q=>∃ l b e z,x=.ref l/\v=[.ref b]/\H l=some (.lst e)/\H b=some (.lst z)/\e.length+z.length<=sizeLine/\Q .non (cG H l (.lst (e++z)))
theorem ze:OD X "list.extend" Hj:=by
 intro p s g H x g v g Q I g i h;obtain⟨l,b,j,j,rfl,rfl,m,j,hz,q⟩:=h
 cases g
 obtain⟨u,rfl,g⟩:=i.one
 cases g
 obtain⟨z,g,n,r,i,e⟩:=I.lstM m;obtain⟨i,i,p,y,k,o⟩:=I.lstM j;have k:g.toArray.size+i.toArray.size<=sizeLine:=by rw[size_toArray,size_toArray];ext
 have j:¬ (!g.toArray.isEmpty && Builtin.List.listTooLong (g.toArray.size+i.toArray.size))=true:=by
  rw[DA k,Bool.and_false];exact Bool.false_ne_true
 refine call_meets F.slot_list_extend ⟨_,e,rfl⟩ F.entry_list_extend (F.args_list_extend_2 _ _)
  (AutoSeq1.list_extend_list_list_0 l g.toArray n b i.toArray p j (by rw[size_toArray];ext) ⋯) ⟨e,o,?_⟩
 refine⟨.non,_,I.lset (its':=g++i) m e (by simp) (r.append y) ?_,rfl,q⟩
 rw[List.length_append];ext
def O7:V->List V->Hp->VK->Prop:=λx v H Q=>∃ l e y,x=.ref l/\v=[]/\H l=some (.lst e)/\e[e.length-1]?=some y/\Q y (cG H l (.lst e.dropLast))
theorem Kw:OD X "list.pop" O7:=by
 intro p s g H x g v g Q I g i h;obtain⟨l,j,y,rfl,rfl,j,o,q⟩:=h
 cases g
 have g:=i.zero;subst g;obtain⟨z,i,n,r,k,e⟩:=I.lstM j;obtain⟨u,m,p⟩:=r.get o;have g:i.toArray[i.toArray.size-1]?=some u:=by
  show i.toArray[i.length-1]?=some u;rw[<-getElem?_toList,<-k];exact m
 refine call_meets F.slot_list_pop ⟨_,e,rfl⟩ F.entry_list_pop (F.args_list_pop_1 _) (MeetsSeq.list_pop_last l i.toArray n u g (by rw[size_toArray];ext)) ⟨e,?_⟩
 refine⟨y,_,I.lset (its':=i.dropLast) j e ?_ r.dropLast ?_,p,q⟩
 .show i.toArray.eraseIdxIfInBounds (i.toArray.size-1)=i.dropLast.toArray;rw[size_toArray,List.eraseIdxIfInBounds_toArray,vz]
 .rw[length_dropLast];ext
end
section
variable {prog:Program}{w:World}{A:Around}{E:Value->Shared->Prop}{s:Shared}
end
section
variable {X:Cx}
end
end L2
namespace Att
open PySem PySem.W PySem.Calls PyProof.Rows
theorem l9:∀ (ns:List Int) (vs:List Value),WellAll P h vs (ns.map WData.int)->IntsAre vs ns:=by
 intro ns
 induction ns with
 |nil=>
  intro vs w;rw[List.map_nil]at w
  cases w
  exact .nil
 |cons n ns i=>
  intro vs w;rw[map_cons]at w
  cases w with
  |cons a b=>
   cases a
   exact .cons _ _ (i _ b)
theorem zF {l:OpenLaw}{n:Nat}(hn:l.most=some n){P:Params}{h:Heap}{args:List WData}{vals:List Value}
  (hpre:l.row.toRowW.claim.pre args=true) (hwl:WellAll P h vals args) :
  ∃ a vs ns,vals=[Value.ref a]/\args=[WData.list (ns.map WData.int)]/\h.get? a=some {cls:=.type "list",data:=.seq vs.toArray}/\IntsAre vs ns/\ns.length<=n:=by
 have hsh:WShape.hasAll [] args [.list .int]=true:=(pre_splitW hpre).1;have hc:l.pre.holds [] {args:=args}=true:=(pre_splitW hpre).2;obtain⟨d,r,rfl,h1,h2⟩:=hasAllW_cons hsh;obtain rfl:=hasAllW_nil h2;obtain⟨xs,rfl,h3⟩:=hasW_list h1;obtain⟨ns,rfl⟩:=items_int h3;have hlen:ns.length<=n:=by
  unfold OpenLaw.pre at hc;have h4:(WTm.not (.lt (.lit (.int (n:Int))) (.len (.arg 0)))).holds [] {args:=[.list (ns.map .int)]}=true:=by
   have h4:=(holds_andW hc).1;rw[hn]at h4;exact h4
  have h5:=condW_of h4 (w_not (w_lt w_lit (w_len_list (w_arg rfl))));rw[length_map]at h5;refine le_of_not_lt λq=>?_;have q':(n:Int)<((ns.length:Nat):Int):=⋯
  first
   | (rw[decide_eq_true q']at h5;exact absurd h5 ⋯)
   | (simp at h5;ext)
 cases hwl with
 |cons w1 w2=>
  cases w2
  cases w1 with
  |list ho hall=>exact⟨_,_,ns,rfl,rfl,ho,l9 ns _ hall,hlen⟩
theorem zB (l:OpenLaw)(e:List WData):l.row.toRowW.claim.post e (.bool true) e=true:=
 postW_of (r:=l.row.toRowW) (X:=(true == true))
  (show WShape.has [] (.bool true) .bool=true by first|rfl|decide|simp[WShape.has,WShape.arms,WShape.armsAll])
  (show(WTm.eq .res (.lit (.bool true))).value [] {args:=e,res:=some (.bool true),after:=e}=some (.bool (true == true)) from w_eq_bool (w_res rfl) w_lit) rfl
theorem attach_call {l:OpenLaw}{n:Nat}{q:Program}{g:List Str}{E:(Str->Option Value)->Heap->Prop}{F:World->Heap->Prop}{d:DefRec}
  (I:l.most=some n) (z:d.params.defaults=[])
  (call:∀ (w:World) (s₀ e:Shared) (mg D:Str->Option Value) (j:Addr) (o:Obj) (pm v h:Value) (a:Addr) (vs:List Value) (ns:List Int),
   Ground q g [] E w s₀ mg D e.heap->F w e.heap →
   e.heap.get? j=some o->o.data=.func (docDef d.name d.params d.body d.scope pm v h)->e.heap.CodeRec v d.name->mg d.name=some (.ref j) →
   e.heap.get? a=some {cls:=.type "list",data:=.seq vs.toArray}->IntsAre vs ns->ns.length<=n->e.gens=#[] →
   codeAny (model l.prog w) callerA (.call (.ref j) ⟨[.ref a],[]⟩) (λr x=>r=.ok (.ret (.bool true))/\OldK e.heap x.heap/\x.os=e.os/\AllBare x.gens) e) :
  WalkO q g E F l.row.toRowW d [] (λf vs=>PySem.call f vs):=by
 intro w s₀ e mg D G Y j o pm v h m kV J hd y k B H i i i p i i C i;obtain rfl:m=.none:=Dflts.none k z;obtain rfl:kV=.none:=Dflts.noKw k;obtain⟨a,vs,ns,rfl,rfl,m,i,k⟩:=zF I p C;refine enter_call (codeAny_mono (call w s₀ e mg D j o pm v h a vs ns G Y J (fd_plain hd) y B m i k H) λr x j=>?_);obtain⟨rfl,h,e,i⟩:=j;exact⟨.inl ⟨.bool true,.bool true,[],rfl,λ_=>rfl,.bool true,zB l _,λ_=>⟨List.Pairwise.nil,λ_ m=>(nomatch m)⟩⟩,h,e,i⟩
section
variable {prog:Program}{w:World}{A:Around}{E:Value->Shared->Prop}{s:Shared}{K:Frag}
end
end Att
namespace L2
open PySem PySem.Spec PyProof.Rows
theorem qq:∀ {vs:List Value}{ns:List Int},IntsAre vs ns->aP (ns.map V.int) vs
 |_,_,.nil=>.nil
 |_,_,.cons n t h=>.cons ⟨t,rfl⟩ (qq h)
def dW (s:Stmt):Arguments:=match s with
 | .FunctionDef _ a _ _ _ _ _ _ _ _=>a
 |_=>{posonlyargs:=[],args:=[],vararg:=none,kwonlyargs:=[],kw_defaults:=[],kwarg:=none,defaults:=[]}
def cq (s:Stmt):List Stmt:=match s with
 | .FunctionDef _ _ b _ _ _ _ _ _ _=>b
 |_=>[]
def al (s:Stmt):Scope:=match s with
 | .FunctionDef _ _ _ _ _ _ e _ _ _=>e
 |_=>{kind:=.function,names:=[],isGenerator:=false,isCoroutine:=false}
abbrev wJ:zO:=λ_ _ _ _ _ _=>False
abbrev E0:XK:=λ_ _ _=>False
theorem NH:va wJ X E0:=λ_ _ _ _ _ _ _ h=>h.elim
structure HJ (K:Frg) (x qual:Str) (st:Stmt) (f:Addr) (fd:FuncData):Prop where
 ex:∃ (oc:Value) (od:Option Addr) (kV doc pm:Value) (an:Option Addr) (cdv ct:Value) (osl:Array (Option Value)),
  fd=PySem.W.fnOf x qual (dW st) (cq st) (al st) .none kV doc pm an cdv ct/\K.lookup f=some ⟨oc,od,.func fd,osl⟩/\PySem.W.codeIn K cdv qual=true
 kp:PySem.W.keepIn K (.ref f)=true
section
variable {P:Program}{w:World}{K:Frg}{mg:Str->Option Value}{base:Heap}
theorem HJ.ok {x e:Str}{st:Stmt}{f:Addr}{i:FuncData}{N ps:List Str}{k:Nat}{sp:Sp}(F:HJ K x e st f i)(S:ay N ps (al st))(len:∀ vs H Q E,sp vs H Q E->vs.length=ps.length)
  (y:∀ (v:Value) (A:Around) (outer:List Env) (s:Shared) (H:Hp) (vs:List V) (Q:VK) (E:XK),b9 k (A.deeper (envOfC e (al st) s.heap.objs.size f v))->sp vs H Q E →
   ∃ t,jT (oY wJ P w K mg base N e (al st) f v A outer s H E).nox (cq st) t/\t {nx:=λ_ g=>Q .non g,rt:=Q} (start N vs) H):h8 P w K mg base wJ (k+1) f i ps sp:=by
 obtain⟨o,o,kV,g,pm,n,v,ct,o,rfl,lk,g⟩:=F.ex;refine HV lk g S len λA outer s H vs Q E g p=>?_;obtain⟨t,h,q⟩:=y v A outer s H vs Q E g p;exact⟨t,h.nox,q⟩
theorem HJ.binds {x q:Str}{st:Stmt}{f:Addr}{g:FuncData}{ps:List Str}(F:HJ K x q st f g)
  (h:∀ (kV e pm:Value) (n:Option Addr) (v ct:Value) (us:List Value),us.length=ps.length->bindArgs (PySem.W.fnOf x q (dW st) (cq st) (al st) .none kV e pm n v ct) ⟨us,[]⟩=pure (ps.zip us)):Binds K g ps []:=by
 obtain⟨o,o,kV,e,pm,n,v,ct,o,rfl,lk,i⟩:=F.ex;exact .all (h kV e pm n v ct)
theorem nH {x q:Str}{st:Stmt}{f:Addr}{g:Value}{od n:Option Addr}{o:Array (Option Value)}{kV e pm v ct:Value}(l:K.lookup f=some ⟨g,od,.func (PySem.W.fnOf x q (dW st) (cq st) (al st) .none kV e pm n v ct),o⟩)
  (c:PySem.W.codeIn K v q=true) (k:PySem.W.keepIn K (.ref f)=true):HJ K x q st f (PySem.W.fnOf x q (dW st) (cq st) (al st) .none kV e pm n v ct):=⟨⟨g,od,kV,e,pm,n,v,ct,o,rfl,l,c⟩,k⟩
end
theorem zH (h:n<=1000):n<sizeLine:=lt_of_le_of_lt h ⋯
section
variable {X:Cx}
theorem pv (i:Nat) (n:X.N[i]?=some x:=by rfl) (v:Oo X.env.scope x:=by first | exact Or.inl rfl | exact Or.inr (Or.inl rfl) | exact Or.inr (Or.inr rfl)) (hd:(x == ("__debug__":Str))=false:=by decide)
  (h:(x == ("__classdict__":Str))=false:=by decide):PE X (.Name x p) (uM i):=DU n v hd h
end
def Same (H H':Hp):Prop:=∀ b o,H b=some o->H' b=some o
theorem Same.refl (H:Hp):Same H H:=λ_ _ h=>h
theorem Same.trans (a:Same H e)(b:Same e g):Same H g:=λc o h=>b c o (a c o h)
theorem Same.free (e:Same H H')(h:H' l=Option.none):H l=Option.none:=by
 cases q:H l with
 |none=>rfl
 |some o=>
  rw[e l o q]at h
  cases h
theorem Same.seq {K:Frg}{H H':Hp}{a:Addr}{xs:List V}(e:Same H H')(h:cV K H a xs):cV K H' a xs:=by
 obtain (h|⟨o,h⟩)|h:=h
 .exact .inl (.inl (e _ _ h))
 .exact .inl (.inr ⟨o,e _ _ h⟩)
 .exact .inr h
end L2
namespace DL
open PySem L2
def lamQ:Str:="depth.<locals>.<lambda>"
def HCode (c:Addr):HO:=.ext λh=>h.CodeRec (.ref c) lamQ
def Ie:HO->Bool
 | .tbl _=>false
 |_=>true
def Tab (H:Hp):Prop:=∀ P e,H P=some (.tbl e)->TriplesOk e.toList/\∀ p v,codeAmong p e.toList=some v->∃ c,v=.ref c/\H c=some (HCode c)
def gA (K:Frg):Option Addr:=match PySem.W.nsIn K mainGlobals "depth" with
 |some (some (.ref f))=>(match K.lookup f with
  |some ⟨_,_,.func fd,_⟩=>(match fd.code with
   | .ref c=>(match K.lookup c with
    |some ⟨_,_,.fields vs,_⟩=>(match (vs[11]?:Option Value) with
     |some (.ref P)=>some P
     |_=>none)
    |_=>none)
   |_=>none)
  |_=>none)
 |_=>none
def kU (K:Frg)(H:Hp):Prop:=Tab H/\∀ P,gA K=some P->∃ p,H P=some (.tbl p)
structure Same (H H':Hp):Prop where
 all:∀ b o,H b=some o->Ie o=true->H' b=some o
 tbl:∀ b ps,H b=some (.tbl ps)->∃ ps',H' b=some (.tbl ps')
theorem Same.get (e:Same H H')(h:H b=some o)(n:Ie o=true:=by rfl):H' b=some o:=e.all b o h n
theorem Same.refl (H:Hp):Same H H:=⟨λ_ _ h _=>h,λ_ p h=>⟨p,h⟩⟩
theorem Same.trans (a:Same H e)(b:Same e g):Same H g:=⟨λc o h n=>b.all c o (a.all c o h n) n,λc p h=>let ⟨ps',h'⟩:=a.tbl c p h;b.tbl c ps' h'⟩
theorem Same.free (e:Same H H')(h:H' l=Option.none):H l=Option.none:=by
 cases q:H l with
 |none=>rfl
 |some o=>
  cases n:Ie o with
  |true=>rw[e.all l o q n]at h;cases h
  |false=>
   cases o <;> first|(cases n)|skip
   obtain⟨p,z⟩:=e.tbl l _ q;rw[z]at h;cases h
theorem Same.of (h:∀ b o,H b=some o->H' b=some o):Same H H':=⟨λb o q _=>h b o q,λb p q=>⟨p,h b _ q⟩⟩
theorem Same.seq (e:Same H H')(h:cV K H a xs):cV K H' a xs:=by
 obtain (h|⟨o,h⟩)|h:=h
 .exact .inl (.inl (e.get h))
 .exact .inl (.inr ⟨o,e.get h⟩)
 .exact .inr h
theorem kU.same (t:kU K H)(e:Same H H')(h:Tab H'):kU K H':=⟨h,λP a=>let ⟨ps,q⟩:=t.2 P a;e.tbl P ps q⟩
theorem sQ (t:Tab H)(k:H a=none)(n:Ie o=true):Tab (cG H a o):=λP p h=>by
 by_cases z:P=a
 .subst z;rw[aY]at h;cases h;cases n
 .rw[aZ z]at h;obtain⟨i,j⟩:=t P p h;exact⟨i,λp v q=>let ⟨c,e,g⟩:=j p v q;⟨c,e,by rw[aZ (bj g k)];exact g⟩⟩
theorem HA (t:Tab H)(n:H a=some (.lst xs)):Tab (cG H a (.lst ys)):=λP p h=>by
 by_cases z:P=a
 .subst z;rw[aY]at h;cases h
 .rw[aZ z]at h;obtain⟨i,j⟩:=t P p h;exact⟨i,λp v q=>let ⟨c,e,g⟩:=j p v q;⟨c,e,by rw[aZ (λw=>by rw[w,n]at g;cases g)];exact g⟩⟩
theorem Ew (t:kU K H)(h:H a=none)(n:Ie o=true):kU K (cG H a o):=⟨sQ t.1 h n,λP e=>let ⟨ps,q⟩:=t.2 P e;⟨ps,by rw[aZ (bj q h)];exact q⟩⟩
theorem uN (t:kU K H)(h:H a=some (.lst xs)):kU K (cG H a (.lst ys)):=⟨HA t.1 h,λP e=>let ⟨ps,q⟩:=t.2 P e;⟨ps,by rw[aZ (λw=>by rw[w,h]at q;cases q)];exact q⟩⟩
theorem Eg (h:H a=none):Same H (cG H a o):=.of λb u q=>by rw[aZ (bj q h)];exact q
inductive T where
 |non|bl (b:Bool)|int (i:Int)|str (x:Str)|tup (xs:List T)|lst (xs:List T)|exc (x:Str)
inductive S where
 |t (x:T)|vt (x:T)|ol (xs:List T)
def ExcAt (H:Hp)(a c:Addr):Prop:=H a=some (.ext λh=>∃ o,h.get? a=some o/\o.cls=.ref c)
mutual
def aB (K:Frg)(H:Hp):T->V->Prop
 | .non,v=>v=.non
 | .bl b,v=>v=.bl b
 | .int i,v=>v=.int i
 | .str x,v=>v=.str x
 | .tup ts,v=>∃ a e,v=.ref a/\je K H a e/\au K H ts e
 | .lst ts,v=>∃ a e,v=.ref a/\cV K H a e/\au K H ts e
 | .exc x,v=>∃ a C,v=.ref a/\PySem.W.nsIn K mainGlobals x=some (some (.ref C))/\ExcAt H a C
def au (K:Frg)(H:Hp):List T->List V->Prop
 | [],e=>e=[]
 |t::g,e=>∃ x r,e=x::r/\aB K H t x/\au K H g r
end
mutual
def ke:T->Bool
 | .tup e=>cF e
 | .lst _=>false
 |_=>true
def cF:List T->Bool
 | []=>true
 |t::e=>ke t && cF e
end
mutual
theorem aB.mono (h:∀ a xs,je K H a xs->je K H' a xs)(g:∀ a xs,cV K H a xs->cV K H' a xs)(he:∀ a c,ExcAt H a c->ExcAt H' a c):∀ (t:T) (v:V),aB K H t v->aB K H' t v
 | .non,_,e=>e
 | .bl _,_,e=>e
 | .int _,_,e=>e
 | .str _,_,e=>e
 | .tup ts,_,⟨a,xs,e,q,r⟩=>⟨a,xs,e,h a xs q,au.mono h g he ts xs r⟩
 | .lst ts,_,⟨a,xs,e,q,r⟩=>⟨a,xs,e,g a xs q,au.mono h g he ts xs r⟩
 | .exc c,_,⟨a,C,e,z,q⟩=>⟨a,C,e,z,he a C q⟩
theorem au.mono (h:∀ a xs,je K H a xs->je K H' a xs)(g:∀ a xs,cV K H a xs->cV K H' a xs)(he:∀ a c,ExcAt H a c->ExcAt H' a c):∀ (ts:List T) (xs:List V),au K H ts xs->au K H' ts xs
 | [],_,e=>e
 |t::ts,_,⟨x,r,e,p,q⟩=>⟨x,r,e,aB.mono h g he t x p,au.mono h g he ts r q⟩
end
theorem Same.sqT (e:Same H H')(a:Addr)(xs:List V)(h:je K H a xs):je K H' a xs:=by
 obtain (h|⟨o,h⟩)|h:=h
 .exact .inl (.inl (e.get h))
 .exact .inl (.inr ⟨o,e.get h⟩)
 .exact .inr h
theorem aB.same (e:Same H H')(h:aB K H t v):aB K H' t v:=aB.mono (λa x q=>Same.sqT e a x q) (λa x q=>e.seq q) (λa c q=>e.get q) t v h
theorem au.same (e:Same H H')(h:au K H ts xs):au K H' ts xs:=au.mono (λa xs q=>Same.sqT e a xs q) (λa xs q=>e.seq q) (λa c q=>e.get q) ts xs h
def fR (F H:Hp):Prop:=∀ b o,H b=some o->Ie o=true->F b=some o\/∃ x,o=.lst x
theorem fR.sqT (f:fR F H)(a:Addr)(xs:List V)(h:je K H a xs):je K F a xs:=by
 obtain (h|⟨o,h⟩)|h:=h
 .rcases f _ _ h rfl with q|⟨y,q⟩
  .exact .inl (.inl q)
  .cases q
 .rcases f _ _ h rfl with q|⟨y,q⟩
  .exact .inl (.inr ⟨o,q⟩)
  .cases q
 .exact .inr h
theorem fR.exc (f:fR F H)(h:ExcAt H a c):ExcAt F a c:=by
 obtain q|⟨y,q⟩:=f _ _ h rfl
 .exact q
 .cases q
mutual
theorem aB.fullM (e:fR F H):∀ (t:T) (v:V),ke t=true->aB K H t v->aB K F t v
 | .non,_,_,h=>h
 | .bl _,_,_,h=>h
 | .int _,_,_,h=>h
 | .str _,_,_,h=>h
 | .tup ts,_,p,⟨a,xs,h1,h2,h3⟩=>⟨a,xs,h1,e.sqT a xs h2,au.fullM e ts xs (by simpa only [ke] using p) h3⟩
 | .lst _,_,p,_=>by simp[ke]at p
 | .exc _,_,_,⟨a,C,h1,z,h2⟩=>⟨a,C,h1,z,e.exc h2⟩
theorem au.fullM (e:fR F H):∀ (ts:List T) (xs:List V),cF ts=true->au K H ts xs->au K F ts xs
 | [],_,_,h=>h
 |t::ts,_,p,⟨x,r,g,i,j⟩=>by
  simp only[cF,Bool.and_eq_true]at p;exact⟨x,r,g,aB.fullM e t x p.1 i,au.fullM e ts r p.2 j⟩
end
theorem aB.full (e:fR F H)(p:ke t=true)(h:aB K H t v):aB K F t v:=aB.fullM e t v p h
theorem au.full (e:fR F H)(p:cF ts=true)(h:au K H ts xs):au K F ts xs:=au.fullM e ts xs p h
def norm (x:T):S:=if ke x=true then .t x else .vt x
theorem au.length:∀ {ts:List T}{xs:List V},au K H ts xs->xs.length=ts.length
 | [],_,e=>by cases (show _=[] from e);rfl
 |t::ts,_,⟨x,r,e,_,q⟩=>by subst e;rw[length_cons,length_cons,au.length q]
theorem au.get:∀ {ts:List T}{xs:List V}{i:Nat}{t:T},au K H ts xs->ts[i]?=some t->∃ x,xs[i]?=some x/\aB K H t x
 | [],_,_,_,_,e=>by simp at e
 |t::ts,_,0,u,⟨x,r,e,p,q⟩,h=>by subst e;simp at h;subst h;exact⟨x,by simp,p⟩
 |t::ts,_,i+1,u,⟨x,r,e,p,q⟩,h=>by
  subst e;obtain⟨y,g,j⟩:=au.get (i:=i) q (by simpa using h)
  exact⟨y,by simpa using g,j⟩
theorem au.getV:∀ {ts:List T}{xs:List V}{i:Nat}{x:V},au K H ts xs->xs[i]?=some x->∃ t,ts[i]?=some t/\aB K H t x
 | [],_,_,_,e,h=>by cases (show _=[] from e);simp at h
 |t::ts,_,0,u,⟨x,r,e,p,q⟩,h=>by subst e;simp at h;subst h;exact⟨t,by simp,p⟩
 |t::ts,_,i+1,u,⟨x,r,e,p,q⟩,h=>by
  subst e;obtain⟨y,g,j⟩:=au.getV (i:=i) q (by simpa using h)
  exact⟨y,by simpa using g,j⟩
theorem au.append:∀ {ts us:List T}{xs ys:List V},au K H ts xs->au K H us ys->au K H (ts++us) (xs++ys)
 | [],_,_,_,e,q=>by cases (show _=[] from e);exact q
 |t::ts,_,_,_,⟨x,r,e,p,q⟩,h=>by subst e;exact⟨x,r++_,rfl,p,au.append q h⟩
theorem au.one (h:aB K H t x):au K H [t] [x]:=⟨x,[],rfl,h,rfl⟩
theorem au.take:∀ {ts:List T}{xs:List V} (n:Nat),au K H ts xs->au K H (ts.take n) (xs.take n)
 |_,_,0,_=>by simp only[List.take_zero];rfl
 | [],_,_+1,e=>by cases (show _=[] from e);rfl
 |t::ts,_,n+1,⟨x,r,e,p,q⟩=>by subst e;exact⟨x,r.take n,rfl,p,au.take n q⟩
theorem au.drop:∀ {ts:List T}{xs:List V} (n:Nat),au K H ts xs->au K H (ts.drop n) (xs.drop n)
 |_,_,0,h=>by simp only[List.drop_zero];exact h
 | [],_,_+1,e=>by cases (show _=[] from e);rfl
 |t::ts,_,n+1,⟨x,r,e,p,q⟩=>by subst e;exact au.drop n q
theorem au.set (h:aB K H u y):∀ {ts:List T}{xs:List V} (n:Nat),au K H ts xs->au K H (ts.set n u) (xs.set n y)
 | [],_,_,e=>by cases (show _=[] from e);rfl
 |t::ts,_,0,⟨x,r,e,p,q⟩=>by subst e;exact⟨y,r,rfl,h,q⟩
 |t::ts,_,n+1,⟨x,r,e,p,q⟩=>by subst e;exact⟨x,r.set n y,rfl,p,au.set h n q⟩
theorem au.dropLast (h:au K H ts xs):au K H ts.dropLast xs.dropLast:=by
 rw[List.dropLast_eq_take,List.dropLast_eq_take,h.length];exact h.take _
theorem au.reverse:∀ {ts:List T}{xs:List V},au K H ts xs->au K H ts.reverse xs.reverse
 | [],_,e=>by cases (show _=[] from e);rfl
 |t::ts,_,⟨x,r,e,p,q⟩=>by subst e;rw[reverse_cons,reverse_cons];exact au.append (au.reverse q) (au.one p)
theorem au.ints:∀ (ns:List Int),au K H (ns.map T.int) (ns.map V.int)
 | []=>rfl
 |n::ns=>⟨.int n,ns.map V.int,rfl,rfl,au.ints ns⟩
abbrev a9:=List (Option S)
abbrev WE:=a9->(S->Prop)->Prop
abbrev WT:=a9->(Bool->Prop)->Prop
abbrev WA:=a9->(List S->Prop)->Prop
structure tj where
 nx:a9->Prop
 rt:S->Prop
 bk:a9->Prop:=λ_=>False
 ct:a9->Prop:=λ_=>False
abbrev WS:=tj->a9->Prop
def eW (K:Frg)(F H:Hp):S->V->Prop
 | .t x,v=>aB K F x v
 | .vt _,_=>False
 | .ol ts,v=>∃ a e,v=.ref a/\F a=none/\H a=some (.lst e)/\au K F ts e
structure Rel (K:Frg) (F H:Hp) (σ:St) (δ:a9):Prop where
 sub:Same F H
 full:fR F H
 len:σ.length=δ.length
 slot:∀ (i:Nat) (s:S),δ[i]?=some (some s)->∃ v,σ[i]?=some (some v)/\eW K F H s v
 dist:∀ (i j:Nat) (a:Addr) (ts us:List T),i≠j->δ[i]?=some (some (.ol ts))->δ[j]?=some (some (.ol us))->σ[i]?=some (some (.ref a))->σ[j]?≠some (some (.ref a))
 tab:kU K H
structure di (F H F' H':Hp):Prop where
 hh:Same H H'
 ff:Same F F'
 sub:Same F' H'
 full:fR F' H'
 keep:∀ b,H b≠none->F b=none->F' b=none
 tb:Tab H->Tab H'
theorem aJ (e:Same H H')(h:H' b=none):H b=none:=e.free h
theorem di.refl (a:Same F H)(b:fR F H):di F H F H:=⟨Same.refl _,Same.refl _,a,b,λ_ _ h=>h,id⟩
theorem di.trans (a:di F H e h)(b:di e h g i):di F H g i:=
 ⟨a.hh.trans b.hh,a.ff.trans b.ff,b.sub,b.full,λc j k=>b.keep c (λz=>j (aJ a.hh z)) (a.keep c j k),λt=>b.tb (a.tb t)⟩
theorem eW.ext (e:di F H g H'):∀ {s:S}{v:V},eW K F H s v->eW K g H' s v
 | .t _,_,h=>aB.same e.ff h
 | .vt _,_,h=>h
 | .ol _,_,⟨a,xs,h1,h2,h3,h4⟩=>⟨a,xs,h1,e.keep a (by rw[h3];simp) h2,e.hh.get h3,au.same e.ff h4⟩
theorem Rel.ext (r:Rel K F H σ j)(e:di F H g H'):Rel K g H' σ j:=
 ⟨e.sub,e.full,r.len,λi s h=>let ⟨v,h1,h2⟩:=r.slot i s h;⟨v,h1,h2.ext e⟩,r.dist,r.tab.same e.hh (e.tb r.tab.1)⟩
theorem Rel.refl (r:Rel K F H σ e):di F H F H:=di.refl r.sub r.full
def dz (K:Frg)(H e H':Hp):S->V->Prop
 | .t x,v=>aB K e x v
 | .vt x,v=>aB K H' x v
 | .ol ts,v=>∃ a g,v=.ref a/\H a=none/\e a=none/\H' a=some (.lst g)/\au K e ts g
theorem dz.ext (e:di g j i k):∀ {s:S}{v:V},dz K H g j s v->dz K H i k s v
 | .t _,_,h=>aB.same e.ff h
 | .vt _,_,h=>aB.same e.hh h
 | .ol _,_,⟨a,xs,h1,h2,h3,h4⟩=>⟨a,xs,h1,h2,e.keep a (by rw[h4.1];simp) h3,e.hh.get h4.1,au.same e.ff h4.2⟩
theorem dz.start (e:Same i H):∀ {s:S}{v:V},dz K H g H' s v->dz K i g H' s v
 | .t _,_,h=>h
 | .vt _,_,h=>h
 | .ol _,_,⟨a,xs,h1,h2,h3⟩=>⟨a,xs,h1,aJ e h2,h3⟩
theorem dz.norm (f:fR F H')(h:aB K H' x v):dz K H F H' (norm x) v:=by
 unfold DL.norm
 split
 .rename_i p;exact aB.full f p h
 .exact h
def fT (K:Frg)(F H:Hp):S->V->Prop
 | .t x,v=>aB K F x v
 | .vt x,v=>aB K H x v
 | .ol ts,v=>∃ a e,v=.ref a/\cV K H a e/\au K F ts e
theorem dz.val (e:Same F H):∀ {s:S}{v:V},dz K g F H s v->fT K F H s v
 | .t _,_,h=>h
 | .vt _,_,h=>h
 | .ol _,_,⟨a,xs,h1,_,_,h2,h3⟩=>⟨a,xs,h1,cV.of h2,h3⟩
def tr:S->T
 | .t x=>x
 | .vt x=>x
 | .ol e=>.lst e
theorem fT.tree (e:Same F H):∀ {s:S}{v:V},fT K F H s v->aB K H (tr s) v
 | .t _,_,h=>aB.same e h
 | .vt _,_,h=>h
 | .ol _,_,⟨a,xs,h1,h2,h3⟩=>⟨a,xs,h1,h2,au.same e h3⟩
def items:S->Option (List T)
 | .t (.lst e)=>some e
 | .vt (.lst e)=>some e
 | .ol e=>some e
 |_=>none
theorem fT.list (e:Same F H)(h:fT K F H s v)(q:items s=some ts):∃ a xs,v=.ref a/\cV K H a xs/\au K H ts xs:=by
 cases s with
 |t x=>
  cases x with
  |lst i=>
   have g:i=ts:=Option.some.inj q;subst g;unfold fT aB at h;obtain⟨a,xs,j,k,m⟩:=h;exact⟨a,xs,j,e.seq k,au.same e m⟩
  |_=>cases q
 |vt x=>
  cases x with
  |lst i=>
   have g:i=ts:=Option.some.inj q;subst g;unfold fT aB at h;exact h
  |_=>cases q
 |ol i=>
  have g:i=ts:=Option.some.inj q;subst g;unfold fT at h;obtain⟨a,xs,j,k,m⟩:=h;exact⟨a,xs,j,k,au.same e m⟩
def av (K:Frg)(w:WE):TE:=λg H Q=>∃ e R F,Rel K F H g e/\w e R/\∀ v e h s,di F H e h->dz K H e h s v->R s->Q v h
def liftT (K:Frg)(w:WT):TT:=λg H Q=>∃ e R F,Rel K F H g e/\w e R/\∀ e h b,di F H e h->R b->Q b h
def h9 (K:Frg)(H g H':Hp):List S->List V->Prop
 | [],e=>e=[]
 |s::h,e=>∃ v r,e=v::r/\dz K H g H' s v/\h9 K H g H' h r
theorem h9.start (e:Same i H):∀ {j:List S}{vs:List V},h9 K H g H' j vs->h9 K i g H' j vs
 | [],_,h=>h
 |_::_,_,⟨v,r,k,m,n⟩=>⟨v,r,k,m.start e,h9.start e n⟩
def dE (K:Frg)(w:WA):TA:=λg H Q=>∃ e R F,Rel K F H g e/\w e R/\∀ v e h g,di F H e h->h9 K H e h g v->R g->Q v h
def zV (K:Frg)(H₀ H':Hp):S->V->Prop
 | .t x,v=>aB K H' x v
 | .vt _,_=>False
 | .ol ts,v=>∃ a e,v=.ref a/\H₀ a=none/\H' a=some (.lst e)/\au K H' ts e
structure qx (K:Frg) (H₀ F:Hp) (D':tj) (D:Ends):Prop where
 nx:∀ σ' F' H' δ',Same F F'->Rel K F' H' σ' δ'->D'.nx δ'->D.nx σ' H'
 rt:∀ v H' s,Same H₀ H'->kU K H'->zV K H₀ H' s v->D'.rt s->D.rt v H'
 bk:∀ σ' F' H' δ',Same F F'->Rel K F' H' σ' δ'->D'.bk δ'->D.bk σ' H'
 ct:∀ σ' F' H' δ',Same F F'->Rel K F' H' σ' δ'->D'.ct δ'->D.ct σ' H'
theorem qx.mono (e:qx K H₀ F g D)(s:Same F i):qx K H₀ i g D:=
 ⟨λ_ _ _ _ h=>e.nx _ _ _ _ (s.trans h),e.rt,λ_ _ _ _ h=>e.bk _ _ _ _ (s.trans h),λ_ _ _ _ h=>e.ct _ _ _ _ (s.trans h)⟩
def bI (K:Frg)(H₀:Hp)(w:WS):TS:=λD h H=>∃ g e F,Same H₀ F/\Rel K F H h g/\w e g/\qx K H₀ F e D
end DL
namespace L2
open PySem
section
variable {X:Cx}{e:Expr}{t t':TE}
theorem PE.imp (h:PE X e t)(i:∀ σ H Q,t' σ H Q->t σ H Q):PE X e t':=λp s σ H Q I q=>h p s σ H Q I (i σ H Q q)
theorem PT.imp {t t':TT}(h:PT X e t)(i:∀ σ H Q,t' σ H Q->t σ H Q):PT X e t':=λp s σ H Q I q=>h p s σ H Q I (i σ H Q q)
theorem PW.imp {t t':TT}(h:PW X e t)(i:∀ σ H Q,t' σ H Q->t σ H Q):PW X e t':=λg p s σ H Q I q=>h g p s σ H Q I (i σ H Q q)
theorem PA.imp {es:List Expr}{t t':TA}(h:PA X es t)(i:∀ σ H Q,t' σ H Q->t σ H Q):PA X es t':=λg p s σ H Q I q=>h g p s σ H Q I (i σ H Q q)
theorem PS.imp {st:Stmt}{t t':TS}(h:PS X st t)(i:∀ D σ H,t' D σ H->t D σ H):PS X st t':=λp s σ H D I q=>h p s σ H D I (i D σ H q)
theorem jT.imp {st:List Stmt}{t t':TS}(h:jT X st t)(i:∀ D σ H,t' D σ H->t D σ H):jT X st t':=λp s σ H D I q=>h p s σ H D I (i D σ H q)
theorem PG.imp {g:Expr}{t t':TG}(h:PG X g t)(i:∀ v σ H Q,t' v σ H Q->t v σ H Q):PG X g t':=λp s σ H v u Q I r q=>h p s σ H v u Q I r (i v σ H Q q)
theorem zT.imp {g:List Expr}{t t':ID}(h:zT X g t)(i:∀ v σ H Q,t' v σ H Q->t v σ H Q):zT X g t':=λp s σ H v u Q I r q=>h p s σ H v u Q I r (i v σ H Q q)
theorem PI.imp {j g:Expr}{t t':TI}(h:PI X j g t)(i:∀ σ H Q,t' σ H Q->t σ H Q):PI X j g t':=λp s σ H R I q=>h p s σ H R I (i σ H R q)
end
end L2
namespace DL
open PySem L2
def wC (x:T):WE:=λ_ R=>R (.t x)
def seen:S->S
 | .ol e=>.vt (.lst e)
 | .t x=>.t x
 | .vt x=>.vt x
def ae (i:Nat):WE:=λe R=>match e[i]? with
 |some (some s)=>R (seen s)
 |_=>False
section
variable {X:Cx}{a b c:Expr}{wa wb wc:WE}{pos:Pos}
theorem ab {i j pos}:PE X (.Constant (.int i) j pos) (av X.K (wC (.int i))):=KZ.imp <| by rintro _ _ _ ⟨_,_,_,r,h,k⟩;exact k _ _ _ (.t (.int i)) r.refl rfl h
theorem HP {i j pos}:PE X (.Constant (.bool i) j pos) (av X.K (wC (.bl i))):=NI.imp <| by rintro _ _ _ ⟨_,_,_,r,h,k⟩;exact k _ _ _ (.t (.bl i)) r.refl rfl h
theorem qR {j pos}:PE X (.Constant .none j pos) (av X.K (wC .non)):=K2.imp <| by rintro _ _ _ ⟨_,_,_,r,h,k⟩;exact k _ _ _ (.t .non) r.refl rfl h
theorem vv {i j pos}:PE X (.Constant (.str i) j pos) (av X.K (wC (.str i))):=K3.imp <| by rintro _ _ _ ⟨_,_,_,r,h,k⟩;exact k _ _ _ (.t (.str i)) r.refl rfl h
theorem Hr (e:Same F H):∀ {s:S}{v:V},eW K F H s v->dz K H F H (seen s) v
 | .t _,_,h=>h
 | .vt _,_,h=>False.elim h
 | .ol _,_,⟨a,xs,h1,_,h3,h4⟩=>⟨a,xs,h1,cV.of h3,au.same e h4⟩
theorem yJ (h:PE X e (uM i)):PE X e (av X.K (ae i)):=h.imp λo H Q ⟨n,R,F,r,h,k⟩=>by
 unfold ae at h
 split at h
 .rename_i s m;obtain⟨v,g,j⟩:=r.slot i s m;exact⟨v,g,k _ _ _ _ r.refl (Hr r.sub j) h⟩
 .exact h.elim
theorem dv (i:Nat) (n:X.N[i]?=some x:=by rfl) (v:Oo X.env.scope x:=by first | exact Or.inl rfl | exact Or.inr (Or.inl rfl) | exact Or.inr (Or.inr rfl)) (hd:(x == ("__debug__":Str))=false:=by decide)
  (h:(x == ("__classdict__":Str))=false:=by decide):PE X (.Name x pos) (av X.K (ae i)):=yJ (DU n v hd h)
def ao (f:S->S->(S->Prop)->Prop)(wa wb:WE):WE:=λe R=>wa e λx=>wb e λy=>f x y R
def EQ (K:Frg)(r:R2)(f:S->S->(S->Prop)->Prop):Prop:=
 ∀ F H e g i j R Q,Same F H->fR F H->fT K F H e i->fT K F H g j->f e g R->(∀ v e h s,di F H e h->dz K H e h s v->R s->Q v h)->r i j H Q
theorem cH (o:EQ K r f):∀ σ H Q,av K (ao f wa wb) σ H Q->LC r (av K wa) (av K wb) σ H Q:=by
 rintro σ H Q ⟨j,R,F,g,h,k⟩;refine⟨j,_,F,g,h,λC m i z i x n=>?_⟩;refine⟨j,_,m,g.ext i,n,λD j m B g y n=>?_⟩;refine o j m z B C D R Q g.sub g.full ((x.ext g).val g.sub) (y.val g.sub) n λv j m s e p q=>?_;exact k v j m s ((i.trans g).trans e) (p.start (i.trans g).hh) q
def fI (C:Int->Int->Prop)(g:Int->Int->T):S->S->(S->Prop)->Prop
 | .t (.int i),.t (.int j),R=>C i j/\R (.t (g i j))
 |_,_,_=>False
def FP (g:Int->Int->T):S->S->(S->Prop)->Prop
 | .t (.int i),.t (.int j),R=>R (.t (g i j))
 |_,_,_=>False
theorem FQ:∀ {e k:S}{R:S->Prop},fI C g e k R->∃ i j,e=.t (.int i)/\k=.t (.int j)/\C i j/\R (.t (g i j))
 | .t (.int i),.t (.int j),_,h=>⟨i,j,rfl,rfl,h.1,h.2⟩
theorem BI:∀ {e k:S}{R:S->Prop},FP g e k R->∃ i j,e=.t (.int i)/\k=.t (.int j)/\R (.t (g i j))
 | .t (.int i),.t (.int j),_,h=>⟨i,j,rfl,rfl,h⟩
def toV:T->V
 | .bl b=>.bl b
 | .int i=>.int i
 | .str x=>.str x
 |_=>.non
def flat:T->Bool
 | .tup _=>false
 | .lst _=>false
 | .exc _=>false
 |_=>true
theorem tW:∀ {x:T},flat x=true->aB K F x (toV x)
 | .non,_=>rfl
 | .bl _,_=>rfl
 | .int _,_=>rfl
 | .str _,_=>rfl
theorem xE (n:∀ i j,flat (g i j)=true):EQ K (rI C λi j=>toV (g i j)) (fI C g):=by
 intro F H e e v v R Q sb e p q h k;obtain⟨i,j,rfl,rfl,m,o⟩:=FQ h;exact⟨i,j,p,q,m,k _ F H (.t (g i j)) (di.refl sb e) (tW (n i j)) o⟩
theorem jA (m:∀ i j,flat (g i j)=true):EQ K (Hk λi j=>toV (g i j)) (FP g):=by
 intro F H e e v v R Q sb e p o h k;obtain⟨i,j,rfl,rfl,n⟩:=BI h;exact⟨i,j,p,o,k _ F H (.t (g i j)) (di.refl sb e) (tW (m i j)) n⟩
abbrev cz:=ao (FP λi j=>.int (i+j))
abbrev cL:=ao (FP λi j=>.int (i-j))
structure MulOk (i j:Int):Prop where
 ok:IntMulOk i j
structure zU (i j:Int):Prop where
 ok:Mc i j
abbrev aV:=ao (fI MulOk λi j=>.int (i*j))
structure mO (i j:Int):Prop where
 ne:j≠0
 short:Builtin.divisionGoesByPylong i j=false
abbrev dJ:=ao (fI mO λi j=>.int (i.fdiv j))
abbrev dg:=ao (fI (λ_ j=>j≠0) λi j=>.int (i.fmod j))
abbrev uT:=ao (fI zU λi j=>.int (i ^ j.toNat))
theorem GP:kQ X (binaryOp .Mult) (rI MulOk λi j=>.int (i*j)):=Ou λ_ _ _ _ _ _ _ h q=>PyProof.Rows.mul_int q h.ok
theorem DQ:kQ X (binaryOp .FloorDiv) (rI mO λi j=>.int (i.fdiv j)):=Ou λ_ _ _ _ _ _ _ h q=>PyProof.Rows.floordiv_int h.ne q (.inl h.short)
theorem aX (h:PE X a (av X.K wa))(e:PE X b (av X.K wb)):PE X (.BinOp a .Add b pos) (av X.K (cz wa wb)):=(n5 KN h e).imp (cH (jA λ_ _=>rfl))
theorem ba (h:PE X a (av X.K wa))(e:PE X b (av X.K wb)):PE X (.BinOp a .Sub b pos) (av X.K (cL wa wb)):=(n5 KR h e).imp (cH (jA λ_ _=>rfl))
theorem ax (h:PE X a (av X.K wa))(e:PE X b (av X.K wb)):PE X (.BinOp a .Mult b pos) (av X.K (aV wa wb)):=(n5 GP h e).imp (cH (xE λ_ _=>rfl))
theorem bO (h:PE X a (av X.K wa))(e:PE X b (av X.K wb)):PE X (.BinOp a .FloorDiv b pos) (av X.K (dJ wa wb)):=(n5 DQ h e).imp (cH (xE λ_ _=>rfl))
theorem bi (h:PE X a (av X.K wa))(e:PE X b (av X.K wb)):PE X (.BinOp a .Mod b pos) (av X.K (dg wa wb)):=(n5 GO h e).imp (cH (xE λ_ _=>rfl))
theorem jw (h:PE X a (av X.K wa))(k:PE X b (av X.K wb)):PE X (.BinOp a .Pow b pos) (av X.K (uT wa wb)):=(n5 (show kQ X (binaryOp .Pow) (rI zU λi j=>.int (i ^ j.toNat)) from by rintro p s z H x y v u Q I n o ⟨i,j,e,g,m,q⟩;exact KQ p s z H x y v u Q I n o ⟨i,j,e,g,m.ok,q⟩) h k).imp (cH (xE λ_ _=>rfl))
abbrev EE:=ao (FP λi j=>.bl (decide (i<j)))
abbrev PJ:=ao (FP λi j=>.bl (decide (i<=j)))
abbrev EC:=ao (FP λi j=>.bl (decide (j<i)))
abbrev Oe:=ao (FP λi j=>.bl (decide (j<=i)))
theorem M0 (h:PE X a (av X.K wa))(e:PE X b (av X.K wb)):PE X (.Compare a [.Lt] [b] pos) (av X.K (EE wa wb)):=(xH Ig h e (fJ _)).imp (cH (jA λ_ _=>rfl))
def wB (w:WE):WT:=λe R=>w e λs=>match s with
 | .t (.bl k)=>R k
 |_=>False
theorem jy {op:CmpOp}{r:R2}{f:S->S->(S->Prop)->Prop}(x:kQ X (compareOp op) r)(n:EQ X.K r f)(j:PE X a (av X.K wa))(m:PE X b (av X.K wb))(o:behindInMarks op b=false):PT X (.Compare a [op] [b] pos) (liftT X.K (wB (ao f wa wb))):=
 (si x j m o).imp λy H Q h=>by
  obtain⟨i,R,F,g,h,k⟩:=h;refine cH n y H _ ⟨i,_,F,g,h,λv g i s e p q=>?_⟩
  split at q
  .exact⟨_,p,k g i _ e q⟩
  .exact q.elim
theorem lQ (h:PE X a (av X.K wa))(e:PE X b (av X.K wb)):PT X (.Compare a [.Lt] [b] pos) (liftT X.K (wB (EE wa wb))):=jy Ig (jA λ_ _=>rfl) h e (fJ _)
theorem M1 (h:PE X a (av X.K wa))(e:PE X b (av X.K wb)):PT X (.Compare a [.LtE] [b] pos) (liftT X.K (wB (PJ wa wb))):=jy NE (jA λ_ _=>rfl) h e (fJ _)
theorem jo (h:PE X a (av X.K wa))(e:PE X b (av X.K wb)):PT X (.Compare a [.Gt] [b] pos) (liftT X.K (wB (EC wa wb))):=jy ND (jA λ_ _=>rfl) h e (fJ _)
theorem xh (h:PE X a (av X.K wa))(e:PE X b (av X.K wb)):PT X (.Compare a [.GtE] [b] pos) (liftT X.K (wB (Oe wa wb))):=jy NC (jA λ_ _=>rfl) h e (fJ _)
theorem qV {e:Expr}{w:WE}(h:PE X e (av X.K w))(he:∀ g,isTrue e X.env g=(do let v ← g;standAt e.pos;holding [v] (truthy v)):=by intro _;rfl):PT X e (liftT X.K (wB w)):=
 (Ld h he).imp λg H Q h=>by
  obtain⟨i,R,F,g,h,k⟩:=h;refine⟨i,_,F,g,h,λv g i s e p q=>?_⟩
  split at q
  .exact⟨_,p,k g i _ e q⟩
  .exact q.elim
def js (t u:WT):WT:=λe R=>t e λk=>if k=true then u e R else R false
def HE (t u:WT):WT:=λe R=>t e λk=>if k=true then R true else u e R
def Of (t:WT):WT:=λe R=>t e λk=>R (!k)
theorem gx (h:PT X a (liftT X.K t)):PW X (.BoolOp .And [a] pos) (liftT X.K t):=Hg h
theorem AK (h:PT X a (liftT X.K t)):PW X (.BoolOp .Or [a] pos) (liftT X.K t):=Lh h
theorem ic {rest:List Expr}{t u:WT}(o:PT X a (liftT X.K t))(p:PW X (.BoolOp .And (b::rest) pos) (liftT X.K u)):PW X (.BoolOp .And (a::b::rest) pos) (liftT X.K (js t u)):=
 (Lg o p).imp <| by rintro g H Q ⟨j,R,F,i,h,k⟩;exact⟨j,_,F,i,h,λg m c e q=>by
  cases c with
  |true=>exact⟨j,R,g,i.ext e,by simpa using q,λi j c n q=>k i j c (e.trans n) q⟩
  |false=>exact k g m false e (by simpa using q)⟩
theorem HR {rest:List Expr}{t u:WT}(o:PT X a (liftT X.K t))(p:PW X (.BoolOp .Or (b::rest) pos) (liftT X.K u)):PW X (.BoolOp .Or (a::b::rest) pos) (liftT X.K (HE t u)):=
 (NP o p).imp <| by rintro g H Q ⟨j,R,F,i,h,k⟩;exact⟨j,_,F,i,h,λg m c e q=>by
  cases c with
  |false=>exact⟨j,R,g,i.ext e,by simpa using q,λi j c n q=>k i j c (e.trans n) q⟩
  |true=>exact k g m true e (by simpa using q)⟩
def LR (t:WT):WT:=λe R=>∃ P:Bool->Prop,t e P/\∀ k,P k->R k
theorem yM {t:WT}(j:PT X a (liftT X.K t)):PT X a (liftT X.K (LR t)):=j.imp <| by rintro g H Q ⟨i,R,F,g,⟨P,h,k1⟩,k⟩;exact⟨i,P,F,g,h,λg i c e q=>k g i c e (k1 c q)⟩
def Oc (wa wb:WE):WE:=λe R=>wa e λs=>match s with
 | .t (.bl k)=>if k=true then wb e R else R (.t (.bl false))
 |_=>False
def Px (wa wb:WE):WE:=λe R=>wa e λs=>match s with
 | .t (.bl k)=>if k=true then R (.t (.bl true)) else wb e R
 |_=>False
def Og (wa:WE):WE:=λe R=>wa e λs=>match s with
 | .t (.bl k)=>R (.t (.bl (!k)))
 |_=>False
def Pw (c:WT)(wa wb:WE):WE:=λe R=>c e λk=>if k=true then wa e R else wb e R
def uY (f:S->(S->Prop)->Prop)(wa:WE):WE:=λe R=>wa e λx=>f x R
def ie:S->(S->Prop)->Prop
 | .t (.int i),R=>R (.t (.int (-i)))
 |_,_=>False
theorem dC (j:PE X a (av X.K wa)):PE X (.UnaryOp .USub a pos) (av X.K (uY ie wa)):=
 (NK LN j).imp <| by rintro g H Q ⟨i,R,F,g,h,k⟩;exact⟨i,_,F,g,h,λv g i s e p q=>by
  unfold ie at q
  split at q
  .exact⟨_,p,k _ g i (.t (.int _)) e rfl q⟩
  .exact q.elim⟩
def atT (ts:List T)(i:Int)(R:S->Prop):Prop:=match atI ts i with
 |some x=>R (.t x)
 |none=>False
def uX (ts:List T)(i:Int)(R:S->Prop):Prop:=match atI ts i with
 |some x=>R (norm x)
 |none=>False
def aK:S->S->(S->Prop)->Prop
 | .t (.tup ts),.t (.int i),R=>atT ts i R
 | .t (.lst ts),.t (.int i),R=>atT ts i R
 | .vt (.tup ts),.t (.int i),R=>uX ts i R
 | .vt (.lst ts),.t (.int i),R=>uX ts i R
 | .ol ts,.t (.int i),R=>atT ts i R
 |_,_,_=>False
theorem au.atI (h:au K H ts xs)(e:atI ts i=some t):∃ x,atI xs i=some x/\aB K H t x:=by
 unfold L2.atI at e ⊢;rw[h.length]
 cases q:rM ts.length i with
 |none=>rw[q]at e;cases e
 |some j=>
  rw[q]at e;obtain⟨x,g,k⟩:=h.get (i:=j) (by simpa using e)
  exact⟨x,by simpa using g,k⟩
theorem kZ (h:atT ts i R):∃ x,atI ts i=some x/\R (.t x):=by
 unfold atT at h
 cases e:atI ts i with
 |none=>simp only[e]at h
 |some x=>simp only[e]at h;exact⟨x,rfl,h⟩
theorem py (h:uX ts i R):∃ x,atI ts i=some x/\R (norm x):=by
 unfold uX at h
 cases e:atI ts i with
 |none=>simp only[e]at h
 |some x=>simp only[e]at h;exact⟨x,rfl,h⟩
theorem KL:EQ K (λx y H Q=>NR K x y H Q\/NS K x y H Q) aK:=by
 intro F H e e v v R Q sb q v z h k;unfold aK at h
 split at h
 .obtain⟨x,p,o⟩:=kZ h;obtain⟨a,e,g,i,j⟩:=v;obtain⟨y,m,n⟩:=j.atI p;exact .inr ⟨a,e,_,y,g,z,Same.sqT sb a e i,m,k _ F H (.t x) (di.refl sb q) n o⟩
 .obtain⟨x,p,o⟩:=kZ h;obtain⟨a,e,g,i,j⟩:=v;obtain⟨y,m,n⟩:=j.atI p;exact .inl ⟨a,e,_,y,g,z,sb.seq i,m,k _ F H (.t x) (di.refl sb q) n o⟩
 .obtain⟨x,p,o⟩:=py h;obtain⟨a,e,g,i,j⟩:=v;obtain⟨y,m,n⟩:=j.atI p;exact .inr ⟨a,e,_,y,g,z,i,m,k _ F H _ (di.refl sb q) (dz.norm q n) o⟩
 .obtain⟨x,p,o⟩:=py h;obtain⟨a,e,g,i,j⟩:=v;obtain⟨y,m,n⟩:=j.atI p;exact .inl ⟨a,e,_,y,g,z,i,m,k _ F H _ (di.refl sb q) (dz.norm q n) o⟩
 .obtain⟨x,p,o⟩:=kZ h;obtain⟨a,e,g,i,j⟩:=v;obtain⟨y,m,n⟩:=j.atI p;exact .inl ⟨a,e,_,y,g,z,i,m,k _ F H (.t x) (di.refl sb q) n o⟩
 .exact h.elim
theorem aj (h:PE X a (av X.K wa))(e:PE X b (av X.K wb))(hs:wM b:=by exact λ_ _=>rfl):PE X (.Subscript a b pos) (av X.K (ao aK wa wb)):=
 (NJ (F4.or Kb) h e hs).imp (cH KL)
end
def xK:Expr->Bool
 | .Starred ..=>false
 |_=>true
theorem aQ (h:xK e=true):starEach (e::es) env=(false,eval e env)::starEach es env:=by
 cases e <;> first|rfl|cases h
theorem dH:∀ {es:List Expr},es.all xK=true->(backTo p (starEach es env)).any (·.1)=false
 | [],_=>rfl
 |e::es,h=>by
  simp only[List.all_cons,Bool.and_eq_true]at h;rw[aQ h.1];show(false || (backTo p (starEach es env)).any (·.1))=false
  rw[dH h.2];rfl
theorem kE (h:H p=none):Same H (cG H p o):=Eg h
theorem Eh (sb:Same F H):Same (cG F p o) (cG H p o):=by
 refine⟨λb u q n=>?_,λb g q=>?_⟩
 .by_cases e:b=p
  .subst e;rw[aY]at q ⊢;exact q
  .rw[aZ e]at q ⊢;exact sb.all _ _ q n
 .by_cases e:b=p
  .subst e;rw[aY]at q;exact⟨g,by rw[aY];exact q⟩
  .rw[aZ e]at q ⊢;exact sb.tbl _ _ q
theorem di.new (o:HO)(sb:Same F H)(i:fR F H)(h:H p=none)(n:Ie o=true:=by rfl):di F H (cG F p o) (cG H p o):=by
 have g:F p=none:=aJ sb h;refine⟨kE h,kE g,Eh sb,λb u q n=>?_,λb g j=>?_,λt=>sQ t h n⟩
 .by_cases e:b=p
  .subst e;rw[aY]at q;exact .inl (by rw[aY];exact q)
  .rw[aZ e]at q;rw[aZ e];exact i _ _ q n
 .have:b≠p:=λe=>g (by rw[e];exact h)
  rw[aZ this];exact j
theorem di.newL (xs:List V)(sb:Same F H)(g:fR F H)(h:H p=none):di F H F (cG H p (.lst xs)):=by
 refine⟨kE h,Same.refl _,sb.trans (kE h),λb u q n=>?_,λb _ i=>i,λt=>sQ t h rfl⟩
 by_cases e:b=p
 .subst e;rw[aY]at q;cases q;exact .inr ⟨xs,rfl⟩
 .rw[aZ e]at q;exact g _ _ q n
def ap:WA:=λ_ R=>R []
def ac (g:WE)(h:WA):WA:=λe R=>g e λx=>h e λe=>R (x::e)
def grow (F H H':Hp)(x:Option Addr):Hp:=λb=>if (H b).isNone=true then (if x=some b then none else H' b) else F b
theorem some_of (sb:Same F H)(h:F b=some o):¬ (H b).isNone=true:=λz=>by
 rw[aJ sb (Option.isNone_iff_eq_none.mp z)]at h;cases h
theorem FV (sb:Same F H)(h:F b=some o):grow F H H' x b=some o:=by
 unfold grow;rw[if_neg (some_of sb h)];exact h
theorem t5 (s:Same F H'):Same (grow F H H' x) H':=by
 refine⟨λb o q n=>?_,λb p q=>?_⟩
 .unfold grow at q
  split at q
  .split at q
   .cases q
   .exact q
  .exact s.all _ _ q n
 .unfold grow at q
  split at q
  .split at q
   .cases q
   .exact⟨p,q⟩
  .exact s.tbl _ _ q
theorem j8 (sb:Same F H)(h:fR F H)(s:Same H H')(k:∀ a,x=some a->∃ xs,H' a=some (.lst xs))(tb:Tab H->Tab H'):di F H (grow F H H' x) H':=by
 refine⟨s,.of λb o q=>FV sb q,t5 (sb.trans s),λb o q n=>?_,λb i j=>?_,tb⟩
 .unfold grow
  cases e:H b with
  |none=>
   rw[if_pos (show(none:Option HO).isNone=true from rfl)]
   by_cases z:x=some b
   .obtain⟨xs,g⟩:=k b z;rw[q]at g;cases g
    exact .inr ⟨xs,rfl⟩
   .rw[if_neg z];exact .inl q
  |some g=>
   rw[if_neg (by simp)]
   cases m:Ie g with
   |true=>
    have:=s.all _ _ e m;rw[q]at this;cases this
    exact h _ _ e n
   |false=>
    cases g <;> first|(cases m)|skip
    obtain⟨p,z⟩:=s.tbl _ _ e;rw[q]at z;cases z;cases n
 .unfold grow;rw[if_neg (λz=>i (Option.isNone_iff_eq_none.mp z))];exact j
theorem di.frozen (sb:Same F H)(e:di F H g h):di F H (grow g H h none) h/\Same g (grow g H h none):=by
 refine⟨⟨e.hh,⟨λb o q m=>?_,λb p q=>?_⟩,t5 e.sub,λb o q n=>?_,λb i j=>?_,e.tb⟩,⟨λb o q n=>?_,λb p q=>?_⟩⟩
 .unfold grow;rw[if_neg (some_of sb q)];exact e.ff.all _ _ q m
 .unfold grow;rw[if_neg (some_of sb q)];exact e.ff.tbl _ _ q
 .unfold grow
  cases z:H b with
  |none=>exact .inl (by rw[if_pos (show(none:Option HO).isNone=true from rfl),if_neg (by simp)];exact q)
  |some k=>rw[if_neg (by simp)];exact e.full _ _ q n
 .unfold grow;rw[if_neg (λz=>i (Option.isNone_iff_eq_none.mp z))];exact e.keep b i j
 .unfold grow
  split
  .rw[if_neg (by simp)];exact e.sub.all _ _ q n
  .exact q
 .unfold grow
  split
  .rw[if_neg (by simp)];exact e.sub.tbl _ _ q
  .exact⟨p,q⟩
def kD:List S->Option (List T)
 | []=>some []
 | .t x::r=>match kD r with
  |some e=>some (x::e)
  |none=>none
 | .ol us::r=>match kD r with
  |some e=>some (.lst us::e)
  |none=>none
 | .vt _::_=>none
def bX (g:WA):WE:=λe R=>g e λe=>match kD e with
 |some e=>if e.length<=1000 then R (.t (.tup e)) else False
 |none=>False
def iF (g:WA):WE:=λe R=>g e λe=>match kD e with
 |some e=>if e.length<=1000 then R (.ol e) else False
 |none=>False
theorem iW (m:Same g (grow g H H' none)):∀ {j:List S}{vs:List V}{ts:List T},h9 K H g H' j vs->kD j=some ts->au K (grow g H H' none) ts vs
 | [],_,_,h,e=>by cases e;exact h
 | .t x::r,_,ts,⟨v,vr,e1,h1,h2⟩,e=>by
  subst e1;unfold kD at e
  split at e
  .rename_i p i
   cases e
   exact⟨v,vr,rfl,aB.same m h1,iW m h2 i⟩
  .cases e
 | .vt _::_,_,_,_,e=>by cases e
 | .ol zs::r,_,_,⟨v,vr,e1,h1,h2⟩,e=>by
  subst e1;unfold kD at e
  split at e
  .rename_i p i
   cases e
   refine⟨v,vr,rfl,?_,iW m h2 i⟩;unfold dz at h1;obtain⟨a,y,q,k,z,n,o⟩:=h1;unfold aB;refine⟨a,y,q,cV.of ?_,au.same m o⟩;unfold grow;rw[if_pos (by rw[k];rfl),if_neg (by simp)]
   exact n
  .cases e
theorem xv (h:n<=1000):n<=sizeLine:=Nat.le_of_lt (zH h)
def eh (f:List S->(S->Prop)->Prop)(g:WA):WE:=λe R=>g e λe=>f e R
def lK (K:Frg)(F H:Hp):List S->List V->Prop
 | [],e=>e=[]
 |s::g,e=>∃ v r,e=v::r/\fT K F H s v/\lK K F H g r
theorem h9.val (e:Same F H):∀ {g:List S}{vs:List V},h9 K i F H g vs->lK K F H g vs
 | [],_,h=>h
 |_::_,_,⟨v,r,j,k,m⟩=>⟨v,r,j,k.val e,h9.val e m⟩
def gk (K:Frg)(r:List V->Hp->VK->Prop)(f:List S->(S->Prop)->Prop):Prop:=
 ∀ F H e g R Q,Same F H->fR F H->lK K F H e g->f e R->(∀ v e h s,di F H e h->dz K H e h s v->R s->Q v h)->r g H Q
theorem Gh (o:gk K r f):∀ σ H Q,av K (eh f g) σ H Q->PH r (dE K g) σ H Q:=by
 rintro σ H Q ⟨j,R,F,i,h,k⟩;refine⟨j,_,F,i,h,λn i j m e p q=>?_⟩;exact o i j m n R Q e.sub e.full (p.val e.sub) q λv i j s m n x=>k v i j s (e.trans m) (n.start e.hh) x
abbrev aN:=List S->(S->Prop)->Prop
def lM:S->S
 | .vt x=>.t x
 | .ol e=>.t (.lst e)
 | .t x=>.t x
def got:S->S
 | .t x=>norm x
 | .vt x=>.vt x
 | .ol e=>if cF e=true then .ol e else .vt (.lst e)
def Af:S->Prop
 | .t _=>True
 |_=>False
def sR (K:Frg)(sp:aN):Sp:=λg H Q _=>∃ e R,kU K H/\(∀ s∈e,Af s)/\lK K H H e g/\sp e R/\∀ v h s,Same H h->kU K h->zV K H h s v->R s->Q v h
def aw (sp:aN)(g:WA):WE:=λe R=>g e λe=>sp (e.map lM) λs=>R (got s)
theorem wQ (sb:Same F H):∀ {i:List S}{vs:List V},h9 K j F H i vs->(∀ s∈i.map lM,Af s)/\lK K H H (i.map lM) vs
 | [],_,h=>⟨λs p=>by simp at p,h⟩
 |s::i,_,⟨v,r,n,g,o⟩=>by
  obtain⟨k,m⟩:=wQ sb o;refine⟨λu i=>?_,v,r,n,?_,m⟩
  .rw[map_cons]at i
   obtain e|e:=mem_cons.mp i
   .subst e
    cases s <;> exact True.intro
   .exact k u e
  .cases s with
   |t x=>exact aB.same sb g
   |vt x=>exact g
   |ol m=>
    unfold dz at g;obtain⟨a,n,q,_,_,i,k⟩:=g;show aB K H (.lst m) v;unfold aB;exact⟨a,n,q,cV.of i,au.same sb k⟩
theorem y0:∀ σ H Q,av K (aw sp J) σ H Q->Im (sR K sp) [] E (dE K J) σ H Q:=by
 rintro σ H Q ⟨X,R,F,D,h,k⟩;refine⟨X,_,F,D,h,λU Y L Z e p q=>?_⟩;show sR K sp (U++[]) L Q E;rw[append_nil];obtain⟨M,O⟩:=wQ e.sub p;refine⟨_,_,(D.ext e).tab,M,O,q,λv j s G I rc o=>?_⟩
 cases s with
 |t x=>
  have ex:=j8 (x:=none) e.sub e.full G (λ_ z=>by cases z) (λ_=>I.1)
  exact k v _ j (norm x) (e.trans ex) (dz.norm ex.full rc) o
 |vt x=>exact False.elim rc
 |ol i=>
  unfold zV at rc;obtain⟨a,n,y,B,m,C⟩:=rc;have ex:=j8 (x:=some a) e.sub e.full G (λb z=>by cases z;exact⟨n,m⟩) (λ_=>I.1)
  have g:R (if cF i=true then .ol i else .vt (.lst i)):=o
  split at g
  .rename_i P;refine k v _ j (.ol i) (e.trans ex) ⟨a,n,y,aJ e.hh B,?_,m,au.full ex.full P C⟩ g;unfold grow;rw[if_pos (by rw[B];rfl),if_pos rfl]
  .refine k v _ j (.vt (.lst i)) (e.trans ex) ?_ g;unfold dz aB;exact⟨a,n,y,cV.of m,C⟩
section
variable {X:Cx}{e:Expr}{es:List Expr}{we:WE}{wr wa:WA}{pos:Pos}
theorem ag:PA X [] (dE X.K ap):=se.imp <| by rintro σ H Q ⟨δ,R,F,rl,h,k⟩;exact k [] F H [] rl.refl rfl h
theorem aa (n:PE X e (av X.K we))(o:PA X es (dE X.K wr))(hs:starEach (e::es) X.env=(false,eval e X.env)::starEach es X.env:=by exact aQ rfl):PA X (e::es) (dE X.K (ac we wr)):=
 (mx n o hs).imp <| by rintro g H Q ⟨i,R,F,g,h,k⟩;exact⟨i,_,F,g,h,λv j m s e p q=>⟨i,_,j,g.ext e,q,λi j m z g x y=>k (v::i) j m (s::z) (e.trans g) ⟨v,i,rfl,p.ext g,x.start e.hh⟩ y⟩⟩
theorem aR {x}(h:PA X es (dE X.K wa)):PE X (.Tuple es x pos) (av X.K (bX wa)):=
 (K4 h).imp <| by rintro D H Q ⟨o,R,F,g,h,k⟩;exact⟨o,_,F,g,h,λv y B C e p q=>by
  split at q
  .rename_i n m;obtain⟨z,sz⟩:=e.frozen g.sub;have r:=iW sz p m
   split at q
   .rename_i j;refine⟨by rw[r.length];exact xv j,λa i=>?_⟩
    have ex:=di.new (.tup v) z.sub z.full i;refine k _ _ _ (.t (.tup n)) (z.trans ex) ?_ q;unfold dz aB;exact⟨a,v,rfl,je.of aY,au.same ex.ff r⟩
   .exact q.elim
  .exact q.elim⟩
theorem dk (h:PA X es (dE X.K wa)):PE X (.List es pos) (av X.K (iF wa)):=
 (K0 h).imp <| by rintro C H Q ⟨o,R,F,i,h,k⟩;exact⟨o,_,F,i,h,λv x y B e p q=>by
  split at q
  .rename_i n m;obtain⟨z,sz⟩:=e.frozen i.sub;have r:=iW sz p m
   split at q
   .rename_i j;refine⟨by rw[r.length];exact xv j,λa g=>?_⟩
    have ex:=di.newL v z.sub z.full g;exact k _ _ _ (.ol n) (z.trans ex) ⟨a,v,rfl,aJ e.hh g,aJ z.sub g,aY,r⟩ q
   .exact q.elim
  .exact q.elim⟩
structure Callee (P:Program) (w:World) (K:Frg) (mg:Str->Option Value) (base:Heap) (k:Nat) (x:Str) (sp:aN):Prop where
 ex:∃ (f:Addr) (fd:FuncData) (ps:List Str),mg x=some (.ref f)/\h8 P w K mg base wJ k f fd ps (sR K sp)/\Binds K fd ps []/\PySem.W.keepIn K (.ref f)=true
theorem w8 (C:Callee X.prog X.w X.K X.mg X.base k x sp) (n:b9 k X.A) (i:Gl X x) (h:PA X (e::es) (dE X.K wa)) (hdb:(x == ("__debug__":Str))=false:=by decide)
  (he:starEach (e::es) X.env=(false,eval e X.env)::starEach es X.env:=by exact aQ rfl) (hpl:(backTo pos (starEach es X.env)).any (·.1)=false:=by exact dH rfl):PE X (.Call (.Name x p) (e::es) [] pos) (av X.K (aw sp wa)):=by
 obtain⟨f,g,g,m,F,g,j⟩:=C.ex;exact(GS F n i m j g .nil (E:=E0) NH h hdb he hpl).imp y0
theorem eY {x:Str}{p:Pos}{id:String}{r:List V->Hp->VK->Prop}{f:List S->(S->Prop)->Prop} (g:fQ X (.builtin id) r) (i:gk X.K r f) (m:X.mg x=none) (v:bootBuiltins x=some (.builtin id)) (h:PA X (e::es) (dE X.K wa)) (j:Gl X x:=by rfl) (n:x≠"__name__":=by decide) (hdb:(x == ("__debug__":Str))=false:=by decide)
  (he:starEach (e::es) X.env=(false,eval e X.env)::starEach es X.env:=by exact aQ rfl) (hpl:(backTo pos (starEach es X.env)).any (·.1)=false:=by exact dH rfl):PE X (.Call (.Name x p) (e::es) [] pos) (av X.K (eh f wa)):=
 (DR g j m v h n hdb he hpl).imp (Gh i)
end
def cZ:List S->(S->Prop)->Prop
 | [.t (.tup ts)],R=>R (.t (.int ts.length))
 | [.t (.lst ts)],R=>R (.t (.int ts.length))
 | [.vt (.tup ts)],R=>R (.t (.int ts.length))
 | [.vt (.lst ts)],R=>R (.t (.int ts.length))
 | [.ol ts],R=>R (.t (.int ts.length))
 |_,_=>False
theorem KH:gk K (λxs H Q=>∃ p ys,xs=[.ref p]/\(cV K H p ys\/je K H p ys)/\Q (.int ys.length) H) cZ:=by
 intro F H e e R Q sb j m h k;unfold cZ at h
 split at h
 .obtain⟨v,r,rfl,⟨a,xs,rfl,e,g⟩,i⟩:=m
  cases (show r=[] from i)
  exact⟨a,xs,rfl,.inr (Same.sqT sb a xs e),k _ F H (.t (.int _)) (di.refl sb j) (by show _=_;rw[g.length]) h⟩
 .obtain⟨v,r,rfl,⟨a,xs,rfl,e,g⟩,i⟩:=m
  cases (show r=[] from i)
  exact⟨a,xs,rfl,.inl (sb.seq e),k _ F H (.t (.int _)) (di.refl sb j) (by show _=_;rw[g.length]) h⟩
 .obtain⟨v,r,rfl,⟨a,xs,rfl,e,g⟩,i⟩:=m
  cases (show r=[] from i)
  exact⟨a,xs,rfl,.inr e,k _ F H (.t (.int _)) (di.refl sb j) (by show _=_;rw[g.length]) h⟩
 .obtain⟨v,r,rfl,⟨a,xs,rfl,e,g⟩,i⟩:=m
  cases (show r=[] from i)
  exact⟨a,xs,rfl,.inl e,k _ F H (.t (.int _)) (di.refl sb j) (by show _=_;rw[g.length]) h⟩
 .obtain⟨v,r,rfl,⟨a,xs,rfl,e,g⟩,i⟩:=m
  cases (show r=[] from i)
  exact⟨a,xs,rfl,.inl e,k _ F H (.t (.int _)) (di.refl sb j) (by show _=_;rw[g.length]) h⟩
 .exact h.elim
def hW:List S->(S->Prop)->Prop
 | [.t (.int i)],R=>R (.t (.int (if i<0 then -i else i)))
 |_,_=>False
theorem KF:gk K (λxs H Q=>∃ i,xs=[.int i]/\Q (.int (if i<0 then -i else i)) H) hW:=by
 intro F H e e R Q sb e p h k;unfold hW at h
 split at h
 .obtain⟨v,r,rfl,rfl,g⟩:=p
  cases (show r=[] from g)
  exact⟨_,rfl,k _ F H (.t (.int _)) (di.refl sb e) rfl h⟩
 .exact h.elim
def tV:List S->(S->Prop)->Prop
 | [.t (.int i),.t (.int j)],R=>R (.t (.int (if j>i then j else i)))
 |_,_=>False
def pI:List S->(S->Prop)->Prop
 | [.t (.int i),.t (.int j)],R=>R (.t (.int (if j<i then j else i)))
 |_,_=>False
theorem GF:gk K (λxs H Q=>∃ i j,xs=[.int i,.int j]/\Q (.int (if j>i then j else i)) H) tV:=by
 intro F H e e R Q sb e p h k;unfold tV at h
 split at h
 .obtain⟨v,r,rfl,rfl,g,m,rfl,rfl,g⟩:=p
  cases (show m=[] from g)
  exact⟨_,_,rfl,k _ F H (.t (.int _)) (di.refl sb e) rfl h⟩
 .exact h.elim
theorem GG:gk K (λxs H Q=>∃ i j,xs=[.int i,.int j]/\Q (.int (if j<i then j else i)) H) pI:=by
 intro F H e e R Q sb e p h k;unfold pI at h
 split at h
 .obtain⟨v,r,rfl,rfl,g,m,rfl,rfl,g⟩:=p
  cases (show m=[] from g)
  exact⟨_,_,rfl,k _ F H (.t (.int _)) (di.refl sb e) rfl h⟩
 .exact h.elim
def Na:List S->(S->Prop)->Prop
 | [.t (.int i)],R=>R (.t (.int i))
 | [.t (.bl b)],R=>R (.t (.int (if b then 1 else 0)))
 |_,_=>False
def qW:List S->(S->Prop)->Prop
 | [.t (.tup ts)],R=>R (.ol ts)
 | [.t (.lst ts)],R=>R (.ol ts)
 | [.vt (.lst ts)],R=>cF ts=true/\R (.ol ts)
 | [.ol ts],R=>R (.ol ts)
 |_,_=>False
section
variable {X:Cx}{e:Expr}{es:List Expr}{we:WE}{wr wa:WA}{pos p:Pos}
theorem bL (hm:X.mg "len"=none) (ha:PA X [e] (dE X.K wa)) (hg:Gl X "len":=by rfl) (he:starEach [e] X.env=(false,eval e X.env)::starEach [] X.env:=by exact aQ rfl):PE X (.Call (.Name "len" p) [e] [] pos) (av X.K (eh cZ wa)):=
 eY qF KH hm PySem.boot_len ha hg (he:=he) (hpl:=rfl)
theorem dB (hm:X.mg "abs"=none) (ha:PA X [e] (dE X.K wa)) (hg:Gl X "abs":=by rfl) (he:starEach [e] X.env=(false,eval e X.env)::starEach [] X.env:=by exact aQ rfl):PE X (.Call (.Name "abs" p) [e] [] pos) (av X.K (eh hW wa)):=
 eY Aw KF hm PyProof.Rows.boot_abs ha hg (he:=he) (hpl:=rfl)
theorem FD (hm:X.mg "max"=none) (ha:PA X [e,e2] (dE X.K wa)) (hg:Gl X "max":=by rfl) (hc:X.calm=true:=by rfl) (he:starEach [e,e2] X.env=(false,eval e X.env)::starEach [e2] X.env:=by exact aQ rfl) (hpl:(backTo pos (starEach [e2] X.env)).any (·.1)=false:=by exact dH rfl):PE X (.Call (.Name "max" p) [e,e2] [] pos) (av X.K (eh tV wa)):=
 eY (yC hc) GF hm PyProof.Rows.boot_max ha hg (he:=he) (hpl:=hpl)
theorem xa (hm:X.mg "min"=none) (ha:PA X [e,e2] (dE X.K wa)) (hg:Gl X "min":=by rfl) (hc:X.calm=true:=by rfl) (he:starEach [e,e2] X.env=(false,eval e X.env)::starEach [e2] X.env:=by exact aQ rfl) (hpl:(backTo pos (starEach [e2] X.env)).any (·.1)=false:=by exact dH rfl):PE X (.Call (.Name "min" p) [e,e2] [] pos) (av X.K (eh pI wa)):=
 eY (yE hc) GG hm PyProof.Rows.boot_min ha hg (he:=he) (hpl:=hpl)
end
def gZ:a9->(Option Int->Prop)->Prop:=λ_ R=>R none
def kF (e:WE):a9->(Option Int->Prop)->Prop:=λg R=>e g λs=>match s with
 | .t (.int i)=>R (some i)
 |_=>False
def xy (K:Frg)(w:a9->(Option Int->Prop)->Prop):TO:=λg H Q=>∃ e R F,Rel K F H g e/\w e R/\∀ e h o,di F H e h->R o->Q o h
def fW (ts:List T)(lo hi:Option Int):List T:=(ts.drop (HT.sIx ts.length 0 lo)).take (HT.sIx ts.length ts.length hi-HT.sIx ts.length 0 lo)
def wy (lo hi:Option Int)(R:S->Prop):S->Prop
 | .t (.lst e)=>R (.ol (fW e lo hi))
 | .vt (.lst e)=>cF e=true/\R (.ol (fW e lo hi))
 | .ol e=>R (.ol (fW e lo hi))
 |_=>False
def g0 (g:WE)(i h:a9->(Option Int->Prop)->Prop):WE:=λe R=>g e λs=>i e λlo=>h e λhi=>wy lo hi R s
theorem wz (sb:Same F H)(j:fR F H)(h:wy lo hi R s)(p:fT K F H s v):∃ ts a xs,v=.ref a/\cV K H a xs/\au K F ts xs/\R (.ol (fW ts lo hi)):=by
 unfold wy at h
 split at h
 .unfold fT aB at p;obtain⟨a,xs,e,g,i⟩:=p;exact⟨_,a,xs,e,sb.seq g,i,h⟩
 .unfold fT aB at p;obtain⟨a,xs,e,g,i⟩:=p;exact⟨_,a,xs,e,g,au.full j h.1 i,h.2⟩
 .unfold fT at p;obtain⟨a,xs,e,g,i⟩:=p;exact⟨_,a,xs,e,g,i,h⟩
 .exact h.elim
theorem FC (h:au K F ts xs)(lo hi:Option Int):au K F (fW ts lo hi) (yH xs lo hi):=by
 unfold fW yH;rw[h.length];exact(h.drop _).take _
section
variable {X:Cx}{e:Expr}{we:WE}{lo hi:Option Expr}{wl wh:a9->(Option Int->Prop)->Prop}{pos p2:Pos}
theorem gv:PO X none (xy X.K gZ):=by rintro pins s σ H Q I ⟨δ,R,F,rl,h,k⟩;exact GY pins s σ H Q I (k F H none rl.refl h)
theorem gw (h:PE X e (av X.K we)):PO X (some e) (xy X.K (kF we)):=λg s n H Q I ⟨m,R,F,j,i,k⟩=>
 GZ h g s n H Q I ⟨m,_,F,j,i,λv g i s e p q=>by
  split at q
  .exact⟨_,p,k g i _ e q⟩
  .exact q.elim⟩
theorem eZ (he:PE X e (av X.K we))(j:PO X lo (xy X.K wl))(z:PO X hi (xy X.K wh)):PE X (.Subscript e (.Slice lo hi none p2) pos) (av X.K (g0 we wl wh)):=
 (DS Hu he j z).imp <| by rintro g H Q ⟨i,R,F,g,h,k⟩;exact⟨i,_,F,g,h,λv n m s m B q=>⟨i,_,n,g.ext m,q,λp n o n x=>⟨i,_,p,(g.ext m).ext n,x,λp g g g C=>by
  have i:=m.trans (n.trans g);obtain⟨m,a,D,rfl,m,x,y⟩:=wz g.sub g.full C ((B.ext (n.trans g)).val g.sub);refine⟨a,D,rfl,m,λl j=>?_⟩;exact k _ p _ (.ol _) (i.trans (di.newL _ g.sub g.full j)) ⟨l,_,rfl,aJ i.hh j,aJ g.sub j,aY,FC x _ _⟩ y⟩⟩⟩
end
def dZ:S->S
 | .ol e=>.t (.lst e)
 | .t x=>.t x
 | .vt x=>.vt x
def freeze (e:a9):a9:=e.map (Option.map dZ)
def setS (i:Nat)(s:S)(e:a9):a9:=match s with
 | .vt x=>(freeze e).set i (some (.t x))
 | .t x=>e.set i (some (.t x))
 | .ol g=>e.set i (some (.ol g))
theorem jz {g:a9}{i:Nat}{s:S}(h:(freeze g)[i]?=some (some s)):∃ u,g[i]?=some (some u)/\s=dZ u:=by
 unfold freeze at h;rw[getElem?_map]at h
 cases e:g[i]? with
 |none=>rw[e]at h;cases h
 |some o=>
  rw[e]at h
  cases o with
  |none=>cases h
  |some u=>exact⟨u,rfl,by simpa using h.symm⟩
theorem yS (sb:Same F H):∀ {s:S}{v:V},eW K F H s v->eW K H H (dZ s) v
 | .t _,_,h=>aB.same sb h
 | .vt _,_,h=>False.elim h
 | .ol _,_,⟨a,xs,h1,_,h3,h4⟩=>by
  show aB K H (.lst _) _;unfold aB;exact⟨a,xs,h1,cV.of h3,au.same sb h4⟩
theorem jp (s:S)(ts:List T):dZ s≠.ol ts:=by cases s <;> simp[dZ]
theorem Rel.freeze {K:Frg}{F H:Hp}{σ:St}{k:a9}(r:Rel K F H σ k):Rel K H H σ (freeze k):=by
 refine⟨Same.refl _,λb o h _=>.inl h,?_,λi s h=>?_,λi j a p g _ g=>?_,r.tab⟩
 .unfold DL.freeze;rw[length_map];exact r.len
 .obtain⟨u,g,rfl⟩:=jz h;obtain⟨v,m,n⟩:=r.slot i u g;exact⟨v,m,yS r.sub n⟩
 .obtain⟨u,_,e⟩:=jz g;exact absurd e.symm (jp u p)
theorem Rel.put (r:Rel K F H σ n)(h:eW K F H s v)(hs:∀ ts,s≠.ol ts):Rel K F H (σ.set i (some v)) (n.set i (some s)):=by
 refine⟨r.sub,r.full,by rw[length_set,length_set];exact r.len,λj u m=>?_,λj l a ts p q g k o=>?_,r.tab⟩
 .by_cases e:i=j
  .subst e;have hi:i<n.length:=by
    rw[getElem?_set]at m;simp at m;exact m.1
   rw[getElem?_set_self hi]at m
   cases m
   exact⟨v,getElem?_set_self (by rw[r.len];exact hi),h⟩
  .rw[getElem?_set_ne e]at m;obtain⟨w,g,k⟩:=r.slot j u m;exact⟨w,by rw[getElem?_set_ne e];exact g,k⟩
 .have m:i≠j:=λe=>by
   subst e;have hi:i<n.length:=by
    rw[getElem?_set]at g;simp at g;exact g.1
   rw[getElem?_set_self hi]at g
   cases g
   exact hs ts rfl
  have x:i≠l:=λe=>by
   subst e;have hi:i<n.length:=by
    rw[getElem?_set]at k;simp at k;exact k.1
   rw[getElem?_set_self hi]at k
   cases k
   exact hs p rfl
  rw[getElem?_set_ne m]at g o;rw[getElem?_set_ne x]at k ⊢;exact r.dist j l a ts p q g k o
theorem Rel.putOl (r:Rel K F H σ m)(e:di F H x H')(G:H a=none)(I:x a=none)(J:H' a=some (.lst xs))(L:au K x ts xs) :
  Rel K x H' (σ.set i (some (.ref a))) (m.set i (some (.ol ts))):=by
 have B:=r.ext e;have o:∀ (j:Nat) (p:List T) (b:Addr),m[j]?=some (some (.ol p))->σ[j]?=some (some (.ref b))->b≠a:=λj p b h g z=>by
  obtain⟨v,y,c,k,C,k,k,_⟩:=r.slot j _ h;rw[g]at y
  cases y
  cases C
  rw[z,G]at k
  cases k
 refine⟨B.sub,B.full,by rw[length_set,length_set];exact r.len,λj u k=>?_,λj l b p E D h g n=>?_,B.tab⟩
 .by_cases z:i=j
  .subst z;have hi:i<m.length:=by
    rw[getElem?_set]at k;simp at k;exact k.1
   rw[getElem?_set_self hi]at k
   cases k
   exact⟨_,getElem?_set_self (by rw[r.len];exact hi),a,xs,rfl,I,J,L⟩
  .rw[getElem?_set_ne z]at k;obtain⟨w,y,C⟩:=B.slot j u k;exact⟨w,by rw[getElem?_set_ne z];exact y,C⟩
 .by_cases z:i=j
  .subst z;have hi:i<m.length:=by
    rw[getElem?_set]at h;simp at h;exact h.1
   rw[getElem?_set_self (by rw[r.len];exact hi)]at n
   cases n
   rw[getElem?_set_ne D]at g ⊢;exact λq=>o l E a g q rfl
  .rw[getElem?_set_ne z]at h n
   by_cases k:i=l
   .subst k;have hi:i<m.length:=by
     rw[getElem?_set]at g;simp at g;exact g.1
    rw[getElem?_set_self (by rw[r.len];exact hi)]
    intro q
    cases q
    exact o j p a h n rfl
   .rw[getElem?_set_ne k]at g ⊢;exact r.dist j l b p E D h g n
theorem Rel.setS (i:Nat)(r:Rel K F H σ j)(e:di F H g H')(p:dz K H g H' s v):∃ h,Same F h/\Rel K h H' (σ.set i (some v)) (setS i s j):=by
 cases s with
 |t x=>exact⟨g,e.ff,(r.ext e).put (s:=.t x) p (λ_ z=>by cases z)⟩
 |vt x=>exact⟨H',e.ff.trans e.sub,(r.ext e).freeze.put (s:=.t x) p (λ_ z=>by cases z)⟩
 |ol h=>
  obtain⟨a,h,rfl,h,k,m,n⟩:=p;exact⟨g,e.ff,r.putOl e h k m n⟩
theorem Rel.thaw (g:Rel K F H σ i)(ex:di F H e h)(p:dz K H e h (.ol ts) v) :
  Rel K (grow e H h none) h σ i/\Same F (grow e H h none)/\∃ a xs,v=.ref a/\cV K (grow e H h none) a xs/\au K (grow e H h none) ts xs:=by
 obtain⟨z,sz⟩:=ex.frozen g.sub;refine⟨g.ext z,z.ff,?_⟩;obtain⟨a,xs,rfl,j,k,k,m⟩:=p;refine⟨a,xs,rfl,cV.of ?_,au.same sz m⟩;unfold grow;rw[if_pos (by rw[j];rfl),if_neg (by simp)]
 exact k
def bz:WS:=λD e=>D.nx e
def aC (w u:WS):WS:=λD e=>w {D with nx:=u D} e
def bZ (w u:WS):WS:=λD e=>∃ M:a9->Prop,w {D with nx:=M} e/\∀ e,M e->u D e
def aG (i:Nat)(g:WE):WS:=λD e=>g e λs=>D.nx (setS i s e)
def hI (c:WT)(w u:WS):WS:=λD e=>c e λk=>if k=true then w D e else u D e
def out:S->S
 | .vt x=>.t x
 | .t x=>.t x
 | .ol e=>.ol e
def bw (e:WE):WS:=λD g=>e g λs=>D.rt (out s)
def iG (i:Nat):WS:=λD e=>match e[i]? with
 |some (some s)=>D.rt s
 |_=>False
def Oh:WS:=λD _=>D.rt (.t .non)
def LQ:WS:=λD e=>D.bk e
def Od:WS:=λD e=>D.ct e
def uS (g:WE):WS:=λD e=>g e λ_=>D.nx e
def lE:WS:=λ_ _=>False
def oH (c:WT)(h:WS):WS:=λD g=>∃ I:Nat->a9->Prop,(∃ n,I n g)/\∀ n g,I n g->c g λk=>if k=true then h {nx:=λe=>∃ m,m<n/\I m e,rt:=D.rt,bk:=D.nx,ct:=λe=>∃ m,m<n/\I m e} g else D.nx g
abbrev WG:=T->a9->(a9->Prop)->Prop
def vC (g:WG)(h:WS):List T->tj->a9->Prop
 | [],D,i=>D.nx i
 |x::r,D,i=>g x i λj=>h {nx:=λe=>vC g h r D e,rt:=D.rt,bk:=D.nx,ct:=λe=>vC g h r D e} j
abbrev WI:=a9->(List T->a9->Prop)->Prop
def yQ (g:WG)(i:WS)(ts:List T)(D:tj)(e:a9):Prop:=∃ I:List T->a9->Prop,I ts e/\(∀ e,I [] e->D.nx e)/\∀ x r e,I (x::r) e->g x e λh=>i {nx:=I r,rt:=D.rt,bk:=D.nx,ct:=I r} h
theorem FR (h:vC g i ts D e):yQ g i ts D e:=⟨λr e=>vC g i r D e,h,λ_ h=>h,λ_ _ _ h=>h⟩
def jS (j:WI)(g:WG)(i:WS):WS:=λD e=>j e λh e=>yQ g i h D e
def aH (i:Nat):WG:=λt e R=>R (e.set i (some (.t t)))
def jt (g:List T->a9->(a9->Prop)->Prop):WG:=λt h R=>match t with
 | .tup e=>g e h R
 |_=>False
def hV:List T->a9->(a9->Prop)->Prop:=λe g R=>match e with
 | []=>R g
 |_=>False
def bA (g:WG)(h:List T->a9->(a9->Prop)->Prop):List T->a9->(a9->Prop)->Prop:=λe i R=>match e with
 |t::r=>g t i λe=>h r e R
 | []=>False
def HD (g:WG)(e:a9)(N:a9->Prop):S->Prop
 | .t t=>g t e N
 | .vt t=>g t (freeze e) N
 | .ol h=>g (.lst h) e N
def uU (h:WE)(g:WG):WS:=λD e=>h e λs=>HD g e D.nx s
def HF (i j:Nat)(h:WA):WS:=λD e=>h e λg=>match g with
 | [.t x,.t y]=>D.nx ((e.set i (some (.t x))).set j (some (.t y)))
 |_=>False
def eO (i:Nat)(g:WE):WS:=λD e=>match e[i]? with
 |some (some (.ol ts))=>g e λs=>match s with
  | .t x=>ts.length<100000/\D.nx (e.set i (some (.ol (ts++[x]))))
  |_=>False
 |_=>False
def HG (i:Nat):WS:=λD e=>match e[i]? with
 |some (some (.ol ts))=>ts≠[]/\D.nx (e.set i (some (.ol ts.dropLast)))
 |_=>False
def lF (i:Nat)(g wv:WE):WS:=λD e=>match e[i]? with
 |some (some (.ol ts))=>wv e λv=>g e λs=>match v,s with
  | .t x,.t (.int k)=>match rM ts.length k with
   |some j=>D.nx (e.set i (some (.ol (ts.set j x))))
   |none=>False
  |_,_=>False
 |_=>False
section
variable {X:Cx}{st:Stmt}{rest:List Stmt}{w u:WS}{e:Expr}{we:WE}{pos:Pos}{H₀:Hp}
theorem aO:jT X [] (bI X.K H₀ bz):=G3.imp <| by rintro D σ H ⟨δ,D',F,_,rl,h,ok⟩;exact ok.nx σ F H δ (Same.refl _) rl h
theorem ah (n:PS X st (bI X.K H₀ w))(o:jT X rest (bI X.K H₀ u)):jT X (st::rest) (bI X.K H₀ (aC w u)):=
 (uz n o).imp <| by rintro D g H ⟨i,j,F,s0,g,h,ok⟩;exact⟨i,_,F,s0,g,h,⟨λg k g i ff g m=>⟨i,j,k,s0.trans ff,g,m,ok.mono ff⟩,ok.rt,ok.bk,ok.ct⟩⟩
theorem aM (n:PS X st (bI X.K H₀ w))(o:jT X rest (bI X.K H₀ u)):jT X (st::rest) (bI X.K H₀ (bZ w u)):=
 (uz n o).imp <| by rintro D g H ⟨i,j,F,s0,g,⟨M,h,p⟩,ok⟩;exact⟨i,_,F,s0,g,h,⟨λg k g g ff i m=>⟨g,j,k,s0.trans ff,i,p g m,ok.mono ff⟩,ok.rt,ok.bk,ok.ct⟩⟩
theorem am (h:PS X st (bI X.K H₀ w)):jT X [st] (bI X.K H₀ w):=G4 h
theorem ib:PS X st (bI X.K H₀ lE):=D0.imp <| by rintro D σ H ⟨δ,D',F,_,rl,h,ok⟩;exact h
theorem aq (n:X.N.Nodup)(he:PE X e (av X.K we))(hi:X.N[i]?=some x:=by rfl)(y:Loc X.env.scope x:=by first|exact Or.inl rfl|exact Or.inr rfl)(hs:swapsWith e (some (.Name x g)) pos.line X.env=pure false:=by rfl)(o:X.fn x=true\/X.env.scope.names.lookup x=some .local:=by first|exact .inl rfl|exact .inr rfl|assumption) :
  PS X (.Assign [.Name x g] e pos) (bI X.K H₀ (aG i we)):=
 (Lc n hi y he hs o).imp <| by rintro D G H ⟨B,C,F,s0,j,h,ok⟩;exact⟨B,_,F,j,h,λv E m s e p q=>by
  obtain⟨k,ff,z⟩:=j.setS i e p;exact ok.nx _ k m _ ff z q⟩
theorem bB (p:PT X c (liftT X.K t))(n:jT X a (bI X.K H₀ w))(o:jT X b (bI X.K H₀ u)):PS X (.If c a b pos) (bI X.K H₀ (hI t w u)):=
 (NN p n o).imp <| by rintro D g H ⟨i,j,F,s0,g,h,ok⟩;exact⟨i,_,F,g,h,λm v k e q=>by
  cases k with
  |true=>exact⟨i,j,m,s0.trans e.ff,g.ext e,by simpa using q,ok.mono e.ff⟩
  |false=>exact⟨i,j,m,s0.trans e.ff,g.ext e,by simpa using q,ok.mono e.ff⟩⟩
theorem Ec (s0:Same H₀ H)(e:di F H i g):∀ {s:S}{v:V},dz K H i g s v->zV K H₀ g (out s) v
 | .t _,_,h=>aB.same e.sub h
 | .vt _,_,h=>h
 | .ol _,_,⟨a,xs,h1,h2,_,h3,h4⟩=>⟨a,xs,h1,aJ s0 h2,h3,au.same e.sub h4⟩
theorem aF (he:PE X e (av X.K we)):PS X (.Return (some e) pos) (bI X.K H₀ (bw we)):=
 (wj he).imp <| by rintro D σ H ⟨δ,D',F,s0,rl,h,ok⟩;exact⟨δ,_,F,rl,h,λv F1 H1 s e p q=>ok.rt v H1 _ ((s0.trans rl.sub).trans e.hh) (rl.ext e).tab (Ec (s0.trans rl.sub) e p) q⟩
theorem Ek (s0:Same H₀ F)(sb:Same F H):∀ {s:S}{v:V},eW K F H s v->zV K H₀ H s v
 | .t _,_,h=>aB.same sb h
 | .vt _,_,h=>False.elim h
 | .ol _,_,⟨a,xs,h1,h2,h3,h4⟩=>⟨a,xs,h1,aJ s0 h2,h3,au.same sb h4⟩
def EG (we:WE):WS:=λD g=>we (freeze g) λs=>D.rt (out s)
theorem FJ (he:PE X e (av X.K we)):PS X (.Return (some e) pos) (bI X.K H₀ (EG we)):=
 (wj he).imp <| by rintro D σ H ⟨δ,D',F,s0,rl,h,ok⟩;exact⟨freeze δ,_,H,rl.freeze,h,λv F1 H1 s e p q=>ok.rt v H1 _ ((s0.trans rl.sub).trans e.hh) (rl.freeze.ext e).tab (Ec (s0.trans rl.sub) e p) q⟩
theorem fq (he:PE X e (uM i)):PS X (.Return (some e) pos) (bI X.K H₀ (iG i)):=
 (wj he).imp λD p H ⟨o,n,F,s0,g,h,ok⟩=>by
  unfold iG at h
  split at h
  .rename_i s m;obtain⟨v,j,k⟩:=g.slot i s m;exact⟨v,j,ok.rt v H s (s0.trans g.sub) g.tab (Ek s0 g.sub k) h⟩
  .exact h.elim
theorem qT (he:PE X e (av X.K we))(hs:swapsWith e none pos.line X.env=pure false:=by rfl):PS X (.Expr e pos) (bI X.K H₀ (uS we)):=
 (my he hs).imp <| by rintro D σ H ⟨δ,D',F,s0,rl,h,ok⟩;exact⟨δ,_,F,rl,h,λv F1 H1 s e p q=>ok.nx σ F1 H1 δ e.ff (rl.ext e) q⟩
theorem j5 (U:PassesOwn (model X.prog X.w) X.A X.env X.xe)(R:PT X c (liftT X.K t))(Q:jT X y (bI X.K H₀ L)):PS X (.While c y [] pos) (bI X.K H₀ (oH t L)):=
 (D1 U R Q).imp λD G H ⟨o,z,F,s0,E,⟨I,⟨n,h⟩,step⟩,ok⟩=>by
  refine⟨λm G H=>∃ o g,Same F g/\Rel X.K g H G o/\I m o,⟨n,o,F,Same.refl _,E,h⟩,?_⟩;rintro m G H ⟨o,g,x,E,h⟩;refine⟨o,_,g,E,step m o h,λJ M k e q=>?_⟩
  cases k with
  |true=>
   refine⟨λi v=>∃ o g j,j<m/\Same F g/\Rel X.K g v i o/\I j o,λi v ⟨g,p,j,B,C,O,P⟩=>⟨j,B,g,p,C,O,P⟩,?_⟩;refine⟨o,{nx:=λg=>∃ j,j<m/\I j g,rt:=z.rt,bk:=z.nx,ct:=λg=>∃ j,j<m/\I j g},J,(s0.trans x).trans e.ff,E.ext e,by simpa using q,⟨λi p v g ff C ⟨j,B,z⟩=>⟨g,p,j,B,(x.trans e.ff).trans ff,C,z⟩,ok.rt,λi p v g ff C z=>ok.nx i p v g ((x.trans e.ff).trans ff) C z,λi p v g ff C ⟨j,B,z⟩=>⟨g,p,j,B,(x.trans e.ff).trans ff,C,z⟩⟩⟩
  |false=>exact ok.nx G J M o (x.trans e.ff) (E.ext e) (by simpa using q)
end
def ka (K:Frg)(g:WG):TG:=λv h H Q=>∃ t e R F,aB K F t v/\Rel K F H h e/\g t e R/\∀ h e,Rel K F H h e->R e->Q h H
def rQ (K:Frg)(g:List T->a9->(a9->Prop)->Prop):ID:=λv i H Q=>∃ e h R F,au K F e v/\Rel K F H i h/\g e h R/\∀ h e,Rel K F H h e->R e->Q h H
section
variable {X:Cx}{pos:Pos}{H₀:Hp}
theorem aD (n:X.N.Nodup)(hi:X.N[i]?=some x:=by rfl)(g:Loc X.env.scope x:=by first|exact Or.inl rfl|exact Or.inr rfl)(e:X.fn x=true\/X.env.scope.names.lookup x=some .local:=by first|exact .inl rfl|exact .inr rfl|assumption):PG X (.Name x pos) (ka X.K (aH i)):=
 (GV n hi g e).imp <| by rintro v o H Q ⟨t,m,R,F,p,j,h,k⟩;exact k _ _ (j.put (s:=.t t) p (λ_ z=>by cases z)) h
theorem iI:zT X [] (rQ X.K hV):=GW.imp λv σ H Q ⟨ts,δ,R,F,p,rl,h,k⟩=>by
 unfold hV at h
 split at h
 .cases (show v=[] from p)
  exact⟨rfl,k σ δ rl h⟩
 .exact h.elim
theorem bb (q:PG X e (ka X.K g))(y:zT X es (rQ X.K m))
  (hs:(assignEach (e::es) X.env).map (·.2)=assign e X.env::(assignEach es X.env).map (·.2):=by rfl):zT X (e::es) (rQ X.K (bA g m)):=
 (DV q y hs).imp λv J H Q ⟨I,E,R,F,p,C,h,k⟩=>by
  unfold bA at h
  split at h
  .rename_i t r;obtain⟨x,D,n,z,B⟩:=p;exact⟨x,D,n,t,E,_,F,z,C,h,λG j i o=>⟨r,j,R,F,B,i,o,k⟩⟩
  .exact h.elim
theorem k5 (h:zT X es (rQ X.K g))(y:∀ ts e R,g ts e R->ts.length=n)(q:X.calm=true:=by rfl)
  (z:(assignEach es X.env).length=n:=by rfl) (i:(assignEach es X.env).findIdx? (·.1)=none:=by rfl):PG X (.Tuple es k pos) (ka X.K (jt g)):=
 (K6 q h z i).imp λv C H Q ⟨t,e,R,F,p,m,h,k⟩=>by
  unfold jt at h
  split at h
  .rename_i ts;obtain⟨a,x,o,B,j⟩:=p;exact⟨a,x,o,Same.sqT m.sub a x B,by rw[j.length];exact y ts e R h,ts,e,R,F,j,m,h,k⟩
  .exact h.elim
theorem iL:∀ ts e R,hV ts e R->ts.length=0:=λts e R h=>by
 unfold hV at h
 split at h
 .rfl
 .exact h.elim
theorem bc (j:∀ ts e R,g ts e R->ts.length=n):∀ ts e R,bA (aH i) g ts e R->ts.length=n+1:=λts e R h=>by
 unfold bA at h
 split at h
 .rw[length_cons,j _ _ _ h]
 .exact h.elim
theorem nq (he:PE X e (av X.K C))(G:PG X m (ka X.K g))(hs:swapsWithSole [m] e pos.line X.env=pure false:=by rfl)(I:swappedStores [m] e X.env=pure none:=by rfl)
  (E:(assignEach [m] X.env).map (·.2)=[assign m X.env]:=by rfl):PS X (.Assign [m] e pos) (bI X.K H₀ (uU C g)):=
 (DZ he G hs I E).imp <| by rintro D i H ⟨y,i,F,s0,x,h,ok⟩;exact⟨y,_,F,x,h,λv z n s e p q=>by
  cases s with
  |t t=>exact⟨t,y,_,z,p,x.ext e,q,λk j i o=>ok.nx k z n j e.ff i o⟩
  |vt t=>exact⟨t,freeze y,_,n,p,(x.ext e).freeze,q,λk j i o=>ok.nx k n n j (e.ff.trans e.sub) i o⟩
  |ol J=>
   obtain⟨z,B⟩:=x.thaw e p;refine⟨.lst J,y,_,_,?_,z,q,λk j i o=>ok.nx k _ n j B.1 i o⟩;unfold aB;exact B.2⟩
theorem AG {n m g}(L:X.N.Nodup)(M:PA X [a,b] (dE X.K C))(hi:X.N[i]?=some x:=by rfl)(P:X.N[j]?=some y:=by rfl)(k:i≠j:=by decide)
  (R:X.env.scope.names.lookup x=some .local:=by rfl) (U:X.env.scope.names.lookup y=some .local:=by rfl)
  (Q:swappedStores [.Tuple [.Name x o,.Name y v] n pt] (.Tuple [a,b] m g) X.env=pure (some [x,y]):=by rfl) (O:X.calm=true:=by rfl)
  (hs:swapsWithSole [.Tuple [.Name x o,.Name y v] n pt] (.Tuple [a,b] m g) pos.line X.env=pure false:=by rfl) :
  PS X (.Assign [.Tuple [.Name x o,.Name y v] n pt] (.Tuple [a,b] m g) pos) (bI X.K H₀ (HF i j C)):=
 (Lb O L hi P k R U M Q hs).imp <| by rintro D σ H ⟨δ,D',F,s0,B,h,ok⟩;exact⟨δ,_,F,B,h,λvs E G ss e p q=>by
  split at q
  .rename_i t u;obtain⟨v1,r1,I,Y,v2,r2,J,Z,p3⟩:=p
   cases (show r2=[] from p3)
   exact⟨v1,v2,by rw[I,J],ok.nx _ E G _ e.ff (((B.ext e).put (i:=i) (s:=.t t) Y (λ_ z=>by cases z)).put (i:=j) (s:=.t u) Z (λ_ z=>by cases z)) q⟩
  .exact q.elim⟩
end
def EN (K:Frg)(F:Hp)(J:It)(ts:List T):Prop:=
 ∀ e h i,Same F e->Same e h->fR e h->(∀ t,ts[i]?=some t->J.go i h/\∀ x j,J.yld i h x j->∃ g,di e h g j/\aB K g t x)/\(ts.length<=i->J.stop i h)
def nO (K:Frg)(w:WI):TI:=λk H R=>∃ e W F,Rel K F H k e/\w e W/\∀ J i g h j e,di F H i h->Same i g->Rel K g h k e->EN K g J j->W j e->R J h
theorem tS {α:Type}{l:List α}{i:Nat}{x:α}{r:List α}(h:l.drop i=x::r):l[i]?=some x/\l.drop (i+1)=r:=by
 constructor
 .rw[<-List.head?_drop,h];rfl
 .rw[<-List.tail_drop,h];rfl
section
variable {X:Cx}{pos:Pos}{H₀:Hp}{tg:Expr}
theorem dQ {p:Expr}{B:List Stmt}{Y:WI}{g:WG}{U:WS}(hp:PassesOwn (model X.prog X.w) X.A X.env X.xe)(hi:PI X tg p (nO X.K Y))(hg:PG X tg (ka X.K g))(hb:jT X B (bI X.K H₀ U))(hc:X.calm=true:=by rfl)
  (hs:∀ x,foldedSetIterable p X.env x=pure x:=by intro _;rfl):PS X (.For tg p B [] pos) (bI X.K H₀ (jS Y g U)):=
 (La hp hc hi hg hb hs).imp <| by rintro D z H ⟨k,e,F,s0,O,h,ok⟩;exact⟨k,_,F,O,h,λJ e L e n E j e C I q=>by
  have Q:Same F L:=j.ff.trans e;obtain⟨W,e,j,G⟩:=q;refine⟨λi m z H=>m=n.length-i/\i<=n.length/\∃ k o,Same L o/\Rel X.K o H z k/\W (n.drop i) k,⟨n.length,by simp,zero_le _,E,L,Same.refl _,C,by simpa using e⟩,?_⟩
  rintro i m z H ⟨rfl,hi,k,o,M,O,h⟩;obtain⟨C,e⟩:=I o H i M O.sub O.full
  cases hd:n.drop i with
  |nil=>
   rw[hd]at h;have:n.length<=i:=by simpa using hd
   exact .inl ⟨e this,ok.nx z o H k (Q.trans M) O (j k h)⟩
  |cons x r=>
   rw[hd]at h;obtain⟨e,Z⟩:=tS hd;obtain⟨go,yld⟩:=C x e;have R:i<n.length:=by
    have:=congrArg List.length hd;simp at this;omega
   have E:∀ j I C e,Same L I->Rel X.K I C j e->W r e->∃ z,z<n.length-i/\(z=n.length-(i+1)/\i+1<=n.length/\∃ k o,Same L o/\Rel X.K o C j k/\W (n.drop (i+1)) k):=
    λj I C e ff z P=>⟨n.length-(i+1),by omega,rfl,R,e,I,ff,z,by rw[Z];exact P⟩
   refine .inr ⟨go,λj C=>∃ k o,Same L o/\Rel X.K o C j k/\W r k,by rintro j C ⟨e,I,ff,z,P⟩;exact E j I C e ff z P,λv o y=>?_⟩
   obtain⟨n,C,E⟩:=yld v o y;refine⟨x,k,_,n,E,O.ext C,G x r k h,λj e z P=>?_⟩;exact⟨e,_,n,((s0.trans Q).trans M).trans C.ff,z,P,⟨λo k z j ff e n=>⟨j,k,(M.trans C.ff).trans ff,e,n⟩,ok.rt,λo k z j ff e n=>ok.nx o k z j (((Q.trans M).trans C.ff).trans ff) e n,λo k z j ff e n=>⟨j,k,(M.trans C.ff).trans ff,e,n⟩⟩⟩⟩
def pT (g:a9)(W:List T->a9->Prop):S->Prop
 | .t (.lst e)=>W e g
 | .vt (.lst e)=>W e (freeze g)
 | .ol e=>W e g
 |_=>False
def cj (g:WE):WI:=λe W=>g e λs=>pT e W s
theorem rL (h:cV K F a xs)(r:au K F ts xs):EN K F (OA K a) ts:=by
 intro m g i j sb n;have q:cV K g a xs:=sb.seq (j.seq h);refine⟨λt p=>?_,λg=>⟨xs,q,by rw[r.length];exact g⟩⟩
 obtain⟨x,k,o⟩:=r.get p;refine⟨⟨xs,x,q,k⟩,λy g g=>?_⟩;obtain⟨e,g⟩:=g;subst e;have:=g xs q;rw[k]at this
 cases this
 exact⟨m,di.refl sb n,aB.same j o⟩
end
mutual
def eqT:T->T->Bool
 | .non,.non=>true
 | .bl a,.bl b=>a == b
 | .bl a,.int b=>(if a then 1 else 0) == b
 | .int a,.bl b=>a == (if b then 1 else 0)
 | .int a,.int b=>a == b
 | .str a,.str b=>a == b
 | .tup a,.tup b=>cE a b
 | .lst a,.lst b=>cE a b
 |_,_=>false
def cE:List T->List T->Bool
 | [],[]=>true
 |a::r,b::s=>eqT a b && cE r s
 |_,_=>false
end
mutual
def dep:T->Nat
 | .tup e=>fX e+1
 | .lst e=>fX e+1
 | .exc _=>1000
 |_=>0
def fX:List T->Nat
 | []=>0
 |t::r=>max (dep t) (fX r)
end
mutual
theorem nw:∀ t:T,dep t<1000->eqT t t=true
 | .non,_=>rfl
 | .bl b,_=>by simp[eqT]
 | .int i,_=>by simp[eqT]
 | .str x,_=>by simp[eqT]
 | .tup ts,h=>by simp only[eqT];exact k8 ts (by simp only[dep]at h;ext)
 | .lst ts,h=>by simp only[eqT];exact k8 ts (by simp only[dep]at h;ext)
 | .exc _,h=>by simp[dep]at h
theorem k8:∀ ts:List T,fX ts<1000->cE ts ts=true
 | [],_=>by simp[cE]
 |t::r,h=>by
  simp only[fX]at h;simp only[cE,nw t ⋯,k8 r ⋯];rfl
end
section
variable {X:Cx}{pins:List (Addr × Obj)}{σ:St}{H:Hp}{s:Shared}
theorem uc (I:aI X pins σ H s)(h:je X.K H a xs)(g:cV X.K H a ys):False:=by
 obtain⟨i,_,p,_⟩:=I.tuple h;obtain⟨i,_,e,_⟩:=I.list g;exact SeqAt.ne_of_list_tuple e.isList p rfl
mutual
theorem aB.inj (I:aI X pins σ H s):∀ (t u:T) (v:V),dep t<1000->dep u<1000->aB X.K H t v->aB X.K H u v->t=u
 | .non,u,v,_,_,h,g=>by cases (show v=_ from h);cases u with
  |non=>rfl
  |tup i=>unfold aB at g;obtain⟨_,_,e,_⟩:=g;cases e
  |lst i=>unfold aB at g;obtain⟨_,_,e,_⟩:=g;cases e
  |exc c=>unfold aB at g;obtain⟨_,_,e,_⟩:=g;cases e
  |_=>cases g
 | .bl b,u,v,_,_,h,g=>by cases (show v=_ from h);cases u with
  |bl c=>cases g;rfl
  |tup i=>unfold aB at g;obtain⟨_,_,e,_⟩:=g;cases e
  |lst i=>unfold aB at g;obtain⟨_,_,e,_⟩:=g;cases e
  |exc c=>unfold aB at g;obtain⟨_,_,e,_⟩:=g;cases e
  |_=>cases g
 | .int b,u,v,_,_,h,g=>by cases (show v=_ from h);cases u with
  |int c=>cases g;rfl
  |tup i=>unfold aB at g;obtain⟨_,_,e,_⟩:=g;cases e
  |lst i=>unfold aB at g;obtain⟨_,_,e,_⟩:=g;cases e
  |exc c=>unfold aB at g;obtain⟨_,_,e,_⟩:=g;cases e
  |_=>cases g
 | .str b,u,v,_,_,h,g=>by cases (show v=_ from h);cases u with
  |str c=>cases g;rfl
  |tup i=>unfold aB at g;obtain⟨_,_,e,_⟩:=g;cases e
  |lst i=>unfold aB at g;obtain⟨_,_,e,_⟩:=g;cases e
  |exc c=>unfold aB at g;obtain⟨_,_,e,_⟩:=g;cases e
  |_=>cases g
 | .tup i,u,v,d1,d2,h,g=>by
  unfold aB at h;obtain⟨a,x,e,m,o⟩:=h;subst e
  cases u with
  |tup n=>
   unfold aB at g;obtain⟨b,y,e,j,k⟩:=g
   cases e
   have:=I.tuple_inj m j;subst this;rw[au.inj I i n x (by simp only[dep]at d1;ext) (by simp only[dep]at d2;ext) o k]
  |lst n=>
   unfold aB at g;obtain⟨b,y,e,j,k⟩:=g
   cases e
   exact(uc I m j).elim
  |exc c=>simp[dep]at d2
  |_=>cases g
 | .lst i,u,v,d1,d2,h,g=>by
  unfold aB at h;obtain⟨a,x,e,m,o⟩:=h;subst e
  cases u with
  |lst n=>
   unfold aB at g;obtain⟨b,y,e,j,k⟩:=g
   cases e
   have:=I.list_inj m j;subst this;rw[au.inj I i n x (by simp only[dep]at d1;ext) (by simp only[dep]at d2;ext) o k]
  |tup n=>
   unfold aB at g;obtain⟨b,y,e,j,k⟩:=g
   cases e
   exact(uc I j m).elim
  |exc c=>simp[dep]at d2
  |_=>cases g
 | .exc _,_,_,d1,_,_,_=>by simp[dep]at d1
theorem au.inj (I:aI X pins σ H s):∀ (ts us:List T) (xs:List V),fX ts<1000->fX us<1000->au X.K H ts xs->au X.K H us xs->ts=us
 | [],us,xs,_,_,h,g=>by
  cases (show xs=[] from h)
  cases us with
  |nil=>rfl
  |cons u us=>obtain⟨_,_,e,_⟩:=g;cases e
 |t::ts,us,xs,d1,d2,⟨x,r,e,h1,h2⟩,g=>by
  subst e
  cases us with
  |nil=>cases (show _=[] from g)
  |cons u us=>
   obtain⟨y,r',e,g1,g2⟩:=g
   cases e
   simp only[fX]at d1 d2;rw[aB.inj I t u x ⋯ ⋯ h1 g1,au.inj I ts us r ⋯ ⋯ h2 g2]
end
def l8 (ts us:List T)(j:Nat):Bool:=match ts[j]?,us[j]? with
 |some a,some b=>eqT a b
 |_,_=>true
theorem n9 (n:Nat)(e:Nat->Bool):(List.range (n+1)).all e=(e 0 && (List.range n).all λj=>e (j+1)):=by
 rw[range_succ_eq_map,List.all_cons,List.all_map];rfl
theorem ny:∀ (ts us:List T),((List.range (min ts.length us.length)).all (l8 ts us) && ts.length == us.length)=cE ts us
 | [],[]=>by simp[cE]
 | [],u::us=>by simp[cE]
 |t::ts,[]=>by simp[cE]
 |t::ts,u::us=>by
  have i:=ny ts us;have e:min (t::ts).length (u::us).length=min ts.length us.length+1:=by simp only[length_cons];ext
  rw[e,n9];have e:l8 (t::ts) (u::us) 0=eqT t u:=by simp[l8]
  have g:(λj=>l8 (t::ts) (u::us) (j+1))=l8 ts us:=by funext j;simp[l8]
  have h:((t::ts).length == (u::us).length)=(ts.length == us.length):=by simp
  rw[e,g,h];simp only[cE];rw[<-i,Bool.and_assoc]
theorem units_in1 (A:Around):A.in1.units=A.units+1:=rfl
theorem tR:∀ {ts:List T}{j:Nat}{t:T},ts[j]?=some t->dep t<=fX ts
 | [],_,_,h=>by simp at h
 |t::ts,0,u,h=>by simp at h;subst h;simp only[fX];ext
 |t::ts,j+1,u,h=>by
  have:=tR (ts:=ts) (j:=j) (t:=u) (by simpa using h)
  simp only[fX];ext
theorem sf (h:au X.K H ts xs)(k:au X.K H us ys)(n:aP xs its)(o:aP ys i)
  (C:∀ t u z B p v,t∈ts->u∈us->aB X.K H t z->aB X.K H u B->RelV z p->RelV B v->SeqAt.EqAt A s p v (eqT t u)) :
  ∀ j (h:j<its.toArray.size) (k:j<i.toArray.size),SeqAt.EqAt A s its.toArray[j] i.toArray[j] (l8 ts us j):=by
 intro j q m;have e:=h.length;have e:=k.length;have e:=n.length;have l4:=o.length;rw[size_toArray]at q m;have g:j<ts.length:=⋯
 have e:j<us.length:=⋯
 obtain⟨x,v,B⟩:=h.get (getElem?_eq_getElem g);obtain⟨y,z,D⟩:=k.get (getElem?_eq_getElem e);obtain⟨p,E,F⟩:=n.get v;obtain⟨v,G,I⟩:=o.get z;have z:its.toArray[j]=p:=by
  have:=getElem?_eq_getElem q;rw[E]at this;simpa using (Option.some.inj this).symm
 have q:i.toArray[j]=v:=by
  have:=getElem?_eq_getElem m;rw[G]at this;simpa using (Option.some.inj this).symm
 have m:l8 ts us j=eqT ts[j] us[j]:=by
  unfold l8;rw[getElem?_eq_getElem g,getElem?_eq_getElem e]
 rw[z,q,m];exact C _ _ x y p v (getElem_mem g) (getElem_mem e) B D F I
theorem gB (h:t∈ts):dep t<=fX ts:=by
 obtain⟨j,e,rfl⟩:=List.mem_iff_getElem.mp h;exact tR (getElem?_eq_getElem e)
theorem vy (h:ts.length=us.length):(List.range ts.length).all (l8 ts us)=cE ts us:=by
 have:=ny ts us;rw[<-h]at this;simpa using this
theorem tU:∀ {ts us:List T},ts.length≠us.length->cE ts us=false
 | [],[],h=>absurd rfl h
 | [],_::_,_=>by simp[cE]
 |_::_,[],_=>by simp[cE]
 |t::ts,u::us,h=>by
  simp only[cE];rw[tU (ts:=ts) (us:=us) (by simpa using h),Bool.and_false]
theorem NY (j:au X.K H ts xs)(g:au X.K H us ys)(q:aP xs its)(k:aP ys i)(pl:PyProof.Rows.IsTup s.heap a its.toArray)(p:PyProof.Rows.IsTup s.heap b i.toArray)(h:A.units<cLine)
  (o:∀ t u y z v x,t∈ts->u∈us->aB X.K H t y->aB X.K H u z->RelV y v->RelV z x->SeqAt.EqAt A.in1 s v x (eqT t u)) :
  SeqAt.RcAt A s (.ref a) (.ref b) (cE ts us)/\SeqAt.RcNeAt A s (.ref a) (.ref b) (!cE ts us):=by
 have m:=SeqAt.RcAt.tuples (A:=A) (e:=l8 ts us) pl p h (sf j g q k o);have n:=SeqAt.RcNeAt.tuples (A:=A) (e:=l8 ts us) pl p h (sf j g q k o);rw[size_toArray,size_toArray,<-q.length,<-k.length,j.length,g.length,ny]at m n;exact⟨m,n⟩
theorem NW (o:au X.K H ts xs)(g:au X.K H us ys)(q:aP xs its)(v:aP ys i)(pl:PlainL s.heap a its.toArray)(p:PlainL s.heap b i.toArray)(h:A.units<cLine)
  (C:∀ t u z B x y,t∈ts->u∈us->aB X.K H t z->aB X.K H u B->RelV z x->RelV B y->SeqAt.EqAt A.in1 s x y (eqT t u)) :
  SeqAt.RcAt A s (.ref a) (.ref b) (cE ts us)/\SeqAt.RcNeAt A s (.ref a) (.ref b) (!cE ts us):=by
 have j:its.toArray.size=ts.length:=by rw[size_toArray,<-q.length,o.length]
 have k:i.toArray.size=us.length:=by rw[size_toArray,<-v.length,g.length]
 by_cases e:ts.length=us.length
 .have n:=sf (A:=A.in1) o g q v C;have m:=SeqAt.RcAt.lists pl.isList p.isList (by rw[j,k,e]) h n
  have g:=SeqAt.RcNeAt.lists pl.isList p.isList (by rw[j,k,e]) h n
  rw[j,vy e]at m g;exact⟨m,g⟩
 .have ne:(its.toArray.size != i.toArray.size)=true:=by rw[j,k];simpa using e
  rw[tU e];exact⟨SeqAt.RcAt.lists_lengths pl.isList p.isList ne h,SeqAt.RcNeAt.lists_lengths pl.isList p.isList ne h⟩
theorem oe (I:aI X pins σ H s):∀ (n:Nat) (A:Around) (t u:T) (z B:V) (v x:Value),dep t<=n->dep u<1000->n<1000->A.units+n<cLine->aB X.K H t z->aB X.K H u B->RelV z v->RelV B x →
  SeqAt.RcAt A s v x (eqT t u)/\SeqAt.RcNeAt A s v x (!eqT t u)/\SeqAt.EqAt A s v x (eqT t u):=by
 intro n
 induction n with
 |zero=>
  intro A t u z B v x hd j p D C g E i;have h:A.units<cLine:=⋯
  cases t with
  |tup G=>simp only[dep]at hd;ext
  |lst G=>simp only[dep]at hd;ext
  |exc c=>simp[dep]at hd
  |non=>
   cases C;cases E
   cases u with
   |non=>cases g;cases i;exact⟨SeqAt.RcAt.none_none,SeqAt.RcNeAt.none_none,SeqAt.EqAt.same _⟩
   |bl b=>cases g;cases i;exact⟨SeqAt.RcAt.none_bool b,SeqAt.RcNeAt.none_bool b,SeqAt.EqAt.none_bool b⟩
   |int b=>cases g;obtain⟨k,rfl⟩:=i;exact⟨SeqAt.RcAt.none_int b k,SeqAt.RcNeAt.none_int b k,SeqAt.EqAt.none_int b k⟩
   |str b=>cases g;obtain⟨k,rfl⟩:=i;exact⟨SeqAt.RcAt.none_str b k,SeqAt.RcNeAt.none_str b k,SeqAt.EqAt.none_str b k⟩
   |tup q=>
    unfold aB at g;obtain⟨a,F,rfl,m,y⟩:=g
    cases i
    obtain⟨o,_,pl,_⟩:=I.tuple m;exact⟨SeqAt.RcAt.none_tuple pl h,SeqAt.RcNeAt.none_tuple pl h,SeqAt.EqAt.none_tuple pl h⟩
   |lst q=>
    unfold aB at g;obtain⟨a,F,rfl,m,y⟩:=g
    cases i
    obtain⟨o,_,pl,_⟩:=I.list m;exact⟨SeqAt.RcAt.none_list pl.isList h,SeqAt.RcNeAt.none_list pl.isList h,SeqAt.EqAt.none_list pl.isList h⟩
   |exc c=>simp[dep]at j
  |bl c=>
   cases C;cases E
   cases u with
   |non=>cases g;cases i;exact⟨SeqAt.RcAt.bool_none c,SeqAt.RcNeAt.bool_none c,SeqAt.EqAt.bool_none c⟩
   |bl b=>cases g;cases i;exact⟨SeqAt.RcAt.bool_bool c b,SeqAt.RcNeAt.bool_bool c b,SeqAt.EqAt.bool_bool c b⟩
   |int b=>cases g;obtain⟨k,rfl⟩:=i;exact⟨SeqAt.RcAt.bool_int c b k,SeqAt.RcNeAt.bool_int c b k,SeqAt.EqAt.bool_int c b k⟩
   |str b=>cases g;obtain⟨k,rfl⟩:=i;exact⟨SeqAt.RcAt.bool_str c b k,SeqAt.RcNeAt.bool_str c b k,SeqAt.EqAt.bool_str c b k⟩
   |tup q=>
    unfold aB at g;obtain⟨a,F,rfl,m,y⟩:=g
    cases i
    obtain⟨o,_,pl,_⟩:=I.tuple m;exact⟨SeqAt.RcAt.bool_tuple c pl h,SeqAt.RcNeAt.bool_tuple c pl h,SeqAt.EqAt.bool_tuple c pl h⟩
   |lst q=>
    unfold aB at g;obtain⟨a,F,rfl,m,y⟩:=g
    cases i
    obtain⟨o,_,pl,_⟩:=I.list m;exact⟨SeqAt.RcAt.bool_list c pl.isList h,SeqAt.RcNeAt.bool_list c pl.isList h,SeqAt.EqAt.bool_list c pl.isList h⟩
   |exc c=>simp[dep]at j
  |int c=>
   cases C;obtain⟨e,rfl⟩:=E
   cases u with
   |non=>cases g;cases i;exact⟨SeqAt.RcAt.int_none c e,SeqAt.RcNeAt.int_none c e,SeqAt.EqAt.int_none c e⟩
   |bl b=>cases g;cases i;exact⟨SeqAt.RcAt.int_bool c e b,SeqAt.RcNeAt.int_bool c e b,SeqAt.EqAt.int_bool c e b⟩
   |int b=>cases g;obtain⟨k,rfl⟩:=i;exact⟨SeqAt.RcAt.int_int c e b k,SeqAt.RcNeAt.int_int c e b k,SeqAt.EqAt.int_int c e b k⟩
   |str b=>cases g;obtain⟨k,rfl⟩:=i;exact⟨SeqAt.RcAt.int_str c e b k,SeqAt.RcNeAt.int_str c e b k,SeqAt.EqAt.int_str c e b k⟩
   |tup q=>
    unfold aB at g;obtain⟨a,F,rfl,m,y⟩:=g
    cases i
    obtain⟨o,_,pl,_⟩:=I.tuple m;exact⟨SeqAt.RcAt.int_tuple c e pl h,SeqAt.RcNeAt.int_tuple c e pl h,SeqAt.EqAt.int_tuple c e pl h⟩
   |lst q=>
    unfold aB at g;obtain⟨a,F,rfl,m,y⟩:=g
    cases i
    obtain⟨o,_,pl,_⟩:=I.list m;exact⟨SeqAt.RcAt.int_list c e pl.isList h,SeqAt.RcNeAt.int_list c e pl.isList h,SeqAt.EqAt.int_list c e pl.isList h⟩
   |exc c=>simp[dep]at j
  |str c=>
   cases C;obtain⟨e,rfl⟩:=E
   cases u with
   |non=>cases g;cases i;exact⟨SeqAt.RcAt.str_none c e,SeqAt.RcNeAt.str_none c e,SeqAt.EqAt.str_none c e⟩
   |bl b=>cases g;cases i;exact⟨SeqAt.RcAt.str_bool c e b,SeqAt.RcNeAt.str_bool c e b,SeqAt.EqAt.str_bool c e b⟩
   |int b=>cases g;obtain⟨k,rfl⟩:=i;exact⟨SeqAt.RcAt.str_int c e b k,SeqAt.RcNeAt.str_int c e b k,SeqAt.EqAt.str_int c e b k⟩
   |str b=>cases g;obtain⟨k,rfl⟩:=i;exact⟨SeqAt.RcAt.str_str c e b k,SeqAt.RcNeAt.str_str c e b k,SeqAt.EqAt.str_str c e b k⟩
   |tup q=>
    unfold aB at g;obtain⟨a,F,rfl,m,y⟩:=g
    cases i
    obtain⟨o,_,pl,_⟩:=I.tuple m;exact⟨SeqAt.RcAt.str_tuple c e pl h,SeqAt.RcNeAt.str_tuple c e pl h,SeqAt.EqAt.str_tuple c e pl h⟩
   |lst q=>
    unfold aB at g;obtain⟨a,F,rfl,m,y⟩:=g
    cases i
    obtain⟨o,_,pl,_⟩:=I.list m;exact⟨SeqAt.RcAt.str_list c e pl.isList h,SeqAt.RcNeAt.str_list c e pl.isList h,SeqAt.EqAt.str_list c e pl.isList h⟩
   |exc c=>simp[dep]at j
 |succ n J=>
  intro A t u z B v x hd j p D C g E i;have h:A.units<cLine:=⋯
  have J:=λA t u z B v x a b=>J A t u z B v x a b ⋯
  cases t with
  |tup G=>
   unfold aB at C;obtain⟨a,F,rfl,O,P⟩:=C
   cases E
   obtain⟨o,q1,pl,_⟩:=I.tuple O
   cases u with
   |tup q=>
    unfold aB at g;obtain⟨b,ys,rfl,m,y⟩:=g
    cases i
    obtain⟨D,Q,p,_⟩:=I.tuple m;simp only[dep]at hd j;have M:SeqAt.RcAt A s (.ref a) (.ref b) (cE G q)/\SeqAt.RcNeAt A s (.ref a) (.ref b) (!cE G q):=
     NY P y q1 Q pl p h λt u z B v x R L k1 U Y Z=>
      (J A.in1 t u z B v x (by have:=gB R;ext) (by have:=gB L;ext) (by rw[units_in1];ext) k1 U Y Z).2.2
    refine⟨by simpa only [eqT] using M.1,by simpa only [eqT] using M.2,?_⟩
    by_cases e:a=b
    .subst e;have:=I.tuple_inj O m;subst this;have:=au.inj I G q F ⋯ ⋯ P y
     subst this;rw[nw _ (by simp only[dep];ext)]
     exact SeqAt.EqAt.same _
    .simp only[eqT];exact SeqAt.EqAt.of_refs e M.1
   |lst q=>
    unfold aB at g;obtain⟨b,ys,rfl,m,y⟩:=g
    cases i
    obtain⟨D,Q,p,_⟩:=I.list m;exact⟨SeqAt.RcAt.tuple_list pl p.isList h,SeqAt.RcNeAt.tuple_list pl p.isList h,SeqAt.EqAt.tuple_list pl p.isList h⟩
   |non=>cases g;cases i;exact⟨SeqAt.RcAt.tuple_none pl h,SeqAt.RcNeAt.tuple_none pl h,SeqAt.EqAt.tuple_none pl h⟩
   |bl b=>cases g;cases i;exact⟨SeqAt.RcAt.tuple_bool b pl h,SeqAt.RcNeAt.tuple_bool b pl h,SeqAt.EqAt.tuple_bool b pl h⟩
   |int b=>cases g;obtain⟨k,rfl⟩:=i;exact⟨SeqAt.RcAt.tuple_int b k pl h,SeqAt.RcNeAt.tuple_int b k pl h,SeqAt.EqAt.tuple_int b k pl h⟩
   |str b=>cases g;obtain⟨k,rfl⟩:=i;exact⟨SeqAt.RcAt.tuple_str b k pl h,SeqAt.RcNeAt.tuple_str b k pl h,SeqAt.EqAt.tuple_str b k pl h⟩
   |exc c=>simp[dep]at j
  |lst G=>
   unfold aB at C;obtain⟨a,F,rfl,O,P⟩:=C
   cases E
   obtain⟨o,q1,pl,_⟩:=I.list O
   cases u with
   |lst q=>
    unfold aB at g;obtain⟨b,ys,rfl,m,y⟩:=g
    cases i
    obtain⟨D,Q,p,_⟩:=I.list m;simp only[dep]at hd j;have M:SeqAt.RcAt A s (.ref a) (.ref b) (cE G q)/\SeqAt.RcNeAt A s (.ref a) (.ref b) (!cE G q):=
     NW P y q1 Q pl p h λt u z B v x R L k1 U Y Z=>
      (J A.in1 t u z B v x (by have:=gB R;ext) (by have:=gB L;ext) (by rw[units_in1];ext) k1 U Y Z).2.2
    refine⟨by simpa only [eqT] using M.1,by simpa only [eqT] using M.2,?_⟩
    by_cases e:a=b
    .subst e;have:=I.list_inj O m;subst this;have:=au.inj I G q F ⋯ ⋯ P y
     subst this;rw[nw _ (by simp only[dep];ext)]
     exact SeqAt.EqAt.same _
    .simp only[eqT];exact SeqAt.EqAt.of_refs e M.1
   |tup q=>
    unfold aB at g;obtain⟨b,ys,rfl,m,y⟩:=g
    cases i
    obtain⟨D,Q,p,_⟩:=I.tuple m;exact⟨SeqAt.RcAt.list_tuple pl.isList p h,SeqAt.RcNeAt.list_tuple pl.isList p h,SeqAt.EqAt.list_tuple pl.isList p h⟩
   |non=>cases g;cases i;exact⟨SeqAt.RcAt.list_none pl.isList h,SeqAt.RcNeAt.list_none pl.isList h,SeqAt.EqAt.list_none pl.isList h⟩
   |bl b=>cases g;cases i;exact⟨SeqAt.RcAt.list_bool b pl.isList h,SeqAt.RcNeAt.list_bool b pl.isList h,SeqAt.EqAt.list_bool b pl.isList h⟩
   |int b=>cases g;obtain⟨k,rfl⟩:=i;exact⟨SeqAt.RcAt.list_int b k pl.isList h,SeqAt.RcNeAt.list_int b k pl.isList h,SeqAt.EqAt.list_int b k pl.isList h⟩
   |str b=>cases g;obtain⟨k,rfl⟩:=i;exact⟨SeqAt.RcAt.list_str b k pl.isList h,SeqAt.RcNeAt.list_str b k pl.isList h,SeqAt.EqAt.list_str b k pl.isList h⟩
   |exc c=>simp[dep]at j
  |exc c=>simp only[dep]at hd;ext
  |non=>exact J A _ u z B v x (by simp only[dep];ext) j ⋯ C g E i
  |bl c=>exact J A _ u z B v x (by simp only[dep];ext) j ⋯ C g E i
  |int c=>exact J A _ u z B v x (by simp only[dep];ext) j ⋯ C g E i
  |str c=>exact J A _ u z B v x (by simp only[dep];ext) j ⋯ C g E i
end
end DL
namespace DL
open PySem L2
def sh (s:S):Prop:=dep (tr s)<=20
def Oq (a b:S):Bool:=eqT (tr a) (tr b)
def dM:S->S->(S->Prop)->Prop:=λa b R=>sh a/\sh b/\R (.t (.bl (Oq a b)))
def dN:S->S->(S->Prop)->Prop:=λa b R=>sh a/\sh b/\R (.t (.bl (!Oq a b)))
abbrev qt:=ao dM
abbrev Mb:=ao dN
def Hi (K:Frg)(neg:Bool):R2:=λx y H Q=>∃ a b,dep a<=20/\dep b<=20/\aB K H a x/\aB K H b y/\Q (.bl (if neg then !eqT a b else eqT a b)) H
def FY (x:T)(ts:List T):Bool:=ts.any λt=>eqT t x
def nD:S->S->(S->Prop)->Prop:=λa b R=>match tr b with
 | .lst e=>sh a/\fX e<=20/\R (.t (.bl (!FY (tr a) e)))
 | .tup e=>sh a/\fX e<=20/\R (.t (.bl (!FY (tr a) e)))
 |_=>False
abbrev EF:=ao nD
def NQ (K:Frg)(neg:Bool):R2:=λx y H Q=>∃ a p g e,dep a<=20/\fX e<=20/\aB K H a x/\y=.ref p/\(cV K H p g\/je K H p g)/\au K H e g/\Q (.bl (if neg then !FY a e else FY a e)) H
def HZ:T->Bool
 | .non=>true
 |_=>false
def ED (e:WE):WE:=λg R=>e g λs=>R (.t (.bl (HZ (tr s))))
def qu (e:WE):WE:=λg R=>e g λs=>R (.t (.bl (!HZ (tr s))))
section
variable {X:Cx}
theorem DP (k:X.A.units+64<cLine):kQ X (compareOp .Eq) (Hi X.K false):=by
 intro p s e H x y v u Q I i j h;obtain⟨a,b,e,g,p,g,q⟩:=h;exact(oe I 20 X.A a b x y v u e ⋯ ⋯ ⋯ p g i j).1 X.prog X.w X.xe _ ⟨.bl _,H,I,rfl,q⟩
theorem KP (k:X.A.units+64<cLine):kQ X (compareOp .NotEq) (Hi X.K true):=by
 intro p s e H x y v u Q I i j h;obtain⟨a,b,e,g,p,g,q⟩:=h;exact(oe I 20 X.A a b x y v u e ⋯ ⋯ ⋯ p g i j).2.1 X.prog X.w X.xe _ ⟨.bl _,H,I,rfl,q⟩
theorem DO:EQ K (Hi K false) dM:=λF H i j v v R Q sb e p g h k=>⟨tr i,tr j,h.1,h.2.1,p.tree sb,g.tree sb,k _ F H (.t (.bl _)) (di.refl sb e) rfl h.2.2⟩
theorem KM:EQ K (Hi K true) dN:=λF H i j v v R Q sb e p g h k=>⟨tr i,tr j,h.1,h.2.1,p.tree sb,g.tree sb,k _ F H (.t (.bl _)) (di.refl sb e) rfl h.2.2⟩
noncomputable def FO (X:Cx) (H:Hp) (a:T) (ts:List T) (u:Value):Bool:=open Classical in decide (∃ t v,t∈ts/\aB X.K H t v/\RelV v u/\eqT t a=true)
theorem D8 (h:RelV v u)(g:RelV w u):v=w:=RelV.inj h g
theorem AL (I:aI X pins σ H s)(hd:fX ts<1000)(j:t∈ts)(h:aB X.K H t v)(r:RelV v u):FO X H a ts u=eqT t a:=by
 unfold FO
 cases e:eqT t a with
 |true=>exact @decide_eq_true _ (Classical.propDecidable _) ⟨t,v,j,h,r,e⟩
 |false=>
  refine @decide_eq_false _ (Classical.propDecidable _) ?_;rintro⟨n,g,g,k,m,i⟩;have:=D8 r m;subst this;have m:=gB j;have m:=gB g;have:=aB.inj I t n v ⋯ ⋯ h k
  subst this;rw[e]at i;cases i
theorem xj (I:aI X pins σ H s)(hd:fX us<1000):∀ {ts:List T}{xs:List V}{its:List Value},(∀ t∈ts,t∈us)->au X.K H ts xs->aP xs its->its.any (FO X H a us)=ts.any λt=>eqT t a
 | [],_,_,_,h,r=>by cases (show _=[] from h);cases r;rfl
 |t::ts,_,_,m,⟨x,r,e,p,q⟩,v=>by
  subst e
  cases v with
  |cons g i=>
   rw[List.any_cons,List.any_cons,AL I hd (m t mem_cons_self) p g,xj I hd (λz hz=>m z (mem_cons_of_mem _ hz)) q i]
theorem ul:∀ {ts:List T}{xs:List V}{its:List Value}{u:Value},au K H ts xs->aP xs its->u∈its->∃ t v,t∈ts/\aB K H t v/\RelV v u
 | [],_,_,_,h,r,m=>by cases (show _=[] from h);cases r;cases m
 |t::ts,_,_,_,⟨x,r,e,p,q⟩,o,m=>by
  subst e
  cases o with
  |cons k n=>
   obtain rfl|m:=mem_cons.mp m
   .exact⟨t,x,mem_cons_self,p,k⟩
   .obtain⟨y,z,g,i,j⟩:=ul q n m;exact⟨y,z,mem_cons_of_mem _ g,i,j⟩
theorem t8 (I:aI X pins σ H s)(q:X.A.units+64<cLine)(n:dep a<=20)(o:fX ts<=20)(j:aB X.K H a x)(k:RelV x v)(p:au X.K H ts xs)(r:aP xs its) :
  (∀ y,y∈its.toArray->SeqAt.EqAt X.A.in1 s y v (FO X H a ts y))/\its.toArray.any (FO X H a ts)=FY a ts:=by
 refine⟨λy i=>?_,?_⟩
 .obtain⟨t,w,m,e,g⟩:=ul p r (by simpa using i)
  have d:=gB m;rw[AL I ⋯ m e g]
  exact(oe I 20 X.A.in1 t a w x y v ⋯ ⋯ ⋯ (by rw[units_in1];ext) e j g k).2.2
 .rw[show its.toArray.any (FO X H a ts)=its.any (FO X H a ts) by simp,xj I ⋯ (λ_ h=>h) p r]
  rfl
theorem zv (n:X.A.units+64<cLine):kQ X (compareOp .NotIn) (NQ X.K true):=by
 intro e s e H x y v u Q I B g h;obtain⟨a,p,e,C,k,m,o,rfl,e,z,q⟩:=h
 cases g
 obtain e|e:=e
 .obtain⟨j,r,pl,hz⟩:=I.list e;obtain⟨g,i⟩:=t8 I n k m o B z r;refine SeqAt.notIn_listAt (FO X H a C) pl.isList g ⟨.bl _,H,I,rfl,?_⟩;rw[i];exact q
 .obtain⟨j,r,pl,hz⟩:=I.tuple e;obtain⟨g,i⟩:=t8 I n k m o B z r;refine SeqAt.notIn_tupleAt (FO X H a C) pl g ⟨.bl _,H,I,rfl,?_⟩;rw[i];exact q
theorem zu:EQ K (NQ K true) nD:=λF H v z B C R Q sb n o y h k=>by
 have g:=y.tree sb;unfold nD at h
 split at h
 .rename_i m e;rw[e]at g;unfold aB at g;obtain⟨p,x,q,i,j⟩:=g;exact⟨tr v,p,x,m,h.1,h.2.1,o.tree sb,q,.inl i,j,k _ F H (.t (.bl _)) (di.refl sb n) rfl h.2.2⟩
 .rename_i m e;rw[e]at g;unfold aB at g;obtain⟨p,x,q,i,j⟩:=g;exact⟨tr v,p,x,m,h.1,h.2.1,o.tree sb,q,.inr i,j,k _ F H (.t (.bl _)) (di.refl sb n) rfl h.2.2⟩
 .exact h.elim
variable {a b:Expr}{wa wb:WE}{pos:Pos}
theorem MZ (g:b9 k X.A)(h:PE X a (av X.K wa))(e:PE X b (av X.K wb)):PE X (.Compare a [.Eq] [b] pos) (av X.K (qt wa wb)):=(xH (DP g.units) h e (fJ _)).imp (cH DO)
theorem ey (g:b9 k X.A)(h:PE X a (av X.K wa))(e:PE X b (av X.K wb)):PT X (.Compare a [.Eq] [b] pos) (liftT X.K (wB (qt wa wb))):=jy (DP g.units) DO h e (fJ _)
theorem tT (g:b9 k X.A)(h:PE X a (av X.K wa))(e:PE X b (av X.K wb)):PT X (.Compare a [.NotEq] [b] pos) (liftT X.K (wB (Mb wa wb))):=jy (KP g.units) KM h e (fJ _)
theorem AJ (g:b9 k X.A)(h:PE X a (av X.K wa))(e:PE X b (av X.K wb))(m:behindInMarks .NotIn b=false:=by rfl):PT X (.Compare a [.NotIn] [b] pos) (liftT X.K (wB (EF wa wb))):=jy (zv g.units) zu h e m
theorem BY (h:aB K H t v):decide (v=.non)=HZ t:=by
 cases t <;> first
  | (cases h;rfl)
  | (unfold aB at h;obtain⟨_,_,rfl,_⟩:=h;rfl)
  | (unfold aB at h;obtain⟨_,rfl,_⟩:=h;rfl)
theorem Cg:∀ σ H Q,av K (ED wa) σ H Q->LC (λx y H Q=>y=.non/\Q (.bl (decide (x=.non))) H) (av K wa) (av K (wC .non)) σ H Q:=by
 rintro σ H Q ⟨i,R,F,e,h,k⟩;refine⟨i,_,F,e,h,λv j g q g p m=>?_⟩;refine⟨i,λs=>s=.t .non,j,e.ext g,rfl,λv i j e e o n=>?_⟩;subst n;refine⟨o,k _ i j (.t (.bl (HZ (tr q)))) (g.trans e) ?_ m⟩;show _=_;rw[BY (((p.ext e).val e.sub).tree e.sub)]
theorem y6:∀ σ H Q,av K (qu wa) σ H Q->LC (λx y H Q=>y=.non/\Q (.bl (!decide (x=.non))) H) (av K wa) (av K (wC .non)) σ H Q:=by
 rintro σ H Q ⟨i,R,F,e,h,k⟩;refine⟨i,_,F,e,h,λv j g q g p m=>?_⟩;refine⟨i,λs=>s=.t .non,j,e.ext g,rfl,λv i j e e o n=>?_⟩;subst n;refine⟨o,k _ i j (.t (.bl (!HZ (tr q)))) (g.trans e) ?_ m⟩;show _=_;rw[BY (((p.ext e).val e.sub).tree e.sub)]
theorem AI (m:PE X a (av X.K wa)):PT X (.Compare a [.Is] [.Constant .none j p] pos) (liftT X.K (wB (ED wa))):=
 (si KO m qR (fJ _)).imp λn H Q ⟨i,R,F,g,h,k⟩=>by
  refine Cg n H _ ⟨i,_,F,g,h,λv g i s e p q=>?_⟩
  split at q
  .exact⟨_,p,k g i _ e q⟩
  .exact q.elim
theorem qU (m:PE X a (av X.K wa)):PT X (.Compare a [.IsNot] [.Constant .none j p] pos) (liftT X.K (wB (qu wa))):=
 (si GQ m qR (fJ _)).imp λn H Q ⟨i,R,F,g,h,k⟩=>by
  refine y6 n H _ ⟨i,_,F,g,h,λv g i s e p q=>?_⟩
  split at q
  .exact⟨_,p,k g i _ e q⟩
  .exact q.elim
end
inductive Ty where
 |non|bool|int|str|tup|lst|exc
def Ty.nm:Ty->String
 | .non=>"NoneType" | .bool=>"bool" | .int=>"int" | .str=>"str" | .tup=>"tuple" | .lst=>"list" | .exc=>""
def Qa:T->Ty
 | .non=>.non
 | .bl _=>.bool
 | .int _=>.int
 | .str _=>.str
 | .tup _=>.tup
 | .lst _=>.lst
 | .exc _=>.exc
def zL (s:S):Ty:=Qa (tr s)
def cA:Ty->Ty->Bool
 | .non,.non=>true
 | .bool,.bool=>true
 | .bool,.int=>true
 | .int,.int=>true
 | .str,.str=>true
 | .tup,.tup=>true
 | .lst,.lst=>true
 |_,_=>false
def Qc (ty:Ty)(e:WE):WE:=λg R=>e g λs=>zL s≠.exc/\R (.t (.bl (cA (zL s) ty)))
section
variable {X:Cx}
variable {e:Expr}{we:WE}{pos p p2:Pos}
end
theorem BZ (h:je K F a xs)(r:au K F ts xs):EN K F (OB K a) ts:=by
 intro m g i j sb n;have q:je K g a xs:=Same.sqT sb _ _ (Same.sqT j _ _ h);refine⟨λt p=>?_,λg=>⟨xs,q,by rw[r.length];exact g⟩⟩
 obtain⟨x,k,o⟩:=r.get p;refine⟨⟨xs,x,q,k⟩,λy g g=>?_⟩;obtain⟨e,g⟩:=g;subst e;have:=g xs q;rw[k]at this
 cases this
 exact⟨m,di.refl sb n,aB.same j o⟩
def bU (lo:Int)(n:Nat):List T:=(List.range n).map λ(k:Nat)=>.int (lo+(k:Int))
theorem Ka (lo:Int)(n:Nat):EN K F (Ol lo n) (bU lo n):=by
 intro m h i g sb o;refine⟨λt h=>?_,λg=>(by simpa [bU] using g:n<=i)⟩
 unfold bU at h;rw[getElem?_map]at h
 cases e:(List.range n)[i]? with
 |none=>rw[e]at h;cases h
 |some k=>
  rw[e]at h;have p:k=i/\i<n:=by
   rw[List.getElem?_eq_some_iff]at e;obtain⟨g,j⟩:=e;simp at g j;exact⟨j.symm,g⟩
  obtain⟨rfl,g⟩:=p;have j:t=.int (lo+k):=by simpa using h.symm
  refine⟨g,λx h y=>?_⟩;obtain⟨g,h⟩:=y;subst g;subst h;exact⟨m,di.refl sb o,by rw[j];rfl⟩
def N4 (e:a9)(W:List T->a9->Prop):S->Prop
 | .t (.tup ts)=>W ts e
 | .vt (.tup ts)=>W ts (freeze e)
 |_=>False
def EH (g:WE):WI:=λe W=>g e λs=>N4 e W s
def jk (i:Int):Prop:=-(2 ^ 62)<=i/\i<2 ^ 62
def fk (h:WA):WI:=λe W=>h e λg=>match g with
 | [.t (.int j)]=>jk j/\W (bU 0 j.toNat) e
 |_=>False
def LS (h:WA):WI:=λe W=>h e λg=>match g with
 | [.t (.int i),.t (.int j)]=>jk i/\jk j/\W (bU i (j-i).toNat) e
 |_=>False
section
variable {X:Cx}{e e2 tg:Expr}{we:WE}{wa:WA}{p pos:Pos}
theorem bP (he:PE X e (av X.K we)):PI X tg e (nO X.K (cj we)):=
 (GX he).imp <| by rintro g H R ⟨m,W,F,i,h,k⟩;exact⟨m,_,F,i,h,λv n j s ex p q=>by
  unfold pT at q
  split at q
  .unfold dz aB at p;obtain⟨a,x,rfl,g,o⟩:=p;exact⟨a,rfl,⟨x,ex.sub.seq g⟩,k _ n n j _ m ex (Same.refl _) (i.ext ex) (rL g o) q⟩
  .unfold dz aB at p;obtain⟨a,x,rfl,g,o⟩:=p;exact⟨a,rfl,⟨x,g⟩,k _ n j j _ (freeze m) ex ex.sub (i.ext ex).freeze (rL g o) q⟩
  .obtain⟨g,n,a,x,rfl,n,o⟩:=i.thaw ex p;exact⟨a,rfl,⟨x,g.sub.seq n⟩,k _ _ _ j _ m (ex.frozen i.sub).1 (Same.refl _) g (rL n o) q⟩
  .exact q.elim⟩
theorem JG (he:PE X e (av X.K we)):PI X tg e (nO X.K (EH we)):=
 (K7 he).imp <| by rintro g H R ⟨o,W,F,n,h,k⟩;exact⟨o,_,F,n,h,λv i j s ex p q=>by
  unfold N4 at q
  split at q
  .unfold dz aB at p;obtain⟨a,x,rfl,g,m⟩:=p;exact⟨a,rfl,⟨x,Same.sqT ex.sub _ _ g⟩,k _ i i j _ o ex (Same.refl _) (n.ext ex) (BZ g m) q⟩
  .unfold dz aB at p;obtain⟨a,x,rfl,g,m⟩:=p;exact⟨a,rfl,⟨x,g⟩,k _ i j j _ (freeze o) ex ex.sub (n.ext ex).freeze (BZ g m) q⟩
  .exact q.elim⟩
theorem cO (x:X.mg "range"=none) (n:PA X [e] (dE X.K wa)) (o:Gl X "range":=by rfl) (hs:starEach [e] X.env=[(false,eval e X.env)]:=by rfl):PI X tg (.Call (.Name "range" p) [e] [] pos) (nO X.K (fk wa)):=
 (zz o x n hs).imp <| by rintro g H R ⟨j,W,F,i,h,k⟩;exact⟨j,_,F,i,h,λg g m y ex p q=>by
  split at q
  .obtain⟨v,r,rfl,y,z⟩:=p
   cases (show r=[] from z)
   cases (show v=_ from y)
   obtain⟨⟨y,z⟩,B⟩:=q;exact⟨_,rfl,y,z,k _ g g m _ j ex (Same.refl _) (i.ext ex) (Ka 0 _) B⟩
  .exact q.elim⟩
end
end DL
namespace L2
open PySem PySem.Spec PyProof.Rows
theorem jv:∀ (g:List (Str × NameKind)) (i:List (Str × Addr)),(∀ y∈g,y.2=.free->∃ c,env.cells.lookup y.1=some c)->(∀ x c,i.lookup x=some c->env.cells.lookup x=some c) →
  ∃ m:List (Str × Addr),(forIn g i (λ(y:Str × NameKind) (r:List (Str × Addr))=>(if (y.2 == NameKind.free)=true then (cellOf env y.1 >>= λa=>pure (ForInStep.yield ((y.1,a)::r))) else pure (ForInStep.yield r):Sem (ForInStep (List (Str × Addr))))))=(pure m:Sem (List (Str × Addr))) ∧
   (∀ x c,m.lookup x=some c->env.cells.lookup x=some c)/\(∀ x,(i.lookup x).isSome=true->(m.lookup x).isSome=true)/\∀ y∈g,y.2=.free->(m.lookup y.1).isSome=true
 | [],i,_,p=>⟨i,by rw[List.forIn_nil],p,λ_ h=>h,λy j=>by cases j⟩
 | (n,k)::r,i,h,p=>by
  by_cases v:(k == NameKind.free)=true
  .have E:k=.free:=by simpa using v
   obtain⟨a,F⟩:=h (n,k) mem_cons_self E;obtain⟨m,B,C,o,D⟩:=jv (env:=env) r ((n,a)::i) (λy j=>h y (mem_cons_of_mem _ j)) (λx c e=>by
    rw[lookup_cons]at e
    split at e
    .rename_i z;have:x=n:=by simpa using z
     subst this
     cases e
     exact F
    .exact p x c e)
   have up:∀ x,(i.lookup x).isSome=true->(((n,a)::i).lookup x).isSome=true:=λx z=>by
    rw[lookup_cons]
    split
    .rfl
    .exact z
   refine⟨m,?_,C,λx z=>o x (up x z),λy j q=>?_⟩
   .rw[List.forIn_cons];simp only[v,if_true];have:cellOf env n=pure a:=by unfold cellOf;rw[F]
    rw[this];exact B
   .rcases mem_cons.mp j with e|e
    .subst e;exact o n (by rw[lookup_cons];simp)
    .exact D y e q
  .obtain⟨m,B,C,o,D⟩:=jv (env:=env) r i (λy j=>h y (mem_cons_of_mem _ j)) p;refine⟨m,?_,C,o,λy j q=>?_⟩
   .rw[List.forIn_cons];simp only[v,if_false];exact B
   .rcases mem_cons.mp j with e|e
    .subst e;exact absurd (by simpa using q) v
    .exact D y e q
theorem vn (h:∀ y∈scope.names,y.2=.free->∃ c,env.cells.lookup y.1=some c) :
  ∃ g,closureFor scope env=pure g/\(∀ x c,g.lookup x=some c->env.cells.lookup x=some c)/\∀ y∈scope.names,y.2=.free->(g.lookup y.1).isSome=true:=by
 obtain⟨g,i,j,_,k⟩:=jv (env:=env) scope.names [] h (λx c e=>by cases e)
 refine⟨g,?_,j,k⟩;unfold closureFor;exact(congrArg (λz=>z >>= λr=>pure r) i)
structure h7 (N:List Str) (no:Nat) (fr:List Nat) (NX:List Str) (sc around:Scope):Prop where
 kind:sc.kind=.function
 nocell:∀ y∈sc.names,y.2≠.cell
 nd:N.Nodup
 len:N.length=no+fr.length
 loc:∀ y∈sc.names,y.2=.local->sc.names.lookup y.1=some .local
 free:∀ y∈sc.names,y.2=.free->around.names.lookup y.1=some .cell
 own:∀ (i:Nat) (x:Str),N[i]?=some x->i<no->sc.names.lookup x=some .local
 out:∀ (j i:Nat) (x:Str),fr[j]?=some i->N[no+j]?=some x->NX[i]?=some x/\sc.names.lookup x=some .free
def EI (own:Nat)(fr:List Nat)(σ:St):St:=replicate own none++fr.map λi=>(σ[i]?).join
def cU (X:Cx)(N:List Str)(scope:Scope)(e:List (Str × Addr))(s:Shared)(H:Hp)(fp:List Addr):Cx:=
 {X with N:=N,s₀:=s,H₀:=H,env:=compEnvC scope e s.heap.objs.size X.env,outer:=X.stack,ex:=fp,fn:=λ_=>false,pn:=[],xe:=λ_ _=>False}
theorem jB {env:Env}:∀ (g:List (Str × NameKind)) (x:Str),(g.map λ(n,k)=>if (k == NameKind.free && env.scope.kind == .function && env.kindOf n == some .cell) then (n,NameKind.cell) else (n,k)).lookup x =
  (g.lookup x).map λk=>if (k == NameKind.free && env.scope.kind == .function && env.kindOf x == some .cell) then NameKind.cell else k
 | [],_=>rfl
 | (n,k)::r,x=>by
  rw[map_cons];show List.lookup x ((if (k == NameKind.free && env.scope.kind == .function && env.kindOf n == some .cell)=true then (n,NameKind.cell) else (n,k))::_)=_
  cases i:x == n with
  |true=>
   have e:x=n:=by simpa using i
   subst e
   by_cases h:(k == NameKind.free && env.scope.kind == .function && env.kindOf x == some .cell)=true
   .rw[if_pos h];simp only[lookup_cons,i];simp only[map_some,h,if_true]
   .rw[if_neg h];simp only[lookup_cons,i];simp only[map_some];rw[if_neg h]
  |false=>
   by_cases h:(k == NameKind.free && env.scope.kind == .function && env.kindOf n == some .cell)=true
   .rw[if_pos h];simp only[lookup_cons,i];exact jB r x
   .rw[if_neg h];simp only[lookup_cons,i];exact jB r x
theorem D9 (x:Str):(relabel scope env).names.lookup x=(scope.names.lookup x).map λk=>if (k == NameKind.free && env.scope.kind == .function && env.kindOf x == some .cell) then NameKind.cell else k:=jB _ _
section
variable {X:Cx}{pins:List (Addr × Obj)}{σ:St}{H:Hp}{s:Shared}{N:List Str}{own:Nat}{fr:List Nat}{scope:Scope}{cl:List (Str × Addr)}{fp:List Addr}
theorem FZ (S:h7 N own fr X.N scope X.env.scope)(I:aI X pins σ H s)(n:∀ x c,cl.lookup x=some c->X.env.cells.lookup x=some c)(E:∀ y∈scope.names,y.2=.free->(cl.lookup y.1).isSome=true)
  (C:∀ b∈fp,mP X pins H b/\b<s.heap.objs.size) (O:h'.Ns s.heap.objs.size m) (G:∀ b o,s.heap.get? b=some o->h'.get? b=some o) :
  aI (cU X N scope cl s H fp) [] (EI own fr σ) H {s with heap:=h',toks:=t}:=by
 have Q:∀ x,(cU X N scope cl s H fp).env.kindOf x=(scope.names.lookup x).map λk=>if (k == NameKind.free && X.env.scope.kind == .function && X.env.kindOf x == some .cell) then NameKind.cell else k:=λx=>D9 x
 have g:∀ {l:List (Str × NameKind)}{x:Str}{k:NameKind},l.lookup x=some k->(x,k)∈l:=λ{l x k} e=>PySem.mem_of_lookup e;have F:∀ x,((cU X N scope cl s H fp).env.kindOf x=some .cell\/(cU X N scope cl s H fp).env.kindOf x=some .free)->scope.names.lookup x=some .free:=λx h=>by
  rw[Q]at h
  cases e:scope.names.lookup x with
  |none=>rw[e]at h;simp at h
  |some k=>
   rw[e]at h;simp only[map_some,Option.some.injEq]at h
   by_cases D:(k == NameKind.free && X.env.scope.kind == .function && X.env.kindOf x == some .cell)=true
   .have:k=.free:=by
     rw[Bool.and_eq_true,Bool.and_eq_true]at D;simpa using D.1.1
    rw[this]
   .rw[if_neg D]at h
    obtain h|h:=h
    .exact absurd h (S.nocell _ (g e))
    .rw[h]
 have B:∀ x c,cl.lookup x=some c->∃ v,s.heap.IsCell c v:=λx c e=>I.cell x c (n x c e);have j:∀ x c,cl.lookup x=some c->c<s.heap.objs.size:=λx c e=>let ⟨v,q⟩:=B x c e;q.lt;refine⟨⟨I.ok.mod,S.kind,I.ok.glob,I.ok.blt,le_refl _,λx y c j J=>I.ok.inj x y c (n x c j) (n y c J),λx P=>?_,(λx c h=>by cases h),I.ok.hd,I.ok.frames,.inl rfl,λb j=>⟨ne_of_lt (C b j).2,λx c e=>(C b j).1.2.2.2.2.1 x c (n x c e)⟩,
   I.bs,le_trans I.ok.bsz I.sz,λb o e j=>?_,λb j z=>?_,I.stack,I.stkFree⟩,rfl,I.bare,Un.kept G,⟨m,O,λi x v J L M=>?_⟩,λx c e=>?_,I.hok.fresh (le_refl _),λx c e=>I.freeC x c (n x c e),λp M=>absurd (show p∈([]:List (Addr × Obj)) from M) (by simp),I.hok.kept G,?_⟩
 .have:=E _ (g (F x P)) rfl;exact isSome_iff_exists.mp this
 .rcases(C b j).1.2.2.2.1 with z|z
  .exact I.ok.noex b o e z
  .exact absurd (lt_of_lt_of_le (Heap.lt_size e) (le_trans I.ok.bsz z)) (lt_irrefl _)
 .rcases mem_cons.mp (I.stkSub b z) with q|q
  .exact(C b j).1.2.1 q
  .exact(C b j).1.2.2.1 q
 .
  have j:(replicate own none++fr.map λi=>(σ[i]?).join)[i]?=some (some v):=L;have hi:own<=i:=by
   by_cases hi:i<own
   .rw[getElem?_append_left (by simpa using hi),getElem?_replicate,if_pos hi]at j
    cases j
   .ext
  rw[getElem?_append_right (by simpa using hi),length_replicate,getElem?_map]at j
  cases M:fr[i-own]? with
  |none=>rw[M]at j;cases j
  |some k=>
   rw[M]at j;have F:(σ[k]?).join=some v:=by simpa using j
   have j:σ[k]?=some (some v):=by
    cases q:σ[k]? with
    |none=>rw[q]at F;cases F
    |some o=>rw[q]at F;simpa using F
   have F:N[own+(i-own)]?=some x:=by
    rw[show own+(i-own)=i by ext];exact J
   obtain⟨R,P⟩:=S.out (i-own) k x M F;have M:X.env.scope.names.lookup x=some .cell:=S.free (x,.free) (g P) rfl;obtain⟨F,_,F⟩:=I.loc;obtain⟨u,r,l⟩:=F k x v R j (.inr (.inl M));refine⟨u,r,?_⟩
   obtain⟨j,_⟩|⟨_,c,R,U⟩:=l
   .have:X.env.scope.names.lookup x=some .local:=j;rw[M]at this;cases this
   .have F:(cU X N scope cl s H fp).env.kindOf x=some .cell:=by
     rw[Q,P];simp only[map_some];have J:X.env.scope.kind=.function:=I.ok.kind;have L:X.env.kindOf x=some .cell:=M;rw[J,L]
     rfl
    have D:=isSome_iff_exists.mp (E (x,.free) (g P) rfl);obtain⟨j,g⟩:=D;have:j=c:=by
     have:=n x j g;rw[R]at this;exact(Option.some.inj this).symm
    subst this;exact .inr ⟨.inl F,j,g,U.keeps G⟩
 .obtain⟨v,q⟩:=B x c e;exact⟨v,q.keeps G⟩
 .show(EI own fr σ).length=N.length;unfold EI;rw[List.length_append,length_replicate,length_map,S.len]
end
abbrev HK:Value->Shared->Prop:=λ_ _=>False
section
variable {P:Program}{w:World}{A:Around}{R:Result->Shared->Prop}
def Ow (ifs:List Expr)(env:Env):Sem Bool:=
 forIn ifs true λc r=>if r=true then do
                        let ok ← isTrue c env (eval c env)
                        pure (ForInStep.yield ok) else pure (ForInStep.yield r)
theorem LG (h:Q true s):wpAny (model P w) A (Ow [] env) Q E s:=wpAny_tests_nil h
theorem LH (h:wpAny (model P w) A (isTrue c env (eval c env)) Q E s):wpAny (model P w) A (Ow [c] env) Q E s:=wpAny_tests_one h
theorem vl (J:Nat->Shared->Prop)
  (go:∀ n s,J n s->wpAny (model P w) A (pyNext it) (λr s1=>match r with
   |none=>R (.ok .next) s1
   |some v=>wpAny (model P w) A (letOwnedTupleGo tg it v) (λ_ s2=>wpAny (model P w) A (assign tg env v) (λ_ s3=>wpAny (model P w) A (Ow ifs env) (λok s4=>
     if ok=true then wpAny (model P w) A (eval elt env) (λx s5=>wpAny (model P w) A (call (.builtin "list.append") [acc,x]) (λ_ s6=>∃ m,m<n/\J m s6) HK s5) HK s4
     else ∃ m,m<n/\J m s4) HK s3) HK s2) HK s1) HK s)
  (n:Nat) (h:J n s):codeAny (model P w) A (.compLoop (.ListComp elt [⟨tg,iter,ifs,0⟩] sc pos) 0 it acc env) R s:=by
 have ex:∀ {α:Type}{t:Sem α}{Q:α->Shared->Prop}{s:Shared}{E:Value->Shared->Prop},wpAny (model P w) A t Q HK s->wpAny (model P w) A t Q E s:=λhh=>wpAny_mono hh (λ_ _ q=>q) λ_ _ z=>z.elim;refine codeAny_loop rfl J (λn s hJ=>?_) n h;show wpAny _ _ ((compTurn _ 0 it acc env).onRaise (λx=>do noteFrame x env;theTreesLotGoes x)) _ _ s
 refine wpAny_noted ?_;rw[compTurn_list];refine wpAny_bind (wpAny_standAt (wpAny_bind (cM (ex (go n s hJ)) λr s1 h1=>?_)))
 cases r with
 |none=>exact wpAny_pure h1
 |some v=>
  refine wpAny_bind (cM (ex h1) λ_ s2 h2=>wpAny_bind (cM (ex h2) λ_ s3 h3=>?_));refine wpAny_bind (cM (ex h3) λok s4 h4=>?_)
  cases ok with
  |false=>exact wpAny_pure ⟨rfl,h4⟩
  |true=>
   exact wpAny_bind (wpAny_bind (cM (ex h4) λx s5 h5=>wpAny_bind (cM (ex h5) λ_ s6 h6=>wpAny_pure (wpAny_pure ⟨rfl,h6⟩))))
end
def xY (own:Nat)(fr:List Nat)(p:TI)(g:TG)(o:TT)(te:TE):TE:=λe H Q=>p e H λJ h=>∀ D,h D=none->∃ W:Nat->Nat->St->Hp->Prop,(∃ m,W 0 m (EI own fr e) (cG h D (.lst [])))/\∀ i m e h,W i m e h →
 (J.stop i h/\Q (.ref D) h)\/(J.go i h/\∀ x j,J.yld i h x j->g x e j λe h=>o e h λok k=>
  if ok=true then te e k λv n=>∃ j,n D=some (.lst j)/\j.length<sizeLine/\∃ h,h<m/\W (i+1) h e (cG n D (.lst (j++[v])))
  else ∃ h,h<m/\W (i+1) h e k)
def ER (Y:Cx)(i:List Expr)(t:TT):Prop:=
 ∀ (p:List (Addr × Obj)) (s:Shared) (e:St) (H:Hp) (Q:Bool->Hp->Prop),aI Y p e H s->t e H Q->wpAny (model Y.prog Y.w) Y.A (Ow i Y.env) (TP Y p e Q) Y.xe s
theorem G5:ER Y [] (λσ H Q=>Q true H):=λ_ _ σ H _ I h=>LG ⟨H,I,h⟩
theorem G6 (h:PT Y c t):ER Y [c] t:=λp s e H Q I q=>LH (h p s e H Q I q)
section
variable {X:Cx}{N:List Str}{own:Nat}{fr:List Nat}{scope:Scope}{elt tg iter:Expr}{ifs:List Expr}{pos:Pos}{wi:TI}{g:TG}{tc:TT}{te:TE}
theorem Turn.fpLt {P:Program}{w:World}{K:Frg}{J:It}{fp:List Addr}{it:Addr}{n:Nat->Heap->Prop}(T:Turn P w K tg J fp it n){i:Nat}{h:Heap}(st:n i h):∀ b∈fp,b<h.objs.size:=λb j=>by
 obtain⟨o,e,_⟩:=T.obj i h st b j;exact Heap.lt_size e
def CompEnd (X:Cx)(pins:List (Addr × Obj))(σ:St)(Q:VK)(use:Option (Value->Sem Unit))(QQ:Value->Shared->Prop):Prop:=
 ∀ (D C:Addr) (h:Hp) (e:Shared) (m:Str->Option Value),(∀ i,Heap.SameBut C e.heap i->aI X pins σ h {e with heap:=i})->e.heap.Ns C m->h C=none->X.s₀.heap.objs.size<=C->X.env.locals≠C->(∀ x c,X.env.cells.lookup x=some c->c≠C)->(∀ p∈X.pn++pins,p.1≠C)->Q (.ref D) h →
  compPost (model X.prog X.w) X.A X.xe use QQ (.ref D) C (.ok .next) e
theorem pF (S:h7 N own fr X.N scope X.env.scope)(hc:X.calm=true)(hi:PI X tg iter wi)
  (hg:∀ E s H fp,PG (cU X N scope E s H fp) tg g) (ht:∀ E s H fp,ER (cU X N scope E s H fp) ifs tc) (he:∀ E s H fp,PE (cU X N scope E s H fp) elt te)
  (hs:∀ x,foldedSetIterable iter X.env x=pure x) (I:aI X pins σ H s) (h:xY own fr wi g tc te σ H Q) (P:CompEnd X pins σ Q use QQ) :
  wpAny (model X.prog X.w) X.A (comprehension (.ListComp elt [⟨tg,iter,ifs,0⟩] scope pos) scope X.env ps (newList []) false (eval iter X.env) use) QQ X.xe s:=by
 obtain⟨E,hclos,hcl,hcf⟩:=vn (scope:=scope) (env:=X.env) λy hy hf=>I.ok.has y.1 (.inl (S.free y hy hf));refine wpAny_comprehension_free (use:=use) rfl hs hclos S.kind S.loc (cM (hi pins s σ H _ I h) λv s1 h1=>cM h1 λitv j h2=>?_);obtain⟨it,fp,tn,J,F,e,I2,T,st2,f2,h2⟩:=h2;subst e;refine wpAny_newObj_type ?_ (zero_le _);have fr2:F j.heap.objs.size=none:=I2.hok.fresh (le_refl _);obtain⟨W,⟨m0,w0⟩,turn⟩:=h2 j.heap.objs.size fr2;have I3:aI X pins σ (cG F j.heap.objs.size (.lst [])) {j with heap:=j.heap.push {cls:=.type "list",data:=.seq ([]:List Value).toArray}}:=I2.lnew (t':=j.toks) (its:=[]) .nil (zero_le _);have st3:tn 0 (j.heap.push {cls:=.type "list",data:=.seq ([]:List Value).toArray}):=T.keep _ _ _ st2 λb _ o e=>Heap.get?_push_of_some _ e;generalize hs3:({j with heap:=j.heap.push {cls:=.type "list",data:=.seq ([]:List Value).toArray}}:Shared)=s3 at I3;have G:tn 0 s3.heap:=by rw[<-hs3];exact st3
 have f3:∀ b∈fp,mP X pins (cG F j.heap.objs.size (.lst [])) b:=λb k=>by
  obtain⟨q0,q⟩:=f2 b k;refine⟨?_,q⟩;rw[aZ (ne_of_lt (T.fpLt st2 b k))];exact q0
 refine wpAny_newFunctionEnv S.nocell (λy hy=>by cases hy) (λh4 hns4 hsb4=>?_) S.kind
 have hk4:∀ b o,s3.heap.get? b=some o->h4.get? b=some o:=λb o e=>hsb4.extBut b o (ne_of_lt (Heap.lt_size e)) (Heap.get?_push_of_some _ e);have I4:aI (cU X N scope E s3 (cG F j.heap.objs.size (.lst [])) fp) [] (EI own fr σ) (cG F j.heap.objs.size (.lst [])) {s3 with heap:=h4,toks:=s3.toks+([]:List (Str × Value)).length}:=
  FZ S I3 hcl hcf (λb k=>⟨f3 b k,T.fpLt G b k⟩) hns4 hk4
 have U:tn 0 h4:=T.keep _ _ _ G λb _ o e=>hk4 b o e;generalize D:cU X N scope E s3 (cG F j.heap.objs.size (.lst [])) fp=Y at I4;have hg':=hg E s3 (cG F j.heap.objs.size (.lst [])) fp;have ht':=ht E s3 (cG F j.heap.objs.size (.lst [])) fp;have he':=he E s3 (cG F j.heap.objs.size (.lst [])) fp;rw[D]at hg' ht' he';have yp:Y.prog=X.prog:=by rw[<-D];rfl
 have yw:Y.w=X.w:=by rw[<-D];rfl
 have yK:Y.K=X.K:=by rw[<-D];rfl
 have yA:Y.A=X.A:=by rw[<-D];rfl
 have yc:Y.calm=true:=by rw[<-D];exact hc
 have yx:Y.xe=HK:=by rw[<-D];rfl
 have ye:Y.env=compEnvC scope E s3.heap.objs.size X.env:=by rw[<-D];rfl
 have fin:∀ {M:St}{m:Hp}{R:Shared},aI Y [] M m R->Q (.ref j.heap.objs.size) m->compPost (model X.prog X.w) X.A X.xe use QQ (.ref j.heap.objs.size) s3.heap.objs.size (.ok .next) R:=λ{M m R} O q=>by
  obtain⟨m5,hn5,_⟩:=O.loc;have yl:Y.env.locals=s3.heap.objs.size:=by rw[ye];rfl
  rw[yl]at hn5;have un:=O.base;have y1:Y.fs=yT X.stack:=by rw[<-D];rfl
  have y2:Y.ex=fp:=by rw[<-D];rfl
  have y3:Y.H₀=cG F j.heap.objs.size (.lst []):=by rw[<-D];rfl
  have y4:Y.s₀=s3:=by rw[<-D];rfl
  rw[y1,y2,y3,y4]at un;have C:m s3.heap.objs.size=none:=by rw[<-yl];exact O.free
  refine P j.heap.objs.size s3.heap.objs.size m R m5 (λh6 hs6=>?_) hn5 C I3.sz (ne_of_lt I3.lt) (λx c e=>?_) (λp hp=>?_) q
  .have k6:∀ b o,b≠s3.heap.objs.size->R.heap.get? b=some o->h6.get? b=some o:=λb o k e=>hs6.extBut b o k e;have old:∀ b o,s3.heap.get? b=some o->b≠s3.heap.objs.size:=λb o e=>ne_of_lt (Heap.lt_size e);have un6:Un (yT X.stack) fp (cG F j.heap.objs.size (.lst [])) m s3.heap h6:=
    ⟨λb o e n k hx=>k6 b o (old b o e) (un.keep b o e n k hx),λb o e n k hx=>by obtain⟨sl,q⟩:=un.slot b o e n k hx;exact⟨sl,k6 b _ (old b o e) q⟩,un.free,λb o e hx=>by obtain⟨o',q⟩:=un.there b o e hx;exact⟨o',k6 b o' (old b o e) q⟩,un.tups,un.frzs,un.tbls⟩
   have hok6:gm X.prog X.w m h6:=by
    have:=O.hok;rw[yp,yw]at this;refine λa o e=>(this a o e).stay (λb u k q=>k6 b u ?_ q) (λ_ z=>z) λ_ _ z=>z
    obtain z|z:=k
    .subst z;intro z;rw[z,C]at e;cases e
    .intro y;rw[y,C]at z;cases z
   obtain⟨hh,gg,dd,tt,os'⟩:=R;have ho:os'=s3.os:=by have:=O.os;rw[y4]at this;exact this
   subst ho;refine aI.call (s:=s3) I3 (h':=h6) (g':=gg) (d':=dd) (t':=tt) (ch:=fp) un6 hok6 O.bare (λb k=>?_);obtain⟨_,q1,_,q3,q4,q5⟩:=f3 b k;exact⟨q3,q1,q4,q5⟩
  .obtain⟨v,oc,ho,_⟩:=I3.cell x c e;exact ne_of_lt (Heap.lt_size ho)
  .obtain⟨e,_⟩:=I3.pin p hp;exact ne_of_lt (Heap.lt_size e)
 have loop:∀ s4:Shared,aI Y [] (EI own fr σ) (cG F j.heap.objs.size (.lst [])) s4->tn 0 s4.heap->codeAny (model X.prog X.w) X.A (.compLoop (.ListComp elt [⟨tg,iter,ifs,0⟩] scope pos) 0 (.ref it) (.ref j.heap.objs.size) (compEnvC scope E s3.heap.objs.size X.env))
   (compPost (model X.prog X.w) X.A X.xe use QQ (.ref j.heap.objs.size) s3.heap.objs.size) s4:=by
  intro s4 I4 U;have L:∀ {m:Hp},(∀ b∈fp,m b=none)->∀ b∈fp,mP Y [] m b:=λ{m} hn b k=>by
   obtain⟨_,q1,q2,q3,q4,q5⟩:=f3 b k;refine⟨hn b k,?_,?_,?_,λx c e=>?_,λp hp=>?_⟩
   .rw[ye];exact ne_of_lt (T.fpLt G b k)
   .have:Y.fs=yT X.stack:=by rw[<-D];rfl
    rw[this];intro z
    obtain q|q:=mem_cons.mp (I3.stkSub b z)
    .exact q1 q
    .exact q2 q
   .left;rw[<-D];exact k
   .rw[ye]at e;exact q4 x c (hcl x c e)
   .rw[<-D]at hp;cases hp
  refine vl (λn s'=>∃ i M m,aI Y [] M m s'/\tn i s'.heap/\(∀ b∈fp,m b=none)/\W i n M m) ?_ m0 ⟨0,_,_,I4,U,λb k=>(f3 b k).1,w0⟩;rintro n R ⟨i,Z,H5,O,st5,fr5,w5⟩;rw[<-yp,<-yw,<-yA,<-ye,<-yx];have T':Turn Y.prog Y.w Y.K tg J fp it tn:=by rw[yp,yw,yK];exact T
  obtain⟨stop,qn⟩|⟨go,step⟩:=turn i n Z H5 w5
  .refine cM (T'.done Y rfl rfl rfl yc i [] R Z H5 Y.xe O (L fr5) st5 stop) ?_;rintro r s6 ⟨hr,I6⟩;subst hr;have q:=fin I6 qn;rw[<-yp,<-yw,<-yA]at q;exact q
  .refine cM (T'.item Y rfl rfl rfl yc i [] R Z H5 Y.xe O (L fr5) st5 go) ?_;rintro r s6 ⟨u,hr,h6⟩;subst hr;refine cM h6 ?_;rintro _ s7 ⟨x,H7,I7,r7,y7,st7,fr7⟩;have I7':=I7.pinned (L fr7) (T.obj _ _ st7);have stay:∀ {B:St}{H8:Hp}{s8:Shared},aI Y ([]++n6 fp s7.heap) B H8 s8->tn (i+1) s8.heap/\∀ b∈fp,H8 b=none:=λ{B H8 s8} I8=>by
    refine⟨T.keep _ _ _ st7 λb k o e=>(I8.pin (b,o) (mem_append_right _ (mem_append_right _ (gC k e)))).1,λb k=>?_⟩;obtain⟨o,e,d⟩:=T.obj _ _ st7 b k;exact(I8.pin (b,o) (mem_append_right _ (mem_append_right _ (gC k e)))).2.1
   refine cM (hg' _ s7 Z H7 x u _ I7' r7 (step x H7 y7)) ?_;rintro _ s8 ⟨B,H8,I8,q8⟩;refine cM (ht' _ s8 B H8 _ I8 q8) ?_;rintro ok s9 ⟨H9,I9,q9⟩
   cases ok with
   |false=>
    obtain⟨m',hm,w9⟩:=q9;obtain⟨t9,f9⟩:=stay I9;exact⟨m',hm,i+1,B,H9,I9.unpinned,t9,f9,w9⟩
   |true=>
    refine cM (he' _ s9 B H9 _ I9 q9) ?_;rintro y s10 ⟨v,H10,I10,r10,xs,hD,hz,m',hm,w10⟩;refine cM (pW (X:=Y) _ s10 B H10 (.ref j.heap.objs.size) [v] (.ref j.heap.objs.size) [y] (λ_ m=>m=cG H10 j.heap.objs.size (.lst (xs++[v]))) I10 rfl (.cons r10 .nil) ⟨_,xs,v,rfl,rfl,hD,hz,rfl⟩) ?_;rintro _ s11 ⟨_,H11,I11,_,q11⟩;subst q11;obtain⟨t11,f11⟩:=stay I11;exact⟨m',hm,i+1,B,_,I11.unpinned,t11,f11,w10⟩
 have oO:codeAny (model X.prog X.w) X.A (.compLoop (.ListComp elt [⟨tg,iter,ifs,0⟩] scope pos) 0 (.ref it) (.ref j.heap.objs.size) (compEnvC scope E s3.heap.objs.size X.env)) (compPost (model X.prog X.w) X.A X.xe use QQ (.ref j.heap.objs.size) s3.heap.objs.size) {s3 with heap:=h4,toks:=s3.toks+([]:List (Str × Value)).length}:=
  loop _ I4 U
 exact codeAny_compStart_list oO (T.self X.A 0 _ _ _ U oO)
theorem GU (S:h7 N own fr X.N scope X.env.scope)(m:X.calm=true)(hi:PI X tg iter wi)
  (n:∀ e s H fp,PG (cU X N scope e s H fp) tg g) (o:∀ e s H fp,ER (cU X N scope e s H fp) ifs tc) (he:∀ e s H fp,PE (cU X N scope e s H fp) elt te)
  (hs:∀ x,foldedSetIterable iter X.env x=pure x:=by intro _;rfl):PE X (.ListComp elt [⟨tg,iter,ifs,0⟩] scope pos) (xY own fr wi g tc te):=by
 intro p s e H Q I h;rw[eval_ListComp];exact pF S m hi n o he hs I h λD C i e j k e _ _ _ _ _ q=>⟨j,e,λj e=>⟨.ref D,i,k j e,rfl,q⟩⟩
theorem G2 (U:X.N.Nodup)(B:X.N[i]?=some x)(hx:Loc X.env.scope x)(S:h7 N own fr X.N scope X.env.scope)(hc:X.calm=true)(hi:PI X tg iter wi)
  (hg:∀ m s H fp,PG (cU X N scope m s H fp) tg g) (ht:∀ m s H fp,ER (cU X N scope m s H fp) ifs tc) (he:∀ m s H fp,PE (cU X N scope m s H fp) elt te)
  (hs:∀ x,foldedSetIterable iter X.env x=pure x:=by intro _;rfl) (hw:swapsWith (.ListComp elt [⟨tg,iter,ifs,0⟩] scope pos) (some (.Name x p)) j.line X.env=pure true:=by rfl) (hf:X.fn x=true\/X.env.scope.names.lookup x=some .local:=by first|exact .inl rfl|exact .inr rfl|assumption) :
  PS X (.Assign [.Name x p] (.ListComp elt [⟨tg,iter,ifs,0⟩] scope pos) j) (LA (xY own fr wi g tc te) (BK i)):=by
 intro v s σ H D I h;rw[exec_Assign_Name_used x p _ j hw];refine wpAny_bind (wpAny_standAt (wpAny_bind ?_));rw[arm_evalThenUse_ListComp];refine wpAny_bind (cM (pF (use:=some (assign (.Name x p) X.env)) (QQ:=λ_ M=>SP X v D .next M) S hc hi hg ht he hs I h λy C P O m5 R hn k J L n E q=>?_) λ_ M h=>wpAny_pure (wpAny_pure h));show wpAny _ _ (assign (.Name x p) X.env (.ref y)) _ _ O;refine wpAny_assign_Name (qj (R O.heap (.refl ..)) U B hx (show RelV (.ref y) (.ref y) from rfl) (?_) hf);rintro s6 Q ⟨a,G,Y⟩;have nC:a≠C:=by
  obtain z|z:=Y
  .rw[z];exact L
  .exact n x a z
 refine⟨m5,hn.sameBut G (Ne.symm nC),λh6 F=>?_⟩;exact⟨_,P,Q.turned (t':=s6.toks) (it:=C) (λb o Z e=>F.extBut b o Z e) k (Ne.symm L) (.inr J) n E,q⟩
end
end L2
namespace DL
open PySem L2
theorem Rel.mutate (r:Rel K F H σ k)(hi:k[i]?=some (some (.ol ts)))(E:σ[i]?=some (some (.ref a)))(D:F a=none)(p:∃ xs,H a=some (.lst xs))(U:au K F us ys) :
  Rel K F (cG H a (.lst ys)) σ (k.set i (some (.ol us))):=by
 obtain⟨xs,p⟩:=p;have ne:∀ b o,F b=some o->b≠a:=λb o e z=>by rw[z,D]at e;cases e
 have lt:i<k.length:=by
  rw[List.getElem?_eq_some_iff]at hi;exact hi.1
 refine⟨⟨λb o e n=>by rw[aZ (ne b o e)];exact r.sub.all _ _ e n,λb g e=>by rw[aZ (ne b _ e)];exact r.sub.tbl _ _ e⟩,λb o e n=>?_,by rw[length_set];exact r.len,λj s m=>?_,λj l b g B R O P Q=>?_,uN r.tab p⟩
 .unfold cG at e
  split at e
  .cases e;exact .inr ⟨ys,rfl⟩
  .exact r.full _ _ e n
 .by_cases z:i=j
  .subst z;rw[getElem?_set_self lt]at m
   cases m
   exact⟨_,E,a,ys,rfl,D,aY,U⟩
  .rw[getElem?_set_ne z]at m;obtain⟨v,G,q⟩:=r.slot j s m;refine⟨v,G,?_⟩
   cases s with
   |t x=>exact q
   |vt I=>exact q
   |ol I=>
    obtain⟨b,bs,C,J,L,M⟩:=q;have q:b≠a:=λy=>by
     subst y;subst C;exact r.dist i j b ts I z hi m E G
    exact⟨b,bs,C,J,by rw[aZ q];exact L,M⟩
 .have own:∀ (j:Nat) (g:List T),(k.set i (some (.ol us)))[j]?=some (some (.ol g))->∃ m:List T,k[j]?=some (some (.ol m)):=λj g h=>by
   by_cases z:i=j
   .subst z;exact⟨ts,hi⟩
   .rw[getElem?_set_ne z]at h;exact⟨g,h⟩
  obtain⟨q,m⟩:=own j g O;obtain⟨C,g⟩:=own l B P;exact r.dist j l b q C R m g Q
section
variable {X:Cx}{e:Expr}{we wv:WE}{pos:Pos}{H₀:Hp}{i:Nat}{x:Str}{p1 p2:Pos}
theorem mr (h:n<100000):n<sizeLine:=lt_trans h ⋯
theorem eS (he:PE X e (av X.K we)) (O:PE X (.Name x p1) (uM i):=by exact pv _) (j:attributeBase (.Name x p1) "append" X.env (eval (.Name x p1) X.env)=eval (.Name x p1) X.env:=by rfl)
  (m:((backTo pos (starEach [e] X.env)).all (λx=>!x.1) && (backToKw pos (keywordEach [] X.env)).all (λx=>x.1.isSome) && decide ([e].length+([]:List Keyword).length+(if ([]:List Keyword).isEmpty then 0 else 1)<30))=true:=by rfl)
  (k:(p2.endLine == pos.line)=true:=by rfl) (hs:starEach [e] X.env=(false,eval e X.env)::starEach [] X.env:=by exact aQ rfl) (n:(backTo pos (starEach [] X.env)).any (·.1)=false:=by exact dH rfl)
  (z:swapsWith (.Call (.Attribute (.Name x p1) "append" p2) [e] [] pos) none g.line X.env=pure false:=by rfl) :
  PS X (.Expr (.Call (.Attribute (.Name x p1) "append" p2) [e] [] pos) g) (bI X.K H₀ (eO i we)):=
 (my (Ih PySem.F.plainAttrs_list PySem.F.slot_list_append PySem.F.type_list_append pW O (mx he se hs) j m k hs n) z).imp λD Q H ⟨P,R,F,s0,B,h,ok⟩=>by
  unfold eO at h
  split at h
  .rename_i Y hi;obtain⟨v,G,a,C,rfl,L,o,I⟩:=B.slot i _ hi;refine⟨_,G,.inl ⟨rfl,C,cV.of o⟩,P,_,F,B,h,λv J U s e p q=>?_⟩
   cases s with
   |t y=>
    obtain⟨M,q⟩:=q;have E:=e.hh.get o;refine⟨a,C,v,rfl,rfl,E,by rw[I.length];exact mr M,?_⟩
    exact ok.nx Q J _ _ e.ff ((B.ext e).mutate hi G (e.keep a (by rw[o];simp) L) ⟨C,E⟩ ((au.same e.ff I).append (au.one p))) q
   |_=>exact q.elim
  .exact h.elim
theorem Ca (h:l≠[]):∃ x,l[l.length-1]?=some x:=by
 cases l with
 |nil=>exact absurd rfl h
 |cons a r=>exact⟨_,getElem?_eq_getElem (by simp)⟩
theorem JJ (I:PE X (.Name x p1) (uM i):=by exact pv _) (g:attributeBase (.Name x p1) "pop" X.env (eval (.Name x p1) X.env)=eval (.Name x p1) X.env:=by rfl) (j:(p2.endLine == pos.line)=true:=by rfl)
  (o:swapsWith (.Call (.Attribute (.Name x p1) "pop" p2) [] [] pos) none p.line X.env=pure false:=by rfl):PS X (.Expr (.Call (.Attribute (.Name x p1) "pop" p2) [] [] pos) p) (bI X.K H₀ (HG i)):=
 (my (KY PySem.F.plainAttrs_list PySem.F.slot_list_pop PySem.F.type_list_pop Kw I g j) o).imp λD J H ⟨O,L,F,s0,C,h,ok⟩=>by
  unfold HG at h
  split at h
  .rename_i M hi;obtain⟨v,z,a,q,rfl,E,k,n⟩:=C.slot i _ hi;obtain⟨m,h⟩:=h;obtain⟨t,G⟩:=Ca m;obtain⟨y,B,_⟩:=n.get G;rw[<-n.length]at B;refine⟨_,z,.inl ⟨rfl,q,cV.of k⟩,a,q,y,rfl,rfl,k,B,?_⟩;exact ok.nx J F _ _ (Same.refl _) (C.mutate hi z E ⟨q,k⟩ n.dropLast) h
  .exact h.elim
theorem nk (he:PE X e (av X.K we))(hw:PE X v (av X.K wv))(hv:PE X (.Name x p1) (uM i):=by exact pv _)
  (ha:∀ z,assign (.Subscript (.Name x p1) e p2) X.env z=(do
   let ov ← holding [z] (eval (.Name x p1) X.env)
   let iv ← holding [z,ov] (eval e X.env)
   standAt p2
   holding [z,ov,iv] (setItem ov iv z)
   release [z,ov,iv] []):=by intro _;rfl)
  (hs:swapsWithSole [.Subscript (.Name x p1) e p2] v pos.line X.env=pure false:=by rfl) (hsw:swappedStores [.Subscript (.Name x p1) e p2] v X.env=pure none:=by rfl)
  (h1:(assignEach [.Subscript (.Name x p1) e p2] X.env).map (·.2)=[assign (.Subscript (.Name x p1) e p2) X.env]:=by rfl) :
  PS X (.Assign [.Subscript (.Name x p1) e p2] v pos) (bI X.K H₀ (lF i we wv)):=
 (DZ hw (K5 hv he set_list ha) hs hsw h1).imp λD σ H ⟨δ,D',F,s0,rl,h,ok⟩=>by
  unfold lF at h
  split at h
  .rename_i ts hi;obtain⟨v,ha,a,xs,rfl,hF,hH,hr⟩:=rl.slot i _ hi;refine⟨δ,_,F,rl,h,λv1 F1 H1 s1 e1 p1 q1=>⟨_,ha,δ,_,F1,rl.ext e1,q1,λv2 F2 H2 s2 e2 p2 q2=>?_⟩⟩;have e12:=e1.trans e2
   split at q2
   .rename_i y k
    split at q2
    .rename_i j hj;have h2:=e12.hh.get hH;refine⟨a,xs,k,j,rfl,p2,h2,by rw[hr.length];exact hj,?_⟩
     exact ok.nx σ F2 _ _ e12.ff ((rl.ext e12).mutate hi ha (e12.keep a (by rw[hH];simp) hF) ⟨xs,h2⟩ ((au.same e12.ff hr).set (aB.same e2.ff p1) j)) q2
    .exact q2.elim
   .exact q2.elim
  .exact h.elim
end
def qI (R:List T->Prop):S->Prop
 | .t (.lst e)=>R e
 | .vt (.lst e)=>cF e=true/\R e
 | .ol e=>R e
 |_=>False
def yO:S->S->(S->Prop)->Prop:=λa b R=>qI (λe=>qI (λg=>e.length+g.length<=100000/\R (.ol (e++g))) b) a
def Ik (K:Frg):R2:=λx y H Q=>∃ l b e z,x=.ref l/\y=.ref b/\cV K H l e/\cV K H b z/\e.length+z.length<=sizeLine/\∀ p,H p=none->Q (.ref p) (cG H p (.lst (e++z)))
theorem GN:kQ X (binaryOp .Add) (Ik X.K):=by
 intro p s e H x y v u Q I e i h;obtain⟨l,b,g,g,rfl,rfl,g,j,hz,q⟩:=h
 cases e
 cases i
 obtain⟨e,r,pl,z⟩:=I.list g;obtain⟨i,D,p,g⟩:=I.list j;obtain⟨⟨g,E,g,G⟩,C,B,n,hd⟩:=pl.isList;obtain⟨⟨g,m,g,o⟩,k,g,F,j⟩:=p.isList;simp only at B hd g j;subst B hd g j;have g:=r.length;have g:=D.length;refine PySem.concat_meets ⟨_,C,rfl⟩ ⟨_,k,rfl⟩ PySem.noFill_list_add PySem.seq_list_add PySem.F.slot_list_add PySem.F.entry_list_add (PySem.F.args_list_add_2 _ _) (PyProof.Rows.list_addW l b e.toArray i.toArray n F E m G o (by rw[size_toArray,size_toArray];ext)) ⟨C,k,?_⟩
 have g:e.toArray++i.toArray=(e++i).toArray:=by simp
 rw[g];exact⟨.ref _,_,I.lnew (t':=s.toks) (r.append D) (by rw[List.length_append];ext),rfl,q _ I.fresh⟩
theorem ng (sb:Same F H)(j:fR F H)(h:qI R s)(p:fT K F H s v):∃ ts a xs,v=.ref a/\cV K H a xs/\au K F ts xs/\R ts:=by
 unfold qI at h
 split at h
 .unfold fT aB at p;obtain⟨a,xs,e,g,i⟩:=p;exact⟨_,a,xs,e,sb.seq g,i,h⟩
 .unfold fT aB at p;obtain⟨a,xs,e,g,i⟩:=p;exact⟨_,a,xs,e,g,au.full j h.1 i,h.2⟩
 .unfold fT at p;obtain⟨a,xs,e,g,i⟩:=p;exact⟨_,a,xs,e,g,i,h⟩
 .exact h.elim
theorem GL:EQ K (Ik K) yO:=λF H e e v v R Q sb e j o h k=>by
 obtain⟨g,a,x,rfl,g,i,h⟩:=ng sb e h j;obtain⟨j,b,y,rfl,m,j,n,h⟩:=ng sb e h o;refine⟨a,b,x,y,rfl,rfl,g,m,by rw[i.length,j.length];exact le_trans n ⋯,λp g=>?_⟩
 exact k _ F _ (.ol _) (di.newL _ sb e g) ⟨p,_,rfl,g,aJ sb g,aY,i.append j⟩ h
theorem vq (h:PE X a (av X.K e))(i:PE X b (av X.K g)):PE X (.BinOp a .Add b p) (av X.K (ao yO e g)):=(n5 GN h i).imp (cH GL)
def aE (N:List Str)(e:List S):a9:=e.map some++replicate (N.length-e.length) none
theorem qb:∀ {g:List S}{vs:List V}{i:Nat}{s:S},lK K F H g vs->g[i]?=some s->∃ v,vs[i]?=some v/\fT K F H s v
 | [],_,_,_,_,h=>by simp at h
 |s::g,_,0,u,⟨v,r,e,p,q⟩,h=>by subst e;simp at h;subst h;exact⟨v,by simp,p⟩
 |s::g,_,i+1,u,⟨v,r,e,p,q⟩,h=>by
  subst e;obtain⟨y,j,k⟩:=qb (i:=i) q (by simpa using h)
  exact⟨y,by simpa using j,k⟩
theorem iO:∀ {g:List S}{vs:List V},lK K F H g vs->vs.length=g.length
 | [],_,e=>by cases (show _=[] from e);rfl
 |s::g,_,⟨v,r,e,p,q⟩=>by subst e;rw[length_cons,length_cons,iO q]
theorem qi {N:List Str}{g:List S}{i:Nat}{s:S}(h:(aE N g)[i]?=some (some s)):g[i]?=some s:=by
 unfold aE at h
 by_cases hi:i<g.length
 .rw[getElem?_append_left (by simpa using hi),getElem?_map]at h
  cases e:g[i]? with
  |none=>rw[e]at h;cases h
  |some u=>rw[e]at h;simpa using h
 .rw[getElem?_append_right (by simpa using hi),getElem?_replicate]at h
  split at h <;> cases h
theorem qa {K:Frg}{H:Hp}{N:List Str}{g:List S}{vs:List V}(tk:kU K H)(p:g.length<=N.length)(m:∀ s∈g,Af s)(r:lK K H H g vs):Rel K H H (L2.start N vs) (aE N g):=by
 have e:=iO r;refine⟨Same.refl _,λ_ _ h _=>.inl h,?_,λi s h=>?_,λi j a n e _ e=>?_,tk⟩
 .unfold L2.start aE;rw[List.length_append,List.length_append,length_map,length_map,length_replicate,length_replicate];ext
 .have e:=qi h;obtain⟨v,k,o⟩:=qb r e;refine⟨v,?_,?_⟩
  .unfold L2.start;have hi:i<vs.length:=by rw[List.getElem?_eq_some_iff]at k;exact k.1
   rw[getElem?_append_left (by simpa using hi),getElem?_map,k]
   rfl
  .have:=m s (mem_of_getElem? e)
   cases s with
   |t x=>exact o
   |vt n=>exact this.elim
   |ol n=>exact this.elim
 .have:=m _ (mem_of_getElem? (qi e));exact this.elim
section
variable {P:Program}{wd:World}{K:Frg}{mg:Str->Option Value}{base:Heap}
theorem AB (F:HJ K x e st f o)(S:ay N ps (al st))
  (n:∀ g R,sp g R->g.length=ps.length)
  (y:∀ (i:Value) (A:Around) (outer:List Env) (s:Shared) (H:Hp) (E:XK),b9 k (A.deeper (PyProof.Rows.envOfC e (al st) s.heap.objs.size f i))->jT (oY wJ P wd K mg base N e (al st) f i A outer s H E).nox (cq st) (bI K H w))
  (h:∀ g R,sp g R->w {nx:=λ_=>R (.t .non),rt:=R} (aE N g)):h8 P wd K mg base wJ (k+1) f o ps (sR K sp):=by
 have pl:ps.length<=N.length:=by
  have:=congrArg List.length S.pre;rw[length_take]at this;ext
 refine F.ok S (λm H Q E j=>?_) (λi A outer s H m Q E B j=>?_)
 .obtain⟨g,R,_,_,r,j,_⟩:=j;rw[iO r,n g R j]
 .obtain⟨g,R,m,p,r,j,k⟩:=j;refine⟨_,y i A outer s H E B,aE N g,_,H,Same.refl _,qa m (by rw[n g R j];exact pl) p r,h g R j,⟨λg g g i ff i q=>?_,λv g j p m rc q=>k v g j p m rc q,λ_ _ _ _ _ _ z=>z.elim,λ_ _ _ _ _ _ z=>z.elim⟩⟩
  exact k .non g (.t .non) (ff.trans i.sub) i.tab rfl q
theorem pE (F:HJ K x q st f e)(m:mg x=some (.ref f))(b:Binds K e ps [])(h:h8 P wd K mg base wJ k f e ps (sR K sp)):Callee P wd K mg base k x sp:=
 ⟨f,e,ps,m,h,b,F.kp⟩
def xV:aN:=λe R=>∃ ns:List Int,e=[.t (.lst (ns.map .int))]/\ns.length<=63/\R (.t (.bl true))
theorem Kg {K:Frg}{H:Hp}{a:Addr}{ns:List Int}(tk:kU K H)(i:ns.length<=63)(g:cV K H a (ns.map V.int)):sR K xV [.ref a] H (λv _=>v=.bl true) λ_ _ _=>False:=
 ⟨[.t (.lst (ns.map .int))],λs=>s=.t (.bl true),tk,λs h=>by simp at h;subst h;exact True.intro,⟨.ref a,[],rfl,by show aB K H (.lst _) _;unfold aB;exact⟨a,_,rfl,g,au.ints ns⟩,rfl⟩,⟨ns,rfl,i,rfl⟩,λv h s _ _ rc e=>by subst e;exact rc⟩
end
def oW (own:Nat)(fr:List Nat)(e:a9):a9:=replicate own none++fr.map λi=>(e[i]?).join
def pN (k:T->Prop):S->Prop
 | .t y=>ke y=true/\k y
 | .ol e=>cF e=true/\k (.lst e)
 | .vt _=>False
def nh (g:WG)(j:WT)(te:WE)(ts:List T)(i:a9)(R:List T->Prop):Prop:=∃ I:List T->a9->List T->Prop,I ts i []/\(∀ i e,I [] i e->R e)/\∀ x r i e,I (x::r) i e →
 g x i λh=>j h λok=>if ok=true then te h λs=>pN (λy=>e.length<100000/\I r h (e++[y])) s else I r h e
def dI (own:Nat)(fr:List Nat)(j:WI)(g:WG)(h:WT)(te:WE):WE:=λe R=>j e λi e=>nh g h te i (oW own fr (freeze e)) λe=>R (.ol e)
def lG:WT:=λ_ R=>R true
def kT (g:a9):Prop:=∀ (i:Nat) (e:List T),g[i]?≠some (some (S.ol e))
def LY (g:WG):Prop:=∀ t e R,kT e->g t e R->g t e λe=>kT e/\R e
def EM (g:List T->a9->(a9->Prop)->Prop):Prop:=∀ t e R,kT e->g t e R->g t e λe=>kT e/\R e
theorem kT.set (h:kT g)(i:Nat)(t:T):kT (g.set i (some (.t t))):=λj k e=>by
 by_cases z:i=j
 .subst z;rw[getElem?_set]at e;simp at e
 .rw[getElem?_set_ne z]at e;exact h j k e
theorem bK:LY (aH i):=λt e R h q=>⟨h.set i t,q⟩
theorem BO:EM hV:=λe g R h q=>by
 cases e with
 |nil=>exact⟨h,q⟩
 |cons t r=>exact q
theorem pL (m:LY g)(n:EM k)(mg:∀ t i (R j:a9->Prop),g t i R->(∀ e,R e->j e)->g t i j):EM (bA g k):=λj i R h q=>by
 cases j with
 |nil=>exact q
 |cons t r=>exact mg _ _ _ _ (m t i _ h q) <| by rintro e ⟨i,j⟩;exact n r e R i j
theorem pV:∀ t h (R g:a9->Prop),aH i t h R->(∀ e,R e->g e)->aH i t h g:=λ_ _ _ _ q k=>k _ q
theorem FU (e:EM g):LY (jt g):=λt j R h q=>by
 cases t with
 |tup i=>exact e i j R h q
 |_=>exact q
def tm (K:Frg)(H F:Hp)(t:T)(v:V):Prop:=(ke t=true/\aB K F t v)\/∃ e a x,t=.lst e/\cF e=true/\v=.ref a/\H a=none/\F a=some (.lst x)/\au K F e x
def dA (K:Frg)(H F:Hp):List T->List V->Prop
 | [],e=>e=[]
 |t::g,e=>∃ x r,e=x::r/\tm K H F t x/\dA K H F g r
theorem tm.same (e:Same F g)(h:tm K H F t v):tm K H g t v:=by
 obtain⟨p,h⟩|⟨q,a,x,i,j,k,m,n,o⟩:=h
 .exact .inl ⟨p,aB.same e h⟩
 .exact .inr ⟨q,a,x,i,j,k,m,e.get n,au.same e o⟩
theorem dA.same (e:Same F g):∀ {ts:List T}{xs:List V},dA K H F ts xs->dA K H g ts xs
 | [],_,h=>h
 |_::_,_,⟨x,r,i,j,k⟩=>⟨x,r,i,j.same e,dA.same e k⟩
theorem dA.snoc (h:tm K H F t v):∀ {ts:List T}{xs:List V},dA K H F ts xs->dA K H F (ts++[t]) (xs++[v])
 | [],_,e=>by cases (show _=[] from e);exact⟨v,[],rfl,h,rfl⟩
 |_::_,_,⟨x,r,g,i,j⟩=>by subst g;exact⟨x,r++[v],rfl,i,dA.snoc h j⟩
theorem dA.length:∀ {ts:List T}{xs:List V},dA K H F ts xs->xs.length=ts.length
 | [],_,e=>by cases (show _=[] from e);rfl
 |_::_,_,⟨x,r,h,_,g⟩=>by subst h;rw[length_cons,length_cons,dA.length g]
theorem Rel.other (r:Rel K F H σ h)(k:F a=none)(no:kT h)(y:H a=none\/∃ xs,H a=some (.lst xs)):Rel K F (cG H a (.lst ys)) σ h:=by
 refine⟨⟨λb o e n=>?_,λb p e=>?_⟩,λb o e n=>?_,r.len,λj s m=>?_,λi j b g p _ p=>absurd p (no i g),y.elim (λz=>Ew r.tab z rfl) <| by rintro⟨_,z⟩;exact uN r.tab z⟩
 .have:b≠a:=λz=>by rw[z,k]at e;cases e
  rw[aZ this];exact r.sub.all _ _ e n
 .have:b≠a:=λz=>by rw[z,k]at e;cases e
  rw[aZ this];exact r.sub.tbl _ _ e
 .unfold cG at e
  split at e
  .cases e;exact .inr ⟨ys,rfl⟩
  .exact r.full _ _ e n
 .obtain⟨v,p,q⟩:=r.slot j s m;refine⟨v,p,?_⟩
  cases s with
  |t x=>exact q
  |vt x=>exact q
  |ol g=>exact absurd m (no j g)
theorem lR (j:a9):kT (freeze j):=λi g e=>by
 obtain⟨u,_,h⟩:=jz e;exact jp u g h.symm
theorem tH (h:(oW own fr g)[i]?=some (some s)):own<=i/\∃ k,fr[i-own]?=some k/\g[k]?=some (some s):=by
 unfold oW at h
 by_cases hi:i<own
 .rw[getElem?_append_left (by simpa using hi),getElem?_replicate,if_pos hi]at h
  cases h
 .have hi:own<=i:=by omega
  refine⟨hi,?_⟩;rw[getElem?_append_right (by simpa using hi),length_replicate,getElem?_map]at h
  cases e:fr[i-own]? with
  |none=>rw[e]at h;cases h
  |some k=>
   rw[e]at h;refine⟨k,rfl,?_⟩;have e:(g[k]?).join=some s:=by simpa using h
   cases q:g[k]? with
   |none=>rw[q]at e;cases e
   |some o=>rw[q]at e;simpa using e
theorem k4 (h:kT g):kT (oW own fr g):=λi m e=>by
 obtain⟨_,k,_,j⟩:=tH e;exact h k m j
theorem Hn (r:Rel K H H σ e)(no:kT e)(m:H D=none):Rel K H (cG H D (.lst [])) (EI own fr σ) (oW own fr e):=by
 have:Rel K H H (EI own fr σ) (oW own fr e):=by
  refine⟨r.sub,r.full,?_,λi s h=>?_,λi j a n g _ g=>absurd g (k4 no i n),r.tab⟩
  .unfold EI oW;rw[List.length_append,List.length_append,length_replicate,length_replicate,length_map,length_map]
  .obtain⟨hi,k,g,n⟩:=tH h;obtain⟨v,q,o⟩:=r.slot k s n;refine⟨v,?_,o⟩;unfold EI;rw[getElem?_append_right (by simpa using hi),length_replicate,getElem?_map,g]
   simp[q]
 exact this.other m (k4 no) (.inl m)
def mf (N:List Str)(no:Nat)(fr:List Nat)(NX:List Str)(g e:Scope):Bool:=
 decide (g.kind=.function) && g.names.all (λy=>decide (y.2≠.cell)) && decide N.Nodup && decide (N.length=no+fr.length) &&
 g.names.all (λy=>decide (y.2=.local->g.names.lookup y.1=some .local)) && g.names.all (λy=>decide (y.2=.free->e.names.lookup y.1=some .cell)) &&
 (List.range no).all (λi=>match N[i]? with|some x=>decide (g.names.lookup x=some .local)|none=>true) &&
 (List.range fr.length).all (λj=>match fr[j]?,N[no+j]? with|some i,some x=>decide (NX[i]?=some x/\g.names.lookup x=some .free)|_,_=>true)
theorem Av (h:mf N no fr NX m g=true):h7 N no fr NX m g:=by
 unfold mf at h;simp only[Bool.and_eq_true,decide_eq_true_eq,List.all_eq_true,mem_range]at h;obtain⟨⟨⟨⟨⟨⟨⟨k,n⟩,o⟩,p⟩,q⟩,v⟩,y⟩,z⟩:=h;refine⟨k,n,o,p,q,v,λi x e hi=>?_,λj i x k n=>?_⟩
 .have:=y i hi;rw[e]at this;simpa using this
 .have o:j<fr.length:=(List.getElem?_eq_some_iff.mp k).1;have:=z j o;rw[k,n]at this;simpa using this
section
variable {X:Cx}{N:List Str}{own:Nat}{fr:List Nat}{scope:Scope}{elt tg iter:Expr}{ifs:List Expr}{pos:Pos}{wi:WI}{g:WG}{tc:WT}{te:WE}
theorem dX:ER Y [] (liftT Y.K lG):=by rintro pins s σ H Q I ⟨δ,R,F,rl,h,k⟩;exact G5 pins s σ H Q I (k F H true rl.refl h)
theorem j6 (h:PT Y c (liftT Y.K t)):ER Y [c] (liftT Y.K t):=G6 h
theorem pP (go:LY g):∀ σ H Q,av X.K (dI own fr wi g tc te) σ H Q->xY own fr (nO X.K wi) (ka X.K g) (liftT X.K tc) (av X.K te) σ H Q:=
 λσ H Q ⟨e,R,F,rl,h,k⟩=>⟨e,_,F,rl,h,λJ e e C G O e j L it q D P=>by
  have sH:Same H C:=e.hh;obtain⟨W,U,M,E⟩:=q;refine⟨λi m j B=>m=G.length-i/\i<=G.length/\∃ n I e o,Same C I/\I D=none/\B D=some (.lst o)/\Rel X.K I B j n/\kT n/\dA X.K H I e o/\W (G.drop i) n e,
   ⟨G.length,by simp,zero_le _,oW own fr (freeze O),C,[],[],Same.refl _,P,aY,Hn L.freeze (lR _) P,k4 (lR _),rfl,by simpa using U⟩,?_⟩
  rintro i m j B ⟨rfl,hi,n,I,e,o,O,fD,Z,j,no,U,h⟩;obtain⟨Y,C⟩:=it I B i (L.sub.trans O) j.sub j.full
  cases hd:G.drop i with
  |nil=>
   rw[hd]at h;have:G.length<=i:=by simpa using hd
   refine .inl ⟨C this,?_⟩;have C:Same H B:=(sH.trans O).trans j.sub;have ex:=j8 (x:=some D) rl.sub rl.full C (λb z=>by cases z;exact⟨o,Z⟩) (λ_=>j.tab.1)
   have C:H D=none:=aJ sH P;refine k _ _ B (.ol e) ex ⟨D,o,rfl,C,?_,Z,?_⟩ (M n e h)
   .unfold grow;rw[if_pos (by rw[C];rfl),if_pos rfl]
   .have all:∀ {e:List T}{o:List V},dA X.K H I e o->au X.K (grow F H B (some D)) e o:=by
     intro e
     induction e with
     |nil=>intro o z;exact z
     |cons t r B=>
      rintro o ⟨x,C,L,M,P⟩;refine⟨x,C,L,?_,B P⟩
      obtain⟨p,z⟩|⟨us,a,ys,rfl,p,rfl,C,B,L⟩:=M
      .exact aB.full ex.full p (aB.same j.sub z)
      .unfold aB;refine⟨a,ys,rfl,cV.of ?_,au.full ex.full p (au.same j.sub L)⟩;have:a≠D:=λz=>by rw[z,fD]at B;cases B
       unfold grow;rw[if_pos (by rw[C];rfl),if_neg (λz=>this (Option.some.inj z).symm)]
       exact j.sub.get B
    exact all U
  |cons x r=>
   rw[hd]at h;obtain⟨C,h2⟩:=tS hd;obtain⟨B,yld⟩:=Y x C;have P:i<G.length:=by
    have:=congrArg List.length hd;simp at this;omega
   refine .inr ⟨B,λv B y=>?_⟩;obtain⟨C,Y,L⟩:=yld v B y;have h:=E x r n e h;refine⟨x,n,_,C,L,j.ext Y,go x n _ no h,λj B j ⟨n,h⟩=>?_⟩;have D3:C D=none:=Y.keep D (by rw[Z];simp) fD
   have L:=Y.hh.get Z;refine⟨B,_,C,j,h,λM H4 ok E h=>?_⟩;have Z:M D=none:=E.keep D (by rw[L];simp) D3
   have C:=E.hh.get L;have L:Same I M:=Y.ff.trans E.ff
   cases ok with
   |false=>
    refine⟨G.length-(i+1),by omega,rfl,P,B,M,e,o,O.trans L,Z,C,j.ext E,n,U.same L,?_⟩
    rw[h2];simpa using h
   |true=>
    simp only[if_true]at h;refine⟨B,_,M,j.ext E,h,λw Y H5 s M p5 h=>?_⟩;have I:=M.hh.get C;refine⟨o,I,?_,G.length-(i+1),by omega,rfl,P,?_⟩
    .rw[U.length]
     cases s with
     |t y=>exact mr h.2.1
     |ol us=>exact mr h.2.1
     |vt y=>exact h.elim
    .cases s with
     |t y=>
      have G:Y D=none:=M.keep D (by rw[C];simp) Z
      refine⟨B,Y,e++[y],o++[w],(O.trans L).trans M.ff,G,aY,((j.ext E).ext M).other G n (.inr ⟨_,I⟩),n,(U.same (L.trans M.ff)).snoc (.inl ⟨h.1,p5⟩),?_⟩;rw[h2];exact h.2.2
     |ol us=>
      obtain⟨P,sz⟩:=M.frozen (j.ext E).sub;have G:grow Y H4 H5 none D=none:=P.keep D (by rw[C];simp) Z
      obtain⟨a,ys,rfl,C,M,M,Z⟩:=p5;refine⟨B,grow Y H4 H5 none,e++[.lst us],o++[.ref a],(O.trans L).trans P.ff,G,aY,((j.ext E).ext P).other G n (.inr ⟨_,I⟩),n,(U.same (L.trans P.ff)).snoc (.inr ⟨us,a,ys,rfl,h.1,rfl,?_,?_,au.same sz Z⟩),?_⟩
      .have e:Same H H4:=((sH.trans O).trans L).trans E.sub;exact aJ e C
      .unfold grow;rw[if_pos (by rw[C];rfl),if_neg (by simp)]
       exact M
      .rw[h2];exact h.2.2
     |vt y=>exact h.elim⟩
theorem eI (look:mf N own fr NX scope ar=true)(hi:PI X tg iter (nO X.K wi))(go:LY g)
  (j:∀ e s H fp,PG (cU X N scope e s H fp) tg (ka X.K g)) (k:∀ e s H fp,ER (cU X N scope e s H fp) ifs (liftT X.K tc)) (he:∀ e s H fp,PE (cU X N scope e s H fp) elt (av X.K te)) (n:X.N=NX:=by rfl) (h:X.env.scope=ar:=by rfl) (i:X.calm=true:=by rfl)
  (hs:∀ x,foldedSetIterable iter X.env x=pure x:=by intro _;rfl):PE X (.ListComp elt [⟨tg,iter,ifs,0⟩] scope pos) (av X.K (dI own fr wi g tc te)):=
 (GU (by subst n;subst h;exact Av look) i hi j k he hs).imp (pP go)
theorem dR (E:X.N.Nodup)(look:mf N own fr NX scope ar=true)(hi:PI X tg iter (nO X.K wi))(go:LY g)
  (J:∀ m s H fp,PG (cU X N scope m s H fp) tg (ka X.K g)) (L:∀ m s H fp,ER (cU X N scope m s H fp) ifs (liftT X.K tc)) (he:∀ m s H fp,PE (cU X N scope m s H fp) elt (av X.K te)) (B:X.N=NX:=by rfl) (C:X.env.scope=ar:=by rfl)
  (n:X.N[i]?=some x:=by rfl) (O:Loc X.env.scope x:=by first|exact Or.inl rfl|exact Or.inr rfl) (M:swapsWith (.ListComp elt [⟨tg,iter,ifs,0⟩] scope pos) (some (.Name x j)) k.line X.env=pure true:=by rfl) (I:X.fn x=true\/X.env.scope.names.lookup x=some .local:=by first|exact .inl rfl|exact .inr rfl|assumption) (G:X.calm=true:=by rfl)
  (hs:∀ x,foldedSetIterable iter X.env x=pure x:=by intro _;rfl):PS X (.Assign [.Name x j] (.ListComp elt [⟨tg,iter,ifs,0⟩] scope pos) k) (bI X.K H₀ (aG i (dI own fr wi g tc te))):=
 (G2 (i:=i) E n O (by subst B;subst C;exact Av look) G hi J L he hs M I).imp <| by rintro D R H ⟨Q,U,F,s0,o,h,ok⟩;exact pP go R H _ ⟨Q,_,F,o,h,λv Y z s e p q=>by
  obtain⟨y,ff,P⟩:=o.setS i e p;exact ok.nx _ y z _ ff P q⟩
end
end DL
namespace DL
open L2
def look (i:Nat)(e:a9)(k:S->Prop):Prop:=match e[i]? with
 |some (some s)=>k s
 |_=>False
theorem Kr (s:S)(r:a9)(k:S->Prop):look 0 (some s::r) k=k s:=rfl
theorem Ks (i:Nat)(x:Option S)(r:a9)(k:S->Prop):look (i+1) (x::r) k=look i r k:=rfl
def nR (i:Nat)(e:a9)(k:List T->Prop):Prop:=match e[i]? with
 |some (some (.ol ts))=>k ts
 |_=>False
theorem Gm (ts:List T)(r:a9)(k:List T->Prop):nR 0 (some (.ol ts)::r) k=k ts:=rfl
theorem Gn (i:Nat)(x:Option S)(r:a9)(k:List T->Prop):nR (i+1) (x::r) k=nR i r k:=rfl
section
variable (D:tj) (δ:a9) (R:S->Prop) (w u:WS) (we wa wb wv:WE) (ws:WA) (i j:Nat) (x y:T) (s:S) (t c:WT)
theorem MC:aC w u D δ=w {D with nx:=u D} δ:=rfl
theorem MD:aG i we D δ=we δ λs=>D.nx (setS i s δ):=rfl
theorem OJ:hI c w u D δ=c δ λk=>if k=true then w D δ else u D δ:=rfl
theorem MB:bw we D δ=we δ λs=>D.rt (out s):=rfl
theorem Jc:iG i D δ=look i δ D.rt:=rfl
theorem Jb:Oh D δ=D.rt (.t .non):=rfl
theorem IX:bz D δ=D.nx δ:=rfl
theorem EW:LQ D δ=D.bk δ:=rfl
theorem IJ:Od D δ=D.ct δ:=rfl
theorem IK:uS we D δ=we δ λ_=>D.nx δ:=rfl
theorem MG:ae i δ R=look i δ λs=>R (seen s):=rfl
theorem PQ:wC x δ R=R (.t x):=rfl
theorem Mw (f:S->S->(S->Prop)->Prop):ao f wa wb δ R=wa δ λx=>wb δ λy=>f x y R:=rfl
theorem OL (f:S->(S->Prop)->Prop):uY f wa δ R=wa δ λx=>f x R:=rfl
theorem PP (C:Int->Int->Prop)(g:Int->Int->T)(i j:Int):fI C g (.t (.int i)) (.t (.int j)) R=(C i j/\R (.t (g i j))):=rfl
theorem OH (g:Int->Int->T)(i j:Int):FP g (.t (.int i)) (.t (.int j)) R=R (.t (g i j)):=rfl
theorem Mu (i:Int):ie (.t (.int i)) R=R (.t (.int (-i))):=rfl
theorem Mq (ts:List T)(i:Int):aK (.t (.tup ts)) (.t (.int i)) R=atT ts i R:=rfl
theorem Mo (ts:List T)(i:Int):aK (.t (.lst ts)) (.t (.int i)) R=atT ts i R:=rfl
theorem Ms (ts:List T)(i:Int):aK (.vt (.tup ts)) (.t (.int i)) R=uX ts i R:=rfl
theorem Mr (ts:List T)(i:Int):aK (.vt (.lst ts)) (.t (.int i)) R=uX ts i R:=rfl
theorem Mp (ts:List T)(i:Int):aK (.ol ts) (.t (.int i)) R=atT ts i R:=rfl
theorem eX {ts:List T}{i:Int}{x:T}{R:S->Prop}(h:atI ts i=some x):atT ts i R=R (.t x):=by unfold atT;rw[h]
theorem dj {α:Type}{ts:List α}{n:Nat}{x:α}(h:ts[n]?=some x):atI ts (n:Int)=some x:=Fi h
theorem MK (r:List T):atT (x::r) 0 R=R (.t x):=eX (dj (n:=0) rfl)
theorem ML (r:List T):atT (x::y::r) 1 R=R (.t y):=eX (dj (n:=1) rfl)
theorem MM (z:T)(r:List T):atT (x::y::z::r) 2 R=R (.t z):=eX (dj (n:=2) rfl)
theorem MN (z e:T)(r:List T):atT (x::y::z::e::r) 3 R=R (.t e):=eX (dj (n:=3) rfl)
theorem gr {ts:List T}{i:Int}{x:T}{R:S->Prop}(h:atI ts i=some x):uX ts i R=R (norm x):=by unfold uX;rw[h]
theorem MO (r:List T):uX (x::r) 0 R=R (norm x):=gr (dj (n:=0) rfl)
theorem MP (r:List T):uX (x::y::r) 1 R=R (norm y):=gr (dj (n:=1) rfl)
theorem MQ (z:T)(r:List T):uX (x::y::z::r) 2 R=R (norm z):=gr (dj (n:=2) rfl)
theorem MR (z e:T)(r:List T):uX (x::y::z::e::r) 3 R=R (norm e):=gr (dj (n:=3) rfl)
theorem eM {x:T}(h:ke x=true):norm x=.t x:=if_pos h
theorem Dw:norm .non=.t .non:=rfl
theorem Gs (b:Bool):norm (.bl b)=.t (.bl b):=rfl
theorem Du (i:Int):norm (.int i)=.t (.int i):=rfl
theorem Dy (i:PySem.Str):norm (.str i)=.t (.str i):=rfl
theorem Dt (i:PySem.Str):norm (.exc i)=.t (.exc i):=rfl
theorem Dv (ts:List T):norm (.lst ts)=.vt (.lst ts):=rfl
theorem Gu (a b:Int):norm (.tup [.int a,.int b])=.t (.tup [.int a,.int b]):=rfl
theorem Dx (a b c:Int):norm (.tup [.int a,.int b,.int c])=.t (.tup [.int a,.int b,.int c]):=rfl
theorem Gv (a b c d:Int):norm (.tup [.tup [.int a,.int b],.tup [.int c,.int d]])=.t (.tup [.tup [.int a,.int b],.tup [.int c,.int d]]):=rfl
theorem JW:setS i (.t x) δ=δ.set i (some (.t x)):=rfl
theorem JV (ts:List T):setS i (.ol ts) δ=δ.set i (some (.ol ts)):=rfl
theorem JX:setS i (.vt x) δ=(freeze δ).set i (some (.t x)):=rfl
theorem FM:seen (.t x)=.t x:=rfl
theorem FN:seen (.vt x)=.vt x:=rfl
theorem FL (ts:List T):seen (.ol ts)=.vt (.lst ts):=rfl
theorem JT:out (.t x)=.t x:=rfl
theorem JU:out (.vt x)=.t x:=rfl
theorem JS (ts:List T):out (.ol ts)=.ol ts:=rfl
theorem JL:lM (.t x)=.t x:=rfl
theorem JM:lM (.vt x)=.t x:=rfl
theorem JK (ts:List T):lM (.ol ts)=.t (.lst ts):=rfl
theorem JR:got (.t x)=norm x:=rfl
theorem eE (ts:List T)(h:cF ts=true):got (.ol ts)=.ol ts:=if_pos h
theorem JQ:dZ (.t x)=.t x:=rfl
theorem JO (ts:List T):dZ (.ol ts)=.t (.lst ts):=rfl
theorem M3:freeze []=[]:=rfl
theorem JN (r:a9):freeze (none::r)=none::freeze r:=rfl
theorem JP (s:S)(r:a9):freeze (some s::r)=some (dZ s)::freeze r:=rfl
theorem M5:tr (.t x)=x:=rfl
theorem M6:tr (.vt x)=x:=rfl
theorem M4 (ts:List T):tr (.ol ts)=.lst ts:=rfl
def PC (R:Bool->Prop):S->Prop
 | .t (.bl k)=>R k
 |_=>False
theorem PN (R:Bool->Prop):wB we δ R=we δ (PC R):=rfl
theorem Ji (R:Bool->Prop)(k:Bool):PC R (.t (.bl k))=R k:=rfl
theorem IE (R:Bool->Prop):js t c δ R=t δ λk=>if k=true then c δ R else R false:=rfl
theorem Mx (R:Bool->Prop):HE t c δ R=t δ λk=>if k=true then R true else c δ R:=rfl
theorem IZ (R:Bool->Prop):Of t δ R=t δ λk=>R (!k):=rfl
def MI (B:Prop)(R:S->Prop):S->Prop
 | .t (.bl k)=>if k=true then B else R (.t (.bl false))
 |_=>False
def PD (B:Prop)(R:S->Prop):S->Prop
 | .t (.bl k)=>if k=true then R (.t (.bl true)) else B
 |_=>False
def Nx (R:S->Prop):S->Prop
 | .t (.bl k)=>R (.t (.bl (!k)))
 |_=>False
theorem IF:Oc wa wb δ R=wa δ (MI (wb δ R) R):=rfl
theorem My:Px wa wb δ R=wa δ (PD (wb δ R) R):=rfl
theorem I0:Og wa δ R=wa δ (Nx R):=rfl
theorem Fe (B:Prop)(k:Bool):MI B R (.t (.bl k))=if k=true then B else R (.t (.bl false)):=rfl
theorem KS (B:Prop)(k:Bool):PD B R (.t (.bl k))=if k=true then R (.t (.bl true)) else B:=rfl
theorem Gw (k:Bool):Nx R (.t (.bl k))=R (.t (.bl (!k))):=rfl
theorem Mm:Pw c wa wb δ R=c δ λk=>if k=true then wa δ R else wb δ R:=rfl
theorem OI (f:List S->(S->Prop)->Prop):eh f ws δ R=ws δ λe=>f e R:=rfl
theorem Mv (R:List S->Prop):ap δ R=R []:=rfl
theorem II (R:List S->Prop):ac wa ws δ R=wa δ λx=>ws δ λxs=>R (x::xs):=rfl
def tupK (R:S->Prop)(g:List S):Prop:=match kD g with
 |some e=>if e.length<=1000 then R (.t (.tup e)) else False
 |none=>False
def lstK (R:S->Prop)(g:List S):Prop:=match kD g with
 |some e=>if e.length<=1000 then R (.ol e) else False
 |none=>False
theorem ME:bX ws δ R=ws δ (tupK R):=rfl
theorem Mt:iF ws δ R=ws δ (lstK R):=rfl
theorem Po:tupK R [.t x]=R (.t (.tup [x])):=rfl
theorem Pp:tupK R [.t x,.t y]=R (.t (.tup [x,y])):=rfl
theorem Pq (z:T):tupK R [.t x,.t y,.t z]=R (.t (.tup [x,y,z])):=rfl
theorem OZ:lstK R []=R (.ol []):=rfl
theorem O0:lstK R [.t x]=R (.ol [x]):=rfl
theorem O1:lstK R [.t x,.t y]=R (.ol [x,y]):=rfl
theorem O2 (z:T):lstK R [.t x,.t y,.t z]=R (.ol [x,y,z]):=rfl
theorem O3 (z e:T):lstK R [.t x,.t y,.t z,.t e]=R (.ol [x,y,z,e]):=rfl
theorem Ps (z e:T):tupK R [.t x,.t y,.t z,.t e]=R (.t (.tup [x,y,z,e])):=rfl
theorem IG (sp:aN):aw sp ws δ R=ws δ λe=>sp (e.map lM) λs=>R (got s):=rfl
theorem IS (ts:List T):cZ [.t (.tup ts)] R=R (.t (.int ts.length)):=rfl
theorem IQ (ts:List T):cZ [.t (.lst ts)] R=R (.t (.int ts.length)):=rfl
theorem IU (ts:List T):cZ [.vt (.tup ts)] R=R (.t (.int ts.length)):=rfl
theorem IT (ts:List T):cZ [.vt (.lst ts)] R=R (.t (.int ts.length)):=rfl
theorem IR (ts:List T):cZ [.ol ts] R=R (.t (.int ts.length)):=rfl
theorem Mi (i:Int):hW [.t (.int i)] R=R (.t (.int (if i<0 then -i else i))):=rfl
theorem IV (i j:Int):tV [.t (.int i),.t (.int j)] R=R (.t (.int (if j>i then j else i))):=rfl
theorem IW (i j:Int):pI [.t (.int i),.t (.int j)] R=R (.t (.int (if j<i then j else i))):=rfl
theorem IP (i:Int):Na [.t (.int i)] R=R (.t (.int i)):=rfl
theorem IN (b:Bool):Na [.t (.bl b)] R=R (.t (.int (if b then 1 else 0))):=rfl
theorem E2 (ts:List T):qW [.t (.lst ts)] R=R (.ol ts):=rfl
theorem E4 (ts:List T):qW [.vt (.lst ts)] R=(cF ts=true/\R (.ol ts)):=rfl
theorem E3 (ts:List T):qW [.ol ts] R=R (.ol ts):=rfl
theorem M8 (i j:Int):dM (.t (.int i)) (.t (.int j)) R=R (.t (.bl (decide (i=j)))):=by
 have e:(i == j)=decide (i=j):=by cases h:(i == j) <;> simp_all
 show(dep (.int i)<=20/\dep (.int j)<=20/\R (.t (.bl (i == j))))=_;rw[e];exact propext ⟨λh=>h.2.2,λh=>⟨zero_le _,zero_le _,h⟩⟩
theorem Nv (i j:Int):dN (.t (.int i)) (.t (.int j)) R=R (.t (.bl (!decide (i=j)))):=by
 have e:(i == j)=decide (i=j):=by cases h:(i == j) <;> simp_all
 show(dep (.int i)<=20/\dep (.int j)<=20/\R (.t (.bl (!(i == j)))))=_;rw[e];exact propext ⟨λh=>h.2.2,λh=>⟨zero_le _,zero_le _,h⟩⟩
theorem OK (ty:Ty):Qc ty we δ R=we δ λs=>zL s≠.exc/\R (.t (.bl (cA (zL s) ty))):=rfl
theorem LL:zL (.t .non)=.non:=rfl
theorem N8 (b:Bool):zL (.t (.bl b))=.bool:=rfl
theorem ty_int (i:Int):zL (.t (.int i))=.int:=rfl
theorem ty_str (i:PySem.Str):zL (.t (.str i))=.str:=rfl
theorem LM (ts:List T):zL (.t (.tup ts))=.tup:=rfl
theorem HC (ts:List T):zL (.vt (.tup ts))=.tup:=rfl
theorem N9 (ts:List T):zL (.t (.lst ts))=.lst:=rfl
theorem Ob (ts:List T):zL (.vt (.lst ts))=.lst:=rfl
theorem Oa (ts:List T):zL (.ol ts)=.lst:=rfl
theorem Mn:ED wa δ R=wa δ λs=>R (.t (.bl (HZ (tr s)))):=rfl
theorem IY:qu wa δ R=wa δ λs=>R (.t (.bl (!HZ (tr s)))):=rfl
theorem Kx:(Ty.non≠Ty.exc)=True:=by simp
theorem Ky:(Ty.bool≠Ty.exc)=True:=by simp
theorem Kz:(Ty.int≠Ty.exc)=True:=by simp
theorem KA:(Ty.str≠Ty.exc)=True:=by simp
theorem KB:(Ty.tup≠Ty.exc)=True:=by simp
theorem KC:(Ty.lst≠Ty.exc)=True:=by simp
theorem Ml (h:WI)(g:WG):jS h g w D δ=h δ λts e=>yQ g w ts D e:=rfl
theorem Aa (W:List T->a9->Prop):cj we δ W=we δ (pT δ W):=rfl
theorem Gi (W:List T->a9->Prop)(ts:List T):pT δ W (.t (.lst ts))=W ts δ:=rfl
theorem Gk (W:List T->a9->Prop)(ts:List T):pT δ W (.vt (.lst ts))=W ts (freeze δ):=rfl
theorem Gj (W:List T->a9->Prop)(ts:List T):pT δ W (.ol ts)=W ts δ:=rfl
theorem Fb (W:List T->a9->Prop):EH we δ W=we δ (N4 δ W):=rfl
theorem N5 (W:List T->a9->Prop)(ts:List T):N4 δ W (.t (.tup ts))=W ts δ:=rfl
theorem N6 (W:List T->a9->Prop)(ts:List T):N4 δ W (.vt (.tup ts))=W ts (freeze δ):=rfl
def NU (δ:a9)(W:List T->a9->Prop):List S->Prop
 | [.t (.int j)]=>jk j/\W (bU 0 j.toNat) δ
 |_=>False
theorem Ab (W:List T->a9->Prop):fk ws δ W=ws δ (NU δ W):=rfl
theorem Lm (W:List T->a9->Prop)(j:Int):NU δ W [.t (.int j)]=(jk j/\W (bU 0 j.toNat) δ):=rfl
def Il (δ:a9)(W:List T->a9->Prop):List S->Prop
 | [.t (.int i),.t (.int j)]=>jk i/\jk j/\W (bU i (j-i).toNat) δ
 |_=>False
theorem Ac (W:List T->a9->Prop):LS ws δ W=ws δ (Il δ W):=rfl
theorem Ln (W:List T->a9->Prop)(i j:Int):Il δ W [.t (.int i),.t (.int j)]=(jk i/\jk j/\W (bU i (j-i).toNat) δ):=rfl
theorem E1 (R:a9->Prop):aH i x δ R=R (δ.set i (some (.t x))):=rfl
theorem IM (g:List T->a9->(a9->Prop)->Prop)(R:a9->Prop)(ts:List T):jt g (.tup ts) δ R=g ts δ R:=rfl
theorem IL (R:a9->Prop):hV [] δ R=R δ:=rfl
theorem EZ (g:WG)(h:List T->a9->(a9->Prop)->Prop)(R:a9->Prop)(r:List T):bA g h (x::r) δ R=g x δ λe=>h r e R:=rfl
theorem MF (g:WG):uU we g D δ=we δ (HD g δ D.nx):=rfl
theorem LO (g:WG)(N:a9->Prop):HD g δ N (.t x)=g x δ N:=rfl
theorem LP (g:WG)(N:a9->Prop):HD g δ N (.vt x)=g x (freeze δ) N:=rfl
def NG (i j:Nat)(δ:a9)(N:a9->Prop):List S->Prop
 | [.t x,.t y]=>N ((δ.set i (some (.t x))).set j (some (.t y)))
 |_=>False
theorem Mz:HF i j ws D δ=ws δ (NG i j δ D.nx):=rfl
theorem KW (N:a9->Prop):NG i j δ N [.t x,.t y]=N ((δ.set i (some (.t x))).set j (some (.t y))):=rfl
theorem E7 (e h:a9->(Option Int->Prop)->Prop):g0 we e h δ R=we δ λs=>e δ λlo=>h δ λhi=>wy lo hi R s:=rfl
theorem Lv (lo hi:Option Int)(ts:List T):wy lo hi R (.t (.lst ts))=R (.ol (fW ts lo hi)):=rfl
theorem Lx (lo hi:Option Int)(ts:List T):wy lo hi R (.vt (.lst ts))=(cF ts=true/\R (.ol (fW ts lo hi))):=rfl
theorem Lw (lo hi:Option Int)(ts:List T):wy lo hi R (.ol ts)=R (.ol (fW ts lo hi)):=rfl
theorem Jd:EG we D δ=we (freeze δ) λs=>D.rt (out s):=rfl
theorem Mj (a b:S):yO a b R=qI (λts=>qI (λus=>ts.length+us.length<=100000/\R (.ol (ts++us))) b) a:=rfl
theorem Jr (R:List T->Prop)(ts:List T):qI R (.t (.lst ts))=R ts:=rfl
theorem Jt (R:List T->Prop)(ts:List T):qI R (.vt (.lst ts))=(cF ts=true/\R ts):=rfl
theorem Js (R:List T->Prop)(ts:List T):qI R (.ol ts)=R ts:=rfl
theorem IH (own:Nat)(fr:List Nat)(k:WI)(g:WG)(te:WE):dI own fr k g t te δ R=k δ λts h=>nh g t te ts (oW own fr (freeze h)) λe=>R (.ol e):=rfl
theorem MH (R:Bool->Prop):lG δ R=R true:=rfl
theorem xr (k:T->Prop):pN k (.t x)=(ke x=true/\k x):=rfl
theorem F0 (k:T->Prop)(ts:List T):pN k (.ol ts)=(cF ts=true/\k (.lst ts)):=rfl
theorem G9:ke .non=true:=rfl
theorem Le (b:Bool):ke (.bl b)=true:=rfl
theorem G7 (b:Int):ke (.int b)=true:=rfl
theorem Ha (b:PySem.Str):ke (.str b)=true:=rfl
theorem Hb (ts:List T):ke (.tup ts)=cF ts:=rfl
theorem G8 (ts:List T):ke (.lst ts)=false:=rfl
theorem D2:cF []=true:=rfl
theorem p6 (ts:List T):cF (x::ts)=(ke x && cF ts):=rfl
theorem E5 (R:Option Int->Prop):gZ δ R=R none:=rfl
def NM (R:Option Int->Prop):S->Prop
 | .t (.int i)=>R (some i)
 |_=>False
theorem Ja (R:Option Int->Prop):kF we δ R=we δ (NM R):=rfl
theorem K9 (R:Option Int->Prop)(i:Int):NM R (.t (.int i))=R (some i):=rfl
def MJ (i:Nat)(δ:a9)(N:a9->Prop)(ts:List T):S->Prop
 | .t x=>ts.length<100000/\N (δ.set i (some (.ol (ts++[x]))))
 |_=>False
theorem zX:eO i we D δ=nR i δ λts=>we δ (MJ i δ D.nx ts):=rfl
theorem Jh (N:a9->Prop)(ts:List T):MJ i δ N ts (.t x)=(ts.length<100000/\N (δ.set i (some (.ol (ts++[x]))))):=rfl
theorem MA:HG i D δ=nR i δ λts=>ts≠[]/\D.nx (δ.set i (some (.ol ts.dropLast))):=rfl
def Ht (i:Nat)(δ:a9)(N:a9->Prop)(ts:List T):S->S->Prop
 | .t x,.t (.int k)=>match rM ts.length k with
  |some j=>N (δ.set i (some (.ol (ts.set j x))))
  |none=>False
 |_,_=>False
theorem E6:lF i we wv D δ=nR i δ λts=>wv δ λv=>we δ λs=>Ht i δ D.nx ts v s:=rfl
end
theorem wU {ts:List T}{i:Int}{R:S->Prop}(j:0<=i)(k:i<ts.length)(h:∀ x∈ts,R (.t x)):atT ts i R:=by
 have g:i.toNat<ts.length:=⋯
 have e:i=((i.toNat:Nat):Int):=⋯
 rw[e,eX (dj (x:=ts[i.toNat]) (by simp[g]))]
 exact h _ (getElem_mem g)
theorem Ah {ns:List Int}{i:Int}{R:S->Prop}(e:0<=i)(g:i<ns.length)(h:∀ v∈ns,R (.t (.int v))):atT (ns.map .int) i R:=
 wU e (by rw[length_map];exact g) λx k=>by
  obtain⟨v,j,rfl⟩:=mem_map.mp k;exact h v j
theorem AF {i j:Int}(h:j≠0)(e:j.natAbs.log2<9000):mO i j:=⟨h,PyProof.noPylong_of_log2 e⟩
theorem Gq {i j:Int} (h:-18446744073709551616<i) (e:i<18446744073709551616):MulOk i j:=⟨EK.ok (.inl ⟨⋯,⋯⟩)⟩
theorem Nr {i j:Int} (h:-18446744073709551616<j) (e:j<18446744073709551616):MulOk i j:=⟨EK.ok (.inr ⟨⋯,⋯⟩)⟩
theorem kX (i:Int):(if i<0 then -i else i)=(i.natAbs:Int):=by split <;> ext
theorem nG (g l:Nat):(g:Int).fmod (l:Int)=((g % l:Nat):Int):=by
 rw[Int.fmod_eq_emod_of_nonneg _ (Int.natCast_nonneg l)];rfl
theorem fmod_lo (c:Int){n:Int}(h:0<n):0<=c.fmod n:=Int.fmod_nonneg_of_pos c h
theorem fmod_hi (c:Int){n:Int}(h:0<n):c.fmod n<n:=Int.fmod_lt_of_pos c h
structure Sz (n:Nat) (i:Int):Prop where
 lt:i.natAbs<2 ^ n
theorem Sz.mono (h:Sz m i)(l:m<=n):Sz n i:=⟨lt_of_lt_of_le h.lt (Nat.pow_le_pow_right ⋯ l)⟩
theorem Sz.mul (h:Sz m a)(e:Sz n b):Sz (m+n) (a*b):=by
 have h:=h.lt;have e:=e.lt;refine⟨?_⟩;rw[Int.natAbs_mul,Nat.pow_add];exact Nat.mul_lt_mul_of_lt_of_le h (Nat.le_of_lt e) (Nat.pos_of_ne_zero (by have:=Nat.two_pow_pos n;omega))
theorem x8 (e:x<2 ^ m)(g:y<2 ^ n):x+y<2 ^ (max m n+1):=by
 have h:2 ^ m<=2 ^ max m n:=Nat.pow_le_pow_right ⋯ (Nat.le_max_left _ _)
 have h:2 ^ n<=2 ^ max m n:=Nat.pow_le_pow_right ⋯ (Nat.le_max_right _ _)
 rw[Nat.pow_succ];omega
theorem Sz.add (h:Sz m a)(e:Sz n b):Sz (max m n+1) (a+b):=by
 have:=x8 h.lt e.lt;refine⟨?_⟩;omega
theorem Sz.sub (h:Sz m a)(e:Sz n b):Sz (max m n+1) (a-b):=by
 have:=x8 h.lt e.lt;refine⟨?_⟩;omega
theorem Sz.neg (h:Sz m a):Sz m (-a):=by
 refine⟨?_⟩;rw[Int.natAbs_neg];exact h.lt
theorem natAbs_fdiv_le (a b:Int):(a.fdiv b).natAbs<=a.natAbs:=by
 cases a with
 |ofNat m=>
  cases b with
  |ofNat n=>
   cases m with
   |zero=>show(0:Int).natAbs<=_;simp
   |succ m=>show(Int.ofNat ((m+1) / n)).natAbs<=m+1;exact div_le_self (m+1) n
  |negSucc n=>
   cases m with
   |zero=>show(0:Int).natAbs<=_;simp
   |succ m=>
    show(Int.negSucc (m / (n+1))).natAbs<=m+1;have:(Int.negSucc (m / (n+1))).natAbs=m / (n+1)+1:=rfl;rw[this];have:=div_le_self m (n+1);omega
 |negSucc m=>
  cases b with
  |ofNat n=>
   cases n with
   |zero=>show(0:Int).natAbs<=_;simp
   |succ n=>
    show(Int.negSucc (m / (n+1))).natAbs<=m+1;have:(Int.negSucc (m / (n+1))).natAbs=m / (n+1)+1:=rfl;rw[this];have:=div_le_self m (n+1);omega
  |negSucc n=>
   show(Int.ofNat ((m+1) / (n+1))).natAbs<=m+1;exact div_le_self (m+1) (n+1)
theorem Sz.fdiv (h:Sz m a)(b:Int):Sz m (a.fdiv b):=⟨lt_of_le_of_lt (natAbs_fdiv_le a b) h.lt⟩
theorem Sz.fmod (e:Sz m b)(h:0<b)(a:Int):Sz m (a.fmod b):=by
 have g:=Int.fmod_nonneg_of_pos a h;have g:=Int.fmod_lt_of_pos a h;have:=e.lt;exact⟨by omega⟩
theorem Sz.of {m:Nat}{a:Int}(h:-(2 ^ m:Nat)<a)(e:a<(2 ^ m:Nat)):Sz m a:=⟨by omega⟩
theorem Sz.gcdL (g:Sz m a)(h:a≠0):Sz m (Int.gcd a b):=by
 have:Int.gcd a b<=a.natAbs:=Nat.le_of_dvd (by omega) (Int.gcd_dvd_natAbs_left a b)
 have:=g.lt;have e:((Int.gcd a b:Nat):Int).natAbs=Int.gcd a b:=rfl;refine⟨?_⟩;rw[e];omega
theorem Sz.gcd (g:Sz m a)(i:Sz n b):Sz (max m n) (Int.gcd a b):=by
 by_cases h:a=0
 .subst h;have e:Int.gcd 0 b=b.natAbs:=Int.gcd_zero_left b;rw[e];exact Sz.mono (show Sz n (b.natAbs:Int) from⟨i.lt⟩) (Nat.le_max_right _ _)
 .exact(Sz.gcdL g h).mono (Nat.le_max_left _ _)
theorem mZ (h:Sz n a)(i:n<=1048576):PySem.Builtin.Int.intBits a<=2 ^ 20:=by
 unfold PySem.Builtin.Int.intBits;have e:(2:Nat) ^ 20=1048576:=⋯
 rw[e]
 by_cases g:a.natAbs=0
 .simp only[g];split <;> first|omega|simp
 .have:=(Nat.log2_lt g).mpr h.lt
  first
   |omega
   | (simp only[g];omega)
   | (split <;> omega)
theorem bF (g:Sz m a)(i:Sz n b)(h:m<=1048576)(e:n<=1048576):MulOk a b:=⟨PySem.IntMulOk.of_bits (mZ g h) (mZ i e)⟩
theorem xf (h:j≠0)(hs:Sz n j)(g:n<=9000):mO i j:=by
 refine AF h ?_;have e:j.natAbs≠0:=by omega
 have:=(Nat.log2_lt e).mpr hs.lt;omega
theorem JH (h:j≠0)(hs:Sz n i)(m:n<=13500):mO i j:=by
 refine⟨h,?_⟩;unfold PySem.Builtin.divisionGoesByPylong;simp only[Bool.and_eq_false_iff,decide_eq_false_iff_not]
 by_cases k:(if (j == 0)=true then 0 else j.natAbs.log2 / 30+1)>300
 .right
  by_cases e:(i == 0)=true
  .rw[if_pos e];omega
  .rw[if_neg e];have g:i.natAbs≠0:=by simpa using e
   have:=(Nat.log2_lt g).mpr hs.lt;omega
 .left;exact k
theorem ki (h:-(2 ^ 62)<=i)(e:i<2 ^ 62):jk i:=⟨h,e⟩
theorem DY (h:0<=j)(e:j<=1000000)(g:i.natAbs<2 ^ 64):zU i j:=⟨⟨h,e,g⟩⟩
abbrev Fr:=Int × Int
abbrev Pt:=Int × Int
abbrev aT:=Fr × Fr
abbrev Hf:=Int × Int × Int
def aW (p:Pt):T:=.tup [.int p.1,.int p.2]
def pK (p:Fr):T:=.tup [.int p.1,.int p.2]
def spT (s:aT):T:=.tup [pK s.1,pK s.2]
def bd (h:Hf):T:=.tup [.int h.1,.int h.2.1,.int h.2.2]
theorem xO (p:Pt):ke (aW p)=true:=rfl
theorem bG {α:Type}{f:α->T}(h:∀ a,ke (f a)=true):∀ l:List α,cF (l.map f)=true
 | []=>rfl
 |a::r=>by rw[map_cons,p6,h a,bG h r];rfl
theorem fY {α:Type}{f:α->T}{n:Nat}(h:∀ a,dep (f a)<=n):∀ l:List α,fX (l.map f)<=n
 | []=>zero_le _
 |a::r=>by
  rw[map_cons];have:=fY h r;have:=h a;simp only[fX];ext
theorem nA {α:Type}{f:α->T}(h:∀ a b,eqT (f a) (f b)=true↔a=b):∀ l m:List α,cE (l.map f) (m.map f)=true↔l=m
 | [],[]=>by simp[cE]
 | [],_::_=>by simp[cE]
 |_::_,[]=>by simp[cE]
 |a::r,b::s=>by
  simp only[map_cons,cE,Bool.and_eq_true,h a b,nA h r s,List.cons.injEq]
theorem bu (a b:Int):eqT (.int a) (.int b)=true↔a=b:=by simp[eqT]
theorem bv (a b:Pt):eqT (aW a) (aW b)=true↔a=b:=by
 simp only[aW,eqT,cE,Bool.and_eq_true,beq_iff_eq,Bool.and_true,Prod.ext_iff]
theorem bf (a b:aT):eqT (spT a) (spT b)=true↔a=b:=by
 obtain⟨⟨e,e⟩,e,e⟩:=a;obtain⟨⟨e,e⟩,e,e⟩:=b;simp only[spT,pK,eqT,cE,Bool.and_eq_true,beq_iff_eq,Bool.and_true,Prod.mk.injEq]
theorem bt (a b:Hf):eqT (bd a) (bd b)=true↔a=b:=by
 obtain⟨e,e,e⟩:=a;obtain⟨e,e,e⟩:=b;simp only[bd,eqT,cE,Bool.and_eq_true,beq_iff_eq,Bool.and_true,Prod.mk.injEq]
theorem br (a:Pt):dep (aW a)<=2:=by show 1<=2;decide
theorem bh (a:aT):dep (spT a)<=2:=by show 2<=2;decide
theorem bq (a:Hf):dep (bd a)<=2:=by show 1<=2;decide
theorem tI [Decidable P](h:b=true↔P):b=decide P:=by
 cases b with
 |true=>exact(decide_eq_true (h.mp rfl)).symm
 |false=>exact(decide_eq_false λp=>by cases h.mpr p).symm
section
variable (R:S->Prop)
theorem Bi [Decidable P](e:dep (tr a)<=20)(g:dep (tr b)<=20)(h:eqT (tr a) (tr b)=true↔P):dM a b R=R (.t (.bl (decide P))):=by
 unfold dM Oq;rw[tI h];exact propext ⟨λz=>z.2.2,λz=>⟨e,g,z⟩⟩
theorem vO [Decidable P](e:dep (tr a)<=20)(g:dep (tr b)<=20)(h:eqT (tr a) (tr b)=true↔P):dN a b R=R (.t (.bl (!decide P))):=by
 unfold dN Oq;rw[tI h];exact propext ⟨λz=>z.2.2,λz=>⟨e,g,z⟩⟩
theorem M9 (a b c d:Int):dM (.t (.tup [.int a,.int b])) (.t (.tup [.int c,.int d])) R=R (.t (.bl (decide (a=c/\b=d)))):=Bi R (by show 1<=20;decide) (by show 1<=20;decide) (by simp[tr,eqT,cE])
theorem Nw (a b c d:Int):dN (.t (.tup [.int a,.int b])) (.t (.tup [.int c,.int d])) R=R (.t (.bl (!decide (a=c/\b=d)))):=vO R (by show 1<=20;decide) (by show 1<=20;decide) (by simp[tr,eqT,cE])
theorem M7 (a b c d e f:Int):dM (.t (.tup [.int a,.int b,.int c])) (.t (.tup [.int d,.int e,.int f])) R=R (.t (.bl (decide (a=d/\b=e/\c=f)))):=Bi R (by show 1<=20;decide) (by show 1<=20;decide) (by simp[tr,eqT,cE])
theorem Nu (a b c d e f:Int):dN (.t (.tup [.int a,.int b,.int c])) (.t (.tup [.int d,.int e,.int f])) R=R (.t (.bl (!decide (a=d/\b=e/\c=f)))):=vO R (by show 1<=20;decide) (by show 1<=20;decide) (by simp[tr,eqT,cE])
theorem az {α:Type}[DecidableEq α]{f:α->T}{a b:S}{l m:List α}(g:∀ a b,eqT (f a) (f b)=true↔a=b)(hd:∀ a,dep (f a)<=2)(h:tr a=.lst (l.map f))(e:tr b=.lst (m.map f)):dM a b R=R (.t (.bl (decide (l=m)))):=
 Bi R (by rw[h];have:=fY hd l;simp only[dep];ext) (by rw[e];have:=fY hd m;simp only[dep];ext) (by rw[h,e];simp only[eqT];exact nA g l m)
theorem aA {α:Type}[DecidableEq α]{f:α->T}{a b:S}{l m:List α}(g:∀ a b,eqT (f a) (f b)=true↔a=b)(hd:∀ a,dep (f a)<=2)(h:tr a=.lst (l.map f))(e:tr b=.lst (m.map f)):dN a b R=R (.t (.bl (!decide (l=m)))):=
 vO R (by rw[h];have:=fY hd l;simp only[dep];ext) (by rw[e];have:=fY hd m;simp only[dep];ext) (by rw[h,e];simp only[eqT];exact nA g l m)
end
def dh (n:Nat)(h:Hf):Prop:=Sz n h.1/\Sz n h.2.1/\Sz n h.2.2
def SzF (n:Nat)(s:Fr):Prop:=Sz n s.1/\Sz n s.2
def eH (n:Nat)(s:aT):Prop:=SzF n s.1/\SzF n s.2
theorem rx:cA .non .non=true:=rfl
theorem pa:cA .non .bool=false:=rfl
theorem rq:cA .non .int=false:=rfl
theorem ry:cA .non .str=false:=rfl
theorem rz:cA .non .tup=false:=rfl
theorem rs:cA .non .lst=false:=rfl
theorem o5:cA .bool .non=false:=rfl
theorem nK:cA .bool .bool=true:=rfl
theorem o0:cA .bool .int=true:=rfl
theorem o6:cA .bool .str=false:=rfl
theorem o7:cA .bool .tup=false:=rfl
theorem o3:cA .bool .lst=false:=rfl
theorem rg:cA .int .non=false:=rfl
theorem o8:cA .int .bool=false:=rfl
theorem re:cA .int .int=true:=rfl
theorem rh:cA .int .str=false:=rfl
theorem ri:cA .int .tup=false:=rfl
theorem rf:cA .int .lst=false:=rfl
theorem rC:cA .str .non=false:=rfl
theorem pb:cA .str .bool=false:=rfl
theorem rA:cA .str .int=false:=rfl
theorem rD:cA .str .str=true:=rfl
theorem rE:cA .str .tup=false:=rfl
theorem rB:cA .str .lst=false:=rfl
theorem rH:cA .tup .non=false:=rfl
theorem pc:cA .tup .bool=false:=rfl
theorem rF:cA .tup .int=false:=rfl
theorem rJ:cA .tup .str=false:=rfl
theorem rK:cA .tup .tup=true:=rfl
theorem rG:cA .tup .lst=false:=rfl
theorem rm:cA .lst .non=false:=rfl
theorem o9:cA .lst .bool=false:=rfl
theorem rj:cA .lst .int=false:=rfl
theorem ro:cA .lst .str=false:=rfl
theorem rp:cA .lst .tup=false:=rfl
theorem rk:cA .lst .lst=true:=rfl
theorem xP (l:List Pt):cF (l.map aW)=true:=bG (λ_=>rfl) l
theorem Bp (R:S->Prop)(l m:List Pt):dM (.t (.lst (l.map aW))) (.t (.lst (m.map aW))) R=R (.t (.bl (decide (l=m)))):=az R bv br rfl rfl
theorem C8 (R:S->Prop)(l m:List Pt):dN (.t (.lst (l.map aW))) (.t (.lst (m.map aW))) R=R (.t (.bl (!decide (l=m)))):=aA R bv br rfl rfl
theorem Bq (R:S->Prop)(l m:List Pt):dM (.t (.lst (l.map aW))) (.vt (.lst (m.map aW))) R=R (.t (.bl (decide (l=m)))):=az R bv br rfl rfl
theorem C9 (R:S->Prop)(l m:List Pt):dN (.t (.lst (l.map aW))) (.vt (.lst (m.map aW))) R=R (.t (.bl (!decide (l=m)))):=aA R bv br rfl rfl
theorem Bo (R:S->Prop)(l m:List Pt):dM (.t (.lst (l.map aW))) (.ol (m.map aW)) R=R (.t (.bl (decide (l=m)))):=az R bv br rfl rfl
theorem C7 (R:S->Prop)(l m:List Pt):dN (.t (.lst (l.map aW))) (.ol (m.map aW)) R=R (.t (.bl (!decide (l=m)))):=aA R bv br rfl rfl
theorem Bt (R:S->Prop)(l m:List Pt):dM (.vt (.lst (l.map aW))) (.t (.lst (m.map aW))) R=R (.t (.bl (decide (l=m)))):=az R bv br rfl rfl
theorem Dd (R:S->Prop)(l m:List Pt):dN (.vt (.lst (l.map aW))) (.t (.lst (m.map aW))) R=R (.t (.bl (!decide (l=m)))):=aA R bv br rfl rfl
theorem Bu (R:S->Prop)(l m:List Pt):dM (.vt (.lst (l.map aW))) (.vt (.lst (m.map aW))) R=R (.t (.bl (decide (l=m)))):=az R bv br rfl rfl
theorem De (R:S->Prop)(l m:List Pt):dN (.vt (.lst (l.map aW))) (.vt (.lst (m.map aW))) R=R (.t (.bl (!decide (l=m)))):=aA R bv br rfl rfl
theorem Bs (R:S->Prop)(l m:List Pt):dM (.vt (.lst (l.map aW))) (.ol (m.map aW)) R=R (.t (.bl (decide (l=m)))):=az R bv br rfl rfl
theorem Dc (R:S->Prop)(l m:List Pt):dN (.vt (.lst (l.map aW))) (.ol (m.map aW)) R=R (.t (.bl (!decide (l=m)))):=aA R bv br rfl rfl
theorem Bl (R:S->Prop)(l m:List Pt):dM (.ol (l.map aW)) (.t (.lst (m.map aW))) R=R (.t (.bl (decide (l=m)))):=az R bv br rfl rfl
theorem C4 (R:S->Prop)(l m:List Pt):dN (.ol (l.map aW)) (.t (.lst (m.map aW))) R=R (.t (.bl (!decide (l=m)))):=aA R bv br rfl rfl
theorem Bm (R:S->Prop)(l m:List Pt):dM (.ol (l.map aW)) (.vt (.lst (m.map aW))) R=R (.t (.bl (decide (l=m)))):=az R bv br rfl rfl
theorem C5 (R:S->Prop)(l m:List Pt):dN (.ol (l.map aW)) (.vt (.lst (m.map aW))) R=R (.t (.bl (!decide (l=m)))):=aA R bv br rfl rfl
theorem Bk (R:S->Prop)(l m:List Pt):dM (.ol (l.map aW)) (.ol (m.map aW)) R=R (.t (.bl (decide (l=m)))):=az R bv br rfl rfl
theorem C3 (R:S->Prop)(l m:List Pt):dN (.ol (l.map aW)) (.ol (m.map aW)) R=R (.t (.bl (!decide (l=m)))):=aA R bv br rfl rfl
theorem Bn (R:S->Prop)(l:List Pt):dM (.t (.lst (l.map aW))) (.ol []) R=R (.t (.bl (decide (l=[])))):=az (m:=[]) R bv br rfl rfl
theorem C6 (R:S->Prop)(l:List Pt):dN (.t (.lst (l.map aW))) (.ol []) R=R (.t (.bl (!decide (l=[])))):=aA (m:=[]) R bv br rfl rfl
theorem Br (R:S->Prop)(l:List Pt):dM (.vt (.lst (l.map aW))) (.ol []) R=R (.t (.bl (decide (l=[])))):=az (m:=[]) R bv br rfl rfl
theorem Da (R:S->Prop)(l:List Pt):dN (.vt (.lst (l.map aW))) (.ol []) R=R (.t (.bl (!decide (l=[])))):=aA (m:=[]) R bv br rfl rfl
theorem Bj (R:S->Prop)(l:List Pt):dM (.ol (l.map aW)) (.ol []) R=R (.t (.bl (decide (l=[])))):=az (m:=[]) R bv br rfl rfl
theorem C2 (R:S->Prop)(l:List Pt):dN (.ol (l.map aW)) (.ol []) R=R (.t (.bl (!decide (l=[])))):=aA (m:=[]) R bv br rfl rfl
theorem Hc (l:List Hf):cF (l.map bd)=true:=bG (λ_=>rfl) l
theorem AT (R:S->Prop)(l m:List Hf):dM (.t (.lst (l.map bd))) (.t (.lst (m.map bd))) R=R (.t (.bl (decide (l=m)))):=az R bt bq rfl rfl
theorem CI (R:S->Prop)(l m:List Hf):dN (.t (.lst (l.map bd))) (.t (.lst (m.map bd))) R=R (.t (.bl (!decide (l=m)))):=aA R bt bq rfl rfl
theorem AU (R:S->Prop)(l m:List Hf):dM (.t (.lst (l.map bd))) (.vt (.lst (m.map bd))) R=R (.t (.bl (decide (l=m)))):=az R bt bq rfl rfl
theorem CJ (R:S->Prop)(l m:List Hf):dN (.t (.lst (l.map bd))) (.vt (.lst (m.map bd))) R=R (.t (.bl (!decide (l=m)))):=aA R bt bq rfl rfl
theorem AS (R:S->Prop)(l m:List Hf):dM (.t (.lst (l.map bd))) (.ol (m.map bd)) R=R (.t (.bl (decide (l=m)))):=az R bt bq rfl rfl
theorem CH (R:S->Prop)(l m:List Hf):dN (.t (.lst (l.map bd))) (.ol (m.map bd)) R=R (.t (.bl (!decide (l=m)))):=aA R bt bq rfl rfl
theorem AX (R:S->Prop)(l m:List Hf):dM (.vt (.lst (l.map bd))) (.t (.lst (m.map bd))) R=R (.t (.bl (decide (l=m)))):=az R bt bq rfl rfl
theorem CM (R:S->Prop)(l m:List Hf):dN (.vt (.lst (l.map bd))) (.t (.lst (m.map bd))) R=R (.t (.bl (!decide (l=m)))):=aA R bt bq rfl rfl
theorem AY (R:S->Prop)(l m:List Hf):dM (.vt (.lst (l.map bd))) (.vt (.lst (m.map bd))) R=R (.t (.bl (decide (l=m)))):=az R bt bq rfl rfl
theorem CN (R:S->Prop)(l m:List Hf):dN (.vt (.lst (l.map bd))) (.vt (.lst (m.map bd))) R=R (.t (.bl (!decide (l=m)))):=aA R bt bq rfl rfl
theorem AW (R:S->Prop)(l m:List Hf):dM (.vt (.lst (l.map bd))) (.ol (m.map bd)) R=R (.t (.bl (decide (l=m)))):=az R bt bq rfl rfl
theorem CL (R:S->Prop)(l m:List Hf):dN (.vt (.lst (l.map bd))) (.ol (m.map bd)) R=R (.t (.bl (!decide (l=m)))):=aA R bt bq rfl rfl
theorem AO (R:S->Prop)(l m:List Hf):dM (.ol (l.map bd)) (.t (.lst (m.map bd))) R=R (.t (.bl (decide (l=m)))):=az R bt bq rfl rfl
theorem CD (R:S->Prop)(l m:List Hf):dN (.ol (l.map bd)) (.t (.lst (m.map bd))) R=R (.t (.bl (!decide (l=m)))):=aA R bt bq rfl rfl
theorem AQ (R:S->Prop)(l m:List Hf):dM (.ol (l.map bd)) (.vt (.lst (m.map bd))) R=R (.t (.bl (decide (l=m)))):=az R bt bq rfl rfl
theorem CF (R:S->Prop)(l m:List Hf):dN (.ol (l.map bd)) (.vt (.lst (m.map bd))) R=R (.t (.bl (!decide (l=m)))):=aA R bt bq rfl rfl
theorem AN (R:S->Prop)(l m:List Hf):dM (.ol (l.map bd)) (.ol (m.map bd)) R=R (.t (.bl (decide (l=m)))):=az R bt bq rfl rfl
theorem CC (R:S->Prop)(l m:List Hf):dN (.ol (l.map bd)) (.ol (m.map bd)) R=R (.t (.bl (!decide (l=m)))):=aA R bt bq rfl rfl
theorem AR (R:S->Prop)(l:List Hf):dM (.t (.lst (l.map bd))) (.ol []) R=R (.t (.bl (decide (l=[])))):=az (m:=[]) R bt bq rfl rfl
theorem CG (R:S->Prop)(l:List Hf):dN (.t (.lst (l.map bd))) (.ol []) R=R (.t (.bl (!decide (l=[])))):=aA (m:=[]) R bt bq rfl rfl
theorem AV (R:S->Prop)(l:List Hf):dM (.vt (.lst (l.map bd))) (.ol []) R=R (.t (.bl (decide (l=[])))):=az (m:=[]) R bt bq rfl rfl
theorem CK (R:S->Prop)(l:List Hf):dN (.vt (.lst (l.map bd))) (.ol []) R=R (.t (.bl (!decide (l=[])))):=aA (m:=[]) R bt bq rfl rfl
theorem AM (R:S->Prop)(l:List Hf):dM (.ol (l.map bd)) (.ol []) R=R (.t (.bl (decide (l=[])))):=az (m:=[]) R bt bq rfl rfl
theorem CB (R:S->Prop)(l:List Hf):dN (.ol (l.map bd)) (.ol []) R=R (.t (.bl (!decide (l=[])))):=aA (m:=[]) R bt bq rfl rfl
theorem He (l:List aT):cF (l.map spT)=true:=bG (λ_=>rfl) l
theorem BB (R:S->Prop)(l m:List aT):dM (.t (.lst (l.map spT))) (.t (.lst (m.map spT))) R=R (.t (.bl (decide (l=m)))):=az R bf bh rfl rfl
theorem Dl (R:S->Prop)(l m:List aT):dN (.t (.lst (l.map spT))) (.t (.lst (m.map spT))) R=R (.t (.bl (!decide (l=m)))):=aA R bf bh rfl rfl
theorem BC (R:S->Prop)(l m:List aT):dM (.t (.lst (l.map spT))) (.vt (.lst (m.map spT))) R=R (.t (.bl (decide (l=m)))):=az R bf bh rfl rfl
theorem Dm (R:S->Prop)(l m:List aT):dN (.t (.lst (l.map spT))) (.vt (.lst (m.map spT))) R=R (.t (.bl (!decide (l=m)))):=aA R bf bh rfl rfl
theorem BA (R:S->Prop)(l m:List aT):dM (.t (.lst (l.map spT))) (.ol (m.map spT)) R=R (.t (.bl (decide (l=m)))):=az R bf bh rfl rfl
theorem Dk (R:S->Prop)(l m:List aT):dN (.t (.lst (l.map spT))) (.ol (m.map spT)) R=R (.t (.bl (!decide (l=m)))):=aA R bf bh rfl rfl
theorem BF (R:S->Prop)(l m:List aT):dM (.vt (.lst (l.map spT))) (.t (.lst (m.map spT))) R=R (.t (.bl (decide (l=m)))):=az R bf bh rfl rfl
theorem Dq (R:S->Prop)(l m:List aT):dN (.vt (.lst (l.map spT))) (.t (.lst (m.map spT))) R=R (.t (.bl (!decide (l=m)))):=aA R bf bh rfl rfl
theorem BG (R:S->Prop)(l m:List aT):dM (.vt (.lst (l.map spT))) (.vt (.lst (m.map spT))) R=R (.t (.bl (decide (l=m)))):=az R bf bh rfl rfl
theorem Dr (R:S->Prop)(l m:List aT):dN (.vt (.lst (l.map spT))) (.vt (.lst (m.map spT))) R=R (.t (.bl (!decide (l=m)))):=aA R bf bh rfl rfl
theorem BE (R:S->Prop)(l m:List aT):dM (.vt (.lst (l.map spT))) (.ol (m.map spT)) R=R (.t (.bl (decide (l=m)))):=az R bf bh rfl rfl
theorem Dp (R:S->Prop)(l m:List aT):dN (.vt (.lst (l.map spT))) (.ol (m.map spT)) R=R (.t (.bl (!decide (l=m)))):=aA R bf bh rfl rfl
theorem Bx (R:S->Prop)(l m:List aT):dM (.ol (l.map spT)) (.t (.lst (m.map spT))) R=R (.t (.bl (decide (l=m)))):=az R bf bh rfl rfl
theorem Dh (R:S->Prop)(l m:List aT):dN (.ol (l.map spT)) (.t (.lst (m.map spT))) R=R (.t (.bl (!decide (l=m)))):=aA R bf bh rfl rfl
theorem By (R:S->Prop)(l m:List aT):dM (.ol (l.map spT)) (.vt (.lst (m.map spT))) R=R (.t (.bl (decide (l=m)))):=az R bf bh rfl rfl
theorem Di (R:S->Prop)(l m:List aT):dN (.ol (l.map spT)) (.vt (.lst (m.map spT))) R=R (.t (.bl (!decide (l=m)))):=aA R bf bh rfl rfl
theorem Bw (R:S->Prop)(l m:List aT):dM (.ol (l.map spT)) (.ol (m.map spT)) R=R (.t (.bl (decide (l=m)))):=az R bf bh rfl rfl
theorem Dg (R:S->Prop)(l m:List aT):dN (.ol (l.map spT)) (.ol (m.map spT)) R=R (.t (.bl (!decide (l=m)))):=aA R bf bh rfl rfl
theorem Bz (R:S->Prop)(l:List aT):dM (.t (.lst (l.map spT))) (.ol []) R=R (.t (.bl (decide (l=[])))):=az (m:=[]) R bf bh rfl rfl
theorem Dj (R:S->Prop)(l:List aT):dN (.t (.lst (l.map spT))) (.ol []) R=R (.t (.bl (!decide (l=[])))):=aA (m:=[]) R bf bh rfl rfl
theorem BD (R:S->Prop)(l:List aT):dM (.vt (.lst (l.map spT))) (.ol []) R=R (.t (.bl (decide (l=[])))):=az (m:=[]) R bf bh rfl rfl
theorem Do (R:S->Prop)(l:List aT):dN (.vt (.lst (l.map spT))) (.ol []) R=R (.t (.bl (!decide (l=[])))):=aA (m:=[]) R bf bh rfl rfl
theorem Bv (R:S->Prop)(l:List aT):dM (.ol (l.map spT)) (.ol []) R=R (.t (.bl (decide (l=[])))):=az (m:=[]) R bf bh rfl rfl
theorem Df (R:S->Prop)(l:List aT):dN (.ol (l.map spT)) (.ol []) R=R (.t (.bl (!decide (l=[])))):=aA (m:=[]) R bf bh rfl rfl
theorem Hd (l:List Int):cF (l.map T.int)=true:=bG (λ_=>rfl) l
theorem Ba (R:S->Prop)(l m:List Int):dM (.t (.lst (l.map T.int))) (.t (.lst (m.map T.int))) R=R (.t (.bl (decide (l=m)))):=az R bu (λ_=>by show 0<=2;decide) rfl rfl
theorem CV (R:S->Prop)(l m:List Int):dN (.t (.lst (l.map T.int))) (.t (.lst (m.map T.int))) R=R (.t (.bl (!decide (l=m)))):=aA R bu (λ_=>by show 0<=2;decide) rfl rfl
theorem Bb (R:S->Prop)(l m:List Int):dM (.t (.lst (l.map T.int))) (.vt (.lst (m.map T.int))) R=R (.t (.bl (decide (l=m)))):=az R bu (λ_=>by show 0<=2;decide) rfl rfl
theorem CW (R:S->Prop)(l m:List Int):dN (.t (.lst (l.map T.int))) (.vt (.lst (m.map T.int))) R=R (.t (.bl (!decide (l=m)))):=aA R bu (λ_=>by show 0<=2;decide) rfl rfl
theorem A9 (R:S->Prop)(l m:List Int):dM (.t (.lst (l.map T.int))) (.ol (m.map T.int)) R=R (.t (.bl (decide (l=m)))):=az R bu (λ_=>by show 0<=2;decide) rfl rfl
theorem CU (R:S->Prop)(l m:List Int):dN (.t (.lst (l.map T.int))) (.ol (m.map T.int)) R=R (.t (.bl (!decide (l=m)))):=aA R bu (λ_=>by show 0<=2;decide) rfl rfl
theorem Bg (R:S->Prop)(l m:List Int):dM (.vt (.lst (l.map T.int))) (.t (.lst (m.map T.int))) R=R (.t (.bl (decide (l=m)))):=az R bu (λ_=>by show 0<=2;decide) rfl rfl
theorem C0 (R:S->Prop)(l m:List Int):dN (.vt (.lst (l.map T.int))) (.t (.lst (m.map T.int))) R=R (.t (.bl (!decide (l=m)))):=aA R bu (λ_=>by show 0<=2;decide) rfl rfl
theorem Bh (R:S->Prop)(l m:List Int):dM (.vt (.lst (l.map T.int))) (.vt (.lst (m.map T.int))) R=R (.t (.bl (decide (l=m)))):=az R bu (λ_=>by show 0<=2;decide) rfl rfl
theorem C1 (R:S->Prop)(l m:List Int):dN (.vt (.lst (l.map T.int))) (.vt (.lst (m.map T.int))) R=R (.t (.bl (!decide (l=m)))):=aA R bu (λ_=>by show 0<=2;decide) rfl rfl
theorem Be (R:S->Prop)(l m:List Int):dM (.vt (.lst (l.map T.int))) (.ol (m.map T.int)) R=R (.t (.bl (decide (l=m)))):=az R bu (λ_=>by show 0<=2;decide) rfl rfl
theorem CZ (R:S->Prop)(l m:List Int):dN (.vt (.lst (l.map T.int))) (.ol (m.map T.int)) R=R (.t (.bl (!decide (l=m)))):=aA R bu (λ_=>by show 0<=2;decide) rfl rfl
theorem A6 (R:S->Prop)(l m:List Int):dM (.ol (l.map T.int)) (.t (.lst (m.map T.int))) R=R (.t (.bl (decide (l=m)))):=az R bu (λ_=>by show 0<=2;decide) rfl rfl
theorem CQ (R:S->Prop)(l m:List Int):dN (.ol (l.map T.int)) (.t (.lst (m.map T.int))) R=R (.t (.bl (!decide (l=m)))):=aA R bu (λ_=>by show 0<=2;decide) rfl rfl
theorem A7 (R:S->Prop)(l m:List Int):dM (.ol (l.map T.int)) (.vt (.lst (m.map T.int))) R=R (.t (.bl (decide (l=m)))):=az R bu (λ_=>by show 0<=2;decide) rfl rfl
theorem CS (R:S->Prop)(l m:List Int):dN (.ol (l.map T.int)) (.vt (.lst (m.map T.int))) R=R (.t (.bl (!decide (l=m)))):=aA R bu (λ_=>by show 0<=2;decide) rfl rfl
theorem A5 (R:S->Prop)(l m:List Int):dM (.ol (l.map T.int)) (.ol (m.map T.int)) R=R (.t (.bl (decide (l=m)))):=az R bu (λ_=>by show 0<=2;decide) rfl rfl
theorem CP (R:S->Prop)(l m:List Int):dN (.ol (l.map T.int)) (.ol (m.map T.int)) R=R (.t (.bl (!decide (l=m)))):=aA R bu (λ_=>by show 0<=2;decide) rfl rfl
theorem A8 (R:S->Prop)(l:List Int):dM (.t (.lst (l.map T.int))) (.ol []) R=R (.t (.bl (decide (l=[])))):=az (m:=[]) R bu (λ_=>by show 0<=2;decide) rfl rfl
theorem CT (R:S->Prop)(l:List Int):dN (.t (.lst (l.map T.int))) (.ol []) R=R (.t (.bl (!decide (l=[])))):=aA (m:=[]) R bu (λ_=>by show 0<=2;decide) rfl rfl
theorem Bc (R:S->Prop)(l:List Int):dM (.vt (.lst (l.map T.int))) (.ol []) R=R (.t (.bl (decide (l=[])))):=az (m:=[]) R bu (λ_=>by show 0<=2;decide) rfl rfl
theorem CY (R:S->Prop)(l:List Int):dN (.vt (.lst (l.map T.int))) (.ol []) R=R (.t (.bl (!decide (l=[])))):=aA (m:=[]) R bu (λ_=>by show 0<=2;decide) rfl rfl
theorem AZ (R:S->Prop)(l:List Int):dM (.ol (l.map T.int)) (.ol []) R=R (.t (.bl (decide (l=[])))):=az (m:=[]) R bu (λ_=>by show 0<=2;decide) rfl rfl
theorem CO (R:S->Prop)(l:List Int):dN (.ol (l.map T.int)) (.ol []) R=R (.t (.bl (!decide (l=[])))):=aA (m:=[]) R bu (λ_=>by show 0<=2;decide) rfl rfl
end DL
namespace DL
open PySem L2
section
variable {X:Cx}
variable {o e:Expr}{wo we:WE}{apos cpos:Pos}
section
variable (δ:a9) (R:S->Prop) (we wo:WE)
theorem countP_map [DecidableEq α](h:∀ a b,eqT (f a) (f b)=true↔a=b)(a:α):∀ l:List α,(l.map f).countP (λt=>eqT t (f a))=l.count a
 | []=>rfl
 |b::r=>by
  rw[map_cons,List.countP_cons,List.count_cons,countP_map h a r]
  congr 1
  by_cases e:b=a
  .subst e;simp[(h b b).mpr rfl]
  .have:eqT (f b) (f a)=false:=by
    cases z:eqT (f b) (f a) with
    |false=>rfl
    |true=>exact absurd ((h b a).mp z) e
   simp[this,e]
end
end
theorem et {α:Type}{f h:α->T}{p:α->Bool}{g:WG}{y:WT}{te:WE}{l:List α}{o:a9}{R:List T->Prop}(P:a9->Prop)(C:∀ a∈l,ke (h a)=true)(E:l.length<100000)(z:P o)
  (step:∀ a∈l,∀ m,P m->∀ (Y:a9->S->Prop) (N:a9->Prop),(∀ j,P j->p a=true->Y j (.t (h a)))->(∀ j,P j->p a=false->N j)->g (f a) m λj=>y j λok=>if ok=true then te j (λs=>Y j s) else N j)
  (q:R ((l.filter p).map h)):nh g y te (l.map f) o R:=by
 refine⟨λn m k=>∃ pre i,l=pre++i/\n=i.map f/\P m/\k=(pre.filter p).map h,⟨[],l,rfl,rfl,z,rfl⟩,?_,?_⟩
 .rintro m k ⟨pre,i,e,n,_,rfl⟩;have:i=[]:=by simpa using n.symm
  subst this;rw[append_nil]at e;subst e;exact q
 .rintro x r m k ⟨pre,i,e,n,B,rfl⟩
  cases i with
  |nil=>cases n
  |cons a i=>
   rw[map_cons]at n
   cases n
   have v:a∈l:=by rw[e];simp
   have n:((pre.filter p).map h).length<100000:=by
    rw[length_map];have k:=length_filter_le p pre;have D:l.length=pre.length+(i.length+1):=by rw[e];simp
    ext
   refine step a v m B _ _ (λj k m=>⟨C a v,n,pre++[a],i,by rw[e];simp,rfl,k,?_⟩) (λj k m=>⟨pre++[a],i,by rw[e];simp,rfl,k,?_⟩)
   .rw[List.filter_append,map_append];simp[List.filter,m]
   .rw[List.filter_append,map_append];simp[List.filter,m]
theorem eu {α:Type}{f h:α->T}{g:WG}{te:WE}{l:List α}{j:a9}{R:List T->Prop}(P:a9->Prop)(y:∀ a∈l,ke (h a)=true)(x:l.length<100000)(k:P j)
  (step:∀ a∈l,∀ i,P i->∀ (Y:a9->S->Prop),(∀ e,P e->Y e (.t (h a)))->g (f a) i λe=>te e (λs=>Y e s))
  (n:R (l.map h)):nh g lG te (l.map f) j R:=by
 refine et (p:=λ_=>true) P y x k (λa v i o Y N m z=>?_) (by rw[List.filter_eq_self.mpr (λ_ _=>rfl)];exact n)
 show g (f a) i λe=>if true=true then te e (λs=>Y e s) else N e
 simp only[if_true];exact step a v i o Y λe q=>m e q rfl
theorem f7 (lo:Int)(n:Nat):(bU lo n).length=n:=by unfold bU;simp
end DL
namespace L2
open PySem PyProof.Rows
theorem j9:∀ {ns:List Int}{its:List Value},aP (ns.map V.int) its->IntsAre its ns
 | [],_,.nil=>.nil
 |n::ns,_,.cons h r=>by
  obtain⟨t,rfl⟩:=h;exact .cons n t (j9 r)
section
variable {X:Cx}
theorem yF (j:X.calm=true):fQ X (.builtin "sum") (λxs H Q=>∃ (p:Addr) (ns:List Int),xs=[.ref p]/\cV X.K H p (ns.map V.int)/\Q (.int ns.sum) H):=by
 rintro g s g H xs g Q I r ⟨p,ns,rfl,h,q⟩;obtain⟨u,rfl,x⟩:=vals1 r
 cases x
 obtain⟨i,v,⟨o,n,e,c,d,g⟩,_⟩:=I.list h;have k:s.heap.IsList p i.toArray:=⟨o,e,c,n,g⟩;have hi:=j9 v;obtain⟨xs,x⟩:=hi.allInts.items;have h:s.heap.IsList p (intItems xs):=x ▸ k;refine sum_intListG (I.ok.hd j) h λh v m k=>?_;have g:ns=xs.toList.map (·.1):=by
  rw[<-nums_intItems,<-x];exact(show numsOf i.toArray.toList=ns from hi.numsOf).symm
 have h:preSum (numAt xs) xs.size=ns.sum:=by
  rw[preSum_eq,take_of_length_le (by simp),g]
 rw[h];exact⟨.int ns.sum,H,I.kept (t':=v) k,⟨m,rfl⟩,q⟩
theorem Cu (I:aI X pins σ H s)(q:cV X.K H p (ns.map V.int)):∃ xs:Array (Int × Tok),s.heap.IsList p (intItems xs)/\ns=xs.toList.map (·.1):=by
 obtain⟨i,v,⟨o,n,e,c,d,g⟩,_⟩:=I.list q;have j:s.heap.IsList p i.toArray:=⟨o,e,c,n,g⟩;have hi:=j9 v;obtain⟨xs,h⟩:=hi.allInts.items;refine⟨xs,h ▸ j,?_⟩;rw[<-nums_intItems,<-h];exact(show numsOf i.toArray.toList=ns from hi.numsOf).symm
theorem Ar (i:k<xs.size)(h:(intItems xs)[k]?=some v):∃ t,v=.int (numAt xs k) t/\numAt xs k∈xs.toList.map (·.1):=by
 obtain⟨t,e⟩:=intItems_at h;refine⟨t,e,?_⟩;have g:=h;unfold intItems at g;rw[Array.getElem?_map,Array.getElem?_eq_getElem i]at g;simp at g;rw[e]at g
 injection g with e3 _
 rw[<-e3];exact mem_map.mpr ⟨xs[k],by simp,rfl⟩
theorem Gx (h:m∈xs.toList.map (·.1)):∃ j,j<xs.size/\numAt xs j=m:=by
 obtain⟨p,g,rfl⟩:=mem_map.mp h;obtain⟨j,i,e⟩:=getElem_of_mem g;have g:j<xs.size:=by simpa using i
 refine⟨j,g,?_⟩;have i:(intItems xs)[j]?=some (.int xs[j].1 xs[j].2):=by unfold intItems;rw[Array.getElem?_map,Array.getElem?_eq_getElem g];rfl
 obtain⟨t,g⟩:=intItems_at i
 injection g with e4 _
 rw[<-e4];have g:xs[j]=p:=by simpa using e
 rw[g]
theorem yD (i:X.calm=true):fQ X (.builtin "max") (λxs H Q=>∃ (p:Addr) (ns:List Int),xs=[.ref p]/\cV X.K H p (ns.map V.int)/\ns≠[]/\∀ m∈ns,(∀ x∈ns,x<=m)->Q (.int m) H):=by
 rintro e s e H xs e Q I r ⟨p,ns,rfl,k,h,q⟩;obtain⟨u,rfl,e⟩:=vals1 r
 cases e
 obtain⟨xs,g,e⟩:=Cu I k;have hz:0<xs.size:=by
  obtain z|z:=Nat.eq_zero_or_pos xs.size
  .exact absurd (by rw[e];simpa using z) h
  .exact z
 refine max_intList (I.ok.hd i) g hz λv h o n h=>?_;obtain⟨g,g⟩:=argBest_gt (numAt xs) (xs.size-1);obtain⟨t,rfl,k⟩:=Ar (by omega) n
 refine⟨.int _,H,I.kept (t':=o) h,⟨t,rfl⟩,q _ (by rw[e];exact k) λx h=>?_⟩
 rw[e]at h;obtain⟨j,e,rfl⟩:=Gx h;exact g j (by omega)
end
end L2
namespace DL
open PySem L2
def lT:List T->Option (List Int)
 | []=>some []
 | .int i::r=>match lT r with
  |some l=>some (i::l)
  |none=>none
 |_::_=>none
theorem iK:∀ l:List Int,lT (l.map T.int)=some l
 | []=>rfl
 |a::r=>by rw[map_cons];unfold lT;rw[iK r]
theorem gz:∀ {ts:List T}{l:List Int},lT ts=some l->ts=l.map T.int
 | [],l,h=>by cases h;rfl
 |t::r,l,h=>by
  cases t <;> try (simp[lT]at h)
  rename_i i
  split at h
  .rename_i m e;simp at h;subst h;rw[map_cons,gz e]
  .simp at h
def sumK (R:S->Prop)(ts:List T):Prop:=match lT ts with
 |some l=>R (.t (.int l.sum))
 |none=>False
theorem Es (R:S->Prop)(l:List Int):sumK R (l.map T.int)=R (.t (.int l.sum)):=by unfold sumK;rw[iK]
def vA:List S->(S->Prop)->Prop
 | [.t (.lst ts)],R=>sumK R ts
 | [.vt (.lst ts)],R=>sumK R ts
 | [.ol ts],R=>sumK R ts
 |_,_=>False
theorem gY:∀ {l:List Int}{xs:List V},au K F (l.map T.int) xs->xs=l.map V.int
 | [],_,h=>h
 |a::r,_,⟨x,y,e,g,i⟩=>by
  subst e;rw[gY i];exact congrArg (·::_) g
theorem KJ:gk K (λxs H Q=>∃ (p:Addr) (ns:List Int),xs=[.ref p]/\cV K H p (ns.map V.int)/\Q (.int ns.sum) H) vA:=by
 intro F H y z R Q sb q m h k;have n:∀ {o:List T}{a:Addr}{xs:List V}{G:Hp},sumK R o->cV K H a xs->au K G o xs->∃ (p:Addr) (ns:List Int),[V.ref a]=[.ref p]/\cV K H p (ns.map V.int)/\Q (.int ns.sum) H:=λ{o a xs G} g j i=>by
  unfold sumK at g
  split at g
  .rename_i l x;rw[gz x]at i;have e:=gY i;subst e;exact⟨a,l,rfl,j,k _ F H (.t (.int _)) (di.refl sb q) rfl g⟩
  .exact g.elim
 unfold vA at h
 split at h
 .obtain⟨v,r,rfl,⟨a,xs,rfl,g,j⟩,i⟩:=m
  cases (show r=[] from i)
  exact n h (sb.seq g) j
 .obtain⟨v,r,rfl,⟨a,xs,rfl,g,j⟩,i⟩:=m
  cases (show r=[] from i)
  exact n h g j
 .obtain⟨v,r,rfl,⟨a,xs,rfl,g,j⟩,i⟩:=m
  cases (show r=[] from i)
  exact n h g j
 .exact h.elim
theorem boot_sum:bootBuiltins "sum"=some (.builtin "sum"):=by decide +kernel
section
variable {X:Cx}{e:Expr}{wa:WA}{pos p:Pos}
theorem JC (m:X.mg "sum"=none) (h:PA X [e] (dE X.K wa)) (i:Gl X "sum":=by rfl) (g:X.calm=true:=by rfl) (he:starEach [e] X.env=(false,eval e X.env)::starEach [] X.env:=by exact aQ rfl):PE X (.Call (.Name "sum" p) [e] [] pos) (av X.K (eh vA wa)):=
 eY (yF g) KJ m boot_sum h i (he:=he) (hpl:=rfl)
end
theorem Je (ts:List T)(R:S->Prop):vA [.t (.lst ts)] R=sumK R ts:=rfl
theorem Jg (ts:List T)(R:S->Prop):vA [.vt (.lst ts)] R=sumK R ts:=rfl
theorem Jf (ts:List T)(R:S->Prop):vA [.ol ts] R=sumK R ts:=rfl
def jm (le:Int->Int->Prop)(R:S->Prop)(ts:List T):Prop:=match lT ts with
 |some l=>l≠[]/\∀ m∈l,(∀ x∈l,le x m)->R (.t (.int m))
 |none=>False
theorem yB (le:Int->Int->Prop)(R:S->Prop)(l:List Int):jm le R (l.map T.int)=(l≠[]/\∀ m∈l,(∀ x∈l,le x m)->R (.t (.int m))):=by unfold jm;rw[iK]
def pH (le:Int->Int->Prop):List S->(S->Prop)->Prop
 | [.t (.lst ts)],R=>jm le R ts
 | [.vt (.lst ts)],R=>jm le R ts
 | [.ol ts],R=>jm le R ts
 |_,_=>False
abbrev HU:=pH λx m=>x<=m
theorem GB (le:Int->Int->Prop):gk K (λxs H Q=>∃ (p:Addr) (ns:List Int),xs=[.ref p]/\cV K H p (ns.map V.int)/\ns≠[]/\∀ m∈ns,(∀ x∈ns,le x m)->Q (.int m) H) (pH le):=by
 intro F H D E R Q sb y o h k;have n:∀ {q:List T}{a:Addr}{xs:List V}{G:Hp},jm le R q->cV K H a xs->au K G q xs->∃ (p:Addr) (ns:List Int),[V.ref a]=[.ref p]/\cV K H p (ns.map V.int)/\ns≠[]/\∀ m∈ns,(∀ x∈ns,le x m)->Q (.int m) H:=λ{q a xs G} g j i=>by
  unfold jm at g
  split at g
  .rename_i l z;rw[gz z]at i;have e:=gY i;subst e;exact⟨a,l,rfl,j,g.1,λm B C=>k _ F H (.t (.int _)) (di.refl sb y) rfl (g.2 m B C)⟩
  .exact g.elim
 unfold pH at h
 split at h
 .obtain⟨v,r,rfl,⟨a,xs,rfl,g,j⟩,i⟩:=o
  cases (show r=[] from i)
  exact n h (sb.seq g) j
 .obtain⟨v,r,rfl,⟨a,xs,rfl,g,j⟩,i⟩:=o
  cases (show r=[] from i)
  exact n h g j
 .obtain⟨v,r,rfl,⟨a,xs,rfl,g,j⟩,i⟩:=o
  cases (show r=[] from i)
  exact n h g j
 .exact h.elim
section
variable {X:Cx}{e:Expr}{wa:WA}{pos p:Pos}
theorem FE (m:X.mg "max"=none) (h:PA X [e] (dE X.K wa)) (i:Gl X "max":=by rfl) (g:X.calm=true:=by rfl) (he:starEach [e] X.env=(false,eval e X.env)::starEach [] X.env:=by exact aQ rfl):PE X (.Call (.Name "max" p) [e] [] pos) (av X.K (eh HU wa)):=
 eY (yD g) (GB _) m PyProof.Rows.boot_max h i (he:=he) (hpl:=rfl)
end
theorem ET (le:Int->Int->Prop)(ts:List T)(R:S->Prop):pH le [.t (.lst ts)] R=jm le R ts:=rfl
theorem EV (le:Int->Int->Prop)(ts:List T)(R:S->Prop):pH le [.vt (.lst ts)] R=jm le R ts:=rfl
theorem EU (le:Int->Int->Prop)(ts:List T)(R:S->Prop):pH le [.ol ts] R=jm le R ts:=rfl
def lO (g:WG)(i:WT)(te:WE):List T->a9->List T->(List T->Prop)->Prop
 | [],_,e,R=>R e
 |x::r,j,e,R=>g x j λh=>i h λok=>if ok=true then te h λs=>pN (λy=>e.length<100000/\lO g i te r h (e++[y]) R) s else lO g i te r h e R
theorem j3 (h:lO g j te ts e [] R):nh g j te ts e R:=⟨λts e i=>lO g j te ts e i R,h,λ_ _ h=>h,λ_ _ _ _ h=>h⟩
theorem EY (g:WG)(h:WT)(te:WE)(i:a9)(e:List T)(R:List T->Prop):lO g h te [] i e R=R e:=rfl
theorem EX (g:WG)(i:WT)(te:WE)(x:T)(r:List T)(j:a9)(e:List T)(R:List T->Prop):lO g i te (x::r) j e R=g x j λh=>i h λok=>if ok=true then te h λs=>pN (λy=>e.length<100000/\lO g i te r h (e++[y]) R) s else lO g i te r h e R:=rfl
end DL
namespace L2
open PySem PySem.Spec PyProof.Rows
section
variable {X:Cx}{pins:List (Addr × Obj)}{σ:St}{H:Hp}{s:Shared}
theorem aI.turnedS {h':Heap}{t':Nat}{fp:List Addr}(I:aI X pins σ H s)(k:∀ b o,b∉fp->s.heap.get? b=some o->h'.get? b=some o)(i:∀ b∈fp,mP X pins H b):aI X pins σ H {s with heap:=h',toks:=t'}:=by
 have g:∀ b u,H b=some u->b∉fp:=λb u e z=>by rw[(i b z).1]at e;cases e
 refine I.step (g':=s.gens) (d':=s.drawn) (ch:=fp) (λb B=>?_) (λb o _ _ h e _=>k b o h e) (λb o _ _ h e _=>⟨o.slots,k b o h e⟩) (λ_ _ _ _ n=>n)
  (λb o h e=>⟨o,k b o h e⟩) (λ_ _ e=>e) (λ_ _ _ e=>e) (λb p e=>⟨#[],by rw[e];simp⟩) (λm C=>?_) (λb u e=>?_) I.bare
 .obtain⟨j,j,p,p,x,y⟩:=i b B;exact⟨p,j,x,y⟩
 .obtain⟨o,j,p,x,r⟩:=C;exact⟨o,j,p,k _ o (λz=>(i _ z).2.1 rfl) x,r⟩
 .refine(I.hok b u e).stay (λc v h q=>k c v ?_ q) (λ_ q=>q) λ_ _ q=>q
  obtain z|z:=h
  .rw[z];exact g b u e
  .exact g c _ z
end
structure Ox (z TI TO i1 i2:Addr):Prop where
 TIz:TI≠z
 TOz:TO≠z
 i1z:i1≠z
 i2z:i2≠z
 TITO:TI≠TO
 TIi1:TI≠i1
 TIi2:TI≠i2
 TOi1:TO≠i1
 TOi2:TO≠i2
 i12:i1≠i2
section
variable {X:Cx}{elts:List Expr}{x1:Nat}{tp:Pos}
theorem qH:fQ X (.builtin "sorted") (λxs H Q=>∃ (p:Addr) (ns:List Int),xs=[.ref p]/\cV X.K H p (ns.map V.int)/\ns.length<64/\∀ ms:List Int,ms.Perm ns->ms.Pairwise (·<=·)->∀ l,H l=none->Q (.ref l) (cG H l (.lst (ms.map V.int)))):=by
 rintro g s g H xs k Q I r ⟨p,ns,rfl,i,g,q⟩;obtain⟨u,rfl,x⟩:=vals1 r
 cases x
 obtain⟨j,v,pl,_⟩:=I.list i;have hi:=j9 v;have i:j.length<64:=by have:=v.length;rw[length_map]at this;ext
 refine sorted_ints pl.isList hi i λout i v m x=>?_;obtain⟨e,y⟩:=sortedAll_at s.heap j out;have j:∀ {ms:List Int}{k:List Value},IntsAre k ms->aP (ms.map V.int) k:=λ{ms k} h=>by
  induction h with
  |nil=>exact .nil
  |cons n t _ k=>exact .cons ⟨t,rfl⟩ k
 refine⟨.ref _,_,I.laid (t':=s.toks) (a:=s.heap.objs.size+1) (o:=.lst (i.map V.int)) (λb u=>sortedAll_old) ⋯ ⟨?_,out.toList,e,j v,?_⟩,rfl,q i m x _ (I.hok.fresh ⋯)⟩
 .rw[length_map,m.length_eq];exact le_trans (Nat.le_of_lt g) ⋯
 .rw[Array.toArray_toList];exact y
end
end L2
namespace DL
open PySem L2
def HI:List T->List T->List T
 |t::e,u::g=>.tup [t,u]::HI e g
 |_,_=>[]
def Py (e:a9)(W:List T->a9->Prop):List S->Prop
 | [.t (.lst ts),.t (.lst us)]=>W (HI ts us) e
 | [.vt (.lst ts),.vt (.lst us)]=>W (HI ts us) (freeze e)
 |_=>False
section
variable {X:Cx}{e e2:Expr}{we:WE}{wa:WA}{p pos tp:Pos}{elts:List Expr}{x1:Nat}
end
theorem LW (e:a9)(W:List T->a9->Prop)(ts us:List T):Py e W [.vt (.lst ts),.vt (.lst us)]=W (HI ts us) (freeze e):=rfl
def hE (R:S->Prop)(ts:List T):Prop:=match lT ts with
 |some l=>l.length<64/\∀ m:List Int,m.Perm l->m.Pairwise (·<=·)->R (.ol (m.map T.int))
 |none=>False
theorem qg (R:S->Prop)(l:List Int):hE R (l.map T.int)=(l.length<64/\∀ ms:List Int,ms.Perm l->ms.Pairwise (·<=·)->R (.ol (ms.map T.int))):=by unfold hE;rw[iK]
def nE:List S->(S->Prop)->Prop
 | [.t (.lst ts)],R=>hE R ts
 | [.vt (.lst ts)],R=>hE R ts
 | [.ol ts],R=>hE R ts
 |_,_=>False
theorem nJ:∀ l:List Int,au K F (l.map T.int) (l.map V.int)
 | []=>rfl
 |a::r=>⟨.int a,_,rfl,rfl,nJ r⟩
theorem GJ:gk K (λxs H Q=>∃ (p:Addr) (ns:List Int),xs=[.ref p]/\cV K H p (ns.map V.int)/\ns.length<64/\∀ ms:List Int,ms.Perm ns->ms.Pairwise (·<=·)->∀ l,H l=none->Q (.ref l) (cG H l (.lst (ms.map V.int)))) nE:=by
 intro F H D E R Q sb y o h k;have n:∀ {x:List T}{a:Addr}{xs:List V}{G:Hp},hE R x->cV K H a xs->au K G x xs->∃ (p:Addr) (ns:List Int),[V.ref a]=[.ref p]/\cV K H p (ns.map V.int)/\ns.length<64/\∀ ms:List Int,ms.Perm ns->ms.Pairwise (·<=·)->∀ l,H l=none->Q (.ref l) (cG H l (.lst (ms.map V.int))):=λ{x a xs G} g j i=>by
  unfold hE at g
  split at g
  .rename_i l z;rw[gz z]at i;have e:=gY i;subst e;refine⟨a,l,rfl,j,g.1,λms B C q m=>?_⟩;exact k _ F _ (.ol _) (di.newL _ sb y m) ⟨q,_,rfl,m,aJ sb m,aY,nJ ms⟩ (g.2 ms B C)
  .exact g.elim
 unfold nE at h
 split at h
 .obtain⟨v,r,rfl,⟨a,xs,rfl,g,j⟩,i⟩:=o
  cases (show r=[] from i)
  exact n h (sb.seq g) j
 .obtain⟨v,r,rfl,⟨a,xs,rfl,g,j⟩,i⟩:=o
  cases (show r=[] from i)
  exact n h g j
 .obtain⟨v,r,rfl,⟨a,xs,rfl,g,j⟩,i⟩:=o
  cases (show r=[] from i)
  exact n h g j
 .exact h.elim
section
variable {X:Cx}{e:Expr}{wa:WA}{pos p:Pos}
theorem FF (m:X.mg "sorted"=none) (h:PA X [e] (dE X.K wa)) (g:Gl X "sorted":=by rfl) (he:starEach [e] X.env=(false,eval e X.env)::starEach [] X.env:=by exact aQ rfl):PE X (.Call (.Name "sorted" p) [e] [] pos) (av X.K (eh nE wa)):=
 eY qH GJ m PyProof.Rows.boot_sorted h g (he:=he) (hpl:=rfl)
end
theorem E8 (ts:List T)(R:S->Prop):nE [.t (.lst ts)] R=hE R ts:=rfl
theorem Fa (ts:List T)(R:S->Prop):nE [.vt (.lst ts)] R=hE R ts:=rfl
theorem E9 (ts:List T)(R:S->Prop):nE [.ol ts] R=hE R ts:=rfl
section
variable {X:Cx}{e:Expr}{we:WE}{lo hi:Option Expr}{wl wh:a9->(Option Int->Prop)->Prop}{pos p2:Pos}
end
end DL
set_option maxHeartbeats 4000000
namespace L2
open PySem PySem.Spec PyProof.Rows
section
variable {X:Cx}{pins:List (Addr × Obj)}{σ:St}{H:Hp}{s:Shared}
structure yd (X:Cx) (b:Addr):Prop where
 l:b≠X.env.locals
 f:b∉X.fs
 s:b∈X.ex\/X.s₀.heap.objs.size<=b
 c:∀ x c,X.env.cells.lookup x=some c->c≠b
theorem yd.ok (h:yd X b)(n:H b=none)(e:∀ p∈X.pn++pins,p.1≠b):mP X pins H b:=⟨n,h.l,h.f,h.s,h.c,e⟩
theorem aI.fpSt (I:aI X pins σ H s)(k:s.heap.objs.size<=b)(n:H b=none):yd X b/\∀ p∈X.pn++pins,p.1≠b:=by
 obtain⟨_,h,e,g,i,j⟩:=I.fpOk (H':=H) k n;exact⟨⟨h,e,g,i⟩,j⟩
theorem aI.pinAt (I:aI X pins σ H s)(h:p∈pins):s.heap.get? p.1=some p.2/\H p.1=none:=let ⟨a,b,_⟩:=I.pin p (mem_append_right _ h);⟨a,b⟩
theorem aI.repin (I:aI X pins σ H s)(h:∀ p∈e,p∈pins\/(s.heap.get? p.1=some p.2/\H p.1=none/\yd X p.1/\∀ v,p.2.data≠.cell v)):aI X e σ H s:=
 I.pins_of λp g=>by
  obtain z|⟨a,b,c,d⟩:=h p g
  .exact I.pin p (mem_append_right _ z)
  .exact⟨a,b,c.l,c.f,d⟩
end
section
variable {X:Cx}{pins:List (Addr × Obj)}{σ:St}{l I S:Addr}{vs:List Value}{R:Result->Shared->Prop}{G:Hp->Prop}
abbrev pz (vb:Value) (k:Int) (t:Tok) (c:Nat):Obj:=seqObj "list" #[vb,.int k t] c
theorem Cz (kf:Nat->Int)(q:Addr)(hh:X.A.handled=none)(hl:∀ H s pins,G H->aI X pins σ H s->s.heap.IsList l vs.toArray)(hlI:l≠I)(hSI:S≠I)(fI:yd X I)(fS:yd X S)
  (nI:∀ p∈X.pn++pins,p.1≠I) (nS:∀ p∈X.pn++pins,p.1≠S)
  (turn:∀ (i:Nat) (v:Value),vs[i]?=some v->∀ (own:List (Addr × Obj)) (s:Shared) (H:Hp),G H->aI X (pins++own) σ H s →
   wpAny (model X.prog X.w) X.A.in1 (call (.ref q) [v]) (λu s'=>∃ t H',u=.int (kf i) t/\aI X (pins++own) σ H' s'/\G H') (λ_ _=>False) s)
  (hR:∀ i v H s,vs[i]?=some v->(∀ j,j<vs.length->kf i<=kf j)->G H->aI X pins σ H s->R (.ok (.ret v)) s) :
  ∀ (r j i:Nat) (s:Shared) (H:Hp) (vb:Value) (tb:Tok) (c:Nat) (oI:Obj),vs.length-(j+1)=r->j+1<=vs.length->G H →
   aI X (pins++[(S,pz vb (kf i) tb c),(I,oI)]) σ H s->s.heap.IsListIter I l (j+1)->(∀ v,oI.data≠.cell v)->vs[i]?=some vb->i<=j->(∀ j',j'<=j->kf i<=kf j') →
   codeAny (model X.prog X.w) X.A (.builtin "min.loop" ⟨[.ref I,.ref q,.ref S],[]⟩) R s:=by
 have hname:(toString "min"++toString ".loop":String)="min.loop":=⋯
 have W:=Walks.list (prog:=X.prog) (w:=X.w) (A:=X.A.in1) hh I l hlI vs.toArray;have hsz:vs.toArray.size=vs.length:=size_toArray ..;have upS:∀ {H:Hp}{s:Shared}{h':Heap}{tk:Nat}{o oI:Obj},aI X (pins++[(S,o),(I,oI)]) σ H s->Heap.SameBut S s.heap h'->aI X (pins++[(I,oI)]) σ H {s with heap:=h',toks:=tk}:=λ{H s h' tk o oI} J sb=>by
  have nS':=(J.pinAt (p:=(S,o)) (by simp)).2
  have J1:aI X (pins++[(I,oI)]) σ H s:=J.repin λp hp=>.inl (by simp at hp ⊢;rcases hp with z|z <;> simp[z])
  refine J1.turnedS (fp:=[S]) (λb o hb e=>(sb.2 b (by simpa using hb)).trans e) λb hb=>?_
  have e:b=S:=by simpa using hb
  subst e;refine fS.ok nS' λp hp=>?_
  obtain z|z:=mem_append.mp hp
  .exact nS p (mem_append_left _ z)
  .rcases mem_append.mp z with z|z
   .exact nS p (mem_append_right _ z)
   .simp at z;subst z;exact hSI.symm
 have upI:∀ {H:Hp}{s:Shared}{h':Heap}{tk:Nat}{o oI:Obj},aI X (pins++[(S,o),(I,oI)]) σ H s->(∀ b u,b∉[I]->s.heap.get? b=some u->h'.get? b=some u)->aI X (pins++[(S,o)]) σ H {s with heap:=h',toks:=tk}/\H I=none:=λ{H s h' tk o oI} J hk=>by
  have nI':=(J.pinAt (p:=(I,oI)) (by simp)).2
  have J1:aI X (pins++[(S,o)]) σ H s:=J.repin λp hp=>.inl (by simp at hp ⊢;rcases hp with z|z <;> simp[z])
  refine⟨J1.turnedS (fp:=[I]) hk λb hb=>?_,nI'⟩;have e:b=I:=by simpa using hb
  subst e;refine fI.ok nI' λp hp=>?_
  obtain z|z:=mem_append.mp hp
  .exact nI p (mem_append_left _ z)
  .rcases mem_append.mp z with z|z
   .exact nI p (mem_append_right _ z)
   .simp at z;subst z;exact hSI
 intro r
 induction r with
 |zero=>
  intro j i s H vb tb c oI hr hj g J hit hoc hvb hij hbest;have hin:j+1=vs.length:=⋯
  have pS:=J.pinAt (p:=(S,pz vb (kf i) tb c)) (by simp)
  refine codeAny_builtin PySem.F.entry_min_loop ?_;rw[Around.under_plainId PySem.F.plain_min_loop _];show wpAny _ X.A.in1 (seqItems? (.ref S) >>= _) _ _ _;refine wpAny_bind (wpAny_seqItems pS.1 rfl ?_);show wpAny _ X.A.in1 (tryCatch (pyNext (.ref I)) _ >>= _) _ _ _;refine wpAny_bind (wpAny_tryCatch (W.done _ _ _ ⟨by rw[hsz,<-hin];exact hit,hl _ _ _ g J⟩ λh' tk' hk'=>?_))
  obtain⟨J1,nI'⟩:=upI (tk:=tk') J hk';have pS':=J1.pinAt (p:=(S,pz vb (kf i) tb c)) (by simp)
  have s1:=Heap.SameBut.update h' S (Obj.mapSeq λ_=>(#[]:Array Value));show wpAny _ X.A.in1 (updateSeq S (λ_=>#[]) >>= _) _ _ _;refine wpAny_bind ?_;refine wpAny_updateSeq pS'.1 rfl (wpAny_bind (wpAny_letGo (wpAny_pure ?_)));refine hR i vb H _ hvb (λj' hj'=>hbest j' ⋯) g ?_
  have J2:aI X pins σ H {s with heap:=h',toks:=tk'}:=J1.repin λp hp=>.inl (by simp[hp])
  refine aI.turnedS (s:={s with heap:=h',toks:=tk'}) (t':=tk') J2 (fp:=[S]) (λb o hb e=>(s1.2 b (by simpa using hb)).trans e) λb hb=>?_
  have e:b=S:=by simpa using hb
  subst e;exact fS.ok pS'.2 nS
 |succ r ih=>
  intro j i s H vb tb c oI hr hj g J hit hoc hvb hij hbest;have hlt:j+1<vs.length:=⋯
  have pS:=J.pinAt (p:=(S,pz vb (kf i) tb c)) (by simp)
  refine codeAny_builtin PySem.F.entry_min_loop ?_;rw[Around.under_plainId PySem.F.plain_min_loop _];show wpAny _ X.A.in1 (seqItems? (.ref S) >>= _) _ _ _;refine wpAny_bind (wpAny_seqItems pS.1 rfl ?_);show wpAny _ X.A.in1 (tryCatch (pyNext (.ref I)) _ >>= _) _ _ _;refine wpAny_bind (wpAny_tryCatch (W.item (j+1) _ _ _ (by rw[hsz];exact hlt) ⟨hit,hl _ _ _ g J⟩ λv h' tk' hP hst' hk'=>?_))
  have hv:vs[j+1]?=some v:=by simpa using hP
  obtain⟨oI',hoI',hoc',hod'⟩:=id hst'.1;obtain⟨J1,nI'⟩:=upI (tk:=tk') J hk';have ncell:∀ v,oI'.data≠.cell v:=λv z=>by rw[hod']at z;cases z
  have J2:aI X (pins++[(S,pz vb (kf i) tb c),(I,oI')]) σ H {s with heap:=h',toks:=tk'}:=J1.repin λp hp=>by
   simp at hp
   obtain z|z|z:=hp
   .exact .inl (by simp[z])
   .exact .inl (by simp[z])
   .subst z;exact .inr ⟨hoI',nI',fI,ncell⟩
  show wpAny _ X.A.in1 (tryCatch (holding [v] (call (.ref q) [v])) _ >>= _) _ _ _;refine wpAny_bind (wpAny_tryCatch (wpAny_holding (wpAny_mono (turn (j+1) v hv _ _ H g J2) (λx s'' he=>?_) λ_ _ hF=>hF.elim)));obtain⟨t2,H2,rfl,J3,g2⟩:=he;have pS2:=J3.pinAt (p:=(S,pz vb (kf i) tb c)) (by simp)
  have pI2:=J3.pinAt (p:=(I,oI')) (by simp)
  have hit2:s''.heap.IsListIter I l (j+1+1):=⟨oI',pI2.1,hoc',hod'⟩;show wpAny _ X.A.in1 (tryCatch (holding [v,.int (kf (j+1)) t2] (richCompare .Lt (.int (kf (j+1)) t2) (.int (kf i) tb) >>= _)) _ >>= _) _ _ _;refine wpAny_bind (wpAny_tryCatch (wpAny_holding (wpAny_bind (CmpOf.ints_lt (prog:=X.prog) (w:=X.w) (A:=X.A.in1) (P:=λi v=>∃ t,v=.int (kf i) t) kf (λi v h=>h) (j+1) i _ _ _ _ _ ⟨t2,rfl⟩ ⟨tb,rfl⟩ ?_))));refine wpAny_bind (wpAny_holding (wpAny_truthy_bool ?_));refine wpAny_bind (wpAny_letGo (wpAny_pure ?_))
  by_cases hb':kf (j+1)<kf i
  .have s1:=Heap.SameBut.update s''.heap S (Obj.mapSeq λ_=>#[v,.int (kf (j+1)) t2]);obtain⟨c2,hc2⟩:∃ c2,(s''.heap.update S (Obj.mapSeq λ_=>#[v,.int (kf (j+1)) t2])).get? S=some (seqObj "list" #[v,.int (kf (j+1)) t2] c2):=⟨_,get?_update_seq pS2.1 λ_=>#[v,.int (kf (j+1)) t2]⟩;simp only[hb',decide_true,if_true];refine wpAny_bind ?_;refine wpAny_updateSeq pS2.1 rfl (wpAny_bind (wpAny_letGo ?_));rw[hname];have J4:=upS (tk:=s''.toks) J3 s1;refine wpAny_pure ⟨plainId_quiet PySem.F.plain_min_loop _,ih (j+1) (j+1) _ H2 v t2 c2 oI' ⋯ hlt g2 (J4.repin λp hp=>?_) ⟨oI',(s1.2 I hSI.symm).trans pI2.1,hoc',hod'⟩ ncell hv (le_refl _) λj' hj'=>?_⟩
   .simp at hp
    obtain z|z|z:=hp
    .exact .inl (by simp[z])
    .subst z;exact .inr ⟨hc2,pS2.2,fS,λv z=>by cases z⟩
    .exact .inl (by simp[z])
   .by_cases e:j'=j+1
    .subst e;ext
    .have hb1:=hbest j' ⋯
     ext
  .simp only[hb',decide_false,Bool.false_eq_true,if_false];refine wpAny_bind (wpAny_letGo ?_);rw[hname];refine wpAny_pure ⟨plainId_quiet PySem.F.plain_min_loop _,ih (j+1) i _ H2 vb tb c oI' ⋯ hlt g2 J3 hit2 ncell hvb ⋯ λj' hj'=>?_⟩
   by_cases e:j'=j+1
   .subst e;ext
   .exact hbest j' ⋯
theorem qG (B:Nat->Int)(q:Addr)(hh:X.A.handled=none)(hl:∀ H s pins,G H->aI X pins σ H s->s.heap.IsList l vs.toArray)(U:0<vs.length)(g:G H)(J:aI X pins σ H s)
  (L:∀ (i:Nat) (v:Value),vs[i]?=some v->∀ (own:List (Addr × Obj)) (s:Shared) (H:Hp),G H->aI X (pins++own) σ H s →
   wpAny (model X.prog X.w) X.A.in1 (call (.ref q) [v]) (λu s'=>∃ t H',u=.int (B i) t/\aI X (pins++own) σ H' s'/\G H') (λ_ _=>False) s)
  (hQ:∀ i v H s,vs[i]?=some v->(∀ j,j<vs.length->B i<=B j)->G H->aI X pins σ H s->Q v s) :
  wpAny (model X.prog X.w) X.A (call (.builtin "min") [.ref l] [(Str.ofString "key",.ref q)]) Q E s:=by
 have m:(toString "min"++toString ".loop":String)="min.loop":=⋯
 have h:=hl _ _ _ g J;obtain⟨ol,n,_⟩:=id h;have k:l<s.heap.objs.size:=Heap.lt_size n;refine kmk_tree PySem.F.kind_min PySem.F.plain_min PySem.F.entry_min (kmk_min_key _ _) ?_;show wpAny _ X.A.in1 (Builtin.Builtins.bindParams "min" ["key","default"] 0 ⟨[],[(Str.ofString "key",.ref q)]⟩ >>= _) _ _ s;refine wpAny_bind (wpAny_of_eq (show Builtin.Builtins.bindParams "min" ["key","default"] 0 ⟨[],[(Str.ofString "key",.ref q)]⟩=pure [some (.ref q),none] from rfl) ?_);refine wpAny_bind (wpAny_pure ?_);refine wpAny_bind (wpAny_pyIter_list h ?_);refine wpAny_bind (wpAny_newList ?_ (zero_le _));rw[m];refine wpAny_pure ⟨plainId_quiet PySem.F.plain_min_loop _,?_⟩;have n:(s.heap.push {cls:=.type "list_iterator",data:=.fields #[.ref l,.int 0 0]}).objs.size=s.heap.objs.size+1:=size_push' ..;have P:l≠s.heap.objs.size:=ne_of_lt k;have k:((s.heap.push {cls:=.type "list_iterator",data:=.fields #[.ref l,.int 0 0]}).push (seqObj "list" #[] 0)).get? s.heap.objs.size=some {cls:=.type "list_iterator",data:=.fields #[.ref l,.int 0 0]}:=
  Heap.get?_push_of_some _ (Heap.get?_push_size _ rfl)
 have gS:((s.heap.push {cls:=.type "list_iterator",data:=.fields #[.ref l,.int 0 0]}).push (seqObj "list" #[] 0)).get? (s.heap.push {cls:=.type "list_iterator",data:=.fields #[.ref l,.int 0 0]}).objs.size=some (seqObj "list" #[] 0):=Heap.get?_push_size _ rfl;have y:aI X pins σ H {s with heap:=(s.heap.push {cls:=.type "list_iterator",data:=.fields #[.ref l,.int 0 0]}).push (seqObj "list" #[] 0)}:=J.kept (t':=s.toks) λb o e=>Heap.get?_push_of_some _ (Heap.get?_push_of_some _ e);obtain⟨fI,nI⟩:=J.fpSt (b:=s.heap.objs.size) (le_refl _) (J.hok.fresh (le_refl _));have h:s.heap.objs.size<=(s.heap.push {cls:=.type "list_iterator",data:=.fields #[.ref l,.int 0 0]}).objs.size:=by rw[n];exact Nat.le_succ _
 obtain⟨fS,nS⟩:=J.fpSt (b:=(s.heap.push {cls:=.type "list_iterator",data:=.fields #[.ref l,.int 0 0]}).objs.size) h (J.hok.fresh h);have D:H s.heap.objs.size=none:=J.hok.fresh (le_refl _);have hSn:H (s.heap.push {cls:=.type "list_iterator",data:=.fields #[.ref l,.int 0 0]}).objs.size=none:=J.hok.fresh h;have C:(s.heap.push {cls:=.type "list_iterator",data:=.fields #[.ref l,.int 0 0]}).objs.size≠s.heap.objs.size:=by rw[n];exact ne_of_gt (lt_succ_self _)
 generalize (s.heap.push {cls:=.type "list_iterator",data:=.fields #[.ref l,.int 0 0]}).objs.size=S at *;generalize h:s.heap.objs.size=I at *;generalize (s.heap.push {cls:=.type "list_iterator",data:=.fields #[.ref l,.int 0 0]}).push (seqObj "list" #[] 0)=h1 at *;have W:=Walks.list (prog:=X.prog) (w:=X.w) (A:=X.A.in1) hh I l P vs.toArray;have h:vs.toArray.size=vs.length:=size_toArray ..;refine codeAny_builtin PySem.F.entry_min_loop ?_;rw[Around.under_plainId PySem.F.plain_min_loop _];show wpAny _ X.A.in1 (seqItems? (.ref _) >>= _) _ _ _;refine wpAny_bind (wpAny_seqItems gS rfl ?_);show wpAny _ X.A.in1 (tryCatch (pyNext (.ref I)) _ >>= _) _ _ _;refine wpAny_bind (wpAny_tryCatch (W.item 0 _ _ _ (by rw[h];exact U) ⟨⟨_,k,rfl,rfl⟩,hl _ _ _ g y⟩ λv h' k h n O=>?_))
 have hv:vs[0]?=some v:=by simpa using h
 obtain⟨h,Y,Z,F⟩:=id n.1;have n:∀ v,h.data≠.cell v:=λv z=>by rw[F]at z;cases z
 have J1:aI X pins σ H {s with heap:=h',toks:=k}:=aI.turnedS (s:={s with heap:=h1}) (t':=k) y (fp:=[I]) (λb o M e=>O b o M e) λb M=>by
  have e:b=I:=by simpa using M
  subst e;exact fI.ok D nI
 have J2:aI X (pins++[(S,seqObj "list" #[] 0),(I,h)]) σ H {s with heap:=h',toks:=k}:=J1.repin λp y=>by
  simp at y
  obtain z|z|z:=y
  .exact .inl z
  .subst z;exact .inr ⟨O S _ (by simpa using C) gS,hSn,fS,λv z=>by cases z⟩
  .subst z;exact .inr ⟨Y,D,fI,n⟩
 show wpAny _ X.A.in1 (tryCatch (holding [v] (call (.ref q) [v])) _ >>= _) _ _ _;refine wpAny_bind (wpAny_tryCatch (wpAny_holding (wpAny_mono (L 0 v hv _ _ H g J2) (λx k he=>?_) λ_ _ D=>D.elim)));obtain⟨O,Y,rfl,J3,g2⟩:=he;have D:=J3.pinAt (p:=(S,seqObj "list" #[] 0)) (by simp)
 have pI2:=J3.pinAt (p:=(I,h)) (by simp)
 have s1:=Heap.SameBut.update k.heap S (Obj.mapSeq λ_=>#[v,.int (B 0) O]);obtain⟨c2,hc2⟩:∃ c2,(k.heap.update S (Obj.mapSeq λ_=>#[v,.int (B 0) O])).get? S=some (seqObj "list" #[v,.int (B 0) O] c2):=⟨_,get?_update_seq D.1 λ_=>#[v,.int (B 0) O]⟩;show wpAny _ X.A.in1 (updateSeq S (λ_=>#[v,.int (B 0) O]) >>= _) _ _ _;refine wpAny_bind ?_;refine wpAny_updateSeq D.1 rfl ?_;rw[m];have m:aI X (pins++[(I,h)]) σ Y {k with heap:=k.heap.update S (Obj.mapSeq λ_=>#[v,.int (B 0) O]),toks:=k.toks}:=by
  have K1:aI X (pins++[(I,h)]) σ Y k:=J3.repin λp y=>.inl (by simp at y ⊢;rcases y with z|z <;> simp[z])
  refine K1.turnedS (fp:=[S]) (λb o M e=>(s1.2 b (by simpa using M)).trans e) λb M=>?_
  have e:b=S:=by simpa using M
  subst e;refine fS.ok D.2 λp y=>?_
  obtain z|z:=mem_append.mp y
  .exact nS p (mem_append_left _ z)
  .rcases mem_append.mp z with z|z
   .exact nS p (mem_append_right _ z)
   .simp at z;subst z;exact C.symm
 refine wpAny_pure ⟨plainId_quiet PySem.F.plain_min_loop _,Cz B q hh hl P C fI fS nI nS L (λi v H s a b c d=>hQ i v H s a b c d) _ 0 0 _ Y v O c2 h rfl U g2 (m.repin λp y=>?_) ⟨h,(s1.2 _ C.symm).trans pI2.1,Z,F⟩ n hv (le_refl _) λk h=>?_⟩
 .simp at y
  obtain z|z|z:=y
  .exact .inl (by simp[z])
  .subst z;exact .inr ⟨hc2,D.2,fS,λv z=>by cases z⟩
  .exact .inl (by simp[z])
 .have e:k=0:=⋯
  subst e;exact Int.le_refl _
end
end L2
set_option maxHeartbeats 4000000
namespace L2
open PySem PySem.Spec PyProof.Rows PySem.W
def w6 (P:Program)(w:World)(K:Frg)(mg:Str->Option Value)(base:Heap)(x y:Str)(q:Str)(scope:Scope)(f:Addr)(e:Value)(g:List (Str × Addr))(A:Around)(outer:List Env)(s:Shared)(H:Hp):Cx where
 prog:=P
 w:=w
 K:=K
 mg:=mg
 base:=base
 A:=A.deeper (envX q scope s.heap.objs.size f e g)
 N:=[x,y]
 s₀:=s
 H₀:=H
 env:=envX q scope s.heap.objs.size f e g
 outer:=outer
 stack:=envX q scope s.heap.objs.size f e g::outer
 ex:=[]
 calm:=true
 fn:=λ_=>false
 pn:=[]
 xe:=λ_ _=>False
structure mR (x y:Str) (scope:Scope):Prop where
 kind:scope.kind=.function
 co:scope.isCoroutine=false
 gen:scope.isGenerator=false
 nocell:∀ z∈scope.names,z.2≠.cell
 lx:scope.names.lookup x=some .local
 ly:scope.names.lookup y=some .free
 only:∀ z,scope.names.lookup z=some .free->z=y
theorem lookup_mem {α:Type}:∀ {l:List (Str × α)}{x:Str}{v:α},l.lookup x=some v->(x,v)∈l:=λh=>PySem.mem_of_lookup h
section
variable {X:Cx}{pins:List (Addr × Obj)}{σ:St}{H:Hp}{s:Shared}
theorem B7 {g x y:Str}{E:Arguments}{D:Expr}{scope:Scope}{pm ctv:Value}{Y C f:Addr}{t:TE}{Q:VK}{u:Value}{v wv:V}{j:Nat}
  (I:aI X pins σ H s) (hf:(f,kla_obj "<lambda>" g E D scope [(y,C)] pm Y ctv)∈pins) (hcd:s.heap.CodeRec (.ref Y) g) (hd:X.A.handled=none) (hdep:X.A.in1.depth<recursionLimit)
  (P:∀ u,bindArgs (kla_fn "<lambda>" g E D scope [(y,C)] pm (.ref Y) ctv) ⟨[u],[]⟩=pure [(x,u)]) (S:mR x y scope)
  (hN:X.N[j]?=some y) (hk:X.env.scope.names.lookup y=some .cell) (Z:X.env.cells.lookup y=some C) (hs:σ[j]?=some (some wv))
  (hb:PE (w6 X.prog X.w X.K X.mg X.base x y g scope f (.ref Y) [(y,C)] X.A.in1 X.stack s H) D t) (ht:t [some v,some wv] H Q) (rv:RelV v u) :
  wpAny (model X.prog X.w) X.A.in1 (call (.ref f) [u]) (EP X pins σ Q) (λ_ _=>False) s:=by
 have F:=I.env0.in1;have pf:=I.pinAt hf;have lim:s.heap.NoLimit:=F.mod.nolimit.keeps λb o e=>(F.bs b o e).1;obtain⟨m,hn,hloc⟩:=I.loc;obtain⟨uw,rw',lk⟩:=hloc j y wv hN hs (.inr (.inl hk));have isc:s.heap.IsCell C (some uw):=by
  obtain⟨k,_⟩|⟨_,c,e,z⟩:=lk
  .have k':X.env.scope.names.lookup y=some .local:=k;rw[hk]at k';cases k'
  .rw[Z]at e;cases e;exact z
 refine wpAny_call (codeAny_mono (R:=CR wJ X.stack X.prog X.w H s Q (λ_ _ _=>False)) (kla_callFunE hdep pf.1 rfl S.co S.gen rfl hcd ?_) λr s' hq=>?_)
 .rw[P];refine wpAny_pure (wpAny_newFunctionEnv S.nocell (λz hz=>by simp at hz;subst hz;exact S.lx) (λM hns hsb=>⟨lim.fresh _ hsb,?_⟩) S.kind)
  have B:∀ b o,s.heap.get? b=some o->M.get? b=some o:=λb o e=>hsb.extBut b o (ne_of_lt (Heap.lt_size e)) (Heap.get?_push_of_some _ e);show codeAny _ _ (.expr D (envX g scope s.heap.objs.size f (.ref Y) [(y,C)])) _ _;have L:∀ z c,([(y,C)]:List (Str × Addr)).lookup z=some c->z=y/\c=C:=λz c e=>by
   by_cases q:z=y
   .subst q;simp at e;exact⟨rfl,e.symm⟩
   .have:(z == y)=false:=by simpa using q
    simp[List.lookup,this]at e
  have hcx:=I.freeC y C Z;have J:aI (w6 X.prog X.w X.K X.mg X.base x y g scope f (.ref Y) [(y,C)] X.A.in1 X.stack s H) [] [some v,some wv] H {s with heap:=M,toks:=s.toks+1}:=by
   have U:∀ b:Addr,b∉([]:List Addr):=λb z=>by cases z
   refine⟨⟨F.mod,S.kind,rfl,rfl,le_refl _,λz z' c G O=>?_,λz hz=>?_,λ_ _ z=>(by cases z),λ_=>hd,Around.frames_deeper F.frames,.inr ⟨rfl,rfl⟩,λb z=>absurd z (U b),F.bs,F.bsz,λb _ _=>U b,λb z=>absurd z (U b),F.funs,F.frf⟩,
    rfl,F.bare,Un.kept B,⟨_,hns,λi z a G O h3=>?_⟩,λz c h=>?_,F.hok.fresh (le_refl _),λz c h=>?_,λp hp=>absurd (show p∈([]:List (Addr × Obj)) from hp) (by simp),F.hok.kept B,rfl⟩
   .rw[(L z c G).1,(L z' c O).1]
   .have hz:scope.names.lookup z=some .cell\/scope.names.lookup z=some .free:=hz
    obtain q|q:=hz
    .exact absurd rfl (S.nocell _ (lookup_mem q))
    .rw[S.only z q];exact⟨C,by show List.lookup y [(y,C)]=some C;simp⟩
   .match i,G,O with
    |0,G,O=>
     cases G;cases O
     exact⟨u,rv,.inl ⟨S.lx,by simp⟩⟩
    |1,G,O=>
     cases G;cases O
     exact⟨uw,rw',.inr ⟨.inr S.ly,C,by show List.lookup y [(y,C)]=some C;simp,isc.keeps B⟩⟩
    |n+2,G,_=>cases G
   .obtain⟨rfl,rfl⟩:=L z c h;exact⟨_,isc.keeps B⟩
   .obtain⟨rfl,rfl⟩:=L z c h;exact hcx
  refine kla_codeExpr (wpAny_mono (hb [] _ _ H Q J ht) (λr s' hr=>?_) λ_ _ z=>z.elim);obtain⟨v',H',J',r',q'⟩:=hr;exact⟨v',H',J'.os,J'.bare,J'.base,J'.hok,r',q'⟩
 .cases r with
  |error e=>exact hq.elim
  |ok fl=>
   cases fl with
   |ret u=>exact I.after hq
   |next=>exact hq.elim
   |brk=>exact hq.elim
   |cont=>exact hq.elim
structure u9 (X:Cx) (c P:Addr) (mb:Addr):Prop where
 code:X.env.code=.ref c
 hd:CodeHd X.base c P
 bm:∃ ob,X.mg "__builtins__"=some (.ref mb)/\mb≠builtinsNs/\mb≠mainGlobals/\X.base.get? mb=some ob/\ob.cls=.type "module"/\ob.dict=some builtinsNs/\ob.data=.plain
theorem B8 (I:aI X pins σ H s)(L:u9 X c P mb)(J:H P=some (.tbl ps))(tab:DL.Tab H)
  (hcl:closureFor scope X.env=pure [(y,cw)]) (R:X.env.qual++"<lambda>"=DL.lamQ) (hdef:defaultsOf g X.env=([],[]))
  (h:∀ f i pm ctv H' s',aI X (pins++[(f,kla_obj "<lambda>" DL.lamQ g B scope [(y,cw)] pm i ctv)]) σ H' s'->DL.Same H H'->DL.Tab H'->H' i=some (DL.HCode i)->Q (.ref f) s') :
  wpAny (model X.prog X.w) X.A (eval (.Lambda g B scope Z) X.env) Q E s:=by
 have hPo:s.heap.get? P=some (tabObj ps):=I.hok P _ J;obtain⟨ht,G⟩:=tab P ps J;have hgs:s.heap.Ns mainGlobals X.mg:=I.ok.mod.glob.keeps I.bk;have nP:∀ b o,X.base.get? b=some o->b≠P:=λb o e z=>by have:=(I.bs b o e).2;rw[z,J]at this;cases this
 have hgP:mainGlobals≠P:=by
  obtain⟨o,_,_,e,_⟩:=I.ok.mod.glob;exact nP _ _ e
 obtain⟨ob,b1,b2,b3,b4,b5,b6,b7⟩:=L.bm;have hb:s.heap.BuiltinsAt X.mg P:=⟨mb,ob,b1,b2,b3,nP _ _ b4,I.bk _ _ b4,b5,b6,b7⟩;have C:=L.hd.keeps I.bk;have ncell:∀ (o:Obj),o=kla_obj "<lambda>" DL.lamQ g B scope [(y,cw)] ((X.mg "__name__").getD .none) 0 .none->True:=λ_ _=>trivial;refine kla_eval hdef ?_;rw[R]
 cases hf:codeAmong Z ps.toList with
 |some cv=>
  obtain⟨i,rfl,hc'⟩:=G Z cv hf;refine kla_makeFunctionHit (mg:=X.mg) hcl I.ok.glob hgs L.code C hPo ht hf hb λctv F tk hk D=>?_;have J1:aI X pins σ H {s with heap:=F.push {cls:=.type "function",data:=.func (kla_fn "<lambda>" DL.lamQ g B scope [(y,cw)] ((X.mg "__name__").getD .none) (.ref i) ctv)},toks:=tk}:=I.kept λb o e=>Heap.get?_push_of_some _ (hk b o e);obtain⟨fs,_⟩:=I.fpSt (b:=F.objs.size) D (I.hok.fresh D);exact h F.objs.size i _ ctv H _ (J1.repin λp hp=>by
   obtain z|z:=mem_append.mp hp
   .exact .inl z
   .simp at z;subst z;exact .inr ⟨Heap.get?_push_size _ rfl,I.hok.fresh D,fs,λv z=>by cases z⟩) (DL.Same.refl _) tab hc'
 |none=>
  refine kla_makeFunction (mg:=X.mg) hcl I.ok.glob hgs L.code C hPo ht hf hgP hb λi ctv F tk hx hge hlt hrec htb=>?_;have m:H i=none:=I.hok.fresh hge;have cP:i≠P:=λz=>by rw[z,J]at m;cases m
  have D:s.heap.objs.size<=F.objs.size:=Nat.le_of_lt (lt_of_le_of_lt hge hlt)
  let M:Obj:=kla_obj "<lambda>" DL.lamQ g B scope [(y,cw)] ((X.mg "__name__").getD .none) i ctv
  let ps':Array Value:=ps++#[rawInt Z.line,rawInt Z.col,.ref i]
  let H':Hp:=cG (cG H P (.tbl ps')) i (DL.HCode i)
  have old:∀ b o,b≠P->s.heap.get? b=some o->(F.push M).get? b=some o:=λb o n e=>Heap.get?_push_of_some _ (hx b o n e);have gP:(F.push M).get? P=some (tabObj ps'):=Heap.get?_push_of_some _ htb;have j:∀ b,b≠P->b≠i->H' b=H b:=λb n1 n2=>by show cG (cG H P _) i _ b=_;rw[aZ n2,aZ n1]
  have H'P:H' P=some (.tbl ps'):=by show cG (cG H P _) i _ P=_;rw[aZ (Ne.symm cP),aY]
  have H'c:H' i=some (DL.HCode i):=aY;have un:Un X.fs [] H H' s.heap (F.push M):=by
   have np:∀ b,H b=none->b≠P:=λb n z=>by rw[z,J]at n;cases n
   have nc:∀ b o,s.heap.get? b=some o->b≠i:=λb o e=>ne_of_lt (lt_of_lt_of_le (Heap.lt_size e) hge);refine⟨λb o e n _ _=>old b o (np b n) e,λb o e n _ _=>⟨o.slots,old b o (np b n) e⟩,λb o e n _=>by rw[j b (np b n) (nc b o e)];exact n,λb o e _=>?_,λb xs e=>?_,λb o u e=>?_,λb qs e=>?_⟩
   .by_cases z:b=P
    .subst z;exact⟨_,gP⟩
    .exact⟨o,old b o z e⟩
   .rw[j b (λz=>by rw[z,J]at e;cases e) (bj e m)];exact e
   .rw[j b (λz=>by rw[z,J]at e;cases e) (bj e m)];exact e
   .by_cases z:b=P
    .subst z;rw[J]at e;cases e;exact⟨_,H'P⟩
    .exact⟨#[],by rw[j b z (bj e m),e];simp⟩
  have U:(F.push M).CodeRec (.ref i) DL.lamQ:=hrec.push _;have hok:gm X.prog X.w H' (F.push M):=λa o e=>by
   by_cases z1:a=i
   .subst z1;rw[H'c]at e;cases e
    refine⟨U,?_,λh1 h2 ⟨c,o,vs,t,q1,q2,q3,q4⟩ k=>?_⟩
    .obtain⟨c,o,vs,t,q1,q2,_⟩:=U
     cases q1;exact⟨o,q2⟩
    .cases q1;exact⟨_,o,vs,t,rfl,k o q2,q3,q4⟩
   .by_cases z2:a=P
    .subst z2;rw[H'P]at e;cases e
     exact gP
    .have e':H a=some o:=by rw[<-j a z2 z1];exact e
     refine(I.hok a o e').stay (λb u hb q=>old b u ?_ q) (λb q=>?_) λb xs q=>?_
     .rcases hb with rfl|hb
      .exact z2
      .exact λz=>by rw[z,J]at hb;cases hb
     .rw[j b (λz=>by rw[z,J]at q;cases q) (bj q m)];exact q
     .rw[j b (λz=>by rw[z,J]at q;cases q) (bj q m)];exact q
  have J1:aI X pins σ H' {s with heap:=F.push M,toks:=tk}:=I.un un hok;obtain⟨fs,_⟩:=I.fpSt (b:=F.objs.size) D (I.hok.fresh D);have hfn:H' F.objs.size=none:=by
   rw[j _ (λz=>?_) (λz=>?_)]
   .exact I.hok.fresh D
   .have:=I.hok.lt J;rw[<-z]at this;exact absurd (lt_of_lt_of_le this D) (lt_irrefl _)
   .rw[<-z]at hlt;exact absurd hlt (lt_irrefl _)
  have sm:DL.Same H H':=⟨λb o e n=>by
    have n1:b≠P:=λz=>by rw[z,J]at e;cases e;cases n
    rw[j b n1 (bj e m)];exact e,λb qs e=>by
    by_cases z:b=P
    .subst z;exact⟨_,H'P⟩
    .exact⟨qs,by rw[j b z (bj e m)];exact e⟩⟩
  have tab':DL.Tab H':=λP2 qs e=>by
   have Y:∀ c,H c=some (DL.HCode c)->H' c=some (DL.HCode c):=λc q=>sm.get q
   by_cases z1:P2=i
   .subst z1;rw[H'c]at e;cases e
   .by_cases z2:P2=P
    .subst z2;rw[H'P]at e;cases e
     refine⟨?_,λO v q=>?_⟩
     .show TriplesOk (ps++#[rawInt Z.line,rawInt Z.col,.ref i]).toList;rw[Array.toList_append];exact TriplesOk_snoc _ _ _ _ ht
     .have q':codeAmong O (ps.toList++[rawInt Z.line,rawInt Z.col,.ref i])=some v:=by rw[<-Array.toList_append]at *;exact q
      have key:∀ l:List Value,TriplesOk l->codeAmong O (l++[rawInt Z.line,rawInt Z.col,.ref i])=some v->codeAmong O l=some v\/v=.ref i:=by
       intro l hl
       fun_induction TriplesOk l with
       |case1=>
        intro R;simp only[nil_append,codeAmong,rawInt]at R
        split at R
        .exact .inr (Option.some.inj R).symm
        .cases R
       |case2 a t b u x rest ih=>
        intro R;simp only[List.cons_append,codeAmong]at R ⊢
        split
        .rename_i hc;rw[if_pos hc]at R;exact .inl R
        .rename_i hc;rw[if_neg hc]at R;exact ih hl R
       |case3=>exact hl.elim
      obtain z|z:=key _ ht q'
      .obtain⟨c,e1,e2⟩:=G O v z;exact⟨c,e1,Y c e2⟩
      .exact⟨i,z,H'c⟩
    .rw[j P2 z2 z1]at e;obtain⟨t1,t2⟩:=tab P2 qs e;exact⟨t1,λO v q=>let ⟨c,e1,e2⟩:=t2 O v q;⟨c,e1,Y c e2⟩⟩
  exact h F.objs.size i _ ctv H' _ (J1.repin λp hp=>by
   obtain z|z:=mem_append.mp hp
   .exact .inl z
   .simp at z;subst z;exact .inr ⟨Heap.get?_push_size _ rfl,hfn,fs,λv z=>by cases z⟩) sm tab' H'c
end
set_option maxHeartbeats 4000000
def Hy (K:Frg)(P:Addr)(te tb:TE)(j:Nat):TE:=λh H Q=>te h H λx g=>∃ (a:Addr) (e:List Addr) (p:Array Value) (G:Hp->Prop) (k:Nat->Int) (m:V),x=.ref a/\e≠[]/\g P=some (.tbl p)/\DL.Tab g/\h[j]?=some (some m) ∧
 (∀ h,DL.Same g h->DL.Tab h->G h)/\(∀ h,G h->cV K h a (e.map V.ref))/\(∀ i v h,e[i]?=some v->G h->tb [some (.ref v),some m] h λr g=>r=.int (k i)/\G g/\DL.Same h g) ∧
 ∀ i v h,e[i]?=some v->(∀ j,j<e.length->k i<=k j)->G h->Q (.ref v) h
theorem qr:∀ {xs:List Addr}{us:List Value},aP (xs.map V.ref) us->us=xs.map Value.ref
 | [],_,.nil=>rfl
 |_::_,_,.cons r t=>by cases r;rw[qr t];rfl
section
variable {X:Cx}
theorem zy (hc:X.calm=true) (hd:X.A.handled=none) (hdep:X.A.in1.depth<recursionLimit) (hm:X.mg "min"=none) (L:u9 X c P mb) (S:mR x y scope)
  (hN:X.N[j]?=some y) (hk:X.env.scope.names.lookup y=some .cell) (hcw:X.env.cells.lookup y=some cw) (hcl:closureFor scope X.env=pure [(y,cw)]) (hq:X.env.qual++"<lambda>"=DL.lamQ) (hdef:defaultsOf params X.env=([],[]))
  (hbind:∀ pm cd ctv u,bindArgs (kla_fn "<lambda>" DL.lamQ params body scope [(y,cw)] pm cd ctv) ⟨[u],[]⟩=pure [(x,u)])
  (he:PE X e te) (hmono:∀ σ H (Q Q2:VK),(∀ x H1,Q x H1->Q2 x H1)->te σ H Q->te σ H Q2) (hb:∀ f c' s H,PE (w6 X.prog X.w X.K X.mg X.base x y DL.lamQ scope f (.ref c') [(y,cw)] X.A.in1 X.stack s H) body tb)
  (hg:Gl X "min":=by rfl) (hs:starEach [e] X.env=(false,eval e X.env)::starEach [] X.env:=by exact aQ rfl)
  (hks:(backToKw pos (keywordEach [⟨some "key",.Lambda params body scope lp,kp⟩] X.env)).filterMap (·.1)=[Str.ofString "key"]:=by rfl)
  (h1:backTo pos (starEach [e] X.env)=(false,eval e X.env)::backTo pos (starEach [] X.env):=by rfl) (h2:(backTo pos (starEach [e] X.env)).any (·.1)=false:=by exact dH rfl)
  (h3:(backToKw pos (keywordEach [⟨some "key",.Lambda params body scope lp,kp⟩] X.env)).all (·.1.isSome)=true:=by rfl) (h4:(backToKw pos (keywordEach [⟨some "key",.Lambda params body scope lp,kp⟩] X.env)).any (·.1.isNone)=false:=by rfl) :
  PE X (.Call (.Name "min" p) [e] [⟨some "key",.Lambda params body scope lp,kp⟩] pos) (Hy X.K P te tb j):=by
 intro pins s σ H Q I h;refine wpAny_Call_Name_kw (ij I hg hm PyProof.Rows.boot_min ?_);have h':Io te N1 σ H (λvs H1=>∃ x,vs=[x]/\∃ (a:Addr) (xs:List Addr) (ps:Array Value) (G:Hp->Prop) (kf:Nat->Int) (wv:V),x=.ref a/\xs≠[]/\H1 P=some (.tbl ps)/\DL.Tab H1/\σ[j]?=some (some wv) ∧
   (∀ H2,DL.Same H1 H2->DL.Tab H2->G H2)/\(∀ H2,G H2->cV X.K H2 a (xs.map V.ref))/\(∀ i v H2,xs[i]?=some v->G H2->tb [some (.ref v),some wv] H2 λr H3=>r=.int (kf i)/\G H3/\DL.Same H2 H3) ∧
   ∀ i v H2,xs[i]?=some v->(∀ j,j<xs.length->kf i<=kf j)->G H2->Q (.ref v) H2):=hmono _ _ _ _ (λx H1 q=>⟨x,rfl,q⟩) h
 refine callWith_kw (cM (mx he se hs pos pins s σ H _ I h') ?_) h1 h2 h3 h4;rintro us s1 ⟨vs,H1,I1,r1,q1⟩;obtain⟨x0,rfl,a,xs,ps,G,kf,wv,rfl,hne,hP,tab,hwv,hG,hL,turn,fin⟩:=q1;obtain⟨u0,us,rfl,r0,rn⟩:∃ u0 us',us=u0::us'/\RelV (.ref a) u0/\aP [] us':=by
  cases r1 with|cons r t=>exact⟨_,_,rfl,r,t⟩
 cases rn;cases r0
 refine kws_cons (B8 I1 L hP tab hcl hq hdef λf c' pm ctv H2 s2 I2 sm tab2 hc'=>kws_nil ?_);rw[hks];refine qG (X:=X) (pins:=pins++[(f,kla_obj "<lambda>" DL.lamQ params body scope [(y,cw)] pm c' ctv)]) (σ:=σ) (l:=a) (vs:=xs.map Value.ref) (G:=λH=>G H/\H c'=some (DL.HCode c')) kf f hd (λH s pins g J=>?_) (by rw[length_map];exact length_pos_iff.mpr hne) ⟨hG H2 sm tab2,hc'⟩ I2 (λi u hi own s3 H3 g3 J3=>?_) λi u H3 s3 hi hmin g3 J3=>?_
 .obtain⟨its,r,p,_⟩:=J.list (hL H g.1);rw[qr r]at p;obtain⟨o,n,e1,e2,e3,e4⟩:=p;exact⟨o,e1,e2,n,e4⟩
 .obtain⟨v,hv,rfl⟩:∃ v,xs[i]?=some v/\u=.ref v:=by
   rw[getElem?_map]at hi
   cases e:xs[i]? with
   |none=>rw[e]at hi;cases hi
   |some v=>rw[e]at hi;cases hi;exact⟨v,rfl,rfl⟩
  have hcd:s3.heap.CodeRec (.ref c') DL.lamQ:=(J3.hok c' _ g3.2).1;refine cM (B7 (pm:=pm) (ctv:=ctv) (t:=tb) (v:=.ref v) (wv:=wv) (Q:=λr H4=>r=.int (kf i)/\G H4/\DL.Same H3 H4) J3 (by simp) hcd hd hdep (hbind _ _ _) S hN hk hcw hwv (hb f c' s3 H3) (turn i v H3 hv g3.1) rfl) ?_
  rintro u s4 ⟨r,H4,J4,rr,e,g4,sm4⟩;subst e;obtain⟨t,rfl⟩:=rr;exact⟨t,H4,rfl,J4,g4,sm4.get g3.2⟩
 .obtain⟨v,hv,rfl⟩:∃ v,xs[i]?=some v/\u=.ref v:=by
   rw[getElem?_map]at hi
   cases e:xs[i]? with
   |none=>rw[e]at hi;cases hi
   |some v=>rw[e]at hi;cases hi;exact⟨v,rfl,rfl⟩
  exact⟨.ref v,H3,J3.repin λp hp=>.inl (by simp[hp]),rfl,fin i v H3 hv (λj hj=>hmin j (by rw[length_map];exact hj)) g3.1⟩
end
end L2
set_option maxHeartbeats 4000000
namespace DL
open PySem L2 PyProof.Rows PySem.W
def tups:List T->Bool
 | []=>true
 | .tup us::r=>cF us && tups r
 |_::_=>false
theorem uP:∀ {ts:List T},tups ts=true->∀ t∈ts,ke t=true
 | [],_,t,h=>by cases h
 | .tup us::r,h,t,m=>by
  simp only[tups,Bool.and_eq_true]at h
  obtain z|z:=mem_cons.mp m
  .subst z;simpa only [ke] using h.1
  .exact uP h.2 t z
theorem qo {K:Frg}{H:Hp}:∀ {ts:List T}{vs:List V},tups ts=true->au K H ts vs->∃ as:List Addr,vs=as.map V.ref
 | [],_,_,h=>⟨[],h⟩
 | .tup us::r,_,h,⟨x,q,e,p,t⟩=>by
  simp only[tups,Bool.and_eq_true]at h;obtain⟨as,z⟩:=qo h.2 t;unfold aB at p;obtain⟨a,g,g,_,_⟩:=p;exact⟨a::as,by rw[e,z,g];rfl⟩
def sU (m:WE)(j:Nat)(i:WE):WE:=λh R=>m h λs=>∃ (e:List T) (k:T->Int) (g:S),items s=some e/\e≠[]/\tups e=true/\h[j]?=some (some g) ∧
 (∀ t∈e,i [some (.t t),some (.t (tr g))] λr=>r=.t (.int (k t)))/\∀ t∈e,(∀ u∈e,k t<=k u)->R (.t t)
def O4 (j:Nat)(h:WE)(i:a9)(R:S->Prop)(s:S):Prop:=∃ (e:List T) (k:T->Int) (g:S),items s=some e/\e≠[]/\tups e=true/\i[j]?=some (some g) ∧
 (∀ t∈e,h [some (.t t),some (.t (tr g))] λr=>r=.t (.int (k t)))/\∀ t∈e,(∀ u∈e,k t<=k u)->R (.t t)
theorem zZ:sU h j g e R=h e (O4 j g e R):=rfl
theorem eW.tree {K:Frg}{F H:Hp}(e:Same F H):∀ {s:S}{v:V},eW K F H s v->aB K H (tr s) v
 | .t _,_,h=>aB.same e h
 | .vt _,_,h=>h.elim
 | .ol _,_,⟨a,xs,h1,h2,h3,h4⟩=>⟨a,xs,h1,cV.of h3,au.same e h4⟩
section
variable {X:Cx}
theorem yI {c P mb cw:Addr}{x y:Str}{o:Arguments}{B e:Expr}{scope:Scope}{lp p D kp:Pos}{we wb:WE}{j:Nat} (hc:X.calm=true) (hd:X.A.handled=none) (U:X.A.in1.depth<recursionLimit) (C:X.mg "min"=none) (L:u9 X c P mb) (S:mR x y scope) (Y:gA X.K=some P)
  (hN:X.N[j]?=some y) (hk:X.env.scope.names.lookup y=some .cell) (hcw:X.env.cells.lookup y=some cw) (hcl:closureFor scope X.env=pure [(y,cw)]) (hq:X.env.qual++"<lambda>"=DL.lamQ) (O:defaultsOf o X.env=([],[]))
  (J:∀ pm cd ctv u,bindArgs (kla_fn "<lambda>" DL.lamQ o B scope [(y,cw)] pm cd ctv) ⟨[u],[]⟩=pure [(x,u)])
  (he:PE X e (av X.K we)) (hb:∀ f c' s H,PE (w6 X.prog X.w X.K X.mg X.base x y DL.lamQ scope f (.ref c') [(y,cw)] X.A.in1 X.stack s H) B (av X.K wb))
  (hg:Gl X "min":=by rfl) (hs:starEach [e] X.env=(false,eval e X.env)::starEach [] X.env:=by exact aQ rfl)
  (hks:(backToKw D (keywordEach [⟨some "key",.Lambda o B scope lp,kp⟩] X.env)).filterMap (·.1)=[Str.ofString "key"]:=by rfl)
  (I:backTo D (starEach [e] X.env)=(false,eval e X.env)::backTo D (starEach [] X.env):=by rfl) (M:(backTo D (starEach [e] X.env)).any (·.1)=false:=by exact dH rfl)
  (h3:(backToKw D (keywordEach [⟨some "key",.Lambda o B scope lp,kp⟩] X.env)).all (·.1.isSome)=true:=by rfl) (h4:(backToKw D (keywordEach [⟨some "key",.Lambda o B scope lp,kp⟩] X.env)).any (·.1.isNone)=false:=by rfl) :
  PE X (.Call (.Name "min" p) [e] [⟨some "key",.Lambda o B scope lp,kp⟩] D) (av X.K (sU we j wb)):=
 (zy (te:=av X.K we) (tb:=av X.K wb) hc hd U C L S hN hk hcw hcl hq O J he (by rintro σ H Q E i ⟨G,R,F,E,h,k⟩;exact⟨G,R,F,E,h,λv Z H' s a b c=>i _ _ (k v Z H' s a b c)⟩) hb hg hs hks I M h3 h4).imp <| by rintro σ H Q ⟨G,R,F,E,h,k⟩;exact⟨G,_,F,E,h,λv G H1 s e p q=>by
  obtain⟨G,kf,sj,hi,hne,ht,Z,hbo,hf⟩:=q;obtain⟨a,vs,rfl,sq,tp⟩:=(p.val e.sub).list e.sub hi;obtain⟨as,rfl⟩:=qo ht tp;have tk:=(E.ext e).tab;obtain⟨ps,hP⟩:=tk.2 P Y;obtain⟨wv,hσ,so⟩:=E.slot j sj Z;have tw:=(so.ext e).tree e.sub;have len:=tp.length;rw[length_map]at len;have at_:∀ (i:Nat) (v:Addr),as[i]?=some v->∃ t,G[i]?=some t/\aB X.K H1 t (.ref v):=λi v hv=>tp.getV (by rw[getElem?_map,hv];rfl)
  refine⟨a,as,ps,λE=>Same H1 E/\Tab E,λi=>kf (G.getD i .non),wv,rfl,λz=>?_,hP,tk.1,hσ,λE Z t2=>⟨Z,t2⟩,λE g=>g.1.seq sq,λi v E hv g=>?_,λi v E hv Z g=>?_⟩
  .subst z;exact hne (length_eq_zero_iff.mp (by simpa using len.symm))
  .obtain⟨t,I,M⟩:=at_ i v hv;have hd:G.getD i .non=t:=by rw[getD_eq_getElem?_getD,I];rfl
   refine⟨[some (.t t),some (.t (tr sj))],_,E,⟨Same.refl _,λ_ _ h _=>.inl h,rfl,λm s C=>?_,λm n b us ws _ C=>?_,tk.same g.1 g.2⟩,hbo t (mem_of_getElem? I),λr F3 H3 s e3 p3 q3=>?_⟩
   .match m,C with
    |0,C=>cases C;exact⟨_,rfl,aB.same g.1 M⟩
    |1,C=>cases C;exact⟨_,rfl,aB.same g.1 tw⟩
    |n+2,C=>cases C
   .match m,C with
    |0,C=>cases C
    |1,C=>cases C
    |n+2,C=>cases C
   .subst q3;refine⟨?_,⟨g.1.trans e3.hh,e3.tb g.2⟩,e3.hh⟩;show r=V.int (kf (G.getD i .non));rw[hd];exact p3
  .obtain⟨t,I,M⟩:=at_ i v hv;have C:=mem_of_getElem? I;have hd:G.getD i .non=t:=by rw[getD_eq_getElem?_getD,I];rfl
   have ex:=j8 (x:=none) e.sub e.full g.1 (λ_ z=>by cases z) (λ_=>g.2)
   refine k _ _ E (.t t) (e.trans ex) (aB.same ex.ff (aB.full e.full (uP ht t C) M)) (hf t C λu E=>?_);obtain⟨n,hn,hu'⟩:=getElem_of_mem E;have:kf (G.getD i .non)<=kf (G.getD n .non):=Z n ⋯
   rw[hd]at this;have E:G.getD n .non=u:=by rw[getD_eq_getElem?_getD,getElem?_eq_getElem hn,hu'];rfl
   rw[E]at this;exact this⟩
end
theorem B9 {l:List (Str × NameKind)}{y z:Str}(h:∀ p∈l,p.2=.free->p.1=y)(hz:l.lookup z=some .free):z=y:=h _ (lookup_mem hz) rfl
theorem yY {K:Frg}{f c T:Addr}{n o:Value}{od od':Option Addr}{g:FuncData}{p e:Array (Option Value)}{vs:Array Value} (h:PySem.W.nsIn K mainGlobals "depth"=some (some (.ref f))) (i:K.lookup f=some ⟨n,od,.func g,p⟩) (j:g.code=.ref c) (k:K.lookup c=some ⟨o,od',.fields vs,e⟩) (m:(vs[11]?:Option Value)=some (.ref T)):gA K=some T:=by
 unfold gA;simp only[h,i,j,k,m]
structure Iu (K:Frg) (x qual:Str) (st:Stmt) (f:Addr) (fd:FuncData) (c P:Addr):Prop where
 ex:∃ (oc:Value) (od:Option Addr) (kV doc pm:Value) (an:Option Addr) (ct:Value) (osl:Array (Option Value)),
  fd=PySem.W.fnOf x qual (dW st) (cq st) (al st) .none kV doc pm an (.ref c) ct/\K.lookup f=some ⟨oc,od,.func fd,osl⟩/\PySem.W.codeIn K (.ref c) qual=true
 kp:PySem.W.keepIn K (.ref f)=true
 hd:PySem.W.codeHdIn K c P=true
 lam:gA K=some P
theorem Iu.fn {K:Frg}{x q:Str}{st:Stmt}{f c P:Addr}{e:FuncData}(F:Iu K x q st f e c P):HJ K x q st f e:=
 let ⟨oc,od,kV,doc,pm,an,ct,osl,e1,e2,e3⟩:=F.ex;⟨⟨oc,od,kV,doc,pm,an,.ref c,ct,osl,e1,e2,e3⟩,F.kp⟩
section
variable {P:Program}{wd:World}{K:Frg}{mg:Str->Option Value}{base:Heap}
theorem FG {x e:Str}{st:Stmt}{f c T:Addr}{m:FuncData}{N ps:List Str}{k:Nat}{sp:aN}{w:WS}(F:Iu K x e st f m c T)(S:ay N ps (al st))
  (n:∀ g R,sp g R->g.length=ps.length)
  (y:∀ (A:Around) (outer:List Env) (s:Shared) (H:Hp) (E:XK),b9 k (A.deeper (PyProof.Rows.envOfC e (al st) s.heap.objs.size f (.ref c)))->jT (oY wJ P wd K mg base N e (al st) f (.ref c) A outer s H E).nox (cq st) (bI K H w))
  (h:∀ g R,sp g R->w {nx:=λ_=>R (.t .non),rt:=R} (aE N g)):h8 P wd K mg base wJ (k+1) f m ps (sR K sp):=by
 have pl:ps.length<=N.length:=by
  have:=congrArg List.length S.pre;rw[length_take]at this;ext
 obtain⟨o,o,kV,i,pm,i,ct,o,rfl,lk,i⟩:=F.ex;refine HV lk i S (λj H Q E i=>?_) λA outer s H j Q E p i=>?_
 .obtain⟨g,R,_,_,r,i,_⟩:=i;rw[iO r,n g R i]
 .obtain⟨g,R,j,o,r,i,k⟩:=i;refine⟨_,(y A outer s H E p).nox,aE N g,_,H,Same.refl _,qa j (by rw[n g R i];exact pl) o r,h g R i,⟨λg g g i ff i q=>?_,λv g o p j rc q=>k v g o p j rc q,λ_ _ _ _ _ _ z=>z.elim,λ_ _ _ _ _ _ z=>z.elim⟩⟩
  exact k .non g (.t .non) (ff.trans i.sub) i.tab rfl q
end
end DL
set_option maxHeartbeats 4000000
namespace DL
open PySem PySem.Spec L2 PyProof.Rows PySem.W
def LX (mg:Str->Option Value) (base:Heap):Prop:=∃ m o,mg "__builtins__"=some (.ref m)/\m≠builtinsNs/\m≠mainGlobals/\base.get? m=some o/\o.cls=.type "module"/\o.dict=some builtinsNs/\o.data=.plain
theorem yZ {P:Program}{w:World}{K:Frg}{mg mb:Str->Option Value}{CX:zO}{k:Nat}{fa a c T:Addr}{fd:FuncData}{x:Str}{sp:Sp}{g:Shared}{vs:List Value}{ns:List Int}
  (hTK:K.lookup T=none) (O:g.heap.get? T=some (tabObj #[])) (hTc:CodeHd g.heap c T)
  (KX:K.In g.heap) (X:g.heap.Ns mainGlobals mg) (j:g.heap.Ns builtinsNs mb) (hbm:LX mg g.heap) (hbb:∀ x:Str,x≠"__name__"->mb x=bootBuiltins x) (U:g.heap.NoLimit) (hg:g.gens=#[])
  (Q:g.heap.get? a=some {cls:=.type "list",data:=.seq vs.toArray}) (hi:IntsAre vs ns) (hl:ns.length<=sizeLine) (hr:b9 k callerA)
  (F:∀ base:Heap,K.In base->base.Ns mainGlobals mg->LX mg base->h8 P w K mg base CX k fa fd [x] sp) (M:∀ (s:Shared) (u:Value),BindsTo s fd ⟨[u],[]⟩ [(x,u)])
  (hsp:∀ H:Hp,Tab H->(∃ ps,H T=some (.tbl ps))->cV K H a (ns.map V.int)->sp [.ref a] H (λv _=>v=.bl true) λ_ _ _=>False)
  (hCX:∀ H e p,CX [] H g (λ_ _ _=>False) e p->False) :
  codeAny (model P w) callerA (.call (.ref fa) ⟨[.ref a],[]⟩) (λr p=>r=.ok (.ret (.bool true))/\OldK g.heap p.heap/\p.os=g.os/\AllBare p.gens) g:=by
 have rv:=qq hi;have Y:=hi.length;have Z:a≠T:=λz=>by
  rw[z,O]at Q
  cases Q
 have E:∀ H:Hp,(∀ b,H b=none\/b=T\/∃ o xs,b=a/\H b=some (.frz o (.lst xs)))->H T=some (.tbl #[])->cV K H a (ns.map V.int)->gm P w H g.heap->(H a≠none->K.lookup a=none) →
   codeAny (model P w) callerA (.call (.ref fa) ⟨[.ref a],[]⟩) (λr p=>r=.ok (.ret (.bool true))/\OldK g.heap p.heap/\p.os=g.os/\AllBare p.gens) g:=by
  intro H hO L hS hok hK;have hA:∀ b,H b≠none->b=a\/b=T:=λb z=>by
   obtain q|q|⟨_,_,q,_⟩:=hO b
   .exact absurd q z
   .exact .inr q
   .exact .inl q
  have i:∀ {b:Addr}{o:Obj},g.heap.get? b=some o->H b=none->(oZ g.heap H).get? b=some o:=λe n=>BP e n;have noA:∀ {b:Addr}{o:Obj},g.heap.get? b=some o->(∀ its n,o.data≠.seq its n)->(∀ ps,o.data≠.fields ps)->H b=none:=λ{b o} e d1 d2=>by
   cases q:H b with
   |none=>rfl
   |some u=>
    rcases hA b (by rw[q];simp) with J|J
    .subst J;rw[Q]at e;cases e
     exact absurd rfl (d1 vs.toArray 0)
    .subst J;rw[O]at e;cases e
     exact absurd rfl (d2 #[])
  have C:∀ {b:Addr}{m:Str->Option Value},g.heap.Ns b m->(oZ g.heap H).Ns b m:=λ{b m} ⟨o,es,ep,e,d,r⟩=>⟨o,es,ep,i e (noA e (λ_ _ z=>by rw[d]at z;cases z) (λ_ z=>by rw[d]at z;cases z)),d,r⟩
  have R:K.In (oZ g.heap H):=λb o e=>i (KX b o e) (by
   cases q:H b with
   |none=>rfl
   |some u=>
    rcases hA b (by rw[q];simp) with J|J
    .subst J;rw[hK (by rw[q];simp)]at e;cases e
    .subst J;rw[hTK]at e;cases e)
  have hM:Mod K mg (oZ g.heap H):=⟨R,C X,⟨mb,C j,hbb⟩,let ⟨mc,h1,h2⟩:=U;⟨mc,C h1,h2⟩⟩;have hB:LX mg (oZ g.heap H):=by
   obtain⟨bm,ob,b1,b2,b3,b4,b5,b6,b7⟩:=hbm;exact⟨bm,ob,b1,b2,b3,i b4 (noA b4 (λ_ _ z=>by rw[b7]at z;cases z) (λ_ z=>by rw[b7]at z;cases z)),b5,b6,b7⟩
  have e0:u4 P w K mg (oZ g.heap H) callerA [] g H:=⟨rfl,hM,λb o e=>Gy e,Nat.le_of_eq (yU _ _),trivial,λb j=>absurd (show b∈([]:List Addr) from j) (by simp),hok,.of_eq hg⟩
  have tab:Tab H:=λP2 ps e=>by
   obtain q|q|⟨_,_,_,q⟩:=hO P2
   .rw[e]at q;cases q
   .subst q;rw[L]at e;cases e
    exact⟨trivial,λpos v z=>by cases z⟩
   .rw[e]at q;cases q
  refine codeAny_mono ((F _ R (C X) hB).run callerA [] g H ⟨[.ref a],[]⟩ [.ref a] [.ref a] _ _ hr e0 (M g (.ref a)) (.cons rfl .nil) (hsp H tab ⟨_,L⟩ hS)) λr p h=>?_
  cases r with
  |error e=>exact(hCX H e p h).elim
  |ok fl=>
   cases fl with
   |next=>exact False.elim h
   |brk=>exact False.elim h
   |cont=>exact False.elim h
   |ret u=>
    obtain⟨v,H',os,bare,un,G,r',q⟩:=h;have q':v=.bl true:=q;subst q';obtain rfl:u=Value.bool true:=r';have B:∀ b o,b≠T->g.heap.get? b=some o->p.heap.get? b=some o:=λb o nT e=>by
     obtain q|q|⟨ob,xs,_,z⟩:=hO b
     .exact un.keep b o e q (by intro z;exact absurd (show b∈([]:List Addr) from z) (by simp)) (by simp)
     .exact absurd q nT
     .have z2:=un.frzs b ob _ z;obtain⟨e1,_⟩:=hok b _ z;obtain⟨e2,_⟩:=G b _ z2;rw[e]at e1;cases e1
      exact e2
    obtain⟨I,hm⟩:=un.tbls T _ L;have gT:p.heap.get? T=some (tabObj (#[]++I)):=G T _ hm;refine⟨rfl,⟨λb o e=>?_,λb o e=>?_⟩,os,bare⟩
    .by_cases z:b=T
     .subst z;rw[O]at e;cases e
      exact .inr (.inl ⟨(hTc.tab O).isCodeTable,rfl,#[],I,rfl,gT⟩)
     .exact .inl (B b o z e)
    .by_cases z:b=T
     .subst z;exact⟨_,gT⟩
     .exact⟨o,B b o z e⟩
 cases hk:K.lookup a with
 |some o=>
  have e:=KX a o hk;rw[Q]at e
  cases e
  refine E (λb=>if b=T then some (.tbl #[]) else none) (λb=>?_) (if_pos rfl) (.inr ⟨_,vs.toArray,_,hk,rfl,rfl,rfl,by rw[size_toArray,Y];exact hl,by simpa using rv⟩) (λb u z=>?_) λz=>absurd (if_neg Z) z
  .by_cases j:b=T
   .exact .inr (.inl j)
   .exact .inl (if_neg j)
  .by_cases j:b=T
   .have D:=(if_pos j).symm.trans z
    cases D
    subst j;exact O
   .have D:=(if_neg j).symm.trans z
    cases D
 |none=>
  have H2:∀ b,b≠T->b≠a->(if b=T then some (HO.tbl #[]) else if b=a then some (HO.frz {cls:=.type "list",data:=.seq vs.toArray} (.lst (ns.map V.int))) else none)=none:=λb h1 h2=>by rw[if_neg h1,if_neg h2]
  have H3:(if a=T then some (HO.tbl #[]) else if a=a then some (HO.frz {cls:=.type "list",data:=.seq vs.toArray} (.lst (ns.map V.int))) else none)=some (HO.frz {cls:=.type "list",data:=.seq vs.toArray} (.lst (ns.map V.int))):=by rw[if_neg Z,if_pos rfl]
  refine E (λb=>if b=T then some (.tbl #[]) else if b=a then some (.frz {cls:=.type "list",data:=.seq vs.toArray} (.lst (ns.map V.int))) else none) (λb=>?_) (if_pos rfl) (.inl (.inr ⟨{cls:=.type "list",data:=.seq vs.toArray},H3⟩)) (λb u z=>?_) λ_=>hk
  .by_cases j:b=T
   .exact .inr (.inl j)
   .by_cases y:b=a
    .subst y;exact .inr (.inr ⟨_,_,rfl,H3⟩)
    .exact .inl (H2 b j y)
  .by_cases j:b=T
   .have D:=(if_pos j).symm.trans z
    cases D
    subst j;exact O
   .by_cases y:b=a
    .subst y;have D:=H3.symm.trans z
     cases D
     exact⟨Q,by rw[length_map];exact hl,vs,_,rv,Q⟩
    .have D:=(H2 b j y).symm.trans z
     cases D
theorem walkT {l:PySem.W.OpenLaw}{n k:Nat}{q:Program}{j:List Str}{Q:(Str->Option Value)->Heap->Prop}{D:World->Heap->Prop}{d:DefRec}{K:Params->Frg}{x:Str}{ts:List Addr}
  (hn:l.most=some n) (p:n<=63) (J:d.params.defaults=[]) (hr:b9 k callerA)
  (hY:∀ (w:World) (h:Heap),D w h->(K w.params).In h) (I:∀ (w:World) (h:Heap),D w h->∀ P∈ts,h.get? P=some (tabObj #[]))
  (F:∀ (w:World) (mg:Str->Option Value) (B:Addr) (h:Heap),(K w.params).In h->h.Ns mainGlobals mg->mg d.name=some (.ref B) →
   ∃ (E:FuncData) (c T:Addr),(∀ (s:Shared) (u:Value),BindsTo s E ⟨[u],[]⟩ [(x,u)])/\T∈ts/\(K w.params).lookup T=none/\PySem.W.codeHdIn (K w.params) c T=true/\gA (K w.params)=some T ∧
    ∀ base:Heap,(K w.params).In base->base.Ns mainGlobals mg->LX mg base->h8 l.prog w (K w.params) mg base wJ k B E [x] (sR (K w.params) xV)) :
  PySem.W.WalkO q j Q D l.row.toRowW d [] (λf vs=>PySem.call f vs):=by
 refine Att.attach_call hn J λw s₀ y mg m B o pm g g a vs ns G Y g hd g M v i g hg=>?_;have C:=hY w _ Y;obtain⟨E,c,T,hb,O,E,L,m,hF⟩:=F w mg B _ C G.T.g M;have B:LX mg y.heap:=by
  obtain⟨bm,ob,R,U,y,X,Z,M⟩:=G.T.bmain;refine⟨bm,ob,R,U,λz=>?_,y,X,Z,M⟩;obtain⟨R,R,R,e,d,_⟩:=G.T.g;rw[<-z,y]at e
  cases e
  rw[M]at d;cases d
 exact yZ E (I w _ Y T O) (codeHd_of_K C L) C G.T.g G.T.b B G.T.builtins G.T.nolimit hg v i (le_trans g (le_trans p ⋯)) hr hF hb (λH y i v=>Kg ⟨y,λP e=>by rw[m]at e;cases e;exact i⟩ (le_trans g p) v) λ_ _ _ z=>z
end DL
set_option maxHeartbeats 4000000
namespace DL
open PySem PySem.Spec L2 PyProof.Rows
theorem vK:typeLookup (.type "list_reverseiterator") "__len__"=pure none:=by rw[typeLookup_type,builtinLookup_eq_fast];kernel_rfl
theorem pq:Slot "list_reverseiterator" "__length_hint__" "list_reverseiterator.__length_hint__":=
 .of (owner:="list_reverseiterator") (n:="__length_hint__") (by rw[typeLookup_type,builtinLookup_eq_fast];kernel_rfl) (by decide +kernel) (by decide +kernel) (by decide +kernel)
  (by first|exact .inl (by decide +kernel)|exact .inr (by decide +kernel)) (by rw[isSubtype_type];kernel_rfl)
section
variable {prog:Program}{w:World}{A:Around}{E:Value->Shared->Prop}{s:Shared}
theorem oK (g:s.heap.IsRevIter it l i)(h:Q false s):wpAny (model prog w) A (Builtin.List.listLengthHint (.ref it)) Q E s:=by
 unfold Builtin.List.listLengthHint;refine wpAny_bind (wpAny_specialOf g.typeIs vK ?_);show wpAny _ A (specialOf (Value.ref it) (Str.ofString "__length_hint__") >>= _) _ _ _;refine wpAny_bind (wpAny_specialOf g.typeIs pq.lookup ?_);generalize e:("list_reverseiterator.__length_hint__":String)=id0
 wp_delta
 rw[show splitId id0=some ("list_reverseiterator","__length_hint__") from by subst e;decide +kernel]
 subst e;refine wpAny_bind (wpAny_isInstance (T:="list_reverseiterator") (b:=true) g.typeIs (by rw[isSubtype_type];kernel_rfl) ?_)
 refine wpAny_ite_split (λe=>absurd e ⋯) (λ_=>?_)
 refine wpAny_ite_split (λ_=>?_) (λe=>absurd (by decide +kernel) e)
 refine wpAny_ite_split (λe=>absurd e (by decide +kernel)) (λ_=>?_)
 exact wpAny_pure h
theorem lH {R:Result->Shared->Prop}{I l:Addr}{items:Array Value} (hh:A.handled=none) (j:s.heap.IsRevIter I l ((items.size:Int)-1)) (J:s.heap.IsList l items) (hz:items.size<=sizeLine) (S:Addr) (m:Value) (k:Nat) (H:s.heap.get? S=some {cls:=.type "list",data:=.seq #[] k}) (B:l≠I) (p:S≠I) (z:S≠l)
  (G:∀ h q g n,(∀ b o,b≠S->b≠I->s.heap.get? b=some o->h.get? b=some o)->h.get? S=some {cls:=.type "list",dict:=none,data:=.seq g n,slots:=#[]} →
   ItemsOf (λi v=>items[items.size-1-i]?=some v) g items.size->R (.ok (.ret m)) {s with heap:=h,toks:=q}) :
  wpAny (model prog w) A.in1 (Builtin.List.listExtendWith (.ref S) (.ref I) m)
   (λq h=>match q with|.done f=>R (.ok f) h|.again n=>n.quiet=true/\codeAny (model prog w) A n R h) (λe h=>R (.error e) h) s:=by
 have W:=(Walks.listRev (prog:=prog) (w:=w) (A:=A.in1) hh I l B items).toS;have q:S∉[I,l]:=λx=>by
  obtain e|e:=mem_cons.mp x
  .exact p e
  .exact z (mem_singleton.mp e)
 unfold Builtin.List.listExtendWith;refine wpAny_bind (wpAny_typeOf j.typeIs ?_);have y:Builtin.List.listSameRef (.ref S) (.ref I)=false:=by simp[Builtin.List.listSameRef,p]
 have C:(Value.type "list_reverseiterator" == Value.type "list")=false:=⋯
 have D:(Value.type "list_reverseiterator" == Value.type "tuple")=false:=⋯
 simp only[y,C,D,Bool.or_false,Bool.false_eq_true,if_false];refine wpAny_bind (wpAny_pyIter_revIter j ?_);refine wpAny_bind (wpAny_holding (oK j ?_));refine wpAny_ite_split (λy=>absurd y ⋯) (λ_=>wpAny_pure ⟨plainId_quiet F.plain_extend_loop _,?_⟩)
 have y:(items.size:Int)-1-((0:Nat):Int)=(items.size:Int)-1:=⋯
 refine codeAny_extend_loopS W hz S q m items.size 0 s #[] k rfl (zero_le _) ⟨zero_le _,by rw[y];exact j,J⟩ H (ItemsOf.nil _) λh g n x y q=>?_
 rw[Moved.eq_with x];refine G h.heap h.toks g n (λb o C g e=>x.heap b o (λh=>?_) e) y q
 obtain n|h:=mem_cons.mp h
 .exact C n
 .exact g (mem_singleton.mp h)
theorem jh {R:Result->Shared->Prop}{I l:Addr}{items:Array Value} (hh:A.handled=none) (z:s.heap.IsRevIter I l ((items.size:Int)-1)) (G:s.heap.IsList l items) (hz:items.size<=sizeLine) (S:Addr) (x:s.heap.get? S=some {cls:=.type "list",data:=.seq #[]}) (B:l≠I) (n:S≠I) (p:S≠l)
  (D:∀ m C g k,(∀ b o,b≠S->b≠I->s.heap.get? b=some o->m.get? b=some o)->m.get? S=some {cls:=.type "list",dict:=none,data:=.seq g k,slots:=#[]} →
   ItemsOf (λi v=>items[items.size-1-i]?=some v) g items.size->R (.ok (.ret .none)) {s with heap:=m,toks:=C}) :
  wpAny (model prog w) A.in1 (Builtin.«list.__init__» ⟨[.ref S,.ref I],[]⟩)
   (λj h=>match j with|.done f=>R (.ok f) h|.again k=>k.quiet=true/\codeAny (model prog w) A k R h) (λe h=>R (.error e) h) s:=by
 show wpAny _ _ (do let old ← Builtin.List.listItems (.ref S);Builtin.List.listUpdate (.ref S) (λ_=>#[]);letGo old.toList.reverse;Builtin.List.listExtendWith (.ref S) (.ref I) .none) _ _ s
 refine wpAny_bind ?_;unfold Builtin.List.listItems;refine wpAny_bind (wpAny_seqItems x rfl (wpAny_pure ?_));show wpAny _ _ (updateSeq S (λ_=>#[]) >>= λ_=>letGo (#[]:Array Value).toList.reverse >>= λ_=>Builtin.List.listExtendWith (.ref S) (.ref I) .none) _ _ s;refine wpAny_bind (wpAny_updateSeq x rfl ?_);have h:=Heap.get?_update_self (Obj.mapSeq (λ_=>(#[]:Array Value))) x rfl;have j:∀ b o,b≠S->s.heap.get? b=some o->(s.heap.update S (Obj.mapSeq (λ_=>(#[]:Array Value)))).get? b=some o:=
  λb o q e=>(Heap.get?_update_other _ _ (Ne.symm q)).trans e
 refine wpAny_bind (wpAny_letGo ?_);refine lH hh (z.at λo e=>j I o (Ne.symm n) e) (G.at λo e=>j l o (Ne.symm p) e) hz S .none _ h B n p λm C g k F y h=>?_;exact D m C g k (λb o q g e=>F b o q g (j b o q e)) y h
theorem oX {Q:Value->Shared->Prop}{I l:Addr}{items:Array Value}(hh:A.handled=none)(j:s.heap.IsRevIter I l ((items.size:Int)-1))(q:s.heap.IsList l items)(hz:items.size<=sizeLine)(n:l≠I)
  (x:∀ h' tk g k,(∀ b o,b≠I->s.heap.get? b=some o->h'.get? b=some o) →
   h'.get? s.heap.objs.size=some {cls:=.type "list",dict:=none,data:=.seq g k,slots:=#[]}->ItemsOf (λi v=>items[items.size-1-i]?=some v) g items.size->Q (.ref s.heap.objs.size) {s with heap:=h',toks:=tk}) :
  wpAny (model prog w) A (call (.type "list") [.ref I]) Q E s:=by
 obtain⟨h,m,_⟩:=id j;obtain⟨ol,p,_⟩:=id q;refine callType_codes (Q₁:=λobj h=>obj=.ref s.heap.objs.size/\h={s with heap:=s.heap.push {cls:=.type "list",data:=.seq #[]}}) F.called_list (F.typeCall_list_1 _) F.entry_list_init
  (code_list_new _ ⟨rfl,rfl⟩) λobj h h=>?_
 obtain⟨rfl,rfl⟩:=h;have h:(s.heap.push {cls:=.type "list",data:=.seq #[]}).get? s.heap.objs.size=some {cls:=.type "list",data:=.seq #[]}:=Heap.get?_push_size _ rfl;refine⟨⟨_,h,rfl⟩,F.args_list_init_2 _ _,jh (A:=A.in1) hh (j.at λo e=>Heap.get?_push_of_some _ e) (q.at λo e=>Heap.get?_push_of_some _ e) hz _ h n (λe=>ne_of_lt (Heap.lt_size m) e.symm) (λe=>ne_of_lt (Heap.lt_size p) e.symm) λh' tk g k p m h=>?_⟩;exact⟨rfl,x h' tk g k (λb o g e=>p b o (ne_of_lt (Heap.lt_size e)) g (Heap.get?_push_of_some _ e)) m h⟩
theorem yX {its:List Value}{g:Array Value}(h:ItemsOf (λi v=>its.toArray[its.toArray.size-1-i]?=some v) g its.toArray.size):g=its.reverse.toArray:=by
 obtain⟨k,j⟩:=h;have e:g.toList=its.reverse:=by
  apply List.ext_getElem?;intro i
  by_cases hi:i<g.size
  .have m:=j i g[i] (Array.getElem?_eq_getElem hi);have j:i<its.length:=by simpa [k] using hi
   rw[getElem?_toList,Array.getElem?_eq_getElem hi,List.getElem?_reverse j];simpa using m.symm
  .rw[getElem?_eq_none (by simpa using le_of_not_lt hi),getElem?_eq_none (by simp[k]at hi;simpa using hi)]
 rw[<-e]
theorem uR:∀ {xs:List V}{us:List Value},aP xs us->aP xs.reverse us.reverse
 | [],_,.nil=>.nil
 |x::xs,u::us,.cons r t=>by
  rw[reverse_cons,reverse_cons];exact(uR t).append (.cons r .nil)
end
def Et (K:Frg)(te:TE):TE:=λe H Q=>te e H λx h=>∃ p y,x=.ref p/\cV K h p y/\∀ l,h l=none->Q (.ref l) (cG h l (.lst y.reverse))
section
variable {X:Cx}{e:Expr}{te:TE}{p1 p2 pos1 pos2:Pos}
theorem v9 (hm1:X.mg "list"=none) (hm2:X.mg "reversed"=none) (hd:X.A.handled=none) (he:PE X e te) (hg1:Gl X "list":=by rfl) (hg2:Gl X "reversed":=by rfl)
  (hs2:starEach [e] X.env=(false,eval e X.env)::starEach [] X.env:=by exact aQ rfl) (hs1:starEach [.Call (.Name "reversed" p2) [e] [] pos2] X.env=(false,eval (.Call (.Name "reversed" p2) [e] [] pos2) X.env)::starEach [] X.env:=by rfl) :
  PE X (.Call (.Name "list" p1) [.Call (.Name "reversed" p2) [e] [] pos2] [] pos1) (Et X.K te):=by
 intro pins s σ H Q I h;refine wpAny_Call_Name_kw (ij I hg1 hm1 PyProof.Rows.boot_list ?_);refine PyProof.Rows.callWith_type1 ?_ hs1;rw[hs1];show wpAny _ _ (spliced ((false,eval (.Call (.Name "reversed" p2) [e] [] pos2) X.env)::backTo pos1 (starEach [] X.env))) _ _ s;refine Calls.spliced_cons ?_;refine wpAny_Call_Name_kw (ij I hg2 hm2 PyProof.Rows.boot_reversed ?_);refine PyProof.Rows.callWith_type1 ?_ hs2;rw[hs2];show wpAny _ _ (spliced ((false,eval e X.env)::backTo pos2 (starEach [] X.env))) _ _ s;refine Calls.spliced_cons (cM (he pins s σ H _ I h) ?_);rintro u s1 ⟨x,H1,I1,r1,q1⟩;obtain⟨p,ys,rfl,hq,fin⟩:=q1
 cases r1
 refine Calls.spliced_nil ?_;obtain⟨its,r,pl,hz⟩:=I1.list hq;have hl:=pl.isList;obtain⟨ol,hol,_⟩:=id hl;refine call_reversed_list hl ?_;have hit:((s1.heap.push (revObj p ((its.toArray.size:Int)-1))).IsRevIter s1.heap.objs.size p ((its.toArray.size:Int)-1)):=⟨_,Heap.get?_push_size _ rfl,rfl,rfl⟩;refine Calls.spliced_nil ?_;have hlen:=r.length;refine oX hd hit (hl.at λo e=>Heap.get?_push_of_some _ e) (by rw[size_toArray];ext) (ne_of_lt (Heap.lt_size hol)) λh' tk acc' c' hk hS' hacc=>?_
 have hacc':=yX hacc;subst hacc';have keep:∀ b o,s1.heap.get? b=some o->h'.get? b=some o:=λb o e=>hk b o (ne_of_lt (Heap.lt_size e)) (Heap.get?_push_of_some _ e);have hsz:(s1.heap.push (revObj p ((its.toArray.size:Int)-1))).objs.size=s1.heap.objs.size+1:=size_push' ..;rw[hsz]at hS' ⊢;have le:s1.heap.objs.size<=s1.heap.objs.size+1:=Nat.le_succ _;exact⟨.ref (s1.heap.objs.size+1),_,I1.laid (t':=tk) keep le (show eV X.prog X.w _ h' _ (.lst ys.reverse) from⟨by rw[length_reverse];exact hz,its.reverse,c',uR r,hS'⟩),rfl,fin _ (I1.hok.fresh le)⟩
def zD (R:S->Prop)(s:S):Prop:=match items s with
 |some g=>cF g=true/\R (.ol g.reverse)
 |none=>False
def oG (g:WE):WE:=λh R=>g h (zD R)
theorem vu (m:X.mg "list"=none) (n:X.mg "reversed"=none) (hd:X.A.handled=none) (he:PE X e (av X.K z)) (g:Gl X "list":=by rfl) (i:Gl X "reversed":=by rfl)
  (x:starEach [e] X.env=(false,eval e X.env)::starEach [] X.env:=by exact aQ rfl) (o:starEach [.Call (.Name "reversed" p2) [e] [] pos2] X.env=(false,eval (.Call (.Name "reversed" p2) [e] [] pos2) X.env)::starEach [] X.env:=by rfl) :
  PE X (.Call (.Name "list" p1) [.Call (.Name "reversed" p2) [e] [] pos2] [] pos1) (av X.K (oG z)):=
 (v9 m n hd he g i x o).imp <| by rintro M H Q ⟨J,R,F,D,h,k⟩;exact⟨J,_,F,D,h,λv B L s ex p q=>by
  unfold zD at q
  split at q
  .rename_i I hi;obtain⟨a,y,rfl,E,G⟩:=(p.val ex.sub).list ex.sub hi;refine⟨a,y,rfl,E,λl j=>?_⟩;have C:=di.newL y.reverse ex.sub ex.full j;exact k _ B _ (.ol I.reverse) (ex.trans C) ⟨l,y.reverse,rfl,aJ ex.hh j,aJ ex.sub j,aY,(au.full ex.full q.1 G).reverse⟩ q.2
  .exact q.elim⟩
end
theorem AH (he:PE X (.Subscript a b h) (av X.K i))(j:PG X (.Tuple es k p) (ka X.K g)):PS X (.Assign [.Tuple es k p] (.Subscript a b h) e) (bI X.K H₀ (uU i g)):=nq he j rfl rfl rfl
theorem yf (e:WE)(g:a9)(R:S->Prop):oG e g R=e g (zD R):=rfl
theorem Li (R:S->Prop)(ts:List T):zD R (.t (.lst ts))=(cF ts=true/\R (.ol ts.reverse)):=rfl
theorem Ll (R:S->Prop)(ts:List T):zD R (.vt (.lst ts))=(cF ts=true/\R (.ol ts.reverse)):=rfl
theorem Lj (R:S->Prop)(ts:List T):zD R (.ol ts)=(cF ts=true/\R (.ol ts.reverse)):=rfl
end DL
namespace ST
open PySem PySem.SetTable
def line (k:Nat):Nat->Nat->Nat->List Nat
 |0,_,_=>[]
 |n+1,i,p=>(List.range (runEnd k i+1-i)).map (i + ·)++line k n (leap k i p).1 (leap k i p).2
def rem (k N:Nat)(p:Probe):List Nat:=
 (List.range (p.more+1)).map (p.j + ·)++line k N (leap k p.i p.perturb).1 (leap k p.i p.perturb).2
def way (k:Nat)(h:Int):List Nat:=line k (k+14) (bits h % (k+1)) (bits h)
theorem lj (k i:Nat):i<=runEnd k i:=by unfold runEnd;split <;> ext
theorem zE (k i:Nat):runEnd k i<=i+9:=by unfold runEnd;split <;> ext
theorem iq (k:Nat):∀ n i p,(line k n i p).length<=10*n
 |0,_,_=>by simp[line]
 |n+1,i,p=>by
  have h:=iq k n (leap k i p).1 (leap k i p).2;have h:=zE k i;simp only[line,List.length_append,length_map,length_range];ext
theorem zC (t:SetTable)(h:Int)(N:Nat):rem t.mask N (t.probeStart h)=line t.mask (N+1) (bits h % (t.mask+1)) (bits h):=by
 have e:=lj t.mask (bits h % (t.mask+1));unfold rem probeStart;simp only[line];rw[show runEnd t.mask (bits h % (t.mask+1))-bits h % (t.mask+1)+1=runEnd t.mask (bits h % (t.mask+1))+1-bits h % (t.mask+1) by ext]
theorem xR (t:SetTable)(h:Int):rem t.mask (t.mask+13) (t.probeStart h)=way t.mask h:=zC t h _
theorem oa (m j:Nat):(List.range (m+1+1)).map (j + ·)=j::(List.range (m+1)).map (j+1 + ·):=by
 rw[range_succ_eq_map,map_cons,map_map]
 congr 1
 exact map_congr_left λa _=>by simp only[Function.comp];ext
theorem Eb {t:SetTable}{N:Nat}{p:Probe}(h:0<p.more):rem t.mask N p=p.j::rem t.mask N (t.advance p):=by
 obtain⟨j,e,i,g,d⟩:=p
 cases e with
 |zero=>simp at h
 |succ m=>
  simp only[rem,advance,succ_pos,if_true,gt_iff_lt,Nat.zero_lt_succ];rw[oa]
  rfl
theorem Ea {t:SetTable}{N:Nat}{p:Probe}(h:p.more=0):rem t.mask (N+1) p=p.j::rem t.mask N (t.advance p):=by
 obtain⟨j,e,i,e,d⟩:=p;simp only at h;subst h;have g:=lj t.mask (leap t.mask i e).1;simp only[rem,advance,line,gt_iff_lt,lt_irrefl,if_false];rw[show runEnd t.mask (leap t.mask i e).1-(leap t.mask i e).1+1=runEnd t.mask (leap t.mask i e).1+1-(leap t.mask i e).1 by ext]
 simp
theorem jl {t:SetTable}{p:Probe}:(t.advance p).dummy=p.dummy:=by
 unfold advance;split <;> rfl
theorem FT {t:SetTable}{hashAt:Nat->Int}{h:Int}(nd:∀ j,t.slot j≠.dummy):∀ (g N:Nat) (p:Probe),(rem t.mask N p).length<=g->p.dummy=none →
  (∃ j∈rem t.mask N p,t.slot j=.empty) →
  ∃ pre j post,rem t.mask N p=pre++j::post/\(∀ x∈pre,∃ i,t.slot x=.live i/\hashAt i≠h) ∧
   (
    (t.slot j=.empty/\probe.go t hashAt h g p=some (.empty j none)) ∨
    (∃ i n z,t.slot j=.live i/\hashAt i=h/\probe.go t hashAt h g p=some (.candidate j i z)/\rem t.mask n z=post/\z.dummy=none)):=by
 intro g
 induction g with
 |zero=>
  intro N p v _ ⟨j,m,_⟩;have:=List.length_pos_of_mem m;ext
 |succ g B=>
  intro N p v hd ⟨j,m,q⟩;have key:(∃ n,rem t.mask N p=p.j::rem t.mask n (t.advance p))\/rem t.mask N p=[p.j]:=by
   obtain k|k:=Nat.eq_zero_or_pos p.more
   .cases N with
    |zero=>right;simp[rem,k,line]
    |succ N=>left;exact⟨N,Ea k⟩
   .left;exact⟨N,Eb k⟩
  cases k:t.slot p.j with
  |dummy=>exact absurd k (nd _)
  |empty=>
   have o:probe.go t hashAt h (g+1) p=some (.empty p.j none):=by
    simp only[probe.go,k,hd]
   obtain⟨n,e⟩|e:=key
   .exact⟨[],p.j,_,e,by simp,.inl ⟨k,o⟩⟩
   .exact⟨[],p.j,[],e,by simp,.inl ⟨k,o⟩⟩
  |live i=>
   obtain⟨n,e⟩|e:=key
   .by_cases hh:hashAt i=h
    .refine⟨[],p.j,_,e,by simp,.inr ⟨i,n,t.advance p,k,hh,?_,rfl,jl.trans hd⟩⟩
     simp only[probe.go,k,hh,beq_self_eq_true,if_true]
    .have o:probe.go t hashAt h (g+1) p=probe.go t hashAt h g (t.advance p):=by
      simp only[probe.go,k];rw[if_neg (by simpa using hh)]
     rw[e]at m v;have y:j∈rem t.mask n (t.advance p):=by
      obtain rfl|m:=mem_cons.mp m
      .rw[q]at k;exact nomatch k
      .exact m
     simp only[length_cons]at v;obtain⟨pre,C,post,z,g,v⟩:=B n (t.advance p) ⋯ (jl.trans hd) ⟨j,y,q⟩
     refine⟨p.j::pre,C,post,by rw[e,z];rfl,?_,by rw[o];exact v⟩
     intro x n
     obtain rfl|n:=mem_cons.mp n
     .exact⟨i,k,hh⟩
     .exact g x n
   .rw[e]at m;obtain rfl:=mem_singleton.mp m;rw[q]at k;exact nomatch k
def O6 (k:Nat):Nat->Nat->Nat->Nat
 |0,_,e=>e
 |n+1,i,e=>O6 k n ((i*5+1) % (k+1)) (e ||| (1 <<< i))
theorem Gp (k i:Nat):i∈(List.range (runEnd k i+1-i)).map (i + ·):=
 mem_map.mpr ⟨0,mem_range.mpr (by have:=lj k i;ext),⋯⟩
theorem xG (k j:Nat):∀ n i e,(O6 k n i e).testBit j=true->e.testBit j=true\/j∈line k n i 0
 |0,i,e,h=>.inl h
 |n+1,i,e,h=>by
  obtain h|h:=xG k j n _ _ h
  .rw[Nat.testBit_or,Bool.or_eq_true]at h
   obtain h|h:=h
   .exact .inl h
   .right
    have:j=i:=by
     rw[Nat.one_shiftLeft,Nat.testBit_two_pow]at h;simpa using (of_decide_eq_true h).symm
    subst this;exact mem_append_left _ (Gp k j)
  .right
   exact mem_append_right _ (by simpa [leap] using h)
def GA (k:Nat):Prop:=k=7\/k=31\/k=127
theorem GR {k:Nat}(ok:GA k):∀ i,i<k+1->O6 k (k+1) i 0=2 ^ (k+1)-1:=by
 rcases ok with rfl|rfl|rfl <;> decide +kernel
theorem za {k i j:Nat}(ok:GA k)(hi:i<k+1)(e:j<k+1):j∈line k (k+1) i 0:=by
 rcases xG k j (k+1) i 0 (by rw[GR ok i hi,Nat.testBit_two_pow_sub_one];simpa using e) with h|h
 .simp at h
 .exact h
theorem pQ {m n j:Nat}(hz:∀ i,i<m+1->j∈line m n i 0):∀ k i p,i<m+1->p<32 ^ k->j∈line m (k+n) i p
 |0,i,p,hi,h=>by
  have:p=0:=by simpa using h
  subst this;rw[Nat.zero_add];exact hz i hi
 |k+1,i,p,hi,h=>by
  rw[Nat.add_right_comm];refine mem_append_right _ (pQ hz k _ _ (mod_lt _ (succ_pos _)) ?_);show p / 32<32 ^ k;rw[Nat.div_lt_iff_lt_mul ⋯]
  rwa [Nat.pow_succ]at h
theorem Fv (h:Int):bits h<2 ^ 64:=by
 unfold bits;have e:h % (2 ^ 64:Int)<2 ^ 64:=Int.emod_lt_of_pos _ ⋯
 have e:0<=h % (2 ^ 64:Int):=Int.emod_nonneg _ ⋯
 ext
theorem ya {k j:Nat}{h:Int}(ok:GA k)(e:j<=k):j∈way k h:=by
 unfold way;rw[show k+14=13+(k+1) by ext]
 exact pQ (λi hi=>za ok hi ⋯) 13 _ _ (mod_lt _ (succ_pos _)) (lt_of_lt_of_le (Fv h) ⋯)
theorem xB {m x:Nat}:∀ n i p,i<=m->x∈line m n i p->x<=m
 |0,_,_,_,h=>by simp[line]at h
 |n+1,i,p,hi,h=>by
  obtain h|h:=mem_append.mp h
  .obtain⟨k,e,rfl⟩:=mem_map.mp h;have e:=mem_range.mp e;unfold runEnd at e
   split at e <;> ext
  .exact xB n _ _ (le_of_lt_succ (mod_lt _ (succ_pos _))) h
theorem wH {k x:Nat}{h:Int}(e:x∈way k h):x<=k:=xB _ _ _ (le_of_lt_succ (mod_lt _ (succ_pos _))) e
theorem Aq (ris:xs.toList.Pairwise (· < ·)):∀ e lo hi,hi-lo<=e->lo<=hi->hi<=xs.size →
  (∀ m (h:m<xs.size),m<lo->xs[m]<j)->(∀ m (h:m<xs.size),hi<=m->¬ xs[m]<j) →
  below.go xs j e lo hi<=xs.size/\∀ m (h:m<xs.size),m<below.go xs j e lo hi↔xs[m]<j:=by
 intro e;have mono:∀ a b (i:a<xs.size) (k:b<xs.size),a<b->xs[a]<xs[b]:=λa b i k g=>by
  have:=pairwise_iff_getElem.mp ris a b (by simpa using i) (by simpa using k) g
  simpa using this
 induction e with
 |zero=>
  intro lo hi i p o k n;have:lo=hi:=⋯
  subst this;refine⟨o,λm h=>⟨k m h,λg=>?_⟩⟩
  obtain hh|hh:=lt_or_ge m lo
  .exact hh
  .exact absurd g (n m h hh)
 |succ e q=>
  intro lo hi i p o k n;simp only[below.go]
  by_cases i:lo<hi
  .rw[if_pos i];have g:(lo+hi) / 2<xs.size:=⋯
   have e:xs.getD ((lo+hi) / 2) j=xs[(lo+hi) / 2]:=by simp[Array.getD,g]
   rw[e]
   by_cases e:xs[(lo+hi) / 2]<j
   .rw[if_pos e];refine q _ _ ⋯ ⋯ o (λm h p=>?_) n
    obtain hh|hh:=lt_or_ge m ((lo+hi) / 2)
    .exact lt_trans (mono m _ h g hh) e
    .have:m=(lo+hi) / 2:=⋯
     subst this;exact e
   .rw[if_neg e];refine q _ _ ⋯ ⋯ ⋯ k (λm h p=>?_)
    obtain hh|hh:=lt_or_ge ((lo+hi) / 2) m
    .exact λx=>e (lt_trans (mono _ m g h hh) x)
    .have:m=(lo+hi) / 2:=⋯
     subst this;exact e
  .rw[if_neg i];have:lo=hi:=⋯
   subst this;refine⟨o,λm h=>⟨k m h,λg=>?_⟩⟩
   obtain hh|hh:=lt_or_ge m lo
   .exact hh
   .exact absurd g (n m h hh)
theorem jX (j:Nat)(ris:xs.toList.Pairwise (· < ·)) :
  below xs j<=xs.size/\∀ m (h:m<xs.size),m<below xs j↔xs[m]<j:=
 Aq ris _ _ _ ⋯ ⋯ (le_refl _) (λm _ h=>⋯) (λm h e=>⋯)
theorem below_at (ris:xs.toList.Pairwise (· < ·))(i:Nat)(hi:i<xs.size):below xs xs[i]=i:=by
 obtain⟨e,g⟩:=jX xs[i] ris;have mono:∀ a b (j:a<xs.size) (k:b<xs.size),a<b->xs[a]<xs[b]:=λa b j k e=>by
  have:=pairwise_iff_getElem.mp ris a b (by simpa using j) (by simpa using k) e
  simpa using this
 obtain h|h|h:=lt_trichotomy (below xs xs[i]) i
 .have:=(g (below xs xs[i]) ⋯).mpr (mono _ _ ⋯ hi h)
  ext
 .exact h
 .have:=(g i hi).mp h;ext
theorem xp (j:Nat):has #[] j=false:=by
 unfold has;simp
theorem zG {t:SetTable}(ris:t.place.toList.Pairwise (· < ·))(i:Nat)(hi:i<t.place.size):t.slot t.place[i]=.live i:=by
 unfold slot;simp only[below_at ris i hi];simp[hi]
theorem slot_of {t:SetTable}(ris:t.place.toList.Pairwise (· < ·))(nd:t.dummies=#[])(j:Nat) :
  (t.slot j=.empty/\j∉t.place.toList)\/∃ i,∃ hi:i<t.place.size,t.slot j=.live i/\t.place[i]=j:=by
 by_cases g:j∈t.place.toList
 .right
  obtain⟨i,hi,e⟩:=getElem_of_mem g;have h:i<t.place.size:=by simpa using hi
  have k:t.place[i]=j:=by simpa using e
  exact⟨i,h,by rw[<-k];exact zG ris i h,k⟩
 .left
  refine⟨?_,g⟩;unfold slot;have h:(t.place[below t.place j]? == some j)=false:=by
   rw[beq_eq_false_iff_ne];intro e;obtain⟨k,e⟩:=Array.getElem?_eq_some_iff.mp e;exact g (by rw[<-e];simp)
  simp only[h,nd,xp];simp
structure Tab (t:SetTable) (es:Array (Int × Value)) (ps:List (Nat × (Int × Value))):Prop where
 pl:t.place.toList=ps.map (·.1)
 en:es.toList=ps.map (·.2)
 ris:(ps.map (·.1)).Pairwise (· < ·)
 top:∀ q∈ps,q.1<=t.mask
 dum:t.dummies=#[]
 ok:GA t.mask
 reach:∀ q∈ps,∃ pre post,way t.mask q.2.1=pre++q.1::post/\∀ x∈pre,x∈ps.map (·.1)
def b9 (k n:Nat):Prop:=(k=7/\n<=4)\/(k=31/\n<=18)\/(k=127/\n<=76)
namespace Tab
variable {t:SetTable}{es:Array (Int × Value)}{ps:List (Nat × (Int × Value))}
theorem psz (T:Tab t es ps):t.place.size=ps.length:=by rw[<-length_toList,T.pl,length_map]
theorem esz (T:Tab t es ps):es.size=ps.length:=by rw[<-length_toList,T.en,length_map]
theorem ris' (T:Tab t es ps):t.place.toList.Pairwise (· < ·):=by rw[T.pl];exact T.ris
theorem fits (T:Tab t es ps)(r:ps.length<=t.mask):t.fits es.size=true:=by
 simp only[SetTable.fits,SetTable.fill,T.dum,T.psz,T.esz];simpa using r
theorem put (T:Tab t es ps)(D:j<=t.mask)(E:j∉ps.map (·.1))
  (F:∃ pre post,way t.mask e.1=pre++j::post/\∀ x∈pre,x∈ps.map (·.1)) :
  Tab (t.put j).1 (insertAt es (t.put j).2 e) (ps.take (t.put j).2++(j,e)::ps.drop (t.put j).2):=by
 have k:∀ x,x∈ps.map (·.1)->x∈(ps.take (t.put j).2++(j,e)::ps.drop (t.put j).2).map (·.1):=λx v=>by
  obtain⟨q,n,rfl⟩:=mem_map.mp v;refine mem_map.mpr ⟨q,?_,rfl⟩;rw[<-List.take_append_drop (t.put j).2 ps]at n
  obtain h|h:=mem_append.mp n
  .exact mem_append_left _ h
  .exact mem_append_right _ (mem_cons_of_mem _ h)
 have g:∀ q,q∈ps.take (t.put j).2++(j,e)::ps.drop (t.put j).2->q=(j,e)\/q∈ps:=λq n=>by
  obtain h|h:=mem_append.mp n
  .exact .inr (mem_of_mem_take h)
  .rcases mem_cons.mp h with h|h
   .exact .inl h
   .exact .inr (List.mem_of_mem_drop h)
 have B:=jX j T.ris';have p:(t.put j).2=below t.place j:=rfl;have z:(t.put j).1.mask=t.mask:=rfl;have C:∀ m (h:m<(ps.map (·.1)).length),(ps.map (·.1))[m]=t.place[m]'(by rw[T.psz];simpa using h):=λm h=>by
  have:=T.pl;simp only[<-this];simp
 refine⟨?_,?_,?_,?_,?_,?_,?_⟩
 .show(insertAt t.place (below t.place j) j).toList=_;rw[toList_insertAt,T.pl,map_append,map_cons,map_take,map_drop,p]
 .rw[toList_insertAt,T.en,map_append,map_cons,map_take,map_drop]
 .rw[map_append,map_cons,map_take,map_drop,p];rw[List.pairwise_append,pairwise_cons];have y:∀ a∈(ps.map (·.1)).take (below t.place j),a<j:=λa o=>by
   obtain⟨m,z,rfl⟩:=getElem_of_mem o;rw[length_take]at z;rw[List.getElem_take,C];exact(B.2 m _).mp (by omega)
  have i:∀ a∈(ps.map (·.1)).drop (below t.place j),j<a:=λa o=>by
   have p:=List.mem_of_mem_drop o;obtain⟨m,z,rfl⟩:=getElem_of_mem o;rw[length_drop]at z;rw[List.getElem_drop]at p ⊢;have z:¬ (ps.map (·.1))[below t.place j+m]<j:=by
    rw[C];exact λh=>by have:=(B.2 _ _).mpr h;omega
   have B:(ps.map (·.1))[below t.place j+m]≠j:=λh=>E (h ▸ p);omega
  refine⟨T.ris.sublist (List.take_sublist _ _),⟨i,T.ris.sublist (List.drop_sublist _ _)⟩,λa o b p=>?_⟩
  obtain rfl|p:=mem_cons.mp p
  .exact y a o
  .exact lt_trans (y a o) (i b p)
 .intro q n
  obtain rfl|h:=g q n
  .exact D
  .exact T.top q h
 .show(if has t.dummies j=true then _ else t.dummies)=#[]
  rw[T.dum,xp];rfl
 .exact T.ok
 .intro q n
  obtain rfl|h:=g q n
  .obtain⟨pre,post,g,z⟩:=F;exact⟨pre,post,g,λx v=>k x (z x v)⟩
  .obtain⟨pre,post,g,z⟩:=T.reach q h;exact⟨pre,post,g,λx v=>k x (z x v)⟩
end Tab
theorem pR (k:Nat):∀ n i p,∃ r,line k (n+1) i p=line k n i p++r
 |0,i,p=>⟨line k 1 i p,rfl⟩
 |n+1,i,p=>by
  obtain⟨r,e⟩:=pR k n (leap k i p).1 (leap k i p).2;refine⟨r,?_⟩;show _++line k (n+1) _ _=(_++line k n _ _)++r;rw[e,List.append_assoc]
theorem free_eq (m:Nat)(owner:Array (Option Nat)):∀ g i p,layClean.free m owner g i p=(line m g i p).find? (λj=>(owner.getD j (some 0)).isNone)
 |0,i,p=>rfl
 |g+1,i,p=>by
  simp only[layClean.free,line,List.find?_append,List.find?_map];have e:(λk=>(owner.getD (i+k) (some 0)).isNone)=((λj=>(owner.getD j (some 0)).isNone) ∘ λx=>i+x):=rfl;rw[e]
  cases h:List.find? ((λj=>(owner.getD j (some 0)).isNone) ∘ λx=>i+x) (List.range (runEnd m i+1-i)) with
  |some k=>rfl
  |none=>
   simp only[Option.map_none,Option.none_or];exact free_eq m owner g _ _
theorem uI:∀ (l:List (Option Nat)) (j k:Nat),l[j]?=some none->List.Perm ((l.set j (some k)).filterMap id) (k::l.filterMap id)
 | [],j,k,h=>by simp at h
 |a::l,0,k,h=>by
  simp only[List.getElem?_cons_zero,Option.some.injEq]at h;subst h;simp
 |a::l,j+1,k,h=>by
  simp only[List.getElem?_cons_succ]at h;have i:=uI l j k h
  cases a with
  |none=>simpa using i
  |some b=>
   simp only[List.set_cons_succ,filterMap_cons,id];exact(List.Perm.cons b i).trans (List.Perm.swap k b _)
theorem tz:∀ l:List (Option Nat),(∀ x∈l,x.isSome=true)->(l.filterMap id).length=l.length
 | [],_=>rfl
 |none::l,h=>by have:=h none mem_cons_self;simp at this
 |some a::l,h=>by
  simp only[filterMap_cons,id,length_cons];rw[tz l λx e=>h x (mem_cons_of_mem _ e)]
structure Own (mask:Nat) (hs:List Int) (owner:Array (Option Nat)):Prop where
 sz:owner.size=mask+1
 pm:List.Perm (owner.toList.filterMap id) (List.range hs.length)
 rc:∀ j k,owner[j]?=some (some k)->∃ h,hs[k]?=some h/\∃ pre post,way mask h=pre++j::post/\∀ x∈pre,∃ k',owner[x]?=some (some k')
theorem Own.step {k:Nat}{hs:List Int}{owner:Array (Option Nat)}(O:Own k hs owner)(ok:GA k)(hl:hs.length<k+1)(h:Int) :
  ∃ j,layClean.free k owner (turns k) (bits h % (k+1)) (bits h)=some j/\Own k (hs++[h]) (owner.setIfInBounds j (some hs.length)):=by
 have R:∃ j,j<k+1/\owner[j]?=some none:=by
  apply Classical.byContradiction;intro hc;have D:∀ x∈owner.toList,x.isSome=true:=λx g=>by
   obtain⟨m,hm,rfl⟩:=getElem_of_mem g;have E:m<owner.size:=by simpa using hm
   cases g:owner[m] with
   |some v=>simp[g]
   |none=>exact absurd ⟨m,by rw[<-O.sz];exact E,by rw[Array.getElem?_eq_getElem E,g]⟩ hc
  have h1:=tz _ D;have h2:=O.pm.length_eq;rw[length_range]at h2;have h3:owner.toList.length=k+1:=by simpa using O.sz
  have h4:=h1.symm.trans h2;rw[h3]at h4;omega
 obtain⟨j0,U,e0⟩:=R;have q:∀ x,x<k+1->owner.getD x (some 0)=owner[x]?.getD (some 0):=λx g=>by
  rw[getD_eq_getD_getElem?]
 have z:((way k h).find? (λj=>(owner.getD j (some 0)).isNone)).isSome=true:=by
  rw[List.find?_isSome];exact⟨j0,ya ok (by omega),by rw[q j0 U,e0];rfl⟩
 obtain⟨j,hj⟩:=isSome_iff_exists.mp z;have o:layClean.free k owner (turns k) (bits h % (k+1)) (bits h)=some j:=by
  rw[free_eq];obtain⟨r,e⟩:=pR k (k+14) (bits h % (k+1)) (bits h);show(line k (k+14+1) _ _).find? _=_;rw[e,List.find?_append];show Option.or ((way k h).find? _) _=_;rw[hj];rfl
 obtain⟨X,pre,J,P,F⟩:=List.find?_eq_some_iff_append.mp hj;have y:j<k+1:=Nat.lt_succ_of_le (wH (h:=h) (by rw[P];simp))
 have Y:owner[j]?=some none:=by
  have i:j<owner.size:=by rw[O.sz];exact y
  have:=X;rw[q j y,Array.getElem?_eq_getElem i]at this;rw[Array.getElem?_eq_getElem i];simpa using this
 have i:j<owner.size:=by rw[O.sz];exact y
 have n:∀ x,(owner.setIfInBounds j (some hs.length))[x]?=if j=x then some (some hs.length) else owner[x]?:=λx=>by
  rw[Array.getElem?_setIfInBounds]
  split
  .rename_i e;subst e;simp[i]
  .rfl
 have p:∀ (x B:Nat),owner[x]?=some (some B)->∃ k'',(owner.setIfInBounds j (some hs.length))[x]?=some (some k''):=λx B e=>by
  rw[n]
  split
  .exact⟨_,rfl⟩
  .exact⟨B,e⟩
 refine⟨j,o,⟨by simpa using O.sz,?_,?_⟩⟩
 .rw[Array.toList_setIfInBounds];refine(uI _ _ _ (by simpa using Y)).trans ?_
  rw[List.length_append,length_singleton,range_succ];exact(List.Perm.cons _ O.pm).trans (List.perm_append_singleton _ _).symm
 .intro j' B e;rw[n]at e
  split at e
  .rename_i ej;subst ej;obtain rfl:hs.length=B:=by simpa using e
   refine⟨h,by simp,pre,J,P,λx g=>?_⟩
   have G:=F x g;have H:x<k+1:=Nat.lt_succ_of_le (wH (h:=h) (by rw[P];exact mem_append_left _ g))
   have I:x<owner.size:=by rw[O.sz];exact H
   rw[q x H,Array.getElem?_eq_getElem I]at G
   cases ho:owner[x] with
   |none=>simp[ho]at G
   |some v=>exact p x v (by rw[Array.getElem?_eq_getElem I,ho])
  .obtain⟨h',M,L,C,Q,Z⟩:=O.rc j' B e;refine⟨h',?_,L,C,Q,λx g=>?_⟩
   .rw[getElem?_append_left (by
     obtain hh|hh:=lt_or_ge B hs.length
     .exact hh
     .rw[getElem?_eq_none hh]at M;simp at M)]
    exact M
   .obtain⟨v,hv⟩:=Z x g;exact p x v hv
theorem uv {mask:Nat}(ok:GA mask):∀ (l hs:List Int) (owner:Array (Option Nat)),Own mask hs owner->hs.length+l.length<=mask+1 →
  ∃ owner',l.foldl (init:=some (owner,hs.length)) (λacc h=>do
   let (owner,k) ← acc
   let j ← layClean.free mask owner (turns mask) (bits h % (mask+1)) (bits h)
   pure (owner.setIfInBounds j (some k),k+1))=some (owner',(hs++l).length)/\Own mask (hs++l) owner'
 | [],hs,owner,O,_=>⟨owner,by simp,by simpa using O⟩
 |h::l,hs,owner,O,hl=>by
  simp only[length_cons]at hl;obtain⟨j,hj,O'⟩:=O.step ok (by omega) h
  obtain⟨owner',e,O''⟩:=uv ok l (hs++[h]) _ O' (by simp;omega)
  refine⟨owner',?_,by simpa using O''⟩
  rw[List.foldl_cons];simp only[Option.bind_eq_bind,Option.bind_some,hj,Option.pure_def]at e ⊢;rw[List.append_assoc]at e;simp only[List.length_append,length_singleton,List.singleton_append]at e ⊢;exact e
theorem ue {m:Nat}(ok:GA m)(h:Array Int)(g:h.size<=m+1) :
  ∃ owner,layClean m h=some owner/\Own m h.toList owner:=by
 have O:Own m [] (Array.replicate (m+1) none):=⟨by simp,by simp,λj k e=>by
  rw[Array.getElem?_replicate]at e
  split at e <;> simp at e⟩
 obtain⟨owner,e,o⟩:=uv ok h.toList [] _ O (by simpa using g)
 refine⟨owner,?_,by simpa using o⟩
 unfold layClean;rw[<-Array.foldl_toList];simp only[length_nil]at e;rw[e];rfl
theorem ui (f:Nat->Option Nat):∀ l:List Nat,(l.filterMap λj=>(f j).map (j,·)).map (·.1)=l.filter λj=>(f j).isSome
 | []=>rfl
 |a::l=>by
  have i:=ui f l
  cases h:f a <;> simp[h]at i ⊢ <;> exact i
theorem uj (f:Nat->Option Nat):∀ l:List Nat,(l.filterMap λj=>(f j).map (j,·)).map (·.2)=l.filterMap f
 | []=>rfl
 |a::l=>by
  have i:=uj f l
  cases h:f a <;> simp[h]at i ⊢ <;> exact i
theorem tX:∀ l:List α,(∀ x∈l,f x=g x)->l.filterMap f=l.filterMap g
 | [],_=>rfl
 |a::l,h=>by
  rw[filterMap_cons,filterMap_cons,h a mem_cons_self,tX l λx e=>h x (mem_cons_of_mem _ e)]
theorem range_getD (o:Array (Option Nat)):(List.range o.size).filterMap (λj=>o.getD j none)=o.toList.filterMap id:=by
 have e:=filterMap_getElem?_range o;rw[<-e,List.filterMap_filterMap];refine tX _ λx h=>?_;have h:=mem_range.mp h;simp[Array.getD,h]
theorem F8 {m finger moves:Nat}{led plain:Bool}(ok:GA m)(es:Array (Int × Value))(H:es.size<=m+1) :
  ∃ t n ps,laid m finger moves led plain (es.map (·.1))=some (t,n)/\Tab t (n.filterMap (es[·]?)) ps/\t.mask=m/\t.led=led/\t.plain=plain ∧
   List.Perm (n.filterMap (es[·]?)).toList es.toList:=by
 obtain⟨o,e,O⟩:=ue ok (es.map (·.1)) (by simpa using H)
 have B:((es.map (·.1)).toList).length=es.size:=by simp
 have C:∀ j k,o[j]?=some (some k)->∃ q:k<es.size,∃ pre p,way m es[k].1=pre++j::p/\∀ x∈pre,∃ G,o[x]?=some (some G):=λj k n=>by
  obtain⟨h,g,r⟩:=O.rc j k n;have E:k<es.size:=by
   obtain hh|hh:=lt_or_ge k es.size
   .exact hh
   .rw[getElem?_eq_none (by simpa using hh)]at g;simp at g
  refine⟨E,?_⟩;have:h=es[k].1:=by simpa [E] using g.symm
  rw[<-this];exact r
 let g:=(List.range (m+1)).filterMap λj=>(o.getD j none).map (j,·)
 have i:∀ q∈g,q.1<m+1/\o[q.1]?=some (some q.2):=λq y=>by
  obtain⟨j,z,e⟩:=List.mem_filterMap.mp y;have z:=mem_range.mp z;have v:j<o.size:=by rw[O.sz];exact z
  cases n:o[j] with
  |none=>simp[Array.getD,v,n]at e
  |some k=>
   have:q=(j,k):=by simpa [Array.getD,v,n] using e.symm
   subst this;exact⟨z,by rw[Array.getElem?_eq_getElem v,n]⟩
 have z:g.map (·.1)=(List.range (m+1)).filter λj=>(o.getD j none).isSome:=ui _ _;have D:g.map (·.2)=o.toList.filterMap id:=by
  rw[<-range_getD,O.sz];exact uj _ _
 have v:List.Perm (g.map (·.2)) (List.range es.size):=by rw[D,<-B];exact O.pm
 have F:List.Perm ((g.map (·.2)).filterMap (es[·]?)) es.toList:=by
  have:=v.filterMap (es[·]?)
  rwa [filterMap_getElem?_range]at this
 let d:Int × Value:=(0,.none)
 have v:(g.map (·.2)).filterMap (es[·]?)=g.map (λq=>es.getD q.2 d):=by
  rw[List.filterMap_map];have:∀ (l:List (Nat × Nat)),(∀ q∈l,q.2<es.size)->l.filterMap ((es[·]?) ∘ (·.2))=l.map (λq=>es.getD q.2 d):=by
   intro l
   induction l with
   |nil=>intro _;rfl
   |cons a l D=>
    intro h;have B:=h a mem_cons_self;rw[List.filterMap_cons_some (b:=es.getD a.2 d) (by simp[Array.getD,B]),D λq y=>h q (mem_cons_of_mem _ y)]
    rfl
  exact this g λq y=>(C q.1 q.2 (i q y).2).1
 refine⟨_,_,g.map (λq=>(q.1,es.getD q.2 d)),by unfold laid;rw[e];rfl,?_,rfl,rfl,rfl,?_⟩
 .have D:∀ x k,o[x]?=some (some k)->x∈(g.map (λq=>(q.1,es.getD q.2 d))).map (·.1):=λx k n=>by
   have B:x<o.size:=by
    obtain hh|hh:=lt_or_ge x o.size
    .exact hh
    .rw[Array.getElem?_eq_none hh]at n;simp at n
   rw[map_map];show x∈g.map (·.1);rw[z,mem_filter];refine⟨mem_range.mpr (by rw[<-O.sz];exact B),?_⟩
   rw[Array.getElem?_eq_getElem B]at n;simp[Array.getD,B,Option.some.inj n]
  refine⟨?_,?_,?_,?_,rfl,ok,?_⟩
  .show(g.map (·.1))=_;rw[map_map];rfl
  .rw[Array.toList_filterMap];show(g.map (·.2)).filterMap _=_;rw[v,map_map];rfl
  .rw[map_map];show(g.map (·.1)).Pairwise _;rw[z];exact List.pairwise_lt_range.sublist List.filter_sublist
  .intro q y;obtain⟨n,g,rfl⟩:=mem_map.mp y;exact le_of_lt_succ (i n g).1
  .intro q y;obtain⟨n,g,rfl⟩:=mem_map.mp y;obtain⟨E,pre,p,o,v⟩:=C n.1 n.2 (i n g).2;refine⟨pre,p,?_,λx i=>?_⟩
   .show way m (es.getD n.2 d).1=_;simp only[Array.getD,E,dif_pos];exact o
   .obtain⟨G,g⟩:=v x i;exact D x G g
 .rw[Array.toList_filterMap];exact F
abbrev ik (prog:Program)(w:World):=intKind prog w
structure Holds (prog:Program) (w:World) (h:Heap) (es:Array (Int × Value)) (ms:List (Addr × List Int)):Prop where
 pm:List.Perm es.toList (ms.map λm=>(tupleKeyHash (ik prog w) m.2,Value.ref m.1))
 key:∀ m∈ms,IsTupleKey (ik prog w) h m.2 m.1
 nd:(ms.map (·.2)).Nodup
theorem uQ:∀ {pre p post g:List Nat},pre++j::post=p++k::g->k∈pre\/j=k\/j∈p
 | [],[],_,_,e=>by simp at e;exact .inr (.inl e.1)
 | [],a::p,_,_,e=>by simp at e;exact .inr (.inr (by rw[e.1];exact mem_cons_self))
 |a::pre,[],_,_,e=>by simp at e;exact .inl (by rw[e.1];exact mem_cons_self)
 |a::pre,b::p,_,_,e=>by
  simp only[List.cons_append,List.cons.injEq]at e
  obtain h|h|h:=uQ e.2
  .exact .inl (mem_cons_of_mem _ h)
  .exact .inr (.inl h)
  .exact .inr (.inr (mem_cons_of_mem _ h))
section
variable {prog:Program}{w:World}{A:Around}{E:Value->Shared->Prop}{s:Shared}
theorem lY (n:Nat)(hk:IsTupleKey (ik prog w) s.heap ks b)(h:Q false s) :
  wpAny (model prog w) A (ofAClassStatement (n+1) (.ref b)) Q E s:=by
 have hT:=hk.typeIs;obtain⟨o,items,m,ho,_,hd,hi⟩:=hk;unfold ofAClassStatement;refine wpAny_bind (wpAny_typeOf hT ?_);dsimp only;rw[if_pos ⋯]
 refine wpAny_bind (wpAny_pure ?_);simp only[Bool.not_true,Bool.false_eq_true,if_false];refine wpAny_bind (wpAny_seqItems ho hd ?_);dsimp only;refine wpAny_bind ?_;rw[<-Array.forIn_toList];refine wpAny_forIn_list _ (λrest r s'=>r.1=none/\s'=s/\∀ v∈rest,carriedByValue v=true) _ ?_ ?_ _ _ ⟨rfl,rfl,hi.byValue⟩
 .rintro v rest r s' ⟨hr,rfl,hall⟩;have hv:=hall v mem_cons_self;have e:ofAClassStatement n v=pure false:=by
   cases v with
   |ref a=>simp[carriedByValue]at hv
   |_=>unfold ofAClassStatement;rfl
  rw[e];refine wpAny_bind (wpAny_pure ?_);simp only[Bool.false_eq_true,if_false];exact wpAny_pure ⟨rfl,rfl,λu hu'=>hall u (mem_cons_of_mem _ hu')⟩
 .rintro⟨r1,r2⟩ s' ⟨hr,rfl,_⟩;simp only at hr;subst hr;exact wpAny_pure h
theorem oM (n:IsTupleKey (ik prog w) s.heap ks b)
  (o:∀ v∈l,∃ c k,v=.ref c/\IsTupleKey (ik prog w) s.heap k c) (h:Q false s) :
  wpAny (model prog w) A (searchCouldBeSeen (.ref b) l) Q E s:=by
 unfold searchCouldBeSeen;refine wpAny_bind ?_;refine wpAny_forIn_list _ (λrest r i=>r.1=none/\i=s/\∀ v∈rest,∃ c k,v=.ref c/\IsTupleKey (ik prog w) s.heap k c) _ ?_ ?_ _ _ ⟨rfl,rfl,o⟩
 .rintro v rest r i ⟨j,rfl,e⟩;obtain⟨c,k,rfl,m⟩:=e v mem_cons_self;have g:∀ v∈rest,∃ c k,v=.ref c/\IsTupleKey (ik prog w) i.heap k c:=λu k=>e u (mem_cons_of_mem _ k);dsimp only;refine wpAny_ite_split (λ_=>wpAny_pure ⟨rfl,rfl,g⟩) (λ_=>?_);refine wpAny_bind (wpAny_eqIsQuiet_tuple n ?_);simp only[Bool.not_true,Bool.false_eq_true,if_false];refine wpAny_bind (wpAny_eqIsQuiet_tuple m ?_);simp only[Bool.not_true,Bool.false_eq_true,if_false];refine wpAny_bind (lY 7 n ?_);simp only[Bool.false_eq_true,if_false];refine wpAny_bind (lY 7 m ?_);simp only[Bool.false_eq_true,if_false];exact wpAny_pure ⟨rfl,rfl,g⟩
 .rintro⟨e,e⟩ i ⟨j,rfl,_⟩;simp only at j;subst j;exact wpAny_pure h
theorem oN (n:Nat)(hk:IsTupleKey (ik prog w) s.heap ks b)(h:Q true s) :
  wpAny (model prog w) A (hashByValue (n+1) (.ref b)) Q E s:=by
 have hT:=hk.typeIs;obtain⟨o,items,m,ho,_,hd,hi⟩:=hk;unfold hashByValue;refine wpAny_bind (wpAny_specialOf hT F.slot_tuple_hash.lookup ?_);dsimp only;refine wpAny_bind (wpAny_seqItems ho hd ?_);simp only[Option.getD_some];refine wpAny_bind ?_;rw[<-Array.forIn_toList];refine wpAny_forIn_list _ (λrest r s'=>r.1=none/\s'=s/\∃ ks',ItemsAre (ik prog w) ks' rest) _ ?_ ?_ _ _ ⟨rfl,rfl,ks,hi⟩
 .rintro v rest r s' ⟨hr,rfl,ks',hall⟩
  cases hall with
  | @cons k _ ks'' _ h1 h2=>
   obtain⟨t,rfl⟩:=Value.isInt_shape h1;have e:hashByValue n (.int k t)=pure true:=by unfold hashByValue;rfl
   rw[e];refine wpAny_bind (wpAny_pure ?_);simp only[Bool.not_true,Bool.false_eq_true,if_false];exact wpAny_pure ⟨rfl,rfl,ks'',h2⟩
 .rintro⟨r1,r2⟩ s' ⟨hr,rfl,_⟩;simp only at hr;subst hr;exact wpAny_pure h
theorem zN
  (hu:A.units<cLine) (ho:s.heap.get? a=some o) (hd:o.data=.set es ep t) (T:Tab t es ps) (hlen:ps.length<=t.mask) (H:Holds prog w s.heap es ms)
  (hk:IsTupleKey (ik prog w) s.heap ks b)
  (hin:ks∈ms.map (·.2)->Q (.there none) s)
  (hout:ks∉ms.map (·.2)->∀ j pre post,way t.mask (tupleKeyHash (ik prog w) ks)=pre++j::post->(∀ x∈pre,x∈ps.map (·.1))->j∉ps.map (·.1)->Q (.free j false) s) :
  ∀ (y N:Nat) (p:Probe) (k:Option Probe) (done:List Nat),k.getD (t.probeStart (tupleKeyHash (ik prog w) ks))=p->p.dummy=none →
   way t.mask (tupleKeyHash (ik prog w) ks)=done++rem t.mask N p->(rem t.mask N p).length<y →
   (∀ x∈done,∃ q∈ps,q.1=x/\∀ c,q.2.2=.ref c->¬ IsTupleKey (ik prog w) s.heap ks c) →
   wpAny (model prog w) A (setSearchFrom a (.ref b) (tupleKeyHash (ik prog w) ks) true y k) Q E s:=by
 have hf:=T.fits hlen;have hnd:∀ j,t.slot j≠.dummy:=λj=>by
  rcases slot_of T.ris' T.dum j with ⟨e,_⟩|⟨i,_,e,_⟩ <;> rw[e] <;> exact λh=>nomatch h
 have G:∀ q∈ps,∃ m∈ms,q.2=(tupleKeyHash (ik prog w) m.2,Value.ref m.1):=λq M=>by
  have D:q.2∈es.toList:=by rw[T.en];exact mem_map.mpr ⟨q,M,rfl⟩
  obtain⟨m,L,e⟩:=mem_map.mp (H.pm.mem_iff.mp D);exact⟨m,L,e.symm⟩
 have g:∃ j,j<=t.mask/\t.slot j=.empty:=by
  apply Classical.byContradiction;intro R;have n:∀ j,j∈List.range (t.mask+1)->j∈ps.map (·.1):=λj z=>by
   have z:=mem_range.mp z
   obtain⟨e,_⟩|⟨i,hi,_,e⟩:=slot_of T.ris' T.dum j
   .exact absurd ⟨j,⋯,e⟩ R
   .rw[<-T.pl,<-e];simp
  have:=List.nodup_range.length_le_of_subset (l₂:=ps.map (·.1)) (λj z=>n j z);simp at this;ext
 intro y
 induction y with
 |zero=>intro N p k done _ _ _ n;ext
 |succ y ih=>
  intro N p k done X F B n z;unfold setSearchFrom;refine wpAny_bind (wpAny_setState_of ho hd hf ?_);dsimp only;rw[if_neg (by rcases T.ok with e|e|e <;> simp[gaveWay,e])]
  obtain⟨I,y,J⟩:=g;have n:I∈rem t.mask N p:=by
   have D:=ya (h:=tupleKeyHash (ik prog w) ks) T.ok y;rw[B]at D
   obtain D|D:=mem_append.mp D
   .obtain⟨q,M,e,_⟩:=z _ D
    obtain⟨_,hn⟩|⟨i,hi,O,_⟩:=slot_of T.ris' T.dum I
    .exact absurd (by rw[T.pl,<-e];exact mem_map.mpr ⟨q,M,rfl⟩) hn
    .rw[J]at O;exact nomatch O
   .exact D
  have g:(rem t.mask N p).length<=10*turns t.mask:=by
   have D:=iq t.mask (t.mask+14) (bits (tupleKeyHash (ik prog w) ks) % (t.mask+1)) (bits (tupleKeyHash (ik prog w) ks));have y:(way t.mask (tupleKeyHash (ik prog w) ks)).length=done.length+(rem t.mask N p).length:=by rw[B,List.length_append]
   unfold way at y;unfold turns;ext
  obtain⟨pre,j,post,C,y,P⟩:=FT (hashAt:=λi=>(es[i]?.map (·.1)).getD 0) (h:=tupleKeyHash (ik prog w) ks) hnd (10*turns t.mask) N p g F ⟨I,n,J⟩;have I:∀ x∈pre,∃ q∈ps,q.1=x/\∀ c,q.2.2=.ref c->¬ IsTupleKey (ik prog w) s.heap ks c:=λx n=>by
   obtain⟨i,J,U⟩:=y x n
   obtain⟨e,_⟩|⟨y,F,e,O⟩:=slot_of T.ris' T.dum x
   .rw[e]at J;exact nomatch J
   .rw[e]at J;obtain rfl:y=i:=by injection J
    have g:y<ps.length:=by rw[<-T.psz];exact F
    have Z:ps[y].1=x:=by
     rw[<-O];have:=T.pl;have h3:t.place.toList[y]?=(ps.map (·.1))[y]?:=by rw[this]
     simpa [F,g] using h3.symm
    refine⟨ps[y],getElem_mem g,Z,λc R Y=>U ?_⟩;obtain⟨m,L,em⟩:=G ps[y] (getElem_mem g);rw[em]at R;obtain rfl:m.1=c:=by injection R
    have U:=(H.key m L).inj Y;have h4:es[y]?=some ps[y].2:=by
     have:es.toList[y]?=(ps.map (·.2))[y]?:=by rw[T.en]
     simpa [g] using this
    rw[h4,em,U];rfl
  generalize hpr:t.probe _ (tupleKeyHash (ik prog w) ks) (k.getD _)=pr;rw[X]at hpr
  obtain⟨J,U⟩|⟨i,N',p',J,hh,U,k,hpd'⟩:=P
  .obtain rfl:pr=some (.empty j none):=hpr.symm.trans U;have X:j∉ps.map (·.1):=by
    obtain⟨_,hn⟩|⟨i,hi,O,_⟩:=slot_of T.ris' T.dum j
    .rw[<-T.pl];exact hn
    .rw[J]at O;exact nomatch O
   have P:∀ x∈done++pre,∃ q∈ps,q.1=x/\∀ c,q.2.2=.ref c->¬ IsTupleKey (ik prog w) s.heap ks c:=λx n=>by
    obtain n|n:=mem_append.mp n
    .exact z x n
    .exact I x n
   have O:way t.mask (tupleKeyHash (ik prog w) ks)=(done++pre)++j::post:=by rw[B,C,List.append_assoc]
   refine wpAny_pure (hout (λhin'=>?_) j (done++pre) post O (λx n=>?_) X)
   .obtain⟨m,L,ek⟩:=mem_map.mp hin';have he:(tupleKeyHash (ik prog w) m.2,Value.ref m.1)∈es.toList:=H.pm.mem_iff.mpr (mem_map.mpr ⟨m,L,rfl⟩);rw[T.en]at he;obtain⟨q,M,eq⟩:=mem_map.mp he;obtain⟨pre',post',ew,hp'⟩:=T.reach q M;have eq1:q.2.1=tupleKeyHash (ik prog w) ks:=by rw[eq,ek]
    rw[eq1,O]at ew
    obtain h|h|h:=uQ ew
    .obtain⟨q',O,e1,D⟩:=P _ h;have:q'=q:=by
      have hnd:=T.ris.imp (λh=>ne_of_lt h);obtain⟨i1,hi1,rfl⟩:=getElem_of_mem O;obtain⟨i2,g,rfl⟩:=getElem_of_mem M;have:i1=i2:=by
       have h5:=pairwise_iff_getElem.mp T.ris
       obtain O|O|O:=lt_trichotomy i1 i2
       .have:=h5 i1 i2 (by simpa using hi1) (by simpa using g) O
        simp only[getElem_map]at this;ext
       .exact O
       .have:=h5 i2 i1 (by simpa using g) (by simpa using hi1) O
        simp only[getElem_map]at this;ext
      subst this;rfl
     subst this;exact D m.1 (by rw[eq]) (ek ▸ H.key m L)
    .exact X (h ▸ mem_map.mpr ⟨q,M,rfl⟩)
    .exact X (hp' j h)
   .obtain⟨q,M,e,_⟩:=P x n;exact mem_map.mpr ⟨q,M,e⟩
  .obtain rfl:pr=some (.candidate j i p'):=hpr.symm.trans U;dsimp only;obtain⟨y,F,D,M⟩:∃ y,∃ hi:y<t.place.size,t.slot j=.live y/\t.place[y]=j:=by
    obtain⟨e,_⟩|r:=slot_of T.ris' T.dum j
    .rw[e]at J;exact nomatch J
    .exact r
   rw[J]at D;obtain rfl:i=y:=by injection D
   have g:i<ps.length:=by rw[<-T.psz];exact F
   have Z:ps[i].1=j:=by
    rw[<-M];have h3:t.place.toList[i]?=(ps.map (·.1))[i]?:=by rw[T.pl]
    simpa [F,g] using h3.symm
   have h4:es[i]?=some ps[i].2:=by
    have:es.toList[i]?=(ps.map (·.2))[i]?:=by rw[T.en]
    simpa [g] using this
   obtain⟨m,L,em⟩:=G ps[i] (getElem_mem g);rw[em]at h4;have y:∀ v∈(es.filter (·.1 == tupleKeyHash (ik prog w) ks)).toList.map (·.2),∃ c D,v=.ref c/\IsTupleKey (ik prog w) s.heap D c:=λv D=>by
    obtain⟨e,he,rfl⟩:=mem_map.mp D;have F:e∈es.toList:=by
     have:=Array.mem_toList_iff.mp he;exact Array.mem_toList_iff.mpr (Array.mem_filter.mp this).1
    obtain⟨M,G,D⟩:=mem_map.mp (H.pm.mem_iff.mp F);exact⟨M.1,M.2,by rw[<-D],H.key M G⟩
   refine wpAny_ite_split (λ_=>wpAny_bind (oM hk y ?_)) (λ_=>?_)
   all_goals try simp only[Bool.false_eq_true,if_false]
   all_goals rw[h4]
   all_goals dsimp only
   all_goals refine wpAny_bind (wpAny_holding (wpAny_eqBool_tuple hu (H.key m L) hk ?_))
   all_goals refine wpAny_bind (wpAny_setState_of ho hd hf ?_)
   all_goals by_cases y:m.2=ks
   all_goals try (
    rw[decide_eq_true y];simp only[Bool.and_self,if_true];exact wpAny_pure (hin (mem_map.mpr ⟨m,L,y⟩)))
   all_goals rw[decide_eq_false y]
   all_goals simp only[Bool.and_false,Bool.false_eq_true,if_false,sameMemory,beq_self_eq_true,if_true]
   all_goals rw[J]
   all_goals dsimp only
   all_goals rw[h4]
   all_goals dsimp only
   all_goals refine wpAny_bind (wpAny_isSame_ref_self ?_)
   all_goals simp only[if_true]
   all_goals refine wpAny_bind (wpAny_pure ?_)
   all_goals dsimp only
   all_goals(
    refine ih N' p' (some p') (done++pre++[j]) rfl hpd' (by rw[k,B,C];simp) ?_ ?_
    .rw[k];have:(rem t.mask N p).length=pre.length+(post.length+1):=by rw[C];simp
     ext
    .intro x n
     obtain n|n:=mem_append.mp n
     .rcases mem_append.mp n with n|n
      .exact z x n
      .exact I x n
     .obtain rfl:=mem_singleton.mp n;refine⟨ps[i],getElem_mem g,Z,λc R Y=>?_⟩;rw[em]at R;obtain rfl:m.1=c:=by injection R
      exact y ((H.key m L).inj Y))
end
def dP (prog:Program)(w:World)(h:Heap)(a:Addr)(ms:List (Addr × List Int)):Prop:=
 ∃ o e g t p,h.get? a=some o/\o.ExactSet/\o.data=.set e g t/\Tab t e p/\b9 t.mask p.length/\Holds prog w h e ms/\t.plain=true/\t.led=!(w.params.followText "set-order")
theorem b9.le {k n:Nat}(r:b9 k n):n<=k:=by
 rcases r with ⟨e,h⟩ | ⟨e,h⟩ | ⟨e,h⟩ <;> ext
section
variable {prog:Program}{w:World}{A:Around}{E:Value->Shared->Prop}{s:Shared}
theorem ub (x:IsTupleKey (ik prog w) h ks c)(m:h.get? a=some o)(hd:o.data=.set es p t)
  (hs:Heap.SameBut a h h'):IsTupleKey (ik prog w) h' ks c:=by
 obtain⟨j,items,n,g,k,e,hi⟩:=x;have i:c≠a:=by
  rintro rfl;obtain rfl:j=o:=Option.some.inj (g.symm.trans m);rw[hd]at e;exact nomatch e
 exact⟨j,items,n,(hs.2 c i).trans g,k,e,hi⟩
theorem Holds.len (H:Holds prog w h es ms):es.size=ms.length:=by
 rw[<-length_toList,H.pm.length_eq,length_map]
def fU (ms:List (Addr × List Int))(b:Addr)(ks:List Int):List (Addr × List Int):=if ks∈ms.map (·.2) then ms else ms++[(b,ks)]
theorem LU {a b:Addr}{ks:List Int}{ms:List (Addr × List Int)}{Q:Bool->Shared->Prop}(hu:A.units<cLine)(hS:dP prog w s.heap a ms)(hk:IsTupleKey (ik prog w) s.heap ks b)(hroom:ms.length<76)
  (h:∀ h' r,Heap.SameBut a s.heap h'->dP prog w h' a (fU ms b ks)->Q r {s with heap:=h'}) :
  wpAny (model prog w) A (setAddHashed a (.ref b) (tupleKeyHash (ik prog w) ks)) Q E s:=by
 obtain⟨o,es,ep,t,q,U,hex,hd,T,R,H,X,L⟩:=id hS;have B:=T.fits R.le;have n:q.length=ms.length:=by rw[<-T.esz,H.len]
 unfold setAddHashed setAddHashedIn;refine wpAny_holding (wpAny_bind (wpAny_setState_of U hd B ?_));dsimp only;rw[if_neg (by simp[byScan,Value.scannable])]
 refine wpAny_bind ?_;unfold setSearch;refine zN hu U hd T R.le H hk (λk=>?_) (λg j pre p v i C=>?_) 100000 (t.mask+13) _ none [] rfl rfl (by rw[getD_none,xR,nil_append]) ?_ (λx z=>absurd z not_mem_nil)
 .refine wpAny_pure ?_;have e:s={s with heap:=s.heap}:=by cases s;rfl
  rw[e];exact h s.heap false (Heap.SameBut.refl a s.heap) (by unfold fU;rw[if_pos k];exact hS)
 .dsimp only;refine wpAny_bind (wpAny_setState_of U hd B ?_);dsimp only;have k:j<=t.mask:=wH (h:=tupleKeyHash (ik prog w) ks) (by rw[v];simp)
  have G:=T.put (e:=(tupleKeyHash (ik prog w) ks,Value.ref b)) k C ⟨pre,p,v,i⟩;have i:(t.put j).1.plain=true:=X;rw[if_pos i];refine wpAny_bind (oN 7 hk ?_);simp only[if_true];have v:q.length+1<=(t.put j).1.mask:=by
   show q.length+1<=t.mask
   rcases R with ⟨e,h⟩ | ⟨e,h⟩ | ⟨e,h⟩ <;> ext
  generalize k:q.take (t.put j).2++(j,(tupleKeyHash (ik prog w) ks,Value.ref b))::q.drop (t.put j).2=ps1 at G;generalize i:insertAt es (t.put j).2 (tupleKeyHash (ik prog w) ks,Value.ref b)=es1 at G ⊢;have p:ps1.length=q.length+1:=by
   rw[<-k];have:=congrArg List.length (List.take_append_drop (t.put j).2 q);simp only[List.length_append,length_cons]at this ⊢;ext
  have O:List.Perm es1.toList (fU ms b ks |>.map λm=>(tupleKeyHash (ik prog w) m.2,Value.ref m.1)):=by
   unfold fU;rw[if_neg g,<-i,map_append];refine(SetTable.insertAt_perm _ _ _).trans ?_;rw[Array.toList_push];exact H.pm.append_right _
  have M:((fU ms b ks).map (·.2)).Nodup:=by
   unfold fU;rw[if_neg g,map_append,List.nodup_append];refine⟨H.nd,by simp,λx z y i=>?_⟩
   obtain rfl:y=ks:=by simpa using i
   exact λe=>g (e ▸ z)
  have B:∀ m∈fU ms b ks,IsTupleKey (ik prog w) s.heap m.2 m.1:=by
   unfold fU;rw[if_neg g];intro m J
   obtain J|J:=mem_append.mp J
   .exact H.key m J
   .obtain rfl:=mem_singleton.mp J;exact hk
  have i:(t.put j).1.fits es1.size=true:=G.fits (by rw[p];exact v)
  have z:es1.size<=sizeLine:=by
   rw[G.esz,p];have:sizeLine=16777216:=sizeLine_eq;have g:q.length=ms.length:=n;ext
  refine wpAny_bind (wpAny_storeSet_of U hd ?_ z);have D:=Heap.SameBut.update s.heap a (Obj.putSet es1 (t.put j).1);have I:(s.heap.update a (Obj.putSet es1 (t.put j).1)).get? a=some {o with data:=.set es1 (ep+1) (t.put j).1}:=by
   have:=Heap.get?_update_self (Obj.putSet es1 (t.put j).1) U (by rw[putSet_of es1 (t.put j).1 hd];rfl)
   rw[putSet_of es1 (t.put j).1 hd]at this;exact this
  have v:(t.put j).1.fill=q.length+1:=by
   show(t.put j).1.place.size+(t.put j).1.dummies.size=_;rw[G.psz,G.dum,p];rfl
  have k:(t.put j).1.mask=t.mask:=rfl;refine wpAny_ite_split (λg=>?_) (λg=>?_)
  .simp only[Bool.not_false,Bool.true_and,tooFull,v,k,ge_iff_le,decide_eq_true_eq]at g;obtain⟨F,Z,okm,n⟩:∃ F,sizeAbove (grown (es.size+1))=F+1/\GA F/\b9 F (q.length+1):=by
    rw[T.esz]
    obtain⟨e,h⟩|⟨e,h⟩|⟨e,h⟩:=R
    .have C:q.length=4:=⋯
     rw[C];exact⟨31,⋯,.inr (.inl rfl),.inr (.inl ⟨rfl,⋯⟩)⟩
    .have C:q.length=18:=⋯
     rw[C];exact⟨127,⋯,.inr (.inr rfl),.inr (.inr ⟨rfl,⋯⟩)⟩
    .ext
   refine wpAny_bind ?_;unfold setRelay;refine wpAny_bind (wpAny_setState_of I rfl i ?_);dsimp only;have i:F<=127:=by rcases okm with e | e | e <;> ext
   rw[Z,if_neg (by rw[sizeLine_eq];ext)]
   obtain⟨P,i,ps2,el,T2,em2,el2,Y,C⟩:=F8 (finger:=(t.put j).1.finger) (moves:=(t.put j).1.movedTo F) (led:=(t.put j).1.led) (plain:=(t.put j).1.plain) okm es1 (by rw[G.esz,p];have:=n.le;ext)
   have F:(t.put j).1.relaid (es1.map (·.1)) (grown (es.size+1))=some (P,i):=by
    unfold relaid;rw[Z,Nat.add_sub_cancel];exact el
   rw[F];generalize Z:i.filterMap (es1[·]?)=es2 at T2 C;have F:es2.size=es1.size:=by rw[<-length_toList,C.length_eq,length_toList]
   have hl2:ps2.length=q.length+1:=by rw[<-T2.esz,F,G.esz,p]
   refine wpAny_bind ?_;show wpAny (model prog w) A (if ((i.filterMap (es1[·]?)).size != es1.size)=true then _ else _) _ _ _
   rw[Z,if_neg (by rw[F];simp)]
   refine wpAny_pure ?_;dsimp only;refine wpAny_storeSet_of (s:={s with heap:=s.heap.update a (Obj.putSet es1 (t.put j).1)}) I rfl ?_ (by rw[F];exact z)
   have i:=D.trans (Heap.SameBut.update (s.heap.update a (Obj.putSet es1 (t.put j).1)) a (Obj.putSet es2 P));have q:((s.heap.update a (Obj.putSet es1 (t.put j).1)).update a (Obj.putSet es2 P)).get? a=some {o with data:=.set es2 (ep+1+1) P}:=by
    have:=Heap.get?_update_self (Obj.putSet es2 P) I (by rw[putSet_of es2 P rfl];rfl)
    rw[putSet_of es2 P rfl]at this;exact this
   refine wpAny_pure (h _ true i ⟨_,es2,ep+1+1,P,ps2,q,hex,rfl,T2,by rw[em2,hl2];exact n,⟨C.trans O,λm J=>ub (B m J) U hd i,M⟩,by rw[Y];exact X,by rw[el2];exact L⟩)
  .refine wpAny_pure (h _ true D ⟨_,es1,ep+1,(t.put j).1,ps1,I,hex,rfl,G,?_,⟨O,λm J=>ub (B m J) U hd D,M⟩,X,L⟩);rw[p,k];simp only[Bool.not_false,Bool.true_and,tooFull,v,k,ge_iff_le,decide_eq_true_eq]at g
   obtain⟨e,h⟩|⟨e,h⟩|⟨e,h⟩:=R
   .left;ext
   .right;left;ext
   .right;right;ext
 .rw[getD_none,xR];unfold way;have g:=iq t.mask (t.mask+14) (bits (tupleKeyHash (ik prog w) ks) % (t.mask+1)) (bits (tupleKeyHash (ik prog w) ks))
  rcases T.ok with e | e | e <;> rw[e]at g ⊢ <;> ext
end
set_option maxHeartbeats 3200000
def met (km:Nat->Addr × List Int)(i:Nat):List (Addr × List Int):=((List.range i).map km).foldl (λe m=>fU e m.1 m.2) []
theorem kd (km:Nat->Addr × List Int)(i:Nat):met km (i+1)=fU (met km i) (km i).1 (km i).2:=by
 unfold met;rw[range_succ,map_append,foldl_append];rfl
theorem met_len (km:Nat->Addr × List Int):∀ i,(met km i).length<=i
 |0=>by simp[met]
 |i+1=>by
  have:=met_len km i;rw[kd];unfold fU
  split
  .ext
  .simp;ext
theorem met_of (km:Nat->Addr × List Int):∀ i m,m∈met km i->∃ k,k<i/\m=km k
 |0,m,h=>by simp[met]at h
 |i+1,m,h=>by
  rw[kd]at h;unfold fU at h
  split at h
  .obtain⟨k,g,e⟩:=met_of km i m h;exact⟨k,⋯,e⟩
  .rcases mem_append.mp h with h|h
   .obtain⟨k,g,e⟩:=met_of km i m h;exact⟨k,⋯,e⟩
   .exact⟨i,⋯,by simpa using h⟩
theorem met_has (km:Nat->Addr × List Int):∀ i k,k<i->(km k).2∈(met km i).map (·.2)
 |0,k,h=>⋯
 |i+1,k,h=>by
  rw[kd];unfold fU
  obtain e|e:=lt_or_ge k i
  .have:=met_has km i k e
   split
   .exact this
   .rw[map_append];exact mem_append_left _ this
  .have:k=i:=⋯
   subst this
   split
   .assumption
   .simp
section
variable {prog:Program}{w:World}{A:Around}{E:Value->Shared->Prop}{s:Shared}
theorem dP.kept (S:dP prog w h a ms)(k:∀ o,h.get? a=some o->h'.get? a=some o)
  (km:∀ m∈ms,∀ o,h.get? m.1=some o->h'.get? m.1=some o):dP prog w h' a ms:=by
 obtain⟨o,g,p,t,j,i,e,hd,T,R,H,r⟩:=S;refine⟨o,g,p,t,j,k o i,e,hd,T,R,⟨H.pm,λm g=>?_,H.nd⟩,r⟩;obtain⟨i,items,n,e,x⟩:=H.key m g;exact⟨i,items,n,km m g i e,x⟩
theorem Cr
  (W:WalksS prog w A.in1 I fp C G n P St) (S:Addr) (H:S∉fp) (km:Nat->Addr × List Int) (M:∀ i v,P i v->v=.ref (km i).1) (B:∀ i,i<n->(km i).1∉S::C) (hn:n<=76) (Z:A.in1.units<cLine) :
  ∀ (k i:Nat) (s:Shared),n-i=k->i<=n->St i s->(∀ i,i<n->IsTupleKey (ik prog w) s.heap (km i).2 (km i).1)->dP prog w s.heap S (met km i) →
   (∀ y,Moved (S::C) G s y->dP prog w y.heap S (met km n)->R (.ok (.ret .none)) y) →
   codeAny (model prog w) A (.builtin "set.update.loop" ⟨[.ref S,.ref I],[]⟩) R s:=by
 have g:S∉C:=λh=>H (W.sub _ h);have L:∀ b∈C,b∈S::C:=λb z=>mem_cons_of_mem _ z;have O:∀ {s y:Shared} (i:Nat),i<=n->Moved C G s y->dP prog w s.heap S (met km i)->dP prog w y.heap S (met km i):=λi hi q F=>
  F.kept (λo e=>q.heap S o g e) λm g o e=>by
   obtain⟨k,p,rfl⟩:=met_of km i m g;exact q.heap _ o (λX=>B k ⋯ (mem_cons_of_mem _ X)) e
 intro k
 induction k with
 |zero=>
  intro i s p hi g j F Q;obtain rfl:i=n:=⋯
  refine codeAny_builtin PyProof.Rows.F.entry_set_update_loop ?_;rw[Around.under_plainId PyProof.Rows.F.plain_set_update_loop _];show wpAny _ A.in1 (pyNext (.ref I) >>= _) _ _ s;refine wpAny_bind (W.done s _ _ g λy q=>?_);show wpAny _ A.in1 (ret Value.none) _ _ y;exact wpAny_pure (Q y (q.mono L) (O i (le_refl _) q F))
 |succ k ih=>
  intro i s p hi g j F Q;have p:i<n:=⋯
  refine codeAny_builtin PyProof.Rows.F.entry_set_update_loop ?_;rw[Around.under_plainId PyProof.Rows.F.plain_set_update_loop _];show wpAny _ A.in1 (pyNext (.ref I) >>= _) _ _ s;refine wpAny_bind (W.item i s _ _ p g λv D g J q=>?_);obtain rfl:=M i v g;have U:=O i hi q F;have g:∀ i,i<n->IsTupleKey (ik prog w) D.heap (km i).2 (km i).1:=λi hi=>by
   obtain⟨O,items,Y,y,x⟩:=j i hi;exact⟨O,items,Y,q.heap _ O (λX=>B i hi (mem_cons_of_mem _ X)) y,x⟩
  show wpAny _ A.in1 (holding [Value.ref (km i).1] (setAdd S (.ref (km i).1)) >>= _) _ _ D;refine wpAny_bind (wpAny_holding ?_);unfold setAdd;refine wpAny_holding (wpAny_bind (wpAny_pyHash_tuple Z (g i p) ?_));refine LU (s:={D with toks:=D.toks+((km i).2.length+1)}) Z U (g i p) (lt_of_le_of_lt (met_len km i) ⋯) λX r U F=>?_
  rw[<-kd]at F;have j:∀ b o,b≠S->D.heap.get? b=some o->X.get? b=some o:=λb o z e=>(U.2 b z).trans e;refine wpAny_pure ⟨plainId_quiet PyProof.Rows.F.plain_set_update_loop _,ih (i+1) _ ⋯ p (W.frame _ D X _ J (Nat.le_add_right _ _) λb z o e=>j b o (λhh:b=S=>H (hh ▸ z)) e) (λi hi=>?_) F λF D p=>?_⟩
  .obtain⟨O,items,Y,y,x⟩:=g i hi;exact⟨O,items,Y,j _ O (λhh=>B i hi (hh ▸ mem_cons_self)) y,x⟩
  .refine Q F (Moved.trans W.gtrans ((q.mono L).then_heap (Nat.le_add_right _ _) λb o z e=>?_) D) p;exact j b o (λhh=>z (hh ▸ mem_cons_self)) e
theorem qM (a:Value)
  (h:Q1 (.ref s.heap.objs.size) {s with heap:=s.heap.push {cls:=.type "set",dict:=none,data:=.set #[] 0 (.fresh 0 0 (!(w.params.followText "set-order")))}}) :
  codeAny (model prog w) A (.call (.builtin "set.__new__") ⟨[.type "set",a],[]⟩) (wants Q1 E) s:=by
 refine codeAny_of_tree ?_;show wpAny _ A.in1 (checkBuiltinCall "set.__new__" ⟨[.type "set",a],[]⟩ >>= λ_=>again (.builtin "set.__new__" ⟨[.type "set",a],[]⟩)) _ _ s;refine wpAny_bind (wpAny_of_eq (F.newCall_set_1 a) (wpAny_pure ⟨plainId_quiet F.plain_set_new _,codeAny_builtin F.entry_set_new ?_⟩));rw[Around.under_plainId F.plain_set_new _];unfold Builtin.«set.__new__» Builtin.Frozenset.newClass;have e:=sub_set_self;obtain⟨p,g,d,k,os⟩:=s;dsimp only
 wp_walk
 refine wpAny_askSetting (wpAny_pure ?_);dsimp only;simp only[newObj];refine wpAny_bind (wpAny_alloc (wpAny_pure ?_));exact wpAny_pure h
theorem yR (o:h.get? a=some {cls:=.type "set",dict:=none,data:=.set #[] 0 (.fresh 0 0 (!(w.params.followText "set-order")))}):dP prog w h a []:=
 ⟨_,#[],0,_,[],o,⟨rfl,rfl,rfl⟩,rfl,⟨rfl,rfl,.nil,λq e=>absurd e not_mem_nil,rfl,.inl rfl,λq e=>absurd e not_mem_nil⟩,.inl ⟨rfl,⋯⟩,
  ⟨.refl _,λm e=>absurd e not_mem_nil,.nil⟩,rfl,rfl⟩
theorem call_set_tup
  (hh:A.handled=none) (hu:A.units+10<cLine) (hl:s.heap.IsList l items) (hv:∀ (i:Nat) (v:Value),items[i]?=some v->v=.ref (km i).1) (y:∀ i,i<items.size->IsTupleKey (ik prog w) s.heap (km i).2 (km i).1) (hn:items.size<=76)
  (h:∀ (h':Heap) (tk:Nat),dP prog w h' s.heap.objs.size (met km items.size)->(∀ b o,b<s.heap.objs.size->s.heap.get? b=some o->h'.get? b=some o)->Q (.ref s.heap.objs.size) {s with heap:=h',toks:=tk}) :
  wpAny (model prog w) A (call (.type "set") [.ref l]) Q E s:=by
 obtain⟨c,tl,hmro⟩:=F.called_set.mro;have Y:=F.called_set.made;have hsub:=F.called_set.sub;refine wpAny_call (codeAny_of_tree ?_);show wpAny _ _ (callAny (.type "set") _) _ _ _;refine wpAny_pure ⟨Code.quiet_builtin _ (by decide +kernel),codeAny_builtin F.entry_type_call ?_⟩
 rw[Around.under_plain (weight_type_call_type "set" [.ref l] []) rfl];have h1:=F.called_set.notType;have h2:=F.called_set.canCreate;have hct:=F.typeCall_set_1 (.ref l)
 repeat (any_goals (first|assumption|wp_step))
 generalize g:({cls:=.type "set",dict:=none,data:=.set #[] 0 (.fresh 0 0 (!(w.params.followText "set-order")))}:Obj)=ob;refine codeAny_mono (qM (.ref l) (E:=E) (Q1:=λv s1=>v=.ref s.heap.objs.size/\s1={s with heap:=s.heap.push ob}) (g ▸ ⟨rfl,rfl⟩)) λr s1 hr=>?_
 cases r with
 |error e=>exact hr
 |ok fl=>
  cases fl with
  |ret v=>
   obtain⟨rfl,rfl⟩:=hr;have hS:(s.heap.push ob).get? s.heap.objs.size=some ob:=Heap.get?_push_size _ (by rw[<-g];rfl)
   have hT:Shared.TypeIs {s with heap:=s.heap.push ob} (.ref s.heap.objs.size) "set":=⟨_,hS,by rw[<-g]⟩
   have hli:=F.called_set.init.lookup;have hbi:=F.called_set.init.bind (.ref s.heap.objs.size)
   repeat (any_goals (first|assumption|wp_step))
   refine codeAny_mono (codeAny_call_builtin (R:=wants (λr s2=>r=.none/\∃ h' tk,s2={s with heap:=h',toks:=tk}/\dP prog w h' s.heap.objs.size (met km items.size) ∧
     (∀ b o,b<s.heap.objs.size->s.heap.get? b=some o->h'.get? b=some o)) E) F.called_set.init.plain F.entry_set_init (check_set_init_1 hT ?_)) λr2 s2 p=>?_
   .obtain⟨ol,H,B,nl,hdl⟩:=id hl;obtain⟨ocls,q,odata,j⟩:=ol;simp only at B hdl;subst B;subst hdl;have I:(s.heap.push ob).get? l=some {cls:=.type "list",dict:=q,data:=.seq items nl,slots:=j}:=Heap.get?_push_of_some _ H;have hsls:=F.sub_list_set;have hslf:=F.sub_list_frozenset;have hne:(Value.type "list" == Value.type "dict")=false:=⋯
    have C:(s.heap.push ob).IsList l items:=⟨_,I,rfl,nl,rfl⟩;subst g;unfold Builtin.«set.__init__» noKeywords Builtin.Frozenset.updateFrom;generalize P:pyIter=PI
    wp_walk
    subst P;refine wpAny_pyIter_list C ?_;refine wpAny_bind (wpAny_runValue ?_);generalize g:({cls:=.type "set",dict:=none,data:=.set #[] 0 (.fresh 0 0 (!(w.params.followText "set-order")))}:Obj)=ob at *;have D:l<s.heap.objs.size:=Heap.lt_size H;have z:(s.heap.push ob).objs.size=s.heap.objs.size+1:=by rw[Heap.size_push]
    have G:l≠(s.heap.push ob).objs.size:=by rw[z];exact ne_of_lt (lt_succ_of_lt D)
    have U:s.heap.objs.size∉[(s.heap.push ob).objs.size,l]:=by
     rw[z];intro m
     obtain e|m:=mem_cons.mp m
     .exact ne_of_lt (lt_succ_self _) e
     .exact ne_of_gt D (mem_singleton.mp m)
    have L:∀ b:Nat,b<s.heap.objs.size->b∉s.heap.objs.size::[(s.heap.push ob).objs.size]:=λb M m=>by
     rw[z]at m
     obtain e|m:=mem_cons.mp m
     .exact ne_of_lt M e
     .exact ne_of_lt (lt_succ_of_lt M) (mem_singleton.mp m)
    have Z:∀ i,i<items.size->(km i).1∉s.heap.objs.size::[(s.heap.push ob).objs.size]:=λi hi=>L _ (by
     obtain⟨o',_,_,n,_⟩:=y i hi;exact Heap.lt_size n)
    refine Cr ((Walks.list (by simp[hh]) _ l G items).toS) s.heap.objs.size U km hv Z hn (by show A.units+1+1+1<cLine;ext) (items.size-0) 0 _ ⋯ (zero_le _)
     ⟨⟨_,Heap.get?_push_size _ rfl,rfl,rfl⟩,(C.push _)⟩ (λi hi=>?_) ?_ ?_
    .obtain⟨o',J,m',n,x⟩:=y i hi;exact⟨o',J,m',Heap.get?_push_of_some _ (Heap.get?_push_of_some _ n),x⟩
    .refine yR ?_;rw[g];exact Heap.get?_push_of_some _ hS
    .intro s' m k;obtain⟨h',g',d',tk',os'⟩:=s';have eg:g'=s.gens:=m.gens;have ed:d'=s.drawn:=m.drawn;have eo:os'=s.os:=m.os;subst eg;subst ed;subst eo;show wpAny _ _ _ _ _ _;refine wpAny_pure ?_;show wpAny _ _ (ret Value.none) _ _ _;refine wpAny_pure ⟨rfl,h',tk',rfl,k,λb o M e=>?_⟩;exact m.heap b o (L b M) (Heap.get?_push_of_some _ (Heap.get?_push_of_some _ e))
   .cases r2 with
    |error e=>exact p
    |ok O=>
     cases O with
     |ret r=>
      obtain⟨rfl,h',tk,rfl,k,X⟩:=p
      repeat (any_goals (first|assumption|wp_step))
      exact h _ _ k X
     |_=>exact p.elim
  |_=>exact hr.elim
end
set_option maxHeartbeats 3200000
theorem nB:∀ (l:List α) (i:Nat) (h:i<l.length),List.Perm (l[i]::l.eraseIdx i) l
 | [],i,h=>by simp at h
 |a::l,0,h=>by simp
 |a::l,i+1,h=>by
  simp only[List.getElem_cons_succ,List.eraseIdx_cons_succ];exact(List.Perm.swap _ _ _).trans (List.Perm.cons a (nB l i (by simpa using h)))
theorem xI (next:Nat->Nat):∀ (e k:Nat) (left:List α) (out:Array α),left.length=e->List.Perm (pickOrder.go next e k left out).toList (out.toList++left)
 |0,k,left,out,h=>by
  have:left=[]:=length_eq_zero_iff.mp h;subst this;simp[pickOrder.go]
 |e+1,k,left,out,h=>by
  have hi:next k % left.length<left.length:=mod_lt _ ⋯
  simp only[pickOrder.go,getElem?_eq_getElem hi];refine(xI next e (k+1) _ _ (by rw[List.length_eraseIdx_of_lt hi];ext)).trans ?_
  rw[Array.toList_push,List.append_assoc];exact List.Perm.append_left _ (nB _ _ hi)
theorem zA (next:Nat->Nat)(xs:Array α):List.Perm (pickOrder next xs).toList xs.toList:=by
 have:=xI next xs.size 0 xs.toList #[] (by simp)
 simpa [pickOrder] using this
def cX (w:World)(a:Addr)(e:Nat)(es:Array (Int × Value)):List Value:=
 if w.params.followText "set-order"=true then (pickOrder (w.params.setOrder a e) es).toList.map (·.2) else es.toList.map (·.2)
theorem qv (w:World)(a:Addr)(e:Nat)(es:Array (Int × Value)):List.Perm (cX w a e es) (es.toList.map (·.2)):=by
 unfold cX
 split
 .exact(zA _ es).map _
 .exact .refl _
theorem vj (ris:xs.toList.Pairwise (· < ·)):below xs 0=0:=by
 obtain⟨e,e⟩:=jX 0 ris
 obtain h|h:=Nat.eq_zero_or_pos (below xs 0)
 .exact h
 .have:=(e 0 ⋯).mp h
  ext
theorem vi (ris:xs.toList.Pairwise (· < ·))(hi:i<xs.size):below xs (xs[i]+1)=i+1:=by
 obtain⟨e,g⟩:=jX (xs[i]+1) ris;have mono:∀ a b (j:a<xs.size) (k:b<xs.size),a<b->xs[a]<xs[b]:=λa b j k e=>by
  have:=pairwise_iff_getElem.mp ris a b (by simpa using j) (by simpa using k) e
  simpa using this
 obtain h|h|h:=lt_trichotomy (below xs (xs[i]+1)) (i+1)
 .have:=(g i hi).mpr ⋯
  ext
 .exact h
 .have e:=(g (i+1) ⋯).mp h
  have:=mono i (i+1) hi ⋯ ⋯
  ext
theorem ee:Slot "set_iterator" "__next__" "set_iterator.__next__":=
 .of (owner:="set_iterator") (n:="__next__") (by rw[typeLookup_type,builtinLookup_eq_fast];kernel_rfl) (by decide +kernel) (by decide +kernel) (by decide +kernel)
  (by first|exact .inl (by decide +kernel)|exact .inr (by decide +kernel)) (by rw[isSubtype_type];kernel_rfl)
theorem nv:entryFor table "set_iterator.__next__"=some Builtin.«set_iterator.__next__»:=entryFor_of_tree (by kernel_rfl)
theorem pZ:Manifest.owners.lookup (String.ofList ("set_iterator".toList.reverse).reverse)=some Manifest.sig_set_iterator:=by kernel_rfl
theorem oS (a:Value):argsOk "set_iterator.__next__" ⟨[a],[]⟩:=by
 unfold argsOk;rw[signature?_of (id:="set_iterator.__next__") (n:="__next__".toList.reverse) (o:="set_iterator".toList.reverse) (by kernel_rfl) pZ];kernel_rfl
theorem jr:Slot "set_iterator" "__iter__" "set_iterator.__iter__":=
 .of (owner:="set_iterator") (n:="__iter__") (by rw[typeLookup_type,builtinLookup_eq_fast];kernel_rfl) (by decide +kernel) (by decide +kernel) (by decide +kernel)
  (by first|exact .inl (by decide +kernel)|exact .inr (by decide +kernel)) (by rw[isSubtype_type];kernel_rfl)
theorem oR (a:Value):argsOk "set_iterator.__iter__" ⟨[a],[]⟩:=by
 unfold argsOk;rw[signature?_of (id:="set_iterator.__iter__") (n:="__iter__".toList.reverse) (o:="set_iterator".toList.reverse) (by kernel_rfl) pZ];kernel_rfl
theorem nu:entryFor table "set_iterator.__iter__"=some Builtin.«dict_keyiterator.__iter__»:=
 entryFor_alias (id':="dict_keyiterator.__iter__") (by kernel_rfl) (by first | rfl | decide +kernel) (by decide +kernel) (by kernel_rfl)
theorem nt:entryFor table "set.__iter__"=some Builtin.«frozenset.__iter__»:=
 entryFor_alias (id':="frozenset.__iter__") (by kernel_rfl) rfl (by decide +kernel) (by kernel_rfl)
structure ju (w:World) (o:Obj) (es:Array (Int × Value)) (ep:Nat) (t:SetTable):Prop where
 ex:o.ExactSet
 dt:o.data=.set es ep t
 fit:t.fits es.size=true
 ris:t.place.toList.Pairwise (· < ·)
 pl:t.plain=true
 led:t.led=!(w.params.followText "set-order")
def jV (h:Heap) (I S:Addr) (g i n e:Nat):Prop:=∃ o,h.get? I=some o/\o.cls=.type "set_iterator"/\o.data=.fields #[rawInt g,rawInt i,.ref S,rawInt n,rawInt e]
section
variable {prog:Program}{w:World}{A:Around}{E:Value->Shared->Prop}{s:Shared}{o:Obj}{es:Array (Int × Value)}{ep:Nat}{t:SetTable}{S I:Addr}
theorem jV.typeIs (x:jV s.heap I S e i n ep):s.TypeIs (.ref I) "set_iterator":=let ⟨o,ho,hc,_⟩:=x;⟨o,ho,hc⟩
theorem jV.at (x:jV h I S g i n ep)(e:∀ o,h.get? I=some o->h'.get? I=some o):jV h' I S g i n ep:=let ⟨o,ho,r⟩:=x;⟨o,e _ ho,r⟩
theorem wI (W:ju w o es ep t)(y:s.heap.get? S=some o)
  (x:w.params.followText "set-order"=false->below t.place q=i)
  (j:∀ v p,(cX w S ep es)[i]?=some v->(w.params.followText "set-order"=false->below t.place p=i+1)->Q (some (v,p)) s) (g:(cX w S ep es)[i]?=none->Q none s) :
  wpAny (model prog w) A (setNext S q i ep) Q E s:=by
 unfold setNext;refine wpAny_bind (wpAny_setState_of y W.dt W.fit ?_);dsimp only;unfold setsByText;refine wpAny_bind (wpAny_bind (wpAny_askSetting (wpAny_pure ?_)))
 by_cases k:w.params.followText "set-order"=true
 .show wpAny _ _ (if w.params.followText "set-order"=true then _ else _) _ _ _
  rw[if_pos k];rw[if_neg (by simp)]
  unfold setWalk;refine wpAny_bind (wpAny_bind (wpAny_setState_of y W.dt W.fit ?_));dsimp only;unfold setsByText;refine wpAny_bind (wpAny_bind (wpAny_askSetting (wpAny_pure ?_)));show wpAny _ _ (if w.params.followText "set-order"=true then _ else _) _ _ _
  rw[if_pos k];refine wpAny_bind (wpAny_askSetting (wpAny_pure ?_));refine wpAny_pure ?_;have m:cX w S ep es=(pickOrder (w.params.setOrder S ep) es).toList.map (·.2):=by unfold cX;rw[if_pos k]
  show Q (((pickOrder (w.params.setOrder S ep) es)[i]?).map λe=>(e.2,q)) s
  cases p:(pickOrder (w.params.setOrder S ep) es)[i]? with
  |none=>
   have:=g (by rw[m,getElem?_map,getElem?_toList,p];rfl)
   exact this
  |some e=>
   have:=j e.2 q (by rw[m,getElem?_map,getElem?_toList,p];rfl) (λh=>by rw[k]at h;exact nomatch h)
   exact this
 .have n:w.params.followText "set-order"=false:=by simpa using k
  show wpAny _ _ (if w.params.followText "set-order"=true then _ else _) _ _ _
  rw[if_neg k];show wpAny _ _ (if (!t.plain && decide (es.size>1))=true then _ else _) _ _ _
  rw[if_neg (by simp[W.pl])]
  refine wpAny_bind ?_;show wpAny _ _ (if (!t.led && !es.isEmpty)=true then _ else _) _ _ _
  rw[if_neg (by simp[W.led,n])]
  refine wpAny_pure ?_;rw[x n];refine wpAny_pure ?_;have n:t.place.size=es.size:=by
   have:=W.fit;simp only[SetTable.fits,Bool.and_eq_true,beq_iff_eq]at this;exact this.1
  have m:cX w S ep es=es.toList.map (·.2):=by unfold cX;rw[if_neg k]
  obtain hi|hi:=lt_or_ge i es.size
  .have k:i<t.place.size:=by rw[n];exact hi
   have:=j es[i].2 (t.place[i]+1) (by rw[m];simp[hi]) (λ_=>vi W.ris k)
   simpa [hi,k] using this
  .have:=g (by rw[m];simpa using hi)
   have k:t.place.size<=i:=by rw[n];exact hi
   simpa [Array.getElem?_eq_none hi,Array.getElem?_eq_none k] using this
theorem lZ (hh:A.handled=none)(W:ju w o es ep t)(z:s.heap.get? S=some o)(y:S≠I)
  (j:jV s.heap I S F i es.size ep) (B:w.params.followText "set-order"=false->below t.place F=i)
  (n:∀ v e h',(cX w S ep es)[i]?=some v->jV h' I S e (i+1) es.size ep->(w.params.followText "set-order"=false->below t.place e=i+1)->Heap.ExtBut I s.heap h'->Q (some v) {s with heap:=h'})
  (k:∀ h',(cX w S ep es)[i]?=none->Heap.ExtBut I s.heap h'->Q none {s with heap:=h'}) :
  wpAny (model prog w) A (pyNext (.ref I)) Q E s:=by
 obtain⟨g,g,x,h⟩:=id j;unfold pyNext;refine wpAny_bind (wpAny_attempt (wpAny_callSpecial?_slot (name:=Str.ofString "__next__") j.typeIs ee
  (wpAny_call_entry ee j.typeIs nv ?_ (oS _))))
 unfold Builtin.«set_iterator.__next__»;refine wpAny_bind (wpAny_of_eq (a:=(Value.ref I,[])) rfl ?_);refine wpAny_bind (wpAny_fieldsOf g h ?_);simp only[rawInt,List.toList_toArray];refine wpAny_bind (wpAny_setEntries_of z W.dt W.fit ?_);rw[if_neg (by simp)]
 simp only[toNat_natCast];have p:∀ {h':Heap},Heap.SameBut I s.heap h'->h'.get? S=some o:=λp=>(p.2 S y).trans z;refine wpAny_bind (wI W z B (λv e C p=>?_) (λC=>?_))
 .dsimp only;refine wpAny_bind (wpAny_setField g h (by simp) ?_)
  have D:=Heap.get?_update_self (Obj.mapFields (·.setIfInBounds 0 (Value.int (e:Int) 0))) g (Obj.isFreed_of_fields (Obj.data_mapFields h _));have q:=Obj.data_mapFields h (·.setIfInBounds 0 (Value.int (e:Int) 0));refine wpAny_bind (wpAny_setField (s:={s with heap:=s.heap.update I (Obj.mapFields (·.setIfInBounds 0 (Value.int (e:Int) 0)))}) D q (by simp) ?_)
  refine wpAny_pure ⟨v,rfl,wpAny_pure (n v e _ C ?_ p ((Heap.SameBut.update ..).trans (Heap.SameBut.update ..)).extBut)⟩;refine⟨_,Heap.get?_update_self _ D (Obj.isFreed_of_fields (Obj.data_mapFields q _)),(Obj.cls_mapFields ..).trans ((Obj.cls_mapFields ..).trans x),?_⟩;rw[Obj.data_mapFields q];simp[rawInt]
 .dsimp only;refine wpAny_bind (wpAny_setField g h (by simp) ?_)
  show wpAny _ _ (newExc (.type "StopIteration") [] >>= _) _ _ _;refine wpAny_bind ?_;simp only[newExc,newTuple];refine wpAny_bind (wpAny_newObj_type ?_ (by size_fits))
  refine wpAny_bind (m:=firstArgMember _ _) (wpAny_of_eq (a:=Value.none) (by first|rfl|(simp only[firstArgMember];rfl)) ?_)
  refine wpAny_newObj_type ?_ (by size_fits)
  simp only[raiseNew];refine wpAny_bind (wpAny_handled ?_);rw[show A.in1.handled=none from hh];refine wpAny_bind (wpAny_pure (wpAny_throw ?_));refine wpAny_bind (wpAny_isInstance (T:="StopIteration") (b:=true) ⟨_,Heap.get?_push_size _ rfl,rfl⟩ isSubtype_stop ?_);exact wpAny_pure (k _ C (((Heap.SameBut.update ..).extBut.push _).push _))
theorem uW (e:jV s.heap I S g i n ep)(h:Q (.ref I) s):wpAny (model prog w) A (pyIter (.ref I)) Q E s:=by
 refine wpAny_pyIter_slot e.typeIs jr (wpAny_call_entry jr e.typeIs nu ?_ (oR _));show wpAny _ _ (ret (.ref I)) _ _ s;exact wpAny_pure ⟨_,rfl,"set_iterator",_,e.typeIs,ee.lookup,h⟩
theorem oJ (W:ju w o es ep t):(cX w S ep es).length=es.size:=by
 rw[(qv w S ep es).length_eq,length_map,length_toList]
theorem zM (hh:A.handled=none)(W:ju w o es ep t)(k:S≠I) :
  Walks prog w A I [I,S] [I] es.size (λi v=>(cX w S ep es)[i]?=some v)
   (λi h=>∃ p,jV h I S p i es.size ep/\(w.params.followText "set-order"=false->below t.place p=i)/\h.get? S=some o) where
 sub:=λb m=>by simp at m;simp[m]
 frame:=λ_ _ _ ⟨p,x,D,q⟩ g=>⟨p,x.at λo e=>g I (by simp) o e,D,g S (by simp) _ q⟩
 item:=λi s Q E hi ⟨p,x,D,q⟩ z=>by
  refine lZ hh W q k x D (λv C y n g j B=>?_) (λy n=>?_)
  .exact z v y s.toks n ⟨C,g,j,B S o k q⟩ λb F m e=>B b F (λh=>m (by simp[h])) e
  .rw[List.getElem?_eq_none_iff,oJ W]at n;ext
 done:=λs Q E ⟨p,x,D,q⟩ z=>by
  refine lZ hh W q k x D (λv C y n g j B=>?_) (λy n B=>?_)
  .have:=List.getElem?_eq_some_iff.mp n;obtain⟨g,_⟩:=this;rw[oJ W]at g;ext
  .exact z y s.toks λb F m e=>B b F (λh=>m (by simp[h])) e
 self:=λ_ _ _ _ ⟨_,x,_⟩ z=>uW x z
theorem uV (W:ju w o es ep t)(h:s.heap.get? S=some o)
  (q:Q (.ref s.heap.objs.size) {s with heap:=s.heap.push {cls:=.type "set_iterator",data:=.fields #[rawInt (0:Nat),rawInt (0:Nat),.ref S,rawInt es.size,rawInt ep]}}) :
  wpAny (model prog w) A (pyIter (.ref S)) Q E s:=by
 have e:s.TypeIs (.ref S) "set":=⟨o,h,W.ex.1⟩;refine wpAny_pyIter_slot e F.slot_set_iter (wpAny_call_entry F.slot_set_iter e nt ?_ (F.args_set_iter_1 _));unfold Builtin.«frozenset.__iter__» Builtin.Frozenset.slot0 slotArgs;simp only[List.isEmpty_nil,Bool.not_true,Bool.false_eq_true,↓reduceIte,bind_assoc,length_nil,bne_self_eq_false];unfold Builtin.Frozenset.addrOf Builtin.Frozenset.sizeOf;refine wpAny_bind (wpAny_pure ?_)
 try dsimp only
 refine wpAny_bind (wpAny_pure ?_);refine wpAny_bind (wpAny_bind (wpAny_setEntries_of h W.dt W.fit (wpAny_pure ?_)));unfold setDrawn setsByText;refine wpAny_bind (wpAny_bind (wpAny_setState_of h W.dt W.fit ?_));dsimp only;refine wpAny_bind (wpAny_bind (wpAny_askSetting (wpAny_pure ?_)));refine wpAny_pure ?_;show wpAny _ _ (if (!(w.params.followText "set-order") && (!t.plain && decide (es.size>1)))=true then _ else _) _ _ _
 rw[if_neg (by simp[W.pl])]
 refine wpAny_bind (wpAny_pure ?_);refine wpAny_bind (wpAny_setEpoch_of h W.dt W.fit ?_);exact wpAny_bind (wpAny_newObj_type (wpAny_pure ⟨_,rfl,"set_iterator",_,⟨_,Heap.get?_push_size _ rfl,rfl⟩,ee.lookup,q⟩))
end
end ST
namespace ST
open PySem PySem.W PyProof.Rows
section
variable (O:KeyOrd) (key:Nat->O.α) (n:Nat)
def c0 (i j:Nat)(C:Bool->Shared->Prop)(s:Shared):Prop:=i<n/\j<n/\C (O.blt (key i) (key j)) s
def Rk (p:Array Nat)(k:Nat):O.α:=key (p.getD k 0)
def wN (p:Array Nat):Prop:=∀ k,p.getD k 0<n
def bR (p:Array Nat)(m:Nat):Prop:=∀ i j,i<=j->j<m->O.kle (Rk O key p i) (Rk O key p j)
variable {O key n}
variable {s:Shared}
theorem j7 {p q:Array Nat}{i j:Nat}(h:p[i]?=q[j]?):p.getD i 0=q.getD j 0:=by
 rw[getD_eq_getD_getElem?,getD_eq_getD_getElem?,h]
theorem El (g:0<n)(h:∀ x∈p.toList,x<n):wN n p:=λk=>by
 rw[getD_eq_getD_getElem?]
 cases e:p[k]? with
 |none=>simpa using g
 |some x=>
  obtain⟨i,rfl⟩:=Array.getElem?_eq_some_iff.mp e;exact h _ (by simp)
theorem wn {p:Array Nat}{i j:Nat}(g:j<=p.size)(k:Nat):Rk O key (kas_rev p i j) k=if i<=k/\k<j then Rk O key p (i+j-1-k) else Rk O key p k:=by
 have e:=getElem?_mirror_all (i:=i) g k;unfold Rk kas_rev
 by_cases h:i<=k/\k<j
 .rw[if_pos h]at e ⊢;rw[j7 e]
 .rw[if_neg h]at e ⊢;rw[j7 e]
theorem Ed {p:Array Nat}{g d:Nat}(hs:g<p.size)(hd:d<=g)(k:Nat) :
  Rk O key (bubble p g d) k=if k=g-d then Rk O key p g else if g-d<k/\k<=g then Rk O key p (k-1) else Rk O key p k:=by
 have e:=getElem?_bubble hs d hd k;unfold Rk
 by_cases h:k=g-d
 .rw[if_pos h]at e ⊢;rw[j7 e]
 .rw[if_neg h]at e ⊢
  by_cases h:g-d<k/\k<=g
  .rw[if_pos h]at e ⊢;rw[j7 e]
  .rw[if_neg h]at e ⊢;rw[j7 e]
theorem ve:∀ (f m:Nat) (p:Array Nat),wN n p->1<=m →
  (∀ e,m<=e->e<=m+f->(∀ k,m<=k->k<e->O.kle (Rk O key p (k-1)) (Rk O key p k))->(e<m+f->O.klt (Rk O key p e) (Rk O key p (e-1)))->Q e s) →
  (kas_asc p f m).kasWp (c0 O key n) Q s
 |0,m,p,g,x,h=>h m (le_refl _) ⋯ (λk _ _=>⋯) (λ_=>⋯)
 |f+1,m,p,g,x,h=>by
  refine⟨g _,g _,?_⟩
  cases i:O.blt (key (p.getD m 0)) (key (p.getD (m-1) 0)) with
  |true=>
   simp only[if_true];exact h m (le_refl _) ⋯ (λk _ _=>⋯) (λ_=>i)
  |false=>
   simp only[Bool.false_eq_true,if_false];refine ve f (m+1) p g ⋯ λe z B o q=>h e ⋯ ⋯ (λk C v=>?_) (λy=>q ⋯)
   obtain j|j:=lt_or_ge m k
   .exact o k j v
   .have:k=m:=⋯
    subst this;exact i
structure Md (p:Array Nat) (m q:Nat):Prop where
 ni:∀ i j,i<=j->j<m->O.kle (Rk O key p j) (Rk O key p i)
 eq:∀ k,m-(q+1)<=k->k<m->Rk O key p k=Rk O key p (m-1)
 le:q+1<=m
theorem li (e:j<=p.size)(h:∀ k,i<=k->k<j->Rk O key p k=Rk O key p (j-1))(k:Nat):Rk O key (kas_rev p i j) k=Rk O key p k:=by
 rw[wn e]
 split
 .rw[h _ ⋯ ⋯,h k ⋯ ⋯]
 .rfl
theorem dS (e:0<n)(h:q.Perm p)(g:∀ x∈p.toList,x<n):wN n q:=
 El e λx i=>g x ((Array.perm_iff_toList_perm.mp h).mem_iff.mp i)
theorem fZ (D:∀ i j,i<=j->j<m->O.kle (Rk O key p j) (Rk O key p i))(k:1<=m)(g:O.kle (Rk O key p m) (Rk O key p (m-1))) :
  ∀ i j,i<=j->j<m+1->O.kle (Rk O key p j) (Rk O key p i):=λi j e o=>by
 obtain h|h:=lt_or_ge j m
 .exact D i j e h
 .have:j=m:=⋯
  subst this
  obtain e|e:=lt_or_ge i j
  .exact KeyOrd.kle_trans g (D i (j-1) ⋯ ⋯)
  .have:i=j:=⋯
   subst this;exact KeyOrd.kle_refl _
theorem mj (H:0<n)(G:∀ x∈F.toList,x<n):∀ (f:Nat) (p:Array Nat) (m q:Nat),p.Perm F->Md (O:=O) (key:=key) p m q->m+f<=F.size →
  (∀ o e y,o.Perm F->m<=e->e<=m+f->Md (O:=O) (key:=key) o e y->Q (o,e,y) s) →
  (kas_desc f p m q).kasWp (c0 O key n) Q s
 |0,p,m,q,v,D,g,h=>h p m q v (le_refl _) ⋯ D
 |f+1,p,m,q,v,D,g,h=>by
  have g:=dS H v G;have z:p.size=F.size:=v.size_eq;have z:1<=m:=by have:=D.le;ext
  refine⟨g _,g _,?_⟩
  cases R:O.blt (key (p.getD m 0)) (key (p.getD (m-1) 0)) with
  |true=>
   simp only[if_true];have E:O.klt (Rk O key p m) (Rk O key p (m-1)):=R
   split
   .have U:∀ k,Rk O key (kas_rev p (m-(q+1)) m) k=Rk O key p k:=li ⋯ D.eq
    refine mj H G f _ (m+1) 0 ((mirror_perm ..).trans v) ⟨λi j I X=>?_,λk M P=>?_,⋯⟩ ⋯ λo e y B J L C=>h o e y B ⋯ ⋯ C
    .rw[U,U];exact fZ D.ni z (KeyOrd.kle_of_klt E) i j I X
    .have:k=m+1-1:=⋯
     rw[this]
   .refine mj H G f p (m+1) 0 v ⟨fZ D.ni z (KeyOrd.kle_of_klt E),λk M P=>?_,⋯⟩ ⋯ λo e y B J L C=>h o e y B ⋯ ⋯ C
    have:k=m+1-1:=⋯
    rw[this]
  |false=>
   simp only[Bool.false_eq_true,if_false];refine⟨g _,g _,?_⟩
   cases hd:O.blt (key (p.getD (m-1) 0)) (key (p.getD m 0)) with
   |true=>
    simp only[if_true];exact h p m q v (le_refl _) ⋯ D
   |false=>
    simp only[Bool.false_eq_true,if_false];have g:Rk O key p m=Rk O key p (m-1):=O.total _ _ R hd;refine mj H G f p (m+1) (q+1) v ⟨fZ D.ni z (by rw[g];exact KeyOrd.kle_refl _),λk M P=>?_,by have:=D.le;ext⟩ ⋯ λo e y B J L C=>h o e y B ⋯ ⋯ C
    rw[Nat.add_sub_cancel,g]
    obtain e|e:=lt_or_ge k m
    .exact D.eq k ⋯ e
    .have:k=m:=⋯
     subst this;exact g
theorem mX (x:1<=m)(hs:bR O key p m)(o:∀ k,m<=k->k<g->O.kle (Rk O key p (k-1)) (Rk O key p k)):bR O key p g:=by
 intro i j e q
 induction j with
 |zero=>
      have:i=0:=⋯
      subst this;exact KeyOrd.kle_refl _
 |succ j v=>
  obtain h|h:=lt_or_ge (j+1) m
  .exact hs i (j+1) e h
  .rcases lt_or_ge i (j+1) with e|e
   .exact KeyOrd.kle_trans (v ⋯ ⋯) (o (j+1) h q)
   .have:i=j+1:=⋯
    subst this;exact KeyOrd.kle_refl _
theorem xZ (C:0<n)(z:∀ x∈k.toList,x<n)(y:p.Perm k)(v:1<=m)(D:m<=e)(E:e<=k.size)
  (B:∀ i j,i<=j->j<m->O.kle (Rk O key p j) (Rk O key p i)) (h:∀ g q,q.Perm k->1<=g->g<=e->bR O key q g->Q (g,q) s):(kas_tail3 m e p).kasWp (c0 O key n) Q s:=by
 have o:p.size=k.size:=y.size_eq;have o:(kas_rev p 0 m).Perm k:=(mirror_perm ..).trans y;unfold kas_tail3;rw[KasT.kasWp_bind];refine ve _ _ _ (dS C o z) v λg q q q _=>h g _ o ⋯ ⋯ (mX v ?_ q)
 intro i j g g;rw[wn ⋯,wn ⋯,if_pos ⋯,if_pos ⋯]
 exact B _ _ ⋯ ⋯
theorem lP (B:0<n)(z:∀ x∈q.toList,x<n)(F:p.Perm q)(H:1<=m)(I:m<e)(C:e<=q.size)
  (E:∀ i j,i<=j->j<m+1->O.kle (Rk O key p j) (Rk O key p i)) (h:∀ g o,o.Perm q->1<=g->g<=e->bR O key o g->Q (g,o) s):(kas_descPart m e p).kasWp (c0 O key n) Q s:=by
 unfold kas_descPart;rw[KasT.kasWp_bind];refine mj B z _ p (m+1) 0 F ⟨E,λk v v=>by rw[show k=m+1-1 by ext],⋯⟩ ⋯ λo g G y v v D=>?_
 have v:o.size=q.size:=y.size_eq;dsimp only
 split
 .have v:∀ k,Rk O key (kas_rev o (g-(G+1)) g) k=Rk O key o k:=li ⋯ D.eq
  exact xZ B z ((mirror_perm ..).trans y) ⋯ ⋯ C (λi j g o=>by rw[v,v];exact D.ni i j g o) h
 .exact xZ B z y ⋯ ⋯ C D.ni h
theorem Az (C:0<n)(y:∀ x∈p.toList,x<n)(H:1<=e)(G:e<=p.size)
  (h:∀ D F,F.Perm p->1<=D->D<=e->bR O key F D->Q (D,F) s):(kas_count e p).kasWp (c0 O key n) Q s:=by
 unfold kas_count;rw[KasT.kasWp_bind];refine ve _ _ _ (dS C (Array.Perm.refl _) y) (le_refl _) λm v g q D=>?_;have o:bR O key p m:=mX (m:=1) (le_refl _) (λi j g z=>by
  have:i=j:=⋯
  subst this;exact KeyOrd.kle_refl _) q
 by_cases q:m=e
 .rw[if_pos (by simpa using q)]
  exact h m p (Array.Perm.refl _) v ⋯ o
 .rw[if_neg (by simpa using q)]
  have B:=D ⋯
  split
  .refine⟨dS C (Array.Perm.refl _) y _,dS C (Array.Perm.refl _) y _,?_⟩
   cases q:O.blt (key (p.getD 0 0)) (key (p.getD (m-1) 0)) with
   |true=>
    simp only[if_true];exact h m p (Array.Perm.refl _) v ⋯ o
   |false=>
    simp only[Bool.false_eq_true,if_false];have E:O.kle (Rk O key p (m-1)) (Rk O key p 0):=q;have q:∀ k,k<m->Rk O key p k=Rk O key p (m-1):=λk D=>
     KeyOrd.kle_antisymm (o k (m-1) ⋯ ⋯) (KeyOrd.kle_trans E (o 0 k ⋯ D))
    have o:∀ k,Rk O key (kas_rev p 0 m) k=Rk O key p k:=li ⋯ λk _ D=>q k D
    refine lP C y (mirror_perm ..) v ⋯ G (λi j g z=>?_) h
    rw[o,o];refine fZ (m:=m) (λi j g z=>?_) v (KeyOrd.kle_of_klt B) i j g z;rw[q i ⋯,q j z];exact KeyOrd.kle_refl _
  .have o:m=1:=⋯
   subst o;refine lP C y (Array.Perm.refl _) v ⋯ G (fZ (λi j g z=>?_) (le_refl _) (KeyOrd.kle_of_klt B)) h
   have:i=j:=⋯
   subst this;exact KeyOrd.kle_refl _
theorem n7 (m:wN n p)(o:bR O key p k):∀ (f l r:Nat),l<=r->r<=k->r-l<=f →
  (∀ i,i<l->O.kle (Rk O key p i) (Rk O key p k))->(∀ i,r<=i->i<k->O.klt (Rk O key p k) (Rk O key p i)) →
  (∀ q,q<=k->(∀ i,i<q->O.kle (Rk O key p i) (Rk O key p k))->(∀ i,q<=i->i<k->O.klt (Rk O key p k) (Rk O key p i))->Q q s) →
  (kas_place p k f l r).kasWp (c0 O key n) Q s
 |0,l,r,v,e,x,g,j,h=>by
  have:l=r:=⋯
  subst this;exact h l e g j
 |f+1,l,r,v,e,x,g,j,h=>by
  unfold kas_place
  split
  .have:l=r:=⋯
   subst this;exact h l e g j
  .refine⟨m _,m _,?_⟩
   cases q:O.blt (key (p.getD k 0)) (key (p.getD ((l+r) / 2) 0)) with
   |true=>
    simp only[if_true];refine n7 m o f l ((l+r) / 2) ⋯ ⋯ ⋯ g (λi g v=>?_) h
    exact KeyOrd.klt_of_klt_of_kle q (o _ _ g v)
   |false=>
    simp only[Bool.false_eq_true,if_false];refine n7 m o f ((l+r) / 2+1) r ⋯ e ⋯ (λi g=>?_) j h
    exact KeyOrd.kle_trans (o i ((l+r) / 2) ⋯ ⋯) q
theorem Au (y:0<n)(q:∀ x∈e.toList,x<n):∀ (f:Nat) (p:Array Nat) (k:Nat),p.Perm e->k+f=e.size->bR O key p k →
  (∀ m,m.Perm e->bR O key m e.size->Q m s)->(kas_bin f p k).kasWp (c0 O key n) Q s
 |0,p,k,g,v,o,h=>h p g (by rw[<-v];exact o)
 |f+1,p,k,g,v,o,h=>by
  have z:p.size=e.size:=g.size_eq;unfold kas_bin;rw[KasT.kasWp_bind];refine n7 (dS y g q) o k 0 k ⋯ (le_refl _) ⋯ (λi hi=>⋯) (λi m m=>⋯) λl m m v=>?_
  refine Au y q f _ (k+1) ((bubble_perm ..).trans g) ⋯ (λi j g z=>?_) h
  rw[Ed ⋯ ⋯,Ed ⋯ ⋯,show k-(k-l)=l by ext]
  obtain hi|hi|hi:=lt_trichotomy i l
  .rw[if_neg ⋯,if_neg ⋯]
   split
   .exact m i hi
   .split
    .exact o i (j-1) ⋯ ⋯
    .exact o i j g ⋯
  .rw[if_pos hi]
   split
   .exact KeyOrd.kle_refl _
   .rw[if_pos ⋯]
    exact KeyOrd.kle_of_klt (v (j-1) ⋯ ⋯)
  .rw[if_neg ⋯,if_pos ⋯,if_neg ⋯,if_pos ⋯]
   exact o _ _ ⋯ ⋯
theorem Hv (i:0<n)(h:∀ p,List.Perm p.toList (List.range n)->bR O key p n->Q p s):(kas_sort n).kasWp (c0 O key n) Q s:=by
 have k:∀ x∈(List.range n).toArray.toList,x<n:=λx e=>by simpa using e
 have j:(List.range n).toArray.size=n:=by simp
 unfold kas_sort;rw[KasT.kasWp_bind];refine Az i k i ⋯ λm p q e e o=>?_
 have g:∀ e,e.Perm (List.range n).toArray->bR O key e n->Q e s:=λe a b=>h e (by simpa using Array.perm_iff_toList_perm.mp a) b
 dsimp only
 split
 .refine Au i k _ p _ q ⋯ (by rw[show max m 1=m by ext];exact o) λe a b=>g e a (by rw[j]at b;exact b)
 .have:m=n:=⋯
  subst this;exact g p q o
end
set_option maxHeartbeats 3200000
def lexB:List Int->List Int->Bool
 | [],[]=>false
 | [],_::_=>true
 |_::_,[]=>false
 |a::x,b::y=>if a=b then lexB x y else decide (a<b)
theorem lex_irr:∀ a,lexB a a=false
 | []=>rfl
 |a::x=>by simp[lexB,lex_irr x]
theorem lex_trans:∀ a b c,lexB a b=true->lexB b c=true->lexB a c=true
 | [],[],c,e,h=>h
 | [],_::_,[],e,h=>by simp[lexB]at h
 | [],_::_,_::_,e,h=>rfl
 |_::_,[],c,e,h=>by simp[lexB]at e
 |_::_,_::_,[],e,h=>by simp[lexB]at h
 |a::x,b::y,c::z,e,h=>by
  simp only[lexB]at e h ⊢
  by_cases i:a=b
  .subst i
   by_cases g:a=c
   .subst g;simp only[if_true]at e h ⊢;exact lex_trans x y z e h
   .simp only[if_true,g,if_false]at e h ⊢;exact h
  .by_cases g:b=c
   .subst g;simp only[i,if_false,if_true]at e h ⊢;exact e
   .simp only[i,g,if_false,decide_eq_true_eq]at e h ⊢;have:a≠c:=⋯
    simp only[this,if_false,decide_eq_true_eq];ext
theorem xw:∀ a b c,lexB a c=true->lexB a b=true\/lexB b c=true
 | [],[],c,h=>.inr h
 | [],_::_,c,h=>.inl rfl
 |_::_,b,[],h=>by simp[lexB]at h
 |_::_,[],_::_,h=>.inr rfl
 |a::x,b::y,c::z,h=>by
  simp only[lexB]at h ⊢
  by_cases g:a=b
  .subst g
   by_cases e:a=c
   .subst e;simp only[if_true]at h ⊢;exact xw x y z h
   .simp only[e,if_false]at h ⊢;exact .inr h
  .by_cases e:b=c
   .subst e;simp only[g,if_false]at h ⊢;exact .inl h
   .simp only[g,e,if_false,decide_eq_true_eq]at h ⊢
    by_cases i:a=c
    .subst i;ext
    .simp only[i,if_false,decide_eq_true_eq]at h;ext
theorem iM:∀ a b,lexB a b=false->lexB b a=false->a=b
 | [],[],_,_=>rfl
 | [],_::_,h,_=>by simp[lexB]at h
 |_::_,[],_,h=>by simp[lexB]at h
 |a::x,b::y,g,i=>by
  simp only[lexB]at g i
  by_cases e:a=b
  .subst e;simp only[if_true]at g i;rw[iM x y g i]
  .have j:b≠a:=λh=>e h.symm;simp only[e,j,if_false,decide_eq_false_iff_not]at g i;ext
def Ge:KeyOrd:=⟨List Int,lexB,lex_irr,lex_trans,xw,iM⟩
theorem wp_at (g:∀ i j C,i<n->j<n->C (O.blt (key i) (key j)) s->e i j C s) :
  ∀ t:KasT α,t.kasWp (c0 O key n) Q s->t.kasWp e Q s
 | .ret a,h=>h
 | .ask i j k,⟨h1,h2,h3⟩=>g i j _ h1 h2 (wp_at g (k _) h3)
section
variable {prog:Program}{w:World}{A:Around}{E:Value->Shared->Prop}{s:Shared}
theorem Cd:∀ (ks ls:List Int) (xs ys:List Value) (i:Nat),ItemsAre (ik prog w) ks xs->ItemsAre (ik prog w) ls ys->ks.length=ls.length->Q (lexB ks ls) s →
  KatLex prog w A b false Q (xs.zip ys) i s
 |_,_,_,_,i,.nil,.nil,_,h=>h
 |_,_,_,_,i,.nil,.cons _ _,e,h=>by simp at e
 |_,_,_,_,i,.cons _ _,.nil,e,h=>by simp at e
 |_,_,_,_,i,.cons (k:=k) (v:=v) (ks:=ks) (vs:=vs) h1 h2,.cons (k:=k') (v:=v') (ks:=ks') (vs:=vs') h3 h4,e,h=>by
  obtain⟨t,rfl⟩:=Value.isInt_shape h1;obtain⟨g,rfl⟩:=Value.isInt_shape h3;refine kat_cons (wpAny_eqBool_int ?_)
  by_cases g:k=k'
  .subst g;rw[beq_self_eq_true];refine kat_yes (Cd ks ks' vs vs' (i+1) h2 h4 (by simpa using e) ?_)
   simpa [lexB] using h
  .rw[beq_eq_false_iff_ne.mpr g];refine kat_no ?_;have j:Q (decide (k<k')) s:=by simpa [lexB,g] using h
   cases g:(b && i == 0) with
   |true=>exact oneLt_int j
   |false=>exact kat_one _ _ (wpAny_lt_int j)
theorem x5:∀ (vs:List Value) (km:Nat->Addr × List Int),(∀ i,i<vs.length->vs.getD i Value.none=.ref (km i).1/\IsTupleKey (ik prog w) h (km i).2 (km i).1/\0<(km i).2.length) →
  ∃ fs,KatTups h vs fs/\fs.length=vs.length/\∀ v∈fs,∃ k t,v=Value.int k t
 | [],km,_=>⟨[],.nil,rfl,λv B=>absurd B not_mem_nil⟩
 |v::vs,km,p=>by
  obtain⟨fs,j,q,x⟩:=x5 vs (λi=>km (i+1)) λi hi=>by
   have:=p (i+1) (by simpa using hi)
   simpa using this
  obtain⟨e,⟨o,items,m,z,y,hd,hi⟩,g⟩:=p 0 (by simp)
  have n:v=.ref (km 0).1:=by simpa using e
  subst n;generalize (km 0).2=kk at hi g;obtain⟨k,t,rest,n⟩:∃ k t rest,items.toList=Value.int k t::rest:=by
   generalize items.toList=il at hi
   cases hi with
   |nil=>simp at g
   | @cons k v _ vs' j _=>
    obtain⟨t,rfl⟩:=Value.isInt_shape j;exact⟨k,t,vs',rfl⟩
  refine⟨Value.int k t::fs,.cons z y hd (f:=Value.int k t) ?_ j,by simp[q],λu g=>?_⟩
  .rw[<-getElem?_toList,n];rfl
  .rcases mem_cons.mp g with rfl|g
   .exact⟨k,t,rfl⟩
   .exact x u g
theorem zx:∀ vs:List Value,vs.length<2->(vs.toArray.zip vs.toArray).map (·.2)=((List.range vs.length).toArray.toList.map λi=>vs.getD i Value.none).toArray
 | [],_=>by simp
 | [v],_=>by simp[range_succ]
 |_::_::_,h=>absurd h (by simp only[length_cons];ext)
theorem uJ (H:s.heap.get? a=some (seqObj "list" vs.toArray n)) (I:vs.length<64) (L:(T == T)=true)
  (X:∀ g:Heap,(∀ b o,b≠a->s.heap.get? b=some o->g.get? b=some o)->∃ fs,KatTups g vs fs/\fs.length=vs.length/\∀ v∈fs,Looks (model prog w) g (typeOf v) T)
  (Y:∀ g:Heap,(∀ b o,b≠a->s.heap.get? b=some o->g.get? b=some o)->∀ i j (C:Bool->Shared->Prop),i<vs.length->j<vs.length->C (O.blt (key i) (key j)) {s with heap:=g}->wpAny (model prog w) A (keyLt' (tuples' (T != Value.type "tuple")) (vs.getD i Value.none) (vs.getD j Value.none)) C (λ_ _=>False) {s with heap:=g})
  (h:∀ k (p:Array Nat) e,(∀ b o,b≠a->s.heap.get? b=some o->k.get? b=some o)->k.get? a=some (seqObj "list" (p.toList.map λi=>vs.getD i Value.none).toArray e) →
   List.Perm p.toList (List.range vs.length)->bR O key p vs.length->P (.done (.ret .none)) {s with heap:=k}) :
  wpAny (model prog w) A (Builtin.«list.sort» ⟨[.ref a],[]⟩) P E s:=by
 have k:a<s.heap.objs.size:=Heap.lt_size H;have q:=Heap.SameBut.update s.heap a (Obj.mapSeq λ_=>(#[]:Array Value));obtain⟨x,m⟩:∃ x,(s.heap.update a (Obj.mapSeq λ_=>(#[]:Array Value))).get? a=some (seqObj "list" #[] x):=⟨_,get?_update_seq H λ_=>#[]⟩;generalize k:((s.heap.update a (Obj.mapSeq λ_=>(#[]:Array Value))).push (seqObj "tuple" vs.toArray 0)).push (seqObj "list" #[] 0)=g;have M:∀ b o,b≠a->s.heap.get? b=some o->g.get? b=some o:=λb o z e=>by
  rw[<-k];exact Heap.get?_push_of_some _ (Heap.get?_push_of_some _ ((q.2 b z).trans e))
 have q:g.get? a=some (seqObj "list" #[] x):=by rw[<-k];exact Heap.get?_push_of_some _ (Heap.get?_push_of_some _ m)
 have y:∀ p:Array Nat,List.Perm p.toList (List.range vs.length)->bR O key p vs.length->∃ e,
   (g.update a (Obj.mapSeq λ_=>(p.toList.map λi=>vs.getD i Value.none).toArray)).get? a=some (seqObj "list" (p.toList.map λi=>vs.getD i Value.none).toArray e) ∧
   P (.done (.ret .none)) {s with heap:=g.update a (Obj.mapSeq λ_=>(p.toList.map λi=>vs.getD i Value.none).toArray)}:=λp x B=>by
  have F:=get?_update_seq q λ_=>(p.toList.map λi=>vs.getD i Value.none).toArray;exact⟨_,F,h _ p _ (λb o z e=>((Heap.SameBut.update g a _).2 b z).trans (M b o z e)) F x B⟩
 rw[list_sort_plain];refine wpAny_bind (listItems_at H rfl ?_);refine wpAny_bind (listUpdate_at H rfl ?_ (by rw[size_toArray,sizeLine_eq];ext) (zero_le _))
 refine wpAny_bind (seqEpoch_at m rfl ?_);refine wpAny_bind (wpAny_newTuple ?_ (by show vs.length<=_;rw[sizeLine_eq];ext))
 refine wpAny_bind (wpAny_newList ?_ (zero_le _));refine wpAny_holding ?_;show wpAny (model prog w) A _ P E {s with heap:=((s.heap.update a (Obj.mapSeq λ_=>(#[]:Array Value))).push (seqObj "tuple" vs.toArray 0)).push (seqObj "list" #[] 0)};rw[k];dsimp only
 by_cases m:vs.toArray.size<2
 .rw[if_pos m,if_pos m];refine wpAny_bind (wpAny_pure ?_);rw[StateT.run_pure];refine wpAny_bind (wpAny_pure ?_);dsimp only;have k:(arrOf (SortSt.mk' general' (vs.toArray.zip vs.toArray) #[] 7 none)).map (·.2)=((List.range vs.length).toArray.toList.map λi=>vs.getD i Value.none).toArray:=by
   exact zx vs (by simpa using m)
  obtain⟨e,F,J⟩:=y (List.range vs.length).toArray (.refl _) (λi j z R=>by
   have z:vs.length<2:=by simpa using m
   have:i=j:=⋯
   subst this;exact KeyOrd.kle_refl _)
  rw[k];refine wpAny_bind (seqEpoch_at q rfl ?_);refine wpAny_bind (listUpdate_at q rfl ?_ (zero_le _) (by simp[sizeLine_eq];ext))
  simp only[bne_self_eq_false,Bool.false_eq_true,if_false];exact wpAny_pure J
 .rw[if_neg m,if_neg m];have z:2<=vs.length:=by simpa using m
  obtain⟨fs,m,D,D⟩:=X g M;refine wpAny_bind (kat_kind (T:=T) m ⋯ D L ?_)
  refine wpAny_bind (wpAny_mono (kat_run (Q:=λm D=>∃ p:Array Nat,arrOf m=p.map (kas_item (vs.toArray.zip vs.toArray))/\failedOf m=none/\D={s with heap:=g}/\List.Perm p.toList (List.range vs.length)/\bR O key p vs.length)
   (G:=λp D=>D={s with heap:=g}/\List.Perm p.toList (List.range vs.length)/\bR O key p vs.length)
   rfl z I (λZ m D z z q U=>⟨Z,z,q,U⟩) ?_) ?_ λ_ _ e=>e)
  .exact wp_at (O:=O) (key:=key) (n:=vs.length) (λi j C hi R z=>Y g M i j C hi R z) _ (Hv ⋯ λp x B=>⟨rfl,x,B⟩)
  .rintro⟨⟨⟩,m⟩ D ⟨p,g,m,rfl,x,B⟩;dsimp only;obtain⟨e,F,J⟩:=y p x B;have k:=kat_snds (ks:=vs) (vs:=vs) rfl g;rw[k];refine wpAny_bind (seqEpoch_at q rfl ?_);refine wpAny_bind (listUpdate_at q rfl ?_ (zero_le _) (by
    rw[size_toArray,length_map,x.length_eq,length_range,sizeLine_eq];ext))
   rw[m];simp only[bne_self_eq_false,Bool.false_eq_true,if_false];exact wpAny_pure J
theorem Em {a:Addr}{n d:Nat}{vs:List Value}{km:Nat->Addr × List Int}{P:PySem.Fin->Shared->Prop} (M:s.heap.get? a=some (seqObj "list" vs.toArray n)) (B:vs.length<64) (D:0<d)
  (U:∀ i,i<vs.length->vs.getD i Value.none=.ref (km i).1/\IsTupleKey (ik prog w) s.heap (km i).2 (km i).1/\(km i).2.length=d)
  (h:∀ h' (p:Array Nat) e,(∀ b o,b≠a->s.heap.get? b=some o->h'.get? b=some o)->h'.get? a=some (seqObj "list" (p.toList.map λi=>vs.getD i Value.none).toArray e) →
   List.Perm p.toList (List.range vs.length)->bR Ge (λi=>(km i).2) p vs.length->P (.done (.ret .none)) {s with heap:=h'}) :
  wpAny (model prog w) A (Builtin.«list.sort» ⟨[.ref a],[]⟩) P E s:=by
 have up:∀ g:Heap,(∀ b o,b≠a->s.heap.get? b=some o->g.get? b=some o)->∀ i,i<vs.length->vs.getD i Value.none=.ref (km i).1/\IsTupleKey (ik prog w) g (km i).2 (km i).1/\(km i).2.length=d:=λg m i hi=>by
  obtain⟨J,⟨F,items,G,q,x,y,z⟩,L⟩:=U i hi;refine⟨J,⟨F,items,G,m _ F (λe=>?_) q,x,y,z⟩,L⟩;rw[e,M]at q;obtain rfl:=Option.some.inj q;exact absurd x (by simp[seqObj])
 refine uJ (O:=Ge) (key:=λi=>(km i).2) (T:=.type "int") M B ⋯ (λg m=>?_) (λg m i j C hi R Q=>?_) h
 .obtain⟨fs,q,x,y⟩:=x5 (prog:=prog) (w:=w) (h:=g) vs km λi hi=>⟨(up g m i hi).1,(up g m i hi).2.1,by rw[(up g m i hi).2.2];exact D⟩
  exact⟨fs,q,x,λv q=>by
   obtain⟨k,t,rfl⟩:=y v q;exact Looks.of_pure rfl⟩
 .obtain⟨J,⟨q,H,q,y,q,F,q⟩,L⟩:=up g m i hi;obtain⟨X,⟨x,I,x,z,x,G,x⟩,Y⟩:=up g m j R;rw[J,X];have g:decide (H.size<I.size)=false:=by
   have m:=q.length;have H:=x.length;simp only[length_toList]at m H;simp only[decide_eq_false_iff_not];ext
  refine kat_lt y F z G ?_;rw[g];exact Cd _ _ _ _ 0 q x (L.trans Y.symm) Q
end
set_option maxHeartbeats 3200000
section
variable {prog:Program}{w:World}{A:Around}{E:Value->Shared->Prop}{s:Shared}{o:Obj}{es:Array (Int × Value)}{ep:Nat}{t:SetTable}{S:Addr}
theorem BQ (g:s.TypeIs (.ref S) "set") (h:Q false s):wpAny (model prog w) A (Builtin.List.listLengthHint (.ref S)) Q E s:=by
 unfold Builtin.List.listLengthHint;refine wpAny_bind (wpAny_specialOf g F.slot_set_len.lookup ?_);generalize e:("set.__len__":String)=id0
 wp_delta
 rw[show splitId id0=some ("set","__len__") from by subst e;decide +kernel]
 subst e;refine wpAny_bind (wpAny_isInstance (T:="set") (b:=true) g sub_set_self ?_);refine wpAny_ite_split (λe=>absurd e ⋯) (λ_=>?_)
 refine wpAny_ite_split (λ_=>?_) (λe=>absurd (by decide +kernel) e)
 refine wpAny_bind (wpAny_typeOf g ?_);exact wpAny_pure h
theorem vG {j:List Value}{g:Array Value}(h:ItemsOf (λi v=>j[i]?=some v) g j.length):g=j.toArray:=by
 obtain⟨k,m⟩:=h;have e:g.toList=j:=by
  apply List.ext_getElem?;intro i
  by_cases hi:i<g.size
  .have n:=m i g[i] (Array.getElem?_eq_getElem hi);rw[getElem?_toList,Array.getElem?_eq_getElem hi,n]
  .rw[getElem?_eq_none (by simpa using le_of_not_lt hi),getElem?_eq_none (by rw[<-k];exact le_of_not_lt hi)]
 rw[<-e]
theorem tM {Q:List Value->Shared->Prop}(hh:A.handled=none)(W:ju w o es ep t)(z:s.heap.get? S=some o)(hz:es.size<=76)
  (h:∀ h' tk,(∀ b o,s.heap.get? b=some o->h'.get? b=some o)->s.heap.objs.size<=h'.objs.size->Q (cX w S ep es) {s with heap:=h',toks:=tk}) :
  wpAny (model prog w) A (collect (.ref S)) Q E s:=by
 have i:S<s.heap.objs.size:=Heap.lt_size z;unfold collect;refine wpAny_bind (wpAny_runValue (codeAny_builtin entry_proto_collect' ?_));show wpAny _ _ (newList [] >>= λl=>again (.builtin "list.__iadd__" ⟨[l,.ref S],[]⟩)) _ _ s;refine wpAny_bind (wpAny_newList (wpAny_pure ⟨Code.quiet_builtin _ (by decide +kernel),codeAny_builtin entry_list_iadd' ?_⟩))
 show wpAny _ _ (Builtin.List.listExtendWith (.ref s.heap.objs.size) (.ref S) (.ref s.heap.objs.size)) _ _ {s with heap:=s.heap.push (seqObj "list" #[] 0)};have g:(s.heap.push (seqObj "list" #[] 0)).get? S=some o:=Heap.get?_push_of_some _ z;have j:Shared.TypeIs {s with heap:=s.heap.push (seqObj "list" #[] 0)} (.ref S) "set":=⟨o,g,W.ex.1⟩;unfold Builtin.List.listExtendWith;refine wpAny_bind (wpAny_typeOf j ?_);have j:Builtin.List.listSameRef (.ref s.heap.objs.size) (.ref S)=false:=by
  have:s.heap.objs.size≠S:=ne_of_gt i;simp[Builtin.List.listSameRef,this]
 have k:(Value.type "set" == Value.type "list")=false:=⋯
 have m:(Value.type "set" == Value.type "tuple")=false:=⋯
 simp only[j,k,m,Bool.or_false,Bool.false_eq_true,if_false];refine wpAny_bind (uV W g ?_);generalize k:({cls:=.type "set_iterator",data:=.fields #[rawInt (0:Nat),rawInt (0:Nat),.ref S,rawInt es.size,rawInt ep]}:Obj)=io;have j:(s.heap.push (seqObj "list" #[] 0)).objs.size=s.heap.objs.size+1:=size_push' ..;dsimp only;rw[j];have p:((s.heap.push (seqObj "list" #[] 0)).push io).get? S=some o:=Heap.get?_push_of_some _ g;refine wpAny_bind (wpAny_holding (BQ ⟨o,p,W.ex.1⟩ ?_));refine wpAny_ite_split (λ_=>?_) (λg=>absurd (by decide +kernel) g)
 refine wpAny_bind (wpAny_rule ?_);have g:((s.heap.push (seqObj "list" #[] 0)).push io).get? s.heap.objs.size=some (seqObj "list" #[] 0):=Heap.get?_push_of_some _ (Heap.get?_push_size _ rfl);unfold Builtin.List.listTouch;refine wpAny_bind (wpAny_bind (listUpdate_at g rfl ?_ (zero_le _) (by simp[sizeLine_eq])))
 have m:=get?_update_seq g (·.push Value.none);refine listUpdate_at (s:={s with heap:=((s.heap.push (seqObj "list" #[] 0)).push io).update s.heap.objs.size (Obj.mapSeq (·.push Value.none))}) m rfl ?_ (by simp[sizeLine_eq]) (by simp[sizeLine_eq])
 have g:=get?_update_seq m (·.pop);generalize q:(((s.heap.push (seqObj "list" #[] 0)).push io).update s.heap.objs.size (Obj.mapSeq (·.push Value.none))).update s.heap.objs.size (Obj.mapSeq (·.pop))=h4 at g ⊢;obtain⟨m,g⟩:∃ m,h4.get? s.heap.objs.size=some (seqObj "list" #[] m):=⟨_,g⟩;have y:∀ b o,b≠s.heap.objs.size->((s.heap.push (seqObj "list" #[] 0)).push io).get? b=some o->h4.get? b=some o:=λb o n e=>by
  rw[<-q];exact((Heap.SameBut.update _ _ _).2 b n).trans (((Heap.SameBut.update _ _ _).2 b n).trans e)
 have q:h4.get? (s.heap.objs.size+1)=some io:=y _ _ (Nat.succ_ne_self _) (by
  have:=Heap.get?_push_size (s.heap.push (seqObj "list" #[] 0)) (o:=io) (by rw[<-k];rfl)
  rwa [j]at this)
 have x:S≠s.heap.objs.size+1:=ne_of_lt (lt_succ_of_lt i);have v:s.heap.objs.size∉[s.heap.objs.size+1,S]:=λj=>by
  obtain e|j:=mem_cons.mp j
  .exact ne_of_lt (lt_succ_self _) e
  .exact ne_of_gt i (mem_singleton.mp j)
 refine wpAny_pure ⟨plainId_quiet F.plain_extend_loop _,?_⟩;refine codeAny_extend_loopS ((zM (by simp[hh]) W x).toS) (by rw[sizeLine_eq];ext) s.heap.objs.size v _ es.size 0 _ #[] m rfl (zero_le _)
  ⟨0,⟨_,q,by rw[<-k],by rw[<-k]⟩,λ_=>vj W.ris,y S o (ne_of_lt i) p⟩ g (ItemsOf.nil _) λp i g j k m=>?_
 have g:i=(cX w S ep es).toArray:=vG (by rw[oJ W];exact m)
 subst g;have key:∀ b o,s.heap.get? b=some o->p.heap.get? b=some o:=λb o e=>by
  have n:b<s.heap.objs.size:=Heap.lt_size e;refine j.heap b o (λm=>?_) (y b o (ne_of_lt n) (Heap.get?_push_of_some _ (Heap.get?_push_of_some _ e)))
  obtain g|m:=mem_cons.mp m
  .exact ne_of_lt n g
  .exact ne_of_lt (lt_succ_of_lt n) (mem_singleton.mp m)
 rw[Moved.eq_with j];show wpAny (model prog w) A (load s.heap.objs.size >>= λo=>match o.data with
   | .seq x _=>pure x.toList
   |_=>unsupported "internal:collect") Q E {s with heap:=p.heap,toks:=p.toks}
 refine wpAny_bind (wpAny_load k ?_);exact wpAny_pure (h p.heap p.toks key (Nat.le_of_lt (Heap.lt_size k)))
theorem perm_lift:∀ (ms:List α) (l:List β),List.Perm l (ms.map f)->∃ g,List.Perm g ms/\l=g.map f
 | [],l,h=>⟨[],.refl _,by simpa using h⟩
 |m::ms,l,h=>by
  rw[map_cons]at h;obtain⟨j,k,rfl⟩:=List.append_of_mem (h.mem_iff.mpr mem_cons_self);have i:List.Perm (j++k) (ms.map f):=List.Perm.cons_inv (a:=f m) (List.perm_middle.symm.trans h);obtain⟨g,p,e⟩:=perm_lift ms _ i;obtain⟨a,b,rfl,g,i⟩:=List.append_eq_map_iff.mp e;refine⟨a++m::b,List.perm_middle.trans (List.Perm.cons m p),?_⟩;rw[map_append,map_cons,g,i]
theorem lV (l:List α)(d:α):(List.range l.length).map (λi=>l.getD i d)=l:=by
 apply List.ext_getElem?;intro i;rw[getElem?_map]
 obtain h|h:=lt_or_ge i l.length
 .simp[h]
 .simp[h]
theorem call_sorted_set (hh:A.handled=none)(M:dP prog w s.heap S ms)(L:ms.length<64)(C:0<d)(hd:∀ m∈ms,m.2.length=d)
  (h:∀ h' tk D e (ns:List (Addr × List Int)),List.Perm ns ms->ns.Pairwise (λa b=>lexB a.2 b.2=true)->(∀ b o,s.heap.get? b=some o->h'.get? b=some o)->s.heap.objs.size<=D →
   h'.get? D=some (seqObj "list" (ns.map λm=>Value.ref m.1).toArray e)->Q (.ref D) {s with heap:=h',toks:=tk}) :
  wpAny (model prog w) A (call (.builtin "sorted") [.ref S]) Q E s:=by
 obtain⟨o,es,ep,t,g,q,n,k,T,R,H,y,g⟩:=M;have W:ju w o es ep t:=⟨n,k,T.fits R.le,T.ris',y,g⟩;have g:es.size=ms.length:=H.len;refine Calls.call_function_entry kind_sorted plain_sorted entry_sorted (args_sorted1 _) ?_;unfold Builtin.«sorted»;refine wpAny_bind (m:=checkCount "sorted" 1 1 _) (wpAny_pure ?_);refine wpAny_bind (tM (by simp[hh]) W q ⋯ λv tk k1 G=>?_)
 have q:List.Perm (cX w S ep es) (ms.map λm=>Value.ref m.1):=by
  refine(qv w S ep es).trans ?_;have:=H.pm.map (·.2);rw[map_map]at this;exact this
 obtain⟨g,k,n⟩:∃ g:List (Addr × List Int),List.Perm g ms/\cX w S ep es=g.map λm=>Value.ref m.1:=perm_lift ms _ q;have q:g.length=ms.length:=k.length_eq;rw[n];refine wpAny_bind (wpAny_newList ?_ (by rw[length_map,sizeLine_eq];ext))
 dsimp only;have n:(v.push (seqObj "list" (g.map λm=>Value.ref m.1).toArray 0)).get? v.objs.size=some (seqObj "list" (g.map λm=>Value.ref m.1).toArray 0):=Heap.get?_push_size _ rfl;refine wpAny_bind (wpAny_holding (wpAny_call_entry slot_list_sort ⟨_,n,rfl⟩ entry_list_sort ?_ (args_list_sort _)));refine Em (s:={s with heap:=v.push (seqObj "list" (g.map λm=>Value.ref m.1).toArray 0),toks:=tk}) (km:=λi=>g.getD i (0,[])) n (by rw[length_map];ext) C (λi hi=>?_) λh' p e O I z J=>?_
 .have n:i<g.length:=by simpa using hi
  have B:g.getD i (0,[])=g[i]:=by simp[n]
  have q:g[i]∈ms:=k.mem_iff.mp (getElem_mem n);dsimp only;rw[B];refine⟨by simp[n],?_,hd _ q⟩
  obtain⟨U,F,P,B,x⟩:=H.key _ q;exact⟨U,F,P,Heap.get?_push_of_some _ (k1 _ _ B),x⟩
 .refine⟨_,rfl,wpAny_pure ⟨_,rfl,?_⟩⟩;rw[length_map]at z J;have q:(p.toList.map λi=>(g.map λm=>Value.ref m.1).getD i Value.none)=(p.toList.map λi=>g.getD i (0,[])).map λm=>Value.ref m.1:=by
   rw[map_map];refine map_congr_left λi hi=>?_;have n:i<g.length:=by simpa using z.mem_iff.mp hi
   simp[n]
  have n:List.Perm (p.toList.map λi=>g.getD i (0,[])) g:=by
   have:=z.map λi=>g.getD i ((0:Addr),([]:List Int))
   rwa [lV]at this
  rw[q]at I;refine h h' tk _ e _ (n.trans k) ?_ (λb o e=>O b o (λB=>?_) (Heap.get?_push_of_some _ (k1 b o e))) ?_ I
  .have F:((p.toList.map λi=>g.getD i ((0:Addr),([]:List Int))).map (·.2)).Nodup:=((n.trans k).map (·.2)).nodup_iff.mpr H.nd;have y:p.toList.length=g.length:=by rw[z.length_eq,length_range]
   rw[pairwise_iff_getElem];intro i j hi q k;rw[length_map]at hi q;have v:=J i j (Nat.le_of_lt k) ⋯
   have y:p.getD i 0=p.toList[i]:=by simp at hi;simp[Array.getD,hi]
   have z:p.getD j 0=p.toList[j]:=by simp at q;simp[Array.getD,q]
   have n:=pairwise_iff_getElem.mp F i j (by simpa using hi) (by simpa using q) k
   simp only[getElem_map]at n ⊢;unfold KeyOrd.kle Rk at v;rw[y,z]at v
   cases B:lexB (g.getD p.toList[i] (0,[])).2 (g.getD p.toList[j] (0,[])).2 with
   |true=>rfl
   |false=>exact absurd (iM _ _ B v) n
  .exact ne_of_lt (Heap.lt_size (k1 b o e)) B
  .exact G
end
end ST
set_option maxHeartbeats 4000000
namespace DL
open PySem PySem.Spec L2 PyProof.Rows
def refs (km:List (Addr × List Int)):List V:=km.map λm=>V.ref m.1
def Eu (K:Frg)(te:TE):TE:=λe H Q=>te e H λx h=>∃ p d,∃ k:List (Addr × List Int),x=.ref p/\cV K h p (refs k)/\k.length<=63/\0<d ∧
 (∀ m∈k,je K h m.1 (m.2.map V.int)/\m.2.length=d) ∧
 ∀ ns:List (Addr × List Int),(∀ m∈ns,m∈k)->(∀ m∈k,m.2∈ns.map (·.2))->(ns.map (·.2)).Nodup->(k.length<=63->ns.Pairwise (λa b=>ST.lexB a.2 b.2=true))->∀ l,h l=none->Q (.ref l) (cG h l (.lst (refs ns)))
theorem lh:∀ {km:List (Addr × List Int)}{us:List Value},aP (refs km) us->us=km.map λm=>Value.ref m.1
 | [],_,.nil=>rfl
 |m::km,_,.cons r t=>by cases r;rw[lh t];rfl
theorem rO:∀ km:List (Addr × List Int),aP (refs km) (km.map λm=>Value.ref m.1)
 | []=>.nil
 |m::km=>.cons rfl (rO km)
section
variable {X:Cx}{e:Expr}{te:TE}{p1 p2 pos1 pos2:Pos}
theorem nL:∀ {ks:List Int}{us:List Value},aP (ks.map V.int) us->ItemsAre (intKind prog w) ks us
 | [],_,.nil=>.nil
 |k::ks,_,.cons r t=>by obtain⟨g,rfl⟩:=r;exact .cons (intKind_is _ _ _ _) (nL t)
theorem sT (I:aI X pins σ H s)(h:je X.K H a (ks.map V.int)):IsTupleKey (ST.ik X.prog X.w) s.heap ks a:=by
 obtain⟨i,r,⟨o,j,g,n,hd⟩,_⟩:=I.tuple h;exact⟨o,i.toArray,n,j,g,hd,by simpa using nL r⟩
theorem wf (hr:b9 k X.A) (P:X.mg "sorted"=none) (R:X.mg "set"=none) (hd:X.A.handled=none) (he:PE X e te) (M:Gl X "sorted":=by rfl) (O:Gl X "set":=by rfl)
  (E:starEach [e] X.env=(false,eval e X.env)::starEach [] X.env:=by exact aQ rfl) (C:starEach [.Call (.Name "set" p2) [e] [] pos2] X.env=(false,eval (.Call (.Name "set" p2) [e] [] pos2) X.env)::starEach [] X.env:=by rfl) :
  PE X (.Call (.Name "sorted" p1) [.Call (.Name "set" p2) [e] [] pos2] [] pos1) (Eu X.K te):=by
 intro g s j H Q I h;refine wpAny_Call_Name_kw (ij I M P PyProof.Rows.boot_sorted ?_);refine PyProof.Rows.callWith_builtin1 ?_ C;rw[C];show wpAny _ _ (spliced ((false,eval (.Call (.Name "set" p2) [e] [] pos2) X.env)::backTo pos1 (starEach [] X.env))) _ _ s;refine Calls.spliced_cons ?_;refine wpAny_Call_Name_kw (ij I O R PyProof.Rows.boot_set ?_);refine PyProof.Rows.callWith_type1 ?_ E;rw[E];show wpAny _ _ (spliced ((false,eval e X.env)::backTo pos2 (starEach [] X.env))) _ _ s;refine Calls.spliced_cons (cM (he g s j H _ I h) ?_);rintro u U ⟨x,g,F,z,j⟩;obtain⟨p,d,g,rfl,q,n,L,y,G⟩:=j
 cases z
 refine Calls.spliced_nil ?_;obtain⟨j,r,pl,hz⟩:=F.list q;have j:=lh r;subst j;have z:((g.map λm=>Value.ref m.1).toArray).size=g.length:=by simp
 refine ST.call_set_tup (km:=λi=>g.getD i (0,[])) hd (by have:=hr.units;ext) pl.isList (λi v j=>?_) (λi hi=>?_) (by rw[z];ext) λZ Y J k2=>?_
 .rw[List.getElem?_toArray,getElem?_map]at j
  cases q:g[i]? with
  |none=>rw[q]at j;simp at j
  |some m=>
   rw[q]at j;simp only[getD_eq_getElem?_getD,q,Option.getD_some];simpa using j.symm
 .rw[z]at hi;have B:g.getD i (0,[])=g[i]:=by simp[hi]
  rw[B];exact sT F (y _ (getElem_mem hi)).1
 refine Calls.spliced_nil ?_;rw[z]at J;have j:∀ m∈ST.met (λi=>g.getD i (0,[])) g.length,m∈g:=λm q=>by
  obtain⟨i,hi,rfl⟩:=ST.met_of _ _ m q;have B:g.getD i (0,[])=g[i]:=by simp[hi]
  rw[B];exact getElem_mem hi
 refine ST.call_sorted_set (s:={U with heap:=Z,toks:=Y}) hd J (Nat.lt_succ_of_le (le_trans (ST.met_len _ _) n)) L (λm q=>(y m (j m q)).2) λh3 Z D c3 ns y z k3 Y hD=>?_;have L:(ns.map (·.2)).Nodup:=pairwise_map.mpr (z.imp λh e=>by rw[e,ST.lex_irr]at h;exact nomatch h)
 have keep:∀ b o,U.heap.get? b=some o->h3.get? b=some o:=λb o e=>k3 b o (k2 b o (Heap.lt_size e) e);have le:U.heap.objs.size<=D:=by
  obtain⟨U,_,_,_,_,U,_⟩:=J;exact le_trans (Nat.le_of_lt (Heap.lt_size U)) Y
 have J:ns.length<=63:=by rw[y.length_eq];exact le_trans (ST.met_len _ _) n
 refine⟨.ref D,_,F.laid (t':=Z) keep le (show eV X.prog X.w _ h3 _ (.lst (refs ns)) from⟨?_,_,c3,rO ns,hD⟩),rfl,G ns (λm q=>j m (y.mem_iff.mp q)) (λm q=>?_) L (λ_=>z) _ (F.hok.fresh le)⟩
 .unfold refs;rw[length_map];exact le_trans J ⋯
 .obtain⟨i,hi,rfl⟩:=getElem_of_mem q;have j:=ST.met_has (λi=>g.getD i (0,[])) g.length i hi;have B:g.getD i (0,[])=g[i]:=by simp[hi]
  rw[B]at j;exact(y.map (·.2)).mem_iff.mpr j
end
def md (ks:List Int):T:=.tup (ks.map T.int)
def Pc (R:S->Prop)(s:S):Prop:=match items s with
 |some g=>∃ (d:Nat) (e:List (List Int)),0<d/\g=e.map md/\(∀ g∈e,g.length=d)/\e.length<=63 ∧
   ∀ ns:List (List Int),(∀ k∈ns,k∈e)->(∀ k∈e,k∈ns)->ns.Nodup->(e.length<=63->ns.Pairwise (λa b=>ST.lexB a b=true))->R (.ol (ns.map md))
 |none=>False
def kG (e:WE):WE:=λg R=>e g (Pc R)
theorem p7:∀ ks:List Int,cF (ks.map T.int)=true
 | []=>rfl
 |k::ks=>by simp only[map_cons,cF,ke,Bool.true_and];exact p7 ks
theorem p8:∀ e:List (List Int),cF (e.map md)=true
 | []=>rfl
 |k::e=>by
  simp only[map_cons,cF,Bool.and_eq_true];exact⟨by unfold md;simp only[ke];exact p7 k,p8 e⟩
theorem fx {K:Frg}{H:Hp}:∀ {ks:List Int}{xs:List V},au K H (ks.map T.int) xs->xs=ks.map V.int
 | [],_,h=>h
 |k::ks,_,⟨x,r,e,p,q⟩=>by subst e;cases p;rw[fx q];rfl
theorem uO {K:Frg}{H:Hp}:∀ {g:List (List Int)}{xs:List V},au K H (g.map md) xs →
  ∃ km:List (Addr × List Int),km.map (·.2)=g/\xs=refs km/\∀ m∈km,je K H m.1 (m.2.map V.int)/\aB K H (md m.2) (.ref m.1)
 | [],_,h=>⟨[],rfl,h,λm i=>absurd i not_mem_nil⟩
 |k::g,_,⟨x,r,e,p,q⟩=>by
  subst e;obtain⟨km,j,n,o⟩:=uO q;obtain⟨a,y,g,v,ty⟩:=id p;subst g;have g:=fx ty;subst g;refine⟨(a,k)::km,by rw[map_cons,j],by rw[n];rfl,λm i=>?_⟩
  obtain rfl|i:=mem_cons.mp i
  .exact⟨v,p⟩
  .exact o m i
theorem ud {K:Frg}{H:Hp}:∀ ns:List (Addr × List Int),(∀ m∈ns,aB K H (md m.2) (.ref m.1))->au K H ((ns.map (·.2)).map md) (refs ns)
 | [],_=>rfl
 |m::ns,h=>⟨.ref m.1,refs ns,rfl,h m mem_cons_self,ud ns λg e=>h g (mem_cons_of_mem _ e)⟩
section
variable {X:Cx}{e:Expr}{p1 p2 pos1 pos2:Pos}
theorem nj {k:Nat}{Z:WE} (hr:b9 k X.A) (G:X.mg "sorted"=none) (I:X.mg "set"=none) (hd:X.A.handled=none) (he:PE X e (av X.K Z)) (C:Gl X "sorted":=by rfl) (D:Gl X "set":=by rfl)
  (L:starEach [e] X.env=(false,eval e X.env)::starEach [] X.env:=by exact aQ rfl) (J:starEach [.Call (.Name "set" p2) [e] [] pos2] X.env=(false,eval (.Call (.Name "set" p2) [e] [] pos2) X.env)::starEach [] X.env:=by rfl) :
  PE X (.Call (.Name "sorted" p1) [.Call (.Name "set" p2) [e] [] pos2] [] pos1) (av X.K (kG Z)):=
 (wf hr G I hd he C D L J).imp <| by rintro σ H Q ⟨δ,R,F,rl,h,k⟩;exact⟨δ,_,F,rl,h,λv O H1 s ex p q=>by
  unfold Pc at q
  split at q
  .rename_i ts hi;obtain⟨a,xs,rfl,sq,tp⟩:=(p.val ex.sub).list ex.sub hi;obtain⟨d,M,B,rfl,n,i,z⟩:=q;obtain⟨U,o,y,P⟩:=uO tp;subst y;have j:∀ m∈U,m.2∈M:=λm g=>by rw[<-o];exact mem_map.mpr ⟨m,g,rfl⟩
   refine⟨a,d,U,rfl,sq,by rw[<-o,length_map]at i;exact i,B,λm g=>⟨(P m g).1,n _ (j m g)⟩,λns Y n2 n4 n3 l E=>?_⟩
   have y:=di.newL (refs ns) ex.sub ex.full E;have hp:au X.K O ((ns.map (·.2)).map md) (refs ns):=au.full ex.full (p8 _) (ud ns λm g=>(P m (Y m g)).2);exact k _ O _ (.ol ((ns.map (·.2)).map md)) (ex.trans y) ⟨l,refs ns,rfl,aJ ex.hh E,aJ ex.sub E,aY,hp⟩
    (z _ (λk x=>by obtain⟨m,g,rfl⟩:=mem_map.mp x;exact j m (Y m g)) (λk x=>by
     rw[<-o]at x;obtain⟨m,g,rfl⟩:=mem_map.mp x;exact n2 m g) n4 (λh=>pairwise_map.mpr (n3 (by rwa [<-o,length_map]at h))))
  .exact q.elim⟩
end
theorem yg (e:WE)(g:a9)(R:S->Prop):kG e g R=e g (Pc R):=rfl
set_option maxHeartbeats 4000000
def JY (i:Nat)(g:a9)(N:a9->Prop)(ts:List T):S->Prop
 | .ol e=>ts.length+e.length<100000/\N (g.set i (some (.ol (ts++e))))
 |_=>False
def mC (i:Nat)(g:WE):WS:=λD e=>match e[i]? with
 |some (some (.ol ts))=>g e (JY i e D.nx ts)
 |_=>False
theorem zY:mC i g D e=nR i e λts=>g e (JY i e D.nx ts):=rfl
theorem JZ (N:a9->Prop)(ts us:List T):JY i e N ts (.ol us)=(ts.length+us.length<100000/\N (e.set i (some (.ol (ts++us))))):=rfl
section
variable {X:Cx}{e:Expr}{we:WE}{pos:Pos}{H₀:Hp}{i:Nat}{x:Str}{p1 p2:Pos}
theorem yL (he:PE X e (av X.K we)) (Q:PE X (.Name x p1) (uM i):=by exact pv _) (j:attributeBase (.Name x p1) "extend" X.env (eval (.Name x p1) X.env)=eval (.Name x p1) X.env:=by rfl)
  (m:((backTo pos (starEach [e] X.env)).all (λx=>!x.1) && (backToKw pos (keywordEach [] X.env)).all (λx=>x.1.isSome) && decide ([e].length+([]:List Keyword).length+(if ([]:List Keyword).isEmpty then 0 else 1)<30))=true:=by rfl)
  (k:(p2.endLine == pos.line)=true:=by rfl) (hs:starEach [e] X.env=(false,eval e X.env)::starEach [] X.env:=by rfl) (n:(backTo pos (starEach [] X.env)).any (·.1)=false:=by rfl)
  (B:swapsWith (.Call (.Attribute (.Name x p1) "extend" p2) [e] [] pos) none g.line X.env=pure false:=by rfl) :
  PS X (.Expr (.Call (.Attribute (.Name x p1) "extend" p2) [e] [] pos) g) (bI X.K H₀ (mC i we)):=
 (my (Ih PySem.F.plainAttrs_list PySem.F.slot_list_extend PySem.F.type_list_extend ze Q (mx he se hs) j m k hs n) B).imp λD Y H ⟨U,Z,F,s0,C,h,ok⟩=>by
  unfold mC at h
  split at h
  .rename_i ts hi;obtain⟨v,I,a,E,rfl,M,y,J⟩:=C.slot i _ hi;refine⟨_,I,.inl ⟨rfl,E,cV.of y⟩,U,_,F,C,h,λv L H1 s e p q=>?_⟩
   cases s with
   |ol us=>
    obtain⟨P,q⟩:=q;obtain⟨b,R,rfl,_,O,z,o⟩:=p;have G:=e.hh.get y;refine⟨a,b,E,R,rfl,rfl,G,z,by rw[J.length,o.length];exact Nat.le_of_lt (mr P),?_⟩
    exact ok.nx Y L _ _ e.ff ((C.ext e).mutate hi I (e.keep a (by rw[y];simp) M) ⟨E,G⟩ ((au.same e.ff J).append o)) q
   |_=>exact q.elim
  .exact h.elim
end
end DL
open L2 DL
def Ir:List String:=("zY JZ yf Li Ll Lj yg Kr Ks Gm Gn MC MD OJ MB Jc Jb IX EW IJ IK MG PQ Mw OL PP OH Mu Mq Mo Mr Mp MK ML MM MN JW JV JX FM FN FL JT JU JS JL JM JK JR eE JQ JO M3 JN JP PN Ji IE Mx IZ IF My I0 Fe KS Gw Mm OI Mv II ME Mt Po Pp Pq OZ O0 O1 O2 O3 IG IS IQ IT IR Mi IV IW IP IN E2 E4 E3 M8 Nv OK LL N8 ty_int LM N9 Ob Oa rx pa rq ry rz rs o5 nK o0 o6 o7 o3 rg o8 re rh ri rf rC pb rA rD rE rB rH pc rF rJ rK rG rm o9 rj ro rp rk Ml Aa Gi Gk Gj Fb N5 Ab Lm Ac Ln E1 IM IL EZ MF LO Mz KW E7 Lv Lx Lw E5 Ja K9 zX Jh MA E6 List.set_cons_zero List.set_cons_succ List.map_cons List.map_nil if_true if_false true_and and_true Bool.not_true Bool.not_false Bool.not_eq_true decide_eq_true_eq decide_eq_false_iff_not Bool.not_not Bool.false_eq_true Bool.true_eq_false ite_true ite_false Int.reducePow Int.reduceToNat Int.reduceNeg Int.reduceMul Int.reduceAdd Int.reduceSub List.length_cons List.length_nil Nat.zero_add Nat.reduceAdd ite_not MO MP MQ MR Dw Gs Du Dy Dt Dv Gu Dx Gv M5 M6 M4 Ms IU Ps ty_str HC Mn IY HZ Kx Ky Kz KA KB KC N6 LP Jd Mj Jr Jt Js IH MH xr F0 G9 Le G7 Ha Hb G8 D2 p6 Bool.and_true Bool.true_and Bool.and_self xP Bp C8 Bq C9 Bo C7 Bt Dd Bu De Bs Dc Bl C4 Bm C5 Bk C3 Bn C6 Br Da Bj C2 Hc AT CI AU CJ AS CH AX CM AY CN AW CL AO CD AQ CF AN CC AR CG AV CK AM CB He BB Dl BC Dm BA Dk BF Dq BG Dr BE Dp Bx Dh By Di Bw Dg Bz Dj BD Do Bv Df Hd Ba CV Bb CW A9 CU Bg C0 Bh C1 Be CZ A6 CQ A7 CS A5 CP A8 CT Bc CY AZ CO bd aW pK spT M9 Nw M7 Nu oW List.replicate_succ List.replicate_zero List.cons_append List.nil_append List.getElem?_cons_succ List.getElem?_cons_zero Option.join_some Option.join_none Je Jg Jf ET EV EU EY EX E8 Fa E9 LW zZ".splitOn " ")
local macro_rules | `(tactic| walk_at"d")=>do {let ids:Array (Lean.TSyntax `ident):=Ir.toArray.map (fun x=>Lean.mkIdent x.toName);`(tactic| try simp only[$[$ids:ident],*])}
local macro_rules | `(tactic| walk_at"db")=>do {let ids:Array (Lean.TSyntax `ident):=Ir.toArray.map (fun x=>Lean.mkIdent x.toName);`(tactic| try simp (config:={implicitDefEqProofs:=false}) only [$[$ids:ident],*])}
local macro_rules | `(tactic| walk_at"sz")=>`(tactic| first | assumption | with_reducible exact Sz.of (m:=250) (by omega) (by omega) | with_reducible exact Sz.mul (by walk_at"sz") (by walk_at"sz") | with_reducible exact Sz.add (by walk_at"sz") (by walk_at"sz") | with_reducible exact Sz.sub (by walk_at"sz") (by walk_at"sz") | with_reducible exact Sz.neg (by walk_at"sz"))
local macro_rules | `(tactic| walk_at"szk")=>`(tactic| first | assumption | exact Sz.mono (by walk_at"sz") (by decide))
local macro_rules | `(tactic| walk_at"mul")=>`(tactic| first | with_reducible exact Gq (by decide) (by decide) | with_reducible exact bF (by walk_at"sz") (by walk_at"sz") (by decide) (by decide) | with_reducible exact Gq (by omega) (by omega) | with_reducible exact Nr (by omega) (by omega))
local macro_rules | `(tactic| walk_at"side")=>`(tactic| first | decide | with_reducible exact DY (by decide) (by decide) (by decide) | with_reducible exact AF (by decide) (by decide +kernel) | walk_at"mul" | omega | assumption)
local macro_rules | `(tactic| walk_at"pre")=>`(tactic| repeat ((with_reducible apply And.intro);(case left=>walk_at"side")))
local macro_rules | `(tactic| walk_at"go")=>`(tactic| (walk_at"d";walk_at"pre"))
local macro_rules | `(tactic| walk_at"gb")=>`(tactic| (walk_at"db";walk_at"pre"))
local macro_rules | `(tactic| walk_at"o")=>`(tactic| first | lia | omega)
namespace Law
open L2 DL
abbrev Ok (sp:aN)(w:WS)(N:List PySem.Str):Prop:=∀ ss R,sp ss R->w {nx:=λ_=>R (.t .non),rt:=R} (aE N ss)
def cy:aN:=λe R=>∃ a b:Int,e=[.t (.int a),.t (.int b)]/\R (.t (.int (Int.gcd a b)))
def gQ:aN:=cy
def i5:WS:=
 (aC (aG 2 (eh hW (ac (ae 0) ap)))
 (aC (aG 3 (eh hW (ac (ae 1) ap)))
 (bZ (oH (wB (Mb (ae 3) (wC (.int 0)))) (aC (aG 4 (dg (ae 2) (ae 3)))
 (aC (aG 2 (ae 3))
 (aG 3 (ae 4)))))
 (iG 2))))
def fz:WS:=
 (aC (aG 0 (eh hW (ac (ae 0) ap)))
 (aC (aG 1 (eh hW (ac (ae 1) ap)))
 (bZ (oH (wB (EC (ae 1) (wC (.int 0)))) (HF 0 1 (ac (ae 1) (ac (dg (ae 0) (ae 1)) ap))))
 (iG 0))))
theorem t4 (g l:Nat):Nat.gcd l (g % l)=Nat.gcd g l:=by
 rw[Nat.gcd_comm l (g % l),<-Nat.gcd_rec,Nat.gcd_comm]
theorem vV:∀ j R,cy j R->i5 {nx:=λ_=>R (.t .non),rt:=R} (aE ["one","other","greater","lesser","rest"] j):=by
 rintro j R ⟨a,b,rfl,h⟩;show i5 _ [some (.t (.int a)),some (.t (.int b)),none,none,none];unfold i5;symm;rw[kX,kX];refine⟨λi=>∃ r,i=[some (.t (.int a)),some (.t (.int b)),some (.t (.int (Int.gcd a b))),some (.t (.int 0)),r],?_,by rintro i ⟨r,e⟩;exact by subst e;symm;exact h⟩
 refine⟨λn i=>∃ (g l:Nat) (r:Option S),i=[some (.t (.int a)),some (.t (.int b)),some (.t (.int g)),some (.t (.int l)),r]/\l=n/\Nat.gcd g l=Int.gcd a b,⟨_,_,_,none,rfl,rfl,rfl⟩,?_⟩;rintro n i ⟨g,l,r,rfl,rfl,i⟩;symm
 cases l with
 |zero=>rw[if_neg (by simp)];exact⟨r,by rw[<-i];simp⟩
 |succ l=>
  rw[if_pos (by simp;omega)]
  refine⟨by omega,?_⟩
  rw[nG];exact⟨_,mod_lt g (by omega),_,_,_,rfl,rfl,by rw[t4];exact i⟩
theorem rY:∀ j R,gQ j R->fz {nx:=λ_=>R (.t .non),rt:=R} (aE ["_law_one","_law_other"] j):=by
 rintro j R ⟨a,b,rfl,h⟩;show fz _ [some (.t (.int a)),some (.t (.int b))];unfold fz;symm;rw[kX,kX];refine⟨λi=>i=[some (.t (.int (Int.gcd a b))),some (.t (.int 0))],?_,λi e=>by subst e;symm;exact h⟩
 refine⟨λn i=>∃ (g l:Nat),i=[some (.t (.int g)),some (.t (.int l))]/\l=n/\Nat.gcd g l=Int.gcd a b,⟨_,_,_,rfl,rfl,rfl⟩,?_⟩;rintro n i ⟨g,l,rfl,rfl,i⟩;symm
 cases l with
 |zero=>rw[if_neg (by simp)];rw[<-i];simp
 |succ l=>
  rw[if_pos (by omega)]
  refine⟨by omega,?_⟩
  rw[nG];exact⟨_,mod_lt g (by omega),_,_,rfl,rfl,by rw[t4];exact i⟩
def a6 (h:Hf)(s:aT):Int:=h.1*s.1.1*s.2.2+h.2.1*s.2.1*s.1.2-h.2.2*(s.1.2*s.2.2)
def sgn (i:Int):Int:=if i>0 then 1 else if i<0 then -1 else 0
def cJ:aN:=λe R=>∃ s:aT,e=[.t (spT s)]/\eH 60000 s/\R (.t (.int (s.1.2*s.2.2)))
def dw:aN:=λe R=>∃ (h:Hf) (s:aT),e=[.t (bd h),.t (spT s)]/\dh 300000 h/\eH 60000 s/\R (.t (.int (a6 h s)))
def sK:aN:=λe R=>∃ i:Int,e=[.t (.int i)]/\R (.t (.int (sgn i)))
def gW:aN:=λe R=>∃ (h:Hf) (s:aT),e=[.t (bd h),.t (spT s)]/\dh 300000 h/\eH 60000 s/\R (.t (.int (sgn (a6 h s))))
def iZ:WS:=
 (bw (aV (ao aK (ao aK (ae 0) (wC (.int 0))) (wC (.int 1))) (ao aK (ao aK (ae 0) (wC (.int 1))) (wC (.int 1)))))
def kI:WS:=
 (aC (aG 2 (ao aK (ae 1) (wC (.int 0))))
 (aC (aG 3 (ao aK (ae 1) (wC (.int 1))))
 (bw (cL (cz (aV (aV (ao aK (ae 0) (wC (.int 0))) (ao aK (ae 2) (wC (.int 0)))) (ao aK (ae 3) (wC (.int 1)))) (aV (aV (ao aK (ae 0) (wC (.int 1))) (ao aK (ae 3) (wC (.int 0)))) (ao aK (ae 2) (wC (.int 1))))) (aV (ao aK (ae 0) (wC (.int 2))) (aw cJ (ac (ae 1) ap)))))))
def sY:WS:=
 (aC (hI (wB (EC (ae 0) (wC (.int 0)))) (bw (wC (.int 1))) bz)
 (aC (hI (wB (EE (ae 0) (wC (.int 0)))) (bw (uY ie (wC (.int 1)))) bz)
 (bw (wC (.int 0)))))
def w_side:WS:=
 (bw (aw sK (ac (aw dw (ac (ae 0) (ac (ae 1) ap))) ap)))
theorem vS:∀ e R,cJ e R->iZ {nx:=λ_=>R (.t .non),rt:=R} (aE ["spot"] e):=by
 rintro e R ⟨⟨⟨x,p⟩,y,q⟩,rfl,⟨⟨g,z⟩,i,e⟩,h⟩;dsimp only at g z i e;show iZ _ [some (.t (.tup [.tup [.int x,.int p],.tup [.int y,.int q]]))]
 delta iZ
 symm;exact⟨bF z e ⋯ ⋯,h⟩
theorem zj:∀ e R,dw e R->kI {nx:=λ_=>R (.t .non),rt:=R} (aE ["half","spot","x","y"] e):=by
 rintro e R ⟨⟨a,b,c⟩,⟨⟨x,p⟩,y,q⟩,rfl,⟨j,k,m⟩,⟨⟨z,e⟩,g,i⟩,h⟩;dsimp only at j k m z e g i;show kI _ [some (.t (.tup [.int a,.int b,.int c])),some (.t (.tup [.tup [.int x,.int p],.tup [.int y,.int q]])),none,none]
 delta kI
 symm;refine⟨by walk_at"mul",by walk_at"mul",by walk_at"mul",by walk_at"mul",⟨(x,p),(y,q)⟩,rfl,⟨⟨z,e⟩,g,i⟩,?_⟩
 symm;exact⟨by walk_at"mul",h⟩
theorem GI:∀ e R,sK e R->sY {nx:=λ_=>R (.t .non),rt:=R} (aE ["number"] e):=by
 rintro e R ⟨i,rfl,h⟩;show sY _ [some (.t (.int i))]
 delta sY
 unfold sgn at h;symm
 split
 .rename_i hi;rw[if_pos hi]at h;exact h
 .rename_i hi;rw[if_neg hi]at h
  split
  .rename_i j;rw[if_pos j]at h;exact h
  .rename_i j;rw[if_neg j]at h;exact h
theorem GH:∀ e R,gW e R->w_side {nx:=λ_=>R (.t .non),rt:=R} (aE ["half","spot"] e):=by
 rintro e R ⟨a,s,rfl,y,z,h⟩;show w_side _ [some (.t (bd a)),some (.t (spT s))]
 delta w_side
 symm;refine⟨a,s,rfl,y,z,?_⟩;symm;refine⟨_,rfl,?_⟩;symm;exact h
theorem cb {a d:Int}(h:d ∣ a):a.fdiv d*d=a:=by
 obtain⟨k,rfl⟩:=h
 by_cases hd:d=0
 .subst hd;simp
 .rw[Int.mul_fdiv_cancel_left _ hd,mul_comm]
theorem xl {a d:Int}(h:d ∣ a)(g:a≠0):a.fdiv d≠0:=λe=>by
 have:=cb h;rw[e]at this;ext
def jg (a b c:Int):Nat:=Int.gcd (Int.gcd a b) c
theorem BL (a b c:Int):(jg a b c:Int) ∣ a:=Int.dvd_trans (gcd_dvd_left _ _) (gcd_dvd_left _ _)
theorem BM (a b c:Int):(jg a b c:Int) ∣ b:=Int.dvd_trans (gcd_dvd_left _ _) (gcd_dvd_right _ _)
theorem J5 (a b c:Int):(jg a b c:Int) ∣ c:=gcd_dvd_right _ _
theorem fG (h:a≠0\/b≠0):(Int.gcd a b:Int)≠0:=λe=>by
 have g:Int.gcd a b=0:=⋯
 rw[Int.gcd_eq_zero_iff]at g;ext
theorem xn (h:a≠0\/b≠0):(jg a b c:Int)≠0:=fG (.inl (fG h))
def J6 (a b c:Int):Hf:=(a.fdiv (jg a b c),b.fdiv (jg a b c),c.fdiv (jg a b c))
def j2 (a b:Int):Int:=if b<0 then -(Int.gcd a b:Int) else (Int.gcd a b:Int)
def fF (a b:Int):Int × Int:=(a.fdiv (j2 a b),b.fdiv (j2 a b))
def vm (p q:Pt):Hf:=J6 (p.2-q.2) (q.1-p.1) ((p.2-q.2)*p.1+(q.1-p.1)*p.2)
def ky:aN:=λe R=>∃ a b c:Int,e=[.t (.int a),.t (.int b),.t (.int c)]/\(a≠0\/b≠0)/\dh 9000 (a,b,c)/\R (.t (bd (J6 a b c)))
def jJ:aN:=λe R=>∃ p q:Pt,e=[.t (aW p),.t (aW q)]/\p≠q/\SzF 4000 p/\SzF 4000 q/\R (.t (bd (vm p q)))
def gf:aN:=λe R=>∃ a b:Int,e=[.t (.int a),.t (.int b)]/\b≠0/\Sz 9000 b/\R (.t (pK (fF a b)))
def dG:aN:=λe R=>∃ p q:Int × Int,e=[.t (pK p),.t (pK q)]/\SzF 60000 p/\SzF 60000 q/\R (.t (.bl (decide (p.1*q.2<q.1*p.2))))
def sW:WS:=
 (aC (hI (LR (js (wB (qt (ae 0) (wC (.int 0)))) (wB (qt (ae 1) (wC (.int 0)))))) lE bz)
 (aC (aG 3 (aw cy (ac (aw cy (ac (ae 0) (ac (ae 1) ap))) (ac (ae 2) ap))))
 (bw (bX (ac (dJ (ae 0) (ae 3)) (ac (dJ (ae 1) (ae 3)) (ac (dJ (ae 2) (ae 3)) ap)))))))
def iY:WS:=
 (aC (aG 2 (cL (ao aK (ae 0) (wC (.int 1))) (ao aK (ae 1) (wC (.int 1)))))
 (aC (aG 3 (cL (ao aK (ae 1) (wC (.int 0))) (ao aK (ae 0) (wC (.int 0)))))
 (bw (aw ky (ac (ae 2) (ac (ae 3) (ac (cz (aV (ae 2) (ao aK (ae 0) (wC (.int 0)))) (aV (ae 3) (ao aK (ae 0) (wC (.int 1))))) ap)))))))
def mM:WS:=
 (aC (hI (wB (qt (ae 1) (wC (.int 0)))) lE bz)
 (aC (aG 2 (aw cy (ac (ae 0) (ac (ae 1) ap))))
 (bZ (hI (wB (EE (ae 1) (wC (.int 0)))) (aG 2 (uY ie (ae 2))) bz)
 (bw (bX (ac (dJ (ae 0) (ae 2)) (ac (dJ (ae 1) (ae 2)) ap)))))))
def mG:WS:=
 (bw (EE (aV (ao aK (ae 0) (wC (.int 0))) (ao aK (ae 1) (wC (.int 1)))) (aV (ao aK (ae 1) (wC (.int 0))) (ao aK (ae 0) (wC (.int 1))))))
theorem GC:∀ i R,ky i R->sW {nx:=λ_=>R (.t .non),rt:=R} (aE ["a","b","c","common"] i):=by
 rintro i R ⟨a,b,c,rfl,g,⟨sa,sb,j⟩,h⟩;dsimp only at sa sb j;show sW _ [some (.t (.int a)),some (.t (.int b)),some (.t (.int c)),none]
 delta sW
 symm;refine⟨λk=>k=false,?_,?_⟩
 .symm
  split
  .rename_i e;ext
  .trivial
 rintro k rfl;symm;refine⟨_,_,rfl,?_⟩;symm;refine⟨_,_,rfl,?_⟩;symm;have m:(jg a b c:Int)≠0:=xn g;have n:Sz 9000 (jg a b c:Int):=(Sz.gcd (Sz.gcd sa sb) j).mono ⋯
 have dv:∀ z,mO z (jg a b c:Int):=λz=>xf m n ⋯
 exact⟨dv _,dv _,dv _,h⟩
theorem vR:∀ i R,jJ i R->iY {nx:=λ_=>R (.t .non),rt:=R} (aE ["one","other","a","b"] i):=by
 rintro i R ⟨⟨u,v⟩,⟨x,y⟩,rfl,g,⟨i,j⟩,⟨k,m⟩,h⟩;dsimp only at i j k m;show iY _ [some (.t (.tup [.int u,.int v])),some (.t (.tup [.int x,.int y])),none,none]
 delta iY
 symm;have sa:Sz 4001 (v-y):=by walk_at"szk"
 have sb:Sz 4001 (x-u):=by walk_at"szk"
 have k:Sz 9000 ((v-y)*u+(x-u)*v):=by walk_at"szk"
 refine⟨bF sa i ⋯ ⋯,bF sb j ⋯ ⋯,_,_,_,rfl,?_,⟨sa.mono ⋯,sb.mono ⋯,k⟩,h⟩
 by_cases e:v-y=0
 .right
  intro i;exact g (by rw[show u=x by ext,show v=y by ext])
 .exact .inl e
theorem DK:∀ g R,gf g R->mM {nx:=λ_=>R (.t .non),rt:=R} (aE ["top","bottom","common"] g):=by
 rintro g R ⟨a,b,rfl,e,sb,h⟩;show mM _ [some (.t (.int a)),some (.t (.int b)),none]
 delta mM
 symm;rw[if_neg (by simpa using e)]
 refine⟨_,_,rfl,?_⟩;symm;refine⟨λg=>g=[some (.t (.int a)),some (.t (.int b)),some (.t (.int (j2 a b)))],?_,?_⟩
 .symm;unfold j2
  split <;> rfl
 rintro g rfl;symm;have g:j2 a b≠0:=by
  have:=fG (a:=a) (.inr e);unfold j2;split <;> ext
 have i:Sz 9000 (j2 a b):=by
  have q:Sz 9000 (Int.gcd a b:Int):=by rw[Int.gcd_comm];exact Sz.gcdL sb e
  unfold j2
  split
  .exact Sz.neg q
  .exact q
 have dv:∀ z,mO z (j2 a b):=λz=>xf g i ⋯
 exact⟨dv _,dv _,h⟩
theorem DE:∀ e R,dG e R->mG {nx:=λ_=>R (.t .non),rt:=R} (aE ["one","other"] e):=by
 rintro e R ⟨⟨a,b⟩,⟨c,d⟩,rfl,⟨e,g⟩,⟨i,j⟩,h⟩;dsimp only at e g i j;show mG _ [some (.t (.tup [.int a,.int b])),some (.t (.tup [.int c,.int d]))]
 delta mG
 symm;exact⟨bF e j ⋯ ⋯,bF i g ⋯ ⋯,h⟩
def fP (p:Pt):aT:=((p.1,1),(p.2,1))
def af (s:aT):Hf:=(s.1.1*s.2.2,s.2.1*s.1.2,s.1.2*s.2.2)
def OY (u v:Hf):Hf:=(u.2.1*v.2.2-u.2.2*v.2.1,u.2.2*v.1-u.1*v.2.2,u.2.1*v.1-u.1*v.2.1)
def N7 (a b c:aT):Int:=a6 (OY (af a) (af b)) c
def Pn (p q r:Pt):Int:=N7 (fP p) (fP q) (fP r)
theorem LJ (p q r:Pt):Pn p q r=(p.2-q.2)*r.1+(q.1-p.1)*r.2-(p.2*q.1-p.1*q.2):=by
 unfold Pn N7 a6 OY af fP;simp only[mul_one,Int.one_mul]
def jI:aN:=λe R=>∃ p:Pt,e=[.t (aW p)]/\R (.t (spT (fP p)))
def bW:aN:=λe R=>∃ s:aT,e=[.t (spT s)]/\eH 30000 s/\R (.t (bd (af s)))
def sL:aN:=λe R=>∃ a b c:aT,e=[.t (spT a),.t (spT b),.t (spT c)]/\eH 30000 a/\eH 30000 b/\eH 30000 c/\R (.t (.int (N7 a b c)))
def iX:WS:=
 (bw (bX (ac (bX (ac (ao aK (ae 0) (wC (.int 0))) (ac (wC (.int 1)) ap))) (ac (bX (ac (ao aK (ae 0) (wC (.int 1))) (ac (wC (.int 1)) ap))) ap))))
def fB:WS:=
 (bw (bX (ac (aV (ao aK (ao aK (ae 0) (wC (.int 0))) (wC (.int 0))) (ao aK (ao aK (ae 0) (wC (.int 1))) (wC (.int 1)))) (ac (aV (ao aK (ao aK (ae 0) (wC (.int 1))) (wC (.int 0))) (ao aK (ao aK (ae 0) (wC (.int 0))) (wC (.int 1)))) (ac (aw cJ (ac (ae 0) ap)) ap)))))
def sZ:WS:=
 (aC (aG 3 (aw bW (ac (ae 0) ap)))
 (aC (aG 4 (aw bW (ac (ae 1) ap)))
 (aC (aG 5 (cL (aV (ao aK (ae 3) (wC (.int 1))) (ao aK (ae 4) (wC (.int 2)))) (aV (ao aK (ae 3) (wC (.int 2))) (ao aK (ae 4) (wC (.int 1))))))
 (aC (aG 6 (cL (aV (ao aK (ae 3) (wC (.int 2))) (ao aK (ae 4) (wC (.int 0)))) (aV (ao aK (ae 3) (wC (.int 0))) (ao aK (ae 4) (wC (.int 2))))))
 (aC (aG 7 (cL (aV (ao aK (ae 3) (wC (.int 1))) (ao aK (ae 4) (wC (.int 0)))) (aV (ao aK (ae 3) (wC (.int 0))) (ao aK (ae 4) (wC (.int 1))))))
 (bw (aw dw (ac (bX (ac (ae 5) (ac (ae 6) (ac (ae 7) ap)))) (ac (ae 2) ap)))))))))
theorem vQ:∀ e R,jI e R->iX {nx:=λ_=>R (.t .non),rt:=R} (aE ["point"] e):=by
 rintro e R ⟨⟨x,y⟩,rfl,h⟩;show iX _ [some (.t (.tup [.int x,.int y]))]
 delta iX
 walk_at"go";exact h
theorem sd:∀ e R,bW e R->fB {nx:=λ_=>R (.t .non),rt:=R} (aE ["spot"] e):=by
 rintro e R ⟨⟨⟨x,p⟩,y,q⟩,rfl,⟨⟨z,e⟩,g,i⟩,h⟩;dsimp only at z e g i;show fB _ [some (.t (.tup [.tup [.int x,.int p],.tup [.int y,.int q]]))]
 delta fB
 symm;refine⟨bF z i ⋯ ⋯,bF g e ⋯ ⋯,((x,p),(y,q)),rfl,⟨⟨z.mono ⋯,e.mono ⋯⟩,g.mono ⋯,i.mono ⋯⟩,?_⟩
 symm;exact h
theorem GK:∀ o R,sL o R->sZ {nx:=λ_=>R (.t .non),rt:=R} (aE ["one","other","third","here","there","a","b","c"] o):=by
 rintro o R ⟨s,t,u,rfl,z,e,n,h⟩;show sZ _ [some (.t (spT s)),some (.t (spT t)),some (.t (spT u)),none,none,none,none,none]
 delta sZ
 have k:dh 60000 (af s):=⟨(Sz.mul z.1.1 z.2.2).mono ⋯,(Sz.mul z.2.1 z.1.2).mono ⋯,(Sz.mul z.1.2 z.2.2).mono ⋯⟩
 have o:dh 60000 (af t):=⟨(Sz.mul e.1.1 e.2.2).mono ⋯,(Sz.mul e.2.1 e.1.2).mono ⋯,(Sz.mul e.1.2 e.2.2).mono ⋯⟩
 symm;refine⟨s,rfl,z,?_⟩;obtain⟨g,i,j⟩:=k;generalize z:af s=hs at g i j ⊢;obtain⟨x,y,p⟩:=hs;dsimp only at g i j;symm;refine⟨t,rfl,e,?_⟩;obtain⟨e,k,m⟩:=o;generalize B:af t=ht at e k m ⊢;obtain⟨q,v,o⟩:=ht;dsimp only at e k m;symm;refine⟨bF i m ⋯ ⋯,bF j k ⋯ ⋯,bF j e ⋯ ⋯,bF g m ⋯ ⋯,bF i e ⋯ ⋯,bF g k ⋯ ⋯,(y*o-p*v,p*q-x*o,y*q-x*v),u,rfl,⟨by walk_at"szk",by walk_at"szk",by walk_at"szk"⟩,⟨⟨n.1.1.mono ⋯,n.1.2.mono ⋯⟩,n.2.1.mono ⋯,n.2.2.mono ⋯⟩,?_⟩
 unfold N7 OY at h;rw[z,B]at h;exact h
def cr (p q r:Pt):Int:=(q.1-p.1)*(r.2-p.2)-(q.2-p.2)*(r.1-p.1)
def fn (m p:Pt):Int:=m.1*p.1+m.2*p.2
theorem LI (p q r:Pt):Pn p q r=cr p q r:=by
 rw[LJ];unfold cr;grind
theorem J8 (a b p q:Pt):cr a p q=cr a b q-cr a b p+cr b p q:=by unfold cr;grind
theorem J9 (m a b p q:Pt):(fn m b-fn m a)*cr a p q=(fn m p-fn m a)*cr a b q-(fn m q-fn m a)*cr a b p:=by unfold cr fn;grind
theorem BV (m z t p q:Pt):(fn m t-fn m z)*cr t p q=(fn m p-fn m t)*cr z t q-(fn m q-fn m t)*cr z t p:=by unfold cr fn;grind
theorem BU (m a b c p:Pt):(fn m c-fn m b)*cr a b p=(fn m p-fn m b)*cr a b c+(fn m b-fn m a)*cr b c p:=by unfold cr fn;grind
theorem BS (m a b v u w:Pt):(fn m b-fn m v)*cr u w a+(fn m v-fn m a)*cr u w b=(fn m b-fn m a)*cr u w v-fn m (w.1-u.1,w.2-u.2)*cr a b v:=by unfold cr fn;grind
theorem qN (a b:Pt):cr a b b=0:=by unfold cr;grind
theorem tO (a b:Pt):cr a b a=0:=by unfold cr;grind
theorem FB (a b q:Pt):cr b a q=-cr a b q:=by unfold cr;grind
theorem lg {f x:Int}(g:0<f)(h:0<=f*x):0<=x:=by
 obtain e|e:=lt_or_le x 0
 .have:=mul_neg_of_pos_of_neg g e;ext
 .exact e
theorem vP {a b:Int}(h:a<=0)(e:0<=b):a*b<=0:=mul_nonpos_of_nonpos_of_nonneg h e
def uZ:List Pt->Prop
 |c::b::a::r=>0<cr a b c/\uZ (b::a::r)
 |_=>True
def Lf (q:Pt):List Pt->Prop
 |b::a::r=>0<=cr a b q/\Lf q (a::r)
 |_=>True
def Dn (m:Pt)(k:List Pt):Prop:=k.Pairwise λb a=>fn m a<fn m b
def popTo (p:Pt):List Pt->List Pt
 |b::a::r=>if cr a b p<=0 then popTo p (a::r) else b::a::r
 |k=>k
def qJ (ps:List Pt):List Pt:=ps.foldl (λk p=>p::popTo p k) []
theorem pG:∀ {b:Pt}{k:List Pt},uZ (b::k)->uZ k
 |_,[],_=>trivial
 |_,[_],_=>trivial
 |_,_::_::_,h=>h.2
theorem Gg:∀ {q b:Pt}{k:List Pt},Lf q (b::k)->Lf q k
 |_,_,[],_=>trivial
 |_,_,_::_,h=>h.2
structure Off (m:Pt) (D:List Pt) (p p0:Pt) (t:Pt) (k:List Pt):Prop where
 dn:Dn m (t::k)
 cv:uZ (t::k)
 lf:∀ q∈D,Lf q (t::k)
 sb:∀ x∈t::k,x∈D
 ls:(t::k).getLast?=some p0
 ne:∀ q∈D,fn m t<=fn m q->0<=cr t p q
theorem Gz {m p j b a:Pt}{D r:List Pt}(o:∀ q∈D,fn m q<fn m p)(O:Off m D p j b (a::r))(g:cr a b p<=0):Off m D p j a r:=by
 have h:fn m a<fn m b:=(pairwise_cons.mp O.dn).1 a mem_cons_self;refine⟨(pairwise_cons.mp O.dn).2,pG O.cv,λq e=>Gg (O.lf q e),λx h=>O.sb x (mem_cons_of_mem _ h),by simpa using O.ls,λq e h=>?_⟩
 have k:0<=cr a b q:=(O.lf q e).1
 obtain h|h:=lt_or_le (fn m q) (fn m b)
 .have n:fn m a<fn m p:=o a (O.sb a (by simp))
  have i:=J9 m a b p q;have n:0<=(fn m p-fn m a)*cr a b q:=mul_nonneg ⋯ k
  have k:(fn m q-fn m a)*cr a b p<=0:=mul_nonpos_of_nonneg_of_nonpos ⋯ g
  exact lg (f:=fn m b-fn m a) ⋯ ⋯
 .have k:=O.ne q e h;have i:=J8 a b p q;ext
theorem DX (i:∀ q∈D,fn m q<fn m p):∀ (k:List Pt) (t:Pt),Off m D p j t k →
  ∃ t' g,popTo p (t::k)=t'::g/\Off m D p j t' g/\∀ z r,g=z::r->0<cr z t' p
 | [],t,O=>⟨t,[],rfl,O,λz r e=>nomatch e⟩
 |a::r,t,O=>by
  by_cases h:cr a t p<=0
  .obtain⟨t',g,e,o,n⟩:=DX i r a (Gz i O h);exact⟨t',g,by simp only[popTo,if_pos h];exact e,o,n⟩
  .refine⟨t,a::r,by simp only[popTo,if_neg h],O,λz g e=>?_⟩
   cases e;ext
theorem xQ {m p:Pt}:∀ (k:List Pt) (t:Pt),Dn m (t::k)->uZ (t::k)->(∀ x∈t::k,fn m x<fn m p)->(∀ z r,k=z::r->0<=cr z t p)->Lf p (t::k)
 | [],t,_,_,_,_=>trivial
 |z::r,t,hd,j,n,h=>by
  refine⟨h z r rfl,xQ r z (pairwise_cons.mp hd).2 (pG j) (λx g=>n x (mem_cons_of_mem _ g)) λy o e=>?_⟩;subst e;have q:0<cr y z t:=j.1;have g:fn m z<fn m t:=(pairwise_cons.mp hd).1 z mem_cons_self;have g:fn m y<fn m z:=(pairwise_cons.mp (pairwise_cons.mp hd).2).1 y mem_cons_self;have g:=n z (by simp)
  have i:=BU m y z t p;have g:0<=(fn m p-fn m z)*cr y z t:=mul_nonneg ⋯ ⋯
  have g:0<=(fn m z-fn m y)*cr z t p:=mul_nonneg ⋯ (h z (y::o) rfl)
  exact lg (f:=fn m t-fn m z) ⋯ ⋯
structure Ch (m:Pt) (D:List Pt) (p0 t:Pt) (k:List Pt):Prop where
 dn:Dn m (t::k)
 cv:uZ (t::k)
 lf:∀ q∈D,Lf q (t::k)
 sb:∀ x∈t::k,x∈D
 ls:(t::k).getLast?=some p0
 hi:∀ q∈D,q≠t->fn m q<fn m t
 lo:∀ q∈D,fn m p0<=fn m q
theorem Fz {m p v t:Pt}{D k:List Pt}(C:Ch m D v t k)(y:∀ q∈D,fn m q<fn m p):∃ B,popTo p (t::k)=B/\Ch m (D++[p]) v p B:=by
 have O:Off m D p v t k:=⟨C.dn,C.cv,C.lf,C.sb,C.ls,λq g h=>by
  by_cases e:q=t
  .subst e;rw[tO];exact Int.le_refl _
  .have:=C.hi q g e;ext⟩
 obtain⟨j,B,e,o,F⟩:=DX y k t O;have E:∀ q∈D,0<=cr j p q:=λq g=>by
  obtain h|h:=lt_or_le (fn m q) (fn m j)
  .cases B with
   |nil=>
    have:j=v:=by simpa using o.ls
    subst this;have:=C.lo q g;ext
   |cons z r=>
    have hz:=F z r rfl;have n:fn m z<fn m j:=(pairwise_cons.mp o.dn).1 z mem_cons_self;have n:0<=cr z j q:=(o.lf q g).1;have G:=y j (o.sb j (by simp))
    have i:=BV m z j p q;have G:0<=(fn m p-fn m j)*cr z j q:=mul_nonneg ⋯ n
    have n:(fn m q-fn m j)*cr z j p<=0:=vP ⋯ ⋯
    exact lg (f:=fn m j-fn m z) ⋯ ⋯
  .exact o.ne q g h
 refine⟨_,e,pairwise_cons.mpr ⟨λx n=>y x (o.sb x n),o.dn⟩,?_,λq g=>?_,λx n=>?_,?_,λq g G=>?_,λq g=>?_⟩
 .cases B with
  |nil=>trivial
  |cons z r=>exact⟨F z r rfl,o.cv⟩
 .rcases mem_append.mp g with g|g
  .exact⟨E q g,o.lf q g⟩
  .obtain rfl:=mem_singleton.mp g;refine⟨by rw[qN];exact Int.le_refl _,xQ (m:=m) B j o.dn o.cv (λx n=>y x (o.sb x n)) λz r e=>le_of_lt (F z r e)⟩
 .rcases mem_cons.mp n with rfl|n
  .simp
  .exact mem_append_left _ (o.sb x n)
 .have:=o.ls;simpa using this
 .rcases mem_append.mp g with g|g
  .exact y q g
  .exact absurd (mem_singleton.mp g) G
 .rcases mem_append.mp g with g|g
  .exact C.lo q g
  .obtain rfl:=mem_singleton.mp g;have hh:v∈D:=o.sb v (List.mem_of_getLast? o.ls);exact le_of_lt (y v hh)
theorem wX:∀ (l D:List Pt) (t:Pt) (k:List Pt),Ch m D j t k->(D++l).Pairwise (λa b=>fn m a<fn m b) →
  ∃ t' g,l.foldl (λk p=>p::popTo p k) (t::k)=t'::g/\Ch m (D++l) j t' g/\(l≠[]->l.getLast?=some t')/\(l=[]->t'=t)
 | [],D,t,k,C,_=>⟨t,k,rfl,by simpa using C,λh=>absurd rfl h,λ_=>rfl⟩
 |p::l,D,t,k,C,i=>by
  have B:∀ q∈D,fn m q<fn m p:=λq n=>(List.pairwise_append.mp i).2.2 q n p mem_cons_self;obtain⟨g,e,n⟩:=Fz C B;obtain⟨t',B,v,o,y,z⟩:=wX l (D++[p]) p g n (by simpa using i)
  refine⟨t',B,by rw[List.foldl_cons,e];exact v,by simpa using o,λ_=>?_,λh=>nomatch h⟩
  cases l with
  |nil=>rw[z rfl];rfl
  |cons x l=>simpa using y (by simp)
theorem Ax (hs:(p::l).Pairwise (λa b=>fn m a<fn m b)):∃ t k,qJ (p::l)=t::k/\Ch m (p::l) p t k/\(p::l).getLast?=some t:=by
 have i:Ch m [p] p p []:=⟨List.pairwise_singleton _ _,trivial,λq h=>trivial,λx g=>g,rfl,λq h g=>absurd (mem_singleton.mp h) g,λq h=>by rw[mem_singleton.mp h];exact Int.le_refl _⟩
 obtain⟨t,k,e,C,h,g⟩:=wX l [p] p [] i hs;refine⟨t,k,e,C,?_⟩
 cases l with
 |nil=>rw[g rfl];rfl
 |cons x l=>simpa using h (by simp)
theorem J7 (m a v u w:Pt):(fn m a-fn m v)*cr u v w=(fn m w-fn m v)*cr u v a-(fn m v-fn m u)*cr v w a:=by unfold cr fn;grind
structure wK (m:Pt) (S C:List Pt):Prop where
 left:∀ i (h:i+1<C.length),∀ q∈S,0<=cr C[i] C[i+1] q
 conv:∀ i (h:i+2<C.length),0<cr C[i] C[i+1] C[i+2]
 up:∀ i j (hi:i<C.length) (hj:j<C.length),i<j->fn m C[i]<fn m C[j]
 sub:∀ x∈C,x∈S
 lo:∀ q∈S,∀ h:0<C.length,fn m C[0]<=fn m q
 hi:∀ q∈S,∀ h:C.length-1<C.length,fn m q<=fn m C[C.length-1]
theorem Cf:∀ (k:List Pt),Lf q k->∀ i (h:i+1<k.length),0<=cr k[i+1] k[i] q
 | [],_,i,h=>by simp at h
 | [a],_,i,h=>by simp at h
 |b::a::r,e,0,h=>e.1
 |b::a::r,e,i+1,h=>Cf (a::r) e.2 i (by simpa using h)
theorem tN:∀ (k:List Pt),uZ k->∀ i (h:i+2<k.length),0<cr k[i+2] k[i+1] k[i]
 | [],_,i,h=>by simp at h
 | [a],_,i,h=>by simp at h
 | [a,b],_,i,h=>absurd h (by simp only[length_cons,length_nil];ext)
 |c::b::a::r,e,0,h=>e.1
 |c::b::a::r,e,i+1,h=>tN (b::a::r) e.2 i (by simpa using h)
theorem tL {m p t:Pt}{S k:List Pt}(C:Ch m S p t k):wK m S (t::k).reverse:=by
 have g:∀ i (h:i<(t::k).reverse.length),(t::k).reverse[i]=(t::k)[(t::k).length-1-i]'(by simp at h ⊢;ext):=λi h=>List.getElem_reverse h
 have o:=pairwise_iff_getElem.mp C.dn;refine⟨λi h q n=>?_,λi h=>?_,λi j hi y v=>?_,λx v=>C.sb x (List.mem_reverse.mp v),λq n h=>?_,λq n h=>?_⟩
 .rw[g,g];simp only[length_reverse]at h;have:=Cf _ (C.lf q n) ((t::k).length-1-(i+1)) ⋯
  have e:(t::k).length-1-(i+1)+1=(t::k).length-1-i:=⋯
  simpa only [e] using this
 .rw[g,g,g];simp only[length_reverse]at h;have:=tN _ C.cv ((t::k).length-1-(i+2)) ⋯
  have e:(t::k).length-1-(i+2)+1=(t::k).length-1-(i+1):=⋯
  have v:(t::k).length-1-(i+2)+2=(t::k).length-1-i:=⋯
  simpa only [e,v] using this
 .rw[g,g];simp only[length_reverse]at hi y;exact o _ _ ⋯ ⋯ ⋯
 .have e:(t::k).reverse[0]=p:=by
   have o:=C.ls;rw[<-head?_reverse]at o;rw[head?_eq_getElem?,getElem?_eq_getElem h]at o;exact Option.some.inj o
  rw[e];exact C.lo q n
 .have e:(t::k).reverse[(t::k).reverse.length-1]=t:=by
   rw[g];simp
  rw[e]
  by_cases g:q=t
  .rw[g];exact Int.le_refl _
  .exact le_of_lt (C.hi q n g)
theorem strict {m m':Pt}{S C C':List Pt}(A:wK m S C)(A':wK m' S C')(hc:1<C.length)(hc':1<C'.length)(e1:C'[0]=C[C.length-1])(e2:C'[C'.length-1]=C[0])
  (inj:∀ a∈S,∀ b∈S,fn m a=fn m b->a=b) {i:Nat} (hi:i+1<C.length) {v:Pt} (hv:v∈C\/v∈C') (h1:v≠C[i]) (h2:v≠C[i+1]):0<cr C[i] C[i+1] v:=by
 have hvS:v∈S:=by
  obtain h|h:=hv
  .exact A.sub v h
  .exact A'.sub v h
 have haS:C[i]∈S:=A.sub _ (getElem_mem _);have hbS:C[i+1]∈S:=A.sub _ (getElem_mem _);have hge:=A.left i hi v hvS;have hab:=A.up i (i+1) ⋯ hi ⋯
 obtain h|h:=Int.lt_or_eq_of_le hge
 .exact h
 exfalso;have h0:cr C[i] C[i+1] v=0:=h.symm;have na:fn m v≠fn m C[i]:=λe=>h1 (inj _ hvS _ haS e);have nb:fn m v≠fn m C[i+1]:=λe=>h2 (inj _ hvS _ hbS e)
 obtain hgt|hle:=lt_or_le (fn m C[i+1]) (fn m v)
 .rcases lt_or_ge (i+2) C.length with hl|hl
  .have c1:=A.conv i hl
   have c2:=A.left (i+1) hl v hvS;have id:=BU m C[i] C[i+1] C[i+2] v;rw[h0,mul_zero]at id;have g1:0<(fn m v-fn m C[i+1])*cr C[i] C[i+1] C[i+2]:=mul_pos ⋯ c1
   have g2:0<=(fn m C[i+1]-fn m C[i])*cr C[i+1] C[i+2] v:=mul_nonneg ⋯ c2
   ext
  .have:=A.hi v hvS ⋯
   have e:C.length-1=i+1:=⋯
   simp only[e]at this;ext
 obtain hlt|hge2:=lt_or_le (fn m v) (fn m C[i])
 .cases i with
  |zero=>have:=A.lo v hvS ⋯;ext
  |succ i=>
   have c1:=A.conv i ⋯
   have c2:=A.left i ⋯ v hvS
   have hzt:=A.up i (i+1) ⋯ ⋯ ⋯
   have id:=BV m C[i] C[i+1] C[i+1+1] v;rw[h0,mul_zero]at id;have g1:0<=(fn m C[i+1+1]-fn m C[i+1])*cr C[i] C[i+1] v:=mul_nonneg ⋯ c2
   have g2:(fn m v-fn m C[i+1])*cr C[i] C[i+1] C[i+1+1]<0:=Int.mul_neg_of_neg_of_pos ⋯ c1
   ext
 have hav:fn m C[i]<fn m v:=⋯
 have hvb:fn m v<fn m C[i+1]:=⋯
 obtain hv|hv:=hv
 .obtain⟨j,hj,rfl⟩:=getElem_of_mem hv
  obtain h|h|h:=lt_trichotomy j i
  .have:=A.up j i hj ⋯ h;ext
  .subst h;ext
  .rcases lt_or_ge (i+1) j with h'|h'
   .have:=A.up (i+1) j hi hj h';ext
   .have:j=i+1:=⋯
    subst this;ext
 .obtain⟨j,hj,rfl⟩:=getElem_of_mem hv;have hj0:j≠0:=λe=>by
   subst e;rw[e1]at hvb;have:=A.hi C[i+1] hbS ⋯
   ext
  have hjl:j≠C'.length-1:=λe=>by
   subst e;rw[e2]at hav;have:=A.lo C[i] haS ⋯
   ext
  obtain⟨j,rfl⟩:∃ j',j=j'+1:=⟨j-1,⋯⟩
  have hl:j+2<C'.length:=⋯
  have cv:=A'.conv j hl
  have l1:=A'.left j ⋯ C[i] haS
  have l2:=A'.left j ⋯ C[i+1] hbS
  have l3:=A'.left (j+1) hl C[i] haS;have l4:=A'.left (j+1) hl C[i+1] hbS;have i1:=BS m C[i] C[i+1] C'[j+1] C'[j] C'[j+1];have i2:=BS m C[i] C[i+1] C'[j+1] C'[j+1] C'[j+2];rw[h0,qN,mul_zero,mul_zero]at i1;rw[h0,tO,mul_zero,mul_zero]at i2;have g1:0<=(fn m C[i+1]-fn m C'[j+1])*cr C'[j] C'[j+1] C[i]:=mul_nonneg ⋯ l1
  have g2:0<=(fn m C'[j+1]-fn m C[i])*cr C'[j] C'[j+1] C[i+1]:=mul_nonneg ⋯ l2
  have g3:0<=(fn m C[i+1]-fn m C'[j+1])*cr C'[j+1] C'[j+2] C[i]:=mul_nonneg ⋯ l3
  have g4:0<=(fn m C'[j+1]-fn m C[i])*cr C'[j+1] C'[j+2] C[i+1]:=mul_nonneg ⋯ l4
  have z1:cr C'[j] C'[j+1] C[i]=0:=by
   have:(fn m C[i+1]-fn m C'[j+1])*cr C'[j] C'[j+1] C[i]=0:=⋯
   obtain h|h:=mul_eq_zero.mp this
   .ext
   .exact h
  have z2:cr C'[j+1] C'[j+2] C[i]=0:=by
   have:(fn m C[i+1]-fn m C'[j+1])*cr C'[j+1] C'[j+2] C[i]=0:=⋯
   obtain h|h:=mul_eq_zero.mp this
   .ext
   .exact h
  have i3:=J7 m C[i] C'[j+1] C'[j] C'[j+2];rw[z1,z2,mul_zero,mul_zero]at i3
  obtain h | h:=mul_eq_zero.mp (show(fn m C[i]-fn m C'[j+1])*cr C'[j] C'[j+1] C'[j+2]=0 by ext)
  .ext
  .ext
def L8 (H:List Pt)(k:Nat)(e:k<H.length):Pt:=if h:k=0 then H[H.length-1] else H[k-1]
structure Mg (S H:List Pt):Prop where
 left:∀ k (hk:k<H.length),∀ q∈S,0<=cr (L8 H k hk) H[k] q
 strict:∀ k (hk:k<H.length),∀ v∈H,v≠L8 H k hk->v≠H[k]->0<cr (L8 H k hk) H[k] v
 sub:∀ x∈H,x∈S
 fst:∀ k (hk:k<H.length),0<k->H[k]≠H[0]
 two:∀ h:H.length=2,∀ q∈S,cr H[0] H[1] q=0/\∃ m:Pt,fn m H[0]<=fn m q/\fn m q<=fn m H[1]/\S.Pairwise λa b=>fn m a<fn m b
 len:2<=H.length
def lS (S:List Pt):List Pt:=(qJ S).reverse.dropLast++(qJ S.reverse).reverse.dropLast
def neg (m:Pt):Pt:=(-m.1,-m.2)
theorem qX (m p:Pt):fn (neg m) p=-fn m p:=by unfold fn neg;grind
theorem Ee (hs:(X::J::l).Pairwise (λa b=>fn m a<fn m b)):Mg (X::J::l) (lS (X::J::l))/\∀ h:0<(lS (X::J::l)).length,(lS (X::J::l))[0]=X:=by
 obtain⟨t,k,e,C,n⟩:=Ax hs;generalize F:X::J::l=S at *;have g:S.reverse.Pairwise (λa b=>fn (neg m) a<fn (neg m) b):=by
  rw[List.pairwise_reverse];exact hs.imp λh=>by rw[qX,qX];ext
 obtain⟨z,r,H⟩:∃ z r,S.reverse=z::r:=by
  cases h:S.reverse with
  |nil=>rw[List.reverse_eq_nil_iff]at h;rw[h]at F;exact nomatch F
  |cons z r=>exact⟨z,r,rfl⟩
 have hz:z=t:=by
  have I:S.reverse.head?=some z:=by rw[H];rfl
  rw[head?_reverse,n]at I;exact(Option.some.inj I).symm
 subst hz;rw[H]at g;obtain⟨p,O,Z,o,n⟩:=Ax g;have g:p=X:=by
  rw[<-H,List.getLast?_reverse,<-F]at n;exact(Option.some.inj n).symm
 subst g;have A:=tL C;have A':wK (neg m) S (p::O).reverse:=by
  have B:=tL o;have g:∀ q,q∈z::r↔q∈S:=λq=>by rw[<-H];exact List.mem_reverse
  exact⟨λi h q D=>B.left i h q ((g q).mpr D),B.conv,B.up,λx hx=>(g x).mp (B.sub x hx),λq D h=>B.lo q ((g q).mpr D) h,λq D h=>B.hi q ((g q).mpr D) h⟩
 have n:(z::k).reverse.head?=some p:=by rw[head?_reverse];exact C.ls
 have y:(p::O).reverse.head?=some z:=by rw[head?_reverse];exact o.ls
 have o:(z::k).reverse.getLast?=some z:=by rw[List.getLast?_reverse];rfl
 have E:(p::O).reverse.getLast?=some p:=by rw[List.getLast?_reverse];rfl
 have g:z∈S:=C.sb z mem_cons_self;have g:p∈S:=by rw[<-F];exact mem_cons_self
 have inj:∀ a∈S,∀ b∈S,fn m a=fn m b->a=b:=λa P b Y M=>by
  obtain⟨i,hi,rfl⟩:=getElem_of_mem P;obtain⟨j,g,rfl⟩:=getElem_of_mem Y;have G:=pairwise_iff_getElem.mp hs
  obtain h|h|h:=lt_trichotomy i j
  .have:=G i j hi g h;ext
  .subst h;rfl
  .have:=G j i g hi h;ext
 have G:p≠z:=λh=>by
  have I:J∈S:=by rw[<-F];simp
  have Q:fn m p<fn m J:=by rw[<-F]at hs;exact(pairwise_cons.mp hs).1 J mem_cons_self
  by_cases R:J=z
  .rw[R,<-h]at Q;ext
  .have:=C.hi J I R;rw[<-h]at this;ext
 have g:lS S=(z::k).reverse.dropLast++(p::O).reverse.dropLast:=by unfold lS;rw[e,H,Z]
 rw[g];generalize (z::k).reverse=L at *;generalize (p::O).reverse=U at *;have g:∀ {l:List Pt}{a b:Pt},l.head?=some a->l.getLast?=some b->a≠b->1<l.length:=λ{l a b} I Q R=>by
  match l with
  | []=>simp at I
  | [x]=>simp at I Q;exact absurd (I.symm.trans Q) R
  |_::_::_=>simp
 have hL:=g n o G;have hU:=g y E (Ne.symm G);have g:L[0]=p:=by rw[head?_eq_getElem?,getElem?_eq_getElem ⋯]at n;exact Option.some.inj n
 have G:U[0]=z:=by rw[head?_eq_getElem?,getElem?_eq_getElem ⋯]at y;exact Option.some.inj y
 have F:L[L.length-1]=z:=by rw[List.getLast?_eq_getElem?,getElem?_eq_getElem ⋯]at o;exact Option.some.inj o
 have H:U[U.length-1]=p:=by rw[List.getLast?_eq_getElem?,getElem?_eq_getElem ⋯]at E;exact Option.some.inj E
 have inj':∀ a∈S,∀ b∈S,fn (neg m) a=fn (neg m) b->a=b:=λa P b Y M=>inj a P b Y (by rw[qX,qX]at M;ext)
 have n:(L.dropLast++U.dropLast).length=L.length-1+(U.length-1):=by simp
 have o:∀ i (h:i<(L.dropLast++U.dropLast).length) (E:i<L.length-1),(L.dropLast++U.dropLast)[i]=L[i]:=λi h E=>by
  rw[getElem_append_left (by simpa using E),List.getElem_dropLast]
 have y:∀ i (h:i<(L.dropLast++U.dropLast).length) (E:L.length-1<=i),(L.dropLast++U.dropLast)[i]=U[i-(L.length-1)]'(by rw[n]at h;ext):=λi h E=>by
  rw[List.getElem_append_right (by simpa using E),List.getElem_dropLast]
  simp
 have Z:∀ v∈L.dropLast++U.dropLast,v∈L\/v∈U:=λv hv=>by
  obtain h|h:=mem_append.mp hv
  .exact .inl ((List.dropLast_sublist _).subset h)
  .exact .inr ((List.dropLast_sublist _).subset h)
 have Y:∀ k (M:k<(L.dropLast++U.dropLast).length),(∃ i,∃ hi:i+1<L.length,L8 (L.dropLast++U.dropLast) k M=L[i]/\(L.dropLast++U.dropLast)[k]=L[i+1]) ∨
   (∃ i,∃ hi:i+1<U.length,L8 (L.dropLast++U.dropLast) k M=U[i]/\(L.dropLast++U.dropLast)[k]=U[i+1]):=λk M=>by
  unfold L8
  by_cases h0:k=0
  .subst h0
   right
   refine⟨U.length-2,⋯,?_,?_⟩
   .rw[dif_pos rfl];simp only[n];rw[y _ _ ⋯]
    congr 1;ext
   .rw[o _ _ ⋯,g,<-H]
    congr 1;ext
  .rw[dif_neg h0]
   obtain h|h:=lt_or_ge (L.length-1) k
   .right
    refine⟨k-1-(L.length-1),⋯,?_,?_⟩
    .rw[y _ _ ⋯]
    .rw[y _ _ ⋯]
     congr 1;ext
   .left
    refine⟨k-1,⋯,?_,?_⟩
    .rw[o _ _ ⋯]
    .rcases lt_or_ge k (L.length-1) with E|E
     .rw[o _ _ E]
      congr 1;ext
     .have:k=L.length-1:=⋯
      subst this;rw[y _ _ ⋯]
      have O:L.length-1-(L.length-1)=0:=⋯
      have P:L.length-1-1+1=L.length-1:=⋯
      simp only[O,P];rw[G,F]
 refine⟨⟨λk M q D=>?_,λk M v hv I Q=>?_,λx hx=>?_,λk M h0=>?_,λQ q D=>?_,by rw[n];ext⟩,λh=>by rw[o _ _ ⋯,g]⟩
 .rcases Y k M with ⟨i,hi,O,P⟩|⟨i,hi,O,P⟩
  .rw[O,P];exact A.left i hi q D
  .rw[O,P];exact A'.left i hi q D
 .rcases Y k M with ⟨i,hi,O,P⟩|⟨i,hi,O,P⟩
  .rw[O,P];exact strict A A' hL hU (by rw[G,F]) (by rw[H,g]) inj hi (Z v hv) (by rw[<-O];exact I) (by rw[<-P];exact Q)
  .rw[O,P];exact strict A' A hU hL (by rw[g,H]) (by rw[F,G]) inj' hi ((Z v hv).symm) (by rw[<-O];exact I) (by rw[<-P];exact Q)
 .rcases Z x hx with h|h
  .exact A.sub x h
  .exact A'.sub x h
 .rw[o 0 ⋯ ⋯,g]
  obtain E|E:=lt_or_ge k (L.length-1)
  .rw[o _ _ E];intro R;have:=A.up 0 k ⋯ ⋯ h0
   rw[g,R]at this;ext
  .rw[y _ _ E];intro R;have:=A'.up (k-(L.length-1)) (U.length-1) (by rw[n]at M;ext) ⋯ (by rw[n]at M;ext)
   rw[H,R]at this;ext
 .have n:L.length=2:=⋯
  have E:U.length=2:=⋯
  have M:(L.dropLast++U.dropLast)[0]=p:=by rw[o _ _ ⋯,g]
  have O:(L.dropLast++U.dropLast)[1]=z:=by
   rw[y _ _ ⋯]
   simp only[n];exact G
  have y:=A.left 0 ⋯ q D
  have I:=A'.left 0 ⋯ q D
  have o:L[1]=z:=by simpa only [n] using F
  have n:U[1]=p:=by simpa only [E] using H
  simp only[Nat.zero_add]at y I;rw[g,o]at y;rw[G,n,FB]at I;rw[M,O];refine⟨⋯,m,?_,?_,hs⟩
  .have:=A.lo q D ⋯;rwa [g]at this
  .have:=A.hi q D ⋯;rwa [F]at this
def ck (p:Pt):T:=spT (fP p)
theorem kg (p:Pt):ke (ck p)=true:=rfl
theorem wD (h:SzF n p) (e:1<=n):eH n (fP p):=⟨⟨h.1,⟨by show 1<2 ^ n;exact Nat.one_lt_two_pow ⋯⟩⟩,h.2,⟨by show 1<2 ^ n;exact Nat.one_lt_two_pow ⋯⟩⟩
theorem _root_.DL.SzF.mono3 (h:SzF n p)(l:n<=m):SzF m p:=⟨h.1.mono l,h.2.mono l⟩
def kx:aN:=λg R=>∃ e:List Pt,g=[.t (.lst (e.map ck))]/\e.length<=1000/\(∀ p∈e,SzF 120 p)/\R (.ol ((qJ e).reverse.map ck))
def mH:WS:=
 (aC (aG 1 (iF ap))
 (bZ (jS (cj (ae 0)) (aH 2) (bZ (oH (LR (js (wB (EC (eh cZ (ac (ae 1) ap)) (wC (.int 1)))) (wB (PJ (aw sL (ac (ao aK (ae 1) (uY ie (wC (.int 2)))) (ac (ao aK (ae 1) (uY ie (wC (.int 1)))) (ac (ae 2) ap)))) (wC (.int 0)))))) (HG 1))
 (eO 1 (ae 2))))
 (iG 1)))
theorem xL:∀ k:List Pt,∀ x∈popTo p k,x∈k
 | [],x,h=>h
 | [b],x,h=>h
 |b::a::r,x,h=>by
  simp only[popTo]at h
  split at h
  .exact mem_cons_of_mem _ (xL (a::r) x h)
  .exact h
theorem sg:∀ k:List Pt,(popTo p k).length<=k.length
 | []=>le_refl _
 | [b]=>le_refl _
 |b::a::r=>by
  simp only[popTo]
  split
  .exact Nat.le_succ_of_le (sg (a::r))
  .exact le_refl _
theorem Ay (l:List Pt)(p:Pt):qJ (l++[p])=p::popTo p (qJ l):=by unfold qJ;rw[foldl_append];rfl
theorem tY (p:List Pt):∀ (k:List Pt),(∀ x∈p.foldl (λk p=>p::popTo p k) k,x∈k\/x∈p)/\(p.foldl (λk p=>p::popTo p k) k).length<=k.length+p.length:=by
 induction p with
 |nil=>exact λk=>⟨λx h=>.inl h,le_refl _⟩
 |cons a p i=>
  intro k;obtain⟨e,g⟩:=i (a::popTo a k);refine⟨λx i=>?_,?_⟩
  .rcases e x i with h|h
   .rcases mem_cons.mp h with rfl|h
    .exact .inr mem_cons_self
    .exact .inl (xL _ x h)
   .exact .inr (mem_cons_of_mem _ h)
  .have:=sg (p:=a) k;rw[List.foldl_cons];simp only[length_cons]at g ⊢;ext
theorem Fy (l:List Pt):∀ x∈qJ l,x∈l:=λx h=>((tY l []).1 x h).resolve_left (by simp)
theorem jZ (l:List Pt):(qJ l).length<=l.length:=by have:=(tY l []).2;simpa [qJ] using this
theorem Ni (l:List T)(a b:T):atI (l++[a,b]) (-2)=some a:=by
 have e:rM (l++[a,b]).length (-2)=some l.length:=by
  unfold rM;rw[List.length_append,length_cons,length_cons,length_nil,if_neg ⋯,if_pos ⋯]
  congr 1;ext
 unfold atI;rw[e];simp
theorem MS:uX (l++[ck b]) (-1) R=R (.t (ck b)):=by rw[gr (Ag l _),eM (kg b)]
theorem MT:uX (l++[ck a,ck b]) (-2) R=R (.t (ck a)):=by rw[gr (Ni l _ _),eM (kg a)]
theorem DF:∀ B R,kx B R->mH {nx:=λ_=>R (.t .non),rt:=R} (aE ["spots","kept","spot"] B):=by
 rintro B R ⟨m,rfl,g,hz,h⟩;show mH _ [some (.t (.lst (m.map ck))),none,none]
 delta mH
 symm;refine⟨λj=>∃ r,j=[some (.t (.lst (m.map ck))),some (.ol ((qJ m).reverse.map ck)),r],?_,?_⟩
 .refine⟨λq j=>∃ pre g r,m=pre++g/\q=g.map ck/\j=[some (.t (.lst (m.map ck))),some (.ol ((qJ pre).reverse.map ck)),r],⟨[],m,_,rfl,rfl,rfl⟩,?_,?_⟩
  .rintro j ⟨pre,g,r,o,i,rfl⟩;have:g=[]:=by simpa using i.symm
   subst this;rw[append_nil]at o;subst o;exact⟨r,rfl⟩
  .rintro x q j ⟨pre,g,r,o,i,rfl⟩
   cases g with
   |nil=>cases i
   |cons p g=>
    rw[map_cons]at i
    cases i
    have v:SzF 120 p:=hz p (by rw[o];simp)
    have z:∀ x∈qJ pre,SzF 120 x:=λx y=>hz x (by rw[o];exact mem_append_left _ (Fy pre x y))
    have i:(qJ pre).length<=1000:=by
     have:=jZ pre;have:m.length=pre.length+(g.length+1):=by rw[o];simp
     ext
    symm;refine⟨λj=>j=[some (.t (.lst (m.map ck))),some (.ol ((popTo p (qJ pre)).reverse.map ck)),some (.t (ck p))],?_,?_⟩
    .refine⟨λn j=>∃ k,k.length=n/\popTo p k=popTo p (qJ pre)/\(∀ x∈k,SzF 120 x)/\j=[some (.t (.lst (m.map ck))),some (.ol (k.reverse.map ck)),some (.t (ck p))],⟨_,qJ pre,rfl,rfl,z,rfl⟩,?_⟩;rintro n j ⟨k,q,i,z,rfl⟩;have base:popTo p k=k->(λj=>j=[some (S.t (.lst (m.map ck))),some (.ol ((popTo p (qJ pre)).reverse.map ck)),some (.t (ck p))]) [some (.t (.lst (m.map ck))),some (.ol (k.reverse.map ck)),some (.t (ck p))]:=λe=>by
      rw[<-i,e]
     match k,q,i,z,base with
     | [],q,i,z,base=>
      refine⟨λk=>k=false,?_,?_⟩
      .symm
       first|trivial|(rw[if_neg (by simp)];trivial)
      .rintro k rfl;rw[if_neg ⋯]
       exact base rfl
     | [b],q,i,z,base=>
      refine⟨λk=>k=false,?_,?_⟩
      .symm
       first|trivial|(rw[if_neg (by simp)];trivial)
      .rintro k rfl;rw[if_neg ⋯]
       exact base rfl
     |b::a::r,q,i,z,base=>
      have B:(b::a::r).reverse.map ck=(r.reverse.map ck)++[ck a,ck b]:=by simp
      have m:(b::a::r).reverse.map ck=((a::r).reverse.map ck)++[ck b]:=by simp
      refine⟨λk=>k=decide (cr a b p<=0),?_,?_⟩
      .symm;rw[if_pos (by simp;ext)]
       symm;rw[B,MT];symm;rw[<-B,m,MS];symm;refine⟨fP a,fP b,fP p,rfl,wD ((z a (by simp)).mono3 ⋯) ⋯,wD ((z b (by simp)).mono3 ⋯) ⋯,wD (v.mono3 ⋯) ⋯,?_⟩
       symm;rw[show N7 (fP a) (fP b) (fP p)=cr a b p from LI a b p]
      .rintro k rfl
       by_cases v:cr a b p<=0
       .rw[if_pos (by simpa using v)]
        symm;refine⟨by simp,r.length+1,by simp at q;ext,a::r,rfl,?_,λx y=>z x (mem_cons_of_mem _ y),?_⟩
        .rw[<-i];simp only[popTo,if_pos v]
        .rw[m,List.dropLast_concat]
       .rw[if_neg (by simpa using v)]
        exact base (by simp only[popTo,if_neg v])
    .rintro j rfl;symm;refine⟨?_,pre++[p],g,some (.t (ck p)),by rw[o];simp,rfl,?_⟩
     .rw[length_map,length_reverse];have:=sg (p:=p) (qJ pre);ext
     .rw[Ay,reverse_cons,map_append];rfl
 .rintro j ⟨r,rfl⟩;symm;exact h
def DW (p:Pt):List Int:=[p.1,p.2]
def cN (a b:Pt):Prop:=a.1<b.1\/(a.1=b.1/\a.2<b.2)
def bQ (S:List Pt):List Pt:=if S.length<2 then S else lS S
def SetOf (ps S:List Pt):Prop:=(∀ p∈S,p∈ps)/\(∀ p∈ps,p∈S)/\S.Pairwise cN
theorem Ko (a b:Pt):ST.lexB (DW a) (DW b)=true↔cN a b:=by
 unfold cN DW;simp only[ST.lexB]
 by_cases h:a.1=b.1
 .rw[if_pos h]
  by_cases e:a.2=b.2
  .rw[if_pos e];constructor
   .intro h;cases h
   .intro h;omega
  .rw[if_neg e,decide_eq_true_eq];omega
 .rw[if_neg h,decide_eq_true_eq];omega
theorem xJ {ps:List Pt}:∀ ns:List (List Int),(∀ k∈ns,k∈ps.map DW)->∃ S:List Pt,ns=S.map DW/\∀ p∈S,p∈ps
 | [],_=>⟨[],rfl,λp g=>by cases g⟩
 |k::ns,h=>by
  obtain⟨S,e,j⟩:=xJ ns λk i=>h k (mem_cons_of_mem _ i);obtain⟨p,g,rfl⟩:=mem_map.mp (h k mem_cons_self);exact⟨p::S,by rw[e];rfl,λq i=>by
   obtain rfl|i:=mem_cons.mp i
   .exact g
   .exact j q i⟩
theorem K8 (h:DW a=DW b):a=b:=by
 unfold DW at h;simp only[List.cons.injEq,and_true]at h;exact Prod.ext h.1 h.2
def sJ:aN:=λg R=>∃ e:List Pt,g=[.t (.lst (e.map aW))]/\e.length<=63/\(∀ p∈e,SzF 120 p)/\∀ S:List Pt,SetOf e S->R (.ol ((bQ S).map ck))
def sX:WS:=
 (aC (aG 1 (dI 1 [] (cj (kG (ae 0))) (aH 0) lG (aw jI (ac (ae 0) ap))))
 (aC (hI (wB (EE (eh cZ (ac (ae 1) ap)) (wC (.int 2)))) (iG 1) bz)
 (aC (aG 2 (aw kx (ac (ae 1) ap)))
 (aC (aG 3 (aw kx (ac (oG (ae 1)) ap)))
 (bw (ao yO (g0 (ae 2) gZ (kF (uY ie (wC (.int 1))))) (g0 (ae 3) gZ (kF (uY ie (wC (.int 1)))))))))))
theorem pO {S:List Pt}(h:S.Pairwise cN):S.Nodup:=h.imp λh e=>by subst e;unfold cN at h;omega
theorem j4 (ts:List T):fW ts none (some (-1))=ts.dropLast:=by
 unfold fW;show(ts.drop 0).take (HT.sIx ts.length ts.length (some (-1))-0)=_;have:HT.sIx ts.length ts.length (some (-1))=ts.length-1:=by
  show(if (-1:Int)<0 then ((-1:Int)+(ts.length:Int)).toNat else min (-1:Int).toNat ts.length)=_
  rw[if_pos ⋯];omega
 rw[this,List.dropLast_eq_take];simp
theorem GD:∀ m R,sJ m R->sX {nx:=λ_=>R (.t .non),rt:=R} (aE ["points","spots","under","above"] m):=by
 rintro m R ⟨j,rfl,m,hz,h⟩;show sX _ [some (.t (.lst (j.map aW))),none,none,none]
 delta sX
 symm;refine⟨2,j.map DW,⋯,by rw[map_map];rfl,λk k=>by obtain⟨p,_,rfl⟩:=mem_map.mp k;rfl,by rw[length_map];omega,λns i v _ n=>?_⟩
 replace n:=n (by rw[length_map];exact m)
 obtain⟨S,rfl,k⟩:=xJ ns i;have i:SetOf j S:=⟨k,λp j=>by
  obtain⟨q,o,e⟩:=mem_map.mp (v (DW p) (mem_map.mpr ⟨p,j,rfl⟩));rw[<-K8 e];exact o,by
  rw[pairwise_map]at n;exact n.imp λh=>(Ko _ _).mp h⟩
 have n:S.length<=63:=le_trans (List.Nodup.length_le_of_subset (pO i.2.2) i.1) m;have z:∀ p∈S,SzF 120 p:=λp j=>hz p (k p j);have e:(S.map DW).map md=S.map aW:=by rw[map_map];rfl
 rw[e];symm;refine eu (h:=ck) (λk=>∃ r,k=[r]) (λp _=>kg p) (by omega) ⟨_,rfl⟩ ?_ ?_
 .rintro p j k ⟨r,rfl⟩ Y y;symm;refine⟨p,rfl,?_⟩;symm;exact y _ ⟨_,rfl⟩
 have k:=h S i;unfold bQ at k;symm
 by_cases i:S.length<2
 .rw[if_pos i]at k;rw[if_pos (by rw[length_map];omega)]
  symm;exact k
 .rw[if_neg i]at k;rw[if_neg (by rw[length_map];omega)]
  symm;refine⟨S,rfl,by omega,z,?_⟩
  have i:∀ l:List Pt,cF (l.map ck)=true:=bG λp=>kg p;have g:∀ l:List Pt,got (.ol (l.map ck))=.ol (l.map ck):=λl=>eE _ (i l);dsimp only;rw[g];symm;refine⟨i S,S.reverse,by rw[List.map_reverse],by rw[length_reverse];omega,λp j=>z p (List.mem_reverse.mp j),?_⟩
  dsimp only;rw[g];symm;refine⟨i _,i _,?_,?_⟩
  .rw[j4,j4,length_dropLast,length_dropLast,length_map,length_map,length_reverse,length_reverse];have i:=jZ S;have i:=jZ S.reverse;rw[length_reverse]at i;omega
  .rw[j4,j4,<-List.map_dropLast,<-List.map_dropLast,<-map_append];exact k
def a7 (a b c:Hf):Int:=a.1*(b.2.1*c.2.2-c.2.1*b.2.2)-a.2.1*(b.1*c.2.2-c.1*b.2.2)+a.2.2*(b.1*c.2.1-c.1*b.2.1)
def jU (a b:Hf):Bool:=if a.1*b.2.2≠b.1*a.2.2 then decide (a.1*b.2.2<b.1*a.2.2) else decide (a.2.1*b.2.2<b.2.1*a.2.2)
def oP (s:Fr):Prop:=0<s.2/\Int.gcd s.1 s.2=1
def bx (s:aT):Prop:=oP s.1/\oP s.2
def dO {α:Type}(H:List α)(k:Nat)(e:k<H.length):α:=if h:k=0 then H[H.length-1] else H[k-1]
structure Iz (F:List Hf):Prop where
 fst:∀ k (hk:k<F.length),0<k->jU F[0] F[k]=true
 trn:2<F.length->∀ k (hk:k<F.length),∀ v∈F,v≠F[k]->v≠dO F k hk->0<a7 (dO F k hk) F[k] v
structure bD (F:List Hf) (q:Hf):Prop where
 ne:0<F.length
 few:F.length<3->a7 F[0] F[F.length-1] q=0/\jU q F[0]=false/\jU F[F.length-1] q=false
 all:3<=F.length->∀ k (hk:k<F.length),0<=a7 (dO F k hk) F[k] q
theorem Lz (h:eH n s):dh (n+n) (af s):=⟨Sz.mul h.1.1 h.2.2,Sz.mul h.2.1 h.1.2,Sz.mul h.1.2 h.2.2⟩
theorem kC (h:dh n s)(l:n<=m):dh m s:=⟨h.1.mono l,h.2.1.mono l,h.2.2.mono l⟩
theorem n8 (h:k<F.length):dO F k h∈F:=by
 unfold dO
 split <;> exact getElem_mem _
set_option maxHeartbeats 4000000
theorem mh (h:Int.gcd a b=1)(hd:b ∣ a*c):b ∣ c:=by
 have e:b.natAbs ∣ a.natAbs*c.natAbs:=by rw[<-Int.natAbs_mul];exact natAbs_dvd_natAbs.mpr hd
 have g:Nat.Coprime b.natAbs a.natAbs:=by
  rw[Nat.coprime_comm];exact h
 exact natAbs_dvd_natAbs.mp (g.dvd_of_dvd_mul_left e)
theorem xm (j:oP p)(k:oP q)(h:p.1*q.2=q.1*p.2):p=q:=by
 obtain⟨g,i⟩:=j;obtain⟨g,m⟩:=k;have g:p.2 ∣ q.2:=mh i ⟨q.1,by rw[h,mul_comm]⟩
 have i:q.2 ∣ p.2:=mh m ⟨p.1,by rw[<-h,mul_comm]⟩
 have e:p.2=q.2:=Int.dvd_antisymm ⋯ ⋯ g i
 rw[e]at h;have:=eq_of_mul_eq_mul_right ⋯ h
 exact Prod.ext this e
theorem Jx (h:b≠0):j2 a b≠0:=by
 have:=fG (a:=a) (.inr h);unfold j2
 split <;> ext
theorem wZ (a b:Int):j2 a b ∣ a/\j2 a b ∣ b:=by
 unfold j2
 split
 .exact⟨Int.neg_dvd.mpr (gcd_dvd_left _ _),Int.neg_dvd.mpr (gcd_dvd_right _ _)⟩
 .exact⟨gcd_dvd_left _ _,gcd_dvd_right _ _⟩
theorem t3 (g:b≠0):oP (fF a b):=by
 have p:=Jx (a:=a) g;obtain⟨m,n⟩:=wZ a b;have i:=cb m;have j:=cb n;unfold fF oP;dsimp only;generalize a.fdiv (j2 a b)=x at i ⊢;generalize b.fdiv (j2 a b)=y at j ⊢;constructor
 .have v:(b<0/\j2 a b<0)\/(0<b/\0<j2 a b):=by
   have:=fG (a:=a) (.inr g);unfold j2 at p ⊢
   split <;> rename_i h <;> first | (left;ext) | (right;ext)
  obtain⟨o,e⟩|⟨o,e⟩:=v
  .rcases lt_or_le 0 y with z|z
   .exact z
   .have:=mul_nonneg_of_nonpos_of_nonpos z (le_of_lt e);ext
  .rcases lt_or_le 0 y with z|z
   .exact z
   .have:=mul_nonpos_of_nonpos_of_nonneg z (le_of_lt e);ext
 .have k:Int.gcd a b=Int.gcd x y*(j2 a b).natAbs:=by
   have:=Int.gcd_mul_right x (j2 a b) y;rw[i,j]at this;exact this
  have en:(j2 a b).natAbs=Int.gcd a b:=by
   unfold j2
   split
   .rw[Int.natAbs_neg,Int.natAbs_natCast]
   .rw[Int.natAbs_natCast]
  rw[en]at k;have q:0<Int.gcd a b:=by have:=fG (a:=a) (.inr g);ext
  exact(Nat.eq_of_mul_eq_mul_right q (by rw[Nat.one_mul];exact k)).symm
def L6 (p q:Fr):Bool:=decide (p.1*q.2<q.1*p.2)
def Ku (p q:aT):Bool:=if p.1=q.1 then L6 p.2 q.2 else L6 p.1 q.1
theorem nW {a b c:Int}(e:0<c):a*c<b*c↔a<b:=⟨λh=>Int.lt_of_mul_lt_mul_right h (le_of_lt e),λh=>Int.mul_lt_mul_of_pos_right h e⟩
theorem Cs {p q:aT}(m:bx p)(n:bx q):Ku p q=jU (af p) (af q):=by
 obtain⟨⟨j,x⟩,⟨B,y⟩⟩:=p;obtain⟨⟨i,g⟩,⟨z,v⟩⟩:=q;have D:0<x:=m.1.1;have E:0<y:=m.2.1;have C:0<g:=n.1.1;have k:0<v:=n.2.1;have o:0<y*v:=mul_pos E k;have k:0<x*g:=mul_pos D C;unfold Ku jU af L6;dsimp only;have C:j*y*(g*v)=(j*g)*(y*v):=by grind
 have D:i*v*(x*y)=(i*x)*(y*v):=by grind
 have E:B*x*(g*v)=(B*v)*(x*g):=by grind
 have B:z*g*(x*y)=(z*y)*(x*g):=by grind
 rw[C,D,E,B]
 by_cases e:((j,x):Fr)=(i,g)
 .rw[if_pos e];have z:j=i:=congrArg Prod.fst e;have B:x=g:=congrArg Prod.snd e;subst z;subst B;rw[if_neg (by simp)]
  exact decide_eq_decide.mpr (nW k).symm
 .rw[if_neg e];have k:j*g*(y*v)≠i*x*(y*v):=λh=>e (xm m.1 n.1 (eq_of_mul_eq_mul_right ⋯ h))
  rw[if_pos k];exact decide_eq_decide.mpr (nW o).symm
set_option maxHeartbeats 1000000
theorem aU (a b c:Hf):a7 a b c=a7 b c a:=by unfold a7;grind
theorem nr (a b:Hf):a7 a a b=0:=by unfold a7;grind
theorem fE (a b:Hf):a7 a b a=0:=by unfold a7;grind
theorem dD (a b:Hf):a7 a b b=0:=by unfold a7;grind
theorem FK (a b c:Hf):a7 a c b=-a7 a b c:=by unfold a7;grind
theorem M2 (a e b c d:Hf):a7 a e c*a7 a b d=a7 a e b*a7 a c d+a7 a e d*a7 a b c:=by unfold a7;grind
def td (u p q:Hf):Prop:=∃ h e g:Int,0<h/\0<e/\0<g/\h*u.1=e*p.1+g*q.1/\h*u.2.1=e*p.2.1+g*q.2.1/\h*u.2.2=e*p.2.2+g*q.2.2
theorem nU (u:Hf):td u u u:=⟨2,1,1,⋯,⋯,⋯,⋯,⋯,⋯⟩
theorem rT (e:κ*u.1=α*p.1+β*q.1)(g:κ*u.2.1=α*p.2.1+β*q.2.1)(i:κ*u.2.2=α*p.2.2+β*q.2.2)(v w:Hf):κ*a7 u v w=α*a7 p v w+β*a7 q v w:=by
 unfold a7;have h:κ*(u.1*(v.2.1*w.2.2-w.2.1*v.2.2)-u.2.1*(v.1*w.2.2-w.1*v.2.2)+u.2.2*(v.1*w.2.1-w.1*v.2.1))=κ*u.1*(v.2.1*w.2.2-w.2.1*v.2.2)-κ*u.2.1*(v.1*w.2.2-w.1*v.2.2)+κ*u.2.2*(v.1*w.2.1-w.1*v.2.1):=by grind
 rw[h,e,g,i];grind
theorem dm {κ x:Int}(k:0<κ)(h:0<κ*x):0<x:=by
 obtain z|z:=lt_or_le 0 x
 .exact z
 .have:=mul_nonpos_of_nonneg_of_nonpos (le_of_lt k) z;ext
theorem cQ {κ x:Int}(k:0<κ)(h:0<=κ*x):0<=x:=by
 obtain z|z:=lt_or_le x 0
 .have:=mul_neg_of_pos_of_neg k z;ext
 .exact z
theorem rV {u p q:Hf}(h:td u p q)(v w:Hf)(n:0<=a7 p v w)(o:0<=a7 q v w):0<=a7 u v w:=by
 obtain⟨g,g,g,x,g,i,j,k,m⟩:=h;have e:=rT j k m v w;have j:=mul_nonneg (le_of_lt g) n;have g:=mul_nonneg (le_of_lt i) o;exact cQ x ⋯
theorem mv {u p q:Hf}(h:td u p q)(v w:Hf)(o:0<=a7 p v w)(x:0<=a7 q v w)(g:0<a7 p v w\/0<a7 q v w):0<a7 u v w:=by
 obtain⟨i,i,i,y,i,j,k,m,n⟩:=h;have e:=rT k m n v w;have k:=mul_nonneg (le_of_lt i) o;have k:=mul_nonneg (le_of_lt j) x;refine dm y ?_
 obtain g|g:=g
 .have:=mul_pos i g;ext
 .have:=mul_pos j g;ext
theorem nV (h:td u p q):a7 p q u=0:=by
 obtain⟨k,g,g,g,g,g,g,i,j⟩:=h;have e:=rT g i j p q;rw[nr,fE,mul_zero,mul_zero,aU u p q]at e
 obtain z | z:=mul_eq_zero.mp (show k*a7 p q u=0 by ext)
 .ext
 .exact z
theorem O5 (I:td u p j)(F:td v q k)(G:td w r o)(n:∀ x,x=p\/x=j->∀ y,y=q\/y=k->∀ z,z=r\/z=o->0<=a7 x y z)
  (s:∃ x y z,(x=p\/x=j)/\(y=q\/y=k)/\(z=r\/z=o)/\0<a7 x y z):0<a7 u v w:=by
 obtain⟨g,B,h,h,i,D,E⟩:=s;have C:∀ x,x=p\/x=j->∀ y,y=q\/y=k->0<=a7 x y w:=λx m y H=>by
  rw[<-aU w x y];refine rV G x y ?_ ?_
  .rw[aU];exact n x m y H r (.inl rfl)
  .rw[aU];exact n x m y H o (.inr rfl)
 have H:0<a7 g B w:=by
  rw[<-aU w g B];refine mv G g B ?_ ?_ ?_
  .rw[aU];exact n g h B i r (.inl rfl)
  .rw[aU];exact n g h B i o (.inr rfl)
  .rcases D with e|e
   .left;rw[aU,<-e];exact E
   .right;rw[aU,<-e];exact E
 have B:∀ x,x=p\/x=j->0<=a7 x v w:=λx m=>by
  rw[aU];refine rV F w x ?_ ?_
  .rw[<-aU];exact C x m q (.inl rfl)
  .rw[<-aU];exact C x m k (.inr rfl)
 have pv:0<a7 g v w:=by
  rw[aU];refine mv F w g ?_ ?_ ?_
  .rw[<-aU];exact C g h q (.inl rfl)
  .rw[<-aU];exact C g h k (.inr rfl)
  .rcases i with e|e
   .left;rw[<-aU,<-e];exact H
   .right;rw[<-aU,<-e];exact H
 refine mv I v w (B p (.inl rfl)) (B j (.inr rfl)) ?_
 obtain e|e:=h
 .left;rw[<-e];exact pv
 .right;rw[<-e];exact pv
def oQ (P:Nat->Hf)(n:Nat):Prop:=∀ a b c,a<b->b<c->c<n->0<a7 (P a) (P b) (P c)
def bo (n i:Nat):Nat:=if i=0 then n-1 else i-1
theorem wk (i:oQ P n)(j:a<=b)(k:b<=c)(h:c<n):0<=a7 (P a) (P b) (P c):=by
 obtain e|e:=lt_or_ge a b
 .rcases lt_or_ge b c with g|g
  .exact le_of_lt (i a b c e g h)
  .have:b=c:=⋯
   rw[this,dD];exact Int.le_refl _
 .have:a=b:=⋯
  rw[this,nr];exact Int.le_refl _
theorem Qd (e:oQ P n)(h:b<=c)(g:c<n):0<=a7 (P (n-1)) (P b) (P c):=by
 rw[aU];exact wk e h ⋯ ⋯
def lo (n:Nat)(s:Bool)(i:Nat):Nat:=if s=true then bo n i else i
theorem nQ (h:a=lo n s i\/a=i):a=i\/(s=true/\a=bo n i):=by
 unfold lo at h
 cases s with
 |true=>
      obtain h|h:=h
      .exact .inr ⟨rfl,by simpa using h⟩
      .exact .inl h
 |false=>
       obtain h|h:=h
       .exact .inl (by simpa using h)
       .exact .inl h
theorem Pm (Z:3<=n)(p:oQ P n)(O:td u (P (lo n g i)) (P i))(Q:td v (P (lo n B j)) (P j))(R:td w (P (lo n C k)) (P k))(F:k<n)
  (L:i<j\/(i=j/\g=true/\B=false)) (J:j<k\/(j=k/\B=true/\C=false))
  (U:g=true->i=j->C=false->k≠bo n i) (X:B=true->j=k->g=false->i≠bo n j):0<a7 u v w:=by
 refine O5 O Q R ?_ ?_
 .intro x o y q z hz;obtain⟨a,rfl,D⟩:∃ a,x=P a/\(a=lo n g i\/a=i):=o.elim (λe=>⟨_,e,.inl rfl⟩) (λe=>⟨_,e,.inr rfl⟩);obtain⟨b,rfl,o⟩:∃ b,y=P b/\(b=lo n B j\/b=j):=q.elim (λe=>⟨_,e,.inl rfl⟩) (λe=>⟨_,e,.inr rfl⟩);obtain⟨c,rfl,E⟩:∃ c,z=P c/\(c=lo n C k\/c=k):=hz.elim (λe=>⟨_,e,.inl rfl⟩) (λe=>⟨_,e,.inr rfl⟩);have D:=nQ D;have o:=nQ o;have E:=nQ E;have q:i<=b/\b<=j:=by
   obtain h|⟨h,o⟩:=o
   .ext
   .rcases L with l|⟨_,_,l⟩
    .unfold bo at o;rw[if_neg ⋯]at o;ext
    .rw[h]at l;cases l
  have q:b<=c/\c<=k:=by
   obtain h|⟨h,o⟩:=E
   .ext
   .rcases J with l|⟨_,_,l⟩
    .unfold bo at o;rw[if_neg ⋯]at o;ext
    .rw[h]at l;cases l
  obtain h|⟨h,o⟩:=D
  .exact wk p ⋯ q.1 ⋯
  .unfold bo at o
   split at o
   .rw[o];exact Qd p q.1 ⋯
   .exact wk p ⋯ q.1 ⋯
 .have o:∀ (s:Bool) (m:Nat),s=true->lo n s m=bo n m:=λs m h=>by unfold lo;rw[if_pos h]
  obtain q|⟨M,H,I⟩:=L
  .rcases J with G|⟨E,D,Y⟩
   .exact⟨P i,P j,P k,.inr rfl,.inr rfl,.inr rfl,p i j k q G F⟩
   .have q:lo n B j=j-1:=by rw[o B j D];unfold bo;rw[if_neg ⋯]
    by_cases h:i<j-1
    .exact⟨P i,P (j-1),P k,.inr rfl,.inl (by rw[q]),.inr rfl,p i (j-1) k h ⋯ F⟩
    .have hi:i=j-1:=⋯
     have G:g=true:=by
      cases g with
      |true=>rfl
      |false=>exact absurd (by unfold bo;rw[if_neg ⋯];exact hi) (X D E rfl)
     by_cases D:i=0
     .refine⟨P (n-1),P (j-1),P k,.inl (by rw[o g i G];unfold bo;rw[if_pos D]),.inl (by rw[q]),.inr rfl,?_⟩
      rw[aU];exact p (j-1) k (n-1) ⋯ ⋯ ⋯
     .exact⟨P (i-1),P (j-1),P k,.inl (by rw[o g i G];unfold bo;rw[if_neg D]),.inl (by rw[q]),.inr rfl,p (i-1) (j-1) k ⋯ ⋯ F⟩
  .have E:j<k:=by
    obtain l|⟨_,f,_⟩:=J
    .exact l
    .rw[f]at I;cases I
   by_cases D:i=0
   .have q:lo n g i=n-1:=by rw[o g i H];unfold bo;rw[if_pos D]
    by_cases I:k<n-1
    .refine⟨P (n-1),P j,P k,.inl (by rw[q]),.inr rfl,.inr rfl,?_⟩
     rw[aU];exact p j k (n-1) E I ⋯
    .have G:C=true:=by
      cases C with
      |true=>rfl
      |false=>exact absurd (by unfold bo;rw[if_pos D];ext) (U H M rfl)
     refine⟨P (n-1),P j,P (k-1),.inl (by rw[q]),.inr rfl,.inl (by rw[o C k G];unfold bo;rw[if_neg ⋯]),?_⟩
     rw[aU];exact p j (k-1) (n-1) ⋯ ⋯ ⋯
   .exact⟨P (i-1),P j,P k,.inl (by rw[o g i H];unfold bo;rw[if_neg D]),.inr rfl,.inr rfl,p (i-1) j k ⋯ E F⟩
theorem cY (h:oQ P n)(m:k<n)(i:j<n)(o:j≠k)(g:j≠bo n k):0<a7 (P (bo n k)) (P k) (P j):=by
 unfold bo at *
 split at g
 .rename_i e;rw[if_pos e,aU];exact h k j (n-1) ⋯ ⋯ ⋯
 .rename_i e;rw[if_neg e]
  obtain l|l:=lt_or_ge j k
  .rw[<-aU];exact h j (k-1) k ⋯ ⋯ m
  .exact h (k-1) k j ⋯ ⋯ i
theorem gy (g:oQ P n)(m:k<n)(i:j<n):0<=a7 (P (bo n k)) (P k) (P j):=by
 by_cases h:j=k
 .rw[h,dD];exact Int.le_refl _
 .by_cases e:j=bo n k
  .rw[e,fE];exact Int.le_refl _
  .exact le_of_lt (cY g m i h e)
theorem Ii (z:3<=n)(y:oQ P n)(hi:i<n)(p:j<n)(h:i≠j):P i≠P j:=λe=>by
 obtain⟨m,v,k,o⟩:∃ m,m<n/\m≠i/\m≠j:=by
  by_cases a:0≠i/\0≠j
  .exact⟨0,⋯,a⟩
  .by_cases b:1≠i/\1≠j
   .exact⟨1,⋯,b⟩
   .exact⟨2,⋯,⋯,⋯⟩
 have g:∀ a b c,a<b->b<c->c<n->P a=P b\/P b=P c\/P a=P c->False:=λa b c k o x e=>by
  have:=y a b c k o x
  obtain e|e|e:=e
  .rw[e,nr]at this;ext
  .rw[e,dD]at this;ext
  .rw[e,fE]at this;ext
 obtain l|l|l:=lt_trichotomy i j
 .rcases lt_or_ge m i with q|q
  .exact g m i j q l p (.inr (.inl e))
  .rcases lt_or_ge m j with k|k
   .exact g i m j ⋯ k p (.inr (.inr e))
   .exact g i j m l ⋯ v (.inl e)
 .exact h l
 .rcases lt_or_ge m j with q|q
  .exact g m j i q l hi (.inr (.inl e.symm))
  .rcases lt_or_ge m i with k|k
   .exact g j m i ⋯ k hi (.inr (.inr e.symm))
   .exact g j i m l ⋯ v (.inl e.symm)
theorem cu (h:k<n):bo n k<n:=by unfold bo;split <;> ext
theorem gF (h:3<=n)(e:k<n):bo n k≠k/\bo n (bo n k)≠k/\bo n (bo n k)≠bo n k:=by
 unfold bo;refine⟨?_,?_,?_⟩
 .split <;> ext
 .split
  .split <;> ext
  .split <;> ext
 .split
  .split <;> ext
  .split <;> ext
def qy (F:List Hf):Prop:=∀ a b c (_:a<b) (_:b<c) (h:c<F.length),0<a7 F[a] F[b] F[c]
theorem zJ {α:Type}{R:α->α->Prop}{f:α->Hf}{L:List α}(p:L.Pairwise R)(h:∀ x∈L,∀ y∈L,∀ z∈L,R x y->R y z->0<a7 (f x) (f y) (f z)):qy (L.map f):=by
 intro a b c e g i;rw[length_map]at i;rw[getElem_map,getElem_map,getElem_map];rw[pairwise_iff_getElem]at p;exact h _ (getElem_mem _) _ (getElem_mem _) _ (getElem_mem _) (p a b ⋯ ⋯ e) (p b c ⋯ ⋯ g)
theorem fj {F:List Hf}(R:Iz F):qy F:=by
 by_cases hn:F.length<3
 .intro a b c h1 h2 h3;ext
 have hn:3<=F.length:=⋯
 have trn:=R.trn ⋯
 have ne0:∀ k (hk:k<F.length),0<k->F[0]≠F[k]:=λk hk h0 e=>by
  have:=R.fst k hk h0;rw[<-e]at this;unfold jU at this;simp at this
 have ed:∀ k (hk:k<F.length) (h0:0<k) v,v∈F->v≠F[k]->v≠F[k-1]->0<a7 F[k-1] F[k] v:=λk hk h0 v hv h1 h2=>by
  have:=trn k hk v hv h1 (by unfold dO;rw[dif_neg ⋯];exact h2)
  unfold dO at this;rw[dif_neg ⋯]at this
  exact this
 have fan:∀ (a:Nat) (ha:a+1<F.length),(∀ c (hc:c<F.length),a+1<c->0<a7 F[a] F[a+1] F[c])->(∀ c (hc:c+1<F.length),a<c->0<a7 F[a] F[c] F[c+1])->∀ b c (_:a<b) (_:b<c) (hc:c<F.length),0<a7 F[a] F[b] F[c]:=by
  intro a ha hA hB b c hab hbc
  induction c with
  |zero=>ext
  |succ c ih=>
   intro hc
   by_cases e:b=c
   .subst e;exact hB b hc hab
   .have i1:=ih ⋯ ⋯
    by_cases eb:b=a+1
    .subst eb;exact hA (c+1) hc ⋯
    .have q1:=hA b ⋯ ⋯
     have q2:=hA c ⋯ ⋯
     have q3:=hA (c+1) hc ⋯
     have q4:=hB c hc ⋯
     have pl:=M2 F[a] F[a+1] F[b] F[c] F[c+1];have m1:=mul_pos q1 q4;have m2:=mul_pos q3 i1;exact dm q2 ⋯
 have B0:∀ c (hc:c+1<F.length),0<c->0<a7 F[0] F[c] F[c+1]:=λc hc h0=>by
  have:=ed (c+1) hc ⋯ F[0] (getElem_mem _) (ne0 _ hc ⋯) (ne0 c ⋯ h0)
  rw[<-aU]at this;exact this
 have A0:∀ c (hc:c<F.length),1<c->0<a7 F[0] F[1] F[c]:=λc hc h1=>by
  have nn:∀ c (hc:c<F.length),1<=c->0<=a7 F[0] F[1] F[c]:=λc hc h1=>by
   by_cases e:F[c]=F[1]
   .rw[e,dD];exact Int.le_refl _
   .exact le_of_lt (ed 1 ⋯ ⋯ F[c] (getElem_mem _) e (λe'=>ne0 c hc ⋯ e'.symm))
  by_cases e:F[c]=F[1]
  .exfalso;obtain⟨d,rfl⟩:∃ d,c=d+1:=⟨c-1,⋯⟩
   have b:=B0 d hc ⋯
   rw[e,FK]at b;have:=nn d ⋯ ⋯
   ext
  .exact ed 1 ⋯ ⋯ F[c] (getElem_mem _) e (λe'=>ne0 c hc ⋯ e'.symm)
 have T0:=fan 0 ⋯ A0 B0
 have ne:∀ b c (hb:b<F.length) (hc:c<F.length),b<c->F[b]≠F[c]:=λb c hb hc h e=>by
  by_cases b0:b=0
  .subst b0;exact ne0 c hc h e
  .have:=T0 b c ⋯ h hc
   rw[e,dD]at this;ext
 intro a b c h1 h2 h3;refine fan a ⋯ (λc hc h=>?_) (λc hc h=>?_) b c h1 h2 h3
 .exact ed (a+1) ⋯ ⋯ F[c] (getElem_mem _) (λe=>ne (a+1) c ⋯ hc h e.symm) (λe=>ne a c ⋯ hc ⋯ e.symm)
 .have:=ed (c+1) hc ⋯ F[a] (getElem_mem _) (ne a (c+1) ⋯ hc ⋯) (ne a c ⋯ ⋯ h)
  rw[<-aU]at this;exact this
theorem wm (y:qy F)(D:2<F.length)(k:Nat)(h:k<F.length)(v:Hf)(z:v∈F)(p:v≠F[k])(o:v≠dO F k h):0<a7 (dO F k h) F[k] v:=by
 obtain⟨j,m,rfl⟩:=getElem_of_mem z;have x:oQ (λi=>F.getD i (0,0,0)) F.length:=λa b c B C q=>by
  have:=y a b c B C q;simp only[getD_eq_getElem?_getD,getElem?_eq_getElem (show a<F.length by ext),getElem?_eq_getElem (show b<F.length by ext),getElem?_eq_getElem q,Option.getD_some]
  exact this
 have g:∀ i (hi:i<F.length),F.getD i (0,0,0)=F[i]:=λi hi=>by simp[getD_eq_getElem?_getD,getElem?_eq_getElem hi]
 have n:dO F k h=F.getD (bo F.length k) (0,0,0):=by
  rw[g _ (cu h)];unfold dO bo
  split <;> rename_i e
  .simp[e]
  .simp[e]
 rw[n]at o ⊢;have:=cY x h m (λe=>p (by subst e;rfl)) (λe=>o (by rw[<-e,g _ m]))
 rw[g _ m,g _ h]at this;exact this
set_option maxHeartbeats 1000000
def gi (x:Int):Int:=if x<0 then -x else x
theorem kW (h:x≠0):0<gi x:=by unfold gi;split <;> ext
def mxV (p q:Fr)(a b:Int):Fr:=fF (p.1*q.2*a+q.1*p.2*b) (p.2*q.2*(a+b))
def dy (h:Hf)(p q:aT):aT:=(mxV p.1 q.1 (gi (a6 h q)*(p.1.2*p.2.2)) (gi (a6 h p)*(q.1.2*q.2.2)),mxV p.2 q.2 (gi (a6 h q)*(p.1.2*p.2.2)) (gi (a6 h p)*(q.1.2*q.2.2)))
theorem xD (p q:Fr)(a b:Int):mxV p q a b=mxV q p b a:=by
 unfold mxV;have e:p.1*q.2*a+q.1*p.2*b=q.1*p.2*b+p.1*q.2*a:=Int.add_comm _ _;have g:p.2*q.2*(a+b)=q.2*p.2*(b+a):=by rw[mul_comm p.2,Int.add_comm a]
 rw[e,g]
theorem mi (h:Hf)(p q:aT):dy h p q=dy h q p:=by
 unfold dy;rw[xD p.1,xD p.2]
theorem mn (j:0<b):∃ g:Int,0<g/\a=g*(fF a b).1/\b=g*(fF a b).2:=by
 have h:0<(Int.gcd a b:Int):=by have:=fG (a:=a) (b:=b) (.inr ⋯);ext
 have h:j2 a b=(Int.gcd a b:Int):=by unfold j2;rw[if_neg ⋯]
 obtain⟨e,h⟩:=wZ a b;have i:=cb e;have e:=cb h;refine⟨j2 a b,⋯,?_,?_⟩
 .unfold fF;dsimp only;rw[mul_comm];exact i.symm
 .unfold fF;dsimp only;rw[mul_comm];exact e.symm
theorem P3 (h e p i g q A B:Int):(h*g*(A*(e*p))+i*e*(B*(g*q)))*(p*q*(A*(e*p)+B*(g*q)))=(A*(e*p)+B*(g*q))*(e*p*(g*q))*(A*(h*p)+B*(i*q)):=by grind
theorem P4 (h p e i q g A B:Int):(h*g*(A*(p*e))+i*e*(B*(q*g)))*(p*q*(A*(p*e)+B*(q*g)))=(A*(p*e)+B*(q*g))*(p*e*(q*g))*(A*(h*p)+B*(i*q)):=by grind
theorem P5 (p e q g A B:Int):p*q*(A*(p*e)+B*(q*g))*(e*g*(A*(p*e)+B*(q*g)))=(A*(p*e)+B*(q*g))*(p*e*(q*g))*(A*(p*e)+B*(q*g)):=by grind
theorem w4 (op:bx p)(G:bx q)(J:a6 h p≠0)(L:a6 h q≠0) :
  bx (dy h p q)/\∃ κ c:Int,0<κ/\0<c/\κ*(af (dy h p q)).1=c*(gi (a6 h q)*(af p).1+gi (a6 h p)*(af q).1)/\κ*(af (dy h p q)).2.1=c*(gi (a6 h q)*(af p).2.1+gi (a6 h p)*(af q).2.1)/\κ*(af (dy h p q)).2.2=c*(gi (a6 h q)*(af p).2.2+gi (a6 h p)*(af q).2.2):=by
 obtain⟨⟨k,e⟩,⟨m,g⟩⟩:=p;obtain⟨⟨n,i⟩,⟨o,j⟩⟩:=q;have y:0<e:=op.1.1;have D:0<g:=op.2.1;have C:0<i:=G.1.1;have E:0<j:=G.2.1;have v:=kW L;have x:=kW J;unfold dy af;generalize gi (a6 h ((n,i),o,j))=A at v;generalize gi (a6 h ((k,e),m,g))=B at x;unfold mxV;dsimp only;have H:0<e*g:=mul_pos y D;have I:0<i*j:=mul_pos C E;have z:0<A*(e*g)+B*(i*j):=by
  have:=mul_pos v H;have:=mul_pos x I;ext
 have F:0<e*i*(A*(e*g)+B*(i*j)):=mul_pos (mul_pos y C) z;have C:0<g*j*(A*(e*g)+B*(i*j)):=mul_pos (mul_pos D E) z;have M:=t3 (a:=k*i*(A*(e*g))+n*e*(B*(i*j))) (b:=e*i*(A*(e*g)+B*(i*j))) ⋯
 have O:=t3 (a:=m*j*(A*(e*g))+o*g*(B*(i*j))) (b:=g*j*(A*(e*g)+B*(i*j))) ⋯
 obtain⟨x,E,D,v⟩:=mn (a:=k*i*(A*(e*g))+n*e*(B*(i*j))) F;obtain⟨y,F,n,k⟩:=mn (a:=m*j*(A*(e*g))+o*g*(B*(i*j))) C;refine⟨⟨M,O⟩,x*y,(A*(e*g)+B*(i*j))*(e*g*(i*j)),mul_pos E F,mul_pos z (mul_pos H I),?_,?_,?_⟩
 .rw[show ∀ a d:Int,x*y*(a*d)=x*a*(y*d) from λa d=>by grind,<-D,<-k]
  exact P3 ..
 .rw[show ∀ a d:Int,x*y*(a*d)=y*a*(x*d) from λa d=>by grind,<-n,<-v]
  exact P4 ..
 .rw[show ∀ a d:Int,x*y*(a*d)=x*a*(y*d) from λa d=>by grind,<-v,<-k]
  exact P5 ..
theorem dY (h:Hf)(s:aT):a6 h s=h.1*(af s).1+h.2.1*(af s).2.1-h.2.2*(af s).2.2:=by
 unfold a6 af;dsimp only;grind
def hZ (h:Hf)(p q:aT):Prop:=sgn (a6 h p)*sgn (a6 h q)<0
def kR (h:Hf)(q:aT):Prop:=sgn (a6 h q)>=0
instance (h:Hf) (p q:aT):Decidable (hZ h p q):=inferInstanceAs (Decidable (_<_))
instance (h:Hf) (q:aT):Decidable (kR h q):=inferInstanceAs (Decidable (_>=_))
theorem ce:hZ h p q↔(0<a6 h p/\a6 h q<0)\/(a6 h p<0/\0<a6 h q):=by
 unfold hZ sgn
 by_cases a:a6 h p>0
 .by_cases b:a6 h q>0
  .simp[a,b] <;> ext
  .by_cases c:a6 h q<0
   .simp[a,b,c]
   .simp[a,b,c] <;> ext
 .by_cases e:a6 h p<0
  .by_cases b:a6 h q>0
   .simp[a,e,b]
   .by_cases c:a6 h q<0
    .simp[a,e,b,c]
    .simp[a,e,b,c]
  .simp[a,e]
theorem bY:kR h q↔0<=a6 h q:=by
 unfold kR sgn
 split
 .simp;ext
 .split <;> simp <;> ext
theorem fC (op:bx p)(y:bx q)(o:hZ h p q):bx (dy h p q)/\td (af (dy h p q)) (af p) (af q)/\a6 h (dy h p q)=0:=by
 have o:=ce.mp o;have m:a6 h p≠0:=⋯
 have n:a6 h q≠0:=⋯
 obtain⟨ok,e,c,x,c0,g,i,j⟩:=w4 op y m n;have v:=kW n;have n:=kW m;refine⟨ok,⟨e,c*gi (a6 h q),c*gi (a6 h p),x,mul_pos c0 v,mul_pos c0 n,by rw[g];grind,by rw[i];grind,by rw[j];grind⟩,?_⟩
 have z:gi (a6 h q)*a6 h p+gi (a6 h p)*a6 h q=0:=by
  obtain⟨a,b⟩|⟨a,b⟩:=o
  .have x:gi (a6 h q)=-a6 h q:=by unfold gi;rw[if_pos b]
   have m:gi (a6 h p)=a6 h p:=by unfold gi;rw[if_neg ⋯]
   rw[x,m];grind
  .have x:gi (a6 h q)=a6 h q:=by unfold gi;rw[if_neg ⋯]
   have m:gi (a6 h p)=-a6 h p:=by unfold gi;rw[if_pos a]
   rw[x,m];grind
 have k:e*a6 h (dy h p q)=c*(gi (a6 h q)*a6 h p+gi (a6 h p)*a6 h q):=by
  rw[dY h (dy h p q)];generalize af (dy h p q)=f at g i j;have t:e*(h.1*f.1+h.2.1*f.2.1-h.2.2*f.2.2)=h.1*(e*f.1)+h.2.1*(e*f.2.1)-h.2.2*(e*f.2.2):=by grind
  rw[t,g,i,j];generalize gi (a6 h q)=A;generalize gi (a6 h p)=B;rw[dY h p,dY h q];grind
 rw[z,mul_zero]at k
 obtain z|z:=mul_eq_zero.mp k
 .ext
 .exact z
theorem kh {x a y b z c:Int}(g:0<b)(e:0<a)(i:0<c)(j:x*b<=y*a)(k:y*c<=z*b):x*c<=z*a/\((x*b<y*a\/y*c<z*b)->x*c<z*a):=by
 have m:=mul_le_mul_of_nonneg_right j (le_of_lt i);have m:=mul_le_mul_of_nonneg_right k (le_of_lt e);have m:x*b*c=x*c*b:=by grind
 have m:z*b*a=z*a*b:=by grind
 have m:y*a*c=y*c*a:=by grind
 refine⟨Int.le_of_mul_le_mul_right (show x*c*b<=z*a*b by ext) g,λh=>Int.lt_of_mul_lt_mul_right (a:=b) ?_ (le_of_lt g)⟩
 obtain h|h:=h
 .have:=Int.mul_lt_mul_of_pos_right h i;ext
 .have:=Int.mul_lt_mul_of_pos_right h e;ext
def Bf (a b:Hf):Prop:=a.1*b.2.2<b.1*a.2.2\/(a.1*b.2.2=b.1*a.2.2/\a.2.1*b.2.2<b.2.1*a.2.2)
theorem eD:jU a b=true↔Bf a b:=by
 unfold jU Bf
 split
 .rw[decide_eq_true_eq];ext
 .rw[decide_eq_true_eq];ext
theorem bS:jU a b=false↔¬ Bf a b:=by
 rw[<-eD]
 cases jU a b <;> simp
theorem Bf.trans {a b c:Hf}(i:0<a.2.2)(j:0<b.2.2)(k:0<c.2.2)(h:Bf a b)(g:Bf b c):Bf a c:=by
 unfold Bf at *
 obtain h|⟨h,e⟩:=h
 .left
  refine(kh j i k (le_of_lt h) ?_).2 (.inl h);ext
 .rcases g with g|⟨g,m⟩
  .left
   exact(kh j i k ⋯ (le_of_lt g)).2 (.inr g)
  .right
   have k1:=(kh (x:=a.1) (y:=b.1) (z:=c.1) j i k ⋯ ⋯).1
   have n:=(kh (x:=-a.1) (y:=-b.1) (z:=-c.1) j i k (by rw[neg_mul,neg_mul];ext) (by rw[neg_mul,neg_mul];ext)).1
   rw[neg_mul,neg_mul]at n;exact⟨⋯,(kh j i k (le_of_lt e) (le_of_lt m)).2 (.inl e)⟩
theorem Bf.irr (a:Hf):¬ Bf a a:=by unfold Bf;ext
theorem Bf.asym (h:Bf a b):¬ Bf b a:=by unfold Bf at *;ext
theorem b8 (h:bx s):0<(af s).2.2:=mul_pos h.1.1 h.2.1
theorem As (e:bx p)(g:bx q)(h:p≠q):Bf (af p) (af q)\/Bf (af q) (af p):=by
 by_cases a:Bf (af p) (af q)
 .exact .inl a
 .right
  by_cases b:Bf (af q) (af p)
  .exact b
  .exfalso;apply h;unfold Bf af at a b;have x:0<p.2.2:=e.2.1;have i:0<q.2.2:=g.2.1;have n:0<p.1.2:=e.1.1;have o:0<q.1.2:=g.1.1;dsimp only at a b;have k:p.1.1*p.2.2*(q.1.2*q.2.2)=q.1.1*q.2.2*(p.1.2*p.2.2):=⋯
   have m:p.2.1*p.1.2*(q.1.2*q.2.2)=q.2.1*q.1.2*(p.1.2*p.2.2):=⋯
   refine Prod.ext (xm e.1 g.1 ?_) (xm e.2 g.2 ?_)
   .refine eq_of_mul_eq_mul_right (a:=p.2.2*q.2.2) (by have:=mul_pos x i;ext) ?_
    have i:p.1.1*q.1.2*(p.2.2*q.2.2)=p.1.1*p.2.2*(q.1.2*q.2.2):=by grind
    have j:q.1.1*p.1.2*(p.2.2*q.2.2)=q.1.1*q.2.2*(p.1.2*p.2.2):=by grind
    rw[i,j,k]
   .refine eq_of_mul_eq_mul_right (a:=p.1.2*q.1.2) (by have:=mul_pos n o;ext) ?_
    have i:p.2.1*q.2.2*(p.1.2*q.1.2)=p.2.1*p.1.2*(q.1.2*q.2.2):=by grind
    have j:q.2.1*p.2.2*(p.1.2*q.1.2)=q.2.1*q.1.2*(p.1.2*p.2.2):=by grind
    rw[i,j,m]
theorem Kv (h:td u p q)(E:0<p.2.2)(F:0<q.2.2)(j:Bf p q):¬ Bf u p/\¬ Bf q u:=by
 obtain⟨g,v,x,D,m,n,k,o,i⟩:=h;have y:g*(u.1*p.2.2-p.1*u.2.2)=x*(q.1*p.2.2-p.1*q.2.2):=by
  have t:g*(u.1*p.2.2-p.1*u.2.2)=g*u.1*p.2.2-p.1*(g*u.2.2):=by grind
  rw[t,k,i];grind
 have B:g*(u.2.1*p.2.2-p.2.1*u.2.2)=x*(q.2.1*p.2.2-p.2.1*q.2.2):=by
  have t:g*(u.2.1*p.2.2-p.2.1*u.2.2)=g*u.2.1*p.2.2-p.2.1*(g*u.2.2):=by grind
  rw[t,o,i];grind
 have x:g*(q.1*u.2.2-u.1*q.2.2)=v*(q.1*p.2.2-p.1*q.2.2):=by
  have t:g*(q.1*u.2.2-u.1*q.2.2)=q.1*(g*u.2.2)-g*u.1*q.2.2:=by grind
  rw[t,k,i];grind
 have C:g*(q.2.1*u.2.2-u.2.1*q.2.2)=v*(q.2.1*p.2.2-p.2.1*q.2.2):=by
  have t:g*(q.2.1*u.2.2-u.2.1*q.2.2)=q.2.1*(g*u.2.2)-g*u.2.1*q.2.2:=by grind
  rw[t,o,i];grind
 have i:∀ {k d e:Int},0<k->g*d=k*e->(0<e->0<d)/\(e=0->d=0):=λ{k d e} k g=>⟨λh=>dm D (by rw[g];exact mul_pos k h),λh=>by
  rw[h,mul_zero]at g
  obtain z|z:=mul_eq_zero.mp g
  .ext
  .exact z⟩
 have g:=i n y;have o:=i n B;have k:=i m x;have n:=i m C;unfold Bf at *
 obtain j|⟨j,i⟩:=j
 .have:=g.1 ⋯
  have:=k.1 ⋯
  ext
 .have:=g.2 ⋯
  have:=k.2 ⋯
  have:=o.1 ⋯
  have:=n.1 ⋯
  ext
def HL (Q:Hf->Prop)(l:Hf)(s:aT):Prop:=Q l/\(l.1≠0\/l.2.1≠0)/\a6 l s=0
abbrev L1 (l:Hf)(s:aT):Prop:=HL (dh 300) l s
def Cn (s:aT):Prop:=∃ l m:Hf,L1 l s/\L1 m s/\l.1*m.2.1-l.2.1*m.1≠0
def zR (Q:Hf->Prop)(p q:aT):Prop:=∃ l:Hf,HL Q l p/\HL Q l q
abbrev Lk (p q:aT):Prop:=zR (dh 300) p q
theorem HX (m:oP f)(k:D≠0)(h:D*f.1=N*f.2)(p:Sz n N)(o:Sz n D):SzF n f:=by
 obtain⟨g,g⟩:=m;have i:f.2 ∣ D:=mh g ⟨N,by rw[mul_comm,h,mul_comm]⟩
 have j:f.1 ∣ N:=by
  refine mh (a:=f.2) (b:=f.1) (by rw[Int.gcd_comm];exact g) ⟨D,by rw[mul_comm,<-h,mul_comm]⟩
 constructor
 .by_cases e:N=0
  .rw[e,zero_mul]at h
   obtain z|z:=mul_eq_zero.mp h
   .exact absurd z k
   .rw[z];exact⟨Nat.two_pow_pos n⟩
  .exact⟨lt_of_le_of_lt (Nat.le_of_dvd ⋯ (natAbs_dvd_natAbs.mpr j)) p.lt⟩
 .exact⟨lt_of_le_of_lt (Nat.le_of_dvd ⋯ (natAbs_dvd_natAbs.mpr i)) o.lt⟩
theorem MX (ok:bx s)(h:Cn s):eH 602 s:=by
 obtain⟨l,m,⟨z,_,g⟩,⟨e,_,i⟩,j⟩:=h;rw[dY]at g i;unfold af at g i;dsimp only at g i;have x:0<s.1.2:=ok.1.1;have x:0<s.2.2:=ok.2.1;have g:Sz 602 (l.1*m.2.1-l.2.1*m.1):=(Sz.sub (Sz.mul z.1 e.2.1) (Sz.mul z.2.1 e.1)).mono ⋯
 have x:Sz 602 (l.2.2*m.2.1-m.2.2*l.2.1):=(Sz.sub (Sz.mul z.2.2 e.2.1) (Sz.mul e.2.2 z.2.1)).mono ⋯
 have y:Sz 602 (l.1*m.2.2-m.1*l.2.2):=(Sz.sub (Sz.mul z.1 e.2.2) (Sz.mul e.1 z.2.2)).mono ⋯
 refine⟨HX ok.1 j (N:=l.2.2*m.2.1-m.2.2*l.2.1) ?_ x g,HX ok.2 j (N:=l.1*m.2.2-m.1*l.2.2) ?_ y g⟩
 .refine eq_of_mul_eq_mul_right (a:=s.2.2) ⋯ ?_
  grind
 .refine eq_of_mul_eq_mul_right (a:=s.1.2) ⋯ ?_
  grind
theorem vo (op:bx p)(v:bx q)(o:hZ h p q)(g:HL Q l p)(n:HL Q l q):HL Q l (dy h p q):=by
 refine⟨g.1,g.2.1,?_⟩;obtain⟨_,⟨e,y,B,k,i,i,j,k,m⟩,_⟩:=fC op v o;have i:=g.2.2;have eq:=n.2.2;rw[dY]at i eq ⊢;generalize af (dy h p q)=f at *;have t:e*(l.1*f.1+l.2.1*f.2.1-l.2.2*f.2.2)=l.1*(e*f.1)+l.2.1*(e*f.2.1)-l.2.2*(e*f.2.2):=by grind
 have x:e*(l.1*f.1+l.2.1*f.2.1-l.2.2*f.2.2)=y*(l.1*(af p).1+l.2.1*(af p).2.1-l.2.2*(af p).2.2)+B*(l.1*(af q).1+l.2.1*(af q).2.1-l.2.2*(af q).2.2):=by
  rw[t,j,k,m];grind
 rw[i,eq,mul_zero,mul_zero]at x
 obtain z | z:=mul_eq_zero.mp (show e*(l.1*f.1+l.2.1*f.2.1-l.2.2*f.2.2)=0 by ext)
 .ext
 .exact z
theorem HN (op:bx p)(j:bx q)(o:hZ h p q)(C:dh 300 h)(B:h.1≠0\/h.2.1≠0)(y:Lk p q):Cn (dy h p q):=by
 obtain⟨l,g,i⟩:=y;refine⟨l,h,vo op j o g i,⟨C,B,(fC op j o).2.2⟩,λe=>?_⟩;have x:=g.2.2;have eq:=i.2.2;have k:=b8 op;have m:=b8 j;have o:=ce.mp o;rw[dY]at x eq;rw[dY,dY]at o;generalize af p=u at *;generalize af q=v at *;have n:=g.2.1;have g:v.2.2*(h.1*u.1+h.2.1*u.2.1-h.2.2*u.2.2)=u.2.2*(h.1*v.1+h.2.1*v.2.1-h.2.2*v.2.2):=by
  have g:l.1*(v.2.2*(h.1*u.1+h.2.1*u.2.1-h.2.2*u.2.2)-u.2.2*(h.1*v.1+h.2.1*v.2.1-h.2.2*v.2.2))=0:=by grind
  have i:l.2.1*(v.2.2*(h.1*u.1+h.2.1*u.2.1-h.2.2*u.2.2)-u.2.2*(h.1*v.1+h.2.1*v.2.1-h.2.2*v.2.2))=0:=by grind
  obtain n|n:=n
  .rcases mul_eq_zero.mp g with z|z
   .exact absurd z n
   .ext
  .rcases mul_eq_zero.mp i with z|z
   .exact absurd z n
   .ext
 obtain⟨g,i⟩|⟨g,i⟩:=o
 .have:=mul_pos m g;have:=mul_neg_of_pos_of_neg k i;ext
 .have:=mul_neg_of_pos_of_neg m g;have:=mul_pos k i;ext
theorem xA {h u v w:Hf}(e:h.1≠0\/h.2.1≠0)(g:h.1*u.1+h.2.1*u.2.1-h.2.2*u.2.2=0)(i:h.1*v.1+h.2.1*v.2.1-h.2.2*v.2.2=0)(j:h.1*w.1+h.2.1*w.2.1-h.2.2*w.2.2=0):a7 u v w=0:=by
 unfold a7
 obtain n|n:=e
 .refine(mul_eq_zero.mp (show h.1*_=0 from ?_)).resolve_left n;grind
 .refine(mul_eq_zero.mp (show h.2.1*_=0 from ?_)).resolve_left n;grind
set_option maxHeartbeats 1000000
def s0:aT:=((0,1),(0,1))
def xM (L:List aT):List (aT × aT):=(List.range L.length).map λk=>if h:k<L.length then (dO L k h,L[k]) else (((0,0),(0,0)),((0,0),(0,0)))
def oO (h:Hf)(ks:List aT)(x:aT × aT):List aT:=
 if kR h x.2 then (if hZ h x.1 x.2/\¬ dy h x.1 x.2∈ks then ks++[dy h x.1 x.2] else ks)++[x.2] else (if hZ h x.1 x.2/\¬ dy h x.1 x.2∈ks then ks++[dy h x.1 x.2] else ks)
def fV (h:Hf)(L:List aT):List aT:=(xM L).foldl (oO h) []
def gt (L:List aT)(i:Nat):aT:=L.getD i s0
theorem bE (h:i<L.length):gt L i=L[i]:=by unfold gt;simp[getD_eq_getElem?_getD,getElem?_eq_getElem h]
theorem gD (h:k<L.length):dO L k h=gt L (bo L.length k):=by
 rw[bE (cu h)];unfold dO bo
 split <;> rename_i e
 .simp[e]
 .simp[e]
theorem wg (L:List aT):xM L=(List.range L.length).map λk=>(gt L (bo L.length k),gt L k):=by
 unfold xM;refine map_congr_left λk h=>?_;have h:=mem_range.mp h;rw[dif_pos h,gD h,bE h]
abbrev Itm:=Nat × Bool × aT
def H0 (h:Hf)(G:Nat->aT)(n i:Nat):List Itm:=(if hZ h (G (bo n i)) (G i) then [(i,true,dy h (G (bo n i)) (G i))] else [])++(if kR h (G i) then [(i,false,G i)] else [])
def KI (h:Hf)(G:Nat->aT)(n m:Nat):List Itm:=(List.range m).flatMap (H0 h G n)
def Is (h:Hf)(G:Nat->aT)(n:Nat)(x:Itm):Prop:=(x.2.1=true/\hZ h (G (bo n x.1)) (G x.1)/\x.2.2=dy h (G (bo n x.1)) (G x.1))\/(x.2.1=false/\kR h (G x.1)/\x.2.2=G x.1)
theorem mu:x∈H0 h G n i↔x.1=i/\Is h G n x:=by
 unfold H0 Is;obtain⟨j,b,s⟩:=x;constructor
 .intro g
  obtain g|g:=mem_append.mp g
  .split at g
   .rename_i o;simp only[mem_singleton,Prod.mk.injEq]at g;obtain⟨rfl,rfl,rfl⟩:=g;exact⟨rfl,.inl ⟨rfl,o,rfl⟩⟩
   .cases g
  .split at g
   .rename_i k;simp only[mem_singleton,Prod.mk.injEq]at g;obtain⟨rfl,rfl,rfl⟩:=g;exact⟨rfl,.inr ⟨rfl,k,rfl⟩⟩
   .cases g
 .rintro⟨e,g⟩;dsimp only at e g;subst e
  obtain⟨rfl,o,rfl⟩|⟨rfl,k,rfl⟩:=g
  .rw[if_pos o];simp
  .rw[if_pos k];simp
theorem cs:x∈KI h G n m↔x.1<m/\Is h G n x:=by
 unfold KI;rw[List.mem_flatMap];constructor
 .rintro⟨i,hi,g⟩;obtain⟨e,h⟩:=mu.mp g;rw[e];exact⟨mem_range.mp hi,h⟩
 .rintro⟨hi,h⟩;exact⟨x.1,mem_range.mpr hi,mu.mpr ⟨rfl,h⟩⟩
def RI (x y:Itm):Prop:=x.1<y.1\/(x.1=y.1/\x.2.1=true/\y.2.1=false)
theorem uA (h:Hf)(G:Nat->aT)(n m:Nat):(KI h G n m).Pairwise RI:=by
 unfold KI;rw[List.pairwise_flatMap];refine⟨λi _=>?_,List.pairwise_lt_range.imp λe x g y j=>.inl (by rw[(mu.mp g).1,(mu.mp j).1];exact e)⟩
 unfold H0
 split <;> split <;> simp[RI]
theorem wL (h:Hf)(G:Nat->aT)(n m:Nat):KI h G n (m+1)=KI h G n m++H0 h G n m:=by
 unfold KI;rw[range_succ,List.flatMap_append];simp
section
variable {h:Hf}{G:Nat->aT}{n:Nat} (hn:3<=n) (ok:∀ i,i<n->bx (G i)) (hT:oQ (λi=>af (G i)) n)
include hn ok hT
theorem ua (j:x.1<n)(hi:Is h G n x):bx x.2.2/\td (af x.2.2) (af (G (lo n x.2.1 x.1))) (af (G x.1))/\0<=a6 h x.2.2:=by
 obtain⟨e,o,g⟩|⟨e,k,g⟩:=hi
 .obtain⟨a,b,c⟩:=fC (ok _ (cu j)) (ok _ j) o;rw[g,e];refine⟨a,?_,⋯⟩
  unfold lo;rw[if_pos rfl];exact b
 .rw[g,e];refine⟨ok _ j,?_,bY.mp k⟩;unfold lo;rw[if_neg ⋯]
  exact nU _
theorem Ey:qy ((KI h G n n).map λx=>af x.2.2):=by
 refine zJ (uA h G n n) λx m y o z hz p q=>?_;obtain⟨j,m⟩:=cs.mp m;obtain⟨v,o⟩:=cs.mp o;obtain⟨g,hz⟩:=cs.mp hz;refine Pm (P:=λi=>af (G i)) hn hT (ua hn ok hT j m).2.1 (ua hn ok hT v o).2.1 (ua hn ok hT g hz).2.1 g p q ?_ ?_
 .intro g v j B
  obtain⟨_,C,_⟩|⟨e,_⟩:=m
  .have D:kR h (G y.1):=by
    obtain⟨e,_⟩|⟨_,k,_⟩:=o
    .rcases p with l|⟨_,_,l⟩
     .ext
     .rw[e]at l;cases l
    .exact k
   have p:kR h (G z.1):=by
    obtain⟨e,_⟩|⟨_,k,_⟩:=hz
    .rw[e]at j;cases j
    .exact k
   rw[<-v]at D;rw[B]at p;have:=ce.mp C;have:=bY.mp D;have:=bY.mp p;ext
  .rw[e]at g;cases g
 .intro g v j B
  obtain⟨_,C,_⟩|⟨e,_⟩:=o
  .have o:kR h (G x.1):=by
    obtain⟨e,_⟩|⟨_,k,_⟩:=m
    .rw[e]at j;cases j
    .exact k
   have p:kR h (G z.1):=by
    obtain⟨e,_⟩|⟨_,k,_⟩:=hz
    .rcases q with l|⟨_,_,l⟩
     .ext
     .rw[e]at l;cases l
    .exact k
   rw[B]at o;rw[<-v]at p;have:=ce.mp C;have:=bY.mp o;have:=bY.mp p;ext
  .rw[e]at g;cases g
theorem Ef (hi:i<n)(p:j<n)(m:hZ h (G (bo n i)) (G i)):dy h (G (bo n i)) (G i)≠G j:=λe=>by
 obtain⟨_,b,c⟩:=fC (ok _ (cu hi)) (ok _ hi) m;have o:=ce.mp m
 by_cases g:j=i
 .rw[e,g]at c;ext
 by_cases k:j=bo n i
 .rw[e,k]at c;ext
 have:=cY (P:=λi=>af (G i)) hT hi p g k;have z:=nV b;rw[e]at z;ext
theorem Lp (hi:i<n)(g:j<n)(m:i≠j)(p:hZ h (G (bo n i)) (G i))(o:hZ h (G (bo n j)) (G j)):dy h (G (bo n i)) (G i)≠dy h (G (bo n j)) (G j):=λe=>by
 obtain⟨_,b,_⟩:=fC (ok _ (cu hi)) (ok _ hi) p;obtain⟨_,k,_⟩:=fC (ok _ (cu g)) (ok _ g) o;have z:=nV b;rw[e]at z;have v:=gy (P:=λi=>af (G i)) hT hi g;have x:=gy (P:=λi=>af (G i)) hT hi (cu g);have y:0<a7 (af (G (bo n i))) (af (G i)) (af (dy h (G (bo n j)) (G j))):=by
  rw[<-aU];refine mv k _ _ (by rw[aU];exact x) (by rw[aU];exact v) ?_
  by_cases k:j=bo n i
  .left
   rw[aU];have q:=gF hn hi;exact cY (P:=λi=>af (G i)) hT hi (cu g) (by rw[k];exact q.2.1) (by rw[k];exact q.2.2)
  .right
   rw[aU];exact cY (P:=λi=>af (G i)) hT hi g (λe=>m e.symm) k
 ext
theorem Ia (k:x.1<n)(m:y.1<n)(z:Is h G n x)(q:Is h G n y)(r:RI x y):x.2.2≠y.2.2:=by
 obtain⟨ex,v,g⟩|⟨ex,j,g⟩:=z
 .rcases q with ⟨j,o,p⟩|⟨j,B,p⟩
  .rw[g,p];refine Lp hn ok hT k m ?_ v o
   obtain r|⟨_,_,r⟩:=r
   .ext
   .rw[j]at r;cases r
  .rw[g,p];exact Ef hn ok hT k m v
 .rcases q with ⟨j,o,p⟩|⟨j,B,p⟩
  .rw[g,p];exact λe=>Ef hn ok hT m k o e.symm
  .rw[g,p];have:x.1≠y.1:=by
    obtain r|⟨_,r,_⟩:=r
    .ext
    .rw[ex]at r;cases r
   exact λe=>Ii (P:=λi=>af (G i)) hn hT k m this (congrArg af e)
theorem mm:∀ m,m<=n->((List.range m).map λk=>(G (bo n k),G k)).foldl (oO h) []=(KI h G n m).map (·.2.2)
 |0,_=>rfl
 |m+1,q=>by
  rw[range_succ,map_append,foldl_append,mm m ⋯,wL,map_append]
  show oO h _ (G (bo n m),G m)=_;unfold oO H0;dsimp only;have j:hZ h (G (bo n m)) (G m)->¬ dy h (G (bo n m)) (G m)∈(KI h G n m).map (·.2.2):=λo g=>by
   obtain⟨y,p,e⟩:=mem_map.mp g;obtain⟨g,p⟩:=cs.mp p;exact Ia hn ok hT (x:=y) (y:=(m,true,dy h (G (bo n m)) (G m))) ⋯ (show m<n by ext) p (.inl ⟨rfl,o,rfl⟩) (.inl g) e
  by_cases o:hZ h (G (bo n m)) (G m)
  .have c:hZ h (G (bo n m)) (G m)/\¬ dy h (G (bo n m)) (G m)∈(KI h G n m).map (·.2.2):=⟨o,j o⟩
   by_cases g:kR h (G m)
   .rw[if_pos g,if_pos c,if_pos o,if_pos g];simp
   .rw[if_neg g,if_pos c,if_pos o,if_neg g];simp
  .have c:¬ (hZ h (G (bo n m)) (G m)/\¬ dy h (G (bo n m)) (G m)∈(KI h G n m).map (·.2.2)):=λz=>o z.1
   by_cases g:kR h (G m)
   .rw[if_pos g,if_neg c,if_neg o,if_pos g];simp
   .rw[if_neg g,if_neg c,if_neg o,if_neg g];simp
theorem Nt:((KI h G n n).map (·.2.2)).Nodup:=by
 unfold List.Nodup;rw[pairwise_map];exact(uA h G n n).imp_of_mem λ{x y} e g r=>Ia hn ok hT (cs.mp e).1 (cs.mp g).1 (cs.mp e).2 (cs.mp g).2 r
theorem Km (M:h.1≠0\/h.2.1≠0):(KI h G n n).length<=n+2:=by
 have e:=List.length_eq_countP_add_countP (λx:Itm=>x.2.1) (l:=KI h G n n);have g:(KI h G n n).countP (λx:Itm=>x.2.1)<=2:=by
  rw[countP_eq_length_filter]
  obtain l|l:=lt_or_ge 2 ((KI h G n n).filter λx=>x.2.1).length
  .exfalso;have z:((KI h G n n).filter λx=>x.2.1).Pairwise RI:=(uA h G n n).filter _;have all:∀ x∈(KI h G n n).filter (λx=>x.2.1),x∈KI h G n n/\a6 h x.2.2=0:=λx g=>by
    obtain⟨k,m⟩:=mem_filter.mp g;refine⟨k,?_⟩;obtain⟨g,hi⟩:=cs.mp k
    obtain⟨_,o,e⟩|⟨e,_⟩:=hi
    .rw[e];exact(fC (ok _ (cu g)) (ok _ g) o).2.2
    .rw[e]at m;cases m
   have T:=Ey hn ok hT (h:=h);generalize (KI h G n n).filter (λx=>x.2.1)=C at *;have R:=pairwise_iff_getElem.mp z;have o:=R 0 1 ⋯ ⋯ ⋯
   have p:=R 1 2 ⋯ ⋯ ⋯
   obtain⟨I,v⟩:=all C[0] (getElem_mem _);obtain⟨J,B⟩:=all C[1] (getElem_mem _);obtain⟨L,D⟩:=all C[2] (getElem_mem _);rw[dY]at v B D;have zero:=xA M v B D;have E:∀ {x y:Itm}{i j:Nat} (hi:i<(KI h G n n).length) (B:j<(KI h G n n).length),(KI h G n n)[i]=x->(KI h G n n)[j]=y->RI x y->i<j:=λ{x y i j} hi B ex v r=>by
    obtain l|l|l:=lt_trichotomy i j
    .exact l
    .subst l;rw[<-ex,<-v]at r;unfold RI at r
     obtain r|⟨_,o,p⟩:=r
     .ext
     .rw[o]at p;cases p
    .have:=pairwise_iff_getElem.mp (uA h G n n) j i B hi l;rw[ex,v]at this;unfold RI at r this
     rcases r with r|⟨r,o,p⟩ <;> rcases this with q|⟨q,v,v⟩
     .ext
     .ext
     .ext
     .rw[o]at v;cases v
   obtain⟨H,F,B⟩:=getElem_of_mem I;obtain⟨I,k,v⟩:=getElem_of_mem J;obtain⟨J,m,D⟩:=getElem_of_mem L;have:=T H I J (E F k B v o) (E k m v D p) (by rw[length_map];exact m)
   rw[getElem_map,getElem_map,getElem_map,B,v,D]at this;ext
  .exact l
 have o:(KI h G n n).countP (λx:Itm=>¬ x.2.1=true)<=n:=by
  rw[countP_eq_length_filter];have z:((KI h G n n).filter λx=>decide (¬ x.2.1=true)).Pairwise RI:=(uA h G n n).filter _;have all:∀ x∈(KI h G n n).filter (λx=>decide (¬ x.2.1=true)),x.1<n/\x.2.1=false:=λx g=>by
   obtain⟨k,m⟩:=mem_filter.mp g;exact⟨(cs.mp k).1,by simpa using m⟩
  generalize (KI h G n n).filter (λx=>decide (¬ x.2.1=true))=C at *;have nd:(C.map (·.1)).Nodup:=by
   unfold List.Nodup;rw[pairwise_map];refine z.imp_of_mem λ{x y} g k r=>?_
   obtain r|⟨_,r,_⟩:=r
   .ext
   .rw[(all x g).2]at r;cases r
  have:=List.Nodup.length_le_of_subset nd (l₂:=List.range n) (λi hi=>by
   obtain⟨x,g,rfl⟩:=mem_map.mp hi;exact mem_range.mpr (all x g).1)
  rw[length_map,length_range]at this;exact this
 simp only[decide_not,Bool.decide_eq_true]at o e;ext
end
set_option maxHeartbeats 1000000
theorem rP {A:List aT}(h:0<A.length):A.getLast?=some A[A.length-1]:=by
 rw[List.getLast?_eq_getElem?,getElem?_eq_getElem (by omega)]
theorem eJ:(A++[x]).getLast?=some x:=by simp
theorem la (h:(A++[x]).head?=some y):A.head?=some y\/(A=[]/\y=x):=by
 cases A with
 |nil=>right;exact⟨rfl,by simpa using h.symm⟩
 |cons a A=>left;simpa using h
def u5 (Q:Hf->Prop)(h:Hf):Prop:=Q h/\(h.1≠0\/h.2.1≠0)
abbrev gm (h:Hf):Prop:=u5 (dh 300) h
def EJ (Q:Hf->Prop)(A:List aT):Prop:=∀ k (h:k+1<A.length),zR Q A[k] A[k+1]
theorem kY {Q:Hf->Prop}{A:List aT}{x:aT}(h:EJ Q A)(i:∀ y,A.getLast?=some y->zR Q y x):EJ Q (A++[x]):=by
 intro k g;rw[List.length_append,length_singleton]at g
 by_cases l:k+1<A.length
 .rw[getElem_append_left (by omega),getElem_append_left l]
  exact h k l
 .have e:k+1=A.length:=by omega
  have g:(A++[x])[k+1]'(by simp;omega)=x:=by
   rw[List.getElem_append_right (by omega)];simp
  rw[g,getElem_append_left (by omega)]
  refine i _ ?_;rw[rP (by omega)]
  congr 2;omega
structure zS (Q:Hf->Prop) (h:Hf) (q0 qm:aT) (A:List aT):Prop where
 adj:EJ Q A
 inn:0<=a6 h qm->A.getLast?=some qm
 out:a6 h qm<0->∀ x,A.getLast?=some x->a6 h x=0
 hd:a6 h q0<0->∀ y,A.head?=some y->a6 h y=0
theorem Co (hh:u5 Q h)(e:a6 h p=0)(g:a6 h q=0):zR Q p q:=⟨h,⟨hh.1,hh.2,e⟩,hh.1,hh.2,g⟩
theorem zb (hh:u5 Q h)(op:bx p)(E:bx q)(C:zR Q p q)(H:zS Q h v p A) :
  zS Q h v q (A++((if hZ h p q then [dy h p q] else [])++(if kR h q then [q] else []))):=by
 by_cases j:hZ h p q
 .obtain⟨_,_,fs⟩:=fC op E j;have o:=ce.mp j;obtain⟨l,i,D⟩:=C;have ls:=vo op E j i D;have m:EJ Q (A++[dy h p q]):=kY H.adj λy g=>by
   obtain⟨n,B⟩|⟨n,B⟩:=o
   .rw[H.inn (by omega)]at g
    cases g
    exact⟨l,i,ls⟩
   .exact Co hh (H.out n y g) fs
  have B:a6 h v<0->∀ y,(A++[dy h p q]).head?=some y->a6 h y=0:=λn y g=>by
   obtain e|⟨_,e⟩:=la g
   .exact H.hd n y e
   .rw[e];exact fs
  rw[if_pos j]
  by_cases i:kR h q
  .rw[if_pos i,<-List.append_assoc];have k:=bY.mp i;refine⟨kY m λy g=>?_,λ_=>eJ,λz=>by omega,λn y g=>?_⟩
   .rw[eJ]at g
    cases g
    exact⟨l,ls,D⟩
   .rcases la g with e|⟨e,_⟩
    .exact B n y e
    .simp at e
  .rw[if_neg i,append_nil];have k:¬ 0<=a6 h q:=λz=>i (bY.mpr z);exact⟨m,λz=>absurd z k,λ_ x m=>by rw[eJ]at m;cases m;exact fs,B⟩
 .rw[if_neg j,nil_append];have o:¬ ((0<a6 h p/\a6 h q<0)\/(a6 h p<0/\0<a6 h q)):=λz=>j (ce.mpr z)
  by_cases i:kR h q
  .rw[if_pos i];have k:=bY.mp i;refine⟨kY H.adj λy g=>?_,λ_=>eJ,λz=>by omega,λn y g=>?_⟩
   .by_cases j:0<=a6 h p
    .rw[H.inn j]at g
     cases g
     exact C
    .exact Co hh (H.out (by omega) y g) (by omega)
   .rcases la g with e|⟨e,rfl⟩
    .exact H.hd n y e
    .by_cases j:0<=a6 h p
     .have:=H.inn j;rw[e]at this;cases this
     .omega
  .rw[if_neg i,append_nil];have k:¬ 0<=a6 h q:=λz=>i (bY.mpr z);refine⟨H.adj,λz=>absurd z k,λ_ x m=>?_,H.hd⟩
   by_cases j:0<=a6 h p
   .rw[H.inn j]at m
    cases m
    omega
   .exact H.out (by omega) x m
theorem mq (hh:u5 Q h)(p:0<n)(ok:∀ i,i<n->bx (G i))(o:∀ k,k<n->zR Q (G (bo n k)) (G k)) :
  ∀ m,m<=n->zS Q h (G (n-1)) (G (bo n m)) ((if 0<=a6 h (G (n-1)) then [G (n-1)] else [])++(KI h G n m).map (·.2.2))
 |0,_=>by
  have e:bo n 0=n-1:=rfl;rw[e];show zS Q h _ _ (_++[]);rw[append_nil]
  by_cases z:0<=a6 h (G (n-1))
  .rw[if_pos z];exact⟨λk g=>by simp at g,λ_=>rfl,λj=>by omega,λj=>by omega⟩
  .rw[if_neg z];exact⟨λk g=>by simp at g,λj=>absurd j z,λ_ x g=>(nomatch g),λ_ y g=>(nomatch g)⟩
 |m+1,g=>by
  have:=zb hh (ok _ (cu (show m<n by omega))) (ok m (by omega)) (o m (by omega)) (mq hh p ok o m (by omega))
  have e:bo n (m+1)=m:=by unfold bo;rw[if_neg (by omega)];rfl
  rw[e,wL,map_append,<-List.append_assoc];have g:(H0 h G n m).map (·.2.2)=(if hZ h (G (bo n m)) (G m) then [dy h (G (bo n m)) (G m)] else [])++(if kR h (G m) then [G m] else []):=by
   unfold H0
   split <;> split <;> rfl
  rw[g];exact this
theorem qQ {Q:Hf->Prop}{h:Hf}(hh:u5 Q h){q:aT}{K:List aT}(H:zS Q h q q ((if 0<=a6 h q then [q] else [])++K))(k:Nat)(m:k<K.length):zR Q (dO K k m) K[k]:=by
 by_cases z:0<=a6 h q
 .rw[if_pos z]at H;have a:=H.adj k (by simp;omega)
  have g:=H.inn z;unfold dO
  split <;> rename_i e
  .subst e;have:K[K.length-1]=q:=by
    rw[rP (by simp)]at g
    have:=Option.some.inj g;rw[<-this];simp only[List.singleton_append,length_cons,Nat.add_sub_cancel];rw[List.getElem_cons,dif_neg (by omega)]
   rw[this];simpa using a
  .have i:([q]++K)[k]'(by simp;omega)=K[k-1]:=by
    simp only[List.singleton_append];rw[List.getElem_cons,dif_neg e]
   rw[i]at a;simpa using a
 .rw[if_neg z,nil_append]at H;unfold dO
  split <;> rename_i e
  .subst e;have n:=H.out (by omega) K[K.length-1] (rP m)
   have j:=H.hd (by omega) K[0] (by rw[head?_eq_getElem?,getElem?_eq_getElem m])
   exact Co hh n j
  .have a:=H.adj (k-1) (by omega)
   have i:k-1+1=k:=by omega
   simp only[i]at a;exact a
structure jj (L:List aT):Prop where
 ok:∀ s∈L,bx s
 reg:Iz (L.map af)
 cn:∀ s∈L,Cn s
 lk:∀ k (hk:k<L.length),Lk (dO L k hk) L[k]
structure tf (h:Hf) (L K:List aT):Prop where
 ok:∀ u∈K,bx u
 nd:K.Nodup
 tri:qy (K.map af)
 cn:∀ u∈K,Cn u
 lk:∀ k (hk:k<K.length),Lk (dO K k hk) K[k]
 len:K.length<=L.length+2
 hold:∀ u∈K,bD (L.map af) (af u)/\0<=a6 h u
 kept:∀ s∈L,0<=a6 h s->s∈K
 cross:∀ k (hk:k<L.length),hZ h (dO L k hk) L[k]->dy h (dO L k hk) L[k]∈K
theorem P1 (hh:gm h)(R:jj L)(p:3<=L.length):tf h L (fV h L):=by
 have T:=fj R.reg;have ok:∀ i,i<L.length->bx (gt L i):=λi hi=>by rw[bE hi];exact R.ok _ (getElem_mem _)
 have n:oQ (λi=>af (gt L i)) L.length:=λa b c E F C=>by
  have:=T a b c E F (by rw[length_map];exact C)
  rw[getElem_map,getElem_map,getElem_map]at this;dsimp only;rw[bE (show a<L.length by omega),bE (show b<L.length by omega),bE C]
  exact this
 have lk:∀ k,k<L.length->Lk (gt L (bo L.length k)) (gt L k):=λk g=>by
  have:=R.lk k g;rw[gD g]at this;rw[bE g];exact this
 have e:fV h L=(KI h (gt L) L.length L.length).map (·.2.2):=by
  unfold fV;rw[wg];exact mm p ok n _ (le_refl _)
 rw[e];have mem:∀ u,u∈(KI h (gt L) L.length L.length).map (·.2.2)->∃ x:Itm,x.1<L.length/\Is h (gt L) L.length x/\u=x.2.2:=λu o=>by
  obtain⟨x,m,e⟩:=mem_map.mp o;exact⟨x,(cs.mp m).1,(cs.mp m).2,e.symm⟩
 refine⟨λu o=>?_,Nt p ok n,?_,λu o=>?_,λk g=>?_,?_,λu o=>?_,λs I G=>?_,λk g q=>?_⟩
 .obtain⟨x,m,hi,rfl⟩:=mem u o;exact(ua p ok n m hi).1
 .have:=Ey p ok n (h:=h);rw[map_map];exact this
 .obtain⟨x,m,hi,rfl⟩:=mem u o
  obtain⟨_,q,e⟩|⟨_,_,e⟩:=hi
  .rw[e];exact HN (ok _ (cu m)) (ok _ m) q hh.1 hh.2 (lk _ m)
  .rw[e,bE m];exact R.cn _ (getElem_mem _)
 .have H:=mq hh (show 0<L.length by omega) ok lk L.length (le_refl _)
  have D:bo L.length L.length=L.length-1:=by unfold bo;rw[if_neg (by omega)]
  rw[D]at H;exact qQ hh H k g
 .rw[length_map];exact Km p ok n hh.2
 .obtain⟨x,m,hi,rfl⟩:=mem u o;obtain⟨_,J,f⟩:=ua p ok n m hi;refine⟨⟨by rw[length_map];omega,λz=>by rw[length_map]at z;omega,λ_ k g=>?_⟩,f⟩
  rw[length_map]at g;have y:dO (L.map af) k (by rw[length_map];exact g)=af (gt L (bo L.length k)):=by
   rw[bE (cu g)];unfold dO bo
   split <;> rename_i e
   .simp[e]
   .simp[e]
  rw[y,getElem_map,<-bE g,<-aU];have B:lo L.length x.2.1 x.1<L.length:=by
   unfold lo
   split
   .exact cu m
   .exact m
  refine rV J _ _ ?_ ?_
  .rw[aU];exact gy (P:=λi=>af (gt L i)) n g B
  .rw[aU];exact gy (P:=λi=>af (gt L i)) n g m
 .obtain⟨j,v,rfl⟩:=getElem_of_mem I;refine mem_map.mpr ⟨(j,false,L[j]),cs.mpr ⟨v,.inr ⟨rfl,?_,?_⟩⟩,rfl⟩
  .rw[bE v];exact bY.mpr G
  .exact(bE v).symm
 .rw[gD g,<-bE g]at q ⊢;exact mem_map.mpr ⟨(k,true,_),cs.mpr ⟨g,.inl ⟨rfl,q,rfl⟩⟩,rfl⟩
theorem PY:tf h [] (fV h []):=by
 show tf h [] [];exact⟨λu e=>(nomatch e),nodup_nil,λa b c _ _ g=>(nomatch g),λu e=>(nomatch e),λk g=>(nomatch g),⋯,λu e=>(nomatch e),λu e=>(nomatch e),λk g=>(nomatch g)⟩
theorem sS (h:F.length<3):qy F:=λa b c e e e=>by omega
theorem xF:¬ hZ h p p:=λz=>by have:=ce.mp z;omega
theorem wA (o:¬ hZ h x.1 x.2):oO h ks x=if kR h x.2 then ks++[x.2] else ks:=by
 have c:¬ (hZ h x.1 x.2/\¬ dy h x.1 x.2∈ks):=λz=>o z.1;unfold oO
 by_cases k:kR h x.2
 .rw[if_pos k,if_pos k,if_neg c]
 .rw[if_neg k,if_neg k,if_neg c]
theorem PZ (R:jj [p]):tf h [p] (fV h [p]):=by
 have g:=R.ok p (by simp)
 have e:fV h [p]=if kR h p then [p] else []:=by
  show oO h [] (p,p)=_;rw[wA (x:=(p,p)) xF]
  rfl
 rw[e];have g:=R.lk 0 (by simp)
 have cross:∀ k (g:k < [p].length) (K:List aT),hZ h (dO [p] k g) [p][k]->dy h (dO [p] k g) [p][k]∈K:=λk g K o=>by
  have:k=0:=by simp at g;exact g
  subst this;exact absurd o xF
 by_cases g:kR h p
 .rw[if_pos g];refine⟨λu i=>R.ok u i,by simp,sS (by simp),R.cn,R.lk,by simp,λu i=>?_,λs m _=>m,λk j o=>cross k j _ o⟩
  obtain rfl:=mem_singleton.mp i;exact⟨⟨by simp,λ_=>⟨nr _ _,bS.mpr (Bf.irr _),bS.mpr (Bf.irr _)⟩,λz=>by simp at z⟩,bY.mp g⟩
 .rw[if_neg g];refine⟨λu i=>(nomatch i),nodup_nil,λa b c _ _ n=>(nomatch n),λu i=>(nomatch i),λk g=>(nomatch g),by simp,λu i=>(nomatch i),λs m i=>?_,λk j o=>cross k j _ o⟩
  obtain rfl:=mem_singleton.mp m;exact absurd (bY.mpr i) g
theorem P0 (hh:gm h)(R:jj [p,q]):tf h [p,q] (fV h [p,q]):=by
 have D:=R.ok p (by simp)
 have E:=R.ok q (by simp)
 have i:Bf (af p) (af q):=eD.mp (R.reg.fst 1 (by simp) ⋯)
 have J:p≠q:=λe=>by rw[e]at i;exact Bf.irr _ i
 have lk:Lk p q:=R.lk 1 (by simp)
 have e:fV h [p,q]=oO h (oO h [] (q,p)) (p,q):=rfl;have v:∀ u,td (af u) (af p) (af q)\/u=p\/u=q->bD ([p,q].map af) (af u):=λu g=>by
  refine⟨by simp,λ_=>?_,λz=>by simp at z⟩
  show a7 (af p) (af q) (af u)=0/\jU (af u) (af p)=false/\jU (af q) (af u)=false;rw[bS,bS]
  obtain m|rfl|rfl:=g
  .exact⟨nV m,Kv m (b8 D) (b8 E) i⟩
  .exact⟨fE _ _,Bf.irr _,i.asym⟩
  .exact⟨dD _ _,i.asym,Bf.irr _⟩
 have G:∀ k (j:k < [p,q].length),(dO [p,q] k j=q/\[p,q][k]=p)\/(dO [p,q] k j=p/\[p,q][k]=q):=λk j=>by
  have:k=0\/k=1:=by simp at j;omega
  obtain rfl|rfl:=this
  .exact .inl ⟨rfl,rfl⟩
  .exact .inr ⟨rfl,rfl⟩
 have y:∀ K:List aT,(∃ l,∀ u∈K,L1 l u)->∀ k (j:k<K.length),Lk (dO K k j) K[k]:=by rintro K ⟨l,i⟩ k j;exact⟨l,i _ (n8 j),i _ (getElem_mem _)⟩
 obtain⟨l,H,I⟩:=lk
 by_cases C:hZ h p q
 .have n:hZ h q p:=ce.mpr (by have:=ce.mp C;omega)
  obtain⟨Q,P,F⟩:=fC D E C;have ls:=vo D E C H I;have i:=HN D E C hh.1 hh.2 ⟨l,H,I⟩;have o:=ce.mp C;have M:∀ x:aT,(x=p\/x=q)->0<=a6 h x->(∀ s∈[p,q],0<=a6 h s->s=x)->tf h [p,q] [dy h p q,x]:=λx B L only=>by
   have O:bx x:=by obtain rfl|rfl:=B;exact D;exact E
   have lx:L1 l x:=by obtain rfl|rfl:=B;exact H;exact I
   have nx:dy h p q≠x:=λe=>by
    rw[e]at F
    rcases B with rfl|rfl <;> omega
   have all:∀ u∈[dy h p q,x],u=dy h p q\/u=x:=λu g=>by simpa using g
   refine⟨λu g=>?_,?_,sS (by simp),λu g=>?_,y _ ⟨l,λu g=>?_⟩,by simp,λu g=>?_,λs F E=>?_,λk j _=>?_⟩
   .rcases all u g with rfl|rfl;exact Q;exact O
   .simp[nx]
   .rcases all u g with rfl|rfl
    .exact i
    .rcases B with e|e <;> rw[e] <;> exact R.cn _ (by simp)
   .rcases all u g with rfl|rfl;exact ls;exact lx
   .rcases all u g with rfl|rfl
    .exact⟨v _ (.inl P),by omega⟩
    .exact⟨v _ (.inr B),L⟩
   .rw[only s F E];simp
   .rcases G k j with ⟨D,i⟩|⟨D,i⟩
    .rw[D,i,mi h q p];simp
    .rw[D,i];simp
  obtain⟨L,O⟩|⟨L,O⟩:=o
  .have i:fV h [p,q]=[dy h p q,p]:=by
    rw[e];have L:oO h [] (q,p)=[dy h p q,p]:=by
     unfold oO;dsimp only;rw[if_pos (bY.mpr (by omega)),if_pos (show _/\_ from⟨n,by simp⟩),mi h q p]
     rfl
    rw[L];unfold oO;dsimp only;rw[if_neg (λz=>by have:=bY.mp z;omega),if_neg (λz=>z.2 (by simp))]
   rw[i];exact M p (.inl rfl) (by omega) λs F E=>by
    obtain r|r:=mem_cons.mp F
    .exact r
    .have:=mem_singleton.mp r;rw[this]at E;omega
  .have i:fV h [p,q]=[dy h p q,q]:=by
    rw[e];have L:oO h [] (q,p)=[dy h p q]:=by
     unfold oO;dsimp only;rw[if_neg (λz=>by have:=bY.mp z;omega),if_pos (show _/\_ from⟨n,by simp⟩),mi h q p]
     rfl
    rw[L];unfold oO;dsimp only;rw[if_pos (bY.mpr (by omega)),if_neg (λz=>z.2 (by simp))]
    rfl
   rw[i];exact M q (.inr rfl) (by omega) λs F E=>by
    obtain r|r:=mem_cons.mp F
    .rw[r]at E;omega
    .exact mem_singleton.mp r
 .have n:¬ hZ h q p:=λz=>C (ce.mpr (by have:=ce.mp z;omega))
  have i:fV h [p,q]=[p,q].filter λs=>decide (kR h s):=by
   rw[e];rw[wA (x:=(q,p)) n,wA (x:=(p,q)) C];dsimp only
   by_cases a:kR h p <;> by_cases b:kR h q <;> simp[a,b]
  rw[i];have sub:∀ u∈[p,q].filter (λs=>decide (kR h s)),u∈[p,q]/\kR h u:=λu g=>by
   obtain⟨a,b⟩:=mem_filter.mp g;exact⟨a,of_decide_eq_true b⟩
  have L:([p,q].filter λs=>decide (kR h s)).length<=2:=length_filter_le _ [p,q];refine⟨λu g=>R.ok u (sub u g).1,?_,sS (by rw[length_map];omega),λu g=>R.cn u (sub u g).1,y _ ⟨l,λu g=>?_⟩,by simp only[length_cons,length_nil];omega,λu g=>⟨v u ?_,bY.mp (sub u g).2⟩,λs F E=>mem_filter.mpr ⟨F,decide_eq_true (bY.mpr E)⟩,λk j B=>?_⟩
  .have:[p,q].Nodup:=by simp[J]
   exact this.filter _
  .rcases mem_cons.mp (sub u g).1 with r|r
   .rw[r];exact H
   .rw[mem_singleton.mp r];exact I
  .rcases mem_cons.mp (sub u g).1 with r|r
   .exact .inr (.inl r)
   .exact .inr (.inr (mem_singleton.mp r))
  .rcases G k j with ⟨D,i⟩|⟨D,i⟩
   .rw[D,i]at B;exact absurd B n
   .rw[D,i]at B;exact absurd B C
theorem wY (hh:gm h)(R:jj L):tf h L (fV h L):=by
 match L,R with
 | [],_=>exact PY
 | [p],R=>exact PZ R
 | [p,q],R=>exact P0 hh R
 |p::q::r::l,R=>exact P1 hh R (by simp)
def fl (p:Pt):Hf:=(p.1,p.2,1)
theorem jR (p:Pt):af (fP p)=fl p:=by unfold af fP fl;simp
theorem xg (a b c:Pt):a7 (fl a) (fl b) (fl c)=cr a b c:=by unfold a7 fl cr;grind
theorem qD (a b:Pt):jU (fl a) (fl b)=true↔cN a b:=by
 unfold jU fl cN;simp only[mul_one]
 by_cases h:a.1=b.1
 .rw[if_neg (by simpa using h),decide_eq_true_eq];ext
 .rw[if_pos h,decide_eq_true_eq];ext
theorem wV (h:¬ cN a b):jU (fl a) (fl b)=false:=by
 cases e:jU (fl a) (fl b) with
 |false=>rfl
 |true=>exact absurd ((qD a b).mp e) h
theorem lex_irr (a:Pt):¬ cN a a:=by unfold cN;ext
theorem Cc (h:cN a b):¬ cN b a:=by unfold cN at *;ext
theorem Kn {S:List Pt}(h:S.Pairwise cN):∃ m:Pt,S.Pairwise λa b=>fn m a<fn m b:=by
 obtain⟨B,e,k⟩:∃ B:Int,0<=B/\∀ p∈S,-B<=p.2/\p.2<=B:=by
  clear h
  induction S with
  |nil=>exact⟨0,Int.le_refl _,λp g=>by cases g⟩
  |cons a S n=>
   obtain⟨B,e,e⟩:=n;refine⟨B+(a.2.natAbs:Int),⋯,λp g=>?_⟩
   obtain rfl|g:=mem_cons.mp g
   .ext
   .have:=e p g;ext
 refine⟨(2*B+1,1),?_⟩;rw[pairwise_iff_getElem]at h ⊢;intro i j hi n g;have e:=h i j hi n g;have g:=k _ (getElem_mem hi);have g:=k _ (getElem_mem n);unfold fn;dsimp only
 obtain e|⟨e,g⟩:=e
 .have g:(2*B+1)*(S[i].1+1)<=(2*B+1)*S[j].1:=Int.mul_le_mul_of_nonneg_left ⋯ ⋯
  rw[Int.mul_add]at g;ext
 .rw[e];ext
theorem gE (f:α->β)(H:List α)(k:Nat)(h:k<(H.map f).length):dO (H.map f) k h=f (dO H k (by simpa using h)):=by
 unfold dO
 split
 .simp
 .simp
theorem uh {S:List Pt}{m:Pt}(p:S.Pairwise cN)(o:S.Pairwise λa b=>fn m a<fn m b){a b:Pt}(k:a∈S)(n:b∈S)(h:cN a b):fn m a<fn m b:=by
 obtain⟨i,hi,rfl⟩:=getElem_of_mem k;obtain⟨j,g,rfl⟩:=getElem_of_mem n
 obtain e|e|e:=lt_trichotomy i j
 .exact pairwise_iff_getElem.mp o i j hi g e
 .subst e;exact absurd h (lex_irr _)
 .exact absurd (pairwise_iff_getElem.mp p j i g hi e) (Cc h)
structure u6 (S H:List Pt):Prop where
 reg:Iz (H.map fl)
 hold:∀ p∈S,bD (H.map fl) (fl p)
 sub:∀ p∈H,p∈S
 ne:H≠[]
theorem FX {S:List Pt}(hs:S.Pairwise cN)(C:S≠[]):u6 S (bQ S):=by
 unfold bQ
 match S,C,hs with
 | [p],_,_=>
  rw[if_pos (by simp)]
  refine⟨⟨λk j i=>by simp at j;ext,λh=>by simp at h⟩,λq g=>?_,λq g=>g,by simp⟩
  obtain rfl:=mem_singleton.mp g;refine⟨by simp,λ_=>?_,λh=>by simp at h⟩
  show a7 (fl q) (fl q) (fl q)=0/\jU (fl q) (fl q)=false/\jU (fl q) (fl q)=false;exact⟨by rw[xg,qN],wV (lex_irr q),wV (lex_irr q)⟩
 |n::o::l,_,hs=>
  rw[if_neg (by simp only[length_cons];ext)]
  obtain⟨m,g⟩:=Kn hs;obtain⟨R,i⟩:=Ee g;generalize lS (n::o::l)=H at R i;have n:=R.len;have g:=i ⋯
  have i:(H.map fl).length=H.length:=length_map ..;refine⟨⟨λk j B=>?_,λy k j v D i z=>?_⟩,λp o=>⟨⋯,λh=>?_,λz k j=>?_⟩,R.sub,λe=>by rw[e]at n;simp at n⟩
  .rw[getElem_map,getElem_map,qD,g];have i:=R.sub _ (getElem_mem (show k<H.length by ext))
   have y:=R.fst k ⋯ B
   rw[g]at y
   obtain h|h:=mem_cons.mp i
   .exact absurd h y
   .exact(pairwise_cons.mp hs).1 _ h
  .obtain⟨x,g,rfl⟩:=mem_map.mp D;rw[gE]at z ⊢;rw[getElem_map]at i ⊢;rw[xg];exact R.strict k ⋯ x g (λe=>z (by rw[e];rfl)) (λe=>i (by rw[e]))
  .have i:H.length=2:=⋯
   obtain⟨c,g,g,g,g⟩:=R.two i p o;have j:=R.sub _ (getElem_mem (show 0<H.length by ext))
   have n:=R.sub _ (getElem_mem (show 1<H.length by ext))
   have i:(H.map fl)[(H.map fl).length-1]'⋯=fl H[1]:=by
    rw[getElem_map]
    congr 2;ext
   rw[i,getElem_map,xg];refine⟨c,wV λh=>?_,wV λh=>?_⟩
   .have:=uh hs g o j h;ext
   .have:=uh hs g n o h;ext
  .rw[gE,getElem_map,xg];exact R.left k ⋯ p o
set_option maxHeartbeats 1000000
def um (L:List aT)(m:Nat):Nat:=(List.range m).foldl (λf k=>if Ku (gt L k) (gt L f)=true then k else f) 0
def J0 (L:List aT):List aT:=L.drop (um L L.length)++L.take (um L L.length)
theorem uo (L:List aT)(m:Nat):um L (m+1)=if Ku (gt L m) (gt L (um L m))=true then m else um L m:=by
 unfold um;rw[range_succ,foldl_append]
 rfl
theorem lc (ok:∀ s∈L,bx s)(n:0<L.length):∀ m,m<=L.length->um L m<L.length/\∀ j,j<m->¬ Bf (af (gt L j)) (af (gt L (um L m)))
 |0,_=>⟨n,λj o=>⋯⟩
 |m+1,q=>by
  obtain⟨k,p⟩:=lc ok n m ⋯
  have g:∀ i,i<L.length->bx (gt L i):=λi hi=>by rw[bE hi];exact ok _ (getElem_mem _)
  rw[uo,Cs (g m ⋯) (g _ k)]
  split
  .rename_i h;rw[eD]at h;refine⟨⋯,λj o=>?_⟩
   by_cases e:j=m
   .rw[e];exact Bf.irr _
   .exact λz=>p j ⋯ (Bf.trans (b8 (g j ⋯)) (b8 (g m ⋯)) (b8 (g _ k)) z h)
  .rename_i h;rw[eD]at h;refine⟨k,λj o=>?_⟩
   by_cases e:j=m
   .rw[e];exact h
   .exact p j ⋯
def og (n m i:Nat):Nat:=if i<n-m then m+i else i-(n-m)
theorem jC (h:m<n) (hi:i<n):og n m i<n:=by unfold og;split <;> ext
theorem kj (K:List α)(h:m<=K.length):(K.drop m++K.take m).length=K.length:=by
 rw[List.length_append,length_drop,length_take];ext
theorem ea {α:Type}{K:List α}{m i:Nat} (e:m<K.length) (hi:i<K.length):(K.drop m++K.take m)[i]'(by rw[kj K ⋯];exact hi)=K[og K.length m i]'(jC e hi):=by
 unfold og
 split
 .rename_i h;rw[getElem_append_left (by rw[length_drop];exact h),List.getElem_drop]
 .rename_i h;rw[List.getElem_append_right (by rw[length_drop];ext),List.getElem_take]
  simp only[length_drop]
theorem sk {α:Type}{K:List α}{m:Nat}{u:α}:u∈K.drop m++K.take m↔u∈K:=by
 rw[mem_append,Or.comm,<-mem_append,List.take_append_drop]
theorem wq {α:Type}{K:List α}{m i:Nat} (g:m<K.length) (hi:i<K.length):dO (K.drop m++K.take m) i (by rw[kj K ⋯];exact hi)=dO K (og K.length m i) (jC g hi):=by
 have n:=kj K (m:=m) ⋯
 unfold dO
 by_cases e:i=0
 .rw[dif_pos e];have h:(K.drop m++K.take m).length-1=K.length-1:=by rw[n]
  simp only[h];rw[ea g ⋯]
  subst e;have j:og K.length m 0=m:=by unfold og;rw[if_pos ⋯];rfl
  by_cases k:m=0
  .rw[dif_pos (by rw[j];exact k)]
   congr 1
   unfold og;rw[if_pos ⋯];ext
  .rw[dif_neg (by rw[j];exact k)]
   congr 1
   rw[j];unfold og;rw[if_neg ⋯];ext
 .rw[dif_neg e,ea g ⋯]
  by_cases z:og K.length m i=0
  .rw[dif_pos z]
   congr 1
   unfold og at z ⊢
   split at z
   .ext
   .rw[if_pos ⋯];ext
  .rw[dif_neg z]
   congr 1
   unfold og at z ⊢
   split at z
   .rw[if_pos ⋯,if_pos ⋯];ext
   .rename_i c;rw[if_neg ⋯,if_neg c];ext
theorem HB {F:List Hf}{m:Nat}(g:m<F.length)(T:qy F):qy (F.drop m++F.take m):=by
 intro a b c h h h;rw[kj F ⋯]at h
 rw[ea g ⋯,ea g ⋯,ea g h]
 unfold og
 by_cases h:c<F.length-m
 .simp only[if_pos h,if_pos (show b<F.length-m by ext),if_pos (show a<F.length-m by ext)]
  exact T _ _ _ ⋯ ⋯ _
 .by_cases e:b<F.length-m
  .simp only[if_neg h,if_pos e,if_pos (show a<F.length-m by ext)]
   rw[<-aU];exact T _ _ _ ⋯ ⋯ _
  .by_cases i:a<F.length-m
   .simp only[if_neg h,if_neg e,if_pos i];rw[aU];exact T _ _ _ ⋯ ⋯ _
   .simp only[if_neg h,if_neg e,if_neg i];exact T _ _ _ ⋯ ⋯ _
theorem D5 {h:Hf}{L K:List aT}(C:tf h L K):jj (J0 K)/\(∀ u,u∈J0 K↔u∈K)/\(J0 K).length=K.length:=by
 by_cases g:K.length=0
 .have e:K=[]:=length_eq_zero_iff.mp g;subst e;exact⟨⟨λu j=>(nomatch j),⟨λk g=>(nomatch g),λh=>(nomatch h)⟩,λu j=>(nomatch j),λk g=>(nomatch g)⟩,λu=>Iff.rfl,rfl⟩
 have p:0<K.length:=⋯
 obtain⟨i,n⟩:=lc C.ok p K.length (le_refl _);unfold J0;generalize um K K.length=m at i n;have o:=kj K (m:=m) ⋯
 have q:(K.drop m++K.take m).map af=(K.map af).drop m++(K.map af).take m:=by rw[map_append,map_drop,map_take]
 have T:qy ((K.drop m++K.take m).map af):=by
  rw[q];exact HB (by rw[length_map];exact i) C.tri
 refine⟨⟨λu j=>C.ok u (sk.mp j),⟨λk g q=>?_,λx k g v z q y=>wm T x k g v z q y⟩,λu j=>C.cn u (sk.mp j),λk g=>?_⟩,λu=>sk,o⟩
 .rw[length_map,o]at g;rw[getElem_map,getElem_map,ea i p,ea i g,eD];have p:og K.length m 0=m:=by unfold og;rw[if_pos ⋯];rfl
  have j:=jC i g;have q:og K.length m k≠m:=by unfold og;split <;> ext
  simp only[p];have a:=n _ j;rw[bE j,bE i]at a;have ne:K[m]≠K[og K.length m k]:=λe=>by
   obtain l|l|l:=lt_trichotomy m (og K.length m k)
   .exact pairwise_iff_getElem.mp C.nd _ _ i j l e
   .exact q l.symm
   .exact pairwise_iff_getElem.mp C.nd _ _ j i l e.symm
  exact(As (C.ok _ (getElem_mem _)) (C.ok _ (getElem_mem _)) ne).resolve_right a
 .have j:k<K.length:=by rw[o]at g;exact g
  rw[wq i j,ea i j];exact C.lk _ _
def gu (h:Hf)(L:List aT):List aT:=J0 (fV h L)
structure PL (h:Hf) (L K:List aT):Prop where
 reg:jj K
 len:K.length<=L.length+2
 hold:∀ u∈K,bD (L.map af) (af u)/\0<=a6 h u
 kept:∀ s∈L,0<=a6 h s->s∈K
 cross:∀ k (hk:k<L.length),hZ h (dO L k hk) L[k]->dy h (dO L k hk) L[k]∈K
theorem qK (hh:gm h)(R:jj L):PL h L (gu h L):=by
 have C:=wY hh R;obtain⟨a,b,c⟩:=D5 C;exact⟨a,by unfold gu;rw[c];exact C.len,λu e=>C.hold u ((b u).mp e),λs g e=>(b s).mpr (C.kept s g e),λk e o=>(b _).mpr (C.cross k e o)⟩
theorem qE (y:td q u u):(Bf q x↔Bf u x)/\(Bf x q↔Bf x u):=by
 obtain⟨g,i,j,k,m,m,m,p,v⟩:=y;have c0:0<i+j:=⋯
 have n:g*q.1=(i+j)*u.1:=by rw[m];grind
 have o:g*q.2.1=(i+j)*u.2.1:=by rw[p];grind
 have m:g*q.2.2=(i+j)*u.2.2:=by rw[v];grind
 generalize i+j=c at c0 n o m;have j:g*(q.1*x.2.2-x.1*q.2.2)=c*(u.1*x.2.2-x.1*u.2.2):=by
  have t:g*(q.1*x.2.2-x.1*q.2.2)=g*q.1*x.2.2-x.1*(g*q.2.2):=by grind
  rw[t,n,m];grind
 have n:g*(q.2.1*x.2.2-x.2.1*q.2.2)=c*(u.2.1*x.2.2-x.2.1*u.2.2):=by
  have t:g*(q.2.1*x.2.2-x.2.1*q.2.2)=g*q.2.1*x.2.2-x.2.1*(g*q.2.2):=by grind
  rw[t,o,m];grind
 have i:∀ {d e:Int},g*d=c*e->(0<d↔0<e)/\(d<0↔e<0):=λ{d e} h=>by
  constructor
  .exact⟨λz=>dm c0 (by rw[<-h];exact mul_pos k z),λz=>dm k (by rw[h];exact mul_pos c0 z)⟩
  .constructor
   .intro z;have:=dm (κ:=c) (x:=-e) c0 (by rw[mul_neg,<-h];have:=mul_neg_of_pos_of_neg k z;ext)
    ext
   .intro z;have:=dm (κ:=g) (x:=-d) k (by rw[mul_neg,h];have:=mul_neg_of_pos_of_neg c0 z;ext)
    ext
 have g:=i j;have g:=i n;unfold Bf;generalize q.1*x.2.2=A1 at *;generalize x.1*q.2.2=A2 at *;generalize u.1*x.2.2=A3 at *;generalize x.1*u.2.2=A4 at *;generalize q.2.1*x.2.2=B1 at *;generalize x.2.1*q.2.2=B2 at *;generalize u.2.1*x.2.2=B3 at *;generalize x.2.1*u.2.2=B4 at *;constructor <;> constructor <;> intro z <;> ext
theorem vx (g:td q u u)(v w:Hf):(0<=a7 v w u->0<=a7 v w q)/\(a7 v w u=0->a7 v w q=0):=by
 refine⟨λh=>?_,λh=>?_⟩
 .rw[<-aU];exact rV g v w (by rw[aU];exact h) (by rw[aU];exact h)
 .obtain⟨m,i,i,k,i,i,i,j,k⟩:=g;have e:=rT i j k v w;rw[aU q v w,aU u v w,h,mul_zero,mul_zero]at e
  obtain z | z:=mul_eq_zero.mp (show m*a7 v w q=0 by ext)
  .ext
  .exact z
theorem pM (R:jj L)(hs:s∈L)(i:td q (af s) (af s)):bD (L.map af) q:=by
 obtain⟨j,g,rfl⟩:=getElem_of_mem hs;have m:(L.map af).length=L.length:=length_map ..;have h:af L[j]∈L.map af:=mem_map.mpr ⟨_,getElem_mem g,rfl⟩;refine⟨⋯,λg=>?_,λg k n=>(vx i _ _).1 ?_⟩
 .rw[m]at g;rw[bS,bS,(qE i).1,(qE i).2];have g:(L.map af)[(L.map af).length-1]'⋯=af L[L.length-1]:=by
   rw[getElem_map];congr 2;ext
  rw[g,getElem_map];have z:j=0\/j=L.length-1:=⋯
  have o:L.length=2->Bf (af L[0]) (af L[L.length-1]):=λe=>by
   have:=R.reg.fst 1 (by rw[m];ext) ⋯
   rw[getElem_map,getElem_map,eD]at this;have g:L.length-1=1:=⋯
   simp only[g];exact this
  obtain z|z:=z
  .subst z;refine⟨(vx i _ _).2 (fE _ _),Bf.irr _,?_⟩
   by_cases e:L.length=2
   .exact(o e).asym
   .have g:L.length-1=0:=⋯
    simp only[g];exact Bf.irr _
  .subst z;refine⟨(vx i _ _).2 (dD _ _),?_,Bf.irr _⟩
   by_cases e:L.length=2
   .exact(o e).asym
   .have g:L.length-1=0:=⋯
    simp only[g];exact Bf.irr _
 .by_cases g:af L[j]=(L.map af)[k]
  .rw[g,dD];exact Int.le_refl _
  .by_cases m:af L[j]=dO (L.map af) k n
   .rw[m,fE];exact Int.le_refl _
   .exact le_of_lt (R.reg.trn ⋯ k n _ h g m)
def aS (h u:Hf):Int:=h.1*u.1+h.2.1*u.2.1-h.2.2*u.2.2
theorem cI (h:Hf)(s:aT):aS h (af s)=a6 h s:=(dY h s).symm
theorem Eo (p:Pt):bx (fP p):=⟨⟨by show(0:Int)<1;decide,by show Int.gcd p.1 1=1;simp⟩,by show(0:Int)<1;decide,by show Int.gcd p.2 1=1;simp⟩
theorem sO (h:1<=n):Sz n 1:=⟨by show 1<2 ^ n;exact Nat.one_lt_two_pow ⋯⟩
theorem sP:Sz n 0:=⟨Nat.two_pow_pos n⟩
set_option maxHeartbeats 1000000
theorem KU (e:κ*u.1=α*p.1+β*q.1)(g:κ*u.2.1=α*p.2.1+β*q.2.1)(h:κ*u.2.2=α*p.2.2+β*q.2.2):κ*aS l u=α*aS l p+β*aS l q:=by
 unfold aS;have t:κ*(l.1*u.1+l.2.1*u.2.1-l.2.2*u.2.2)=l.1*(κ*u.1)+l.2.1*(κ*u.2.1)-l.2.2*(κ*u.2.2):=by grind
 rw[t,e,g,h];grind
def Pz (L:List aT)(q:Hf):Prop:=∃ a b c:aT,a∈L/\b∈L/\c∈L/\∃ i e g h:Int,0<i/\0<=e/\0<=g/\0<=h/\i*q.1=e*(af a).1+g*(af b).1+h*(af c).1/\i*q.2.1=e*(af a).2.1+g*(af b).2.1+h*(af c).2.1/\i*q.2.2=e*(af a).2.2+g*(af b).2.2+h*(af c).2.2
theorem mw (g:κ*q.1=α*a.1+β*b.1+e*c.1)(h:κ*q.2.1=α*a.2.1+β*b.2.1+e*c.2.1)(i:κ*q.2.2=α*a.2.2+β*b.2.2+e*c.2.2):κ*aS l q=α*aS l a+β*aS l b+e*aS l c:=by
 unfold aS;have t:κ*(l.1*q.1+l.2.1*q.2.1-l.2.2*q.2.2)=l.1*(κ*q.1)+l.2.1*(κ*q.2.1)-l.2.2*(κ*q.2.2):=by grind
 rw[t,g,h,i];grind
def Cv (L:List aT)(q:Hf):Prop:=∀ l:Hf,(∀ s∈L,0<=aS l (af s))->0<=aS l q
theorem JA (h:Pz L q):Cv L q:=by
 obtain⟨a,b,c,o,p,v,g,g,g,g,x,i,j,c0,k,m,n⟩:=h;intro l g;have e:=mw (l:=l) k m n;have k:=mul_nonneg i (g a o);have i:=mul_nonneg j (g b p);have i:=mul_nonneg c0 (g c v);exact cQ x ⋯
theorem change (f:Nat->Int):∀ m,2<=m->0<=f 1->f m<=0->∃ i,1<=i/\i<m/\0<=f i/\f (i+1)<=0
 |0,h,_,_=>⋯
 |1,h,_,_=>⋯
 |m+2,_,e,g=>by
  by_cases h:0<=f (m+1)
  .exact⟨m+1,⋯,⋯,h,g⟩
  .by_cases j:m=0
   .subst j;exact absurd e h
   .obtain⟨i,k,p,n,o⟩:=change f (m+1) ⋯ e ⋯
    exact⟨i,k,⋯,n,o⟩
theorem Jz (a b c q:Hf):a7 a b c*q.1=a7 b c q*a.1+a7 c a q*b.1+a7 a b q*c.1/\a7 a b c*q.2.1=a7 b c q*a.2.1+a7 c a q*b.2.1+a7 a b q*c.2.1/\a7 a b c*q.2.2=a7 b c q*a.2.2+a7 c a q*b.2.2+a7 a b q*c.2.2:=by
 unfold a7;refine⟨?_,?_,?_⟩ <;> grind
theorem ez (R:jj L):oQ (λi=>af (gt L i)) L.length:=λa b c e g h=>by
 have:=fj R.reg a b c e g (by rw[length_map];exact h)
 rw[getElem_map,getElem_map,getElem_map]at this;dsimp only;rw[bE (show a<L.length by ext),bE (show b<L.length by ext),bE h]
 exact this
theorem iJ (h:bD (L.map af) q)(g:3<=L.length)(k:Nat)(e:k<L.length):0<=a7 (af (gt L (bo L.length k))) (af (gt L k)) q:=by
 have:=h.all (by rw[length_map];exact g) k (by rw[length_map];exact e)
 rw[gE,getElem_map,gD e,<-bE e]at this;exact this
theorem FA (hd:a7 p r q=0)(h:Bf p r)(e:¬ Bf q p)(g:¬ Bf r q)(j:0<p.2.2)(m:0<r.2.2)(k:0<q.2.2):∃ κ α β:Int,0<κ/\0<=α/\0<=β/\κ*q.1=α*p.1+β*r.1/\κ*q.2.1=α*p.2.1+β*r.2.1/\κ*q.2.2=α*p.2.2+β*r.2.2:=by
 unfold Bf at h e g;unfold a7 at hd
 obtain h|⟨h,i⟩:=h
 .refine⟨r.1*p.2.2-p.1*r.2.2,r.1*q.2.2-q.1*r.2.2,q.1*p.2.2-p.1*q.2.2,⋯,⋯,⋯,?_,?_,?_⟩
  .grind
  .grind
  .grind
 .have x:q.1*p.2.2-p.1*q.2.2=0:=by
   have:(q.1*p.2.2-p.1*q.2.2)*(r.2.1*p.2.2-p.2.1*r.2.2)=0:=by grind
   obtain z|z:=mul_eq_zero.mp this
   .exact z
   .ext
  have x:r.1*q.2.2-q.1*r.2.2=0:=by
   have:p.2.2*(r.1*q.2.2-q.1*r.2.2)=0:=by grind
   obtain z|z:=mul_eq_zero.mp this
   .ext
   .exact z
  refine⟨r.2.1*p.2.2-p.2.1*r.2.2,r.2.1*q.2.2-q.2.1*r.2.2,q.2.1*p.2.2-p.2.1*q.2.2,⋯,⋯,⋯,?_,?_,?_⟩
  .grind
  .grind
  .grind
theorem j1 (R:jj L)(B:0<q.2.2)(h:bD (L.map af) q):Pz L q:=by
 match L,R,h with
 | [],_,h=>exact absurd h.ne (by simp)
 | [p],R,h=>
  obtain⟨_,e,g⟩:=h.few (by simp)
  have e:¬ Bf q (af p):=bS.mp e;have g:¬ Bf (af p) q:=bS.mp g;have z:=b8 (R.ok p (by simp))
  unfold Bf at e g;refine⟨p,p,p,by simp,by simp,by simp,(af p).2.2,q.2.2,0,0,z,⋯,⋯,⋯,?_,?_,?_⟩
  .have:q.1*(af p).2.2=(af p).1*q.2.2:=⋯
   grind
  .have:q.2.1*(af p).2.2=(af p).2.1*q.2.2:=⋯
   grind
  .grind
 | [p,r],R,h=>
  obtain⟨o,e,g⟩:=h.few (by simp)
  have o:a7 (af p) (af r) q=0:=o;have e:¬ Bf q (af p):=bS.mp e;have g:¬ Bf (af r) q:=bS.mp g;have y:Bf (af p) (af r):=eD.mp (R.reg.fst 1 (by simp) ⋯)
  obtain⟨F,C,E,z,v,x,k,m,n⟩:=FA o y e g (b8 (R.ok p (by simp))) (b8 (R.ok r (by simp))) B
  exact⟨p,r,p,by simp,by simp,by simp,F,C,E,0,z,v,x,⋯,by rw[k];ext,by rw[m];ext,by rw[n];ext⟩
 |p::r::s::t,R,h=>
  have e:3<=(p::r::s::t).length:=by simp
  generalize p::r::s::t=L at R h e;have v:=ez R;have o:=iJ h e 1 ⋯
  have g:=iJ h e 0 ⋯
  have k:bo L.length 1=0:=rfl;have m:bo L.length 0=L.length-1:=rfl;rw[k]at o;rw[m]at g;obtain⟨i,g,g,g,m⟩:=change (λi=>a7 (af (gt L 0)) (af (gt L i)) q) (L.length-1) ⋯ o (by
   have:a7 (af (gt L 0)) (af (gt L (L.length-1))) q=-a7 (af (gt L (L.length-1))) (af (gt L 0)) q:=by unfold a7;grind
   show a7 (af (gt L 0)) (af (gt L (L.length-1))) q<=0;ext)
  have k:=iJ h e (i+1) ⋯
  have n:bo L.length (i+1)=i:=by unfold bo;rw[if_neg ⋯];rfl
  rw[n]at k;have g:0<=a7 (af (gt L 0)) (af (gt L i)) q:=g;have m:a7 (af (gt L 0)) (af (gt L (i+1))) q<=0:=m;have D:=v 0 i (i+1) ⋯ ⋯ ⋯
  obtain⟨e,m,n⟩:=Jz (af (gt L 0)) (af (gt L i)) (af (gt L (i+1))) q;have v:0<=a7 (af (gt L (i+1))) (af (gt L 0)) q:=by
   have:a7 (af (gt L (i+1))) (af (gt L 0)) q=-a7 (af (gt L 0)) (af (gt L (i+1))) q:=by unfold a7;grind
   ext
  have mem:∀ j,j<L.length->gt L j∈L:=λj o=>by rw[bE o];exact getElem_mem _
  exact⟨gt L 0,gt L i,gt L (i+1),mem _ ⋯,mem _ ⋯,mem _ ⋯,_,_,_,_,D,k,v,g,e,m,n⟩
def pU (a b:Hf):Hf:=(a.2.1*b.2.2-b.2.1*a.2.2,b.1*a.2.2-a.1*b.2.2,b.1*a.2.1-a.1*b.2.1)
theorem e5 (a b q:Hf):aS (pU a b) q=a7 a b q:=by unfold aS pU a7;grind
theorem mo (R:jj L)(C:0<q.2.2)(h:Cv L q):bD (L.map af) q:=by
 match L,R,h with
 | [],_,h=>
  have:=h (0,0,1) (λs o=>by cases o)
  unfold aS at this;dsimp only at this;ext
 | [p],R,h=>
  have B:=b8 (R.ok p (by simp))
  have all:∀ l:Hf,0<=aS l (af p)->0<=aS l q:=λl y=>h l (λs o=>by rw[mem_singleton.mp o];exact y)
  have g:=all ((af p).2.2,0,(af p).1) (by unfold aS;grind)
  have m:=all (-(af p).2.2,0,-(af p).1) (by unfold aS;grind)
  have n:=all (0,(af p).2.2,(af p).2.1) (by unfold aS;grind)
  have x:=all (0,-(af p).2.2,-(af p).2.1) (by unfold aS;grind)
  unfold aS at g m n x;dsimp only at g m n x;rw[zero_mul]at g m n x;simp only[neg_mul]at g m n x;rw[mul_comm (af p).2.2 q.1]at g m;rw[mul_comm (af p).2.2 q.2.1]at n x;refine⟨by simp,λ_=>⟨nr _ _,bS.mpr (λz=>?_),bS.mpr (λz=>?_)⟩,λz=>by simp at z⟩
  .have z:Bf q (af p):=z;unfold Bf at z;ext
  .have z:Bf (af p) q:=z;unfold Bf at z;ext
 | [p,r],R,h=>
  have B:=b8 (R.ok p (by simp))
  have n:=b8 (R.ok r (by simp))
  have x:Bf (af p) (af r):=eD.mp (R.reg.fst 1 (by simp) ⋯)
  have all:∀ l:Hf,0<=aS l (af p)->0<=aS l (af r)->0<=aS l q:=λl y n=>h l (λs o=>by
   obtain e|e:=mem_cons.mp o
   .rw[e];exact y
   .rw[mem_singleton.mp e];exact n)
  refine⟨by simp,λ_=>?_,λz=>by simp at z⟩
  show a7 (af p) (af r) q=0/\jU q (af p)=false/\jU (af r) q=false;generalize af p=u at *;generalize af r=v at *;have n:=all (pU u v) (by rw[e5,fE];exact Int.le_refl _) (by rw[e5,dD];exact Int.le_refl _)
  have y:=all (pU v u) (by rw[e5,dD];exact Int.le_refl _) (by rw[e5,fE];exact Int.le_refl _)
  rw[e5]at n y;have n:a7 v u q=-a7 u v q:=by unfold a7;grind
  have hd:a7 u v q=0:=⋯
  have n:=hd;unfold a7 at n;have n:¬ Bf q u/\¬ Bf v q:=by
   unfold Bf at x ⊢
   obtain x|⟨x,x⟩:=x
   .have g:=all (u.2.2,0,u.1) (by unfold aS;grind) (by unfold aS;dsimp only;rw[zero_mul,mul_comm u.2.2];ext)
    have m:=all (-v.2.2,0,-v.1) (by unfold aS;dsimp only;rw[zero_mul,neg_mul,neg_mul,mul_comm v.2.2];ext) (by unfold aS;grind)
    unfold aS at g m;dsimp only at g m;rw[zero_mul]at g m;simp only[neg_mul]at g m;rw[mul_comm u.2.2]at g;rw[mul_comm v.2.2]at m;have k1:q.1*u.2.2=u.1*q.2.2->q.2.1*u.2.2=u.2.1*q.2.2:=λe=>by
     have:(q.2.1*u.2.2-u.2.1*q.2.2)*(v.1*u.2.2-u.1*v.2.2)=0:=by grind
     obtain z|z:=mul_eq_zero.mp this
     .ext
     .ext
    have y:v.1*q.2.2=q.1*v.2.2->v.2.1*q.2.2=q.2.1*v.2.2:=λe=>by
     have:(v.2.1*q.2.2-q.2.1*v.2.2)*(v.1*u.2.2-u.1*v.2.2)=0:=by grind
     obtain z|z:=mul_eq_zero.mp this
     .ext
     .ext
    constructor
    .rintro(z|⟨z,x⟩)
     .ext
     .have:=k1 z;ext
    .rintro(z|⟨z,x⟩)
     .ext
     .have:=y z;ext
   .have y:q.1*u.2.2-u.1*q.2.2=0:=by
     have:(q.1*u.2.2-u.1*q.2.2)*(v.2.1*u.2.2-u.2.1*v.2.2)=0:=by grind
     obtain z|z:=mul_eq_zero.mp this
     .exact z
     .ext
    have y:v.1*q.2.2-q.1*v.2.2=0:=by
     have:u.2.2*(v.1*q.2.2-q.1*v.2.2)=0:=by grind
     obtain z|z:=mul_eq_zero.mp this
     .ext
     .exact z
    have g:=all (0,u.2.2,u.2.1) (by unfold aS;grind) (by unfold aS;dsimp only;rw[zero_mul,mul_comm u.2.2];ext)
    have m:=all (0,-v.2.2,-v.2.1) (by unfold aS;dsimp only;rw[zero_mul,neg_mul,neg_mul,mul_comm v.2.2];ext) (by unfold aS;grind)
    unfold aS at g m;dsimp only at g m;rw[zero_mul]at g m;simp only[neg_mul]at g m;rw[mul_comm u.2.2]at g;rw[mul_comm v.2.2]at m;constructor
    .rintro(z | ⟨z,x⟩) <;> ext
    .rintro(z | ⟨z,x⟩) <;> ext
  exact⟨hd,bS.mpr n.1,bS.mpr n.2⟩
 |p::r::s::t,R,h=>
  have g:3<=(p::r::s::t).length:=by simp
  generalize p::r::s::t=L at R h g;have n:=ez R;refine⟨by rw[length_map];ext,λz=>by rw[length_map]at z;ext,λ_ k g=>?_⟩
  rw[length_map]at g;rw[gE,getElem_map,gD g,<-bE g,<-e5];refine h _ λs o=>?_;obtain⟨j,m,rfl⟩:=getElem_of_mem o;rw[e5,<-bE m];exact gy (P:=λi=>af (gt L i)) n g m
theorem ii (R:jj L)(z:0<q.2.2):bD (L.map af) q↔Cv L q:=⟨λh=>JA (j1 R z h),mo R z⟩
set_option maxHeartbeats 1000000
def Oz (Q:Hf->Prop)(l:Hf):Prop:=∀ x,Q x->0<=aS l x
theorem yG (l u v w q:Hf):aS l q*a7 u v w=a7 v w q*aS l u+a7 w u q*aS l v+a7 u v q*aS l w:=by
 unfold aS a7;grind
theorem Nb (o:3<=n)(hi:i<n)(B:0<a6 h (G i)):3<=(KI h G n n).length:=by
 obtain⟨j,g,m,k,k⟩:∃ j,j<n/\bo n j=i/\j≠i/\j≠bo n i:=by
  by_cases e:i=n-1
  .refine⟨0,⋯,?_,⋯,?_⟩
   .unfold bo;rw[if_pos rfl];ext
   .unfold bo;rw[if_neg ⋯];ext
  .refine⟨i+1,⋯,?_,⋯,?_⟩
   .unfold bo;rw[if_neg ⋯];ext
   .unfold bo;split <;> ext
 have p:((i,false,G i):Itm)∈KI h G n n:=cs.mpr ⟨hi,.inr ⟨rfl,bY.mpr (show 0<=a6 h (G i) by ext),rfl⟩⟩
 obtain⟨x,q,ex⟩:∃ x:Itm,x∈KI h G n n/\((x.1=i/\x.2.1=true)\/(x.1=bo n i/\x.2.1=false)):=by
  by_cases z:0<=a6 h (G (bo n i))
  .exact⟨(bo n i,false,G (bo n i)),cs.mpr ⟨cu hi,.inr ⟨rfl,bY.mpr z,rfl⟩⟩,.inr ⟨rfl,rfl⟩⟩
  .exact⟨(i,true,dy h (G (bo n i)) (G i)),cs.mpr ⟨hi,.inl ⟨rfl,ce.mpr (by dsimp only;ext),rfl⟩⟩,.inl ⟨rfl,rfl⟩⟩
 obtain⟨y,v,k⟩:∃ y:Itm,y∈KI h G n n/\y.1=j:=by
  by_cases z:0<=a6 h (G j)
  .exact⟨(j,false,G j),cs.mpr ⟨g,.inr ⟨rfl,bY.mpr z,rfl⟩⟩,rfl⟩
  .exact⟨(j,true,dy h (G (bo n j)) (G j)),cs.mpr ⟨g,.inl ⟨rfl,ce.mpr (by dsimp only;rw[m];ext),rfl⟩⟩,rfl⟩
 have pn:=(gF o hi).1;have nd:[((i,false,G i):Itm),x,y].Nodup:=by
  simp only[nodup_cons,mem_cons,not_mem_nil,or_false,not_or,not_false_eq_true,and_true,nodup_nil];refine⟨⟨λe=>?_,λe=>?_⟩,λe=>?_⟩
  .have g:x.1=i:=by rw[<-e]
   have k:x.2.1=false:=by rw[<-e]
   obtain⟨_,z⟩|⟨z,_⟩:=ex
   .rw[z]at k;cases k
   .ext
  .have g:y.1=i:=by rw[<-e]
   ext
  .have g:x.1=y.1:=by rw[e]
   rcases ex with ⟨z,_⟩ | ⟨z,_⟩ <;> ext
 have:=List.Nodup.length_le_of_subset nd (l₂:=KI h G n n) (λz hz=>by
  simp only[mem_cons,not_mem_nil,or_false]at hz
  obtain rfl|rfl|rfl:=hz
  .exact p
  .exact q
  .exact v)
 exact this
theorem nF (hh:gm h)(R:jj L):(gu h L).length=(fV h L).length:=(D5 (wY hh R)).2.2
theorem qp (op:bx p)(e:bx r)(y:hZ h p r)(n:0<=aS l (af (dy h p r)))(z:0<=aS l (af p))(H:0<=A)(x:0<=B)(m:0<=A*aS h (af p)+B*aS h (af r))(s:0<a6 h p\/False):0<=A*aS l (af p)+B*aS l (af r):=by
 have s:=s.resolve_right id;have o:=ce.mp y;have D:a6 h r<0:=⋯
 obtain⟨_,v,c,C,c0,g,i,j⟩:=w4 op e (show a6 h p≠0 by ext) (show a6 h r≠0 by ext)
 have E:gi (a6 h r)=-a6 h r:=by unfold gi;rw[if_pos D]
 have D:gi (a6 h p)=a6 h p:=by unfold gi;rw[if_neg ⋯]
 rw[E,D]at g i j;rw[cI,cI]at m;have t:=KU (l:=l) (u:=af (dy h p r)) (p:=af p) (q:=af r) (κ:=v) (α:=c*-a6 h r) (β:=c*a6 h p) (by rw[g];grind) (by rw[i];grind) (by rw[j];grind)
 generalize aS l (af (dy h p r))=S at t n;generalize aS l (af p)=P at *;generalize aS l (af r)=Rr at *;generalize a6 h p=F at *;generalize a6 h r=G at *;refine cQ (κ:=c*F) (mul_pos c0 s) ?_;have k:c*F*(A*P+B*Rr)=B*(v*S)+c*(P*(A*F+B*G)):=by rw[t];grind
 rw[k];have g:=mul_nonneg x (mul_nonneg (le_of_lt C) n);have g:=mul_nonneg (le_of_lt c0) (mul_nonneg z m);ext
theorem yV (hh:gm h)(R:jj L)(zq:0<q.2.2)(hL:bD (L.map af) q)(Z:0<=aS h q):bD ((gu h L).map af) q:=by
 have C:=qK hh R;obtain⟨a,b,c,v,F,G,κ,I,J,M,E,a0,b0,c0,g,U,j⟩:=j1 R zq hL;have n:=λl=>mw (l:=l) g U j
 by_cases D:3<=L.length
 .have ok:∀ i,i<L.length->bx (gt L i):=λi hi=>by rw[bE hi];exact R.ok _ (getElem_mem _)
  have hT:=ez R;have eK:fV h L=(KI h (gt L) L.length L.length).map (·.2.2):=by
   unfold fV;rw[wg];exact mm D ok hT _ (le_refl _)
  by_cases k3:3<=(gu h L).length
  .let Q:Hf->Prop:=λx=>bD (L.map af) x/\0<=aS h x
   have O:u5 (Oz Q) h:=⟨λx X=>X.2,hh.2⟩;have Y:∀ k,k<L.length->zR (Oz Q) (gt L (bo L.length k)) (gt L k):=λk g=>by
    have B:(pU (af (gt L (bo L.length k))) (af (gt L k))).1≠0\/(pU (af (gt L (bo L.length k))) (af (gt L k))).2.1≠0:=by
     by_cases z:(pU (af (gt L (bo L.length k))) (af (gt L k))).1=0/\(pU (af (gt L (bo L.length k))) (af (gt L k))).2.1=0
     .exfalso;obtain⟨m,o,m1,m2⟩:∃ m,m<L.length/\m≠k/\m≠bo L.length k:=⟨bo L.length (bo L.length k),cu (cu g),(gF D g).2.1,(gF D g).2.2⟩;have j:=cY (P:=λi=>af (gt L i)) hT g o m1 m2;have p2:aS (pU (af (gt L (bo L.length k))) (af (gt L k))) (af (gt L k))=0:=by rw[e5,dD]
      have j:0<a7 (af (gt L (bo L.length k))) (af (gt L k)) (af (gt L m)):=j;rw[<-e5]at j;have z1:=b8 (ok k g);unfold aS at j p2;rw[z.1,z.2,zero_mul,zero_mul]at j p2;have z2:(pU (af (gt L (bo L.length k))) (af (gt L k))).2.2=0:=by
       obtain y | y:=mul_eq_zero.mp (show(pU (af (gt L (bo L.length k))) (af (gt L k))).2.2*(af (gt L k)).2.2=0 by ext)
       .exact y
       .ext
      rw[z2,zero_mul]at j;ext
     .by_cases z1:(pU (af (gt L (bo L.length k))) (af (gt L k))).1=0
      .exact .inr λz2=>z ⟨z1,z2⟩
      .exact .inl z1
    have A:∀ x,Q x->0<=aS (pU (af (gt L (bo L.length k))) (af (gt L k))) x:=λx X=>by
     rw[e5];exact iJ X.1 D k g
    refine⟨pU (af (gt L (bo L.length k))) (af (gt L k)),⟨A,B,?_⟩,⟨A,B,?_⟩⟩
    .rw[<-cI,e5,fE]
    .rw[<-cI,e5,dD]
   have H:=mq O (show 0<L.length by ext) ok Y L.length (le_refl _)
   have U:bo L.length L.length=L.length-1:=by unfold bo;rw[if_neg ⋯]
   rw[U,<-eK]at H;have U:=qQ O H;have Y:∀ u∈gu h L,Q (af u):=λu j=>⟨(C.hold u j).1,by rw[cI];exact(C.hold u j).2⟩
   have T:=fj C.reg.reg;refine⟨by rw[length_map];ext,λz=>by rw[length_map]at z;ext,λ_ k g=>?_⟩
   rw[length_map]at g;rw[gE,getElem_map];have X:zR (Oz Q) (dO (gu h L) k g) (gu h L)[k]:=by
    have j:0<(fV h L).length:=by rw[<-nF hh R];ext
    obtain⟨o,_⟩:=lc (wY hh R).ok j (fV h L).length (le_refl _);have j:k<(fV h L).length:=by rw[<-nF hh R];exact g
    have O:(gu h L)[k]=(fV h L)[og (fV h L).length (um (fV h L) (fV h L).length) k]'(jC o j):=ea o j;have g2:dO (gu h L) k g=dO (fV h L) (og (fV h L).length (um (fV h L) (fV h L).length) k) (jC o j):=wq o j;rw[O,g2];exact U _ _
   obtain⟨l,⟨gl,nl,j⟩,⟨_,_,O⟩⟩:=X;have X:=gD g;have U:=bE g;obtain⟨m,o,m1,m2⟩:∃ m,m<(gu h L).length/\m≠k/\m≠bo (gu h L).length k:=⟨bo (gu h L).length (bo (gu h L).length k),cu (cu g),(gF k3 g).2.1,(gF k3 g).2.2⟩;have pos:0<a7 (af (dO (gu h L) k g)) (af (gu h L)[k]) (af (gt (gu h L) m)):=by
    rw[X,<-U];exact cY (P:=λi=>af (gt (gu h L) i)) (ez C.reg) g o m1 m2
   have U:0<=aS l (af (gt (gu h L) m)):=gl _ (Y _ (by rw[bE o];exact getElem_mem _))
   have U:0<=aS l q:=gl _ ⟨hL,Z⟩;rw[<-cI]at j O;have cr:=yG l (af (dO (gu h L) k g)) (af (gu h L)[k]) (af (gt (gu h L) m)) q;rw[j,O,mul_zero,mul_zero]at cr;have g:0<aS l (af (gt (gu h L) m)):=by
    obtain z|z:=lt_or_le 0 (aS l (af (gt (gu h L) m)))
    .exact z
    .have o:aS l (af (gt (gu h L) m))=0:=⋯
     unfold aS at j O o;have:=xA nl j O o;ext
   have x:=mul_nonneg U (le_of_lt pos);refine cQ g ?_;rw[mul_comm];ext
  .
   have no:∀ s∈L,a6 h s<=0:=λs j=>by
    obtain z|z:=lt_or_le 0 (a6 h s)
    .exfalso;obtain⟨i,hi,rfl⟩:=getElem_of_mem j;rw[<-bE hi]at z;have:=Nb D hi z;have e:=nF hh R;rw[eK,length_map]at e;ext
    .exact z
   refine mo C.reg zq λl g=>?_;have fl:=n h;have O:∀ s∈L,∀ w:Int,0<=w->w*aS h (af s)<=0/\(w*aS h (af s)=0->0<=w*aS l (af s)):=λs j w o=>by
    have ns:=no s j;rw[<-cI]at ns;refine⟨mul_nonpos_of_nonneg_of_nonpos o ns,λe=>?_⟩
    obtain z|z:=mul_eq_zero.mp e
    .rw[z,zero_mul];exact Int.le_refl _
    .exact mul_nonneg o (g s (C.kept s j (by rw[<-cI];ext)))
   have U:=mul_nonneg (le_of_lt E) Z;have x1:=O a v I a0;have x2:=O b F J b0;have x3:=O c G M c0;have y1:=x1.2 ⋯
   have y2:=x2.2 ⋯
   have y3:=x3.2 ⋯
   have O:=n l;exact cQ E ⋯
 .refine mo C.reg zq λl g=>?_
  match L,R,C,D,g,v,F,G with
  | [],_,_,_,_,v,_,_=>cases v
  | [p],R,C,_,g,v,F,G=>
   rw[mem_singleton.mp v,mem_singleton.mp F,mem_singleton.mp G]at n;have O:=n (0,0,-1);have Y:=b8 (R.ok p (by simp))
   have hz:0<I+J+M:=by
    unfold aS at O;dsimp only at O;have:=mul_pos E zq
    obtain z|z:=lt_or_le 0 (I+J+M)
    .exact z
    .have t:κ*q.2.2=(I+J+M)*(af p).2.2:=by grind
     have:=mul_nonpos_of_nonpos_of_nonneg z (le_of_lt Y);ext
   have t:∀ m:Hf,κ*aS m q=(I+J+M)*aS m (af p):=λm=>by rw[n m];grind
   have O:0<=aS h (af p):=cQ hz (by rw[<-t];exact mul_nonneg (le_of_lt E) Z)
   have:=g p (C.kept p (by simp) (by rw[<-cI];exact O))
   exact cQ E (by rw[t];exact mul_nonneg (le_of_lt hz) this)
  | [p,r],R,C,_,g,v,F,G=>
   have op:=R.ok p (by simp)
   have X:=R.ok r (by simp)
   obtain⟨A,B,O,U,t⟩:∃ A B:Int,0<=A/\0<=B/\∀ m:Hf,κ*aS m q=A*aS m (af p)+B*aS m (af r):=by
    have one:∀ s∈[p,r],∀ w:Int,0<=w->∃ x y:Int,0<=x/\0<=y/\∀ m:Hf,w*aS m (af s)=x*aS m (af p)+y*aS m (af r):=λs j w o=>by
     obtain e|e:=mem_cons.mp j
     .exact⟨w,0,o,⋯,λm=>by rw[e];ext⟩
     .exact⟨0,w,⋯,o,λm=>by rw[mem_singleton.mp e];ext⟩
    obtain⟨x1,y1,j,j,j⟩:=one a v I a0;obtain⟨x2,y2,o,o,o⟩:=one b F J b0;obtain⟨x3,y3,v,v,v⟩:=one c G M c0;exact⟨x1+x2+x3,y1+y2+y3,⋯,⋯,λm=>by rw[n m,j m,o m,v m];grind⟩
   have j:=mul_nonneg (le_of_lt E) Z;rw[t]at j;have kp:0<=aS h (af p)->0<=aS l (af p):=λz=>g p (C.kept p (by simp) (by rw[<-cI];exact z))
   have v:0<=aS h (af r)->0<=aS l (af r):=λz=>g r (C.kept r (by simp) (by rw[<-cI];exact z))
   have jn:hZ h p r->0<=aS l (af (dy h p r)):=λo=>g _ (C.cross 1 (by simp) o)
   refine cQ E ?_;rw[t]
   by_cases Y:0<=aS h (af p)
   .by_cases g:0<=aS h (af r)
    .have:=mul_nonneg O (kp Y);have:=mul_nonneg U (v g);ext
    .by_cases n:aS h (af p)=0
     .rw[n,mul_zero]at j;have:B=0:=by
       obtain y|y:=lt_or_le 0 B
       .have:=mul_neg_of_pos_of_neg y (show aS h (af r)<0 by ext);ext
       .ext
      rw[this,zero_mul];have:=mul_nonneg O (kp Y);ext
     .have o:hZ h p r:=ce.mpr (by rw[<-cI,<-cI];ext)
      exact qp op X o (jn o) (kp Y) O U j (.inl (by rw[<-cI];ext))
   .by_cases g:0<=aS h (af r)
    .by_cases n:aS h (af r)=0
     .rw[n,mul_zero]at j;have:A=0:=by
       obtain y|y:=lt_or_le 0 A
       .have:=mul_neg_of_pos_of_neg y (show aS h (af p)<0 by ext);ext
       .ext
      rw[this,zero_mul];have:=mul_nonneg U (v g);ext
     .have o:hZ h r p:=ce.mpr (by rw[<-cI,<-cI];ext)
      have n:hZ h p r:=ce.mpr (by rw[<-cI,<-cI];ext)
      have c:=jn n;rw[mi]at c;rw[Int.add_comm]at j ⊢;exact qp X op o c (v g) U O j (.inl (by rw[<-cI];ext))
    .have:A=0/\B=0:=by
      have g:=mul_nonpos_of_nonneg_of_nonpos O (show aS h (af p)<=0 by ext)
      have g:=mul_nonpos_of_nonneg_of_nonpos U (show aS h (af r)<=0 by ext)
      constructor
      .rcases lt_or_le 0 A with y|y
       .have:=mul_neg_of_pos_of_neg y (show aS h (af p)<0 by ext);ext
       .ext
      .rcases lt_or_le 0 B with y|y
       .have:=mul_neg_of_pos_of_neg y (show aS h (af r)<0 by ext);ext
       .ext
     rw[this.1,this.2];ext
  |_::_::_::_,_,_,D,_,_,_,_=>exact absurd (by simp) D
theorem Nh (hh:gm h)(R:jj L)(g:0<q.2.2):bD ((gu h L).map af) q↔bD (L.map af) q/\0<=aS h q:=by
 refine⟨λe=>?_,λz=>yV hh R g z.1 z.2⟩;have C:=qK hh R;have k:=(ii C.reg g).mp e;refine⟨mo R g λl i=>k l λs e=>?_,k h λs e=>by rw[cI];exact(C.hold s e).2⟩
 exact(ii R (b8 (C.reg.ok s e))).mp (C.hold s e).1 l i
set_option maxHeartbeats 1000000
theorem G1 (e:bx p)(g:bx q)(k:0<κ)(n:κ*(af p).1=c*(af q).1)(o:κ*(af p).2.1=c*(af q).2.1)(v:κ*(af p).2.2=c*(af q).2.2):p=q:=by
 have i:=b8 e;have j:=b8 g;have c0:0<c:=by
  obtain z|z:=lt_or_le 0 c
  .exact z
  .have:=mul_pos k i;have:=mul_nonpos_of_nonpos_of_nonneg z (le_of_lt j);ext
 have m:td (af p) (af q) (af q):=⟨2*κ,c,c,⋯,c0,c0,by grind,by grind,by grind⟩
 by_cases h:p=q
 .exact h
 .rcases As e g h with z|z
  .exact absurd ((qE m).1.mp z) (Bf.irr _)
  .exact absurd ((qE m).2.mp z) (Bf.irr _)
theorem OO (R:jj L)(n:u∈L):∃ g:Hf,aS g (af u)=0/\∀ s∈L,s≠u->0<aS g (af s):=by
 match L,R,n with
 | [],_,n=>cases n
 | [p],_,n=>exact⟨(0,0,0),by unfold aS;simp,λs k h=>absurd ((mem_singleton.mp k).trans (mem_singleton.mp n).symm) h⟩
 | [p,r],R,n=>
  have o:Bf (af p) (af r):=eD.mp (R.reg.fst 1 (by simp) ⋯)
  have two:∀ s∈[p,r],s=p\/s=r:=λs k=>by simpa using k
  unfold Bf at o
  obtain rfl|rfl:=two u n
  .rcases o with o|⟨_,o⟩
   .refine⟨((af u).2.2,0,(af u).1),by unfold aS;grind,λs k h=>?_⟩
    rw[(two s k).resolve_left h];unfold aS;dsimp only;rw[zero_mul,mul_comm (af u).2.2];ext
   .refine⟨(0,(af u).2.2,(af u).2.1),by unfold aS;grind,λs k h=>?_⟩
    rw[(two s k).resolve_left h];unfold aS;dsimp only;rw[zero_mul,mul_comm (af u).2.2];ext
  .rcases o with o|⟨_,o⟩
   .refine⟨(-(af u).2.2,0,-(af u).1),by unfold aS;grind,λs k h=>?_⟩
    rw[(two s k).resolve_right h];unfold aS;dsimp only;rw[zero_mul,neg_mul,neg_mul,mul_comm (af u).2.2];ext
   .refine⟨(0,-(af u).2.2,-(af u).2.1),by unfold aS;grind,λs k h=>?_⟩
    rw[(two s k).resolve_right h];unfold aS;dsimp only;rw[zero_mul,neg_mul,neg_mul,mul_comm (af u).2.2];ext
 |a::b::c::t,R,n=>
  have C:3<=(a::b::c::t).length:=by simp
  generalize a::b::c::t=L at R n C;have z:=ez R;obtain⟨i,hi,rfl⟩:=getElem_of_mem n;obtain⟨j,B,y⟩:∃ j,j<L.length/\bo L.length j=i:=by
   by_cases e:i=L.length-1
   .exact⟨0,⋯,by unfold bo;rw[if_pos rfl];ext⟩
   .exact⟨i+1,⋯,by unfold bo;rw[if_neg ⋯];ext⟩
  let o:=pU (af (gt L (bo L.length i))) (af (gt L i))
  let q:=pU (af (gt L i)) (af (gt L j))
  have v:∀ x:Hf,aS (o.1+q.1,o.2.1+q.2.1,o.2.2+q.2.2) x=a7 (af (gt L (bo L.length i))) (af (gt L i)) x+a7 (af (gt L i)) (af (gt L j)) x:=λx=>by
   rw[<-e5,<-e5];show aS _ x=aS o x+aS q x;unfold aS;dsimp only;grind
  refine⟨(o.1+q.1,o.2.1+q.2.1,o.2.2+q.2.2),?_,λs k h=>?_⟩
  .rw[v,<-bE hi,dD,fE];rfl
  .obtain⟨m,o,rfl⟩:=getElem_of_mem k;rw[v,<-bE o];have q:m≠i:=λe=>h (by subst e;rfl)
   have v:=gy (P:=λi=>af (gt L i)) z hi o;have k:=gy (P:=λi=>af (gt L i)) z B o;have v:0<=a7 (af (gt L (bo L.length i))) (af (gt L i)) (af (gt L m)):=v;have k:0<=a7 (af (gt L (bo L.length j))) (af (gt L j)) (af (gt L m)):=k;rw[y]at k
   by_cases e:m=bo L.length i
   .have ne:=(gF C B).2.1;rw[y]at ne;have:=cY (P:=λi=>af (gt L i)) z B o (by rw[e];exact ne) (by rw[y];exact q)
    have this:0<a7 (af (gt L (bo L.length j))) (af (gt L j)) (af (gt L m)):=this;rw[y]at this;ext
   .have:=cY (P:=λi=>af (gt L i)) z hi o q e;have this:0<a7 (af (gt L (bo L.length i))) (af (gt L i)) (af (gt L m)):=this;ext
theorem qh {α:Type}{P:α->α->Prop}(as:∀ a b,P a b->¬ P b a):∀ {l m:List α},l.Pairwise P->m.Pairwise P->(∀ x,x∈l↔x∈m)->l=m
 | [],[],_,_,_=>rfl
 | [],b::m,_,_,h=>absurd ((h b).mpr mem_cons_self) (by simp)
 |a::l,[],_,_,h=>absurd ((h a).mp mem_cons_self) (by simp)
 |a::l,b::m,o,p,h=>by
  obtain⟨i,k⟩:=pairwise_cons.mp o;obtain⟨j,n⟩:=pairwise_cons.mp p;have e:a=b:=by
   obtain e|e:=mem_cons.mp ((h a).mp mem_cons_self)
   .exact e
   .rcases mem_cons.mp ((h b).mpr mem_cons_self) with g|g
    .exact g.symm
    .exact absurd (i b g) (as _ _ (j a e))
  subst e;refine congrArg _ (qh as k n λx=>⟨λg=>?_,λg=>?_⟩)
  .rcases mem_cons.mp ((h x).mp (mem_cons_of_mem _ g)) with e|e
   .subst e;exact absurd (i _ g) (as _ _ (i _ g))
   .exact e
  .rcases mem_cons.mp ((h x).mpr (mem_cons_of_mem _ g)) with e|e
   .subst e;exact absurd (j _ g) (as _ _ (j _ g))
   .exact e
set_option maxHeartbeats 1000000
def u7 (e:List aT)(D:List Hf)(L:List aT):Prop:=jj L/\L.length<=e.length+2*D.length/\∀ q:Hf,0<q.2.2->(bD (L.map af) q↔bD (e.map af) q/\∀ h∈D,0<=aS h q)
theorem OV (R:jj e):u7 e [] e:=⟨R,by simp,λq _=>⟨λh=>⟨h,λ_ hh=>(nomatch hh)⟩,λh=>h.1⟩⟩
theorem BX (hh:gm h)(I:u7 g D L):u7 g (D++[h]) (gu h L):=by
 obtain⟨R,e,e⟩:=I;have C:=qK hh R;refine⟨C.reg,by have:=C.len;rw[List.length_append,length_singleton];ext,λq z=>?_⟩
 rw[Nh hh R z,e q z];constructor
 .rintro⟨⟨a,b⟩,c⟩;refine⟨a,λx e=>?_⟩
  obtain e|e:=mem_append.mp e
  .exact b x e
  .rw[mem_singleton.mp e];exact c
 .rintro⟨a,b⟩;exact⟨⟨a,λx e=>b x (mem_append_left _ e)⟩,b h (mem_append_right _ (mem_singleton.mpr rfl))⟩
theorem NF (e:a≠0\/b≠0)(q:Hf):0<=aS (J6 a b c) q↔0<=aS (a,b,c) q:=by
 have i:0<(jg a b c:Int):=by have:=xn (c:=c) e;ext
 have j:=cb (BL a b c);have m:=cb (BM a b c);have n:=cb (J5 a b c);have k:(jg a b c:Int)*aS (J6 a b c) q=aS (a,b,c) q:=by
  unfold J6 aS;dsimp only;generalize a.fdiv (jg a b c)=x at *;generalize b.fdiv (jg a b c)=y at *;generalize c.fdiv (jg a b c)=z at *;generalize (jg a b c:Int)=g at *;rw[<-j,<-m,<-n];grind
 rw[<-k];exact⟨λh=>mul_nonneg (le_of_lt i) h,λh=>cQ i h⟩
theorem Nd (e:a≠0\/b≠0)(hz:dh 300 (a,b,c)):gm (J6 a b c):=by
 refine⟨⟨hz.1.fdiv _,hz.2.1.fdiv _,hz.2.2.fdiv _⟩,?_⟩
 obtain h|h:=e
 .exact .inl (xl (BL a b c) h)
 .exact .inr (xl (BM a b c) h)
theorem lN (e:p≠q)(x:Hf):0<=aS (vm p q) x↔0<=a7 (fl p) (fl q) x:=by
 have n:p.2-q.2≠0\/q.1-p.1≠0:=by
  by_cases a:p.2-q.2=0
  .exact .inr λb=>e (Prod.ext ⋯ ⋯)
  .exact .inl a
 unfold vm;rw[NF n];have:aS (p.2-q.2,q.1-p.1,(p.2-q.2)*p.1+(q.1-p.1)*p.2) x=a7 (fl p) (fl q) x:=by
  unfold aS a7 fl;grind
 rw[this]
theorem MV (e:p≠q)(z:SzF 110 p)(i:SzF 110 q):gm (vm p q):=by
 have n:p.2-q.2≠0\/q.1-p.1≠0:=by
  by_cases a:p.2-q.2=0
  .exact .inr λb=>e (Prod.ext ⋯ ⋯)
  .exact .inl a
 have g:Sz 120 (p.2-q.2):=(Sz.sub z.2 i.2).mono ⋯
 have h:Sz 120 (q.1-p.1):=(Sz.sub i.1 z.1).mono ⋯
 have j:Sz 300 ((p.2-q.2)*p.1+(q.1-p.1)*p.2):=(Sz.add (Sz.mul g z.1) (Sz.mul h z.2)).mono ⋯
 exact Nd n ⟨g.mono ⋯,h.mono ⋯,j⟩
theorem DN (z:SzF 115 p):L1 (1,0,p.1) (fP p):=⟨⟨sO ⋯,sP,z.1.mono ⋯⟩,.inl (show(1:Int)≠0 by decide),by unfold a6 fP;simp⟩
theorem Ny (z:SzF 115 p):L1 (0,1,p.2) (fP p):=⟨⟨sP,sO ⋯,z.2.mono ⋯⟩,.inr (show(1:Int)≠0 by decide),by unfold a6 fP;simp⟩
theorem Kq (z:SzF 115 p)(i:SzF 115 q):Lk (fP p) (fP q):=by
 by_cases e:p=q
 .subst e;exact⟨_,DN z,DN z⟩
 .have g:Sz 120 (p.2-q.2):=(Sz.sub z.2 i.2).mono ⋯
  have h:Sz 120 (q.1-p.1):=(Sz.sub i.1 z.1).mono ⋯
  have j:Sz 300 ((p.2-q.2)*p.1+(q.1-p.1)*p.2):=(Sz.add (Sz.mul g z.1) (Sz.mul h z.2)).mono ⋯
  have n:p.2-q.2≠0\/q.1-p.1≠0:=by
   by_cases a:p.2-q.2=0
   .exact .inr λb=>e (Prod.ext ⋯ ⋯)
   .exact .inl a
  have s:dh 300 (p.2-q.2,q.1-p.1,(p.2-q.2)*p.1+(q.1-p.1)*p.2):=⟨g.mono ⋯,h.mono ⋯,j⟩
  refine⟨(p.2-q.2,q.1-p.1,(p.2-q.2)*p.1+(q.1-p.1)*p.2),⟨s,n,?_⟩,⟨s,n,?_⟩⟩
  .unfold a6 fP;dsimp only;grind
  .unfold a6 fP;dsimp only;grind
theorem ga {S H:List Pt}(O:u6 S H)(z:∀ p∈H,SzF 115 p):jj (H.map fP):=by
 have g:(H.map fP).map af=H.map fl:=by rw[map_map];exact map_congr_left λp _=>jR p
 refine⟨λs e=>?_,by rw[g];exact O.reg,λs e=>?_,λk g=>?_⟩
 .obtain⟨p,_,rfl⟩:=mem_map.mp e;exact Eo p
 .obtain⟨p,h,rfl⟩:=mem_map.mp e;exact⟨_,_,DN (z p h),Ny (z p h),show(1:Int)*1-0*0≠0 by decide⟩
 .obtain⟨p,h,e⟩:=mem_map.mp (n8 g);obtain⟨q,j,i⟩:=mem_map.mp (getElem_mem g);rw[<-e,<-i];exact Kq (z p h) (z q j)
theorem oB (j:SetOf ps g)(i:ps≠[]):u6 g (bQ g):=by
 have h:g≠[]:=λe=>by
  cases ps with
  |nil=>exact i rfl
  |cons p ps=>have:=j.2.1 p mem_cons_self;rw[e]at this;cases this
 exact FX j.2.2 h
theorem Cw (H:List Pt):(H.map fP).map af=H.map fl:=by rw[map_map];exact map_congr_left λp _=>jR p
set_option maxHeartbeats 4000000
theorem rN {α:Type}(f:α->T){L:List α}{k:Nat}(h:k<L.length):atI (L.map f) (k:Int)=some (f L[k]):=dj (by rw[getElem?_map,getElem?_eq_getElem h];rfl)
theorem F5 {α:Type}(f:α->T){L:List α}(h:0<L.length):atI (L.map f) (-1)=some (f L[L.length-1]):=by
 have e:rM (L.map f).length (-1)=some (L.length-1):=by
  unfold rM;rw[length_map,if_neg ⋯,if_pos ⋯]
  congr 1;ext
 unfold atI;rw[e];show(L.map f)[L.length-1]?=_;rw[getElem?_map,getElem?_eq_getElem ⋯];rfl
theorem F6 {α:Type}(f:α->T){L:List α}{k:Nat}(e:k<L.length):atI (L.map f) ((k:Int)-1)=some (f (dO L k e)):=by
 unfold dO
 by_cases h:k=0
 .subst h;rw[dif_pos rfl];exact F5 f e
 .rw[dif_neg h];have:(k:Int)-1=((k-1:Nat):Int):=⋯
  rw[this];exact rN f ⋯
theorem df (h:eH n s)(l:n<=m):eH m s:=⟨⟨h.1.1.mono l,h.1.2.mono l⟩,h.2.1.mono l,h.2.2.mono l⟩
def NL (q:aT × aT):T:=.tup [spT q.1,spT q.2]
theorem uB (k n:Nat):bU (k:Int) (n+1)=.int k::bU ((k+1:Nat):Int) n:=by
 unfold bU;rw[range_succ_eq_map,map_cons,map_map]
 congr 1
 .simp;intro a _;ext
theorem FS (I:Nat->a9->Prop)(n:Nat)(E:I 0 i)(y:∀ i,I n i->D.nx i)
  (p:∀ k,k<n->∀ i,I k i->g (.int (k:Int)) i λv=>B {nx:=I (k+1),rt:=D.rt,bk:=D.nx,ct:=I (k+1)} v):yQ g B (bU 0 n) D i:=by
 refine⟨λm i=>∃ k j:Nat,m=bU (k:Int) j/\k+j=n/\I k i,⟨0,n,rfl,⋯,E⟩,?_,?_⟩
 .rintro i ⟨k,j,e,m,h⟩
  cases j with
  |zero=>exact y i (by rw[Nat.add_zero]at m;rw[<-m];exact h)
  |succ j=>rw[uB]at e;cases e
 .rintro x r i ⟨k,j,e,m,h⟩
  cases j with
  |zero=>cases e
  |succ j=>
   rw[uB]at e;obtain⟨rfl,rfl⟩:=List.cons.inj e;have q:=p k ⋯ i h
   have z:I (k+1)=λi=>∃ m o:Nat,bU ((k+1:Nat):Int) j=bU (m:Int) o/\m+o=n/\I m i:=by
    funext δ'
    refine propext ⟨λhi=>⟨k+1,j,rfl,⋯,hi⟩,?_⟩
    rintro⟨m,o,C,F,hi⟩;have:=congrArg List.length C;rw[f7,f7]at this;have:m=k+1:=⋯
    rw[<-this];exact hi
   show g _ i λv=>B {nx:=λi=>∃ m o:Nat,bU ((k+1:Nat):Int) j=bU (m:Int) o/\m+o=n/\I m i,rt:=D.rt,bk:=D.nx,ct:=λi=>∃ m o:Nat,bU ((k+1:Nat):Int) j=bU (m:Int) o/\m+o=n/\I m i} v;rw[<-z];exact q
def lC:aN:=λe R=>∃ p q:aT,e=[.t (spT p),.t (spT q)]/\eH 20000 p/\eH 20000 q/\R (.t (.bl (Ku p q)))
def oE:aN:=λe R=>∃ L:List aT,e=[.t (.lst (L.map spT))]/\L.length<=200/\R (.ol ((xM L).map NL))
def fN:aN:=λe R=>∃ L:List aT,e=[.t (.lst (L.map spT))]/\L.length<=400/\(∀ p∈L,bx p/\eH 20000 p)/\R (.ol ((J0 L).map spT))
def kA:aN:=λe R=>∃ (p q:Fr) (a b:Int),e=[.t (pK p),.t (.int a),.t (pK q),.t (.int b)]/\SzF 700 p/\SzF 700 q/\Sz 3200 a/\Sz 3200 b/\0<a/\0<b/\0<p.2/\0<q.2/\R (.t (pK (mxV p q a b)))
def iC:aN:=λe R=>∃ (h:Hf) (p q:aT),e=[.t (bd h),.t (spT p),.t (spT q)]/\dh 300 h/\eH 700 p/\eH 700 q/\bx p/\bx q/\a6 h p≠0/\a6 h q≠0/\R (.t (spT (dy h p q)))
def jK:aN:=λe R=>∃ (L:List aT) (h:Hf),e=[.t (.lst (L.map spT)),.t (bd h)]/\L.length<=180/\(∀ p∈L,bx p/\eH 700 p)/\dh 300 h/\R (.ol ((gu h L).map spT))
def kK:WS:=
 (aC (hI (wB (qt (ao aK (ae 0) (wC (.int 0))) (ao aK (ae 1) (wC (.int 0))))) (bw (aw dG (ac (ao aK (ae 0) (wC (.int 1))) (ac (ao aK (ae 1) (wC (.int 1))) ap)))) bz)
 (bw (aw dG (ac (ao aK (ae 0) (wC (.int 0))) (ac (ao aK (ae 1) (wC (.int 0))) ap)))))
def mN:WS:=
 (bw (dI 1 [0] (fk (ac (eh cZ (ac (ae 0) ap)) ap)) (aH 0) lG (bX (ac (ao aK (ae 1) (cL (ae 0) (wC (.int 1)))) (ac (ao aK (ae 1) (ae 0)) ap)))))
def eP:WS:=
 (aC (aG 1 (wC (.int 0)))
 (bZ (jS (fk (ac (eh cZ (ac (ae 0) ap)) ap)) (aH 2) (hI (wB (aw lC (ac (ao aK (ae 0) (ae 2)) (ac (ao aK (ae 0) (ae 1)) ap)))) (aG 1 (ae 2)) bz))
 (bw (ao yO (g0 (ae 0) (kF (ae 1)) gZ) (g0 (ae 0) gZ (kF (ae 1)))))))
def mL:WS:=
 (aC (aG 4 (cz (aV (aV (ao aK (ae 0) (wC (.int 0))) (ao aK (ae 2) (wC (.int 1)))) (ae 1)) (aV (aV (ao aK (ae 2) (wC (.int 0))) (ao aK (ae 0) (wC (.int 1)))) (ae 3))))
 (bw (aw gf (ac (ae 4) (ac (aV (aV (ao aK (ae 0) (wC (.int 1))) (ao aK (ae 2) (wC (.int 1)))) (cz (ae 1) (ae 3))) ap)))))
def g8:WS:=
 (aC (aG 3 (aV (eh hW (ac (aw dw (ac (ae 0) (ac (ae 2) ap))) ap)) (aw cJ (ac (ae 1) ap))))
 (aC (aG 4 (aV (eh hW (ac (aw dw (ac (ae 0) (ac (ae 1) ap))) ap)) (aw cJ (ac (ae 2) ap))))
 (aC (aG 5 (aw kA (ac (ao aK (ae 1) (wC (.int 0))) (ac (ae 3) (ac (ao aK (ae 2) (wC (.int 0))) (ac (ae 4) ap))))))
 (aC (aG 6 (aw kA (ac (ao aK (ae 1) (wC (.int 1))) (ac (ae 3) (ac (ao aK (ae 2) (wC (.int 1))) (ac (ae 4) ap))))))
 (bw (bX (ac (ae 5) (ac (ae 6) ap))))))))
def i0:WS:=
 (aC (aG 2 (iF ap))
 (bZ (jS (cj (aw oE (ac (ae 0) ap))) (aH 3) (bZ (hI (wB (EE (aV (aw gW (ac (ae 1) (ac (ao aK (ae 3) (wC (.int 0))) ap))) (aw gW (ac (ae 1) (ac (ao aK (ae 3) (wC (.int 1))) ap)))) (wC (.int 0)))) (aC (aG 4 (aw iC (ac (ae 1) (ac (ao aK (ae 3) (wC (.int 0))) (ac (ao aK (ae 3) (wC (.int 1))) ap)))))
 (hI (wB (EF (ae 4) (ae 2))) (eO 2 (ae 4)) bz)) bz)
 (hI (wB (Oe (aw gW (ac (ae 1) (ac (ao aK (ae 3) (wC (.int 1))) ap))) (wC (.int 0)))) (eO 2 (ao aK (ae 3) (wC (.int 1)))) bz)))
 (bw (aw fN (ac (ae 2) ap)))))
theorem zl:∀ g R,lC g R->kK {nx:=λ_=>R (.t .non),rt:=R} (aE ["one","other"] g):=by
 rintro g R ⟨⟨⟨x,j⟩,y,q⟩,⟨⟨g,i⟩,v,p⟩,rfl,⟨⟨B,C⟩,D,E⟩,⟨⟨k,m⟩,n,o⟩,h⟩;dsimp only at B C D E k m n o;show kK _ [some (.t (.tup [.tup [.int x,.int j],.tup [.int y,.int q]])),some (.t (.tup [.tup [.int g,.int i],.tup [.int v,.int p]]))]
 delta kK
 unfold Ku at h;symm
 by_cases e:x=g/\j=i
 .rw[if_pos (by simpa using e)]
  rw[if_pos (by rw[e.1,e.2])]at h
  exact⟨(y,q),(v,p),rfl,⟨D.mono ⋯,E.mono ⋯⟩,⟨n.mono ⋯,o.mono ⋯⟩,h⟩
 .rw[if_neg (by simpa using e)]
  rw[if_neg (λz=>e ⟨congrArg Prod.fst z,congrArg Prod.snd z⟩)]at h;exact⟨(x,j),(g,i),rfl,⟨B.mono ⋯,C.mono ⋯⟩,⟨k.mono ⋯,m.mono ⋯⟩,h⟩
theorem DM:∀ i R,oE i R->mN {nx:=λ_=>R (.t .non),rt:=R} (aE ["region"] i):=by
 rintro i R ⟨L,rfl,g,h⟩;show mN _ [some (.t (.lst (L.map spT)))]
 delta mN
 symm;refine⟨ki ⋯ (by rw[length_map];ext),?_⟩
 rw[length_map,toNat_natCast]
 let p:Nat->aT × aT:=λk=>if g:k<L.length then (dO L k g,L[k]) else (((0,0),(0,0)),((0,0),(0,0)))
 refine eu (f:=λk:Nat=>.int (0+(k:Int))) (h:=λk=>NL (p k)) (l:=List.range L.length) (λi=>∃ r,i=[r,some (.t (.lst (L.map spT)))]) (λk _=>rfl) (by rw[length_range];ext) ⟨_,rfl⟩ ?_ ?_
 .rintro k g i ⟨r,rfl⟩ Y y;have g:=mem_range.mp g;have e:p k=(dO L k g,L[k]):=dif_pos g;rw[Int.zero_add];symm;rw[eX (F6 spT g)];symm;rw[eX (rN spT g)];rw[e]at y;exact y _ ⟨_,rfl⟩
 .have e:(List.range L.length).map (λk=>NL (p k))=(xM L).map NL:=by unfold xM;rw[map_map];rfl
  rw[e];exact h
theorem pd:∀ n R,fN n R->eP {nx:=λ_=>R (.t .non),rt:=R} (aE ["corners","first","place"] n):=by
 rintro n R ⟨L,rfl,x,hz,h⟩;show eP _ [some (.t (.lst (L.map spT))),none,none]
 delta eP
 symm
 let I:Nat->a9->Prop:=λk j=>∃ r:Option S,j=[some (.t (.lst (L.map spT))),some (.t (.int (um L k))),r]
 refine⟨I L.length,?_,?_⟩
 .symm;refine⟨ki ⋯ (by rw[length_map];ext),?_⟩
  rw[length_map,toNat_natCast];refine FS I L.length ⟨_,rfl⟩ (λj h=>h) ?_;rintro k o j ⟨r,rfl⟩;obtain⟨i,_⟩:=lc (λp m=>(hz p m).1) (show 0<L.length by ext) k ⋯
  symm;rw[eX (rN spT o)];symm;rw[eX (rN spT i)];symm;refine⟨L[k],L[um L k],rfl,(hz _ (getElem_mem _)).2,(hz _ (getElem_mem _)).2,?_⟩;have e:=uo L k;rw[bE o,bE i]at e;symm
  split
  .rename_i c;rw[if_pos c]at e;exact⟨_,by rw[e]⟩
  .rename_i c;rw[if_neg c]at e;exact⟨_,by rw[e]⟩
 .rintro j ⟨r,rfl⟩;symm;have g:um L L.length<=L.length:=by
   by_cases e:0<L.length
   .exact Nat.le_of_lt (lc (λp m=>(hz p m).1) e L.length (le_refl _)).1
   .have:L=[]:=length_eq_zero_iff.mp ⋯
    subst this;exact le_refl _
  unfold J0 at h;generalize um L L.length=f at h g;have q:fW (L.map spT) (some (f:Int)) none=(L.drop f).map spT:=by
   unfold fW;rw[HT.sIx_nat,HT.sIx_none,length_map,min_eq_left g,<-map_drop,<-map_take];rw[take_of_length_le (by rw[length_drop];ext)]
  have v:fW (L.map spT) none (some (f:Int))=(L.take f).map spT:=by
   unfold fW;rw[HT.sIx_nat,HT.sIx_none,length_map,min_eq_left g,List.drop_zero,Nat.sub_zero,<-map_take]
  rw[q,v,<-map_append];exact⟨by simp only[length_map,length_drop,length_take];ext,h⟩
theorem CA (z:SzF 700 p)(e:SzF 700 q)(i:Sz 3200 a)(j:Sz 3200 b):Sz 5000 (p.1*q.2*a+q.1*p.2*b)/\Sz 5000 (p.2*q.2*(a+b))/\SzF 5000 (mxV p q a b):=by
 have h:Sz 5000 (p.1*q.2*a+q.1*p.2*b):=(Sz.add (Sz.mul (Sz.mul z.1 e.2) i) (Sz.mul (Sz.mul e.1 z.2) j)).mono ⋯
 have g:Sz 5000 (p.2*q.2*(a+b)):=(Sz.mul (Sz.mul z.2 e.2) (Sz.add i j)).mono ⋯
 exact⟨h,g,h.fdiv _,g.fdiv _⟩
theorem DJ:∀ j R,kA j R->mL {nx:=λ_=>R (.t .non),rt:=R} (aE ["one","one_weight","other","other_weight","top"] j):=by
 rintro j R ⟨⟨n,x⟩,⟨o,y⟩,a,b,rfl,⟨g,z⟩,⟨i,e⟩,sa,sb,j,j,j,k,h⟩;obtain⟨v,m,_⟩:=CA (p:=(n,x)) (q:=(o,y)) ⟨g,z⟩ ⟨i,e⟩ sa sb;dsimp only at g z i e j k v m;show mL _ [some (.t (.tup [.int n,.int x])),some (.t (.int a)),some (.t (.tup [.int o,.int y])),some (.t (.int b)),none]
 delta mL
 have n:x*y*(a+b)≠0:=by
  have:=mul_pos (mul_pos j k) (show 0<a+b by ext)
  ext
 symm;refine⟨bF g e ⋯ ⋯,bF (Sz.mul g e) sa ⋯ ⋯,bF i z ⋯ ⋯,bF (Sz.mul i z) sb ⋯ ⋯,bF z e ⋯ ⋯,bF (Sz.mul z e) (Sz.add sa sb) ⋯ ⋯,_,_,rfl,n,m.mono ⋯,?_⟩
 symm;exact h
theorem BH (hh:dh 300 h)(hs:eH 700 s):Sz 1750 (a6 h s):=by
 obtain⟨a,b,c⟩:=hh;obtain⟨⟨e,x⟩,g,y⟩:=hs;unfold a6;exact(Sz.sub (Sz.add (Sz.mul (Sz.mul a e) y) (Sz.mul (Sz.mul b g) x)) (Sz.mul c (Sz.mul x y))).mono ⋯
theorem Ad (h:Sz n x):Sz n (gi x):=by
 unfold gi
 split
 .exact⟨by rw[Int.natAbs_neg];exact h.lt⟩
 .exact h
theorem qw (hh:dh 300 h)(e:eH 700 p)(g:eH 700 q):Sz 3200 (gi (a6 h q)*(p.1.2*p.2.2)):=(Sz.mul (Ad (BH hh g)) (Sz.mul e.1.2 e.2.2)).mono ⋯
theorem MY (hh:dh 300 h)(e:eH 700 p)(g:eH 700 q):eH 5000 (dy h p q):=⟨(CA e.1 g.1 (qw hh e g) (qw hh g e)).2.2,(CA e.2 g.2 (qw hh e g) (qw hh g e)).2.2⟩
theorem ut:∀ m R,iC m R->g8 {nx:=λ_=>R (.t .non),rt:=R} (aE ["half","one","other","one_weight","other_weight","x","y"] m):=by
 rintro m R ⟨j,p,q,rfl,hh,g,i,o,k,y,eq,h⟩;show g8 _ [some (.t (bd j)),some (.t (spT p)),some (.t (spT q)),none,none,none,none]
 delta g8
 have sh:=kC hh (show 300<=300000 by decide)
 have B:=df g (show 700<=60000 by decide)
 have C:=df i (show 700<=60000 by decide)
 have e:0<p.1.2*p.2.2:=mul_pos o.1.1 o.2.1;have v:0<q.1.2*q.2.2:=mul_pos k.1.1 k.2.1;have z:Sz 1400 (p.1.2*p.2.2):=Sz.mul g.1.2 g.2.2;have m:Sz 1400 (q.1.2*q.2.2):=Sz.mul i.1.2 i.2.2;have E:=Ad (BH hh i);have D:=Ad (BH hh g);have k1:0<gi (a6 j q)*(p.1.2*p.2.2):=mul_pos (kW eq) e;have n:0<gi (a6 j p)*(q.1.2*q.2.2):=mul_pos (kW y) v;have v:=qw hh g i;have y:=qw hh i g;unfold dy at h;have e:∀ x:Int,(if x<0 then -x else x)=gi x:=λ_=>rfl
 symm;refine⟨j,q,rfl,sh,C,?_⟩;symm;refine⟨p,rfl,B,?_⟩;symm;rw[e];refine⟨bF E z ⋯ ⋯,j,p,rfl,sh,B,?_⟩
 symm;refine⟨q,rfl,C,?_⟩;symm;rw[e];refine⟨bF D m ⋯ ⋯,p.1,q.1,_,_,rfl,g.1,i.1,v,y,k1,n,o.1.1,k.1.1,?_⟩
 symm;refine⟨p.2,q.2,_,_,rfl,g.2,i.2,v,y,k1,n,o.2.1,k.2.1,?_⟩;symm;exact h
theorem Ej (a:Int):-1<=sgn a/\sgn a<=1:=by
 unfold sgn
 split
 .ext
 .split <;> ext
theorem Dz {s:aT}{ks:List aT}{y:S}{R:S->Prop}(m:tr y=.lst (ks.map spT))(g:s∈ks->R (.t (.bl false)))(i:¬ s∈ks->R (.t (.bl true))):nD (.t (spT s)) y R:=by
 unfold nD;rw[m];refine⟨by show 2<=20;decide,le_trans (fY bh _) ⋯,?_⟩
 by_cases h:s∈ks
 .have e:FY (tr (.t (spT s))) (ks.map spT)=true:=by
   unfold FY;rw[List.any_map,List.any_eq_true];exact⟨s,h,(bf s s).mpr rfl⟩
  rw[e];exact g h
 .have e:FY (tr (.t (spT s))) (ks.map spT)=false:=by
   unfold FY;rw[List.any_map,List.any_eq_false];intro x k j;exact h (((bf x s).mp j) ▸ k)
  rw[e];exact i h
theorem G0 (h:q∈xM L):q.1∈L/\q.2∈L:=by
 obtain⟨k,e,rfl⟩:=mem_map.mp h;have e:=mem_range.mp e;rw[dif_pos e];exact⟨n8 e,getElem_mem e⟩
theorem pJ (h:Hf)(pre:List (aT × aT))(q:aT × aT):(pre++[q]).foldl (oO h) []=oO h (pre.foldl (oO h) []) q:=by rw[foldl_append];rfl
theorem vT:Ok jK i0 ["region","half","kept","pair","spot"]:=by
 rintro ss R ⟨L,i,rfl,hl,hz,hh,h⟩;show i0 _ [some (.t (.lst (L.map spT))),some (.t (bd i)),none,none,none]
 delta i0
 symm;have Y:∀ p∈L,eH 60000 p:=λp E=>df (hz p E).2 ⋯
 have Q:dh 300000 i:=kC hh ⋯
 let K:List (aT × aT)->List aT->Prop:=λpre k=>k=pre.foldl (oO i) []/\k.length<=2*pre.length/\∀ p∈k,bx p/\eH 20000 p
 refine⟨λm=>∃ k F j,m=[some (.t (.lst (L.map spT))),some (.t (bd i)),some (.ol (k.map spT)),F,j]/\K (xM L) k,?_,?_⟩
 .refine⟨L,rfl,⋯,?_⟩
  dsimp only;rw[eE _ (bG (λ_=>rfl) _)];symm;refine⟨λts m=>∃ (pre g:List (aT × aT)) (k:List aT) (F j:Option S),xM L=pre++g/\ts=g.map NL/\m=[some (.t (.lst (L.map spT))),some (.t (bd i)),some (.ol (k.map spT)),F,j]/\K pre k,⟨[],xM L,[],_,_,rfl,rfl,rfl,by simp[K]⟩,?_,?_⟩
  .rintro m ⟨pre,g,k,F,j,y,H,rfl,U⟩;have:g=[]:=by simpa using H.symm
   subst this;rw[append_nil]at y;rw[y];exact⟨k,F,j,rfl,U⟩
  .rintro x ts m ⟨pre,g,k,F,j,y,H,rfl,U⟩
   cases g with
   |nil=>cases H
   |cons q g=>
    rw[map_cons]at H
    cases H
    obtain⟨J,v⟩:=G0 (L:=L) (q:=q) (by rw[y];simp)
    have hpl:pre.length<=180:=by
     have P:(xM L).length=L.length:=by unfold xM;simp
     rw[y]at P;simp only[List.length_append,length_cons]at P;ext
    obtain⟨I,X,B⟩:=U;have b1:=Ej (a6 i q.1);have b2:=Ej (a6 i q.2);have G:∀ {n:Nat}{k:List aT}{s:aT},k.length<=n->(∀ p∈k,bx p/\eH 20000 p)->bx s/\eH 20000 s->(k++[s]).length<=n+1/\∀ p∈k++[s],bx p/\eH 20000 p:=λ{n k s} h1 h2 h3=>⟨by rw[List.length_append,length_singleton];ext,λp E=>by
     obtain E|E:=mem_append.mp E
     .exact h2 p E
     .rw[mem_singleton.mp E];exact h3⟩
    have z2:bx q.2/\eH 20000 q.2:=⟨(hz _ v).1,df (hz _ v).2 ⋯⟩
    let k1:List aT:=if hZ i q.1 q.2/\¬ dy i q.1 q.2∈k then k++[dy i q.1 q.2] else k
    show aH 3 (.tup [spT q.1,spT q.2]) _ _;symm;refine⟨λm=>∃ (j:Option S),m=[some (.t (.lst (L.map spT))),some (.t (bd i)),some (.ol (k1.map spT)),some (.t (.tup [spT q.1,spT q.2])),j]/\k1.length<=2*pre.length+1/\∀ p∈k1,bx p/\eH 20000 p,?_,?_⟩
    .symm;refine⟨i,q.1,rfl,Q,Y _ J,i,q.2,rfl,Q,Y _ v,?_⟩;symm;refine⟨Gq ⋯ ⋯,?_⟩
     split
     .rename_i D;have ho:hZ i q.1 q.2:=D;have o:=ce.mp ho;refine⟨i,q.1,q.2,rfl,hh,(hz _ J).2,(hz _ v).2,(hz _ J).1,(hz _ v).1,⋯,⋯,?_⟩
      symm;have zs:bx (dy i q.1 q.2)/\eH 20000 (dy i q.1 q.2):=⟨(fC (hz _ J).1 (hz _ v).1 ho).1,df (MY hh (hz _ J).2 (hz _ v).2) ⋯⟩
      refine Dz (ks:=k) rfl (λC=>?_) (λC=>?_)
      .symm;have e:k1=k:=if_neg λz=>z.2 C;rw[e];exact⟨_,rfl,⋯,B⟩
      .symm;have e:k1=k++[dy i q.1 q.2]:=if_pos ⟨ho,C⟩;obtain⟨a1,O⟩:=G X B zs;rw[e];exact⟨by rw[length_map];ext,_,by rw[map_append];rfl,a1,O⟩
     .rename_i D;have e:k1=k:=if_neg λz=>D z.1;rw[e];exact⟨_,rfl,⋯,B⟩
    .rintro m ⟨M,rfl,l1,l2⟩;symm;refine⟨i,q.2,rfl,Q,Y _ v,?_⟩;symm
     split
     .rename_i Z;obtain⟨a1,O⟩:=G l1 l2 z2;refine⟨by rw[length_map];ext,pre++[q],g,k1++[q.2],some (.t (.tup [spT q.1,spT q.2])),M,by rw[y];simp,rfl,by rw[map_append];rfl,?_,?_,O⟩
      .rw[pJ,<-I];exact(if_pos (show kR i q.2 from Z)).symm
      .rw[List.length_append (as:=pre),length_singleton];ext
     .rename_i Z;refine⟨pre++[q],g,k1,some (.t (.tup [spT q.1,spT q.2])),M,by rw[y];simp,rfl,rfl,?_,?_,l2⟩
      .rw[pJ,<-I];exact(if_neg (show ¬ kR i q.2 from Z)).symm
      .rw[List.length_append,length_singleton];ext
 .rintro m ⟨k,F,j,rfl,k1,k2,k3⟩;have P:(xM L).length=L.length:=by unfold xM;simp
  symm;refine⟨k,rfl,⋯,k3,?_⟩
  dsimp only;rw[eE _ (bG (λ_=>rfl) _)];symm;unfold gu fV at h;rw[<-k1]at h;exact h
set_option maxHeartbeats 4000000
theorem JB (g:SetOf ps j)(hz:∀ p∈ps,SzF 115 p)(l:Hf):(∀ p∈bQ j,0<=aS l (fl p))↔∀ p∈ps,0<=aS l (fl p):=by
 cases ps with
 |nil=>
  have e:j=[]:=by
   cases j with
   |nil=>rfl
   |cons p r=>have:=g.1 p mem_cons_self;cases this
  subst e;simp[bQ]
 |cons i r=>
  have O:=oB g (by simp)
  have R:=ga O λp i=>hz p (g.1 p (O.sub p i));constructor
  .intro h p i;have k:=O.hold p (g.2.1 p i);rw[<-Cw]at k;refine(ii R (show(0:Int)<1 by decide)).mp k l λs m=>?_
   obtain⟨n,k,rfl⟩:=mem_map.mp m;rw[jR];exact h n k
  .intro h p i;exact h p (g.1 p (O.sub p i))
theorem BR (e:SetOf ps j)(g:ps≠[])(hz:∀ p∈ps,SzF 115 p)(z:0<q.2.2):bD (((bQ j).map fP).map af) q↔∀ l:Hf,(∀ p∈ps,0<=aS l (fl p))->0<=aS l q:=by
 have O:=oB e g;have R:=ga O λp i=>hz p (e.1 p (O.sub p i));rw[ii R z];unfold Cv;refine forall_congr' λl=>?_;rw[<-JB e hz l];refine imp_congr ⟨λh p i=>?_,λh s k=>?_⟩ Iff.rfl
 .have:=h (fP p) (mem_map.mpr ⟨p,i,rfl⟩)
  rwa [jR]at this
 .obtain⟨m,i,rfl⟩:=mem_map.mp k;rw[jR];exact h m i
def a5 (v f:Pt):Int:=v.1*f.1+v.2*f.2
def jn (u v:Pt):Int:=u.1*v.2-u.2*v.1
def ahead (vs:List Pt)(f:Pt):Nat:=vs.countP λv=>decide (0<=a5 v f)
def B5 (w:Pt)(t:Int):Pt:=(-w.2*t-w.1,w.1*t-w.2)
theorem JI (w v:Pt)(t:Int):a5 v (B5 w t)=t*jn w v-a5 w v:=by
 unfold a5 B5 jn;grind
def ux (w v:Pt):Bool:=decide (0<jn w v\/(jn w v=0/\a5 w v<=0))
theorem vN (h:0<t)(e:x<=-1):t*x<=-t:=by
 have:=Int.mul_le_mul_of_nonneg_left e (le_of_lt h);omega
theorem vM {t x:Int}(h:0<t)(e:1<=x):t<=t*x:=by
 have:=Int.mul_le_mul_of_nonneg_left e (le_of_lt h);omega
theorem OT {t c d:Int}(i:d<t)(j:-t<d):0<=t*c+d↔0<c\/(c=0/\0<=d):=by
 have e:0<t:=by omega
 constructor
 .intro h
  by_cases g:c=0
  .subst g;rw[mul_zero]at h;exact .inr ⟨rfl,by omega⟩
  .refine .inl ?_
   by_cases p:0<c
   .exact p
   .have:=vN e (show c<=-1 by omega)
    omega
 .rintro(h|⟨rfl,h⟩)
  .have:=vM e (show 1<=c by omega)
   omega
  .rw[mul_zero];omega
theorem F7 (g:a5 w v<t)(i:-t<a5 w v):decide (0<=a5 v (B5 w t))=ux w v:=by
 rw[JI];unfold ux;have:=OT (c:=jn w v) (d:=-a5 w v) (t:=t) (by omega) (by omega)
 rw[decide_eq_decide];rw[show t*jn w v-a5 w v=t*jn w v + -a5 w v by omega,this]
 constructor
 .rintro(h|⟨h,e⟩)
  .exact .inl h
  .exact .inr ⟨h,by omega⟩
 .rintro(h|⟨h,e⟩)
  .exact .inl h
  .exact .inr ⟨h,by omega⟩
theorem Ae (h:∀ v∈vs,a5 w v<t/\-t<a5 w v):ahead vs (B5 w t)=vs.countP (ux w):=by
 unfold ahead;refine countP_congr λv e=>?_;rw[F7 (h v e).1 (h v e).2]
theorem uK (x:Int):0<=x*x:=by
 obtain h|h:=Int.le_total 0 x
 .exact mul_nonneg h h
 .exact mul_nonneg_of_nonpos_of_nonpos h h
theorem Er {x:Int}(h:x≠0):0<x*x:=by
 have:=uK x;have:x*x≠0:=λz=>by
  rcases mul_eq_zero.mp z with e|e <;> exact h e
 omega
theorem Ly {w g:Pt}(h:a5 w g<0):0<w.1*w.1+w.2*w.2:=by
 have a:=uK w.1 ;have b:=uK w.2
 by_cases e:w.1=0
 .by_cases i:w.2=0
  .unfold a5 at h;rw[e,i]at h;omega
  .have:=Er i;omega
 .have:=Er e;omega
theorem vp (u v w g:Pt):jn u w*a5 v g=jn u v*a5 w g+jn v w*a5 u g:=by
 unfold jn a5;grind
theorem vd (w v g:Pt):a5 v g*(w.1*w.1+w.2*w.2)=a5 w v*a5 w g+jn w v*jn w g:=by
 unfold jn a5;grind
theorem lU (g:Pt):∀ vs:List Pt,(∀ v∈vs,0<=a5 v g)\/∃ w∈vs,a5 w g<0/\∀ v∈vs,a5 v g<0->jn w v<=0
 | []=>.inl λv h=>by cases h
 |u::vs=>by
  obtain h|⟨w,m,i,j⟩:=lU g vs
  .by_cases k:0<=a5 u g
   .refine .inl λv e=>?_
    obtain z|z:=mem_cons.mp e
    .subst z;exact k
    .exact h v z
   .refine .inr ⟨u,mem_cons_self,by omega,λv e n=>?_⟩
    obtain z|z:=mem_cons.mp e
    .subst z;have:jn v v=0:=by unfold jn;grind
     omega
    .have:=h v z;omega
  .by_cases k:0<=a5 u g
   .refine .inr ⟨w,mem_cons_of_mem _ m,i,λv e n=>?_⟩
    obtain z|z:=mem_cons.mp e
    .subst z;omega
    .exact j v z n
   .by_cases k:jn w u<=0
    .refine .inr ⟨w,mem_cons_of_mem _ m,i,λv e n=>?_⟩
     obtain z|z:=mem_cons.mp e
     .subst z;exact k
     .exact j v z n
    .refine .inr ⟨u,mem_cons_self,by omega,λv e n=>?_⟩
     obtain z|z:=mem_cons.mp e
     .subst z;have:jn v v=0:=by unfold jn;grind
      omega
     .have e:=j v z n;have e:jn u w=-jn w u:=by unfold jn;grind
      have key:=vp u w v g;have p:0<=jn u w*a5 v g:=mul_nonneg_of_nonpos_of_nonpos (by omega) (by omega)
      have p:0<=jn w v*a5 u g:=mul_nonneg_of_nonpos_of_nonpos (by omega) (by omega)
      by_cases p:jn u v<=0
      .exact p
      .have:=mul_neg_of_pos_of_neg (a:=jn u v) (b:=a5 w g) (by omega) i
       omega
theorem uy (j:a5 w g<0)(i:a5 v g<0)(k:jn w v<=0):ux w v=false:=by
 unfold ux;rw[decide_eq_false_iff_not];rintro(h|⟨e,hd⟩)
 .omega
 .have key:=vd w v g;rw[e,zero_mul,Int.add_zero]at key;have p:=Int.mul_neg_of_neg_of_pos i (Ly j);have p:=mul_nonneg_of_nonpos_of_nonpos hd (by omega:a5 w g<=0)
  omega
theorem tq (vs:List Pt)(g:Pt):vs.length<=ahead vs g\/∃ w∈vs,w≠(0,0)/\vs.countP (ux w)<=ahead vs g:=by
 obtain h|⟨w,k,e,j⟩:=lU g vs
 .refine .inl ?_;have:ahead vs g=vs.length:=by
   unfold ahead;rw[List.countP_eq_length];exact λv i=>decide_eq_true (h v i)
  omega
 .refine .inr ⟨w,k,λz=>?_,?_⟩
  .subst z;unfold a5 at e;simp at e
  .unfold ahead;refine List.countP_mono_left λv i p=>?_;rw[decide_eq_true_eq]
   by_cases n:0<=a5 v g
   .exact n
   .rw[uy e (by omega) (j v i (by omega))]at p
    cases p
theorem mU (vs:List Pt)(g:Pt):ahead vs g<=vs.length:=List.countP_le_length
def mQ (vs:List Pt)(n:Nat):Prop:=(∃ f:Pt,f≠(0,0)/\ahead vs f=n)/\∀ g:Pt,g≠(0,0)->n<=ahead vs g
theorem vF (h:mQ vs m)(k:mQ vs n):m=n:=by
 obtain⟨⟨f,h1,h2⟩,h3⟩:=h;obtain⟨⟨g,k1,k2⟩,k3⟩:=k;have:=h3 g k1;have:=k3 f h1;omega
theorem AC (vs:List Pt):∃ n,mQ vs n:=by
 have key:∀ (n:Nat) (f:Pt),f≠(0,0)->ahead vs f<=n->∃ m,mQ vs m:=by
  intro n
  induction n with
  |zero=>exact λf e h=>⟨0,⟨f,e,by omega⟩,λg _=>zero_le _⟩
  |succ n k=>
   intro f e h
   by_cases x:∃ g:Pt,g≠(0,0)/\ahead vs g<=n
   .obtain⟨g,i,j⟩:=x;exact k g i j
   .refine⟨n+1,⟨f,e,?_⟩,λg i=>?_⟩
    .have:¬ ahead vs f<=n:=λz=>x ⟨f,e,z⟩;omega
    .have:¬ ahead vs g<=n:=λz=>x ⟨g,i,z⟩;omega
 exact key vs.length (1,0) ⋯ (mU _ _)
noncomputable def l7 (vs:List Pt):Nat:=Classical.choose (AC vs)
theorem jx (vs:List Pt):mQ vs (l7 vs):=Classical.choose_spec (AC vs)
theorem vw (h:mQ vs n):l7 vs=n:=vF (jx vs) h
def zQ (vs:List Pt)(fs:List Pt):Prop:=(∀ f∈fs,f≠(0,0))/\fs≠[]/\∀ w∈vs,w≠(0,0)->∃ f∈fs,ahead vs f=vs.countP (ux w)
theorem vB (h:zQ vs fs)(m:f∈fs)(n:∀ g∈fs,ahead vs f<=ahead vs g):mQ vs (ahead vs f):=by
 obtain⟨i,j,j⟩:=h;refine⟨⟨f,i f m,rfl⟩,λg i=>?_⟩
 obtain z|⟨w,p,o,z⟩:=tq vs g
 .have:=mU vs f;omega
 .obtain⟨k,i,e⟩:=j w p o;have:=n k i;omega
theorem Nj {w:Pt}{t:Int}(h:w≠(0,0)):B5 w t≠(0,0):=λz=>by
 have g:-w.2*t-w.1=0:=congrArg Prod.fst z;have g:w.1*t-w.2=0:=congrArg Prod.snd z;have e:w.1*w.1+w.2*w.2=0:=by
  have g:w.1=-w.2*t:=by omega
  have i:w.2=w.1*t:=by omega
  have a:w.1*w.1=-(w.2*(w.1*t)):=by
   have:w.1*w.1=w.1*(-w.2*t):=by rw[<-g]
   rw[this];grind
  rw[a,<-i];omega
 have a:=uK w.1;have b:=uK w.2;apply h;have g:w.1=0:=by
  by_cases z:w.1=0
  .exact z
  .have:=Er z;omega
 have i:w.2=0:=by
  by_cases z:w.2=0
  .exact z
  .have:=Er z;omega
 exact Prod.ext g i
def lf (u v:Pt):Bool:=decide (0<jn u v)
def rb (h:Hf)(p:Pt):Bool:=decide (h.2.2<=h.1*p.1+h.2.1*p.2)
def ft (h:Hf)(ps:List Pt):Nat:=ps.countP (rb h)
def jO:aN:=λg R=>∃ (h:Hf) (e:List Pt),g=[.t (bd h),.t (.lst (e.map aW))]/\dh 60000 h/\(∀ p∈e,SzF 60000 p)/\e.length<10000/\R (.t (.int (ft h e)))
def ja:WS:=
 (bw (eh cZ (ac (dI 1 [0] (cj (ae 1)) (aH 0) (wB (Oe (cz (aV (ao aK (ae 1) (wC (.int 0))) (ao aK (ae 0) (wC (.int 0)))) (aV (ao aK (ae 1) (wC (.int 1))) (ao aK (ae 0) (wC (.int 1))))) (ao aK (ae 1) (wC (.int 2))))) (ae 0)) ap)))
theorem v5:∀ e R,jO e R->ja {nx:=λ_=>R (.t .non),rt:=R} (aE ["half","points"] e):=by
 rintro e R ⟨⟨a,b,c⟩,o,rfl,⟨q,v,z⟩,n,D,h⟩;dsimp only at q v z;show ja _ [some (.t (.tup [.int a,.int b,.int c])),some (.t (.lst (o.map aW)))]
 delta ja
 symm;refine et (f:=aW) (h:=aW) (p:=rb (a,b,c)) (λi=>∃ r,i=[r,some (.t (.tup [.int a,.int b,.int c]))]) (λp _=>xO p) (by omega) ⟨_,rfl⟩ ?_ ?_
 .rintro⟨x,y⟩ m i ⟨r,rfl⟩ Y N j k;obtain⟨B,C⟩:=n _ m;dsimp only at B C;walk_at"go"
  split
  .rename_i g;exact j _ ⟨_,rfl⟩ (by simp[rb];exact g)
  .rename_i g;exact k _ ⟨_,rfl⟩ (by simp[rb];omega)
 .symm;rw[length_map,<-countP_eq_length_filter];exact h
set_option maxHeartbeats 1000000
def EB (p:Pt):List Hf:=[(1,0,p.1),(-1,0,-p.1),(0,1,p.2),(0,-1,-p.2)]
def fm (ps:List Pt)(h:Hf):Prop:=(∃ p∈ps,h∈EB p)\/∃ p∈ps,∃ q∈ps,p≠q/\h=vm p q
theorem fm.sub (hs:∀ p∈B,p∈ps)(j:fm B h):fm ps h:=by
 obtain⟨p,i,hh⟩|⟨p,i,q,k,g,e⟩:=j
 .exact .inl ⟨p,hs p i,hh⟩
 .exact .inr ⟨p,hs p i,q,hs q k,g,e⟩
instance OX (a b:Pt):Decidable (cN a b):=inferInstanceAs (Decidable (_\/_))
def ins (p:Pt):List Pt->List Pt
 | []=>[p]
 |q::l=>if cN p q then p::q::l else if p=q then q::l else q::ins p l
theorem Kp (h:cN a b) (e:cN b c):cN a c:=by unfold cN at *;ext
theorem Gf (i:¬ cN a b)(h:a≠b):cN b a:=by
 unfold cN at *;have:a.1≠b.1\/a.2≠b.2:=by
  by_cases e:a.1=b.1
  .right;intro g;exact h (Prod.ext e g)
  .exact .inl e
 ext
theorem kc (p x:Pt):∀ l:List Pt,x∈ins p l↔x=p\/x∈l
 | []=>by simp[ins]
 |q::l=>by
  unfold ins
  split
  .simp
  .split
   .rename_i e;subst e;simp
   .simp only[mem_cons,kc p x l];exact⟨λh=>by rcases h with h|h|h <;> simp[h],λh=>by rcases h with h|h|h <;> simp[h]⟩
theorem BW (p:Pt):∀ l:List Pt,l.Pairwise cN->(ins p l).Pairwise cN
 | [],_=>by simp[ins]
 |q::l,h=>by
  unfold ins;have i:=pairwise_cons.mp h
  split
  .rename_i e;exact pairwise_cons.mpr ⟨λx g=>by
    obtain rfl|g:=mem_cons.mp g
    .exact e
    .exact Kp e (i.1 x g),h⟩
  .split
   .exact h
   .rename_i j k;refine pairwise_cons.mpr ⟨λx g=>?_,BW p l i.2⟩
    obtain rfl|g:=(kc p x l).mp g
    .exact Gf j k
    .exact i.1 x g
theorem Lr (B:List Pt):∃ S:List Pt,SetOf B S:=by
 induction B with
 |nil=>exact⟨[],by simp[SetOf]⟩
 |cons p B h=>
  obtain⟨S,e,g,i⟩:=h;refine⟨ins p S,λx h=>?_,λx h=>?_,BW p S i⟩
  .rcases(kc p x S).mp h with rfl|h
   .exact mem_cons_self
   .exact mem_cons_of_mem _ (e x h)
  .rcases mem_cons.mp h with rfl|h
   .exact(kc _ _ S).mpr (.inl rfl)
   .exact(kc _ _ S).mpr (.inr (g x h))
theorem n0 (l:Hf)(p:Pt):aS l (fl p)=l.1*p.1+l.2.1*p.2-l.2.2:=by unfold aS fl;simp
theorem rd (h:Hf)(p:Pt):rb h p=true↔0<=aS h (fl p):=by
 rw[n0];unfold rb;rw[decide_eq_true_eq];ext
theorem HQ (a b c:Hf):a7 b a c=-a7 a b c:=by unfold a7;grind
theorem xi (a c:Hf):a7 a a c=0:=by unfold a7;grind
theorem Ij (R:jj L)(j:1<L.length)(k:Nat)(h:k<L.length):dO L k h≠L[k]:=by
 by_cases g:3<=L.length
 .rw[gD h,<-bE h];exact λe=>Ii (P:=λi=>af (gt L i)) g (ez R) (cu h) h (gF g h).1 (congrArg af e)
 .have g:L.length=2:=⋯
  match L,g,R with
  | [a,b],_,R=>
   have g:Bf (af a) (af b):=eD.mp (R.reg.fst 1 (by simp) ⋯)
   have ne:a≠b:=λe=>by rw[e]at g;exact Bf.irr _ g
   have:k=0\/k=1:=by simp at h;ext
   obtain rfl|rfl:=this
   .exact λe=>ne e.symm
   .exact ne
theorem PF (D:SetOf B v)(L:B≠[])(hz:∀ p∈B,SzF 110 p)(zc:0<c.2.2)(I:¬ bD (((bQ v).map fP).map af) c) :
  ∃ h,fm B h/\(∀ p∈B,0<=aS h (fl p))/\aS h c<0:=by
 have O:=oB D L;have R:=ga O λp i=>(hz p (D.1 p (O.sub p i))).mono3 ⋯
 rw[Cw]at I;have m:∀ p∈bQ v,p∈B:=λp i=>D.1 p (O.sub p i);have hold:∀ p∈B,bD ((bQ v).map fl) (fl p):=λp i=>O.hold p (D.2.1 p i);have x:=O.ne;generalize bQ v=H at *;have i:0<H.length:=length_pos_iff.mpr x;have Z:(H.map fl).length=H.length:=length_map ..
 obtain X|X:=lt_or_ge H.length 3
 .have P:(H.map fl)[0]'⋯=fl H[0]:=getElem_map ..
  have Q:(H.map fl)[(H.map fl).length-1]'⋯=fl H[H.length-1]:=by
   rw[getElem_map];congr 2;ext
  have few:∀ p∈B,a7 (fl H[0]) (fl H[H.length-1]) (fl p)=0/\¬ cN p H[0]/\¬ cN H[H.length-1] p:=λp i=>by
   have:=(hold p i).few ⋯
   rw[P,Q]at this;exact⟨this.1,λz=>by rw[(qD _ _).mpr z]at this;exact absurd this.2.1 ⋯,λz=>by rw[(qD _ _).mpr z]at this;exact absurd this.2.2 ⋯⟩
  have y:=m _ (getElem_mem i);have C:=m _ (getElem_mem (show H.length-1<H.length by ext))
  have J:¬ (a7 (fl H[0]) (fl H[H.length-1]) c=0/\jU c (fl H[0])=false/\jU (fl H[H.length-1]) c=false):=λz=>I ⟨⋯,λ_=>by rw[P,Q];exact z,λz=>⋯⟩
  generalize H[0]=p0 at *;generalize H[H.length-1]=p1 at *
  by_cases hd:a7 (fl p0) (fl p1) c=0
  .
   have hv:p1.1≠p0.1\/p1.1=p0.1:=⋯
   have line:c.1=p0.1*c.2.2->c.2.1≠p0.2*c.2.2->p1.1=p0.1:=λE F=>by
    have G:(p1.1-p0.1)*(c.2.1-p0.2*c.2.2)=0:=by
     have:(p1.1-p0.1)*(c.2.1-p0.2*c.2.2)=a7 (fl p0) (fl p1) c+(p1.2-p0.2)*(c.1-p0.1*c.2.2):=by unfold a7 fl;grind
     rw[this,hd,E];simp
    obtain h|h:=mul_eq_zero.mp G
    .ext
    .exact absurd ⋯ F
   have q:c.1=p1.1*c.2.2->c.2.1≠p1.2*c.2.2->p1.1=p0.1:=λE F=>by
    have G:(p1.1-p0.1)*(c.2.1-p1.2*c.2.2)=0:=by
     have:(p1.1-p0.1)*(c.2.1-p1.2*c.2.2)=a7 (fl p0) (fl p1) c+(p1.2-p0.2)*(c.1-p1.1*c.2.2):=by unfold a7 fl;grind
     rw[this,hd,E];simp
    obtain h|h:=mul_eq_zero.mp G
    .ext
    .exact absurd ⋯ F
   by_cases n:jU c (fl p0)=false
   .have j:jU (fl p1) c=true:=by
     cases M:jU (fl p1) c with
     |true=>rfl
     |false=>exact absurd ⟨hd,n,M⟩ J
    unfold jU fl at j;simp only[mul_one,ne_eq]at j
    split at j
    .rename_i e;have:=of_decide_eq_true j;refine⟨(-1,0,-p1.1),.inl ⟨p1,C,by simp[EB]⟩,λp i=>?_,?_⟩
     .have:=(few p i).2.2;rw[n0];unfold cN at this;simp only;ext
     .unfold aS;simp only;have U:=neg_mul p1.1 c.2.2;ext
    .rename_i e;have:=of_decide_eq_true j;have ex:=q ⋯ ⋯
     refine⟨(0,-1,-p1.2),.inl ⟨p1,C,by simp[EB]⟩,λp i=>?_,?_⟩
     .have f:=(few p i).2;rw[n0];unfold cN at f;simp only;ext
     .unfold aS;simp only;have U:=neg_mul p1.2 c.2.2;ext
   .have n:jU c (fl p0)=true:=by simpa using n
    unfold jU fl at n;simp only[mul_one,ne_eq]at n
    split at n
    .rename_i e;have:=of_decide_eq_true n;refine⟨(1,0,p0.1),.inl ⟨p0,y,by simp[EB]⟩,λp i=>?_,?_⟩
     .have:=(few p i).2.1;rw[n0];unfold cN at this;simp only;ext
     .unfold aS;simp only;ext
    .rename_i e;have:=of_decide_eq_true n;have ex:=line ⋯ ⋯
     refine⟨(0,1,p0.2),.inl ⟨p0,y,by simp[EB]⟩,λp i=>?_,?_⟩
     .have f:=(few p i).2;rw[n0];unfold cN at f;simp only;ext
     .unfold aS;simp only;ext
  .have g:p0≠p1:=λe=>hd (by rw[e];exact xi _ _)
   obtain hl|hg:=Int.lt_or_gt_of_ne hd
   .refine⟨vm p0 p1,.inr ⟨p0,y,p1,C,g,rfl⟩,λp i=>(lN g _).mpr (by rw[(few p i).1];decide),?_⟩
    have:=mt (lN g c).mp ⋯
    ext
   .refine⟨vm p1 p0,.inr ⟨p1,C,p0,y,g.symm,rfl⟩,λp i=>(lN g.symm _).mpr (by rw[HQ,(few p i).1];decide),?_⟩
    have:=mt (lN g.symm c).mp (by rw[HQ];ext)
    ext
 .have:∃ k,∃ o:k<H.length,a7 (fl (dO H k o)) (fl H[k]) c<0:=by
   apply Classical.byContradiction;intro M;refine I ⟨⋯,λz=>⋯,λ_ k o=>?_⟩
   rw[gE,getElem_map];have:¬ a7 (fl (dO H k ⋯)) (fl (H[k]'⋯)) c<0:=λz=>M ⟨k,⋯,z⟩
   ext
  obtain⟨k,o,Y⟩:=this;have g:dO H k o≠H[k]:=λe=>by
   have:=Ij R (by rw[length_map];ext) k (by rw[length_map];exact o)
   rw[gE,getElem_map]at this;exact this (congrArg fP e)
  refine⟨vm (dO H k o) H[k],.inr ⟨_,m _ (n8 o),_,m _ (getElem_mem o),g,rfl⟩,λp i=>(lN g _).mpr ?_,?_⟩
  .have:=(hold p i).all ⋯ k ⋯
   rwa [gE,getElem_map]at this
  .have:=mt (lN g c).mp ⋯
   ext
def gj (h:Hf)(p:Pt):Pt:=(p.1*h.2.2-h.1,p.2*h.2.2-h.2.1)
theorem iH (c:Hf)(ps:List Pt)(f:Pt):ahead (ps.map (gj c)) f=ps.countP λp=>decide (0<=a5 (gj c p) f):=by
 unfold ahead;rw[List.countP_map];rfl
theorem qL (p:α->Bool)(l:List α):l.countP p+l.countP (λx=>!p x)=l.length:=by
 induction l with
 |nil=>rfl
 |cons x l h=>
  rw[List.countP_cons,List.countP_cons,length_cons]
  cases p x <;> simp <;> ext
theorem JE (z:0<c.2.2)(n:h.1≠0\/h.2.1≠0)(o:aS h c<0):l7 (ps.map (gj c))+ft h ps<=ps.length:=by
 have i:((-h.1,-h.2.1):Pt)≠(0,0):=λe=>by
  have:=Prod.mk.inj e;ext
 have g:=(jx (ps.map (gj c))).2 _ i;rw[iH]at g;have g:ps.countP (λp=>decide (0<=a5 (gj c p) (-h.1,-h.2.1)))<=ps.countP λp=>!rb h p:=by
  refine List.countP_mono_left λp _ g=>?_;have g:=of_decide_eq_true g
  cases i:rb h p with
  |false=>rfl
  |true=>
   exfalso;rw[rd,n0]at i;unfold a5 gj at g;unfold aS at o;dsimp only at g;have e:(p.1*c.2.2-c.1)*-h.1+(p.2*c.2.2-c.2.1)*-h.2.1=-(c.2.2*(h.1*p.1+h.2.1*p.2-h.2.2))+(h.1*c.1+h.2.1*c.2.1-h.2.2*c.2.2):=by grind
   rw[e]at g;have:=mul_nonneg (le_of_lt z) i;ext
 have g:=qL (rb h) ps;unfold ft;ext
theorem JD (hz:∀ p∈ps,SzF 110 p)(z:0<c.2.2)(C:k<=ps.length)(y:1<=k)(n:∀ h,fm ps h->ps.length+1<=ft h ps+k->0<=aS h c):k<=l7 (ps.map (gj c)):=by
 apply Classical.byContradiction;intro g;obtain⟨⟨f,g,hd⟩,_⟩:=jx (ps.map (gj c));rw[iH]at hd
 let B:=ps.filter λp=>!decide (0<=a5 (gj c p) f)
 have m:∀ p,p∈B↔p∈ps/\a5 (gj c p) f<0:=λp=>by
  simp only[B,mem_filter,Bool.not_eq_true',decide_eq_false_iff_not];constructor
  .rintro⟨a,b⟩;exact⟨a,⋯⟩
  .rintro⟨a,b⟩;exact⟨a,⋯⟩
 have g:ps.countP (λp=>decide (0<=a5 (gj c p) f))+B.length=ps.length:=by
  have:=qL (λp=>decide (0<=a5 (gj c p) f)) ps;rw[countP_eq_length_filter (p:=λp=>!decide (0<=a5 (gj c p) f))]at this;exact this
 have i:B≠[]:=λe=>by rw[e,length_nil]at g;ext
 obtain⟨j,v⟩:=Lr B;have o:∀ p∈B,SzF 110 p:=λp g=>hz p ((m p).mp g).1;have q:¬ bD (((bQ j).map fP).map af) c:=λhh=>by
  have:=(BR v i (λp g=>(o p g).mono3 ⋯) z).mp hh (-(c.2.2*f.1),-(c.2.2*f.2),1-(c.1*f.1+c.2.1*f.2)) λp g=>?_
  .unfold aS at this;dsimp only at this;have e:-(c.2.2*f.1)*c.1 + -(c.2.2*f.2)*c.2.1-(1-(c.1*f.1+c.2.1*f.2))*c.2.2=-c.2.2:=by grind
   rw[e]at this;ext
  .have j:=((m p).mp g).2;rw[n0];unfold a5 gj at j;dsimp only at j ⊢;have e:-(c.2.2*f.1)*p.1 + -(c.2.2*f.2)*p.2-(1-(c.1*f.1+c.2.1*f.2))=-((p.1*c.2.2-c.1)*f.1+(p.2*c.2.2-c.2.1)*f.2)-1:=by grind
   rw[e];ext
 obtain⟨h,x,j,D⟩:=PF v i o z q;have i:B.length<=ft h ps:=by
  have:B.length=ps.countP λp=>!decide (0<=a5 (gj c p) f):=(countP_eq_length_filter ..).symm;rw[this];refine List.countP_mono_left λp g q=>(rd h p).mpr (j p ((m p).mpr ⟨g,?_⟩));simp only[Bool.not_eq_true',decide_eq_false_iff_not]at q;ext
 have:=n h (x.sub λp g=>((m p).mp g).1) ⋯
 ext
theorem jY (hz:∀ p∈ps,SzF 110 p)(k:fm ps h):gm h:=by
 obtain⟨p,g,hh⟩|⟨p,g,q,m,e,rfl⟩:=k
 .have z:=hz p g;have o:Sz 300 (0:Int):=sP;have i:Sz 300 (1:Int):=sO ⋯
  have j:Sz 300 (-1:Int):=(sO (n:=300) ⋯).neg
  simp only[EB,mem_cons,not_mem_nil,or_false]at hh
  obtain rfl|rfl|rfl|rfl:=hh
  .exact⟨⟨i,o,z.1.mono ⋯⟩,.inl (show(1:Int)≠0 by decide)⟩
  .exact⟨⟨j,o,z.1.neg.mono ⋯⟩,.inl (show(-1:Int)≠0 by decide)⟩
  .exact⟨⟨o,i,z.2.mono ⋯⟩,.inr (show(1:Int)≠0 by decide)⟩
  .exact⟨⟨o,j,z.2.neg.mono ⋯⟩,.inr (show(-1:Int)≠0 by decide)⟩
 .exact MV e (hz p g) (hz q m)
theorem qS (hz:∀ p∈ps,SzF 110 p)(z:0<c.2.2)(i:k<=ps.length)(e:1<=k):k<=l7 (ps.map (gj c))↔∀ h,fm ps h->ps.length+1<=ft h ps+k->0<=aS h c:=by
 refine⟨λhd h g m=>?_,JD hz z i e⟩
 obtain o|o:=lt_or_le (aS h c) 0
 .have:=JE (ps:=ps) z (jY hz g).2 o;ext
 .exact o
theorem AD (j:SetOf ps i)(g:ps≠[])(hz:∀ p∈ps,SzF 110 p)(z:0<c.2.2)(q:1<=k)(e:∀ h,fm ps h->ps.length+1<=ft h ps+k->0<=aS h c):bD (((bQ i).map fP).map af) c:=by
 apply Classical.byContradiction;intro o;obtain⟨h,n,m,v⟩:=PF j g hz z o;have o:ft h ps=ps.length:=List.countP_eq_length.mpr λp o=>(rd h p).mpr (m p o);have:=e h n ⋯
 ext
set_option maxHeartbeats 1000000
def EO (G:Hf->Prop)(L:List aT):Prop:=3<=L.length->∀ k (h:k<L.length),zR G (dO L k h) L[k]
theorem Ct (j:bx p)(k:bx q)(h:jU (af p) (af q)=false)(i:jU (af q) (af p)=false):p=q:=by
 rw[<-Cs j k]at h;rw[<-Cs k j]at i;unfold Ku at h i;have fr:∀ {f g:Fr},oP f->oP g->L6 f g=false->L6 g f=false->f=g:=λ{f g} m n a b=>by
  unfold L6 at a b;have a:=of_decide_eq_false a;have b:=of_decide_eq_false b;exact xm m n ⋯
 by_cases e:p.1=q.1
 .rw[if_pos e]at h;rw[if_pos e.symm]at i;exact Prod.ext e (fr j.2 k.2 h i)
 .rw[if_neg e]at h;rw[if_neg λz=>e z.symm]at i;exact absurd (fr j.1 k.1 h i) e
theorem Ju (hh:gm h)(R:jj L)(B:3<=(gu h L).length):3<=L.length:=by
 have C:=qK hh R
 obtain k|k:=lt_or_ge L.length 3
 .exfalso;have T:=fj C.reg.reg 0 1 2 ⋯ ⋯ (by rw[length_map];ext)
  rw[getElem_map,getElem_map,getElem_map]at T;have f:=λi (hi:i<(gu h L).length)=>(C.hold _ (getElem_mem hi)).1;have o:=λi (hi:i<(gu h L).length)=>C.reg.ok _ (getElem_mem hi);have j:=f 0 ⋯
  have m:=f 1 ⋯
  have y:=f 2 ⋯
  have p:=o 0 ⋯
  have D:=o 1 ⋯
  have e:=o 2 ⋯
  clear f o C;generalize (gu h L)[0]=u at *;generalize (gu h L)[1]=v at *;generalize (gu h L)[2]=w at *;clear B
  obtain _|⟨a,_|⟨b,_|⟨c,r⟩⟩⟩:=L
  .exact absurd j.ne (by simp)
  .have o:=R.ok a mem_cons_self;have q:=(j.few (by simp)).2
   have e:=(m.few (by simp)).2
   have n:u=a:=Ct p o q.1 q.2;have p:v=a:=Ct D o e.1 e.2;rw[n,p,xi]at T;exact absurd T ⋯
  .have q:=(j.few (by simp)).1
   have e:=(m.few (by simp)).1
   have m:=(y.few (by simp)).1
   have ne:Bf (af a) (af b):=eD.mp (R.reg.fst 1 (by simp) ⋯)
   have n:(pU (af a) (af b)).1≠0\/(pU (af a) (af b)).2.1≠0:=by
    apply Classical.byContradiction;intro z;unfold pU at z;simp only[not_or,ne_eq,Classical.not_not]at z;unfold Bf at ne;ext
   have g:∀ x:Hf,a7 (af a) (af b) x=0->aS (pU (af a) (af b)) x=0:=λx j=>by rw[e5];exact j
   have y:=g _ q;have j:=g _ e;have e:=g _ m;unfold aS at y j e;have:=xA n y j e;ext
  .simp at k;ext
 .exact k
theorem Cq (hh:gm h)(p:G h)(R:jj L)(H:EO G L):EO G (gu h L):=λe k g=>by
 have n:=Ju hh R e;have ok:∀ i,i<L.length->bx (gt L i):=λi hi=>by rw[bE hi];exact R.ok _ (getElem_mem _)
 have e:=ez R;have o:fV h L=(KI h (gt L) L.length L.length).map (·.2.2):=by
  unfold fV;rw[wg];exact mm n ok e _ (le_refl _)
 have e:u5 G h:=⟨p,hh.2⟩;have q:∀ k,k<L.length->zR G (gt L (bo L.length k)) (gt L k):=λk g=>by
  have:=H n k g
  rwa [gD g,<-bE g]at this
 have m:=mq e (show 0<L.length by ext) ok q L.length (le_refl _)
 have j:bo L.length L.length=L.length-1:=by unfold bo;rw[if_neg ⋯]
 rw[j,<-o]at m;have j:=qQ e m;have e:0<(fV h L).length:=by rw[<-nF hh R];ext
 obtain⟨m,_⟩:=lc (wY hh R).ok e (fV h L).length (le_refl _);have e:k<(fV h L).length:=by rw[<-nF hh R];exact g
 have n:(gu h L)[k]=(fV h L)[og (fV h L).length (um (fV h L) (fV h L).length) k]'(jC m e):=ea m e;have o:dO (gu h L) k g=dO (fV h L) (og (fV h L).length (um (fV h L) (fV h L).length) k) (jC m e):=wq m e;rw[n,o];exact j _ _
theorem wW (e:p≠q)(h:a7 (fl p) (fl q) x=0):aS (vm p q) x=0:=by
 have g:=(lN e x).mpr ⋯
 have g:=(lN e (-x.1,-x.2.1,-x.2.2)).mpr (by
  have:a7 (fl p) (fl q) (-x.1,-x.2.1,-x.2.2)=-a7 (fl p) (fl q) x:=by unfold a7;grind
  ext)
 have g:aS (vm p q) (-x.1,-x.2.1,-x.2.2)=-aS (vm p q) x:=by unfold aS;grind
 ext
theorem Cp (j:SetOf ps g)(m:ps≠[])(hz:∀ p∈ps,SzF 110 p):EO (fm ps) ((bQ g).map fP):=λh k i=>by
 have O:=oB j m;have R:=ga O λp h=>(hz p (j.1 p (O.sub p h))).mono3 ⋯
 have n:=Ij R ⋯ k i
 have h:k<(bQ g).length:=by rwa [length_map]at i
 rw[gE,getElem_map]at n ⊢;have i:dO (bQ g) k h≠(bQ g)[k]:=λe=>n (congrArg fP e);have n:=j.1 _ (O.sub _ (n8 h));have o:=j.1 _ (O.sub _ (getElem_mem h));have b:fm ps (vm (dO (bQ g) k h) (bQ g)[k]):=.inr ⟨_,n,_,o,i,rfl⟩;have n:=(jY hz b).2;refine⟨_,⟨b,n,?_⟩,b,n,?_⟩
 .rw[<-cI,jR];exact wW i (by unfold a7;grind)
 .rw[<-cI,jR];exact wW i (by unfold a7;grind)
theorem yP {G:Hf->Prop}{L:List aT}(R:jj L)(H:EO G L)(o:3<=L.length){D:List Hf}(v:∀ l,G l->l∈D):L.length<=D.length:=by
 classical
 let f:Nat->Hf:=λk=>if g:k<L.length then Classical.choose (H o k g) else (0,0,0)
 have n:∀ k (g:k<L.length),HL G (f k) (gt L (bo L.length k))/\HL G (f k) (gt L k):=λk g=>by
  have:=Classical.choose_spec (H o k g);simp only[f,dif_pos g];rw[<-gD g,bE g];exact this
 have q:=ez R;have key:∀ i j,i<L.length->j<L.length->i≠j->j≠bo L.length i->f i≠f j:=λi j hi m h p e=>by
  have x:0<a7 (af (gt L (bo L.length i))) (af (gt L i)) (af (gt L j)):=cY (P:=λi=>af (gt L i)) q hi m (λz=>h z.symm) p;have a:=(n i hi).1.2.2;have b:=(n i hi).2.2.2;have c:=(n j m).2.2.2;rw[<-e]at c;rw[<-cI]at a b c;unfold aS at a b c;have:=xA (n i hi).1.2.1 a b c;ext
 have nd:((List.range L.length).map f).Nodup:=by
  refine pairwise_map.mpr (List.Pairwise.imp_of_mem (λ{i j} hi m h e=>?_) List.nodup_range);have hi:=mem_range.mp hi;have m:=mem_range.mp m
  by_cases p:j=bo L.length i
  .by_cases q:i=bo L.length j
   .have:=(gF o hi).2.1;rw[<-p,<-q]at this;exact this rfl
   .exact key j i m hi (λz=>h z.symm) q e.symm
  .exact key i j hi m h p e
 have:=List.Nodup.length_le_of_subset nd (l₂:=D) (λl h=>by
  obtain⟨k,g,rfl⟩:=mem_map.mp h;exact v _ (n k (mem_range.mp g)).1.1)
 rwa [length_map,length_range]at this
set_option maxHeartbeats 4000000
def ji (ps:List Pt)(hs:List Hf):Prop:=(∀ h,h∈hs↔fm ps h)/\hs.length<=60
def kS (m:Int)(ps:List Pt)(hs:List Hf):List Hf:=hs.filter λg=>decide (m<=ft g ps)
def cK:aN:=λe R=>∃ p:Pt,e=[.t (aW p)]/\R (.ol ((EB p).map bd))
def iB:aN:=λg R=>∃ e:List Pt,g=[.t (.lst (e.map aW))]/\e.length<=6/\(∀ p∈e,SzF 100 p)/\∀ h:List Hf,ji e h->R (.ol (h.map bd))
def bg:aN:=λe R=>∃ (t:T) (g:List T),e=[.t (.lst (t::g))]/\R (.t .non)
def dU:aN:=λg R=>∃ (e:List Pt) (m:Int),g=[.t (.lst (e.map aW)),.t (.int m)]/\e≠[]/\e.length<=6/\(∀ p∈e,SzF 100 p)/\∀ h:List Hf,ji e h->R (.ol ((kS m e h).map bd))
def ca:WS:=
 (aC (aG 1 (ao aK (ae 0) (wC (.int 0))))
 (aC (aG 2 (ao aK (ae 0) (wC (.int 1))))
 (bw (iF (ac (bX (ac (wC (.int 1)) (ac (wC (.int 0)) (ac (ae 1) ap)))) (ac (bX (ac (uY ie (wC (.int 1))) (ac (wC (.int 0)) (ac (uY ie (ae 1)) ap)))) (ac (bX (ac (wC (.int 0)) (ac (wC (.int 1)) (ac (ae 2) ap)))) (ac (bX (ac (wC (.int 0)) (ac (uY ie (wC (.int 1))) (ac (uY ie (ae 2)) ap)))) ap))))))))
def g7:WS:=
 (aC (aG 1 (iF ap))
 (bZ (jS (cj (ae 0)) (aH 2) (aC (mC 1 (aw cK (ac (ae 2) ap)))
 (jS (cj (ae 0)) (aH 3) (hI (wB (Mb (ae 2) (ae 3))) (eO 1 (aw jJ (ac (ae 2) (ac (ae 3) ap)))) bz))))
 (bw (kG (ae 1)))))
def er:WS:=
 (hI (wB (qt (eh cZ (ac (ae 0) ap)) (wC (.int 0)))) lE bz)
def kP:WS:=
 (aC (uS (aw bg (ac (ae 0) ap)))
 (bw (dI 1 [0,1] (cj (aw iB (ac (ae 0) ap))) (aH 0) (wB (Oe (aw jO (ac (ae 0) (ac (ae 1) ap))) (ae 2))) (ae 0))))
theorem iu:∀ e R,cK e R->ca {nx:=λ_=>R (.t .non),rt:=R} (aE ["point","x","y"] e):=by
 rintro e R ⟨⟨x,y⟩,rfl,h⟩;show ca _ [some (.t (.tup [.int x,.int y])),none,none]
 delta ca
 symm;exact h
theorem nY:∀ e R,bg e R->er {nx:=λ_=>R (.t .non),rt:=R} (aE ["points"] e):=by
 rintro e R ⟨t,e,rfl,h⟩;show er _ [some (.t (.lst (t::e)))]
 delta er
 symm;rw[if_neg ⋯]
 exact h
def HY (h:Hf):List Int:=[h.1,h.2.1,h.2.2]
theorem t6 {hs:List Hf}:∀ ns:List (List Int),(∀ k∈ns,k∈hs.map HY)->∃ i:List Hf,ns=i.map HY/\∀ g∈i,g∈hs
 | [],_=>⟨[],rfl,λp j=>by cases j⟩
 |k::ns,h=>by
  obtain⟨i,e,m⟩:=t6 ns λk n=>h k (mem_cons_of_mem _ n);obtain⟨p,j,rfl⟩:=mem_map.mp (h k mem_cons_self);exact⟨p::i,by rw[e];rfl,λq i=>by
   obtain rfl|i:=mem_cons.mp i
   .exact j
   .exact m q i⟩
theorem FW (h:HY a=HY b):a=b:=by
 unfold HY at h;simp only[List.cons.injEq,and_true]at h;exact Prod.ext h.1 (Prod.ext h.2.1 h.2.2)
theorem Jy:∀ {ps:List Pt},p∈ps->ps.countP (λq=>decide (q≠p))+1<=ps.length:=λ{ps} h=>by
 have e:=qL (λq=>decide (q≠p)) ps;have e:0<ps.countP λq=>!decide (q≠p):=List.countP_pos_iff.mpr ⟨p,h,by simp⟩
 ext
theorem ur:∀ Z R,iB Z R->g7 {nx:=λ_=>R (.t .non),rt:=R} (aE ["points","found","one","other"] Z):=by
 rintro Z R ⟨j,rfl,i,hz,h⟩;show g7 _ [some (.t (.lst (j.map aW))),none,none,none]
 delta g7
 symm
 let M:List Pt->List Hf->Prop:=λpre k=>k.length<=pre.length*10/\(∀ h∈k,fm j h)/\∀ p∈pre,(∀ h∈EB p,h∈k)/\∀ q∈j,p≠q->vm p q∈k
 refine⟨λz=>∃ (k:List Hf) (D v:Option S),z=[some (.t (.lst (j.map aW))),some (.ol (k.map bd)),D,v]/\M j k,?_,?_⟩
 .refine⟨λJ z=>∃ (pre i:List Pt) (k:List Hf) (D v:Option S),j=pre++i/\J=i.map aW/\z=[some (.t (.lst (j.map aW))),some (.ol (k.map bd)),D,v]/\M pre k,⟨[],j,[],_,_,rfl,rfl,rfl,by simp,λh hh=>(nomatch hh),λp H=>(nomatch H)⟩,?_,?_⟩
  .rintro z ⟨pre,i,k,D,v,n,m,rfl,o⟩;have:i=[]:=by simpa using m.symm
   subst this;rw[append_nil]at n;subst n;exact⟨k,D,v,rfl,o⟩
  .rintro x J z ⟨pre,i,k,D,v,n,m,rfl,Z,Q,G⟩
   cases i with
   |nil=>cases m
   |cons p i=>
    rw[map_cons]at m
    cases m
    have B:p∈j:=by rw[n];simp
    have U:SzF 100 p:=hz p B;have m:j.length=pre.length+(i.length+1):=by rw[n];simp
    symm;refine⟨p,rfl,?_⟩;dsimp only;rw[eE _ (bG (λ_=>rfl) _)];symm;refine⟨by simp only[length_map];show k.length+4<100000;ext,?_⟩
    rw[<-map_append]
    let N:List Pt->List Hf->Prop:=λo m=>m.length<=k.length+4+o.countP (λq=>decide (q≠p))/\(∀ h∈m,fm j h)/\(∀ h∈k,h∈m)/\(∀ h∈EB p,h∈m)/\∀ q∈o,p≠q->vm p q∈m
    refine⟨λJ z=>∃ (o y:List Pt) (m:List Hf) (v:Option S),j=o++y/\J=y.map aW/\z=[some (.t (.lst (j.map aW))),some (.ol (m.map bd)),some (.t (aW p)),v]/\N o m,⟨[],j,k++EB p,_,rfl,rfl,rfl,by simp[EB],λh hh=>?_,λh hh=>mem_append_left _ hh,λh hh=>mem_append_right _ hh,λq I=>(nomatch I)⟩,?_,?_⟩
    .rcases mem_append.mp hh with hh|hh
     .exact Q h hh
     .exact .inl ⟨p,B,hh⟩
    .rintro z ⟨o,y,m,v,C,E,rfl,Y,L,F,O,P⟩;have:y=[]:=by simpa using E.symm
     subst this;rw[append_nil]at C;subst C;have X:=Jy B;refine⟨pre++[p],i,m,_,_,by rw[List.append_assoc];exact n,rfl,rfl,by rw[List.length_append,length_singleton];ext,L,λX n=>?_⟩
     obtain n|n:=mem_append.mp n
     .exact⟨λh hh=>F h ((G X n).1 h hh),λq I i=>F _ ((G X n).2 q I i)⟩
     .rw[mem_singleton.mp n];exact⟨O,P⟩
    .rintro x J z ⟨o,y,m,v,C,E,rfl,Y,L,F,O,P⟩
     cases y with
     |nil=>cases E
     |cons q y=>
      rw[map_cons]at E
      cases E
      have E:q∈j:=by rw[C];simp
      have X:SzF 100 q:=hz q E;have n:j.length=o.length+(y.length+1):=by rw[C];simp
      have j:o.countP (λq=>decide (q≠p))<=o.length:=List.countP_le_length;symm
      by_cases n:p.1=q.1/\p.2=q.2
      .rw[decide_eq_true n,if_neg ⋯]
       have J:q=p:=(Prod.ext n.1 n.2).symm;refine⟨o++[q],y,m,_,by rw[List.append_assoc];exact C,rfl,rfl,?_,L,F,O,λY j i=>?_⟩
       .rw[List.countP_append];ext
       .rcases mem_append.mp j with j|j
        .exact P Y j i
        .rw[mem_singleton.mp j,J]at i;exact absurd rfl i
      .rw[decide_eq_false n,if_pos ⋯]
       have i:p≠q:=λe=>n ⟨by rw[e],by rw[e]⟩
       refine⟨p,q,rfl,i,U.mono3 ⋯,X.mono3 ⋯,?_⟩
       symm;refine⟨by rw[length_map];ext,o++[q],y,m++[vm p q],_,by rw[List.append_assoc];exact C,rfl,by rw[map_append];rfl,?_,λg n=>?_,λg n=>mem_append_left _ (F g n),λg n=>mem_append_left _ (O g n),λY j o=>?_⟩
       .rw[List.length_append,length_singleton,List.countP_append,List.countP_singleton,if_pos (by simpa using i.symm)];ext
       .rcases mem_append.mp n with n|n
        .exact L g n
        .rw[mem_singleton.mp n];exact .inr ⟨p,B,q,E,i,rfl⟩
       .rcases mem_append.mp j with j|j
        .exact mem_append_left _ (P Y j o)
        .rw[mem_singleton.mp j];exact mem_append_right _ (mem_singleton.mpr rfl)
 .rintro z ⟨k,D,v,rfl,Z,Q,G⟩;symm;refine⟨3,k.map HY,⋯,by rw[map_map];rfl,λj j=>by obtain⟨p,_,rfl⟩:=mem_map.mp j;rfl,by rw[length_map];ext,λns j v y _=>?_⟩
  obtain⟨m,rfl,n⟩:=t6 ns j;have o:m.length<=k.length:=by
   have:=List.Nodup.length_le_of_subset y j;simpa using this
  have e:(m.map HY).map md=m.map bd:=by rw[map_map];rfl
  rw[e];symm;refine h m ⟨λg=>⟨λj=>Q g (n g j),λm=>?_⟩,⋯⟩
  have n:g∈k:=by
   obtain⟨p,H,hh⟩|⟨p,H,q,I,i,rfl⟩:=m
   .exact(G p H).1 g hh
   .exact(G p H).2 q I i
  obtain⟨i,j,i⟩:=mem_map.mp (v (HY g) (mem_map.mpr ⟨g,n,rfl⟩));rw[<-FW i];exact j
theorem Fw (hz:∀ p∈ps,SzF 100 p)(e:fm ps h):dh 300 h:=(jY (λp g=>(hz p g).mono3 ⋯) e).1
theorem zr:∀ x R,dU x R->kP {nx:=λ_=>R (.t .non),rt:=R} (aE ["points","many"] x):=by
 rintro x R ⟨e,m,rfl,o,E,hz,h⟩;obtain⟨j,k,rfl⟩:∃ j k,e=j::k:=by
  cases e with
  |nil=>exact absurd rfl o
  |cons a b=>exact⟨a,b,rfl⟩
 show kP _ [some (.t (.lst ((j::k).map aW))),some (.t (.int m))]
 delta kP
 generalize v:j::k=e at *;have q:∀ R:S->Prop,R (.t .non)->bg [.t (.lst (e.map aW))] R:=λR C=>⟨aW j,k.map aW,by rw[<-v];rfl,C⟩
 symm;refine q _ ?_;symm;refine⟨e,rfl,E,hz,λG i=>?_⟩;dsimp only;rw[eE _ (bG (λ_=>rfl) _)];symm;have H:=i.2;refine et (f:=bd) (h:=bd) (p:=λg=>decide (m<=ft g e)) (λy=>∃ r,y=[r,some (.t (.lst (e.map aW))),some (.t (.int m))]) (λ_ _=>rfl) ⋯ ⟨_,rfl⟩ ?_ ?_
 .rintro g D y ⟨r,rfl⟩ Y N z B;symm;refine⟨g,e,rfl,kC (Fw hz ((i.1 g).mp D)) ⋯,λp F=>(hz p F).mono3 ⋯,⋯,?_⟩
  symm
  split
  .rename_i n;exact z _ ⟨_,rfl⟩ (by simpa using n)
  .rename_i n;exact B _ ⟨_,rfl⟩ (by simpa using n)
 .symm;exact h G i
set_option maxHeartbeats 4000000
structure vc (ps:List Pt) (k:Nat) (L:List aT):Prop where
 reg:jj L
 hold:∀ q:Hf,0<q.2.2->(bD (L.map af) q↔k<=l7 (ps.map (gj q)))
 len:L.length<=160
 few:3<=L.length->L.length<=60
 lk:EO (fm ps) L
def iV:aN:=λg R=>∃ (e:List Pt) (k:Nat),g=[.t (.lst (e.map aW)),.t (.int (k:Int))]/\e≠[]/\e.length<=6/\(∀ p∈e,SzF 100 p)/\1<=k/\∀ L:List aT,vc e k L->R (.ol (L.map spT))
def kN:WS:=
 (aC (uS (aw bg (ac (ae 0) ap)))
 (aC (hI (wB (EE (ae 1) (wC (.int 1)))) lE bz)
 (aC (hI (wB (EC (ae 1) (eh cZ (ac (ae 0) ap)))) (bw (iF ap)) bz)
 (aC (aG 2 (aw sJ (ac (ae 0) ap)))
 (bZ (jS (cj (aw dU (ac (ae 0) (ac (cz (cL (eh cZ (ac (ae 0) ap)) (ae 1)) (wC (.int 1))) ap)))) (aH 3) (aG 2 (aw jK (ac (ae 2) (ac (ae 3) ap)))))
 (iG 2))))))
theorem D6 (R:jj L):∀ s∈L,bx s/\eH 700 s:=λs h=>⟨R.ok s h,df (MX (R.ok s h) (R.cn s h)) ⋯⟩
theorem Ei (h:SetOf ps e):e.length<=ps.length:=List.Nodup.length_le_of_subset (pO h.2.2) h.1
theorem xq (e:List Pt):(bQ e).length<=2*e.length:=by
 unfold bQ
 split
 .ext
 .unfold lS;have g:=jZ e;have g:=jZ e.reverse;rw[length_reverse]at g;simp only[List.length_append,length_dropLast,length_reverse];ext
theorem xc (ps:List Pt)(q:Hf):l7 (ps.map (gj q))<=ps.length:=by
 have h:=(jx (ps.map (gj q))).2 (1,0) ⋯
 have:=mU (ps.map (gj q)) (1,0);rw[length_map]at this;ext
theorem Hl:jj ([]:List aT):=⟨λs g=>(nomatch g),⟨λk e=>(nomatch e),λh=>(nomatch h)⟩,λs g=>(nomatch g),λk e=>(nomatch e)⟩
theorem D7 (h:ps.length<k):vc ps k []:=by
 refine⟨Hl,λq _=>⟨λz=>absurd z.ne (by simp),λz=>?_⟩,by simp,λh=>by simp at h,λh=>by simp at h⟩
 have:=xc ps q;ext
theorem Hm (v:SetOf ps m)(n:ps≠[])(C:ps.length<=6)(hz:∀ p∈ps,SzF 100 p)(e:1<=k)(y:k<=ps.length)(i:ji ps hs)
  (I:u7 ((bQ m).map fP) (kS ((ps.length:Int)-k+1) ps hs) L) (j:EO (fm ps) L):vc ps k L:=by
 have g:∀ p∈ps,SzF 110 p:=λp o=>(hz p o).mono3 ⋯
 have mem:∀ h,h∈kS ((ps.length:Int)-k+1) ps hs↔fm ps h/\ps.length+1<=ft h ps+k:=λh=>by
  unfold kS;rw[mem_filter,i.1,decide_eq_true_eq];exact⟨λz=>⟨z.1,⋯⟩,λz=>⟨z.1,⋯⟩⟩
 have o:(kS ((ps.length:Int)-k+1) ps hs).length<=60:=le_trans (length_filter_le ..) i.2;refine⟨I.1,λq o=>?_,?_,λx=>le_trans (yP I.1 j x (D:=hs) λl j=>(i.1 l).mpr j) i.2,j⟩
 .rw[I.2.2 q o,qS g o y e];constructor
  .rintro⟨_,z⟩ h x B;exact z h ((mem h).mpr ⟨x,B⟩)
  .intro z;exact⟨AD v n g o e z,λh hh=>z h ((mem h).mp hh).1 ((mem h).mp hh).2⟩
 .have:=I.2.1;have g:=xq m;have g:=Ei v;rw[length_map]at this;ext
theorem zn:∀ H R,iV H R->kN {nx:=λ_=>R (.t .non),rt:=R} (aE ["points","k","part","found"] H):=by
 rintro H R ⟨e,k,rfl,m,I,hz,G,h⟩;obtain⟨j,n,rfl⟩:∃ j n,e=j::n:=by
  cases e with
  |nil=>exact absurd rfl m
  |cons a b=>exact⟨a,b,rfl⟩
 show kN _ [some (.t (.lst ((j::n).map aW))),some (.t (.int (k:Int))),none,none]
 delta kN
 generalize i:j::n=e at *;have o:1<=e.length:=by rw[<-i];simp
 have o:∀ R:S->Prop,R (.t .non)->bg [.t (.lst (e.map aW))] R:=λR F=>⟨aW j,n.map aW,by rw[<-i];rfl,F⟩
 symm;refine o _ ?_;symm;rw[if_neg ⋯]
 symm
 by_cases n:e.length<k
 .rw[if_pos (by rw[length_map];ext)]
  symm;exact h [] (D7 n)
 rw[if_neg (by rw[length_map];ext)]
 symm;refine⟨e,rfl,⋯,λp n=>(hz p n).mono3 ⋯,λq j=>?_⟩
 dsimp only;have i:(bQ q).map ck=((bQ q).map fP).map spT:=by rw[map_map];rfl
 have H:∀ l:List aT,got (.ol (l.map spT))=.ol (l.map spT):=λl=>eE _ (bG (λ_=>rfl) l);rw[i,H];symm;have i:∀ p∈e,SzF 110 p:=λp n=>(hz p n).mono3 ⋯
 have O:=oB j m;have E:jj ((bQ q).map fP):=ga O λp n=>(i p (j.1 p (O.sub p n))).mono3 ⋯
 have C:=Cp j m i;have n:((bQ q).map fP).length<=14:=by
  have n:=xq q;have z:=Ei j;rw[length_map];ext
 let M:a9->Prop:=λB=>∃ (o:List Hf) (L:List aT) (v:S) (n:Option S),B=[some (.t (.lst (e.map aW))),some (.t (.int (k:Int))),some v,n]/\v=.ol (L.map spT)/\ji e o/\u7 ((bQ q).map fP) (kS ((e.length:Int)-k+1) e o) L/\EO (fm e) L
 refine⟨M,?_,?_⟩
 .refine⟨e,_,rfl,m,I,hz,λo D=>?_⟩;dsimp only;rw[eE _ (bG (λ_=>rfl) _)];symm;rw[length_map];have hok:∀ g∈kS ((e.length:Int)-k+1) e o,gm g/\fm e g:=λg y=>by
   have:=(D.1 g).mp (mem_filter.mp y).1;exact⟨jY i this,this⟩
  have i:(kS ((e.length:Int)-k+1) e o).length<=60:=le_trans (length_filter_le ..) D.2;have y:∀ (L:List aT) (v:S) (n:Option S),v=.ol (L.map spT)->u7 ((bQ q).map fP) (kS ((e.length:Int)-k+1) e o) L->EO (fm e) L->M [some (.t (.lst (e.map aW))),some (.t (.int (k:Int))),some v,n]:=λL v n a b c=>⟨o,L,v,n,rfl,a,D,b,c⟩;generalize kS ((e.length:Int)-k+1) e o=st at hok i y;refine⟨λJ B=>∃ (pre i:List Hf) (L:List aT) (v:S) (n:Option S),st=pre++i/\J=i.map bd/\B=[some (.t (.lst (e.map aW))),some (.t (.int (k:Int))),some v,n]/\v=.ol (L.map spT)/\u7 ((bQ q).map fP) pre L/\EO (fm e) L,⟨[],st,_,_,_,rfl,rfl,rfl,rfl,OV E,C⟩,?_,?_⟩
  .rintro B ⟨pre,i,L,v,n,q,C,rfl,z,e,E⟩;have:i=[]:=by simpa using C.symm
   subst this;rw[append_nil]at q;rw[<-q]at e;exact y L v n z e E
  .rintro x J B ⟨pre,i,L,v,n,q,C,rfl,z,e,E⟩
   cases i with
   |nil=>cases C
   |cons g i=>
    rw[map_cons]at C
    cases C
    obtain⟨y,C⟩:=hok g (by rw[q];simp)
    have J:pre.length<=70:=by
     have:=congrArg List.length q;simp only[List.length_append,length_cons]at this;ext
    have J:=e.2.1;subst z
    (
     symm;refine⟨L,g,rfl,⋯,D6 e.1,y.1,?_⟩
     dsimp only;rw[H];symm;exact⟨pre++[g],i,gu g L,_,_,by rw[q];simp,rfl,rfl,rfl,BX y e,Cq y C e.1 E⟩)
 .rintro B ⟨o,L,v,n,rfl,z,D,e,E⟩;have F:=h L (Hm j m I hz G ⋯ D e E)
  subst z;symm;exact F
set_option maxHeartbeats 4000000
theorem Jj {α:Type}{f:α->T}{l:List α}{k:Nat}{x:α}{R:S->Prop}(e:l[k]?=some x):atT (l.map f) (k:Int) R=R (.t (f x)):=
 eX (dj (by rw[getElem?_map,e];rfl))
theorem qc (k n:Nat):bU (k:Int) (n+1)=.int k::bU ((k+1:Nat):Int) n:=by
 unfold bU;rw[range_succ_eq_map,map_cons,map_map]
 congr 1
 .simp;intro a _;ext
theorem t0 (e:m=n)(I:Nat->a9->Prop)(F:I 0 i)(B:∀ i,I n i->D.nx i)
  (v:∀ k i,k<n->I k i->g (.int (k:Int)) i λy=>C {nx:=I (k+1),rt:=D.rt,bk:=D.nx,ct:=I (k+1)} y):yQ g C (bU 0 m) D i:=by
 subst e;refine⟨λo i=>∃ k j:Nat,o=bU (k:Int) j/\k+j=m/\I k i,⟨0,m,rfl,⋯,F⟩,?_,?_⟩
 .rintro i ⟨k,j,e,o,h⟩
  cases j with
  |zero=>exact B i (by rw[Nat.add_zero]at o;rw[<-o];exact h)
  |succ j=>rw[qc]at e;cases e
 .rintro x r i ⟨k,j,e,o,h⟩
  cases j with
  |zero=>cases e
  |succ j=>
   rw[qc]at e;obtain⟨rfl,rfl⟩:=List.cons.inj e;have q:=v k i ⋯ h
   have z:I (k+1)=λi=>∃ o p:Nat,bU ((k+1:Nat):Int) j=bU (o:Int) p/\o+p=m/\I o i:=by
    funext δ'
    refine propext ⟨λhi=>⟨k+1,j,rfl,⋯,hi⟩,?_⟩
    rintro⟨o,p,E,G,hi⟩;have:=congrArg List.length E;rw[f7,f7]at this;have:o=k+1:=⋯
    rw[<-this];exact hi
   show g _ i λy=>C {nx:=λi=>∃ o p:Nat,bU ((k+1:Nat):Int) j=bU (o:Int) p/\o+p=m/\I o i,rt:=D.rt,bk:=D.nx,ct:=λi=>∃ o p:Nat,bU ((k+1:Nat):Int) j=bU (o:Int) p/\o+p=m/\I o i} y;rw[<-z];exact q
theorem Lu {i:Nat}{e:a9}{N:a9->Prop}{vs:List Int}{x:Int}{j:Nat}(h:j<vs.length):Ht i e N (vs.map .int) (.t (.int x)) (.t (.int (j:Int)))=N (e.set i (some (.ol ((vs.set j x).map .int)))):=by
 have:rM (vs.map T.int).length (j:Int)=some j:=by unfold rM;rw[if_pos ⋯,if_pos (by rw[length_map];ext)];rfl
 show(match rM _ _ with|some j=>_|none=>False)=_
 rw[this,List.map_set]
abbrev big:Int:=1000000000000000000000000000000000000000000000000000000000007
theorem me:(0:Int)<big:=⋯
def lJ (x:Int):Prop:=-1000000000000000000<=x/\x<=1000000000000000000
theorem k7 (h:lJ x):Sz 60 x:=by unfold lJ at h;exact Sz.of ⋯ ⋯
def gR:aN:=λe R=>∃ (ns:List Int) (m:Nat),e=[.t (.lst (ns.map .int)),.t (.int (m:Int))]/\ns.length<=63/\0<m/\m<=100/\∀ e:List Int,e.length=m->(∀ v∈e,0<=v/\v<big)->R (.ol (e.map .int))
def jM:aN:=λe R=>∃ n b k:Int,e=[.t (.int n),.t (.int b),.t (.int k)]/\b=5/\0<=k/\k<1000/\∀ v:Int,R (.t (.int v))
def iD:aN:=λe R=>∃ (hd:List Int) (m:Int),e=[.t (.lst (hd.map .int)),.t (.int m)]/\4+m<=hd.length/\(∀ v∈hd,0<=v/\v<big)/\1<=m/\m<=8/\∀ e:List Pt,e.length=m.toNat->(∀ p∈e,lJ p.1/\lJ p.2)->R (.ol (e.map aW))
def bC:aN:=λe R=>∃ a b:Int,e=[.t (.int a),.t (.int b)]/\0<b/\Sz 900000 a/\Sz 9000 b/\R (.t (pK (fF a b)))
def eC (s:aT)(ps:List Pt):List Pt:=ps.map (gj (af s))
def lB:aN:=λg R=>∃ (e:List Pt) (n:Int),g=[.t (.lst (e.map aW)),.t (.int n)]/\e≠[]/\e.length<=1000/\(∀ p∈e,SzF 100 p)/\∀ s:aT,bx s->eH 119 s->R (.t (spT s))
def fA:WS:=
 (aC (aG 2 (dI 1 [] (fk (ac (ae 1) ap)) (aH 0) lG (wC (.int 0))))
 (bZ (jS (fk (ac (eh tV (ac (ae 1) (ac (eh pI (ac (eh cZ (ac (ae 0) ap)) (ac (wC (.int 63)) ap))) ap))) ap)) (aH 3) (aC (aG 4 (wC (.int 0)))
 (bZ (hI (wB (EC (eh cZ (ac (ae 0) ap)) (wC (.int 0)))) (aG 4 (dg (ao aK (ae 0) (dg (ae 3) (eh pI (ac (eh cZ (ac (ae 0) ap)) (ac (wC (.int 63)) ap))))) (cz (uT (wC (.int 10)) (wC (.int 60))) (wC (.int 7))))) bz)
 (aC (aG 5 (dg (ae 3) (ae 1)))
 (lF 2 (ae 5) (dg (cz (cz (aV (ao aK (ae 2) (ae 5)) (wC (.int 48271))) (ae 4)) (aV (ae 3) (ae 3))) (cz (uT (wC (.int 10)) (wC (.int 60))) (wC (.int 7)))))))))
 (iG 2)))
def i7:WS:=
 (bZ (jS (fk (ac (ae 2) ap)) (aH 3) (aG 0 (dJ (ae 0) (ae 1))))
 (bw (dg (ae 0) (ae 1))))
def g9:WS:=
 (aC (aG 2 (iF ap))
 (aC (aG 3 (dg (ao aK (ae 0) (wC (.int 0))) (wC (.int 8))))
 (bZ (jS (fk (ac (ae 1) ap)) (aH 4) (aC (aG 5 (ao aK (ae 0) (cz (wC (.int 4)) (ae 4))))
 (aC (aG 6 (cL (dg (ae 5) (wC (.int 7))) (wC (.int 3))))
 (aC (aG 7 (cL (dg (dJ (ae 5) (wC (.int 7))) (wC (.int 7))) (wC (.int 3))))
 (bZ (hI (wB (qt (ae 3) (wC (.int 1)))) (aG 7 (cL (aV (wC (.int 2)) (ae 6)) (wC (.int 1)))) bz)
 (bZ (hI (wB (qt (ae 3) (wC (.int 2)))) (aG 6 (wC (.int 1))) bz)
 (bZ (hI (wB (qt (ae 3) (wC (.int 3)))) (HF 6 7 (ac (cL (dg (ae 5) (wC (.int 3))) (wC (.int 1))) (ac (cL (dg (dJ (ae 5) (wC (.int 3))) (wC (.int 3))) (wC (.int 1))) ap))) bz)
 (bZ (hI (wB (EC (ae 3) (wC (.int 5)))) (aC (aG 6 (cL (dg (ae 5) (cz (aV (wC (.int 2)) (uT (wC (.int 10)) (wC (.int 18)))) (wC (.int 1)))) (uT (wC (.int 10)) (wC (.int 18)))))
 (aG 7 (cL (dg (aV (ae 5) (wC (.int 69621))) (cz (aV (wC (.int 2)) (uT (wC (.int 10)) (wC (.int 18)))) (wC (.int 1)))) (uT (wC (.int 10)) (wC (.int 18)))))) bz)
 (bZ (hI (LR (js (wB (EC (ae 4) (wC (.int 0)))) (wB (qt (aw jM (ac (ao aK (ae 0) (wC (.int 1))) (ac (wC (.int 5)) (ac (ae 4) ap)))) (wC (.int 1)))))) (uU (ao aK (ae 2) (cL (ae 4) (wC (.int 1)))) (jt (bA (aH 6) (bA (aH 7) hV)))) bz)
 (eO 2 (bX (ac (ae 6) (ac (ae 7) ap)))))))))))))
 (iG 2))))
def eQ:WS:=
 (aC (aG 2 (aw gQ (ac (ae 0) (ac (ae 1) ap))))
 (bw (bX (ac (dJ (ae 0) (ae 2)) (ac (dJ (ae 1) (ae 2)) ap)))))
def kJ:WS:=
 (aC (aG 2 (dg (ae 1) (wC (.int 5))))
 (aC (aG 3 (ao aK (ae 0) (dg (dJ (ae 1) (wC (.int 5))) (eh cZ (ac (ae 0) ap)))))
 (aC (aG 4 (ao aK (ae 0) (dg (dJ (ae 1) (wC (.int 60))) (eh cZ (ac (ae 0) ap)))))
 (aC (aG 5 (ao aK (ae 0) (dg (dJ (ae 1) (wC (.int 720))) (eh cZ (ac (ae 0) ap)))))
 (aC (hI (wB (qt (ae 2) (wC (.int 0)))) (bw (bX (ac (bX (ac (ao aK (ae 3) (wC (.int 0))) (ac (wC (.int 1)) ap))) (ac (bX (ac (ao aK (ae 3) (wC (.int 1))) (ac (wC (.int 1)) ap))) ap)))) bz)
 (aC (hI (wB (qt (ae 2) (wC (.int 1)))) (bw (bX (ac (aw bC (ac (cz (ao aK (ae 3) (wC (.int 0))) (ao aK (ae 4) (wC (.int 0)))) (ac (wC (.int 2)) ap))) (ac (aw bC (ac (cz (ao aK (ae 3) (wC (.int 1))) (ao aK (ae 4) (wC (.int 1)))) (ac (wC (.int 2)) ap))) ap)))) bz)
 (aC (aG 6 (iF (ac (cL (dg (dJ (ae 1) (wC (.int 8640))) (wC (.int 7))) (wC (.int 1))) (ac (cL (dg (dJ (ae 1) (wC (.int 60480))) (wC (.int 7))) (wC (.int 1))) (ac (cz (dg (dJ (ae 1) (wC (.int 423360))) (wC (.int 7))) (wC (.int 3))) ap)))))
 (bZ (hI (wB (qt (ae 2) (wC (.int 2)))) (aC (lF 6 (wC (.int 2)) (wC (.int 0)))
 (lF 6 (wC (.int 1)) (cL (wC (.int 7)) (ao aK (ae 6) (wC (.int 0)))))) bz)
 (aC (aG 7 (eh vA (ac (ae 6) ap)))
 (aC (aG 8 (cz (cz (aV (ao aK (ae 6) (wC (.int 0))) (ao aK (ae 3) (wC (.int 0)))) (aV (ao aK (ae 6) (wC (.int 1))) (ao aK (ae 4) (wC (.int 0))))) (aV (ao aK (ae 6) (wC (.int 2))) (ao aK (ae 5) (wC (.int 0))))))
 (aC (aG 9 (cz (cz (aV (ao aK (ae 6) (wC (.int 0))) (ao aK (ae 3) (wC (.int 1)))) (aV (ao aK (ae 6) (wC (.int 1))) (ao aK (ae 4) (wC (.int 1))))) (aV (ao aK (ae 6) (wC (.int 2))) (ao aK (ae 5) (wC (.int 1))))))
 (bw (bX (ac (aw bC (ac (ae 8) (ac (ae 7) ap))) (ac (aw bC (ac (ae 9) (ac (ae 7) ap))) ap)))))))))))))))
theorem Hs {vs:List Int}{P:Int->Prop}{j:Nat}{x:Int}(h:∀ v∈vs,P v)(g:P x):∀ v∈vs.set j x,P v:=λv e=>by
 obtain z|z:=List.mem_or_eq_of_mem_set e
 .exact h v z
 .rw[z];exact g
theorem Ho (m:Nat):(List.range m).map (λ_=>T.int 0)=(replicate m (0:Int)).map T.int:=by
 rw[List.map_replicate];exact List.eq_replicate_iff.mpr ⟨by simp,λb h=>by simp at h;exact h.2.symm⟩
theorem rZ:∀ C R,gR C R->fA {nx:=λ_=>R (.t .non),rt:=R} (aE ["_law_script","_law_many","_law_found","_law_k","_law_cell","_law_at"] C):=by
 rintro C R ⟨ns,m,rfl,Q,M,U,h⟩;show fA _ [some (.t (.lst (ns.map .int))),some (.t (.int (m:Int))),none,none,none,none]
 delta fA
 symm;refine⟨ki ⋯ ⋯,?_⟩
 rw[toNat_natCast];refine eu (f:=λk:Nat=>.int (0+(k:Int))) (h:=λ_=>.int 0) (l:=List.range m) (λg=>∃ r,g=[r]) (λ_ _=>rfl) (by rw[length_range];ext) ⟨_,rfl⟩ ?_ ?_
 .rintro k x g ⟨r,rfl⟩ Y H;symm;exact H _ ⟨_,rfl⟩
 rw[Ho]
 let I:a9->Prop:=λg=>∃ (e:List Int) (y B j:Option S),g=[some (.t (.lst (ns.map .int))),some (.t (.int (m:Int))),some (.ol (e.map .int)),y,B,j]/\e.length=m/\∀ v∈e,0<=v/\v<big
 have L:∀ v∈replicate m (0:Int),0<=v/\v<big:=λv i=>by
  rw[List.eq_of_mem_replicate i];decide
 refine⟨I,?_,?_⟩
 .symm;simp only[length_map];refine⟨ki (by(repeat' split) <;> ext) (by(repeat' split) <;> ext),t0 rfl (λ_=>I) ⟨_,_,_,_,rfl,by simp,L⟩ (λ_ z=>z) ?_⟩
  rintro k g x ⟨e,y,B,j,rfl,o,i⟩;have x:k<1000:=by revert x;(repeat' split) <;> ext
  symm
  try simp only[length_map]
  refine⟨λg=>∃ c:Int,g=[some (.t (.lst (ns.map .int))),some (.t (.int (m:Int))),some (.ol (e.map .int)),some (.t (.int k)),some (.t (.int c)),j]/\0<=c/\c<big,?_,?_⟩
  .symm
   try simp only[length_map]
   split
   .rename_i c;have J:∃ q:Int,(if 63<(ns.length:Int) then (63:Int) else ns.length)=q/\0<q/\q<=ns.length:=⟨_,rfl,by split <;> ext,by split <;> ext⟩
    obtain⟨q,eq,E,X⟩:=J;rw[eq];have G:=fmod_lo (k:Int) E;have P:=fmod_hi (k:Int) E;symm;refine⟨⋯,Ah G ⋯ λv _=>?_⟩
    symm;refine⟨DY ⋯ ⋯ ⋯,⋯,?_⟩
    exact⟨v.fmod big,rfl,fmod_lo v me,fmod_hi v me⟩
   .exact⟨0,rfl,⋯,⋯⟩
  rintro g ⟨c,rfl,c0,O⟩;have F:(k:Int).fmod (m:Int)=((k % m:Nat):Int):=nG k m;have p:k % m<e.length:=by rw[o];exact mod_lt _ M
  have D:e[k % m]?=some (e[k % m]'p):=getElem?_eq_getElem _;generalize e[k % m]'p=v at D;symm;refine⟨⋯,?_⟩
  rw[F];rw[gr (dj (show(e.map T.int)[k % m]?=some (.int v) by rw[getElem?_map,D];rfl))]
  symm;refine⟨Nr ⋯ ⋯,Gq ⋯ ⋯,DY ⋯ ⋯ ⋯,⋯,?_⟩
  rw[Lu p];exact⟨_,_,_,_,rfl,by rw[length_set];exact o,Hs i ⟨fmod_lo (n:=big) _ me,fmod_hi (n:=big) _ me⟩⟩
 .rintro g ⟨e,y,B,j,rfl,o,i⟩;symm;exact h e o i
theorem vX:∀ g R,jM g R->i7 {nx:=λ_=>R (.t .non),rt:=R} (aE ["_law_number","_law_base","_law_place","_law_k"] g):=by
 rintro g R ⟨n,b,k,rfl,rfl,e,k1,h⟩;show i7 _ [some (.t (.int n)),some (.t (.int 5)),some (.t (.int k)),none]
 delta i7
 symm;refine⟨λe=>∃ (v:Int) (r:Option S),e=[some (.t (.int v)),some (.t (.int 5)),some (.t (.int k)),r],?_,?_⟩
 .symm;refine⟨ki ⋯ ⋯,λg e=>∃ (v:Int) (r:Option S),e=[some (.t (.int v)),some (.t (.int 5)),some (.t (.int k)),r],⟨_,_,rfl⟩,λ_ q=>q,?_⟩
  rintro t g e ⟨v,r,rfl⟩;symm;exact⟨AF ⋯ (by decide +kernel),_,_,rfl⟩
 rintro e ⟨v,r,rfl⟩;symm;exact⟨⋯,h _⟩
theorem ig {hd:List Int}{i:Nat}{R:S->Prop}(hi:i<hd.length)(g:∀ v∈hd,0<=v/\v<big)(h:∀ v,0<=v->v<big->R (.t (.int v))):atT (hd.map T.int) (i:Int) R:=by
 have e:hd[i]?=some (hd[i]'⋯):=getElem?_eq_getElem _
 rw[Jj e];have:=g _ (mem_of_getElem? e);exact h _ this.1 this.2
theorem vE {hd:List Int}{i:Nat}{R:S->Prop}(hi:i<hd.length)(g:∀ v∈hd,0<=v/\v<big)(h:∀ v,0<=v->v<big->R (.t (.int v))):uX (hd.map T.int) (i:Int) R:=by
 have e:hd[i]?=some (hd[i]'⋯):=getElem?_eq_getElem _
 rw[gr (dj (show(hd.map T.int)[i]?=some (.int _) by rw[getElem?_map,e];rfl))]
 have:=g _ (mem_of_getElem? e);exact h _ this.1 this.2
theorem Jk {l:List Pt}{k:Nat}{x:Pt}{R:S->Prop}(e:l[k]?=some x):uX (l.map aW) (k:Int) R=R (.t (aW x)):=by
 rw[gr (dj (x:=aW x) (by rw[getElem?_map,e];rfl))];rfl
theorem uu:∀ P R,iD P R->g9 {nx:=λ_=>R (.t .non),rt:=R} (aE ["_law_head","_law_many","_law_found","_law_way","_law_k","_law_number","_law_x","_law_y"] P):=by
 rintro P R ⟨hd,m,rfl,hl,E,m0,m1,h⟩;have D:Sz 1 0:=⟨⋯⟩
 show g9 _ [some (.t (.lst (hd.map .int))),some (.t (.int m)),none,none,none,none,none,none]
 delta g9
 symm;refine ig (i:=0) ⋯ E λQ _ _=>?_
 walk_at"go";generalize Q.fmod 8=way
 let M (n:Nat):a9->Prop:=λB=>∃ (o:List Pt) (I J L O:Option S),B=[some (.t (.lst (hd.map .int))),some (.t (.int m)),some (.ol (o.map aW)),some (.t (.int way)),I,J,L,O]/\o.length=n/\∀ p∈o,lJ p.1/\lJ p.2
 refine⟨M m.toNat,?_,?_⟩
 .symm;refine⟨ki ⋯ ⋯,t0 rfl M ⟨[],_,_,_,_,rfl,rfl,λp X=>by cases X⟩ (λ_ z=>z) ?_⟩
  rintro k B hk ⟨o,I,J,L,O,rfl,pl,C⟩;have U:k<8:=⋯
  symm;rw[show(4+(k:Int))=((4+k:Nat):Int) by ext]
  refine ig (i:=4+k) ⋯ E λv Q v1=>?_
  have Z:=fmod_lo v (n:=7) ⋯
  have a2:=fmod_hi v (n:=7) ⋯
  have a3:=fmod_lo (v.fdiv 7) (n:=7) ⋯
  have a4:=fmod_hi (v.fdiv 7) (n:=7) ⋯
  have b1:=fmod_lo v (n:=3) ⋯
  have b2:=fmod_hi v (n:=3) ⋯
  have b3:=fmod_lo (v.fdiv 3) (n:=3) ⋯
  have b4:=fmod_hi (v.fdiv 3) (n:=3) ⋯
  have c1:=fmod_lo v (n:=2000000000000000001) ⋯
  have c2:=fmod_hi v (n:=2000000000000000001) ⋯
  have c3:=fmod_lo (v*69621) (n:=2000000000000000001) ⋯
  have c4:=fmod_hi (v*69621) (n:=2000000000000000001) ⋯
  let N:a9->Prop:=λB=>∃ x y:Int,B=[some (.t (.lst (hd.map .int))),some (.t (.int m)),some (.ol (o.map aW)),some (.t (.int way)),some (.t (.int k)),some (.t (.int v)),some (.t (.int x)),some (.t (.int y))]/\lJ x/\lJ y
  walk_at"go";refine⟨N,?_,?_⟩
  .walk_at"go"
   split
   .walk_at"go";exact⟨_,_,rfl,(by unfold lJ;ext),(by unfold lJ;ext)⟩
   .exact⟨_,_,rfl,(by unfold lJ;ext),(by unfold lJ;ext)⟩
  rintro B ⟨x,y,rfl,j,g⟩;symm;refine⟨N,?_,?_⟩
  .walk_at"go"
   split
   .exact⟨_,_,rfl,(by unfold lJ;ext),g⟩
   .exact⟨_,_,rfl,j,g⟩
  clear j g x y;rintro B ⟨x,y,rfl,j,g⟩;symm;refine⟨N,?_,?_⟩
  .walk_at"go"
   split
   .walk_at"go";exact⟨_,_,rfl,(by unfold lJ;ext),(by unfold lJ;ext)⟩
   .exact⟨_,_,rfl,j,g⟩
  clear j g x y;rintro B ⟨x,y,rfl,j,g⟩;symm;refine⟨N,?_,?_⟩
  .walk_at"go"
   split
   .walk_at"go";exact⟨_,_,rfl,(by unfold lJ;ext),(by unfold lJ;ext)⟩
   .exact⟨_,_,rfl,j,g⟩
  clear j g x y;rintro B ⟨x,y,rfl,j,g⟩;symm;refine⟨N,?_,?_⟩
  .symm;refine⟨λb=>b=true->0<k,?_,?_⟩
   .symm
    split
    .refine ig (i:=1) ⋯ E λd0 _ _=>?_
     symm;refine⟨_,5,k,rfl,rfl,⋯,⋯,λd=>?_⟩
     symm;intro _;ext
    .exact λz=>z.elim
   .rintro b F;symm
    split
    .rename_i G;have k0:=F G;have e:o[k-1]?=some (o[k-1]'⋯):=getElem?_eq_getElem _
     have H:=C _ (mem_of_getElem? e);generalize o[k-1]'⋯=q at e H
     rw[show((k:Int)-1)=((k-1:Nat):Int) by ext,Jk e]
     symm;exact⟨_,_,rfl,H.1,H.2⟩
    .exact⟨_,_,rfl,j,g⟩
  clear j g x y;rintro B ⟨x,y,rfl,j,g⟩;symm;refine⟨by rw[length_map,pl];ext,o++[(x,y)],_,_,_,_,by rw[map_append];rfl,by simp[pl],λq Y=>?_⟩
  obtain z|z:=mem_append.mp Y
  .exact C q z
  .have z:=mem_singleton.mp z;subst z;exact⟨j,g⟩
 rintro B ⟨o,I,J,L,O,rfl,pl,C⟩;symm;exact h o pl C
theorem vD (h:0<b):fF a b=(a.fdiv (Int.gcd a b),b.fdiv (Int.gcd a b)):=by
 unfold fF j2;rw[if_neg ⋯]
theorem pe:∀ e R,bC e R->eQ {nx:=λ_=>R (.t .non),rt:=R} (aE ["_law_top","_law_bottom","_law_most"] e):=by
 rintro e R ⟨a,b,rfl,e,sa,sb,h⟩;show eQ _ [some (.t (.int a)),some (.t (.int b)),none]
 delta eQ
 rw[vD e]at h;symm;refine⟨a,b,rfl,?_⟩;symm;have g:(Int.gcd a b:Int)≠0:=fG (.inr ⋯)
 have e:Sz 9000 (Int.gcd a b:Int):=by
  have:=Sz.gcdL (b:=a) sb ⋯
  rwa [Int.gcd_comm]at this
 exact⟨xf g e ⋯,xf g e ⋯,h⟩
theorem ra (i:0<b):oP (fF a b)/\(fF a b).1*b=a*(fF a b).2:=by
 refine⟨t3 ⋯,?_⟩
 rw[vD i];have e:=cb (gcd_dvd_left a b);have h:=cb (gcd_dvd_right a b);show a.fdiv (Int.gcd a b)*b=a*b.fdiv (Int.gcd a b);generalize (Int.gcd a b:Int)=g at *;generalize j:a.fdiv g=x at *;generalize j:b.fdiv g=y at *;rw[<-e,<-h];grind
theorem q7 (h:0<b)(sa:Sz n a)(sb:Sz n b):SzF n (fF a b):=by
 rw[vD h];exact⟨sa.fdiv _,sb.fdiv _⟩
theorem O9 (i:Nat)(e:a9)(N:a9->Prop)(a b c x:T):Ht i e N [a,b,c] (.t x) (.t (.int 1))=N (e.set i (some (.ol [a,x,c]))):=rfl
theorem Pa (i:Nat)(e:a9)(N:a9->Prop)(a b c x:T):Ht i e N [a,b,c] (.t x) (.t (.int 2))=N (e.set i (some (.ol [a,b,x]))):=rfl
theorem sG {ps:List Pt}{i:Int}{R:S->Prop}(e:0<=i)(g:i<ps.length)(h:∀ p∈ps,R (.t (aW p))):atT (ps.map aW) i R:=wU e (by rw[length_map];exact g) λx k=>by
 obtain⟨p,j,rfl⟩:=mem_map.mp k;exact h p j
theorem zk:Ok lB kJ ["_law_points_here","_law_number","_law_way","_law_one","_law_other","_law_third","_law_by","_law_total","_law_x","_law_y"]:=by
 rintro ss R ⟨ps,n,rfl,hne,hl,hp,h⟩;have dummy:Sz 1 0:=⟨⋯⟩
 have hlen:0<ps.length:=length_pos_iff.mpr hne;show kJ _ [some (.t (.lst (ps.map aW))),some (.t (.int n)),none,none,none,none,none,none,none,none]
 delta kJ
 have hq:0<(ps.length:Int):=⋯
 have f1:=fmod_lo (n.fdiv 5) hq;have f2:=fmod_hi (n.fdiv 5) hq;have f3:=fmod_lo (n.fdiv 60) hq;have f4:=fmod_hi (n.fdiv 60) hq;have f5:=fmod_lo (n.fdiv 720) hq;have f6:=fmod_hi (n.fdiv 720) hq;have g1:=fmod_lo (n.fdiv 8640) (n:=7) ⋯
 have g2:=fmod_hi (n.fdiv 8640) (n:=7) ⋯
 have g3:=fmod_lo (n.fdiv 60480) (n:=7) ⋯
 have g4:=fmod_hi (n.fdiv 60480) (n:=7) ⋯
 have g5:=fmod_lo (n.fdiv 423360) (n:=7) ⋯
 have g6:=fmod_hi (n.fdiv 423360) (n:=7) ⋯
 have el:((ps.map aW).length:Int)=(ps.length:Int):=by rw[length_map]
 walk_at"go";rw[el];refine sG f1 f2 λp1 h1=>?_;obtain⟨x1,y1⟩:=p1;obtain⟨u1,v1⟩:=hp _ h1;dsimp only at u1 v1;walk_at"go";rw[el];refine sG f3 f4 λp2 h2=>?_;obtain⟨x2,y2⟩:=p2;obtain⟨u2,v2⟩:=hp _ h2;dsimp only at u2 v2;walk_at"go";rw[el];refine sG f5 f6 λp3 h3=>?_;obtain⟨x3,y3⟩:=p3;obtain⟨u3,v3⟩:=hp _ h3;dsimp only at u3 v3;have one:Sz 119 (1:Int):=⟨⋯⟩
 have two:Sz 119 (2:Int):=⟨⋯⟩
 walk_at"go"
 split
 .exact h ((x1,1),(y1,1)) (Eo (x1,y1)) ⟨⟨u1.mono ⋯,one⟩,v1.mono ⋯,one⟩
 split
 .have sx:=q7 (a:=x1+x2) (b:=2) (n:=119) ⋯ ((Sz.add u1 u2).mono ⋯) two
  have sy:=q7 (a:=y1+y2) (b:=2) (n:=119) ⋯ ((Sz.add v1 v2).mono ⋯) two
  refine⟨x1+x2,2,rfl,⋯,(Sz.add u1 u2).mono ⋯,two.mono ⋯,?_⟩
  symm;refine⟨y1+y2,2,rfl,⋯,(Sz.add v1 v2).mono ⋯,two.mono ⋯,?_⟩
  symm;exact h (fF (x1+x2) 2,fF (y1+y2) 2) ⟨(ra ⋯).1,(ra ⋯).1⟩ ⟨sx,sy⟩
 generalize (n.fdiv 8640).fmod 7=c0 at *;generalize (n.fdiv 60480).fmod 7=c1 at *;generalize (n.fdiv 423360).fmod 7=c2 at *;walk_at"go";refine⟨λδ=>∃ b0 b1 b2:Int,δ=[some (.t (.lst (ps.map aW))),some (.t (.int n)),some (.t (.int (n.fmod 5))),some (.t (.tup [.int x1,.int y1])),some (.t (.tup [.int x2,.int y2])),some (.t (.tup [.int x3,.int y3])),some (.ol [.int b0,.int b1,.int b2]),none,none,none]/\0<b0+b1+b2/\-20<b0/\b0<20/\-20<b1/\b1<20/\-20<b2/\b2<20,?_,?_⟩
 .symm
  split
  .rw[Pa];symm;rw[O9];exact⟨_,_,_,rfl,⋯,⋯,⋯,⋯,⋯,⋯,⋯⟩
  .exact⟨_,_,_,rfl,⋯,⋯,⋯,⋯,⋯,⋯,⋯⟩
 rintro δ ⟨b0,b1,b2,rfl,hb,l0,h0,l1,h1',l2,h2'⟩;walk_at"db";show sumK _ ([b0,b1,b2].map T.int);rw[Es];have es:[b0,b1,b2].sum=b0+b1+b2:=by simp[List.sum];ext
 rw[es];have sb0:Sz 5 b0:=Sz.of ⋯ ⋯
 have sb1:Sz 5 b1:=Sz.of ⋯ ⋯
 have sb2:Sz 5 b2:=Sz.of ⋯ ⋯
 have st:Sz 119 (b0+b1+b2):=Sz.of ⋯ ⋯
 generalize ht:b0+b1+b2=t at *;walk_at"go";have tx:Sz 119 (b0*x1+b1*x2+b2*x3):=(Sz.add (Sz.add (Sz.mul sb0 u1) (Sz.mul sb1 u2)) (Sz.mul sb2 u3)).mono ⋯
 have ty:Sz 119 (b0*y1+b1*y2+b2*y3):=(Sz.add (Sz.add (Sz.mul sb0 v1) (Sz.mul sb1 v2)) (Sz.mul sb2 v3)).mono ⋯
 refine⟨_,t,rfl,⋯,tx.mono ⋯,st.mono ⋯,?_⟩
 symm;refine⟨_,t,rfl,⋯,ty.mono ⋯,st.mono ⋯,?_⟩
 symm;exact h (fF (b0*x1+b1*x2+b2*x3) t,fF (b0*y1+b1*y2+b2*y3) t) ⟨(ra hb).1,(ra hb).1⟩ ⟨q7 hb tx st,q7 hb ty st⟩
def gq (p q:Hf):Int:=p.1*q.1+p.2.1*q.2.1
def bH (p q:Hf):Int:=p.1*q.2.1-p.2.1*q.1
def jW (b o:Hf):Int:=o.2.2*gq b b-gq b o*b.2.2
def iN (b o:Hf):Fr:=if bH b o<0 then (-jW b o,-bH b o) else (jW b o,bH b o)
def Nz (h:Hf):Prop:=h.1≠0\/h.2.1≠0
def L9 (b:Hf)(s:Fr):Int:=b.1*b.2.2*s.2-b.2.1*s.1
def Ma (b:Hf)(s:Fr):Int:=b.2.1*b.2.2*s.2+b.1*s.1
def xW (b:Hf)(s:Fr):Int:=gq b b*s.2
def Hq (b:Hf)(s:Fr):aT:=(fF (L9 b s) (xW b s),fF (Ma b s) (xW b s))
def Iy (s:Fr):Prop:=0<s.2/\Int.gcd s.1 s.2=1
def LZ (s:aT):Prop:=Iy s.1/\Iy s.2
theorem sM {a:Int}(h:a≠0):0<a*a:=by
 obtain z|z:=Int.lt_or_gt_of_ne h
 .exact Int.mul_pos_of_neg_of_neg z z
 .exact mul_pos z z
theorem Ep (a:Int):0<=a*a:=by
 by_cases h:a=0
 .subst h;decide
 .exact le_of_lt (sM h)
theorem mV {b:Hf}(h:Nz b):0<gq b b:=by
 unfold gq
 obtain z|z:=h
 .have:=sM z;have:=Ep b.2.1;ext
 .have:=sM z;have:=Ep b.1;ext
theorem Ds {c t:Int}(e:0<c)(h:0<=c*t):0<=t:=by
 obtain z|z:=lt_or_le t 0
 .have:=mul_neg_of_pos_of_neg e z;ext
 .exact z
theorem bM {c t:Int}(e:0<c)(h:0<c*t):0<t:=by
 obtain z|z:=lt_or_le 0 t
 .exact z
 .have:=mul_nonpos_of_nonneg_of_nonpos (le_of_lt e) z;ext
theorem qY {a b:Int}(j:0<b):Iy (fF a b)/\(fF a b).1*b=a*(fF a b).2:=by
 have g:(Int.gcd a b:Int)≠0:=fG (.inr ⋯)
 have p:0<(Int.gcd a b:Int):=⋯
 have e:j2 a b=(Int.gcd a b:Int):=by unfold j2;rw[if_neg ⋯]
 unfold fF;rw[e];have i:=cb (gcd_dvd_left a b);have e:=cb (gcd_dvd_right a b);have g:a.fdiv (Int.gcd a b:Int)=a / (Int.gcd a b:Int):=Int.fdiv_eq_ediv_of_nonneg _ ⋯
 have h:b.fdiv (Int.gcd a b:Int)=b / (Int.gcd a b:Int):=Int.fdiv_eq_ediv_of_nonneg _ ⋯
 refine⟨⟨?_,?_⟩,?_⟩
 .refine bM p ?_;rw[mul_comm,e];exact j
 .dsimp only;rw[g,h,Int.gcd_ediv_gcd_ediv_gcd ⋯]
 .dsimp only;have g:a.fdiv (Int.gcd a b:Int)*b=a.fdiv (Int.gcd a b:Int)*(b.fdiv (Int.gcd a b:Int)*(Int.gcd a b:Int)):=by rw[e]
  have e:a*b.fdiv (Int.gcd a b:Int)=a.fdiv (Int.gcd a b:Int)*(Int.gcd a b:Int)*b.fdiv (Int.gcd a b:Int):=by rw[i]
  rw[g,e,mul_comm (b.fdiv _),<-Int.mul_assoc]
theorem Lq (h:Nz b)(hs:0<s.2):LZ (Hq b s):=by
 have:0<xW b s:=mul_pos (mV h) hs;exact⟨(qY this).1,(qY this).1⟩
theorem HS {b:Hf}{s:Fr}(o:Hf)(k:Nz b)(hs:0<s.2)(h:jW b o*s.2<=bH b o*s.1):0<=a6 o (Hq b s):=by
 have g:0<xW b s:=mul_pos (mV k) hs;obtain⟨⟨i,_⟩,j⟩:=qY (a:=L9 b s) g;obtain⟨⟨j,_⟩,m⟩:=qY (a:=Ma b s) g;unfold a6 Hq;generalize fF (L9 b s) (xW b s)=X at *;generalize fF (Ma b s) (xW b s)=Y at *;dsimp only;refine Ds g ?_;have e:xW b s*(o.1*X.1*Y.2+o.2.1*Y.1*X.2-o.2.2*(X.2*Y.2))=(X.2*Y.2)*(bH b o*s.1-jW b o*s.2):=by
  have g:bH b o*s.1-jW b o*s.2=o.1*L9 b s+o.2.1*Ma b s-o.2.2*xW b s:=by
   unfold bH jW L9 Ma xW gq;grind
  rw[g];grind
 rw[e];exact mul_nonneg (le_of_lt (mul_pos i j)) ⋯
theorem k9 (h:Hf)(p:aT):a6 h p=h.1*(p.1.1*p.2.2)+h.2.1*(p.2.1*p.1.2)-h.2.2*(p.1.2*p.2.2):=by unfold a6;grind
theorem Jw {b f l:Hf}{p:aT}(o:Nz b)(e:0<p.1.2)(g:0<p.2.2)(j:0<=a6 f p)(m:0<=a6 l p)(n:a6 b p<0)(x:0<bH b f)(i:bH b l<0)
  (h:(iN b l).1*(iN b f).2<(iN b f).1*(iN b l).2) :
  0<bH f l/\0<bH l b/\0<f.2.2*bH l b+l.2.2*bH b f+b.2.2*bH f l:=by
 have q:=mV o;unfold iN at h;rw[if_pos i,if_neg ⋯]at h
 dsimp only at h;have k1:bH l b=-bH b l:=by unfold bH;grind
 have v:gq b b*(f.2.2*bH l b+l.2.2*bH b f+b.2.2*bH f l)=jW b f*-bH b l+jW b l*bH b f:=by unfold jW bH gq;grind
 have k:0<f.2.2*bH l b+l.2.2*bH b f+b.2.2*bH f l:=by
  refine bM q ?_;rw[v];have:-jW b l*bH b f=-(jW b l*bH b f):=by grind
  ext
 refine⟨?_,⋯,k⟩
 obtain z|z:=lt_or_le 0 (bH f l)
 .exact z
 exfalso;have hz:0<p.1.2*p.2.2:=mul_pos e g;have q:bH l b*a6 f p+bH b f*a6 l p+bH f l*a6 b p=-((f.2.2*bH l b+l.2.2*bH b f+b.2.2*bH f l)*(p.1.2*p.2.2)):=by
  rw[k9,k9,k9];unfold bH;grind
 have q:0<=bH l b*a6 f p:=mul_nonneg ⋯ j
 have q:0<=bH b f*a6 l p:=mul_nonneg ⋯ m
 have q:0<=bH f l*a6 b p:=mul_nonneg_of_nonpos_of_nonpos z (le_of_lt n);have q:0<(f.2.2*bH l b+l.2.2*bH b f+b.2.2*bH f l)*(p.1.2*p.2.2):=mul_pos k hz;ext
def ip (h:Hf):Int:=(h.1.natAbs:Int)+(h.2.1.natAbs:Int)
theorem nN (n:Nz h):0<ip h:=by
 unfold ip
 rcases n with z | z <;> ext
theorem pw {n a x y:Int}(e:0<n)(g:a<0)(h:n*x=a*y):n*(x.natAbs:Int)=-a*(y.natAbs:Int):=by
 obtain z|z:=lt_or_le y 0
 .have:0<n*x:=by rw[h];exact Int.mul_pos_of_neg_of_neg g z
  have:=bM e this;rw[show(x.natAbs:Int)=x by ext,show(y.natAbs:Int)=-y by ext,h];grind
 .have:0<=n*-x:=by
   have:n*-x=-a*y:=by rw[mul_neg,h];grind
   rw[this];exact mul_nonneg ⋯ z
  have:=Ds e this;rw[show(x.natAbs:Int)=-x by ext,show(y.natAbs:Int)=y by ext,mul_neg,h];grind
theorem Jv {b o:Hf}{p:aT}(q:Nz b)(D:Nz o)(e:0<p.1.2)(g:0<p.2.2)(y:0<=a6 o p)(B:a6 b p<0)(c:bH b o=0)(v:0<jW b o) :
  ip b*o.1+ip o*b.1=0/\ip b*o.2.1+ip o*b.2.1=0/\0<ip b*o.2.2+ip o*b.2.2:=by
 have n:=mV q;have hz:0<p.1.2*p.2.2:=mul_pos e g;have i:gq b b*o.1=gq b o*b.1:=by unfold gq;unfold bH at c;grind
 have j:gq b b*o.2.1=gq b o*b.2.1:=by unfold gq;unfold bH at c;grind
 have neg:gq b o<0:=by
  obtain z|z:=lt_or_le (gq b o) 0
  .exact z
  exfalso;have k:gq b b*a6 o p=gq b o*a6 b p-(p.1.2*p.2.2)*jW b o:=by
   rw[k9,k9];have:gq b b*(o.1*(p.1.1*p.2.2)+o.2.1*(p.2.1*p.1.2)-o.2.2*(p.1.2*p.2.2))=(gq b b*o.1)*(p.1.1*p.2.2)+(gq b b*o.2.1)*(p.2.1*p.1.2)-gq b b*o.2.2*(p.1.2*p.2.2):=by grind
   rw[this,i,j];unfold jW;grind
  have m:0<=gq b b*a6 o p:=mul_nonneg ⋯ y
  have m:gq b o*a6 b p<=0:=mul_nonpos_of_nonneg_of_nonpos z (le_of_lt B);have m:0<(p.1.2*p.2.2)*jW b o:=mul_pos hz v;ext
 have x:=pw n neg i;have C:=pw n neg j;have m:gq b b*ip o=-gq b o*ip b:=by unfold ip;rw[Int.mul_add,x,C,Int.mul_add]
 have x:∀ {t:Int},gq b b*t=0->t=0:=λ{t} h=>by
  obtain z|z:=mul_eq_zero.mp h
  .ext
  .exact z
 refine⟨x ?_,x ?_,bM n ?_⟩
 .have:gq b b*(ip b*o.1+ip o*b.1)=ip b*(gq b b*o.1)+(gq b b*ip o)*b.1:=by grind
  rw[this,i,m];grind
 .have:gq b b*(ip b*o.2.1+ip o*b.2.1)=ip b*(gq b b*o.2.1)+(gq b b*ip o)*b.2.1:=by grind
  rw[this,j,m];grind
 .have:gq b b*(ip b*o.2.2+ip o*b.2.2)=ip b*(gq b b*o.2.2)+(gq b b*ip o)*b.2.2:=by grind
  rw[this,m];have:ip b*(gq b b*o.2.2) + -gq b o*ip b*b.2.2=ip b*jW b o:=by unfold jW;grind
  rw[this];exact mul_pos (nN q) v
def ir (s t:Fr):Prop:=s.1*t.2<=t.1*s.2
theorem lb (g:0<t.2)(hs:0<s.2)(i:0<u.2)(h:ir s t)(e:ir t u):ir s u:=by
 unfold ir at *;have q:=mul_le_mul_of_nonneg_right h (le_of_lt i);have q:=mul_le_mul_of_nonneg_right e (le_of_lt hs);have:t.2*(s.1*u.2)<=t.2*(u.1*s.2):=by
  have z:t.2*(s.1*u.2)=s.1*t.2*u.2:=by grind
  have z:t.2*(u.1*s.2)=u.1*t.2*s.2:=by grind
  have z:t.1*s.2*u.2=t.1*u.2*s.2:=by grind
  ext
 exact Int.le_of_mul_le_mul_left this g
theorem fH (c:bH b h≠0):0<(iN b h).2:=by
 unfold iN;split <;> dsimp only <;> ext
abbrev En:=Option (Fr × Nat)
def hX:En->T
 |none=>.non
 |some (s,p)=>.tup [pK s,.int (p:Int)]
structure l6 (b:Hf) (hs:List Hf) (f:En):Prop where
 non:f=none->∀ h∈hs,¬ 0<bH b h
 som:∀ s p,f=some (s,p)->(∃ h,hs[p]?=some h/\0<bH b h/\s=iN b h)/\∀ h∈hs,0<bH b h->ir (iN b h) s
structure mS (b:Hf) (hs:List Hf) (f:En):Prop where
 non:f=none->∀ h∈hs,¬ bH b h<0
 som:∀ s p,f=some (s,p)->(∃ h,hs[p]?=some h/\bH b h<0/\s=iN b h)/\∀ h∈hs,bH b h<0->ir s (iN b h)
def fi (f l:En):Fr:=match f,l with
 |some (s,_),_=>s
 |none,some (s,_)=>s
 |none,none=>(0,1)
theorem uL (F:l6 b hs f)(L:mS b hs l):0<(fi f l).2:=by
 unfold fi
 split
 .obtain⟨⟨h,_,c,rfl⟩,_⟩:=F.som _ _ rfl;exact fH ⋯
 .obtain⟨⟨h,_,c,rfl⟩,_⟩:=L.som _ _ rfl;exact fH ⋯
 .decide
theorem vk (k:Nz b)(F:l6 b hs f)(L:mS b hs l)(m:∀ s p t q,f=some (s,p)->l=some (t,q)->ir s t)(hz:∀ h∈hs,bH b h=0->jW b h<=0) :
  ∀ h∈hs,0<=a6 h (Hq b (fi f l)):=by
 intro h hh;have e:=uL F L;refine HS h k e ?_
 obtain c|c|c:=Int.lt_trichotomy (bH b h) 0
 .
  have key:ir (fi f l) (iN b h):=by
   cases l with
   |none=>exact absurd c (L.non rfl h hh)
   |some i=>
    obtain⟨t,q⟩:=i;obtain⟨⟨i,_,i,rfl⟩,g⟩:=L.som _ _ rfl;have i:=g h hh c
    cases f with
    |none=>exact i
    |some u=>
     obtain⟨s,p⟩:=u;have j:=m s p _ q rfl rfl;exact lb (fH ⋯) e (fH ⋯) j i
  unfold ir iN at key;rw[if_pos c]at key;dsimp only at key;grind
 .rw[c];have:=mul_nonpos_of_nonpos_of_nonneg (hz h hh c) (le_of_lt e);ext
 .have key:ir (iN b h) (fi f l):=by
   cases f with
   |none=>exact absurd c (F.non rfl h hh)
   |some u=>
    obtain⟨s,p⟩:=u;exact(F.som _ _ rfl).2 h hh c
  unfold ir iN at key;rw[if_neg ⋯]at key
  dsimp only at key;grind
theorem zt (h:Nz b)(hs:0<s.2):0<=a6 b (Hq b s):=by
 refine HS b h hs ?_;have:bH b b=0:=by unfold bH;grind
 have e:jW b b=0:=by unfold jW;grind
 rw[this,e];ext
theorem cm {α:Type}{f:α->T}{l:List α}{k:Nat}{x:α}{R:S->Prop}(e:l[k]?=some x):atT (l.map f) (k:Int) R=R (.t (f x)):=
 eX (dj (by rw[getElem?_map,e];rfl))
theorem oh (k n:Nat):bU (k:Int) (n+1)=.int k::bU ((k+1:Nat):Int) n:=by
 unfold bU;rw[range_succ_eq_map,map_cons,map_map]
 congr 1
 .simp;intro a _;ext
theorem tZ (e:m=n)(I:Nat->a9->Prop)(F:I 0 i)(B:∀ i,I n i->D.nx i)
  (v:∀ k i,k<n->I k i->g (.int (k:Int)) i λy=>C {nx:=I (k+1),rt:=D.rt,bk:=D.nx,ct:=I (k+1)} y):yQ g C (bU 0 m) D i:=by
 subst e;refine⟨λo i=>∃ k j:Nat,o=bU (k:Int) j/\k+j=m/\I k i,⟨0,m,rfl,⋯,F⟩,?_,?_⟩
 .rintro i ⟨k,j,e,o,h⟩
  cases j with
  |zero=>exact B i (by rw[Nat.add_zero]at o;rw[<-o];exact h)
  |succ j=>rw[oh]at e;cases e
 .rintro x r i ⟨k,j,e,o,h⟩
  cases j with
  |zero=>cases e
  |succ j=>
   rw[oh]at e;obtain⟨rfl,rfl⟩:=List.cons.inj e;have q:=v k i ⋯ h
   have z:I (k+1)=λi=>∃ o p:Nat,bU ((k+1:Nat):Int) j=bU (o:Int) p/\o+p=m/\I o i:=by
    funext δ'
    refine propext ⟨λhi=>⟨k+1,j,rfl,⋯,hi⟩,?_⟩
    rintro⟨o,p,E,G,hi⟩;have:=congrArg List.length E;rw[f7,f7]at this;have:o=k+1:=⋯
    rw[<-this];exact hi
   show g _ i λy=>C {nx:=λi=>∃ o p:Nat,bU ((k+1:Nat):Int) j=bU (o:Int) p/\o+p=m/\I o i,rt:=D.rt,bk:=D.nx,ct:=λi=>∃ o p:Nat,bU ((k+1:Nat):Int) j=bU (o:Int) p/\o+p=m/\I o i} y;rw[<-z];exact q
structure L4 (A B:Prop) (x:Bool):Prop where
 yes:x=true->A
 no:x=false->B
theorem Ip (h:A):L4 A B true:=⟨λ_=>h,λz=>(by cases z)⟩
theorem x4 (h:B):L4 A B false:=⟨λz=>(by cases z),λ_=>h⟩
theorem Ez [Decidable p](h:p->A)(g:¬p->B):L4 A B (decide p):=⟨λz=>h (of_decide_eq_true z),λz=>g (of_decide_eq_false z)⟩
def cB:aN:=λh R=>∃ (a b c d:Int) (e g:List T),h=[.t (.tup (.int a::.int b::e)),.t (.tup (.int c::.int d::g))]/\Sz 60000 a/\Sz 60000 b/\Sz 60000 c/\Sz 60000 d/\R (.t (.int (a*c+b*d)))
def ci:aN:=λe R=>∃ p q:Hf,e=[.t (bd p),.t (bd q)]/\dh 60000 p/\dh 60000 q/\R (.t (.int (bH p q)))
def iA:aN:=λe R=>∃ b o:Hf,e=[.t (bd b),.t (bd o)]/\dh 20000 b/\dh 20000 o/\R (.t (.int (jW b o)))
def jP:aN:=λe R=>∃ b o:Hf,e=[.t (bd b),.t (bd o)]/\dh 20000 b/\dh 20000 o/\R (.t (pK (iN b o)))
def gX:aN:=λe R=>∃ (b:Hf) (s:Fr),e=[.t (bd b),.t (pK s)]/\Nz b/\0<s.2/\dh 400 b/\SzF 1500 s/\R (.t (spT (Hq b s)))
def lD:aN:=λg R=>∃ (b:Hf) (e:List Hf),g=[.t (bd b),.t (.lst (e.map bd))]/\dh 400 b/\(∀ h∈e,dh 400 h)/\e.length<=1000/\∀ f l,l6 b e f->mS b e l->R (.t (.tup [hX f,hX l]))
def L5 (b:Hf)(hs:List Hf)(k:Nat):Bool:=match hs[k]? with
 |some h=>decide (bH b h=0) && decide (0<jW b h)
 |none=>false
def Ff (b:Hf)(hs:List Hf):List Nat:=(List.range hs.length).filter (L5 b hs)
def t7 (k:Nat):T:=.int (k:Int)
def oC:aN:=λg R=>∃ (b:Hf) (e:List Hf),g=[.t (bd b),.t (.lst (e.map bd))]/\dh 400 b/\(∀ h∈e,dh 400 h)/\e.length<=1000/\R (.ol ((Ff b e).map t7))
def Ic (s t:Fr):Prop:=s.1*t.2<t.1*s.2
def On (n:Nat)(f:En):Prop:=∀ s p,f=some (s,p)->SzF n s
def oD:aN:=λg R=>∃ (b:Hf) (e:List Hf) (f l:En),g=[.t (bd b),.t (.lst (e.map bd)),.t (.tup [hX f,hX l])]/\dh 400 b/\(∀ h∈e,dh 400 h)/\e.length<=1000/\On 1500 f/\On 1500 l ∧
 (∀ s (p:Nat) t (q:Nat),f=some (s,p)->l=some (t,q)->Ic t s->R (.ol [.int (p:Int),.int (q:Int)])) ∧
 ((∀ s (p:Nat) t (q:Nat),f=some (s,p)->l=some (t,q)->¬ Ic t s)->(∀ (i:Nat) h,e[i]?=some h->bH b h=0->0<jW b h->R (.ol [.int (i:Int)]))/\((∀ h∈e,bH b h=0->jW b h<=0)->R (.ol [])))
def eG:aN:=λe R=>∃ (b:Hf) (f l:En),e=[.t (bd b),.t (.tup [hX f,hX l])]/\Nz b/\dh 400 b/\0<(fi f l).2/\SzF 1500 (fi f l)/\R (.t (spT (Hq b (fi f l))))
def gU:aN:=λh R=>∃ e:List Int,h=[.t (.lst (e.map .int))]/\e≠[]/\e.length<=1000/\(∀ w∈e,0<w/\Sz 5000 w)/\∀ (g:Int) (v:List Int),0<g->v.map (·*g)=e->R (.ol (v.map .int))
def fO:aN:=λe R=>(∃ p q:Hf,e=[.t (.lst ([p,q].map bd))]/\Nz p/\Nz q/\dh 400 p/\dh 400 q/\∀ g u v:Int,0<g->u*g=ip q->v*g=ip p->R (.ol [.int u,.int v])) ∨
 (∃ p q r:Hf,e=[.t (.lst ([p,q,r].map bd))]/\dh 400 p/\dh 400 q/\dh 400 r/\bH q r≠0/\bH r p≠0/\bH p q≠0/\∀ g u v w:Int,0<g->u*g=(bH q r).natAbs->v*g=(bH r p).natAbs->w*g=(bH p q).natAbs->R (.ol [.int u,.int v,.int w]))
def IB (p q:Hf)(u v:Int):Prop:=u*p.1+v*q.1=0/\u*p.2.1+v*q.2.1=0/\0<u*p.2.2+v*q.2.2
def IC (p q r:Hf)(u v w:Int):Prop:=u*p.1+v*q.1+w*r.1=0/\u*p.2.1+v*q.2.1+w*r.2.1=0/\0<u*p.2.2+v*q.2.2+w*r.2.2
inductive yb (hs:List Hf):List Nat->List Int->Prop
 |two (i j:Nat) (p q:Hf) (u v:Int):i<j->hs[i]?=some p->hs[j]?=some q->0<u->0<v->IB p q u v->yb hs [i,j] [u,v]
 |three (i j k:Nat) (p q r:Hf) (u v w:Int):i<j->j<k->hs[i]?=some p->hs[j]?=some q->hs[k]?=some r->0<u->0<v->0<w->IC p q r u v w->yb hs [i,j,k] [u,v,w]
def lW (pl:List Nat) (e:List Int):T:=.tup [.str "none",.lst (pl.map t7),.lst (e.map .int)]
def fh:aN:=λm R=>∃ (e:List Hf) (pl:List Nat),m=[.t (.lst (e.map bd)),.t (.lst (pl.map t7))]/\(∀ h∈e,dh 400 h/\Nz h) ∧
 ((∃ (i j:Nat) (p q:Hf),pl=[i,j]/\e[i]?=some p/\e[j]?=some q/\∀ g u v:Int,0<g->u*g=ip q->v*g=ip p->R (.t (lW [i,j] [u,v]))) ∨
 (∃ (i j k:Nat) (p q r:Hf),pl=[i,j,k]/\e[i]?=some p/\e[j]?=some q/\e[k]?=some r/\bH q r≠0/\bH r p≠0/\bH p q≠0/\∀ g u v w:Int,0<g->u*g=(bH q r).natAbs->v*g=(bH r p).natAbs->w*g=(bH p q).natAbs->R (.t (lW [i,j,k] [u,v,w]))))
def eT:aN:=λg R=>∃ e:List Hf,g=[.t (.lst (e.map bd))]/\(∀ h∈e,dh 400 h/\Nz h)/\e.length<=1000 ∧
 (∀ s:aT,LZ s->eH 5000 s->(∀ h∈e,0<=a6 h s)->R (.t (.tup [.str "spot",spT s])))/\∀ pl g,yb e pl g->(∀ w∈g,Sz 5000 w)->R (.t (lW pl g))
def mD:WS:=
 (bw (cz (aV (ao aK (ae 0) (wC (.int 0))) (ao aK (ae 1) (wC (.int 0)))) (aV (ao aK (ae 0) (wC (.int 1))) (ao aK (ae 1) (wC (.int 1))))))
def kH:WS:=
 (bw (cL (aV (ao aK (ae 0) (wC (.int 0))) (ao aK (ae 1) (wC (.int 1)))) (aV (ao aK (ae 0) (wC (.int 1))) (ao aK (ae 1) (wC (.int 0))))))
def mF:WS:=
 (bw (cL (aV (ao aK (ae 1) (wC (.int 2))) (aw cB (ac (ae 0) (ac (ae 0) ap)))) (aV (aw cB (ac (ae 0) (ac (ae 1) ap))) (ao aK (ae 0) (wC (.int 2))))))
def jb:WS:=
 (aC (aG 2 (aw iA (ac (ae 0) (ac (ae 1) ap))))
 (aC (aG 3 (aw ci (ac (ae 0) (ac (ae 1) ap))))
 (aC (hI (wB (EE (ae 3) (wC (.int 0)))) (bw (bX (ac (uY ie (ae 2)) (ac (uY ie (ae 3)) ap)))) bz)
 (bw (bX (ac (ae 2) (ac (ae 3) ap)))))))
def jc:WS:=
 (aC (aG 2 (aV (aw cB (ac (ae 0) (ac (ae 0) ap))) (ao aK (ae 1) (wC (.int 1)))))
 (aC (aG 3 (cL (aV (aV (ao aK (ae 0) (wC (.int 0))) (ao aK (ae 0) (wC (.int 2)))) (ao aK (ae 1) (wC (.int 1)))) (aV (ao aK (ae 0) (wC (.int 1))) (ao aK (ae 1) (wC (.int 0))))))
 (aC (aG 4 (cz (aV (aV (ao aK (ae 0) (wC (.int 1))) (ao aK (ae 0) (wC (.int 2)))) (ao aK (ae 1) (wC (.int 1)))) (aV (ao aK (ae 0) (wC (.int 0))) (ao aK (ae 1) (wC (.int 0))))))
 (bw (bX (ac (aw gf (ac (ae 3) (ac (ae 2) ap))) (ac (aw gf (ac (ae 4) (ac (ae 2) ap))) ap)))))))
def kM:WS:=
 (aC (aG 2 (wC .non))
 (aC (aG 3 (wC .non))
 (bZ (jS (fk (ac (eh cZ (ac (ae 1) ap)) ap)) (aH 4) (aC (aG 5 (aw ci (ac (ae 0) (ac (ao aK (ae 1) (ae 4)) ap))))
 (aC (aG 6 (aw jP (ac (ae 0) (ac (ao aK (ae 1) (ae 4)) ap))))
 (bZ (hI (LR (js (wB (EC (ae 5) (wC (.int 0)))) (HE (wB (ED (ae 2))) (wB (aw dG (ac (ao aK (ae 2) (wC (.int 0))) (ac (ae 6) ap))))))) (aG 2 (bX (ac (ae 6) (ac (ae 4) ap)))) bz)
 (hI (LR (js (wB (EE (ae 5) (wC (.int 0)))) (HE (wB (ED (ae 3))) (wB (aw dG (ac (ae 6) (ac (ao aK (ae 3) (wC (.int 0))) ap))))))) (aG 3 (bX (ac (ae 6) (ac (ae 4) ap)))) bz)))))
 (bw (bX (ac (ae 2) (ac (ae 3) ap)))))))
def mE:WS:=
 (bw (dI 1 [0,1] (fk (ac (eh cZ (ac (ae 1) ap)) ap)) (aH 0) (js (wB (qt (aw ci (ac (ae 1) (ac (ao aK (ae 2) (ae 0)) ap))) (wC (.int 0)))) (wB (EC (aw iA (ac (ae 1) (ac (ao aK (ae 2) (ae 0)) ap))) (wC (.int 0))))) (ae 0)))
def mI:WS:=
 (aC (hI (LR (js (wB (qu (ao aK (ae 2) (wC (.int 0))))) (js (wB (qu (ao aK (ae 2) (wC (.int 1))))) (wB (aw dG (ac (ao aK (ao aK (ae 2) (wC (.int 1))) (wC (.int 0))) (ac (ao aK (ao aK (ae 2) (wC (.int 0))) (wC (.int 0))) ap))))))) (bw (iF (ac (ao aK (ao aK (ae 2) (wC (.int 0))) (wC (.int 1))) (ac (ao aK (ao aK (ae 2) (wC (.int 1))) (wC (.int 1))) ap)))) bz)
 (bw (g0 (aw oC (ac (ae 0) (ac (ae 1) ap))) gZ (kF (wC (.int 1))))))
def dL:WS:=
 (bZ (jS (EH (ae 1)) (aH 2) (hI (wB (qu (ae 2))) (bw (aw gX (ac (ae 0) (ac (ao aK (ae 2) (wC (.int 0))) ap)))) bz))
 (bw (aw gX (ac (ae 0) (ac (bX (ac (wC (.int 0)) (ac (wC (.int 1)) ap))) ap)))))
def i9:WS:=
 (aC (aG 1 (wC (.int 0)))
 (bZ (jS (cj (ae 0)) (aH 2) (aG 1 (aw cy (ac (ae 1) (ac (ae 2) ap)))))
 (bw (dI 1 [1] (cj (ae 0)) (aH 0) lG (dJ (ae 0) (ae 1))))))
def cT:WS:=
 (aC (aG 1 (ao aK (ae 0) (wC (.int 0))))
 (aC (aG 2 (ao aK (ae 0) (wC (.int 1))))
 (aC (hI (wB (qt (eh cZ (ac (ae 0) ap)) (wC (.int 2)))) (bw (aw gU (ac (iF (ac (cz (eh hW (ac (ao aK (ae 2) (wC (.int 0))) ap)) (eh hW (ac (ao aK (ae 2) (wC (.int 1))) ap))) (ac (cz (eh hW (ac (ao aK (ae 1) (wC (.int 0))) ap)) (eh hW (ac (ao aK (ae 1) (wC (.int 1))) ap))) ap))) ap))) bz)
 (aC (aG 3 (ao aK (ae 0) (wC (.int 2))))
 (bw (aw gU (ac (iF (ac (eh hW (ac (aw ci (ac (ae 2) (ac (ae 3) ap))) ap)) (ac (eh hW (ac (aw ci (ac (ae 3) (ac (ae 1) ap))) ap)) (ac (eh hW (ac (aw ci (ac (ae 1) (ac (ae 2) ap))) ap)) ap)))) ap)))))))
def cD:WS:=
 (bw (bX (ac (wC (.str "none")) (ac (ae 1) (ac (aw fO (ac (dI 1 [0] (cj (ae 1)) (aH 0) lG (ao aK (ae 1) (ae 0))) ap)) ap)))))
def kO:WS:=
 (aC (aG 1 (bX (ac (bX (ac (wC (.int 0)) (ac (wC (.int 1)) ap))) (ac (bX (ac (wC (.int 0)) (ac (wC (.int 1)) ap))) ap))))
 (bZ (jS (fk (ac (eh cZ (ac (ae 0) ap)) ap)) (aH 2) (aC (aG 3 (ao aK (ae 0) (ae 2)))
 (hI (wB (EE (aw gW (ac (ae 3) (ac (ae 1) ap))) (wC (.int 0)))) (aC (aG 4 (g0 (ae 0) gZ (kF (ae 2))))
 (aC (aG 5 (aw lD (ac (ae 3) (ac (ae 4) ap))))
 (aC (aG 6 (aw oD (ac (ae 3) (ac (ae 4) (ac (ae 5) ap)))))
 (aC (hI (wB (EC (eh cZ (ac (ae 6) ap)) (wC (.int 0)))) (bw (aw fh (ac (ae 0) (ac (eh nE (ac (ao yO (ae 6) (iF (ac (ae 2) ap))) ap)) ap)))) bz)
 (aG 1 (aw eG (ac (ae 3) (ac (ae 5) ap)))))))) bz)))
 (bw (bX (ac (wC (.str "spot")) (ac (ae 1) ap))))))
theorem DB:∀ e R,cB e R->mD {nx:=λ_=>R (.t .non),rt:=R} (aE ["one","other"] e):=by
 rintro e R ⟨a,b,c,d,e,g,rfl,sa,sb,i,j,h⟩;show mD _ [some (.t (.tup (.int a::.int b::e))),some (.t (.tup (.int c::.int d::g)))]
 delta mD
 symm;exact⟨bF sa i ⋯ ⋯,bF sb j ⋯ ⋯,h⟩
theorem zi:∀ e R,ci e R->kH {nx:=λ_=>R (.t .non),rt:=R} (aE ["one","other"] e):=by
 rintro e R ⟨p,q,rfl,⟨e,g,i⟩,⟨i,j,k⟩,h⟩;show kH _ [some (.t (bd p)),some (.t (bd q))]
 delta kH
 symm;exact⟨bF e j ⋯ ⋯,bF g i ⋯ ⋯,h⟩
theorem mW (h:dh n p)(e:dh n q):Sz (n+n+1) (gq p q):=by
 have:=Sz.add (Sz.mul h.1 e.1) (Sz.mul h.2.1 e.2.1);exact this.mono ⋯
theorem ia (h:dh n p)(e:dh n q):Sz (n+n+1) (bH p q):=by
 have:=Sz.sub (Sz.mul h.1 e.2.1) (Sz.mul h.2.1 e.1);exact this.mono ⋯
theorem HM (h:dh n p)(e:dh n q):Sz (n+n+n+2) (jW p q):=by
 have:=Sz.sub (Sz.mul e.2.2 (mW h h)) (Sz.mul (mW h e) h.2.2);exact this.mono ⋯
theorem Cy (h:dh n p)(e:dh n q):SzF (n+n+n+2) (iN p q):=by
 unfold iN
 split
 .exact⟨(HM h e).neg,(ia h e).neg.mono ⋯⟩
 .exact⟨HM h e,(ia h e).mono ⋯⟩
theorem bp (h:dh m p)(l:m<=n):dh n p:=⟨h.1.mono l,h.2.1.mono l,h.2.2.mono l⟩
theorem eB (h:SzF m p)(l:m<=n):SzF n p:=⟨h.1.mono l,h.2.mono l⟩
theorem DD:∀ j R,iA j R->mF {nx:=λ_=>R (.t .non),rt:=R} (aE ["border","other"] j):=by
 rintro j R ⟨b,o,rfl,sb,i,h⟩;have e:=bp (n:=60000) sb ⋯
 have g:=bp (n:=60000) i ⋯
 show mF _ [some (.t (bd b)),some (.t (bd o))]
 delta mF
 symm;refine⟨_,_,_,_,_,_,rfl,e.1,e.2.1,e.1,e.2.1,?_⟩;symm;refine⟨bF i.2.2 (mW sb sb) ⋯ ⋯,_,_,_,_,_,_,rfl,e.1,e.2.1,g.1,g.2.1,?_⟩
 symm;exact⟨bF (mW sb i) sb.2.2 ⋯ ⋯,h⟩
theorem v6:∀ i R,jP i R->jb {nx:=λ_=>R (.t .non),rt:=R} (aE ["border","other","top","bottom"] i):=by
 rintro i R ⟨b,o,rfl,sb,j,h⟩;have e:=bp (n:=60000) sb ⋯
 have g:=bp (n:=60000) j ⋯
 show jb _ [some (.t (bd b)),some (.t (bd o)),none,none]
 delta jb
 symm;refine⟨b,o,rfl,sb,j,?_⟩;symm;refine⟨b,o,rfl,e,g,?_⟩;symm;unfold iN at h
 split
 .rename_i c;rw[if_pos c]at h;exact h
 .rename_i c;rw[if_neg c]at h;exact h
theorem v7:∀ i R,gX i R->jc {nx:=λ_=>R (.t .non),rt:=R} (aE ["border","step","bottom","x","y"] i):=by
 rintro i R ⟨b,s,rfl,j,k,sb,⟨i,g⟩,h⟩;have e:=bp (n:=60000) sb ⋯
 have m:0<xW b s:=mul_pos (mV j) k;have j:Sz 9000 (xW b s):=(Sz.mul (mW sb sb) g).mono ⋯
 show jc _ [some (.t (bd b)),some (.t (pK s)),none,none,none]
 delta jc
 symm;refine⟨_,_,_,_,_,_,rfl,e.1,e.2.1,e.1,e.2.1,?_⟩;symm;refine⟨bF (mW sb sb) g ⋯ ⋯,bF sb.1 sb.2.2 ⋯ ⋯,bF (Sz.mul sb.1 sb.2.2) g ⋯ ⋯,bF sb.2.1 i ⋯ ⋯,bF sb.2.1 sb.2.2 ⋯ ⋯,bF (Sz.mul sb.2.1 sb.2.2) g ⋯ ⋯,bF sb.1 i ⋯ ⋯,_,_,rfl,by show xW b s≠0;ext,j,?_⟩
 symm;refine⟨_,_,rfl,by show xW b s≠0;ext,j,?_⟩
 symm;exact h
theorem uk (s:Fr):ir s s:=Int.le_refl _
theorem Cj (b:Hf):l6 b [] none:=⟨λ_ h hh=>(by cases hh),λs p e=>(by cases e)⟩
theorem Cm (b:Hf):mS b [] none:=⟨λ_ h hh=>(by cases hh),λs p e=>(by cases e)⟩
theorem xo {α:Type}{l:List α}{x y:α}{p:Nat}(h:l[p]?=some y):(l++[x])[p]?=some y:=by
 have:p<l.length:=by rw[List.getElem?_eq_some_iff]at h;exact h.1
 rw[getElem?_append_left this];exact h
theorem y8 {b h:Hf}{pre:List Hf}{f:En}(F:l6 b pre f)(c:0<bH b h->∃ s p,f=some (s,p)/\ir (iN b h) s):l6 b (pre++[h]) f:=by
 refine⟨λe x i=>?_,λs p e=>?_⟩
 .rcases mem_append.mp i with z|z
  .exact F.non e x z
  .simp at z;subst z;intro j;obtain⟨s,p,i,_⟩:=c j;rw[e]at i;cases i
 .obtain⟨⟨x,j,k⟩,g⟩:=F.som s p e;refine⟨⟨x,xo j,k⟩,λy k j=>?_⟩
  obtain z|z:=mem_append.mp k
  .exact g y z j
  .simp at z;subst z;obtain⟨k,k,i,q⟩:=c j;rw[e]at i;cases i
   exact q
theorem Ci (F:l6 b pre f)(c:0<bH b h)(lt:∀ s p,f=some (s,p)->ir s (iN b h)):l6 b (pre++[h]) (some (iN b h,pre.length)):=by
 refine⟨λe=>(by cases e),λs p e=>?_⟩
 cases e
 refine⟨⟨h,by simp,c,rfl⟩,λy j i=>?_⟩
 obtain z|z:=mem_append.mp j
 .cases f with
  |none=>exact absurd i (F.non rfl y z)
  |some u=>
   obtain⟨s,p⟩:=u;obtain⟨⟨x,_,j,rfl⟩,g⟩:=F.som _ _ rfl;exact lb (fH ⋯) (fH ⋯) (fH ⋯) (g y z i) (lt _ _ rfl)
 .simp at z;subst z;exact uk _
theorem y9 {b h:Hf}{pre:List Hf}{f:En}(F:mS b pre f)(c:bH b h<0->∃ s p,f=some (s,p)/\ir s (iN b h)):mS b (pre++[h]) f:=by
 refine⟨λe x i=>?_,λs p e=>?_⟩
 .rcases mem_append.mp i with z|z
  .exact F.non e x z
  .simp at z;subst z;intro j;obtain⟨s,p,i,_⟩:=c j;rw[e]at i;cases i
 .obtain⟨⟨x,j,k⟩,g⟩:=F.som s p e;refine⟨⟨x,xo j,k⟩,λy k j=>?_⟩
  obtain z|z:=mem_append.mp k
  .exact g y z j
  .simp at z;subst z;obtain⟨k,k,i,q⟩:=c j;rw[e]at i;cases i
   exact q
theorem Ck (F:mS b pre f)(c:bH b h<0)(lt:∀ s p,f=some (s,p)->ir (iN b h) s):mS b (pre++[h]) (some (iN b h,pre.length)):=by
 refine⟨λe=>(by cases e),λs p e=>?_⟩
 cases e
 refine⟨⟨h,by simp,c,rfl⟩,λy j i=>?_⟩
 obtain z|z:=mem_append.mp j
 .cases f with
  |none=>exact absurd i (F.non rfl y z)
  |some u=>
   obtain⟨s,p⟩:=u;obtain⟨⟨x,_,j,rfl⟩,g⟩:=F.som _ _ rfl;exact lb (fH ⋯) (fH ⋯) (fH ⋯) (lt _ _ rfl) (g y z i)
 .simp at z;subst z;exact uk _
theorem vJ (sb:dh 400 b)(sh:∀ h∈hs,dh 400 h)(F:l6 b hs f):On 1500 f:=λs p e=>by
 obtain⟨⟨x,g,_,rfl⟩,_⟩:=F.som s p e;exact eB (Cy sb (sh x (mem_of_getElem? g))) ⋯
theorem rR (sb:dh 400 b)(sh:∀ h∈hs,dh 400 h)(F:mS b hs f):On 1500 f:=λs p e=>by
 obtain⟨⟨x,g,_,rfl⟩,_⟩:=F.som s p e;exact eB (Cy sb (sh x (mem_of_getElem? g))) ⋯
theorem eU {α:Type}{l:List α}{k:Nat}{x:α}(e:l[k]?=some x):l.take (k+1)=l.take k++[x]:=by
 rw[List.take_succ,e];rfl
theorem zm:∀ J R,lD J R->kM {nx:=λ_=>R (.t .non),rt:=R} (aE ["border","halves","first","last","place","facing","step"] J):=by
 rintro J R ⟨b,i,rfl,sb,sh,hl,h⟩;have H:=bp (n:=60000) sb ⋯
 have G:=bp (n:=20000) sb ⋯
 show kM _ [some (.t (bd b)),some (.t (.lst (i.map bd))),none,none,none,none,none]
 delta kM
 symm
 let I (k:Nat):a9->Prop:=λj=>∃ (f l:En) (B C D:Option S),j=[some (.t (bd b)),some (.t (.lst (i.map bd))),some (.t (hX f)),some (.t (hX l)),B,C,D]/\l6 b (i.take k) f/\mS b (i.take k) l
 refine⟨I i.length,⟨ki ⋯ (by rw[length_map];ext),tZ (n:=i.length) (by rw[length_map,toNat_natCast]) I ⟨none,none,_,_,_,rfl,Cj b,Cm b⟩ (λ_ z=>z) ?_⟩,?_⟩
 .rintro k j Y ⟨f,l,B,C,D,rfl,F,L⟩;have e:i[k]?=some i[k]:=getElem?_eq_getElem Y;have U:(i.take k).length=k:=by rw[length_take];ext
  generalize i[k]=h at e;have E:=sh h (mem_of_getElem? e);have Q:=Cy sb E;have X:=vJ sb (λx o=>sh x (mem_of_mem_take o)) F;have Z:=rR sb (λx o=>sh x (mem_of_mem_take o)) L;symm;rw[cm e];symm;refine⟨b,h,rfl,H,bp E ⋯,?_⟩
  symm;rw[cm e];symm;refine⟨b,h,rfl,G,bp E ⋯,?_⟩
  symm;refine⟨λj=>∃ m:En,j=[some (.t (bd b)),some (.t (.lst (i.map bd))),some (.t (hX m)),some (.t (hX l)),some (.t (.int k)),some (.t (.int (bH b h))),some (.t (pK (iN b h)))]/\l6 b (i.take (k+1)) m,?_,?_⟩
  .symm;refine⟨L4 (0<bH b h/\∀ s p,f=some (s,p)->Ic s (iN b h)) (0<bH b h->∃ s p,f=some (s,p)/\¬ Ic s (iN b h)),?_,?_⟩
   .symm
    split
    .rename_i c
     obtain _|⟨s,p⟩:=f
     .unfold hX;symm;exact Ip ⟨c,λ_ _ z=>by cases z⟩
     .unfold hX;symm;refine⟨s,iN b h,rfl,eB (X s p rfl) ⋯,eB Q ⋯,?_⟩
      symm;exact Ez (λz=>⟨c,λs' p' q=>by cases q;exact z⟩) λz _=>⟨s,p,rfl,z⟩
    .rename_i c;exact x4 λz=>absurd z c
   rintro x ⟨M,O⟩
   cases x with
   |true=>
    obtain⟨c,g⟩:=M rfl;symm;refine⟨some (iN b h,k),rfl,?_⟩;rw[eU e];have:=Ci (h:=h) F c λs p q=>le_of_lt (g s p q);rw[U]at this;exact this
   |false=>
    symm;refine⟨f,rfl,?_⟩;rw[eU e];refine y8 F λc=>?_;obtain⟨s,p,v,y⟩:=O rfl c;exact⟨s,p,v,Int.not_lt.mp y⟩
  .rintro j ⟨m,rfl,P⟩;symm;refine⟨L4 (bH b h<0/\∀ s p,l=some (s,p)->Ic (iN b h) s) (bH b h<0->∃ s p,l=some (s,p)/\¬ Ic (iN b h) s),?_,?_⟩
   .symm
    split
    .rename_i c
     obtain _|⟨s,p⟩:=l
     .unfold hX;symm;exact Ip ⟨c,λ_ _ z=>by cases z⟩
     .unfold hX;symm;refine⟨iN b h,s,rfl,eB Q ⋯,eB (Z s p rfl) ⋯,?_⟩
      symm;exact Ez (λz=>⟨c,λs' p' q=>by cases q;exact z⟩) λz _=>⟨s,p,rfl,z⟩
    .rename_i c;exact x4 λz=>absurd z c
   rintro x ⟨M,O⟩
   cases x with
   |true=>
    obtain⟨c,g⟩:=M rfl;symm;refine⟨m,some (iN b h,k),_,_,_,rfl,P,?_⟩;rw[eU e];have:=Ck (h:=h) L c λs p q=>le_of_lt (g s p q);rw[U]at this;exact this
   |false=>
    symm;refine⟨m,l,_,_,_,rfl,P,?_⟩;rw[eU e];refine y9 L λc=>?_;obtain⟨s,p,v,y⟩:=O rfl c;exact⟨s,p,v,Int.not_lt.mp y⟩
 .rintro j ⟨f,l,B,C,D,rfl,F,L⟩;rw[List.take_length]at F L;symm;exact h f l F L
theorem Fg (h:k∈Ff b hs):∃ x,hs[k]?=some x/\bH b x=0/\0<jW b x:=by
 unfold Ff at h;have:=(mem_filter.mp h).2;unfold L5 at this
 split at this
 .rename_i x e;simp at this;exact⟨x,e,this.1,this.2⟩
 .cases this
theorem Fh (h:Ff b hs=[]):∀ x∈hs,bH b x=0->jW b x<=0:=by
 intro x g c;obtain⟨k,e,rfl⟩:=getElem_of_mem g
 obtain z|z:=lt_or_le 0 (jW b hs[k])
 .exfalso;have:k∈Ff b hs:=by
   unfold Ff;refine mem_filter.mpr ⟨mem_range.mpr e,?_⟩;unfold L5;rw[getElem?_eq_getElem e];simp[c,z]
  rw[h]at this;cases this
 .exact z
theorem DC:∀ m R,oC m R->mE {nx:=λ_=>R (.t .non),rt:=R} (aE ["border","halves"] m):=by
 rintro m R ⟨b,g,rfl,sb,sh,z,h⟩;show mE _ [some (.t (bd b)),some (.t (.lst (g.map bd)))]
 delta mE
 symm;refine⟨ki ⋯ (by rw[length_map];ext),?_⟩
 rw[length_map,toNat_natCast];refine et (f:=λk:Nat=>.int (0+(k:Int))) (h:=t7) (p:=L5 b g) (l:=List.range g.length) (λv=>∃ r,v=[r,some (.t (bd b)),some (.t (.lst (g.map bd)))]) (λ_ _=>rfl) (by rw[length_range];ext) ⟨_,rfl⟩ ?_ ?_
 .rintro k o v ⟨r,rfl⟩ Y N y n;have e:g[k]?=some (g[k]'(mem_range.mp o)):=getElem?_eq_getElem _;generalize g[k]'(mem_range.mp o)=x at e;have q:=sh x (mem_of_getElem? e);have j:L5 b g k=(decide (bH b x=0) && decide (0<jW b x)):=by unfold L5;rw[e]
  rw[Int.zero_add];symm;rw[cm e];symm;refine⟨b,x,rfl,bp sb ⋯,bp q ⋯,?_⟩
  symm
  split
  .rename_i c;rw[cm e];symm;refine⟨b,x,rfl,bp sb ⋯,bp q ⋯,?_⟩
   symm
   split
   .rename_i i;exact y _ ⟨_,rfl⟩ (by rw[j];simp[c,i])
   .rename_i i;exact n _ ⟨_,rfl⟩ (by rw[j];simp[i])
  .rename_i c;exact n _ ⟨_,rfl⟩ (by rw[j];simp[c])
 .exact h
theorem AA (l:List α)(k:Nat):fW (l.map f) none (some (k:Int))=(l.take k).map f:=by
 unfold fW;rw[HT.sIx_nat,HT.sIx_none,List.drop_zero,Nat.sub_zero,length_map,map_take]
 obtain z|z:=Nat.le_total k l.length
 .rw[min_eq_left z]
 .rw[Nat.min_eq_right z,take_of_length_le (by simp),take_of_length_le (by simpa using z)]
theorem DG:∀ j R,oD j R->mI {nx:=λ_=>R (.t .non),rt:=R} (aE ["border","halves","ends"] j):=by
 rintro j R ⟨b,h,f,l,rfl,sb,sh,o,g,i,j,n⟩;show mI _ [some (.t (bd b)),some (.t (.lst (h.map bd))),some (.t (.tup [hX f,hX l]))]
 delta mI
 symm;refine⟨L4 (∃ s p t q,f=some (s,p)/\l=some (t,q)/\Ic t s) (∀ s p t q,f=some (s,p)->l=some (t,q)->¬ Ic t s),?_,?_⟩
 .rcases f with _|⟨s,p⟩
  .unfold hX;symm;exact x4 λs p t q z=>by cases z
  .rcases l with _|⟨t,q⟩
   .unfold hX;symm;exact x4 λs p t q _ z=>by cases z
   .unfold hX;symm;refine⟨t,s,rfl,eB (i t q rfl) ⋯,eB (g s p rfl) ⋯,?_⟩
    symm;refine Ez (λz=>⟨s,p,t,q,rfl,rfl,z⟩) λz g g g g g i=>?_
    cases g;cases i
    exact z
 .rintro x ⟨m,y⟩
  cases x with
  |true=>
   obtain⟨s,p,t,q,rfl,rfl,lt⟩:=m rfl;unfold hX;symm;exact j s p t q rfl rfl lt
  |false=>
   have v:=y rfl;obtain⟨m,j⟩:=n v;symm;refine⟨b,h,rfl,sb,sh,o,?_⟩;dsimp only;rw[show got (.ol ((Ff b h).map t7))=.ol ((Ff b h).map t7) from if_pos (bG (λ_=>rfl) _)];symm;rw[show(1:Int)=((1:Nat):Int) from rfl,AA]
   cases e:Ff b h with
   |nil=>
    exact j (Fh e)
   |cons k r=>
    obtain⟨x,g,i,j⟩:=Fg (b:=b) (hs:=h) (k:=k) (by rw[e];simp)
    exact m k x g i j
theorem ma:∀ j R,eG j R->dL {nx:=λ_=>R (.t .non),rt:=R} (aE ["border","ends","end"] j):=by
 rintro j R ⟨b,f,l,rfl,e,sb,g,i,h⟩;show dL _ [some (.t (bd b)),some (.t (.tup [hX f,hX l])),none]
 delta dL
 symm;refine⟨λj=>j=[some (.t (bd b)),some (.t (.tup [.non,.non])),some (.t .non)]/\f=none/\l=none,FR ?_,?_⟩
 .unfold vC vC vC
  obtain _|⟨s,p⟩:=f
  .rcases l with _|⟨t,q⟩
   .unfold hX;symm
   .unfold hX;symm;refine⟨b,t,rfl,e,g,sb,i,?_⟩;symm;exact h
  .unfold hX;symm;refine⟨b,s,rfl,e,g,sb,i,?_⟩;symm;exact h
 .rintro j ⟨rfl,rfl,rfl⟩;symm;refine⟨b,(0,1),rfl,e,g,sb,i,?_⟩;symm;exact h
theorem vZ:∀ o R,gU o R->i9 {nx:=λ_=>R (.t .non),rt:=R} (aE ["weights","common","weight"] o):=by
 rintro o R ⟨g,rfl,m,i,k,h⟩;show i9 _ [some (.t (.lst (g.map .int))),none,none]
 delta i9
 symm;refine⟨λi=>∃ (c:Int) (r:Option S),i=[some (.t (.lst (g.map .int))),some (.t (.int c)),r]/\0<c/\∀ w∈g,c ∣ w,⟨λj i=>∃ (pre p:List Int) (c:Int) (r:Option S),g=pre++p/\j=p.map .int/\i=[some (.t (.lst (g.map .int))),some (.t (.int c)),r]/\(pre≠[]->0<c)/\∀ w∈pre,c ∣ w,⟨[],g,0,none,rfl,rfl,rfl,λz=>absurd rfl z,λw k=>(by cases k)⟩,?_,?_⟩,?_⟩
 .rintro i ⟨pre,p,c,r,e,j,rfl,o,n⟩
  cases p with
  |cons a b=>cases j
  |nil=>
   rw[append_nil]at e;subst e;exact⟨c,r,rfl,o m,n⟩
 .rintro x r i ⟨pre,p,c,q,e,j,rfl,o,n⟩
  cases p with
  |nil=>cases j
  |cons a b=>
   obtain⟨rfl,rfl⟩:=List.cons.inj j;symm;refine⟨_,_,rfl,?_⟩;symm;have j:a∈g:=by rw[e];simp
   refine⟨pre++[a],b,_,_,by rw[e];simp,rfl,rfl,λ_=>?_,λw m=>?_⟩
   .have:=fG (a:=c) (b:=a) (.inr (by have:=(k a j).1;ext))
    ext
   .rcases mem_append.mp m with z|z
    .exact Int.dvd_trans (gcd_dvd_left _ _) (n w z)
    .simp at z;subst z;exact gcd_dvd_right _ _
 .rintro i ⟨c,r,rfl,j,hd⟩;symm;refine eu (f:=T.int) (h:=λw=>.int (w.fdiv c)) (l:=g) (λi=>∃ r,i=[r,some (.t (.int c))]) (λ_ _=>rfl) ⋯ ⟨_,rfl⟩ ?_ ?_
  .rintro w m i ⟨r,rfl⟩ Y y;symm;exact⟨JH ⋯ (k w m).2 ⋯,y _ ⟨_,rfl⟩⟩
  .have e:g.map (λw=>T.int (w.fdiv c))=(g.map λw=>w.fdiv c).map .int:=by rw[map_map];rfl
   rw[e];refine h c _ j ?_;rw[map_map]
   conv=>rhs;rw[<-List.map_id g]
   exact map_congr_left λw m=>cb (hd w m)
theorem xx (s:dh 400 h):Sz 5000 (ip h):=by
 have a:Sz 400 (h.1.natAbs:Int):=⟨by have:=s.1.lt;ext⟩
 have b:Sz 400 (h.2.1.natAbs:Int):=⟨by have:=s.2.1.lt;ext⟩
 exact(Sz.add a b).mono ⋯
theorem gp (s:Sz n i):Sz n (i.natAbs:Int):=⟨by have:=s.lt;ext⟩
theorem LK {vs:List Int}{g a b:Int}(h:vs.map (·*g)=[a,b]):∃ u v,vs=[u,v]/\u*g=a/\v*g=b:=by
 match vs,h with
 | [u,v],h=>simp at h;exact⟨u,v,rfl,h.1,h.2⟩
theorem Ex {vs:List Int}{g a b c:Int}(h:vs.map (·*g)=[a,b,c]):∃ u v w,vs=[u,v,w]/\u*g=a/\v*g=b/\w*g=c:=by
 match vs,h with
 | [u,v,w],h=>simp at h;exact⟨u,v,w,rfl,h.1,h.2.1,h.2.2⟩
theorem pj:∀ y R,fO y R->cT {nx:=λ_=>R (.t .non),rt:=R} (aE ["chosen","one","other","third"] y):=by
 rintro y R (⟨p,q,rfl,n,o,i,j,h⟩|⟨p,q,r,rfl,i,j,m,k,k,k,h⟩)
 .show cT _ [some (.t (.lst [bd p,bd q])),none,none,none]
  delta cT
  symm;rw[if_pos ⋯]
  simp only[kX];refine⟨[ip q,ip p],rfl,by simp,by simp,λw k=>?_,λg y x e=>?_⟩
  .simp at k
   obtain rfl|rfl:=k
   .exact⟨nN o,xx j⟩
   .exact⟨nN n,xx i⟩
  .obtain⟨u,v,rfl,n,o⟩:=LK e;symm;exact h g u v x n o
 .show cT _ [some (.t (.lst [bd p,bd q,bd r])),none,none,none]
  delta cT
  symm;rw[if_neg ⋯]
  symm;refine⟨q,r,rfl,bp j ⋯,bp m ⋯,?_⟩
  symm;refine⟨r,p,rfl,bp m ⋯,bp i ⋯,?_⟩
  symm;refine⟨p,q,rfl,bp i ⋯,bp j ⋯,?_⟩
  symm;simp only[kX];refine⟨[((bH q r).natAbs:Int),((bH r p).natAbs:Int),((bH p q).natAbs:Int)],rfl,by simp,by simp,λw k=>?_,λg y x e=>?_⟩
  .simp only[mem_cons,not_mem_nil,or_false]at k
   obtain rfl|rfl|rfl:=k
   .exact⟨⋯,(gp (ia j m)).mono ⋯⟩
   .exact⟨⋯,(gp (ia m i)).mono ⋯⟩
   .exact⟨⋯,(gp (ia i j)).mono ⋯⟩
  .obtain⟨u,v,w,rfl,n,o,i⟩:=Ex e;symm;exact h g u v w x n o i
theorem Iq (x y:T)(ts:List T):tupK R [.t x,.t y,.ol ts]=R (.t (.tup [x,y,.lst ts])):=rfl
theorem nZ:∀ y R,fh y R->cD {nx:=λ_=>R (.t .non),rt:=R} (aE ["halves","places"] y):=by
 rintro y R ⟨z,pl,rfl,hh,⟨i,j,p,q,rfl,e,m,h⟩|⟨i,j,k,p,q,r,rfl,e,m,y,C,D,E,h⟩⟩
 .have n:=hh p (mem_of_getElem? e);have o:=hh q (mem_of_getElem? m);show cD _ [some (.t (.lst (z.map bd))),some (.t (.lst [.int (i:Int),.int (j:Int)]))]
  delta cD
  symm;refine j3 ?_;symm;rw[cm e];symm;refine⟨by simp,?_⟩
  rw[cm m];symm;refine⟨by simp,?_⟩
  refine .inl ⟨p,q,rfl,n.2,o.2,n.1,o.1,λg u v x a b=>?_⟩;symm;rw[Iq];exact h g u v x a b
 .have n:=hh p (mem_of_getElem? e);have o:=hh q (mem_of_getElem? m);have B:=hh r (mem_of_getElem? y);show cD _ [some (.t (.lst (z.map bd))),some (.t (.lst [.int (i:Int),.int (j:Int),.int (k:Int)]))]
  delta cD
  symm;refine j3 ?_;symm;rw[cm e];symm;refine⟨by simp,?_⟩
  rw[cm m];symm;refine⟨by simp,?_⟩
  rw[cm y];symm;refine⟨by simp,?_⟩
  refine .inr ⟨p,q,r,rfl,n.1,o.1,B.1,C,D,E,λg u v w x a b c=>?_⟩;symm;rw[Iq];exact h g u v w x a b c
theorem xU:sgn i<0↔i<0:=by
 unfold sgn
 split
 .ext
 .split <;> ext
theorem oF {α:Type}{l:List α}{k p:Nat}{x:α}(h:(l.take k)[p]?=some x):p<k/\l[p]?=some x:=by
 rw[List.getElem?_take]at h
 split at h
 .exact⟨by assumption,h⟩
 .cases h
theorem xN (f:En):ke (hX f)=true:=by
 rcases f with _|⟨s,p⟩ <;> rfl
theorem zg (f l:En):norm (.tup [hX f,hX l])=.t (.tup [hX f,hX l]):=by
 unfold norm;rw[if_pos];show(ke (hX f) && (ke (hX l) && true))=true;rw[xN,xN];rfl
theorem sI {ms t:List Int}(h:ms.Perm t)(e:ms.Pairwise (·<=·))(g:t.Pairwise (·<=·)):ms=t:=
 List.Perm.eq_of_pairwise (λ_ _ _ _ a b=>Int.le_antisymm a b) e g h
theorem xX (k:0<g)(e:u*g=A)(i:v*g=B)(j:w*g=C)(m:0<A)(n:0<B)(o:0<C)
  (x:A*p.1+B*q.1+C*r.1=0) (D:A*p.2.1+B*q.2.1+C*r.2.1=0) (E:0<A*p.2.2+B*q.2.2+C*r.2.2):0<u/\0<v/\0<w/\IC p q r u v w:=by
 have z:∀ {t:Int},g*t=0->t=0:=λ{t} h=>by
  obtain y|y:=mul_eq_zero.mp h
  .ext
  .exact y
 refine⟨bM k (by rw[mul_comm,e];exact m),bM k (by rw[mul_comm,i];exact n),bM k (by rw[mul_comm,j];exact o),z ?_,z ?_,bM k ?_⟩
 .rw[<-x,<-e,<-i,<-j];grind
 .rw[<-D,<-e,<-i,<-j];grind
 .have:g*(u*p.2.2+v*q.2.2+w*r.2.2)=A*p.2.2+B*q.2.2+C*r.2.2:=by rw[<-e,<-i,<-j];grind
  rw[this];exact E
theorem Hx (j:0<g)(e:u*g=A)(i:v*g=B)(k:0<A)(m:0<B)
  (n:A*p.1+B*q.1=0) (o:A*p.2.1+B*q.2.1=0) (x:0<A*p.2.2+B*q.2.2):0<u/\0<v/\IB p q u v:=by
 have z:∀ {t:Int},g*t=0->t=0:=λ{t} h=>by
  obtain y|y:=mul_eq_zero.mp h
  .ext
  .exact y
 refine⟨bM j (by rw[mul_comm,e];exact k),bM j (by rw[mul_comm,i];exact m),z ?_,z ?_,bM j ?_⟩
 .rw[<-n,<-e,<-i];grind
 .rw[<-o,<-e,<-i];grind
 .have:g*(u*p.2.2+v*q.2.2)=A*p.2.2+B*q.2.2:=by rw[<-e,<-i];grind
  rw[this];exact x
theorem qP (p q r:Hf):bH q r*p.1+bH r p*q.1+bH p q*r.1=0/\bH q r*p.2.1+bH r p*q.2.1+bH p q*r.2.1=0:=by
 constructor <;> unfold bH <;> grind
theorem qO (p q:Hf):bH p q=-bH q p:=by unfold bH;grind
theorem qZ (h:Sz m a)(e:Sz n b):Sz m (fF a b).1/\Sz n (fF a b).2:=⟨h.fdiv _,e.fdiv _⟩
theorem NV (sb:dh 400 b)(e:SzF 1500 s):eH 5000 (Hq b s):=by
 have x:Sz 2400 (L9 b s):=(Sz.sub (Sz.mul (Sz.mul sb.1 sb.2.2) e.2) (Sz.mul sb.2.1 e.1)).mono ⋯
 have y:Sz 2400 (Ma b s):=(Sz.add (Sz.mul (Sz.mul sb.2.1 sb.2.2) e.2) (Sz.mul sb.1 e.1)).mono ⋯
 have d:Sz 2400 (xW b s):=(Sz.mul (mW sb sb) e.2).mono ⋯
 exact⟨⟨(qZ x d).1.mono ⋯,(qZ x d).2.mono ⋯⟩,⟨(qZ y d).1.mono ⋯,(qZ y d).2.mono ⋯⟩⟩
theorem Hw (sb:dh 400 b)(sh:∀ h∈hs,dh 400 h)(F:l6 b hs f)(L:mS b hs l):SzF 1500 (fi f l):=by
 unfold fi
 split
 .exact vJ sb sh F _ _ rfl
 .exact rR sb sh L _ _ rfl
 .exact⟨Sz.of ⋯ ⋯,Sz.of ⋯ ⋯⟩
theorem iE (j:0<g)(e:u*g=A)(s:Sz n A):Sz n u:=by
 have h:=s.lt;have i:u.natAbs*g.natAbs=A.natAbs:=by rw[<-Int.natAbs_mul,e]
 have:u.natAbs<=u.natAbs*g.natAbs:=Nat.le_mul_of_pos_right _ ⋯
 exact⟨⋯⟩
theorem zp:Ok eT kO ["halves","spot","place","border","before","ends","places"]:=by
 rintro ss R ⟨D,rfl,hh,hl,hS,hC⟩;show kO _ [some (.t (.lst (D.map bd))),none,none,none,none,none,none]
 delta kO
 walk_at"db"
 let I (k:Nat):a9->Prop:=λδ=>∃ (s:aT) (r2 r3 r4 r5 r6:Option S),δ=[some (.t (.lst (D.map bd))),some (.t (spT s)),r2,r3,r4,r5,r6]/\LZ s/\eH 5000 s/\∀ h∈D.take k,0<=a6 h s
 have z1:Sz 5000 0:=Sz.of ⋯ ⋯
 have z2:Sz 5000 1:=Sz.of ⋯ ⋯
 refine⟨I D.length,⟨ki ⋯ (by rw[length_map];ext),tZ (n:=D.length) (by rw[length_map,toNat_natCast]) I ⟨((0,1),(0,1)),_,_,_,_,_,rfl,⟨⟨⋯,⋯⟩,⟨⋯,⋯⟩⟩,⟨⟨z1,z2⟩,⟨z1,z2⟩⟩,λh M=>(by cases M)⟩ (λ_ z=>z) ?_⟩,?_⟩
 .rintro k δ hk ⟨s,r2,r3,r4,r5,r6,rfl,lo,sz,hold⟩;have e:D[k]?=some D[k]:=getElem?_eq_getElem hk;generalize D[k]=b at e;obtain⟨sb,P⟩:=hh b (mem_of_getElem? e);have th:∀ h∈D.take k,dh 400 h:=λh M=>(hh h (mem_of_mem_take M)).1;walk_at"db";rw[cm e];walk_at"db";refine⟨b,s,rfl,bp sb ⋯,⟨⟨sz.1.1.mono ⋯,sz.1.2.mono ⋯⟩,⟨sz.2.1.mono ⋯,sz.2.2.mono ⋯⟩⟩,?_⟩
  walk_at"db"
  split
  .rename_i neg;have neg:=xU.mp neg;rw[AA];refine⟨b,D.take k,rfl,sb,th,by rw[length_take];ext,λf l F L=>?_⟩
   dsimp only;rw[show got (.t (.tup [hX f,hX l]))=norm (.tup [hX f,hX l]) from rfl,zg];walk_at"db";refine⟨b,D.take k,f,l,rfl,sb,th,by rw[length_take];ext,vJ sb th F,rR sb th L,?_,λnc=>⟨?_,?_⟩⟩
   .
    rintro s1 p t q rfl rfl lt;obtain⟨⟨y,U,c1,rfl⟩,_⟩:=F.som _ _ rfl;obtain⟨⟨j,g2,c2,rfl⟩,_⟩:=L.som _ _ rfl;obtain⟨pk,m⟩:=oF U;obtain⟨qk,G⟩:=oF g2;have H:=(hh y (mem_of_getElem? m)).1;have J:=(hh j (mem_of_getElem? G)).1;have npq:p≠q:=λz=>by
     subst z;rw[U]at g2;cases g2;ext
    obtain⟨w1,w2,w3⟩:=Jw P lo.1.1 lo.2.1 (hold y (mem_of_getElem? U)) (hold j (mem_of_getElem? g2)) neg c1 c2 lt;have sw1:=qO y b;have sw2:=qO b j;have sw3:=qO j y;walk_at"db";rw[if_pos ⋯]
    refine⟨⋯,?_⟩
    show hE _ ([(p:Int),(q:Int),(k:Int)].map T.int);rw[qg];refine⟨by simp,λms pm ps=>?_⟩
    obtain o|o:=lt_or_ge p q
    .rw[sI (t:=[(p:Int),(q:Int),(k:Int)]) pm ps (by simp;ext)]
     refine⟨D,[p,q,k],rfl,hh,.inr ⟨p,q,k,y,j,b,rfl,m,G,e,⋯,⋯,⋯,λg u v w E a Q c=>?_⟩⟩
     obtain⟨Y,Z,p3,p4⟩:=xX (p:=y) (q:=j) (r:=b) (A:=bH j b) (B:=bH b y) (C:=bH y j) (u:=u) (v:=v) (w:=w) E ⋯ ⋯ ⋯ ⋯ ⋯ ⋯ (qP y j b).1 (qP y j b).2 (by have:=w3;grind)
     refine hC _ _ (.three p q k y j b u v w o ⋯ m G e Y Z p3 p4) λx O=>?_
     simp only[mem_cons,not_mem_nil,or_false]at O
     obtain rfl|rfl|rfl:=O
     .exact iE E a ((gp (ia J sb)).mono ⋯)
     .exact iE E Q ((gp (ia sb H)).mono ⋯)
     .exact iE E c ((gp (ia H J)).mono ⋯)
    .rw[sI (t:=[(q:Int),(p:Int),(k:Int)]) (pm.trans (List.Perm.swap _ _ _)) ps (by simp;ext)]
     refine⟨D,[q,p,k],rfl,hh,.inr ⟨q,p,k,j,y,b,rfl,G,m,e,⋯,⋯,⋯,λg u v w E a Q c=>?_⟩⟩
     obtain⟨Y,Z,p3,p4⟩:=xX (p:=j) (q:=y) (r:=b) (A:=bH b y) (B:=bH j b) (C:=bH y j) (u:=u) (v:=v) (w:=w) E ⋯ ⋯ ⋯ ⋯ ⋯ ⋯ (by have:=(qP y j b).1;grind) (by have:=(qP y j b).2;grind) (by have:=w3;grind)
     refine hC _ _ (.three q p k j y b u v w ⋯ ⋯ G m e Y Z p3 p4) λx O=>?_
     simp only[mem_cons,not_mem_nil,or_false]at O
     obtain rfl|rfl|rfl:=O
     .exact iE E a ((gp (ia H sb)).mono ⋯)
     .exact iE E Q ((gp (ia sb J)).mono ⋯)
     .exact iE E c ((gp (ia J H)).mono ⋯)
   .
    intro i o U c ak;obtain⟨ik,m⟩:=oF U;have no:=(hh o (mem_of_getElem? m)).2;obtain⟨w1,w2,w3⟩:=Jv P no lo.1.1 lo.2.1 (hold o (mem_of_getElem? U)) neg c ak;walk_at"db";rw[if_pos ⋯]
    refine⟨⋯,?_⟩
    show hE _ ([(i:Int),(k:Int)].map T.int);rw[qg];refine⟨by simp,λms pm ps=>?_⟩
    rw[sI (t:=[(i:Int),(k:Int)]) pm ps (by simp;ext)]
    refine⟨D,[i,k],rfl,hh,.inl ⟨i,k,o,b,rfl,m,e,λg u v E a Q=>?_⟩⟩;obtain⟨Y,Z,p4⟩:=Hx (p:=o) (q:=b) (A:=ip b) (B:=ip o) E a Q (nN P) (nN no) w1 w2 w3;refine hC _ _ (.two i k o b u v ik m e Y Z p4) λx O=>?_;simp only[mem_cons,not_mem_nil,or_false]at O
    obtain rfl|rfl:=O
    .exact iE E a (xx sb)
    .exact iE E Q (xx (hh o (mem_of_getElem? m)).1)
   .
    intro nz;have M:∀ s p t q,f=some (s,p)->l=some (t,q)->ir s t:=λs p t q e1 e2=>Int.not_lt.mp (nc s p t q e1 e2);have sp:=uL F L;have st:=Hw sb th F L;walk_at"db";rw[if_neg ⋯]
    refine⟨b,f,l,rfl,P,sb,sp,st,?_⟩;walk_at"db";refine⟨Hq b (fi f l),_,_,_,_,_,rfl,Lq P sp,NV sb st,λh X=>?_⟩;rw[eU e]at X
    obtain z|z:=mem_append.mp X
    .exact vk P F L M nz h z
    .simp at z;subst z;exact zt P sp
  .rename_i nn;have nn:0<=a6 b s:=by
    have:¬ a6 b s<0:=λz=>nn (xU.mpr z);ext
   refine⟨s,_,_,_,_,_,rfl,lo,sz,λh M=>?_⟩;rw[eU e]at M
   obtain z|z:=mem_append.mp M
   .exact hold h z
   .simp at z;subst z;exact nn
 .rintro δ ⟨s,r2,r3,r4,r5,r6,rfl,lo,sz,hold⟩;rw[List.take_length]at hold;walk_at"db";exact hS s lo sz hold
def Ot (f:Pt)(s:aT):Hf:=J6 (f.1*(af s).2.2) (f.2*(af s).2.2) (f.1*(af s).1+f.2*(af s).2.1)
def jQ:aN:=λg R=>∃ (e:List Pt) (s:aT),g=[.t (.lst (e.map aW)),.t (spT s)]/\e.length<=1000/\(∀ p∈e,SzF 120 p)/\eH 600 s/\R (.ol ((eC s e).map aW))
def ef:aN:=λe R=>∃ (v:List Pt) (f:Pt),e=[.t (.lst (v.map aW)),.t (aW f)]/\v.length<=1000/\(∀ p∈v,SzF 1400 p)/\SzF 4300 f/\R (.t (.int (ahead v f)))
def gO:aN:=λg R=>∃ (w:Pt) (e:List Pt),g=[.t (aW w),.t (.lst (e.map aW))]/\e.length<=1000/\e≠[]/\SzF 1400 w/\(∀ p∈e,SzF 1400 p)/\∀ t:Int,(∀ v∈e,a5 w v<t/\-t<a5 w v)->SzF 4300 (B5 w t)->R (.t (aW (B5 w t)))
def jL:aN:=λe R=>∃ v:List Pt,e=[.t (.lst (v.map aW))]/\v.length<=1000/\(∀ p∈v,SzF 1400 p)/\∀ fs:List Pt,zQ v fs->(∀ f∈fs,SzF 4300 f)->R (.ol (fs.map aW))
def fg:aN:=λe R=>∃ (f:Pt) (s:aT),e=[.t (aW f),.t (spT s)]/\f≠(0,0)/\s.1.2≠0/\s.2.2≠0/\SzF 4300 f/\eH 600 s/\R (.t (bd (Ot f s)))
def fe:aN:=λg R=>∃ (e:List Pt) (s:aT),g=[.t (.lst (e.map aW)),.t (spT s)]/\e≠[]/\e.length<=1000/\(∀ p∈e,SzF 120 p)/\eH 600 s/\s.1.2≠0/\s.2.2≠0 ∧
 ∀ f:Pt,f≠(0,0)->SzF 4300 f->ahead (eC s e) f=l7 (eC s e)->R (.t (.tup [.int (l7 (eC s e)),bd (Ot f s)]))
def jd:WS:=
 (aC (aG 2 (aw bW (ac (ae 1) ap)))
 (bw (dI 1 [2] (cj (ae 0)) (aH 0) lG (bX (ac (cL (aV (ao aK (ae 0) (wC (.int 0))) (ao aK (ae 1) (wC (.int 2)))) (ao aK (ae 1) (wC (.int 0)))) (ac (cL (aV (ao aK (ae 0) (wC (.int 1))) (ao aK (ae 1) (wC (.int 2)))) (ao aK (ae 1) (wC (.int 1)))) ap))))))
def eR:WS:=
 (bw (eh cZ (ac (dI 1 [1] (cj (ae 0)) (aH 0) (wB (Oe (aw cB (ac (ae 0) (ac (ae 1) ap))) (wC (.int 0)))) (ae 0)) ap)))
def fy:WS:=
 (aC (aG 2 (cz (wC (.int 1)) (eh HU (ac (dI 1 [0] (cj (ae 1)) (aH 0) lG (eh hW (ac (aw cB (ac (ae 1) (ac (ae 0) ap))) ap))) ap))))
 (bw (bX (ac (cL (aV (uY ie (ao aK (ae 0) (wC (.int 1)))) (ae 2)) (ao aK (ae 0) (wC (.int 0)))) (ac (cL (aV (ao aK (ae 0) (wC (.int 0))) (ae 2)) (ao aK (ae 0) (wC (.int 1)))) ap)))))
def i6:WS:=
 (aC (aG 1 (dI 1 [0] (cj (ae 0)) (aH 0) (wB (Mb (ae 0) (bX (ac (wC (.int 0)) (ac (wC (.int 0)) ap))))) (aw gO (ac (ae 0) (ac (ae 1) ap)))))
 (aC (eO 1 (bX (ac (wC (.int 1)) (ac (wC (.int 0)) ap))))
 (iG 1)))
def ei:WS:=
 (aC (aG 2 (aw bW (ac (ae 1) ap)))
 (bw (aw ky (ac (aV (ao aK (ae 0) (wC (.int 0))) (ao aK (ae 2) (wC (.int 2)))) (ac (aV (ao aK (ae 0) (wC (.int 1))) (ao aK (ae 2) (wC (.int 2)))) (ac (aw cB (ac (ae 0) (ac (ae 2) ap))) ap))))))
def mJ:WS:=
 (aC (hI (wB (qt (eh cZ (ac (ae 0) ap)) (wC (.int 0)))) lE bz)
 (aC (aG 2 (aw jQ (ac (ae 0) (ac (ae 1) ap))))
 (aC (aG 3 (sU (aw jL (ac (ae 2) ap)) 2 (aw ef (ac (ae 1) (ac (ae 0) ap)))))
 (bw (bX (ac (aw ef (ac (ae 2) (ac (ae 3) ap))) (ac (aw fg (ac (ae 3) (ac (ae 1) ap))) ap)))))))
theorem sN (h:eH 600 s):dh 1200 (af s):=by
 obtain⟨⟨g,z⟩,i,e⟩:=h;exact⟨Sz.mul g e,Sz.mul i z,Sz.mul z e⟩
theorem LV (h:eH 600 s)(e:SzF 120 p):SzF 1400 (gj (af s) p):=by
 obtain⟨g,i,y⟩:=sN h;exact⟨(Sz.sub (Sz.mul e.1 y) g).mono ⋯,(Sz.sub (Sz.mul e.2 y) i).mono ⋯⟩
theorem HH (h:eH 600 s)(e:∀ p∈ps,SzF 120 p):∀ v∈eC s ps,SzF 1400 v:=λv g=>by
 obtain⟨p,m,rfl⟩:=mem_map.mp g;exact LV h (e p m)
theorem v8:∀ i R,jQ i R->jd {nx:=λ_=>R (.t .non),rt:=R} (aE ["points","spot","here"] i):=by
 rintro i R ⟨g,s,rfl,i,j,i,h⟩;show jd _ [some (.t (.lst (g.map aW))),some (.t (spT s)),none]
 delta jd
 symm;refine⟨s,rfl,df i ⋯,?_⟩
 obtain⟨k,m,n⟩:=sN i;generalize hh:af s=hr at *;obtain⟨X,Y,B⟩:=hr;dsimp only at k m n;symm;refine eu (f:=aW) (h:=λp=>aW (gj (X,Y,B) p)) (l:=g) (λi=>∃ r,i=[r,some (.t (.tup [.int X,.int Y,.int B]))]) (λ_ _=>rfl) ⋯ ⟨_,rfl⟩ ?_ ?_
 .rintro⟨x,y⟩ m i ⟨r,rfl⟩ i i;obtain⟨z,k⟩:=j _ m;dsimp only at z k;walk_at"go";exact i _ ⟨_,rfl⟩
 .have e:(g.map λp=>aW (gj (X,Y,B) p))=(eC s g).map aW:=by unfold eC;rw[map_map,hh];rfl
  rw[e];symm;exact h
theorem ph:∀ g R,ef g R->eR {nx:=λ_=>R (.t .non),rt:=R} (aE ["ways","facing"] g):=by
 rintro g R ⟨C,⟨a,b⟩,rfl,D,B,⟨i,j⟩,h⟩;dsimp only at i j;show eR _ [some (.t (.lst (C.map aW))),some (.t (.tup [.int a,.int b]))]
 delta eR
 symm;refine et (f:=aW) (h:=aW) (p:=λv=>decide (0<=a5 v (a,b))) (λm=>∃ r,m=[r,some (.t (.tup [.int a,.int b]))]) (λp _=>xO p) ⋯ ⟨_,rfl⟩ ?_ ?_
 .rintro⟨x,y⟩ q m ⟨r,rfl⟩ Y N n o;obtain⟨z,k⟩:=B _ q;dsimp only at z k;symm;refine⟨x,y,a,b,[],[],rfl,z.mono ⋯,k.mono ⋯,i.mono ⋯,j.mono ⋯,?_⟩
  symm
  split
  .rename_i e;exact n _ ⟨_,rfl⟩ (by rw[decide_eq_true_eq];exact e)
  .rename_i e;exact o _ ⟨_,rfl⟩ (by rw[decide_eq_false_iff_not];exact e)
 .symm;rw[length_map,<-countP_eq_length_filter];exact h
theorem rX:∀ q R,gO q R->fy {nx:=λ_=>R (.t .non),rt:=R} (aE ["way","ways","thin"] q):=by
 rintro q R ⟨⟨a,b⟩,i,rfl,g,g,⟨j,k⟩,q,h⟩;dsimp only at j k;show fy _ [some (.t (.tup [.int a,.int b])),some (.t (.lst (i.map aW))),none]
 delta fy
 symm;refine eu (f:=aW) (h:=λv=>T.int (if a5 (a,b) v<0 then -a5 (a,b) v else a5 (a,b) v)) (l:=i) (λn=>∃ r,n=[r,some (.t (.tup [.int a,.int b]))]) (λ_ _=>rfl) ⋯ ⟨_,rfl⟩ ?_ ?_
 .rintro⟨x,y⟩ o n ⟨r,rfl⟩ Y p;obtain⟨z,n⟩:=q _ o;dsimp only at z n;symm;refine⟨a,b,x,y,[],[],rfl,j.mono ⋯,k.mono ⋯,z.mono ⋯,n.mono ⋯,?_⟩
  symm;exact p _ ⟨_,rfl⟩
 .have e:(i.map λv=>T.int (if a5 (a,b) v<0 then -a5 (a,b) v else a5 (a,b) v))=(i.map λv=>(if a5 (a,b) v<0 then -a5 (a,b) v else a5 (a,b) v)).map T.int:=by rw[map_map];rfl
  rw[e];symm;rw[yB];refine⟨by simpa using g,λm o g=>?_⟩
  have B:Sz 2801 m:=by
   obtain⟨v,p,rfl⟩:=mem_map.mp o;obtain⟨z,n⟩:=q _ p;have o:Sz 2801 (a5 (a,b) v):=(Sz.add (Sz.mul j z) (Sz.mul k n)).mono ⋯
   split
   .exact Sz.neg o
   .exact o
  have n:Sz 2802 (1+m):=by
   have:Sz 2801 (1:Int):=⟨⋯⟩
   exact(Sz.add this B).mono ⋯
  have o:∀ v∈i,a5 (a,b) v<1+m/\-(1+m)<a5 (a,b) v:=λv p=>by
   have:(if a5 (a,b) v<0 then -a5 (a,b) v else a5 (a,b) v)<=m:=g _ (mem_map.mpr ⟨v,p,rfl⟩)
   split at this <;> ext
  have hz:SzF 4300 (B5 (a,b) (1+m)):=⟨(Sz.sub (Sz.mul (Sz.neg k) n) j).mono ⋯,(Sz.sub (Sz.mul j n) k).mono ⋯⟩
  have n:=h (1+m) o hz;walk_at"go";exact n
theorem vW:∀ F R,jL F R->i6 {nx:=λ_=>R (.t .non),rt:=R} (aE ["ways","found"] F):=by
 rintro F R ⟨v,rfl,I,H,h⟩;show i6 _ [some (.t (.lst (v.map aW))),none]
 delta i6
 symm;refine⟨λM G k=>∃ pre p fs r,v=pre++p/\M=p.map aW/\G=[r,some (.t (.lst (v.map aW)))]/\k=fs.map aW/\fs.length<=pre.length/\(∀ f∈fs,f≠(0,0)/\SzF 4300 f)/\∀ w∈pre,w≠(0,0)->∃ f∈fs,ahead v f=v.countP (ux w),⟨[],v,[],_,rfl,rfl,rfl,rfl,le_refl _,λf i=>(by cases i),λw o=>(by cases o)⟩,?_,?_⟩
 .rintro G k ⟨pre,p,fs,r,m,q,rfl,rfl,y,j,g⟩;have:p=[]:=by simpa using q.symm
  subst this;rw[append_nil]at m;subst m;have B:Sz 1 0:=⟨⋯⟩
  symm;have e:fs.map aW++[T.tup [.int 1,.int 0]]=(fs++[(1,0)]).map aW:=by rw[map_append];rfl
  refine⟨by rw[length_map];ext,?_⟩
  rw[e];refine h (fs++[(1,0)]) ⟨λf i=>?_,by simp,λw o D=>?_⟩ λf i=>?_
  .rcases mem_append.mp i with z|z
   .exact(j f z).1
   .simp at z;subst z;decide
  .obtain⟨f,i,e⟩:=g w o D;exact⟨f,mem_append_left _ i,e⟩
  .rcases mem_append.mp i with z|z
   .exact(j f z).2
   .simp at z;subst z;exact⟨⟨⋯⟩,⟨⋯⟩⟩
 .rintro x r G k ⟨pre,p,fs,O,m,q,rfl,rfl,y,j,g⟩
  cases p with
  |nil=>cases q
  |cons w p=>
   rw[map_cons]at q
   cases q
   have o:w∈v:=by rw[m];simp
   have J:v.length=pre.length+(p.length+1):=by rw[m];simp
   obtain⟨a,b⟩:=w;symm
   split
   .rename_i C;have D:((a,b):Pt)≠(0,0):=λz=>by
     cases z
     simp at C
    refine⟨(a,b),v,rfl,I,List.ne_nil_of_mem o,H _ o,H,λt L hz=>?_⟩;show pN _ (.t (aW (B5 (a,b) t)));rw[xr];refine⟨rfl,by rw[length_map];ext,pre++[(a,b)],p,fs++[B5 (a,b) t],_,by rw[m];simp,rfl,rfl,by rw[map_append];rfl,by simp;ext,λf i=>?_,λu E n=>?_⟩
    .rcases mem_append.mp i with z|z
     .exact j f z
     .have z:=mem_singleton.mp z;subst z;exact⟨Nj D,hz⟩
    .rcases mem_append.mp E with z|z
     .obtain⟨f,i,e⟩:=g u z n;exact⟨f,mem_append_left _ i,e⟩
     .have z:=mem_singleton.mp z;subst z;exact⟨B5 (a,b) t,by simp,Ae L⟩
   .rename_i C;have hz:a=0/\b=0:=by simpa using C
    refine⟨pre++[(a,b)],p,fs,_,by rw[m];simp,rfl,rfl,rfl,by simp;ext,j,λu E n=>?_⟩
    obtain z|z:=mem_append.mp E
    .exact g u z n
    .have z:=mem_singleton.mp z;subst z;exact absurd (Prod.ext hz.1 hz.2) n
theorem nX:∀ k R,fg k R->ei {nx:=λ_=>R (.t .non),rt:=R} (aE ["facing","spot","here"] k):=by
 rintro k R ⟨⟨a,b⟩,s,rfl,p,n,o,⟨g,i⟩,j,h⟩;dsimp only at g i;show ei _ [some (.t (.tup [.int a,.int b])),some (.t (spT s)),none]
 delta ei
 symm;refine⟨s,rfl,df j ⋯,?_⟩
 obtain⟨y,k,m⟩:=sN j;have j:(af s).2.2≠0:=λz=>by
  obtain e|e:=mul_eq_zero.mp (show s.1.2*s.2.2=0 from z)
  .exact n e
  .exact o e
 unfold Ot at h;generalize af s=hr at *;obtain⟨X,Y,B⟩:=hr;dsimp only at y k m j h;walk_at"go";refine⟨a,b,X,Y,[],[.int B],rfl,g.mono ⋯,i.mono ⋯,y.mono ⋯,k.mono ⋯,?_⟩
 symm;refine⟨_,_,_,rfl,?_,⟨(Sz.mul g m).mono ⋯,(Sz.mul i m).mono ⋯,(Sz.add (Sz.mul g y) (Sz.mul i k)).mono ⋯⟩,h⟩
 by_cases e:a=0
 .right
  intro q
  obtain q|q:=mul_eq_zero.mp q
  .exact p (Prod.ext e q)
  .exact j q
 .left
  intro q
  obtain q|q:=mul_eq_zero.mp q
  .exact e q
  .exact j q
theorem x6:∀ fs:List Pt,tups (fs.map aW)=true
 | []=>rfl
 |p::r=>by rw[map_cons];show tups (T.tup _::_)=true;unfold tups;rw[x6 r];rfl
def Pv:T->Pt
 | .tup [.int a,.int b]=>(a,b)
 |_=>(0,0)
theorem DH:∀ x R,fe x R->mJ {nx:=λ_=>R (.t .non),rt:=R} (aE ["points","spot","ways","emptiest"] x):=by
 rintro x R ⟨p,s,rfl,i,j,k,o,x,y,h⟩;show mJ _ [some (.t (.lst (p.map aW))),some (.t (spT s)),none,none]
 delta mJ
 have n:((p.map aW).length:Int)≠0:=by
  rw[length_map];have:=length_pos_iff.mpr i;ext
 symm;rw[if_neg (by simpa using n)]
 refine⟨p,s,rfl,j,k,o,?_⟩;have v:=HH o k;have k:(eC s p).length<=1000:=by unfold eC;rw[length_map];exact j
 symm;refine⟨eC s p,rfl,k,v,λfs m i=>?_⟩;symm;refine⟨fs.map aW,λt=>(ahead (eC s p) (Pv t):Int),.ol ((eC s p).map aW),rfl,λz=>m.2.1 (List.map_eq_nil_iff.mp z),x6 fs,rfl,λt q=>?_,λt q n=>?_⟩
 .obtain⟨f,j,rfl⟩:=mem_map.mp q;symm;refine⟨eC s p,f,rfl,k,v,i f j,?_⟩
  rfl
 .obtain⟨f,j,rfl⟩:=mem_map.mp q;have hd:=vB m j λg q=>by
   have:(ahead (eC s p) f:Int)<=(ahead (eC s p) g:Int):=n _ (mem_map.mpr ⟨g,q,rfl⟩);ext
  have e:=vw hd;symm;refine⟨eC s p,f,rfl,k,v,i f j,?_⟩;symm;refine⟨f,s,rfl,m.1 f j,x,y,i f j,o,?_⟩;have n:=h f (m.1 f j) (i f j) e.symm;rw[e]at n;symm;exact n
set_option maxHeartbeats 4000000
inductive lI (G:Hf->Prop):List Hf->List Int->Prop
 |two (p q:Hf) (u v:Int):G p->G q->0<u->0<v->IB p q u v->lI G [p,q] [u,v]
 |three (p q r:Hf) (u v w:Int):G p->G q->G r->0<u->0<v->0<w->IC p q r u v w->lI G [p,q,r] [u,v,w]
def IA (ps:List Pt)(k:Nat)(h:Hf):Prop:=fm ps h/\ps.length+1<=ft h ps+k
theorem tK (C:lI G hs B)(z:0<c.2.2)(h:∀ l,G l->0<=aS l c):False:=by
 cases C with
 |two p q u v g i n o s=>
  obtain⟨j,k,m⟩:=s;have a:=mul_nonneg (le_of_lt n) (h p g);have b:=mul_nonneg (le_of_lt o) (h q i);have e:u*aS p c+v*aS q c=(u*p.1+v*q.1)*c.1+(u*p.2.1+v*q.2.1)*c.2.1-(u*p.2.2+v*q.2.2)*c.2.2:=by unfold aS;grind
  rw[j,k]at e;have:=mul_pos m z;omega
 |three p q r u v w g i x n o y s=>
  obtain⟨j,k,m⟩:=s;have a:=mul_nonneg (le_of_lt n) (h p g);have b:=mul_nonneg (le_of_lt o) (h q i);have d:=mul_nonneg (le_of_lt y) (h r x);have e:u*aS p c+v*aS q c+w*aS r c=(u*p.1+v*q.1+w*r.1)*c.1+(u*p.2.1+v*q.2.1+w*r.2.1)*c.2.1-(u*p.2.2+v*q.2.2+w*r.2.2)*c.2.2:=by unfold aS;grind
  rw[j,k]at e;have:=mul_pos m z;omega
theorem Fx (m:∀ h∈hs,G h)(C:yb hs pl z):∃ y:List Hf,lI G y z/\pl.map (λi=>hs[i]?)=y.map some:=by
 cases C with
 |two i j p q u v n e g o x s=>exact⟨[p,q],.two p q u v (m p (mem_of_getElem? e)) (m q (mem_of_getElem? g)) o x s,by simp[e,g]⟩
 |three i j k p q r u v w n n e g n o x y s=>exact⟨[p,q,r],.three p q r u v w (m p (mem_of_getElem? e)) (m q (mem_of_getElem? g)) (m r (mem_of_getElem? n)) o x y s,by simp[e,g,n]⟩
structure zP (ps:List Pt) (k:Nat) (s:aT):Prop where
 k1:1<=k
 kn:k<=ps.length
 ok:bx s
 sz:eH 5000 s
 dep:l7 (ps.map (gj (af s)))=k
 top:∀ c:Hf,0<c.2.2->l7 (ps.map (gj c))<=k
def fc:aN:=λg R=>∃ e:List Pt,g=[.t (.lst (e.map aW))]/\e≠[]/\e.length<=6/\(∀ p∈e,SzF 100 p)/\∀ k s x y,zP e k s->R (.t (.tup [.int (k:Int),spT s,.lst x,.lst y]))
def i4:WS:=
 (aC (uS (aw bg (ac (ae 0) ap)))
 (aC (aG 1 (eh cZ (ac (ae 0) ap)))
 (aC (aG 2 (iF ap))
 (aC (aG 3 (iF ap))
 (aC (aG 4 (aw dU (ac (ae 0) (ac (wC (.int 1)) ap))))
 (aC (aG 5 (aw eT (ac (ae 4) ap)))
 (bZ (oH (wB (qt (ao aK (ae 5) (wC (.int 0))) (wC (.str "none")))) (aC (aG 2 (dI 1 [4] (cj (ao aK (ae 5) (wC (.int 1)))) (aH 0) lG (ao aK (ae 1) (ae 0))))
 (aC (aG 3 (ao aK (ae 5) (wC (.int 2))))
 (aC (aG 1 (cL (ae 1) (wC (.int 1))))
 (aC (aG 4 (aw dU (ac (ae 0) (ac (cz (cL (eh cZ (ac (ae 0) ap)) (ae 1)) (wC (.int 1))) ap))))
 (aG 5 (aw eT (ac (ae 4) ap))))))))
 (EG (bX (ac (ae 1) (ac (ao aK (ae 5) (wC (.int 1))) (ac (ae 2) (ac (ae 3) ap)))))))))))))
theorem zf (hz:∀ p∈ps,SzF 110 p)(h:1<=k)(i:k<=ps.length)(C:lI (IA ps k) hs j):∀ c:Hf,0<c.2.2->l7 (ps.map (gj c))<k:=λc g=>by
 obtain z|z:=lt_or_ge (l7 (ps.map (gj c))) k
 .exact z
 .exact(tK C g λl e=>(qS hz g i h).mp z l e.1 e.2).elim
def Ls (v:S)(ts:List T):Prop:=v=.ol ts\/v=.t (.lst ts)
theorem xk (a b:PySem.Str)(R:S->Prop):dM (.t (.str a)) (.t (.str b)) R=R (.t (.bl (a == b))):=by
 show(dep (.str a)<=20/\dep (.str b)<=20/\R (.t (.bl (a == b))))=_;exact propext ⟨λh=>h.2.2,λh=>⟨zero_le _,zero_le _,h⟩⟩
theorem Kt (h:LZ s):bx s:=⟨⟨h.1.1,h.1.2⟩,⟨h.2.1,h.2.2⟩⟩
theorem vU:Ok fc i4 ["points","k","halves","weights","asked","told"]:=by
 rintro ss R ⟨ps,rfl,hne,hl,hz,h⟩;obtain⟨p0,pr,rfl⟩:∃ p0 pr,ps=p0::pr:=by
  cases ps with
  |nil=>exact absurd rfl hne
  |cons a b=>exact⟨a,b,rfl⟩
 show i4 _ [some (.t (.lst ((p0::pr).map aW))),none,none,none,none,none]
 delta i4
 have hp0:p0∈p0::pr:=mem_cons_self;generalize hps:p0::pr=ps at *;have hlen:1<=ps.length:=by rw[<-hps];simp
 have hnp:∀ R:S->Prop,R (.t .non)->bg [.t (.lst (ps.map aW))] R:=λR hR=>⟨aW p0,pr.map aW,by rw[<-hps];rfl,hR⟩
 have hz':∀ p∈ps,SzF 110 p:=λp hp=>(hz p hp).mono3 ⋯
 have dummy:Sz 1 0:=⟨⋯⟩
 symm;refine hnp _ ?_;symm;refine⟨ps,1,rfl,hne,hl,hz,λhs0 hB0=>?_⟩;have gh:∀ l:List Hf,got (.ol (l.map bd))=.ol (l.map bd):=λl=>eE _ (bG (λ_=>rfl) l);dsimp only;rw[gh];have mem:∀ (k:Nat) (hs:List Hf),ji ps hs->∀ l∈kS ((ps.length:Int)-k+1) ps hs,IA ps k l:=λk hs hB l hl=>by
  unfold kS at hl;rw[mem_filter,hB.1,decide_eq_true_eq]at hl;exact⟨hl.1,by omega⟩
 have all:∀ (k:Nat) (hs:List Hf),ji ps hs->∀ l,IA ps k l->l∈kS ((ps.length:Int)-k+1) ps hs:=λk hs hB l hl=>by
  unfold kS;rw[mem_filter,hB.1,decide_eq_true_eq];exact⟨hl.1,by have:=hl.2;omega⟩
 have oks:∀ (k:Nat) (hs:List Hf),ji ps hs->(∀ l∈kS ((ps.length:Int)-k+1) ps hs,dh 400 l/\Nz l)/\(kS ((ps.length:Int)-k+1) ps hs).length<=1000:=λk hs hB=>by
  refine⟨λl hl=>?_,le_trans (le_trans (length_filter_le ..) hB.2) ⋯⟩
  have:=jY hz' (mem k hs hB l hl).1;exact⟨kC this.1 ⋯,this.2⟩
 let Td:Nat->List Hf->T->Prop:=λk st t=>(∃ s:aT,t=.tup [.str "spot",spT s]/\LZ s/\eH 5000 s/\∀ h∈st,0<=a6 h s)\/∃ pl ws,t=lW pl ws/\yb st pl ws/\∀ w∈ws,Sz 5000 w
 let HW:Nat->S->S->Prop:=λk v2 v3=>∃ (gs:List Hf) (ws:List Int),Ls v2 (gs.map bd)/\Ls v3 (ws.map .int)/\(∀ w∈ws,Sz 5000 w)/\((k=ps.length/\gs=[]/\ws=[]/\v2=.ol []/\v3=.ol [])\/(k<ps.length/\lI (IA ps (k+1)) gs ws))
 let SP:Nat->a9->Prop:=λk δ=>∃ (s:aT) (v2 v3 v4:S),δ=[some (.t (.lst (ps.map aW))),some (.t (.int (k:Int))),some v2,some v3,some v4,some (.t (.tup [.str "spot",spT s]))]/\LZ s/\eH 5000 s/\(∀ l,IA ps k l->0<=a6 l s)/\HW k v2 v3/\1<=k/\k<=ps.length
 let NO:Nat->a9->Prop:=λk δ=>∃ (hs:List Hf) (pl:List Nat) (ws:List Int) (v2 v3:S),δ=[some (.t (.lst (ps.map aW))),some (.t (.int (k:Int))),some v2,some v3,some (.t (.lst ((kS ((ps.length:Int)-k+1) ps hs).map bd))),some (.t (lW pl ws))]/\ji ps hs/\yb (kS ((ps.length:Int)-k+1) ps hs) pl ws/\(∀ w∈ws,Sz 5000 w)/\1<=k/\k<=ps.length
 let I:Nat->a9->Prop:=λk δ=>SP k δ\/NO k δ
 have inI:∀ (k:Nat) (hs:List Hf) (t:T) (v2 v3 v4:S) (o:Option S),ji ps hs->Td k (kS ((ps.length:Int)-k+1) ps hs) t->HW k v2 v3->1<=k->k<=ps.length->(v4=.ol ((kS ((ps.length:Int)-k+1) ps hs).map bd)\/v4=.t (.lst ((kS ((ps.length:Int)-k+1) ps hs).map bd)))->I k (setS 5 (norm t) [some (.t (.lst (ps.map aW))),some (.t (.int (k:Int))),some v2,some v3,some v4,o]):=by
  rintro k hs t v2 v3 v4 o hB ht ⟨gs,ws',l2,l3,zw',hc⟩ hk1 hkn h4
  obtain⟨s,rfl,lo,sz,hh⟩|⟨pl,ws,rfl,C,zw⟩:=ht
  .rw[eM (x:=.tup [.str "spot",spT s]) rfl];exact .inl ⟨s,v2,v3,v4,rfl,lo,sz,λl hl=>hh l (all k hs hB l hl),⟨gs,ws',l2,l3,zw',hc⟩,hk1,hkn⟩
  .have en:norm (lW pl ws)=.vt (lW pl ws):=rfl;rw[en];refine .inr ⟨hs,pl,ws,dZ v2,dZ v3,?_,hB,C,zw,hk1,hkn⟩
   rcases h4 with rfl|rfl <;> rfl
 have one:∀ hs ws,¬ lI (IA ps 1) hs ws:=λhs ws C=>tK C (c:=fl p0) (show(0:Int)<1 by decide) λl hl=>by
  have hm:=hl.2;have hle:ft l ps<=ps.length:=List.countP_le_length;have he:ft l ps=ps.length:=by omega
  exact(rd l p0).mp (List.countP_eq_length.mp he p0 hp0)
 have shd:∀ (k:Nat) (hs:List Hf),ji ps hs->∀ R':S->Prop,(∀ t,Td k (kS ((ps.length:Int)-k+1) ps hs) t->R' (.t t))->eT [.t (.lst ((kS ((ps.length:Int)-k+1) ps hs).map bd))] R':=λk hs hB R' hR=>by
  obtain⟨o1,o2⟩:=oks k hs hB;exact⟨_,rfl,o1,o2,λs lo sz hh=>hR _ (.inl ⟨s,rfl,lo,sz,hh⟩),λpl ws C zw=>hR _ (.inr ⟨pl,ws,rfl,C,zw⟩)⟩
 have e1:(1:Int)=(ps.length:Int)-(ps.length:Nat)+1:=by omega
 have e0:kS 1 ps hs0=kS ((ps.length:Int)-(ps.length:Nat)+1) ps hs0:=congrArg (λi=>kS i ps hs0) e1;rw[e0];symm;refine shd ps.length hs0 hB0 _ λt ht=>?_;rw[show got (.t t)=norm t from rfl];symm;rw[length_map]
 let M:a9->Prop:=λδ=>∃ k,SP k δ
 refine⟨M,⟨I,⟨ps.length,inI ps.length hs0 t _ _ _ _ hB0 ht ⟨[],[],.inl rfl,.inl rfl,λw hw=>(by cases hw),.inl ⟨rfl,rfl,rfl,rfl,rfl⟩⟩ hlen (le_refl _) (by first|exact .inl rfl|exact .inr rfl)⟩,?_⟩,?_⟩
 .rintro k δ (⟨s,v2,v3,v4,rfl,lo,sz,hh,hw,hk1,hkn⟩|⟨hs,pl,ws,v2,v3,rfl,hB,C,zw,hk1,hkn⟩)
  .symm;rw[xk];symm;exact⟨k,s,v2,v3,v4,rfl,lo,sz,hh,hw,hk1,hkn⟩
  .obtain⟨gs,cg,_⟩:=Fx (mem k hs hB) C;have k2:2<=k:=by
    obtain z|z:=lt_or_ge 1 k
    .exact z
    .have:k=1:=by omega
     subst this;exact(one _ _ cg).elim
   have ek:((List.map aW ps).length:Int)-((k:Int)-1)+1=(ps.length:Int)-((k-1:Nat):Int)+1:=by rw[length_map];omega
   have ek2:(k:Int)-1=((k-1:Nat):Int):=by omega
   have go:∀ gs':List Hf,lI (IA ps k) gs' ws->dU [S.t (T.lst (List.map aW ps)),S.t (T.int (((List.map aW ps).length:Int)-((k:Int)-1)+1))] λs=>
    look 4 (setS 4 (got s) [some (S.t (T.lst (List.map aW ps))),some (S.t (T.int ((k:Int)-1))),some (S.ol (gs'.map bd)),some (S.t (T.lst (List.map T.int ws))),some (S.t (T.lst (List.map bd (kS ((ps.length:Int)-k+1) ps hs)))),some (S.t (T.tup [T.str (PySem.Str.ofString "none"),T.lst (List.map t7 pl),T.lst (List.map T.int ws)]))]) λs_1=>
     eT [lM (seen s_1)] λs_2=>∃ m,m<k/\I m (setS 5 (got s_2) (setS 4 (got s) [some (S.t (T.lst (List.map aW ps))),some (S.t (T.int ((k:Int)-1))),some (S.ol (gs'.map bd)),some (S.t (T.lst (List.map T.int ws))),some (S.t (T.lst (List.map bd (kS ((ps.length:Int)-k+1) ps hs)))),some (S.t (T.tup [T.str (PySem.Str.ofString "none"),T.lst (List.map t7 pl),T.lst (List.map T.int ws)]))])):=λgs' cg'=>by
    rw[ek,ek2];refine⟨ps,_,rfl,hne,hl,hz,λhs1 hB1=>?_⟩;dsimp only;rw[gh];symm;refine shd (k-1) hs1 hB1 _ λt ht=>?_;rw[show got (.t t)=norm t from rfl];exact⟨k-1,by omega,inI (k-1) hs1 t _ _ _ _ hB1 ht ⟨gs',ws,.inl rfl,.inr rfl,zw,.inr ⟨by omega,by rw[show k-1+1=k by omega];exact cg'⟩⟩ (by omega) (by omega) (.inl rfl)⟩
   unfold lW;symm;rw[xk];symm;rw[if_pos ⋯]
   cases C with
   |two i j p q u v hij e1 e2 u0 v0 sm=>
    show nh _ _ _ [.int (i:Int),.int (j:Int)] _ _;refine j3 ?_;symm;rw[cm e1];symm;refine⟨by simp,?_⟩
    rw[cm e2];symm;refine⟨by simp,?_⟩
    exact go [p,q] (.two p q u v (mem k hs hB p (mem_of_getElem? e1)) (mem k hs hB q (mem_of_getElem? e2)) u0 v0 sm)
   |three i j l p q r u v w hij hjk e1 e2 e3 u0 v0 w0 sm=>
    show nh _ _ _ [.int (i:Int),.int (j:Int),.int (l:Int)] _ _;refine j3 ?_;symm;rw[cm e1];symm;refine⟨by simp,?_⟩
    rw[cm e2];symm;refine⟨by simp,?_⟩
    rw[cm e3];symm;refine⟨by simp,?_⟩
    exact go [p,q,r] (.three p q r u v w (mem k hs hB p (mem_of_getElem? e1)) (mem k hs hB q (mem_of_getElem? e2)) (mem k hs hB r (mem_of_getElem? e3)) u0 v0 w0 sm)
 .rintro δ ⟨k,s,v2,v3,v4,rfl,lo,sz,hh,⟨gs,ws,l2,l3,zw,hc⟩,hk1,hkn⟩;have zc:0<(af s).2.2:=mul_pos lo.1.1 lo.2.1;have ge:k<=l7 (ps.map (gj (af s))):=(qS hz' zc hkn hk1).mpr λl b m=>by
   have:=hh l ⟨b,m⟩;rw[k9]at this;exact this
  have top:∀ c:Hf,0<c.2.2->l7 (ps.map (gj c))<=k:=λc zc=>by
   obtain⟨rfl,_⟩|⟨lt,C⟩:=hc
   .exact xc ps c
   .exact le_of_lt_succ (zf hz' (by omega) (by omega) C c zc)
  have fin:=λx y=>h k s x y ⟨hk1,hkn,Kt lo,sz,Nat.le_antisymm (top _ zc) ge,top⟩
  rcases l2 with rfl|rfl <;> rcases l3 with rfl|rfl
  all_goals(
   symm;exact fin (gs.map bd) (ws.map .int))
end Law
set_option maxHeartbeats 3200000
namespace ST
open PySem PySem.W PyProof.Rows
section
variable {prog:Program}{w:World}{A:Around}{E:Value->Shared->Prop}{s:Shared}
theorem pu (J:IsTupleKey (ik prog w) s.heap x a)(G:IsTupleKey (ik prog w) s.heap y b)(I:x.length=y.length)(h:P (.done (.ret (.bool (lexB x y)))) s) :
  wpAny (model prog w) A (Builtin.«tuple.__lt__» ⟨[.ref a,.ref b],[]⟩) P E s:=by
 have e:=G.typeIs;obtain⟨o,D,n,i,_,g,m⟩:=J;obtain⟨o,F,n,j,_,hdb,o⟩:=G;show wpAny _ _ (isInstance (.ref b) (.type "tuple") >>= _) _ _ s;refine wpAny_bind (wpAny_isInstance e isSubtype_tuple_tuple ?_);simp only[Bool.not_true,Bool.false_eq_true,if_false];refine wpAny_bind (wpAny_tupleItemsOf i g ?_);refine wpAny_bind (wpAny_tupleItemsOf j hdb ?_);refine wpAny_bind ?_;refine wpAny_forIn_list _
  (λrest r C=>r.1=none/\C=s/\∃ p q i j,rest=List.zip i j/\ItemsAre (ik prog w) p i/\ItemsAre (ik prog w) q j/\lexB p q=lexB x y/\p.length=q.length)
  _ ?_ ?_ _ _ ⟨rfl,rfl,x,y,D.toList,F.toList,rfl,m,o,rfl,I⟩
 .rintro⟨u,v⟩ rest r C ⟨B,rfl,p,q,i,j,hz,k,g,e,n⟩
  cases k with
  |nil=>simp at hz
  | @cons k1 u' x'' xs'' h1 hx''=>
   cases g with
   |nil=>simp at hz
   | @cons k2 v' y'' ys'' h2 hy''=>
    simp only[List.zip_cons_cons,List.cons.injEq,Prod.mk.injEq]at hz;obtain⟨⟨rfl,rfl⟩,rfl⟩:=hz;obtain⟨t,rfl⟩:=Value.isInt_shape h1;obtain⟨L,rfl⟩:=Value.isInt_shape h2;refine wpAny_bind (wpAny_eqBool_int ?_)
    by_cases z:k1=k2
    .subst z;rw[beq_self_eq_true];simp only[Bool.not_true,Bool.false_eq_true,if_false];refine wpAny_pure ⟨rfl,rfl,x'',y'',xs'',ys'',rfl,hx'',hy'',?_,by simpa using n⟩
     rw[<-e];simp[lexB]
    .rw[beq_eq_false_iff_ne.mpr z];simp only[Bool.not_false,if_true];have H:lexB x y=decide (k1<k2):=by rw[<-e];simp[lexB,z]
     rw[H]at h;refine wpAny_bind (wpAny_rule ?_);refine wpAny_bind (show wpAny _ _ (compareOp .Lt (Value.int k1 t) (Value.int k2 L)) _ _ _ from wpAny_lt_int ?_);exact wpAny_bind (wpAny_pure (wpAny_pure (wpAny_pure h)))
 .rintro⟨z,z⟩ C ⟨B,rfl,p,q,i,j,hz,k,g,e,n⟩;simp only at B;subst B;refine wpAny_pure ?_;have i:lexB x y=false:=by
   rw[<-e]
   cases k with
   |nil=>
    cases g with
    |nil=>rfl
    |cons _ _=>simp at n
   |cons _ _=>
    cases g with
    |nil=>simp at n
    |cons _ _=>simp at hz
  have e:D.size=F.size:=by
   have e:=m.length;have g:=o.length;simp only[length_toList]at e g;ext
  rw[i]at h;rw[show Builtin.Tuple.tupleCompareSizes CmpOp.Lt D.size F.size=.bool false by rw[e];unfold Builtin.Tuple.tupleCompareSizes;simp]
  exact h
theorem lX (k:A.units<cLine)(g:IsTupleKey (ik prog w) s.heap x a)(i:IsTupleKey (ik prog w) s.heap y b)(j:x.length=y.length)(h:Q (lexB x y) s) :
  wpAny (model prog w) A (oneLt' false (.ref a) (.ref b)) Q E s:=
 kat_one _ _ (show wpAny _ _ (richCompare .Lt _ _) _ _ _ from wpAny_richCompare_same_room (op:=.Lt) g.typeIs i.typeIs F.slot_tuple_lt
  (wpAny_call_entry F.slot_tuple_lt g.typeIs F.entry_tuple_lt (pu g i j ⟨_,rfl,(λe=>nomatch e),h⟩) (F.args_tuple_lt_2 _ _)) k)
def IsNest (prog:Program) (w:World) (h:Heap) (ks:List Int) (e:Addr):Prop:=∃ o items n u v a b c d,ks=[a,b,c,d]/\h.get? e=some o/\o.cls=.type "tuple"/\o.data=.seq items n/\items.toList=[Value.ref u,.ref v]/\IsTupleKey (ik prog w) h [a,b] u/\IsTupleKey (ik prog w) h [c,d] v
theorem vH {h k:Heap}{a:Addr}{o:Obj} (n:h.get? a=some o) (m:o.cls=.type "list") (p:∀ b o,b≠a->h.get? b=some o->k.get? b=some o) {b:Addr}{i:Obj} (j:h.get? b=some i) (g:i.cls=.type "tuple"):k.get? b=some i:=p b i (λe=>by
 rw[e,n]at j;obtain rfl:=Option.some.inj j;rw[m]at g;exact absurd g ⋯) j
theorem rW {h p:Heap}{a:Addr}{o:Obj} (i:h.get? a=some o) (g:o.cls=.type "list") (k:∀ b o,b≠a->h.get? b=some o->p.get? b=some o) {ks:List Int}{j:Addr} (x:IsNest prog w h ks j):IsNest prog w p ks j:=by
 obtain⟨P,L,n,u,v,z,B,C,D,e,F,m,G,H,⟨Q,I,M,U,q,X,Y⟩,R,J,O,Z,y,q3,q4⟩:=x;exact⟨P,L,n,u,v,z,B,C,D,e,vH i g k F m,m,G,H,⟨Q,I,M,vH i g k U q,q,X,Y⟩,R,J,O,vH i g k Z y,y,q3,q4⟩
theorem pX:∀ (vs:List Value) (km:Nat->Addr × List Int),(∀ i,i<vs.length->vs.getD i Value.none=.ref (km i).1/\IsNest prog w h (km i).2 (km i).1) →
  ∃ fs,KatTups h vs fs/\fs.length=vs.length/\∀ v∈fs,Looks (model prog w) h (typeOf v) (.type "tuple")
 | [],km,_=>⟨[],.nil,rfl,λv B=>absurd B not_mem_nil⟩
 |v::vs,km,g=>by
  obtain⟨fs,j,m,p⟩:=pX vs (λi=>km (i+1)) λi hi=>by
   have:=g (i+1) (by simpa using hi)
   simpa using this
  obtain⟨e,o,items,n,u,x,a,b,c,d,_,y,x,hd,hi,B,C⟩:=g 0 (by simp)
  have g:v=.ref (km 0).1:=by simpa using e
  subst g;refine⟨Value.ref u::fs,.cons y x hd (f:=Value.ref u) ?_ j,by simp[m],λz hz=>?_⟩
  .rw[<-getElem?_toList,hi];rfl
  .rcases mem_cons.mp hz with rfl|hz
   .obtain⟨g,_,_,j,m,_⟩:=B;exact λA Q E s k q=>wpAny_typeOf ⟨g,k _ _ j,m⟩ q
   .exact p z hz
theorem Gr (j:A.units<cLine)(M:IsNest prog w s.heap x p)(O:IsNest prog w s.heap y q)(h:C (lexB x y) s):wpAny (model prog w) A (keyLt' (tuples' false) (.ref p) (.ref q)) C E s:=by
 obtain⟨o,P,n,u,v,a,b,c,d,rfl,L,e,hd,hi,F,G⟩:=M;obtain⟨e,z,e,e,e,g,i,B,D,rfl,m,e,k,e,H,I⟩:=O;have J:P.size=z.size:=by rw[<-length_toList,<-length_toList,hi,e];rfl
 refine kat_lt L hd m k ?_;rw[J,hi,e];refine kat_cons (wpAny_eqBool_tuple j F H ?_)
 by_cases k1:([a,b]:List Int)=[g,i]
 .rw[decide_eq_true k1]
  cases k1
  refine kat_yes (kat_cons (wpAny_eqBool_tuple j G I ?_))
  by_cases k:([c,d]:List Int)=[B,D]
  .rw[decide_eq_true k]
   cases k
   refine kat_yes (kat_nil ?_);rw[lex_irr]at h;simpa using h
  .rw[decide_eq_false k];refine kat_no (lX j G I rfl ?_);simpa [lexB] using h
 .rw[decide_eq_false k1];refine kat_no (lX j F H rfl ?_);have:lexB [a,b,c,d] [g,i,B,D]=lexB [a,b] [g,i]:=by
   simp only[lexB]
   by_cases e:a=g
   .by_cases g:b=i
    .exact absurd (by rw[e,g]) k1
    .simp[e,g]
   .simp[e]
  rw[this]at h;exact h
theorem zI {a:Addr}{n:Nat}{vs:List Value}{km:Nat->Addr × List Int}{P:PySem.Fin->Shared->Prop} (z:A.units<cLine) (g:s.heap.get? a=some (seqObj "list" vs.toArray n)) (q:vs.length<64)
  (k:∀ i,i<vs.length->vs.getD i Value.none=.ref (km i).1/\IsNest prog w s.heap (km i).2 (km i).1)
  (h:∀ h' (p:Array Nat) e,(∀ b o,b≠a->s.heap.get? b=some o->h'.get? b=some o)->h'.get? a=some (seqObj "list" (p.toList.map λi=>vs.getD i Value.none).toArray e) →
   List.Perm p.toList (List.range vs.length)->bR Ge (λi=>(km i).2) p vs.length->P (.done (.ret .none)) {s with heap:=h'}) :
  wpAny (model prog w) A (Builtin.«list.sort» ⟨[.ref a],[]⟩) P E s:=
 uJ (O:=Ge) (key:=λi=>(km i).2) (T:=.type "tuple") g q ⋯ (λv m=>pX vs km λi hi=>⟨(k i hi).1,rW g rfl m (k i hi).2⟩) (λv m i j C hi x y=>by
  rw[(k i hi).1,(k j x).1];exact Gr (s:={s with heap:=v}) z (rW g rfl m (k i hi).2) (rW g rfl m (k j x).2) y) h
theorem call_sorted_nest {Q:Value->Shared->Prop}{l:Addr}{ms:List (Addr × List Int)}(hu:A.units+9<cLine)(X:s.heap.IsList l (ms.map λm=>Value.ref m.1).toArray)(U:∀ m∈ms,IsNest prog w s.heap m.2 m.1)(nd:(ms.map (·.2)).Nodup)(R:ms.length<=63)
  (h:∀ h' D e (ns:List (Addr × List Int)),List.Perm ns ms->ns.Pairwise (λa b=>lexB a.2 b.2=true)->(∀ b o,s.heap.get? b=some o->h'.get? b=some o)->s.heap.objs.size<=D →
   h'.get? D=some (seqObj "list" (ns.map λm=>Value.ref m.1).toArray e)->Q (.ref D) {s with heap:=h'}) :
  wpAny (model prog w) A (call (.builtin "sorted") [.ref l]) Q E s:=by
 refine Calls.call_function_entry kind_sorted plain_sorted entry_sorted (args_sorted1 _) ?_;unfold Builtin.«sorted»;refine wpAny_bind (m:=checkCount "sorted" 1 1 _) (wpAny_pure ?_);refine wpAny_bind (collect_list X ?_ (by rw[length_map,sizeLine_eq];ext))
 have k1:∀ b o,s.heap.get? b=some o->((s.heap.push (seqObj "list" #[] 0)).update s.heap.objs.size (Obj.mapSeq (·++(ms.map λm=>Value.ref m.1).toArray))).get? b=some o:=λb o e=>by
  have q:b≠s.heap.objs.size:=ne_of_lt (Heap.lt_size e);exact((Heap.SameBut.update ..).2 b q).trans (Heap.get?_push_of_some _ e)
 have C:s.heap.objs.size<=((s.heap.push (seqObj "list" #[] 0)).update s.heap.objs.size (Obj.mapSeq (·++(ms.map λm=>Value.ref m.1).toArray))).objs.size:=by
  rw[Heap.size_update];simp[Heap.push]
 generalize (s.heap.push (seqObj "list" #[] 0)).update s.heap.objs.size (Obj.mapSeq (·++(ms.map λm=>Value.ref m.1).toArray))=k at *;refine wpAny_bind (wpAny_newList ?_ (by rw[length_map,sizeLine_eq];ext))
 dsimp only;have g:(k.push (seqObj "list" (ms.map λm=>Value.ref m.1).toArray 0)).get? k.objs.size=some (seqObj "list" (ms.map λm=>Value.ref m.1).toArray 0):=Heap.get?_push_size _ rfl;refine wpAny_bind (wpAny_holding (wpAny_call_entry slot_list_sort ⟨_,g,rfl⟩ entry_list_sort ?_ (args_list_sort _)));have y:∀ b o,s.heap.get? b=some o->(k.push (seqObj "list" (ms.map λm=>Value.ref m.1).toArray 0)).get? b=some o:=λb o e=>Heap.get?_push_of_some _ (k1 b o e);refine zI (s:={s with heap:=k.push (seqObj "list" (ms.map λm=>Value.ref m.1).toArray 0)}) (km:=λi=>ms.getD i (0,[])) (by show A.units+1+1<cLine;ext) g (by rw[length_map];ext) (λi hi=>?_) λh' p e z F x G=>?_
 .have g:i<ms.length:=by simpa using hi
  have B:ms.getD i (0,[])=ms[i]:=by simp[g]
  dsimp only;rw[B];refine⟨by simp[g],?_⟩
  obtain⟨o1,it,n,u,v,B,H,I,J,e,L,M,O,P,⟨o2,Y,n2,p1,p2⟩,o4,Z,n4,q1,q2⟩:=U _ (getElem_mem g);exact⟨o1,it,n,u,v,B,H,I,J,e,y _ _ L,M,O,P,⟨o2,Y,n2,y _ _ p1,p2⟩,o4,Z,n4,y _ _ q1,q2⟩
 .refine⟨_,rfl,wpAny_pure ⟨_,rfl,?_⟩⟩;rw[length_map]at x G;have B:(p.toList.map λi=>(ms.map λm=>Value.ref m.1).getD i Value.none)=(p.toList.map λi=>ms.getD i (0,[])).map λm=>Value.ref m.1:=by
   rw[map_map];refine map_congr_left λi hi=>?_;have g:i<ms.length:=by simpa using x.mem_iff.mp hi
   simp[g]
  have g:List.Perm (p.toList.map λi=>ms.getD i (0,[])) ms:=by
   have:=x.map λi=>ms.getD i ((0:Addr),([]:List Int))
   rwa [lV]at this
  rw[B]at F;refine h h' _ e _ g ?_ (λb o e=>z b o (λq=>?_) (y b o e)) ?_ F
  .have z:((p.toList.map λi=>ms.getD i ((0:Addr),([]:List Int))).map (·.2)).Nodup:=(g.map (·.2)).nodup_iff.mpr nd;rw[pairwise_iff_getElem];intro i j hi y g;rw[length_map]at hi y;have B:p.toList.length=ms.length:=by rw[x.length_eq,length_range]
   have k:=G i j (Nat.le_of_lt g) ⋯
   have B:p.getD i 0=p.toList[i]:=by simp at hi;simp[Array.getD,hi]
   have F:p.getD j 0=p.toList[j]:=by simp at y;simp[Array.getD,y]
   have x:=pairwise_iff_getElem.mp z i j (by simpa using hi) (by simpa using y) g
   simp only[getElem_map]at x ⊢;unfold KeyOrd.kle Rk at k;rw[B,F]at k
   cases q:lexB (ms.getD p.toList[i] (0,[])).2 (ms.getD p.toList[j] (0,[])).2 with
   |true=>rfl
   |false=>exact absurd (iM _ _ q k) x
  .exact ne_of_lt (Heap.lt_size (k1 b o e)) q
  .exact C
end
end ST
namespace DL
open PySem PySem.Spec L2 PyProof.Rows
def OE (K:Frg)(H:Hp)(m:Addr × List Int):Prop:=∃ u v a b c d,m.2=[a,b,c,d]/\je K H m.1 [V.ref u,.ref v]/\je K H u [V.int a,.int b]/\je K H v [V.int c,.int d]
def LD (K:Frg)(te:TE):TE:=λe H Q=>te e H λx h=>∃ p,∃ k:List (Addr × List Int),x=.ref p/\cV K h p (refs k)/\k.length<=63 ∧
 (∀ m∈k,OE K h m)/\(k.map (·.2)).Nodup ∧
 ∀ ns:List (Addr × List Int),List.Perm ns k->ns.Pairwise (λa b=>ST.lexB a.2 b.2=true)->∀ l,h l=none->Q (.ref l) (cG h l (.lst (refs ns)))
section
variable {X:Cx}{e:Expr}{te:TE}{p1 pos1:Pos}
theorem KD (I:aI X pins σ H s)(h:OE X.K H m):ST.IsNest X.prog X.w s.heap m.2 m.1:=by
 obtain⟨u,v,a,b,c,d,e,g,j,k⟩:=h;obtain⟨i,r,⟨o,q,p,n,hd⟩,_⟩:=I.tuple g;have g:i=[Value.ref u,.ref v]:=by
  cases r with
  |cons x r=>
   cases x
   cases r with
   |cons x r=>
    cases x
    cases r
    rfl
 exact⟨o,i.toArray,n,u,v,a,b,c,d,e,q,p,hd,by simpa using g,sT I (ks:=[a,b]) j,sT I (ks:=[c,d]) k⟩
theorem DT (hr:b9 k X.A) (hm1:X.mg "sorted"=none) (he:PE X e te) (hg1:Gl X "sorted":=by rfl) (hs1:starEach [e] X.env=(false,eval e X.env)::starEach [] X.env:=by exact aQ rfl) :
  PE X (.Call (.Name "sorted" p1) [e] [] pos1) (LD X.K te):=by
 intro pins s σ H Q I h;refine wpAny_Call_Name_kw (ij I hg1 hm1 PyProof.Rows.boot_sorted ?_);refine PyProof.Rows.callWith_builtin1 ?_ hs1;rw[hs1];show wpAny _ _ (spliced ((false,eval e X.env)::backTo pos1 (starEach [] X.env))) _ _ s;refine Calls.spliced_cons (cM (he pins s σ H _ I h) ?_);rintro u s1 ⟨x,H1,I1,r1,q1⟩;obtain⟨p,km,rfl,hq,hlen,hkm,nd,fin⟩:=q1
 cases r1
 refine Calls.spliced_nil ?_;obtain⟨its,r,pl,hz⟩:=I1.list hq;have eits:=lh r;subst eits;refine ST.call_sorted_nest (ms:=km) (by have:=hr.un;ext) pl.isList (λm hm=>KD I1 (hkm m hm)) nd hlen λh3 D c3 ns hpm hpw keep le hD=>?_
 have hnl:ns.length<=63:=by rw[hpm.length_eq];exact hlen
 refine⟨.ref D,_,I1.laid (t':=s1.toks) keep le (show eV X.prog X.w _ h3 _ (.lst (refs ns)) from⟨?_,_,c3,rO ns,hD⟩),rfl,fin ns hpm hpw _ (I1.hok.fresh le)⟩;unfold refs;rw[length_map];exact le_trans hnl ⋯
end
def l4 (s:aT):List Int:=[s.1.1,s.1.2,s.2.1,s.2.2]
theorem B6 (h:l4 a=l4 b):a=b:=by
 unfold l4 at h;simp only[List.cons.injEq,and_true]at h;exact Prod.ext (Prod.ext h.1 h.2.1) (Prod.ext h.2.2.1 h.2.2.2)
theorem ql {K:Frg}{H:Hp}:∀ {L:List aT}{xs:List V},au K H (L.map spT) xs →
  ∃ km:List (Addr × List Int),km.map (·.2)=L.map l4/\xs=refs km/\∀ m∈km,OE K H m/\∃ s,l4 s=m.2/\aB K H (spT s) (.ref m.1)
 | [],_,h=>⟨[],rfl,h,λm g=>absurd g not_mem_nil⟩
 |s::L,_,⟨x,r,e,p,q⟩=>by
  subst e;obtain⟨km,i,j,y⟩:=ql q;obtain⟨a,k,k,C,ty⟩:=id p;subst k;obtain⟨k,k,k,z,n,n,n,B,o⟩:=ty;subst k n o;obtain⟨u,k,k,o,D⟩:=z;obtain⟨v,n,n,z,E⟩:=B;subst k n;have k:=fx (ks:=[s.1.1,s.1.2]) D;have n:=fx (ks:=[s.2.1,s.2.2]) E;subst k n;refine⟨(a,l4 s)::km,by rw[map_cons,i];rfl,by rw[j];rfl,λm g=>?_⟩
  obtain rfl|g:=mem_cons.mp g
  .exact⟨⟨u,v,_,_,_,_,rfl,C,o,z⟩,s,rfl,p⟩
  .exact y m g
theorem pY {K:Frg}{H:Hp}:∀ (ns:List (Addr × List Int)) (N:List aT),ns.map (·.2)=N.map l4->(∀ m∈ns,∃ s,l4 s=m.2/\aB K H (spT s) (.ref m.1))->au K H (N.map spT) (refs ns)
 | [],[],_,_=>rfl
 |m::ns,s::N,e,h=>by
  rw[map_cons,map_cons]at e;obtain⟨g,i⟩:=List.cons.inj e;obtain⟨k,j,p⟩:=h m mem_cons_self;have:k=s:=B6 (j.trans g);subst this;exact⟨.ref m.1,refs ns,rfl,p,pY ns N i λi g=>h i (mem_cons_of_mem _ g)⟩
 | [],_::_,e,_=>nomatch e
 |_::_,[],e,_=>nomatch e
def Pb (R:S->Prop)(s:S):Prop:=match items s with
 |some e=>∃ L:List aT,e=L.map spT/\L.length<=63/\L.Nodup/\∀ N:List aT,List.Perm N L->N.Pairwise (λa b=>ST.lexB (l4 a) (l4 b)=true)->R (.ol (N.map spT))
 |none=>False
def sV (e:WE):WE:=λg R=>e g (Pb R)
section
variable {X:Cx}{e:Expr}{p1 pos1:Pos}
theorem tQ {k:Nat}{I:WE} (P:b9 k X.A) (y:X.mg "sorted"=none) (he:PE X e (av X.K I)) (j:Gl X "sorted":=by rfl) (z:starEach [e] X.env=(false,eval e X.env)::starEach [] X.env:=by exact aQ rfl) :
  PE X (.Call (.Name "sorted" p1) [e] [] pos1) (av X.K (sV I)):=
 (DT P y he j z).imp <| by rintro σ H Q ⟨δ,R,F,Y,h,k⟩;exact⟨δ,_,F,Y,h,λv B H1 s ex p q=>by
  unfold Pb at q
  split at q
  .rename_i ts hi;obtain⟨a,xs,rfl,Z,tp⟩:=(p.val ex.sub).list ex.sub hi;obtain⟨L,rfl,J,nd,n⟩:=q;obtain⟨E,g,i,D⟩:=ql tp;subst i;have el:E.length=L.length:=by have:=congrArg List.length g;simpa using this
   refine⟨a,E,rfl,Z,⋯,λm x=>(D m x).1,by rw[g];exact pairwise_map.mpr (nd.imp λh e=>h (B6 e)),λns G U l o=>?_⟩
   have i:=di.newL (refs ns) ex.sub ex.full o;obtain⟨N,M,C⟩:=ST.perm_lift L (ns.map (·.2)) (by rw[<-g];exact G.map _)
   have O:au X.K B (N.map spT) (refs ns):=au.full ex.full (bG (λ_=>rfl) _) (pY ns N C λm x=>(D m (G.mem_iff.mp x)).2);exact k _ B _ (.ol (N.map spT)) (ex.trans i) ⟨l,refs ns,rfl,aJ ex.hh o,aJ ex.sub o,aY,O⟩
    (n N M (by
     have:=pairwise_map (f:=λm:Addr × List Int=>m.2) (R:=λa b=>ST.lexB a b=true) |>.mpr U
     rw[C]at this;exact pairwise_map.mp this))
  .exact q.elim⟩
end
theorem wO (e:WE)(g:a9)(R:S->Prop):sV e g R=e g (Pb R):=rfl
end DL
namespace Law
open L2 DL
set_option maxHeartbeats 4000000
def L7 (a b c d:Int)(v:Pt):Pt:=(a*v.1+b*v.2,c*v.1+d*v.2)
theorem FH (a b c d:Int)(v f:Pt):a5 (L7 a b c d v) f=a5 v (a*f.1+c*f.2,b*f.1+d*f.2):=by
 unfold a5 L7;grind
theorem px (a b c d:Int)(vs:List Pt)(f:Pt):ahead (vs.map (L7 a b c d)) f=ahead vs (a*f.1+c*f.2,b*f.1+d*f.2):=by
 unfold ahead;rw[List.countP_map];refine countP_congr λv _=>?_;show decide (0<=a5 (L7 a b c d v) f)=true↔_;rw[FH]
theorem tu (i:0<k)(vs:List Pt)(g:Pt):ahead vs (k*g.1,k*g.2)=ahead vs g:=by
 unfold ahead;refine countP_congr λv _=>?_;have e:a5 v (k*g.1,k*g.2)=k*a5 v g:=by unfold a5;grind
 rw[e,decide_eq_true_eq,decide_eq_true_eq];constructor
 .intro h
  by_cases z:0<=a5 v g
  .exact z
  .have:=mul_neg_of_pos_of_neg i (show a5 v g<0 by ext)
   ext
 .exact λh=>mul_nonneg ⋯ h
theorem JF (h:a*d-b*c≠0)(k:f≠(0,0)):((a*f.1+c*f.2,b*f.1+d*f.2):Pt)≠(0,0):=λz=>by
 have e:a*f.1+c*f.2=0:=congrArg Prod.fst z;have g:b*f.1+d*f.2=0:=congrArg Prod.snd z;have i:(a*d-b*c)*f.1=0:=by
  have:(a*d-b*c)*f.1=d*(a*f.1+c*f.2)-c*(b*f.1+d*f.2):=by grind
  rw[this,e,g];ext
 have j:(a*d-b*c)*f.2=0:=by
  have:(a*d-b*c)*f.2=a*(b*f.1+d*f.2)-b*(a*f.1+c*f.2):=by grind
  rw[this,e,g];ext
 apply k;refine Prod.ext ?_ ?_
 .rcases mul_eq_zero.mp i with q|q
  .exact absurd q h
  .exact q
 .rcases mul_eq_zero.mp j with q|q
  .exact absurd q h
  .exact q
theorem FI (h:a*d-b*c≠0)(vs:List Pt):l7 (vs.map (L7 a b c d))=l7 vs:=by
 refine vw ⟨?_,λf j=>?_⟩
 .obtain⟨g,k,e⟩:=(jx vs).1;have key:∀ s:Int,0<s*(a*d-b*c)->∃ f:Pt,f≠(0,0)/\ahead (vs.map (L7 a b c d)) f=l7 vs:=λs m=>by
   have i:((a*(s*(d*g.1-c*g.2))+c*(s*(a*g.2-b*g.1)),b*(s*(d*g.1-c*g.2))+d*(s*(a*g.2-b*g.1))):Pt)=((s*(a*d-b*c))*g.1,(s*(a*d-b*c))*g.2):=by
    apply Prod.ext
    .show a*(s*(d*g.1-c*g.2))+c*(s*(a*g.2-b*g.1))=(s*(a*d-b*c))*g.1;grind
    .show b*(s*(d*g.1-c*g.2))+d*(s*(a*g.2-b*g.1))=(s*(a*d-b*c))*g.2;grind
   refine⟨(s*(d*g.1-c*g.2),s*(a*g.2-b*g.1)),λz=>?_,?_⟩
   .have n:s*(d*g.1-c*g.2)=0:=congrArg Prod.fst z;have o:s*(a*g.2-b*g.1)=0:=congrArg Prod.snd z;rw[n,o]at i;have n:a*0+c*0=s*(a*d-b*c)*g.1:=congrArg Prod.fst i;have n:b*0+d*0=s*(a*d-b*c)*g.2:=congrArg Prod.snd i;apply k;refine Prod.ext ?_ ?_
    .rcases mul_eq_zero.mp (show s*(a*d-b*c)*g.1=0 by ext) with q | q
     .ext
     .exact q
    .rcases mul_eq_zero.mp (show s*(a*d-b*c)*g.2=0 by ext) with q | q
     .ext
     .exact q
   .rw[px];show ahead vs (a*(s*(d*g.1-c*g.2))+c*(s*(a*g.2-b*g.1)),b*(s*(d*g.1-c*g.2))+d*(s*(a*g.2-b*g.1)))=_;rw[i,tu m,e]
  by_cases p:0<a*d-b*c
  .exact key 1 ⋯
  .exact key (-1) ⋯
 .rw[px];exact(jx vs).2 _ (JF h j)
def Pr (u v:Hf):Prop:=∃ g e:Int,0<g/\0<e/\g*u.1=e*v.1/\g*u.2.1=e*v.2.1/\g*u.2.2=e*v.2.2
theorem Pr.symm (h:Pr u v):Pr v u:=by
 obtain⟨n,m,k,e,g,i,j⟩:=h;exact⟨m,n,e,k,g.symm,i.symm,j.symm⟩
theorem Pr.trans (h:Pr u v)(k:Pr v w):Pr u w:=by
 obtain⟨o,j,i,e,g,g,g⟩:=h;obtain⟨p,n,m,g,q,q,q⟩:=k;exact⟨p*o,j*n,mul_pos m i,mul_pos e g,by grind,by grind,by grind⟩
theorem Pr.ov (h:Pr u v)(l:Hf):∃ κ α:Int,0<κ/\0<α/\κ*aS l u=α*aS l v:=by
 obtain⟨κ,α,k,e,g,g,g⟩:=h;exact⟨κ,α,k,e,by unfold aS;grind⟩
theorem Pr.eq (j:bx p)(k:bx q)(h:Pr (af p) (af q)):p=q:=by
 obtain⟨e,e,m,e,e,g,i⟩:=h;exact G1 j k m e g i
theorem sgn_mul {κ α x y:Int}(k:0<κ)(g:0<α)(e:κ*x=α*y):0<=x↔0<=y:=by
 constructor
 .intro h
  obtain z|z:=lt_or_le y 0
  .have i:=mul_neg_of_pos_of_neg g z;have j:=mul_nonneg (le_of_lt k) h;ext
  .exact z
 .intro h
  obtain z|z:=lt_or_le x 0
  .have i:=mul_neg_of_pos_of_neg k z;have j:=mul_nonneg (le_of_lt g) h;ext
  .exact z
theorem Pr.dp {u v:Hf}(h:Pr u v)(ps:List Pt):l7 (ps.map (gj u))=l7 (ps.map (gj v)):=by
 obtain⟨i,i,k,i,j,j,j⟩:=h;have e:∀ f,ahead (ps.map (gj u)) f=ahead (ps.map (gj v)) f:=λf=>by
  rw[iH,iH];refine countP_congr λp _=>?_;rw[decide_eq_true_eq,decide_eq_true_eq];exact sgn_mul k i (by unfold a5 gj;grind)
 obtain⟨⟨f,j,i⟩,k⟩:=jx (ps.map (gj v));exact vw ⟨⟨f,j,by rw[e,i]⟩,λg z=>by rw[e];exact k g z⟩
theorem yN (R:jj L)(J:u∈L)(H:aS g (af u)=0)(y:∀ s∈L,s≠u->0<aS g (af s))(E:0<q.2.2)(I:bD (L.map af) q)(e:aS g q=0):Pr q (af u):=by
 have n:∀ s∈L,0<=aS g (af s):=λs h=>by
  by_cases e:s=u
  .rw[e,H];exact Int.le_refl _
  .exact le_of_lt (y s h e)
 obtain⟨a,b,c,m,B,C,F,h,i,j,D,k,G,c0,o,p,v⟩:=j1 R E I;have l:=mw (l:=g) o p v;rw[e,mul_zero]at l;have M:=mul_nonneg k (n a m);have k:=mul_nonneg G (n b B);have k:=mul_nonneg c0 (n c C);have t:∀ x∈L,∀ w:Int,w*aS g (af x)=0->w*(af x).1=w*(af u).1/\w*(af x).2.1=w*(af u).2.1/\w*(af x).2.2=w*(af u).2.2:=λx k w z=>by
  obtain z|z:=mul_eq_zero.mp z
  .rw[z];simp
  .by_cases e:x=u
   .rw[e];exact⟨rfl,rfl,rfl⟩
   .have:=y x k e;ext
 have k:=t a m h ⋯
 have tb:=t b B i ⋯
 have m:=t c C j ⋯
 have n:F*q.2.2=(h+i+j)*(af u).2.2:=by rw[v,k.2.2,tb.2.2,m.2.2];grind
 refine⟨F,h+i+j,D,?_,by rw[o,k.1,tb.1,m.1];grind,by rw[p,k.2.1,tb.2.1,m.2.1];grind,n⟩
 obtain z|z:=lt_or_le 0 (h+i+j)
 .exact z
 .have k:=mul_pos D E;have:h+i+j=0:=⋯
  rw[this,zero_mul]at n;ext
theorem NA {L h:List aT}(R:jj L)(j:jj h){f f':Hf->Hf}(z:∀ q:Hf,0<q.2.2->0<(f q).2.2)(z':∀ q:Hf,0<q.2.2->0<(f' q).2.2)(ff:∀ q,Pr (f (f' q)) q)(Y:∀ g':Hf,∃ g:Hf,∀ q,aS g q=aS g' (f q))
  (hold:∀ q:Hf,0<q.2.2->(bD (L.map af) q↔bD (h.map af) (f q))) (D:∀ p q:Hf,0<p.2.2->0<q.2.2->Pr p q->bD (h.map af) q->bD (h.map af) p):∀ u∈h,∃ s∈L,Pr (f (af s)) (af u):=λu m=>by
 have i:=b8 (j.ok u m);obtain⟨g',v,H⟩:=OO j m;obtain⟨g,C⟩:=Y g';have n:=z' _ i;have E:=ff (af u);have Z:bD (L.map af) (f' (af u)):=(hold _ n).mpr (D _ _ (z _ n) i E (pM j m (nU _)));have o:∀ s∈h,0<=aS g' (af s):=λs i=>by
  by_cases e:s=u
  .rw[e,v];exact Int.le_refl _
  .exact le_of_lt (H s i e)
 have k:∀ s∈L,bD (h.map af) (f (af s)):=λs i=>(hold _ (b8 (R.ok s i))).mp (pM R i (nU _));have B:∀ s∈L,0<=aS g (af s):=λs i=>by
  rw[C];exact(ii j (z _ (b8 (R.ok s i)))).mp (k s i) g' o
 have Q:aS g (f' (af u))=0:=by
  rw[C];obtain⟨F,o,O,i,e⟩:=E.ov g';rw[v,mul_zero]at e
  obtain q|q:=mul_eq_zero.mp e
  .ext
  .exact q
 obtain⟨a,b,c,I,J,M,F,o,E,F,O,i,P,c0,U,X,G⟩:=j1 R n Z;have l:=mw (l:=g) U X G;rw[Q,mul_zero]at l;have Q:=mul_nonneg i (B a I);have i:=mul_nonneg P (B b J);have i:=mul_nonneg c0 (B c M);have done:∀ x∈L,∀ w:Int,0<w->w*aS g (af x)=0->∃ s∈L,Pr (f (af s)) (af u):=λx i w B y=>by
  obtain y|y:=mul_eq_zero.mp y
  .ext
  .exact⟨x,i,yN j m v H (z _ (b8 (R.ok x i))) (k x i) (by rw[<-C];exact y)⟩
 obtain y|y:=lt_or_le 0 o
 .exact done a I o y ⋯
 .rcases lt_or_le 0 E with i|i
  .exact done b J E i ⋯
  .rcases lt_or_le 0 F with i|i
   .exact done c M F i ⋯
   .exfalso;rw[show o=0 by ext,show E=0 by ext,show F=0 by ext,zero_mul,zero_mul,zero_mul]at G
    have:=mul_pos O n;ext
set_option maxHeartbeats 4000000
structure Wy where
 (a b c d r u:Int)
def Wy.det (w:Wy):Int:=w.a*w.d-w.b*w.c
def uf (w:Wy)(p:Pt):Pt:=(w.a*p.1+w.b*p.2+w.r,w.c*p.1+w.d*p.2+w.u)
def fo (w:Wy)(q:Hf):Hf:=(w.a*q.1+w.b*q.2.1+w.r*q.2.2,w.c*q.1+w.d*q.2.1+w.u*q.2.2,q.2.2)
def ldI (w:Wy)(q:Hf):Hf:=(w.det*(w.d*(q.1-w.r*q.2.2)-w.b*(q.2.1-w.u*q.2.2)),w.det*(w.a*(q.2.1-w.u*q.2.2)-w.c*(q.1-w.r*q.2.2)),w.det*w.det*q.2.2)
def im (w:Wy)(s:aT):aT:=(fF (fo w (af s)).1 (af s).2.2,fF (fo w (af s)).2.1 (af s).2.2)
theorem ml {w:Wy}(h:w.det≠0):0<w.det*w.det:=Er h
theorem Cb (h:w.det≠0)(q:Hf):Pr (fo w (ldI w q)) q:=⟨1,w.det*w.det,⋯,ml h,by unfold fo ldI Wy.det;grind,by unfold fo ldI Wy.det;grind,by unfold fo ldI;grind⟩
theorem Iv (h:w.det≠0)(q:Hf):Pr (ldI w (fo w q)) q:=⟨1,w.det*w.det,⋯,ml h,by unfold fo ldI Wy.det;grind,by unfold fo ldI Wy.det;grind,by unfold fo ldI;grind⟩
theorem Nq (w:Wy)(h:Pr u v):Pr (fo w u) (fo w v):=by
 obtain⟨j,i,k,e,g,g,g⟩:=h;exact⟨j,i,k,e,by unfold fo;grind,by unfold fo;grind,g⟩
theorem Ki (w:Wy)(h:Pr u v):Pr (ldI w u) (ldI w v):=by
 obtain⟨i,g,k,e,j,j,j⟩:=h;exact⟨i,g,k,e,by unfold ldI;grind,by unfold ldI;grind,by unfold ldI;grind⟩
theorem Np (w:Wy)(g':Hf):∃ g:Hf,∀ q,aS g q=aS g' (fo w q):=⟨(w.a*g'.1+w.c*g'.2.1,w.b*g'.1+w.d*g'.2.1,g'.2.2-w.r*g'.1-w.u*g'.2.1),λq=>by unfold aS fo;grind⟩
theorem Kh (w:Wy)(g':Hf):∃ g:Hf,∀ q,aS g q=aS g' (ldI w q):=⟨(w.det*(w.d*g'.1-w.c*g'.2.1),w.det*(w.a*g'.2.1-w.b*g'.1),w.det*w.det*g'.2.2+w.det*(w.d*w.r-w.b*w.u)*g'.1+w.det*(w.a*w.u-w.c*w.r)*g'.2.1),λq=>by unfold aS ldI;grind⟩
theorem xu (h:w.det≠0)(ps:List Pt)(q:Hf):l7 ((ps.map (uf w)).map (gj (fo w q)))=l7 (ps.map (gj q)):=by
 rw[<-FI h (ps.map (gj q)),map_map,map_map];refine congrArg l7 (map_congr_left λp _=>Prod.ext ?_ ?_)
 .show(w.a*p.1+w.b*p.2+w.r)*q.2.2-(w.a*q.1+w.b*q.2.1+w.r*q.2.2)=w.a*(p.1*q.2.2-q.1)+w.b*(p.2*q.2.2-q.2.1);grind
 .show(w.c*p.1+w.d*p.2+w.u)*q.2.2-(w.c*q.1+w.d*q.2.1+w.u*q.2.2)=w.c*(p.1*q.2.2-q.1)+w.d*(p.2*q.2.2-q.2.1);grind
theorem vI (hs:bx s):bx (im w s):=⟨t3 (by have:=b8 hs;ext),t3 (by have:=b8 hs;ext)⟩
theorem nM (hs:bx s):Pr (af (im w s)) (fo w (af s)):=by
 have z:=b8 hs;obtain⟨g,m,i,e⟩:=mn (a:=(fo w (af s)).1) z;obtain⟨k,n,j,h⟩:=mn (a:=(fo w (af s)).2.1) z;refine⟨g*k,(af s).2.2,mul_pos m n,z,?_,?_,?_⟩
 .show g*k*((fF (fo w (af s)).1 (af s).2.2).1*(fF (fo w (af s)).2.1 (af s).2.2).2)=_;generalize fF (fo w (af s)).1 (af s).2.2=x at *;generalize fF (fo w (af s)).2.1 (af s).2.2=y at *;rw[i,show(af s).2.2*(g*x.1)=g*x.1*(k*y.2) by rw[<-h,mul_comm]]
  grind
 .show g*k*((fF (fo w (af s)).2.1 (af s).2.2).1*(fF (fo w (af s)).1 (af s).2.2).2)=_;generalize fF (fo w (af s)).1 (af s).2.2=x at *;generalize fF (fo w (af s)).2.1 (af s).2.2=y at *;rw[j,show(af s).2.2*(k*y.1)=k*y.1*(g*x.2) by rw[<-e,mul_comm]]
  grind
 .show g*k*((fF (fo w (af s)).1 (af s).2.2).2*(fF (fo w (af s)).2.1 (af s).2.2).2)=(af s).2.2*(af s).2.2;generalize fF (fo w (af s)).1 (af s).2.2=x at *;generalize fF (fo w (af s)).2.1 (af s).2.2=y at *;rw[show(af s).2.2*(af s).2.2=(g*x.2)*(k*y.2) by rw[<-e,<-h]]
  grind
theorem ug (h:w.det≠0)(K:vc ps k L)(g:vc (ps.map (uf w)) k n):∀ x,x∈L.map (im w)↔x∈n:=by
 have hold:∀ q:Hf,0<q.2.2->(bD (L.map af) q↔bD (n.map af) (fo w q)):=λq z=>by
  rw[K.hold q z,g.hold (fo w q) z,xu h]
 have o:∀ q:Hf,0<q.2.2->0<(ldI w q).2.2:=λq z=>mul_pos (ml h) z;have i:∀ p q:Hf,0<p.2.2->0<q.2.2->Pr p q->bD (n.map af) q->bD (n.map af) p:=λp q m z e j=>by
  rw[g.hold p m,e.dp,<-g.hold q z];exact j
 have y:∀ p q:Hf,0<p.2.2->0<q.2.2->Pr p q->bD (L.map af) q->bD (L.map af) p:=λp q m z e j=>by
  rw[K.hold p m,e.dp,<-K.hold q z];exact j
 refine λx=>⟨λv=>?_,λv=>?_⟩
 .obtain⟨s,m,rfl⟩:=mem_map.mp v;have os:=K.reg.ok s m;obtain⟨u,B,e⟩:=NA g.reg K.reg (f:=ldI w) (f':=fo w) o (λq z=>z) (Iv h) (Kh w) (λq z=>by
   rw[hold _ (o q z)];exact⟨λj=>i (fo w (ldI w q)) q (o q z) z (Cb h q) j,λj=>i q (fo w (ldI w q)) z (o q z) (Cb h q).symm j⟩) y s m
  rw[Pr.eq (vI os) (g.reg.ok u B) ((nM os).trans ((Nq w e.symm).trans (Cb h _)))];exact B
 .obtain⟨s,m,e⟩:=NA K.reg g.reg (f:=fo w) (f':=ldI w) (λq z=>z) o (Cb h) (Np w) hold i x v;exact mem_map.mpr ⟨s,m,Pr.eq (vI (K.reg.ok s m)) (g.reg.ok x v) ((nM (K.reg.ok s m)).trans e)⟩
theorem Kk (h:w.det≠0)(R:jj L)(nd:L.Nodup):(L.map (im w)).Nodup:=by
 rw[List.Nodup,pairwise_map];refine nd.imp_of_mem λ{a b} i j g e=>g ?_;have o:=R.ok a i;have g:=R.ok b j;have i:Pr (fo w (af a)) (fo w (af b)):=(nM o).symm.trans (by rw[e];exact nM g)
 exact Pr.eq o g ((Iv h _).symm.trans ((Ki w i).trans (Iv h _)))
set_option maxHeartbeats 4000000
structure zW (w:Wy):Prop where
 det:w.det≠0
 a:-3<=w.a/\w.a<=3
 b:-3<=w.b/\w.b<=3
 c:-3<=w.c/\w.c<=3
 d:-3<=w.d/\w.d<=3
 r:lJ w.r
 u:lJ w.u
def Oi (w:Wy):T:=.tup [.int w.a,.int w.b,.int w.c,.int w.d,.int w.r,.int w.u]
def jN:aN:=λe R=>∃ hd:List Int,e=[.t (.lst (hd.map .int))]/\6<=hd.length/\(∀ v∈hd,0<=v/\v<big)/\∀ w:Wy,zW w->R (.t (Oi w))
def kz:aN:=λe R=>∃ (w:Wy) (s:aT),e=[.t (Oi w),.t (spT s)]/\zW w/\bx s/\eH 700 s/\R (.t (spT (im w s)))
def i8:WS:=
 (aC (aG 1 (cL (dg (ao aK (ae 0) (wC (.int 0))) (wC (.int 7))) (wC (.int 3))))
 (aC (aG 2 (cL (dg (ao aK (ae 0) (wC (.int 1))) (wC (.int 7))) (wC (.int 3))))
 (aC (aG 3 (cL (dg (ao aK (ae 0) (wC (.int 2))) (wC (.int 7))) (wC (.int 3))))
 (aC (aG 4 (cL (dg (ao aK (ae 0) (wC (.int 3))) (wC (.int 7))) (wC (.int 3))))
 (bZ (hI (wB (qt (aV (ae 1) (ae 4)) (aV (ae 2) (ae 3)))) (uU (bX (ac (wC (.int 1)) (ac (ae 2) (ac (wC (.int 0)) (ac (ao aK (iF (ac (wC (.int 1)) (ac (uY ie (wC (.int 1))) ap))) (dg (ao aK (ae 0) (wC (.int 3))) (wC (.int 2)))) ap))))) (jt (bA (aH 1) (bA (aH 2) (bA (aH 3) (bA (aH 4) hV)))))) bz)
 (aC (aG 5 (ao aK (iF (ac (wC (.int 9)) (ac (uT (wC (.int 10)) (wC (.int 18))) ap))) (dg (dJ (ao aK (ae 0) (wC (.int 0))) (wC (.int 7))) (wC (.int 2)))))
 (bw (bX (ac (ae 1) (ac (ae 2) (ac (ae 3) (ac (ae 4) (ac (cL (dg (ao aK (ae 0) (wC (.int 4))) (cz (aV (wC (.int 2)) (ae 5)) (wC (.int 1)))) (ae 5)) (ac (cL (dg (ao aK (ae 0) (wC (.int 5))) (cz (aV (wC (.int 2)) (ae 5)) (wC (.int 1)))) (ae 5)) ap))))))))))))))
def mK:WS:=
 (aC (uU (ae 0) (jt (bA (aH 2) (bA (aH 3) (bA (aH 4) (bA (aH 5) (bA (aH 6) (bA (aH 7) hV))))))))
 (aC (uU (ae 1) (jt (bA (aH 8) (bA (aH 9) hV))))
 (aC (aG 10 (aV (ao aK (ae 8) (wC (.int 1))) (ao aK (ae 9) (wC (.int 1)))))
 (aC (aG 11 (cz (cz (aV (aV (ae 2) (ao aK (ae 8) (wC (.int 0)))) (ao aK (ae 9) (wC (.int 1)))) (aV (aV (ae 3) (ao aK (ae 9) (wC (.int 0)))) (ao aK (ae 8) (wC (.int 1))))) (aV (ae 6) (ae 10))))
 (aC (aG 12 (cz (cz (aV (aV (ae 4) (ao aK (ae 8) (wC (.int 0)))) (ao aK (ae 9) (wC (.int 1)))) (aV (aV (ae 5) (ao aK (ae 9) (wC (.int 0)))) (ao aK (ae 8) (wC (.int 1))))) (aV (ae 7) (ae 10))))
 (bw (bX (ac (aw bC (ac (ae 11) (ac (ae 10) ap))) (ac (aw bC (ac (ae 12) (ac (ae 10) ap))) ap)))))))))
theorem DI:∀ e R,kz e R->mK {nx:=λ_=>R (.t .non),rt:=R} (aE ["_law_way","_law_spot_here","_law_p","_law_q","_law_r","_law_s","_law_right","_law_up","_law_x","_law_y","_law_bottom","_law_one","_law_other"] e):=by
 rintro e R ⟨⟨a,b,c,d,r,u⟩,⟨⟨x,p⟩,y,q⟩,rfl,W,ok,⟨⟨z,o⟩,v,B⟩,h⟩;obtain⟨_,i,j,k,n,e,g⟩:=W;dsimp only at i j k n e g z o v B;have z:=b8 ok;show mK _ [some (.t (.tup [.int a,.int b,.int c,.int d,.int r,.int u])),some (.t (.tup [.tup [.int x,.int p],.tup [.int y,.int q]])),none,none,none,none,none,none,none,none,none,none,none];have sa:Sz 100 a:=Sz.mono (Sz.of (m:=10) ⋯ ⋯) ⋯
 have sb:Sz 100 b:=Sz.mono (Sz.of (m:=10) ⋯ ⋯) ⋯
 have i:Sz 100 c:=Sz.mono (Sz.of (m:=10) ⋯ ⋯) ⋯
 have i:Sz 100 d:=Sz.mono (Sz.of (m:=10) ⋯ ⋯) ⋯
 have i:Sz 100 r:=(k7 e).mono ⋯
 have e:Sz 100 u:=(k7 g).mono ⋯
 have e:a*x*q+b*y*p+r*(p*q)=(fo ⟨a,b,c,d,r,u⟩ (af ((x,p),(y,q)))).1:=by unfold fo af;grind
 have g:c*x*q+d*y*p+u*(p*q)=(fo ⟨a,b,c,d,r,u⟩ (af ((x,p),(y,q)))).2.1:=by unfold fo af;grind
 delta mK
 walk_at"go";refine⟨_,_,rfl,z,by walk_at"szk",by walk_at"szk",?_⟩
 refine⟨_,_,rfl,z,by walk_at"szk",by walk_at"szk",?_⟩
 rw[e,g];show tupK _ [norm (pK _),norm (pK _)];rw[eM (x:=pK _) rfl,eM (x:=pK _) rfl];exact h
theorem vY:∀ o R,jN o R->i8 {nx:=λ_=>R (.t .non),rt:=R} (aE ["_law_head","_law_p","_law_q","_law_r","_law_s","_law_far"] o):=by
 rintro o R ⟨hd,rfl,hdl,hdb,h⟩;have y:Sz 1 0:=⟨⋯⟩
 show i8 _ [some (.t (.lst (hd.map .int))),none,none,none,none,none]
 delta i8
 symm;refine ig (i:=0) ⋯ hdb λv _ _=>?_
 have m:=fmod_lo v (n:=7) ⋯
 have c0:=fmod_hi v (n:=7) ⋯
 walk_at"go";refine ig (i:=1) ⋯ hdb λg _ _=>?_
 have o:=fmod_lo g (n:=7) ⋯
 have x:=fmod_hi g (n:=7) ⋯
 walk_at"go";refine ig (i:=2) ⋯ hdb λj _ _=>?_
 have p:=fmod_lo j (n:=7) ⋯
 have y:=fmod_hi j (n:=7) ⋯
 walk_at"go";refine ig (i:=3) ⋯ hdb λk _ _=>?_
 have q:=fmod_lo k (n:=7) ⋯
 have z:=fmod_hi k (n:=7) ⋯
 walk_at"go";have B:-3<=v.fmod 7-3/\v.fmod 7-3<=3:=⋯
 have C:-3<=g.fmod 7-3/\g.fmod 7-3<=3:=⋯
 have rc:-3<=j.fmod 7-3/\j.fmod 7-3<=3:=⋯
 have D:-3<=k.fmod 7-3/\k.fmod 7-3<=3:=⋯
 clear m o p q c0 x y z;generalize v.fmod 7-3=a at *;generalize g.fmod 7-3=b at *;generalize j.fmod 7-3=c at *;generalize k.fmod 7-3=d at *;refine⟨λj=>∃ a b c d:Int,a*d-b*c≠0/\(-3<=a/\a<=3)/\(-3<=b/\b<=3)/\(-3<=c/\c<=3)/\(-3<=d/\d<=3)/\j=[some (.t (.lst (hd.map .int))),some (.t (.int a)),some (.t (.int b)),some (.t (.int c)),some (.t (.int d)),none],?_,?_⟩
 .walk_at"go"
  split
  .refine ig (i:=3) ⋯ hdb λg _ _=>?_
   have o:=fmod_lo g (n:=2) ⋯
   have x:=fmod_hi g (n:=2) ⋯
   walk_at"go"
   obtain e | e:=(show g.fmod 2=0\/g.fmod 2=1 by ext)
   all_goals(
    rw[e];symm;exact⟨_,_,_,_,⋯,⋯,⋯,⋯,⋯,rfl⟩)
  .exact⟨_,_,_,_,⋯,B,C,rc,D,rfl⟩
 .rintro j ⟨a,b,c,d,m,p,q,v,k,rfl⟩;walk_at"go";refine ig (i:=0) ⋯ hdb λj _ _=>?_
  have o:=fmod_lo (j.fdiv 7) (n:=2) ⋯
  have x:=fmod_hi (j.fdiv 7) (n:=2) ⋯
  walk_at"go";obtain⟨g,o,o,o⟩:∃ g:Int,9<=g/\g<=1000000000000000000/\∀ R:S->Prop,atT [T.int 9,T.int 1000000000000000000] ((j.fdiv 7).fmod 2) R=R (.t (.int g)):=by
   obtain e | e:=(show(j.fdiv 7).fmod 2=0\/(j.fdiv 7).fmod 2=1 by ext)
   .exact⟨9,⋯,⋯,λR=>by rw[e];rfl⟩
   .exact⟨1000000000000000000,⋯,⋯,λR=>by rw[e];rfl⟩
  rw[o];walk_at"go";refine ig (i:=4) ⋯ hdb λj _ _=>?_
  walk_at"go";refine ig (i:=5) ⋯ hdb λo _ _=>?_
  walk_at"go";have x:=fmod_lo j (n:=2*g+1) ⋯
  have x:=fmod_hi j (n:=2*g+1) ⋯
  have j:=fmod_lo o (n:=2*g+1) ⋯
  have j:=fmod_hi o (n:=2*g+1) ⋯
  exact h ⟨a,b,c,d,_,_⟩ ⟨m,p,q,v,k,by unfold lJ;dsimp only;ext,by unfold lJ;dsimp only;ext⟩
set_option maxHeartbeats 4000000
def Gc:WS:=
 (bw (qt (ao aK (aw fc (ac (ae 2) ap)) (wC (.int 0))) (ao aK (aw fc (ac (ae 10) ap)) (wC (.int 0)))))
def Gb:WS:=
 (aC (hI (wB (Mb (sV (ae 13)) (sV (aw iV (ac (ae 10) (ac (ae 12) ap)))))) (bw (wC (.bl false))) bz) Gc)
def Ga:WS:=
 (aC (aG 12 (cz (wC (.int 1)) (dg (ao aK (ae 1) (wC (.int 16))) (eh cZ (ac (ae 2) ap)))))
 (aC (aG 13 (dI 1 [3] (cj (aw iV (ac (ae 2) (ac (ae 12) ap)))) (aH 0) lG (aw kz (ac (ae 1) (ac (ae 0) ap))))) Gb))
def F9:WS:=
 (aC (aG 10 (dI 2 [4,5,8,6,7,9] (cj (ae 2)) (jt (bA (aH 0) (bA (aH 1) hV))) lG (bX (ac (cz (cz (aV (ae 2) (ae 0)) (aV (ae 3) (ae 1))) (ae 4)) (ac (cz (cz (aV (ae 5) (ae 0)) (aV (ae 6) (ae 1))) (ae 7)) ap)))))
 (aC (aG 11 (aw lB (ac (ae 2) (ac (ao aK (ae 1) (wC (.int 15))) ap))))
 (aC (hI (wB (Mb (ao aK (aw fe (ac (ae 2) (ac (ae 11) ap))) (wC (.int 0))) (ao aK (aw fe (ac (ae 10) (ac (aw kz (ac (ae 3) (ac (ae 11) ap))) ap))) (wC (.int 0))))) (bw (wC (.bl false))) bz) Ga)))
def x9:WS:=
 (aC (aG 1 (aw gR (ac (ae 0) (ac (wC (.int 19)) ap))))
 (aC (aG 2 (aw iD (ac (ae 1) (ac (cz (wC (.int 1)) (dg (ao aK (ae 1) (wC (.int 2))) (wC (.int 5)))) ap))))
 (aC (aG 3 (aw jN (ac (g0 (ae 1) (kF (wC (.int 9))) gZ) ap)))
 (aC (uU (ae 3) (jt (bA (aH 4) (bA (aH 5) (bA (aH 6) (bA (aH 7) (bA (aH 8) (bA (aH 9) hV))))))))
 F9))))
theorem AE (e:l≠[])(i:l.length<=7)(hz:∀ p∈l,SzF 100 p)(ok:bx s)(sz:eH 600 s)(h:R (.t (.int (l7 (l.map (gj (af s))))))):fe [.t (.lst (l.map aW)),.t (spT s)] λx=>aK (got x) (.t (.int 0)) R:=
 ⟨l,s,rfl,e,⋯,λp g=>(hz p g).mono3 ⋯,sz,by have:=ok.1.1;ext,by have:=ok.2.1;ext,λf _ _ _=>by
  show aK (norm _) _ R;rw[eM (x:=.tup [.int (l7 (eC s l)),bd (Ot f s)]) rfl];exact h⟩
theorem xb (e:l≠[])(g:l.length<=6)(hz:∀ p∈l,SzF 100 p)(h:∀ k s,zP l k s->R (.t (.int (k:Nat)))):fc [.t (.lst (l.map aW))] λx=>aK (got x) (.t (.int 0)) R:=
 ⟨l,rfl,e,⋯,hz,λk s x y d=>by
  show aK (norm _) _ R;rw[show norm (.tup [.int (k:Int),spT s,.lst x,.lst y])=.vt (.tup [.int (k:Int),spT s,.lst x,.lst y]) from rfl];exact h k s d⟩
theorem ON (l:List α)(k:Nat):fW (l.map f) (some (k:Int)) none=(l.drop k).map f:=by
 unfold fW;rw[HT.sIx_nat,HT.sIx_none,length_map,<-map_drop,take_of_length_le (by rw[length_map,length_drop];ext)]
 obtain h|h:=Nat.le_total k l.length
 .rw[min_eq_left h]
 .rw[Nat.min_eq_right h,List.drop_eq_nil_of_le (le_refl _),List.drop_eq_nil_of_le h]
theorem Kl (W:zW w)(h:eH 119 s):eH 600 (im w s):=by
 have sa:Sz 100 w.a:=Sz.mono (Sz.of (m:=10) (by have:=W.a;ext) (by have:=W.a;ext)) ⋯
 have sb:Sz 100 w.b:=Sz.mono (Sz.of (m:=10) (by have:=W.b;ext) (by have:=W.b;ext)) ⋯
 have e:Sz 100 w.c:=Sz.mono (Sz.of (m:=10) (by have:=W.c;ext) (by have:=W.c;ext)) ⋯
 have g:Sz 100 w.d:=Sz.mono (Sz.of (m:=10) (by have:=W.d;ext) (by have:=W.d;ext)) ⋯
 have i:Sz 100 w.r:=(k7 W.r).mono ⋯
 have j:Sz 100 w.u:=(k7 W.u).mono ⋯
 have z:=Lz h;exact⟨⟨((Sz.add (Sz.add (Sz.mul sa z.1) (Sz.mul sb z.2.1)) (Sz.mul i z.2.2)).mono ⋯).fdiv _,(z.2.2.mono ⋯).fdiv _⟩,((Sz.add (Sz.add (Sz.mul e z.1) (Sz.mul g z.2.1)) (Sz.mul j z.2.2)).mono ⋯).fdiv _,(z.2.2.mono ⋯).fdiv _⟩
theorem Kj (W:zW w)(h:lJ p.1/\lJ p.2):SzF 100 (uf w p):=by
 have e:=W.r;have g:=W.u;unfold lJ at h e g;have x:∀ m:Int,-3<=m/\m<=3->∀ x:Int,-1000000000000000000<=x/\x<=1000000000000000000->-3000000000000000000<=m*x/\m*x<=3000000000000000000:=λm e x e=>by
  rcases(show m=-3\/m=-2\/m=-1\/m=0\/m=1\/m=2\/m=3 by ext) with rfl | rfl | rfl | rfl | rfl | rfl | rfl <;> ext
 have a:=x _ W.a _ h.1;have b:=x _ W.b _ h.2;have c:=x _ W.c _ h.1;have d:=x _ W.d _ h.2;exact⟨(Sz.of (m:=70) (by show _<w.a*p.1+w.b*p.2+w.r;ext) (by show w.a*p.1+w.b*p.2+w.r<_;ext)).mono ⋯,(Sz.of (m:=70) (by show _<w.c*p.1+w.d*p.2+w.u;ext) (by show w.c*p.1+w.d*p.2+w.u<_;ext)).mono ⋯⟩
structure EL (ps:List Pt) (hd:List Int) (w:Wy):Prop where
 ne:ps≠[]
 l5:ps.length<=5
 hz:∀ p∈ps,SzF 100 p
 W:zW w
 one:ps.map (uf w)≠[]
 lo:(ps.map (uf w)).length<=5
 zo:∀ p∈ps.map (uf w),SzF 100 p
 hdl:hd.length=19
 hdb:∀ v∈hd,0<=v/\v<big
theorem Nn {ns:List Int}{ps:List Pt}{hd:List Int}{w:Wy}{R:S->Prop}{i j k:Option S}(V:EL ps hd w)(h:R (.t (.bl true))) :
  Gc {nx:=λ_=>R (.t .non),rt:=R} [some (.t (.lst (ns.map .int))),some (.ol (hd.map .int)),some (.ol (ps.map aW)),some (.t (.tup [.int w.a,.int w.b,.int w.c,.int w.d,.int w.r,.int w.u])),some (.t (.int w.a)),some (.t (.int w.b)),some (.t (.int w.c)),some (.t (.int w.d)),some (.t (.int w.r)),some (.t (.int w.u)),some (.ol ((ps.map (uf w)).map aW)),i,j,k]:=by
 unfold Gc;symm;refine xb V.ne (by have:=V.l5;ext) V.hz λa s e=>?_
 refine xb V.one (by have:=V.lo;ext) V.zo λb u g=>?_
 symm;have m:=g.top (fo w (af s)) (b8 e.ok);rw[xu V.W.det,e.dep]at m;have m:=e.top (ldI w (af u)) (mul_pos (ml V.W.det) (b8 g.ok));rw[<-xu V.W.det,(Cb V.W.det (af u)).dp,g.dep]at m;rw[decide_eq_true (show(a:Int)=b by ext)]
 exact h
theorem p9 (R:jj L):L.Nodup:=by
 cases L with
 |nil=>exact nodup_nil
 |cons a l=>
  refine nodup_cons.mpr ⟨λh=>?_,?_⟩
  .obtain⟨k,g,e⟩:=getElem_of_mem h;have:=R.reg.fst (k+1) (by simp;ext) ⋯
   simp[eD,e]at this;exact Bf.irr _ this
  .rw[List.Nodup,pairwise_iff_getElem];intro i j hi h h e;have:=fj R.reg 0 (i+1) (j+1) ⋯ ⋯ (by simp;ext)
   simp[e,dD]at this
theorem Nm {ns:List Int}{ps:List Pt}{hd:List Int}{w:Wy}{R:S->Prop}{j:Option S}{k:Nat}{L:List aT}(V:EL ps hd w)(i:1<=k)(K:vc ps k L)(h:R (.t (.bl true))) :
  Gb {nx:=λ_=>R (.t .non),rt:=R} [some (.t (.lst (ns.map .int))),some (.ol (hd.map .int)),some (.ol (ps.map aW)),some (.t (.tup [.int w.a,.int w.b,.int w.c,.int w.d,.int w.r,.int w.u])),some (.t (.int w.a)),some (.t (.int w.b)),some (.t (.int w.c)),some (.t (.int w.d)),some (.t (.int w.r)),some (.t (.int w.u)),some (.ol ((ps.map (uf w)).map aW)),j,some (.t (.int (k:Int))),some (.ol ((L.map (im w)).map spT))]:=by
 have n:∀ l:List aT,got (.ol (l.map spT))=.ol (l.map spT):=λl=>eE _ (bG (λ_=>rfl) l);have len:∀ {ps:List Pt}{L:List aT},vc ps k L->L.length<=63:=λ{ps L} K=>by
  obtain z|z:=lt_or_ge L.length 3
  .ext
  .have:=K.few z;ext
 unfold Gb;generalize o:Gc=D;symm;rw[wO];symm;refine⟨L.map (im w),rfl,by rw[length_map];exact len K,Kk V.W.det K.reg (p9 K.reg),λN v y=>?_⟩
 dsimp only;rw[wO];symm;refine⟨ps.map (uf w),k,rfl,V.one,by have:=V.lo;ext,V.zo,i,λm g=>?_⟩
 dsimp only;rw[n];refine⟨m,rfl,len g,p9 g.reg,λn p q=>?_⟩;symm;have e:N=n:=qh (λa b m n=>by
  have:=ST.lex_trans _ _ _ m n;rw[ST.lex_irr]at this;exact nomatch this) y q λx=>by rw[v.mem_iff,p.mem_iff];exact ug V.W.det K g x
 rw[if_neg (by simp[e]),<-o]
 exact Nn V h
theorem Nl {ns:List Int}{ps:List Pt}{hd:List Int}{w:Wy}{R:S->Prop}{g:Option S}(V:EL ps hd w)(h:R (.t (.bl true))) :
  Ga {nx:=λ_=>R (.t .non),rt:=R} [some (.t (.lst (ns.map .int))),some (.ol (hd.map .int)),some (.ol (ps.map aW)),some (.t (.tup [.int w.a,.int w.b,.int w.c,.int w.d,.int w.r,.int w.u])),some (.t (.int w.a)),some (.t (.int w.b)),some (.t (.int w.c)),some (.t (.int w.d)),some (.t (.int w.r)),some (.t (.int w.u)),some (.ol ((ps.map (uf w)).map aW)),g,none,none]:=by
 have y:Sz 1 0:=⟨⋯⟩
 have e:0<ps.length:=length_pos_iff.mpr V.ne;have j:∀ l:List aT,got (.ol (l.map spT))=.ol (l.map spT):=λl=>eE _ (bG (λ_=>rfl) l);unfold Ga;generalize o:Gb=C;symm;refine vE (i:=16) (by have:=V.hdl;ext) V.hdb λv _ _=>?_
 walk_at"go";rw[length_map];have e:=fmod_lo v (n:=(ps.length:Int)) ⋯
 obtain⟨k,e⟩:∃ k:Nat,1+v.fmod (ps.length:Int)=k:=⟨(1+v.fmod (ps.length:Int)).toNat,⋯⟩
 rw[e];refine⟨⋯,ps,k,rfl,V.ne,by have:=V.l5;ext,V.hz,⋯,λL e=>?_⟩
 dsimp only;rw[j];symm;have len:=e.len;refine eu (f:=spT) (h:=λs=>spT (im w s)) (l:=L) (λm=>∃ j,m=[j,some (.t (.tup [.int w.a,.int w.b,.int w.c,.int w.d,.int w.r,.int w.u]))]) (λ_ _=>rfl) ⋯ ⟨_,rfl⟩ ?_ ?_
 .rintro s p m ⟨j,rfl⟩ Y m;have j:=D6 e.reg s p;symm;refine⟨w,s,rfl,V.W,j.1,j.2,?_⟩;dsimp only;rw[show got (.t (spT (im w s)))=.t (spT (im w s)) from eM rfl];exact m _ ⟨_,rfl⟩
 .rw[show(L.map λs=>spT (im w s))=(L.map (im w)).map spT by rw[map_map];rfl]
  symm;rw[<-o];exact Nm V ⋯ e h
theorem Nk {ns:List Int}{ps:List Pt}{hd:List Int}{w:Wy}{R:S->Prop}(V:EL ps hd w)(o:∀ p∈ps,lJ p.1/\lJ p.2)(h:R (.t (.bl true))) :
  F9 {nx:=λ_=>R (.t .non),rt:=R} [some (.t (.lst (ns.map .int))),some (.ol (hd.map .int)),some (.ol (ps.map aW)),some (.t (.tup [.int w.a,.int w.b,.int w.c,.int w.d,.int w.r,.int w.u])),some (.t (.int w.a)),some (.t (.int w.b)),some (.t (.int w.c)),some (.t (.int w.d)),some (.t (.int w.r)),some (.t (.int w.u)),none,none,none,none]:=by
 have e:Sz 1 0:=⟨⋯⟩
 unfold F9;generalize k:Ga=B;symm;refine eu (f:=aW) (h:=λp=>aW (uf w p)) (l:=ps) (λj=>∃ e g,j=[e,g,some (.t (.int w.a)),some (.t (.int w.b)),some (.t (.int w.r)),some (.t (.int w.c)),some (.t (.int w.d)),some (.t (.int w.u))]) (λ_ _=>rfl) (by have:=V.l5;ext) ⟨_,_,rfl⟩ ?_ ?_
 .rintro⟨x,y⟩ n j ⟨e,g,rfl⟩ Y e;obtain⟨z,g⟩:=V.hz _ n;dsimp only at z g;have ⟨ha,hb,hc,hd⟩:=And.intro V.W.a (And.intro V.W.b (And.intro V.W.c V.W.d));have sa:Sz 10 w.a:=Sz.of (m:=10) ⋯ ⋯
  have sb:Sz 10 w.b:=Sz.of (m:=10) ⋯ ⋯
  have g:Sz 10 w.c:=Sz.of (m:=10) ⋯ ⋯
  have g:Sz 10 w.d:=Sz.of (m:=10) ⋯ ⋯
  walk_at"go";exact e _ ⟨_,_,rfl⟩
 .rw[show(ps.map λp=>aW (uf w p))=(ps.map (uf w)).map aW by rw[map_map];rfl]
  symm;refine vE (i:=15) (by have:=V.hdl;ext) V.hdb λv _ _=>?_
  symm;refine⟨ps,_,rfl,V.ne,by have:=V.l5;ext,V.hz,λs ok z=>?_⟩
  symm;refine AE (s:=s) V.ne (by have:=V.l5;ext) V.hz ok (df z ⋯) ?_
  symm;refine⟨w,s,rfl,V.W,ok,df z ⋯,?_⟩
  dsimp only;rw[show got (.t (spT (im w s)))=.t (spT (im w s)) from eM rfl];show fe [.t (.lst ((ps.map (uf w)).map aW)),.t (spT (im w s))] _;refine AE (s:=im w s) V.one (by have:=V.lo;ext) V.zo (vI ok) (Kl V.W z) ?_
  rw[(nM ok).dp,xu V.W.det];symm;rw[if_neg (by simp),<-k]
  exact Nl V h
theorem KG:∀ z R,xV z R->x9 {nx:=λ_=>R (.t .non),rt:=R} (aE ["_law_script","_law_head","_law_points_here","_law_way","_law_p","_law_q","_law_r","_law_s","_law_right","_law_up","_law_others","_law_spot_here","_law_k","_law_corners"] z):=by
 rintro z R ⟨ns,rfl,j,h⟩;have y:Sz 1 0:=⟨⋯⟩
 show x9 _ [some (.t (.lst (ns.map .int))),none,none,none,none,none,none,none,none,none,none,none,none,none]
 delta x9
 generalize z:F9=A;symm;refine⟨ns,19,rfl,j,⋯,⋯,λhd hdl hdb=>?_⟩
 symm;refine vE (i:=2) ⋯ hdb λj _ _=>?_
 have k:=fmod_lo j (n:=5) ⋯
 have k:=fmod_hi j (n:=5) ⋯
 walk_at"go";refine⟨hd,_,rfl,⋯,hdb,⋯,⋯,λj k o=>?_⟩
 have g:∀ l:List Pt,got (.ol (l.map aW))=.ol (l.map aW):=λl=>eE _ (xP l);dsimp only;rw[g];symm;have m:j≠[]:=λe=>by rw[e]at k;simp at k;ext
 have k:j.length<=5:=⋯
 have hz:∀ p∈j,SzF 100 p:=λp x=>⟨(k7 (o p x).1).mono ⋯,(k7 (o p x).2).mono ⋯⟩
 rw[show fW (hd.map T.int) (some 9) none=(hd.drop 9).map T.int from ON hd 9];refine⟨hd.drop 9,rfl,by rw[length_drop];ext,λv y=>hdb v (List.mem_of_mem_drop y),λw W=>?_⟩
 have y:∀ p∈j.map (uf w),SzF 100 p:=λp x=>by
  obtain⟨q,B,rfl⟩:=mem_map.mp x;exact Kj W (o q B)
 have one:j.map (uf w)≠[]:=λe=>m (List.map_eq_nil_iff.mp e);have lo:(j.map (uf w)).length<=5:=by rw[length_map];exact k
 dsimp only;rw[show got (.t (Oi w))=.t (Oi w) from eM rfl];unfold Oi;symm;rw[<-z];exact Nk ⟨m,k,hz,W,one,lo,y,hdl,hdb⟩ o h
end Law
namespace PySem.W.Fast
def tw10082960562424713970:=0
def tw10161585105595430118:=0
def tw10207057545940239681:=0
def tw10373372646937595312:=0
def tw10423314139565267899:=0
def tw10473153920095974898:=0
def tw10476161412495363787:=0
def tw10543444720143582647:=0
def tw10592235974290476650:=0
def tw10646984519167776669:=0
def tw106747331168058247:=0
def tw10906468217119342238:=0
def tw1095807168106900798:=0
def tw11066691950969010409:=0
def tw11218022028226306063:=0
def tw11408426198423571212:=0
def tw11594212788099134930:=0
def tw11626968777693730888:=0
def tw11643994747376836173:=0
def tw11880886941770317303:=0
def tw11964425605373452907:=0
def tw1206564545931744311:=0
def tw12313870247958080288:=0
def tw12464286043180820646:=0
def tw12550189258311754765:=0
def tw12603807530510236501:=0
def tw12824290918730310330:=0
def tw13057975472249941601:=0
def tw13111422593768240363:=0
def tw13398816406928883112:=0
def tw13436075589636136396:=0
def tw13680581762992764285:=0
def tw13719736949733945902:=0
def tw13759018354700429273:=0
def tw14523604542524913579:=0
def tw14684946168180252543:=0
def tw14781888287144195627:=0
def tw15772683446659091679:=0
def tw16249397314454112072:=0
def tw16474706064890786104:=0
def tw16487856444407879294:=0
def tw16604070341135366347:=0
def tw16649676419367451582:=0
def tw16704630159211187964:=0
def tw16845800388342597808:=0
def tw16870923238538147027:=0
def tw17006634180255460999:=0
def tw17073955630074332377:=0
def tw17151973482471581055:=0
def tw17356011155160415691:=0
def tw17428369357599703607:=0
def tw17553664473903459865:=0
def tw17705894822847046313:=0
def tw17881993759958783854:=0
def tw17991127394359756012:=0
def tw18071214701840382359:=0
def tw18104118216929555858:=0
def tw18146758582956086213:=0
def tw1824034350763334147:=0
def tw18320739981378103176:=0
def tw1880936615551933461:=0
def tw1992269742362710489:=0
def tw2165547874196772177:=0
def tw2205945613713735682:=0
def tw2315775904132441518:=0
def tw2334442554903141285:=0
def tw2378674367191676745:=0
def tw2528344804976543782:=0
def tw2854526016146195401:=0
def tw2958005724585531068:=0
def tw3050570639788222551:=0
def tw3092934538296640849:=0
def tw3344271742811105743:=0
def tw347261558044323793:=0
def tw3769489828781544404:=0
def tw3811935370637839716:=0
def tw4347562251578642079:=0
def tw4622816044937938844:=0
def tw4680005513683034154:=0
def tw4734298174855250208:=0
def tw4886163121451686416:=0
def tw5015316058158434845:=0
def tw502427062775263790:=0
def tw5053322944205276334:=0
def tw5205555193956991211:=0
def tw5448868941256665317:=0
def tw5877170695335818187:=0
def tw58856912325624405:=0
def tw6182288614943675184:=0
def tw6208110385335870859:=0
def tw6315634223117561606:=0
def tw6383718448660610334:=0
def tw6396271278217649826:=0
def tw6522782404779505077:=0
def tw6597342162685381440:=0
def tw6850901851667418673:=0
def tw7047771227739120878:=0
def tw7214479435929858480:=0
def tw7372954615962135031:=0
def tw759504602209923511:=0
def tw7634164690449096335:=0
def tw7655829914671528470:=0
def tw798665431640860809:=0
def tw8047961083515850421:=0
def tw834011952327709319:=0
def tw8411770867161499440:=0
def tw8472022054905955487:=0
def tw8637433884667010715:=0
def tw8668189724175576211:=0
def tw8828913416024079325:=0
def tw8899840555807515732:=0
def tw8911372049579969178:=0
def tw9260701564623499327:=0
def tw9433119257432968691:=0
def tw9635072193745093578:=0
def tw9656403817405180643:=0
def tw9664321814853838508:=0
def tw9717952734554887210:=0
def tw9722773684093054443:=0
def tw9824215676647141287:=0
end PySem.W.Fast
namespace Law
open PySem PyProof.Rows L2 DL
set_option maxHeartbeats 4000000
def top (i:Nat):Stmt:=PySem.Challenge.pw_deepspot_k61_whole_points_led.main.body.getD i (.Pass ⟨0,0,0,0⟩)
local macro_rules | `(tactic| walk_at"fs")=>`(tactic| exact⟨rfl,rfl,rfl,by decide +kernel,rfl,by decide +kernel,by decide +kernel⟩)
local macro_rules | `(tactic| walk_at"ln")=>`(tactic| (intro ss R h;repeat (first | (obtain⟨h,_⟩:=h;subst h;rfl) | (cases h with | inl h=>(repeat (first | (obtain⟨h,_⟩:=h;subst h;rfl) | (obtain⟨_,h⟩:=h))) | inr h=>(repeat (first | (obtain⟨h,_⟩:=h;subst h;rfl) | (obtain⟨_,h⟩:=h)))) | (obtain⟨_,h⟩:=h))))
theorem PR {α:Type}{P:List α->Prop}(h:∀ a,P [a]):∀ u,u.length=1->P u
 | [a],_=>h a
theorem PU {α:Type}{P:List α->Prop}(h:∀ a b,P [a,b]):∀ u,u.length=2->P u
 | [a,b],_=>h a b
theorem PV {α:Type}{P:List α->Prop}(h:∀ a b c,P [a,b,c]):∀ u,u.length=3->P u
 | [a,b,c],_=>h a b c
theorem PX {α:Type}{P:List α->Prop}(h:∀ a b c d,P [a,b,c,d]):∀ u,u.length=4->P u
 | [a,b,c,d],_=>h a b c d
local macro_rules | `(tactic| walk_at"bn")=>`(tactic| exact fun _ _ _ _ _ _=>by first | exact PR fun _=>rfl | exact PU fun _ _=>rfl | exact PV fun _ _ _=>rfl | exact PX fun _ _ _ _=>rfl)
section
variable {X:Cx}{e:Expr}{es:List Expr}{wa:WA}{pos:Pos}
theorem ai {k k':Nat}{x:Str}{sp:aN}{p:Pos} (C:Callee X.prog X.w X.K X.mg X.base k x sp) (hr:b9 k' X.A) (ha:PA X (e::es) (dE X.K wa)) (hk:k<=k':=by decide) (hg:Gl X x:=by rfl) (hdb:(x == ("__debug__":Str))=false:=by decide)
  (he:starEach (e::es) X.env=(false,eval e X.env)::starEach es X.env:=by exact aQ rfl) (hpl:(backTo pos (starEach es X.env)).any (·.1)=false:=by exact dH rfl):PE X (.Call (.Name x p) (e::es) [] pos) (av X.K (aw sp wa)):=w8 C (hr.mono hk) hg ha hdb he hpl
end
structure Oj where
 (P:Program) (w:World) (K:Frg) (mg:Str->Option Value) (base:Heap) (f:Addr) (cdv:Value) (A:Around) (outer:List Env) (s:Shared) (H:Hp) (E:XK)
abbrev Ce (e:Oj)(k:Nat)(x:Str)(sp:aN):Prop:=Callee e.P e.w e.K e.mg e.base k x sp
abbrev Rm (e:Oj)(k:Nat)(n:Str)(st:Stmt):Prop:=b9 k (e.A.deeper (envOfC n (al st) e.s.heap.objs.size e.f e.cdv))
abbrev Bd (e:Oj){N ps:List Str}{st:Stmt}(_:ay N ps (al st))(n:Str)(u:WS):Prop:=jT (oY wJ e.P e.w e.K e.mg e.base N n (al st) e.f e.cdv e.A e.outer e.s e.H e.E).nox (cq st) (bI e.K e.H u)
section
variable {e:Oj}
abbrev lu:Stmt:=top 7
theorem dq:ay ["one","other","greater","lesser","rest"] ["one","other"] (al lu):=by walk_at"fs"
theorem yn (m0:e.mg "abs"=none) (hr:Rm e 0 "divisor" lu):Bd e dq "divisor" i5:=
 (ah (aq (i:=2) dq.nd (dB m0 (aa (dv 0) ag)))
 (ah (aq (i:=3) dq.nd (dB m0 (aa (dv 1) ag)))
 (aM (j5 PassesOwn.never (tT hr (dv 3) ab) (ah (aq (i:=4) dq.nd (bi (dv 2) (dv 3)))
 (ah (aq (i:=2) dq.nd (dv 3))
 (am (aq (i:=3) dq.nd (dv 4))))))
 (am (fq (pv 2))))))
abbrev sD:Stmt:=top 8
theorem kt:ay ["top","bottom","common"] ["top","bottom"] (al sD):=by walk_at"fs"
theorem Ft (c0:Ce e 1 "divisor" cy) (hr:Rm e 1 "ratio" sD):Bd e kt "ratio" mM:=
 (ah (bB (ey hr (dv 1) ab) (am ib) aO)
 (ah (aq (i:=2) kt.nd (ai c0 hr (aa (dv 0) (aa (dv 1) ag))))
 (aM (bB (lQ (dv 1) ab) (am (aq (i:=2) kt.nd (dC (dv 2)))) aO)
 (am (aF (aR (aa (bO (dv 0) (dv 2)) (aa (bO (dv 1) (dv 2)) ag))))))))
abbrev su:Stmt:=top 9
theorem uF:ay ["one","other"] ["one","other"] (al su):=by walk_at"fs"
theorem Fm (hr:Rm e 0 "below" su):Bd e uF "below" mG:=
 (am (aF (M0 (ax (aj (dv 0) ab) (aj (dv 1) ab)) (ax (aj (dv 1) ab) (aj (dv 0) ab)))))
abbrev wt:Stmt:=top 11
theorem sE:ay ["a","b","c","common"] ["a","b","c"] (al wt):=by walk_at"fs"
theorem Jl (c0:Ce e 1 "divisor" cy) (hr:Rm e 1 "half" wt):Bd e sE "half" sW:=
 (ah (bB (yM (PW.pt (ic (ey hr (dv 0) ab) (gx (ey hr (dv 1) ab))))) (am ib) aO)
 (ah (aq (i:=3) sE.nd (ai c0 hr (aa (ai c0 hr (aa (dv 0) (aa (dv 1) ag))) (aa (dv 2) ag))))
 (am (aF (aR (aa (bO (dv 0) (dv 3)) (aa (bO (dv 1) (dv 3)) (aa (bO (dv 2) (dv 3)) ag))))))))
abbrev lm:Stmt:=top 12
theorem gJ:ay ["one","other","a","b"] ["one","other"] (al lm):=by walk_at"fs"
theorem yi (c3:Ce e 2 "half" ky) (hr:Rm e 2 "between" lm):Bd e gJ "between" iY:=
 (ah (aq (i:=2) gJ.nd (ba (aj (dv 0) ab) (aj (dv 1) ab)))
 (ah (aq (i:=3) gJ.nd (ba (aj (dv 1) ab) (aj (dv 0) ab)))
 (am (aF (ai c3 hr (aa (dv 2) (aa (dv 3) (aa (aX (ax (dv 2) (aj (dv 0) ab)) (ax (dv 3) (aj (dv 0) ab))) ag))))))))
abbrev sn:Stmt:=top 13
theorem uC:ay ["one","other"] ["one","other"] (al sn):=by walk_at"fs"
theorem Fj (hr:Rm e 0 "along" sn):Bd e uC "along" mD:=
 (am (aF (aX (ax (aj (dv 0) ab) (aj (dv 1) ab)) (ax (aj (dv 0) ab) (aj (dv 1) ab)))))
abbrev ll:Stmt:=top 14
theorem ow:ay ["point"] ["point"] (al ll):=by walk_at"fs"
theorem yh (hr:Rm e 0 "as_spot" ll):Bd e ow "as_spot" iX:=
 (am (aF (aR (aa (aR (aa (aj (dv 0) ab) (aa ab ag))) (aa (aR (aa (aj (dv 0) ab) (aa ab ag))) ag)))))
abbrev lq:Stmt:=top 15
theorem ox:ay ["spot"] ["spot"] (al lq):=by walk_at"fs"
theorem yj (hr:Rm e 0 "bottoms" lq):Bd e ox "bottoms" iZ:=
 (am (aF (ax (aj (aj (dv 0) ab) ab) (aj (aj (dv 0) ab) ab))))
abbrev oj:Stmt:=top 16
theorem iU:ay ["half","spot","x","y"] ["half","spot"] (al oj):=by walk_at"fs"
theorem Aj (c7:Ce e 1 "bottoms" cJ) (hr:Rm e 1 "excess" oj):Bd e iU "excess" kI:=
 (ah (aq (i:=2) iU.nd (aj (dv 1) ab))
 (ah (aq (i:=3) iU.nd (aj (dv 1) ab))
 (am (aF (ba (aX (ax (ax (aj (dv 0) ab) (aj (dv 2) ab)) (aj (dv 3) ab)) (ax (ax (aj (dv 0) ab) (aj (dv 3) ab)) (aj (dv 2) ab))) (ax (aj (dv 0) ab) (ai c7 hr (aa (dv 1) ag))))))))
abbrev ww:Stmt:=top 17
theorem xT:ay ["number"] ["number"] (al ww):=by walk_at"fs"
theorem Jo (hr:Rm e 0 "sign" ww):Bd e xT "sign" sY:=
 (ah (bB (jo (dv 0) ab) (am (aF ab)) aO)
 (ah (bB (lQ (dv 0) ab) (am (aF (dC ab))) aO)
 (am (aF ab))))
abbrev wu:Stmt:=top 18
theorem xS:ay ["half","spot"] ["half","spot"] (al wu):=by walk_at"fs"
theorem Jn (c9:Ce e 1 "sign" sK) (c8:Ce e 2 "excess" dw) (hr:Rm e 2 "side" wu):Bd e xS "side" w_side:=
 (am (aF (ai c9 hr (aa (ai c8 hr (aa (dv 0) (aa (dv 1) ag))) ag))))
abbrev iS:Stmt:=top 19
theorem oz:ay ["half","points"] ["half","points"] (al iS):=by walk_at"fs"
theorem yu (m1:e.mg "len"=none) (hr:Rm e 0 "many_in" iS):Bd e oz "many_in" ja:=
 (am (aF (bL m1 (aa (eI (N:=["point","half"]) (own:=1) (fr:=[0]) (NX:=["half","points"]) (ar:=al iS) (by decide +kernel) (bP (dv 1)) bK (λ_ _ _ _=>(aD (i:=0) (show List.Nodup (["point","half"]:List Str) by decide))) (λ_ _ _ _=>(j6 (xh (aX (ax (aj (dv 1) ab) (aj (dv 0) ab)) (ax (aj (dv 1) ab) (aj (dv 0) ab))) (aj (dv 1) ab)))) (λ_ _ _ _=>(dv 0))) ag))))
abbrev oo:Stmt:=top 21
theorem qe:ay ["one","other"] ["one","other"] (al oo):=by walk_at"fs"
theorem Al (c2:Ce e 1 "below" dG) (hr:Rm e 1 "lesser" oo):Bd e qe "lesser" kK:=
 (ah (bB (ey hr (aj (dv 0) ab) (aj (dv 1) ab)) (am (aF (ai c2 hr (aa (aj (dv 0) ab) (aa (aj (dv 1) ab) ag))))) aO)
 (am (aF (ai c2 hr (aa (aj (dv 0) ab) (aa (aj (dv 1) ab) ag))))))
abbrev ix:Stmt:=top 22
theorem ku:ay ["spot"] ["spot"] (al ix):=by walk_at"fs"
theorem tG (c7:Ce e 1 "bottoms" cJ) (hr:Rm e 1 "stretched" ix):Bd e ku "stretched" fB:=
 (am (aF (aR (aa (ax (aj (aj (dv 0) ab) ab) (aj (aj (dv 0) ab) ab)) (aa (ax (aj (aj (dv 0) ab) ab) (aj (aj (dv 0) ab) ab)) (aa (ai c7 hr (aa (dv 0) ag)) ag))))))
abbrev wx:Stmt:=top 23
theorem gN:ay ["one","other","third","here","there","a","b","c"] ["one","other","third"] (al wx):=by walk_at"fs"
theorem Jp (c13:Ce e 2 "stretched" bW) (c8:Ce e 2 "excess" dw) (hr:Rm e 2 "turn" wx):Bd e gN "turn" sZ:=
 (ah (aq (i:=3) gN.nd (ai c13 hr (aa (dv 0) ag)))
 (ah (aq (i:=4) gN.nd (ai c13 hr (aa (dv 1) ag)))
 (ah (aq (i:=5) gN.nd (ba (ax (aj (dv 3) ab) (aj (dv 4) ab)) (ax (aj (dv 3) ab) (aj (dv 4) ab))))
 (ah (aq (i:=6) gN.nd (ba (ax (aj (dv 3) ab) (aj (dv 4) ab)) (ax (aj (dv 3) ab) (aj (dv 4) ab))))
 (ah (aq (i:=7) gN.nd (ba (ax (aj (dv 3) ab) (aj (dv 4) ab)) (ax (aj (dv 3) ab) (aj (dv 4) ab))))
 (am (aF (ai c8 hr (aa (aR (aa (dv 5) (aa (dv 6) (aa (dv 7) ag)))) (aa (dv 2) ag))))))))))
abbrev sv:Stmt:=top 24
theorem kq:ay ["spots","kept","spot"] ["spots"] (al sv):=by walk_at"fs"
theorem Fn (m1:e.mg "len"=none) (c14:Ce e 3 "turn" sL) (hr:Rm e 3 "chain" sv):Bd e kq "chain" mH:=
 (ah (aq (i:=1) kq.nd (dk ag))
 (aM (dQ PassesOwn.never (bP (dv 0)) (aD (i:=2) kq.nd) (aM (j5 PassesOwn.never (yM (PW.pt (ic (jo (bL m1 (aa (dv 1) ag)) ab) (gx (M1 (ai c14 hr (aa (aj (dv 1) (dC ab)) (aa (aj (dv 1) (dC ab)) (aa (dv 2) ag)))) ab))))) (am (JJ (i:=1))))
 (am (eS (i:=1) (dv 2)))))
 (am (fq (pv 1)))))
abbrev sA:Stmt:=top 25
theorem kr:ay ["points","spots","under","above"] ["points"] (al sA):=by walk_at"fs"
theorem Jm (m2:e.mg "sorted"=none) (m3:e.mg "set"=none) (m1:e.mg "len"=none) (m4:e.mg "list"=none) (m5:e.mg "reversed"=none) (c6:Ce e 1 "as_spot" jI) (c15:Ce e 4 "chain" kx) (hr:Rm e 4 "hull" sA):Bd e kr "hull" sX:=
 (ah (dR (i:=1) kr.nd (N:=["point"]) (own:=1) (fr:=[]) (NX:=["points","spots","under","above"]) (ar:=al sA) (by decide +kernel) (bP (nj hr m2 m3 hr.hd (dv 0))) bK (λ_ _ _ _=>(aD (i:=0) (show List.Nodup (["point"]:List Str) by decide))) (λ_ _ _ _=>dX) (λ_ _ _ _=>(ai c6 hr (aa (dv 0) ag))))
 (ah (bB (lQ (bL m1 (aa (dv 1) ag)) ab) (am (fq (pv 1))) aO)
 (ah (aq (i:=2) kr.nd (ai c15 hr (aa (dv 1) ag)))
 (ah (aq (i:=3) kr.nd (ai c15 hr (aa (vu m4 m5 hr.hd (dv 1)) ag)))
 (am (aF (vq (eZ (dv 2) gv (gw (dC ab))) (eZ (dv 3) gv (gw (dC ab))))))))))
abbrev mB:Stmt:=top 26
theorem uH:ay ["region"] ["region"] (al mB):=by walk_at"fs"
theorem Fu (m6:e.mg "range"=none) (m1:e.mg "len"=none) (hr:Rm e 0 "sides" mB):Bd e uH "sides" mN:=
 (am (aF (eI (N:=["place","region"]) (own:=1) (fr:=[0]) (NX:=["region"]) (ar:=al mB) (by decide +kernel) (cO m6 (aa (bL m1 (aa (dv 0) ag)) ag)) bK (λ_ _ _ _=>(aD (i:=0) (show List.Nodup (["place","region"]:List Str) by decide))) (λ_ _ _ _=>dX) (λ_ _ _ _=>(aR (aa (aj (dv 1) (ba (dv 0) ab)) (aa (aj (dv 1) (dv 0)) ag)))))))
abbrev gG:Stmt:=top 27
theorem da:ay ["corners","first","place"] ["corners"] (al gG):=by walk_at"fs"
theorem qz (m6:e.mg "range"=none) (m1:e.mg "len"=none) (c12:Ce e 2 "lesser" lC) (hr:Rm e 2 "from_least" gG):Bd e da "from_least" eP:=
 (ah (aq (i:=1) da.nd ab)
 (aM (dQ PassesOwn.never (cO m6 (aa (bL m1 (aa (dv 0) ag)) ag)) (aD (i:=2) da.nd) (am (bB (qV (ai c12 hr (aa (aj (dv 0) (dv 2)) (aa (aj (dv 0) (dv 1)) ag)))) (am (aq (i:=1) da.nd (dv 2))) aO)))
 (am (aF (vq (eZ (dv 0) (gw (dv 1)) gv) (eZ (dv 0) gv (gw (dv 1))))))))
abbrev sC:Stmt:=top 28
theorem oA:ay ["one","one_weight","other","other_weight","top"] ["one","one_weight","other","other_weight"] (al sC):=by walk_at"fs"
theorem Fs (c1:Ce e 2 "ratio" gf) (hr:Rm e 2 "mixed" sC):Bd e oA "mixed" mL:=
 (ah (aq (i:=4) oA.nd (aX (ax (ax (aj (dv 0) ab) (aj (dv 2) ab)) (dv 1)) (ax (ax (aj (dv 2) ab) (aj (dv 0) ab)) (dv 3))))
 (am (aF (ai c1 hr (aa (dv 4) (aa (ax (ax (aj (dv 0) ab) (aj (dv 2) ab)) (aX (dv 1) (dv 3))) ag))))))
abbrev jE:Stmt:=top 29
theorem du:ay ["half","one","other","one_weight","other_weight","x","y"] ["half","one","other"] (al jE):=by walk_at"fs"
theorem vg (m0:e.mg "abs"=none) (c8:Ce e 2 "excess" dw) (c7:Ce e 1 "bottoms" cJ) (c19:Ce e 3 "mixed" kA) (hr:Rm e 3 "crossing" jE):Bd e du "crossing" g8:=
 (ah (aq (i:=3) du.nd (ax (dB m0 (aa (ai c8 hr (aa (dv 0) (aa (dv 2) ag))) ag)) (ai c7 hr (aa (dv 1) ag))))
 (ah (aq (i:=4) du.nd (ax (dB m0 (aa (ai c8 hr (aa (dv 0) (aa (dv 1) ag))) ag)) (ai c7 hr (aa (dv 2) ag))))
 (ah (aq (i:=5) du.nd (ai c19 hr (aa (aj (dv 1) ab) (aa (dv 3) (aa (aj (dv 2) ab) (aa (dv 4) ag))))))
 (ah (aq (i:=6) du.nd (ai c19 hr (aa (aj (dv 1) ab) (aa (dv 3) (aa (aj (dv 2) ab) (aa (dv 4) ag))))))
 (am (aF (aR (aa (dv 5) (aa (dv 6) ag)))))))))
abbrev lr:Stmt:=top 30
theorem e7:ay ["region","half","kept","pair","spot"] ["region","half"] (al lr):=by walk_at"fs"
theorem yk (c17:Ce e 1 "sides" oE) (c10:Ce e 3 "side" gW) (c20:Ce e 4 "crossing" iC) (c18:Ce e 3 "from_least" fN) (hr:Rm e 4 "clipped" lr):Bd e e7 "clipped" i0:=
 (ah (aq (i:=2) e7.nd (dk ag))
 (aM (dQ PassesOwn.never (bP (ai c17 hr (aa (dv 0) ag))) (aD (i:=3) e7.nd) (aM (bB (lQ (ax (ai c10 hr (aa (dv 1) (aa (aj (dv 3) ab) ag))) (ai c10 hr (aa (dv 1) (aa (aj (dv 3) ab) ag)))) ab) (ah (aq (i:=4) e7.nd (ai c20 hr (aa (dv 1) (aa (aj (dv 3) ab) (aa (aj (dv 3) ab) ag)))))
 (am (bB (AJ hr (dv 4) (dv 2)) (am (eS (i:=2) (dv 4))) aO))) aO)
 (am (bB (xh (ai c10 hr (aa (dv 1) (aa (aj (dv 3) ab) ag))) ab) (am (eS (i:=2) (aj (dv 3) ab))) aO))))
 (am (aF (ai c18 hr (aa (dv 2) ag))))))
abbrev oi:Stmt:=top 32
theorem qd:ay ["one","other"] ["one","other"] (al oi):=by walk_at"fs"
theorem Ai (hr:Rm e 0 "across" oi):Bd e qd "across" kH:=
 (am (aF (ba (ax (aj (dv 0) ab) (aj (dv 1) ab)) (ax (aj (dv 0) ab) (aj (dv 1) ab)))))
abbrev lA:Stmt:=top 33
theorem fb:ay ["border","step","bottom","x","y"] ["border","step"] (al lA):=by walk_at"fs"
theorem yy (c5:Ce e 1 "along" cB) (c1:Ce e 2 "ratio" gf) (hr:Rm e 2 "spot_at" lA):Bd e fb "spot_at" jc:=
 (ah (aq (i:=2) fb.nd (ax (ai c5 hr (aa (dv 0) (aa (dv 0) ag))) (aj (dv 1) ab)))
 (ah (aq (i:=3) fb.nd (ba (ax (ax (aj (dv 0) ab) (aj (dv 0) ab)) (aj (dv 1) ab)) (ax (aj (dv 0) ab) (aj (dv 1) ab))))
 (ah (aq (i:=4) fb.nd (aX (ax (ax (aj (dv 0) ab) (aj (dv 0) ab)) (aj (dv 1) ab)) (ax (aj (dv 0) ab) (aj (dv 1) ab))))
 (am (aF (aR (aa (ai c1 hr (aa (dv 3) (aa (dv 2) ag))) (aa (ai c1 hr (aa (dv 4) (aa (dv 2) ag))) ag))))))))
abbrev sr:Stmt:=top 34
theorem uE:ay ["border","other"] ["border","other"] (al sr):=by walk_at"fs"
theorem Fl (c5:Ce e 1 "along" cB) (hr:Rm e 1 "asked" sr):Bd e uE "asked" mF:=
 (am (aF (ba (ax (aj (dv 1) ab) (ai c5 hr (aa (dv 0) (aa (dv 0) ag)))) (ax (ai c5 hr (aa (dv 0) (aa (dv 1) ag))) (aj (dv 0) ab)))))
abbrev lz:Stmt:=top 35
theorem gM:ay ["border","other","top","bottom"] ["border","other"] (al lz):=by walk_at"fs"
theorem yv (c24:Ce e 2 "asked" iA) (c22:Ce e 1 "across" ci) (hr:Rm e 2 "meeting" lz):Bd e gM "meeting" jb:=
 (ah (aq (i:=2) gM.nd (ai c24 hr (aa (dv 0) (aa (dv 1) ag))))
 (ah (aq (i:=3) gM.nd (ai c22 hr (aa (dv 0) (aa (dv 1) ag))))
 (ah (bB (lQ (dv 3) ab) (am (aF (aR (aa (dC (dv 2)) (aa (dC (dv 3)) ag))))) aO)
 (am (aF (aR (aa (dv 2) (aa (dv 3) ag))))))))
abbrev oq:Stmt:=top 36
theorem cR:ay ["border","halves","first","last","place","facing","step"] ["border","halves"] (al oq):=by walk_at"fs"
theorem Am (m6:e.mg "range"=none) (m1:e.mg "len"=none) (c22:Ce e 1 "across" ci) (c25:Ce e 3 "meeting" jP) (c2:Ce e 1 "below" dG) (hr:Rm e 3 "limits" oq):Bd e cR "limits" kM:=
 (ah (aq (i:=2) cR.nd qR)
 (ah (aq (i:=3) cR.nd qR)
 (aM (dQ PassesOwn.never (cO m6 (aa (bL m1 (aa (dv 1) ag)) ag)) (aD (i:=4) cR.nd) (ah (aq (i:=5) cR.nd (ai c22 hr (aa (dv 0) (aa (aj (dv 1) (dv 4)) ag))))
 (ah (aq (i:=6) cR.nd (ai c25 hr (aa (dv 0) (aa (aj (dv 1) (dv 4)) ag))))
 (aM (bB (yM (PW.pt (ic (jo (dv 5) ab) (gx (PW.pt (HR (AI (dv 2)) (AK (qV (ai c2 hr (aa (aj (dv 2) ab) (aa (dv 6) ag))))))))))) (am (aq (i:=2) cR.nd (aR (aa (dv 6) (aa (dv 4) ag))))) aO)
 (am (bB (yM (PW.pt (ic (lQ (dv 5) ab) (gx (PW.pt (HR (AI (dv 3)) (AK (qV (ai c2 hr (aa (dv 6) (aa (aj (dv 3) ab) ag))))))))))) (am (aq (i:=3) cR.nd (aR (aa (dv 6) (aa (dv 4) ag))))) aO))))))
 (am (aF (aR (aa (dv 2) (aa (dv 3) ag))))))))
abbrev mz:Stmt:=top 37
theorem uD:ay ["border","halves"] ["border","halves"] (al mz):=by walk_at"fs"
theorem Fk (m6:e.mg "range"=none) (m1:e.mg "len"=none) (c22:Ce e 1 "across" ci) (c24:Ce e 2 "asked" iA) (hr:Rm e 2 "apart" mz):Bd e uD "apart" mE:=
 (am (aF (eI (N:=["place","border","halves"]) (own:=1) (fr:=[0,1]) (NX:=["border","halves"]) (ar:=al mz) (by decide +kernel) (cO m6 (aa (bL m1 (aa (dv 1) ag)) ag)) bK (λ_ _ _ _=>(aD (i:=0) (show List.Nodup (["place","border","halves"]:List Str) by decide))) (λ_ _ _ _=>(j6 (PW.pt (ic (ey hr (ai c22 hr (aa (dv 1) (aa (aj (dv 2) (dv 0)) ag))) ab) (gx (jo (ai c24 hr (aa (dv 1) (aa (aj (dv 2) (dv 0)) ag))) ab)))))) (λ_ _ _ _=>(dv 0)))))
abbrev sw:Stmt:=top 38
theorem uG:ay ["border","halves","ends"] ["border","halves","ends"] (al sw):=by walk_at"fs"
theorem Fo (c2:Ce e 1 "below" dG) (c27:Ce e 3 "apart" oC) (hr:Rm e 3 "clash" sw):Bd e uG "clash" mI:=
 (ah (bB (yM (PW.pt (ic (qU (aj (dv 2) ab)) (ic (qU (aj (dv 2) ab)) (gx (qV (ai c2 hr (aa (aj (aj (dv 2) ab) ab) (aa (aj (aj (dv 2) ab) ab) ag))))))))) (am (aF (dk (aa (aj (aj (dv 2) ab) ab) (aa (aj (aj (dv 2) ab) ab) ag))))) aO)
 (am (aF (eZ (ai c27 hr (aa (dv 0) (aa (dv 1) ag))) gv (gw ab)))))
abbrev e6:Stmt:=top 39
theorem eF:ay ["border","ends","end"] ["border","ends"] (al e6):=by walk_at"fs"
theorem mY (c23:Ce e 3 "spot_at" gX) (hr:Rm e 3 "spot_between" e6):Bd e eF "spot_between" dL:=
 (aM (dQ PassesOwn.never (JG (dv 1)) (aD (i:=2) eF.nd) (am (bB (qU (dv 2)) (am (aF (ai c23 hr (aa (dv 0) (aa (aj (dv 2) ab) ag))))) aO)))
 (am (aF (ai c23 hr (aa (dv 0) (aa (aR (aa ab (aa ab ag))) ag))))))
abbrev iR:Stmt:=top 40
theorem e9:ay ["weights","common","weight"] ["weights"] (al iR):=by walk_at"fs"
theorem yt (c0:Ce e 1 "divisor" cy) (hr:Rm e 1 "lowered" iR):Bd e e9 "lowered" i9:=
 (ah (aq (i:=1) e9.nd ab)
 (aM (dQ PassesOwn.never (bP (dv 0)) (aD (i:=2) e9.nd) (am (aq (i:=1) e9.nd (ai c0 hr (aa (dv 1) (aa (dv 2) ag))))))
 (am (aF (eI (N:=["weight","common"]) (own:=1) (fr:=[1]) (NX:=["weights","common","weight"]) (ar:=al iR) (by decide +kernel) (bP (dv 0)) bK (λ_ _ _ _=>(aD (i:=0) (show List.Nodup (["weight","common"]:List Str) by decide))) (λ_ _ _ _=>dX) (λ_ _ _ _=>(bO (dv 0) (dv 1))))))))
abbrev gI:Stmt:=top 41
theorem de:ay ["chosen","one","other","third"] ["chosen"] (al gI):=by walk_at"fs"
theorem qC (m1:e.mg "len"=none) (m0:e.mg "abs"=none) (c30:Ce e 2 "lowered" gU) (c22:Ce e 1 "across" ci) (hr:Rm e 2 "weights_of" gI):Bd e de "weights_of" cT:=
 (ah (aq (i:=1) de.nd (aj (dv 0) ab))
 (ah (aq (i:=2) de.nd (aj (dv 0) ab))
 (ah (bB (ey hr (bL m1 (aa (dv 0) ag)) ab) (am (aF (ai c30 hr (aa (dk (aa (aX (dB m0 (aa (aj (dv 2) ab) ag)) (dB m0 (aa (aj (dv 2) ab) ag))) (aa (aX (dB m0 (aa (aj (dv 1) ab) ag)) (dB m0 (aa (aj (dv 1) ab) ag))) ag))) ag)))) aO)
 (ah (aq (i:=3) de.nd (aj (dv 0) ab))
 (am (aF (ai c30 hr (aa (dk (aa (dB m0 (aa (ai c22 hr (aa (dv 2) (aa (dv 3) ag))) ag)) (aa (dB m0 (aa (ai c22 hr (aa (dv 3) (aa (dv 1) ag))) ag)) (aa (dB m0 (aa (ai c22 hr (aa (dv 1) (aa (dv 2) ag))) ag)) ag)))) ag))))))))
abbrev ec:Stmt:=top 42
theorem iz:ay ["halves","places"] ["halves","places"] (al ec):=by walk_at"fs"
theorem oV (c31:Ce e 3 "weights_of" fO) (hr:Rm e 3 "none_shared" ec):Bd e iz "none_shared" cD:=
 (am (aF (aR (aa vv (aa (dv 1) (aa (ai c31 hr (aa (eI (N:=["place","halves"]) (own:=1) (fr:=[0]) (NX:=["halves","places"]) (ar:=al ec) (by decide +kernel) (bP (dv 1)) bK (λ_ _ _ _=>(aD (i:=0) (show List.Nodup (["place","halves"]:List Str) by decide))) (λ_ _ _ _=>dX) (λ_ _ _ _=>(aj (dv 1) (dv 0)))) ag)) ag))))))
abbrev ou:Stmt:=top 43
theorem cS:ay ["halves","spot","place","border","before","ends","places"] ["halves"] (al ou):=by walk_at"fs"
theorem Ao (m6:e.mg "range"=none) (m1:e.mg "len"=none) (m2:e.mg "sorted"=none) (c10:Ce e 3 "side" gW) (c26:Ce e 4 "limits" lD) (c28:Ce e 4 "clash" oD) (c32:Ce e 4 "none_shared" fh) (c29:Ce e 4 "spot_between" eG) (hr:Rm e 4 "shared" ou):Bd e cS "shared" kO:=
 (ah (aq (i:=1) cS.nd (aR (aa (aR (aa ab (aa ab ag))) (aa (aR (aa ab (aa ab ag))) ag))))
 (aM (dQ PassesOwn.never (cO m6 (aa (bL m1 (aa (dv 0) ag)) ag)) (aD (i:=2) cS.nd) (ah (aq (i:=3) cS.nd (aj (dv 0) (dv 2)))
 (am (bB (lQ (ai c10 hr (aa (dv 3) (aa (dv 1) ag))) ab) (ah (aq (i:=4) cS.nd (eZ (dv 0) gv (gw (dv 2))))
 (ah (aq (i:=5) cS.nd (ai c26 hr (aa (dv 3) (aa (dv 4) ag))))
 (ah (aq (i:=6) cS.nd (ai c28 hr (aa (dv 3) (aa (dv 4) (aa (dv 5) ag)))))
 (ah (bB (jo (bL m1 (aa (dv 6) ag)) ab) (am (aF (ai c32 hr (aa (dv 0) (aa (FF m2 (aa (vq (dv 6) (dk (aa (dv 2) ag))) ag)) ag))))) aO)
 (am (aq (i:=1) cS.nd (ai c29 hr (aa (dv 3) (aa (dv 5) ag))))))))) aO))))
 (am (aF (aR (aa vv (aa (dv 1) ag)))))))
abbrev cW:Stmt:=top 45
theorem bV:ay ["point","x","y"] ["point"] (al cW):=by walk_at"fs"
theorem jf (hr:Rm e 0 "upright_and_level" cW):Bd e bV "upright_and_level" ca:=
 (ah (aq (i:=1) bV.nd (aj (dv 0) ab))
 (ah (aq (i:=2) bV.nd (aj (dv 0) ab))
 (am (aF (dk (aa (aR (aa ab (aa ab (aa (dv 1) ag)))) (aa (aR (aa (dC ab) (aa ab (aa (dC (dv 1)) ag)))) (aa (aR (aa ab (aa ab (aa (dv 2) ag)))) (aa (aR (aa ab (aa (dC ab) (aa (dC (dv 2)) ag)))) ag)))))))))
abbrev jD:Stmt:=top 46
theorem eA:ay ["points","found","one","other"] ["points"] (al jD):=by walk_at"fs"
theorem vf (m2:e.mg "sorted"=none) (m3:e.mg "set"=none) (c34:Ce e 1 "upright_and_level" cK) (c4:Ce e 3 "between" jJ) (hr:Rm e 3 "bordered" jD):Bd e eA "bordered" g7:=
 (ah (aq (i:=1) eA.nd (dk ag))
 (aM (dQ PassesOwn.never (bP (dv 0)) (aD (i:=2) eA.nd) (ah (yL (i:=1) (ai c34 hr (aa (dv 2) ag)))
 (am (dQ PassesOwn.never (bP (dv 0)) (aD (i:=3) eA.nd) (am (bB (tT hr (dv 2) (dv 3)) (am (eS (i:=1) (ai c4 hr (aa (dv 2) (aa (dv 3) ag))))) aO))))))
 (am (aF (nj hr m2 m3 hr.hd (dv 1))))))
abbrev fL:Stmt:=top 47
theorem iy:ay ["points"] ["points"] (al fL):=by walk_at"fs"
theorem oU (m1:e.mg "len"=none) (hr:Rm e 0 "need_points" fL):Bd e iy "need_points" er:=
 (am (bB (ey hr (bL m1 (aa (dv 0) ag)) ab) (am ib) aO))
abbrev ko:Stmt:=top 48
theorem qf:ay ["points","many"] ["points","many"] (al ko):=by walk_at"fs"
theorem Ap (c36:Ce e 1 "need_points" bg) (c35:Ce e 4 "bordered" iB) (c11:Ce e 1 "many_in" jO) (hr:Rm e 4 "strong" ko):Bd e qf "strong" kP:=
 (ah (qT (ai c36 hr (aa (dv 0) ag)))
 (am (aF (eI (N:=["found","points","many"]) (own:=1) (fr:=[0,1]) (NX:=["points","many"]) (ar:=al ko) (by decide +kernel) (bP (ai c35 hr (aa (dv 0) ag))) bK (λ_ _ _ _=>(aD (i:=0) (show List.Nodup (["found","points","many"]:List Str) by decide))) (λ_ _ _ _=>(j6 (xh (ai c11 hr (aa (dv 0) (aa (dv 1) ag))) (dv 2)))) (λ_ _ _ _=>(dv 0))))))
abbrev ot:Stmt:=top 49
theorem gd:ay ["points","k","part","found"] ["points","k"] (al ot):=by walk_at"fs"
theorem An (m1:e.mg "len"=none) (c36:Ce e 1 "need_points" bg) (c16:Ce e 5 "hull" sJ) (c37:Ce e 5 "strong" dU) (c21:Ce e 5 "clipped" jK) (hr:Rm e 5 "region" ot):Bd e gd "region" kN:=
 (ah (qT (ai c36 hr (aa (dv 0) ag)))
 (ah (bB (lQ (dv 1) ab) (am ib) aO)
 (ah (bB (jo (dv 1) (bL m1 (aa (dv 0) ag))) (am (aF (dk ag))) aO)
 (ah (aq (i:=2) gd.nd (ai c16 hr (aa (dv 0) ag)))
 (aM (dQ PassesOwn.never (bP (ai c37 hr (aa (dv 0) (aa (aX (ba (bL m1 (aa (dv 0) ag)) (dv 1)) ab) ag)))) (aD (i:=3) gd.nd) (am (aq (i:=2) gd.nd (ai c21 hr (aa (dv 2) (aa (dv 3) ag))))))
 (am (fq (pv 2))))))))
abbrev iP:Stmt:=top 50
theorem bJ:ay ["points","k","halves","weights","asked","told"] ["points"] (al iP):=by walk_at"fs"
theorem ym (m1:e.mg "len"=none) (c36:Ce e 1 "need_points" bg) (c37:Ce e 5 "strong" dU) (c33:Ce e 5 "shared" eT) (hr:Rm e 5 "deepest" iP):Bd e bJ "deepest" i4:=
 (ah (qT (ai c36 hr (aa (dv 0) ag)))
 (ah (aq (i:=1) bJ.nd (bL m1 (aa (dv 0) ag)))
 (ah (aq (i:=2) bJ.nd (dk ag))
 (ah (aq (i:=3) bJ.nd (dk ag))
 (ah (aq (i:=4) bJ.nd (ai c37 hr (aa (dv 0) (aa ab ag))))
 (ah (aq (i:=5) bJ.nd (ai c33 hr (aa (dv 4) ag)))
 (aM (j5 PassesOwn.never (ey hr (aj (dv 5) ab) vv) (ah (dR (i:=2) bJ.nd (N:=["place","asked"]) (own:=1) (fr:=[4]) (NX:=["points","k","halves","weights","asked","told"]) (ar:=al iP) (by decide +kernel) (bP (aj (dv 5) ab)) bK (λ_ _ _ _=>(aD (i:=0) (show List.Nodup (["place","asked"]:List Str) by decide))) (λ_ _ _ _=>dX) (λ_ _ _ _=>(aj (dv 1) (dv 0))))
 (ah (aq (i:=3) bJ.nd (aj (dv 5) ab))
 (ah (aq (i:=1) bJ.nd (ba (dv 1) ab))
 (ah (aq (i:=4) bJ.nd (ai c37 hr (aa (dv 0) (aa (aX (ba (bL m1 (aa (dv 0) ag)) (dv 1)) ab) ag))))
 (am (aq (i:=5) bJ.nd (ai c33 hr (aa (dv 4) ag)))))))))
 (am (FJ (aR (aa (dv 1) (aa (aj (dv 5) ab) (aa (dv 2) (aa (dv 3) ag))))))))))))))
abbrev iT:Stmt:=top 52
theorem jH:ay ["points","spot","here"] ["points","spot"] (al iT):=by walk_at"fs"
theorem yz (c13:Ce e 2 "stretched" bW) (hr:Rm e 2 "ways_to" iT):Bd e jH "ways_to" jd:=
 (ah (aq (i:=2) jH.nd (ai c13 hr (aa (dv 1) ag)))
 (am (aF (eI (N:=["point","here"]) (own:=1) (fr:=[2]) (NX:=["points","spot","here"]) (ar:=al iT) (by decide +kernel) (bP (dv 0)) bK (λ_ _ _ _=>(aD (i:=0) (show List.Nodup (["point","here"]:List Str) by decide))) (λ_ _ _ _=>dX) (λ_ _ _ _=>(aR (aa (ba (ax (aj (dv 0) ab) (aj (dv 1) ab)) (aj (dv 1) ab)) (aa (ba (ax (aj (dv 0) ab) (aj (dv 1) ab)) (aj (dv 1) ab)) ag))))))))
abbrev eN:Stmt:=top 53
theorem jq:ay ["ways","facing"] ["ways","facing"] (al eN):=by walk_at"fs"
theorem qB (m1:e.mg "len"=none) (c5:Ce e 1 "along" cB) (hr:Rm e 1 "many_ahead" eN):Bd e jq "many_ahead" eR:=
 (am (aF (bL m1 (aa (eI (N:=["way","facing"]) (own:=1) (fr:=[1]) (NX:=["ways","facing"]) (ar:=al eN) (by decide +kernel) (bP (dv 0)) bK (λ_ _ _ _=>(aD (i:=0) (show List.Nodup (["way","facing"]:List Str) by decide))) (λ_ _ _ _=>(j6 (xh (ai c5 hr (aa (dv 0) (aa (dv 1) ag))) ab))) (λ_ _ _ _=>(dv 0))) ag))))
abbrev fv:Stmt:=top 54
theorem gK:ay ["way","ways","thin"] ["way","ways"] (al fv):=by walk_at"fs"
theorem tD (m7:e.mg "max"=none) (m0:e.mg "abs"=none) (c5:Ce e 1 "along" cB) (hr:Rm e 1 "just_past" fv):Bd e gK "just_past" fy:=
 (ah (aq (i:=2) gK.nd (aX ab (FE m7 (aa (eI (N:=["other","way"]) (own:=1) (fr:=[0]) (NX:=["way","ways","thin"]) (ar:=al fv) (by decide +kernel) (bP (dv 1)) bK (λ_ _ _ _=>(aD (i:=0) (show List.Nodup (["other","way"]:List Str) by decide))) (λ_ _ _ _=>dX) (λ_ _ _ _=>(dB m0 (aa (ai c5 hr (aa (dv 1) (aa (dv 0) ag))) ag)))) ag))))
 (am (aF (aR (aa (ba (ax (dC (aj (dv 0) ab)) (dv 2)) (aj (dv 0) ab)) (aa (ba (ax (aj (dv 0) ab) (dv 2)) (aj (dv 0) ab)) ag))))))
abbrev iQ:Stmt:=top 55
theorem jG:ay ["ways","found"] ["ways"] (al iQ):=by walk_at"fs"
theorem yo (c42:Ce e 2 "just_past" gO) (hr:Rm e 2 "facings" iQ):Bd e jG "facings" i6:=
 (ah (dR (i:=1) jG.nd (N:=["way","ways"]) (own:=1) (fr:=[0]) (NX:=["ways","found"]) (ar:=al iQ) (by decide +kernel) (bP (dv 0)) bK (λ_ _ _ _=>(aD (i:=0) (show List.Nodup (["way","ways"]:List Str) by decide))) (λ_ _ _ _=>(j6 (tT hr (dv 0) (aR (aa ab (aa ab ag)))))) (λ_ _ _ _=>(ai c42 hr (aa (dv 0) (aa (dv 1) ag)))))
 (ah (eS (i:=1) (aR (aa ab (aa ab ag))))
 (am (fq (pv 1)))))
abbrev fK:Stmt:=top 56
theorem e8:ay ["facing","spot","here"] ["facing","spot"] (al fK):=by walk_at"fs"
theorem oT (c13:Ce e 2 "stretched" bW) (c3:Ce e 2 "half" ky) (c5:Ce e 1 "along" cB) (hr:Rm e 2 "half_facing" fK):Bd e e8 "half_facing" ei:=
 (ah (aq (i:=2) e8.nd (ai c13 hr (aa (dv 1) ag)))
 (am (aF (ai c3 hr (aa (ax (aj (dv 0) ab) (aj (dv 2) ab)) (aa (ax (aj (dv 0) ab) (aj (dv 2) ab)) (aa (ai c5 hr (aa (dv 0) (aa (dv 2) ag))) ag)))))))
abbrev fu:Stmt:=top 57
theorem oy:ay ["points","spot","ways","emptiest"] ["points","spot"] (al fu):=by walk_at"fs"
theorem Fp {P:Program}{w:World}{K:Frg}{mg:Str->Option Value}{base:Heap}{f:Addr}{A:Around}{outer:List Env}{s:Shared}{H:Hp}{E:XK}{c T mb:Addr} (kb:K.In base) (hhd:PySem.W.codeHdIn K c T=true) (hlam:gA K=some T) (bm:∃ ob,mg "__builtins__"=some (.ref mb)/\mb≠builtinsNs/\mb≠mainGlobals/\base.get? mb=some ob/\ob.cls=.type "module"/\ob.dict=some builtinsNs/\ob.data=.plain) (m1:mg "len"=none) (m8:mg "min"=none) (c40:Callee P w K mg base 3 "ways_to" jQ) (c43:Callee P w K mg base 3 "facings" jL) (c41:Callee P w K mg base 2 "many_ahead" ef) (c44:Callee P w K mg base 3 "half_facing" fg) (hr:b9 4 (A.deeper (envOfC "depth" (al fu) s.heap.objs.size f (.ref c)))) :
  jT (oY wJ P w K mg base ["points","spot","ways","emptiest"] "depth" (al fu) f (.ref c) A outer s H E).nox (cq fu) (bI K H mJ):=
 (ah (bB (ey hr (bL m1 (aa (dv 0) ag)) ab) (am ib) aO)
 (ah (aq (i:=2) oy.nd (ai c40 hr (aa (dv 0) (aa (dv 1) ag))))
 (ah (aq (i:=3) oy.nd (yI (x:="facing") (y:="ways") (j:=2) rfl hr.hd (b9.in1 hr).depth m8 ⟨rfl,PySem.W.codeHd_of_K kb hhd,bm⟩ ⟨rfl,rfl,rfl,by decide +kernel,rfl,rfl,λz hz=>B9 (by decide +kernel) hz⟩ hlam rfl rfl rfl rfl rfl rfl (λ_ _ _ _=>rfl) (ai c43 hr (aa (dv 2) ag)) (λ_ _ _ _=>(w8 c41 ((b9.deeper (b9.in1 hr) _).mono ⋯) rfl (aa (dv 1) (aa (dv 0) ag))))))
 (am (aF (aR (aa (ai c41 hr (aa (dv 2) (aa (dv 3) ag))) (aa (ai c44 hr (aa (dv 3) (aa (dv 1) ag))) ag))))))))
abbrev fw:Stmt:=top 59
theorem cx:ay ["_law_script","_law_many","_law_found","_law_k","_law_cell","_law_at"] ["_law_script","_law_many"] (al fw):=by walk_at"fs"
theorem tF (m6:e.mg "range"=none) (m7:e.mg "max"=none) (m8:e.mg "min"=none) (m1:e.mg "len"=none) (hr:Rm e 0 "_law_numbers" fw):Bd e cx "_law_numbers" fA:=
 (ah (dR (i:=2) cx.nd (N:=["_law_k"]) (own:=1) (fr:=[]) (NX:=["_law_script","_law_many","_law_found","_law_k","_law_cell","_law_at"]) (ar:=al fw) (by decide +kernel) (cO m6 (aa (dv 1) ag)) bK (λ_ _ _ _=>(aD (i:=0) (show List.Nodup (["_law_k"]:List Str) by decide))) (λ_ _ _ _=>dX) (λ_ _ _ _=>ab))
 (aM (dQ PassesOwn.never (cO m6 (aa (FD m7 (aa (dv 1) (aa (xa m8 (aa (bL m1 (aa (dv 0) ag)) (aa ab ag))) ag))) ag)) (aD (i:=3) cx.nd) (ah (aq (i:=4) cx.nd ab)
 (aM (bB (jo (bL m1 (aa (dv 0) ag)) ab) (am (aq (i:=4) cx.nd (bi (aj (dv 0) (bi (dv 3) (xa m8 (aa (bL m1 (aa (dv 0) ag)) (aa ab ag))))) (aX (jw ab ab) ab)))) aO)
 (ah (aq (i:=5) cx.nd (bi (dv 3) (dv 1)))
 (am (nk (i:=2) (dv 5) (bi (aX (aX (ax (aj (dv 2) (dv 5)) ab) (dv 4)) (ax (dv 3) (dv 3))) (aX (jw ab ab) ab))))))))
 (am (fq (pv 2)))))
abbrev iw:Stmt:=top 60
theorem dF:ay ["_law_one","_law_other"] ["_law_one","_law_other"] (al iw):=by walk_at"fs"
theorem tE (m0:e.mg "abs"=none) (hr:Rm e 0 "_law_divisor" iw):Bd e dF "_law_divisor" fz:=
 (ah (aq (i:=0) dF.nd (dB m0 (aa (dv 0) ag)))
 (ah (aq (i:=1) dF.nd (dB m0 (aa (dv 1) ag)))
 (aM (j5 PassesOwn.never (jo (dv 1) ab) (am (AG (i:=0) (j:=1) dF.nd (aa (dv 1) (aa (bi (dv 0) (dv 1)) ag)))))
 (am (fq (pv 0))))))
abbrev gH:Stmt:=top 61
theorem fM:ay ["_law_top","_law_bottom","_law_most"] ["_law_top","_law_bottom"] (al gH):=by walk_at"fs"
theorem qA (c47:Ce e 1 "_law_divisor" gQ) (hr:Rm e 1 "_law_fraction" gH):Bd e fM "_law_fraction" eQ:=
 (ah (aq (i:=2) fM.nd (ai c47 hr (aa (dv 0) (aa (dv 1) ag))))
 (am (aF (aR (aa (bO (dv 0) (dv 2)) (aa (bO (dv 1) (dv 2)) ag))))))
abbrev lv:Stmt:=top 62
theorem gL:ay ["_law_number","_law_base","_law_place","_law_k"] ["_law_number","_law_base","_law_place"] (al lv):=by walk_at"fs"
theorem yq (m6:e.mg "range"=none) (hr:Rm e 0 "_law_digit" lv):Bd e gL "_law_digit" i7:=
 (aM (dQ PassesOwn.never (cO m6 (aa (dv 2) ag)) (aD (i:=3) gL.nd) (am (aq (i:=0) gL.nd (bO (dv 0) (dv 1)))))
 (am (aF (bi (dv 0) (dv 1)))))
abbrev jF:Stmt:=top 63
theorem a8:ay ["_law_head","_law_many","_law_found","_law_way","_law_k","_law_number","_law_x","_law_y"] ["_law_head","_law_many"] (al jF):=by walk_at"fs"
theorem vh (m6:e.mg "range"=none) (c49:Ce e 1 "_law_digit" jM) (hr:Rm e 1 "_law_points" jF):Bd e a8 "_law_points" g9:=
 (ah (aq (i:=2) a8.nd (dk ag))
 (ah (aq (i:=3) a8.nd (bi (aj (dv 0) ab) ab))
 (aM (dQ PassesOwn.never (cO m6 (aa (dv 1) ag)) (aD (i:=4) a8.nd) (ah (aq (i:=5) a8.nd (aj (dv 0) (aX ab (dv 4))))
 (ah (aq (i:=6) a8.nd (ba (bi (dv 5) ab) ab))
 (ah (aq (i:=7) a8.nd (ba (bi (bO (dv 5) ab) ab) ab))
 (aM (bB (ey hr (dv 3) ab) (am (aq (i:=7) a8.nd (ba (ax ab (dv 6)) ab))) aO)
 (aM (bB (ey hr (dv 3) ab) (am (aq (i:=6) a8.nd ab)) aO)
 (aM (bB (ey hr (dv 3) ab) (am (AG (i:=6) (j:=7) a8.nd (aa (ba (bi (dv 5) ab) ab) (aa (ba (bi (bO (dv 5) ab) ab) ab) ag)))) aO)
 (aM (bB (jo (dv 3) ab) (ah (aq (i:=6) a8.nd (ba (bi (dv 5) (aX (ax ab (jw ab ab)) ab)) (jw ab ab)))
 (am (aq (i:=7) a8.nd (ba (bi (ax (dv 5) ab) (aX (ax ab (jw ab ab)) ab)) (jw ab ab))))) aO)
 (aM (bB (yM (PW.pt (ic (jo (dv 4) ab) (gx (ey hr (ai c49 hr (aa (aj (dv 0) ab) (aa ab (aa (dv 4) ag)))) ab))))) (am (AH (aj (dv 2) (ba (dv 4) ab)) (k5 (bb (aD (i:=6) a8.nd) (bb (aD (i:=7) a8.nd) iI)) (bc (bc iL))))) aO)
 (am (eS (i:=2) (aR (aa (dv 6) (aa (dv 7) ag))))))))))))))
 (am (fq (pv 2))))))
abbrev om:Stmt:=top 64
theorem cC:ay ["_law_points_here","_law_number","_law_way","_law_one","_law_other","_law_third","_law_by","_law_total","_law_x","_law_y"] ["_law_points_here","_law_number"] (al om):=by walk_at"fs"
theorem Ak (m1:e.mg "len"=none) (m9:e.mg "sum"=none) (c48:Ce e 2 "_law_fraction" bC) (hr:Rm e 2 "_law_spot" om):Bd e cC "_law_spot" kJ:=
 (ah (aq (i:=2) cC.nd (bi (dv 1) ab))
 (ah (aq (i:=3) cC.nd (aj (dv 0) (bi (bO (dv 1) ab) (bL m1 (aa (dv 0) ag)))))
 (ah (aq (i:=4) cC.nd (aj (dv 0) (bi (bO (dv 1) ab) (bL m1 (aa (dv 0) ag)))))
 (ah (aq (i:=5) cC.nd (aj (dv 0) (bi (bO (dv 1) ab) (bL m1 (aa (dv 0) ag)))))
 (ah (bB (ey hr (dv 2) ab) (am (aF (aR (aa (aR (aa (aj (dv 3) ab) (aa ab ag))) (aa (aR (aa (aj (dv 3) ab) (aa ab ag))) ag))))) aO)
 (ah (bB (ey hr (dv 2) ab) (am (aF (aR (aa (ai c48 hr (aa (aX (aj (dv 3) ab) (aj (dv 4) ab)) (aa ab ag))) (aa (ai c48 hr (aa (aX (aj (dv 3) ab) (aj (dv 4) ab)) (aa ab ag))) ag))))) aO)
 (ah (aq (i:=6) cC.nd (dk (aa (ba (bi (bO (dv 1) ab) ab) ab) (aa (ba (bi (bO (dv 1) ab) ab) ab) (aa (aX (bi (bO (dv 1) ab) ab) ab) ag)))))
 (aM (bB (ey hr (dv 2) ab) (ah (nk (i:=6) ab ab)
 (am (nk (i:=6) ab (ba ab (aj (dv 6) ab))))) aO)
 (ah (aq (i:=7) cC.nd (JC m9 (aa (dv 6) ag)))
 (ah (aq (i:=8) cC.nd (aX (aX (ax (aj (dv 6) ab) (aj (dv 3) ab)) (ax (aj (dv 6) ab) (aj (dv 4) ab))) (ax (aj (dv 6) ab) (aj (dv 5) ab))))
 (ah (aq (i:=9) cC.nd (aX (aX (ax (aj (dv 6) ab) (aj (dv 3) ab)) (ax (aj (dv 6) ab) (aj (dv 4) ab))) (ax (aj (dv 6) ab) (aj (dv 5) ab))))
 (am (aF (aR (aa (ai c48 hr (aa (dv 8) (aa (dv 7) ag))) (aa (ai c48 hr (aa (dv 9) (aa (dv 7) ag))) ag))))))))))))))))
abbrev lw:Stmt:=top 65
theorem bN:ay ["_law_head","_law_p","_law_q","_law_r","_law_s","_law_far"] ["_law_head"] (al lw):=by walk_at"fs"
theorem yr (hr:Rm e 0 "_law_slant" lw):Bd e bN "_law_slant" i8:=
 (ah (aq (i:=1) bN.nd (ba (bi (aj (dv 0) ab) ab) ab))
 (ah (aq (i:=2) bN.nd (ba (bi (aj (dv 0) ab) ab) ab))
 (ah (aq (i:=3) bN.nd (ba (bi (aj (dv 0) ab) ab) ab))
 (ah (aq (i:=4) bN.nd (ba (bi (aj (dv 0) ab) ab) ab))
 (aM (bB (ey hr (ax (dv 1) (dv 4)) (ax (dv 2) (dv 3))) (am (nq (aR (aa ab (aa (dv 2) (aa ab (aa (aj (dk (aa ab (aa (dC ab) ag))) (bi (aj (dv 0) ab) ab)) ag))))) (k5 (bb (aD (i:=1) bN.nd) (bb (aD (i:=2) bN.nd) (bb (aD (i:=3) bN.nd) (bb (aD (i:=4) bN.nd) iI)))) (bc (bc (bc (bc iL))))))) aO)
 (ah (aq (i:=5) bN.nd (aj (dk (aa ab (aa (jw ab ab) ag))) (bi (bO (aj (dv 0) ab) ab) ab)))
 (am (aF (aR (aa (dv 1) (aa (dv 2) (aa (dv 3) (aa (dv 4) (aa (ba (bi (aj (dv 0) ab) (aX (ax ab (dv 5)) ab)) (dv 5)) (aa (ba (bi (aj (dv 0) ab) (aX (ax ab (dv 5)) ab)) (dv 5)) ag)))))))))))))))
abbrev sB:Stmt:=top 66
theorem cf:ay ["_law_way","_law_spot_here","_law_p","_law_q","_law_r","_law_s","_law_right","_law_up","_law_x","_law_y","_law_bottom","_law_one","_law_other"] ["_law_way","_law_spot_here"] (al sB):=by walk_at"fs"
theorem Fq (c48:Ce e 2 "_law_fraction" bC) (hr:Rm e 2 "_law_led" sB):Bd e cf "_law_led" mK:=
 (ah (nq (dv 0) (k5 (bb (aD (i:=2) cf.nd) (bb (aD (i:=3) cf.nd) (bb (aD (i:=4) cf.nd) (bb (aD (i:=5) cf.nd) (bb (aD (i:=6) cf.nd) (bb (aD (i:=7) cf.nd) iI)))))) (bc (bc (bc (bc (bc (bc iL))))))))
 (ah (nq (dv 1) (k5 (bb (aD (i:=8) cf.nd) (bb (aD (i:=9) cf.nd) iI)) (bc (bc iL))))
 (ah (aq (i:=10) cf.nd (ax (aj (dv 8) ab) (aj (dv 9) ab)))
 (ah (aq (i:=11) cf.nd (aX (aX (ax (ax (dv 2) (aj (dv 8) ab)) (aj (dv 9) ab)) (ax (ax (dv 3) (aj (dv 9) ab)) (aj (dv 8) ab))) (ax (dv 6) (dv 10))))
 (ah (aq (i:=12) cf.nd (aX (aX (ax (ax (dv 4) (aj (dv 8) ab)) (aj (dv 9) ab)) (ax (ax (dv 5) (aj (dv 9) ab)) (aj (dv 8) ab))) (ax (dv 7) (dv 10))))
 (am (aF (aR (aa (ai c48 hr (aa (dv 11) (aa (dv 10) ag))) (aa (ai c48 hr (aa (dv 12) (aa (dv 10) ag))) ag))))))))))
abbrev kl:Stmt:=top 67
theorem dr:ay ["_law_script","_law_head","_law_points_here","_law_way","_law_p","_law_q","_law_r","_law_s","_law_right","_law_up","_law_others","_law_spot_here","_law_k","_law_corners"] ["_law_script"] (al kl):=by walk_at"fs"
theorem MU (m1:e.mg "len"=none) (m2:e.mg "sorted"=none) (c46:Ce e 1 "_law_numbers" gR) (c50:Ce e 2 "_law_points" iD) (c52:Ce e 1 "_law_slant" jN) (c51:Ce e 3 "_law_spot" lB) (c45:Ce e 5 "depth" fe) (c53:Ce e 3 "_law_led" kz) (c38:Ce e 6 "region" iV) (c39:Ce e 6 "deepest" fc) (hr:Rm e 6 "law" kl):Bd e dr "law" x9:=
 (ah (aq (i:=1) dr.nd (ai c46 hr (aa (dv 0) (aa ab ag))))
 (ah (aq (i:=2) dr.nd (ai c50 hr (aa (dv 1) (aa (aX ab (bi (aj (dv 1) ab) ab)) ag))))
 (ah (aq (i:=3) dr.nd (ai c52 hr (aa (eZ (dv 1) (gw ab) gv) ag)))
 (ah (nq (dv 3) (k5 (bb (aD (i:=4) dr.nd) (bb (aD (i:=5) dr.nd) (bb (aD (i:=6) dr.nd) (bb (aD (i:=7) dr.nd) (bb (aD (i:=8) dr.nd) (bb (aD (i:=9) dr.nd) iI)))))) (bc (bc (bc (bc (bc (bc iL))))))))
 (ah (dR (i:=10) dr.nd (N:=["_law_x","_law_y","_law_p","_law_q","_law_right","_law_r","_law_s","_law_up"]) (own:=2) (fr:=[4,5,8,6,7,9]) (NX:=["_law_script","_law_head","_law_points_here","_law_way","_law_p","_law_q","_law_r","_law_s","_law_right","_law_up","_law_others","_law_spot_here","_law_k","_law_corners"]) (ar:=al kl) (by decide +kernel) (bP (dv 2)) (FU (pL bK (pL bK BO pV) pV)) (λ_ _ _ _=>(k5 (bb (aD (i:=0) (show List.Nodup (["_law_x","_law_y","_law_p","_law_q","_law_right","_law_r","_law_s","_law_up"]:List Str) by decide)) (bb (aD (i:=1) (show List.Nodup (["_law_x","_law_y","_law_p","_law_q","_law_right","_law_r","_law_s","_law_up"]:List Str) by decide)) iI)) (bc (bc iL)))) (λ_ _ _ _=>dX) (λ_ _ _ _=>(aR (aa (aX (aX (ax (dv 2) (dv 0)) (ax (dv 3) (dv 1))) (dv 4)) (aa (aX (aX (ax (dv 5) (dv 0)) (ax (dv 6) (dv 1))) (dv 7)) ag)))))
 (ah (aq (i:=11) dr.nd (ai c51 hr (aa (dv 2) (aa (aj (dv 1) ab) ag))))
 (ah (bB (tT hr (aj (ai c45 hr (aa (dv 2) (aa (dv 11) ag))) ab) (aj (ai c45 hr (aa (dv 10) (aa (ai c53 hr (aa (dv 3) (aa (dv 11) ag))) ag))) ab)) (am (aF HP)) aO)
 (ah (aq (i:=12) dr.nd (aX ab (bi (aj (dv 1) ab) (bL m1 (aa (dv 2) ag)))))
 (ah (dR (i:=13) dr.nd (N:=["_law_corner","_law_way"]) (own:=1) (fr:=[3]) (NX:=["_law_script","_law_head","_law_points_here","_law_way","_law_p","_law_q","_law_r","_law_s","_law_right","_law_up","_law_others","_law_spot_here","_law_k","_law_corners"]) (ar:=al kl) (by decide +kernel) (bP (ai c38 hr (aa (dv 2) (aa (dv 12) ag)))) bK (λ_ _ _ _=>(aD (i:=0) (show List.Nodup (["_law_corner","_law_way"]:List Str) by decide))) (λ_ _ _ _=>dX) (λ_ _ _ _=>(ai c53 hr (aa (dv 1) (aa (dv 0) ag)))))
 (ah (bB (tT hr (tQ hr m2 (dv 13)) (tQ hr m2 (ai c38 hr (aa (dv 10) (aa (dv 12) ag))))) (am (aF HP)) aO)
 (am (aF (MZ hr (aj (ai c39 hr (aa (dv 2) ag)) ab) (aj (ai c39 hr (aa (dv 10) ag)) ab))))))))))))))
end
def Fd (K:Frg)(n:Str)(st:Stmt)(f:Addr):Prop:=∃ (oc:Value) (od:Option Addr) (sl:Array (Option Value)) (kV dc pm:Value) (an:Option Addr) (cd ct:Value),PySem.W.nsIn K mainGlobals n=some (some (.ref f))/\K.lookup f=some ⟨oc,od,.func (PySem.W.fnOf n n (dW st) (cq st) (al st) .none kV dc pm an cd ct),sl⟩/\PySem.W.codeIn K cd n=true/\PySem.W.keepIn K (.ref f)=true
theorem fd_mk {K:Frg}{n:Str}{st:Stmt}{f:Addr}{oc:Value}{od:Option Addr}{sl:Array (Option Value)}{kV dc pm:Value}{an:Option Addr}{cd ct:Value}(a:PySem.W.nsIn K mainGlobals n=some (some (.ref f)))(l:K.lookup f=some ⟨oc,od,.func (PySem.W.fnOf n n (dW st) (cq st) (al st) .none kV dc pm an cd ct),sl⟩)(e:PySem.W.codeIn K cd n=true)(k:PySem.W.keepIn K (.ref f)=true):Fd K n st f:=⟨_,_,_,_,_,_,_,_,_,a,l,e,k⟩
def PK (n:Str)(st:Stmt)(ps:List Str):Prop:=∀ (kV doc pm:Value) (an:Option Addr) (cdv ct:Value) (us:List Value),us.length=ps.length->bindArgs (PySem.W.fnOf n n (dW st) (cq st) (al st) .none kV doc pm an cdv ct) ⟨us,[]⟩=pure (ps.zip us)
theorem MW {P:Program}{wd:World}{K:Frg}{mg:Str->Option Value}{base h:Heap}(X:K.In h)(G:h.Ns mainGlobals mg){x:Str}{st:Stmt}{f:Addr}{N ps:List Str}{sp:aN}{w:WS}(k:Nat)(d:Fd K x st f)(S:ay N ps (al st))(hk:∀ ss R,sp ss R->w {nx:=λ_=>R (.t .non),rt:=R} (aE N ss))
  (hbody:∀ (cdv:Value) (A:Around) (outer:List Env) (s:Shared) (H:Hp) (E:XK),Rm ⟨P,wd,K,mg,base,f,cdv,A,outer,s,H,E⟩ k x st->Bd ⟨P,wd,K,mg,base,f,cdv,A,outer,s,H,E⟩ S x w) (hb:PK x st ps) (hlen:∀ ss R,sp ss R->ss.length=ps.length):Callee P wd K mg base (k+1) x sp:=by
 obtain⟨oc,od,sl,kV,dc,pm,an,cd,ct,a,l,e,q⟩:=d;exact pE (nH l e q) (PySem.W.mg_of X G a) ((nH l e q).binds hb) (AB (nH l e q) S hlen hbody hk)
theorem all_mk {l:PySem.W.OpenLaw}{w:World}{K:Frg}{h:Heap}{mg:Str->Option Value}{cc T:Addr}{ts:List Addr}{odC odL anL:Option Addr}{vsC:Array Value}{slC slL:Array (Option Value)}{ocL kVL dcL pmL ctL:Value}{fa f_0 f_1 f_2 f_3 f_4 f_5 f_6 f_7 f_8 f_9 f_10 f_11 f_12 f_13 f_14 f_15 f_16 f_17 f_18 f_19 f_20 f_21 f_22 f_23 f_24 f_25 f_26 f_27 f_28 f_29 f_30 f_31 f_32 f_33 f_34 f_35 f_36 f_37 f_38 f_39 f_40 f_41 f_42 f_43 f_44 f_45 f_46 f_47 f_48 f_49 f_50 f_51 f_52 f_53 f_54:Addr} (X:K.In h) (G:h.Ns mainGlobals mg) (hfa:mg "law"=some (.ref fa))
  (d0:Fd K "divisor" lu f_0) (d1:Fd K "ratio" sD f_1) (d2:Fd K "below" su f_2) (d3:Fd K "half" wt f_3) (d4:Fd K "between" lm f_4) (d5:Fd K "along" sn f_5) (d6:Fd K "as_spot" ll f_6) (d7:Fd K "bottoms" lq f_7) (d8:Fd K "excess" oj f_8) (d9:Fd K "sign" ww f_9) (d10:Fd K "side" wu f_10) (d11:Fd K "many_in" iS f_11) (d12:Fd K "lesser" oo f_12) (d13:Fd K "stretched" ix f_13) (d14:Fd K "turn" wx f_14) (d15:Fd K "chain" sv f_15) (d16:Fd K "hull" sA f_16) (d17:Fd K "sides" mB f_17) (d18:Fd K "from_least" gG f_18) (d19:Fd K "mixed" sC f_19) (d20:Fd K "crossing" jE f_20) (d21:Fd K "clipped" lr f_21) (d22:Fd K "across" oi f_22) (d23:Fd K "spot_at" lA f_23) (d24:Fd K "asked" sr f_24) (d25:Fd K "meeting" lz f_25) (d26:Fd K "limits" oq f_26) (d27:Fd K "apart" mz f_27) (d28:Fd K "clash" sw f_28) (d29:Fd K "spot_between" e6 f_29) (d30:Fd K "lowered" iR f_30) (d31:Fd K "weights_of" gI f_31) (d32:Fd K "none_shared" ec f_32) (d33:Fd K "shared" ou f_33) (d34:Fd K "upright_and_level" cW f_34) (d35:Fd K "bordered" jD f_35) (d36:Fd K "need_points" fL f_36) (d37:Fd K "strong" ko f_37) (d38:Fd K "region" ot f_38) (d39:Fd K "deepest" iP f_39) (d40:Fd K "ways_to" iT f_40) (d41:Fd K "many_ahead" eN f_41) (d42:Fd K "just_past" fv f_42) (d43:Fd K "facings" iQ f_43) (d44:Fd K "half_facing" fK f_44) (aL:PySem.W.nsIn K mainGlobals "depth"=some (some (.ref f_45))) (lL:K.lookup f_45=some ⟨ocL,odL,.func (PySem.W.fnOf "depth" "depth" (dW fu) (cq fu) (al fu) .none kVL dcL pmL anL (.ref cc) ctL),slL⟩) (eL:PySem.W.codeIn K (.ref cc) "depth"=true) (kL:PySem.W.keepIn K (.ref f_45)=true) (d46:Fd K "_law_numbers" fw f_46) (d47:Fd K "_law_divisor" iw f_47) (d48:Fd K "_law_fraction" gH f_48) (d49:Fd K "_law_digit" lv f_49) (d50:Fd K "_law_points" jF f_50) (d51:Fd K "_law_spot" om f_51) (d52:Fd K "_law_slant" lw f_52) (d53:Fd K "_law_led" sB f_53) (d54:Fd K "law" kl f_54)
  (gc:K.lookup cc=some ⟨.type "code",odC,.fields vsC,slC⟩) (gt:(vsC[11]?:Option Value)=some (.ref T)) (hhd:PySem.W.codeHdIn K cc T=true) (gn:K.lookup T=none) (gs:T∈ts) (z0:PySem.W.nsIn K mainGlobals "abs"=some none) (z1:PySem.W.nsIn K mainGlobals "len"=some none) (z2:PySem.W.nsIn K mainGlobals "sorted"=some none) (z3:PySem.W.nsIn K mainGlobals "set"=some none) (z4:PySem.W.nsIn K mainGlobals "list"=some none) (z5:PySem.W.nsIn K mainGlobals "reversed"=some none) (z6:PySem.W.nsIn K mainGlobals "range"=some none) (z7:PySem.W.nsIn K mainGlobals "max"=some none) (z8:PySem.W.nsIn K mainGlobals "min"=some none) (z9:PySem.W.nsIn K mainGlobals "sum"=some none)
 :∃ (fd:FuncData) (c T:Addr),(∀ (s:Shared) (v:Value),BindsTo s fd ⟨[v],[]⟩ [("_law_script",v)])/\T∈ts/\K.lookup T=none/\PySem.W.codeHdIn K c T=true/\gA K=some T/\∀ base:Heap,K.In base->base.Ns mainGlobals mg->LX mg base->h8 l.prog w K mg base wJ 7 fa fd ["_law_script"] (sR K xV):=by
 obtain⟨oc,od,sl,kV,dc,pm,an,cd,ct,a,l1,e1,k1⟩:=d54;have e:=hfa.symm.trans (PySem.W.mg_of X G a)
 cases e
 have hlam:gA K=some T:=yY aL lL rfl gc gt;have m0:=PySem.W.mg_none_of X G z0;have m1:=PySem.W.mg_none_of X G z1;have m2:=PySem.W.mg_none_of X G z2;have m3:=PySem.W.mg_none_of X G z3;have m4:=PySem.W.mg_none_of X G z4;have m5:=PySem.W.mg_none_of X G z5;have m6:=PySem.W.mg_none_of X G z6;have m7:=PySem.W.mg_none_of X G z7;have m8:=PySem.W.mg_none_of X G z8;have m9:=PySem.W.mg_none_of X G z9;refine⟨PySem.W.fnOf "law" "law" (dW kl) (cq kl) (al kl) .none kV dc pm an cd ct,cc,T,λs v=>.of_eq rfl,gs,gn,hhd,hlam,λbase kb _ hBM=>?_⟩;obtain⟨mb,bm⟩:=hBM;have Q:=λ{x st f N ps sp u} k=>@MW l.prog w K mg base h X G x st f N ps sp u k;have c46:=Q 0 d46 cx rZ (λ_ _ _ _ _ _ hr=>tF m6 m7 m8 m1 hr) (by walk_at"bn") (by walk_at"ln")
 have c49:=Q 0 d49 gL vX (λ_ _ _ _ _ _ hr=>yq m6 hr) (by walk_at"bn") (by walk_at"ln")
 have c50:=Q 1 d50 a8 uu (λ_ _ _ _ _ _ hr=>vh m6 c49 hr) (by walk_at"bn") (by walk_at"ln")
 have c52:=Q 0 d52 bN vY (λ_ _ _ _ _ _ hr=>yr hr) (by walk_at"bn") (by walk_at"ln")
 have c47:=Q 0 d47 dF rY (λ_ _ _ _ _ _ hr=>tE m0 hr) (by walk_at"bn") (by walk_at"ln")
 have c48:=Q 1 d48 fM pe (λ_ _ _ _ _ _ hr=>qA c47 hr) (by walk_at"bn") (by walk_at"ln")
 have c51:=Q 2 d51 cC zk (λ_ _ _ _ _ _ hr=>Ak m1 m9 c48 hr) (by walk_at"bn") (by walk_at"ln")
 have c7:=Q 0 d7 ox vS (λ_ _ _ _ _ _ hr=>yj hr) (by walk_at"bn") (by walk_at"ln")
 have c13:=Q 1 d13 ku sd (λ_ _ _ _ _ _ hr=>tG c7 hr) (by walk_at"bn") (by walk_at"ln")
 have c40:=Q 2 d40 jH v8 (λ_ _ _ _ _ _ hr=>yz c13 hr) (by walk_at"bn") (by walk_at"ln")
 have c5:=Q 0 d5 uC DB (λ_ _ _ _ _ _ hr=>Fj hr) (by walk_at"bn") (by walk_at"ln")
 have c42:=Q 1 d42 gK rX (λ_ _ _ _ _ _ hr=>tD m7 m0 c5 hr) (by walk_at"bn") (by walk_at"ln")
 have c43:=Q 2 d43 jG vW (λ_ _ _ _ _ _ hr=>yo c42 hr) (by walk_at"bn") (by walk_at"ln")
 have c41:=Q 1 d41 jq ph (λ_ _ _ _ _ _ hr=>qB m1 c5 hr) (by walk_at"bn") (by walk_at"ln")
 have c0:=Q 0 d0 dq vV (λ_ _ _ _ _ _ hr=>yn m0 hr) (by walk_at"bn") (by walk_at"ln")
 have c3:=Q 1 d3 sE GC (λ_ _ _ _ _ _ hr=>Jl c0 hr) (by walk_at"bn") (by walk_at"ln")
 have c44:=Q 2 d44 e8 nX (λ_ _ _ _ _ _ hr=>oT c13 c3 c5 hr) (by walk_at"bn") (by walk_at"ln")
 have F:=nH (st:=fu) lL eL kL;have c45:Callee l.prog w K mg base 5 "depth" fe:=pE F (PySem.W.mg_of X G aL) (F.binds (ps:=["points","spot"]) (by walk_at"bn")) (FG ⟨⟨_,_,_,_,_,_,_,_,rfl,lL,eL⟩,kL,hhd,hlam⟩ oy (by walk_at"ln") (λA outer s H E hr=>Fp kb hhd hlam bm m1 m8 c40 c43 c41 c44 hr) DH)
 have c53:=Q 2 d53 cf DI (λ_ _ _ _ _ _ hr=>Fq c48 hr) (by walk_at"bn") (by walk_at"ln")
 have c36:=Q 0 d36 iy nY (λ_ _ _ _ _ _ hr=>oU m1 hr) (by walk_at"bn") (by walk_at"ln")
 have c6:=Q 0 d6 ow vQ (λ_ _ _ _ _ _ hr=>yh hr) (by walk_at"bn") (by walk_at"ln")
 have c8:=Q 1 d8 iU zj (λ_ _ _ _ _ _ hr=>Aj c7 hr) (by walk_at"bn") (by walk_at"ln")
 have c14:=Q 2 d14 gN GK (λ_ _ _ _ _ _ hr=>Jp c13 c8 hr) (by walk_at"bn") (by walk_at"ln")
 have c15:=Q 3 d15 kq DF (λ_ _ _ _ _ _ hr=>Fn m1 c14 hr) (by walk_at"bn") (by walk_at"ln")
 have c16:=Q 4 d16 kr GD (λ_ _ _ _ _ _ hr=>Jm m2 m3 m1 m4 m5 c6 c15 hr) (by walk_at"bn") (by walk_at"ln")
 have c34:=Q 0 d34 bV iu (λ_ _ _ _ _ _ hr=>jf hr) (by walk_at"bn") (by walk_at"ln")
 have c4:=Q 2 d4 gJ vR (λ_ _ _ _ _ _ hr=>yi c3 hr) (by walk_at"bn") (by walk_at"ln")
 have c35:=Q 3 d35 eA ur (λ_ _ _ _ _ _ hr=>vf m2 m3 c34 c4 hr) (by walk_at"bn") (by walk_at"ln")
 have c11:=Q 0 d11 oz v5 (λ_ _ _ _ _ _ hr=>yu m1 hr) (by walk_at"bn") (by walk_at"ln")
 have c37:=Q 4 d37 qf zr (λ_ _ _ _ _ _ hr=>Ap c36 c35 c11 hr) (by walk_at"bn") (by walk_at"ln")
 have c17:=Q 0 d17 uH DM (λ_ _ _ _ _ _ hr=>Fu m6 m1 hr) (by walk_at"bn") (by walk_at"ln")
 have c9:=Q 0 d9 xT GI (λ_ _ _ _ _ _ hr=>Jo hr) (by walk_at"bn") (by walk_at"ln")
 have c10:=Q 2 d10 xS GH (λ_ _ _ _ _ _ hr=>Jn c9 c8 hr) (by walk_at"bn") (by walk_at"ln")
 have c1:=Q 1 d1 kt DK (λ_ _ _ _ _ _ hr=>Ft c0 hr) (by walk_at"bn") (by walk_at"ln")
 have c19:=Q 2 d19 oA DJ (λ_ _ _ _ _ _ hr=>Fs c1 hr) (by walk_at"bn") (by walk_at"ln")
 have c20:=Q 3 d20 du ut (λ_ _ _ _ _ _ hr=>vg m0 c8 c7 c19 hr) (by walk_at"bn") (by walk_at"ln")
 have c2:=Q 0 d2 uF DE (λ_ _ _ _ _ _ hr=>Fm hr) (by walk_at"bn") (by walk_at"ln")
 have c12:=Q 1 d12 qe zl (λ_ _ _ _ _ _ hr=>Al c2 hr) (by walk_at"bn") (by walk_at"ln")
 have c18:=Q 2 d18 da pd (λ_ _ _ _ _ _ hr=>qz m6 m1 c12 hr) (by walk_at"bn") (by walk_at"ln")
 have c21:=Q 4 d21 e7 vT (λ_ _ _ _ _ _ hr=>yk c17 c10 c20 c18 hr) (by walk_at"bn") (by walk_at"ln")
 have c38:=Q 5 d38 gd zn (λ_ _ _ _ _ _ hr=>An m1 c36 c16 c37 c21 hr) (by walk_at"bn") (by walk_at"ln")
 have c22:=Q 0 d22 qd zi (λ_ _ _ _ _ _ hr=>Ai hr) (by walk_at"bn") (by walk_at"ln")
 have c24:=Q 1 d24 uE DD (λ_ _ _ _ _ _ hr=>Fl c5 hr) (by walk_at"bn") (by walk_at"ln")
 have c25:=Q 2 d25 gM v6 (λ_ _ _ _ _ _ hr=>yv c24 c22 hr) (by walk_at"bn") (by walk_at"ln")
 have c26:=Q 3 d26 cR zm (λ_ _ _ _ _ _ hr=>Am m6 m1 c22 c25 c2 hr) (by walk_at"bn") (by walk_at"ln")
 have c27:=Q 2 d27 uD DC (λ_ _ _ _ _ _ hr=>Fk m6 m1 c22 c24 hr) (by walk_at"bn") (by walk_at"ln")
 have c28:=Q 3 d28 uG DG (λ_ _ _ _ _ _ hr=>Fo c2 c27 hr) (by walk_at"bn") (by walk_at"ln")
 have c30:=Q 1 d30 e9 vZ (λ_ _ _ _ _ _ hr=>yt c0 hr) (by walk_at"bn") (by walk_at"ln")
 have c31:=Q 2 d31 de pj (λ_ _ _ _ _ _ hr=>qC m1 m0 c30 c22 hr) (by walk_at"bn") (by walk_at"ln")
 have c32:=Q 3 d32 iz nZ (λ_ _ _ _ _ _ hr=>oV c31 hr) (by walk_at"bn") (by walk_at"ln")
 have c23:=Q 2 d23 fb v7 (λ_ _ _ _ _ _ hr=>yy c5 c1 hr) (by walk_at"bn") (by walk_at"ln")
 have c29:=Q 3 d29 eF ma (λ_ _ _ _ _ _ hr=>mY c23 hr) (by walk_at"bn") (by walk_at"ln")
 have c33:=Q 4 d33 cS zp (λ_ _ _ _ _ _ hr=>Ao m6 m1 m2 c10 c26 c28 c32 c29 hr) (by walk_at"bn") (by walk_at"ln")
 have c39:=Q 5 d39 bJ vU (λ_ _ _ _ _ _ hr=>ym m1 c36 c37 c33 hr) (by walk_at"bn") (by walk_at"ln")
 exact AB (nH (st:=kl) l1 e1 k1) dr (by walk_at"ln") (λcdv A outer s H E hr=>MU (e:=⟨l.prog,w,K,mg,base,_,cdv,A,outer,s,H,E⟩) m1 m2 c46 c50 c52 c51 c45 c53 c38 c39 hr) KG
end Law
open PySem PySem.W PyProof.Rows
set_option maxRecDepth 100000 in
set_option maxHeartbeats 0 in
theorem PySem.Challenge.cw_deepspot_k61_whole_points_led_holds : PySem.Challenge.rw_deepspot_k61_whole_points_led.Holds := by
 w_on;o_law;k_head;(case hw=>w_witness2)
 k_fill
 refine DL.walkT (l:=PySem.Challenge.rw_deepspot_k61_whole_points_led) (n:=63) (k:=7) (x:="_law_script") rfl ⋯ rfl ⟨rfl,⋯,⋯⟩ (λw h Y=>PySem.W.km_in_of Y) (λw h Y=>PySem.W.km_tabs_of Y) ?F
 case F=>
  intro w mg fa h KX G hmg;refine' Law.all_mk KX G hmg (Law.fd_mk ?_ ?_ ?_ ?_) (Law.fd_mk ?_ ?_ ?_ ?_) (Law.fd_mk ?_ ?_ ?_ ?_) (Law.fd_mk ?_ ?_ ?_ ?_) (Law.fd_mk ?_ ?_ ?_ ?_) (Law.fd_mk ?_ ?_ ?_ ?_) (Law.fd_mk ?_ ?_ ?_ ?_) (Law.fd_mk ?_ ?_ ?_ ?_) (Law.fd_mk ?_ ?_ ?_ ?_) (Law.fd_mk ?_ ?_ ?_ ?_) (Law.fd_mk ?_ ?_ ?_ ?_) (Law.fd_mk ?_ ?_ ?_ ?_) (Law.fd_mk ?_ ?_ ?_ ?_) (Law.fd_mk ?_ ?_ ?_ ?_) (Law.fd_mk ?_ ?_ ?_ ?_) (Law.fd_mk ?_ ?_ ?_ ?_) (Law.fd_mk ?_ ?_ ?_ ?_) (Law.fd_mk ?_ ?_ ?_ ?_) (Law.fd_mk ?_ ?_ ?_ ?_) (Law.fd_mk ?_ ?_ ?_ ?_) (Law.fd_mk ?_ ?_ ?_ ?_) (Law.fd_mk ?_ ?_ ?_ ?_) (Law.fd_mk ?_ ?_ ?_ ?_) (Law.fd_mk ?_ ?_ ?_ ?_) (Law.fd_mk ?_ ?_ ?_ ?_) (Law.fd_mk ?_ ?_ ?_ ?_) (Law.fd_mk ?_ ?_ ?_ ?_) (Law.fd_mk ?_ ?_ ?_ ?_) (Law.fd_mk ?_ ?_ ?_ ?_) (Law.fd_mk ?_ ?_ ?_ ?_) (Law.fd_mk ?_ ?_ ?_ ?_) (Law.fd_mk ?_ ?_ ?_ ?_) (Law.fd_mk ?_ ?_ ?_ ?_) (Law.fd_mk ?_ ?_ ?_ ?_) (Law.fd_mk ?_ ?_ ?_ ?_) (Law.fd_mk ?_ ?_ ?_ ?_) (Law.fd_mk ?_ ?_ ?_ ?_) (Law.fd_mk ?_ ?_ ?_ ?_) (Law.fd_mk ?_ ?_ ?_ ?_) (Law.fd_mk ?_ ?_ ?_ ?_) (Law.fd_mk ?_ ?_ ?_ ?_) (Law.fd_mk ?_ ?_ ?_ ?_) (Law.fd_mk ?_ ?_ ?_ ?_) (Law.fd_mk ?_ ?_ ?_ ?_) (Law.fd_mk ?_ ?_ ?_ ?_) ?aL ?lL ?eL ?kL (Law.fd_mk ?_ ?_ ?_ ?_) (Law.fd_mk ?_ ?_ ?_ ?_) (Law.fd_mk ?_ ?_ ?_ ?_) (Law.fd_mk ?_ ?_ ?_ ?_) (Law.fd_mk ?_ ?_ ?_ ?_) (Law.fd_mk ?_ ?_ ?_ ?_) (Law.fd_mk ?_ ?_ ?_ ?_) (Law.fd_mk ?_ ?_ ?_ ?_) (Law.fd_mk ?_ ?_ ?_ ?_) ?gc ?gt ?gh ?gn ?gs ?_ ?_ ?_ ?_ ?_ ?_ ?_ ?_ ?_ ?_
  (case aL=>k_is)
  (case lL=>k_is)
  (case eL=>k_is)
  (case kL=>k_is)
  (case gc=>k_is)
  (case gt=>rfl)
  (case gh=>kernel_rfl)
  (case gn=>kernel_rfl)
  (case gs=>k_mem)
  all_goals(try k_is)

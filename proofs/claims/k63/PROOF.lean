import PyProof.Rows.All
import Wide.All
import OpenK.AllK
import Wide.FinOn
import Lean
import PyProof.EqAt
import PyProof.EqKinds
import PyProof.TupleCall
import KE.KNestM
import PyProof.NeKinds
import PyProof.CompFree
import PyProof.FitsBits
import KE.LcSums
import PyProof.ZipIter
import PyProof.EnumFor
import PyProof.EnumStmt
import PyProof.Rows.EnumRows
import PyProof.Rows.FactsT2
import PyProof.Rows.SortWalk
import PyProof.Rows.FactsT3
import PyProof.LayNew
import KE.KMinKey
import KE.KLam
import PyProof.Rows.CallKwBuiltin
import KE.KRevIter
import PyProof.SetScanFacts
import PyProof.TupleKey
import PyProof.SetKind
import PyProof.DictStraight
import PyProof.IsRules
import PyProof.WalkLemmas
import PyProof.Rows.SetFrom
import PyProof.Rows.SortRuns
import KE.KSortTup
import PyProof.ListNew
import KE.RegKIsAll
import PySem.Challenge.RW_deepspot_k63_whole_regions_in_one_anothe
local macro_rules|`(tactic|ext)=>`(tactic|first|lia|omega)
local macro_rules|`(tactic|symm)=>`(tactic|walk_at"d")
local macro_rules|`(⋯)=>`(by first|decide|ext)
abbrev Frg:=PySem.W.Frag
open List (length_map mem_cons mem_map getElem_mem mem_append mem_cons_self getElem_map mem_singleton mem_cons_of_mem mem_of_getElem? size_toArray map_cons map_map getElem_of_mem map_append length_cons getElem?_map mem_range mem_append_right mem_append_left pairwise_iff_getElem pairwise_cons mem_filter getElem?_set_ne append_nil not_mem_nil length_take getElem?_set_self length_singleton length_reverse length_drop length_range take_append_drop length_replicate map_congr_left filterMap_cons replicate getElem?_append_left length_set reverse_cons getElem?_set lookup_cons getD_eq_getElem?_getD map_take take_of_length_le getElem?_eq_none mem_of_mem_take range_succ length_nil pairwise_map getElem_append_left countP_eq_length_filter nodup_cons getElem?_append_right range_succ_eq_map countP_cons length_filter_le length_eq_zero_iff map_drop foldl_append getElem?_replicate length_dropLast nil_append length_pos_iff ext_getElem? mem_of_mem_drop foldl_cons countP_mono_left head?_reverse head?_eq_getElem? getElem_append_right countP_eq_length countP_le_length)
open Array (getElem?_eq_getElem length_toList getElem?_toList toList_push)
open Nat (le_refl ne_of_lt lt_or_ge le_trans zero_le lt_of_lt_of_le lt_irrefl lt_trichotomy zero_add mod_lt lt_of_le_of_lt ne_of_gt succ_pos lt_succ_self le_of_not_lt lt_trans div_le_self eq_zero_or_pos le_of_lt_succ add_sub_cancel lt_succ_of_lt add_zero)
open Int (le_of_lt mul_pos mul_nonneg mul_comm mul_eq_zero lt_or_le mul_zero zero_mul neg_mul mul_neg_of_pos_of_neg toNat_natCast gcd_dvd_left mul_nonpos_of_nonneg_of_nonpos gcd_dvd_right eq_of_mul_eq_mul_right mul_nonneg_of_nonpos_of_nonpos mul_one mul_nonpos_of_nonpos_of_nonneg natAbs_dvd_natAbs mul_le_mul_of_nonneg_right mul_neg)
open Option (isSome_iff_exists getD_none map_some)
local macro_rules | `(tactic| walk_at"o")=>`(tactic| first | lia | omega)
set_option Elab.async false
set_option linter.all false
set_option maxRecDepth 100000
namespace L2
open PySem PySem.Spec PyProof.Rows
abbrev Key:=Sum Int Str
def JB:Key->Value->Bool
 | .inl k,v=>Value.isInt k v
 | .inr x,v=>Value.isStrOf x v
def QK (w:World):Key->Int
 | .inl k=>hashInt k
 | .inr x=>hashStr w x
theorem bX:∀ {k:Key}{v:Value},JB k v=true->(∃ i t,k=Sum.inl i/\v=Value.int i t)\/(∃ x t,k=Sum.inr x/\v=Value.str x t)
 | .inl i,v,h=>by
  obtain⟨t,e⟩:=Value.isInt_shape (k:=i) (v:=v) h;exact .inl ⟨i,t,rfl,e⟩
 | .inr x,v,h=>by
  obtain⟨t,e⟩:=Value.isStrOf_shape (x:=x) (v:=v) h;exact .inr ⟨x,t,rfl,e⟩
theorem LN (a b:Int):decide ((Sum.inl a:Key)=Sum.inl b)=(a == b):=by
 by_cases e:a=b
 .subst e;simp
 .have h:¬ (Sum.inl a:Key)=Sum.inl b:=λq=>e (Sum.inl.inj q);rw[decide_eq_false h];exact(beq_eq_false_iff_ne.mpr e).symm
theorem LQ (a b:Str):decide ((Sum.inr a:Key)=Sum.inr b)=decide (a=b):=by
 by_cases e:a=b
 .subst e;simp
 .have h:¬ (Sum.inr a:Key)=Sum.inr b:=λq=>e (Sum.inr.inj q);rw[decide_eq_false h,decide_eq_false e]
theorem LO (a:Int)(b:Str):decide ((Sum.inl a:Key)=Sum.inr b)=false:=decide_eq_false (λq=>nomatch q)
theorem LP (a:Str)(b:Int):decide ((Sum.inr a:Key)=Sum.inl b)=false:=decide_eq_false (λq=>nomatch q)
def yv (prog:Program)(w:World):PySem.KeyKind prog w Key where
 is:=JB
 hash:=QK w
 inj:=λv a b ha hb=>by
  obtain⟨i,t,rfl,rfl⟩|⟨x,t,rfl,rfl⟩:=bX ha
  .rcases bX hb with ⟨j,u,rfl,e⟩|⟨y,u,rfl,e⟩
   .injection e with e1 _;rw[e1]
   .exact nomatch e
  .rcases bX hb with ⟨j,u,rfl,e⟩|⟨y,u,rfl,e⟩
   .exact nomatch e
   .injection e with e1 _;rw[e1]
 byValue:=λk v h=>by
  rcases bX h with ⟨i,t,rfl,rfl⟩|⟨x,t,rfl,rfl⟩ <;> rfl
 pyHash:=λd h=>by
  obtain⟨i,t,rfl,rfl⟩|⟨x,t,rfl,rfl⟩:=bX d
  .exact wpAny_pyHash_int h
  .exact wpAny_pyHash_str h
 eqBool:=λg d h=>by
  obtain⟨i,t,rfl,rfl⟩|⟨x,t,rfl,rfl⟩:=bX g
  .rcases bX d with ⟨j,u,rfl,rfl⟩|⟨y,u,rfl,rfl⟩
   .rw[LN]at h;exact wpAny_eqBool_int h
   .rw[LO]at h;exact SeqAt.EqAt.int_str i t y u _ _ _ _ h
  .rcases bX d with ⟨j,u,rfl,rfl⟩|⟨y,u,rfl,rfl⟩
   .rw[LP]at h;exact SeqAt.EqAt.str_int x t j u _ _ _ _ h
   .rw[LQ]at h;exact wpAny_eqBool_str h
 «strs»:=λk x t v h=>by
  obtain⟨i,u,rfl,e⟩|⟨y,u,rfl,e⟩:=bX h
  .exact nomatch e
  .injection e with e1 _
   subst e1
   cases v <;> rfl
inductive V where
 |non|bl (b:Bool)|int (i:Int)|str (x:Str)|byt (b:Array UInt8)|flt (b:UInt64)|ref (a:Addr)|ty (n:String)
 deriving DecidableEq
def RelV:V->Value->Prop
 | .non,u=>u=Value.none
 | .bl b,u=>u=Value.bool b
 | .int i,u=>∃ t,u=Value.int i t
 | .str x,u=>∃ t,u=Value.str x t
 | .byt b,u=>∃ t,u=Value.bytes b t
 | .flt b,u=>∃ t,u=Value.float b t
 | .ref a,u=>u=Value.ref a
 | .ty n,u=>u=Value.type n
abbrev aT:List V->List Value->Prop:=Paired RelV
theorem aT.length (r:aT xs us):xs.length=us.length:=Paired.length r
theorem aT.get:∀ {a:List V}{b:List Value}{i:Nat}{x:V},aT a b->a[i]?=some x->∃ u,b[i]?=some u/\RelV x u
 |_,_,_,_,.nil,e=>by simp at e
 |_,_,0,_,.cons r _,e=>by simp at e;subst e;exact⟨_,rfl,r⟩
 |_,_,i+1,x,.cons _ t,e=>by
  obtain⟨u,d,h⟩:=aT.get (i:=i) (x:=x) t (by simpa using e)
  exact⟨u,by simpa using d,h⟩
theorem aT.set (r:RelV x u):∀ {a:List V}{b:List Value} (i:Nat),aT a b->aT (a.set i x) (b.set i u)
 |_,_,_,.nil=>.nil
 |_,_,0,.cons _ t=>.cons r t
 |_,_,i+1,.cons q t=>.cons q (aT.set r i t)
theorem aT.append:∀ {x y:List V}{u a:List Value},aT x u->aT y a->aT (x++y) (u++a)
 |_,_,_,_,.nil,s=>s
 |_,_,_,_,.cons r t,s=>.cons r (aT.append t s)
theorem aT.take:∀ {x:List V}{u:List Value} (n:Nat),aT x u->aT (x.take n) (u.take n)
 |_,_,0,_=>.nil
 |_,_,_+1,.nil=>.nil
 |_,_,n+1,.cons r t=>.cons r (aT.take n t)
theorem aT.drop:∀ {x:List V}{u:List Value} (n:Nat),aT x u->aT (x.drop n) (u.drop n)
 |_,_,0,r=>r
 |_,_,_+1,.nil=>.nil
 |_,_,n+1,.cons _ t=>aT.drop n t
def FX:Option V->Option Value->Prop
 |some v,some u=>RelV v u
 |none,none=>True
 |_,_=>False
def KV {κ:Type}:List (κ × V)->List (κ × Value)->Prop:=Paired λ(p:κ × V) (q:κ × Value)=>p.1=q.1/\RelV p.2 q.2
def kV:Key->V
 | .inl i=>.int i
 | .inr x=>.str x
inductive HO where
  |lst (xs:List V)
  |tup (xs:List V)
  |dK (kvs:List (Key × V))|dT (kvs:List (List Key × V))
  |set (S:Int->Bool) (n:Nat)
  |ins (C dx:Addr) (fs:List (Str × V))
  |own (x:Addr)
  |xd (fs:List (Str × V))
  |met (f x:Addr)
  |rng (lo hi:Int)
  |frz (o:Obj) (u:HO)
  |tbl (ps:Array Value)
  |ext (φ:Heap->Prop)
abbrev Hp:=Addr->Option HO
def cs (H:Hp)(a:Addr)(o:HO):Hp:=λb=>if b=a then some o else H b
theorem aW:cs H a o a=some o:=by unfold cs;rw[if_pos rfl]
theorem aV (h:b≠a):cs H a o b=H b:=by unfold cs;rw[if_neg h]
theorem bb {H:Hp}{a b:Addr}{o:HO}(h:H a=some o)(h':H b=none):a≠b:=by
 intro e;subst e;rw[h]at h';cases h'
section
variable (P:Program) (w:World)
def fh (H:Hp)(h:Heap)(a:Addr):HO->Prop
 | .lst b=>b.length<=sizeLine/\∃ (i:List Value) (n:Nat),aT b i/\h.get? a=some {cls:=.type "list",data:=.seq i.toArray n}
 | .tup b=>b.length<=sizeLine/\∃ i:List Value,aT b i/\IsTup h a i.toArray
 | .dK k=>k.length<=sizeLine/\(a == sysModules)=false/\∃ d,KV k d/\h.DictOf (yv P w) a d
 | .dT k=>k.length<=sizeLine/\(a == sysModules)=false/\∃ b:List (List Key × Addr × Value),
   Paired (λ(p:List Key × V) (q:List Key × Addr × Value)=>p.1=q.1/\H q.2.1=some (.tup (p.1.map kV))/\RelV p.2 q.2.2) k b ∧
   ∃ o e d,h.get? a=some o/\o.ExactDict/\o.data=.dict e d/\e.toList=b.map (entryOfKey (tupleKind (yv P w)))/\(b.map (·.1)).Nodup
 | .set S n=>h.SetOf (intKind P w) a S n
 | .ins C d fs=>H d=some (.own a)/\fs.length<=1000/\d≠a/\h.get? a=some (PySem.W.instObj C d) ∧
   ∃ m,h.Ns1 d m/\(∀ f,FX (fs.lookup f) (m f))/\PySem.Within m (fs.map (·.1))
 | .own _=>∃ o,h.get? a=some o
 | .xd fs=>∃ m,h.Ns1 a m/\∀ f,FX (fs.lookup f) (m f)
 | .rng lo hi=>∃ t u v,h.get? a=some {cls:=.type "range",data:=.fields #[.int lo t,.int hi u,.int 1 v]}
 | .frz o u=>h.get? a=some o/\fh H h a u
 | .tbl b=>h.get? a=some {cls:=.none,data:=.fields b}
 | .met f x=>h.get? a=some (PySem.W.methodObj (.ref f) (.ref x))
 | .ext b=>b h/\(∃ o,h.get? a=some o)/\∀ e d:Heap,b e->(∀ o,e.get? a=some o->d.get? a=some o)->b d
def gz (H:Hp)(h:Heap):Prop:=∀ a o,H a=some o->fh P w H h a o
end
section
variable {P:Program}{w:World}{H H':Hp}{h h':Heap}{a:Addr}{o:HO}
theorem fh.lt (x:fh P w H h a o):a<h.objs.size:=by
 cases o with
 |lst b=>obtain⟨_,_,_,_,e⟩:=x;exact Heap.lt_size e
 |tup b=>obtain⟨_,_,_,p⟩:=x;exact p.lt
 |dK k=>obtain⟨_,_,_,_,o,_,_,e,_⟩:=x;exact Heap.lt_size e
 |dT k=>obtain⟨_,_,_,_,o,_,_,e,_⟩:=x;exact Heap.lt_size e
 |set S n=>obtain⟨o,_,_,_,e,_⟩:=x;exact Heap.lt_size e
 |ins C d fs=>obtain⟨_,_,_,e,_⟩:=x;exact Heap.lt_size e
 |own y=>obtain⟨_,e⟩:=x;exact Heap.lt_size e
 |xd fs=>obtain⟨_,⟨_,_,_,e,_⟩,_⟩:=x;exact Heap.lt_size e
 |rng lo hi=>obtain⟨_,_,_,e⟩:=x;exact Heap.lt_size e
 |frz b u=>obtain⟨e,_⟩:=x;exact Heap.lt_size e
 |tbl b=>exact Heap.lt_size (show h.get? a=some _ from x)
 |met f y=>exact Heap.lt_size (show h.get? a=some _ from x)
 |ext b=>obtain⟨_,⟨_,e⟩,_⟩:=x;exact Heap.lt_size e
theorem Paired.mapP:∀ {e:List α}{d:List β},Paired F e d->(∀ a b,F a b->G a b)->Paired G e d
 |_,_,.nil,_=>.nil
 |_,_,.cons r t,f=>.cons (f _ _ r) (Paired.mapP t f)
theorem fh.stay (x:fh P w H h a o)(k:∀ b u,(b=a\/H b=some (.own a))->h.get? b=some u->h'.get? b=some u)
  (F:∀ b,H b=some (.own a)->H' b=some (.own a)) (E:∀ b B,H b=some (.tup B)->H' b=some (.tup B)):fh P w H' h' a o:=by
 induction o with
 |lst B=>obtain⟨z,i,n,r,e⟩:=x;exact⟨z,i,n,r,k _ _ (.inl rfl) e⟩
 |tup B=>obtain⟨z,i,r,g,e,c⟩:=x;exact⟨z,i,r,g,k _ _ (.inl rfl) e,c⟩
 |dK D=>obtain⟨z,y,I,r,g,m,i,e,c⟩:=x;exact⟨z,y,I,r,g,m,i,k _ _ (.inl rfl) e,c⟩
 |dT D=>
  obtain⟨z,y,B,r,g,m,i,e,c⟩:=x;exact⟨z,y,B,Paired.mapP r λp q z=>⟨z.1,E _ _ z.2.1,z.2.2⟩,g,m,i,k _ _ (.inl rfl) e,c⟩
 |set S n=>obtain⟨g,m,i,t,e,c⟩:=x;exact⟨g,m,i,t,k _ _ (.inl rfl) e,c⟩
 |ins C B fs=>
  obtain⟨d,z,ne,e,B,⟨D,m,i,I,c⟩,r⟩:=x;exact⟨F _ d,z,ne,k _ _ (.inl rfl) e,B,⟨D,m,i,k _ _ (.inr d) I,c⟩,r⟩
 |own y=>obtain⟨g,e⟩:=x;exact⟨g,k _ _ (.inl rfl) e⟩
 |xd fs=>obtain⟨B,⟨D,m,i,e,c⟩,r⟩:=x;exact⟨B,⟨D,m,i,k _ _ (.inl rfl) e,c⟩,r⟩
 |rng lo hi=>obtain⟨t,u,v,e⟩:=x;exact⟨t,u,v,k _ _ (.inl rfl) e⟩
 |frz g u i=>obtain⟨e,q⟩:=x;exact⟨k _ _ (.inl rfl) e,i q⟩
 |tbl g=>
  have e:h.get? a=some {cls:=.none,data:=.fields g}:=x;show h'.get? a=some {cls:=.none,data:=.fields g};exact k a _ (.inl rfl) e
 |met f y=>
  have e:h.get? a=some (PySem.W.methodObj (.ref f) (.ref y)):=x;show h'.get? a=some (PySem.W.methodObj (.ref f) (.ref y));exact k a _ (.inl rfl) e
 |ext g=>obtain⟨p,⟨o,e⟩,g⟩:=x;exact⟨g _ _ p λo q=>k _ _ (.inl rfl) q,⟨o,k _ _ (.inl rfl) e⟩,g⟩
theorem gz.lt (x:gz P w H h)(e:H a=some o):a<h.objs.size:=(x a o e).lt
theorem gz.fresh (x:gz P w H h)(e:h.objs.size<=a):H a=none:=by
 cases q:H a with
 |none=>rfl
 |some u=>exact absurd (lt_of_lt_of_le (x.lt q) e) (lt_irrefl _)
theorem gz.kept (x:gz P w H h)(k:∀ b u,h.get? b=some u->h'.get? b=some u):gz P w H h':=λa o e=>
 (x a o e).stay (λb u _ q=>k b u q) (λ_ q=>q) λ_ _ q=>q
theorem gz.laid (x:gz P w H h)(k:∀ b u,h.get? b=some u->h'.get? b=some u)(p:h.objs.size<=a)(new:fh P w (cs H a o) h' a o):gz P w (cs H a o) h':=λb u e=>by
 have d:=x.fresh p
 by_cases hb:b=a
 .subst hb;rw[aW]at e;cases e;exact new
 .rw[aV hb]at e;exact(x b u e).stay (λc v _ q=>k c v q) (λc q=>by rw[aV (bb q d)];exact q) λc g q=>by rw[aV (bb q d)];exact q
end
def Rd (H:Hp)(a:Addr)(u:HO):Prop:=H a=some u\/∃ o,H a=some (.frz o u)
theorem Rd.of (h:H a=some u):Rd H a u:=.inl h
theorem Rd.ok (r:Rd H a u)(x:gz P w H h):fh P w H h a u:=by
 obtain r|⟨o,r⟩:=r
 .exact x a u r
 .obtain⟨_,q⟩:=x a _ r;exact q
def P8:Option HO->Prop
 |some (.lst _)=>True
 |some (.dK _)=>True
 |some (.dT _)=>True
 |some (.set _ _)=>True
 |some (.ins _ _ _)=>True
 |some (.ext _)=>True
 |_=>False
section
variable {P:Program}{w:World}{H:Hp}{h h':Heap}{x e:Addr}{o':HO}
theorem gz.write (ok:gz P w H h)(m:P8 (H x))(he:e=x\/H e=some (.own x))(k:∀ b u,b≠e->h.get? b=some u->h'.get? b=some u)(o:∃ u,h'.get? e=some u)
  (new:fh P w (cs H x o') h' x o'):gz P w (cs H x o') h':=λb u q=>by
 have d:∀ c y,H c=some (.own y)->c≠x:=λc y r z=>by subst z;rw[r]at m;exact m
 have p:∀ c g,H c=some (.tup g)->c≠x:=λc g r z=>by subst z;rw[r]at m;exact m
 by_cases hb:b=x
 .subst hb;rw[aW]at q;cases q;exact new
 .rw[aV hb]at q
  by_cases a:b=e
  .have i:H b=some (.own x):=by
    obtain z|z:=he
    .exact absurd (a.trans z) hb
    .rw[a];exact z
   rw[q]at i;cases i
   obtain⟨v,i⟩:=o;exact⟨v,by rw[a];exact i⟩
  .refine(ok b u q).stay (λc v i r=>k c v ?_ r) (λc r=>by rw[aV (d c b r)];exact r) λc g r=>by rw[aV (p c g r)];exact r
   obtain rfl|i:=i
   .exact a
   .rintro rfl
    obtain z|z:=he
    .exact d c b i z
    .rw[i]at z;cases z;exact hb rfl
end
structure Un (fs ex:List Addr) (H H':Hp) (h h':Heap):Prop where
 keep:∀ b o,h.get? b=some o->H b=none->b∉fs->b∉ex->h'.get? b=some o
 slot:∀ b o,h.get? b=some o->H b=none->b∈fs->b∉ex->∃ sl,h'.get? b=some {o with slots:=sl}
 free:∀ b o,h.get? b=some o->H b=none->b∉ex->H' b=none
 there:∀ b o,h.get? b=some o->b∉ex->∃ o',h'.get? b=some o'
 tups:∀ b xs,H b=some (.tup xs)->H' b=some (.tup xs)
 frzs:∀ b o u,H b=some (.frz o u)->H' b=some (.frz o u)
 tbls:∀ b ps,H b=some (.tbl ps)->∃ more,H' b=some (.tbl (ps++more))
section
variable {fs fs' ex ex':List Addr}{H H1 H2:Hp}{h h1 h2 h':Heap}{a x e:Addr}{o:HO}
theorem Un.any (u:Un fs ex H H1 h h1)(q:h.get? b=some d)(n:H b=none)(g:b∉ex):∃ i,h1.get? b=some {d with slots:=i}:=by
 by_cases hb:b∈fs
 .exact u.slot b d q n hb g
 .exact⟨d.slots,u.keep b d q n hb g⟩
theorem Un.trans (a:Un fs ex H H1 h h1)(b:Un fs ex H1 H2 h1 h2):Un fs ex H H2 h h2 where
 keep:=λc g q n k d=>b.keep c g (a.keep c g q n k d) (a.free c g q n d) k d
 slot:=λc g q n k d=>by
  obtain⟨i,i⟩:=a.slot c g q n k d;obtain⟨m,p⟩:=b.slot c _ i (a.free c g q n d) k d;exact⟨m,p⟩
 free:=λc g q n d=>by
  obtain⟨k,i⟩:=a.there c g q d;exact b.free c k i (a.free c g q n d) d
 there:=λc g q d=>by
  obtain⟨k,i⟩:=a.there c g q d;exact b.there c k i d
 tups:=λc d q=>b.tups c d (a.tups c d q)
 frzs:=λc g d q=>b.frzs c g d (a.frzs c g d q)
 tbls:=λc d q=>by
  obtain⟨m,i⟩:=a.tbls c d q;obtain⟨d,p⟩:=b.tbls c _ i;exact⟨m++d,by rw[p,Array.append_assoc]⟩
theorem Un.kept (k:∀ b u,h.get? b=some u->h'.get? b=some u):Un fs ex H H h h':=
 ⟨λb d q _ _ _=>k b d q,λb d q _ _ _=>⟨d.slots,k b d q⟩,λ_ _ _ n _=>n,λb d q _=>⟨d,k b d q⟩,λ_ _ q=>q,λ_ _ _ q=>q,λ_ p q=>⟨#[],by rw[q];simp⟩⟩
theorem Un.refl:Un fs ex H H h h:=Un.kept λ_ _ q=>q
theorem Un.laid (k:∀ b u,h.get? b=some u->h'.get? b=some u)(p:h.objs.size<=a)(d:H a=none):Un fs ex H (cs H a o) h h' where
 keep:=λb u q _ _ _=>k b u q
 slot:=λb u q _ _ _=>⟨u.slots,k b u q⟩
 free:=λb u q n _=>by rw[aV (ne_of_lt (lt_of_lt_of_le (Heap.lt_size q) p))];exact n
 there:=λb u q _=>⟨u,k b u q⟩
 tups:=λb g q=>by rw[aV (bb q d)];exact q
 frzs:=λb u g q=>by rw[aV (bb q d)];exact q
 tbls:=λb g q=>⟨#[],by rw[aV (bb q d),q];simp⟩
theorem Un.write (m:P8 (H x))(he:e=x\/H e=some (.own x))(k:∀ b u,b≠e->h.get? b=some u->h'.get? b=some u)(g:∃ u,h'.get? e=some u):Un fs ex H (cs H x o) h h':=by
 have d:∀ b,H b=none->b≠x:=λb n z=>by subst z;rw[n]at m;exact m
 have hb:∀ b,H b=none->b≠e:=λb n z=>by
  subst z
  obtain r|r:=he
  .exact d b n r
  .rw[n]at r;cases r
 have hm:∀ b u,H b=some u->¬ P8 (some u)->b≠x:=λb u q nm z=>by subst z;rw[q]at m;exact nm m
 refine⟨λb u q n _ _=>k b u (hb b n) q,λb u q n _ _=>⟨u.slots,k b u (hb b n) q⟩,λb u q n _=>by rw[aV (d b n)];exact n,λb u q _=>?_,
  λb d q=>by rw[aV (hm b _ q λz=>z)];exact q,λb u d q=>by rw[aV (hm b _ q λz=>z)];exact q,λb p q=>⟨#[],by rw[aV (hm b _ q λz=>z),q];simp⟩⟩
 by_cases d:b=e
 .subst d;exact g
 .exact⟨u,k b u d q⟩
theorem Un.mono (u:Un fs ex H H1 h h1)(hs:∀ b∈fs,b∈fs')(i:∀ b∈ex,b∈ex'):Un fs' ex' H H1 h h1:=
 ⟨λb g q n hb d=>u.keep b g q n (λz=>hb (hs b z)) λz=>d (i b z),λ_ _ q n _ d=>u.any q n λz=>d (i _ z),λb g q n d=>u.free b g q n λz=>d (i b z),λb g q d=>u.there b g q λz=>d (i b z),u.tups,u.frzs,u.tbls⟩
end
def Qi (h:Heap)(H:Hp):List Addr:=(List.range h.objs.size).filter λa=>(H a).isSome
def pA (h:Heap)(H:Hp):Heap:=PySem.W.hideAll h (Qi h H)
theorem zV (h:Heap)(H:Hp):(pA h H).objs.size=h.objs.size:=PySem.W.hideAll_size _ _
theorem C5 (e:h.get? b=some o)(n:H b=none):(pA h H).get? b=some o:=
 PySem.W.hideAll_get _ e λhm=>by
  have q:(H b).isSome=true:=(mem_filter.mp hm).2;rw[n]at q;simp at q
theorem HE (e:(pA h H).get? b=some o):h.get? b=some o/\H b=none:=by
 have a:h.get? b=some o:=PySem.W.of_hideAll (Qi h H) e;refine⟨a,?_⟩
 cases q:H b with
 |none=>rfl
 |some x=>
  have hm:b∈Qi h H:=mem_filter.mpr ⟨mem_range.mpr (Heap.lt_size a),by simp[q]⟩
  have z:(pA h H).get? b=none:=PySem.W.hideAll_none (Qi h H) hm;rw[z]at e;cases e
def Gm (g h:Heap)(L:Addr):List (Addr × Obj):=(List.range h.objs.size).filterMap λa=>if a=L\/(g.get? a).isSome=true then none else (h.get? a).map λo=>(a,o)
def rest (g h:Heap)(L d:Addr):List (Addr × Obj):=(Gm g h L).filter λp=>decide (p.1≠d)
structure Mod (K:Frg) (mg:Str->Option Value) (base:Heap):Prop where
 kin:K.In base
 glob:base.Ns mainGlobals mg
 blt:∃ mb,base.Ns builtinsNs mb/\∀ x:Str,x≠"__name__"->mb x=bootBuiltins x
 nolimit:base.NoLimit
structure Cx where
 prog:Program
 w:World
 K:Frg
 mg:Str->Option Value
 base:Heap
 A:Around
 N:List Str
 s₀:Shared
 H₀:Hp
 env:Env
 outer:List Env
 stack:List Env
 ex:List Addr
 fn:Str->Bool
 calm:Bool
 pn:List (Addr × Obj)
 xe:Value->Shared->Prop
def zS (l:List Env):List Addr:=l.filterMap (·.frame)
abbrev Cx.fs (X:Cx):List Addr:=zS X.outer
def Qc (a:Scope)(x:Str):Prop:=a.names.lookup x=some .local\/a.names.lookup x=some .cell\/a.names.lookup x=some .free
def Loc (a:Scope)(x:Str):Prop:=a.names.lookup x=some .local\/a.names.lookup x=some .cell
def Look (env:Env)(h:Heap)(m:Str->Option Value)(x:Str)(u:Value):Prop:=
 (env.kindOf x=some .local/\m x=some u)\/((env.kindOf x=some .cell\/env.kindOf x=some .free)/\∃ c,env.cells.lookup x=some c/\h.IsCell c (some u))
structure Cx.Ok (X:Cx):Prop where
 mod:Mod X.K X.mg X.base
 kind:X.env.scope.kind=.function
 glob:X.env.globals=mainGlobals
 blt:X.env.builtins=builtinsNs
 above:X.s₀.heap.objs.size<=X.env.locals
 inj:∀ x y c,X.env.cells.lookup x=some c->X.env.cells.lookup y=some c->x=y
 has:∀ x,(X.env.kindOf x=some .cell\/X.env.kindOf x=some .free)->∃ c,X.env.cells.lookup x=some c
 cab:∀ x c,X.fn x=true->X.env.cells.lookup x=some c->X.s₀.heap.objs.size<=c
 hd:X.calm=true->X.A.handled=none
 frames:X.A.frames=some X.stack
 stk:X.stack=X.outer\/(X.stack=X.env::X.outer/\X.env.frame=some X.env.locals)
 exf:∀ b∈X.ex,b≠X.env.locals/\∀ x c,X.env.cells.lookup x=some c->c≠b
 bs:∀ b o,X.base.get? b=some o->X.s₀.heap.get? b=some o/\X.H₀ b=none
 bsz:X.base.objs.size<=X.s₀.heap.objs.size
 noex:∀ b o,X.base.get? b=some o->b∉X.ex
 exfs:∀ b∈X.ex,b∉X.fs
 funs:X.s₀.heap.FunFrames X.base X.outer
 frf:∀ b∈X.fs,X.H₀ b=none
structure aE (X:Cx) (pins:List (Addr × Obj)) (σ:List (Option V)) (H:Hp) (s:Shared):Prop where
 ok:X.Ok
 os:s.os=X.s₀.os
 bare:AllBare s.gens
 base:Un X.fs X.ex X.H₀ H X.s₀.heap s.heap
 loc:∃ m,s.heap.Ns X.env.locals m/\∀ (i:Nat) (x:Str) (v:V),X.N[i]?=some x->σ[i]?=some (some v)->Qc X.env.scope x->∃ u,RelV v u/\Look X.env s.heap m x u
 cell:∀ x c,X.env.cells.lookup x=some c->∃ v,s.heap.IsCell c v
 free:H X.env.locals=none
 freeC:∀ x c,X.env.cells.lookup x=some c->H c=none
 pin:∀ p∈X.pn++pins,s.heap.get? p.1=some p.2/\H p.1=none/\p.1≠X.env.locals/\p.1∉X.fs/\∀ v,p.2.data≠.cell v
 hok:gz X.prog X.w H s.heap
 len:σ.length=X.N.length
section
variable {X:Cx}{pins:List (Addr × Obj)}{σ:List (Option V)}{H H':Hp}{s:Shared}{h':Heap}
theorem Cx.Ok.nofr (ok:X.Ok)(e:X.base.get? b=some o):b∉X.fs:=λhb=>by
 have:=(ok.funs.mem hb).1;rw[e]at this;cases this
theorem aE.bs (I:aE X pins σ H s):∀ b o,X.base.get? b=some o->s.heap.get? b=some o/\H b=none:=λb o e=>
 ⟨I.base.keep b o (I.ok.bs b o e).1 (I.ok.bs b o e).2 (I.ok.nofr e) (I.ok.noex b o e),I.base.free b o (I.ok.bs b o e).1 (I.ok.bs b o e).2 (I.ok.noex b o e)⟩
theorem aE.bk (I:aE X pins σ H s):∀ b o,X.base.get? b=some o->s.heap.get? b=some o:=λb o e=>(I.bs b o e).1
theorem aE.mod (I:aE X pins σ H s):Mod X.K X.mg X.base:=I.ok.mod
theorem aE.kIn (I:aE X pins σ H s):X.K.In s.heap:=I.ok.mod.kin.keeps I.bk
theorem aE.nolimit (I:aE X pins σ H s):s.heap.NoLimit:=I.ok.mod.nolimit.keeps I.bk
theorem aE.fr (I:aE X pins σ H s):∃ m,Fr X.base X.env.locals s.heap m:=
 let ⟨m,hn,_⟩:=I.loc
 ⟨m,hn,I.bk,le_trans I.ok.bsz I.ok.above⟩
theorem aE.lt (I:aE X pins σ H s):X.env.locals<s.heap.objs.size:=let ⟨_,hn,_⟩:=I.loc;hn.lt
theorem aE.sz (I:aE X pins σ H s):X.s₀.heap.objs.size<=s.heap.objs.size:=le_trans I.ok.above (Nat.le_of_lt I.lt)
theorem aE.nofs (I:aE X pins σ H s)(h:s.heap.objs.size<=a):a∉X.fs:=λhb=>by
 obtain⟨_,o,b,_⟩:=I.ok.funs.mem hb;exact absurd (lt_of_lt_of_le (Heap.lt_size b) (le_trans I.sz h)) (lt_irrefl _)
theorem aE.cne (I:aE X pins σ H s):∀ x c,X.env.cells.lookup x=some c->c≠X.env.locals:=λx c e z=>by
 obtain⟨v,o,b,hd⟩:=I.cell x c e;obtain⟨m,⟨a,a,p,h,a,_⟩,_⟩:=I.loc;rw[z,h]at b;cases b;rw[a]at hd;cases hd
theorem aE.funs (I:aE X pins σ H s):s.heap.FunFrames X.base X.outer:=by
 have all:∀ (l:List Env),(∀ b∈zS l,b∈X.fs)->X.s₀.heap.FunFrames X.base l->s.heap.FunFrames X.base l:=by
  intro l
  induction l with
  |nil=>intro _ _;trivial
  |cons env r i=>
   intro d h;obtain⟨k,⟨L,o,a,m,g,hd⟩,p⟩:=h;have h:L∈X.fs:=d L (by unfold zS;rw[filterMap_cons,a];exact mem_cons_self)
   obtain⟨q,e⟩:=I.base.slot L o g (I.ok.frf L h) h λz=>I.ok.exfs L z h;exact⟨k,⟨L,_,a,m,e,hd⟩,i (λb hb=>d b (by unfold zS;rw[filterMap_cons,a];exact mem_cons_of_mem _ hb)) p⟩
 exact all X.outer (λ_ hb=>hb) I.ok.funs
theorem aE.stack (I:aE X pins σ H s):s.heap.FunFrames X.base X.stack:=by
 obtain e|⟨e,a⟩:=I.ok.stk
 .rw[e];exact I.funs
 .rw[e];obtain⟨m,h,_⟩:=I.loc;refine .cons (by rw[I.ok.kind];decide) a h ?_ I.funs
  exact Heap.get?_none_of_le (le_trans I.ok.bsz I.ok.above)
theorem aE.stkSub (I:aE X pins σ H s):∀ b∈zS X.stack,b∈X.env.locals::X.fs:=λb hb=>by
 obtain e|⟨e,h⟩:=I.ok.stk
 .rw[e]at hb;exact mem_cons_of_mem _ hb
 .rw[e]at hb;unfold zS at hb;rw[filterMap_cons,h]at hb;exact hb
theorem aE.stkFree (I:aE X pins σ H s):∀ b∈zS X.stack,H b=none:=λb hb=>by
 obtain e|hb:=mem_cons.mp (I.stkSub b hb)
 .rw[e];exact I.free
 .obtain⟨_,o,h,_⟩:=I.ok.funs.mem hb;exact I.base.free b o h (I.ok.frf b hb) λz=>I.ok.exfs b z hb
theorem aE.step {g':Array GenState}{t':Nat}{d':Drawn}{ch:List Addr}(I:aE X pins σ H s)
  (g:∀ b∈ch,(b∈X.ex\/X.s₀.heap.objs.size<=b)/\b≠X.env.locals/\(∀ x c,X.env.cells.lookup x=some c->c≠b)/\∀ p∈X.pn++pins,p.1≠b)
  (keep:∀ b o,b≠X.env.locals->b∉X.fs->b∉ch->s.heap.get? b=some o->H b=none->h'.get? b=some o)
  (slot:∀ b o,b≠X.env.locals->b∈X.fs->b∉ch->s.heap.get? b=some o->H b=none->∃ M,h'.get? b=some {o with slots:=M}) (free:∀ b o,b∉ch->s.heap.get? b=some o->H b=none->H' b=none)
  (there:∀ b o,b∉ch->s.heap.get? b=some o->∃ E,h'.get? b=some E)
  (tups:∀ b C,H b=some (.tup C)->H' b=some (.tup C)) (frzs:∀ b o u,H b=some (.frz o u)->H' b=some (.frz o u)) (tbls:∀ b L,H b=some (.tbl L)->∃ a,H' b=some (.tbl (L++a)))
  (ns:∀ m,s.heap.Ns X.env.locals m->h'.Ns X.env.locals m) (hok:gz X.prog X.w H' h') (P:AllBare g') :
  aE X pins σ H' {s with heap:=h',gens:=g',drawn:=d',toks:=t'}:=by
 have F:∀ b o,X.s₀.heap.get? b=some o->b≠X.env.locals:=λb o e=>ne_of_lt (lt_of_lt_of_le (Heap.lt_size e) I.ok.above);have B:∀ b o,X.s₀.heap.get? b=some o->b∉X.ex->b∉ch:=λb o e h hb=>by
  obtain z|z:=(g b hb).1
  .exact h z
  .exact absurd (lt_of_lt_of_le (Heap.lt_size e) z) (lt_irrefl _)
 have y:∀ x c,X.env.cells.lookup x=some c->∀ v,s.heap.IsCell c v->h'.IsCell c v:=λx c e v ⟨o,D,hd⟩=>by
  have a:c∉ch:=λz=>(g c z).2.2.1 x c e rfl
  by_cases J:c∈X.fs
  .obtain⟨M,q⟩:=slot c o (I.cne x c e) J a D (I.freeC x c e);exact⟨_,q,hd⟩
  .exact⟨o,keep c o (I.cne x c e) J a D (I.freeC x c e),hd⟩
 refine⟨I.ok,I.os,P,⟨λb o e n hb h=>?_,λb o e n hb h=>?_,λb o e n h=>?_,λb o e h=>?_,λb C e=>tups b C (I.base.tups b C e),λb o C e=>frzs b o C (I.base.frzs b o C e),λb L e=>?_⟩,?_,λx c e=>?_,?_,λx c e=>?_,λp O=>?_,hok,I.len⟩
 .exact keep b o (F b o e) hb (B b o e h) (I.base.keep b o e n hb h) (I.base.free b o e n h)
 .obtain⟨M,C⟩:=I.base.slot b o e n hb h;obtain⟨M,J⟩:=slot b _ (F b o e) hb (B b o e h) C (I.base.free b o e n h);exact⟨M,J⟩
 .obtain⟨E,C⟩:=I.base.there b o e h;exact free b E (B b o e h) C (I.base.free b o e n h)
 .obtain⟨E,C⟩:=I.base.there b o e h;exact there b E (B b o e h) C
 .obtain⟨h,C⟩:=I.base.tbls b L e;obtain⟨B,J⟩:=tbls b _ C;exact⟨h++B,by rw[J,Array.append_assoc]⟩
 .obtain⟨m,h,B⟩:=I.loc;refine⟨m,ns m h,λi x v C J h=>?_⟩;obtain⟨u,r,l⟩:=B i x v C J h;refine⟨u,r,?_⟩
  obtain l|⟨k,c,e,z⟩:=l
  .exact .inl l
  .exact .inr ⟨k,c,e,y x c e _ z⟩
 .obtain⟨v,z⟩:=I.cell x c e;exact⟨v,y x c e v z⟩
 .obtain⟨m,⟨o,_,_,D,_⟩,_⟩:=I.loc;exact free _ o (λz=>(g _ z).2.1 rfl) D I.free
 .obtain⟨v,o,D,hd⟩:=I.cell x c e;exact free c o (λz=>(g c z).2.2.1 x c e rfl) D (I.freeC x c e)
 .obtain⟨e,n,ne,h,d⟩:=I.pin p O;have a:p.1∉ch:=λz=>(g p.1 z).2.2.2 p O rfl;exact⟨keep p.1 p.2 ne h a e n,free p.1 p.2 a e n,ne,h,d⟩
theorem aE.un {t':Nat}(I:aE X pins σ H s)(u:Un X.fs [] H H' s.heap h')(hok:gz X.prog X.w H' h'):aE X pins σ H' {s with heap:=h',toks:=t'}:=by
 obtain⟨m,⟨o,a,p,g,r⟩,_⟩:=id I.loc;obtain⟨a,i⟩:=u.any g I.free (by simp)
 exact I.step (g':=s.gens) (d':=s.drawn) (ch:=[]) (λ_ z=>nomatch z) (λb o _ hb _ e n=>u.keep b o e n hb (by simp)) (λb o _ hb _ e n=>u.slot b o e n hb (by simp)) (λb o _ e n=>u.free b o e n (by simp)) (λb o _ e=>u.there b o e (by simp)) u.tups u.frzs u.tbls (λa hm=>by
  obtain⟨a,a,d,h,k⟩:=hm;rw[g]at h;cases h
  exact⟨_,a,d,i,k⟩) hok I.bare
theorem aE.call {g':Array GenState}{t':Nat}{d':Drawn}{ch:List Addr}(I:aE X pins σ H s)(u:Un (zS X.stack) ch H H' s.heap h')(hok:gz X.prog X.w H' h')(v:AllBare g')
  (a:∀ b∈ch,(b∈X.ex\/X.s₀.heap.objs.size<=b)/\b≠X.env.locals/\(∀ x c,X.env.cells.lookup x=some c->c≠b)/\∀ p∈X.pn++pins,p.1≠b) :
  aE X pins σ H' {s with heap:=h',gens:=g',drawn:=d',toks:=t'}:=by
 obtain⟨m,⟨o,d,d,k,r⟩,_⟩:=id I.loc;obtain⟨d,d⟩:=u.any k I.free λz=>(a _ z).2.1 rfl;exact I.step (ch:=ch) a (λb o d hb h e n=>u.keep b o e n (λz=>(mem_cons.mp (I.stkSub b z)).elim d hb) h) (λb o _ _ h e n=>u.any e n h) (λb o h e n=>u.free b o e n h) (λb o h e=>u.there b o e h) u.tups u.frzs u.tbls (λg hm=>by
  obtain⟨g,g,i,h,q⟩:=hm;rw[k]at h;cases h
  exact⟨_,g,i,d,q⟩) hok v
theorem aE.turned {t':Nat}{it:Addr}(I:aE X pins σ H s)(k:∀ b o,b≠it->s.heap.get? b=some o->h'.get? b=some o)(D:H it=none)(d:it≠X.env.locals)
  (E:it∈X.ex\/X.s₀.heap.objs.size<=it) (y:∀ x c,X.env.cells.lookup x=some c->c≠it) (g:∀ p∈X.pn++pins,p.1≠it):aE X pins σ H {s with heap:=h',toks:=t'}:=by
 have a:∀ b u,H b=some u->b≠it:=λb u e z=>by rw[z,D]at e;cases e
 refine I.step (g':=s.gens) (d':=s.drawn) (ch:=[it]) (λb hb=>?_) (λb o _ _ h e _=>k b o (λz=>h (by simp[z])) e) (λb o _ _ h e _=>⟨o.slots,k b o (λz=>h (by simp[z])) e⟩) (λ_ _ _ _ n=>n)
  (λb o h e=>⟨o,k b o (λz=>h (by simp[z])) e⟩) (λ_ _ e=>e) (λ_ _ _ e=>e) (λb i e=>⟨#[],by rw[e];simp⟩) (λm hm=>?_) (λb u e=>?_) I.bare
 .have e:b=it:=by simpa using hb
  subst e;exact⟨E,d,y,g⟩
 .obtain⟨o,C,B,i,r⟩:=hm;exact⟨o,C,B,k _ o (Ne.symm d) i,r⟩
 .refine(I.hok b u e).stay (λc v h q=>k c v ?_ q) (λ_ q=>q) λ_ _ q=>q
  obtain z|z:=h
  .rw[z];exact a b u e
  .exact a c _ z
theorem aE.tok (I:aE X pins σ H s)(t:Nat):aE X pins σ H {s with toks:=t}:=I.un (h':=s.heap) (t':=t) Un.refl I.hok
theorem aE.kept (I:aE X pins σ H s)(k:∀ b u,s.heap.get? b=some u->h'.get? b=some u):aE X pins σ H {s with heap:=h',toks:=t'}:=I.un (Un.kept k) (I.hok.kept k)
theorem aE.laid (I:aE X pins σ H s)(k:∀ b u,s.heap.get? b=some u->h'.get? b=some u)(h:s.heap.objs.size<=a)(new:fh X.prog X.w (cs H a o) h' a o) :
  aE X pins σ (cs H a o) {s with heap:=h',toks:=t'}:=I.un (Un.laid k h (I.hok.fresh h)) (I.hok.laid k h new)
theorem aE.write (I:aE X pins σ H s)(m:P8 (H x))(he:e=x\/H e=some (.own x))(k:∀ b u,b≠e->s.heap.get? b=some u->h'.get? b=some u)(h:∃ u,h'.get? e=some u)
  (new:fh X.prog X.w (cs H x o) h' x o):aE X pins σ (cs H x o) {s with heap:=h',toks:=t'}:=I.un (Un.write m he k h) (I.hok.write m he k h new)
theorem aE.weak (I:aE X pins σ H s)(h:a.length=σ.length)(w:∀ (i:Nat) v,a[i]?=some (some v)->σ[i]?=some (some v)):aE X pins a H s:=
 ⟨I.ok,I.os,I.bare,I.base,let ⟨m,hn,hl'⟩:=I.loc;⟨m,hn,λi x v b d e=>hl' i x v b (w i v d) e⟩,I.cell,I.free,I.freeC,I.pin,I.hok,h.trans I.len⟩
theorem aE.pins_of (I:aE X pins σ H s)(h:∀ p∈a,s.heap.get? p.1=some p.2/\H p.1=none/\p.1≠X.env.locals/\p.1∉X.fs/\∀ v,p.2.data≠.cell v):aE X a σ H s:=
 ⟨I.ok,I.os,I.bare,I.base,I.loc,I.cell,I.free,I.freeC,λp b=>(mem_append.mp b).elim (λz=>I.pin p (mem_append_left _ z)) (h p),I.hok,I.len⟩
theorem uP {N:List Str}(h:N.Nodup){i j:Nat}{x:Str}(a:N[i]?=some x)(b:N[j]?=some x):i=j:=by
 obtain⟨d,e⟩:=List.getElem?_eq_some_iff.mp a;obtain⟨d,d⟩:=List.getElem?_eq_some_iff.mp b;exact(List.getElem_inj h).mp (e.trans d.symm)
theorem qF {M:Model}{A:Around}{E:Value->Shared->Prop}{i:Nat}{x:Str}{v:V}{u:Value}{Q:Unit->Shared->Prop}(I:aE X pins σ H s)(hN:X.N.Nodup)(hi:X.N[i]?=some x)(F:Loc X.env.scope x)(r:RelV v u)
  (h:∀ s',aE X pins (σ.set i (some v)) H s'->(∃ a,Heap.SameBut a s.heap s'.heap/\(a=X.env.locals\/X.env.cells.lookup x=some a))->Q () s') (hf:X.fn x=true\/X.env.scope.names.lookup x=some .local:=by first|exact .inl rfl|exact .inr rfl|assumption):wpAny M A (storeName X.env x u) Q E s:=by
 obtain⟨m,hn,hl⟩:=id I.loc;have W:(X.env.scope.kind == .class || (X.env.scope.kind == .module && X.env.locals != X.env.globals))=false:=by rw[I.ok.kind];rfl
 have O:i<σ.length:=by rw[I.len];exact(List.getElem?_eq_some_iff.mp hi).1
 have cne:=I.cne;have B:∀ {a:Addr}{h':Heap},(∃ o,s.heap.get? a=some o/\H a=none)->Heap.SameBut a s.heap h'->gz X.prog X.w H h':=λ{a h'} ha g b ob e=>by
  obtain⟨_,_,J⟩:=ha;refine(I.hok b ob e).stay (λc w' D q=>(g.2 c ?_).trans q) (λ_ q=>q) λ_ _ q=>q;rintro rfl
  obtain rfl|D:=D
  .rw[J]at e;cases e
  .rw[J]at D;cases D
 obtain P|P:=F
 .refine wpAny_storeName_local P hn (λh' hn' g=>?_) W;obtain⟨oL,_,_,hoL,_⟩:=id hn;refine h _ ⟨I.ok,I.os,I.bare,⟨λb o e n hb F=>?_,λb o e n hb F=>?_,I.base.free,λb o e F=>?_,I.base.tups,I.base.frzs,I.base.tbls⟩,⟨_,hn',λj y v' C L e3=>?_⟩,λy c e=>?_,I.free,I.freeC,λp hp=>?_,B ⟨oL,hoL,I.free⟩ g,by simpa using I.len⟩ ⟨_,g,.inl rfl⟩
  .exact(g.2 b (ne_of_lt (lt_of_lt_of_le (Heap.lt_size e) I.ok.above))).trans (I.base.keep b o e n hb F)
  .obtain⟨sl,C⟩:=I.base.slot b o e n hb F;exact⟨sl,(g.2 b (ne_of_lt (lt_of_lt_of_le (Heap.lt_size e) I.ok.above))).trans C⟩
  .obtain⟨o',C⟩:=I.base.there b o e F;exact⟨o',(g.2 b (ne_of_lt (lt_of_lt_of_le (Heap.lt_size e) I.ok.above))).trans C⟩
  .by_cases R:j=i
   .subst R;rw[hi]at C;cases C
    rw[getElem?_set_self O]at L
    cases L
    exact⟨u,r,.inl ⟨P,by simp⟩⟩
   .rw[getElem?_set_ne (Ne.symm R)]at L;obtain⟨u',r',q⟩:=hl j y v' C L e3;refine⟨u',r',?_⟩
    obtain⟨k,e⟩|⟨k,c,e,z⟩:=q
    .refine .inl ⟨k,?_⟩;have:y≠x:=λe=>R (uP hN C (e ▸ hi));simp[this,e]
    .exact .inr ⟨k,c,e,z.sameBut g (cne y c e)⟩
  .obtain⟨w',z⟩:=I.cell y c e;exact⟨w',z.sameBut g (cne y c e)⟩
  .obtain⟨e,n,ne,nf,d⟩:=I.pin p hp;exact⟨(g.2 p.1 ne).trans e,n,ne,nf,d⟩
 .have U:X.fn x=true:=by
   obtain z|z:=hf
   .exact z
   .rw[z]at P;cases P
  obtain⟨c,D⟩:=I.ok.has x (.inl P);obtain⟨w',z⟩:=I.cell x c D;refine wpAny_storeName_cell I.ok.kind P D z (λh' Z g=>?_);obtain⟨oc,hoc,hocd⟩:=id z;refine h {s with heap:=h'} ⟨I.ok,I.os,I.bare,⟨λb o e n hb F=>?_,λb o e n hb F=>?_,I.base.free,λb o e F=>?_,I.base.tups,I.base.frzs,I.base.tbls⟩,⟨m,hn.sameBut g (Ne.symm (cne x c D)),λj y v' C L e3=>?_⟩,λy c' e=>?_,I.free,I.freeC,λp hp=>?_,B ⟨oc,hoc,I.freeC x c D⟩ g,by simpa using I.len⟩ ⟨c,g,.inr D⟩
  .exact(g.2 b (ne_of_lt (lt_of_lt_of_le (Heap.lt_size e) (I.ok.cab x c U D)))).trans (I.base.keep b o e n hb F)
  .obtain⟨sl,C⟩:=I.base.slot b o e n hb F;exact⟨sl,(g.2 b (ne_of_lt (lt_of_lt_of_le (Heap.lt_size e) (I.ok.cab x c U D)))).trans C⟩
  .obtain⟨o',C⟩:=I.base.there b o e F;exact⟨o',(g.2 b (ne_of_lt (lt_of_lt_of_le (Heap.lt_size e) (I.ok.cab x c U D)))).trans C⟩
  .by_cases R:j=i
   .subst R;rw[hi]at C;cases C
    rw[getElem?_set_self O]at L
    cases L
    exact⟨u,r,.inr ⟨.inl P,c,D,Z⟩⟩
   .rw[getElem?_set_ne (Ne.symm R)]at L;obtain⟨u',r',q⟩:=hl j y v' C L e3;refine⟨u',r',?_⟩
    obtain q|⟨k,c',e,z'⟩:=q
    .exact .inl q
    .refine .inr ⟨k,c',e,z'.sameBut g ?_⟩;rintro rfl;exact R (uP hN C (I.ok.inj _ _ _ e D ▸ hi))
  .by_cases Y:c'=c
   .subst Y;exact⟨_,Z⟩
   .obtain⟨w2,z2⟩:=I.cell y c' e;exact⟨w2,z2.sameBut g Y⟩
  .obtain⟨e,n,ne,nf,d⟩:=I.pin p hp;refine⟨(g.2 p.1 ?_).trans e,n,ne,nf,d⟩;intro q;rw[q,hoc]at e;have q':oc=p.2:=Option.some.inj e;exact d w' (by rw[<-q'];exact hocd)
theorem k8 (I:aE X pins σ H s)(e:X.N.Nodup)(hi:X.N[i]?=some x)(b:Loc X.env.scope x)(r:RelV v u)
  (h:∀ a,aE X pins (σ.set i (some v)) H a->Q () a) (g:X.fn x=true\/X.env.scope.names.lookup x=some .local:=by first|exact .inl rfl|exact .inr rfl|assumption):wpAny M A (storeName X.env x u) Q E s:=
 qF I e hi b r (λa d _=>h a d) g
end
abbrev XK:=Value->Option Addr->Hp->Prop
abbrev St:=List (Option V)
abbrev VK:=V->Hp->Prop
abbrev TE:=St->Hp->VK->Prop
abbrev TT:=St->Hp->(Bool->Hp->Prop)->Prop
abbrev TA:=St->Hp->(List V->Hp->Prop)->Prop
structure Ends where
 nx:St->Hp->Prop
 rt:VK
 bk:St->Hp->Prop:=λ_ _=>False
 ct:St->Hp->Prop:=λ_ _=>False
abbrev TS:=Ends->St->Hp->Prop
def EP (X:Cx)(pins:List (Addr × Obj))(σ:St)(Q:VK)(u:Value)(a:Shared):Prop:=∃ v h,aE X pins σ h a/\RelV v u/\Q v h
def TP (X:Cx)(pins:List (Addr × Obj))(σ:St)(Q:Bool->Hp->Prop)(b:Bool)(a:Shared):Prop:=∃ h,aE X pins σ h a/\Q b h
def AP (X:Cx)(pins:List (Addr × Obj))(σ:St)(Q:List V->Hp->Prop)(us:List Value)(a:Shared):Prop:=∃ v h,aE X pins σ h a/\aT v us/\Q v h
def SP (X:Cx)(pins:List (Addr × Obj))(D:Ends)(f:Flow)(b:Shared):Prop:=
 match f with
 | .next=>∃ a h,aE X pins a h b/\D.nx a h
 | .brk=>∃ a h,aE X pins a h b/\D.bk a h
 | .cont=>∃ a h,aE X pins a h b/\D.ct a h
 | .ret u=>∃ v a h,aE X pins a h b/\RelV v u/\D.rt v h
def PE (X:Cx)(e:Expr)(t:TE):Prop:=
 ∀ (p:List (Addr × Obj)) (s:Shared) (a:St) (H:Hp) (Q:VK),aE X p a H s->t a H Q->wpAny (model X.prog X.w) X.A (eval e X.env) (EP X p a Q) X.xe s
def PT (X:Cx)(e:Expr)(t:TT):Prop:=
 ∀ (p:List (Addr × Obj)) (s:Shared) (a:St) (H:Hp) (Q:Bool->Hp->Prop),aE X p a H s->t a H Q->wpAny (model X.prog X.w) X.A (isTrue e X.env (eval e X.env)) (TP X p a Q) X.xe s
def PW (X:Cx)(e:Expr)(t:TT):Prop:=
 ∀ (a:Sem Value) (p:List (Addr × Obj)) (s:Shared) (b:St) (H:Hp) (Q:Bool->Hp->Prop),aE X p b H s->t b H Q->wpAny (model X.prog X.w) X.A (isTrue e X.env a) (TP X p b Q) X.xe s
theorem PW.pt (h:PW X e t):PT X e t:=h _
def PA (X:Cx)(es:List Expr)(t:TA):Prop:=
 ∀ (b:Pos) (p:List (Addr × Obj)) (s:Shared) (a:St) (H:Hp) (Q:List V->Hp->Prop),aE X p a H s->t a H Q->wpAny (model X.prog X.w) X.A (spliced (backTo b (starEach es X.env))) (AP X p a Q) X.xe s
def PS (X:Cx)(st:Stmt)(t:TS):Prop:=
 ∀ (p:List (Addr × Obj)) (s:Shared) (a:St) (H:Hp) (D:Ends),aE X p a H s->t D a H->wpAny (model X.prog X.w) X.A (exec st X.env) (SP X p D) X.xe s
def ki (X:Cx)(st:List Stmt)(t:TS):Prop:=
 ∀ (p:List (Addr × Obj)) (s:Shared) (a:St) (H:Hp) (D:Ends),aE X p a H s->t D a H->wpAny (model X.prog X.w) X.A (execs st X.env) (SP X p D) X.xe s
theorem cG (h:wpAny M A t Q E s)(b:∀ a s,Q a s->q a s):wpAny M A t q E s:=wpAny_mono h b λ_ _ x=>x
section
variable {X:Cx}
def vg (i:Nat):TE:=λa H Q=>∃ v,a[i]?=some (some v)/\Q v H
def tC (v:V):TE:=λ_ H Q=>Q v H
theorem EZ (z:X.N[i]?=some x) (q:Qc X.env.scope x) (hd:(x == ("__debug__":Str))=false:=by decide) (d:(x == ("__classdict__":Str))=false:=by decide):PE X (.Name x g) (vg i):=by
 intro p s k H Q I h;obtain⟨v,e,h⟩:=h;obtain⟨m,y,a⟩:=I.loc;obtain⟨u,r,l⟩:=a i x v z e q;have b:EP X p k Q u s:=⟨v,H,I,r,h⟩
 obtain⟨k,hm⟩|⟨k,c,o,a⟩:=l
 .exact wpAny_Name (wpAny_loadName_local I.ok.kind k y hm b) hd
 .rcases k with k|k
  .exact wpAny_Name (wpAny_loadName_cell I.ok.kind k o a b) hd
  .exact wpAny_Name (wpAny_loadName_free I.ok.kind k o a b d) hd
theorem Ms {i j p}:PE X (.Constant (.int i) j p) (tC (.int i)):=λ_ _ _ H _ I h=>wpAny_Constant_int ⟨.int i,H,I.tok _,⟨_,rfl⟩,h⟩
theorem Pn {b j p}:PE X (.Constant (.bool b) j p) (tC (.bl b)):=λ_ _ _ H _ I h=>Constant_bool ⟨.bl b,H,I,rfl,h⟩
theorem Mu {j p}:PE X (.Constant .none j p) (tC .non):=λ_ _ _ H _ I h=>Constant_none ⟨.non,H,I,rfl,h⟩
theorem Mx {x j p}:PE X (.Constant (.str x) j p) (tC (.str x)):=λ_ _ _ H _ I h=>Calls.Constant_str ⟨.str x,H,I.tok _,⟨_,rfl⟩,h⟩
def Gl (X:Cx)(x:Str):Prop:=X.env.kindOf x=some .globalImplicit
theorem Ho (I:aE X pins σ H s)(g:Gl X x)(hm:X.mg x=some u)(h:Q u s)
  (hd:(x == ("__debug__":Str))=false:=by decide):wpAny (model X.prog X.w) X.A (eval (.Name x p) X.env) Q E s:=
 Calls.Name_function_global I.ok.kind g (Calls.loadGlobal_global (by rw[I.ok.glob];exact I.mod.glob.keeps I.bk) hm h) hd
theorem fP (I:aE X pins σ H s)(g:Gl X x)(hm:X.mg x=none)(v:bootBuiltins x=some u)(h:Q u s)
  (b:x≠"__name__":=by decide) (hd:(x == ("__debug__":Str))=false:=by decide):wpAny (model X.prog X.w) X.A (eval (.Name x p) X.env) Q E s:=by
 obtain⟨m,d,a⟩:=I.mod.blt;exact Calls.Name_function_global I.ok.kind g (Calls.loadGlobal_builtin (by rw[I.ok.glob];exact I.mod.glob.keeps I.bk) hm (by rw[I.ok.blt];exact d.keeps I.bk) ((a x b).trans v) h) hd
theorem Ia (g:Gl X x) (hm:X.mg x=none) (a:bootBuiltins x=some u) (r:RelV v u) (b:x≠"__name__":=by decide) (hd:(x == ("__debug__":Str))=false:=by decide):PE X (.Name x p) (tC v):=
 λ_ _ _ H _ I h=>fP I g hm a ⟨v,H,I,r,h⟩ b hd
variable {a b:Expr}{ta tb:TE}{pos:Pos}
def tB (t:TE):TT:=λd H Q=>t d H λx h=>∃ c,x=.bl c/\Q c h
theorem MJ (h:PE X e t)(he:∀ g,isTrue e X.env g=(do let v ← g;standAt e.pos;holding [v] (truthy v)):=by intro _;rfl):PT X e (tB t):=by
 intro p s i H Q I g;refine isTrue_plain (cG (h p s i H _ I g) ?_) (he _);rintro v g ⟨x,i,k,r,g⟩;obtain⟨d,rfl,q⟩:=g
 cases r
 exact wpAny_truthy_bool ⟨i,k,q⟩
variable {tA tB':TT}{rest:List Expr}
def QZ (t u:TT):TT:=λd H Q=>t d H λc h=>if c=true then u d h Q else Q false h
def RV (t u:TT):TT:=λd H Q=>t d H λc h=>if c=true then Q true h else u d h Q
def Q7 (t:TT):TT:=λd H Q=>t d H λc h=>Q (!c) h
theorem IB (ha:PT X a tA):PW X (.BoolOp .And [a] pos) tA:=by
 intro d p s d H Q I h;refine isTrue_and (cG (ha p s d H Q I h) λc d e=>?_)
 cases c with
 |true=>exact isTrue_and_nil e
 |false=>exact e
theorem MM (ha:PT X a tA):PW X (.BoolOp .Or [a] pos) tA:=by
 intro d p s d H Q I h;refine isTrue_or (cG (ha p s d H Q I h) λc d e=>?_)
 cases c with
 |false=>exact isTrue_or_nil e
 |true=>exact e
theorem ML (ha:PT X a tA)(hb:PW X (.BoolOp .And (b::rest) pos) tB'):PW X (.BoolOp .And (a::b::rest) pos) (QZ tA tB'):=by
 intro k p s e H Q I h;refine isTrue_and (cG (ha p s e H _ I h) ?_);rintro c g ⟨d,i,q⟩
 cases c with
 |true=>exact hb k p g e d Q i q
 |false=>exact⟨d,i,q⟩
theorem Pu (ha:PT X a tA)(hb:PW X (.BoolOp .Or (b::rest) pos) tB'):PW X (.BoolOp .Or (a::b::rest) pos) (RV tA tB'):=by
 intro k p s e H Q I h;refine isTrue_or (cG (ha p s e H _ I h) ?_);rintro c g ⟨d,i,q⟩
 cases c with
 |true=>exact⟨d,i,q⟩
 |false=>exact hb k p g e d Q i q
theorem MI (ha:PT X a tA):PT X (.UnaryOp .Not a pos) (Q7 tA):=by
 intro p s d H Q I h;exact isTrue_not (ha p s d H (λc d=>Q (!c) d) I h)
def PJ (ta tb:TE):TE:=λd H Q=>ta d H λx h=>∃ c,x=.bl c/\if c=true then tb d h Q else Q (.bl false) h
def PN (ta:TE):TE:=λd H Q=>ta d H λx h=>∃ c,x=.bl c/\Q (.bl (!c)) h
theorem Mw {op}(h:PE X a t):PE X (.BoolOp op [a] pos) t:=λp s d H Q I e=>BoolOp_one (h p s d H Q I e)
theorem Mr (ha:PE X a ta)(hb:PE X (.BoolOp .And (b::rest) pos) tb):PE X (.BoolOp .And (a::b::rest) pos) (PJ ta tb):=by
 intro p s e H Q I h;refine BoolOp_and (cG (ha p s e H _ I h) ?_);rintro v g ⟨x,d,i,r,q⟩;obtain⟨c,rfl,q⟩:=q
 cases r
 refine wpAny_truthy_bool ?_
 cases c with
 |true=>exact hb p g e d Q i q
 |false=>exact⟨.bl false,d,i,rfl,q⟩
theorem Mv (ha:PE X a ta):PE X (.UnaryOp .Not a pos) (PN ta):=by
 intro p s d H Q I h;refine UnaryOp_ (cG (ha p s d H _ I h) ?_);rintro v d ⟨x,d,i,r,q⟩;obtain⟨c,rfl,q⟩:=q
 cases r
 exact not_of (wpAny_truthy_bool ⟨.bl (!c),d,i,rfl,q⟩)
def RU (t:TT)(ta tb:TE):TE:=λd H Q=>t d H λc h=>if c=true then ta d h Q else tb d h Q
theorem EX (m:PT X c tA)(ha:PE X a ta)(hb:PE X b tb):PE X (.IfExp c a b pos) (RU tA ta tb):=by
 intro p s e H Q I h;refine wpAny_IfExp (cG (m p s e H _ I h) ?_);rintro d g ⟨i,k,q⟩
 cases d with
 |true=>exact ha p g e i Q k q
 |false=>exact hb p g e i Q k q
end
def cC (K:Frg)(H:Hp)(a:Addr)(xs:List V):Prop:=
 Rd H a (.lst xs) ∨
  ∃ (o:Obj) (i:Array Value) (n:Nat),K.lookup a=some o/\o.cls=.type "list"/\o.dict=none/\o.data=.seq i n/\i.size<=sizeLine/\aT xs i.toList
def jy (K:Frg)(H:Hp)(a:Addr)(xs:List V):Prop:=
 Rd H a (.tup xs) ∨
  ∃ (o:Obj) (i:Array Value) (n:Nat),K.lookup a=some o/\o.cls=.type "tuple"/\o.data=.seq i n/\i.size<=sizeLine/\aT xs i.toList
def Qw:Value->Option V
 | .none=>some .non
 | .bool b=>some (.bl b)
 | .int i _=>some (.int i)
 | .str x _=>some (.str x)
 | .bytes b _=>some (.byt b)
 | .float b _=>some (.flt b)
 | .ref a=>some (.ref a)
 | .type n=>some (.ty n)
 |_=>none
theorem RelV.abs (r:RelV x u):Qw u=some x:=by
 cases x with
 |non=>cases r;rfl
 |bl _=>cases r;rfl
 |int _=>obtain⟨t,rfl⟩:=r;rfl
 |str _=>obtain⟨t,rfl⟩:=r;rfl
 |byt _=>obtain⟨t,rfl⟩:=r;rfl
 |flt _=>obtain⟨t,rfl⟩:=r;rfl
 |ref _=>cases r;rfl
 |ty _=>cases r;rfl
theorem RelV.inj (r:RelV x u)(q:RelV y u):x=y:=Option.some.inj (r.abs.symm.trans q.abs)
theorem aT.inj:∀ {x y:List V}{u:List Value},aT x u->aT y u->x=y
 |_,_,_,.nil,.nil=>rfl
 |_,_,_,.cons r t,.cons r' t'=>by rw[r.inj r',aT.inj t t']
section
variable {X:Cx}{pins:List (Addr × Obj)}{σ:St}{H:Hp}{s:Shared}{a:Addr}{xs ys:List V}
theorem cC.of {K:Frg}(h:H a=some (.lst xs)):cC K H a xs:=.inl (.inl h)
theorem jy.of {K:Frg}(h:H a=some (.tup xs)):jy K H a xs:=.inl (.inl h)
theorem aE.list (I:aE X pins σ H s)(h:cC X.K H a xs):∃ i:List Value,aT xs i/\PlainL s.heap a i.toArray/\xs.length<=sizeLine:=by
 obtain h|⟨o,i,n,k,b,hd,d,hz,r⟩:=h
 .obtain⟨z,i,n,r,e⟩:=h.ok I.hok;exact⟨i,r,⟨_,n,e,rfl,rfl,rfl⟩,z⟩
 .refine⟨i.toList,r,⟨o,n,I.kIn a o k,b,hd,by simpa using d⟩,?_⟩
  have e:=r.length;simp only[length_toList]at e;ext
theorem aE.tuple (I:aE X pins σ H s)(h:jy X.K H a xs):∃ i:List Value,aT xs i/\IsTup s.heap a i.toArray/\xs.length<=sizeLine:=by
 obtain h|⟨o,i,n,k,b,d,hz,r⟩:=h
 .obtain⟨z,i,r,p⟩:=h.ok I.hok;exact⟨i,r,p,z⟩
 .refine⟨i.toList,r,⟨o,I.kIn a o k,b,n,by simpa using d⟩,?_⟩
  have e:=r.length;simp only[length_toList]at e;ext
theorem aE.list_inj (I:aE X pins σ H s)(h:cC X.K H a xs)(h':cC X.K H a ys):xs=ys:=by
 obtain⟨b,r,⟨o,n,e,_,_,d⟩,_⟩:=I.list h;obtain⟨i,m,⟨g,g,g,_,_,k⟩,_⟩:=I.list h';rw[e]at g;cases g
 rw[d]at k
 injection k with d1 _
 have:b=i:=by simpa using congrArg Array.toList d1
 subst this;exact r.inj m
theorem aE.tuple_inj (I:aE X pins σ H s)(h:jy X.K H a xs)(h':jy X.K H a ys):xs=ys:=by
 obtain⟨b,r,⟨o,e,_,n,d⟩,_⟩:=I.tuple h;obtain⟨i,m,⟨g,g,_,k,k⟩,_⟩:=I.tuple h';rw[e]at g;cases g
 rw[d]at k
 injection k with d1 _
 have:b=i:=by simpa using congrArg Array.toList d1
 subst this;exact r.inj m
end
abbrev Cx.wish (X:Cx)(E:Value->Shared->Prop):Cx:={X with xe:=E}
abbrev Cx.nox (X:Cx):Cx:=X.wish λ_ _=>False
theorem Cx.Ok.wish {X:Cx}(ok:X.Ok)(E:Value->Shared->Prop):(X.wish E).Ok:=
 ⟨ok.mod,ok.kind,ok.glob,ok.blt,ok.above,ok.inj,ok.has,ok.cab,ok.hd,ok.frames,ok.stk,ok.exf,ok.bs,ok.bsz,ok.noex,ok.exfs,ok.funs,ok.frf⟩
theorem Cx.Ok.unwish {X:Cx}{E:Value->Shared->Prop}(ok:(X.wish E).Ok):X.Ok:=
 ⟨ok.mod,ok.kind,ok.glob,ok.blt,ok.above,ok.inj,ok.has,ok.cab,ok.hd,ok.frames,ok.stk,ok.exf,ok.bs,ok.bsz,ok.noex,ok.exfs,ok.funs,ok.frf⟩
section
variable {X:Cx}{pins:List (Addr × Obj)}{σ:St}{H:Hp}{s:Shared}{E:Value->Shared->Prop}
theorem aE.wish (I:aE X pins σ H s)(E:Value->Shared->Prop):aE (X.wish E) pins σ H s:=⟨I.ok.wish E,I.os,I.bare,I.base,I.loc,I.cell,I.free,I.freeC,I.pin,I.hok,I.len⟩
theorem aE.unwish (I:aE (X.wish E) pins σ H s):aE X pins σ H s:=⟨I.ok.unwish,I.os,I.bare,I.base,I.loc,I.cell,I.free,I.freeC,I.pin,I.hok,I.len⟩
theorem SP.unwish (h:SP (X.wish E) pins D f d):SP X pins D f d:=by
 cases f with
 |next=>obtain⟨a,b,I,q⟩:=h;exact⟨a,b,I.unwish,q⟩
 |brk=>obtain⟨a,b,I,q⟩:=h;exact⟨a,b,I.unwish,q⟩
 |cont=>obtain⟨a,b,I,q⟩:=h;exact⟨a,b,I.unwish,q⟩
 |ret u=>obtain⟨v,a,b,I,r,q⟩:=h;exact⟨v,a,b,I.unwish,r,q⟩
theorem PE.nox (h:PE X.nox e t):PE X e t:=λpins s σ H Q I a=>
 wpAny_mono (h pins s σ H Q (I.wish _) a) (by rintro _ _ ⟨v,a,i,r,q⟩;exact⟨v,a,i.unwish,r,q⟩) λ_ _ z=>False.elim z
theorem PT.nox (h:PT X.nox e t):PT X e t:=λpins s σ H Q I a=>
 wpAny_mono (h pins s σ H Q (I.wish _) a) (by rintro _ _ ⟨a,i,q⟩;exact⟨a,i.unwish,q⟩) λ_ _ z=>False.elim z
theorem ki.nox {st:List Stmt}{t:TS}(h:ki X.nox st t):ki X st t:=λpins s σ H D I a=>
 wpAny_mono (h pins s σ H D (I.wish _) a) (λ_ _ q=>q.unwish) λ_ _ z=>False.elim z
end
section
variable {X:Cx}{st:Stmt}{rest:List Stmt}{t u:TS}{e:Expr}{te:TE}{pos:Pos}
def PL:TS:=λD a H=>D.nx a H
def Ra (t u:TS):TS:=λD a H=>t {D with nx:=u D} a H
theorem Il:ki X [] PL:=λ_ _ a H _ I h=>wpAny_execs_nil ⟨a,H,I,h⟩
theorem uY (m:PS X st t)(d:ki X rest u):ki X (st::rest) (Ra t u):=by
 intro p s k H D I h;refine wpAny_execs_cons (cG (m p s k H {D with nx:=u D} I h) λf g q=>?_)
 cases f with
 |next=>
  obtain⟨a,b,i,q⟩:=q;exact d p g a b D i q
 |ret v=>exact q
 |brk=>exact q
 |cont=>exact q
theorem Im (b:PS X st t):ki X [st] t:=by
 intro p s a H D I h;refine wpAny_execs_cons (cG (b p s a H D I h) λf d q=>?_)
 cases f with
 |next=>exact wpAny_execs_nil q
 |ret v=>exact q
 |brk=>exact q
 |cont=>exact q
theorem aE.quiet (I:aE X pins σ H s):interactive X.env=false:=by simp[interactive,I.ok.kind]
def PK (te:TE):TS:=λD a H=>te a H λ_ h=>D.nx a h
theorem kK (he:PE X e te)(hs:swapsWith e none pos.line X.env=pure false:=by rfl):PS X (.Expr e pos) (PK te):=by
 intro p s a H D I h;exact wpAny_Expr_any (cG (he p s a H _ I h) <| by rintro v b ⟨x,b,i,r,q⟩;exact⟨a,b,i,q⟩) I.quiet hs
def Q9 (te:TE):TS:=λD a H=>te a H D.rt
theorem xc (he:PE X e te):PS X (.Return (some e) pos) (Q9 te):=by
 intro p s a H D I h;exact wpAny_Return_some (cG (he p s a H _ I h) <| by rintro v b ⟨x,b,i,r,q⟩;exact⟨x,a,b,i,r,q⟩)
def Q5 (c:TT)(t u:TS):TS:=λD a H=>c a H λb h=>if b=true then t D a h else u D a h
theorem Ps (r:PT X c o)(ha:ki X a t)(hb:ki X b u):PS X (.If c a b pos) (Q5 o t u):=by
 intro p s g H D I h;refine wpAny_If (cG (r p s g H _ I h) ?_);rintro d i ⟨k,m,q⟩
 cases d with
 |true=>exact ha p i g k D m q
 |false=>exact hb p i g k D m q
def M6:TS:=λ_ _ _=>False
theorem E6:PS X st M6:=λ_ _ _ _ _ _ h=>h.elim
end
abbrev TG:=V->St->Hp->(St->Hp->Prop)->Prop
abbrev Kc:=List V->St->Hp->(St->Hp->Prop)->Prop
def PG (X:Cx)(a:Expr)(t:TG):Prop:=
 ∀ (p:List (Addr × Obj)) (s:Shared) (b:St) (H:Hp) (v:V) (u:Value) (Q:St->Hp->Prop),aE X p b H s->RelV v u->t v b H Q →
  wpAny (model X.prog X.w) X.A (assign a X.env u) (λ_ d=>∃ b h,aE X p b h d/\Q b h) X.xe s
def A8 (X:Cx)(ts:List Expr)(t:Kc):Prop:=
 ∀ (p:List (Addr × Obj)) (s:Shared) (a:St) (H:Hp) (v:List V) (u:List Value) (Q:St->Hp->Prop),aE X p a H s->aT v u->t v a H Q →
  wpAny (model X.prog X.w) X.A (assignInOrder ((assignEach ts X.env).map (·.2)) u) (λ_ b=>∃ a h,aE X p a h b/\Q a h) X.xe s
abbrev NS:=V->V->V->Hp->(Hp->Prop)->Prop
def NQ (X:Cx)(t:NS):Prop:=
 ∀ (p:List (Addr × Obj)) (s:Shared) (a:St) (H:Hp) (o i v:V) (d b u:Value) (Q:Hp->Prop),aE X p a H s->RelV o d->RelV i b->RelV v u->t o i v H Q →
  wpAny (model X.prog X.w) X.A (setItem d b u) (λ_ b=>∃ h,aE X p a h b/\Q h) X.xe s
section
variable {X:Cx}{pos:Pos}
def CZ (i:Nat):TG:=λv a H Q=>Q (a.set i (some v)) H
theorem Idq (d:X.N.Nodup)(hi:X.N[i]?=some x)(a:Loc X.env.scope x)(e:X.fn x=true\/X.env.scope.names.lookup x=some .local:=by first|exact .inl rfl|exact .inr rfl|assumption):PG X (.Name x pos) (CZ i):=by
 intro p s k H v u Q I r h;exact wpAny_assign_Name (k8 I d hi a r (λg b=>⟨_,H,b,h⟩) e)
def Qz:Kc:=λv a H Q=>v=[]/\Q a H
def OV (t:TG)(u:Kc):Kc:=λa b H Q=>∃ v r,a=v::r/\t v b H λa h=>u r a h Q
theorem Ie:A8 X [] Qz:=by
 intro p s a H v u Q I r h;obtain⟨e,h⟩:=h;subst e
 cases r
 exact assignInOrder_nil ⟨a,H,I,h⟩
theorem E1 (m:PG X e t)(d:A8 X es u)
  (hs:(assignEach (e::es) X.env).map (·.2)=assign e X.env::(assignEach es X.env).map (·.2):=by rfl):A8 X (e::es) (OV t u):=by
 intro p s b H a a Q I r h;obtain⟨v,a,a,h⟩:=h;subst a
 cases r with
 |cons r i=>
  rw[hs];refine assignInOrder_cons (cG (m p s b H _ _ _ I r h) ?_);rintro _ b ⟨a,g,k,q⟩;exact d p b a g _ _ Q k i q
def QB (K:Frg)(n:Nat)(t:Kc):TG:=λv b H Q=>∃ a x,v=.ref a/\jy K H a x/\x.length=n/\t x b H Q
theorem MA (z:X.calm=true)(h:A8 X es t)
  (C:(assignEach es X.env).length=n:=by rfl) (g:(assignEach es X.env).findIdx? (·.1)=none:=by rfl):PG X (.Tuple es k pos) (QB X.K n t):=by
 intro p s i H v u Q I r d;obtain⟨a,y,m,B,x,d⟩:=d;subst m
 cases r
 obtain⟨m,m,q,hz⟩:=I.tuple B;refine assign_Tuple_tuple (I.ok.hd z) q (by simp[C,<-x,m.length]) g λq x=>?_
 have B:aE X p i H {s with heap:=q}:=I.kept (t':=s.toks) λb o e=>x b o (ne_of_lt (Heap.lt_size e)) e;exact h p _ i H y _ Q B (by simpa using m) d
def QA (to b:TE)(t:NS):TG:=λv a H Q=>to a H λo h=>b a h λi h=>t o i v h λh=>Q a h
theorem Mz (ho:PE X o to)(hi:PE X i ti)(hs:NQ X t)
  (ha:∀ v,assign (.Subscript o i pos) X.env v=(do
   let ov ← holding [v] (eval o X.env)
   let iv ← holding [v,ov] (eval i X.env)
   standAt pos
   holding [v,ov,iv] (setItem ov iv v)
   release [v,ov,iv] []):=by intro _;rfl):PG X (.Subscript o i pos) (QA to ti t):=by
 intro pins s σ H v u Q I r h;rw[ha];refine wpAny_bind (wpAny_holding (cG (ho pins s σ H _ I h) ?_));rintro ov s1 ⟨x,H1,I1,r1,q1⟩;refine wpAny_bind (wpAny_holding (cG (hi pins s1 σ H1 _ I1 q1) ?_));rintro iv s2 ⟨y,H2,I2,r2,q2⟩;refine wpAny_bind (wpAny_standAt (wpAny_bind (wpAny_holding (cG (hs pins s2 σ H2 x y v ov iv u _ I2 r1 r2 r q2) ?_))));rintro _ s3 ⟨H3,I3,q3⟩;exact wpAny_release ⟨σ,H3,I3,q3⟩
def M5 (te:TE)(g:TG):TS:=λD a H=>te a H λx h=>g x a h D.nx
theorem E5 (he:PE X e te)(o:PG X a g)(hs:swapsWithSole [a] e pos.line X.env=pure false:=by rfl)(k:swappedStores [a] e X.env=pure none:=by rfl)
  (y:(assignEach [a] X.env).map (·.2)=[assign a X.env]:=by rfl):PS X (.Assign [a] e pos) (M5 te g):=by
 intro p s b H D I h;refine wpAny_Assign_stores (cG (he p s b H _ I h) ?_) hs k;rintro v i ⟨x,m,u,r,d⟩;rw[y];exact cG (o p i b m x v _ u r d) λ_ b q=>q
theorem MH (o:X.N.Nodup)(hi:X.N[i]?=some x)(d:Loc X.env.scope x)(he:PE X e te)(hs:swapsWith e (some (.Name x p)) pos.line X.env=pure false:=by rfl)(m:X.fn x=true\/X.env.scope.names.lookup x=some .local:=by first|exact .inl rfl|exact .inr rfl|assumption) :
  PS X (.Assign [.Name x p] e pos) (M5 te (CZ i)):=by
 intro a s k H D I h;refine wpAny_Assign_Name (cG (he a s k H _ I h) ?_) hs;rintro v z ⟨y,b,g,r,q⟩;exact k8 g o hi d r (λB u=>⟨_,b,u,q⟩) m
def Q8 (i j:Nat)(d:TA):TS:=λD a H=>d a H λb h=>∃ v w,b=[v,w]/\D.nx ((a.set i (some v)).set j (some w)) h
theorem MG {C L g}(hc:X.calm=true)(R:X.N.Nodup)(hi:X.N[i]?=some x)(hj:X.N[j]?=some y)(B:i≠j)
  (P:X.env.scope.names.lookup x=some .local) (W:X.env.scope.names.lookup y=some .local) (ha:PA X [a,b] U)
  (hw:swappedStores [.Tuple [.Name x r,.Name y F] C pt] (.Tuple [a,b] L g) X.env=pure (some [x,y]))
  (hs:swapsWithSole [.Tuple [.Name x r,.Name y F] C pt] (.Tuple [a,b] L g) pos.line X.env=pure false:=by rfl) :
  PS X (.Assign [.Tuple [.Name x r,.Name y F] C pt] (.Tuple [a,b] L g) pos) (Q8 i j U):=by
 intro d s Q H D I h;rw[exec_Assign_arm];refine wpAny_bind (wpAny_standAt ?_);rw[hs];refine wpAny_bind (wpAny_pure ?_);rw[if_neg ⋯]
 refine wpAny_bind (Tuple_ (cG (ha _ d s Q H _ I h) ?_));rintro us k ⟨vs,O,I1,r1,z⟩;obtain⟨v,w,e1,z⟩:=z;subst e1;obtain⟨u,m,rfl,rv,E⟩:∃ u m,us=[u,m]/\RelV v u/\RelV w m:=by
  cases r1 with
  |cons p q=>
   cases q with
   |cons Y q'=>
    cases q'
    exact⟨_,_,rfl,p,Y⟩
 refine wpAny_newObj_type ?_ (by show 2<=sizeLine;decide)
 have Z:aE X d Q O {k with heap:=k.heap.push {cls:=.type "tuple",data:=.seq [u,m].toArray}}:=I1.kept (t':=k.toks) λb o e=>Heap.get?_push_of_some _ e;rw[hw];refine wpAny_bind (wpAny_pure ?_);show wpAny (model X.prog X.w) X.A (do rule "assign.swapped-stores";let items ← unpackItems (.ref k.heap.objs.size) 2 none;assignInOrder [λv=>bindName X.env y v,λv=>bindName X.env x v] items.reverse;pure Flow.next) _ _ _
 refine wpAny_bind (wpAny_rule (wpAny_bind (unpackItems_tuple (items:=#[u,m]) (I.ok.hd hc) (IsTup.new k.heap _) λh' J=>?_)));have I3:=Z.kept (h':=h') (t':=k.toks) λb o e=>J b o (ne_of_lt (Heap.lt_size e)) e;show wpAny _ _ (assignInOrder [λv=>bindName X.env y v,λv=>bindName X.env x v] [m,u] >>= λ_=>pure Flow.next) _ _ _;refine wpAny_bind (assignInOrder_cons (wpAny_bindName (k8 I3 R hj (.inl W) E (λs2 I4=>?_) (.inr W))));refine assignInOrder_cons (wpAny_bindName (k8 I4 R hi (.inl P) rv (λs3 M=>assignInOrder_nil (wpAny_pure ?_)) (.inr P)));rw[List.set_comm _ _ (Ne.symm B)]at M;exact⟨_,O,M,z⟩
end
section
variable {X:Cx}{pos:Pos}
def M8 (c:TT)(tb:TS):TS:=λD a H=>∃ W:Nat->St->Hp->Prop,(∃ m,W m a H)/\∀ m a H,W m a H →
 c a H λb e=>if b=true then ∃ N:St->Hp->Prop,(∀ d h,N d h->∃ g,g<m/\W g d h)/\tb {D with nx:=N,ct:=N,bk:=D.nx} a e else D.nx a e
theorem E7 (C:PassesOwn (model X.prog X.w) X.A X.env X.xe)(U:PT X c F)(hb:ki X y tb):PS X (.While c y [] pos) (M8 F tb):=by
 intro p s Q H D I h;obtain⟨W,⟨Y,O⟩,g⟩:=h;refine wpAny_While (codeAny_whileLoop (λn M=>∃ e E,aE X p e E M/\W n e E) ?_ Y ⟨Q,H,I,O⟩);rintro n L ⟨d,B,Z,R⟩;refine wpAny_passesOwn C (cG (U p L d B _ Z (g n d B R)) ?_);rintro b P ⟨x,z,k⟩
 cases b with
 |true=>
  obtain⟨N,J,k⟩:=k;rw[if_pos rfl];refine wpAny_passesOwn C (cG (hb p P d x _ z k) λf s3 q=>?_)
  cases f with
  |next=>
   obtain⟨a,i,r,m⟩:=q;obtain⟨u,hm,o⟩:=J a i m;exact⟨u,hm,a,i,r,o⟩
  |cont=>
   obtain⟨a,i,r,m⟩:=q;obtain⟨u,hm,o⟩:=J a i m;exact⟨u,hm,a,i,r,o⟩
  |brk=>exact q
  |ret v=>exact q
 |false=>
  rw[if_neg Bool.false_ne_true];exact wpAny_execs_nil ⟨d,x,z,k⟩
end
structure It where
 go:Nat->Hp->Prop
 yld:Nat->Hp->V->Hp->Prop
 stop:Nat->Hp->Prop
def my (X:Cx)(pins:List (Addr × Obj))(H:Hp)(b:Addr):Prop:=
 H b=none/\b≠X.env.locals/\b∉X.fs/\(b∈X.ex\/X.s₀.heap.objs.size<=b)/\(∀ x c,X.env.cells.lookup x=some c->c≠b)/\∀ p∈X.pn++pins,p.1≠b
theorem aE.fpOk (I:aE X pins σ H s)(hb:s.heap.objs.size<=b)(a:H' b=none):my X pins H' b:=by
 refine⟨a,ne_of_gt (lt_of_lt_of_le I.lt hb),I.nofs hb,.inr (le_trans I.sz hb),λx c e z=>?_,λp h z=>?_⟩
 .obtain⟨v,q⟩:=I.cell x c e;exact absurd (lt_of_lt_of_le q.lt (by rw[z];exact hb)) (lt_irrefl _)
 .exact absurd (lt_of_lt_of_le (Heap.lt_size (I.pin p h).1) (by rw[z];exact hb)) (lt_irrefl _)
structure Turn (P:Program) (w:World) (K:Frg) (tg:Expr) (J:It) (fp:List Addr) (it:Addr) (tn:Nat->Heap->Prop):Prop where
 mem:it∈fp
 obj:∀ i h,tn i h->∀ b∈fp,∃ o,h.get? b=some o/\∀ v,o.data≠.cell v
 keep:∀ i h h',tn i h->(∀ b∈fp,∀ o,h.get? b=some o->h'.get? b=some o)->tn i h'
 item:∀ (X:Cx),X.prog=P->X.w=w->X.K=K->X.calm=true->∀ (i:Nat) (pins:List (Addr × Obj)) (s:Shared) (σ:St) (H:Hp) (E:Value->Shared->Prop),aE X pins σ H s->(∀ b∈fp,my X pins H b)->tn i s.heap->J.go i H →
  wpAny (model P w) X.A (pyNext (.ref it)) (λr s1=>∃ u,r=some u ∧
   wpAny (model P w) X.A (letOwnedTupleGo tg (.ref it) u) (λ_ s2=>∃ x H',aE X pins σ H' s2/\RelV x u/\J.yld i H x H'/\tn (i+1) s2.heap/\∀ b∈fp,H' b=none) E s1) E s
 done:∀ (X:Cx),X.prog=P->X.w=w->X.K=K->X.calm=true->∀ (i:Nat) (pins:List (Addr × Obj)) (s:Shared) (σ:St) (H:Hp) (E:Value->Shared->Prop),aE X pins σ H s->(∀ b∈fp,my X pins H b)->tn i s.heap->J.stop i H →
  wpAny (model P w) X.A (pyNext (.ref it)) (λr s1=>r=none/\aE X pins σ H s1) E s
 self:∀ (A:Around) (i:Nat) (s:Shared) (Q:Value->Shared->Prop) (E:Value->Shared->Prop),tn i s.heap->Q (.ref it) s->wpAny (model P w) A (pyIter (.ref it)) Q E s
abbrev TI:=St->Hp->(It->Hp->Prop)->Prop
def Ro (X:Cx)(pins:List (Addr × Obj))(σ:St)(g:Expr)(R:It->Hp->Prop)(i:Value)(e:Shared):Prop:=
 ∃ (a:Addr) (p:List Addr) (d:Nat->Heap->Prop) (J:It) (h:Hp),i=.ref a/\aE X pins σ h e/\Turn X.prog X.w X.K g J p a d/\d 0 e.heap/\(∀ b∈p,my X pins h b)/\R J h
def PI (X:Cx)(g i:Expr)(b:TI):Prop:=
 ∀ (p:List (Addr × Obj)) (s:Shared) (a:St) (H:Hp) (R:It->Hp->Prop),aE X p a H s->b a H R →
  wpAny (model X.prog X.w) X.A (eval i X.env) (λv d=>wpAny (model X.prog X.w) X.A (pyIter v) (Ro X p a g R) X.xe d) X.xe s
theorem C3 (a:s.heap.get? it=some o)(b:o.cls=.type n)(hd:o.data=.fields vs)
  (d:["enumerate","zip","dict_itemiterator","dict_reverseitemiterator","odict_iterator","itertools.zip_longest","itertools.pairwise"].contains n=false) (q:Q () s):wpAny M A (letOwnedTupleGo g (.ref it) u) Q E s:=by
 unfold letOwnedTupleGo
 cases g <;> first
  |exact wpAny_pure q
  | (cases u <;> first
    |exact wpAny_pure q
    | (
      refine wpAny_bind (wpAny_load a ?_);rw[b,hd];show wpAny M A (if (["enumerate","zip","dict_itemiterator","dict_reverseitemiterator","odict_iterator","itertools.zip_longest","itertools.pairwise"].contains n && vs[0]? == some (rawInt _))=true then _ else _) Q E s
      rw[if_neg (by intro h;rw[d,Bool.false_and]at h;cases h)]
      exact wpAny_pure q))
def Qm (K:Frg)(a:Addr):It:=
 ⟨λi H=>∃ b x,cC K H a b/\b[i]?=some x,λi H x h=>h=H/\∀ b,cC K H a b->b[i]?=some x,λi H=>∃ b,cC K H a b/\b.length<=i⟩
def Qn (K:Frg)(a:Addr):It:=
 ⟨λi H=>∃ b x,jy K H a b/\b[i]?=some x,λi H x h=>h=H/\∀ b,jy K H a b->b[i]?=some x,λi H=>∃ b,jy K H a b/\b.length<=i⟩
def P6 (lo:Int)(n:Nat):It:=⟨λi _=>i<n,λi H x h=>h=H/\x=.int (lo+i),λi _=>n<=i⟩
theorem AN {P:Program}{w:World}{K:Frg}{tg:Expr}(a it:Addr):Turn P w K tg (Qm K a) [it] it (λi h=>h.IsListIter it a i) where
 mem:=by simp
 obj:=λi h g b hb=>by
  have e:b=it:=by simpa using hb
  subst e;obtain⟨o,e,c,d⟩:=g;exact⟨o,e,λv z=>by rw[d]at z;cases z⟩
 keep:=λi h B g k=>g.at λo e=>k it (by simp) o e
 item:=by
  intro X O M C hc i m s Z H E I y g R;subst O M C;obtain⟨xs,x,r,J⟩:=R;obtain⟨L,U,p,hz⟩:=I.list r;obtain⟨u,q,ru⟩:=U.get J;obtain⟨D,F,f2,W,Y,Q⟩:=y it (by simp)
  refine wpAny_pyNext_list_item g p.isList (x:=u) (by simpa using q) λB q sb=>?_
  have I1:aE X m Z H {s with heap:=B}:=I.turned (t':=s.toks) (λb o hb e=>(sb.2 b hb).trans e) D F W Y Q;obtain⟨o,e,c,d⟩:=id q;exact⟨u,rfl,C3 (s:={s with heap:=B}) e c d ⋯ ⟨x,H,I1,ru,⟨rfl,λys hy=>by rw[I.list_inj hy r];exact J⟩,q,λb hb=>(y b hb).1⟩⟩
 done:=by
  intro X O M C hc i m s Z H E I y g R;subst O M C;obtain⟨xs,r,J⟩:=R;obtain⟨L,U,p,hz⟩:=I.list r;obtain⟨D,F,f2,W,Y,Q⟩:=y it (by simp)
  have m:=U.length;exact wpAny_pyNext_list_end (I.ok.hd hc) g p.isList (by simp;ext) λB m=>⟨rfl,I.turned (t':=s.toks) (λb o hb e=>m b o hb e) D F W Y Q⟩
 self:=λ_ _ _ _ _ g h=>wpAny_pyIter_listiter g h
theorem xq {P:Program}{w:World}{K:Frg}{tg:Expr}(a it:Addr):Turn P w K tg (Qn K a) [it] it (λi h=>h.IsTupleIter it a i) where
 mem:=by simp
 obj:=λi h g b hb=>by
  have e:b=it:=by simpa using hb
  subst e;obtain⟨o,e,c,d⟩:=g;exact⟨o,e,λv z=>by rw[d]at z;cases z⟩
 keep:=λi h C g k=>g.at λo e=>k it (by simp) o e
 item:=by
  intro X O M D hc i m s Z H E I B g R;subst O M D;obtain⟨xs,x,y,L⟩:=R;obtain⟨q,U,p,hz⟩:=I.tuple y;obtain⟨u,r,ru⟩:=U.get L;obtain⟨F,J,f2,W,Y,Q⟩:=B it (by simp)
  refine wpAny_pyNext_tuple_item g (show s.heap.IsTuple a q.toArray from p) (x:=u) (by simpa using r) λC r sb=>?_
  have I1:aE X m Z H {s with heap:=C}:=I.turned (t':=s.toks) (λb o hb e=>(sb.2 b hb).trans e) F J W Y Q;obtain⟨o,e,c,d⟩:=id r;exact⟨u,rfl,C3 (s:={s with heap:=C}) e c d ⋯ ⟨x,H,I1,ru,⟨rfl,λys hy=>by rw[I.tuple_inj hy y];exact L⟩,r,λb hb=>(B b hb).1⟩⟩
 done:=by
  intro X O M D hc i m s Z H E I B g R;subst O M D;obtain⟨xs,y,L⟩:=R;obtain⟨q,U,p,hz⟩:=I.tuple y;obtain⟨F,J,f2,W,Y,Q⟩:=B it (by simp)
  have m:=U.length;exact wpAny_pyNext_tuple_end (I.ok.hd hc) g (show s.heap.IsTuple a q.toArray from p) (by simp;ext) λC m=>⟨rfl,I.turned (t':=s.toks) (λb o hb e=>m b o hb e) F J W Y Q⟩
 self:=λ_ _ _ _ _ g h=>wpAny_pyIter_tupleiter g h
theorem xp {P:Program}{w:World}{K:Frg}{Q:Expr}(it:Addr)(lo:Int)(n:Nat):Turn P w K Q (P6 lo n) [it] it (λi h=>IsRangeIter h it (lo+(i:Nat)*1) ((n:Int)-(i:Nat)) 1) where
 mem:=by simp
 obj:=λi h a b hb=>by
  have e:b=it:=by simpa using hb
  subst e;exact⟨_,a,λv z=>by
   have d:Data.fields _=Data.cell v:=z
   cases d⟩
 keep:=λi h m a k=>k it (by simp) _ a
 item:=by
  intro X B x q y i p s M H E I g a D;subst B x q;obtain⟨r,u,O,F,C,J⟩:=g it (by simp)
  have W:=Walks.range (prog:=X.prog) (w:=X.w) (I.ok.hd y) it lo 1 n;refine W.item i s _ _ D a λv m L R d kk=>?_;obtain⟨t,rfl⟩:=R;have R:aE X p M H {s with heap:=m,toks:=L}:=I.turned (λb o hb e=>kk b o (by simpa using hb) e) r u F C J
  refine⟨_,rfl,C3 (s:={s with heap:=m,toks:=L}) (n:="range_iterator") d rfl rfl ⋯ ⟨.int (lo+i),H,R,⟨t,?_⟩,⟨rfl,rfl⟩,d,λb hb=>(g b hb).1⟩⟩
  rw[mul_one]
 done:=by
  intro X B x q y i p s M H E I g a D;subst B x q;obtain⟨r,u,O,F,C,J⟩:=g it (by simp)
  exact wpAny_pyNext_range_end (I.ok.hd y) a (by have:n<=i:=D;ext) λm d=>⟨rfl,I.turned (t':=s.toks) (λb o hb e=>d b o hb e) r u F C J⟩
 self:=λ_ _ _ _ _ a h=>wpAny_pyIter_rangeiter a h
section
variable {X:Cx}{tg:Expr}
def O1 (K:Frg)(b:TE):TI:=λd H R=>b d H λx h=>∃ a,x=.ref a/\(∃ d,cC K h a d)/\R (Qm K a) h
def QH (K:Frg)(b:TE):TI:=λd H R=>b d H λx h=>∃ a,x=.ref a/\(∃ d,jy K h a d)/\R (Qn K a) h
theorem Ig {l:Expr}{g:TE}(k:PE X l g):PI X tg l (O1 X.K g):=by
 intro d s i H R I h;refine cG (k d s i H _ I h) ?_;rintro v d ⟨x,u,i,r,m⟩;obtain⟨a,e,⟨y,y⟩,q⟩:=m;subst e
 cases r
 obtain⟨m,r,p,hz⟩:=i.list y;refine wpAny_pyIter_list p.isList ?_;refine⟨d.heap.objs.size,[d.heap.objs.size],_,_,u,rfl,i.kept (t':=d.toks) λb o e=>Heap.get?_push_of_some _ e,AN a _,⟨_,Heap.get?_push_size _ rfl,rfl,rfl⟩,λb hb=>?_,q⟩;have e:b=d.heap.objs.size:=by simpa using hb
 subst e;exact i.fpOk (le_refl _) (i.hok.fresh (le_refl _))
theorem MB {l:Expr}{k:TE}(m:PE X l k):PI X tg l (QH X.K k):=by
 intro d s g H R I h;refine cG (m d s g H _ I h) ?_;rintro v d ⟨x,u,i,r,g⟩;obtain⟨a,e,⟨y,y⟩,q⟩:=g;subst e
 cases r
 obtain⟨g,r,p,hz⟩:=i.tuple y;refine wpAny_pyIter_tuple (show d.heap.IsTuple a g.toArray from p) ?_;refine⟨d.heap.objs.size,[d.heap.objs.size],_,_,u,rfl,i.kept (t':=d.toks) λb o e=>Heap.get?_push_of_some _ e,xq a _,⟨_,Heap.get?_push_size _ rfl,rfl,rfl⟩,λb hb=>?_,q⟩;have e:b=d.heap.objs.size:=by simpa using hb
 subst e;exact i.fpOk (le_refl _) (i.hok.fresh (le_refl _))
theorem E9 {pins:List (Addr × Obj)}{σ:St}{H:Hp}{s:Shared}{R:It->Hp->Prop}{E:Value->Shared->Prop}{lo hi:Int}{t u v:Tok}{tk:Nat}(I:aE X pins σ H s)(m:-(2 ^ 62)<=lo)(d:lo<2 ^ 62)(a:-(2 ^ 62)<=hi)(h:hi<2 ^ 62)
  (q:R (P6 lo (hi-lo).toNat) H):wpAny (model X.prog X.w) X.A (pyIter (.ref s.heap.objs.size)) (Ro X pins σ tg R) E {s with heap:=s.heap.push {cls:=.type "range",data:=.fields #[.int lo t,.int hi u,.int 1 v]},toks:=tk}:=by
 refine wpAny_pyIter_range (IsRange.new ..) (small_one m d a h) ?_;have i:aE X pins σ H {s with heap:=s.heap.push {cls:=.type "range",data:=.fields #[.int lo t,.int hi u,.int 1 v]},toks:=tk}:=I.kept λb o e=>Heap.get?_push_of_some _ e;refine⟨(s.heap.push {cls:=.type "range",data:=.fields #[.int lo t,.int hi u,.int 1 v]}).objs.size,[(s.heap.push {cls:=.type "range",data:=.fields #[.int lo t,.int hi u,.int 1 v]}).objs.size],_,_,H,rfl,
  i.kept (t':=tk) λb o e=>Heap.get?_push_of_some _ e,xp _ lo (hi-lo).toNat,?_,λb hb=>?_,q⟩
 .have g:lo+((0:Nat):Int)*1=lo:=by simp
  have k:(((hi-lo).toNat:Nat):Int)-((0:Nat):Int)=Builtin.Range.rangeSize lo hi 1:=by rw[rangeSize_one];split <;> ext
  show IsRangeIter _ _ (lo+((0:Nat):Int)*1) ((((hi-lo).toNat:Nat):Int)-((0:Nat):Int)) 1;rw[g,k];exact Heap.get?_push_size _ rfl
 .have e:b=(s.heap.push {cls:=.type "range",data:=.fields #[.int lo t,.int hi u,.int 1 v]}).objs.size:=by simpa using hb
  subst e;exact i.fpOk (le_refl _) (i.hok.fresh (le_refl _))
def O2 (b:TA):TI:=λa H R=>b a H λv h=>∃ j:Int,v=[.int j]/\-(2 ^ 62)<=j/\j<2 ^ 62/\R (P6 0 j.toNat) h
theorem AD {a:Expr}{ta:TA}{p pos:Pos} (hg:Gl X "range") (hm:X.mg "range"=none) (ha:PA X [a] ta) (hs:starEach [a] X.env=[(false,eval a X.env)]:=by rfl):PI X tg (.Call (.Name "range" p) [a] [] pos) (O2 ta):=by
 intro pins s σ H R I h;refine Call_ (fP I hg hm boot_range (PyProof.Rows.callWith_type1 (cG (ha pos pins s σ H _ I h) ?_) hs rfl));rintro us s1 ⟨vs,H1,I1,r1,q1⟩;obtain⟨j,e,q1,q2,q⟩:=q1;subst e
 cases r1 with
 |cons r rr=>
  cases rr
  obtain⟨t,rfl⟩:=r;exact call_range_1 (E9 I1 ⋯ ⋯ q1 q2 (by simpa using q))
def Q4 (e:TI)(g:TG)(tb:TS):TS:=λD a H=>e a H λJ h=>∃ W:Nat->Nat->St->Hp->Prop,(∃ m,W 0 m a h)/\∀ i m a H,W i m a H →
 (J.stop i H/\D.nx a H)\/(J.go i H/\∃ N:St->Hp->Prop,(∀ b h,N b h->∃ d,d<m/\W (i+1) d b h)/\∀ x h,J.yld i H x h->g x a h λa h=>tb {D with nx:=N,ct:=N,bk:=D.nx} a h)
def oD (fp:List Addr)(h:Heap):List (Addr × Obj):=fp.filterMap λb=>(h.get? b).map λo=>(b,o)
theorem gO (hb:b∈fp)(e:h.get? b=some o):(b,o)∈oD fp h:=List.mem_filterMap.mpr ⟨b,hb,by rw[e];rfl⟩
theorem Al (d:p∈oD fp h):p.1∈fp/\h.get? p.1=some p.2:=by
 obtain⟨b,hb,e⟩:=List.mem_filterMap.mp d
 cases q:h.get? b with
 |none=>rw[q]at e;cases e
 |some o=>
  rw[q]at e;have a:(b,o)=p:=Option.some.inj e;subst a;exact⟨hb,q⟩
theorem aE.pinned (I:aE X pins σ H s)(m:∀ b∈fp,my X pins H b)(h:∀ b∈fp,∃ o,s.heap.get? b=some o/\∀ v,o.data≠.cell v):aE X (pins++oD fp s.heap) σ H s:=
 I.pins_of λp a=>(mem_append.mp a).elim (λz=>I.pin p (mem_append_right _ z)) λz=>by
  obtain⟨hb,e⟩:=Al z;obtain⟨g,k,i,_⟩:=m p.1 hb;obtain⟨o,a,d⟩:=h p.1 hb;rw[e]at a;cases a
  exact⟨e,g,k,i,d⟩
theorem aE.unpinned (I:aE X (pins++pl) σ H s):aE X pins σ H s:=I.pins_of λp h=>I.pin p (mem_append_right _ (mem_append_left _ h))
theorem MF (Z:PassesOwn (model X.prog X.w) X.A X.env X.xe)(hc:X.calm=true)(hi:PI X tg k wi)(hg:PG X tg g)(hb:ki X M tb)
  (hs:∀ x,foldedSetIterable k X.env x=pure x:=by intro _;rfl):PS X (.For tg k M [] pos) (Q4 wi g tb):=by
 intro p s σ H D I h;refine wpAny_For (cG (hi p s σ H _ I h) λv s1 h1=>cG h1 λitv s2 h2=>?_) hs;obtain⟨it,Y,tn,J,H2,e,I2,T,st2,f2,W,⟨m0,w0⟩,R⟩:=h2;subst e;have E:∀ {F:Hp},(∀ b∈Y,F b=none)->∀ b∈Y,my X p F b:=λhn b hb=>⟨hn b hb,(f2 b hb).2⟩;refine codeAny_forLoop_any (λn s'=>∃ i q F,aE X p q F s'/\tn i s'.heap/\(∀ b∈Y,F b=none)/\W i n q F) ?_ m0 ⟨0,σ,H2,I2,st2,λb hb=>(f2 b hb).1,w0⟩;rintro n s3 ⟨i,y,H3,I3,P,U,w3⟩
 obtain⟨stop,qn⟩|⟨go,N,hN,step⟩:=R i n y H3 w3
 .refine wpAny_passesOwn Z (cG (T.done X rfl rfl rfl hc i p s3 y H3 X.xe I3 (E U) P stop) ?_);rintro r s4 ⟨hr,I4⟩;subst hr;exact wpAny_execs_nil ⟨y,H3,I4,qn⟩
 .refine wpAny_passesOwn Z (cG (T.item X rfl rfl rfl hc i p s3 y H3 X.xe I3 (E U) P go) ?_);rintro r s4 ⟨u,hr,h4⟩;subst hr;refine wpAny_passesOwn Z (cG h4 ?_);rintro _ s5 ⟨x,H5,I5,r5,y5,O,fr5⟩;have I5':=I5.pinned (E fr5) (T.obj _ _ O);refine wpAny_passesOwn Z (cG (hg _ s5 y H5 x u _ I5' r5 (step x H5 y5)) ?_);rintro _ s6 ⟨σ6,H6,I6,q6⟩;refine wpAny_passesOwn Z (cG (hb _ s6 σ6 H6 _ I6 q6) λf s7 L=>?_);have z:∀ {a:St}{B:Hp},aE X (p++oD Y s5.heap) a B s7->N a B->∃ m,m<n/\∃ i q F,aE X p q F s7/\tn i s7.heap/\(∀ b∈Y,F b=none)/\W i m q F:=λ{a B} C Q=>by
   obtain⟨m',hm,w7⟩:=hN a B Q;refine⟨m',hm,i+1,a,B,C.unpinned,T.keep _ _ _ O λb hb o e=>(C.pin (b,o) (mem_append_right _ (mem_append_right _ (gO hb e)))).1,λb hb=>?_,w7⟩;obtain⟨o,e,d⟩:=T.obj _ _ O b hb;exact(C.pin (b,o) (mem_append_right _ (mem_append_right _ (gO hb e)))).2.1
  cases f with
  |next=>obtain⟨a,B,C,Q⟩:=L;exact z C Q
  |cont=>obtain⟨a,B,C,Q⟩:=L;exact z C Q
  |brk=>obtain⟨a,B,C,L⟩:=L;exact⟨a,B,C.unpinned,L⟩
  |ret v=>obtain⟨x7,a,B,C,r7,L⟩:=L;exact⟨x7,a,B,C.unpinned,r7,L⟩
end
abbrev R2:=V->V->Hp->VK->Prop
def lu (X:Cx)(f:Value->Value->Sem Value)(r:R2):Prop:=
 ∀ (p:List (Addr × Obj)) (s:Shared) (a:St) (H:Hp) (x y:V) (v u:Value) (Q:VK),aE X p a H s->RelV x v->RelV y u->r x y H Q →
  wpAny (model X.prog X.w) X.A (f v u) (EP X p a Q) X.xe s
def Qq (X:Cx)(f:Value->Sem Value)(r:V->Hp->VK->Prop):Prop:=
 ∀ (p:List (Addr × Obj)) (s:Shared) (a:St) (H:Hp) (x:V) (v:Value) (Q:VK),aE X p a H s->RelV x v->r x H Q →
  wpAny (model X.prog X.w) X.A (f v) (EP X p a Q) X.xe s
def eB (X:Cx)(f:Value)(r:List V->Hp->VK->Prop):Prop:=
 ∀ (p:List (Addr × Obj)) (s:Shared) (a:St) (H:Hp) (x:List V) (u:List Value) (Q:VK),aE X p a H s->aT x u->r x H Q →
  wpAny (model X.prog X.w) X.A (call f u) (EP X p a Q) X.xe s
def M7 (r:R2)(b tb:TE):TE:=λa H Q=>b a H λx h=>tb a h λy h=>r x y h Q
def RX (r:V->Hp->VK->Prop)(b:TE):TE:=λa H Q=>b a H λx h=>r x h Q
def rI (C:Int->Int->Prop)(g:Int->Int->V):R2:=λx y H Q=>∃ i j,x=.int i/\y=.int j/\C i j/\Q (g i j) H
def IF (g:Int->Int->V):R2:=λx y H Q=>∃ i j,x=.int i/\y=.int j/\Q (g i j) H
def rU (g:Int->V):V->Hp->VK->Prop:=λx H Q=>∃ i,x=.int i/\Q (g i) H
section
variable {X:Cx}{a b c:Expr}{ta tb tc:TE}{pos:Pos}
theorem KS (ha:PE X a ta)(hb:PE X b tb){pins:List (Addr × Obj)}{s:Shared}{σ:St}{H:Hp}{R:V->V->Hp->Prop}(I:aE X pins σ H s)
  (h:ta σ H λx k=>tb σ k λy d=>R x y d) {Q:Value->Shared->Prop}{f:Value->Value->Sem Value}
  (o:∀ v u i x y d,aE X pins σ d i->RelV x v->RelV y u->R x y d->wpAny (model X.prog X.w) X.A (f v u) Q X.xe i) :
  wpAny (model X.prog X.w) X.A (eval a X.env) (λv g=>wpAny (model X.prog X.w) X.A (eval b X.env) (λu e=>wpAny (model X.prog X.w) X.A (f v u) Q X.xe e) X.xe g) X.xe s:=by
 refine cG (ha pins s σ H _ I h) ?_;rintro v e ⟨x,k,m,g,q⟩;refine cG (hb pins e σ k _ m q) ?_;rintro u i ⟨y,d,e,r,q⟩;exact o v u i x y d e g r q
theorem oC {op:Operator}{r:R2}(o:lu X (binaryOp op) r)(ha:PE X a ta)(hb:PE X b tb):PE X (.BinOp a op b pos) (M7 r ta tb):=by
 intro p s i H Q I h;exact wpAny_BinOp (KS ha hb I h λv u d x y e m k g q=>o p d i e x y v u Q m k g q)
theorem Pp (o:Qq X (unaryOp op) r)(ha:PE X a ta):PE X (.UnaryOp op a pos) (RX r ta):=by
 intro p s d H Q I h;exact UnaryOp_ (cG (ha p s d H _ I h) <| by rintro v e ⟨x,g,k,i,q⟩;exact o p e d g x v Q k i q)
theorem Qh {f:Value->Value->Sem Value}{C:Int->Int->Prop}{g:Int->Int->Int}
  (e:∀ (i j:Int) (t u:Tok) (s:Shared) (Q:Value->Shared->Prop) (E:Value->Shared->Prop),C i j->Q (.int (g i j) s.toks) {s with toks:=s.toks+1}->wpAny (model X.prog X.w) X.A (f (.int i t) (.int j u)) Q E s) :
  lu X f (rI C λi j=>.int (g i j)):=by
 intro p s d H x y v u Q I d r h;obtain⟨i,j,rfl,rfl,k,q⟩:=h;obtain⟨t,rfl⟩:=d;obtain⟨d,rfl⟩:=r;exact e i j t d s _ _ k ⟨.int (g i j),H,I.tok _,⟨_,rfl⟩,q⟩
theorem Pi {f:Value->Value->Sem Value}{g:Int->Int->Int}
  (e:∀ (i j:Int) (t u:Tok) (s:Shared) (Q:Value->Shared->Prop) (E:Value->Shared->Prop),Q (.int (g i j) s.toks) {s with toks:=s.toks+1}->wpAny (model X.prog X.w) X.A (f (.int i t) (.int j u)) Q E s) :
  lu X f (IF λi j=>.int (g i j)):=by
 intro p s d H x y v u Q I d r h;obtain⟨i,j,rfl,rfl,q⟩:=h;obtain⟨t,rfl⟩:=d;obtain⟨d,rfl⟩:=r;exact e i j t d s _ _ ⟨.int (g i j),H,I.tok _,⟨_,rfl⟩,q⟩
theorem HU {f:Value->Value->Sem Value}{g:Int->Int->Bool}
  (e:∀ (i j:Int) (t u:Tok) (s:Shared) (Q:Value->Shared->Prop) (E:Value->Shared->Prop),Q (.bool (g i j)) s->wpAny (model X.prog X.w) X.A (f (.int i t) (.int j u)) Q E s) :
  lu X f (IF λi j=>.bl (g i j)):=by
 intro p s d H x y v u Q I d r h;obtain⟨i,j,rfl,rfl,q⟩:=h;obtain⟨t,rfl⟩:=d;obtain⟨d,rfl⟩:=r;exact e i j t d s _ _ ⟨.bl (g i j),H,I,rfl,q⟩
def NK (i j:Int):Prop:=0<=j/\j<=1000000/\i.natAbs<2 ^ 64
def FS (i j:Int):Prop:=(-(2 ^ 64)<i/\i<2 ^ 64)\/(-(2 ^ 64)<j/\j<2 ^ 64)
theorem FS.ok (h:FS i j):IntMulOk i j:=by
 obtain⟨e,d⟩|⟨e,d⟩:=h
 .exact .of_left (intBits_le_64 e d)
 .exact .of_right (intBits_le_64 e d)
theorem Mh:lu X (binaryOp .Add) (IF λi j=>.int (i+j)):=Pi λ_ _ _ _ _ _ _ q=>add_int q
theorem Mm:lu X (binaryOp .Sub) (IF λi j=>.int (i-j)):=Pi λ_ _ _ _ _ _ _ q=>sub_int q
theorem HX:lu X (binaryOp .Mod) (rI (λ_ j=>j≠0) λi j=>.int (i.fmod j)):=Qh λ_ _ _ _ _ _ _ h q=>mod_int' h q
theorem Ml:lu X (binaryOp .Pow) (rI NK λi j=>.int (i ^ j.toNat)):=Qh λ_ _ _ _ _ _ _ h q=>pow_int_small h.1 h.2.1 h.2.2 q
theorem RY {f:Value->Sem Value}{g:Int->Int}
  (e:∀ (i:Int) (t:Tok) (s:Shared) (Q:Value->Shared->Prop) (E:Value->Shared->Prop),Q (.int (g i) s.toks) {s with toks:=s.toks+1}->wpAny (model X.prog X.w) X.A (f (.int i t)) Q E s) :
  Qq X f (rU λi=>.int (g i)):=by
 intro p s d H x v Q I r h;obtain⟨i,rfl,q⟩:=h;obtain⟨t,rfl⟩:=r;exact e i t s _ _ ⟨.int (g i),H,I.tok _,⟨_,rfl⟩,q⟩
theorem Nh:Qq X (unaryOp .USub) (rU λi=>.int (-i)):=RY λ_ _ _ _ _ q=>neg_int q
end
section
variable {X:Cx}{a b c:Expr}{ta tb tc:TE}{pos:Pos}
theorem CY (I:aE X pins σ H s)(q:Q (.bl k) H)(e:k=d):EP X pins σ Q (.bool d) s:=by
 subst e;exact⟨.bl k,H,I,rfl,q⟩
theorem JJ:lu X (compareOp .Lt) (IF λi j=>.bl (decide (i<j))):=HU λ_ _ _ _ _ _ _ q=>lt_int q
theorem Pj:lu X (compareOp .LtE) (IF λi j=>.bl (decide (i<=j))):=HU λ_ _ _ _ _ _ _ q=>le_int q
theorem JI:lu X (compareOp .Gt) (IF λi j=>.bl (decide (j<i))):=HU λ_ _ _ _ _ _ _ q=>gt_int q
theorem JG:lu X (compareOp .GtE) (IF λi j=>.bl (decide (j<=i))):=HU λ_ _ _ _ _ _ _ q=>ge_int q
theorem Mi:lu X (compareOp .Is) (λx y H Q=>y=.non/\Q (.bl (decide (x=.non))) H):=by
 intro p s d H x y v u Q I r d h;obtain⟨rfl,q⟩:=h
 cases d
 refine is_none_gen (CY I q ?_)
 cases x <;> first
  | (cases r;rfl)
  | (obtain⟨t,rfl⟩:=r;rfl)
theorem HZ:lu X (compareOp .IsNot) (λx y H Q=>y=.non/\Q (.bl (!decide (x=.non))) H):=by
 intro p s d H x y v u Q I r d h;obtain⟨rfl,q⟩:=h
 cases d
 refine isnot_none_gen (CY I q ?_)
 cases x <;> first
  | (cases r;rfl)
  | (obtain⟨t,rfl⟩:=r;rfl)
theorem lu.or (h:lu X f r)(h':lu X f d):lu X f (λx y H Q=>r x y H Q\/d x y H Q):=by
 intro p s g H x y v u Q I i e q
 obtain q|q:=q
 .exact h p s g H x y v u Q I i e q
 .exact h' p s g H x y v u Q I i e q
theorem eQ (b:Expr)(h:op≠.In:=by decide)(g:op≠.NotIn:=by decide):behindInMarks op b=false:=by
 have d:(op == CmpOp.In)=false:=by cases op <;> first|rfl|exact absurd rfl h
 have e:(op == CmpOp.NotIn)=false:=by cases op <;> first|rfl|exact absurd rfl g
 cases b <;> simp[behindInMarks,d,e]
theorem mR {op:CmpOp}{r:R2}(o:lu X (compareOp op) r)(ha:PE X a ta)(hb:PE X b tb)(hm:behindInMarks op b=false):PE X (.Compare a [op] [b] pos) (M7 r ta tb):=by
 intro p s i H Q I h;exact wpAny_Compare1 (KS ha hb I h λv u d x y e m k g q=>o p d i e x y v u Q m k g q) hm
def PQ (t:TE):TT:=λd H Q=>t d H λx h=>∃ k,x=.bl k/\Q k h
theorem sM (o:lu X (compareOp op) r)(ha:PE X a ta)(hb:PE X b tb)(hm:behindInMarks op b=false):PT X (.Compare a [op] [b] pos) (PQ (M7 r ta tb)):=by
 intro p s d H Q I h;refine wpAny_isTrue_Compare1 (cG (ha p s d H _ I h) λv g ⟨x,i,B,m,q⟩=>cG (hb p g d i _ B q) λu B ⟨y,i,C,g,q⟩=>
  cG (o p B d i x y v u _ C m g q) λc d ⟨z,g,i,d,k,e,q⟩=>?_) hm
 subst e
 cases d
 exact wpAny_truthy_bool ⟨g,i,q⟩
theorem sC:(sizeLine:Nat)<2 ^ 63:=by rw[sizeLine_eq];decide
theorem vals1 (r:aT [x] us):∃ u,us=[u]/\RelV x u:=by
 cases r with
 |cons e d=>cases d;exact⟨_,rfl,e⟩
theorem vals2 (r:aT [x,y] us):∃ u d,us=[u,d]/\RelV x u/\RelV y d:=by
 cases r with
 |cons e d=>
  cases d with
  |cons d g=>cases g;exact⟨_,_,rfl,e,d⟩
theorem BB:eB X (.builtin "abs") (λx H Q=>∃ i,x=[.int i]/\Q (.int (if i<0 then -i else i)) H):=by
 intro p s d H x d Q I r h;obtain⟨i,rfl,q⟩:=h;obtain⟨u,rfl,t,rfl⟩:=vals1 r;exact call_abs_int λu k=>⟨.int (if i<0 then -i else i),H,I.tok _,⟨_,rfl⟩,q⟩
theorem zB (e:X.calm=true):eB X (.builtin "max") (λx H Q=>∃ i j,x=[.int i,.int j]/\Q (.int (if j>i then j else i)) H):=by
 intro p s d H x d Q I r h;obtain⟨i,j,rfl,q⟩:=h;obtain⟨u,d,rfl,⟨t,rfl⟩,⟨d,rfl⟩⟩:=vals2 r;refine max_two_ints (I.ok.hd e) λd d k=>⟨_,H,I.kept k,?_,q⟩
 by_cases d:j>i
 .rw[if_pos d,if_pos d];exact⟨_,rfl⟩
 .rw[if_neg d,if_neg d];exact⟨_,rfl⟩
theorem zD (e:X.calm=true):eB X (.builtin "min") (λx H Q=>∃ i j,x=[.int i,.int j]/\Q (.int (if j<i then j else i)) H):=by
 intro p s d H x d Q I r h;obtain⟨i,j,rfl,q⟩:=h;obtain⟨u,d,rfl,⟨t,rfl⟩,⟨d,rfl⟩⟩:=vals2 r;refine min_two_ints (I.ok.hd e) λd d k=>⟨_,H,I.kept k,?_,q⟩
 by_cases d:j<i
 .rw[if_pos d,if_pos d];exact⟨_,rfl⟩
 .rw[if_neg d,if_neg d];exact⟨_,rfl⟩
end
structure NP (h:Heap) (x dx C:Addr) (mA:Str->Option Value):Prop where
 obj:h.get? x=some (PySem.W.instObj C dx)
 ns:h.Ns1 dx mA
 ne:dx≠x
theorem Ah {h:Heap}{x:Addr}{m:Str->Option Value}(n:h.Ns1 x m):∃ i,h.get? x=some i/\∀ b,PySem.W.lookIn b i=some (m b):=by
 obtain⟨o,g,v,r,hd,u,_,hm⟩:=n;refine⟨o,r,λb=>?_⟩;have e:=hm b;unfold nsFind findBy at e;rw[<-Array.find?_toList]at e;unfold PySem.W.lookIn;rw[hd];dsimp only
 split
 .rename_i y q;rw[q]at e;exact congrArg some e
 .rename_i q;rw[q]at e;have a:g.toList.any (·.refKey)=false:=by
   rw[List.any_eq_false];intro y k;obtain⟨z,t,d⟩:=u y (Array.mem_toList_iff.mp k);simp[DictEntry.refKey,d]
  have p:¬ g.toList.any (·.refKey)=true:=by rw[a];exact Bool.false_ne_true
  rw[if_neg p];exact congrArg some e
theorem NP.look (I:NP h x b C a):∃ d,PySem.W.InstAt h x (PySem.W.instObj C b) C (some d)/\∀ e,PySem.W.lookIn e d=some (a e):=
 let ⟨d,ho,hl⟩:=Ah I.ns
 ⟨d,⟨I.obj,rfl,rfl,ho⟩,hl⟩
section
variable {prog:Program}{w:World}{A:Around}{E:Value->Shared->Prop}{s:Shared}{K:Frg}{x dx C f:Addr}{mA:Str->Option Value}{name:Str}{v:Value}
end
theorem FX.some_of (r:FX (some v) o):∃ u,o=some u/\RelV v u:=by
 cases o with
 |none=>exact(show False from r).elim
 |some u=>exact⟨u,rfl,r⟩
section
variable {P:Program}{w:World}{H H':Hp}{h h':Heap}{a C dx:Addr}{fs fs':List (Str × V)}
end
structure Qk (K:Frg) (C:Addr):Prop where
 pg:PySem.W.plainGet K C Str.empty=true
 hd:PySem.W.hasDictIn K C=true
 po:PySem.W.plainOver K C=true
 sa:PySem.W.findIn K (.ref C) "__setattr__"=some (some (.builtin "object.__setattr__"))
theorem Qk.get {K:Frg}{C:Addr}(c:Qk K C)(f:Str):PySem.W.plainGet K C f=true:=c.pg
structure R0 (K:Frg) (C:Addr) (f:Str) (v:V) (u:Value):Prop where
 at_:PySem.W.findIn K (.ref C) f=some (some u)
 rel:RelV v u
 get:PySem.W.specialIn K u "__get__"=some none
 cp:PySem.W.copiedNames.contains f=false
structure RC (K:Frg) (C:Addr) (m:Str) (f:Addr):Prop where
 at_:PySem.W.findIn K (.ref C) m=some (some (.ref f))
 fn:PySem.W.isFn K (.ref f)=true
 kp:PySem.W.keepIn K (.ref f)=true
section
variable {X:Cx}{pins:List (Addr × Obj)}{σ:St}{H:Hp}{s:Shared}{a C dx:Addr}{fs:List (Str × V)}{f:Str}{v:V}{A:Around}{E:Value->Shared->Prop}
theorem aE.made (I:aE X pins σ H s):aE X pins σ (cs (cs H s.heap.objs.size (.own (s.heap.objs.size+1))) (s.heap.objs.size+1) (.ins C s.heap.objs.size []))
  {s with heap:=(s.heap.push PySem.W.emptyDict).push (PySem.W.instObj C s.heap.objs.size)}:=by
 have d:(s.heap.push PySem.W.emptyDict).get? s.heap.objs.size=some PySem.W.emptyDict:=Heap.get?_push_size s.heap rfl;have k:((s.heap.push PySem.W.emptyDict).push (PySem.W.instObj C s.heap.objs.size)).get? (s.heap.objs.size+1)=some (PySem.W.instObj C s.heap.objs.size):=by
  have:=Heap.get?_push_size (s.heap.push PySem.W.emptyDict) (o:=PySem.W.instObj C s.heap.objs.size) rfl
  rwa [Heap.size_push]at this
 have g:(s.heap.push PySem.W.emptyDict).Ns s.heap.objs.size (λ_=>none):=⟨PySem.W.emptyDict,#[],_,d,rfl,(λe h=>absurd h (by simp)),λ_=>rfl⟩
 have i:=I.laid (a:=s.heap.objs.size) (o:=.own (s.heap.objs.size+1)) (h':=s.heap.push PySem.W.emptyDict) (t':=s.toks) (λb u q=>Heap.get?_push_of_some _ q) (le_refl _) ⟨_,d⟩;refine i.laid (a:=s.heap.objs.size+1) (o:=.ins C s.heap.objs.size []) (t':=s.toks) (λb u q=>Heap.get?_push_of_some _ q) (Nat.le_of_eq (Heap.size_push _ _)) ?_;have ne:s.heap.objs.size≠s.heap.objs.size+1:=ne_of_lt (lt_succ_self _);refine⟨by rw[aV ne,aW],zero_le _,ne,k,λ_=>none,(Heap.Ns1.of_empty g).at λo q=>Heap.get?_push_of_some _ q,λ_=>True.intro,λy h=>absurd rfl h⟩
end
section
variable {X:Cx}{o e value:Expr}{f:Str}{pos pos' tpos:Pos}{ta tv:TE}
end
section
variable {X:Cx}{pins:List (Addr × Obj)}{σ:St}{H:Hp}{s:Shared}{A:Around}{E:Value->Shared->Prop}{Q:Value->Shared->Prop}{c:Value}{b:Bool}
inductive nB (K:Frg) (H:Hp):V->Value->Prop where
 |non:nB K H .non (.type "NoneType")
 |bl (x:Bool):nB K H (.bl x) (.type "bool")
 |int (i:Int):nB K H (.int i) (.type "int")
 |str (x:Str):nB K H (.str x) (.type "str")
 |flt (x:UInt64):nB K H (.flt x) (.type "float")
 |lst {a:Addr}{xs:List V} (e:H a=some (.lst xs)):nB K H (.ref a) (.type "list")
 |frz {a:Addr}{o:Obj}{xs:List V} (e:H a=some (.frz o (.lst xs))):nB K H (.ref a) (.type "list")
 |tup {a:Addr}{xs:List V} (e:H a=some (.tup xs)):nB K H (.ref a) (.type "tuple")
 |dK {a:Addr}{kvs:List (Key × V)} (e:H a=some (.dK kvs)):nB K H (.ref a) (.type "dict")
 |dT {a:Addr}{kvs:List (List Key × V)} (e:H a=some (.dT kvs)):nB K H (.ref a) (.type "dict")
 |ins {a C dx:Addr}{fs:List (Str × V)} (e:H a=some (.ins C dx fs)) (cl:Qk K C) (ha:PySem.W.findIn K (.ref C) "__class__"=some (some (.builtin "object.__class__")))
   (hn:PySem.W.specialIn K (.builtin "object.__class__") "__get__"=some (some (.builtin "getset_descriptor.__get__"))) (htk:PySem.W.takesIn K (.builtin "object.__class__")=some true)
   (hm:PySem.W.mroIn K C (.type "object")=some true):nB K H (.ref a) (.ref C)
end
structure cu (k:Nat) (A:Around):Prop where
 hd:A.handled=none
 dp:A.depth+3*k+5<recursionLimit
 un:A.units+16*k+200<cLine
theorem cu.mono (r:cu k A) (h:j<=k):cu j A:=⟨r.hd,by have:=r.dp;ext,by have:=r.un;ext⟩
theorem cu.deeper (r:cu (k+1) A)(env:Env):cu k (A.deeper env):=
 ⟨r.hd,by have:=r.dp;show A.depth+1+3*k+5<_;ext,by have:=r.un;show A.units+3+16*k+200<_;ext⟩
theorem cu.in1 (r:cu (k+1) A):cu k A.in1:=
 ⟨r.hd,by have:=r.dp;show A.depth+3*k+5<_;ext,by have:=r.un;show A.units+1+16*k+200<_;ext⟩
theorem cu.depth (r:cu k A):A.depth<recursionLimit:=by have:=r.dp;ext
theorem cu.units (r:cu k A):A.units+64<cLine:=by have:=r.un;ext
def PM:TA:=λ_ H Q=>Q [] H
def JS (b:TE)(tr:TA):TA:=λa H Q=>b a H λx h=>tr a h λa h=>Q (x::a) h
section
variable {X:Cx}{e:Expr}{es:List Expr}{te:TE}{t:TA}{pos:Pos}
theorem oB:PA X [] PM:=λ_ _ _ _ H Q I h=>Calls.spliced_nil ⟨[],H,I,.nil,h⟩
theorem i7 (ha:PE X e te)(k:PA X es t)(hs:starEach (e::es) X.env=(false,eval e X.env)::starEach es X.env:=by rfl):PA X (e::es) (JS te t):=by
 intro pos p s a H Q I h;rw[hs];show wpAny _ _ (spliced ((false,eval e X.env)::backTo pos (starEach es X.env))) _ _ s;refine Calls.spliced_cons (cG (ha p s a H _ I h) ?_);rintro u b ⟨x,g,i,d,q⟩;exact cG (k pos p b a g _ i q) <| by rintro a a ⟨a,b,i,r,q⟩;exact⟨x::a,b,i,.cons d r,q⟩
def Rb (t:TA):TE:=λa H Q=>t a H λx h=>x.length<=sizeLine/\∀ p,h p=none->Q (.ref p) (cs h p (.tup x))
def Q6 (t:TA):TE:=λa H Q=>t a H λx h=>x.length<=sizeLine/\∀ p,h p=none->Q (.ref p) (cs h p (.lst x))
theorem My {k}(h:PA X es t):PE X (.Tuple es k pos) (Rb t):=by
 intro p s a H Q I d;refine wpAny_Tuple_spliced (cG (h pos p s a H _ I d) λg a ⟨x,d,i,r,z,q⟩=>⟨by rw[<-r.length];exact z,?_⟩)
 have m:d a.heap.objs.size=none:=i.hok.fresh (le_refl _);refine⟨.ref a.heap.objs.size,cs d a.heap.objs.size (.tup x),i.laid (t':=a.toks) (λb u e=>Heap.get?_push_of_some _ e) (le_refl _) ?_,rfl,q _ m⟩;exact⟨z,g,r,⟨_,Heap.get?_push_size _ rfl,rfl,_,rfl⟩⟩
theorem Mt (h:PA X es t):PE X (.List es pos) (Q6 t):=by
 intro p s a H Q I d;refine wpAny_List_spliced (cG (h pos p s a H _ I d) λg a ⟨x,d,i,r,z,q⟩=>⟨by rw[<-r.length];exact z,?_⟩)
 have k:d a.heap.objs.size=none:=i.hok.fresh (le_refl _);refine⟨.ref a.heap.objs.size,cs d a.heap.objs.size (.lst x),i.laid (t':=a.toks) (λb u e=>Heap.get?_push_of_some _ e) (le_refl _) ?_,rfl,q _ k⟩;exact⟨z,g,0,r,Heap.get?_push_size _ rfl⟩
end
abbrev Sp:=List V->Hp->VK->XK->Prop
abbrev AX:=List Env->Hp->Shared->XK->Value->Shared->Prop
structure vC (P:Program) (w:World) (K:Frg) (mg:Str->Option Value) (base:Heap) (A:Around) (outer:List Env) (s:Shared) (H:Hp):Prop where
 frames:A.frames=some outer
 mod:Mod K mg base
 bs:∀ b o,base.get? b=some o->s.heap.get? b=some o/\H b=none
 bsz:base.objs.size<=s.heap.objs.size
 funs:s.heap.FunFrames base outer
 frf:∀ b∈zS outer,H b=none
 hok:gz P w H s.heap
 bare:AllBare s.gens
def CE (outer:List Env)(P:Program)(w:World)(H:Hp)(s:Shared)(Q:VK)(u:Value)(a:Shared):Prop:=
 ∃ v h,a.os=s.os/\AllBare a.gens/\Un (zS outer) [] H h s.heap a.heap/\gz P w h a.heap/\RelV v u/\Q v h
def CR (CX:AX)(outer:List Env)(P:Program)(w:World)(H:Hp)(s:Shared)(Q:VK)(E:XK)(r:Result)(a:Shared):Prop:=
 match r with
 | .ok (.ret u)=>CE outer P w H s Q u a
 | .ok _=>False
 | .error e=>CX outer H s E e a
structure ix (P:Program) (w:World) (K:Frg) (mg:Str->Option Value) (base:Heap) (CX:AX) (k:Nat) (f:Addr) (fd:FuncData) (ps:List Str) (sp:Sp):Prop where
 len:∀ vs H Q E,sp vs H Q E->vs.length=ps.length
 run:∀ (A:Around) (outer:List Env) (s:Shared) (H:Hp) (args:Args) (us:List Value) (vs:List V) (Q:VK) (E:XK),cu k A->vC P w K mg base A outer s H->BindsTo s fd args (ps.zip us)->aT vs us->sp vs H Q E →
  codeAny (model P w) A (.call (.ref f) args) (CR CX outer P w H s Q E) s
theorem ix.mono {P:Program}{w:World}{K:Frg}{mg:Str->Option Value}{base:Heap}{CX:AX}{j k:Nat}{f:Addr}{d:FuncData}{ps:List Str}{sp:Sp}(F:ix P w K mg base CX j f d ps sp)(h:j<=k) :
  ix P w K mg base CX k f d ps sp:=⟨F.len,λA outer s H a u v Q E r=>F.run A outer s H a u v Q E (r.mono h)⟩
theorem ix.imp {P:Program}{w:World}{K:Frg}{mg:Str->Option Value}{base:Heap}{CX:AX}{k:Nat}{f:Addr}{d:FuncData}{ps:List Str}{sp b:Sp}(F:ix P w K mg base CX k f d ps sp)
  (h:∀ v H Q E,b v H Q E->sp v H Q E):ix P w K mg base CX k f d ps b:=
 ⟨λv H Q E q=>F.len v H Q E (h _ _ _ _ q),λA outer s H a u v Q E r g hb e i=>F.run A outer s H a u v Q E r g hb e (h _ _ _ _ i)⟩
theorem vC.in1 {P:Program}{w:World}{K:Frg}{mg:Str->Option Value}{base:Heap}{A:Around}{outer:List Env}{s:Shared}{H:Hp}(e:vC P w K mg base A outer s H) :
  vC P w K mg base A.in1 outer s H:=⟨e.frames,e.mod,e.bs,e.bsz,e.funs,e.frf,e.hok,e.bare⟩
section
variable {X:Cx}{pins:List (Addr × Obj)}{σ:St}{H:Hp}{s s':Shared}
theorem aE.env0 (I:aE X pins σ H s):vC X.prog X.w X.K X.mg X.base X.A X.stack s H:=
 ⟨I.ok.frames,I.ok.mod,I.bs,le_trans I.ok.bsz I.sz,I.stack,I.stkFree,I.hok,I.bare⟩
theorem aE.after (I:aE X pins σ H s)(h:CE X.stack X.prog X.w H s Q u s'):EP X pins σ Q u s':=by
 obtain⟨v,a,os,bare,un,hok,r,q⟩:=h;obtain⟨hh,g,d,t,o⟩:=s';obtain rfl:o=s.os:=os;exact⟨v,a,I.call (h':=hh) (g':=g) (d':=d) (t':=t) (ch:=[]) un hok bare (λb z=>absurd z (by simp)),r,q⟩
end
def JR (sp:Sp)(d:List V)(E:XK)(t:TA):TE:=λa H Q=>t a H λv h=>sp (v++d) h Q E
def Binds (K:Frg)(a:FuncData)(ps:List Str)(d:List Value):Prop:=
 ∀ (s:Shared) (u:List Value),K.In s.heap->(u++d).length=ps.length->BindsTo s a ⟨u,[]⟩ (ps.zip (u++d))
theorem Binds.all {K:Frg}{d:FuncData}{ps:List Str}(h:∀ u:List Value,u.length=ps.length->bindArgs d ⟨u,[]⟩=pure (ps.zip u)):Binds K d ps []:=λs u _ a=>by
 rw[append_nil]at a ⊢;exact .of_eq (h u a)
def vH (CX:AX)(X:Cx)(E:XK):Prop:=∀ (p:List (Addr × Obj)) (b:St) (H:Hp) (s:Shared) (e:Value) (a:Shared),aE X p b H s->CX X.stack H s E e a->X.xe e a
section
variable {X:Cx}{CX:AX}{k:Nat}{f C:Addr}{fd:FuncData}{ps:List Str}{sp:Sp}{dvs:List V}{ds:List Value}{E:XK}{x m:Str}{p pos apos:Pos}{e o:Expr}{es:List Expr}{ta:TE}{t:TA}
theorem MV (F:ix X.prog X.w X.K X.mg X.base CX k f fd ps sp)(i:cu k X.A)(hb:Binds X.K fd ps ds)(hd:aT dvs ds)(g:vH CX X E)
  (I:aE X pins σ H s) (r:aT vs us) (h:sp (vs++dvs) H Q E):wpAny (model X.prog X.w) X.A (call (.ref f) us) (EP X pins σ Q) X.xe s:=by
 have a:aT (vs++dvs) (us++ds):=r.append hd;have b:(us++ds).length=ps.length:=by rw[<-a.length];exact F.len _ _ _ _ h
 refine wpAny_call (codeAny_mono (F.run X.A X.stack s H ⟨us,[]⟩ (us++ds) (vs++dvs) Q E i I.env0 (hb s us I.kIn b) a h) λr d q=>?_)
 cases r with
 |error e=>exact g pins σ H s e d I q
 |ok fl=>
  cases fl with
  |ret u=>exact I.after q
  |next=>exact False.elim q
  |brk=>exact False.elim q
  |cont=>exact False.elim q
theorem Ib (F:ix X.prog X.w X.K X.mg X.base CX k f fd ps sp)(hr:cu k X.A)(hg:Gl X x)(hm:X.mg x=some (.ref f))(hk:PySem.W.keepIn X.K (.ref f)=true)(hb:Binds X.K fd ps ds)(hd:aT dvs ds)(hx:vH CX X E)
  (ha:PA X (e::es) t) (hdb:(x == ("__debug__":Str))=false:=by decide) (he:starEach (e::es) X.env=(false,eval e X.env)::starEach es X.env:=by rfl) (hpl:(backTo pos (starEach es X.env)).any (·.1)=false:=by rfl) :
  PE X (.Call (.Name x p) (e::es) [] pos) (JR sp dvs E t):=by
 intro pins s σ H Q I h;refine wpAny_Call_Name_kw (Ho I hg hm ?_ hdb);refine PySem.W.callWith_K (h₀:=X.base) I.ok.mod.kin hk (cG (ha pos pins s σ H _ I h) λus s1 ⟨vs,H1,I1,r,q⟩=>⟨I1.kIn,?_⟩) he hpl;exact MV F hr hb hd hx I1 r q
structure Mk (K:Frg) (C f:Addr):Prop where
 makes:PySem.W.makesIn K C=true
 init:PySem.W.findIn K (.ref C) "__init__"=some (some (.ref f))
 fn:PySem.W.isFn K (.ref f)=true
 kp:PySem.W.keepIn K (.ref C)=true
end
section
variable {X:Cx}{CX:AX}{k:Nat}{f C:Addr}{fd:FuncData}{ps ks:List Str}{sp:Sp}{E:XK}{x m:Str}{p pos apos kpos:Pos}{e o:Expr}{es:List Expr}{kws:List Keyword}{te ta:TE}{t tk:TA}{nm:Option Str}
structure Qp (K:Frg) (fd:FuncData) (ps ks:List Str) (g:List Value->List Value->List Value) (gV:List V->List V->List V):Prop where
 to:∀ (s:Shared) (us ws:List Value),K.In s.heap->(g us ws).length=ps.length->BindsTo s fd ⟨us,ks.zip ws⟩ (ps.zip (g us ws))
 rel:∀ {vs:List V}{us:List Value}{zs:List V}{ws:List Value},aT vs us->aT zs ws->aT (gV vs zs) (g us ws)
variable {g:List Value->List Value->List Value}{gV:List V->List V->List V}
end
structure ay (N P:List Str) (sc:Scope):Prop where
 kind:sc.kind=.function
 co:sc.isCoroutine=false
 gen:sc.isGenerator=false
 nd:N.Nodup
 pre:N.take P.length=P
 par:∀ x∈P,sc.names.lookup x=some .local\/sc.names.lookup x=some .cell
 nofree:∀ y∈sc.names,y.2≠.free
theorem p4 {k:Str->Option NameKind}{x:Str}:∀ {binds:List (Str × Value)}{m:Str->Option Value},(∀ v,(x,v)∉binds)->bindL k binds m x=m x
 | [],_,_=>rfl
 | (n,v)::r,m,h=>by
  unfold bindL;rw[p4 λw a=>h w (mem_cons_of_mem _ a)]
  split
  .have:x≠n:=by rintro rfl;exact h v mem_cons_self
   simp[this]
  .rfl
theorem pY {k:Str->Option NameKind}{x:Str}:∀ {binds:List (Str × Value)}{m:Str->Option Value},(∀ v,(x,v)∉binds)->bindC k binds m x=m x
 | [],_,_=>rfl
 | (n,v)::r,m,h=>by
  unfold bindC;rw[pY λw a=>h w (mem_cons_of_mem _ a)]
  split
  .rfl
  .have:x≠n:=by rintro rfl;exact h v mem_cons_self
   simp[this]
theorem pZ {k:Str->Option NameKind}{x:Str}{v:Value}:∀ {P:List Str}{a:List Value}{i:Nat}{m:Str->Option Value},P.Nodup->P[i]?=some x->a[i]?=some v->k x=some .local →
  bindL k (P.zip a) m x=some v
 | [],_,_,_,_,h,_,_=>by simp at h
 |_::_,[],_,_,_,_,h,_=>by simp at h
 |p::P,w::a,0,m,nd,d,b,e=>by
  simp at d b;subst d;subst b;show bindL k ((p,w)::P.zip a) m p=_;unfold bindL;rw[p4 λv g=>(nodup_cons.mp nd).1 (List.of_mem_zip g).1,if_pos e];simp
 |p::P,w::a,i+1,m,nd,d,b,e=>by
  show bindL k ((p,w)::P.zip a) m x=_;unfold bindL;exact pZ (i:=i) (nodup_cons.mp nd).2 (by simpa using d) (by simpa using b) e
theorem pX {k:Str->Option NameKind}{x:Str}{v:Value}:∀ {P:List Str}{a:List Value}{i:Nat}{m:Str->Option Value},P.Nodup->P[i]?=some x->a[i]?=some v->k x≠some .local →
  bindC k (P.zip a) m x=some v
 | [],_,_,_,_,h,_,_=>by simp at h
 |_::_,[],_,_,_,_,h,_=>by simp at h
 |p::P,w::a,0,m,nd,d,b,e=>by
  simp at d b;subst d;subst b;show bindC k ((p,w)::P.zip a) m p=_;unfold bindC;rw[pY λv g=>(nodup_cons.mp nd).1 (List.of_mem_zip g).1,if_neg e];simp
 |p::P,w::a,i+1,m,nd,d,b,e=>by
  show bindC k ((p,w)::P.zip a) m x=_;unfold bindC;exact pX (i:=i) (nodup_cons.mp nd).2 (by simpa using d) (by simpa using b) e
def start (N:List Str)(vs:List V):St:=vs.map some++replicate (N.length-vs.length) none
def pz (CX:AX)(P:Program)(w:World)(K:Frg)(mg:Str->Option Value)(base:Heap)(N:List Str)(q:Str)(scope:Scope)(f:Addr)(d:Value)(A:Around)(outer:List Env)(s:Shared)(H:Hp)(E:XK):Cx where
 prog:=P
 w:=w
 K:=K
 mg:=mg
 base:=base
 A:=A.deeper (envOfC q scope s.heap.objs.size f d)
 N:=N
 s₀:=s
 H₀:=H
 env:=envOfC q scope s.heap.objs.size f d
 outer:=outer
 stack:=envOfC q scope s.heap.objs.size f d::outer
 ex:=[]
 calm:=true
 fn:=λ_=>true
 pn:=[]
 xe:=λe g=>wpAny (model P w) (A.deeper (envOfC q scope s.heap.objs.size f d)) (leaving (envOfC q scope s.heap.objs.size f d) e) (λ_ a=>CX outer H s E e a) (λb a=>CX outer H s E b a) g
theorem t3 {a:Scope}{n:Nat}{x:Str}(h:a.names.lookup x=some .cell):∃ c,(cellsFrom n a.names []).lookup x=some c:=by
 have q:=PySem.W.cellsFrom_some a.names n [] (.inl h);exact isSome_iff_exists.mp q
theorem zX {CX:AX}{P:Program}{w:World}{K:Frg}{mg:Str->Option Value}{base:Heap}{N ps:List Str}{d:Str}{scope:Scope}{f:Addr}{C:Value}{A:Around}{outer:List Env}{s F:Shared}{H:Hp}{E:XK}{us:List Value}{vs:List V}
  (S:ay N ps scope) (hd:A.handled=none) (m:vC P w K mg base A outer s H) (J:vs.length=ps.length) (r:aT vs us)
  (x:InCallC s s.heap.objs.size (bindL (envOfC d scope s.heap.objs.size f C).kindOf (ps.zip us) λ_=>none) (cellsFrom (s.heap.objs.size+1) scope.names []) (bindC (envOfC d scope s.heap.objs.size f C).kindOf (ps.zip us) λ_=>none) F) :
  aE (pz CX P w K mg base N d scope f C A outer s H E) [] (start N vs) H F:=by
 have g:ps.length<=N.length:=by have:=congrArg List.length S.pre;rw[length_take]at this;ext
 obtain⟨D,g,rfl,I⟩:=x.done;have o:∀ b:Addr,b∉(pz CX P w K mg base N d scope f C A outer s H E).ex:=λb z=>absurd (show b∈([]:List Addr) from z) (by simp)
 refine⟨⟨m.mod,S.kind,rfl,rfl,le_refl _,λy z c D g=>?_,λy B=>?_,λy c _ h=>?_,λ_=>hd,Around.frames_deeper m.frames,.inr ⟨rfl,rfl⟩,λb z=>absurd z (o b),m.bs,m.bsz,λb _ _=>o b,λb z=>absurd z (o b),m.funs,m.frf⟩,
  rfl,m.bare,Un.kept I,⟨_,x.toInCall.ns,λi y v D g o=>?_⟩,λy c h=>⟨_,x.cell y c h⟩,m.hok.fresh (le_refl _),λy c h=>?_,λp o=>absurd (show p∈([]:List (Addr × Obj)) from o) (by simp),m.hok.kept I,?_⟩
 .exact name_of_addr x.apart (PySem.mem_of_lookup D) (PySem.mem_of_lookup g)
 .have B:scope.names.lookup y=some .cell\/scope.names.lookup y=some .free:=B
  obtain B|B:=B
  .exact t3 B
  .exact absurd rfl (S.nofree _ (PySem.mem_of_lookup B))
 .exact Nat.le_of_lt (x.above y c (PySem.mem_of_lookup h))
 .have hi:i<vs.length:=by
   unfold start at g
   by_cases hi:i<vs.length
   .exact hi
   .rw[getElem?_append_right (by simpa using hi)]at g
    rw[getElem?_replicate]at g
    split at g <;> cases g
  have ha:vs[i]?=some v:=by
   unfold start at g;rw[getElem?_append_left (by simpa using hi),getElem?_map]at g
   cases e:vs[i]? with
   |none=>rw[e]at g;cases g
   |some a=>rw[e]at g;cases g;rfl
  obtain⟨u,B,I⟩:=r.get ha;have o:ps[i]?=some y:=by
   rw[<-S.pre,List.getElem?_take_of_lt ⋯];exact D
  have g:ps.Nodup:=by rw[<-S.pre];exact S.nd.sublist (List.take_sublist _ _)
  refine⟨u,I,?_⟩
  obtain k|k:=S.par y (mem_of_getElem? o)
  .exact .inl ⟨k,pZ g o B k⟩
  .obtain⟨c,e⟩:=t3 (n:=s.heap.objs.size+1) k;refine .inr ⟨.inl k,c,e,?_⟩;have q:=x.cell y c e;rw[pX g o B (by show scope.names.lookup y≠_;rw[k];decide)]at q
   exact q
 .exact m.hok.fresh (Nat.le_of_lt (x.above y c (PySem.mem_of_lookup h)))
 .unfold start;show _=N.length;rw[List.length_append,length_map,length_replicate];ext
theorem Jo {CX:AX}{P:Program}{w:World}{K:Frg}{mg:Str->Option Value}{base:Heap}{k:Nat}{f:Addr}{name a:Str}{p:Arguments}{g:List Stmt}{scope:Scope}{Z kV M pm d ct oc:Value}{an od:Option Addr}
  {R:Array (Option Value)}{N ps:List Str}{sp:Sp} (lk:K.lookup f=some ⟨oc,od,.func (PySem.W.fnOf name a p g scope Z kV M pm an d ct),R⟩) (X:PySem.W.codeIn K d a=true) (S:ay N ps scope)
  (len:∀ i H Q E,sp i H Q E->i.length=ps.length)
  (z:∀ (A:Around) (outer:List Env) (s:Shared) (H:Hp) (i:List V) (Q:VK) (E:XK),cu k (A.deeper (envOfC a scope s.heap.objs.size f d))->sp i H Q E →
   ∃ t,ki (pz CX P w K mg base N a scope f d A outer s H E) g t/\t {nx:=λ_ m=>Q .non m,rt:=Q} (start N i) H) :
  ix P w K mg base CX (k+1) f (PySem.W.fnOf name a p g scope Z kV M pm an d ct) ps sp:=by
 refine⟨len,λA outer s H args us i Q E W D hb r F=>?_⟩;have hl:=len _ _ _ _ F;have KX:K.In s.heap:=D.mod.kin.keeps λb o e=>(D.bs b o e).1;have U:s.heap.NoLimit:=D.mod.nolimit.keeps λb o e=>(D.bs b o e).1;have B:∀ y∈ps.zip us,scope.names.lookup y.1=some .local\/(scope.names.lookup y.1=some .cell/\((cellsFrom (s.heap.objs.size+1) scope.names []).lookup y.1).isSome=true):=λ⟨n,v⟩ hy=>by
  obtain q|q:=S.par n (List.of_mem_zip hy).1
  .exact .inl q
  .exact .inr ⟨q,PySem.W.cellsFrom_some _ _ _ (.inl q)⟩
 refine codeAny_call_function W.depth (KX _ _ lk) rfl S.co S.gen rfl (PySem.W.codeRec_of KX X) (hb _ _ _ _ ?_);refine wpAny_newFunctionEnv_cells S.kind B λenv he s1 x=>?_;subst he;refine⟨U.keeps x.toInCall.keep,codeAny_func ?_⟩;obtain⟨t,ht,hq⟩:=z A outer s H i Q E (W.deeper _) F;have I:aE (pz CX P w K mg base N a scope f d A outer s H E) [] (start N i) H s1:=zX S W.hd D hl r x;refine wpAny_mono (ht [] s1 (start N i) H _ I hq) (λfl O C=>?_) λe O C=>C;have L:∀ {h:St}{m:Hp}{v:V}{u:Value},aE (pz CX P w K mg base N a scope f d A outer s H E) [] h m O->RelV v u->Q v m->CE outer P w H s Q u O:=
  λ{h m v u} J Y q=>⟨v,m,J.os,J.bare,J.base,J.hok,Y,q⟩
 cases fl with
 |ret u=>
  obtain⟨v,h,m,J,Y,q⟩:=C;exact L J Y q
 |next=>
  obtain⟨h,m,J,q⟩:=C;exact L (v:=V.non) (u:=Value.none) J rfl q
 |brk=>
  obtain⟨_,_,_,q⟩:=C;exact False.elim q
 |cont=>
  obtain⟨_,_,_,q⟩:=C;exact False.elim q
section
variable {X:Cx}{x:Str}{p pos:Pos}{e:Expr}{es:List Expr}{t:TA}{id T:String}{r:List V->Hp->VK->Prop}
def Q3 (r:List V->Hp->VK->Prop)(t:TA):TE:=λa H Q=>t a H λv h=>r v h Q
theorem uX (z:eB X (.builtin id) r) (o:Gl X x) (hm:X.mg x=none) (v:bootBuiltins x=some (.builtin id)) (ha:PA X (e::es) t) (B:x≠"__name__":=by decide) (b:(x == ("__debug__":Str))=false:=by decide)
  (he:starEach (e::es) X.env=(false,eval e X.env)::starEach es X.env:=by rfl) (hpl:(backTo pos (starEach es X.env)).any (·.1)=false:=by rfl):PE X (.Call (.Name x p) (e::es) [] pos) (Q3 r t):=by
 intro a s d H Q I h;refine wpAny_Call_Name_kw (fP I o hm v ?_ B b);exact PyProof.Rows.callWith_builtin1 (cG (ha pos a s d H _ I h) <| by rintro u g ⟨i,m,y,k,q⟩;exact z a g d m i u Q y k q) he hpl
theorem AA (z:eB X (.type T) r) (o:Gl X x) (hm:X.mg x=none) (v:bootBuiltins x=some (.type T)) (ha:PA X (e::es) t) (B:x≠"__name__":=by decide) (b:(x == ("__debug__":Str))=false:=by decide)
  (he:starEach (e::es) X.env=(false,eval e X.env)::starEach es X.env:=by rfl) (hpl:(backTo pos (starEach es X.env)).any (·.1)=false:=by rfl):PE X (.Call (.Name x p) (e::es) [] pos) (Q3 r t):=by
 intro a s d H Q I h;refine wpAny_Call_Name_kw (fP I o hm v ?_ B b);exact PyProof.Rows.callWith_type1 (cG (ha pos a s d H _ I h) <| by rintro u g ⟨i,m,y,k,q⟩;exact z a g d m i u Q y k q) he hpl
end
end L2
namespace HT
open PySem PyProof.Rows
section
open PySem.SeqAt
open PySem.AutoSeq1 (wpAny_loadPart')
open PySem.MeetsSeq PySem.MeetsSeq2 PySem.MeetsSeq3
end
section
variable {prog:Program}{w:World}{A:Around}{E:Value->Shared->Prop}{s:Shared}
def sIx (n d:Nat):Option Int->Nat
 |none=>d
 |some v=>if v<0 then (v+(n:Int)).toNat else min v.toNat n
theorem sIx_none (n d:Nat):sIx n d none=d:=rfl
theorem sIx_nat (n d k:Nat):sIx n d (some (k:Int))=min k n:=by
 show(if (k:Int)<0 then ((k:Int)+(n:Int)).toNat else min (k:Int).toNat n)=min k n
 rw[if_neg ⋯,toNat_natCast]
end
end HT
namespace L2
open PySem PySem.Spec PyProof.Rows
abbrev TO:=St->Hp->(Option Int->Hp->Prop)->Prop
def PO (X:Cx)(e:Option Expr)(t:TO):Prop:=
 ∀ (p:List (Addr × Obj)) (s:Shared) (a:St) (H:Hp) (Q:Option Int->Hp->Prop),aE X p a H s->t a H Q →
  wpAny (model X.prog X.w) X.A (evalPart e X.env) (λu b=>∃ o h,aE X p a h b/\IsPart u o/\Q o h) X.xe s
def IT:TO:=λ_ H Q=>Q none H
def PP (t:TE):TO:=λa H Q=>t a H λx h=>∃ i,x=.int i/\Q (some i) h
section
variable {X:Cx}{e:Expr}{te:TE}{lo hi:Option Expr}{tl th:TO}{pos p2:Pos}
theorem Ih:PO X none IT:=by
 intro p s a H Q I h;rw[evalPart_none];exact wpAny_pure ⟨none,H,I,.none,h⟩
theorem Ii (h:PE X e te):PO X (some e) (PP te):=by
 intro p s b H Q I a;rw[evalPart_some];refine cG (h p s b H _ I a) ?_;rintro u a ⟨x,b,d,r,a⟩;obtain⟨i,rfl,q⟩:=a;obtain⟨t,rfl⟩:=r;exact⟨some i,b,d,.int i t,q⟩
def NA (X:Cx)(r:V->Option Int->Option Int->Hp->VK->Prop):Prop:=
 ∀ (p:List (Addr × Obj)) (s:Shared) (d:St) (H:Hp) (x:V) (v b u:Value) (lo hi:Option Int) (a:Addr) (Q:VK),aE X p d H s->RelV x v->s.heap.IsSliceOf a b u .none->IsPart b lo->IsPart u hi->r x lo hi H Q →
  ∃ T id,typeLookup (.type T) "__getitem__"=pure (some (.builtin id))/\s.TypeIs v T/\wpAny (model X.prog X.w) X.A (getItem v (.ref a)) (EP X p d Q) X.xe s
theorem NA.or (h:NA X r)(h':NA X a):NA X (λx lo hi H Q=>r x lo hi H Q\/a x lo hi H Q):=by
 intro p s i H x v d u lo hi b Q I m g pl k q
 obtain q|q:=q
 .exact h p s i H x v d u lo hi b Q I m g pl k q
 .exact h' p s i H x v d u lo hi b Q I m g pl k q
def RW (r:V->Option Int->Option Int->Hp->VK->Prop)(te:TE)(tl th:TO):TE:=λa H Q=>te a H λx h=>tl a h λl h=>th a h λu h=>r x l u h Q
theorem EY (z:NA X r)(he:PE X e te)(C:PO X lo tl)(o:PO X hi th):PE X (.Subscript e (.Slice lo hi none p2) pos) (RW r te tl th):=by
 intro p s d H Q I h;refine Subscript_ (cG (he p s d H _ I h) ?_);rintro v g ⟨x,i,k,D,a⟩;refine wpAny_Slice (cG (C p g d i _ k a) λi k ⟨l,a,g,pl,m⟩=>cG (o p k d a _ g m) ?_);rintro g a ⟨u,k,B,y,m⟩;rw[evalPart_none];refine wpAny_pure ?_;have J:aE X p d k {a with heap:=a.heap.push {cls:=.type "slice",data:=.fields #[i,g,.none]}}:=B.kept (t':=a.toks) λb B q=>Heap.get?_push_of_some _ q;obtain⟨T,id,E,B,F⟩:=z p {a with heap:=a.heap.push {cls:=.type "slice",data:=.fields #[i,g,.none]}} d k x v i g l u a.heap.objs.size Q J D (Heap.IsSliceOf.new ..) pl y m;show wpAny (model X.prog X.w) X.A (subscriptTail e (.Slice lo hi none p2) v (.ref a.heap.objs.size)) (EP X p d Q) X.xe {a with heap:=a.heap.push {cls:=.type "slice",data:=.fields #[i,g,.none]}};exact tail_any (ops:=[.ref a.heap.objs.size,v]) B E F (by with_unfolding_all rfl)
def zG (xs:List V)(lo hi:Option Int):List V:=(xs.drop (HT.sIx xs.length 0 lo)).take (HT.sIx xs.length xs.length hi-HT.sIx xs.length 0 lo)
theorem ua (xs:List V)(lo hi:Option Int):(zG xs lo hi).length<=xs.length:=by
 unfold zG;rw[length_take,length_drop];ext
end
def su (n:Nat)(i:Int):Option Nat:=if 0<=i then (if i<n then some i.toNat else none) else if -(n:Int)<=i then some (i+n).toNat else none
def atI {α:Type}(xs:List α)(i:Int):Option α:=(su xs.length i).bind λj=>xs[j]?
theorem yh (h:su n i=some j):seqIndex? i n=some j/\j<n/\-(n:Int)<=i/\i<n:=by
 unfold su at h
 by_cases b:0<=i
 .rw[if_pos b]at h
  by_cases a:i<n
  .rw[if_pos a]at h;have e:i.toNat=j:=Option.some.inj h;exact⟨by rw[seqIndex_of b a,e],⋯,⋯,a⟩
  .rw[if_neg a]at h;cases h
 .rw[if_neg b]at h
  by_cases a:-(n:Int)<=i
  .rw[if_pos a]at h;have e:(i+n).toNat=j:=Option.some.inj h;exact⟨by rw[seqIndex_neg ⋯ a,e],⋯,a,⋯⟩
  .rw[if_neg a]at h;cases h
theorem xG (h:atI xs i=some v):∃ j,seqIndex? i xs.length=some j/\xs[j]?=some v/\j<xs.length/\-(xs.length:Int)<=i/\i<xs.length:=by
 unfold atI at h
 cases e:su xs.length i with
 |none=>rw[e]at h;cases h
 |some j=>
  rw[e]at h;obtain⟨g,b,a,d⟩:=yh e;exact⟨j,g,h,b,a,d⟩
theorem Gs {α:Type}{xs:List α}{j:Nat}{v:α}(h:xs[j]?=some v):atI xs (j:Int)=some v:=by
 have a:j<xs.length:=(List.getElem?_eq_some_iff.mp h).1;have e:su xs.length (j:Int)=some j:=by
  unfold su;rw[if_pos ⋯,if_pos ⋯];simp
 unfold atI;rw[e];exact h
theorem Bp (xs:List α)(v:α):atI (xs++[v]) (-1)=some v:=by
 have h:(xs++[v]).length=xs.length+1:=by simp
 have e:su (xs++[v]).length (-1)=some xs.length:=by
  unfold su;rw[h,if_neg ⋯,if_pos ⋯]
  congr 1
  ext
 unfold atI;rw[e];show(xs++[v])[xs.length]?=some v;simp
def xC (b:Expr):Prop:=∀ o i,subscripted b false o i=operate [o,i] (getItem o i)
def J0 (X:Cx)(r:R2):Prop:=
 ∀ (a e:Expr) (p:List (Addr × Obj)) (s:Shared) (b:St) (H:Hp) (x y:V) (v u:Value) (Q:VK),aE X p b H s->RelV x v->RelV y u->r x y H Q →
  subscripted e false v u=operate [v,u] (getItem v u)->wpAny (model X.prog X.w) X.A (subscriptTail a e v u) (EP X p b Q) X.xe s
def Nx (X:Cx)(id:String)(r:V->List V->Hp->VK->Prop):Prop:=
 ∀ (p:List (Addr × Obj)) (s:Shared) (a:St) (H:Hp) (x:V) (b:List V) (v:Value) (u:List Value) (Q:VK),aE X p a H s->RelV x v->aT b u->r x b H Q →
  wpAny (model X.prog X.w) X.A (call (.builtin id) (v::u)) (EP X p a Q) X.xe s
section
variable {X:Cx}{a b:Expr}{ta tb:TE}{pos:Pos}
theorem J0.or (h:J0 X r)(h':J0 X g):J0 X (λx y H Q=>r x y H Q\/g x y H Q):=by
 intro d e p s m H x y v u Q I o k q i
 obtain q|q:=q
 .exact h d e p s m H x y v u Q I o k q i
 .exact h' d e p s m H x y v u Q I o k q i
theorem Nx.or {id:String}{r e:V->List V->Hp->VK->Prop}(h:Nx X id r)(h':Nx X id e):Nx X id (λx d H Q=>r x d H Q\/e x d H Q):=by
 intro p s i H x d v u Q I k g q
 obtain q|q:=q
 .exact h p s i H x d v u Q I k g q
 .exact h' p s i H x d v u Q I k g q
theorem Po (m:J0 X r)(ha:PE X a ta)(hb:PE X b tb)(hs:xC b):PE X (.Subscript a b pos) (M7 r ta tb):=by
 intro p s i H Q I h;exact Subscript_ (KS ha hb I h λv u d x y e o k g q=>m a b p d i e x y v u Q o k g q (hs _ _))
def Pw (K:Frg):R2:=λx y H Q=>∃ p d i v,x=.ref p/\y=.int i/\cC K H p d/\atI d i=some v/\Q v H
def Px (K:Frg):R2:=λx y H Q=>∃ p d i v,x=.ref p/\y=.int i/\jy K H p d/\atI d i=some v/\Q v H
theorem Hc:J0 X (Pw X.K):=by
 intro e e d s C H x y v u Q I k m h o;obtain⟨p,e,i,z,rfl,rfl,g,e,q⟩:=h
 cases k
 obtain⟨t,rfl⟩:=m;obtain⟨m,r,pl,hz⟩:=I.list g;obtain⟨j,g,D,k,F,J⟩:=xG e;obtain⟨w,B,k⟩:=r.get D;have E:=r.length;have e:=sC;have e:EP X d C Q w s:=⟨z,H,I,k,q⟩
 by_cases D:0<=i
 .have k:i.toNat=j:=by
   rw[seqIndex_of D J]at g;exact Option.some.inj g
  exact item_listR pl.isList D ⋯ (by rw[k];simpa using B) e o
 .have k:(i+(m.toArray.size:Int)).toNat=j:=by
   rw[seqIndex_neg ⋯ F]at g
   rw[size_toArray,<-E];exact Option.some.inj g
  exact subscriptTail_builtinR (x:=w) pl.isList.typeIs slot_list_getitem.lookup
   (wpAny_getItem_list_neg (Q:=λr g=>r=w/\EP X d C Q r g) pl.isList ⋯ (by rw[size_toArray] <;> ext) ⋯ (by rw[k];simpa using B) ⟨rfl,e⟩) o
theorem LL:J0 X (Px X.K):=by
 intro e e d s k H x y v u Q I o B h m;obtain⟨p,e,i,z,rfl,rfl,g,e,q⟩:=h
 cases o
 obtain⟨t,rfl⟩:=B;obtain⟨o,r,pl,hz⟩:=I.tuple g;obtain⟨j,B,g,o,o,o⟩:=xG e;obtain⟨w,o,e⟩:=r.get g;have C:=r.length;have g:=sC;have g:EP X d k Q w s:=⟨z,H,I,e,q⟩;exact subscriptTail_builtinR (x:=w) pl.typeIs slot_tuple_getitem.lookup
  (getItem_tuple (j:=j) (Q:=λr e=>r=w/\EP X d k Q r e) pl ⋯ ⋯ (by rw[size_toArray,<-C];exact B) (by simpa using o) ⟨rfl,g⟩) m
theorem wF (its:List Value) (n j:Nat) (u:Value):Obj.mapSeq (·.setIfInBounds j u) {cls:=.type "list",data:=.seq its.toArray n}={cls:=.type "list",data:=.seq (its.set j u).toArray n}:=by
 simp[Obj.mapSeq]
theorem aE.lst (I:aE X pins σ H s)(h:H p=some (.lst xs)) :
  ∃ (i:List Value) (n:Nat),aT xs i/\s.heap.get? p=some {cls:=.type "list",data:=.seq i.toArray n}/\xs.length<=sizeLine:=by
 obtain⟨z,i,n,r,e⟩:=I.hok p _ h;exact⟨i,n,r,e,z⟩
theorem aE.lstUpd {pins:List (Addr × Obj)}{σ:St}{H:Hp}{s:Shared}{p:Addr}{xs ys:List V}{its its':List Value}{n d:Nat}{f:Obj->Obj}(I:aE X pins σ H s)(h:H p=some (.lst xs))
  (o:s.heap.get? p=some {cls:=.type "list",data:=.seq its.toArray n}) (g:f {cls:=.type "list",data:=.seq its.toArray n}={cls:=.type "list",data:=.seq its'.toArray d}) (r:aT ys its') (hz:ys.length<=sizeLine) (t:Nat) :
  aE X pins σ (cs H p (.lst ys)) {s with heap:=s.heap.update p f,toks:=t}:=by
 have e:(s.heap.update p f).get? p=some {cls:=.type "list",data:=.seq its'.toArray d}:=by
  rw[Heap.get?_update_self f o (by rw[g] <;> rfl),g]
 refine I.write (x:=p) (e:=p) (by rw[h];trivial) (.inl rfl) (λb u hb q=>(Heap.get?_update_other _ _ (Ne.symm hb)).trans q) ⟨_,e⟩ ?_
 exact⟨hz,its',d,r,e⟩
def Py:V->V->V->Hp->(Hp->Prop)->Prop:=λo i v H Q=>∃ p x k j,o=.ref p/\i=.int k/\H p=some (.lst x)/\su x.length k=some j/\Q (cs H p (.lst (x.set j v)))
theorem set_list:NQ X Py:=by
 intro e s E H o i v d d u Q I g d F h;obtain⟨p,D,k,j,rfl,rfl,B,x,q⟩:=h
 cases g
 obtain⟨t,rfl⟩:=d;obtain⟨d,n,r,m,hz⟩:=I.lst B;obtain⟨g,y,y,z⟩:=yh x;have x:=r.length;have C:=sC;have C:aE X e E (cs H p (.lst (D.set j v))) {s with heap:=s.heap.update p (Obj.mapSeq (·.setIfInBounds j u))}:=
  I.lstUpd B m (wF d n j u) (r.set F j) (by rw[length_set];exact hz) s.toks
 by_cases B:0<=k
 .have e:k.toNat=j:=by
   rw[seqIndex_of B z]at g;exact Option.some.inj g
  exact PySem.W.ki_setAt m B ⋯ (by rw[size_toArray,<-x];exact z) (by rw[e];exact⟨_,C,q⟩)
 .have e:(k+(d.toArray.size:Int)).toNat=j:=by
   rw[seqIndex_neg ⋯ y]at g
   rw[size_toArray,<-x];exact Option.some.inj g
  exact PySem.W.ki_setBack m ⋯ (by rw[size_toArray,<-x];exact y) ⋯ (by rw[e];exact⟨_,C,q⟩)
theorem sX (lo hi:Option Int)(n:Nat):(sliceBounds lo hi none n).1=((HT.sIx n 0 lo:Nat):Int)/\(sliceBounds lo hi none n).2.1=((HT.sIx n n hi:Nat):Int)/\(sliceBounds lo hi none n).2.2=1:=by
 refine⟨?_,?_,rfl⟩
 .cases lo with
  |none=>simp[sliceBounds,HT.sIx]
  |some i=>
   simp only[sliceBounds,HT.sIx,getD_none,show(1:Int)>0 by decide,if_true]
   by_cases h:i<0
   .simp only[h,if_true] <;> ext
   .simp only[h,if_false] <;> ext
 .cases hi with
  |none=>simp[sliceBounds,HT.sIx]
  |some i=>
   simp only[sliceBounds,HT.sIx,getD_none,show(1:Int)>0 by decide,if_true]
   by_cases h:i<0
   .simp only[h,if_true] <;> ext
   .simp only[h,if_false] <;> ext
theorem pP (its:List Value)(lo hi:Option Int):slicePick its.toArray lo hi none=((its.drop (HT.sIx its.length 0 lo)).take (HT.sIx its.length its.length hi-HT.sIx its.length 0 lo)).toArray:=by
 obtain⟨e,d,h⟩:=sX lo hi its.toArray.size;unfold slicePick;rw[e,d,h];simp only[sliceRange_one,pick_run,size_toArray] <;> rfl
def QX (K:Frg):V->Option Int->Option Int->Hp->VK->Prop:=λx lo hi H Q=>∃ a d,x=.ref a/\cC K H a d/\∀ p,H p=none->Q (.ref p) (cs H p (.lst (zG d lo hi)))
theorem IN:NA X (QX X.K):=by
 intro p s d H x v d u lo hi d Q I g i pl p h;obtain⟨a,d,rfl,e,q⟩:=h
 cases g
 obtain⟨g,r,g,hz⟩:=I.list e;have e:=r.length;refine⟨"list",_,slot_list_getitem.lookup,g.isList.typeIs,?_⟩;refine wpAny_getItem_list_slice g.isList i pl p .none (by simp) ?_ (by rw[size_toArray] <;> ext)
 rw[pP,<-e];refine⟨.ref s.heap.objs.size,_,I.laid (t':=s.toks) (o:=.lst (zG d lo hi)) (λb e q=>Heap.get?_push_of_some _ q) (le_refl _) ?_,rfl,q _ (I.hok.fresh (le_refl _))⟩;exact⟨le_trans (ua d lo hi) hz,_,0,(r.drop (HT.sIx d.length 0 lo)).take (HT.sIx d.length d.length hi-HT.sIx d.length 0 lo),Heap.get?_push_size _ rfl⟩
theorem qZ:eB X (.builtin "len") (λx H Q=>∃ p y,x=[.ref p]/\(cC X.K H p y\/jy X.K H p y)/\Q (.int y.length) H):=by
 intro d s d H x d Q I r h;obtain⟨p,y,rfl,e,q⟩:=h;obtain⟨u,rfl,x⟩:=vals1 r
 cases x
 have d:=sC
 obtain e|e:=e
 .obtain⟨i,g,pl,hz⟩:=I.list e;have d:=g.length;exact Calls.call_len_list pl.isList (by simp only[size_toArray] <;> ext) ⟨.int y.length,H,I.tok _,⟨s.toks+1,by rw[size_toArray,d]⟩,q⟩
 .obtain⟨i,g,pl,hz⟩:=I.tuple e;have d:=g.length;exact len_tuple pl (by simp only[size_toArray] <;> ext) ⟨.int y.length,H,I.tok _,⟨s.toks+1,by rw[size_toArray,d]⟩,q⟩
theorem eB.or (h:eB X f r)(h':eB X f d):eB X f (λx H Q=>r x H Q\/d x H Q):=by
 intro p s g H x u Q I e q
 obtain q|q:=q
 .exact h p s g H x u Q I e q
 .exact h' p s g H x u Q I e q
theorem ra:eB X (.type "list") (λB H Q=>∃ p y,B=[.ref p]/\(cC X.K H p y\/jy X.K H p y)/\∀ l,H l=none->Q (.ref l) (cs H l (.lst y))):=by
 intro g s z H B d Q I r h;obtain⟨p,y,rfl,v,q⟩:=h;obtain⟨u,rfl,x⟩:=vals1 r
 cases x
 have m:∀ (i:List Value),aT y i->y.length<=sizeLine->∀ (d:Heap) (k:Nat),(∀ b x,s.heap.get? b=some x->d.get? b=some x) →
   d.get? s.heap.objs.size=some {cls:=.type "list",dict:=none,data:=.seq i.toArray k,slots:=#[]}->EP X g z Q (.ref s.heap.objs.size) {s with heap:=d}:=λi g hz d k kp e=>
  ⟨.ref s.heap.objs.size,_,I.laid (t':=s.toks) kp (le_refl _) (show fh X.prog X.w _ d _ (.lst y) from⟨hz,i,k,g,e⟩),rfl,q _ (I.hok.fresh (le_refl _))⟩
 obtain v|v:=v
 .obtain⟨i,g,pl,hz⟩:=I.list v;have x:=g.length;obtain⟨o,y,z,n,hd⟩:=pl.isList;exact call_list_seq p (.inl rfl) y z hd (λd k kp e=>m i g hz d k kp e) (by simp only[size_toArray] <;> ext)
 .obtain⟨i,g,pl,hz⟩:=I.tuple v;have x:=g.length;obtain⟨o,y,z,n,hd⟩:=pl;exact call_list_seq p (.inr rfl) y z hd (λd k kp e=>m i g hz d k kp e) (by simp only[size_toArray] <;> ext)
def Rj (K:Frg)(T:String)(x:V)(H:Hp):Prop:=match x with
 | .str _=>T="str"
 | .int _=>T="int"
 | .ref p=>(T="list"/\∃ d,cC K H p d)\/(T="tuple"/\∃ o,K.lookup p=some o/\o.cls=.type "tuple"/\o.dict=none) ∨
   (T="dict"/\((∃ k,H p=some (.dK k))\/∃ k,H p=some (.dT k)))\/(T="set"/\∃ S n,H p=some (.set S n))
 |_=>False
theorem FD (I:aE X pins σ H s)(r:RelV x v)(ty:Rj X.K T x H) :
  s.TypeIs v T/\∀ a,v=.ref a->∃ g,s.heap.get? a=some g/\g.dict=none:=by
 cases x with
 |str z=>
  obtain⟨t,rfl⟩:=r
  cases (show T="str" from ty)
  exact⟨typeIs_str s z t,λ_ e=>nomatch e⟩
 |int i=>
  obtain⟨t,rfl⟩:=r
  cases (show T="int" from ty)
  exact⟨typeIs_int s i t,λ_ e=>nomatch e⟩
 |ref p=>
  cases r
  obtain⟨rfl,d,q⟩|⟨rfl,o,h,d,hd⟩|⟨rfl,h⟩|⟨rfl,S,n,h⟩:=ty
  .obtain⟨g,_,pl,_⟩:=I.list q;refine⟨pl.isList.typeIs,λa e=>?_⟩
   cases e
   obtain⟨o,n,e,c,hd,_⟩:=pl;exact⟨o,e,hd⟩
  .refine⟨⟨o,I.kIn p o h,d⟩,λa e=>?_⟩
   cases e
   exact⟨o,I.kIn _ o h,hd⟩
  .have z:∃ o,s.heap.get? p=some o/\o.ExactDict:=by
    obtain⟨k,h⟩|⟨k,h⟩:=h
    .obtain⟨_,_,_,_,o,_,_,e,ex,_⟩:=I.hok p _ h;exact⟨o,e,ex⟩
    .obtain⟨_,_,_,_,o,_,_,e,ex,_⟩:=I.hok p _ h;exact⟨o,e,ex⟩
   obtain⟨o,e,ex⟩:=z;refine⟨⟨o,e,ex.1⟩,λa d=>?_⟩
   cases d
   exact⟨o,e,ex.2.1⟩
  .obtain⟨o,_,_,_,e,ex,_⟩:=I.hok p _ h;refine⟨⟨o,e,ex.1⟩,λa d=>?_⟩
   cases d
   exact⟨o,e,ex.2.1⟩
 |_=>exact False.elim ty
def Q0 (K:Frg)(T:String)(r:V->List V->Hp->VK->Prop)(to:TE):TE:=λd H Q=>to d H λx h=>Rj K T x h/\r x [] h Q
def RT (K:Frg)(T:String)(r:V->List V->Hp->VK->Prop)(to:TE)(t:TA):TE:=λd H Q=>to d H λx h=>Rj K T x h/\t d h λd h=>r x d h Q
variable {o e:Expr}{es:List Expr}{to:TE}{t:TA}{name:Str}{apos cpos:Pos}{T id:String}{r:V->List V->Hp->VK->Prop}
theorem EW (D:PlainAttrs T) (slot:Slot T name id) (y:typeOf (.builtin id)=pure (.type "method_descriptor")) (hm:Nx X id r) (q:PE X o to)
  (g:attributeBase o name X.env (eval o X.env)=eval o X.env:=by rfl) (d:(apos.endLine == cpos.line)=true:=by rfl):PE X (.Call (.Attribute o name apos) [] [] cpos) (Q0 X.K T r to):=by
 intro p s m H Q I h;refine wpAny_Call_method0_late g d (cG (q p s m H _ I h) ?_);rintro v z ⟨x,C,k,i,ty,u⟩;obtain⟨E,B⟩:=FD k i ty;exact⟨T,id,D,slot,y,E,B,Calls.callWith_builtin rfl (PySem.evalArgs_none (hm p z m C x [] v [] Q k i .nil u))⟩
theorem JK (L:PlainAttrs T) (slot:Slot T name id) (y:typeOf (.builtin id)=pure (.type "method_descriptor")) (hm:Nx X id r) (D:PE X o to) (ha:PA X (e::es) t)
  (g:attributeBase o name X.env (eval o X.env)=eval o X.env:=by rfl)
  (k:((backTo cpos (starEach (e::es) X.env)).all (λx=>!x.1) && (backToKw cpos (keywordEach [] X.env)).all (λx=>x.1.isSome)
   && decide ((e::es).length+([]:List Keyword).length+(if ([]:List Keyword).isEmpty then 0 else 1)<30))=true:=by rfl)
  (i:(apos.endLine == cpos.line)=true:=by rfl) (hs:starEach (e::es) X.env=(false,eval e X.env)::starEach es X.env:=by rfl) (d:(backTo cpos (starEach es X.env)).any (·.1)=false:=by rfl) :
  PE X (.Call (.Attribute o name apos) (e::es) [] cpos) (RT X.K T r to t):=by
 intro p s m H Q I h;refine wpAny_Call_method_late g k i rfl (cG (D p s m H _ I h) ?_);rintro v C ⟨x,E,z,u,ty,B⟩;obtain⟨q,F⟩:=FD z u ty;refine⟨T,id,L,slot,y,q,F,?_⟩;have q:=ha cpos p C m E _ z B;rw[hs]at q ⊢;refine Calls.callWith_builtin (by show(false || (backTo cpos (starEach es X.env)).any (·.1))=false;rw[d] <;> rfl) (Calls.evalArgs_plain ?_)
 exact cG q <| by rintro E F ⟨C,z,B,q,J⟩;exact hm p F m z x C v E Q B u q J
end
def P7 (X:Cx)(id:String)(r:V->List V->Hp->VK->Prop):Prop:=
 ∀ (p:List (Addr × Obj)) (s:Shared) (a:St) (H:Hp) (x:V) (b:List V) (v:Value) (u:List Value) (Q:VK),aE X p a H s->RelV x v->aT b u->r x b H Q →
  wpAny (model X.prog X.w) X.A (call (.builtin id) (v::u)) (EP X p a Q) X.xe s
theorem aT.one:∀ {x:V}{a:List Value},aT [x] a->∃ u,a=[u]/\RelV x u
 |_,_,.cons r .nil=>⟨_,rfl,r⟩
theorem aT.two:∀ {x y:V}{a:List Value},aT [x,y] a->∃ u v,a=[u,v]/\RelV x u/\RelV y v
 |_,_,_,.cons r (.cons q .nil)=>⟨_,_,rfl,r,q⟩
theorem aT.zero:∀ {u:List Value},aT [] u->u=[]
 |_,.nil=>rfl
theorem aT.dropLast (h:aT xs us):aT xs.dropLast us.dropLast:=by
 induction h with
 |nil=>exact .nil
 |cons r t i=>
  cases t with
  |nil=>exact .nil
  |cons q a=>exact .cons r i
theorem aT.eraseIdx:∀ {x:List V}{u:List Value} (i:Nat),aT x u->aT (x.eraseIdx i) (u.eraseIdx i)
 |_,_,_,.nil=>.nil
 |_,_,0,.cons _ t=>t
 |_,_,i+1,.cons r t=>.cons r (aT.eraseIdx i t)
theorem aT.reverse (h:aT xs us):aT xs.reverse us.reverse:=by
 induction h with
 |nil=>exact .nil
 |cons r t i=>rw[reverse_cons,reverse_cons];exact aT.append i (.cons r .nil)
theorem wm (l:List α):l.eraseIdx (l.length-1)=l.dropLast:=by
 induction l with
 |nil=>rfl
 |cons a r h=>
  cases r with
  |nil=>rfl
  |cons b r=>
   have e:(a::b::r).length-1=((b::r).length-1)+1:=by
    have d:(a::b::r).length=r.length+2:=rfl;have d:(b::r).length=r.length+1:=rfl;ext
   rw[e,List.eraseIdx_cons_succ,h]
   all_goals rfl
section
variable {X:Cx}{pins:List (Addr × Obj)}{σ:St}{H:Hp}{s:Shared}{l b:Addr}{xs ys zs:List V}
theorem aE.lset {its its':List Value}{n:Nat}{f:Array Value->Array Value}{t':Nat}(I:aE X pins σ H s)(a:H l=some (.lst xs))
  (e:s.heap.get? l=some {cls:=.type "list",data:=.seq its.toArray n}) (d:f its.toArray=its'.toArray) (v:aT ys its') (hz:ys.length<=sizeLine) :
  aE X pins σ (cs H l (.lst ys)) {s with heap:=s.heap.update l (Obj.mapSeq f),toks:=t'}:=by
 have q:=PySem.IsL.update e f;rw[d]at q;refine I.write (x:=l) (e:=l) (by rw[a];exact trivial) (.inl rfl) (λg u hb h=>(Heap.get?_update_other s.heap (Obj.mapSeq f) (Ne.symm hb)).trans h) ⟨_,q⟩ ?_
 exact⟨hz,its',_,v,q⟩
theorem aE.lnew (I:aE X pins σ H s)(h:aT ys its)(hz:ys.length<=sizeLine) :
  aE X pins σ (cs H s.heap.objs.size (.lst ys)) {s with heap:=s.heap.push {cls:=.type "list",data:=.seq its.toArray},toks:=t'}:=
 I.laid (λ_ _ q=>Heap.get?_push_of_some _ q) (le_refl _) ⟨hz,its,0,h,Heap.get?_push_size _ rfl⟩
theorem aE.fresh (I:aE X pins σ H s):H s.heap.objs.size=none:=I.hok.fresh (le_refl _)
theorem aE.lstM (I:aE X pins σ H s) (h:H l=some (.lst xs)):xs.length<=sizeLine/\∃ (i:List Value) (n:Nat),aT xs i/\xs.length=i.length/\s.heap.get? l=some {cls:=.type "list",data:=.seq i.toArray n}:=by
 obtain⟨z,i,n,r,e⟩:=I.hok l _ h;exact⟨z,i,n,r,r.length,e⟩
theorem EF (h:n<=sizeLine):Builtin.List.listTooLong n=false:=by
 unfold Builtin.List.listTooLong;exact decide_eq_false ⋯
end
section
variable {X:Cx}
def IC:V->List V->Hp->VK->Prop:=λx v H Q=>∃ l a y,x=.ref l/\v=[y]/\H l=some (.lst a)/\a.length<sizeLine/\Q .non (cs H l (.lst (a++[y])))
theorem qp:P7 X "list.append" IC:=by
 intro p s a H x a v a Q I b d h;obtain⟨l,a,y,rfl,rfl,a,hz,q⟩:=h
 cases b
 obtain⟨u,rfl,b⟩:=d.one;obtain⟨z,i,n,r,d,e⟩:=I.lstM a;refine call_meets F.slot_list_append ⟨_,e,rfl⟩ F.entry_list_append (F.args_list_append_2 _ _) (PySem.list_append l i.toArray n u (by rw[size_toArray];ext)) ⟨e,?_⟩
 refine⟨.non,_,I.lset (its':=i++[u]) a e (by simp) (r.append (.cons b .nil)) ?_,rfl,q⟩
 rw[List.length_append,length_singleton];ext
def IE:V->List V->Hp->VK->Prop:=λx v H Q=>∃ l b a z,x=.ref l/\v=[.ref b]/\H l=some (.lst a)/\H b=some (.lst z)/\a.length+z.length<=sizeLine/\Q .non (cs H l (.lst (a++z)))
theorem Ai:P7 X "list.extend" IE:=by
 intro p s a H x a v a Q I a g h;obtain⟨l,b,d,d,rfl,rfl,k,d,hz,q⟩:=h
 cases a
 obtain⟨u,rfl,a⟩:=g.one
 cases a
 obtain⟨z,a,n,r,g,e⟩:=I.lstM k;obtain⟨g,i,o,m,g,p⟩:=I.lstM d;have d:a.toArray.size+i.toArray.size<=sizeLine:=by rw[size_toArray,size_toArray];ext
 have g:¬ (!a.toArray.isEmpty && Builtin.List.listTooLong (a.toArray.size+i.toArray.size))=true:=by
  rw[EF d,Bool.and_false];exact Bool.false_ne_true
 refine call_meets F.slot_list_extend ⟨_,e,rfl⟩ F.entry_list_extend (F.args_list_extend_2 _ _)
  (AutoSeq1.list_extend_list_list_0 l a.toArray n b i.toArray o g (by rw[size_toArray];ext) ⋯) ⟨e,p,?_⟩
 refine⟨.non,_,I.lset (its':=a++i) k e (by simp) (r.append m) ?_,rfl,q⟩
 rw[List.length_append];ext
def QW:V->List V->Hp->VK->Prop:=λx v H Q=>∃ l a y,x=.ref l/\v=[]/\H l=some (.lst a)/\a[a.length-1]?=some y/\Q y (cs H l (.lst a.dropLast))
theorem L5:P7 X "list.pop" QW:=by
 intro p s a H x a v a Q I a d h;obtain⟨l,b,y,rfl,rfl,b,g,q⟩:=h
 cases a
 have a:=d.zero;subst a;obtain⟨z,i,n,r,k,e⟩:=I.lstM b;obtain⟨u,m,d⟩:=r.get g;have a:i.toArray[i.toArray.size-1]?=some u:=by
  show i.toArray[i.length-1]?=some u;rw[<-getElem?_toList,<-k];exact m
 refine call_meets F.slot_list_pop ⟨_,e,rfl⟩ F.entry_list_pop (F.args_list_pop_1 _) (MeetsSeq.list_pop_last l i.toArray n u a (by rw[size_toArray];ext)) ⟨e,?_⟩
 refine⟨y,_,I.lset (its':=i.dropLast) b e ?_ r.dropLast ?_,d,q⟩
 .show i.toArray.eraseIdxIfInBounds (i.toArray.size-1)=i.dropLast.toArray;rw[size_toArray,List.eraseIdxIfInBounds_toArray,wm]
 .rw[length_dropLast];ext
def MN:V->List V->Hp->VK->Prop:=λx v H Q=>∃ l a,x=.ref l/\v=[]/\H l=some (.lst a)/\Q .non (cs H l (.lst []))
theorem DE:P7 X "list.clear" MN:=by
 intro p s a H x a v u Q I a d h;obtain⟨l,b,rfl,rfl,b,q⟩:=h
 cases a
 have a:=d.zero;subst a;obtain⟨z,i,n,r,a,e⟩:=I.lstM b;refine call_meets F.slot_list_clear ⟨_,e,rfl⟩ F.entry_list_clear (F.args_list_clear_1 _) (AutoSeq1.list_clear_list_0 l i.toArray n (by rw[size_toArray];ext)) ⟨e,?_⟩
 exact⟨.non,_,I.lset (its':=[]) (ys:=[]) b e rfl .nil (zero_le _),rfl,q⟩
end
section
variable {prog:Program}{w:World}{A:Around}{E:Value->Shared->Prop}{s:Shared}
end
section
variable {X:Cx}
end
end L2
namespace Att
open PySem PySem.W PySem.Calls PyProof.Rows
theorem mC:∀ (ns:List Int) (v:List Value),WellAll P h v (ns.map WData.int)->IntsAre v ns:=by
 intro ns
 induction ns with
 |nil=>
  intro v w;rw[List.map_nil]at w
  cases w
  exact .nil
 |cons n ns i=>
  intro v w;rw[map_cons]at w
  cases w with
  |cons a b=>
   cases a
   exact .cons _ _ (i _ b)
theorem AJ {l:OpenLaw}{n:Nat}(hn:l.most=some n){P:Params}{h:Heap}{args:List WData}{vals:List Value}
  (hpre:l.row.toRowW.claim.pre args=true) (hwl:WellAll P h vals args) :
  ∃ a vs ns,vals=[Value.ref a]/\args=[WData.list (ns.map WData.int)]/\h.get? a=some {cls:=.type "list",data:=.seq vs.toArray}/\IntsAre vs ns/\ns.length<=n:=by
 have hsh:WShape.hasAll [] args [.list .int]=true:=(pre_splitW hpre).1;have hc:l.pre.holds [] {args:=args}=true:=(pre_splitW hpre).2;obtain⟨d,r,rfl,h1,h2⟩:=hasAllW_cons hsh;obtain rfl:=hasAllW_nil h2;obtain⟨xs,rfl,h3⟩:=hasW_list h1;obtain⟨ns,rfl⟩:=items_int h3;have hlen:ns.length<=n:=by
  unfold OpenLaw.pre at hc;have h4:(WTm.not (.lt (.lit (.int (n:Int))) (.len (.arg 0)))).holds [] {args:=[.list (ns.map .int)]}=true:=by
   have h4:=(holds_andW hc).1;rw[hn]at h4;exact h4
  have h5:=condW_of h4 (w_not (w_lt w_lit (w_len_list (w_arg rfl))));rw[length_map]at h5;refine le_of_not_lt λq=>?_;have q':(n:Int)<((ns.length:Nat):Int):=⋯
  first
   | (rw[decide_eq_true q']at h5;exact absurd h5 ⋯)
   | (simp at h5;ext)
 cases hwl with
 |cons w1 w2=>
  cases w2
  cases w1 with
  |list ho hall=>exact⟨_,_,ns,rfl,rfl,ho,mC ns _ hall,hlen⟩
theorem AF (l:OpenLaw)(a:List WData):l.row.toRowW.claim.post a (.bool true) a=true:=
 postW_of (r:=l.row.toRowW) (X:=(true == true))
  (show WShape.has [] (.bool true) .bool=true by first|rfl|decide|simp[WShape.has,WShape.arms,WShape.armsAll])
  (show(WTm.eq .res (.lit (.bool true))).value [] {args:=a,res:=some (.bool true),after:=a}=some (.bool (true == true)) from w_eq_bool (w_res rfl) w_lit) rfl
theorem attach_call {l:OpenLaw}{n:Nat}{q:Program}{e:List Str}{E:(Str->Option Value)->Heap->Prop}{F:World->Heap->Prop}{d:DefRec}
  (I:l.most=some n) (z:d.params.defaults=[])
  (call:∀ (w:World) (s₀ b:Shared) (mg D:Str->Option Value) (i:Addr) (o:Obj) (pm x g:Value) (a:Addr) (v:List Value) (ns:List Int),
   Ground q e [] E w s₀ mg D b.heap->F w b.heap →
   b.heap.get? i=some o->o.data=.func (docDef d.name d.params d.body d.scope pm x g)->b.heap.CodeRec x d.name->mg d.name=some (.ref i) →
   b.heap.get? a=some {cls:=.type "list",data:=.seq v.toArray}->IntsAre v ns->ns.length<=n->b.gens=#[] →
   codeAny (model l.prog w) callerA (.call (.ref i) ⟨[.ref a],[]⟩) (λr u=>r=.ok (.ret (.bool true))/\OldK b.heap u.heap/\u.os=b.os/\AllBare u.gens) b) :
  WalkO q e E F l.row.toRowW d [] (λf v=>PySem.call f v):=by
 intro w s₀ b mg D G Y i o pm x g m kV H hd B k y J h h h p h h C h;obtain rfl:m=.none:=Dflts.none k z;obtain rfl:kV=.none:=Dflts.noKw k;obtain⟨a,v,ns,rfl,rfl,m,h,k⟩:=AJ I p C;refine enter_call (codeAny_mono (call w s₀ b mg D i o pm x g a v ns G Y H (fd_plain hd) B y m h k J) λr u b=>?_);obtain⟨rfl,i,h,g⟩:=b;exact⟨.inl ⟨.bool true,.bool true,[],rfl,λ_=>rfl,.bool true,AF l _,λ_=>⟨List.Pairwise.nil,λ_ hm=>(nomatch hm)⟩⟩,i,h,g⟩
section
variable {prog:Program}{w:World}{A:Around}{E:Value->Shared->Prop}{s:Shared}{K:Frag}
end
end Att
namespace L2
open PySem PySem.Spec PyProof.Rows
theorem qI:∀ {v:List Value}{ns:List Int},IntsAre v ns->aT (ns.map V.int) v
 |_,_,.nil=>.nil
 |_,_,.cons n t h=>.cons ⟨t,rfl⟩ (qI h)
def ee (s:Stmt):Arguments:=match s with
 | .FunctionDef _ a _ _ _ _ _ _ _ _=>a
 |_=>{posonlyargs:=[],args:=[],vararg:=none,kwonlyargs:=[],kw_defaults:=[],kwarg:=none,defaults:=[]}
def cy (s:Stmt):List Stmt:=match s with
 | .FunctionDef _ _ b _ _ _ _ _ _ _=>b
 |_=>[]
def al (s:Stmt):Scope:=match s with
 | .FunctionDef _ _ _ _ _ _ a _ _ _=>a
 |_=>{kind:=.function,names:=[],isGenerator:=false,isCoroutine:=false}
abbrev xx:AX:=λ_ _ _ _ _ _=>False
abbrev E0:XK:=λ_ _ _=>False
theorem Pm:vH xx X E0:=λ_ _ _ _ _ _ _ h=>h.elim
structure Jb (K:Frg) (x qual:Str) (st:Stmt) (f:Addr) (fd:FuncData):Prop where
 ex:∃ (oc:Value) (od:Option Addr) (kV doc pm:Value) (an:Option Addr) (cdv ct:Value) (osl:Array (Option Value)),
  fd=PySem.W.fnOf x qual (ee st) (cy st) (al st) .none kV doc pm an cdv ct/\K.lookup f=some ⟨oc,od,.func fd,osl⟩/\PySem.W.codeIn K cdv qual=true
 kp:PySem.W.keepIn K (.ref f)=true
section
variable {P:Program}{w:World}{K:Frg}{mg:Str->Option Value}{base:Heap}
theorem Jb.ok {x a:Str}{st:Stmt}{f:Addr}{e:FuncData}{N ps:List Str}{k:Nat}{sp:Sp}(F:Jb K x a st f e)(S:ay N ps (al st))(len:∀ b H Q E,sp b H Q E->b.length=ps.length)
  (y:∀ (v:Value) (A:Around) (outer:List Env) (s:Shared) (H:Hp) (b:List V) (Q:VK) (E:XK),cu k (A.deeper (envOfC a (al st) s.heap.objs.size f v))->sp b H Q E →
   ∃ t,ki (pz xx P w K mg base N a (al st) f v A outer s H E).nox (cy st) t/\t {nx:=λ_ d=>Q .non d,rt:=Q} (start N b) H):ix P w K mg base xx (k+1) f e ps sp:=by
 obtain⟨o,d,kV,d,pm,d,v,ct,o,rfl,lk,d⟩:=F.ex;refine Jo lk d S len λA outer s H b Q E r p=>?_;obtain⟨t,h,q⟩:=y v A outer s H b Q E r p;exact⟨t,h.nox,q⟩
theorem Jb.binds {x q:Str}{st:Stmt}{f:Addr}{b:FuncData}{ps:List Str}(F:Jb K x q st f b)
  (h:∀ (kV d pm:Value) (a:Option Addr) (v ct:Value) (u:List Value),u.length=ps.length->bindArgs (PySem.W.fnOf x q (ee st) (cy st) (al st) .none kV d pm a v ct) ⟨u,[]⟩=pure (ps.zip u)):Binds K b ps []:=by
 obtain⟨o,o,kV,d,pm,a,v,ct,o,rfl,lk,e⟩:=F.ex;exact .all (h kV d pm a v ct)
theorem n6 {x q:Str}{st:Stmt}{f:Addr}{b:Value}{od a:Option Addr}{o:Array (Option Value)}{kV d pm v ct:Value}(l:K.lookup f=some ⟨b,od,.func (PySem.W.fnOf x q (ee st) (cy st) (al st) .none kV d pm a v ct),o⟩)
  (c:PySem.W.codeIn K v q=true) (k:PySem.W.keepIn K (.ref f)=true):Jb K x q st f (PySem.W.fnOf x q (ee st) (cy st) (al st) .none kV d pm a v ct):=⟨⟨b,od,kV,d,pm,a,v,ct,o,rfl,l,c⟩,k⟩
end
theorem AL (h:n<=1000):n<sizeLine:=lt_of_le_of_lt h ⋯
section
variable {X:Cx}
theorem pv (i:Nat) (a:X.N[i]?=some x:=by rfl) (h:Qc X.env.scope x:=by first | exact Or.inl rfl | exact Or.inr (Or.inl rfl) | exact Or.inr (Or.inr rfl)) (hd:(x == ("__debug__":Str))=false:=by decide)
  (d:(x == ("__classdict__":Str))=false:=by decide):PE X (.Name x p) (vg i):=EZ a h hd d
end
def Same (H H':Hp):Prop:=∀ b o,H b=some o->H' b=some o
theorem Same.refl (H:Hp):Same H H:=λ_ _ h=>h
theorem Same.trans (a:Same H d)(b:Same d e):Same H e:=λc o h=>b c o (a c o h)
theorem Same.free (e:Same H H')(h:H' l=Option.none):H l=Option.none:=by
 cases q:H l with
 |none=>rfl
 |some o=>
  rw[e l o q]at h
  cases h
theorem Same.seq {K:Frg}{H H':Hp}{a:Addr}{xs:List V}(e:Same H H')(h:cC K H a xs):cC K H' a xs:=by
 obtain (h|⟨o,h⟩)|h:=h
 .exact .inl (.inl (e _ _ h))
 .exact .inl (.inr ⟨o,e _ _ h⟩)
 .exact .inr h
end L2
namespace DL
open PySem L2
def lamQ:Str:="depth.<locals>.<lambda>"
def HCode (c:Addr):HO:=.ext λh=>h.CodeRec (.ref c) lamQ
def JF:HO->Bool
 | .tbl _=>false
 |_=>true
def Tab (H:Hp):Prop:=∀ P a,H P=some (.tbl a)->TriplesOk a.toList/\∀ p v,codeAmong p a.toList=some v->∃ c,v=.ref c/\H c=some (HCode c)
def gL (K:Frg):Option Addr:=match PySem.W.nsIn K mainGlobals "depth" with
 |some (some (.ref f))=>(match K.lookup f with
  |some ⟨_,_,.func fd,_⟩=>(match fd.code with
   | .ref c=>(match K.lookup c with
    |some ⟨_,_,.fields vs,_⟩=>(match (vs[11]?:Option Value) with
     |some (.ref P)=>some P
     |_=>none)
    |_=>none)
   |_=>none)
  |_=>none)
 |_=>none
def lA (K:Frg)(H:Hp):Prop:=Tab H/\∀ P,gL K=some P->∃ p,H P=some (.tbl p)
structure Same (H H':Hp):Prop where
 all:∀ b o,H b=some o->JF o=true->H' b=some o
 tbl:∀ b ps,H b=some (.tbl ps)->∃ ps',H' b=some (.tbl ps')
theorem Same.get (e:Same H H')(h:H b=some o)(n:JF o=true:=by rfl):H' b=some o:=e.all b o h n
theorem Same.refl (H:Hp):Same H H:=⟨λ_ _ h _=>h,λ_ p h=>⟨p,h⟩⟩
theorem Same.trans (a:Same H d)(b:Same d e):Same H e:=⟨λc o h n=>b.all c o (a.all c o h n) n,λc p h=>let ⟨ps',h'⟩:=a.tbl c p h;b.tbl c ps' h'⟩
theorem Same.free (e:Same H H')(h:H' l=Option.none):H l=Option.none:=by
 cases q:H l with
 |none=>rfl
 |some o=>
  cases n:JF o with
  |true=>rw[e.all l o q n]at h;cases h
  |false=>
   cases o <;> first|(cases n)|skip
   obtain⟨p,z⟩:=e.tbl l _ q;rw[z]at h;cases h
theorem Same.of (h:∀ b o,H b=some o->H' b=some o):Same H H':=⟨λb o q _=>h b o q,λb p q=>⟨p,h b _ q⟩⟩
theorem Same.seq (e:Same H H')(h:cC K H a xs):cC K H' a xs:=by
 obtain (h|⟨o,h⟩)|h:=h
 .exact .inl (.inl (e.get h))
 .exact .inl (.inr ⟨o,e.get h⟩)
 .exact .inr h
theorem lA.same (t:lA K H)(e:Same H H')(h:Tab H'):lA K H':=⟨h,λP a=>let ⟨ps,q⟩:=t.2 P a;e.tbl P ps q⟩
theorem tm (t:Tab H)(b:H a=none)(n:JF o=true):Tab (cs H a o):=λP p h=>by
 by_cases z:P=a
 .subst z;rw[aW]at h;cases h;cases n
 .rw[aV z]at h;obtain⟨d,i⟩:=t P p h;exact⟨d,λp v q=>let ⟨c,e,g⟩:=i p v q;⟨c,e,by rw[aV (bb g b)];exact g⟩⟩
theorem yX (t:Tab H)(b:H a=some (.lst xs)):Tab (cs H a (.lst ys)):=λP p h=>by
 by_cases z:P=a
 .subst z;rw[aW]at h;cases h
 .rw[aV z]at h;obtain⟨d,i⟩:=t P p h;exact⟨d,λp v q=>let ⟨c,e,g⟩:=i p v q;⟨c,e,by rw[aV (λw=>by rw[w,b]at g;cases g)];exact g⟩⟩
theorem Fx (t:lA K H)(h:H a=none)(n:JF o=true):lA K (cs H a o):=⟨tm t.1 h n,λP e=>let ⟨ps,q⟩:=t.2 P e;⟨ps,by rw[aV (bb q h)];exact q⟩⟩
theorem vh (t:lA K H)(h:H a=some (.lst xs)):lA K (cs H a (.lst ys)):=⟨yX t.1 h,λP e=>let ⟨ps,q⟩:=t.2 P e;⟨ps,by rw[aV (λw=>by rw[w,h]at q;cases q)];exact q⟩⟩
theorem Fm (h:H a=none):Same H (cs H a o):=.of λb u q=>by rw[aV (bb q h)];exact q
inductive T where
 |non|bl (b:Bool)|int (i:Int)|str (x:Str)|tup (xs:List T)|lst (xs:List T)|exc (x:Str)
inductive S where
 |t (x:T)|vt (x:T)|ol (xs:List T)
def ExcAt (H:Hp)(a c:Addr):Prop:=H a=some (.ext λh=>∃ o,h.get? a=some o/\o.cls=.ref c)
mutual
def az (K:Frg)(H:Hp):T->V->Prop
 | .non,v=>v=.non
 | .bl b,v=>v=.bl b
 | .int i,v=>v=.int i
 | .str x,v=>v=.str x
 | .tup ts,v=>∃ a d,v=.ref a/\jy K H a d/\aq K H ts d
 | .lst ts,v=>∃ a d,v=.ref a/\cC K H a d/\aq K H ts d
 | .exc x,v=>∃ a C,v=.ref a/\PySem.W.nsIn K mainGlobals x=some (some (.ref C))/\ExcAt H a C
def aq (K:Frg)(H:Hp):List T->List V->Prop
 | [],a=>a=[]
 |t::b,a=>∃ x r,a=x::r/\az K H t x/\aq K H b r
end
mutual
def kM:T->Bool
 | .tup a=>cI a
 | .lst _=>false
 |_=>true
def cI:List T->Bool
 | []=>true
 |t::a=>kM t && cI a
end
mutual
theorem az.mono (h:∀ a x,jy K H a x->jy K H' a x)(b:∀ a x,cC K H a x->cC K H' a x)(he:∀ a c,ExcAt H a c->ExcAt H' a c):∀ (t:T) (v:V),az K H t v->az K H' t v
 | .non,_,e=>e
 | .bl _,_,e=>e
 | .int _,_,e=>e
 | .str _,_,e=>e
 | .tup ts,_,⟨a,x,e,q,r⟩=>⟨a,x,e,h a x q,aq.mono h b he ts x r⟩
 | .lst ts,_,⟨a,x,e,q,r⟩=>⟨a,x,e,b a x q,aq.mono h b he ts x r⟩
 | .exc c,_,⟨a,C,e,z,q⟩=>⟨a,C,e,z,he a C q⟩
theorem aq.mono (h:∀ a b,jy K H a b->jy K H' a b)(g:∀ a b,cC K H a b->cC K H' a b)(he:∀ a c,ExcAt H a c->ExcAt H' a c):∀ (d:List T) (b:List V),aq K H d b->aq K H' d b
 | [],_,e=>e
 |t::d,_,⟨x,r,e,p,q⟩=>⟨x,r,e,az.mono h g he t x p,aq.mono h g he d r q⟩
end
theorem Same.sqT (e:Same H H')(a:Addr)(xs:List V)(h:jy K H a xs):jy K H' a xs:=by
 obtain (h|⟨o,h⟩)|h:=h
 .exact .inl (.inl (e.get h))
 .exact .inl (.inr ⟨o,e.get h⟩)
 .exact .inr h
theorem az.same (e:Same H H')(h:az K H t v):az K H' t v:=az.mono (λa x q=>Same.sqT e a x q) (λa x q=>e.seq q) (λa c q=>e.get q) t v h
theorem aq.same (e:Same H H')(h:aq K H ts xs):aq K H' ts xs:=aq.mono (λa xs q=>Same.sqT e a xs q) (λa xs q=>e.seq q) (λa c q=>e.get q) ts xs h
def f6 (F H:Hp):Prop:=∀ b o,H b=some o->JF o=true->F b=some o\/∃ x,o=.lst x
theorem f6.sqT (f:f6 F H)(a:Addr)(xs:List V)(h:jy K H a xs):jy K F a xs:=by
 obtain (h|⟨o,h⟩)|h:=h
 .rcases f _ _ h rfl with q|⟨y,q⟩
  .exact .inl (.inl q)
  .cases q
 .rcases f _ _ h rfl with q|⟨y,q⟩
  .exact .inl (.inr ⟨o,q⟩)
  .cases q
 .exact .inr h
theorem f6.exc (f:f6 F H)(h:ExcAt H a c):ExcAt F a c:=by
 obtain q|⟨y,q⟩:=f _ _ h rfl
 .exact q
 .cases q
mutual
theorem az.fullM (e:f6 F H):∀ (t:T) (v:V),kM t=true->az K H t v->az K F t v
 | .non,_,_,h=>h
 | .bl _,_,_,h=>h
 | .int _,_,_,h=>h
 | .str _,_,_,h=>h
 | .tup ts,_,p,⟨a,xs,h1,h2,h3⟩=>⟨a,xs,h1,e.sqT a xs h2,aq.fullM e ts xs (by simpa only [kM] using p) h3⟩
 | .lst _,_,p,_=>by simp[kM]at p
 | .exc _,_,_,⟨a,C,h1,z,h2⟩=>⟨a,C,h1,z,e.exc h2⟩
theorem aq.fullM (e:f6 F H):∀ (a:List T) (b:List V),cI a=true->aq K H a b->aq K F a b
 | [],_,_,h=>h
 |t::a,_,p,⟨x,r,i,d,g⟩=>by
  simp only[cI,Bool.and_eq_true]at p;exact⟨x,r,i,az.fullM e t x p.1 d,aq.fullM e a r p.2 g⟩
end
theorem az.full (e:f6 F H)(p:kM t=true)(h:az K H t v):az K F t v:=az.fullM e t v p h
theorem aq.full (e:f6 F H)(p:cI ts=true)(h:aq K H ts xs):aq K F ts xs:=aq.fullM e ts xs p h
def norm (x:T):S:=if kM x=true then .t x else .vt x
theorem aq.length:∀ {a:List T}{b:List V},aq K H a b->b.length=a.length
 | [],_,e=>by cases (show _=[] from e);rfl
 |t::a,_,⟨x,r,e,_,q⟩=>by subst e;rw[length_cons,length_cons,aq.length q]
theorem aq.get:∀ {a:List T}{b:List V}{i:Nat}{t:T},aq K H a b->a[i]?=some t->∃ x,b[i]?=some x/\az K H t x
 | [],_,_,_,_,e=>by simp at e
 |t::a,_,0,u,⟨x,r,e,p,q⟩,h=>by subst e;simp at h;subst h;exact⟨x,by simp,p⟩
 |t::a,_,i+1,u,⟨x,r,e,p,q⟩,h=>by
  subst e;obtain⟨y,g,d⟩:=aq.get (i:=i) q (by simpa using h)
  exact⟨y,by simpa using g,d⟩
theorem aq.getV:∀ {a:List T}{b:List V}{i:Nat}{x:V},aq K H a b->b[i]?=some x->∃ t,a[i]?=some t/\az K H t x
 | [],_,_,_,e,h=>by cases (show _=[] from e);simp at h
 |t::a,_,0,u,⟨x,r,e,p,q⟩,h=>by subst e;simp at h;subst h;exact⟨t,by simp,p⟩
 |t::a,_,i+1,u,⟨x,r,e,p,q⟩,h=>by
  subst e;obtain⟨y,g,d⟩:=aq.getV (i:=i) q (by simpa using h)
  exact⟨y,by simpa using g,d⟩
theorem aq.append:∀ {a u:List T}{b y:List V},aq K H a b->aq K H u y->aq K H (a++u) (b++y)
 | [],_,_,_,e,q=>by cases (show _=[] from e);exact q
 |t::a,_,_,_,⟨x,r,e,p,q⟩,h=>by subst e;exact⟨x,r++_,rfl,p,aq.append q h⟩
theorem aq.one (h:az K H t x):aq K H [t] [x]:=⟨x,[],rfl,h,rfl⟩
theorem aq.take:∀ {a:List T}{b:List V} (n:Nat),aq K H a b->aq K H (a.take n) (b.take n)
 |_,_,0,_=>by simp only[List.take_zero];rfl
 | [],_,_+1,e=>by cases (show _=[] from e);rfl
 |t::a,_,n+1,⟨x,r,e,p,q⟩=>by subst e;exact⟨x,r.take n,rfl,p,aq.take n q⟩
theorem aq.drop:∀ {a:List T}{b:List V} (n:Nat),aq K H a b->aq K H (a.drop n) (b.drop n)
 |_,_,0,h=>by simp only[List.drop_zero];exact h
 | [],_,_+1,e=>by cases (show _=[] from e);rfl
 |t::a,_,n+1,⟨x,r,e,p,q⟩=>by subst e;exact aq.drop n q
theorem aq.set (h:az K H u y):∀ {a:List T}{b:List V} (n:Nat),aq K H a b->aq K H (a.set n u) (b.set n y)
 | [],_,_,e=>by cases (show _=[] from e);rfl
 |t::a,_,0,⟨x,r,e,p,q⟩=>by subst e;exact⟨y,r,rfl,h,q⟩
 |t::a,_,n+1,⟨x,r,e,p,q⟩=>by subst e;exact⟨x,r.set n y,rfl,p,aq.set h n q⟩
theorem aq.dropLast (h:aq K H ts xs):aq K H ts.dropLast xs.dropLast:=by
 rw[List.dropLast_eq_take,List.dropLast_eq_take,h.length];exact h.take _
theorem aq.reverse:∀ {a:List T}{b:List V},aq K H a b->aq K H a.reverse b.reverse
 | [],_,e=>by cases (show _=[] from e);rfl
 |t::a,_,⟨x,r,e,p,q⟩=>by subst e;rw[reverse_cons,reverse_cons];exact aq.append (aq.reverse q) (aq.one p)
theorem aq.ints:∀ (ns:List Int),aq K H (ns.map T.int) (ns.map V.int)
 | []=>rfl
 |n::ns=>⟨.int n,ns.map V.int,rfl,rfl,aq.ints ns⟩
abbrev bf:=List (Option S)
abbrev WE:=bf->(S->Prop)->Prop
abbrev WT:=bf->(Bool->Prop)->Prop
abbrev WA:=bf->(List S->Prop)->Prop
structure nt where
 nx:bf->Prop
 rt:S->Prop
 bk:bf->Prop:=λ_=>False
 ct:bf->Prop:=λ_=>False
abbrev WS:=nt->bf->Prop
def fi (K:Frg)(F H:Hp):S->V->Prop
 | .t x,v=>az K F x v
 | .vt _,_=>False
 | .ol ts,v=>∃ a b,v=.ref a/\F a=none/\H a=some (.lst b)/\aq K F ts b
structure Rel (K:Frg) (F H:Hp) (σ:St) (δ:bf):Prop where
 sub:Same F H
 full:f6 F H
 len:σ.length=δ.length
 slot:∀ (i:Nat) (s:S),δ[i]?=some (some s)->∃ v,σ[i]?=some (some v)/\fi K F H s v
 dist:∀ (i j:Nat) (a:Addr) (ts us:List T),i≠j->δ[i]?=some (some (.ol ts))->δ[j]?=some (some (.ol us))->σ[i]?=some (some (.ref a))->σ[j]?≠some (some (.ref a))
 tab:lA K H
structure dq (F H F' H':Hp):Prop where
 hh:Same H H'
 ff:Same F F'
 sub:Same F' H'
 full:f6 F' H'
 keep:∀ b,H b≠none->F b=none->F' b=none
 tb:Tab H->Tab H'
theorem aJ (e:Same H H')(h:H' b=none):H b=none:=e.free h
theorem dq.refl (a:Same F H)(b:f6 F H):dq F H F H:=⟨Same.refl _,Same.refl _,a,b,λ_ _ h=>h,id⟩
theorem dq.trans (a:dq F H e d)(b:dq e d g h):dq F H g h:=
 ⟨a.hh.trans b.hh,a.ff.trans b.ff,b.sub,b.full,λc i k=>b.keep c (λz=>i (aJ a.hh z)) (a.keep c i k),λt=>b.tb (a.tb t)⟩
theorem fi.ext (e:dq F H b H'):∀ {s:S}{v:V},fi K F H s v->fi K b H' s v
 | .t _,_,h=>az.same e.ff h
 | .vt _,_,h=>h
 | .ol _,_,⟨a,xs,h1,h2,h3,h4⟩=>⟨a,xs,h1,e.keep a (by rw[h3];simp) h2,e.hh.get h3,aq.same e.ff h4⟩
theorem Rel.ext (r:Rel K F H σ a)(e:dq F H b H'):Rel K b H' σ a:=
 ⟨e.sub,e.full,r.len,λi s h=>let ⟨v,h1,h2⟩:=r.slot i s h;⟨v,h1,h2.ext e⟩,r.dist,r.tab.same e.hh (e.tb r.tab.1)⟩
theorem Rel.refl (r:Rel K F H σ a):dq F H F H:=dq.refl r.sub r.full
def dw (K:Frg)(H b H':Hp):S->V->Prop
 | .t x,v=>az K b x v
 | .vt x,v=>az K H' x v
 | .ol ts,v=>∃ a d,v=.ref a/\H a=none/\b a=none/\H' a=some (.lst d)/\aq K b ts d
theorem dw.ext (e:dq d b i g):∀ {s:S}{v:V},dw K H d b s v->dw K H i g s v
 | .t _,_,h=>az.same e.ff h
 | .vt _,_,h=>az.same e.hh h
 | .ol _,_,⟨a,xs,h1,h2,h3,h4⟩=>⟨a,xs,h1,h2,e.keep a (by rw[h4.1];simp) h3,e.hh.get h4.1,aq.same e.ff h4.2⟩
theorem dw.start (e:Same b H):∀ {s:S}{v:V},dw K H d H' s v->dw K b d H' s v
 | .t _,_,h=>h
 | .vt _,_,h=>h
 | .ol _,_,⟨a,xs,h1,h2,h3⟩=>⟨a,xs,h1,aJ e h2,h3⟩
theorem dw.norm (f:f6 F H')(h:az K H' x v):dw K H F H' (norm x) v:=by
 unfold DL.norm
 split
 .rename_i p;exact az.full f p h
 .exact h
def f7 (K:Frg)(F H:Hp):S->V->Prop
 | .t x,v=>az K F x v
 | .vt x,v=>az K H x v
 | .ol ts,v=>∃ a b,v=.ref a/\cC K H a b/\aq K F ts b
theorem dw.val (e:Same F H):∀ {s:S}{v:V},dw K b F H s v->f7 K F H s v
 | .t _,_,h=>h
 | .vt _,_,h=>h
 | .ol _,_,⟨a,xs,h1,_,_,h2,h3⟩=>⟨a,xs,h1,cC.of h2,h3⟩
def tr:S->T
 | .t x=>x
 | .vt x=>x
 | .ol a=>.lst a
theorem f7.tree (e:Same F H):∀ {s:S}{v:V},f7 K F H s v->az K H (tr s) v
 | .t _,_,h=>az.same e h
 | .vt _,_,h=>h
 | .ol _,_,⟨a,xs,h1,h2,h3⟩=>⟨a,xs,h1,h2,aq.same e h3⟩
def items:S->Option (List T)
 | .t (.lst a)=>some a
 | .vt (.lst a)=>some a
 | .ol a=>some a
 |_=>none
theorem f7.list (e:Same F H)(h:f7 K F H s v)(q:items s=some ts):∃ a b,v=.ref a/\cC K H a b/\aq K H ts b:=by
 cases s with
 |t x=>
  cases x with
  |lst u=>
   have d:u=ts:=Option.some.inj q;subst d;unfold f7 az at h;obtain⟨a,b,k,g,i⟩:=h;exact⟨a,b,k,e.seq g,aq.same e i⟩
  |_=>cases q
 |vt x=>
  cases x with
  |lst u=>
   have d:u=ts:=Option.some.inj q;subst d;unfold f7 az at h;exact h
  |_=>cases q
 |ol u=>
  have d:u=ts:=Option.some.inj q;subst d;unfold f7 at h;obtain⟨a,b,k,g,i⟩:=h;exact⟨a,b,k,g,aq.same e i⟩
def au (K:Frg)(w:WE):TE:=λb H Q=>∃ a R F,Rel K F H b a/\w a R/\∀ v a h s,dq F H a h->dw K H a h s v->R s->Q v h
def liftT (K:Frg)(w:WT):TT:=λd H Q=>∃ a R F,Rel K F H d a/\w a R/\∀ a h b,dq F H a h->R b->Q b h
def iy (K:Frg)(H b H':Hp):List S->List V->Prop
 | [],a=>a=[]
 |s::d,a=>∃ v r,a=v::r/\dw K H b H' s v/\iy K H b H' d r
theorem iy.start (e:Same g H):∀ {d:List S}{b:List V},iy K H a H' d b->iy K g a H' d b
 | [],_,h=>h
 |_::_,_,⟨v,r,m,i,k⟩=>⟨v,r,m,i.start e,iy.start e k⟩
def cY (K:Frg)(w:WA):TA:=λb H Q=>∃ a R F,Rel K F H b a/\w a R/\∀ v a h b,dq F H a h->iy K H a h b v->R b->Q v h
def Bb (K:Frg)(H₀ H':Hp):S->V->Prop
 | .t x,v=>az K H' x v
 | .vt _,_=>False
 | .ol ts,v=>∃ a b,v=.ref a/\H₀ a=none/\H' a=some (.lst b)/\aq K H' ts b
structure qO (K:Frg) (H₀ F:Hp) (D':nt) (D:Ends):Prop where
 nx:∀ σ' F' H' δ',Same F F'->Rel K F' H' σ' δ'->D'.nx δ'->D.nx σ' H'
 rt:∀ v H' s,Same H₀ H'->lA K H'->Bb K H₀ H' s v->D'.rt s->D.rt v H'
 bk:∀ σ' F' H' δ',Same F F'->Rel K F' H' σ' δ'->D'.bk δ'->D.bk σ' H'
 ct:∀ σ' F' H' δ',Same F F'->Rel K F' H' σ' δ'->D'.ct δ'->D.ct σ' H'
theorem qO.mono (e:qO K H₀ F d D)(s:Same F a):qO K H₀ a d D:=
 ⟨λ_ _ _ _ h=>e.nx _ _ _ _ (s.trans h),e.rt,λ_ _ _ _ h=>e.bk _ _ _ _ (s.trans h),λ_ _ _ _ h=>e.ct _ _ _ _ (s.trans h)⟩
def bK (K:Frg)(H₀:Hp)(w:WS):TS:=λD b H=>∃ a d F,Same H₀ F/\Rel K F H b a/\w d a/\qO K H₀ F d D
end DL
namespace L2
open PySem
section
variable {X:Cx}{e:Expr}{t t':TE}
theorem PE.imp (h:PE X e t)(i:∀ a H Q,t' a H Q->t a H Q):PE X e t':=λp s a H Q I q=>h p s a H Q I (i a H Q q)
theorem PT.imp {t t':TT}(h:PT X e t)(i:∀ a H Q,t' a H Q->t a H Q):PT X e t':=λp s a H Q I q=>h p s a H Q I (i a H Q q)
theorem PW.imp {t t':TT}(h:PW X e t)(i:∀ a H Q,t' a H Q->t a H Q):PW X e t':=λb p s a H Q I q=>h b p s a H Q I (i a H Q q)
theorem PA.imp {es:List Expr}{t t':TA}(h:PA X es t)(i:∀ a H Q,t' a H Q->t a H Q):PA X es t':=λb p s a H Q I q=>h b p s a H Q I (i a H Q q)
theorem PS.imp {st:Stmt}{t t':TS}(h:PS X st t)(i:∀ D a H,t' D a H->t D a H):PS X st t':=λp s a H D I q=>h p s a H D I (i D a H q)
theorem ki.imp {st:List Stmt}{t t':TS}(h:ki X st t)(i:∀ D a H,t' D a H->t D a H):ki X st t':=λp s a H D I q=>h p s a H D I (i D a H q)
theorem PG.imp {g:Expr}{t t':TG}(h:PG X g t)(i:∀ v a H Q,t' v a H Q->t v a H Q):PG X g t':=λp s a H v u Q I r q=>h p s a H v u Q I r (i v a H Q q)
theorem A8.imp {g:List Expr}{t t':Kc}(h:A8 X g t)(i:∀ v a H Q,t' v a H Q->t v a H Q):A8 X g t':=λp s a H v u Q I r q=>h p s a H v u Q I r (i v a H Q q)
theorem PI.imp {g r:Expr}{t t':TI}(h:PI X g r t)(i:∀ a H Q,t' a H Q->t a H Q):PI X g r t':=λp s a H R I q=>h p s a H R I (i a H R q)
end
end L2
namespace DL
open PySem L2
def wC (x:T):WE:=λ_ R=>R (.t x)
def seen:S->S
 | .ol a=>.vt (.lst a)
 | .t x=>.t x
 | .vt x=>.vt x
def af (i:Nat):WE:=λa R=>match a[i]? with
 |some (some s)=>R (seen s)
 |_=>False
section
variable {X:Cx}{a b c:Expr}{wa wb wc:WE}{pos:Pos}
theorem ab {i j pos}:PE X (.Constant (.int i) j pos) (au X.K (wC (.int i))):=Ms.imp <| by rintro _ _ _ ⟨_,_,_,r,h,k⟩;exact k _ _ _ (.t (.int i)) r.refl rfl h
theorem kA {i j pos}:PE X (.Constant (.bool i) j pos) (au X.K (wC (.bl i))):=Pn.imp <| by rintro _ _ _ ⟨_,_,_,r,h,k⟩;exact k _ _ _ (.t (.bl i)) r.refl rfl h
theorem rq {j pos}:PE X (.Constant .none j pos) (au X.K (wC .non)):=Mu.imp <| by rintro _ _ _ ⟨_,_,_,r,h,k⟩;exact k _ _ _ (.t .non) r.refl rfl h
theorem v8 {i j pos}:PE X (.Constant (.str i) j pos) (au X.K (wC (.str i))):=Mx.imp <| by rintro _ _ _ ⟨_,_,_,r,h,k⟩;exact k _ _ _ (.t (.str i)) r.refl rfl h
theorem IL (e:Same F H):∀ {s:S}{v:V},fi K F H s v->dw K H F H (seen s) v
 | .t _,_,h=>h
 | .vt _,_,h=>False.elim h
 | .ol _,_,⟨a,xs,h1,_,h3,h4⟩=>⟨a,xs,h1,cC.of h3,aq.same e h4⟩
theorem zL (h:PE X e (vg i)):PE X e (au X.K (af i)):=h.imp λo H Q ⟨p,R,F,r,h,k⟩=>by
 unfold af at h
 split at h
 .rename_i s d;obtain⟨v,m,g⟩:=r.slot i s d;exact⟨v,m,k _ _ _ _ r.refl (IL r.sub g) h⟩
 .exact h.elim
theorem dv (i:Nat) (h:X.N[i]?=some x:=by rfl) (v:Qc X.env.scope x:=by first | exact Or.inl rfl | exact Or.inr (Or.inl rfl) | exact Or.inr (Or.inr rfl)) (hd:(x == ("__debug__":Str))=false:=by decide)
  (d:(x == ("__classdict__":Str))=false:=by decide):PE X (.Name x pos) (au X.K (af i)):=zL (EZ h v hd d)
def av (f:S->S->(S->Prop)->Prop)(wa wb:WE):WE:=λd R=>wa d λx=>wb d λy=>f x y R
def FV (K:Frg)(r:R2)(f:S->S->(S->Prop)->Prop):Prop:=
 ∀ F H g d i e R Q,Same F H->f6 F H->f7 K F H g i->f7 K F H d e->f g d R->(∀ v d h s,dq F H d h->dw K H d h s v->R s->Q v h)->r i e H Q
theorem cf (D:FV K r f):∀ g H Q,au K (av f wa wb) g H Q->M7 r (au K wa) (au K wb) g H Q:=by
 rintro g H Q ⟨d,R,F,i,h,k⟩;refine⟨d,_,F,i,h,λm o g x g y u=>?_⟩;refine⟨d,_,o,i.ext g,u,λz o i u d B C=>?_⟩;refine D o i x u m z R Q d.sub d.full ((y.ext d).val d.sub) (B.val d.sub) C λv m i s e p q=>?_;exact k v m i s ((g.trans d).trans e) (p.start (g.trans d).hh) q
def fI (C:Int->Int->Prop)(g:Int->Int->T):S->S->(S->Prop)->Prop
 | .t (.int i),.t (.int j),R=>C i j/\R (.t (g i j))
 |_,_,_=>False
def G1 (g:Int->Int->T):S->S->(S->Prop)->Prop
 | .t (.int i),.t (.int j),R=>R (.t (g i j))
 |_,_,_=>False
theorem G2:∀ {e d:S}{R:S->Prop},fI C g e d R->∃ i j,e=.t (.int i)/\d=.t (.int j)/\C i j/\R (.t (g i j))
 | .t (.int i),.t (.int j),_,h=>⟨i,j,rfl,rfl,h.1,h.2⟩
theorem CW:∀ {e d:S}{R:S->Prop},G1 g e d R->∃ i j,e=.t (.int i)/\d=.t (.int j)/\R (.t (g i j))
 | .t (.int i),.t (.int j),_,h=>⟨i,j,rfl,rfl,h⟩
def toV:T->V
 | .bl b=>.bl b
 | .int i=>.int i
 | .str x=>.str x
 |_=>.non
def flat:T->Bool
 | .tup _=>false
 | .lst _=>false
 | .exc _=>false
 |_=>true
theorem uh:∀ {x:T},flat x=true->az K F x (toV x)
 | .non,_=>rfl
 | .bl _,_=>rfl
 | .int _,_=>rfl
 | .str _,_=>rfl
theorem yC (d:∀ i j,flat (g i j)=true):FV K (rI C λi j=>toV (g i j)) (fI C g):=by
 intro F H e e v v R Q sb u p e h k;obtain⟨i,j,rfl,rfl,m,r⟩:=G2 h;exact⟨i,j,p,e,m,k _ F H (.t (g i j)) (dq.refl sb u) (uh (d i j)) r⟩
theorem gQ (d:∀ i j,flat (g i j)=true):FV K (IF λi j=>toV (g i j)) (G1 g):=by
 intro F H e e v v R Q sb u p e h k;obtain⟨i,j,rfl,rfl,r⟩:=CW h;exact⟨i,j,p,e,k _ F H (.t (g i j)) (dq.refl sb u) (uh (d i j)) r⟩
abbrev eM:=av (G1 λi j=>.int (i+j))
abbrev dR:=av (G1 λi j=>.int (i-j))
structure MulOk (i j:Int):Prop where
 ok:IntMulOk i j
structure A9 (i j:Int):Prop where
 ok:NK i j
abbrev bG:=av (fI MulOk λi j=>.int (i*j))
structure nu (i j:Int):Prop where
 ne:j≠0
 short:Builtin.divisionGoesByPylong i j=false
abbrev iX:=av (fI nu λi j=>.int (i.fdiv j))
abbrev iY:=av (fI (λ_ j=>j≠0) λi j=>.int (i.fmod j))
abbrev xr:=av (fI A9 λi j=>.int (i ^ j.toNat))
theorem HY:lu X (binaryOp .Mult) (rI MulOk λi j=>.int (i*j)):=Qh λ_ _ _ _ _ _ _ h q=>PyProof.Rows.mul_int q h.ok
theorem EV:lu X (binaryOp .FloorDiv) (rI nu λi j=>.int (i.fdiv j)):=Qh λ_ _ _ _ _ _ _ h q=>PyProof.Rows.floordiv_int h.ne q (.inl h.short)
theorem bP (ha:PE X a (au X.K wa))(hb:PE X b (au X.K wb)):PE X (.BinOp a .Add b pos) (au X.K (eM wa wb)):=(oC Mh ha hb).imp (cf (gQ λ_ _=>rfl))
theorem bF (ha:PE X a (au X.K wa))(hb:PE X b (au X.K wb)):PE X (.BinOp a .Sub b pos) (au X.K (dR wa wb)):=(oC Mm ha hb).imp (cf (gQ λ_ _=>rfl))
theorem aF (ha:PE X a (au X.K wa))(hb:PE X b (au X.K wb)):PE X (.BinOp a .Mult b pos) (au X.K (bG wa wb)):=(oC HY ha hb).imp (cf (yC λ_ _=>rfl))
theorem ec (ha:PE X a (au X.K wa))(hb:PE X b (au X.K wb)):PE X (.BinOp a .FloorDiv b pos) (au X.K (iX wa wb)):=(oC EV ha hb).imp (cf (yC λ_ _=>rfl))
theorem cZ (ha:PE X a (au X.K wa))(hb:PE X b (au X.K wb)):PE X (.BinOp a .Mod b pos) (au X.K (iY wa wb)):=(oC HX ha hb).imp (cf (yC λ_ _=>rfl))
theorem lF (ha:PE X a (au X.K wa))(hb:PE X b (au X.K wb)):PE X (.BinOp a .Pow b pos) (au X.K (xr wa wb)):=(oC (show lu X (binaryOp .Pow) (rI A9 λi j=>.int (i ^ j.toNat)) from by rintro p s d H x y v u Q I g r ⟨i,j,h,e,k,q⟩;exact Ml p s d H x y v u Q I g r ⟨i,j,h,e,k.ok,q⟩) ha hb).imp (cf (yC λ_ _=>rfl))
abbrev y9:=av (G1 λi j=>.bl (decide (i<j)))
abbrev Rz:=av (G1 λi j=>.bl (decide (i<=j)))
abbrev AQ:=av (G1 λi j=>.bl (decide (j<i)))
abbrev JW:=av (G1 λi j=>.bl (decide (j<=i)))
theorem OH (ha:PE X a (au X.K wa))(hb:PE X b (au X.K wb)):PE X (.Compare a [.Lt] [b] pos) (au X.K (y9 wa wb)):=(mR JJ ha hb (eQ _)).imp (cf (gQ λ_ _=>rfl))
theorem OG (ha:PE X a (au X.K wa))(hb:PE X b (au X.K wb)):PE X (.Compare a [.Gt] [b] pos) (au X.K (AQ wa wb)):=(mR JI ha hb (eQ _)).imp (cf (gQ λ_ _=>rfl))
theorem Ji (ha:PE X a (au X.K wa))(hb:PE X b (au X.K wb)):PE X (.Compare a [.GtE] [b] pos) (au X.K (JW wa wb)):=(mR JG ha hb (eQ _)).imp (cf (gQ λ_ _=>rfl))
def wB (w:WE):WT:=λd R=>w d λs=>match s with
 | .t (.bl k)=>R k
 |_=>False
theorem jT {op:CmpOp}{r:R2}{f:S->S->(S->Prop)->Prop}(o:lu X (compareOp op) r)(g:FV X.K r f)(ha:PE X a (au X.K wa))(hb:PE X b (au X.K wb))(hm:behindInMarks op b=false):PT X (.Compare a [op] [b] pos) (liftT X.K (wB (av f wa wb))):=
 (sM o ha hb hm).imp λi H Q h=>by
  obtain⟨m,R,F,d,h,k⟩:=h;refine cf g i H _ ⟨m,_,F,d,h,λv i d s e p q=>?_⟩
  split at q
  .exact⟨_,p,k i d _ e q⟩
  .exact q.elim
theorem iC (ha:PE X a (au X.K wa))(hb:PE X b (au X.K wb)):PT X (.Compare a [.Lt] [b] pos) (liftT X.K (wB (y9 wa wb))):=jT JJ (gQ λ_ _=>rfl) ha hb (eQ _)
theorem OI (ha:PE X a (au X.K wa))(hb:PE X b (au X.K wb)):PT X (.Compare a [.LtE] [b] pos) (liftT X.K (wB (Rz wa wb))):=jT Pj (gQ λ_ _=>rfl) ha hb (eQ _)
theorem jK (ha:PE X a (au X.K wa))(hb:PE X b (au X.K wb)):PT X (.Compare a [.Gt] [b] pos) (liftT X.K (wB (AQ wa wb))):=jT JI (gQ λ_ _=>rfl) ha hb (eQ _)
theorem xU (ha:PE X a (au X.K wa))(hb:PE X b (au X.K wb)):PT X (.Compare a [.GtE] [b] pos) (liftT X.K (wB (JW wa wb))):=jT JG (gQ λ_ _=>rfl) ha hb (eQ _)
theorem iD {e:Expr}{w:WE}(h:PE X e (au X.K w))(he:∀ d,isTrue e X.env d=(do let v ← d;standAt e.pos;holding [v] (truthy v)):=by intro _;rfl):PT X e (liftT X.K (wB w)):=
 (MJ h he).imp λd H Q h=>by
  obtain⟨d,R,F,r,h,k⟩:=h;refine⟨d,_,F,r,h,λv g d s e p q=>?_⟩
  split at q
  .exact⟨_,p,k g d _ e q⟩
  .exact q.elim
def iW (t u:WT):WT:=λd R=>t d λk=>if k=true then u d R else R false
def AR (t u:WT):WT:=λd R=>t d λk=>if k=true then R true else u d R
def vo (t:WT):WT:=λd R=>t d λk=>R (!k)
theorem fC (ha:PT X a (liftT X.K t)):PW X (.BoolOp .And [a] pos) (liftT X.K t):=IB ha
theorem rB (ha:PT X a (liftT X.K t)):PW X (.BoolOp .Or [a] pos) (liftT X.K t):=MM ha
theorem gF {rest:List Expr}{t u:WT}(ha:PT X a (liftT X.K t))(hb:PW X (.BoolOp .And (b::rest) pos) (liftT X.K u)):PW X (.BoolOp .And (a::b::rest) pos) (liftT X.K (iW t u)):=
 (ML ha hb).imp <| by rintro d H Q ⟨d,R,F,r,h,k⟩;exact⟨d,_,F,r,h,λg m c e q=>by
  cases c with
  |true=>exact⟨d,R,g,r.ext e,by simpa using q,λo d c i q=>k o d c (e.trans i) q⟩
  |false=>exact k g m false e (by simpa using q)⟩
theorem xX {rest:List Expr}{t u:WT}(ha:PT X a (liftT X.K t))(hb:PW X (.BoolOp .Or (b::rest) pos) (liftT X.K u)):PW X (.BoolOp .Or (a::b::rest) pos) (liftT X.K (AR t u)):=
 (Pu ha hb).imp <| by rintro d H Q ⟨d,R,F,r,h,k⟩;exact⟨d,_,F,r,h,λg m c e q=>by
  cases c with
  |false=>exact⟨d,R,g,r.ext e,by simpa using q,λo d c i q=>k o d c (e.trans i) q⟩
  |true=>exact k g m true e (by simpa using q)⟩
theorem wf {t:WT}(ha:PT X a (liftT X.K t)):PT X (.UnaryOp .Not a pos) (liftT X.K (vo t)):=
 (MI ha).imp <| by rintro d H Q ⟨d,R,F,r,h,k⟩;exact⟨d,_,F,r,h,λg d c e q=>k g d (!c) e q⟩
def FQ (t:WT):WT:=λd R=>∃ P:Bool->Prop,t d P/\∀ k,P k->R k
theorem rz {t:WT}(ha:PT X a (liftT X.K t)):PT X a (liftT X.K (FQ t)):=ha.imp <| by rintro d H Q ⟨d,R,F,r,⟨P,h,k1⟩,k⟩;exact⟨d,P,F,r,h,λg d c e q=>k g d c e (k1 c q)⟩
def vm (wa wb:WE):WE:=λd R=>wa d λs=>match s with
 | .t (.bl k)=>if k=true then wb d R else R (.t (.bl false))
 |_=>False
def Rl (wa wb:WE):WE:=λd R=>wa d λs=>match s with
 | .t (.bl k)=>if k=true then R (.t (.bl true)) else wb d R
 |_=>False
def vp (wa:WE):WE:=λd R=>wa d λs=>match s with
 | .t (.bl k)=>R (.t (.bl (!k)))
 |_=>False
def Nl (c:WT)(wa wb:WE):WE:=λd R=>c d λk=>if k=true then wa d R else wb d R
theorem v7 {op}(h:PE X a (au X.K wa)):PE X (.BoolOp op [a] pos) (au X.K wa):=Mw h
theorem vW {rest:List Expr}(ha:PE X a (au X.K wa))(hb:PE X (.BoolOp .And (b::rest) pos) (au X.K wb)):PE X (.BoolOp .And (a::b::rest) pos) (au X.K (vm wa wb)):=
 (Mr ha hb).imp <| by rintro x H Q ⟨d,R,F,r,h,k⟩;exact⟨d,_,F,r,h,λv g o s e p q=>by
  split at q
  .rename_i c;refine⟨c,p,?_⟩
   cases c with
   |true=>exact⟨d,R,g,r.ext e,by simpa using q,λv u i s m p q=>k v u i s (e.trans m) (p.start e.hh) q⟩
   |false=>exact k _ g o (.t (.bl false)) e rfl (by simpa using q)
  .exact q.elim⟩
theorem v6 (ha:PE X a (au X.K wa)):PE X (.UnaryOp .Not a pos) (au X.K (vp wa)):=
 (Mv ha).imp <| by rintro d H Q ⟨d,R,F,r,h,k⟩;exact⟨d,_,F,r,h,λv g d s e p q=>by
  split at q
  .exact⟨_,p,k _ g d (.t (.bl _)) e rfl q⟩
  .exact q.elim⟩
theorem K8 (u:PT X c (liftT X.K t))(ha:PE X a (au X.K wa))(hb:PE X b (au X.K wb)):PE X (.IfExp c a b pos) (au X.K (Nl t wa wb)):=
 (EX u ha hb).imp <| by rintro d H Q ⟨i,R,F,r,h,k⟩;exact⟨i,_,F,r,h,λo d c e q=>by
  cases c with
  |true=>exact⟨i,R,o,r.ext e,by simpa using q,λv m d s g p q=>k v m d s (e.trans g) (p.start e.hh) q⟩
  |false=>exact⟨i,R,o,r.ext e,by simpa using q,λv m d s g p q=>k v m d s (e.trans g) (p.start e.hh) q⟩⟩
def tN (f:S->(S->Prop)->Prop)(wa:WE):WE:=λd R=>wa d λx=>f x R
def gI:S->(S->Prop)->Prop
 | .t (.int i),R=>R (.t (.int (-i)))
 |_,_=>False
theorem da (ha:PE X a (au X.K wa)):PE X (.UnaryOp .USub a pos) (au X.K (tN gI wa)):=
 (Pp Nh ha).imp <| by rintro d H Q ⟨d,R,F,r,h,k⟩;exact⟨d,_,F,r,h,λv g d s e p q=>by
  unfold gI at q
  split at q
  .exact⟨_,p,k _ g d (.t (.int _)) e rfl q⟩
  .exact q.elim⟩
def atT (ts:List T)(i:Int)(R:S->Prop):Prop:=match atI ts i with
 |some x=>R (.t x)
 |none=>False
def vy (ts:List T)(i:Int)(R:S->Prop):Prop:=match atI ts i with
 |some x=>R (norm x)
 |none=>False
def aU:S->S->(S->Prop)->Prop
 | .t (.tup ts),.t (.int i),R=>atT ts i R
 | .t (.lst ts),.t (.int i),R=>atT ts i R
 | .vt (.tup ts),.t (.int i),R=>vy ts i R
 | .vt (.lst ts),.t (.int i),R=>vy ts i R
 | .ol ts,.t (.int i),R=>atT ts i R
 |_,_,_=>False
theorem aq.atI (h:aq K H ts xs)(e:atI ts i=some t):∃ x,atI xs i=some x/\az K H t x:=by
 unfold L2.atI at e ⊢;rw[h.length]
 cases q:su ts.length i with
 |none=>rw[q]at e;cases e
 |some j=>
  rw[q]at e;obtain⟨x,g,d⟩:=h.get (i:=j) (by simpa using e)
  exact⟨x,by simpa using g,d⟩
theorem lD (h:atT ts i R):∃ x,atI ts i=some x/\R (.t x):=by
 unfold atT at h
 cases e:atI ts i with
 |none=>simp only[e]at h
 |some x=>simp only[e]at h;exact⟨x,rfl,h⟩
theorem pU (h:vy ts i R):∃ x,atI ts i=some x/\R (norm x):=by
 unfold vy at h
 cases e:atI ts i with
 |none=>simp only[e]at h
 |some x=>simp only[e]at h;exact⟨x,rfl,h⟩
theorem Mf:FV K (λx y H Q=>Pw K x y H Q\/Px K x y H Q) aU:=by
 intro F H d d v v R Q sb u q v h k;unfold aU at h
 split at h
 .obtain⟨x,m,r⟩:=lD h;obtain⟨a,d,e,o,p⟩:=q;obtain⟨y,i,g⟩:=p.atI m;exact .inr ⟨a,d,_,y,e,v,Same.sqT sb a d o,i,k _ F H (.t x) (dq.refl sb u) g r⟩
 .obtain⟨x,m,r⟩:=lD h;obtain⟨a,d,e,o,p⟩:=q;obtain⟨y,i,g⟩:=p.atI m;exact .inl ⟨a,d,_,y,e,v,sb.seq o,i,k _ F H (.t x) (dq.refl sb u) g r⟩
 .obtain⟨x,m,r⟩:=pU h;obtain⟨a,d,e,o,p⟩:=q;obtain⟨y,i,g⟩:=p.atI m;exact .inr ⟨a,d,_,y,e,v,o,i,k _ F H _ (dq.refl sb u) (dw.norm u g) r⟩
 .obtain⟨x,m,r⟩:=pU h;obtain⟨a,d,e,o,p⟩:=q;obtain⟨y,i,g⟩:=p.atI m;exact .inl ⟨a,d,_,y,e,v,o,i,k _ F H _ (dq.refl sb u) (dw.norm u g) r⟩
 .obtain⟨x,m,r⟩:=lD h;obtain⟨a,d,e,o,p⟩:=q;obtain⟨y,i,g⟩:=p.atI m;exact .inl ⟨a,d,_,y,e,v,o,i,k _ F H (.t x) (dq.refl sb u) g r⟩
 .exact h.elim
theorem ao (ha:PE X a (au X.K wa))(hb:PE X b (au X.K wb))(hs:xC b:=by exact λ_ _=>rfl):PE X (.Subscript a b pos) (au X.K (av aU wa wb)):=
 (Po (Hc.or LL) ha hb hs).imp (cf Mf)
end
def yH:Expr->Bool
 | .Starred ..=>false
 |_=>true
theorem aN (h:yH e=true):starEach (e::es) env=(false,eval e env)::starEach es env:=by
 cases e <;> first|rfl|cases h
theorem cm:∀ {a:List Expr},a.all yH=true->(backTo p (starEach a env)).any (·.1)=false
 | [],_=>rfl
 |e::a,h=>by
  simp only[List.all_cons,Bool.and_eq_true]at h;rw[aN h.1];show(false || (backTo p (starEach a env)).any (·.1))=false
  rw[cm h.2];rfl
theorem lb (h:H p=none):Same H (cs H p o):=Fm h
theorem Fn (sb:Same F H):Same (cs F p o) (cs H p o):=by
 refine⟨λb u q n=>?_,λb a q=>?_⟩
 .by_cases e:b=p
  .subst e;rw[aW]at q ⊢;exact q
  .rw[aV e]at q ⊢;exact sb.all _ _ q n
 .by_cases e:b=p
  .subst e;rw[aW]at q;exact⟨a,by rw[aW];exact q⟩
  .rw[aV e]at q ⊢;exact sb.tbl _ _ q
theorem dq.new (o:HO)(sb:Same F H)(d:f6 F H)(h:H p=none)(n:JF o=true:=by rfl):dq F H (cs F p o) (cs H p o):=by
 have a:F p=none:=aJ sb h;refine⟨lb h,lb a,Fn sb,λb u q n=>?_,λb g a=>?_,λt=>tm t h n⟩
 .by_cases e:b=p
  .subst e;rw[aW]at q;exact .inl (by rw[aW];exact q)
  .rw[aV e]at q;rw[aV e];exact d _ _ q n
 .have:b≠p:=λe=>g (by rw[e];exact h)
  rw[aV this];exact a
theorem dq.newL (xs:List V)(sb:Same F H)(d:f6 F H)(h:H p=none):dq F H F (cs H p (.lst xs)):=by
 refine⟨lb h,Same.refl _,sb.trans (lb h),λb u q n=>?_,λb _ a=>a,λt=>tm t h rfl⟩
 by_cases e:b=p
 .subst e;rw[aW]at q;cases q;exact .inr ⟨xs,rfl⟩
 .rw[aV e]at q;exact d _ _ q n
def ap:WA:=λ_ R=>R []
def ae (b:WE)(r:WA):WA:=λa R=>b a λx=>r a λa=>R (x::a)
def grow (F H H':Hp)(x:Option Addr):Hp:=λb=>if (H b).isNone=true then (if x=some b then none else H' b) else F b
theorem some_of (sb:Same F H)(h:F b=some o):¬ (H b).isNone=true:=λz=>by
 rw[aJ sb (Option.isNone_iff_eq_none.mp z)]at h;cases h
theorem G6 (sb:Same F H)(h:F b=some o):grow F H H' x b=some o:=by
 unfold grow;rw[if_neg (some_of sb h)];exact h
theorem um (s:Same F H'):Same (grow F H H' x) H':=by
 refine⟨λb o q n=>?_,λb p q=>?_⟩
 .unfold grow at q
  split at q
  .split at q
   .cases q
   .exact q
  .exact s.all _ _ q n
 .unfold grow at q
  split at q
  .split at q
   .cases q
   .exact⟨p,q⟩
  .exact s.tbl _ _ q
theorem kE (sb:Same F H)(u:f6 F H)(s:Same H H')(h:∀ a,x=some a->∃ d,H' a=some (.lst d))(tb:Tab H->Tab H'):dq F H (grow F H H' x) H':=by
 refine⟨s,.of λb o q=>G6 sb q,um (sb.trans s),λb o q n=>?_,λb i k=>?_,tb⟩
 .unfold grow
  cases e:H b with
  |none=>
   rw[if_pos (show(none:Option HO).isNone=true from rfl)]
   by_cases z:x=some b
   .obtain⟨d,g⟩:=h b z;rw[q]at g;cases g
    exact .inr ⟨d,rfl⟩
   .rw[if_neg z];exact .inl q
  |some d=>
   rw[if_neg (by simp)]
   cases m:JF d with
   |true=>
    have:=s.all _ _ e m;rw[q]at this;cases this
    exact u _ _ e n
   |false=>
    cases d <;> first|(cases m)|skip
    obtain⟨p,z⟩:=s.tbl _ _ e;rw[q]at z;cases z;cases n
 .unfold grow;rw[if_neg (λz=>i (Option.isNone_iff_eq_none.mp z))];exact k
theorem dq.frozen (sb:Same F H)(e:dq F H a h):dq F H (grow a H h none) h/\Same a (grow a H h none):=by
 refine⟨⟨e.hh,⟨λb o q m=>?_,λb p q=>?_⟩,um e.sub,λb o q n=>?_,λb d g=>?_,e.tb⟩,⟨λb o q n=>?_,λb p q=>?_⟩⟩
 .unfold grow;rw[if_neg (some_of sb q)];exact e.ff.all _ _ q m
 .unfold grow;rw[if_neg (some_of sb q)];exact e.ff.tbl _ _ q
 .unfold grow
  cases z:H b with
  |none=>exact .inl (by rw[if_pos (show(none:Option HO).isNone=true from rfl),if_neg (by simp)];exact q)
  |some i=>rw[if_neg (by simp)];exact e.full _ _ q n
 .unfold grow;rw[if_neg (λz=>d (Option.isNone_iff_eq_none.mp z))];exact e.keep b d g
 .unfold grow
  split
  .rw[if_neg (by simp)];exact e.sub.all _ _ q n
  .exact q
 .unfold grow
  split
  .rw[if_neg (by simp)];exact e.sub.tbl _ _ q
  .exact⟨p,q⟩
def la:List S->Option (List T)
 | []=>some []
 | .t x::r=>match la r with
  |some a=>some (x::a)
  |none=>none
 | .ol us::r=>match la r with
  |some a=>some (.lst us::a)
  |none=>none
 | .vt _::_=>none
def cF (b:WA):WE:=λa R=>b a λa=>match la a with
 |some a=>if a.length<=1000 then R (.t (.tup a)) else False
 |none=>False
def jC (b:WA):WE:=λa R=>b a λa=>match la a with
 |some a=>if a.length<=1000 then R (.ol a) else False
 |none=>False
theorem jh (m:Same b (grow b H H' none)):∀ {i:List S}{g:List V}{d:List T},iy K H b H' i g->la i=some d->aq K (grow b H H' none) d g
 | [],_,_,h,e=>by cases e;exact h
 | .t x::r,_,d,⟨v,vr,e1,h1,h2⟩,e=>by
  subst e1;unfold la at e
  split at e
  .rename_i p u
   cases e
   exact⟨v,vr,rfl,az.same m h1,jh m h2 u⟩
  .cases e
 | .vt _::_,_,_,_,e=>by cases e
 | .ol zs::r,_,_,⟨v,vr,e1,h1,h2⟩,e=>by
  subst e1;unfold la at e
  split at e
  .rename_i p u
   cases e
   refine⟨v,vr,rfl,?_,jh m h2 u⟩;unfold dw at h1;obtain⟨a,k,q,z,B,y,o⟩:=h1;unfold az;refine⟨a,k,q,cC.of ?_,aq.same m o⟩;unfold grow;rw[if_pos (by rw[z];rfl),if_neg (by simp)]
   exact y
  .cases e
theorem ym (h:n<=1000):n<=sizeLine:=Nat.le_of_lt (AL h)
def dP (f:List S->(S->Prop)->Prop)(b:WA):WE:=λa R=>b a λa=>f a R
def ma (K:Frg)(F H:Hp):List S->List V->Prop
 | [],a=>a=[]
 |s::b,a=>∃ v r,a=v::r/\f7 K F H s v/\ma K F H b r
theorem iy.val (e:Same F H):∀ {b:List S}{a:List V},iy K i F H b a->ma K F H b a
 | [],_,h=>h
 |_::_,_,⟨v,r,k,d,g⟩=>⟨v,r,k,d.val e,iy.val e g⟩
def fL (K:Frg)(r:List V->Hp->VK->Prop)(f:List S->(S->Prop)->Prop):Prop:=
 ∀ F H b a R Q,Same F H->f6 F H->ma K F H b a->f b R->(∀ v b h s,dq F H b h->dw K H b h s v->R s->Q v h)->r a H Q
theorem yr (o:fL K r f):∀ a H Q,au K (dP f b) a H Q->Q3 r (cY K b) a H Q:=by
 rintro a H Q ⟨d,R,F,a,h,k⟩;refine⟨d,_,F,a,h,λg d a i e p q=>?_⟩;exact o d a i g R Q e.sub e.full (p.val e.sub) q λv i a s d g m=>k v i a s (e.trans d) (g.start e.hh) m
abbrev aO:=List S->(S->Prop)->Prop
def md:S->S
 | .vt x=>.t x
 | .ol a=>.t (.lst a)
 | .t x=>.t x
def got:S->S
 | .t x=>norm x
 | .vt x=>.vt x
 | .ol a=>if cI a=true then .ol a else .vt (.lst a)
def Bo:S->Prop
 | .t _=>True
 |_=>False
def tq (K:Frg)(sp:aO):Sp:=λb H Q _=>∃ a R,lA K H/\(∀ s∈a,Bo s)/\ma K H H a b/\sp a R/\∀ v h s,Same H h->lA K h->Bb K H h s v->R s->Q v h
def ax (sp:aO)(b:WA):WE:=λa R=>b a λa=>sp (a.map md) λs=>R (got s)
theorem xF (sb:Same F H):∀ {d:List S}{g:List V},iy K i F H d g->(∀ s∈d.map md,Bo s)/\ma K H H (d.map md) g
 | [],_,h=>⟨λs k=>by simp at k,h⟩
 |s::d,_,⟨v,r,o,b,p⟩=>by
  obtain⟨y,z⟩:=xF sb p;refine⟨λu d=>?_,v,r,o,?_,z⟩
  .rw[map_cons]at d
   obtain e|e:=mem_cons.mp d
   .subst e
    cases s <;> exact True.intro
   .exact y u e
  .cases s with
   |t x=>exact az.same sb b
   |vt x=>exact b
   |ol d=>
    unfold dw at b;obtain⟨a,m,q,_,_,g,k⟩:=b;show az K H (.lst d) v;unfold az;exact⟨a,m,q,cC.of g,aq.same sb k⟩
theorem Ab:∀ o H Q,au K (ax sp L) o H Q->JR (tq K sp) [] E (cY K L) o H Q:=by
 rintro o H Q ⟨P,R,F,J,h,k⟩;refine⟨P,_,F,J,h,λO Y U Z e p q=>?_⟩;show tq K sp (O++[]) U Q E;rw[append_nil];obtain⟨X,M⟩:=xF e.sub p;refine⟨_,_,(J.ext e).tab,X,M,q,λv m s I y rc B=>?_⟩
 cases s with
 |t x=>
  have ex:=kE (x:=none) e.sub e.full I (λ_ z=>by cases z) (λ_=>y.1)
  exact k v _ m (norm x) (e.trans ex) (dw.norm ex.full rc) B
 |vt x=>exact False.elim rc
 |ol g=>
  unfold Bb at rc;obtain⟨a,r,u,D,i,C⟩:=rc;have ex:=kE (x:=some a) e.sub e.full I (λb z=>by cases z;exact⟨r,i⟩) (λ_=>y.1)
  have d:R (if cI g=true then .ol g else .vt (.lst g)):=B
  split at d
  .rename_i W;refine k v _ m (.ol g) (e.trans ex) ⟨a,r,u,aJ e.hh D,?_,i,aq.full ex.full W C⟩ d;unfold grow;rw[if_pos (by rw[D];rfl),if_pos rfl]
  .refine k v _ m (.vt (.lst g)) (e.trans ex) ?_ d;unfold dw az;exact⟨a,r,u,cC.of i,C⟩
section
variable {X:Cx}{e:Expr}{es:List Expr}{we:WE}{wr wa:WA}{pos:Pos}
theorem ag:PA X [] (cY X.K ap):=oB.imp <| by rintro a H Q ⟨a,R,F,r,h,k⟩;exact k [] F H [] r.refl rfl h
theorem aa (ha:PE X e (au X.K we))(d:PA X es (cY X.K wr))(hs:starEach (e::es) X.env=(false,eval e X.env)::starEach es X.env:=by exact aN rfl):PA X (e::es) (cY X.K (ae we wr)):=
 (i7 ha d hs).imp <| by rintro a H Q ⟨a,R,F,r,h,k⟩;exact⟨a,_,F,r,h,λv b g s e p q=>⟨a,_,b,r.ext e,q,λb m g o a i r=>k (v::b) m g (s::o) (e.trans a) ⟨v,b,rfl,p.ext a,i.start e.hh⟩ r⟩⟩
theorem ba {x}(h:PA X es (cY X.K wa)):PE X (.Tuple es x pos) (au X.K (cF wa)):=
 (My h).imp <| by rintro o H Q ⟨i,R,F,b,h,k⟩;exact⟨i,_,F,b,h,λv y u B e p q=>by
  split at q
  .rename_i g m;obtain⟨z,sz⟩:=e.frozen b.sub;have r:=jh sz p m
   split at q
   .rename_i d;refine⟨by rw[r.length];exact ym d,λa ha=>?_⟩
    have ex:=dq.new (.tup v) z.sub z.full ha;refine k _ _ _ (.t (.tup g)) (z.trans ex) ?_ q;unfold dw az;exact⟨a,v,rfl,jy.of aW,aq.same ex.ff r⟩
   .exact q.elim
  .exact q.elim⟩
theorem dJ (h:PA X es (cY X.K wa)):PE X (.List es pos) (au X.K (jC wa)):=
 (Mt h).imp <| by rintro o H Q ⟨i,R,F,b,h,k⟩;exact⟨i,_,F,b,h,λv x u y e p q=>by
  split at q
  .rename_i g m;obtain⟨z,sz⟩:=e.frozen b.sub;have r:=jh sz p m
   split at q
   .rename_i d;refine⟨by rw[r.length];exact ym d,λa ha=>?_⟩
    have ex:=dq.newL v z.sub z.full ha;exact k _ _ _ (.ol g) (z.trans ex) ⟨a,v,rfl,aJ e.hh ha,aJ z.sub ha,aW,r⟩ q
   .exact q.elim
  .exact q.elim⟩
structure Callee (P:Program) (w:World) (K:Frg) (mg:Str->Option Value) (base:Heap) (k:Nat) (x:Str) (sp:aO):Prop where
 ex:∃ (f:Addr) (fd:FuncData) (ps:List Str),mg x=some (.ref f)/\ix P w K mg base xx k f fd ps (tq K sp)/\Binds K fd ps []/\PySem.W.keepIn K (.ref f)=true
theorem xP (C:Callee X.prog X.w X.K X.mg X.base k x sp) (h:cu k X.A) (g:Gl X x) (ha:PA X (e::es) (cY X.K wa)) (b:(x == ("__debug__":Str))=false:=by decide)
  (he:starEach (e::es) X.env=(false,eval e X.env)::starEach es X.env:=by exact aN rfl) (hpl:(backTo pos (starEach es X.env)).any (·.1)=false:=by exact cm rfl):PE X (.Call (.Name x p) (e::es) [] pos) (au X.K (ax sp wa)):=by
 obtain⟨f,d,a,hm,F,hb,a⟩:=C.ex;exact(Ib F h g hm a hb .nil (E:=E0) Pm ha b he hpl).imp Ab
theorem fj {x:Str}{p:Pos}{id:String}{r:List V->Hp->VK->Prop}{f:List S->(S->Prop)->Prop} (d:eB X (.builtin id) r) (h:fL X.K r f) (hm:X.mg x=none) (v:bootBuiltins x=some (.builtin id)) (ha:PA X (e::es) (cY X.K wa)) (g:Gl X x:=by rfl) (a:x≠"__name__":=by decide) (b:(x == ("__debug__":Str))=false:=by decide)
  (he:starEach (e::es) X.env=(false,eval e X.env)::starEach es X.env:=by exact aN rfl) (hpl:(backTo pos (starEach es X.env)).any (·.1)=false:=by exact cm rfl):PE X (.Call (.Name x p) (e::es) [] pos) (au X.K (dP f wa)):=
 (uX d g hm v ha a b he hpl).imp (yr h)
theorem zH {x:Str}{p:Pos}{id:String}{r:List V->Hp->VK->Prop}{f:List S->(S->Prop)->Prop} (d:eB X (.type id) r) (h:fL X.K r f) (hm:X.mg x=none) (v:bootBuiltins x=some (.type id)) (ha:PA X (e::es) (cY X.K wa)) (g:Gl X x:=by rfl) (a:x≠"__name__":=by decide) (b:(x == ("__debug__":Str))=false:=by decide)
  (he:starEach (e::es) X.env=(false,eval e X.env)::starEach es X.env:=by exact aN rfl) (hpl:(backTo pos (starEach es X.env)).any (·.1)=false:=by exact cm rfl):PE X (.Call (.Name x p) (e::es) [] pos) (au X.K (dP f wa)):=
 (AA d g hm v ha a b he hpl).imp (yr h)
end
def cL:List S->(S->Prop)->Prop
 | [.t (.tup ts)],R=>R (.t (.int ts.length))
 | [.t (.lst ts)],R=>R (.t (.int ts.length))
 | [.vt (.tup ts)],R=>R (.t (.int ts.length))
 | [.vt (.lst ts)],R=>R (.t (.int ts.length))
 | [.ol ts],R=>R (.t (.int ts.length))
 |_,_=>False
theorem Me:fL K (λx H Q=>∃ p y,x=[.ref p]/\(cC K H p y\/jy K H p y)/\Q (.int y.length) H) cL:=by
 intro F H b b R Q sb u g h k;unfold cL at h
 split at h
 .obtain⟨v,r,rfl,⟨a,x,rfl,e,b⟩,d⟩:=g
  cases (show r=[] from d)
  exact⟨a,x,rfl,.inr (Same.sqT sb a x e),k _ F H (.t (.int _)) (dq.refl sb u) (by show _=_;rw[b.length]) h⟩
 .obtain⟨v,r,rfl,⟨a,x,rfl,e,b⟩,d⟩:=g
  cases (show r=[] from d)
  exact⟨a,x,rfl,.inl (sb.seq e),k _ F H (.t (.int _)) (dq.refl sb u) (by show _=_;rw[b.length]) h⟩
 .obtain⟨v,r,rfl,⟨a,x,rfl,e,b⟩,d⟩:=g
  cases (show r=[] from d)
  exact⟨a,x,rfl,.inr e,k _ F H (.t (.int _)) (dq.refl sb u) (by show _=_;rw[b.length]) h⟩
 .obtain⟨v,r,rfl,⟨a,x,rfl,e,b⟩,d⟩:=g
  cases (show r=[] from d)
  exact⟨a,x,rfl,.inl e,k _ F H (.t (.int _)) (dq.refl sb u) (by show _=_;rw[b.length]) h⟩
 .obtain⟨v,r,rfl,⟨a,x,rfl,e,b⟩,d⟩:=g
  cases (show r=[] from d)
  exact⟨a,x,rfl,.inl e,k _ F H (.t (.int _)) (dq.refl sb u) (by show _=_;rw[b.length]) h⟩
 .exact h.elim
def jA:List S->(S->Prop)->Prop
 | [.t (.int i)],R=>R (.t (.int (if i<0 then -i else i)))
 |_,_=>False
theorem Mc:fL K (λx H Q=>∃ i,x=[.int i]/\Q (.int (if i<0 then -i else i)) H) jA:=by
 intro F H a a R Q sb u p h k;unfold jA at h
 split at h
 .obtain⟨v,r,rfl,rfl,a⟩:=p
  cases (show r=[] from a)
  exact⟨_,rfl,k _ F H (.t (.int _)) (dq.refl sb u) rfl h⟩
 .exact h.elim
def ug:List S->(S->Prop)->Prop
 | [.t (.int i),.t (.int j)],R=>R (.t (.int (if j>i then j else i)))
 |_,_=>False
def p9:List S->(S->Prop)->Prop
 | [.t (.int i),.t (.int j)],R=>R (.t (.int (if j<i then j else i)))
 |_,_=>False
theorem HJ:fL K (λx H Q=>∃ i j,x=[.int i,.int j]/\Q (.int (if j>i then j else i)) H) ug:=by
 intro F H a a R Q sb u p h k;unfold ug at h
 split at h
 .obtain⟨v,r,rfl,rfl,a,a,rfl,rfl,b⟩:=p
  cases (show a=[] from b)
  exact⟨_,_,rfl,k _ F H (.t (.int _)) (dq.refl sb u) rfl h⟩
 .exact h.elim
theorem HK:fL K (λx H Q=>∃ i j,x=[.int i,.int j]/\Q (.int (if j<i then j else i)) H) p9:=by
 intro F H a a R Q sb u p h k;unfold p9 at h
 split at h
 .obtain⟨v,r,rfl,rfl,a,a,rfl,rfl,b⟩:=p
  cases (show a=[] from b)
  exact⟨_,_,rfl,k _ F H (.t (.int _)) (dq.refl sb u) rfl h⟩
 .exact h.elim
def OT:List S->(S->Prop)->Prop
 | [.t (.int i)],R=>R (.t (.int i))
 | [.t (.bl b)],R=>R (.t (.int (if b then 1 else 0)))
 |_,_=>False
def gH:List S->(S->Prop)->Prop
 | [.t (.tup ts)],R=>R (.ol ts)
 | [.t (.lst ts)],R=>R (.ol ts)
 | [.vt (.lst ts)],R=>cI ts=true/\R (.ol ts)
 | [.ol ts],R=>R (.ol ts)
 |_,_=>False
theorem Aq:fL K (λx H Q=>∃ p y,x=[.ref p]/\(cC K H p y\/jy K H p y)/\∀ l,H l=none->Q (.ref l) (cs H l (.lst y))) gH:=by
 intro F H b b R Q sb u i h k;have b:∀ {d:List T}{x:List V},aq K F d x->R (.ol d)->∀ l,H l=none->Q (.ref l) (cs H l (.lst x)):=λ{d x} r q l e=>
  k _ F _ (.ol d) (dq.newL x sb u e) ⟨l,x,rfl,e,aJ sb e,aW,r⟩ q
 unfold gH at h
 split at h
 .obtain⟨v,r,rfl,⟨a,x,rfl,g,d⟩,e⟩:=i
  cases (show r=[] from e)
  exact⟨a,x,rfl,.inr (Same.sqT sb a x g),b d h⟩
 .obtain⟨v,r,rfl,⟨a,x,rfl,g,d⟩,e⟩:=i
  cases (show r=[] from e)
  exact⟨a,x,rfl,.inl (sb.seq g),b d h⟩
 .obtain⟨v,r,rfl,⟨a,x,rfl,g,d⟩,e⟩:=i
  cases (show r=[] from e)
  exact⟨a,x,rfl,.inl g,b (aq.full u h.1 d) h.2⟩
 .obtain⟨v,r,rfl,⟨a,x,rfl,g,d⟩,e⟩:=i
  cases (show r=[] from e)
  exact⟨a,x,rfl,.inl g,b d h⟩
 .exact h.elim
section
variable {X:Cx}{e:Expr}{es:List Expr}{we:WE}{wr wa:WA}{pos p:Pos}
theorem bE (hm:X.mg "len"=none) (ha:PA X [e] (cY X.K wa)) (g:Gl X "len":=by rfl) (he:starEach [e] X.env=(false,eval e X.env)::starEach [] X.env:=by exact aN rfl):PE X (.Call (.Name "len" p) [e] [] pos) (au X.K (dP cL wa)):=
 fj qZ Me hm PySem.boot_len ha g (he:=he) (hpl:=rfl)
theorem eP (hm:X.mg "abs"=none) (ha:PA X [e] (cY X.K wa)) (g:Gl X "abs":=by rfl) (he:starEach [e] X.env=(false,eval e X.env)::starEach [] X.env:=by exact aN rfl):PE X (.Call (.Name "abs" p) [e] [] pos) (au X.K (dP jA wa)):=
 fj BB Mc hm PyProof.Rows.boot_abs ha g (he:=he) (hpl:=rfl)
theorem GQ (hm:X.mg "max"=none) (ha:PA X [e,a] (cY X.K wa)) (g:Gl X "max":=by rfl) (h:X.calm=true:=by rfl) (he:starEach [e,a] X.env=(false,eval e X.env)::starEach [a] X.env:=by exact aN rfl) (hpl:(backTo pos (starEach [a] X.env)).any (·.1)=false:=by exact cm rfl):PE X (.Call (.Name "max" p) [e,a] [] pos) (au X.K (dP ug wa)):=
 fj (zB h) HJ hm PyProof.Rows.boot_max ha g (he:=he) (hpl:=hpl)
theorem xQ (hm:X.mg "min"=none) (ha:PA X [e,a] (cY X.K wa)) (g:Gl X "min":=by rfl) (h:X.calm=true:=by rfl) (he:starEach [e,a] X.env=(false,eval e X.env)::starEach [a] X.env:=by exact aN rfl) (hpl:(backTo pos (starEach [a] X.env)).any (·.1)=false:=by exact cm rfl):PE X (.Call (.Name "min" p) [e,a] [] pos) (au X.K (dP p9 wa)):=
 fj (zD h) HK hm PyProof.Rows.boot_min ha g (he:=he) (hpl:=hpl)
theorem zJ (hm:X.mg "list"=none) (ha:PA X [e] (cY X.K wa)) (g:Gl X "list":=by rfl) (he:starEach [e] X.env=(false,eval e X.env)::starEach [] X.env:=by exact aN rfl):PE X (.Call (.Name "list" p) [e] [] pos) (au X.K (dP gH wa)):=
 zH ra Aq hm PyProof.Rows.boot_list ha g (he:=he) (hpl:=rfl)
end
def iZ:bf->(Option Int->Prop)->Prop:=λ_ R=>R none
def mu (e:WE):bf->(Option Int->Prop)->Prop:=λa R=>e a λs=>match s with
 | .t (.int i)=>R (some i)
 |_=>False
def yq (K:Frg)(w:bf->(Option Int->Prop)->Prop):TO:=λb H Q=>∃ a R F,Rel K F H b a/\w a R/\∀ a h o,dq F H a h->R o->Q o h
def iz (ts:List T)(lo hi:Option Int):List T:=(ts.drop (HT.sIx ts.length 0 lo)).take (HT.sIx ts.length ts.length hi-HT.sIx ts.length 0 lo)
def xl (lo hi:Option Int)(R:S->Prop):S->Prop
 | .t (.lst a)=>R (.ol (iz a lo hi))
 | .vt (.lst a)=>cI a=true/\R (.ol (iz a lo hi))
 | .ol a=>R (.ol (iz a lo hi))
 |_=>False
def i0 (e:WE)(b h:bf->(Option Int->Prop)->Prop):WE:=λa R=>e a λs=>b a λlo=>h a λhi=>xl lo hi R s
theorem xm (sb:Same F H)(u:f6 F H)(h:xl lo hi R s)(p:f7 K F H s v):∃ g a x,v=.ref a/\cC K H a x/\aq K F g x/\R (.ol (iz g lo hi)):=by
 unfold xl at h
 split at h
 .unfold f7 az at p;obtain⟨a,x,b,d,e⟩:=p;exact⟨_,a,x,b,sb.seq d,e,h⟩
 .unfold f7 az at p;obtain⟨a,x,b,d,e⟩:=p;exact⟨_,a,x,b,d,aq.full u h.1 e,h.2⟩
 .unfold f7 at p;obtain⟨a,x,b,d,e⟩:=p;exact⟨_,a,x,b,d,e,h⟩
 .exact h.elim
theorem GP (h:aq K F ts xs)(lo hi:Option Int):aq K F (iz ts lo hi) (zG xs lo hi):=by
 unfold iz zG;rw[h.length];exact(h.drop _).take _
section
variable {X:Cx}{e:Expr}{we:WE}{lo hi:Option Expr}{wl wh:bf->(Option Int->Prop)->Prop}{pos p2:Pos}
theorem i3:PO X none (yq X.K iZ):=by rintro p s a H Q I ⟨b,R,F,r,h,k⟩;exact Ih p s a H Q I (k F H none r.refl h)
theorem i4 (h:PE X e (au X.K we)):PO X (some e) (yq X.K (mu we)):=λa s g H Q I ⟨b,R,F,r,d,k⟩=>
 Ii h a s g H Q I ⟨b,_,F,r,d,λv b a s e p q=>by
  split at q
  .exact⟨_,p,k b a _ e q⟩
  .exact q.elim⟩
theorem gi (he:PE X e (au X.K we))(g:PO X lo (yq X.K wl))(u:PO X hi (yq X.K wh)):PE X (.Subscript e (.Slice lo hi none p2) pos) (au X.K (i0 we wl wh)):=
 (EY IN he g u).imp <| by rintro b H Q ⟨b,R,F,r,h,k⟩;exact⟨b,_,F,r,h,λv d i s m B q=>⟨b,_,d,r.ext m,q,λd i o i p=>⟨b,_,d,(r.ext m).ext i,p,λp b b b r=>by
  have d:=m.trans (i.trans b);obtain⟨m,a,x,rfl,m,z,y⟩:=xm b.sub b.full r ((B.ext (i.trans b)).val b.sub);refine⟨a,x,rfl,m,λl g=>?_⟩;exact k _ p _ (.ol _) (d.trans (dq.newL _ b.sub b.full g)) ⟨l,_,rfl,aJ d.hh g,aJ b.sub g,aW,GP z _ _⟩ y⟩⟩⟩
end
def eh:S->S
 | .ol a=>.t (.lst a)
 | .t x=>.t x
 | .vt x=>.vt x
def freeze (a:bf):bf:=a.map (Option.map eh)
def setS (i:Nat)(s:S)(a:bf):bf:=match s with
 | .vt x=>(freeze a).set i (some (.t x))
 | .t x=>a.set i (some (.t x))
 | .ol b=>a.set i (some (.ol b))
theorem jU {a:bf}{i:Nat}{s:S}(h:(freeze a)[i]?=some (some s)):∃ u,a[i]?=some (some u)/\s=eh u:=by
 unfold freeze at h;rw[getElem?_map]at h
 cases e:a[i]? with
 |none=>rw[e]at h;cases h
 |some o=>
  rw[e]at h
  cases o with
  |none=>cases h
  |some u=>exact⟨u,rfl,by simpa using h.symm⟩
theorem zR (sb:Same F H):∀ {s:S}{v:V},fi K F H s v->fi K H H (eh s) v
 | .t _,_,h=>az.same sb h
 | .vt _,_,h=>False.elim h
 | .ol _,_,⟨a,xs,h1,_,h3,h4⟩=>by
  show az K H (.lst _) _;unfold az;exact⟨a,xs,h1,cC.of h3,aq.same sb h4⟩
theorem jM (s:S)(ts:List T):eh s≠.ol ts:=by cases s <;> simp[eh]
theorem Rel.freeze {K:Frg}{F H:Hp}{σ:St}{g:bf}(r:Rel K F H σ g):Rel K H H σ (freeze g):=by
 refine⟨Same.refl _,λb o h _=>.inl h,?_,λi s h=>?_,λi j a k d _ d=>?_,r.tab⟩
 .unfold DL.freeze;rw[length_map];exact r.len
 .obtain⟨u,d,rfl⟩:=jU h;obtain⟨v,m,p⟩:=r.slot i u d;exact⟨v,m,zR r.sub p⟩
 .obtain⟨u,_,e⟩:=jU d;exact absurd e.symm (jM u k)
theorem Rel.put (r:Rel K F H σ k)(h:fi K F H s v)(hs:∀ m,s≠.ol m):Rel K F H (σ.set i (some v)) (k.set i (some s)):=by
 refine⟨r.sub,r.full,by rw[length_set,length_set];exact r.len,λj u g=>?_,λj l a m o q b d p=>?_,r.tab⟩
 .by_cases e:i=j
  .subst e;have hi:i<k.length:=by
    rw[getElem?_set]at g;simp at g;exact g.1
   rw[getElem?_set_self hi]at g
   cases g
   exact⟨v,getElem?_set_self (by rw[r.len];exact hi),h⟩
  .rw[getElem?_set_ne e]at g;obtain⟨w,b,d⟩:=r.slot j u g;exact⟨w,by rw[getElem?_set_ne e];exact b,d⟩
 .have x:i≠j:=λe=>by
   subst e;have hi:i<k.length:=by
    rw[getElem?_set]at b;simp at b;exact b.1
   rw[getElem?_set_self hi]at b
   cases b
   exact hs m rfl
  have g:i≠l:=λe=>by
   subst e;have hi:i<k.length:=by
    rw[getElem?_set]at d;simp at d;exact d.1
   rw[getElem?_set_self hi]at d
   cases d
   exact hs o rfl
  rw[getElem?_set_ne x]at b p;rw[getElem?_set_ne g]at d ⊢;exact r.dist j l a m o q b d p
theorem Rel.putOl (r:Rel K F H σ k)(e:dq F H y H')(I:H a=none)(J:y a=none)(L:H' a=some (.lst xs))(M:aq K y ts xs) :
  Rel K y H' (σ.set i (some (.ref a))) (k.set i (some (.ol ts))):=by
 have x:=r.ext e;have o:∀ (j:Nat) (m:List T) (b:Addr),k[j]?=some (some (.ol m))->σ[j]?=some (some (.ref b))->b≠a:=λj m b g d z=>by
  obtain⟨v,B,c,h,C,p,p,_⟩:=r.slot j _ g;rw[d]at B
  cases B
  cases C
  rw[z,I]at p
  cases p
 refine⟨x.sub,x.full,by rw[length_set,length_set];exact r.len,λj u h=>?_,λj l b m D E g d p=>?_,x.tab⟩
 .by_cases z:i=j
  .subst z;have hi:i<k.length:=by
    rw[getElem?_set]at h;simp at h;exact h.1
   rw[getElem?_set_self hi]at h
   cases h
   exact⟨_,getElem?_set_self (by rw[r.len];exact hi),a,xs,rfl,J,L,M⟩
  .rw[getElem?_set_ne z]at h;obtain⟨w,B,C⟩:=x.slot j u h;exact⟨w,by rw[getElem?_set_ne z];exact B,C⟩
 .by_cases z:i=j
  .subst z;have hi:i<k.length:=by
    rw[getElem?_set]at g;simp at g;exact g.1
   rw[getElem?_set_self (by rw[r.len];exact hi)]at p
   cases p
   rw[getElem?_set_ne E]at d ⊢;exact λq=>o l D a d q rfl
  .rw[getElem?_set_ne z]at g p
   by_cases h:i=l
   .subst h;have hi:i<k.length:=by
     rw[getElem?_set]at d;simp at d;exact d.1
    rw[getElem?_set_self (by rw[r.len];exact hi)]
    intro q
    cases q
    exact o j m a g p rfl
   .rw[getElem?_set_ne h]at d ⊢;exact r.dist j l b m D E g d p
theorem Rel.setS (i:Nat)(r:Rel K F H σ d)(e:dq F H b H')(p:dw K H b H' s v):∃ g,Same F g/\Rel K g H' (σ.set i (some v)) (setS i s d):=by
 cases s with
 |t x=>exact⟨b,e.ff,(r.ext e).put (s:=.t x) p (λ_ z=>by cases z)⟩
 |vt x=>exact⟨H',e.ff.trans e.sub,(r.ext e).freeze.put (s:=.t x) p (λ_ z=>by cases z)⟩
 |ol g=>
  obtain⟨a,g,rfl,h,g,k,m⟩:=p;exact⟨b,e.ff,r.putOl e h g k m⟩
theorem Rel.thaw (r:Rel K F H σ d)(ex:dq F H b h)(p:dw K H b h (.ol ts) v) :
  Rel K (grow b H h none) h σ d/\Same F (grow b H h none)/\∃ a x,v=.ref a/\cC K (grow b H h none) a x/\aq K (grow b H h none) ts x:=by
 obtain⟨e,sz⟩:=ex.frozen r.sub;refine⟨r.ext e,e.ff,?_⟩;obtain⟨a,x,rfl,e,g,g,i⟩:=p;refine⟨a,x,rfl,cC.of ?_,aq.same sz i⟩;unfold grow;rw[if_pos (by rw[e];rfl),if_neg (by simp)]
 exact g
def br:WS:=λD a=>D.nx a
def aG (w u:WS):WS:=λD a=>w {D with nx:=u D} a
def cq (w u:WS):WS:=λD a=>∃ M:bf->Prop,w {D with nx:=M} a/\∀ a,M a->u D a
def aP (i:Nat)(e:WE):WS:=λD a=>e a λs=>D.nx (setS i s a)
def f5 (c:WT)(w u:WS):WS:=λD a=>c a λk=>if k=true then w D a else u D a
def out:S->S
 | .vt x=>.t x
 | .t x=>.t x
 | .ol a=>.ol a
def bh (e:WE):WS:=λD a=>e a λs=>D.rt (out s)
def jQ (i:Nat):WS:=λD a=>match a[i]? with
 |some (some s)=>D.rt s
 |_=>False
def P3:WS:=λD _=>D.rt (.t .non)
def Nk:WS:=λD a=>D.bk a
def P1:WS:=λD a=>D.ct a
def vn (e:WE):WS:=λD a=>e a λ_=>D.nx a
def l6:WS:=λ_ _=>False
def tG (c:WT)(d:WS):WS:=λD b=>∃ I:Nat->bf->Prop,(∃ n,I n b)/\∀ n b,I n b->c b λk=>if k=true then d {nx:=λa=>∃ m,m<n/\I m a,rt:=D.rt,bk:=D.nx,ct:=λa=>∃ m,m<n/\I m a} b else D.nx b
abbrev WG:=T->bf->(bf->Prop)->Prop
def wt (g:WG)(d:WS):List T->nt->bf->Prop
 | [],D,e=>D.nx e
 |x::r,D,e=>g x e λb=>d {nx:=λa=>wt g d r D a,rt:=D.rt,bk:=D.nx,ct:=λa=>wt g d r D a} b
abbrev WI:=bf->(List T->bf->Prop)->Prop
def wq (g:WG)(d:WS)(ts:List T)(D:nt)(a:bf):Prop:=∃ I:List T->bf->Prop,I ts a/\(∀ a,I [] a->D.nx a)/\∀ x r a,I (x::r) a->g x a λb=>d {nx:=I r,rt:=D.rt,bk:=D.nx,ct:=I r} b
theorem G3 (h:wt g b ts D a):wq g b ts D a:=⟨λr a=>wt g b r D a,h,λ_ h=>h,λ_ _ _ h=>h⟩
def h7 (i:WI)(g:WG)(d:WS):WS:=λD a=>i a λb a=>wq g d b D a
def aQ (i:Nat):WG:=λt a R=>R (a.set i (some (.t t)))
def qM (g:List T->bf->(bf->Prop)->Prop):WG:=λt b R=>match t with
 | .tup a=>g a b R
 |_=>False
def mv:List T->bf->(bf->Prop)->Prop:=λa b R=>match a with
 | []=>R b
 |_=>False
def ea (g:WG)(d:List T->bf->(bf->Prop)->Prop):List T->bf->(bf->Prop)->Prop:=λa b R=>match a with
 |t::r=>g t b λa=>d r a R
 | []=>False
def IX (g:WG)(a:bf)(N:bf->Prop):S->Prop
 | .t t=>g t a N
 | .vt t=>g t (freeze a) N
 | .ol b=>g (.lst b) a N
def FI (e:WE)(g:WG):WS:=λD a=>e a λs=>IX g a D.nx s
def Nm (i j:Nat)(b:WA):WS:=λD a=>b a λd=>match d with
 | [.t x,.t y]=>D.nx ((a.set i (some (.t x))).set j (some (.t y)))
 |_=>False
def e5 (i:Nat)(e:WE):WS:=λD a=>match a[i]? with
 |some (some (.ol ts))=>e a λs=>match s with
  | .t x=>ts.length<100000/\D.nx (a.set i (some (.ol (ts++[x]))))
  |_=>False
 |_=>False
def IZ (i:Nat):WS:=λD a=>match a[i]? with
 |some (some (.ol ts))=>ts≠[]/\D.nx (a.set i (some (.ol ts.dropLast)))
 |_=>False
def tF (i:Nat)(e wv:WE):WS:=λD a=>match a[i]? with
 |some (some (.ol ts))=>wv a λv=>e a λs=>match v,s with
  | .t x,.t (.int k)=>match su ts.length k with
   |some j=>D.nx (a.set i (some (.ol (ts.set j x))))
   |none=>False
  |_,_=>False
 |_=>False
section
variable {X:Cx}{st:Stmt}{rest:List Stmt}{w u:WS}{e:Expr}{we:WE}{pos:Pos}{H₀:Hp}
theorem aK:ki X [] (bK X.K H₀ br):=Il.imp <| by rintro D a H ⟨b,d,F,_,r,h,ok⟩;exact ok.nx a F H b (Same.refl _) r h
theorem aj (g:PS X st (bK X.K H₀ w))(i:ki X rest (bK X.K H₀ u)):ki X (st::rest) (bK X.K H₀ (aG w u)):=
 (uY g i).imp <| by rintro D a H ⟨a,k,F,s0,r,h,ok⟩;exact⟨a,_,F,s0,r,h,⟨λa d a a ff r b=>⟨a,k,d,s0.trans ff,r,b,ok.mono ff⟩,ok.rt,ok.bk,ok.ct⟩⟩
theorem aR (g:PS X st (bK X.K H₀ w))(i:ki X rest (bK X.K H₀ u)):ki X (st::rest) (bK X.K H₀ (cq w u)):=
 (uY g i).imp <| by rintro D a H ⟨a,k,F,s0,r,⟨M,h,m⟩,ok⟩;exact⟨a,_,F,s0,r,h,⟨λa d a a ff r b=>⟨a,k,d,s0.trans ff,r,m a b,ok.mono ff⟩,ok.rt,ok.bk,ok.ct⟩⟩
theorem am (h:PS X st (bK X.K H₀ w)):ki X [st] (bK X.K H₀ w):=Im h
theorem iB:PS X st (bK X.K H₀ l6):=E6.imp <| by rintro D a H ⟨a,d,F,_,r,h,ok⟩;exact h
theorem aw (o:X.N.Nodup)(he:PE X e (au X.K we))(hi:X.N[i]?=some x:=by rfl)(b:Loc X.env.scope x:=by first|exact Or.inl rfl|exact Or.inr rfl)(hs:swapsWith e (some (.Name x a)) pos.line X.env=pure false:=by rfl)(m:X.fn x=true\/X.env.scope.names.lookup x=some .local:=by first|exact .inl rfl|exact .inr rfl|assumption) :
  PS X (.Assign [.Name x a] e pos) (bK X.K H₀ (aP i we)):=
 (MH o hi b he hs m).imp <| by rintro D B H ⟨g,C,F,s0,r,h,ok⟩;exact⟨g,_,F,r,h,λv z d s e p q=>by
  obtain⟨y,ff,k⟩:=r.setS i e p;exact ok.nx _ y d _ ff k q⟩
theorem bB (m:PT X c (liftT X.K t))(ha:ki X a (bK X.K H₀ w))(hb:ki X b (bK X.K H₀ u)):PS X (.If c a b pos) (bK X.K H₀ (f5 t w u)):=
 (Ps m ha hb).imp <| by rintro D d H ⟨d,i,F,s0,r,h,ok⟩;exact⟨d,_,F,r,h,λg o k e q=>by
  cases k with
  |true=>exact⟨d,i,g,s0.trans e.ff,r.ext e,by simpa using q,ok.mono e.ff⟩
  |false=>exact⟨d,i,g,s0.trans e.ff,r.ext e,by simpa using q,ok.mono e.ff⟩⟩
theorem Fi (s0:Same H₀ H)(e:dq F H d b):∀ {s:S}{v:V},dw K H d b s v->Bb K H₀ b (out s) v
 | .t _,_,h=>az.same e.sub h
 | .vt _,_,h=>h
 | .ol _,_,⟨a,xs,h1,h2,_,h3,h4⟩=>⟨a,xs,h1,aJ s0 h2,h3,aq.same e.sub h4⟩
theorem aC (he:PE X e (au X.K we)):PS X (.Return (some e) pos) (bK X.K H₀ (bh we)):=
 (xc he).imp <| by rintro D a H ⟨a,d,F,s0,r,h,ok⟩;exact⟨a,_,F,r,h,λv a a s e p q=>ok.rt v a _ ((s0.trans r.sub).trans e.hh) (r.ext e).tab (Fi (s0.trans r.sub) e p) q⟩
theorem Fs (s0:Same H₀ F)(sb:Same F H):∀ {s:S}{v:V},fi K F H s v->Bb K H₀ H s v
 | .t _,_,h=>az.same sb h
 | .vt _,_,h=>False.elim h
 | .ol _,_,⟨a,xs,h1,h2,h3,h4⟩=>⟨a,xs,h1,aJ s0 h2,h3,aq.same sb h4⟩
def FH (we:WE):WS:=λD a=>we (freeze a) λs=>D.rt (out s)
theorem GW (he:PE X e (au X.K we)):PS X (.Return (some e) pos) (bK X.K H₀ (FH we)):=
 (xc he).imp <| by rintro D a H ⟨a,d,F,s0,r,h,ok⟩;exact⟨freeze a,_,H,r.freeze,h,λv a a s e p q=>ok.rt v a _ ((s0.trans r.sub).trans e.hh) (r.freeze.ext e).tab (Fi (s0.trans r.sub) e p) q⟩
theorem gE (he:PE X e (vg i)):PS X (.Return (some e) pos) (bK X.K H₀ (jQ i)):=
 (xc he).imp λD m H ⟨g,k,F,s0,r,h,ok⟩=>by
  unfold jQ at h
  split at h
  .rename_i s a;obtain⟨v,b,d⟩:=r.slot i s a;exact⟨v,b,ok.rt v H s (s0.trans r.sub) r.tab (Fs s0 r.sub d) h⟩
  .exact h.elim
theorem ry (he:PE X e (au X.K we))(hs:swapsWith e none pos.line X.env=pure false:=by rfl):PS X (.Expr e pos) (bK X.K H₀ (vn we)):=
 (kK he hs).imp <| by rintro D g H ⟨a,d,F,s0,r,h,ok⟩;exact⟨a,_,F,r,h,λv d b s e p q=>ok.nx g d b a e.ff (r.ext e) q⟩
theorem nM (E:PassesOwn (model X.prog X.w) X.A X.env X.xe)(L:PT X c (liftT X.K t))(hb:ki X y (bK X.K H₀ B)):PS X (.While c y [] pos) (bK X.K H₀ (tG t B)):=
 (E7 E L hb).imp λD z H ⟨d,p,F,s0,x,⟨I,⟨n,h⟩,step⟩,ok⟩=>by
  refine⟨λm z H=>∃ d a,Same F a/\Rel X.K a H z d/\I m d,⟨n,d,F,Same.refl _,x,h⟩,?_⟩;rintro m z H ⟨d,a,v,x,h⟩;refine⟨d,_,a,x,step m d h,λC J k e q=>?_⟩
  cases k with
  |true=>
   refine⟨λb i=>∃ d a j,j<m/\Same F a/\Rel X.K a i b d/\I j d,λb i ⟨a,g,j,o,r,M,O⟩=>⟨j,o,a,g,r,M,O⟩,?_⟩;refine⟨d,{nx:=λa=>∃ j,j<m/\I j a,rt:=p.rt,bk:=p.nx,ct:=λa=>∃ j,j<m/\I j a},C,(s0.trans v).trans e.ff,x.ext e,by simpa using q,⟨λb g i a ff r ⟨j,o,p⟩=>⟨a,g,j,o,(v.trans e.ff).trans ff,r,p⟩,ok.rt,λb g i a ff r p=>ok.nx b g i a ((v.trans e.ff).trans ff) r p,λb g i a ff r ⟨j,o,p⟩=>⟨a,g,j,o,(v.trans e.ff).trans ff,r,p⟩⟩⟩
  |false=>exact ok.nx z C J d (v.trans e.ff) (x.ext e) (by simpa using q)
end
def kF (K:Frg)(g:WG):TG:=λv b H Q=>∃ t a R F,az K F t v/\Rel K F H b a/\g t a R/\∀ a b,Rel K F H a b->R b->Q a H
def sA (K:Frg)(g:List T->bf->(bf->Prop)->Prop):Kc:=λv d H Q=>∃ a b R F,aq K F a v/\Rel K F H d b/\g a b R/\∀ a b,Rel K F H a b->R b->Q a H
section
variable {X:Cx}{pos:Pos}{H₀:Hp}
theorem aI (d:X.N.Nodup)(hi:X.N[i]?=some x:=by rfl)(a:Loc X.env.scope x:=by first|exact Or.inl rfl|exact Or.inr rfl)(b:X.fn x=true\/X.env.scope.names.lookup x=some .local:=by first|exact .inl rfl|exact .inr rfl|assumption):PG X (.Name x pos) (kF X.K (aQ i)):=
 (Idq d hi a b).imp <| by rintro v g H Q ⟨t,e,R,F,p,r,h,k⟩;exact k _ _ (r.put (s:=.t t) p (λ_ z=>by cases z)) h
theorem rs:A8 X [] (sA X.K mv):=Ie.imp λv σ H Q ⟨ts,δ,R,F,p,rl,h,k⟩=>by
 unfold mv at h
 split at h
 .cases (show v=[] from p)
  exact⟨rfl,k σ δ rl h⟩
 .exact h.elim
theorem eF (y:PG X e (kF X.K g))(C:A8 X es (sA X.K d))
  (hs:(assignEach (e::es) X.env).map (·.2)=assign e X.env::(assignEach es X.env).map (·.2):=by rfl):A8 X (e::es) (sA X.K (ea g d)):=
 (E1 y C hs).imp λv I H Q ⟨E,o,R,F,p,D,h,k⟩=>by
  unfold ea at h
  split at h
  .rename_i t r;obtain⟨x,m,z,u,B⟩:=p;exact⟨x,m,z,t,o,_,F,u,D,h,λq b a i=>⟨r,b,R,F,B,a,i,k⟩⟩
  .exact h.elim
theorem v9 (h:A8 X es (sA X.K g))(y:∀ b d R,g b d R->b.length=n)(o:X.calm=true:=by rfl)
  (m:(assignEach es X.env).length=n:=by rfl) (e:(assignEach es X.env).findIdx? (·.1)=none:=by rfl):PG X (.Tuple es k pos) (kF X.K (qM g)):=
 (MA o h m e).imp λv z H Q ⟨t,d,R,F,p,r,h,k⟩=>by
  unfold qM at h
  split at h
  .rename_i b;obtain⟨a,x,u,q,i⟩:=p;exact⟨a,x,u,Same.sqT r.sub a x q,by rw[i.length];exact y b d R h,b,d,R,F,i,r,h,k⟩
  .exact h.elim
theorem sx:∀ a b R,mv a b R->a.length=0:=λa b R h=>by
 unfold mv at h
 split at h
 .rfl
 .exact h.elim
theorem eG (r:∀ a b R,g a b R->a.length=n):∀ a b R,ea (aQ i) g a b R->a.length=n+1:=λa b R h=>by
 unfold ea at h
 split at h
 .rw[length_cons,r _ _ _ h]
 .exact h.elim
theorem BO (he:PE X e (au X.K x))(B:PG X d (kF X.K g))(hs:swapsWithSole [d] e pos.line X.env=pure false:=by rfl)(C:swappedStores [d] e X.env=pure none:=by rfl)
  (E:(assignEach [d] X.env).map (·.2)=[assign d X.env]:=by rfl):PS X (.Assign [d] e pos) (bK X.K H₀ (FI x g)):=
 (E5 he B hs C E).imp <| by rintro D a H ⟨m,a,F,s0,o,h,ok⟩;exact⟨m,_,F,o,h,λv u i s e p q=>by
  cases s with
  |t t=>exact⟨t,m,_,u,p,o.ext e,q,λa b r k=>ok.nx a u i b e.ff r k⟩
  |vt t=>exact⟨t,freeze m,_,i,p,(o.ext e).freeze,q,λa b r k=>ok.nx a i i b (e.ff.trans e.sub) r k⟩
  |ol z=>
   obtain⟨u,y⟩:=o.thaw e p;refine⟨.lst z,m,_,_,?_,u,q,λa b r k=>ok.nx a _ i b y.1 r k⟩;unfold az;exact y.2⟩
theorem Lh {k r d}(hN:X.N.Nodup)(ha:PA X [a,b] (cY X.K v))(hi:X.N[i]?=some x:=by rfl)(C:X.N[j]?=some y:=by rfl)(m:i≠j:=by decide)
  (E:X.env.scope.names.lookup x=some .local:=by rfl) (Z:X.env.scope.names.lookup y=some .local:=by rfl)
  (J:swappedStores [.Tuple [.Name x o,.Name y g] k pt] (.Tuple [a,b] r d) X.env=pure (some [x,y]):=by rfl) (O:X.calm=true:=by rfl)
  (hs:swapsWithSole [.Tuple [.Name x o,.Name y g] k pt] (.Tuple [a,b] r d) pos.line X.env=pure false:=by rfl) :
  PS X (.Assign [.Tuple [.Name x o,.Name y g] k pt] (.Tuple [a,b] r d) pos) (bK X.K H₀ (Nm i j v)):=
 (MG O hN hi C m E Z ha J hs).imp <| by rintro D σ H ⟨Y,D',F,s0,B,h,ok⟩;exact⟨Y,_,F,B,h,λvs P M ss e p q=>by
  split at q
  .rename_i t u;obtain⟨W,r1,L,p1,U,r2,I,Q,R⟩:=p
   cases (show r2=[] from R)
   exact⟨W,U,by rw[L,I],ok.nx _ P M _ e.ff (((B.ext e).put (i:=i) (s:=.t t) p1 (λ_ z=>by cases z)).put (i:=j) (s:=.t u) Q (λ_ z=>by cases z)) q⟩
  .exact q.elim⟩
end
def A5 (K:Frg)(F:Hp)(J:It)(ts:List T):Prop:=
 ∀ a h i,Same F a->Same a h->f6 a h->(∀ t,ts[i]?=some t->J.go i h/\∀ x b,J.yld i h x b->∃ d,dq a h d b/\az K d t x)/\(ts.length<=i->J.stop i h)
def mn (K:Frg)(w:WI):TI:=λe H R=>∃ a W F,Rel K F H e a/\w a W/\∀ J g b h d a,dq F H g h->Same g b->Rel K b h e a->A5 K b J d->W d a->R J h
theorem ue {α:Type}{l:List α}{i:Nat}{x:α}{r:List α}(h:l.drop i=x::r):l[i]?=some x/\l.drop (i+1)=r:=by
 constructor
 .rw[<-List.head?_drop,h];rfl
 .rw[<-List.tail_drop,h];rfl
section
variable {X:Cx}{pos:Pos}{H₀:Hp}{tg:Expr}
theorem cK {k:Expr}{u:List Stmt}{U:WI}{g:WG}{R:WS}(Y:PassesOwn (model X.prog X.w) X.A X.env X.xe)(hi:PI X tg k (mn X.K U))(hg:PG X tg (kF X.K g))(hb:ki X u (bK X.K H₀ R))(Z:X.calm=true:=by rfl)
  (hs:∀ x,foldedSetIterable k X.env x=pure x:=by intro _;rfl):PS X (.For tg k u [] pos) (bK X.K H₀ (h7 U g R)):=
 (MF Y Z hi hg hb hs).imp <| by rintro D o H ⟨d,a,F,s0,M,h,ok⟩;exact⟨d,_,F,M,h,λJ a E a e a p b z I q=>by
  have Q:Same F E:=p.ff.trans b;obtain⟨W,B,b,C⟩:=q;refine⟨λi m o H=>m=e.length-i/\i<=e.length/\∃ d p,Same E p/\Rel X.K p H o d/\W (e.drop i) d,⟨e.length,by simp,zero_le _,a,E,Same.refl _,z,by simpa using B⟩,?_⟩
  rintro i m o H ⟨rfl,hi,d,p,L,M,h⟩;obtain⟨z,a⟩:=I p H i L M.sub M.full
  cases hd:e.drop i with
  |nil=>
   rw[hd]at h;have:e.length<=i:=by simpa using hd
   exact .inl ⟨a this,ok.nx o p H d (Q.trans L) M (b d h)⟩
  |cons x r=>
   rw[hd]at h;obtain⟨a,h2⟩:=ue hd;obtain⟨go,yld⟩:=z x a;have P:i<e.length:=by
    have:=congrArg List.length hd;simp at this;omega
   have z:∀ a I B b,Same E I->Rel X.K I B a b->W r b->∃ o,o<e.length-i/\(o=e.length-(i+1)/\i+1<=e.length/\∃ d p,Same E p/\Rel X.K p B a d/\W (e.drop (i+1)) d):=
    λa I B b ff o O=>⟨e.length-(i+1),by omega,rfl,P,b,I,ff,o,by rw[h2];exact O⟩
   refine .inr ⟨go,λa B=>∃ d p,Same E p/\Rel X.K p B a d/\W r d,by rintro a B ⟨b,I,ff,o,O⟩;exact z a I B b ff o O,λv p y=>?_⟩
   obtain⟨e,z,B⟩:=yld v p y;refine⟨x,d,_,e,B,M.ext z,C x r d h,λa b o O=>?_⟩;exact⟨b,_,e,((s0.trans Q).trans L).trans z.ff,o,O,⟨λo d p a ff b e=>⟨a,d,(L.trans z.ff).trans ff,b,e⟩,ok.rt,λo d p a ff b e=>ok.nx o d p a (((Q.trans L).trans z.ff).trans ff) b e,λo d p a ff b e=>⟨a,d,(L.trans z.ff).trans ff,b,e⟩⟩⟩⟩
def ql (b:bf)(W:List T->bf->Prop):S->Prop
 | .t (.lst a)=>W a b
 | .vt (.lst a)=>W a (freeze b)
 | .ol a=>W a b
 |_=>False
def bT (e:WE):WI:=λa W=>e a λs=>ql a W s
theorem sr (h:cC K F a xs)(r:aq K F ts xs):A5 K F (Qm K a) ts:=by
 intro k b i d sb u;have q:cC K b a xs:=sb.seq (d.seq h);refine⟨λt b=>?_,λg=>⟨xs,q,by rw[r.length];exact g⟩⟩
 obtain⟨x,g,m⟩:=r.get b;refine⟨⟨xs,x,q,g⟩,λy b b=>?_⟩;obtain⟨e,b⟩:=b;subst e;have:=b xs q;rw[g]at this
 cases this
 exact⟨k,dq.refl sb u,az.same d m⟩
end
mutual
def eqT:T->T->Bool
 | .non,.non=>true
 | .bl a,.bl b=>a == b
 | .bl a,.int b=>(if a then 1 else 0) == b
 | .int a,.bl b=>a == (if b then 1 else 0)
 | .int a,.int b=>a == b
 | .str a,.str b=>a == b
 | .tup a,.tup b=>cH a b
 | .lst a,.lst b=>cH a b
 |_,_=>false
def cH:List T->List T->Bool
 | [],[]=>true
 |a::r,b::s=>eqT a b && cH r s
 |_,_=>false
end
mutual
def dep:T->Nat
 | .tup a=>gj a+1
 | .lst a=>gj a+1
 | .exc _=>1000
 |_=>0
def gj:List T->Nat
 | []=>0
 |t::r=>max (dep t) (gj r)
end
mutual
theorem nU:∀ t:T,dep t<1000->eqT t t=true
 | .non,_=>rfl
 | .bl b,_=>by simp[eqT]
 | .int i,_=>by simp[eqT]
 | .str x,_=>by simp[eqT]
 | .tup ts,h=>by simp only[eqT];exact lG ts (by simp only[dep]at h;ext)
 | .lst ts,h=>by simp only[eqT];exact lG ts (by simp only[dep]at h;ext)
 | .exc _,h=>by simp[dep]at h
theorem lG:∀ a:List T,gj a<1000->cH a a=true
 | [],_=>by simp[cH]
 |t::r,h=>by
  simp only[gj]at h;simp only[cH,nU t ⋯,lG r ⋯];rfl
end
section
variable {X:Cx}{pins:List (Addr × Obj)}{σ:St}{H:Hp}{s:Shared}
theorem uy (I:aE X pins σ H s)(h:jy X.K H a xs)(g:cC X.K H a ys):False:=by
 obtain⟨i,_,p,_⟩:=I.tuple h;obtain⟨i,_,b,_⟩:=I.list g;exact SeqAt.ne_of_list_tuple b.isList p rfl
mutual
theorem az.inj (I:aE X pins σ H s):∀ (t u:T) (v:V),dep t<1000->dep u<1000->az X.K H t v->az X.K H u v->t=u
 | .non,u,v,_,_,h,g=>by cases (show v=_ from h);cases u with
  |non=>rfl
  |tup d=>unfold az at g;obtain⟨_,_,e,_⟩:=g;cases e
  |lst d=>unfold az at g;obtain⟨_,_,e,_⟩:=g;cases e
  |exc c=>unfold az at g;obtain⟨_,_,e,_⟩:=g;cases e
  |_=>cases g
 | .bl b,u,v,_,_,h,g=>by cases (show v=_ from h);cases u with
  |bl c=>cases g;rfl
  |tup d=>unfold az at g;obtain⟨_,_,e,_⟩:=g;cases e
  |lst d=>unfold az at g;obtain⟨_,_,e,_⟩:=g;cases e
  |exc c=>unfold az at g;obtain⟨_,_,e,_⟩:=g;cases e
  |_=>cases g
 | .int b,u,v,_,_,h,g=>by cases (show v=_ from h);cases u with
  |int c=>cases g;rfl
  |tup d=>unfold az at g;obtain⟨_,_,e,_⟩:=g;cases e
  |lst d=>unfold az at g;obtain⟨_,_,e,_⟩:=g;cases e
  |exc c=>unfold az at g;obtain⟨_,_,e,_⟩:=g;cases e
  |_=>cases g
 | .str b,u,v,_,_,h,g=>by cases (show v=_ from h);cases u with
  |str c=>cases g;rfl
  |tup d=>unfold az at g;obtain⟨_,_,e,_⟩:=g;cases e
  |lst d=>unfold az at g;obtain⟨_,_,e,_⟩:=g;cases e
  |exc c=>unfold az at g;obtain⟨_,_,e,_⟩:=g;cases e
  |_=>cases g
 | .tup d,u,v,d1,d2,h,g=>by
  unfold az at h;obtain⟨a,x,e,o,p⟩:=h;subst e
  cases u with
  |tup m=>
   unfold az at g;obtain⟨b,y,e,i,k⟩:=g
   cases e
   have:=I.tuple_inj o i;subst this;rw[aq.inj I d m x (by simp only[dep]at d1;ext) (by simp only[dep]at d2;ext) p k]
  |lst m=>
   unfold az at g;obtain⟨b,y,e,i,k⟩:=g
   cases e
   exact(uy I o i).elim
  |exc c=>simp[dep]at d2
  |_=>cases g
 | .lst d,u,v,d1,d2,h,g=>by
  unfold az at h;obtain⟨a,x,e,o,p⟩:=h;subst e
  cases u with
  |lst m=>
   unfold az at g;obtain⟨b,y,e,i,k⟩:=g
   cases e
   have:=I.list_inj o i;subst this;rw[aq.inj I d m x (by simp only[dep]at d1;ext) (by simp only[dep]at d2;ext) p k]
  |tup m=>
   unfold az at g;obtain⟨b,y,e,i,k⟩:=g
   cases e
   exact(uy I i o).elim
  |exc c=>simp[dep]at d2
  |_=>cases g
 | .exc _,_,_,d1,_,_,_=>by simp[dep]at d1
theorem aq.inj (I:aE X pins σ H s):∀ (ts us:List T) (xs:List V),gj ts<1000->gj us<1000->aq X.K H ts xs->aq X.K H us xs->ts=us
 | [],us,xs,_,_,h,g=>by
  cases (show xs=[] from h)
  cases us with
  |nil=>rfl
  |cons u us=>obtain⟨_,_,e,_⟩:=g;cases e
 |t::ts,us,xs,d1,d2,⟨x,r,e,h1,h2⟩,g=>by
  subst e
  cases us with
  |nil=>cases (show _=[] from g)
  |cons u us=>
   obtain⟨y,r',e,g1,g2⟩:=g
   cases e
   simp only[gj]at d1 d2;rw[az.inj I t u x ⋯ ⋯ h1 g1,aq.inj I ts us r ⋯ ⋯ h2 g2]
end
def mB (ts us:List T)(j:Nat):Bool:=match ts[j]?,us[j]? with
 |some a,some b=>eqT a b
 |_,_=>true
theorem oF (n:Nat)(e:Nat->Bool):(List.range (n+1)).all e=(e 0 && (List.range n).all λj=>e (j+1)):=by
 rw[range_succ_eq_map,List.all_cons,List.all_map];rfl
theorem nV:∀ (b a:List T),((List.range (min b.length a.length)).all (mB b a) && b.length == a.length)=cH b a
 | [],[]=>by simp[cH]
 | [],u::a=>by simp[cH]
 |t::b,[]=>by simp[cH]
 |t::b,u::a=>by
  have h:=nV b a;have e:min (t::b).length (u::a).length=min b.length a.length+1:=by simp only[length_cons];ext
  rw[e,oF];have d:mB (t::b) (u::a) 0=eqT t u:=by simp[mB]
  have e:(λj=>mB (t::b) (u::a) (j+1))=mB b a:=by funext j;simp[mB]
  have g:((t::b).length == (u::a).length)=(b.length == a.length):=by simp
  rw[d,e,g];simp only[cH];rw[<-h,Bool.and_assoc]
theorem units_in1 (A:Around):A.in1.units=A.units+1:=rfl
theorem uc:∀ {ts:List T}{j:Nat}{t:T},ts[j]?=some t->dep t<=gj ts
 | [],_,_,h=>by simp at h
 |t::ts,0,u,h=>by simp at h;subst h;simp only[gj];ext
 |t::ts,j+1,u,h=>by
  have:=uc (ts:=ts) (j:=j) (t:=u) (by simpa using h)
  simp only[gj];ext
theorem sK (b:aq X.K H ts xs)(h:aq X.K H us ys)(k:aT xs its)(r:aT ys i)
  (B:∀ t u o v e m,t∈ts->u∈us->az X.K H t o->az X.K H u v->RelV o e->RelV v m->SeqAt.EqAt A s e m (eqT t u)) :
  ∀ j (b:j<its.toArray.size) (h:j<i.toArray.size),SeqAt.EqAt A s its.toArray[j] i.toArray[j] (mB ts us j):=by
 intro j e q;have a:=b.length;have a:=h.length;have a:=k.length;have a:=r.length;rw[size_toArray]at e q;have a:j<ts.length:=⋯
 have g:j<us.length:=⋯
 obtain⟨x,m,v⟩:=b.get (List.getElem?_eq_getElem a);obtain⟨y,z,C⟩:=h.get (List.getElem?_eq_getElem g);obtain⟨d,o,p⟩:=k.get m;obtain⟨m,D,E⟩:=r.get z;have z:its.toArray[j]=d:=by
  have:=List.getElem?_eq_getElem e;rw[o]at this;simpa using (Option.some.inj this).symm
 have e:i.toArray[j]=m:=by
  have:=List.getElem?_eq_getElem q;rw[D]at this;simpa using (Option.some.inj this).symm
 have o:mB ts us j=eqT ts[j] us[j]:=by
  unfold mB;rw[List.getElem?_eq_getElem a,List.getElem?_eq_getElem g]
 rw[z,e,o];exact B _ _ x y d m (getElem_mem a) (getElem_mem g) v C p E
theorem gN (h:t∈ts):dep t<=gj ts:=by
 obtain⟨j,a,rfl⟩:=List.mem_iff_getElem.mp h;exact uc (List.getElem?_eq_getElem a)
theorem wj (h:ts.length=us.length):(List.range ts.length).all (mB ts us)=cH ts us:=by
 have:=nV ts us;rw[<-h]at this;simpa using this
theorem uf:∀ {ts us:List T},ts.length≠us.length->cH ts us=false
 | [],[],h=>absurd rfl h
 | [],_::_,_=>by simp[cH]
 |_::_,[],_=>by simp[cH]
 |t::ts,u::us,h=>by
  simp only[cH];rw[uf (ts:=ts) (us:=us) (by simpa using h),Bool.and_false]
theorem PF (d:aq X.K H ts xs)(g:aq X.K H us ys)(k:aT xs its)(q:aT ys i)(pl:PyProof.Rows.IsTup s.heap a its.toArray)(p:PyProof.Rows.IsTup s.heap b i.toArray)(h:A.units<cLine)
  (x:∀ t u o v m r,t∈ts->u∈us->az X.K H t o->az X.K H u v->RelV o m->RelV v r->SeqAt.EqAt A.in1 s m r (eqT t u)) :
  SeqAt.RcAt A s (.ref a) (.ref b) (cH ts us)/\SeqAt.RcNeAt A s (.ref a) (.ref b) (!cH ts us):=by
 have m:=SeqAt.RcAt.tuples (A:=A) (e:=mB ts us) pl p h (sK d g k q x);have o:=SeqAt.RcNeAt.tuples (A:=A) (e:=mB ts us) pl p h (sK d g k q x);rw[size_toArray,size_toArray,<-k.length,<-q.length,d.length,g.length,nV]at m o;exact⟨m,o⟩
theorem PD (o:aq X.K H ts xs)(g:aq X.K H us ys)(B:aT xs its)(q:aT ys i)(pl:PlainL s.heap a its.toArray)(p:PlainL s.heap b i.toArray)(h:A.units<cLine)
  (C:∀ t u y x v z,t∈ts->u∈us->az X.K H t y->az X.K H u x->RelV y v->RelV x z->SeqAt.EqAt A.in1 s v z (eqT t u)) :
  SeqAt.RcAt A s (.ref a) (.ref b) (cH ts us)/\SeqAt.RcNeAt A s (.ref a) (.ref b) (!cH ts us):=by
 have e:its.toArray.size=ts.length:=by rw[size_toArray,<-B.length,o.length]
 have k:i.toArray.size=us.length:=by rw[size_toArray,<-q.length,g.length]
 by_cases d:ts.length=us.length
 .have r:=sK (A:=A.in1) o g B q C;have m:=SeqAt.RcAt.lists pl.isList p.isList (by rw[e,k,d]) h r
  have g:=SeqAt.RcNeAt.lists pl.isList p.isList (by rw[e,k,d]) h r
  rw[e,wj d]at m g;exact⟨m,g⟩
 .have ne:(its.toArray.size != i.toArray.size)=true:=by rw[e,k];simpa using d
  rw[uf d];exact⟨SeqAt.RcAt.lists_lengths pl.isList p.isList ne h,SeqAt.RcNeAt.lists_lengths pl.isList p.isList ne h⟩
theorem oH (I:aE X pins σ H s):∀ (n:Nat) (A:Around) (t u:T) (z y:V) (q v:Value),dep t<=n->dep u<1000->n<1000->A.units+n<cLine->az X.K H t z->az X.K H u y->RelV z q->RelV y v →
  SeqAt.RcAt A s q v (eqT t u)/\SeqAt.RcNeAt A s q v (!eqT t u)/\SeqAt.EqAt A s q v (eqT t u):=by
 intro n
 induction n with
 |zero=>
  intro A t u z y q v hd g p D B e C r;have h:A.units<cLine:=⋯
  cases t with
  |tup F=>simp only[dep]at hd;ext
  |lst F=>simp only[dep]at hd;ext
  |exc c=>simp[dep]at hd
  |non=>
   cases B;cases C
   cases u with
   |non=>cases e;cases r;exact⟨SeqAt.RcAt.none_none,SeqAt.RcNeAt.none_none,SeqAt.EqAt.same _⟩
   |bl b=>cases e;cases r;exact⟨SeqAt.RcAt.none_bool b,SeqAt.RcNeAt.none_bool b,SeqAt.EqAt.none_bool b⟩
   |int b=>cases e;obtain⟨k,rfl⟩:=r;exact⟨SeqAt.RcAt.none_int b k,SeqAt.RcNeAt.none_int b k,SeqAt.EqAt.none_int b k⟩
   |str b=>cases e;obtain⟨k,rfl⟩:=r;exact⟨SeqAt.RcAt.none_str b k,SeqAt.RcNeAt.none_str b k,SeqAt.EqAt.none_str b k⟩
   |tup o=>
    unfold az at e;obtain⟨a,E,rfl,i,x⟩:=e
    cases r
    obtain⟨m,_,pl,_⟩:=I.tuple i;exact⟨SeqAt.RcAt.none_tuple pl h,SeqAt.RcNeAt.none_tuple pl h,SeqAt.EqAt.none_tuple pl h⟩
   |lst o=>
    unfold az at e;obtain⟨a,E,rfl,i,x⟩:=e
    cases r
    obtain⟨m,_,pl,_⟩:=I.list i;exact⟨SeqAt.RcAt.none_list pl.isList h,SeqAt.RcNeAt.none_list pl.isList h,SeqAt.EqAt.none_list pl.isList h⟩
   |exc c=>simp[dep]at g
  |bl c=>
   cases B;cases C
   cases u with
   |non=>cases e;cases r;exact⟨SeqAt.RcAt.bool_none c,SeqAt.RcNeAt.bool_none c,SeqAt.EqAt.bool_none c⟩
   |bl b=>cases e;cases r;exact⟨SeqAt.RcAt.bool_bool c b,SeqAt.RcNeAt.bool_bool c b,SeqAt.EqAt.bool_bool c b⟩
   |int b=>cases e;obtain⟨k,rfl⟩:=r;exact⟨SeqAt.RcAt.bool_int c b k,SeqAt.RcNeAt.bool_int c b k,SeqAt.EqAt.bool_int c b k⟩
   |str b=>cases e;obtain⟨k,rfl⟩:=r;exact⟨SeqAt.RcAt.bool_str c b k,SeqAt.RcNeAt.bool_str c b k,SeqAt.EqAt.bool_str c b k⟩
   |tup o=>
    unfold az at e;obtain⟨a,E,rfl,i,x⟩:=e
    cases r
    obtain⟨m,_,pl,_⟩:=I.tuple i;exact⟨SeqAt.RcAt.bool_tuple c pl h,SeqAt.RcNeAt.bool_tuple c pl h,SeqAt.EqAt.bool_tuple c pl h⟩
   |lst o=>
    unfold az at e;obtain⟨a,E,rfl,i,x⟩:=e
    cases r
    obtain⟨m,_,pl,_⟩:=I.list i;exact⟨SeqAt.RcAt.bool_list c pl.isList h,SeqAt.RcNeAt.bool_list c pl.isList h,SeqAt.EqAt.bool_list c pl.isList h⟩
   |exc c=>simp[dep]at g
  |int c=>
   cases B;obtain⟨d,rfl⟩:=C
   cases u with
   |non=>cases e;cases r;exact⟨SeqAt.RcAt.int_none c d,SeqAt.RcNeAt.int_none c d,SeqAt.EqAt.int_none c d⟩
   |bl b=>cases e;cases r;exact⟨SeqAt.RcAt.int_bool c d b,SeqAt.RcNeAt.int_bool c d b,SeqAt.EqAt.int_bool c d b⟩
   |int b=>cases e;obtain⟨k,rfl⟩:=r;exact⟨SeqAt.RcAt.int_int c d b k,SeqAt.RcNeAt.int_int c d b k,SeqAt.EqAt.int_int c d b k⟩
   |str b=>cases e;obtain⟨k,rfl⟩:=r;exact⟨SeqAt.RcAt.int_str c d b k,SeqAt.RcNeAt.int_str c d b k,SeqAt.EqAt.int_str c d b k⟩
   |tup o=>
    unfold az at e;obtain⟨a,E,rfl,i,x⟩:=e
    cases r
    obtain⟨m,_,pl,_⟩:=I.tuple i;exact⟨SeqAt.RcAt.int_tuple c d pl h,SeqAt.RcNeAt.int_tuple c d pl h,SeqAt.EqAt.int_tuple c d pl h⟩
   |lst o=>
    unfold az at e;obtain⟨a,E,rfl,i,x⟩:=e
    cases r
    obtain⟨m,_,pl,_⟩:=I.list i;exact⟨SeqAt.RcAt.int_list c d pl.isList h,SeqAt.RcNeAt.int_list c d pl.isList h,SeqAt.EqAt.int_list c d pl.isList h⟩
   |exc c=>simp[dep]at g
  |str c=>
   cases B;obtain⟨d,rfl⟩:=C
   cases u with
   |non=>cases e;cases r;exact⟨SeqAt.RcAt.str_none c d,SeqAt.RcNeAt.str_none c d,SeqAt.EqAt.str_none c d⟩
   |bl b=>cases e;cases r;exact⟨SeqAt.RcAt.str_bool c d b,SeqAt.RcNeAt.str_bool c d b,SeqAt.EqAt.str_bool c d b⟩
   |int b=>cases e;obtain⟨k,rfl⟩:=r;exact⟨SeqAt.RcAt.str_int c d b k,SeqAt.RcNeAt.str_int c d b k,SeqAt.EqAt.str_int c d b k⟩
   |str b=>cases e;obtain⟨k,rfl⟩:=r;exact⟨SeqAt.RcAt.str_str c d b k,SeqAt.RcNeAt.str_str c d b k,SeqAt.EqAt.str_str c d b k⟩
   |tup o=>
    unfold az at e;obtain⟨a,E,rfl,i,x⟩:=e
    cases r
    obtain⟨m,_,pl,_⟩:=I.tuple i;exact⟨SeqAt.RcAt.str_tuple c d pl h,SeqAt.RcNeAt.str_tuple c d pl h,SeqAt.EqAt.str_tuple c d pl h⟩
   |lst o=>
    unfold az at e;obtain⟨a,E,rfl,i,x⟩:=e
    cases r
    obtain⟨m,_,pl,_⟩:=I.list i;exact⟨SeqAt.RcAt.str_list c d pl.isList h,SeqAt.RcNeAt.str_list c d pl.isList h,SeqAt.EqAt.str_list c d pl.isList h⟩
   |exc c=>simp[dep]at g
 |succ n J=>
  intro A t u z y q v hd g p D B e C r;have h:A.units<cLine:=⋯
  have J:=λA t u z y q v a b=>J A t u z y q v a b ⋯
  cases t with
  |tup F=>
   unfold az at B;obtain⟨a,E,rfl,Q,O⟩:=B
   cases C
   obtain⟨m,U,pl,_⟩:=I.tuple Q
   cases u with
   |tup o=>
    unfold az at e;obtain⟨b,ys,rfl,i,x⟩:=e
    cases r
    obtain⟨D,P,p,_⟩:=I.tuple i;simp only[dep]at hd g;have L:SeqAt.RcAt A s (.ref a) (.ref b) (cH F o)/\SeqAt.RcNeAt A s (.ref a) (.ref b) (!cH F o):=
     PF O x U P pl p h λt u z y q v R M k1 W Z Y=>
      (J A.in1 t u z y q v (by have:=gN R;ext) (by have:=gN M;ext) (by rw[units_in1];ext) k1 W Z Y).2.2
    refine⟨by simpa only [eqT] using L.1,by simpa only [eqT] using L.2,?_⟩
    by_cases d:a=b
    .subst d;have:=I.tuple_inj Q i;subst this;have:=aq.inj I F o E ⋯ ⋯ O x
     subst this;rw[nU _ (by simp only[dep];ext)]
     exact SeqAt.EqAt.same _
    .simp only[eqT];exact SeqAt.EqAt.of_refs d L.1
   |lst o=>
    unfold az at e;obtain⟨b,ys,rfl,i,x⟩:=e
    cases r
    obtain⟨D,P,p,_⟩:=I.list i;exact⟨SeqAt.RcAt.tuple_list pl p.isList h,SeqAt.RcNeAt.tuple_list pl p.isList h,SeqAt.EqAt.tuple_list pl p.isList h⟩
   |non=>cases e;cases r;exact⟨SeqAt.RcAt.tuple_none pl h,SeqAt.RcNeAt.tuple_none pl h,SeqAt.EqAt.tuple_none pl h⟩
   |bl b=>cases e;cases r;exact⟨SeqAt.RcAt.tuple_bool b pl h,SeqAt.RcNeAt.tuple_bool b pl h,SeqAt.EqAt.tuple_bool b pl h⟩
   |int b=>cases e;obtain⟨k,rfl⟩:=r;exact⟨SeqAt.RcAt.tuple_int b k pl h,SeqAt.RcNeAt.tuple_int b k pl h,SeqAt.EqAt.tuple_int b k pl h⟩
   |str b=>cases e;obtain⟨k,rfl⟩:=r;exact⟨SeqAt.RcAt.tuple_str b k pl h,SeqAt.RcNeAt.tuple_str b k pl h,SeqAt.EqAt.tuple_str b k pl h⟩
   |exc c=>simp[dep]at g
  |lst F=>
   unfold az at B;obtain⟨a,E,rfl,Q,O⟩:=B
   cases C
   obtain⟨m,U,pl,_⟩:=I.list Q
   cases u with
   |lst o=>
    unfold az at e;obtain⟨b,ys,rfl,i,x⟩:=e
    cases r
    obtain⟨D,P,p,_⟩:=I.list i;simp only[dep]at hd g;have L:SeqAt.RcAt A s (.ref a) (.ref b) (cH F o)/\SeqAt.RcNeAt A s (.ref a) (.ref b) (!cH F o):=
     PD O x U P pl p h λt u z y q v R M k1 W Z Y=>
      (J A.in1 t u z y q v (by have:=gN R;ext) (by have:=gN M;ext) (by rw[units_in1];ext) k1 W Z Y).2.2
    refine⟨by simpa only [eqT] using L.1,by simpa only [eqT] using L.2,?_⟩
    by_cases d:a=b
    .subst d;have:=I.list_inj Q i;subst this;have:=aq.inj I F o E ⋯ ⋯ O x
     subst this;rw[nU _ (by simp only[dep];ext)]
     exact SeqAt.EqAt.same _
    .simp only[eqT];exact SeqAt.EqAt.of_refs d L.1
   |tup o=>
    unfold az at e;obtain⟨b,ys,rfl,i,x⟩:=e
    cases r
    obtain⟨D,P,p,_⟩:=I.tuple i;exact⟨SeqAt.RcAt.list_tuple pl.isList p h,SeqAt.RcNeAt.list_tuple pl.isList p h,SeqAt.EqAt.list_tuple pl.isList p h⟩
   |non=>cases e;cases r;exact⟨SeqAt.RcAt.list_none pl.isList h,SeqAt.RcNeAt.list_none pl.isList h,SeqAt.EqAt.list_none pl.isList h⟩
   |bl b=>cases e;cases r;exact⟨SeqAt.RcAt.list_bool b pl.isList h,SeqAt.RcNeAt.list_bool b pl.isList h,SeqAt.EqAt.list_bool b pl.isList h⟩
   |int b=>cases e;obtain⟨k,rfl⟩:=r;exact⟨SeqAt.RcAt.list_int b k pl.isList h,SeqAt.RcNeAt.list_int b k pl.isList h,SeqAt.EqAt.list_int b k pl.isList h⟩
   |str b=>cases e;obtain⟨k,rfl⟩:=r;exact⟨SeqAt.RcAt.list_str b k pl.isList h,SeqAt.RcNeAt.list_str b k pl.isList h,SeqAt.EqAt.list_str b k pl.isList h⟩
   |exc c=>simp[dep]at g
  |exc c=>simp only[dep]at hd;ext
  |non=>exact J A _ u z y q v (by simp only[dep];ext) g ⋯ B e C r
  |bl c=>exact J A _ u z y q v (by simp only[dep];ext) g ⋯ B e C r
  |int c=>exact J A _ u z y q v (by simp only[dep];ext) g ⋯ B e C r
  |str c=>exact J A _ u z y q v (by simp only[dep];ext) g ⋯ B e C r
end
end DL
namespace DL
open PySem L2
def sh (s:S):Prop:=dep (tr s)<=20
def OO (a b:S):Bool:=eqT (tr a) (tr b)
def dO:S->S->(S->Prop)->Prop:=λa b R=>sh a/\sh b/\R (.t (.bl (OO a b)))
def dQ:S->S->(S->Prop)->Prop:=λa b R=>sh a/\sh b/\R (.t (.bl (!OO a b)))
abbrev tD:=av dO
abbrev IY:=av dQ
def ID (K:Frg)(neg:Bool):R2:=λx y H Q=>∃ a b,dep a<=20/\dep b<=20/\az K H a x/\az K H b y/\Q (.bl (if neg then !eqT a b else eqT a b)) H
def Ha (x:T)(ts:List T):Bool:=ts.any λt=>eqT t x
def nY:S->S->(S->Prop)->Prop:=λa b R=>match tr b with
 | .lst d=>sh a/\gj d<=20/\R (.t (.bl (!Ha (tr a) d)))
 | .tup d=>sh a/\gj d<=20/\R (.t (.bl (!Ha (tr a) d)))
 |_=>False
abbrev FG:=av nY
def Pv (K:Frg)(neg:Bool):R2:=λx y H Q=>∃ a p d b,dep a<=20/\gj b<=20/\az K H a x/\y=.ref p/\(cC K H p d\/jy K H p d)/\aq K H b d/\Q (.bl (if neg then !Ha a b else Ha a b)) H
def Jy:T->Bool
 | .non=>true
 |_=>false
def FF (b:WE):WE:=λa R=>b a λs=>R (.t (.bl (Jy (tr s))))
def qK (b:WE):WE:=λa R=>b a λs=>R (.t (.bl (!Jy (tr s))))
section
variable {X:Cx}
theorem EU (i:X.A.units+64<cLine):lu X (compareOp .Eq) (ID X.K false):=by
 intro p s d H x y v u Q I d r h;obtain⟨a,b,g,e,p,e,q⟩:=h;exact(oH I 20 X.A a b x y v u g ⋯ ⋯ ⋯ p e d r).1 X.prog X.w X.xe _ ⟨.bl _,H,I,rfl,q⟩
theorem Mj (i:X.A.units+64<cLine):lu X (compareOp .NotEq) (ID X.K true):=by
 intro p s d H x y v u Q I d r h;obtain⟨a,b,g,e,p,e,q⟩:=h;exact(oH I 20 X.A a b x y v u g ⋯ ⋯ ⋯ p e d r).2.1 X.prog X.w X.xe _ ⟨.bl _,H,I,rfl,q⟩
theorem ET:FV K (ID K false) dO:=λF H b a v v R Q sb u p d h k=>⟨tr b,tr a,h.1,h.2.1,p.tree sb,d.tree sb,k _ F H (.t (.bl _)) (dq.refl sb u) rfl h.2.2⟩
theorem Mg:FV K (ID K true) dQ:=λF H b a v v R Q sb u p d h k=>⟨tr b,tr a,h.1,h.2.1,p.tree sb,d.tree sb,k _ F H (.t (.bl _)) (dq.refl sb u) rfl h.2.2⟩
noncomputable def G0 (X:Cx) (H:Hp) (a:T) (ts:List T) (u:Value):Bool:=open Classical in decide (∃ t v,t∈ts/\az X.K H t v/\RelV v u/\eqT t a=true)
theorem Fe (h:RelV v u)(g:RelV w u):v=w:=RelV.inj h g
theorem BU (I:aE X pins σ H s)(hd:gj ts<1000)(d:t∈ts)(h:az X.K H t v)(r:RelV v u):G0 X H a ts u=eqT t a:=by
 unfold G0
 cases e:eqT t a with
 |true=>exact @decide_eq_true _ (Classical.propDecidable _) ⟨t,v,d,h,r,e⟩
 |false=>
  refine @decide_eq_false _ (Classical.propDecidable _) ?_;rintro⟨k,b,b,m,i,g⟩;have:=Fe r i;subst this;have i:=gN d;have i:=gN b;have:=az.inj I t k v ⋯ ⋯ h m
  subst this;rw[e]at g;cases g
theorem xY (I:aE X pins σ H s)(hd:gj us<1000):∀ {b:List T}{d:List V}{i:List Value},(∀ t∈b,t∈us)->aq X.K H b d->aT d i->i.any (G0 X H a us)=b.any λt=>eqT t a
 | [],_,_,_,h,r=>by cases (show _=[] from h);cases r;rfl
 |t::b,_,_,hm,⟨x,r,e,p,q⟩,v=>by
  subst e
  cases v with
  |cons g k=>
   rw[List.any_cons,List.any_cons,BU I hd (hm t mem_cons_self) p g,xY I hd (λz hz=>hm z (mem_cons_of_mem _ hz)) q k]
theorem uJ:∀ {a:List T}{b:List V}{i:List Value}{u:Value},aq K H a b->aT b i->u∈i->∃ t v,t∈a/\az K H t v/\RelV v u
 | [],_,_,_,h,r,m=>by cases (show _=[] from h);cases r;cases m
 |t::a,_,_,_,⟨x,r,e,p,q⟩,k,m=>by
  subst e
  cases k with
  |cons g o=>
   obtain rfl|m:=mem_cons.mp m
   .exact⟨t,x,mem_cons_self,p,g⟩
   .obtain⟨y,d,C,B,z⟩:=uJ q o m;exact⟨y,d,mem_cons_of_mem _ C,B,z⟩
theorem ut (I:aE X pins σ H s)(u:X.A.units+64<cLine)(o:dep a<=20)(q:gj ts<=20)(k:az X.K H a x)(i:RelV x v)(p:aq X.K H ts xs)(r:aT xs its) :
  (∀ y,y∈its.toArray->SeqAt.EqAt X.A.in1 s y v (G0 X H a ts y))/\its.toArray.any (G0 X H a ts)=Ha a ts:=by
 refine⟨λy g=>?_,?_⟩
 .obtain⟨t,w,b,m,e⟩:=uJ p r (by simpa using g)
  have d:=gN b;rw[BU I ⋯ b m e]
  exact(oH I 20 X.A.in1 t a w x y v ⋯ ⋯ ⋯ (by rw[units_in1];ext) m k e i).2.2
 .rw[show its.toArray.any (G0 X H a ts)=its.any (G0 X H a ts) by simp,xY I ⋯ (λ_ h=>h) p r]
  rfl
theorem Ay (z:X.A.units+64<cLine):lu X (compareOp .NotIn) (Pv X.K true):=by
 intro b s b H x y v u Q I k d h;obtain⟨a,p,b,e,B,C,m,rfl,b,o,q⟩:=h
 cases d
 obtain b|b:=b
 .obtain⟨i,r,pl,hz⟩:=I.list b;obtain⟨d,g⟩:=ut I z B C m k o r;refine SeqAt.notIn_listAt (G0 X H a e) pl.isList d ⟨.bl _,H,I,rfl,?_⟩;rw[g];exact q
 .obtain⟨i,r,pl,hz⟩:=I.tuple b;obtain⟨d,g⟩:=ut I z B C m k o r;refine SeqAt.notIn_tupleAt (G0 X H a e) pl d ⟨.bl _,H,I,rfl,?_⟩;rw[g];exact q
theorem Ax:FV K (Pv K true) nY:=λF H i r y v R Q sb u m o h k=>by
 have a:=o.tree sb;unfold nY at h
 split at h
 .rename_i b e;rw[e]at a;unfold az at a;obtain⟨p,x,q,g,d⟩:=a;exact⟨tr i,p,x,b,h.1,h.2.1,m.tree sb,q,.inl g,d,k _ F H (.t (.bl _)) (dq.refl sb u) rfl h.2.2⟩
 .rename_i b e;rw[e]at a;unfold az at a;obtain⟨p,x,q,g,d⟩:=a;exact⟨tr i,p,x,b,h.1,h.2.1,m.tree sb,q,.inr g,d,k _ F H (.t (.bl _)) (dq.refl sb u) rfl h.2.2⟩
 .exact h.elim
variable {a b:Expr}{wa wb:WE}{pos:Pos}
theorem BH (h:cu k X.A)(ha:PE X a (au X.K wa))(hb:PE X b (au X.K wb)):PE X (.Compare a [.Eq] [b] pos) (au X.K (tD wa wb)):=(mR (EU h.units) ha hb (eQ _)).imp (cf ET)
theorem fB (h:cu k X.A)(ha:PE X a (au X.K wa))(hb:PE X b (au X.K wb)):PT X (.Compare a [.Eq] [b] pos) (liftT X.K (wB (tD wa wb))):=jT (EU h.units) ET ha hb (eQ _)
theorem mh (h:cu k X.A)(ha:PE X a (au X.K wa))(hb:PE X b (au X.K wb)):PT X (.Compare a [.NotEq] [b] pos) (liftT X.K (wB (IY wa wb))):=jT (Mj h.units) Mg ha hb (eQ _)
theorem BR (h:cu k X.A)(ha:PE X a (au X.K wa))(hb:PE X b (au X.K wb))(hm:behindInMarks .NotIn b=false:=by rfl):PT X (.Compare a [.NotIn] [b] pos) (liftT X.K (wB (FG wa wb))):=jT (Ay h.units) Ax ha hb hm
theorem De (h:az K H t v):decide (v=.non)=Jy t:=by
 cases t <;> first
  | (cases h;rfl)
  | (unfold az at h;obtain⟨_,_,rfl,_⟩:=h;rfl)
  | (unfold az at h;obtain⟨_,rfl,_⟩:=h;rfl)
theorem Dr:∀ d H Q,au K (FF wa) d H Q->M7 (λx y H Q=>y=.non/\Q (.bl (decide (x=.non))) H) (au K wa) (au K (wC .non)) d H Q:=by
 rintro d H Q ⟨e,R,F,r,h,k⟩;refine⟨e,_,F,r,h,λv g d i d p q=>?_⟩;refine⟨e,λs=>s=.t .non,g,r.ext d,rfl,λv o g e e m r=>?_⟩;subst r;refine⟨m,k _ o g (.t (.bl (Jy (tr i)))) (d.trans e) ?_ q⟩;show _=_;rw[De (((p.ext e).val e.sub).tree e.sub)]
theorem Ac:∀ d H Q,au K (qK wa) d H Q->M7 (λx y H Q=>y=.non/\Q (.bl (!decide (x=.non))) H) (au K wa) (au K (wC .non)) d H Q:=by
 rintro d H Q ⟨e,R,F,r,h,k⟩;refine⟨e,_,F,r,h,λv g d i d p q=>?_⟩;refine⟨e,λs=>s=.t .non,g,r.ext d,rfl,λv o g e e m r=>?_⟩;subst r;refine⟨m,k _ o g (.t (.bl (!Jy (tr i)))) (d.trans e) ?_ q⟩;show _=_;rw[De (((p.ext e).val e.sub).tree e.sub)]
theorem BQ (ha:PE X a (au X.K wa)):PT X (.Compare a [.Is] [.Constant .none j p] pos) (liftT X.K (wB (FF wa))):=
 (sM Mi ha rq (eQ _)).imp λd H Q ⟨g,R,F,r,h,k⟩=>by
  refine Dr d H _ ⟨g,_,F,r,h,λv g d s e p q=>?_⟩
  split at q
  .exact⟨_,p,k g d _ e q⟩
  .exact q.elim
theorem rA (ha:PE X a (au X.K wa)):PT X (.Compare a [.IsNot] [.Constant .none j p] pos) (liftT X.K (wB (qK wa))):=
 (sM HZ ha rq (eQ _)).imp λd H Q ⟨g,R,F,r,h,k⟩=>by
  refine Ac d H _ ⟨g,_,F,r,h,λv g d s e p q=>?_⟩
  split at q
  .exact⟨_,p,k g d _ e q⟩
  .exact q.elim
end
inductive Ty where
 |non|bool|int|str|tup|lst|exc
def Ty.nm:Ty->String
 | .non=>"NoneType" | .bool=>"bool" | .int=>"int" | .str=>"str" | .tup=>"tuple" | .lst=>"list" | .exc=>""
def JV:T->Ty
 | .non=>.non
 | .bl _=>.bool
 | .int _=>.int
 | .str _=>.str
 | .tup _=>.tup
 | .lst _=>.lst
 | .exc _=>.exc
def AO (s:S):Ty:=JV (tr s)
def ca:Ty->Ty->Bool
 | .non,.non=>true
 | .bool,.bool=>true
 | .bool,.int=>true
 | .int,.int=>true
 | .str,.str=>true
 | .tup,.tup=>true
 | .lst,.lst=>true
 |_,_=>false
theorem lK (K:Frg)(a b:Ty)(ha:a≠.exc)(hb:b≠.exc):PySem.W.kitOne K (.type a.nm) (.type b.nm)=some (ca a b):=by
 cases a <;> first|exact absurd rfl ha|(cases b <;> first|exact absurd rfl hb|with_unfolding_all rfl)
def JX (ty:Ty)(e:WE):WE:=λa R=>e a λs=>AO s≠.exc/\R (.t (.bl (ca (AO s) ty)))
def RS (K:Frg)(ty:Ty):List V->Hp->VK->Prop:=λb H Q=>∃ x a,b=[x,.ty ty.nm]/\JV a≠.exc/\az K H a x/\Q (.bl (ca (JV a) ty)) H
section
variable {X:Cx}
theorem GJ (k:ty≠.exc):eB X (.builtin "isinstance") (RS X.K ty):=by
 intro m s B H g g Q I r h;obtain⟨x,a,rfl,v,p,q⟩:=h;obtain⟨u,g,rfl,i,g⟩:=vals2 r
 cases g
 have g:∀ y,EP X m B Q (.bool (ca (JV a) ty)) {s with toks:=y}:=λy=>⟨.bl _,H,I.tok _,rfl,q⟩
 cases a with
 |non=>cases p;cases i;exact PySem.W.kia_one PySem.W.kitx_none I.kIn True.intro (lK X.K .non ty (by simp) k) (λz=>nomatch z) g
 |bl c=>cases p;cases i;exact PySem.W.kia_one PySem.W.kitx_bool I.kIn True.intro (lK X.K .bool ty (by simp) k) (λz=>nomatch z) g
 |int c=>cases p;obtain⟨t,rfl⟩:=i;exact PySem.W.kia_one PySem.W.kitx_int I.kIn True.intro (lK X.K .int ty (by simp) k) (λz=>nomatch z) g
 |str c=>cases p;obtain⟨t,rfl⟩:=i;exact PySem.W.kia_one PySem.W.kitx_str I.kIn True.intro (lK X.K .str ty (by simp) k) (λz=>nomatch z) g
 |tup B=>
  unfold az at p;obtain⟨b,D,rfl,m,C⟩:=p
  cases i
  obtain⟨y,_,⟨o,e,c,_⟩,_⟩:=I.tuple m;exact PySem.W.kia_one PySem.W.kitx_tuple I.kIn ⟨o,e,c⟩ (lK X.K .tup ty (by simp) k) (λz=>nomatch z) g
 |lst B=>
  unfold az at p;obtain⟨b,D,rfl,m,C⟩:=p
  cases i
  obtain⟨y,_,⟨o,n,e,c,hd,d⟩,_⟩:=I.list m;exact PySem.W.kia_one PySem.W.kitx_list I.kIn ⟨o,e,c⟩ (lK X.K .lst ty (by simp) k) (λz=>nomatch z) g
 |exc c=>exact absurd rfl v
variable {e:Expr}{we:WE}{pos p p2:Pos}
theorem BI (ty:Ty) (z:ty≠.exc) (B:bootBuiltins x=some (.type ty.nm)) (hm:X.mg "isinstance"=none) (a:X.mg x=none) (he:PE X e (au X.K we)) (i:Gl X "isinstance") (b:Gl X x) (o:x≠"__name__") (d:(x == ("__debug__":Str))=false)
  (g:starEach [e,.Name x p2] X.env=(false,eval e X.env)::starEach [.Name x p2] X.env) (m:starEach [.Name x p2] X.env=(false,eval (.Name x p2) X.env)::starEach [] X.env) (y:(backTo pos (starEach [.Name x p2] X.env)).any (·.1)=false) :
  PE X (.Call (.Name "isinstance" p) [e,.Name x p2] [] pos) (au X.K (JX ty we)):=
 (uX (GJ (ty:=ty) z) i hm PyProof.Rows.boot_isinstance (i7 he (i7 (Ia (v:=.ty ty.nm) b a B rfl o d) oB m) g) ⋯ ⋯ g y).imp <| by rintro r H Q ⟨u,R,F,r,h,k⟩;exact⟨u,_,F,r,h,λv u r s e p q=>
  ⟨v,tr s,rfl,q.1,(p.val e.sub).tree e.sub,k _ u r (.t (.bl _)) e rfl q.2⟩⟩
theorem zI (hm:X.mg "isinstance"=none) (h:X.mg "int"=none) (he:PE X e (au X.K we)) (g:Gl X "isinstance":=by rfl) (a:Gl X "int":=by rfl) (b:starEach [e,.Name "int" p2] X.env=(false,eval e X.env)::starEach [.Name "int" p2] X.env:=by exact aN rfl) (i:starEach [.Name "int" p2] X.env=(false,eval (.Name "int" p2) X.env)::starEach [] X.env:=by rfl) (d:(backTo pos (starEach [.Name "int" p2] X.env)).any (·.1)=false:=by exact cm rfl) :
  PE X (.Call (.Name "isinstance" p) [e,.Name "int" p2] [] pos) (au X.K (JX .int we)):=BI .int (by simp) PyProof.Rows.boot_int hm h he g a ⋯ ⋯ b i d
theorem vY (hm:X.mg "isinstance"=none) (h:X.mg "bool"=none) (he:PE X e (au X.K we)) (g:Gl X "isinstance":=by rfl) (a:Gl X "bool":=by rfl) (b:starEach [e,.Name "bool" p2] X.env=(false,eval e X.env)::starEach [.Name "bool" p2] X.env:=by exact aN rfl) (i:starEach [.Name "bool" p2] X.env=(false,eval (.Name "bool" p2) X.env)::starEach [] X.env:=by rfl) (d:(backTo pos (starEach [.Name "bool" p2] X.env)).any (·.1)=false:=by exact cm rfl) :
  PE X (.Call (.Name "isinstance" p) [e,.Name "bool" p2] [] pos) (au X.K (JX .bool we)):=BI .bool (by simp) PyProof.Rows.boot_bool hm h he g a ⋯ ⋯ b i d
theorem vZ (hm:X.mg "isinstance"=none) (h:X.mg "list"=none) (he:PE X e (au X.K we)) (g:Gl X "isinstance":=by rfl) (a:Gl X "list":=by rfl) (b:starEach [e,.Name "list" p2] X.env=(false,eval e X.env)::starEach [.Name "list" p2] X.env:=by exact aN rfl) (i:starEach [.Name "list" p2] X.env=(false,eval (.Name "list" p2) X.env)::starEach [] X.env:=by rfl) (d:(backTo pos (starEach [.Name "list" p2] X.env)).any (·.1)=false:=by exact cm rfl) :
  PE X (.Call (.Name "isinstance" p) [e,.Name "list" p2] [] pos) (au X.K (JX .lst we)):=BI .lst (by simp) PyProof.Rows.boot_list hm h he g a ⋯ ⋯ b i d
end
theorem Df (h:jy K F a xs)(r:aq K F ts xs):A5 K F (Qn K a) ts:=by
 intro m b i d sb u;have q:jy K b a xs:=Same.sqT sb _ _ (Same.sqT d _ _ h);refine⟨λt o=>?_,λb=>⟨xs,q,by rw[r.length];exact b⟩⟩
 obtain⟨x,g,k⟩:=r.get o;refine⟨⟨xs,x,q,g⟩,λy b b=>?_⟩;obtain⟨e,b⟩:=b;subst e;have:=b xs q;rw[g]at this
 cases this
 exact⟨m,dq.refl sb u,az.same d k⟩
def bS (lo:Int)(n:Nat):List T:=(List.range n).map λ(k:Nat)=>.int (lo+(k:Int))
theorem LK (lo:Int)(n:Nat):A5 K F (P6 lo n) (bS lo n):=by
 intro g h i a sb u;refine⟨λt h=>?_,λa=>(by simpa [bS] using a:n<=i)⟩
 unfold bS at h;rw[getElem?_map]at h
 cases e:(List.range n)[i]? with
 |none=>rw[e]at h;cases h
 |some k=>
  rw[e]at h;have d:k=i/\i<n:=by
   rw[List.getElem?_eq_some_iff]at e;obtain⟨b,a⟩:=e;simp at b a;exact⟨a.symm,b⟩
  obtain⟨rfl,b⟩:=d;have a:t=.int (lo+k):=by simpa using h.symm
  refine⟨b,λx h h=>?_⟩;obtain⟨d,b⟩:=h;subst d;subst b;exact⟨g,dq.refl sb u,by rw[a];rfl⟩
def PR (a:bf)(W:List T->bf->Prop):S->Prop
 | .t (.tup ts)=>W ts a
 | .vt (.tup ts)=>W ts (freeze a)
 |_=>False
def FJ (e:WE):WI:=λa W=>e a λs=>PR a W s
def jG (i:Int):Prop:=-(2 ^ 62)<=i/\i<2 ^ 62
def dN (d:WA):WI:=λa W=>d a λb=>match b with
 | [.t (.int j)]=>jG j/\W (bS 0 j.toNat) a
 |_=>False
def Np (d:WA):WI:=λa W=>d a λb=>match b with
 | [.t (.int i),.t (.int j)]=>jG i/\jG j/\W (bS i (j-i).toNat) a
 |_=>False
section
variable {X:Cx}{e e2 tg:Expr}{we:WE}{wa:WA}{p pos:Pos}
theorem bN (he:PE X e (au X.K we)):PI X tg e (mn X.K (bT we)):=
 (Ig he).imp <| by rintro b H R ⟨d,W,F,r,h,k⟩;exact⟨d,_,F,r,h,λv i g s ex p q=>by
  unfold ql at q
  split at q
  .unfold dw az at p;obtain⟨a,x,rfl,b,m⟩:=p;exact⟨a,rfl,⟨x,ex.sub.seq b⟩,k _ i i g _ d ex (Same.refl _) (r.ext ex) (sr b m) q⟩
  .unfold dw az at p;obtain⟨a,x,rfl,b,m⟩:=p;exact⟨a,rfl,⟨x,b⟩,k _ i g g _ (freeze d) ex ex.sub (r.ext ex).freeze (sr b m) q⟩
  .obtain⟨b,m,a,x,rfl,i,m⟩:=r.thaw ex p;exact⟨a,rfl,⟨x,b.sub.seq i⟩,k _ _ _ g _ d (ex.frozen r.sub).1 (Same.refl _) b (sr i m) q⟩
  .exact q.elim⟩
theorem Lb (he:PE X e (au X.K we)):PI X tg e (mn X.K (FJ we)):=
 (MB he).imp <| by rintro b H R ⟨d,W,F,r,h,k⟩;exact⟨d,_,F,r,h,λv i g s ex p q=>by
  unfold PR at q
  split at q
  .unfold dw az at p;obtain⟨a,x,rfl,b,m⟩:=p;exact⟨a,rfl,⟨x,Same.sqT ex.sub _ _ b⟩,k _ i i g _ d ex (Same.refl _) (r.ext ex) (Df b m) q⟩
  .unfold dw az at p;obtain⟨a,x,rfl,b,m⟩:=p;exact⟨a,rfl,⟨x,b⟩,k _ i g g _ (freeze d) ex ex.sub (r.ext ex).freeze (Df b m) q⟩
  .exact q.elim⟩
theorem bU (hm:X.mg "range"=none) (ha:PA X [e] (cY X.K wa)) (g:Gl X "range":=by rfl) (hs:starEach [e] X.env=[(false,eval e X.env)]:=by rfl):PI X tg (.Call (.Name "range" p) [e] [] pos) (mn X.K (dN wa)):=
 (AD g hm ha hs).imp <| by rintro a H R ⟨b,W,F,a,h,k⟩;exact⟨b,_,F,a,h,λd d m i ex p q=>by
  split at q
  .obtain⟨v,r,rfl,i,o⟩:=p
   cases (show r=[] from o)
   cases (show v=_ from i)
   obtain⟨⟨i,u⟩,o⟩:=q;exact⟨_,rfl,i,u,k _ d d m _ b ex (Same.refl _) (a.ext ex) (LK 0 _) o⟩
  .exact q.elim⟩
end
end DL
namespace L2
open PySem PySem.Spec PyProof.Rows
theorem jS:∀ (b:List (Str × NameKind)) (d:List (Str × Addr)),(∀ y∈b,y.2=.free->∃ c,env.cells.lookup y.1=some c)->(∀ x c,d.lookup x=some c->env.cells.lookup x=some c) →
  ∃ i:List (Str × Addr),(forIn b d (λ(y:Str × NameKind) (r:List (Str × Addr))=>(if (y.2 == NameKind.free)=true then (cellOf env y.1 >>= λa=>pure (ForInStep.yield ((y.1,a)::r))) else pure (ForInStep.yield r):Sem (ForInStep (List (Str × Addr))))))=(pure i:Sem (List (Str × Addr))) ∧
   (∀ x c,i.lookup x=some c->env.cells.lookup x=some c)/\(∀ x,(d.lookup x).isSome=true->(i.lookup x).isSome=true)/\∀ y∈b,y.2=.free->(i.lookup y.1).isSome=true
 | [],d,_,o=>⟨d,by rw[List.forIn_nil],o,λ_ h=>h,λy g=>by cases g⟩
 | (n,k)::r,d,h,o=>by
  by_cases q:(k == NameKind.free)=true
  .have v:k=.free:=by simpa using q
   obtain⟨a,ha⟩:=h (n,k) mem_cons_self v;obtain⟨i,B,C,p,u⟩:=jS (env:=env) r ((n,a)::d) (λy g=>h y (mem_cons_of_mem _ g)) (λx c e=>by
    rw[lookup_cons]at e
    split at e
    .rename_i z;have:x=n:=by simpa using z
     subst this
     cases e
     exact ha
    .exact o x c e)
   have up:∀ x,(d.lookup x).isSome=true->(((n,a)::d).lookup x).isSome=true:=λx z=>by
    rw[lookup_cons]
    split
    .rfl
    .exact z
   refine⟨i,?_,C,λx z=>p x (up x z),λy g m=>?_⟩
   .rw[List.forIn_cons];simp only[q,if_true];have:cellOf env n=pure a:=by unfold cellOf;rw[ha]
    rw[this];exact B
   .rcases mem_cons.mp g with e|e
    .subst e;exact p n (by rw[lookup_cons];simp)
    .exact u y e m
  .obtain⟨i,B,C,p,u⟩:=jS (env:=env) r d (λy g=>h y (mem_cons_of_mem _ g)) o;refine⟨i,?_,C,p,λy g m=>?_⟩
   .rw[List.forIn_cons];simp only[q,if_false];exact B
   .rcases mem_cons.mp g with e|e
    .subst e;exact absurd (by simpa using m) q
    .exact u y e m
theorem vT (h:∀ y∈scope.names,y.2=.free->∃ c,env.cells.lookup y.1=some c) :
  ∃ a,closureFor scope env=pure a/\(∀ x c,a.lookup x=some c->env.cells.lookup x=some c)/\∀ y∈scope.names,y.2=.free->(a.lookup y.1).isSome=true:=by
 obtain⟨a,g,d,_,b⟩:=jS (env:=env) scope.names [] h (λx c e=>by cases e)
 refine⟨a,?_,d,b⟩;unfold closureFor;exact(congrArg (λz=>z >>= λr=>pure r) g)
structure iw (N:List Str) (no:Nat) (fr:List Nat) (NX:List Str) (sc around:Scope):Prop where
 kind:sc.kind=.function
 nocell:∀ y∈sc.names,y.2≠.cell
 nd:N.Nodup
 len:N.length=no+fr.length
 loc:∀ y∈sc.names,y.2=.local->sc.names.lookup y.1=some .local
 free:∀ y∈sc.names,y.2=.free->around.names.lookup y.1=some .cell
 own:∀ (i:Nat) (x:Str),N[i]?=some x->i<no->sc.names.lookup x=some .local
 out:∀ (j i:Nat) (x:Str),fr[j]?=some i->N[no+j]?=some x->NX[i]?=some x/\sc.names.lookup x=some .free
def FO (own:Nat)(fr:List Nat)(σ:St):St:=replicate own none++fr.map λi=>(σ[i]?).join
def cX (X:Cx)(N:List Str)(scope:Scope)(a:List (Str × Addr))(s:Shared)(H:Hp)(fp:List Addr):Cx:=
 {X with N:=N,s₀:=s,H₀:=H,env:=compEnvC scope a s.heap.objs.size X.env,outer:=X.stack,ex:=fp,fn:=λ_=>false,pn:=[],xe:=λ_ _=>False}
theorem jW {env:Env}:∀ (a:List (Str × NameKind)) (x:Str),(a.map λ(n,k)=>if (k == NameKind.free && env.scope.kind == .function && env.kindOf n == some .cell) then (n,NameKind.cell) else (n,k)).lookup x =
  (a.lookup x).map λk=>if (k == NameKind.free && env.scope.kind == .function && env.kindOf x == some .cell) then NameKind.cell else k
 | [],_=>rfl
 | (n,k)::r,x=>by
  rw[map_cons];show List.lookup x ((if (k == NameKind.free && env.scope.kind == .function && env.kindOf n == some .cell)=true then (n,NameKind.cell) else (n,k))::_)=_
  cases b:x == n with
  |true=>
   have e:x=n:=by simpa using b
   subst e
   by_cases h:(k == NameKind.free && env.scope.kind == .function && env.kindOf x == some .cell)=true
   .rw[if_pos h];simp only[lookup_cons,b];simp only[map_some,h,if_true]
   .rw[if_neg h];simp only[lookup_cons,b];simp only[map_some];rw[if_neg h]
  |false=>
   by_cases h:(k == NameKind.free && env.scope.kind == .function && env.kindOf n == some .cell)=true
   .rw[if_pos h];simp only[lookup_cons,b];exact jW r x
   .rw[if_neg h];simp only[lookup_cons,b];exact jW r x
theorem Ff (x:Str):(relabel scope env).names.lookup x=(scope.names.lookup x).map λk=>if (k == NameKind.free && env.scope.kind == .function && env.kindOf x == some .cell) then NameKind.cell else k:=jW _ _
section
variable {X:Cx}{pins:List (Addr × Obj)}{σ:St}{H:Hp}{s:Shared}{N:List Str}{own:Nat}{fr:List Nat}{scope:Scope}{cl:List (Str × Addr)}{fp:List Addr}
theorem Hb (S:iw N own fr X.N scope X.env.scope)(I:aE X pins σ H s)(g:∀ x c,cl.lookup x=some c->X.env.cells.lookup x=some c)(E:∀ y∈scope.names,y.2=.free->(cl.lookup y.1).isSome=true)
  (C:∀ b∈fp,my X pins H b/\b<s.heap.objs.size) (L:h'.Ns s.heap.objs.size m) (J:∀ b o,s.heap.get? b=some o->h'.get? b=some o) :
  aE (cX X N scope cl s H fp) [] (FO own fr σ) H {s with heap:=h',toks:=t}:=by
 have R:∀ x,(cX X N scope cl s H fp).env.kindOf x=(scope.names.lookup x).map λk=>if (k == NameKind.free && X.env.scope.kind == .function && X.env.kindOf x == some .cell) then NameKind.cell else k:=λx=>Ff x
 have a:∀ {l:List (Str × NameKind)}{x:Str}{k:NameKind},l.lookup x=some k->(x,k)∈l:=λ{l x k} e=>PySem.mem_of_lookup e;have F:∀ x,((cX X N scope cl s H fp).env.kindOf x=some .cell\/(cX X N scope cl s H fp).env.kindOf x=some .free)->scope.names.lookup x=some .free:=λx h=>by
  rw[R]at h
  cases e:scope.names.lookup x with
  |none=>rw[e]at h;simp at h
  |some k=>
   rw[e]at h;simp only[map_some,Option.some.injEq]at h
   by_cases D:(k == NameKind.free && X.env.scope.kind == .function && X.env.kindOf x == some .cell)=true
   .have:k=.free:=by
     rw[Bool.and_eq_true,Bool.and_eq_true]at D;simpa using D.1.1
    rw[this]
   .rw[if_neg D]at h
    obtain h|h:=h
    .exact absurd h (S.nocell _ (a e))
    .rw[h]
 have B:∀ x c,cl.lookup x=some c->∃ v,s.heap.IsCell c v:=λx c e=>I.cell x c (g x c e);have d:∀ x c,cl.lookup x=some c->c<s.heap.objs.size:=λx c e=>let ⟨v,q⟩:=B x c e;q.lt;refine⟨⟨I.ok.mod,S.kind,I.ok.glob,I.ok.blt,le_refl _,λx y c d M=>I.ok.inj x y c (g x c d) (g y c M),λx d=>?_,(λx c h=>by cases h),I.ok.hd,I.ok.frames,.inl rfl,λb hb=>⟨ne_of_lt (C b hb).2,λx c e=>(C b hb).1.2.2.2.2.1 x c (g x c e)⟩,
   I.bs,le_trans I.ok.bsz I.sz,λb o e hb=>?_,λb hb z=>?_,I.stack,I.stkFree⟩,rfl,I.bare,Un.kept J,⟨m,L,λi x v Q M O=>?_⟩,λx c e=>?_,I.hok.fresh (le_refl _),λx c e=>I.freeC x c (g x c e),λp O=>absurd (show p∈([]:List (Addr × Obj)) from O) (by simp),I.hok.kept J,?_⟩
 .have:=E _ (a (F x d)) rfl;exact isSome_iff_exists.mp this
 .rcases(C b hb).1.2.2.2.1 with z|z
  .exact I.ok.noex b o e z
  .exact absurd (lt_of_lt_of_le (Heap.lt_size e) (le_trans I.ok.bsz z)) (lt_irrefl _)
 .rcases mem_cons.mp (I.stkSub b z) with q|q
  .exact(C b hb).1.2.1 q
  .exact(C b hb).1.2.2.1 q
 .
  have d:(replicate own none++fr.map λi=>(σ[i]?).join)[i]?=some (some v):=M;have hi:own<=i:=by
   by_cases hi:i<own
   .rw[getElem?_append_left (by simpa using hi),getElem?_replicate,if_pos hi]at d
    cases d
   .ext
  rw[getElem?_append_right (by simpa using hi),length_replicate,getElem?_map]at d
  cases O:fr[i-own]? with
  |none=>rw[O]at d;cases d
  |some k=>
   rw[O]at d;have F:(σ[k]?).join=some v:=by simpa using d
   have d:σ[k]?=some (some v):=by
    cases q:σ[k]? with
    |none=>rw[q]at F;cases F
    |some o=>rw[q]at F;simpa using F
   have F:N[own+(i-own)]?=some x:=by
    rw[show own+(i-own)=i by ext];exact Q
   obtain⟨U,P⟩:=S.out (i-own) k x O F;have F:X.env.scope.names.lookup x=some .cell:=S.free (x,.free) (a P) rfl;obtain⟨O,_,O⟩:=I.loc;obtain⟨u,r,l⟩:=O k x v U d (.inr (.inl F));refine⟨u,r,?_⟩
   obtain⟨d,_⟩|⟨_,c,U,O⟩:=l
   .have:X.env.scope.names.lookup x=some .local:=d;rw[F]at this;cases this
   .have d:(cX X N scope cl s H fp).env.kindOf x=some .cell:=by
     rw[R,P];simp only[map_some];have Q:X.env.scope.kind=.function:=I.ok.kind;have M:X.env.kindOf x=some .cell:=F;rw[Q,M]
     rfl
    have D:=isSome_iff_exists.mp (E (x,.free) (a P) rfl);obtain⟨F,a⟩:=D;have:F=c:=by
     have:=g x F a;rw[U]at this;exact(Option.some.inj this).symm
    subst this;exact .inr ⟨.inl d,F,a,O.keeps J⟩
 .obtain⟨v,q⟩:=B x c e;exact⟨v,q.keeps J⟩
 .show(FO own fr σ).length=N.length;unfold FO;rw[List.length_append,length_replicate,length_map,S.len]
end
abbrev Jd:Value->Shared->Prop:=λ_ _=>False
section
variable {P:Program}{w:World}{A:Around}{R:Result->Shared->Prop}
def Qj (ifs:List Expr)(env:Env):Sem Bool:=
 forIn ifs true λc r=>if r=true then do
                        let ok ← isTrue c env (eval c env)
                        pure (ForInStep.yield ok) else pure (ForInStep.yield r)
theorem M9 (h:Q true s):wpAny (model P w) A (Qj [] env) Q E s:=wpAny_tests_nil h
theorem Na (h:wpAny (model P w) A (isTrue c env (eval c env)) Q E s):wpAny (model P w) A (Qj [c] env) Q E s:=wpAny_tests_one h
theorem vR (J:Nat->Shared->Prop)
  (go:∀ n s,J n s->wpAny (model P w) A (pyNext it) (λr s1=>match r with
   |none=>R (.ok .next) s1
   |some v=>wpAny (model P w) A (letOwnedTupleGo tg it v) (λ_ s2=>wpAny (model P w) A (assign tg env v) (λ_ s3=>wpAny (model P w) A (Qj ifs env) (λok s4=>
     if ok=true then wpAny (model P w) A (eval elt env) (λx s5=>wpAny (model P w) A (call (.builtin "list.append") [acc,x]) (λ_ s6=>∃ m,m<n/\J m s6) Jd s5) Jd s4
     else ∃ m,m<n/\J m s4) Jd s3) Jd s2) Jd s1) Jd s)
  (n:Nat) (h:J n s):codeAny (model P w) A (.compLoop (.ListComp elt [⟨tg,iter,ifs,0⟩] sc pos) 0 it acc env) R s:=by
 have ex:∀ {α:Type}{t:Sem α}{Q:α->Shared->Prop}{s:Shared}{E:Value->Shared->Prop},wpAny (model P w) A t Q Jd s->wpAny (model P w) A t Q E s:=λhh=>wpAny_mono hh (λ_ _ q=>q) λ_ _ z=>z.elim;refine codeAny_loop rfl J (λn s hJ=>?_) n h;show wpAny _ _ ((compTurn _ 0 it acc env).onRaise (λx=>do noteFrame x env;theTreesLotGoes x)) _ _ s
 refine wpAny_noted ?_;rw[compTurn_list];refine wpAny_bind (wpAny_standAt (wpAny_bind (cG (ex (go n s hJ)) λr s1 h1=>?_)))
 cases r with
 |none=>exact wpAny_pure h1
 |some v=>
  refine wpAny_bind (cG (ex h1) λ_ s2 h2=>wpAny_bind (cG (ex h2) λ_ s3 h3=>?_));refine wpAny_bind (cG (ex h3) λok s4 h4=>?_)
  cases ok with
  |false=>exact wpAny_pure ⟨rfl,h4⟩
  |true=>
   exact wpAny_bind (wpAny_bind (cG (ex h4) λx s5 h5=>wpAny_bind (cG (ex h5) λ_ s6 h6=>wpAny_pure (wpAny_pure ⟨rfl,h6⟩))))
end
def yW (own:Nat)(fr:List Nat)(k:TI)(g:TG)(o:TT)(te:TE):TE:=λa H Q=>k a H λJ h=>∀ D,h D=none->∃ W:Nat->Nat->St->Hp->Prop,(∃ m,W 0 m (FO own fr a) (cs h D (.lst [])))/\∀ i m a h,W i m a h →
 (J.stop i h/\Q (.ref D) h)\/(J.go i h/\∀ x b,J.yld i h x b->g x a b λa h=>o a h λok e=>
  if ok=true then te a e λv h=>∃ d,h D=some (.lst d)/\d.length<sizeLine/\∃ b,b<m/\W (i+1) b a (cs h D (.lst (d++[v])))
  else ∃ b,b<m/\W (i+1) b a e)
def FW (Y:Cx)(i:List Expr)(t:TT):Prop:=
 ∀ (p:List (Addr × Obj)) (s:Shared) (a:St) (H:Hp) (Q:Bool->Hp->Prop),aE Y p a H s->t a H Q->wpAny (model Y.prog Y.w) Y.A (Qj i Y.env) (TP Y p a Q) Y.xe s
theorem Io:FW Y [] (λa H Q=>Q true H):=λ_ _ a H _ I h=>M9 ⟨H,I,h⟩
theorem Ip (h:PT Y c t):FW Y [c] t:=λp s a H Q I q=>Na (h p s a H Q I q)
section
variable {X:Cx}{N:List Str}{own:Nat}{fr:List Nat}{scope:Scope}{elt tg iter:Expr}{ifs:List Expr}{pos:Pos}{wi:TI}{g:TG}{tc:TT}{te:TE}
theorem Turn.fpLt {P:Program}{w:World}{K:Frg}{J:It}{fp:List Addr}{it:Addr}{a:Nat->Heap->Prop}(T:Turn P w K tg J fp it a){i:Nat}{h:Heap}(st:a i h):∀ b∈fp,b<h.objs.size:=λb hb=>by
 obtain⟨o,e,_⟩:=T.obj i h st b hb;exact Heap.lt_size e
def CompEnd (X:Cx)(pins:List (Addr × Obj))(σ:St)(Q:VK)(use:Option (Value->Sem Unit))(QQ:Value->Shared->Prop):Prop:=
 ∀ (D C:Addr) (h:Hp) (a:Shared) (m:Str->Option Value),(∀ b,Heap.SameBut C a.heap b->aE X pins σ h {a with heap:=b})->a.heap.Ns C m->h C=none->X.s₀.heap.objs.size<=C->X.env.locals≠C->(∀ x c,X.env.cells.lookup x=some c->c≠C)->(∀ p∈X.pn++pins,p.1≠C)->Q (.ref D) h →
  compPost (model X.prog X.w) X.A X.xe use QQ (.ref D) C (.ok .next) a
theorem p7 (S:iw N own fr X.N scope X.env.scope)(hc:X.calm=true)(hi:PI X tg iter wi)
  (hg:∀ F s H m,PG (cX X N scope F s H m) tg g) (ht:∀ F s H m,FW (cX X N scope F s H m) ifs tc) (he:∀ F s H m,PE (cX X N scope F s H m) elt te)
  (hs:∀ x,foldedSetIterable iter X.env x=pure x) (I:aE X pins σ H s) (h:yW own fr wi g tc te σ H Q) (finish:CompEnd X pins σ Q use QQ) :
  wpAny (model X.prog X.w) X.A (comprehension (.ListComp elt [⟨tg,iter,ifs,0⟩] scope pos) scope X.env ps (newList []) false (eval iter X.env) use) QQ X.xe s:=by
 obtain⟨F,hclos,hcl,hcf⟩:=vT (scope:=scope) (env:=X.env) λy hy hf=>I.ok.has y.1 (.inl (S.free y hy hf));refine wpAny_comprehension_free (use:=use) rfl hs hclos S.kind S.loc (cG (hi pins s σ H _ I h) λv s1 h1=>cG h1 λitv k h2=>?_);obtain⟨it,m,tn,J,L,e,I2,T,st2,f2,h2⟩:=h2;subst e;refine wpAny_newObj_type ?_ (zero_le _);have fr2:L k.heap.objs.size=none:=I2.hok.fresh (le_refl _);obtain⟨W,⟨m0,w0⟩,turn⟩:=h2 k.heap.objs.size fr2;have I3:aE X pins σ (cs L k.heap.objs.size (.lst [])) {k with heap:=k.heap.push {cls:=.type "list",data:=.seq ([]:List Value).toArray}}:=I2.lnew (t':=k.toks) (its:=[]) .nil (zero_le _);have st3:tn 0 (k.heap.push {cls:=.type "list",data:=.seq ([]:List Value).toArray}):=T.keep _ _ _ st2 λb _ o e=>Heap.get?_push_of_some _ e;generalize NE:({k with heap:=k.heap.push {cls:=.type "list",data:=.seq ([]:List Value).toArray}}:Shared)=s3 at I3;have P:tn 0 s3.heap:=by rw[<-NE];exact st3
 have f3:∀ b∈m,my X pins (cs L k.heap.objs.size (.lst [])) b:=λb hb=>by
  obtain⟨q0,q⟩:=f2 b hb;refine⟨?_,q⟩;rw[aV (ne_of_lt (T.fpLt st2 b hb))];exact q0
 refine wpAny_newFunctionEnv S.nocell (λy hy=>by cases hy) (λh4 hns4 hsb4=>?_) S.kind
 have hk4:∀ b o,s3.heap.get? b=some o->h4.get? b=some o:=λb o e=>hsb4.extBut b o (ne_of_lt (Heap.lt_size e)) (Heap.get?_push_of_some _ e);have I4:aE (cX X N scope F s3 (cs L k.heap.objs.size (.lst [])) m) [] (FO own fr σ) (cs L k.heap.objs.size (.lst [])) {s3 with heap:=h4,toks:=s3.toks+([]:List (Str × Value)).length}:=
  Hb S I3 hcl hcf (λb hb=>⟨f3 b hb,T.fpLt P b hb⟩) hns4 hk4
 have U:tn 0 h4:=T.keep _ _ _ P λb _ o e=>hk4 b o e;generalize D:cX X N scope F s3 (cs L k.heap.objs.size (.lst [])) m=Y at I4;have hg':=hg F s3 (cs L k.heap.objs.size (.lst [])) m;have ht':=ht F s3 (cs L k.heap.objs.size (.lst [])) m;have he':=he F s3 (cs L k.heap.objs.size (.lst [])) m;rw[D]at hg' ht' he';have yp:Y.prog=X.prog:=by rw[<-D];rfl
 have yw:Y.w=X.w:=by rw[<-D];rfl
 have yK:Y.K=X.K:=by rw[<-D];rfl
 have yA:Y.A=X.A:=by rw[<-D];rfl
 have yc:Y.calm=true:=by rw[<-D];exact hc
 have yx:Y.xe=Jd:=by rw[<-D];rfl
 have ye:Y.env=compEnvC scope F s3.heap.objs.size X.env:=by rw[<-D];rfl
 have fin:∀ {O:St}{C:Hp}{Z:Shared},aE Y [] O C Z->Q (.ref k.heap.objs.size) C->compPost (model X.prog X.w) X.A X.xe use QQ (.ref k.heap.objs.size) s3.heap.objs.size (.ok .next) Z:=λ{O C Z} I5 q=>by
  obtain⟨m5,hn5,_⟩:=I5.loc;have yl:Y.env.locals=s3.heap.objs.size:=by rw[ye];rfl
  rw[yl]at hn5;have un:=I5.base;have y1:Y.fs=zS X.stack:=by rw[<-D];rfl
  have y2:Y.ex=m:=by rw[<-D];rfl
  have y3:Y.H₀=cs L k.heap.objs.size (.lst []):=by rw[<-D];rfl
  have y4:Y.s₀=s3:=by rw[<-D];rfl
  rw[y1,y2,y3,y4]at un;have E:C s3.heap.objs.size=none:=by rw[<-yl];exact I5.free
  refine finish k.heap.objs.size s3.heap.objs.size C Z m5 (λh6 hs6=>?_) hn5 E I3.sz (ne_of_lt I3.lt) (λx c e=>?_) (λp hp=>?_) q
  .have k6:∀ b o,b≠s3.heap.objs.size->Z.heap.get? b=some o->h6.get? b=some o:=λb o hb e=>hs6.extBut b o hb e;have old:∀ b o,s3.heap.get? b=some o->b≠s3.heap.objs.size:=λb o e=>ne_of_lt (Heap.lt_size e);have un6:Un (zS X.stack) m (cs L k.heap.objs.size (.lst [])) C s3.heap h6:=
    ⟨λb o e n hb hx=>k6 b o (old b o e) (un.keep b o e n hb hx),λb o e n hb hx=>by obtain⟨sl,q⟩:=un.slot b o e n hb hx;exact⟨sl,k6 b _ (old b o e) q⟩,un.free,λb o e hx=>by obtain⟨o',q⟩:=un.there b o e hx;exact⟨o',k6 b o' (old b o e) q⟩,un.tups,un.frzs,un.tbls⟩
   have hok6:gz X.prog X.w C h6:=by
    have:=I5.hok;rw[yp,yw]at this;refine λa o e=>(this a o e).stay (λb u hb q=>k6 b u ?_ q) (λ_ z=>z) λ_ _ z=>z
    obtain z|z:=hb
    .subst z;intro z;rw[z,E]at e;cases e
    .intro y;rw[y,E]at z;cases z
   obtain⟨hh,gg,dd,tt,os'⟩:=Z;have ho:os'=s3.os:=by have:=I5.os;rw[y4]at this;exact this
   subst ho;refine aE.call (s:=s3) I3 (h':=h6) (g':=gg) (d':=dd) (t':=tt) (ch:=m) un6 hok6 I5.bare (λb hb=>?_);obtain⟨_,q1,_,q3,q4,q5⟩:=f3 b hb;exact⟨q3,q1,q4,q5⟩
  .obtain⟨v,oc,ho,_⟩:=I3.cell x c e;exact ne_of_lt (Heap.lt_size ho)
  .obtain⟨e,_⟩:=I3.pin p hp;exact ne_of_lt (Heap.lt_size e)
 have loop:∀ s4:Shared,aE Y [] (FO own fr σ) (cs L k.heap.objs.size (.lst [])) s4->tn 0 s4.heap->codeAny (model X.prog X.w) X.A (.compLoop (.ListComp elt [⟨tg,iter,ifs,0⟩] scope pos) 0 (.ref it) (.ref k.heap.objs.size) (compEnvC scope F s3.heap.objs.size X.env))
   (compPost (model X.prog X.w) X.A X.xe use QQ (.ref k.heap.objs.size) s3.heap.objs.size) s4:=by
  intro s4 I4 U;have M:∀ {C:Hp},(∀ b∈m,C b=none)->∀ b∈m,my Y [] C b:=λ{C} hn b hb=>by
   obtain⟨_,q1,q2,q3,q4,q5⟩:=f3 b hb;refine⟨hn b hb,?_,?_,?_,λx c e=>?_,λp hp=>?_⟩
   .rw[ye];exact ne_of_lt (T.fpLt P b hb)
   .have:Y.fs=zS X.stack:=by rw[<-D];rfl
    rw[this];intro z
    obtain q|q:=mem_cons.mp (I3.stkSub b z)
    .exact q1 q
    .exact q2 q
   .left;rw[<-D];exact hb
   .rw[ye]at e;exact q4 x c (hcl x c e)
   .rw[<-D]at hp;cases hp
  refine vR (λn s'=>∃ i O C,aE Y [] O C s'/\tn i s'.heap/\(∀ b∈m,C b=none)/\W i n O C) ?_ m0 ⟨0,_,_,I4,U,λb hb=>(f3 b hb).1,w0⟩;rintro n Z ⟨i,R,H5,I5,st5,fr5,w5⟩;rw[<-yp,<-yw,<-yA,<-ye,<-yx];have T':Turn Y.prog Y.w Y.K tg J m it tn:=by rw[yp,yw,yK];exact T
  obtain⟨stop,qn⟩|⟨go,step⟩:=turn i n R H5 w5
  .refine cG (T'.done Y rfl rfl rfl yc i [] Z R H5 Y.xe I5 (M fr5) st5 stop) ?_;rintro r s6 ⟨hr,I6⟩;subst hr;have q:=fin I6 qn;rw[<-yp,<-yw,<-yA]at q;exact q
  .refine cG (T'.item Y rfl rfl rfl yc i [] Z R H5 Y.xe I5 (M fr5) st5 go) ?_;rintro r s6 ⟨u,hr,h6⟩;subst hr;refine cG h6 ?_;rintro _ s7 ⟨x,H7,I7,r7,y7,st7,fr7⟩;have I7':=I7.pinned (M fr7) (T.obj _ _ st7);have stay:∀ {B:St}{H8:Hp}{s8:Shared},aE Y ([]++oD m s7.heap) B H8 s8->tn (i+1) s8.heap/\∀ b∈m,H8 b=none:=λ{B H8 s8} I8=>by
    refine⟨T.keep _ _ _ st7 λb hb o e=>(I8.pin (b,o) (mem_append_right _ (mem_append_right _ (gO hb e)))).1,λb hb=>?_⟩;obtain⟨o,e,d⟩:=T.obj _ _ st7 b hb;exact(I8.pin (b,o) (mem_append_right _ (mem_append_right _ (gO hb e)))).2.1
   refine cG (hg' _ s7 R H7 x u _ I7' r7 (step x H7 y7)) ?_;rintro _ s8 ⟨B,H8,I8,q8⟩;refine cG (ht' _ s8 B H8 _ I8 q8) ?_;rintro ok s9 ⟨H9,I9,q9⟩
   cases ok with
   |false=>
    obtain⟨m',hm,w9⟩:=q9;obtain⟨t9,f9⟩:=stay I9;exact⟨m',hm,i+1,B,H9,I9.unpinned,t9,f9,w9⟩
   |true=>
    refine cG (he' _ s9 B H9 _ I9 q9) ?_;rintro y s10 ⟨v,H10,I10,r10,xs,hD,hz,m',hm,w10⟩;refine cG (qp (X:=Y) _ s10 B H10 (.ref k.heap.objs.size) [v] (.ref k.heap.objs.size) [y] (λ_ C=>C=cs H10 k.heap.objs.size (.lst (xs++[v]))) I10 rfl (.cons r10 .nil) ⟨_,xs,v,rfl,rfl,hD,hz,rfl⟩) ?_;rintro _ s11 ⟨_,H11,I11,_,q11⟩;subst q11;obtain⟨t11,f11⟩:=stay I11;exact⟨m',hm,i+1,B,_,I11.unpinned,t11,f11,w10⟩
 have pc:codeAny (model X.prog X.w) X.A (.compLoop (.ListComp elt [⟨tg,iter,ifs,0⟩] scope pos) 0 (.ref it) (.ref k.heap.objs.size) (compEnvC scope F s3.heap.objs.size X.env)) (compPost (model X.prog X.w) X.A X.xe use QQ (.ref k.heap.objs.size) s3.heap.objs.size) {s3 with heap:=h4,toks:=s3.toks+([]:List (Str × Value)).length}:=
  loop _ I4 U
 exact codeAny_compStart_list pc (T.self X.A 0 _ _ _ U pc)
theorem Ic (S:iw N own fr X.N scope X.env.scope)(k:X.calm=true)(hi:PI X tg iter wi)
  (b:∀ a s H p,PG (cX X N scope a s H p) tg g) (o:∀ a s H p,FW (cX X N scope a s H p) ifs tc) (he:∀ a s H p,PE (cX X N scope a s H p) elt te)
  (hs:∀ x,foldedSetIterable iter X.env x=pure x:=by intro _;rfl):PE X (.ListComp elt [⟨tg,iter,ifs,0⟩] scope pos) (yW own fr wi g tc te):=by
 intro p s a H Q I h;rw[eval_ListComp];exact p7 S k hi b o he hs I h λD C e a m i a _ _ _ _ _ q=>⟨m,a,λd a=>⟨.ref D,e,i d a,rfl,q⟩⟩
theorem Ik (hN:X.N.Nodup)(B:X.N[i]?=some x)(W:Loc X.env.scope x)(S:iw N own fr X.N scope X.env.scope)(Y:X.calm=true)(hi:PI X tg iter wi)
  (Q:∀ v s H m,PG (cX X N scope v s H m) tg g) (ht:∀ v s H m,FW (cX X N scope v s H m) ifs tc) (he:∀ v s H m,PE (cX X N scope v s H m) elt te)
  (hs:∀ x,foldedSetIterable iter X.env x=pure x:=by intro _;rfl) (hw:swapsWith (.ListComp elt [⟨tg,iter,ifs,0⟩] scope pos) (some (.Name x p)) d.line X.env=pure true:=by rfl) (R:X.fn x=true\/X.env.scope.names.lookup x=some .local:=by first|exact .inl rfl|exact .inr rfl|assumption) :
  PS X (.Assign [.Name x p] (.ListComp elt [⟨tg,iter,ifs,0⟩] scope pos) d) (M5 (yW own fr wi g tc te) (CZ i)):=by
 intro u s σ H D I h;rw[exec_Assign_Name_used x p _ d hw];refine wpAny_bind (wpAny_standAt (wpAny_bind ?_));rw[arm_evalThenUse_ListComp];refine wpAny_bind (cG (p7 (use:=some (assign (.Name x p) X.env)) (QQ:=λ_ O=>SP X u D .next O) S Y hi Q ht he hs I h λL C Z M m5 hI hn k E P r y q=>?_) λ_ O h=>wpAny_pure (wpAny_pure h));show wpAny _ _ (assign (.Name x p) X.env (.ref L)) _ _ M;refine wpAny_assign_Name (qF (hI M.heap (.refl ..)) hN B W (show RelV (.ref L) (.ref L) from rfl) (?_) R);rintro s6 U ⟨a,F,ha⟩;have nC:a≠C:=by
  obtain z|z:=ha
  .rw[z];exact P
  .exact r x a z
 refine⟨m5,hn.sameBut F (Ne.symm nC),λh6 J=>?_⟩;exact⟨_,Z,U.turned (t':=s6.toks) (it:=C) (λb o hb e=>J.extBut b o hb e) k (Ne.symm P) (.inr E) r y,q⟩
end
end L2
namespace DL
open PySem L2
theorem Rel.mutate (r:Rel K F H σ g)(hi:g[i]?=some (some (.ol ts)))(ha:σ[i]?=some (some (.ref a)))(B:F a=none)(m:∃ E,H a=some (.lst E))(O:aq K F us ys) :
  Rel K F (cs H a (.lst ys)) σ (g.set i (some (.ol us))):=by
 obtain⟨E,m⟩:=m;have ne:∀ b o,F b=some o->b≠a:=λb o e z=>by rw[z,B]at e;cases e
 have lt:i<g.length:=by
  rw[List.getElem?_eq_some_iff]at hi;exact hi.1
 refine⟨⟨λb o e n=>by rw[aV (ne b o e)];exact r.sub.all _ _ e n,λb p e=>by rw[aV (ne b _ e)];exact r.sub.tbl _ _ e⟩,λb o e n=>?_,by rw[length_set];exact r.len,λj s k=>?_,λj l b d p L J Q M=>?_,vh r.tab m⟩
 .unfold cs at e
  split at e
  .cases e;exact .inr ⟨ys,rfl⟩
  .exact r.full _ _ e n
 .by_cases z:i=j
  .subst z;rw[getElem?_set_self lt]at k
   cases k
   exact⟨_,ha,a,ys,rfl,B,aW,O⟩
  .rw[getElem?_set_ne z]at k;obtain⟨v,u,q⟩:=r.slot j s k;refine⟨v,u,?_⟩
   cases s with
   |t x=>exact q
   |vt D=>exact q
   |ol D=>
    obtain⟨b,bs,C,I,P,E⟩:=q;have q:b≠a:=λy=>by
     subst y;subst C;exact r.dist i j b ts D z hi k ha u
    exact⟨b,bs,C,I,by rw[aV q];exact P,E⟩
 .have own:∀ (j:Nat) (d:List T),(g.set i (some (.ol us)))[j]?=some (some (.ol d))->∃ k:List T,g[j]?=some (some (.ol k)):=λj d h=>by
   by_cases z:i=j
   .subst z;exact⟨ts,hi⟩
   .rw[getElem?_set_ne z]at h;exact⟨d,h⟩
  obtain⟨q,u⟩:=own j d J;obtain⟨d,k⟩:=own l p Q;exact r.dist j l b q d L u k M
section
variable {X:Cx}{e:Expr}{we wv:WE}{pos:Pos}{H₀:Hp}{i:Nat}{x:Str}{p1 p2:Pos}
theorem mN (h:n<100000):n<sizeLine:=lt_trans h ⋯
theorem e9 (he:PE X e (au X.K we)) (O:PE X (.Name x p1) (vg i):=by exact pv _) (g:attributeBase (.Name x p1) "append" X.env (eval (.Name x p1) X.env)=eval (.Name x p1) X.env:=by rfl)
  (m:((backTo pos (starEach [e] X.env)).all (λx=>!x.1) && (backToKw pos (keywordEach [] X.env)).all (λx=>x.1.isSome) && decide ([e].length+([]:List Keyword).length+(if ([]:List Keyword).isEmpty then 0 else 1)<30))=true:=by rfl)
  (k:(p2.endLine == pos.line)=true:=by rfl) (hs:starEach [e] X.env=(false,eval e X.env)::starEach [] X.env:=by exact aN rfl) (b:(backTo pos (starEach [] X.env)).any (·.1)=false:=by exact cm rfl)
  (r:swapsWith (.Call (.Attribute (.Name x p1) "append" p2) [e] [] pos) none d.line X.env=pure false:=by rfl) :
  PS X (.Expr (.Call (.Attribute (.Name x p1) "append" p2) [e] [] pos) d) (bK X.K H₀ (e5 i we)):=
 (kK (JK PySem.F.plainAttrs_list PySem.F.slot_list_append PySem.F.type_list_append qp O (i7 he oB hs) g m k hs b) r).imp λD M H ⟨L,R,F,s0,u,h,ok⟩=>by
  unfold e5 at h
  split at h
  .rename_i P hi;obtain⟨v,ha,a,z,rfl,I,o,C⟩:=u.slot i _ hi;refine⟨_,ha,.inl ⟨rfl,z,cC.of o⟩,L,_,F,u,h,λv J Q s e p q=>?_⟩
   cases s with
   |t y=>
    obtain⟨E,q⟩:=q;have B:=e.hh.get o;refine⟨a,z,v,rfl,rfl,B,by rw[C.length];exact mN E,?_⟩
    exact ok.nx M J _ _ e.ff ((u.ext e).mutate hi ha (e.keep a (by rw[o];simp) I) ⟨z,B⟩ ((aq.same e.ff C).append (aq.one p))) q
   |_=>exact q.elim
  .exact h.elim
theorem Dm (h:l≠[]):∃ x,l[l.length-1]?=some x:=by
 cases l with
 |nil=>exact absurd rfl h
 |cons a r=>exact⟨_,List.getElem?_eq_getElem (by simp)⟩
theorem Li (E:PE X (.Name x p1) (vg i):=by exact pv _) (b:attributeBase (.Name x p1) "pop" X.env (eval (.Name x p1) X.env)=eval (.Name x p1) X.env:=by rfl) (d:(p2.endLine == pos.line)=true:=by rfl)
  (o:swapsWith (.Call (.Attribute (.Name x p1) "pop" p2) [] [] pos) none p.line X.env=pure false:=by rfl):PS X (.Expr (.Call (.Attribute (.Name x p1) "pop" p2) [] [] pos) p) (bK X.K H₀ (IZ i)):=
 (kK (EW PySem.F.plainAttrs_list PySem.F.slot_list_pop PySem.F.type_list_pop L5 E b d) o).imp λD B H ⟨J,L,F,s0,u,h,ok⟩=>by
  unfold IZ at h
  split at h
  .rename_i I hi;obtain⟨v,ha,a,k,rfl,z,m,r⟩:=u.slot i _ hi;obtain⟨g,h⟩:=h;obtain⟨t,C⟩:=Dm g;obtain⟨y,q,_⟩:=r.get C;rw[<-r.length]at q;refine⟨_,ha,.inl ⟨rfl,k,cC.of m⟩,a,k,y,rfl,rfl,m,q,?_⟩;exact ok.nx B F _ _ (Same.refl _) (u.mutate hi ha z ⟨k,m⟩ r.dropLast) h
  .exact h.elim
theorem BN (he:PE X e (au X.K we))(hw:PE X v (au X.K wv))(hv:PE X (.Name x p1) (vg i):=by exact pv _)
  (ha:∀ z,assign (.Subscript (.Name x p1) e p2) X.env z=(do
   let ov ← holding [z] (eval (.Name x p1) X.env)
   let iv ← holding [z,ov] (eval e X.env)
   standAt p2
   holding [z,ov,iv] (setItem ov iv z)
   release [z,ov,iv] []):=by intro _;rfl)
  (hs:swapsWithSole [.Subscript (.Name x p1) e p2] v pos.line X.env=pure false:=by rfl) (hsw:swappedStores [.Subscript (.Name x p1) e p2] v X.env=pure none:=by rfl)
  (h1:(assignEach [.Subscript (.Name x p1) e p2] X.env).map (·.2)=[assign (.Subscript (.Name x p1) e p2) X.env]:=by rfl) :
  PS X (.Assign [.Subscript (.Name x p1) e p2] v pos) (bK X.K H₀ (tF i we wv)):=
 (E5 hw (Mz hv he set_list ha) hs hsw h1).imp λD σ H ⟨δ,D',F,s0,rl,h,ok⟩=>by
  unfold tF at h
  split at h
  .rename_i ts hi;obtain⟨v,ha,a,xs,rfl,hF,hH,hr⟩:=rl.slot i _ hi;refine⟨δ,_,F,rl,h,λv1 F1 H1 s1 e1 p1 q1=>⟨_,ha,δ,_,F1,rl.ext e1,q1,λv2 F2 H2 s2 e2 p2 q2=>?_⟩⟩;have e12:=e1.trans e2
   split at q2
   .rename_i y k
    split at q2
    .rename_i j hj;have h2:=e12.hh.get hH;refine⟨a,xs,k,j,rfl,p2,h2,by rw[hr.length];exact hj,?_⟩
     exact ok.nx σ F2 _ _ e12.ff ((rl.ext e12).mutate hi ha (e12.keep a (by rw[hH];simp) hF) ⟨xs,h2⟩ ((aq.same e12.ff hr).set (az.same e2.ff p1) j)) q2
    .exact q2.elim
   .exact q2.elim
  .exact h.elim
end
def re (R:List T->Prop):S->Prop
 | .t (.lst a)=>R a
 | .vt (.lst a)=>cI a=true/\R a
 | .ol a=>R a
 |_=>False
def zO:S->S->(S->Prop)->Prop:=λa b R=>re (λd=>re (λu=>d.length+u.length<=100000/\R (.ol (d++u))) b) a
def JO (K:Frg):R2:=λx y H Q=>∃ l b a z,x=.ref l/\y=.ref b/\cC K H l a/\cC K H b z/\a.length+z.length<=sizeLine/\∀ p,H p=none->Q (.ref p) (cs H p (.lst (a++z)))
theorem HV:lu X (binaryOp .Add) (JO X.K):=by
 intro p s a H x y v u Q I e a h;obtain⟨l,b,d,d,rfl,rfl,d,g,hz,q⟩:=h
 cases e
 cases a
 obtain⟨a,r,pl,z⟩:=I.list d;obtain⟨i,o,p,d⟩:=I.list g;obtain⟨⟨d,F,d,E⟩,C,B,n,hd⟩:=pl.isList;obtain⟨⟨d,m,d,k⟩,g,d,D,e⟩:=p.isList;simp only at B hd d e;subst B hd d e;have d:=r.length;have d:=o.length;refine PySem.concat_meets ⟨_,C,rfl⟩ ⟨_,g,rfl⟩ PySem.noFill_list_add PySem.seq_list_add PySem.F.slot_list_add PySem.F.entry_list_add (PySem.F.args_list_add_2 _ _) (PyProof.Rows.list_addW l b a.toArray i.toArray n D F m E k (by rw[size_toArray,size_toArray];ext)) ⟨C,g,?_⟩
 have e:a.toArray++i.toArray=(a++i).toArray:=by simp
 rw[e];exact⟨.ref _,_,I.lnew (t':=s.toks) (r.append o) (by rw[List.length_append];ext),rfl,q _ I.fresh⟩
theorem nJ (sb:Same F H)(u:f6 F H)(h:re R s)(p:f7 K F H s v):∃ g a x,v=.ref a/\cC K H a x/\aq K F g x/\R g:=by
 unfold re at h
 split at h
 .unfold f7 az at p;obtain⟨a,x,d,b,e⟩:=p;exact⟨_,a,x,d,sb.seq b,e,h⟩
 .unfold f7 az at p;obtain⟨a,x,d,b,e⟩:=p;exact⟨_,a,x,d,b,aq.full u h.1 e,h.2⟩
 .unfold f7 at p;obtain⟨a,x,d,b,e⟩:=p;exact⟨_,a,x,d,b,e,h⟩
 .exact h.elim
theorem HR:FV K (JO K) zO:=λF H d d v v R Q sb u d m h k=>by
 obtain⟨e,a,x,rfl,o,g,h⟩:=nJ sb u h d;obtain⟨d,b,y,rfl,i,e,d,h⟩:=nJ sb u h m;refine⟨a,b,x,y,rfl,rfl,o,i,by rw[g.length,e.length];exact le_trans d ⋯,λp d=>?_⟩
 exact k _ F _ (.ol _) (dq.newL _ sb u d) ⟨p,_,rfl,d,aJ sb d,aW,g.append e⟩ h
theorem vX (ha:PE X a (au X.K d))(hb:PE X b (au X.K e)):PE X (.BinOp a .Add b p) (au X.K (av zO d e)):=(oC HV ha hb).imp (cf HR)
def aD (N:List Str)(a:List S):bf:=a.map some++replicate (N.length-a.length) none
theorem qy:∀ {a:List S}{b:List V}{i:Nat}{s:S},ma K F H a b->a[i]?=some s->∃ v,b[i]?=some v/\f7 K F H s v
 | [],_,_,_,_,h=>by simp at h
 |s::a,_,0,u,⟨v,r,e,p,q⟩,h=>by subst e;simp at h;subst h;exact⟨v,by simp,p⟩
 |s::a,_,i+1,u,⟨v,r,e,p,q⟩,h=>by
  subst e;obtain⟨y,g,d⟩:=qy (i:=i) q (by simpa using h)
  exact⟨y,by simpa using g,d⟩
theorem i8:∀ {a:List S}{b:List V},ma K F H a b->b.length=a.length
 | [],_,e=>by cases (show _=[] from e);rfl
 |s::a,_,⟨v,r,e,p,q⟩=>by subst e;rw[length_cons,length_cons,i8 q]
theorem qE {N:List Str}{a:List S}{i:Nat}{s:S}(h:(aD N a)[i]?=some (some s)):a[i]?=some s:=by
 unfold aD at h
 by_cases hi:i<a.length
 .rw[getElem?_append_left (by simpa using hi),getElem?_map]at h
  cases e:a[i]? with
  |none=>rw[e]at h;cases h
  |some u=>rw[e]at h;simpa using h
 .rw[getElem?_append_right (by simpa using hi),getElem?_replicate]at h
  split at h <;> cases h
theorem qx {K:Frg}{H:Hp}{N:List Str}{d:List S}{vs:List V}(tk:lA K H)(m:d.length<=N.length)(ha:∀ s∈d,Bo s)(r:ma K H H d vs):Rel K H H (L2.start N vs) (aD N d):=by
 have b:=i8 r;refine⟨Same.refl _,λ_ _ h _=>.inl h,?_,λi s h=>?_,λi j a g u _ b=>?_,tk⟩
 .unfold L2.start aD;rw[List.length_append,List.length_append,length_map,length_map,length_replicate,length_replicate];ext
 .have b:=qE h;obtain⟨v,e,k⟩:=qy r b;refine⟨v,?_,?_⟩
  .unfold L2.start;have hi:i<vs.length:=by rw[List.getElem?_eq_some_iff]at e;exact e.1
   rw[getElem?_append_left (by simpa using hi),getElem?_map,e]
   rfl
  .have:=ha s (mem_of_getElem? b)
   cases s with
   |t x=>exact k
   |vt g=>exact this.elim
   |ol g=>exact this.elim
 .have:=ha _ (mem_of_getElem? (qE b));exact this.elim
section
variable {P:Program}{wd:World}{K:Frg}{mg:Str->Option Value}{base:Heap}
theorem BJ (F:Jb K x a st f m)(S:ay N ps (al st))
  (g:∀ b R,sp b R->b.length=ps.length)
  (y:∀ (d:Value) (A:Around) (outer:List Env) (s:Shared) (H:Hp) (E:XK),cu k (A.deeper (PyProof.Rows.envOfC a (al st) s.heap.objs.size f d))->ki (pz xx P wd K mg base N a (al st) f d A outer s H E).nox (cy st) (bK K H w))
  (h:∀ b R,sp b R->w {nx:=λ_=>R (.t .non),rt:=R} (aD N b)):ix P wd K mg base xx (k+1) f m ps (tq K sp):=by
 have pl:ps.length<=N.length:=by
  have:=congrArg List.length S.pre;rw[length_take]at this;ext
 refine F.ok S (λi H Q E e=>?_) (λd A outer s H i Q E o e=>?_)
 .obtain⟨b,R,_,_,r,e,_⟩:=e;rw[i8 r,g b R e]
 .obtain⟨b,R,i,ha,r,e,k⟩:=e;refine⟨_,y d A outer s H E o,aD N b,_,H,Same.refl _,qx i (by rw[g b R e];exact pl) ha r,h b R e,⟨λb b b d ff d q=>?_,λv b e o i rc q=>k v b e o i rc q,λ_ _ _ _ _ _ z=>z.elim,λ_ _ _ _ _ _ z=>z.elim⟩⟩
  exact k .non b (.t .non) (ff.trans d.sub) d.tab rfl q
theorem p6 (F:Jb K x q st f d)(hm:mg x=some (.ref f))(b:Binds K d ps [])(h:ix P wd K mg base xx k f d ps (tq K sp)):Callee P wd K mg base k x sp:=
 ⟨f,d,ps,hm,h,b,F.kp⟩
def yT:aO:=λa R=>∃ ns:List Int,a=[.t (.lst (ns.map .int))]/\ns.length<=63/\R (.t (.bl true))
theorem LU {K:Frg}{H:Hp}{a:Addr}{ns:List Int}(tk:lA K H)(b:ns.length<=63)(d:cC K H a (ns.map V.int)):tq K yT [.ref a] H (λv _=>v=.bl true) λ_ _ _=>False:=
 ⟨[.t (.lst (ns.map .int))],λs=>s=.t (.bl true),tk,λs h=>by simp at h;subst h;exact True.intro,⟨.ref a,[],rfl,by show az K H (.lst _) _;unfold az;exact⟨a,_,rfl,d,aq.ints ns⟩,rfl⟩,⟨ns,rfl,b,rfl⟩,λv h s _ _ rc e=>by subst e;exact rc⟩
end
def px (own:Nat)(fr:List Nat)(a:bf):bf:=replicate own none++fr.map λi=>(a[i]?).join
def qd (k:T->Prop):S->Prop
 | .t y=>kM y=true/\k y
 | .ol a=>cI a=true/\k (.lst a)
 | .vt _=>False
def nK (g:WG)(e:WT)(te:WE)(ts:List T)(d:bf)(R:List T->Prop):Prop:=∃ I:List T->bf->List T->Prop,I ts d []/\(∀ d a,I [] d a->R a)/\∀ x r d a,I (x::r) d a →
 g x d λb=>e b λok=>if ok=true then te b λs=>qd (λy=>a.length<100000/\I r b (a++[y])) s else I r b a
def dm (own:Nat)(fr:List Nat)(i:WI)(g:WG)(d:WT)(te:WE):WE:=λa R=>i a λb a=>nK g d te b (px own fr (freeze a)) λa=>R (.ol a)
def kg:WT:=λ_ R=>R true
def nA (b:bf):Prop:=∀ (i:Nat) (a:List T),b[i]?≠some (some (S.ol a))
def P5 (g:WG):Prop:=∀ t a R,nA a->g t a R->g t a λa=>nA a/\R a
theorem nA.set (h:nA a)(i:Nat)(t:T):nA (a.set i (some (.t t))):=λj b e=>by
 by_cases z:i=j
 .subst z;rw[getElem?_set]at e;simp at e
 .rw[getElem?_set_ne z]at e;exact h j b e
theorem bI:P5 (aQ i):=λt a R h q=>⟨h.set i t,q⟩
def tR (K:Frg)(H F:Hp)(t:T)(v:V):Prop:=(kM t=true/\az K F t v)\/∃ b a x,t=.lst b/\cI b=true/\v=.ref a/\H a=none/\F a=some (.lst x)/\aq K F b x
def dH (K:Frg)(H F:Hp):List T->List V->Prop
 | [],a=>a=[]
 |t::b,a=>∃ x r,a=x::r/\tR K H F t x/\dH K H F b r
theorem tR.same (e:Same F b)(h:tR K H F t v):tR K H b t v:=by
 obtain⟨p,h⟩|⟨g,a,x,m,q,o,i,k,d⟩:=h
 .exact .inl ⟨p,az.same e h⟩
 .exact .inr ⟨g,a,x,m,q,o,i,e.get k,aq.same e d⟩
theorem dH.same (e:Same F b):∀ {a:List T}{d:List V},dH K H F a d->dH K H b a d
 | [],_,h=>h
 |_::_,_,⟨x,r,k,g,i⟩=>⟨x,r,k,g.same e,dH.same e i⟩
theorem dH.snoc (h:tR K H F t v):∀ {a:List T}{b:List V},dH K H F a b->dH K H F (a++[t]) (b++[v])
 | [],_,e=>by cases (show _=[] from e);exact⟨v,[],rfl,h,rfl⟩
 |_::_,_,⟨x,r,i,d,g⟩=>by subst i;exact⟨x,r++[v],rfl,d,dH.snoc h g⟩
theorem dH.length:∀ {a:List T}{b:List V},dH K H F a b->b.length=a.length
 | [],_,e=>by cases (show _=[] from e);rfl
 |_::_,_,⟨x,r,d,_,h⟩=>by subst d;rw[length_cons,length_cons,dH.length h]
theorem Rel.other (r:Rel K F H σ g)(h:F a=none)(no:nA g)(u:H a=none\/∃ p,H a=some (.lst p)):Rel K F (cs H a (.lst ys)) σ g:=by
 refine⟨⟨λb o e n=>?_,λb p e=>?_⟩,λb o e n=>?_,r.len,λj s k=>?_,λi j b d m _ m=>absurd m (no i d),u.elim (λz=>Fx r.tab z rfl) <| by rintro⟨_,z⟩;exact vh r.tab z⟩
 .have:b≠a:=λz=>by rw[z,h]at e;cases e
  rw[aV this];exact r.sub.all _ _ e n
 .have:b≠a:=λz=>by rw[z,h]at e;cases e
  rw[aV this];exact r.sub.tbl _ _ e
 .unfold cs at e
  split at e
  .cases e;exact .inr ⟨ys,rfl⟩
  .exact r.full _ _ e n
 .obtain⟨v,m,q⟩:=r.slot j s k;refine⟨v,m,?_⟩
  cases s with
  |t x=>exact q
  |vt x=>exact q
  |ol d=>exact absurd k (no j d)
theorem mi (b:bf):nA (freeze b):=λi a e=>by
 obtain⟨u,_,h⟩:=jU e;exact jM u a h.symm
theorem tZ (h:(px own fr a)[i]?=some (some s)):own<=i/\∃ k,fr[i-own]?=some k/\a[k]?=some (some s):=by
 unfold px at h
 by_cases hi:i<own
 .rw[getElem?_append_left (by simpa using hi),getElem?_replicate,if_pos hi]at h
  cases h
 .have hi:own<=i:=by omega
  refine⟨hi,?_⟩;rw[getElem?_append_right (by simpa using hi),length_replicate,getElem?_map]at h
  cases e:fr[i-own]? with
  |none=>rw[e]at h;cases h
  |some k=>
   rw[e]at h;refine⟨k,rfl,?_⟩;have e:(a[k]?).join=some s:=by simpa using h
   cases q:a[k]? with
   |none=>rw[q]at e;cases e
   |some o=>rw[q]at e;simpa using e
theorem lE (h:nA a):nA (px own fr a):=λi b e=>by
 obtain⟨_,k,_,d⟩:=tZ e;exact h k b d
theorem II (r:Rel K H H σ b)(no:nA b)(e:H D=none):Rel K H (cs H D (.lst [])) (FO own fr σ) (px own fr b):=by
 have:Rel K H H (FO own fr σ) (px own fr b):=by
  refine⟨r.sub,r.full,?_,λi s h=>?_,λi j a g u _ d=>absurd d (lE no i g),r.tab⟩
  .unfold FO px;rw[List.length_append,List.length_append,length_replicate,length_replicate,length_map,length_map]
  .obtain⟨hi,k,d,g⟩:=tZ h;obtain⟨v,q,m⟩:=r.slot k s g;refine⟨v,?_,m⟩;unfold FO;rw[getElem?_append_right (by simpa using hi),length_replicate,getElem?_map,d]
   simp[q]
 exact this.other e (lE no) (.inl e)
def mG (N:List Str)(no:Nat)(fr:List Nat)(NX:List Str)(b a:Scope):Bool:=
 decide (b.kind=.function) && b.names.all (λy=>decide (y.2≠.cell)) && decide N.Nodup && decide (N.length=no+fr.length) &&
 b.names.all (λy=>decide (y.2=.local->b.names.lookup y.1=some .local)) && b.names.all (λy=>decide (y.2=.free->a.names.lookup y.1=some .cell)) &&
 (List.range no).all (λi=>match N[i]? with|some x=>decide (b.names.lookup x=some .local)|none=>true) &&
 (List.range fr.length).all (λj=>match fr[j]?,N[no+j]? with|some i,some x=>decide (NX[i]?=some x/\b.names.lookup x=some .free)|_,_=>true)
theorem BA (h:mG N no fr NX d a=true):iw N no fr NX d a:=by
 unfold mG at h;simp only[Bool.and_eq_true,decide_eq_true_eq,List.all_eq_true,mem_range]at h;obtain⟨⟨⟨⟨⟨⟨⟨q,p⟩,o⟩,g⟩,m⟩,b⟩,k⟩,r⟩:=h;refine⟨q,p,o,g,m,b,λi x e hi=>?_,λj i x b g=>?_⟩
 .have:=k i hi;rw[e]at this;simpa using this
 .have k:j<fr.length:=(List.getElem?_eq_some_iff.mp b).1;have:=r j k;rw[b,g]at this;simpa using this
section
variable {X:Cx}{N:List Str}{own:Nat}{fr:List Nat}{scope:Scope}{elt tg iter:Expr}{ifs:List Expr}{pos:Pos}{wi:WI}{g:WG}{tc:WT}{te:WE}
theorem dr:FW Y [] (liftT Y.K kg):=by rintro p s a H Q I ⟨b,R,F,r,h,k⟩;exact Io p s a H Q I (k F H true r.refl h)
theorem kB (h:PT Y c (liftT Y.K t)):FW Y [c] (liftT Y.K t):=Ip h
theorem qh (go:P5 g):∀ σ H Q,au X.K (dm own fr wi g tc te) σ H Q->yW own fr (mn X.K wi) (kF X.K g) (liftT X.K tc) (au X.K te) σ H Q:=
 λσ H Q ⟨d,R,F,rl,h,k⟩=>⟨d,_,F,rl,h,λJ d d P I B e d O it q D Y=>by
  have sH:Same H P:=e.hh;obtain⟨W,U,M,E⟩:=q;refine⟨λi m o C=>m=I.length-i/\i<=I.length/\∃ e L d u,Same P L/\L D=none/\C D=some (.lst u)/\Rel X.K L C o e/\nA e/\dH X.K H L d u/\W (I.drop i) e d,
   ⟨I.length,by simp,zero_le _,px own fr (freeze B),P,[],[],Same.refl _,Y,aW,II O.freeze (mi _) Y,lE (mi _),rfl,by simpa using U⟩,?_⟩
  rintro i m o C ⟨rfl,hi,e,L,d,u,P,fD,Z,o,no,U,h⟩;obtain⟨hgo,B⟩:=it L C i (O.sub.trans P) o.sub o.full
  cases hd:I.drop i with
  |nil=>
   rw[hd]at h;have:I.length<=i:=by simpa using hd
   refine .inl ⟨B this,?_⟩;have B:Same H C:=(sH.trans P).trans o.sub;have ex:=kE (x:=some D) rl.sub rl.full B (λb z=>by cases z;exact⟨u,Z⟩) (λ_=>o.tab.1)
   have B:H D=none:=aJ sH Y;refine k _ _ C (.ol d) ex ⟨D,u,rfl,B,?_,Z,?_⟩ (M e d h)
   .unfold grow;rw[if_pos (by rw[B];rfl),if_pos rfl]
   .have all:∀ {d:List T}{u:List V},dH X.K H L d u->aq X.K (grow F H C (some D)) d u:=by
     intro d
     induction d with
     |nil=>intro u z;exact z
     |cons t r O=>
      rintro u ⟨x,C,B,M,Y⟩;refine⟨x,C,B,?_,O Y⟩
      obtain⟨p,z⟩|⟨us,a,ys,rfl,p,rfl,C,B,M⟩:=M
      .exact az.full ex.full p (az.same o.sub z)
      .unfold az;refine⟨a,ys,rfl,cC.of ?_,aq.full ex.full p (aq.same o.sub M)⟩;have:a≠D:=λz=>by rw[z,fD]at B;cases B
       unfold grow;rw[if_pos (by rw[C];rfl),if_neg (λz=>this (Option.some.inj z).symm)]
       exact o.sub.get B
    exact all U
  |cons x r=>
   rw[hd]at h;obtain⟨C,h2⟩:=ue hd;obtain⟨B,yld⟩:=hgo x C;have Y:i<I.length:=by
    have:=congrArg List.length hd;simp at this;omega
   refine .inr ⟨B,λv M y=>?_⟩;obtain⟨C,e3,B⟩:=yld v M y;have h:=E x r e d h;refine⟨x,e,_,C,B,o.ext e3,go x e _ no h,λe B e ⟨o,h⟩=>?_⟩;have E:C D=none:=e3.keep D (by rw[Z];simp) fD
   have M:=e3.hh.get Z;refine⟨B,_,C,e,h,λO H4 ok C h=>?_⟩;have D4:O D=none:=C.keep D (by rw[M];simp) E
   have E:=C.hh.get M;have M:Same L O:=e3.ff.trans C.ff
   cases ok with
   |false=>
    refine⟨I.length-(i+1),by omega,rfl,Y,B,O,d,u,P.trans M,D4,E,e.ext C,o,U.same M,?_⟩
    rw[h2];simpa using h
   |true=>
    simp only[if_true]at h;refine⟨B,_,O,e.ext C,h,λw Z H5 s O p5 h=>?_⟩;have L:=O.hh.get E;refine⟨u,L,?_,I.length-(i+1),by omega,rfl,Y,?_⟩
    .rw[U.length]
     cases s with
     |t y=>exact mN h.2.1
     |ol us=>exact mN h.2.1
     |vt y=>exact h.elim
    .cases s with
     |t y=>
      have I:Z D=none:=O.keep D (by rw[E];simp) D4
      refine⟨B,Z,d++[y],u++[w],(P.trans M).trans O.ff,I,aW,((e.ext C).ext O).other I o (.inr ⟨_,L⟩),o,(U.same (M.trans O.ff)).snoc (.inl ⟨h.1,p5⟩),?_⟩;rw[h2];exact h.2.2
     |ol us=>
      obtain⟨Y,sz⟩:=O.frozen (e.ext C).sub;have I:grow Z H4 H5 none D=none:=Y.keep D (by rw[E];simp) D4
      obtain⟨a,ys,rfl,E,O,q2,O⟩:=p5;refine⟨B,grow Z H4 H5 none,d++[.lst us],u++[.ref a],(P.trans M).trans Y.ff,I,aW,((e.ext C).ext Y).other I o (.inr ⟨_,L⟩),o,(U.same (M.trans Y.ff)).snoc (.inr ⟨us,a,ys,rfl,h.1,rfl,?_,?_,aq.same sz O⟩),?_⟩
      .have d:Same H H4:=((sH.trans P).trans M).trans C.sub;exact aJ d E
      .unfold grow;rw[if_pos (by rw[E];rfl),if_neg (by simp)]
       exact q2
      .rw[h2];exact h.2.2
     |vt y=>exact h.elim⟩
theorem dI (look:mG N own fr NX scope ar=true)(hi:PI X tg iter (mn X.K wi))(go:P5 g)
  (h:∀ a s H p,PG (cX X N scope a s H p) tg (kF X.K g)) (i:∀ a s H p,FW (cX X N scope a s H p) ifs (liftT X.K tc)) (he:∀ a s H p,PE (cX X N scope a s H p) elt (au X.K te)) (b:X.N=NX:=by rfl) (e:X.env.scope=ar:=by rfl) (d:X.calm=true:=by rfl)
  (hs:∀ x,foldedSetIterable iter X.env x=pure x:=by intro _;rfl):PE X (.ListComp elt [⟨tg,iter,ifs,0⟩] scope pos) (au X.K (dm own fr wi g tc te)):=
 (Ic (by subst b;subst e;exact BA look) d hi h i he hs).imp (qh go)
theorem dW (I:X.N.Nodup)(look:mG N own fr NX scope ar=true)(hi:PI X tg iter (mn X.K wi))(go:P5 g)
  (u:∀ k s H d,PG (cX X N scope k s H d) tg (kF X.K g)) (Q:∀ k s H d,FW (cX X N scope k s H d) ifs (liftT X.K tc)) (he:∀ k s H d,PE (cX X N scope k s H d) elt (au X.K te)) (L:X.N=NX:=by rfl) (o:X.env.scope=ar:=by rfl)
  (m:X.N[i]?=some x:=by rfl) (C:Loc X.env.scope x:=by first|exact Or.inl rfl|exact Or.inr rfl) (P:swapsWith (.ListComp elt [⟨tg,iter,ifs,0⟩] scope pos) (some (.Name x b)) a.line X.env=pure true:=by rfl) (y:X.fn x=true\/X.env.scope.names.lookup x=some .local:=by first|exact .inl rfl|exact .inr rfl|assumption) (E:X.calm=true:=by rfl)
  (hs:∀ x,foldedSetIterable iter X.env x=pure x:=by intro _;rfl):PS X (.Assign [.Name x b] (.ListComp elt [⟨tg,iter,ifs,0⟩] scope pos) a) (bK X.K H₀ (aP i (dm own fr wi g tc te))):=
 (Ik (i:=i) I m C (by subst L;subst o;exact BA look) E hi u Q he hs P y).imp <| by rintro D J H ⟨z,U,F,s0,r,h,ok⟩;exact qh go J H _ ⟨z,_,F,r,h,λv R M s e p q=>by
  obtain⟨O,ff,B⟩:=r.setS i e p;exact ok.nx _ O M _ ff B q⟩
end
end DL
namespace DL
open L2
def look (i:Nat)(a:bf)(k:S->Prop):Prop:=match a[i]? with
 |some (some s)=>k s
 |_=>False
theorem L0 (s:S)(r:bf)(k:S->Prop):look 0 (some s::r) k=k s:=rfl
theorem L1 (i:Nat)(x:Option S)(r:bf)(k:S->Prop):look (i+1) (x::r) k=look i r k:=rfl
def om (i:Nat)(a:bf)(k:List T->Prop):Prop:=match a[i]? with
 |some (some (.ol ts))=>k ts
 |_=>False
theorem Hv (ts:List T)(r:bf)(k:List T->Prop):om 0 (some (.ol ts)::r) k=k ts:=rfl
theorem Hw (i:Nat)(x:Option S)(r:bf)(k:List T->Prop):om (i+1) (x::r) k=om i r k:=rfl
section
variable (D:nt) (δ:bf) (R:S->Prop) (w u:WS) (we wa wb wv:WE) (ws:WA) (i j:Nat) (x y:T) (s:S) (t c:WT)
theorem Od:aG w u D δ=w {D with nx:=u D} δ:=rfl
theorem Oe:aP i we D δ=we δ λs=>D.nx (setS i s δ):=rfl
theorem Qt:f5 c w u D δ=c δ λk=>if k=true then w D δ else u D δ:=rfl
theorem Oc:bh we D δ=we δ λs=>D.rt (out s):=rfl
theorem KB:jQ i D δ=look i δ D.rt:=rfl
theorem KA:P3 D δ=D.rt (.t .non):=rfl
theorem Kv:br D δ=D.nx δ:=rfl
theorem F4:Nk D δ=D.bk δ:=rfl
theorem Ki:P1 D δ=D.ct δ:=rfl
theorem Kj:vn we D δ=we δ λ_=>D.nx δ:=rfl
theorem Oh:af i δ R=look i δ λs=>R (seen s):=rfl
theorem RF:wC x δ R=R (.t x):=rfl
theorem N7 (f:S->S->(S->Prop)->Prop):av f wa wb δ R=wa δ λx=>wb δ λy=>f x y R:=rfl
theorem Qv (f:S->(S->Prop)->Prop):tN f wa δ R=wa δ λx=>f x R:=rfl
theorem RE (C:Int->Int->Prop)(g:Int->Int->T)(i j:Int):fI C g (.t (.int i)) (.t (.int j)) R=(C i j/\R (.t (g i j))):=rfl
theorem Qr (g:Int->Int->T)(i j:Int):G1 g (.t (.int i)) (.t (.int j)) R=R (.t (g i j)):=rfl
theorem N5 (i:Int):gI (.t (.int i)) R=R (.t (.int (-i))):=rfl
theorem N1 (ts:List T)(i:Int):aU (.t (.tup ts)) (.t (.int i)) R=atT ts i R:=rfl
theorem NZ (ts:List T)(i:Int):aU (.t (.lst ts)) (.t (.int i)) R=atT ts i R:=rfl
theorem N3 (ts:List T)(i:Int):aU (.vt (.tup ts)) (.t (.int i)) R=vy ts i R:=rfl
theorem N2 (ts:List T)(i:Int):aU (.vt (.lst ts)) (.t (.int i)) R=vy ts i R:=rfl
theorem N0 (ts:List T)(i:Int):aU (.ol ts) (.t (.int i)) R=atT ts i R:=rfl
theorem dz {ts:List T}{i:Int}{x:T}{R:S->Prop}(h:atI ts i=some x):atT ts i R=R (.t x):=by unfold atT;rw[h]
theorem cJ {α:Type}{ts:List α}{n:Nat}{x:α}(h:ts[n]?=some x):atI ts (n:Int)=some x:=Gs h
theorem Om (r:List T):atT (x::r) 0 R=R (.t x):=dz (cJ (n:=0) rfl)
theorem On (r:List T):atT (x::y::r) 1 R=R (.t y):=dz (cJ (n:=1) rfl)
theorem Oo (z:T)(r:List T):atT (x::y::z::r) 2 R=R (.t z):=dz (cJ (n:=2) rfl)
theorem Oq (z a:T)(r:List T):atT (x::y::z::a::r) 3 R=R (.t a):=dz (cJ (n:=3) rfl)
theorem gC {ts:List T}{i:Int}{x:T}{R:S->Prop}(h:atI ts i=some x):vy ts i R=R (norm x):=by unfold vy;rw[h]
theorem Ot (r:List T):vy (x::r) 0 R=R (norm x):=gC (cJ (n:=0) rfl)
theorem Ou (r:List T):vy (x::y::r) 1 R=R (norm y):=gC (cJ (n:=1) rfl)
theorem Ov (z:T)(r:List T):vy (x::y::z::r) 2 R=R (norm z):=gC (cJ (n:=2) rfl)
theorem Ow (z a:T)(r:List T):vy (x::y::z::a::r) 3 R=R (norm a):=gC (cJ (n:=3) rfl)
theorem sF {x:T}(h:kM x=true):norm x=.t x:=if_pos h
theorem EB:norm .non=.t .non:=rfl
theorem HA (b:Bool):norm (.bl b)=.t (.bl b):=rfl
theorem Ez (i:Int):norm (.int i)=.t (.int i):=rfl
theorem ED (i:PySem.Str):norm (.str i)=.t (.str i):=rfl
theorem Ey (i:PySem.Str):norm (.exc i)=.t (.exc i):=rfl
theorem EA (ts:List T):norm (.lst ts)=.vt (.lst ts):=rfl
theorem HB (a b:Int):norm (.tup [.int a,.int b])=.t (.tup [.int a,.int b]):=rfl
theorem EC (a b c:Int):norm (.tup [.int a,.int b,.int c])=.t (.tup [.int a,.int b,.int c]):=rfl
theorem HC (a b c d:Int):norm (.tup [.tup [.int a,.int b],.tup [.int c,.int d]])=.t (.tup [.tup [.int a,.int b],.tup [.int c,.int d]]):=rfl
theorem Ly:setS i (.t x) δ=δ.set i (some (.t x)):=rfl
theorem Lx (ts:List T):setS i (.ol ts) δ=δ.set i (some (.ol ts)):=rfl
theorem Lz:setS i (.vt x) δ=(freeze δ).set i (some (.t x)):=rfl
theorem GY:seen (.t x)=.t x:=rfl
theorem GZ:seen (.vt x)=.vt x:=rfl
theorem GX (ts:List T):seen (.ol ts)=.vt (.lst ts):=rfl
theorem Lv:out (.t x)=.t x:=rfl
theorem Lw:out (.vt x)=.t x:=rfl
theorem Lu (ts:List T):out (.ol ts)=.ol ts:=rfl
theorem Ll:md (.t x)=.t x:=rfl
theorem Lm:md (.vt x)=.t x:=rfl
theorem Lj (ts:List T):md (.ol ts)=.t (.lst ts):=rfl
theorem Lr:got (.t x)=norm x:=rfl
theorem de (ts:List T)(h:cI ts=true):got (.ol ts)=.ol ts:=if_pos h
theorem Lq:eh (.t x)=.t x:=rfl
theorem Lo (ts:List T):eh (.ol ts)=.t (.lst ts):=rfl
theorem OK:freeze []=[]:=rfl
theorem Ln (r:bf):freeze (none::r)=none::freeze r:=rfl
theorem Lp (s:S)(r:bf):freeze (some s::r)=some (eh s)::freeze r:=rfl
theorem OM:tr (.t x)=x:=rfl
theorem ON:tr (.vt x)=x:=rfl
theorem OL (ts:List T):tr (.ol ts)=.lst ts:=rfl
def Rv (R:Bool->Prop):S->Prop
 | .t (.bl k)=>R k
 |_=>False
theorem RD (R:Bool->Prop):wB we δ R=we δ (Rv R):=rfl
theorem KJ (R:Bool->Prop)(k:Bool):Rv R (.t (.bl k))=R k:=rfl
theorem Kd (R:Bool->Prop):iW t c δ R=t δ λk=>if k=true then c δ R else R false:=rfl
theorem N8 (R:Bool->Prop):AR t c δ R=t δ λk=>if k=true then R true else c δ R:=rfl
theorem Kx (R:Bool->Prop):vo t δ R=t δ λk=>R (!k):=rfl
def Oj (B:Prop)(R:S->Prop):S->Prop
 | .t (.bl k)=>if k=true then B else R (.t (.bl false))
 |_=>False
def Rw (B:Prop)(R:S->Prop):S->Prop
 | .t (.bl k)=>if k=true then R (.t (.bl true)) else B
 |_=>False
def Pg (R:S->Prop):S->Prop
 | .t (.bl k)=>R (.t (.bl (!k)))
 |_=>False
theorem Ke:vm wa wb δ R=wa δ (Oj (wb δ R) R):=rfl
theorem N9:Rl wa wb δ R=wa δ (Rw (wb δ R) R):=rfl
theorem Ky:vp wa δ R=wa δ (Pg R):=rfl
theorem Gn (B:Prop)(k:Bool):Oj B R (.t (.bl k))=if k=true then B else R (.t (.bl false)):=rfl
theorem Mn (B:Prop)(k:Bool):Rw B R (.t (.bl k))=if k=true then R (.t (.bl true)) else B:=rfl
theorem HD (k:Bool):Pg R (.t (.bl k))=R (.t (.bl (!k))):=rfl
theorem NW:Nl c wa wb δ R=c δ λk=>if k=true then wa δ R else wb δ R:=rfl
theorem Qs (f:List S->(S->Prop)->Prop):dP f ws δ R=ws δ λa=>f a R:=rfl
theorem N6 (R:List S->Prop):ap δ R=R []:=rfl
theorem Kh (R:List S->Prop):ae wa ws δ R=wa δ λx=>ws δ λa=>R (x::a):=rfl
def tupK (R:S->Prop)(b:List S):Prop:=match la b with
 |some a=>if a.length<=1000 then R (.t (.tup a)) else False
 |none=>False
def lstK (R:S->Prop)(b:List S):Prop:=match la b with
 |some a=>if a.length<=1000 then R (.ol a) else False
 |none=>False
theorem Of:cF ws δ R=ws δ (tupK R):=rfl
theorem N4:jC ws δ R=ws δ (lstK R):=rfl
theorem Rf:tupK R [.t x]=R (.t (.tup [x])):=rfl
theorem Rg:tupK R [.t x,.t y]=R (.t (.tup [x,y])):=rfl
theorem Rh (z:T):tupK R [.t x,.t y,.t z]=R (.t (.tup [x,y,z])):=rfl
theorem QM:lstK R []=R (.ol []):=rfl
theorem QN:lstK R [.t x]=R (.ol [x]):=rfl
theorem QO:lstK R [.t x,.t y]=R (.ol [x,y]):=rfl
theorem QP (z:T):lstK R [.t x,.t y,.t z]=R (.ol [x,y,z]):=rfl
theorem QR (z a:T):lstK R [.t x,.t y,.t z,.t a]=R (.ol [x,y,z,a]):=rfl
theorem Ri (z a:T):tupK R [.t x,.t y,.t z,.t a]=R (.t (.tup [x,y,z,a])):=rfl
theorem Kf (sp:aO):ax sp ws δ R=ws δ λa=>sp (a.map md) λs=>R (got s):=rfl
theorem Kq (ts:List T):cL [.t (.tup ts)] R=R (.t (.int ts.length)):=rfl
theorem Ko (ts:List T):cL [.t (.lst ts)] R=R (.t (.int ts.length)):=rfl
theorem Ks (ts:List T):cL [.vt (.tup ts)] R=R (.t (.int ts.length)):=rfl
theorem Kr (ts:List T):cL [.vt (.lst ts)] R=R (.t (.int ts.length)):=rfl
theorem Kp (ts:List T):cL [.ol ts] R=R (.t (.int ts.length)):=rfl
theorem NT (i:Int):jA [.t (.int i)] R=R (.t (.int (if i<0 then -i else i))):=rfl
theorem Kt (i j:Int):ug [.t (.int i),.t (.int j)] R=R (.t (.int (if j>i then j else i))):=rfl
theorem Ku (i j:Int):p9 [.t (.int i),.t (.int j)] R=R (.t (.int (if j<i then j else i))):=rfl
theorem Kn (i:Int):OT [.t (.int i)] R=R (.t (.int i)):=rfl
theorem Km (b:Bool):OT [.t (.bl b)] R=R (.t (.int (if b then 1 else 0))):=rfl
theorem F9 (ts:List T):gH [.t (.lst ts)] R=R (.ol ts):=rfl
theorem Gb (ts:List T):gH [.vt (.lst ts)] R=(cI ts=true/\R (.ol ts)):=rfl
theorem Ga (ts:List T):gH [.ol ts] R=R (.ol ts):=rfl
theorem OQ (i j:Int):dO (.t (.int i)) (.t (.int j)) R=R (.t (.bl (decide (i=j)))):=by
 have e:(i == j)=decide (i=j):=by cases h:(i == j) <;> simp_all
 show(dep (.int i)<=20/\dep (.int j)<=20/\R (.t (.bl (i == j))))=_;rw[e];exact propext ⟨λh=>h.2.2,λh=>⟨zero_le _,zero_le _,h⟩⟩
theorem Pe (i j:Int):dQ (.t (.int i)) (.t (.int j)) R=R (.t (.bl (!decide (i=j)))):=by
 have e:(i == j)=decide (i=j):=by cases h:(i == j) <;> simp_all
 show(dep (.int i)<=20/\dep (.int j)<=20/\R (.t (.bl (!(i == j)))))=_;rw[e];exact propext ⟨λh=>h.2.2,λh=>⟨zero_le _,zero_le _,h⟩⟩
theorem Qu (ty:Ty):JX ty we δ R=we δ λs=>AO s≠.exc/\R (.t (.bl (ca (AO s) ty))):=rfl
theorem Nf:AO (.t .non)=.non:=rfl
theorem PX (b:Bool):AO (.t (.bl b))=.bool:=rfl
theorem ty_int (i:Int):AO (.t (.int i))=.int:=rfl
theorem ty_str (i:PySem.Str):AO (.t (.str i))=.str:=rfl
theorem Ng (ts:List T):AO (.t (.tup ts))=.tup:=rfl
theorem IW (ts:List T):AO (.vt (.tup ts))=.tup:=rfl
theorem PY (ts:List T):AO (.t (.lst ts))=.lst:=rfl
theorem P0 (ts:List T):AO (.vt (.lst ts))=.lst:=rfl
theorem PZ (ts:List T):AO (.ol ts)=.lst:=rfl
theorem NY:FF wa δ R=wa δ λs=>R (.t (.bl (Jy (tr s)))):=rfl
theorem Kw:qK wa δ R=wa δ λs=>R (.t (.bl (!Jy (tr s)))):=rfl
theorem L6:(Ty.non≠Ty.exc)=True:=by simp
theorem L7:(Ty.bool≠Ty.exc)=True:=by simp
theorem L8:(Ty.int≠Ty.exc)=True:=by simp
theorem L9:(Ty.str≠Ty.exc)=True:=by simp
theorem Ma:(Ty.tup≠Ty.exc)=True:=by simp
theorem Mb:(Ty.lst≠Ty.exc)=True:=by simp
theorem NV (b:WI)(g:WG):h7 b g w D δ=b δ λd a=>wq g w d D a:=rfl
theorem Bj (W:List T->bf->Prop):bT we δ W=we δ (ql δ W):=rfl
theorem Hs (W:List T->bf->Prop)(ts:List T):ql δ W (.t (.lst ts))=W ts δ:=rfl
theorem Hu (W:List T->bf->Prop)(ts:List T):ql δ W (.vt (.lst ts))=W ts (freeze δ):=rfl
theorem Ht (W:List T->bf->Prop)(ts:List T):ql δ W (.ol ts)=W ts δ:=rfl
theorem Gj (W:List T->bf->Prop):FJ we δ W=we δ (PR δ W):=rfl
theorem PU (W:List T->bf->Prop)(ts:List T):PR δ W (.t (.tup ts))=W ts δ:=rfl
theorem PV (W:List T->bf->Prop)(ts:List T):PR δ W (.vt (.tup ts))=W ts (freeze δ):=rfl
def PB (δ:bf)(W:List T->bf->Prop):List S->Prop
 | [.t (.int j)]=>jG j/\W (bS 0 j.toNat) δ
 |_=>False
theorem Bk (W:List T->bf->Prop):dN ws δ W=ws δ (PB δ W):=rfl
theorem MT (W:List T->bf->Prop)(j:Int):PB δ W [.t (.int j)]=(jG j/\W (bS 0 j.toNat) δ):=rfl
def JP (δ:bf)(W:List T->bf->Prop):List S->Prop
 | [.t (.int i),.t (.int j)]=>jG i/\jG j/\W (bS i (j-i).toNat) δ
 |_=>False
theorem Bl (W:List T->bf->Prop):Np ws δ W=ws δ (JP δ W):=rfl
theorem MU (W:List T->bf->Prop)(i j:Int):JP δ W [.t (.int i),.t (.int j)]=(jG i/\jG j/\W (bS i (j-i).toNat) δ):=rfl
theorem F8 (R:bf->Prop):aQ i x δ R=R (δ.set i (some (.t x))):=rfl
theorem Kl (g:List T->bf->(bf->Prop)->Prop)(R:bf->Prop)(ts:List T):qM g (.tup ts) δ R=g ts δ R:=rfl
theorem Kk (R:bf->Prop):mv [] δ R=R δ:=rfl
theorem F7 (g:WG)(b:List T->bf->(bf->Prop)->Prop)(R:bf->Prop)(r:List T):ea g b (x::r) δ R=g x δ λa=>b r a R:=rfl
theorem Og (g:WG):FI we g D δ=we δ (IX g δ D.nx):=rfl
theorem Ni (g:WG)(N:bf->Prop):IX g δ N (.t x)=g x δ N:=rfl
theorem Nj (g:WG)(N:bf->Prop):IX g δ N (.vt x)=g x (freeze δ) N:=rfl
def Pl (i j:Nat)(δ:bf)(N:bf->Prop):List S->Prop
 | [.t x,.t y]=>N ((δ.set i (some (.t x))).set j (some (.t y)))
 |_=>False
theorem Oa:Nm i j ws D δ=ws δ (Pl i j δ D.nx):=rfl
theorem Mq (N:bf->Prop):Pl i j δ N [.t x,.t y]=N ((δ.set i (some (.t x))).set j (some (.t y))):=rfl
theorem Gf (a h:bf->(Option Int->Prop)->Prop):i0 we a h δ R=we δ λs=>a δ λlo=>h δ λhi=>xl lo hi R s:=rfl
theorem M0 (lo hi:Option Int)(ts:List T):xl lo hi R (.t (.lst ts))=R (.ol (iz ts lo hi)):=rfl
theorem M2 (lo hi:Option Int)(ts:List T):xl lo hi R (.vt (.lst ts))=(cI ts=true/\R (.ol (iz ts lo hi))):=rfl
theorem M1 (lo hi:Option Int)(ts:List T):xl lo hi R (.ol ts)=R (.ol (iz ts lo hi)):=rfl
theorem KC:FH we D δ=we (freeze δ) λs=>D.rt (out s):=rfl
theorem NU (a b:S):zO a b R=re (λd=>re (λe=>d.length+e.length<=100000/\R (.ol (d++e))) b) a:=rfl
theorem KU (R:List T->Prop)(ts:List T):re R (.t (.lst ts))=R ts:=rfl
theorem KY (R:List T->Prop)(ts:List T):re R (.vt (.lst ts))=(cI ts=true/\R ts):=rfl
theorem KW (R:List T->Prop)(ts:List T):re R (.ol ts)=R ts:=rfl
theorem Kg (own:Nat)(fr:List Nat)(d:WI)(g:WG)(te:WE):dm own fr d g t te δ R=d δ λe a=>nK g t te e (px own fr (freeze a)) λb=>R (.ol b):=rfl
theorem Oi (R:Bool->Prop):kg δ R=R true:=rfl
theorem yg (k:T->Prop):qd k (.t x)=(kM x=true/\k x):=rfl
theorem yf (k:T->Prop)(ts:List T):qd k (.ol ts)=(cI ts=true/\k (.lst ts)):=rfl
theorem Iu:kM .non=true:=rfl
theorem MK (b:Bool):kM (.bl b)=true:=rfl
theorem Iq (b:Int):kM (.int b)=true:=rfl
theorem Iv (b:PySem.Str):kM (.str b)=true:=rfl
theorem Iw (ts:List T):kM (.tup ts)=cI ts:=rfl
theorem Ir (ts:List T):kM (.lst ts)=false:=rfl
theorem E8:cI []=true:=rfl
theorem qt (ts:List T):cI (x::ts)=(kM x && cI ts):=rfl
theorem Gc (R:Option Int->Prop):iZ δ R=R none:=rfl
def Pr (R:Option Int->Prop):S->Prop
 | .t (.int i)=>R (some i)
 |_=>False
theorem Kz (R:Option Int->Prop):mu we δ R=we δ (Pr R):=rfl
theorem ME (R:Option Int->Prop)(i:Int):Pr R (.t (.int i))=R (some i):=rfl
def Ol (i:Nat)(δ:bf)(N:bf->Prop)(ts:List T):S->Prop
 | .t x=>ts.length<100000/\N (δ.set i (some (.ol (ts++[x]))))
 |_=>False
theorem Be:e5 i we D δ=om i δ λa=>we δ (Ol i δ D.nx a):=rfl
theorem KH (N:bf->Prop)(ts:List T):Ol i δ N ts (.t x)=(ts.length<100000/\N (δ.set i (some (.ol (ts++[x]))))):=rfl
theorem Ob:IZ i D δ=om i δ λa=>a≠[]/\D.nx (δ.set i (some (.ol a.dropLast))):=rfl
def PH (i:Nat)(δ:bf)(N:bf->Prop)(ts:List T):S->S->Prop
 | .t x,.t (.int k)=>match su ts.length k with
  |some j=>N (δ.set i (some (.ol (ts.set j x))))
  |none=>False
 |_,_=>False
theorem Ge:tF i we wv D δ=om i δ λa=>wv δ λv=>we δ λs=>PH i δ D.nx a v s:=rfl
end
theorem Gu {ts:List T}{i:Int}{R:S->Prop}(d:0<=i)(b:i<ts.length)(h:∀ x∈ts,R (.t x)):atT ts i R:=by
 have a:i.toNat<ts.length:=⋯
 have e:i=((i.toNat:Nat):Int):=⋯
 rw[e,dz (cJ (x:=ts[i.toNat]) (by simp[a]))]
 exact h _ (getElem_mem a)
theorem Bq {ns:List Int}{i:Int}{R:S->Prop}(e:0<=i)(a:i<ns.length)(h:∀ v∈ns,R (.t (.int v))):atT (ns.map .int) i R:=
 Gu e (by rw[length_map];exact a) λx d=>by
  obtain⟨v,b,rfl⟩:=mem_map.mp d;exact h v b
theorem BM {i j:Int}(h:j≠0)(a:j.natAbs.log2<9000):nu i j:=⟨h,PyProof.noPylong_of_log2 a⟩
theorem Hz {i j:Int} (a:-18446744073709551616<i) (h:i<18446744073709551616):MulOk i j:=⟨FS.ok (.inl ⟨⋯,⋯⟩)⟩
theorem Pb {i j:Int} (a:-18446744073709551616<j) (h:j<18446744073709551616):MulOk i j:=⟨FS.ok (.inr ⟨⋯,⋯⟩)⟩
theorem qS (i:Int):(if i<0 then -i else i)=(i.natAbs:Int):=by split <;> ext
theorem uj (g l:Nat):(g:Int).fmod (l:Int)=((g % l:Nat):Int):=by
 rw[Int.fmod_eq_emod_of_nonneg _ (Int.natCast_nonneg l)];rfl
theorem fmod_lo (c:Int){n:Int}(h:0<n):0<=c.fmod n:=Int.fmod_nonneg_of_pos c h
theorem fmod_hi (c:Int){n:Int}(h:0<n):c.fmod n<n:=Int.fmod_lt_of_pos c h
structure Sz (n:Nat) (i:Int):Prop where
 lt:i.natAbs<2 ^ n
theorem Sz.mono (h:Sz m i)(l:m<=n):Sz n i:=⟨lt_of_lt_of_le h.lt (Nat.pow_le_pow_right ⋯ l)⟩
theorem Sz.mul (ha:Sz m a)(hb:Sz n b):Sz (m+n) (a*b):=by
 have ha:=ha.lt;have hb:=hb.lt;refine⟨?_⟩;rw[Int.natAbs_mul,Nat.pow_add];exact Nat.mul_lt_mul_of_lt_of_le ha (Nat.le_of_lt hb) (Nat.pos_of_ne_zero (by have:=Nat.two_pow_pos n;omega))
theorem y8 (ha:x<2 ^ m)(hb:y<2 ^ n):x+y<2 ^ (max m n+1):=by
 have h:2 ^ m<=2 ^ max m n:=Nat.pow_le_pow_right ⋯ (Nat.le_max_left _ _)
 have h:2 ^ n<=2 ^ max m n:=Nat.pow_le_pow_right ⋯ (Nat.le_max_right _ _)
 rw[Nat.pow_succ];omega
theorem Sz.add (ha:Sz m a)(hb:Sz n b):Sz (max m n+1) (a+b):=by
 have:=y8 ha.lt hb.lt;refine⟨?_⟩;omega
theorem Sz.sub (ha:Sz m a)(hb:Sz n b):Sz (max m n+1) (a-b):=by
 have:=y8 ha.lt hb.lt;refine⟨?_⟩;omega
theorem Sz.neg (ha:Sz m a):Sz m (-a):=by
 refine⟨?_⟩;rw[Int.natAbs_neg];exact ha.lt
theorem natAbs_fdiv_le (a b:Int):(a.fdiv b).natAbs<=a.natAbs:=by
 cases a with
 |ofNat m=>
  cases b with
  |ofNat n=>
   cases m with
   |zero=>show(0:Int).natAbs<=_;simp
   |succ m=>show(Int.ofNat ((m+1) / n)).natAbs<=m+1;exact div_le_self (m+1) n
  |negSucc n=>
   cases m with
   |zero=>show(0:Int).natAbs<=_;simp
   |succ m=>
    show(Int.negSucc (m / (n+1))).natAbs<=m+1;have:(Int.negSucc (m / (n+1))).natAbs=m / (n+1)+1:=rfl;rw[this];have:=div_le_self m (n+1);omega
 |negSucc m=>
  cases b with
  |ofNat n=>
   cases n with
   |zero=>show(0:Int).natAbs<=_;simp
   |succ n=>
    show(Int.negSucc (m / (n+1))).natAbs<=m+1;have:(Int.negSucc (m / (n+1))).natAbs=m / (n+1)+1:=rfl;rw[this];have:=div_le_self m (n+1);omega
  |negSucc n=>
   show(Int.ofNat ((m+1) / (n+1))).natAbs<=m+1;exact div_le_self (m+1) (n+1)
theorem Sz.fdiv (ha:Sz m a)(b:Int):Sz m (a.fdiv b):=⟨lt_of_le_of_lt (natAbs_fdiv_le a b) ha.lt⟩
theorem Sz.fmod (hb:Sz m b)(h:0<b)(a:Int):Sz m (a.fmod b):=by
 have d:=Int.fmod_nonneg_of_pos a h;have d:=Int.fmod_lt_of_pos a h;have:=hb.lt;exact⟨by omega⟩
theorem Sz.of {m:Nat}{a:Int}(h:-(2 ^ m:Nat)<a)(b:a<(2 ^ m:Nat)):Sz m a:=⟨by omega⟩
theorem Sz.gcdL (ha:Sz m a)(h:a≠0):Sz m (Int.gcd a b):=by
 have:Int.gcd a b<=a.natAbs:=Nat.le_of_dvd (by omega) (Int.gcd_dvd_natAbs_left a b)
 have:=ha.lt;have e:((Int.gcd a b:Nat):Int).natAbs=Int.gcd a b:=rfl;refine⟨?_⟩;rw[e];omega
theorem Sz.gcd (ha:Sz m a)(hb:Sz n b):Sz (max m n) (Int.gcd a b):=by
 by_cases h:a=0
 .subst h;have e:Int.gcd 0 b=b.natAbs:=Int.gcd_zero_left b;rw[e];exact Sz.mono (show Sz n (b.natAbs:Int) from⟨hb.lt⟩) (Nat.le_max_right _ _)
 .exact(Sz.gcdL ha h).mono (Nat.le_max_left _ _)
theorem nH (h:Sz n a)(d:n<=1048576):PySem.Builtin.Int.intBits a<=2 ^ 20:=by
 unfold PySem.Builtin.Int.intBits;have e:(2:Nat) ^ 20=1048576:=⋯
 rw[e]
 by_cases b:a.natAbs=0
 .simp only[b];split <;> first|omega|simp
 .have:=(Nat.log2_lt b).mpr h.lt
  first
   |omega
   | (simp only[b];omega)
   | (split <;> omega)
theorem bL (ha:Sz m a)(hb:Sz n b)(d:m<=1048576)(h:n<=1048576):MulOk a b:=⟨PySem.IntMulOk.of_bits (nH ha d) (nH hb h)⟩
theorem Jj (h:j≠0)(hs:Sz n j)(b:n<=9000):nu i j:=by
 refine BM h ?_;have a:j.natAbs≠0:=by omega
 have:=(Nat.log2_lt a).mpr hs.lt;omega
theorem Ld (h:j≠0)(hs:Sz n i)(e:n<=13500):nu i j:=by
 refine⟨h,?_⟩;unfold PySem.Builtin.divisionGoesByPylong;simp only[Bool.and_eq_false_iff,decide_eq_false_iff_not]
 by_cases d:(if (j == 0)=true then 0 else j.natAbs.log2 / 30+1)>300
 .right
  by_cases b:(i == 0)=true
  .rw[if_pos b];omega
  .rw[if_neg b];have a:i.natAbs≠0:=by simpa using b
   have:=(Nat.log2_lt a).mpr hs.lt;omega
 .left;exact d
theorem ij (h:-(2 ^ 62)<=i)(a:i<2 ^ 62):jG i:=⟨h,a⟩
theorem E4 (b:0<=j)(h:j<=1000000)(a:i.natAbs<2 ^ 64):A9 i j:=⟨⟨b,h,a⟩⟩
abbrev Fr:=Int × Int
abbrev Pt:=Int × Int
abbrev aS:=Fr × Fr
abbrev Hf:=Int × Int × Int
def aZ (p:Pt):T:=.tup [.int p.1,.int p.2]
def wu (p:Fr):T:=.tup [.int p.1,.int p.2]
def spT (s:aS):T:=.tup [wu s.1,wu s.2]
def bj (h:Hf):T:=.tup [.int h.1,.int h.2.1,.int h.2.2]
theorem yM (p:Pt):kM (aZ p)=true:=rfl
theorem bp {α:Type}{f:α->T}(h:∀ a,kM (f a)=true):∀ l:List α,cI (l.map f)=true
 | []=>rfl
 |a::r=>by rw[map_cons,qt,h a,bp h r];rfl
theorem eE {α:Type}{f:α->T}{n:Nat}(h:∀ a,dep (f a)<=n):∀ l:List α,gj (l.map f)<=n
 | []=>zero_le _
 |a::r=>by
  rw[map_cons];have:=eE h r;have:=h a;simp only[gj];ext
theorem iE {α:Type}{f:α->T}(h:∀ a b,eqT (f a) (f b)=true↔a=b):∀ l m:List α,cH (l.map f) (m.map f)=true↔l=m
 | [],[]=>by simp[cH]
 | [],_::_=>by simp[cH]
 |_::_,[]=>by simp[cH]
 |a::r,b::s=>by
  simp only[map_cons,cH,Bool.and_eq_true,h a b,iE h r s,List.cons.injEq]
theorem bz (a b:Int):eqT (.int a) (.int b)=true↔a=b:=by simp[eqT]
theorem bA (a b:Pt):eqT (aZ a) (aZ b)=true↔a=b:=by
 simp only[aZ,eqT,cH,Bool.and_eq_true,beq_iff_eq,Bool.and_true,Prod.ext_iff]
theorem bg (a b:aS):eqT (spT a) (spT b)=true↔a=b:=by
 obtain⟨⟨d,d⟩,d,d⟩:=a;obtain⟨⟨d,d⟩,d,d⟩:=b;simp only[spT,wu,eqT,cH,Bool.and_eq_true,beq_iff_eq,Bool.and_true,Prod.mk.injEq]
theorem bx (a b:Hf):eqT (bj a) (bj b)=true↔a=b:=by
 obtain⟨d,d,d⟩:=a;obtain⟨d,d,d⟩:=b;simp only[bj,eqT,cH,Bool.and_eq_true,beq_iff_eq,Bool.and_true,Prod.mk.injEq]
theorem bw (a:Pt):dep (aZ a)<=2:=by show 1<=2;decide
theorem bi (a:aS):dep (spT a)<=2:=by show 2<=2;decide
theorem bv (a:Hf):dep (bj a)<=2:=by show 1<=2;decide
theorem t0 [Decidable P](h:b=true↔P):b=decide P:=by
 cases b with
 |true=>exact(decide_eq_true (h.mp rfl)).symm
 |false=>exact(decide_eq_false λp=>by cases h.mpr p).symm
section
variable (R:S->Prop)
theorem Cs [Decidable P](d:dep (tr a)<=20)(e:dep (tr b)<=20)(h:eqT (tr a) (tr b)=true↔P):dO a b R=R (.t (.bl (decide P))):=by
 unfold dO OO;rw[t0 h];exact propext ⟨λz=>z.2.2,λz=>⟨d,e,z⟩⟩
theorem wI [Decidable P](d:dep (tr a)<=20)(e:dep (tr b)<=20)(h:eqT (tr a) (tr b)=true↔P):dQ a b R=R (.t (.bl (!decide P))):=by
 unfold dQ OO;rw[t0 h];exact propext ⟨λz=>z.2.2,λz=>⟨d,e,z⟩⟩
theorem OS (a b c d:Int):dO (.t (.tup [.int a,.int b])) (.t (.tup [.int c,.int d])) R=R (.t (.bl (decide (a=c/\b=d)))):=Cs R (by show 1<=20;decide) (by show 1<=20;decide) (by simp[tr,eqT,cH])
theorem Pf (a b c d:Int):dQ (.t (.tup [.int a,.int b])) (.t (.tup [.int c,.int d])) R=R (.t (.bl (!decide (a=c/\b=d)))):=wI R (by show 1<=20;decide) (by show 1<=20;decide) (by simp[tr,eqT,cH])
theorem OP (a b c d e f:Int):dO (.t (.tup [.int a,.int b,.int c])) (.t (.tup [.int d,.int e,.int f])) R=R (.t (.bl (decide (a=d/\b=e/\c=f)))):=Cs R (by show 1<=20;decide) (by show 1<=20;decide) (by simp[tr,eqT,cH])
theorem Pd (a b c d e f:Int):dQ (.t (.tup [.int a,.int b,.int c])) (.t (.tup [.int d,.int e,.int f])) R=R (.t (.bl (!decide (a=d/\b=e/\c=f)))):=wI R (by show 1<=20;decide) (by show 1<=20;decide) (by simp[tr,eqT,cH])
theorem aA {α:Type}[DecidableEq α]{f:α->T}{a b:S}{l m:List α}(h:∀ a b,eqT (f a) (f b)=true↔a=b)(hd:∀ a,dep (f a)<=2)(ha:tr a=.lst (l.map f))(hb:tr b=.lst (m.map f)):dO a b R=R (.t (.bl (decide (l=m)))):=
 Cs R (by rw[ha];have:=eE hd l;simp only[dep];ext) (by rw[hb];have:=eE hd m;simp only[dep];ext) (by rw[ha,hb];simp only[eqT];exact iE h l m)
theorem aB {α:Type}[DecidableEq α]{f:α->T}{a b:S}{l m:List α}(h:∀ a b,eqT (f a) (f b)=true↔a=b)(hd:∀ a,dep (f a)<=2)(ha:tr a=.lst (l.map f))(hb:tr b=.lst (m.map f)):dQ a b R=R (.t (.bl (!decide (l=m)))):=
 wI R (by rw[ha];have:=eE hd l;simp only[dep];ext) (by rw[hb];have:=eE hd m;simp only[dep];ext) (by rw[ha,hb];simp only[eqT];exact iE h l m)
end
def dy (n:Nat)(h:Hf):Prop:=Sz n h.1/\Sz n h.2.1/\Sz n h.2.2
def SzF (n:Nat)(s:Fr):Prop:=Sz n s.1/\Sz n s.2
def eW (n:Nat)(s:aS):Prop:=SzF n s.1/\SzF n s.2
theorem rV:ca .non .non=true:=rfl
theorem pI:ca .non .bool=false:=rfl
theorem rS:ca .non .int=false:=rfl
theorem rW:ca .non .str=false:=rfl
theorem rX:ca .non .tup=false:=rfl
theorem rT:ca .non .lst=false:=rfl
theorem pD:ca .bool .non=false:=rfl
theorem oa:ca .bool .bool=true:=rfl
theorem pB:ca .bool .int=true:=rfl
theorem pE:ca .bool .str=false:=rfl
theorem pF:ca .bool .tup=false:=rfl
theorem pC:ca .bool .lst=false:=rfl
theorem rK:ca .int .non=false:=rfl
theorem pG:ca .int .bool=false:=rfl
theorem rH:ca .int .int=true:=rfl
theorem rL:ca .int .str=false:=rfl
theorem rM:ca .int .tup=false:=rfl
theorem rJ:ca .int .lst=false:=rfl
theorem sd:ca .str .non=false:=rfl
theorem pJ:ca .str .bool=false:=rfl
theorem rY:ca .str .int=false:=rfl
theorem se:ca .str .str=true:=rfl
theorem sf:ca .str .tup=false:=rfl
theorem rZ:ca .str .lst=false:=rfl
theorem sk:ca .tup .non=false:=rfl
theorem pK:ca .tup .bool=false:=rfl
theorem sg:ca .tup .int=false:=rfl
theorem sn:ca .tup .str=false:=rfl
theorem so:ca .tup .tup=true:=rfl
theorem si:ca .tup .lst=false:=rfl
theorem rP:ca .lst .non=false:=rfl
theorem pH:ca .lst .bool=false:=rfl
theorem rN:ca .lst .int=false:=rfl
theorem rQ:ca .lst .str=false:=rfl
theorem rR:ca .lst .tup=false:=rfl
theorem rO:ca .lst .lst=true:=rfl
theorem yN (l:List Pt):cI (l.map aZ)=true:=bp (λ_=>rfl) l
theorem CB (R:S->Prop)(l m:List Pt):dO (.t (.lst (l.map aZ))) (.t (.lst (m.map aZ))) R=R (.t (.bl (decide (l=m)))):=aA R bA bw rfl rfl
theorem Ec (R:S->Prop)(l m:List Pt):dQ (.t (.lst (l.map aZ))) (.t (.lst (m.map aZ))) R=R (.t (.bl (!decide (l=m)))):=aB R bA bw rfl rfl
theorem CC (R:S->Prop)(l m:List Pt):dO (.t (.lst (l.map aZ))) (.vt (.lst (m.map aZ))) R=R (.t (.bl (decide (l=m)))):=aA R bA bw rfl rfl
theorem Ed (R:S->Prop)(l m:List Pt):dQ (.t (.lst (l.map aZ))) (.vt (.lst (m.map aZ))) R=R (.t (.bl (!decide (l=m)))):=aB R bA bw rfl rfl
theorem CA (R:S->Prop)(l m:List Pt):dO (.t (.lst (l.map aZ))) (.ol (m.map aZ)) R=R (.t (.bl (decide (l=m)))):=aA R bA bw rfl rfl
theorem Eb (R:S->Prop)(l m:List Pt):dQ (.t (.lst (l.map aZ))) (.ol (m.map aZ)) R=R (.t (.bl (!decide (l=m)))):=aB R bA bw rfl rfl
theorem CG (R:S->Prop)(l m:List Pt):dO (.vt (.lst (l.map aZ))) (.t (.lst (m.map aZ))) R=R (.t (.bl (decide (l=m)))):=aA R bA bw rfl rfl
theorem Eg (R:S->Prop)(l m:List Pt):dQ (.vt (.lst (l.map aZ))) (.t (.lst (m.map aZ))) R=R (.t (.bl (!decide (l=m)))):=aB R bA bw rfl rfl
theorem CH (R:S->Prop)(l m:List Pt):dO (.vt (.lst (l.map aZ))) (.vt (.lst (m.map aZ))) R=R (.t (.bl (decide (l=m)))):=aA R bA bw rfl rfl
theorem Eh (R:S->Prop)(l m:List Pt):dQ (.vt (.lst (l.map aZ))) (.vt (.lst (m.map aZ))) R=R (.t (.bl (!decide (l=m)))):=aB R bA bw rfl rfl
theorem CF (R:S->Prop)(l m:List Pt):dO (.vt (.lst (l.map aZ))) (.ol (m.map aZ)) R=R (.t (.bl (decide (l=m)))):=aA R bA bw rfl rfl
theorem Ef (R:S->Prop)(l m:List Pt):dQ (.vt (.lst (l.map aZ))) (.ol (m.map aZ)) R=R (.t (.bl (!decide (l=m)))):=aB R bA bw rfl rfl
theorem Cw (R:S->Prop)(l m:List Pt):dO (.ol (l.map aZ)) (.t (.lst (m.map aZ))) R=R (.t (.bl (decide (l=m)))):=aA R bA bw rfl rfl
theorem D8 (R:S->Prop)(l m:List Pt):dQ (.ol (l.map aZ)) (.t (.lst (m.map aZ))) R=R (.t (.bl (!decide (l=m)))):=aB R bA bw rfl rfl
theorem Cy (R:S->Prop)(l m:List Pt):dO (.ol (l.map aZ)) (.vt (.lst (m.map aZ))) R=R (.t (.bl (decide (l=m)))):=aA R bA bw rfl rfl
theorem D9 (R:S->Prop)(l m:List Pt):dQ (.ol (l.map aZ)) (.vt (.lst (m.map aZ))) R=R (.t (.bl (!decide (l=m)))):=aB R bA bw rfl rfl
theorem Cu (R:S->Prop)(l m:List Pt):dO (.ol (l.map aZ)) (.ol (m.map aZ)) R=R (.t (.bl (decide (l=m)))):=aA R bA bw rfl rfl
theorem D7 (R:S->Prop)(l m:List Pt):dQ (.ol (l.map aZ)) (.ol (m.map aZ)) R=R (.t (.bl (!decide (l=m)))):=aB R bA bw rfl rfl
theorem Cz (R:S->Prop)(l:List Pt):dO (.t (.lst (l.map aZ))) (.ol []) R=R (.t (.bl (decide (l=[])))):=aA (m:=[]) R bA bw rfl rfl
theorem Ea (R:S->Prop)(l:List Pt):dQ (.t (.lst (l.map aZ))) (.ol []) R=R (.t (.bl (!decide (l=[])))):=aB (m:=[]) R bA bw rfl rfl
theorem CD (R:S->Prop)(l:List Pt):dO (.vt (.lst (l.map aZ))) (.ol []) R=R (.t (.bl (decide (l=[])))):=aA (m:=[]) R bA bw rfl rfl
theorem Ee (R:S->Prop)(l:List Pt):dQ (.vt (.lst (l.map aZ))) (.ol []) R=R (.t (.bl (!decide (l=[])))):=aB (m:=[]) R bA bw rfl rfl
theorem Ct (R:S->Prop)(l:List Pt):dO (.ol (l.map aZ)) (.ol []) R=R (.t (.bl (decide (l=[])))):=aA (m:=[]) R bA bw rfl rfl
theorem D6 (R:S->Prop)(l:List Pt):dQ (.ol (l.map aZ)) (.ol []) R=R (.t (.bl (!decide (l=[])))):=aB (m:=[]) R bA bw rfl rfl
theorem Iy (l:List Hf):cI (l.map bj)=true:=bp (λ_=>rfl) l
theorem B6 (R:S->Prop)(l m:List Hf):dO (.t (.lst (l.map bj))) (.t (.lst (m.map bj))) R=R (.t (.bl (decide (l=m)))):=aA R bx bv rfl rfl
theorem DN (R:S->Prop)(l m:List Hf):dQ (.t (.lst (l.map bj))) (.t (.lst (m.map bj))) R=R (.t (.bl (!decide (l=m)))):=aB R bx bv rfl rfl
theorem B7 (R:S->Prop)(l m:List Hf):dO (.t (.lst (l.map bj))) (.vt (.lst (m.map bj))) R=R (.t (.bl (decide (l=m)))):=aA R bx bv rfl rfl
theorem DO (R:S->Prop)(l m:List Hf):dQ (.t (.lst (l.map bj))) (.vt (.lst (m.map bj))) R=R (.t (.bl (!decide (l=m)))):=aB R bx bv rfl rfl
theorem B5 (R:S->Prop)(l m:List Hf):dO (.t (.lst (l.map bj))) (.ol (m.map bj)) R=R (.t (.bl (decide (l=m)))):=aA R bx bv rfl rfl
theorem DM (R:S->Prop)(l m:List Hf):dQ (.t (.lst (l.map bj))) (.ol (m.map bj)) R=R (.t (.bl (!decide (l=m)))):=aB R bx bv rfl rfl
theorem Ca (R:S->Prop)(l m:List Hf):dO (.vt (.lst (l.map bj))) (.t (.lst (m.map bj))) R=R (.t (.bl (decide (l=m)))):=aA R bx bv rfl rfl
theorem DR (R:S->Prop)(l m:List Hf):dQ (.vt (.lst (l.map bj))) (.t (.lst (m.map bj))) R=R (.t (.bl (!decide (l=m)))):=aB R bx bv rfl rfl
theorem Cb (R:S->Prop)(l m:List Hf):dO (.vt (.lst (l.map bj))) (.vt (.lst (m.map bj))) R=R (.t (.bl (decide (l=m)))):=aA R bx bv rfl rfl
theorem DS (R:S->Prop)(l m:List Hf):dQ (.vt (.lst (l.map bj))) (.vt (.lst (m.map bj))) R=R (.t (.bl (!decide (l=m)))):=aB R bx bv rfl rfl
theorem B9 (R:S->Prop)(l m:List Hf):dO (.vt (.lst (l.map bj))) (.ol (m.map bj)) R=R (.t (.bl (decide (l=m)))):=aA R bx bv rfl rfl
theorem DQ (R:S->Prop)(l m:List Hf):dQ (.vt (.lst (l.map bj))) (.ol (m.map bj)) R=R (.t (.bl (!decide (l=m)))):=aB R bx bv rfl rfl
theorem BX (R:S->Prop)(l m:List Hf):dO (.ol (l.map bj)) (.t (.lst (m.map bj))) R=R (.t (.bl (decide (l=m)))):=aA R bx bv rfl rfl
theorem DI (R:S->Prop)(l m:List Hf):dQ (.ol (l.map bj)) (.t (.lst (m.map bj))) R=R (.t (.bl (!decide (l=m)))):=aB R bx bv rfl rfl
theorem BY (R:S->Prop)(l m:List Hf):dO (.ol (l.map bj)) (.vt (.lst (m.map bj))) R=R (.t (.bl (decide (l=m)))):=aA R bx bv rfl rfl
theorem DJ (R:S->Prop)(l m:List Hf):dQ (.ol (l.map bj)) (.vt (.lst (m.map bj))) R=R (.t (.bl (!decide (l=m)))):=aB R bx bv rfl rfl
theorem BW (R:S->Prop)(l m:List Hf):dO (.ol (l.map bj)) (.ol (m.map bj)) R=R (.t (.bl (decide (l=m)))):=aA R bx bv rfl rfl
theorem DH (R:S->Prop)(l m:List Hf):dQ (.ol (l.map bj)) (.ol (m.map bj)) R=R (.t (.bl (!decide (l=m)))):=aB R bx bv rfl rfl
theorem BZ (R:S->Prop)(l:List Hf):dO (.t (.lst (l.map bj))) (.ol []) R=R (.t (.bl (decide (l=[])))):=aA (m:=[]) R bx bv rfl rfl
theorem DK (R:S->Prop)(l:List Hf):dQ (.t (.lst (l.map bj))) (.ol []) R=R (.t (.bl (!decide (l=[])))):=aB (m:=[]) R bx bv rfl rfl
theorem B8 (R:S->Prop)(l:List Hf):dO (.vt (.lst (l.map bj))) (.ol []) R=R (.t (.bl (decide (l=[])))):=aA (m:=[]) R bx bv rfl rfl
theorem DP (R:S->Prop)(l:List Hf):dQ (.vt (.lst (l.map bj))) (.ol []) R=R (.t (.bl (!decide (l=[])))):=aB (m:=[]) R bx bv rfl rfl
theorem BV (R:S->Prop)(l:List Hf):dO (.ol (l.map bj)) (.ol []) R=R (.t (.bl (decide (l=[])))):=aA (m:=[]) R bx bv rfl rfl
theorem DG (R:S->Prop)(l:List Hf):dQ (.ol (l.map bj)) (.ol []) R=R (.t (.bl (!decide (l=[])))):=aB (m:=[]) R bx bv rfl rfl
theorem IA (l:List aS):cI (l.map spT)=true:=bp (λ_=>rfl) l
theorem CO (R:S->Prop)(l m:List aS):dO (.t (.lst (l.map spT))) (.t (.lst (m.map spT))) R=R (.t (.bl (decide (l=m)))):=aA R bg bi rfl rfl
theorem Ep (R:S->Prop)(l m:List aS):dQ (.t (.lst (l.map spT))) (.t (.lst (m.map spT))) R=R (.t (.bl (!decide (l=m)))):=aB R bg bi rfl rfl
theorem CP (R:S->Prop)(l m:List aS):dO (.t (.lst (l.map spT))) (.vt (.lst (m.map spT))) R=R (.t (.bl (decide (l=m)))):=aA R bg bi rfl rfl
theorem Er (R:S->Prop)(l m:List aS):dQ (.t (.lst (l.map spT))) (.vt (.lst (m.map spT))) R=R (.t (.bl (!decide (l=m)))):=aB R bg bi rfl rfl
theorem CN (R:S->Prop)(l m:List aS):dO (.t (.lst (l.map spT))) (.ol (m.map spT)) R=R (.t (.bl (decide (l=m)))):=aA R bg bi rfl rfl
theorem Eo (R:S->Prop)(l m:List aS):dQ (.t (.lst (l.map spT))) (.ol (m.map spT)) R=R (.t (.bl (!decide (l=m)))):=aB R bg bi rfl rfl
theorem CT (R:S->Prop)(l m:List aS):dO (.vt (.lst (l.map spT))) (.t (.lst (m.map spT))) R=R (.t (.bl (decide (l=m)))):=aA R bg bi rfl rfl
theorem Eu (R:S->Prop)(l m:List aS):dQ (.vt (.lst (l.map spT))) (.t (.lst (m.map spT))) R=R (.t (.bl (!decide (l=m)))):=aB R bg bi rfl rfl
theorem CU (R:S->Prop)(l m:List aS):dO (.vt (.lst (l.map spT))) (.vt (.lst (m.map spT))) R=R (.t (.bl (decide (l=m)))):=aA R bg bi rfl rfl
theorem Ew (R:S->Prop)(l m:List aS):dQ (.vt (.lst (l.map spT))) (.vt (.lst (m.map spT))) R=R (.t (.bl (!decide (l=m)))):=aB R bg bi rfl rfl
theorem CS (R:S->Prop)(l m:List aS):dO (.vt (.lst (l.map spT))) (.ol (m.map spT)) R=R (.t (.bl (decide (l=m)))):=aA R bg bi rfl rfl
theorem Et (R:S->Prop)(l m:List aS):dQ (.vt (.lst (l.map spT))) (.ol (m.map spT)) R=R (.t (.bl (!decide (l=m)))):=aB R bg bi rfl rfl
theorem CK (R:S->Prop)(l m:List aS):dO (.ol (l.map spT)) (.t (.lst (m.map spT))) R=R (.t (.bl (decide (l=m)))):=aA R bg bi rfl rfl
theorem Ek (R:S->Prop)(l m:List aS):dQ (.ol (l.map spT)) (.t (.lst (m.map spT))) R=R (.t (.bl (!decide (l=m)))):=aB R bg bi rfl rfl
theorem CL (R:S->Prop)(l m:List aS):dO (.ol (l.map spT)) (.vt (.lst (m.map spT))) R=R (.t (.bl (decide (l=m)))):=aA R bg bi rfl rfl
theorem El (R:S->Prop)(l m:List aS):dQ (.ol (l.map spT)) (.vt (.lst (m.map spT))) R=R (.t (.bl (!decide (l=m)))):=aB R bg bi rfl rfl
theorem CJ (R:S->Prop)(l m:List aS):dO (.ol (l.map spT)) (.ol (m.map spT)) R=R (.t (.bl (decide (l=m)))):=aA R bg bi rfl rfl
theorem Ej (R:S->Prop)(l m:List aS):dQ (.ol (l.map spT)) (.ol (m.map spT)) R=R (.t (.bl (!decide (l=m)))):=aB R bg bi rfl rfl
theorem CM (R:S->Prop)(l:List aS):dO (.t (.lst (l.map spT))) (.ol []) R=R (.t (.bl (decide (l=[])))):=aA (m:=[]) R bg bi rfl rfl
theorem Em (R:S->Prop)(l:List aS):dQ (.t (.lst (l.map spT))) (.ol []) R=R (.t (.bl (!decide (l=[])))):=aB (m:=[]) R bg bi rfl rfl
theorem CQ (R:S->Prop)(l:List aS):dO (.vt (.lst (l.map spT))) (.ol []) R=R (.t (.bl (decide (l=[])))):=aA (m:=[]) R bg bi rfl rfl
theorem Es (R:S->Prop)(l:List aS):dQ (.vt (.lst (l.map spT))) (.ol []) R=R (.t (.bl (!decide (l=[])))):=aB (m:=[]) R bg bi rfl rfl
theorem CI (R:S->Prop)(l:List aS):dO (.ol (l.map spT)) (.ol []) R=R (.t (.bl (decide (l=[])))):=aA (m:=[]) R bg bi rfl rfl
theorem Ei (R:S->Prop)(l:List aS):dQ (.ol (l.map spT)) (.ol []) R=R (.t (.bl (!decide (l=[])))):=aB (m:=[]) R bg bi rfl rfl
theorem Iz (l:List Int):cI (l.map T.int)=true:=bp (λ_=>rfl) l
theorem Ck (R:S->Prop)(l m:List Int):dO (.t (.lst (l.map T.int))) (.t (.lst (m.map T.int))) R=R (.t (.bl (decide (l=m)))):=aA R bz (λ_=>by show 0<=2;decide) rfl rfl
theorem DZ (R:S->Prop)(l m:List Int):dQ (.t (.lst (l.map T.int))) (.t (.lst (m.map T.int))) R=R (.t (.bl (!decide (l=m)))):=aB R bz (λ_=>by show 0<=2;decide) rfl rfl
theorem Cm (R:S->Prop)(l m:List Int):dO (.t (.lst (l.map T.int))) (.vt (.lst (m.map T.int))) R=R (.t (.bl (decide (l=m)))):=aA R bz (λ_=>by show 0<=2;decide) rfl rfl
theorem D0 (R:S->Prop)(l m:List Int):dQ (.t (.lst (l.map T.int))) (.vt (.lst (m.map T.int))) R=R (.t (.bl (!decide (l=m)))):=aB R bz (λ_=>by show 0<=2;decide) rfl rfl
theorem Cj (R:S->Prop)(l m:List Int):dO (.t (.lst (l.map T.int))) (.ol (m.map T.int)) R=R (.t (.bl (decide (l=m)))):=aA R bz (λ_=>by show 0<=2;decide) rfl rfl
theorem DY (R:S->Prop)(l m:List Int):dQ (.t (.lst (l.map T.int))) (.ol (m.map T.int)) R=R (.t (.bl (!decide (l=m)))):=aB R bz (λ_=>by show 0<=2;decide) rfl rfl
theorem Cq (R:S->Prop)(l m:List Int):dO (.vt (.lst (l.map T.int))) (.t (.lst (m.map T.int))) R=R (.t (.bl (decide (l=m)))):=aA R bz (λ_=>by show 0<=2;decide) rfl rfl
theorem D3 (R:S->Prop)(l m:List Int):dQ (.vt (.lst (l.map T.int))) (.t (.lst (m.map T.int))) R=R (.t (.bl (!decide (l=m)))):=aB R bz (λ_=>by show 0<=2;decide) rfl rfl
theorem Cr (R:S->Prop)(l m:List Int):dO (.vt (.lst (l.map T.int))) (.vt (.lst (m.map T.int))) R=R (.t (.bl (decide (l=m)))):=aA R bz (λ_=>by show 0<=2;decide) rfl rfl
theorem D5 (R:S->Prop)(l m:List Int):dQ (.vt (.lst (l.map T.int))) (.vt (.lst (m.map T.int))) R=R (.t (.bl (!decide (l=m)))):=aB R bz (λ_=>by show 0<=2;decide) rfl rfl
theorem Cp (R:S->Prop)(l m:List Int):dO (.vt (.lst (l.map T.int))) (.ol (m.map T.int)) R=R (.t (.bl (decide (l=m)))):=aA R bz (λ_=>by show 0<=2;decide) rfl rfl
theorem D2 (R:S->Prop)(l m:List Int):dQ (.vt (.lst (l.map T.int))) (.ol (m.map T.int)) R=R (.t (.bl (!decide (l=m)))):=aB R bz (λ_=>by show 0<=2;decide) rfl rfl
theorem Cf (R:S->Prop)(l m:List Int):dO (.ol (l.map T.int)) (.t (.lst (m.map T.int))) R=R (.t (.bl (decide (l=m)))):=aA R bz (λ_=>by show 0<=2;decide) rfl rfl
theorem DV (R:S->Prop)(l m:List Int):dQ (.ol (l.map T.int)) (.t (.lst (m.map T.int))) R=R (.t (.bl (!decide (l=m)))):=aB R bz (λ_=>by show 0<=2;decide) rfl rfl
theorem Cg (R:S->Prop)(l m:List Int):dO (.ol (l.map T.int)) (.vt (.lst (m.map T.int))) R=R (.t (.bl (decide (l=m)))):=aA R bz (λ_=>by show 0<=2;decide) rfl rfl
theorem DW (R:S->Prop)(l m:List Int):dQ (.ol (l.map T.int)) (.vt (.lst (m.map T.int))) R=R (.t (.bl (!decide (l=m)))):=aB R bz (λ_=>by show 0<=2;decide) rfl rfl
theorem Cd (R:S->Prop)(l m:List Int):dO (.ol (l.map T.int)) (.ol (m.map T.int)) R=R (.t (.bl (decide (l=m)))):=aA R bz (λ_=>by show 0<=2;decide) rfl rfl
theorem DU (R:S->Prop)(l m:List Int):dQ (.ol (l.map T.int)) (.ol (m.map T.int)) R=R (.t (.bl (!decide (l=m)))):=aB R bz (λ_=>by show 0<=2;decide) rfl rfl
theorem Ci (R:S->Prop)(l:List Int):dO (.t (.lst (l.map T.int))) (.ol []) R=R (.t (.bl (decide (l=[])))):=aA (m:=[]) R bz (λ_=>by show 0<=2;decide) rfl rfl
theorem DX (R:S->Prop)(l:List Int):dQ (.t (.lst (l.map T.int))) (.ol []) R=R (.t (.bl (!decide (l=[])))):=aB (m:=[]) R bz (λ_=>by show 0<=2;decide) rfl rfl
theorem Co (R:S->Prop)(l:List Int):dO (.vt (.lst (l.map T.int))) (.ol []) R=R (.t (.bl (decide (l=[])))):=aA (m:=[]) R bz (λ_=>by show 0<=2;decide) rfl rfl
theorem D1 (R:S->Prop)(l:List Int):dQ (.vt (.lst (l.map T.int))) (.ol []) R=R (.t (.bl (!decide (l=[])))):=aB (m:=[]) R bz (λ_=>by show 0<=2;decide) rfl rfl
theorem Cc (R:S->Prop)(l:List Int):dO (.ol (l.map T.int)) (.ol []) R=R (.t (.bl (decide (l=[])))):=aA (m:=[]) R bz (λ_=>by show 0<=2;decide) rfl rfl
theorem DT (R:S->Prop)(l:List Int):dQ (.ol (l.map T.int)) (.ol []) R=R (.t (.bl (!decide (l=[])))):=aB (m:=[]) R bz (λ_=>by show 0<=2;decide) rfl rfl
end DL
namespace DL
open PySem L2
section
variable {X:Cx}
variable {o e:Expr}{wo we:WE}{apos cpos:Pos}
section
variable (δ:bf) (R:S->Prop) (we wo:WE)
theorem countP_map [DecidableEq α](h:∀ a b,eqT (f a) (f b)=true↔a=b)(a:α):∀ l:List α,(l.map f).countP (λt=>eqT t (f a))=l.count a
 | []=>rfl
 |b::r=>by
  rw[map_cons,countP_cons,List.count_cons,countP_map h a r]
  congr 1
  by_cases e:b=a
  .subst e;simp[(h b b).mpr rfl]
  .have:eqT (f b) (f a)=false:=by
    cases z:eqT (f b) (f a) with
    |false=>rfl
    |true=>exact absurd ((h b a).mp z) e
   simp[this,e]
end
end
theorem eC {α:Type}{f h:α->T}{p:α->Bool}{g:WG}{u:WT}{te:WE}{l:List α}{o:bf}{R:List T->Prop}(P:bf->Prop)(z:∀ a∈l,kM (h a)=true)(B:l.length<100000)(y:P o)
  (step:∀ a∈l,∀ k,P k->∀ (Y:bf->S->Prop) (N:bf->Prop),(∀ d,P d->p a=true->Y d (.t (h a)))->(∀ d,P d->p a=false->N d)->g (f a) k λd=>u d λok=>if ok=true then te d (λs=>Y d s) else N d)
  (q:R ((l.filter p).map h)):nK g u te (l.map f) o R:=by
 refine⟨λm k i=>∃ pre b,l=pre++b/\m=b.map f/\P k/\i=(pre.filter p).map h,⟨[],l,rfl,rfl,y,rfl⟩,?_,?_⟩
 .rintro k i ⟨pre,b,e,m,_,rfl⟩;have:b=[]:=by simpa using m.symm
  subst this;rw[append_nil]at e;subst e;exact q
 .rintro x r k i ⟨pre,b,e,m,v,rfl⟩
  cases b with
  |nil=>cases m
  |cons a b=>
   rw[map_cons]at m
   cases m
   have ha:a∈l:=by rw[e];simp
   have i:((pre.filter p).map h).length<100000:=by
    rw[length_map];have m:=length_filter_le p pre;have C:l.length=pre.length+(b.length+1):=by rw[e];simp
    ext
   refine step a ha k v _ _ (λd m k=>⟨z a ha,i,pre++[a],b,by rw[e];simp,rfl,m,?_⟩) (λd m k=>⟨pre++[a],b,by rw[e];simp,rfl,m,?_⟩)
   .rw[List.filter_append,map_append];simp[List.filter,k]
   .rw[List.filter_append,map_append];simp[List.filter,k]
theorem eD {α:Type}{f h:α->T}{g:WG}{te:WE}{l:List α}{e:bf}{R:List T->Prop}(P:bf->Prop)(r:∀ a∈l,kM (h a)=true)(k:l.length<100000)(o:P e)
  (step:∀ a∈l,∀ d,P d->∀ (Y:bf->S->Prop),(∀ b,P b->Y b (.t (h a)))->g (f a) d λb=>te b (λs=>Y b s))
  (i:R (l.map h)):nK g kg te (l.map f) e R:=by
 refine eC (p:=λ_=>true) P r k o (λa ha d m Y N u v=>?_) (by rw[List.filter_eq_self.mpr (λ_ _=>rfl)];exact i)
 show g (f a) d λb=>if true=true then te b (λs=>Y b s) else N b
 simp only[if_true];exact step a ha d m Y λb q=>u b q rfl
theorem gp (lo:Int)(n:Nat):(bS lo n).length=n:=by unfold bS;simp
end DL
namespace L2
open PySem PyProof.Rows
theorem n8:∀ {ns:List Int}{i:List Value},aT (ns.map V.int) i->IntsAre i ns
 | [],_,.nil=>.nil
 |n::ns,_,.cons h r=>by
  obtain⟨t,rfl⟩:=h;exact .cons n t (n8 r)
section
variable {X:Cx}
theorem uH (I:aE X pins σ H s)(q:cC X.K H p (ns.map V.int)):∃ x:Array (Int × Tok),s.heap.IsList p (intItems x)/\ns=x.toList.map (·.1):=by
 obtain⟨i,r,⟨o,n,e,c,d,b⟩,_⟩:=I.list q;have a:s.heap.IsList p i.toArray:=⟨o,e,c,n,b⟩;have hi:=n8 r;obtain⟨x,h⟩:=hi.allInts.items;refine⟨x,h ▸ a,?_⟩;rw[<-nums_intItems,<-h];exact(show numsOf i.toArray.toList=ns from hi.numsOf).symm
theorem tY (b:k<xs.size)(h:(intItems xs)[k]?=some v):∃ t,v=.int (numAt xs k) t/\numAt xs k∈xs.toList.map (·.1):=by
 obtain⟨t,e⟩:=intItems_at h;refine⟨t,e,?_⟩;have a:=h;unfold intItems at a;rw[Array.getElem?_map,getElem?_eq_getElem b]at a;simp at a;rw[e]at a
 injection a with e3 _
 rw[<-e3];exact mem_map.mpr ⟨xs[k],by simp,rfl⟩
theorem yz (h:m∈xs.toList.map (·.1)):∃ j,j<xs.size/\numAt xs j=m:=by
 obtain⟨p,a,rfl⟩:=mem_map.mp h;obtain⟨j,b,e⟩:=getElem_of_mem a;have a:j<xs.size:=by simpa using b
 refine⟨j,a,?_⟩;have b:(intItems xs)[j]?=some (.int xs[j].1 xs[j].2):=by unfold intItems;rw[Array.getElem?_map,getElem?_eq_getElem a];rfl
 obtain⟨t,a⟩:=intItems_at b
 injection a with e4 _
 rw[<-e4];have a:xs[j]=p:=by simpa using e
 rw[a]
theorem zC (g:X.calm=true):eB X (.builtin "max") (λa H Q=>∃ (p:Addr) (ns:List Int),a=[.ref p]/\cC X.K H p (ns.map V.int)/\ns≠[]/\∀ m∈ns,(∀ x∈ns,x<=m)->Q (.int m) H):=by
 rintro b s b H a b Q I r ⟨p,ns,rfl,d,e,q⟩;obtain⟨u,rfl,b⟩:=vals1 r
 cases b
 obtain⟨a,h,b⟩:=uH I d;have hz:0<a.size:=by
  obtain z|z:=eq_zero_or_pos a.size
  .exact absurd (by rw[b];simpa using z) e
  .exact z
 refine max_intList (I.ok.hd g) h hz λv h k e h=>?_;obtain⟨d,d⟩:=argBest_gt (numAt a) (a.size-1);obtain⟨t,rfl,hm⟩:=tY (by omega) e
 refine⟨.int _,H,I.kept (t':=k) h,⟨t,rfl⟩,q _ (by rw[b];exact hm) λx h=>?_⟩
 rw[b]at h;obtain⟨j,a,rfl⟩:=yz h;exact d j (by omega)
theorem zE (g:X.calm=true):eB X (.builtin "min") (λa H Q=>∃ (p:Addr) (ns:List Int),a=[.ref p]/\cC X.K H p (ns.map V.int)/\ns≠[]/\∀ m∈ns,(∀ x∈ns,m<=x)->Q (.int m) H):=by
 rintro b s b H a b Q I r ⟨p,ns,rfl,d,e,q⟩;obtain⟨u,rfl,b⟩:=vals1 r
 cases b
 obtain⟨a,h,b⟩:=uH I d;have hz:0<a.size:=by
  obtain z|z:=eq_zero_or_pos a.size
  .exact absurd (by rw[b];simpa using z) e
  .exact z
 refine min_intList (I.ok.hd g) h hz λv h k e h=>?_;obtain⟨d,d⟩:=argBest_lt (numAt a) (a.size-1);obtain⟨t,rfl,hm⟩:=tY (by omega) e
 refine⟨.int _,H,I.kept (t':=k) h,⟨t,rfl⟩,q _ (by rw[b];exact hm) λx h=>?_⟩
 rw[b]at h;obtain⟨j,a,rfl⟩:=yz h;exact d j (by omega)
end
end L2
namespace DL
open PySem L2
def ml:List T->Option (List Int)
 | []=>some []
 | .int i::r=>match ml r with
  |some l=>some (i::l)
  |none=>none
 |_::_=>none
theorem lJ:∀ l:List Int,ml (l.map T.int)=some l
 | []=>rfl
 |a::r=>by rw[map_cons];unfold ml;rw[lJ r]
theorem jV:∀ {a:List T}{l:List Int},ml a=some l->a=l.map T.int
 | [],l,h=>by cases h;rfl
 |t::r,l,h=>by
  cases t <;> try (simp[ml]at h)
  rename_i i
  split at h
  .rename_i m hm;simp at h;subst h;rw[map_cons,jV hm]
  .simp at h
def sumK (R:S->Prop)(ts:List T):Prop:=match ml ts with
 |some l=>R (.t (.int l.sum))
 |none=>False
def LC:List S->(S->Prop)->Prop
 | [.t (.lst ts)],R=>sumK R ts
 | [.vt (.lst ts)],R=>sumK R ts
 | [.ol ts],R=>sumK R ts
 |_,_=>False
theorem ke:∀ {l:List Int}{b:List V},aq K F (l.map T.int) b->b=l.map V.int
 | [],_,h=>h
 |a::r,_,⟨x,y,e,g,d⟩=>by
  subst e;rw[ke d];exact congrArg (·::_) g
section
variable {X:Cx}{e:Expr}{wa:WA}{pos p:Pos}
end
theorem KD (ts:List T)(R:S->Prop):LC [.t (.lst ts)] R=sumK R ts:=rfl
theorem KG (ts:List T)(R:S->Prop):LC [.vt (.lst ts)] R=sumK R ts:=rfl
theorem KF (ts:List T)(R:S->Prop):LC [.ol ts] R=sumK R ts:=rfl
def jI (le:Int->Int->Prop)(R:S->Prop)(ts:List T):Prop:=match ml ts with
 |some l=>l≠[]/\∀ m∈l,(∀ x∈l,le x m)->R (.t (.int m))
 |none=>False
theorem pV (le:Int->Int->Prop)(R:S->Prop)(l:List Int):jI le R (l.map T.int)=(l≠[]/\∀ m∈l,(∀ x∈l,le x m)->R (.t (.int m))):=by unfold jI;rw[lJ]
def nX (le:Int->Int->Prop):List S->(S->Prop)->Prop
 | [.t (.lst ts)],R=>jI le R ts
 | [.vt (.lst ts)],R=>jI le R ts
 | [.ol ts],R=>jI le R ts
 |_,_=>False
abbrev Jm:=nX λx m=>x<=m
abbrev Jn:=nX λx m=>m<=x
theorem yB (le:Int->Int->Prop):fL K (λg H Q=>∃ (p:Addr) (ns:List Int),g=[.ref p]/\cC K H p (ns.map V.int)/\ns≠[]/\∀ m∈ns,(∀ x∈ns,le x m)->Q (.int m) H) (nX le):=by
 intro F H D C R Q sb B u h k;have o:∀ {q:List T}{a:Addr}{g:List V}{G:Hp},jI le R q->cC K H a g->aq K G q g->∃ (p:Addr) (ns:List Int),[V.ref a]=[.ref p]/\cC K H p (ns.map V.int)/\ns≠[]/\∀ m∈ns,(∀ x∈ns,le x m)->Q (.int m) H:=λ{q a g G} b i d=>by
  unfold jI at b
  split at b
  .rename_i l y;rw[jV y]at d;have e:=ke d;subst e;exact⟨a,l,rfl,i,b.1,λm hm z=>k _ F H (.t (.int _)) (dq.refl sb B) rfl (b.2 m hm z)⟩
  .exact b.elim
 unfold nX at h
 split at h
 .obtain⟨v,r,rfl,⟨a,g,rfl,b,i⟩,d⟩:=u
  cases (show r=[] from d)
  exact o h (sb.seq b) i
 .obtain⟨v,r,rfl,⟨a,g,rfl,b,i⟩,d⟩:=u
  cases (show r=[] from d)
  exact o h b i
 .obtain⟨v,r,rfl,⟨a,g,rfl,b,i⟩,d⟩:=u
  cases (show r=[] from d)
  exact o h b i
 .exact h.elim
section
variable {X:Cx}{e:Expr}{wa:WA}{pos p:Pos}
theorem GR (hm:X.mg "max"=none) (ha:PA X [e] (cY X.K wa)) (g:Gl X "max":=by rfl) (h:X.calm=true:=by rfl) (he:starEach [e] X.env=(false,eval e X.env)::starEach [] X.env:=by exact aN rfl):PE X (.Call (.Name "max" p) [e] [] pos) (au X.K (dP Jm wa)):=
 fj (zC h) (yB _) hm PyProof.Rows.boot_max ha g (he:=he) (hpl:=rfl)
theorem GS (hm:X.mg "min"=none) (ha:PA X [e] (cY X.K wa)) (g:Gl X "min":=by rfl) (h:X.calm=true:=by rfl) (he:starEach [e] X.env=(false,eval e X.env)::starEach [] X.env:=by exact aN rfl):PE X (.Call (.Name "min" p) [e] [] pos) (au X.K (dP Jn wa)):=
 fj (zE h) (yB _) hm PyProof.Rows.boot_min ha g (he:=he) (hpl:=rfl)
end
theorem FY (le:Int->Int->Prop)(ts:List T)(R:S->Prop):nX le [.t (.lst ts)] R=jI le R ts:=rfl
theorem F0 (le:Int->Int->Prop)(ts:List T)(R:S->Prop):nX le [.vt (.lst ts)] R=jI le R ts:=rfl
theorem FZ (le:Int->Int->Prop)(ts:List T)(R:S->Prop):nX le [.ol ts] R=jI le R ts:=rfl
def mf (g:WG)(d:WT)(te:WE):List T->bf->List T->(List T->Prop)->Prop
 | [],_,a,R=>R a
 |x::r,e,a,R=>g x e λb=>d b λok=>if ok=true then te b λs=>qd (λy=>a.length<100000/\mf g d te r b (a++[y]) R) s else mf g d te r b a R
theorem ky (h:mf g d te ts a [] R):nK g d te ts a R:=⟨λts a b=>mf g d te ts a b R,h,λ_ _ h=>h,λ_ _ _ _ h=>h⟩
theorem F6 (g:WG)(d:WT)(te:WE)(b:bf)(a:List T)(R:List T->Prop):mf g d te [] b a R=R a:=rfl
theorem F5 (g:WG)(d:WT)(te:WE)(x:T)(r:List T)(e:bf)(a:List T)(R:List T->Prop):mf g d te (x::r) e a R=g x e λb=>d b λok=>if ok=true then te b λs=>qd (λy=>a.length<100000/\mf g d te r b (a++[y]) R) s else mf g d te r b a R:=rfl
end DL
namespace L2
open PySem PySem.Spec PyProof.Rows
section
variable {X:Cx}{pins:List (Addr × Obj)}{σ:St}{H:Hp}{s:Shared}
theorem aE.turnedS {h':Heap}{t':Nat}{fp:List Addr}(I:aE X pins σ H s)(k:∀ b o,b∉fp->s.heap.get? b=some o->h'.get? b=some o)(d:∀ b∈fp,my X pins H b):aE X pins σ H {s with heap:=h',toks:=t'}:=by
 have a:∀ b u,H b=some u->b∉fp:=λb u e z=>by rw[(d b z).1]at e;cases e
 refine I.step (g':=s.gens) (d':=s.drawn) (ch:=fp) (λb hb=>?_) (λb o _ _ h e _=>k b o h e) (λb o _ _ h e _=>⟨o.slots,k b o h e⟩) (λ_ _ _ _ n=>n)
  (λb o h e=>⟨o,k b o h e⟩) (λ_ _ e=>e) (λ_ _ _ e=>e) (λb p e=>⟨#[],by rw[e];simp⟩) (λm hm=>?_) (λb u e=>?_) I.bare
 .obtain⟨g,x,g,p,g,i⟩:=d b hb;exact⟨p,x,g,i⟩
 .obtain⟨o,i,p,g,r⟩:=hm;exact⟨o,i,p,k _ o (λz=>(d _ z).2.1 rfl) g,r⟩
 .refine(I.hok b u e).stay (λc v h q=>k c v ?_ q) (λ_ q=>q) λ_ _ q=>q
  obtain z|z:=h
  .rw[z];exact a b u e
  .exact a c _ z
theorem aE.turnedT {h':Heap}{t':Nat}{fp:List Addr}{xs:List V}{its:List Value} (I:aE X pins σ H s) (v:aT xs its) (hz:xs.length<=sizeLine) (d:h'.get? s.heap.objs.size=some {cls:=.type "tuple",data:=.seq its.toArray})
  (k:∀ b o,b∉fp->s.heap.get? b=some o->h'.get? b=some o) (a:∀ b∈fp,my X pins H b) (h:∀ b∈fp,b<s.heap.objs.size) :
  aE X pins σ (cs H s.heap.objs.size (.tup xs)) {s with heap:=h',toks:=t'}/\∀ b∈fp,cs H s.heap.objs.size (.tup xs) b=none:=by
 have fr:∀ b∈fp,cs H s.heap.objs.size (.tup xs) b=none:=λb hb=>by
  rw[aV (ne_of_lt (h b hb))];exact(a b hb).1
 have i:aE X pins σ (cs H s.heap.objs.size (.tup xs)) {s with heap:=s.heap.push {cls:=.type "tuple",data:=.seq its.toArray}}:=
  I.laid (t':=s.toks) (λb g q=>Heap.get?_push_of_some _ q) (le_refl _) ⟨hz,its,v,IsTup.new _ _⟩
 refine⟨aE.turnedS (s:={s with heap:=s.heap.push {cls:=.type "tuple",data:=.seq its.toArray}}) (t':=t') (fp:=fp) i (λb o hb e=>?_) λb hb=>⟨fr b hb,(a b hb).2⟩,fr⟩
 obtain⟨rfl,rfl⟩|e:=Heap.get?_push_cases e
 .exact d
 .exact k b o hb e
end
def Qo (K:Frg)(d e:Addr):It:=
 ⟨λi H=>∃ a x b y,cC K H d a/\a[i]?=some x/\cC K H e b/\b[i]?=some y,
  λi H v h=>∃ p x y,H p=none/\v=.ref p/\h=cs H p (.tup [x,y])/\(∀ a,cC K H d a->a[i]?=some x)/\∀ b,cC K H e b->b[i]?=some y,
  λi H=>∃ a b,cC K H d a/\cC K H e b/\(a.length<=i\/b.length<=i)⟩
structure vz (z TI TO i1 i2:Addr):Prop where
 TIz:TI≠z
 TOz:TO≠z
 i1z:i1≠z
 i2z:i2≠z
 TITO:TI≠TO
 TIi1:TI≠i1
 TIi2:TI≠i2
 TOi1:TO≠i1
 TOi2:TO≠i2
 i12:i1≠i2
def Jf (z TI TO e d k g:Addr)(i:Nat)(h:Heap):Prop:=
 IsZip h z TI TO .none/\IsPair h TI (.ref e) (.ref d)/\(∃ a b,IsPair h TO a b)/\h.IsListIter e k i/\h.IsListIter d g i
theorem tU {h:Heap}{z TI TO r B C E:Addr}{i:Nat}{xs ys:Array Value}(D:vz z TI TO r B)(st:Jf z TI TO r B C E i h)(O:h.IsList C xs)(P:h.IsList E ys):ZipApart z TI TO r B C E:=by
 obtain⟨H,e,⟨a,b,F⟩,⟨e,L,I,e⟩,⟨e,M,J,e⟩⟩:=st;obtain⟨e,q,e,g⟩:=O;obtain⟨g,k,g,Q⟩:=P;have ne:∀ {u v:Addr}{o p:Obj}{m n:String},h.get? u=some o->h.get? v=some p->o.cls=.type m->p.cls=.type n->m≠n->u≠v:=λx y c d n z=>by
  subst z;rw[x]at y
  cases y
  rw[c]at d
  cases d
  exact n rfl
 exact⟨D.TIz,D.TOz,D.i1z,D.i2z,D.TITO,D.TIi1,D.TIi2,D.TOi1,D.TOi2,D.i12,
  ne q H e rfl ⋯,ne q F e rfl ⋯,ne q L e I ⋯,ne q M e J ⋯,
  ne k H g rfl ⋯,ne k F g rfl ⋯,ne k L g I ⋯,ne k M g J ⋯⟩
theorem FC {P:Program}{w:World}{K:Frg}{U:List Expr}{x1}{tp:Pos}(z TI TO J L l1 l2:Addr)(D:vz z TI TO J L) :
  Turn P w K (.Tuple U x1 tp) (Qo K l1 l2) [z,TI,TO,J,L] z (Jf z TI TO J L l1 l2) where
 mem:=by simp
 obj:=λi h d b hb=>by
  obtain⟨r,g,⟨a,Q,m⟩,⟨o1,C,b2,b3⟩,⟨o2,F,c2,O⟩⟩:=d;simp at hb
  obtain rfl|rfl|rfl|rfl|rfl:=hb
  .exact⟨_,r,λv q=>by cases q⟩
  .exact⟨_,g,λv q=>by cases q⟩
  .exact⟨_,m,λv q=>by cases q⟩
  .exact⟨_,C,λv q=>by rw[b3]at q;cases q⟩
  .exact⟨_,F,λv q=>by rw[O]at q;cases q⟩
 keep:=λi h h' d k=>by
  obtain⟨r,g,⟨a,Q,m⟩,C,F⟩:=d;exact⟨k z (by simp) _ r,k TI (by simp) _ g,⟨a,Q,k TO (by simp) _ m⟩,C.at λo e=>k J (by simp) o e,F.at λo e=>k L (by simp) o e⟩
 item:=by
  intro X hP hw hK hc i Z s σ H E I hf d hg;subst hP hw hK;obtain⟨xs,x,ys,y,hq,hx,B,hy⟩:=hg;obtain⟨its,rv,p,hz⟩:=I.list hq;obtain⟨Y,M,R,hz2⟩:=I.list B;obtain⟨u,hu,ru⟩:=rv.get hx;obtain⟨v,hv,rv'⟩:=M.get hy;have A:=tU D d p.isList R.isList;have W:∀ b∈[z,TI,TO,J,L],b<s.heap.objs.size:=λb hb=>by
   obtain⟨r,g,⟨a,Q,m⟩,⟨o1,C,b2,b3⟩,⟨o2,F,c2,O⟩⟩:=d;simp at hb
   obtain rfl|rfl|rfl|rfl|rfl:=hb
   .exact Heap.lt_size r
   .exact Heap.lt_size g
   .exact Heap.lt_size m
   .exact Heap.lt_size C
   .exact Heap.lt_size F
  obtain⟨r,g,⟨a,Q,m⟩,C,F⟩:=d;refine wpAny_pyNext_zip_item A r g m C F p.isList R.isList (x:=u) (y:=v) (by simpa using hu) (by simpa using hv) λh' O q2 q3 q4 q5 q6 q7=>?_
  refine⟨_,rfl,wpAny_letOwnedTupleGo_zip (s:={s with heap:=h'}) O λh2 g1 O=>?_⟩;have kk:∀ b o,b∉[z,TI,TO,J,L]->s.heap.get? b=some o->h2.get? b=some o:=λb o hb e=>by
   simp at hb;obtain⟨n1,n2,n3,n4,n5⟩:=hb;exact O.extBut _ _ n1 (q7 b o n1 n3 n4 n5 e)
  have szz:z≠s.heap.objs.size:=ne_of_lt (W z (by simp))
  have I2:=I.turnedT (t':=s.toks) (h':=h2) (fp:=[z,TI,TO,J,L]) (xs:=[x,y]) (its:=[u,v]) (.cons ru (.cons rv' .nil)) (show 2<=sizeLine by decide) (O.extBut _ _ szz.symm q5) kk hf W
  refine⟨.ref s.heap.objs.size,_,I2.1,rfl,⟨_,x,y,I.hok.fresh (le_refl _),rfl,rfl,λW hz=>by rw[I.list_inj hz hq];exact hx,λW hz=>by rw[I.list_inj hz B];exact hy⟩,?_,I2.2⟩
  refine⟨g1,O.extBut _ _ D.TIz (q7 _ _ D.TIz D.TITO D.TIi1 D.TIi2 g),⟨u,v,O.extBut _ _ D.TOz q2⟩,q3.extBut O.extBut D.i1z,q4.extBut O.extBut D.i2z⟩
 done:=by
  intro X hP hw hK hc i Z s σ H E I hf d hg;subst hP hw hK;obtain⟨xs,ys,hq,B,hx⟩:=hg;obtain⟨its,rv,p,hz⟩:=I.list hq;obtain⟨Y,M,R,hz2⟩:=I.list B;have A:=tU D d p.isList R.isList;obtain⟨r,g,⟨a,Q,m⟩,C,F⟩:=d;have B:=rv.length;have B:=M.length;refine wpAny_pyNext_zip_end (I.ok.hd hc) A r g m C F p.isList R.isList ?_ λh' k=>⟨rfl,I.turnedS (t':=s.toks) (fp:=[z,TI,TO,J,L]) (λb o hb e=>?_) hf⟩
  .rcases hx with q|q
   .exact .inl (by simp;ext)
   .exact .inr (by simp;ext)
  .simp at hb;obtain⟨n1,n2,n3,n4,n5⟩:=hb;exact k b o n1 n3 n4 n5 e
 self:=λ_ _ _ _ _ d h=>wpAny_pyIter_zip d.1 h
section
variable {X:Cx}{elts:List Expr}{x1:Nat}{tp:Pos}
theorem zh (n:Nat):vz (n+4) (n+2) (n+3) n (n+1):=by constructor <;> (intro h;have a:(_:Nat)=_:=h;ext)
def QI (K:Frg)(e:TA):TI:=λd H R=>e d H λv h=>∃ a b,v=[.ref a,.ref b]/\(∃ x,cC K h a x)/\(∃ y,cC K h b y)/\R (Qo K a b) h
theorem MC {a b:Expr}{ta:TA}{p pos:Pos} (hg:Gl X "zip") (hm:X.mg "zip"=none) (ha:PA X [a,b] ta) (hs:starEach [a,b] X.env=[(false,eval a X.env),(false,eval b X.env)]:=by rfl) (qc:starEach [b] X.env=[(false,eval b X.env)]:=by rfl) :
  PI X (.Tuple elts x1 tp) (.Call (.Name "zip" p) [a,b] [] pos) (QI X.K ta):=by
 intro pins s σ H R I h;refine Call_ (fP I hg hm boot_zip (PyProof.Rows.callWith_type1 (cG (ha pos pins s σ H _ I h) ?_) (by rw[hs,qc]) (by rw[qc];rfl)))
 rintro us s1 ⟨vs,H1,I1,r1,q1⟩;obtain⟨l1,l2,e,⟨xs,hq⟩,⟨ys,hq2⟩,q⟩:=q1;subst e
 cases r1 with
 |cons r rr=>
  cases rr with
  |cons r' rr=>
   cases rr
   cases r
   cases r'
   obtain⟨its,rv,p,hz⟩:=I1.list hq;obtain⟨its2,rv2,p2,hz2⟩:=I1.list hq2;refine call_zip_2 p.isList p2.isList λh' a1 a2 a3 a4 a5 a6 a7=>?_;refine wpAny_pyIter_zip (s:={s1 with heap:=h'}) a1 ?_;refine⟨_,[s1.heap.objs.size+4,s1.heap.objs.size+2,s1.heap.objs.size+3,s1.heap.objs.size,s1.heap.objs.size+1],_,_,H1,rfl,I1.kept (t':=s1.toks) a7,FC _ _ _ _ _ l1 l2 (zh s1.heap.objs.size),⟨a1,a2,⟨_,_,a3⟩,a4,a5⟩,λb hb=>?_,q⟩;have hb':s1.heap.objs.size<=b:=by
    simp at hb
    rcases hb with rfl|rfl|rfl|rfl|rfl <;> first|exact le_refl _|exact Nat.le_add_right _ _
   exact I1.fpOk hb' (I1.hok.fresh hb')
theorem rd:eB X (.builtin "sorted") (λx H Q=>∃ (p:Addr) (ns:List Int),x=[.ref p]/\cC X.K H p (ns.map V.int)/\ns.length<64/\∀ ms:List Int,ms.Perm ns->ms.Pairwise (·<=·)->∀ l,H l=none->Q (.ref l) (cs H l (.lst (ms.map V.int)))):=by
 rintro d s d H x k Q I r ⟨p,ns,rfl,d,g,q⟩;obtain⟨u,rfl,x⟩:=vals1 r
 cases x
 obtain⟨i,v,pl,_⟩:=I.list d;have hi:=n8 v;have d:i.length<64:=by have:=v.length;rw[length_map]at this;ext
 refine sorted_ints pl.isList hi d λout d x m v=>?_;obtain⟨e,y⟩:=sortedAll_at s.heap i out;have z:∀ {ms:List Int}{k:List Value},IntsAre k ms->aT (ms.map V.int) k:=λ{ms k} h=>by
  induction h with
  |nil=>exact .nil
  |cons n t _ i=>exact .cons ⟨t,rfl⟩ i
 refine⟨.ref _,_,I.laid (t':=s.toks) (a:=s.heap.objs.size+1) (o:=.lst (d.map V.int)) (λb u=>sortedAll_old) ⋯ ⟨?_,out.toList,e,z x,?_⟩,rfl,q d m v _ (I.hok.fresh ⋯)⟩
 .rw[length_map,m.length_eq];exact le_trans (Nat.le_of_lt g) ⋯
 .rw[Array.toArray_toList];exact y
end
end L2
namespace DL
open PySem L2
def jE:List T->List T->List T
 |t::a,u::b=>.tup [t,u]::jE a b
 |_,_=>[]
theorem vv:∀ {e d:List T}{i:Nat}{x:T},(jE e d)[i]?=some x->∃ t u,e[i]?=some t/\d[i]?=some u/\x=.tup [t,u]
 |t::e,u::d,0,x,h=>by simp[jE]at h;exact⟨t,u,by simp,by simp,h.symm⟩
 |t::e,u::d,i+1,x,h=>by
  simp only[jE,List.getElem?_cons_succ]at h;obtain⟨a,b,g,k,m⟩:=vv h;exact⟨a,b,by simpa using g,by simpa using k,m⟩
 | [],d,i,x,h=>by simp[jE]at h
 |t::e,[],i,x,h=>by simp[jE]at h
theorem vw:∀ {a b:List T},(jE a b).length=min a.length b.length
 |t::a,u::b=>by simp[jE,vw]
 | [],b=>by simp[jE]
 |t::a,[]=>by simp[jE]
theorem Dg (h:cC K F a xs)(r:aq K F ts xs)(u:cC K F b ys)(g:aq K F us ys):A5 K F (Qo K a b) (jE ts us):=by
 intro d k i d sb C;have q:cC K k a xs:=sb.seq (d.seq h);have e:cC K k b ys:=sb.seq (d.seq u);refine⟨λt m=>?_,λH=>⟨xs,ys,q,e,?_⟩⟩
 .obtain⟨k,k,k,o,rfl⟩:=vv m;obtain⟨x,m,D⟩:=r.get k;obtain⟨y,k,B⟩:=g.get o;refine⟨⟨xs,x,ys,y,q,m,e,k⟩,λv o E=>?_⟩;obtain⟨p,o,o,z,rfl,rfl,k1,o⟩:=E;have:=k1 xs q;rw[m]at this
  cases this
  have:=o ys e;rw[k]at this
  cases this
  have ex:=dq.new (.tup [x,y]) sb C z;refine⟨_,ex,?_⟩;unfold az;exact⟨p,_,rfl,jy.of aW,x,_,rfl,az.same (d.trans ex.ff) D,y,_,rfl,az.same (d.trans ex.ff) B,rfl⟩
 .rw[vw]at H;rw[r.length,g.length];ext
def FL (a:bf)(W:List T->bf->Prop):List S->Prop
 | [.t (.lst ts),.t (.lst us)]=>W (jE ts us) a
 | [.vt (.lst ts),.vt (.lst us)]=>W (jE ts us) (freeze a)
 |_=>False
def FK (b:WA):WI:=λa W=>b a (FL a W)
section
variable {X:Cx}{e e2:Expr}{we:WE}{wa:WA}{p pos tp:Pos}{elts:List Expr}{x1:Nat}
theorem Lc (hm:X.mg "zip"=none) (ha:PA X [e,e2] (cY X.K wa)) (J:Gl X "zip":=by rfl) (hs:starEach [e,e2] X.env=[(false,eval e X.env),(false,eval e2 X.env)]:=by rfl) (qc:starEach [e2] X.env=[(false,eval e2 X.env)]:=by rfl):PI X (.Tuple elts x1 tp) (.Call (.Name "zip" p) [e,e2] [] pos) (mn X.K (FK wa)):=
 (MC J hm ha hs qc).imp <| by rintro d H R ⟨y,W,F,D,h,k⟩;exact⟨y,_,F,D,h,λd C B d ex p q=>by
  unfold FL at q
  split at q
  .obtain⟨v,r,rfl,m,L,z,rfl,i,I⟩:=p
   cases (show z=[] from I)
   unfold dw az at m i;obtain⟨a,x,rfl,d,o⟩:=m;obtain⟨b,E,rfl,g,u⟩:=i;exact⟨a,b,rfl,⟨x,ex.sub.seq d⟩,⟨E,ex.sub.seq g⟩,k _ C C B _ y ex (Same.refl _) (D.ext ex) (Dg d o g u) q⟩
  .obtain⟨v,r,rfl,m,L,z,rfl,i,I⟩:=p
   cases (show z=[] from I)
   unfold dw az at m i;obtain⟨a,x,rfl,d,o⟩:=m;obtain⟨b,E,rfl,g,u⟩:=i;exact⟨a,b,rfl,⟨x,d⟩,⟨E,g⟩,k _ C B B _ (freeze y) ex ex.sub (D.ext ex).freeze (Dg d o g u) q⟩
  .exact q.elim⟩
end
theorem Gk (b:WA)(a:bf)(W:List T->bf->Prop):FK b a W=b a (FL a W):=rfl
theorem Nt (a:bf)(W:List T->bf->Prop)(ts us:List T):FL a W [.t (.lst ts),.t (.lst us)]=W (jE ts us) a:=rfl
theorem Nu (a:bf)(W:List T->bf->Prop)(ts us:List T):FL a W [.vt (.lst ts),.vt (.lst us)]=W (jE ts us) (freeze a):=rfl
def im (R:S->Prop)(ts:List T):Prop:=match ml ts with
 |some l=>l.length<64/\∀ ms:List Int,ms.Perm l->ms.Pairwise (·<=·)->R (.ol (ms.map T.int))
 |none=>False
theorem qC (R:S->Prop)(l:List Int):im R (l.map T.int)=(l.length<64/\∀ ms:List Int,ms.Perm l->ms.Pairwise (·<=·)->R (.ol (ms.map T.int))):=by unfold im;rw[lJ]
def nZ:List S->(S->Prop)->Prop
 | [.t (.lst ts)],R=>im R ts
 | [.vt (.lst ts)],R=>im R ts
 | [.ol ts],R=>im R ts
 |_,_=>False
theorem n9:∀ l:List Int,aq K F (l.map T.int) (l.map V.int)
 | []=>rfl
 |a::r=>⟨.int a,_,rfl,rfl,n9 r⟩
theorem HP:fL K (λx H Q=>∃ (p:Addr) (ns:List Int),x=[.ref p]/\cC K H p (ns.map V.int)/\ns.length<64/\∀ ms:List Int,ms.Perm ns->ms.Pairwise (·<=·)->∀ l,H l=none->Q (.ref l) (cs H l (.lst (ms.map V.int)))) nZ:=by
 intro F H C D R Q sb y m h k;have i:∀ {u:List T}{a:Addr}{x:List V}{G:Hp},im R u->cC K H a x->aq K G u x->∃ (p:Addr) (ns:List Int),[V.ref a]=[.ref p]/\cC K H p (ns.map V.int)/\ns.length<64/\∀ ms:List Int,ms.Perm ns->ms.Pairwise (·<=·)->∀ l,H l=none->Q (.ref l) (cs H l (.lst (ms.map V.int))):=λ{u a x G} b g d=>by
  unfold im at b
  split at b
  .rename_i l z;rw[jV z]at d;have e:=ke d;subst e;refine⟨a,l,rfl,g,b.1,λms hm B q o=>?_⟩;exact k _ F _ (.ol _) (dq.newL _ sb y o) ⟨q,_,rfl,o,aJ sb o,aW,n9 ms⟩ (b.2 ms hm B)
  .exact b.elim
 unfold nZ at h
 split at h
 .obtain⟨v,r,rfl,⟨a,x,rfl,b,g⟩,d⟩:=m
  cases (show r=[] from d)
  exact i h (sb.seq b) g
 .obtain⟨v,r,rfl,⟨a,x,rfl,b,g⟩,d⟩:=m
  cases (show r=[] from d)
  exact i h b g
 .obtain⟨v,r,rfl,⟨a,x,rfl,b,g⟩,d⟩:=m
  cases (show r=[] from d)
  exact i h b g
 .exact h.elim
section
variable {X:Cx}{e:Expr}{wa:WA}{pos p:Pos}
theorem GU (hm:X.mg "sorted"=none) (ha:PA X [e] (cY X.K wa)) (g:Gl X "sorted":=by rfl) (he:starEach [e] X.env=(false,eval e X.env)::starEach [] X.env:=by exact aN rfl):PE X (.Call (.Name "sorted" p) [e] [] pos) (au X.K (dP nZ wa)):=
 fj rd HP hm PyProof.Rows.boot_sorted ha g (he:=he) (hpl:=rfl)
end
theorem Gg (ts:List T)(R:S->Prop):nZ [.t (.lst ts)] R=im R ts:=rfl
theorem Gi (ts:List T)(R:S->Prop):nZ [.vt (.lst ts)] R=im R ts:=rfl
theorem Gh (ts:List T)(R:S->Prop):nZ [.ol ts] R=im R ts:=rfl
section
variable {X:Cx}{e:Expr}{we:WE}{lo hi:Option Expr}{wl wh:bf->(Option Int->Prop)->Prop}{pos p2:Pos}
end
end DL
set_option maxHeartbeats 4000000
namespace L2
open PySem PySem.Spec PyProof.Rows
section
variable {X:Cx}{pins:List (Addr × Obj)}{σ:St}{H:Hp}{s:Shared}
structure ze (X:Cx) (b:Addr):Prop where
 l:b≠X.env.locals
 f:b∉X.fs
 s:b∈X.ex\/X.s₀.heap.objs.size<=b
 c:∀ x c,X.env.cells.lookup x=some c->c≠b
theorem ze.ok (h:ze X b)(a:H b=none)(d:∀ p∈X.pn++pins,p.1≠b):my X pins H b:=⟨a,h.l,h.f,h.s,h.c,d⟩
theorem aE.fpSt (I:aE X pins σ H s)(hb:s.heap.objs.size<=b)(e:H b=none):ze X b/\∀ p∈X.pn++pins,p.1≠b:=by
 obtain⟨_,i,d,g,a,h⟩:=I.fpOk (H':=H) hb e;exact⟨⟨i,d,g,a⟩,h⟩
theorem aE.pinAt (I:aE X pins σ H s)(h:p∈pins):s.heap.get? p.1=some p.2/\H p.1=none:=let ⟨a,b,_⟩:=I.pin p (mem_append_right _ h);⟨a,b⟩
theorem aE.repin (I:aE X pins σ H s)(h:∀ p∈e,p∈pins\/(s.heap.get? p.1=some p.2/\H p.1=none/\ze X p.1/\∀ v,p.2.data≠.cell v)):aE X e σ H s:=
 I.pins_of λp g=>by
  obtain z|⟨a,b,c,d⟩:=h p g
  .exact I.pin p (mem_append_right _ z)
  .exact⟨a,b,c.l,c.f,d⟩
end
section
variable {X:Cx}{pins:List (Addr × Obj)}{σ:St}{l I S:Addr}{vs:List Value}{R:Result->Shared->Prop}{G:Hp->Prop}
abbrev pW (vb:Value) (k:Int) (t:Tok) (c:Nat):Obj:=seqObj "list" #[vb,.int k t] c
theorem DD (kf:Nat->Int)(q:Addr)(hh:X.A.handled=none)(hl:∀ H s pins,G H->aE X pins σ H s->s.heap.IsList l vs.toArray)(hlI:l≠I)(hSI:S≠I)(fI:ze X I)(fS:ze X S)
  (nI:∀ p∈X.pn++pins,p.1≠I) (nS:∀ p∈X.pn++pins,p.1≠S)
  (turn:∀ (i:Nat) (v:Value),vs[i]?=some v->∀ (own:List (Addr × Obj)) (s:Shared) (H:Hp),G H->aE X (pins++own) σ H s →
   wpAny (model X.prog X.w) X.A.in1 (call (.ref q) [v]) (λu s'=>∃ t H',u=.int (kf i) t/\aE X (pins++own) σ H' s'/\G H') (λ_ _=>False) s)
  (hR:∀ i v H s,vs[i]?=some v->(∀ j,j<vs.length->kf i<=kf j)->G H->aE X pins σ H s->R (.ok (.ret v)) s) :
  ∀ (r j i:Nat) (s:Shared) (H:Hp) (vb:Value) (tb:Tok) (c:Nat) (oI:Obj),vs.length-(j+1)=r->j+1<=vs.length->G H →
   aE X (pins++[(S,pW vb (kf i) tb c),(I,oI)]) σ H s->s.heap.IsListIter I l (j+1)->(∀ v,oI.data≠.cell v)->vs[i]?=some vb->i<=j->(∀ j',j'<=j->kf i<=kf j') →
   codeAny (model X.prog X.w) X.A (.builtin "min.loop" ⟨[.ref I,.ref q,.ref S],[]⟩) R s:=by
 have hname:(toString "min"++toString ".loop":String)="min.loop":=⋯
 have W:=Walks.list (prog:=X.prog) (w:=X.w) (A:=X.A.in1) hh I l hlI vs.toArray;have hsz:vs.toArray.size=vs.length:=size_toArray ..;have upS:∀ {H:Hp}{s:Shared}{h':Heap}{tk:Nat}{o oI:Obj},aE X (pins++[(S,o),(I,oI)]) σ H s->Heap.SameBut S s.heap h'->aE X (pins++[(I,oI)]) σ H {s with heap:=h',toks:=tk}:=λ{H s h' tk o oI} J sb=>by
  have nS':=(J.pinAt (p:=(S,o)) (by simp)).2
  have J1:aE X (pins++[(I,oI)]) σ H s:=J.repin λp hp=>.inl (by simp at hp ⊢;rcases hp with z|z <;> simp[z])
  refine J1.turnedS (fp:=[S]) (λb o hb e=>(sb.2 b (by simpa using hb)).trans e) λb hb=>?_
  have e:b=S:=by simpa using hb
  subst e;refine fS.ok nS' λp hp=>?_
  obtain z|z:=mem_append.mp hp
  .exact nS p (mem_append_left _ z)
  .rcases mem_append.mp z with z|z
   .exact nS p (mem_append_right _ z)
   .simp at z;subst z;exact hSI.symm
 have upI:∀ {H:Hp}{s:Shared}{h':Heap}{tk:Nat}{o oI:Obj},aE X (pins++[(S,o),(I,oI)]) σ H s->(∀ b u,b∉[I]->s.heap.get? b=some u->h'.get? b=some u)->aE X (pins++[(S,o)]) σ H {s with heap:=h',toks:=tk}/\H I=none:=λ{H s h' tk o oI} J hk=>by
  have nI':=(J.pinAt (p:=(I,oI)) (by simp)).2
  have J1:aE X (pins++[(S,o)]) σ H s:=J.repin λp hp=>.inl (by simp at hp ⊢;rcases hp with z|z <;> simp[z])
  refine⟨J1.turnedS (fp:=[I]) hk λb hb=>?_,nI'⟩;have e:b=I:=by simpa using hb
  subst e;refine fI.ok nI' λp hp=>?_
  obtain z|z:=mem_append.mp hp
  .exact nI p (mem_append_left _ z)
  .rcases mem_append.mp z with z|z
   .exact nI p (mem_append_right _ z)
   .simp at z;subst z;exact hSI
 intro r
 induction r with
 |zero=>
  intro j i s H vb tb c oI hr hj g J hit hoc hvb hij hbest;have hin:j+1=vs.length:=⋯
  have pS:=J.pinAt (p:=(S,pW vb (kf i) tb c)) (by simp)
  refine codeAny_builtin PySem.F.entry_min_loop ?_;rw[Around.under_plainId PySem.F.plain_min_loop _];show wpAny _ X.A.in1 (seqItems? (.ref S) >>= _) _ _ _;refine wpAny_bind (wpAny_seqItems pS.1 rfl ?_);show wpAny _ X.A.in1 (tryCatch (pyNext (.ref I)) _ >>= _) _ _ _;refine wpAny_bind (wpAny_tryCatch (W.done _ _ _ ⟨by rw[hsz,<-hin];exact hit,hl _ _ _ g J⟩ λh' tk' hk'=>?_))
  obtain⟨J1,nI'⟩:=upI (tk:=tk') J hk';have pS':=J1.pinAt (p:=(S,pW vb (kf i) tb c)) (by simp)
  have s1:=Heap.SameBut.update h' S (Obj.mapSeq λ_=>(#[]:Array Value));show wpAny _ X.A.in1 (updateSeq S (λ_=>#[]) >>= _) _ _ _;refine wpAny_bind ?_;refine wpAny_updateSeq pS'.1 rfl (wpAny_bind (wpAny_letGo (wpAny_pure ?_)));refine hR i vb H _ hvb (λj' hj'=>hbest j' ⋯) g ?_
  have J2:aE X pins σ H {s with heap:=h',toks:=tk'}:=J1.repin λp hp=>.inl (by simp[hp])
  refine aE.turnedS (s:={s with heap:=h',toks:=tk'}) (t':=tk') J2 (fp:=[S]) (λb o hb e=>(s1.2 b (by simpa using hb)).trans e) λb hb=>?_
  have e:b=S:=by simpa using hb
  subst e;exact fS.ok pS'.2 nS
 |succ r ih=>
  intro j i s H vb tb c oI hr hj g J hit hoc hvb hij hbest;have hlt:j+1<vs.length:=⋯
  have pS:=J.pinAt (p:=(S,pW vb (kf i) tb c)) (by simp)
  refine codeAny_builtin PySem.F.entry_min_loop ?_;rw[Around.under_plainId PySem.F.plain_min_loop _];show wpAny _ X.A.in1 (seqItems? (.ref S) >>= _) _ _ _;refine wpAny_bind (wpAny_seqItems pS.1 rfl ?_);show wpAny _ X.A.in1 (tryCatch (pyNext (.ref I)) _ >>= _) _ _ _;refine wpAny_bind (wpAny_tryCatch (W.item (j+1) _ _ _ (by rw[hsz];exact hlt) ⟨hit,hl _ _ _ g J⟩ λv h' tk' hP hst' hk'=>?_))
  have hv:vs[j+1]?=some v:=by simpa using hP
  obtain⟨oI',hoI',hoc',hod'⟩:=id hst'.1;obtain⟨J1,nI'⟩:=upI (tk:=tk') J hk';have ncell:∀ v,oI'.data≠.cell v:=λv z=>by rw[hod']at z;cases z
  have J2:aE X (pins++[(S,pW vb (kf i) tb c),(I,oI')]) σ H {s with heap:=h',toks:=tk'}:=J1.repin λp hp=>by
   simp at hp
   obtain z|z|z:=hp
   .exact .inl (by simp[z])
   .exact .inl (by simp[z])
   .subst z;exact .inr ⟨hoI',nI',fI,ncell⟩
  show wpAny _ X.A.in1 (tryCatch (holding [v] (call (.ref q) [v])) _ >>= _) _ _ _;refine wpAny_bind (wpAny_tryCatch (wpAny_holding (wpAny_mono (turn (j+1) v hv _ _ H g J2) (λx s'' he=>?_) λ_ _ hF=>hF.elim)));obtain⟨t2,H2,rfl,J3,g2⟩:=he;have pS2:=J3.pinAt (p:=(S,pW vb (kf i) tb c)) (by simp)
  have pI2:=J3.pinAt (p:=(I,oI')) (by simp)
  have hit2:s''.heap.IsListIter I l (j+1+1):=⟨oI',pI2.1,hoc',hod'⟩;show wpAny _ X.A.in1 (tryCatch (holding [v,.int (kf (j+1)) t2] (richCompare .Lt (.int (kf (j+1)) t2) (.int (kf i) tb) >>= _)) _ >>= _) _ _ _;refine wpAny_bind (wpAny_tryCatch (wpAny_holding (wpAny_bind (CmpOf.ints_lt (prog:=X.prog) (w:=X.w) (A:=X.A.in1) (P:=λi v=>∃ t,v=.int (kf i) t) kf (λi v h=>h) (j+1) i _ _ _ _ _ ⟨t2,rfl⟩ ⟨tb,rfl⟩ ?_))));refine wpAny_bind (wpAny_holding (wpAny_truthy_bool ?_));refine wpAny_bind (wpAny_letGo (wpAny_pure ?_))
  by_cases hb':kf (j+1)<kf i
  .have s1:=Heap.SameBut.update s''.heap S (Obj.mapSeq λ_=>#[v,.int (kf (j+1)) t2]);obtain⟨c2,hc2⟩:∃ c2,(s''.heap.update S (Obj.mapSeq λ_=>#[v,.int (kf (j+1)) t2])).get? S=some (seqObj "list" #[v,.int (kf (j+1)) t2] c2):=⟨_,get?_update_seq pS2.1 λ_=>#[v,.int (kf (j+1)) t2]⟩;simp only[hb',decide_true,if_true];refine wpAny_bind ?_;refine wpAny_updateSeq pS2.1 rfl (wpAny_bind (wpAny_letGo ?_));rw[hname];have J4:=upS (tk:=s''.toks) J3 s1;refine wpAny_pure ⟨plainId_quiet PySem.F.plain_min_loop _,ih (j+1) (j+1) _ H2 v t2 c2 oI' ⋯ hlt g2 (J4.repin λp hp=>?_) ⟨oI',(s1.2 I hSI.symm).trans pI2.1,hoc',hod'⟩ ncell hv (le_refl _) λj' hj'=>?_⟩
   .simp at hp
    obtain z|z|z:=hp
    .exact .inl (by simp[z])
    .subst z;exact .inr ⟨hc2,pS2.2,fS,λv z=>by cases z⟩
    .exact .inl (by simp[z])
   .by_cases e:j'=j+1
    .subst e;ext
    .have hb1:=hbest j' ⋯
     ext
  .simp only[hb',decide_false,Bool.false_eq_true,if_false];refine wpAny_bind (wpAny_letGo ?_);rw[hname];refine wpAny_pure ⟨plainId_quiet PySem.F.plain_min_loop _,ih (j+1) i _ H2 vb tb c oI' ⋯ hlt g2 J3 hit2 ncell hvb ⋯ λj' hj'=>?_⟩
   by_cases e:j'=j+1
   .subst e;ext
   .exact hbest j' ⋯
theorem rb (y:Nat->Int)(q:Addr)(hh:X.A.handled=none)(hl:∀ H s pins,G H->aE X pins σ H s->s.heap.IsList l vs.toArray)(O:0<vs.length)(g:G H)(J:aE X pins σ H s)
  (L:∀ (i:Nat) (v:Value),vs[i]?=some v->∀ (own:List (Addr × Obj)) (s:Shared) (H:Hp),G H->aE X (pins++own) σ H s →
   wpAny (model X.prog X.w) X.A.in1 (call (.ref q) [v]) (λu s'=>∃ t H',u=.int (y i) t/\aE X (pins++own) σ H' s'/\G H') (λ_ _=>False) s)
  (hQ:∀ i v H s,vs[i]?=some v->(∀ j,j<vs.length->y i<=y j)->G H->aE X pins σ H s->Q v s) :
  wpAny (model X.prog X.w) X.A (call (.builtin "min") [.ref l] [(Str.ofString "key",.ref q)]) Q E s:=by
 have r:(toString "min"++toString ".loop":String)="min.loop":=⋯
 have h:=hl _ _ _ g J;obtain⟨ol,m,_⟩:=id h;have k:l<s.heap.objs.size:=Heap.lt_size m;refine kmk_tree PySem.F.kind_min PySem.F.plain_min PySem.F.entry_min (kmk_min_key _ _) ?_;show wpAny _ X.A.in1 (Builtin.Builtins.bindParams "min" ["key","default"] 0 ⟨[],[(Str.ofString "key",.ref q)]⟩ >>= _) _ _ s;refine wpAny_bind (wpAny_of_eq (show Builtin.Builtins.bindParams "min" ["key","default"] 0 ⟨[],[(Str.ofString "key",.ref q)]⟩=pure [some (.ref q),none] from rfl) ?_);refine wpAny_bind (wpAny_pure ?_);refine wpAny_bind (wpAny_pyIter_list h ?_);refine wpAny_bind (wpAny_newList ?_ (zero_le _));rw[r];refine wpAny_pure ⟨plainId_quiet PySem.F.plain_min_loop _,?_⟩;have m:(s.heap.push {cls:=.type "list_iterator",data:=.fields #[.ref l,.int 0 0]}).objs.size=s.heap.objs.size+1:=size_push' ..;have P:l≠s.heap.objs.size:=ne_of_lt k;have k:((s.heap.push {cls:=.type "list_iterator",data:=.fields #[.ref l,.int 0 0]}).push (seqObj "list" #[] 0)).get? s.heap.objs.size=some {cls:=.type "list_iterator",data:=.fields #[.ref l,.int 0 0]}:=
  Heap.get?_push_of_some _ (Heap.get?_push_size _ rfl)
 have gS:((s.heap.push {cls:=.type "list_iterator",data:=.fields #[.ref l,.int 0 0]}).push (seqObj "list" #[] 0)).get? (s.heap.push {cls:=.type "list_iterator",data:=.fields #[.ref l,.int 0 0]}).objs.size=some (seqObj "list" #[] 0):=Heap.get?_push_size _ rfl;have JH:aE X pins σ H {s with heap:=(s.heap.push {cls:=.type "list_iterator",data:=.fields #[.ref l,.int 0 0]}).push (seqObj "list" #[] 0)}:=J.kept (t':=s.toks) λb o e=>Heap.get?_push_of_some _ (Heap.get?_push_of_some _ e);obtain⟨fI,nI⟩:=J.fpSt (b:=s.heap.objs.size) (le_refl _) (J.hok.fresh (le_refl _));have h:s.heap.objs.size<=(s.heap.push {cls:=.type "list_iterator",data:=.fields #[.ref l,.int 0 0]}).objs.size:=by rw[m];exact Nat.le_succ _
 obtain⟨Z,nS⟩:=J.fpSt (b:=(s.heap.push {cls:=.type "list_iterator",data:=.fields #[.ref l,.int 0 0]}).objs.size) h (J.hok.fresh h);have Y:H s.heap.objs.size=none:=J.hok.fresh (le_refl _);have hSn:H (s.heap.push {cls:=.type "list_iterator",data:=.fields #[.ref l,.int 0 0]}).objs.size=none:=J.hok.fresh h;have C:(s.heap.push {cls:=.type "list_iterator",data:=.fields #[.ref l,.int 0 0]}).objs.size≠s.heap.objs.size:=by rw[m];exact ne_of_gt (lt_succ_self _)
 generalize (s.heap.push {cls:=.type "list_iterator",data:=.fields #[.ref l,.int 0 0]}).objs.size=S at *;generalize h:s.heap.objs.size=I at *;generalize (s.heap.push {cls:=.type "list_iterator",data:=.fields #[.ref l,.int 0 0]}).push (seqObj "list" #[] 0)=h1 at *;have W:=Walks.list (prog:=X.prog) (w:=X.w) (A:=X.A.in1) hh I l P vs.toArray;have h:vs.toArray.size=vs.length:=size_toArray ..;refine codeAny_builtin PySem.F.entry_min_loop ?_;rw[Around.under_plainId PySem.F.plain_min_loop _];show wpAny _ X.A.in1 (seqItems? (.ref _) >>= _) _ _ _;refine wpAny_bind (wpAny_seqItems gS rfl ?_);show wpAny _ X.A.in1 (tryCatch (pyNext (.ref I)) _ >>= _) _ _ _;refine wpAny_bind (wpAny_tryCatch (W.item 0 _ _ _ (by rw[h];exact O) ⟨⟨_,k,rfl,rfl⟩,hl _ _ _ g JH⟩ λv B k h m M=>?_))
 have hv:vs[0]?=some v:=by simpa using h
 obtain⟨h,D,U,F⟩:=id m.1;have m:∀ v,h.data≠.cell v:=λv z=>by rw[F]at z;cases z
 have J1:aE X pins σ H {s with heap:=B,toks:=k}:=aE.turnedS (s:={s with heap:=h1}) (t':=k) JH (fp:=[I]) (λb o hb e=>M b o hb e) λb hb=>by
  have e:b=I:=by simpa using hb
  subst e;exact fI.ok Y nI
 have J2:aE X (pins++[(S,seqObj "list" #[] 0),(I,h)]) σ H {s with heap:=B,toks:=k}:=J1.repin λp B=>by
  simp at B
  obtain z|z|z:=B
  .exact .inl z
  .subst z;exact .inr ⟨M S _ (by simpa using C) gS,hSn,Z,λv z=>by cases z⟩
  .subst z;exact .inr ⟨D,Y,fI,m⟩
 show wpAny _ X.A.in1 (tryCatch (holding [v] (call (.ref q) [v])) _ >>= _) _ _ _;refine wpAny_bind (wpAny_tryCatch (wpAny_holding (wpAny_mono (L 0 v hv _ _ H g J2) (λx k he=>?_) λ_ _ D=>D.elim)));obtain⟨M,Y,rfl,J3,g2⟩:=he;have D:=J3.pinAt (p:=(S,seqObj "list" #[] 0)) (by simp)
 have pI2:=J3.pinAt (p:=(I,h)) (by simp)
 have s1:=Heap.SameBut.update k.heap S (Obj.mapSeq λ_=>#[v,.int (y 0) M]);obtain⟨c2,hc2⟩:∃ c2,(k.heap.update S (Obj.mapSeq λ_=>#[v,.int (y 0) M])).get? S=some (seqObj "list" #[v,.int (y 0) M] c2):=⟨_,get?_update_seq D.1 λ_=>#[v,.int (y 0) M]⟩;show wpAny _ X.A.in1 (updateSeq S (λ_=>#[v,.int (y 0) M]) >>= _) _ _ _;refine wpAny_bind ?_;refine wpAny_updateSeq D.1 rfl ?_;rw[r];have r:aE X (pins++[(I,h)]) σ Y {k with heap:=k.heap.update S (Obj.mapSeq λ_=>#[v,.int (y 0) M]),toks:=k.toks}:=by
  have K1:aE X (pins++[(I,h)]) σ Y k:=J3.repin λp B=>.inl (by simp at B ⊢;rcases B with z|z <;> simp[z])
  refine K1.turnedS (fp:=[S]) (λb o hb e=>(s1.2 b (by simpa using hb)).trans e) λb hb=>?_
  have e:b=S:=by simpa using hb
  subst e;refine Z.ok D.2 λp B=>?_
  obtain z|z:=mem_append.mp B
  .exact nS p (mem_append_left _ z)
  .rcases mem_append.mp z with z|z
   .exact nS p (mem_append_right _ z)
   .simp at z;subst z;exact C.symm
 refine wpAny_pure ⟨plainId_quiet PySem.F.plain_min_loop _,DD y q hh hl P C fI Z nI nS L (λi v H s a b c d=>hQ i v H s a b c d) _ 0 0 _ Y v M c2 h rfl O g2 (r.repin λp B=>?_) ⟨h,(s1.2 _ C.symm).trans pI2.1,U,F⟩ m hv (le_refl _) λk h=>?_⟩
 .simp at B
  obtain z|z|z:=B
  .exact .inl (by simp[z])
  .subst z;exact .inr ⟨hc2,D.2,Z,λv z=>by cases z⟩
  .exact .inl (by simp[z])
 .have e:k=0:=⋯
  subst e;exact Int.le_refl _
end
end L2
set_option maxHeartbeats 4000000
namespace L2
open PySem PySem.Spec PyProof.Rows PySem.W
def xO (P:Program)(w:World)(K:Frg)(mg:Str->Option Value)(base:Heap)(x y:Str)(q:Str)(scope:Scope)(f:Addr)(d:Value)(a:List (Str × Addr))(A:Around)(outer:List Env)(s:Shared)(H:Hp):Cx where
 prog:=P
 w:=w
 K:=K
 mg:=mg
 base:=base
 A:=A.deeper (envX q scope s.heap.objs.size f d a)
 N:=[x,y]
 s₀:=s
 H₀:=H
 env:=envX q scope s.heap.objs.size f d a
 outer:=outer
 stack:=envX q scope s.heap.objs.size f d a::outer
 ex:=[]
 calm:=true
 fn:=λ_=>false
 pn:=[]
 xe:=λ_ _=>False
structure nw (x y:Str) (scope:Scope):Prop where
 kind:scope.kind=.function
 co:scope.isCoroutine=false
 gen:scope.isGenerator=false
 nocell:∀ z∈scope.names,z.2≠.cell
 lx:scope.names.lookup x=some .local
 ly:scope.names.lookup y=some .free
 only:∀ z,scope.names.lookup z=some .free->z=y
theorem lookup_mem {α:Type}:∀ {l:List (Str × α)}{x:Str}{v:α},l.lookup x=some v->(x,v)∈l:=λh=>PySem.mem_of_lookup h
section
variable {X:Cx}{pins:List (Addr × Obj)}{σ:St}{H:Hp}{s:Shared}
theorem Dj {d x y:Str}{D:Arguments}{C:Expr}{scope:Scope}{pm ctv:Value}{W B f:Addr}{t:TE}{Q:VK}{u:Value}{v wv:V}{j:Nat}
  (I:aE X pins σ H s) (hf:(f,kla_obj "<lambda>" d D C scope [(y,B)] pm W ctv)∈pins) (hcd:s.heap.CodeRec (.ref W) d) (hd:X.A.handled=none) (hdep:X.A.in1.depth<recursionLimit)
  (O:∀ u,bindArgs (kla_fn "<lambda>" d D C scope [(y,B)] pm (.ref W) ctv) ⟨[u],[]⟩=pure [(x,u)]) (S:nw x y scope)
  (hN:X.N[j]?=some y) (hk:X.env.scope.names.lookup y=some .cell) (hcw:X.env.cells.lookup y=some B) (hs:σ[j]?=some (some wv))
  (hb:PE (xO X.prog X.w X.K X.mg X.base x y d scope f (.ref W) [(y,B)] X.A.in1 X.stack s H) C t) (ht:t [some v,some wv] H Q) (rv:RelV v u) :
  wpAny (model X.prog X.w) X.A.in1 (call (.ref f) [u]) (EP X pins σ Q) (λ_ _=>False) s:=by
 have E:=I.env0.in1;have pf:=I.pinAt hf;have lim:s.heap.NoLimit:=E.mod.nolimit.keeps λb o e=>(E.bs b o e).1;obtain⟨m,hn,hloc⟩:=I.loc;obtain⟨uw,rw',lk⟩:=hloc j y wv hN hs (.inr (.inl hk));have Y:s.heap.IsCell B (some uw):=by
  obtain⟨k,_⟩|⟨_,c,e,z⟩:=lk
  .have k':X.env.scope.names.lookup y=some .local:=k;rw[hk]at k';cases k'
  .rw[hcw]at e;cases e;exact z
 refine wpAny_call (codeAny_mono (R:=CR xx X.stack X.prog X.w H s Q (λ_ _ _=>False)) (kla_callFunE hdep pf.1 rfl S.co S.gen rfl hcd ?_) λr s' hq=>?_)
 .rw[O];refine wpAny_pure (wpAny_newFunctionEnv S.nocell (λz hz=>by simp at hz;subst hz;exact S.lx) (λM hns Z=>⟨lim.fresh _ Z,?_⟩) S.kind)
  have g:∀ b o,s.heap.get? b=some o->M.get? b=some o:=λb o e=>Z.extBut b o (ne_of_lt (Heap.lt_size e)) (Heap.get?_push_of_some _ e);show codeAny _ _ (.expr C (envX d scope s.heap.objs.size f (.ref W) [(y,B)])) _ _;have L:∀ z c,([(y,B)]:List (Str × Addr)).lookup z=some c->z=y/\c=B:=λz c e=>by
   by_cases q:z=y
   .subst q;simp at e;exact⟨rfl,e.symm⟩
   .have:(z == y)=false:=by simpa using q
    simp[List.lookup,this]at e
  have hcx:=I.freeC y B hcw;have J:aE (xO X.prog X.w X.K X.mg X.base x y d scope f (.ref W) [(y,B)] X.A.in1 X.stack s H) [] [some v,some wv] H {s with heap:=M,toks:=s.toks+1}:=by
   have P:∀ b:Addr,b∉([]:List Addr):=λb z=>by cases z
   refine⟨⟨E.mod,S.kind,rfl,rfl,le_refl _,λz z' c F U=>?_,λz hz=>?_,λ_ _ z=>(by cases z),λ_=>hd,Around.frames_deeper E.frames,.inr ⟨rfl,rfl⟩,λb z=>absurd z (P b),E.bs,E.bsz,λb _ _=>P b,λb z=>absurd z (P b),E.funs,E.frf⟩,
    rfl,E.bare,Un.kept g,⟨_,hns,λi z a F U h3=>?_⟩,λz c h=>?_,E.hok.fresh (le_refl _),λz c h=>?_,λp hp=>absurd (show p∈([]:List (Addr × Obj)) from hp) (by simp),E.hok.kept g,rfl⟩
   .rw[(L z c F).1,(L z' c U).1]
   .have hz:scope.names.lookup z=some .cell\/scope.names.lookup z=some .free:=hz
    obtain q|q:=hz
    .exact absurd rfl (S.nocell _ (lookup_mem q))
    .rw[S.only z q];exact⟨B,by show List.lookup y [(y,B)]=some B;simp⟩
   .match i,F,U with
    |0,F,U=>
     cases F;cases U
     exact⟨u,rv,.inl ⟨S.lx,by simp⟩⟩
    |1,F,U=>
     cases F;cases U
     exact⟨uw,rw',.inr ⟨.inr S.ly,B,by show List.lookup y [(y,B)]=some B;simp,Y.keeps g⟩⟩
    |n+2,F,_=>cases F
   .obtain⟨rfl,rfl⟩:=L z c h;exact⟨_,Y.keeps g⟩
   .obtain⟨rfl,rfl⟩:=L z c h;exact hcx
  refine kla_codeExpr (wpAny_mono (hb [] _ _ H Q J ht) (λr s' hr=>?_) λ_ _ z=>z.elim);obtain⟨v',H',J',r',q'⟩:=hr;exact⟨v',H',J'.os,J'.bare,J'.base,J'.hok,r',q'⟩
 .cases r with
  |error e=>exact hq.elim
  |ok fl=>
   cases fl with
   |ret u=>exact I.after hq
   |next=>exact hq.elim
   |brk=>exact hq.elim
   |cont=>exact hq.elim
structure vG (X:Cx) (c P:Addr) (mb:Addr):Prop where
 code:X.env.code=.ref c
 hd:CodeHd X.base c P
 bm:∃ ob,X.mg "__builtins__"=some (.ref mb)/\mb≠builtinsNs/\mb≠mainGlobals/\X.base.get? mb=some ob/\ob.cls=.type "module"/\ob.dict=some builtinsNs/\ob.data=.plain
theorem Dk (I:aE X pins σ H s)(L:vG X c P mb)(O:H P=some (.tbl ps))(tab:DL.Tab H)
  (hcl:closureFor scope X.env=pure [(y,cw)]) (W:X.env.qual++"<lambda>"=DL.lamQ) (hdef:defaultsOf d X.env=([],[]))
  (h:∀ f g pm F D s',aE X (pins++[(f,kla_obj "<lambda>" DL.lamQ d r scope [(y,cw)] pm g F)]) σ D s'->DL.Same H D->DL.Tab D->D g=some (DL.HCode g)->Q (.ref f) s') :
  wpAny (model X.prog X.w) X.A (eval (.Lambda d r scope Y) X.env) Q E s:=by
 have hPo:s.heap.get? P=some (tabObj ps):=I.hok P _ O;obtain⟨ht,M⟩:=tab P ps O;have hgs:s.heap.Ns mainGlobals X.mg:=I.ok.mod.glob.keeps I.bk;have nP:∀ b o,X.base.get? b=some o->b≠P:=λb o e z=>by have:=(I.bs b o e).2;rw[z,O]at this;cases this
 have hgP:mainGlobals≠P:=by
  obtain⟨o,_,_,e,_⟩:=I.ok.mod.glob;exact nP _ _ e
 obtain⟨ob,b1,b2,b3,b4,b5,b6,b7⟩:=L.bm;have hb:s.heap.BuiltinsAt X.mg P:=⟨mb,ob,b1,b2,b3,nP _ _ b4,I.bk _ _ b4,b5,b6,b7⟩;have C:=L.hd.keeps I.bk;have ncell:∀ (o:Obj),o=kla_obj "<lambda>" DL.lamQ d r scope [(y,cw)] ((X.mg "__name__").getD .none) 0 .none->True:=λ_ _=>trivial;refine kla_eval hdef ?_;rw[W]
 cases hf:codeAmong Y ps.toList with
 |some cv=>
  obtain⟨g,rfl,hc'⟩:=M Y cv hf;refine kla_makeFunctionHit (mg:=X.mg) hcl I.ok.glob hgs L.code C hPo ht hf hb λF J tk hk B=>?_;have J1:aE X pins σ H {s with heap:=J.push {cls:=.type "function",data:=.func (kla_fn "<lambda>" DL.lamQ d r scope [(y,cw)] ((X.mg "__name__").getD .none) (.ref g) F)},toks:=tk}:=I.kept λb o e=>Heap.get?_push_of_some _ (hk b o e);obtain⟨fs,_⟩:=I.fpSt (b:=J.objs.size) B (I.hok.fresh B);exact h J.objs.size g _ F H _ (J1.repin λp hp=>by
   obtain z|z:=mem_append.mp hp
   .exact .inl z
   .simp at z;subst z;exact .inr ⟨Heap.get?_push_size _ rfl,I.hok.fresh B,fs,λv z=>by cases z⟩) (DL.Same.refl _) tab hc'
 |none=>
  refine kla_makeFunction (mg:=X.mg) hcl I.ok.glob hgs L.code C hPo ht hf hgP hb λg F J tk hx hge hlt hrec htb=>?_;have m:H g=none:=I.hok.fresh hge;have cP:g≠P:=λz=>by rw[z,O]at m;cases m
  have B:s.heap.objs.size<=J.objs.size:=Nat.le_of_lt (lt_of_le_of_lt hge hlt)
  let R:Obj:=kla_obj "<lambda>" DL.lamQ d r scope [(y,cw)] ((X.mg "__name__").getD .none) g F
  let ps':Array Value:=ps++#[rawInt Y.line,rawInt Y.col,.ref g]
  let D:Hp:=cs (cs H P (.tbl ps')) g (DL.HCode g)
  have old:∀ b o,b≠P->s.heap.get? b=some o->(J.push R).get? b=some o:=λb o n e=>Heap.get?_push_of_some _ (hx b o n e);have gP:(J.push R).get? P=some (tabObj ps'):=Heap.get?_push_of_some _ htb;have i:∀ b,b≠P->b≠g->D b=H b:=λb n1 n2=>by show cs (cs H P _) g _ b=_;rw[aV n2,aV n1]
  have H'P:D P=some (.tbl ps'):=by show cs (cs H P _) g _ P=_;rw[aV (Ne.symm cP),aW]
  have H'c:D g=some (DL.HCode g):=aW;have un:Un X.fs [] H D s.heap (J.push R):=by
   have np:∀ b,H b=none->b≠P:=λb n z=>by rw[z,O]at n;cases n
   have nc:∀ b o,s.heap.get? b=some o->b≠g:=λb o e=>ne_of_lt (lt_of_lt_of_le (Heap.lt_size e) hge);refine⟨λb o e n _ _=>old b o (np b n) e,λb o e n _ _=>⟨o.slots,old b o (np b n) e⟩,λb o e n _=>by rw[i b (np b n) (nc b o e)];exact n,λb o e _=>?_,λb xs e=>?_,λb o u e=>?_,λb qs e=>?_⟩
   .by_cases z:b=P
    .subst z;exact⟨_,gP⟩
    .exact⟨o,old b o z e⟩
   .rw[i b (λz=>by rw[z,O]at e;cases e) (bb e m)];exact e
   .rw[i b (λz=>by rw[z,O]at e;cases e) (bb e m)];exact e
   .by_cases z:b=P
    .subst z;rw[O]at e;cases e;exact⟨_,H'P⟩
    .exact⟨#[],by rw[i b z (bb e m),e];simp⟩
  have hrec':(J.push R).CodeRec (.ref g) DL.lamQ:=hrec.push _;have hok:gz X.prog X.w D (J.push R):=λa o e=>by
   by_cases z1:a=g
   .subst z1;rw[H'c]at e;cases e
    refine⟨hrec',?_,λh1 h2 ⟨c,o,vs,t,q1,q2,q3,q4⟩ k=>?_⟩
    .obtain⟨c,o,vs,t,q1,q2,_⟩:=hrec'
     cases q1;exact⟨o,q2⟩
    .cases q1;exact⟨_,o,vs,t,rfl,k o q2,q3,q4⟩
   .by_cases z2:a=P
    .subst z2;rw[H'P]at e;cases e
     exact gP
    .have e':H a=some o:=by rw[<-i a z2 z1];exact e
     refine(I.hok a o e').stay (λb u hb q=>old b u ?_ q) (λb q=>?_) λb xs q=>?_
     .rcases hb with rfl|hb
      .exact z2
      .exact λz=>by rw[z,O]at hb;cases hb
     .rw[i b (λz=>by rw[z,O]at q;cases q) (bb q m)];exact q
     .rw[i b (λz=>by rw[z,O]at q;cases q) (bb q m)];exact q
  have J1:aE X pins σ D {s with heap:=J.push R,toks:=tk}:=I.un un hok;obtain⟨fs,_⟩:=I.fpSt (b:=J.objs.size) B (I.hok.fresh B);have hfn:D J.objs.size=none:=by
   rw[i _ (λz=>?_) (λz=>?_)]
   .exact I.hok.fresh B
   .have:=I.hok.lt O;rw[<-z]at this;exact absurd (lt_of_lt_of_le this B) (lt_irrefl _)
   .rw[<-z]at hlt;exact absurd hlt (lt_irrefl _)
  have sm:DL.Same H D:=⟨λb o e n=>by
    have n1:b≠P:=λz=>by rw[z,O]at e;cases e;cases n
    rw[i b n1 (bb e m)];exact e,λb qs e=>by
    by_cases z:b=P
    .subst z;exact⟨_,H'P⟩
    .exact⟨qs,by rw[i b z (bb e m)];exact e⟩⟩
  have tab':DL.Tab D:=λP2 qs e=>by
   have Z:∀ c,H c=some (DL.HCode c)->D c=some (DL.HCode c):=λc q=>sm.get q
   by_cases z1:P2=g
   .subst z1;rw[H'c]at e;cases e
   .by_cases z2:P2=P
    .subst z2;rw[H'P]at e;cases e
     refine⟨?_,λU v q=>?_⟩
     .show TriplesOk (ps++#[rawInt Y.line,rawInt Y.col,.ref g]).toList;rw[Array.toList_append];exact TriplesOk_snoc _ _ _ _ ht
     .have q':codeAmong U (ps.toList++[rawInt Y.line,rawInt Y.col,.ref g])=some v:=by rw[<-Array.toList_append]at *;exact q
      have key:∀ l:List Value,TriplesOk l->codeAmong U (l++[rawInt Y.line,rawInt Y.col,.ref g])=some v->codeAmong U l=some v\/v=.ref g:=by
       intro l hl
       fun_induction TriplesOk l with
       |case1=>
        intro W;simp only[nil_append,codeAmong,rawInt]at W
        split at W
        .exact .inr (Option.some.inj W).symm
        .cases W
       |case2 a t b u x rest ih=>
        intro W;simp only[List.cons_append,codeAmong]at W ⊢
        split
        .rename_i hc;rw[if_pos hc]at W;exact .inl W
        .rename_i hc;rw[if_neg hc]at W;exact ih hl W
       |case3=>exact hl.elim
      obtain z|z:=key _ ht q'
      .obtain⟨c,e1,e2⟩:=M U v z;exact⟨c,e1,Z c e2⟩
      .exact⟨g,z,H'c⟩
    .rw[i P2 z2 z1]at e;obtain⟨t1,t2⟩:=tab P2 qs e;exact⟨t1,λU v q=>let ⟨c,e1,e2⟩:=t2 U v q;⟨c,e1,Z c e2⟩⟩
  exact h J.objs.size g _ F D _ (J1.repin λp hp=>by
   obtain z|z:=mem_append.mp hp
   .exact .inl z
   .simp at z;subst z;exact .inr ⟨Heap.get?_push_size _ rfl,hfn,fs,λv z=>by cases z⟩) sm tab' H'c
end
set_option maxHeartbeats 4000000
def IS (K:Frg)(P:Addr)(te tb:TE)(j:Nat):TE:=λe H Q=>te e H λx d=>∃ (a:Addr) (b:List Addr) (p:Array Value) (G:Hp->Prop) (k:Nat->Int) (g:V),x=.ref a/\b≠[]/\d P=some (.tbl p)/\DL.Tab d/\e[j]?=some (some g) ∧
 (∀ h,DL.Same d h->DL.Tab h->G h)/\(∀ h,G h->cC K h a (b.map V.ref))/\(∀ i v h,b[i]?=some v->G h->tb [some (.ref v),some g] h λr d=>r=.int (k i)/\G d/\DL.Same h d) ∧
 ∀ i v h,b[i]?=some v->(∀ j,j<b.length->k i<=k j)->G h->Q (.ref v) h
theorem qJ:∀ {x:List Addr}{u:List Value},aT (x.map V.ref) u->u=x.map Value.ref
 | [],_,.nil=>rfl
 |_::_,_,.cons r t=>by cases r;rw[qJ t];rfl
section
variable {X:Cx}
theorem AB (hc:X.calm=true) (hd:X.A.handled=none) (hdep:X.A.in1.depth<recursionLimit) (hm:X.mg "min"=none) (L:vG X c P mb) (S:nw x y scope)
  (hN:X.N[j]?=some y) (hk:X.env.scope.names.lookup y=some .cell) (hcw:X.env.cells.lookup y=some cw) (hcl:closureFor scope X.env=pure [(y,cw)]) (hq:X.env.qual++"<lambda>"=DL.lamQ) (hdef:defaultsOf params X.env=([],[]))
  (hbind:∀ pm cd ctv u,bindArgs (kla_fn "<lambda>" DL.lamQ params body scope [(y,cw)] pm cd ctv) ⟨[u],[]⟩=pure [(x,u)])
  (he:PE X e te) (hmono:∀ σ H (Q Q2:VK),(∀ x H1,Q x H1->Q2 x H1)->te σ H Q->te σ H Q2) (hb:∀ f c' s H,PE (xO X.prog X.w X.K X.mg X.base x y DL.lamQ scope f (.ref c') [(y,cw)] X.A.in1 X.stack s H) body tb)
  (hg:Gl X "min":=by rfl) (hs:starEach [e] X.env=(false,eval e X.env)::starEach [] X.env:=by exact aN rfl)
  (hks:(backToKw pos (keywordEach [⟨some "key",.Lambda params body scope lp,kp⟩] X.env)).filterMap (·.1)=[Str.ofString "key"]:=by rfl)
  (h1:backTo pos (starEach [e] X.env)=(false,eval e X.env)::backTo pos (starEach [] X.env):=by rfl) (h2:(backTo pos (starEach [e] X.env)).any (·.1)=false:=by exact cm rfl)
  (h3:(backToKw pos (keywordEach [⟨some "key",.Lambda params body scope lp,kp⟩] X.env)).all (·.1.isSome)=true:=by rfl) (h4:(backToKw pos (keywordEach [⟨some "key",.Lambda params body scope lp,kp⟩] X.env)).any (·.1.isNone)=false:=by rfl) :
  PE X (.Call (.Name "min" p) [e] [⟨some "key",.Lambda params body scope lp,kp⟩] pos) (IS X.K P te tb j):=by
 intro pins s σ H Q I h;refine wpAny_Call_Name_kw (fP I hg hm PyProof.Rows.boot_min ?_);have h':JS te PM σ H (λvs H1=>∃ x,vs=[x]/\∃ (a:Addr) (xs:List Addr) (ps:Array Value) (G:Hp->Prop) (kf:Nat->Int) (wv:V),x=.ref a/\xs≠[]/\H1 P=some (.tbl ps)/\DL.Tab H1/\σ[j]?=some (some wv) ∧
   (∀ H2,DL.Same H1 H2->DL.Tab H2->G H2)/\(∀ H2,G H2->cC X.K H2 a (xs.map V.ref))/\(∀ i v H2,xs[i]?=some v->G H2->tb [some (.ref v),some wv] H2 λr H3=>r=.int (kf i)/\G H3/\DL.Same H2 H3) ∧
   ∀ i v H2,xs[i]?=some v->(∀ j,j<xs.length->kf i<=kf j)->G H2->Q (.ref v) H2):=hmono _ _ _ _ (λx H1 q=>⟨x,rfl,q⟩) h
 refine callWith_kw (cG (i7 he oB hs pos pins s σ H _ I h') ?_) h1 h2 h3 h4;rintro us s1 ⟨vs,H1,I1,r1,q1⟩;obtain⟨x0,rfl,a,xs,ps,G,kf,wv,rfl,hne,hP,tab,hwv,hG,hL,turn,fin⟩:=q1;obtain⟨u0,us,rfl,r0,rn⟩:∃ u0 us',us=u0::us'/\RelV (.ref a) u0/\aT [] us':=by
  cases r1 with|cons r t=>exact⟨_,_,rfl,r,t⟩
 cases rn;cases r0
 refine kws_cons (Dk I1 L hP tab hcl hq hdef λf c' pm ctv H2 s2 I2 sm tab2 hc'=>kws_nil ?_);rw[hks];refine rb (X:=X) (pins:=pins++[(f,kla_obj "<lambda>" DL.lamQ params body scope [(y,cw)] pm c' ctv)]) (σ:=σ) (l:=a) (vs:=xs.map Value.ref) (G:=λH=>G H/\H c'=some (DL.HCode c')) kf f hd (λH s pins g J=>?_) (by rw[length_map];exact length_pos_iff.mpr hne) ⟨hG H2 sm tab2,hc'⟩ I2 (λi u hi own s3 H3 g3 J3=>?_) λi u H3 s3 hi hmin g3 J3=>?_
 .obtain⟨its,r,p,_⟩:=J.list (hL H g.1);rw[qJ r]at p;obtain⟨o,n,e1,e2,e3,e4⟩:=p;exact⟨o,e1,e2,n,e4⟩
 .obtain⟨v,hv,rfl⟩:∃ v,xs[i]?=some v/\u=.ref v:=by
   rw[getElem?_map]at hi
   cases e:xs[i]? with
   |none=>rw[e]at hi;cases hi
   |some v=>rw[e]at hi;cases hi;exact⟨v,rfl,rfl⟩
  have hcd:s3.heap.CodeRec (.ref c') DL.lamQ:=(J3.hok c' _ g3.2).1;refine cG (Dj (pm:=pm) (ctv:=ctv) (t:=tb) (v:=.ref v) (wv:=wv) (Q:=λr H4=>r=.int (kf i)/\G H4/\DL.Same H3 H4) J3 (by simp) hcd hd hdep (hbind _ _ _) S hN hk hcw hwv (hb f c' s3 H3) (turn i v H3 hv g3.1) rfl) ?_
  rintro u s4 ⟨r,H4,J4,rr,e,g4,sm4⟩;subst e;obtain⟨t,rfl⟩:=rr;exact⟨t,H4,rfl,J4,g4,sm4.get g3.2⟩
 .obtain⟨v,hv,rfl⟩:∃ v,xs[i]?=some v/\u=.ref v:=by
   rw[getElem?_map]at hi
   cases e:xs[i]? with
   |none=>rw[e]at hi;cases hi
   |some v=>rw[e]at hi;cases hi;exact⟨v,rfl,rfl⟩
  exact⟨.ref v,H3,J3.repin λp hp=>.inl (by simp[hp]),rfl,fin i v H3 hv (λj hj=>hmin j (by rw[length_map];exact hj)) g3.1⟩
end
end L2
set_option maxHeartbeats 4000000
namespace DL
open PySem L2 PyProof.Rows PySem.W
def tups:List T->Bool
 | []=>true
 | .tup us::r=>cI us && tups r
 |_::_=>false
theorem vj:∀ {a:List T},tups a=true->∀ t∈a,kM t=true
 | [],_,t,h=>by cases h
 | .tup us::r,h,t,m=>by
  simp only[tups,Bool.and_eq_true]at h
  obtain z|z:=mem_cons.mp m
  .subst z;simpa only [kM] using h.1
  .exact vj h.2 t z
theorem qG {K:Frg}{H:Hp}:∀ {d:List T}{v:List V},tups d=true->aq K H d v->∃ b:List Addr,v=b.map V.ref
 | [],_,_,h=>⟨[],h⟩
 | .tup us::r,_,h,⟨x,q,e,p,t⟩=>by
  simp only[tups,Bool.and_eq_true]at h;obtain⟨b,z⟩:=qG h.2 t;unfold az at p;obtain⟨a,d,d,_,_⟩:=p;exact⟨a::b,by rw[e,z,d];rfl⟩
def tE (g:WE)(j:Nat)(e:WE):WE:=λb R=>g b λs=>∃ (a:List T) (k:T->Int) (d:S),items s=some a/\a≠[]/\tups a=true/\b[j]?=some (some d) ∧
 (∀ t∈a,e [some (.t t),some (.t (tr d))] λr=>r=.t (.int (k t)))/\∀ t∈a,(∀ u∈a,k t<=k u)->R (.t t)
def QS (j:Nat)(d:WE)(e:bf)(R:S->Prop)(s:S):Prop:=∃ (a:List T) (k:T->Int) (b:S),items s=some a/\a≠[]/\tups a=true/\e[j]?=some (some b) ∧
 (∀ t∈a,d [some (.t t),some (.t (tr b))] λr=>r=.t (.int (k t)))/\∀ t∈a,(∀ u∈a,k t<=k u)->R (.t t)
theorem Bi:tE e j b a R=e a (QS j b a R):=rfl
theorem fi.tree {K:Frg}{F H:Hp}(e:Same F H):∀ {s:S}{v:V},fi K F H s v->az K H (tr s) v
 | .t _,_,h=>az.same e h
 | .vt _,_,h=>h.elim
 | .ol _,_,⟨a,xs,h1,h2,h3,h4⟩=>⟨a,xs,h1,cC.of h3,aq.same e h4⟩
section
variable {X:Cx}
theorem zK {c P mb Z:Addr}{x y:Str}{d:Arguments}{o e:Expr}{scope:Scope}{lp p B kp:Pos}{we wb:WE}{j:Nat} (hc:X.calm=true) (hd:X.A.handled=none) (U:X.A.in1.depth<recursionLimit) (hm:X.mg "min"=none) (L:vG X c P mb) (S:nw x y scope) (M:gL X.K=some P)
  (hN:X.N[j]?=some y) (hk:X.env.scope.names.lookup y=some .cell) (hcw:X.env.cells.lookup y=some Z) (hcl:closureFor scope X.env=pure [(y,Z)]) (hq:X.env.qual++"<lambda>"=DL.lamQ) (O:defaultsOf d X.env=([],[]))
  (I:∀ pm cd ctv u,bindArgs (kla_fn "<lambda>" DL.lamQ d o scope [(y,Z)] pm cd ctv) ⟨[u],[]⟩=pure [(x,u)])
  (he:PE X e (au X.K we)) (hb:∀ f c' s H,PE (xO X.prog X.w X.K X.mg X.base x y DL.lamQ scope f (.ref c') [(y,Z)] X.A.in1 X.stack s H) o (au X.K wb))
  (hg:Gl X "min":=by rfl) (hs:starEach [e] X.env=(false,eval e X.env)::starEach [] X.env:=by exact aN rfl)
  (hks:(backToKw B (keywordEach [⟨some "key",.Lambda d o scope lp,kp⟩] X.env)).filterMap (·.1)=[Str.ofString "key"]:=by rfl)
  (E:backTo B (starEach [e] X.env)=(false,eval e X.env)::backTo B (starEach [] X.env):=by rfl) (W:(backTo B (starEach [e] X.env)).any (·.1)=false:=by exact cm rfl)
  (h3:(backToKw B (keywordEach [⟨some "key",.Lambda d o scope lp,kp⟩] X.env)).all (·.1.isSome)=true:=by rfl) (h4:(backToKw B (keywordEach [⟨some "key",.Lambda d o scope lp,kp⟩] X.env)).any (·.1.isNone)=false:=by rfl) :
  PE X (.Call (.Name "min" p) [e] [⟨some "key",.Lambda d o scope lp,kp⟩] B) (au X.K (tE we j wb)):=
 (AB (te:=au X.K we) (tb:=au X.K wb) hc hd U hm L S hN hk hcw hcl hq O I he (by rintro Y H Q C i ⟨D,R,F,C,h,k⟩;exact⟨D,R,F,C,h,λv F' J s a b c=>i _ _ (k v F' J s a b c)⟩) hb hg hs hks E W h3 h4).imp <| by rintro Y H Q ⟨D,R,F,C,h,k⟩;exact⟨D,_,F,C,h,λv D H1 s e p q=>by
  obtain⟨D,kf,sj,hi,hne,ht,J,hbo,hf⟩:=q;obtain⟨a,Y,rfl,sq,tp⟩:=(p.val e.sub).list e.sub hi;obtain⟨as,rfl⟩:=qG ht tp;have tk:=(C.ext e).tab;obtain⟨ps,hP⟩:=tk.2 P M;obtain⟨wv,hσ,Y⟩:=C.slot j sj J;have tw:=(Y.ext e).tree e.sub;have len:=tp.length;rw[length_map]at len;have at_:∀ (i:Nat) (v:Addr),as[i]?=some v->∃ t,D[i]?=some t/\az X.K H1 t (.ref v):=λi v Y=>tp.getV (by rw[getElem?_map,Y];rfl)
  refine⟨a,as,ps,λC=>Same H1 C/\Tab C,λi=>kf (D.getD i .non),wv,rfl,λz=>?_,hP,tk.1,hσ,λC s2 J=>⟨s2,J⟩,λC g=>g.1.seq sq,λi v C Y g=>?_,λi v C Y J g=>?_⟩
  .subst z;exact hne (length_eq_zero_iff.mp (by simpa using len.symm))
  .obtain⟨t,E,W⟩:=at_ i v Y;have hd:D.getD i .non=t:=by rw[getD_eq_getElem?_getD,E];rfl
   refine⟨[some (.t t),some (.t (tr sj))],_,C,⟨Same.refl _,λ_ _ h _=>.inl h,rfl,λm s hm=>?_,λm n b us ws _ hm=>?_,tk.same g.1 g.2⟩,hbo t (mem_of_getElem? E),λr F3 H3 s e3 p3 q3=>?_⟩
   .match m,hm with
    |0,hm=>cases hm;exact⟨_,rfl,az.same g.1 W⟩
    |1,hm=>cases hm;exact⟨_,rfl,az.same g.1 tw⟩
    |n+2,hm=>cases hm
   .match m,hm with
    |0,hm=>cases hm
    |1,hm=>cases hm
    |n+2,hm=>cases hm
   .subst q3;refine⟨?_,⟨g.1.trans e3.hh,e3.tb g.2⟩,e3.hh⟩;show r=V.int (kf (D.getD i .non));rw[hd];exact p3
  .obtain⟨t,E,W⟩:=at_ i v Y;have hm:=mem_of_getElem? E;have hd:D.getD i .non=t:=by rw[getD_eq_getElem?_getD,E];rfl
   have ex:=kE (x:=none) e.sub e.full g.1 (λ_ z=>by cases z) (λ_=>g.2)
   refine k _ _ C (.t t) (e.trans ex) (az.same ex.ff (az.full e.full (vj ht t hm) W)) (hf t hm λu C=>?_);obtain⟨n,hn,Y⟩:=getElem_of_mem C;have:kf (D.getD i .non)<=kf (D.getD n .non):=J n ⋯
   rw[hd]at this;have C:D.getD n .non=u:=by rw[getD_eq_getElem?_getD,List.getElem?_eq_getElem hn,Y];rfl
   rw[C]at this;exact this⟩
end
theorem Dl {l:List (Str × NameKind)}{y z:Str}(h:∀ p∈l,p.2=.free->p.1=y)(hz:l.lookup z=some .free):z=y:=h _ (lookup_mem hz) rfl
theorem zZ {K:Frg}{f c T:Addr}{e o:Value}{od od':Option Addr}{d:FuncData}{b a:Array (Option Value)}{vs:Array Value} (i:PySem.W.nsIn K mainGlobals "depth"=some (some (.ref f))) (m:K.lookup f=some ⟨e,od,.func d,b⟩) (k:d.code=.ref c) (h:K.lookup c=some ⟨o,od',.fields vs,a⟩) (g:(vs[11]?:Option Value)=some (.ref T)):gL K=some T:=by
 unfold gL;simp only[i,m,k,h,g]
structure JZ (K:Frg) (x qual:Str) (st:Stmt) (f:Addr) (fd:FuncData) (c P:Addr):Prop where
 ex:∃ (oc:Value) (od:Option Addr) (kV doc pm:Value) (an:Option Addr) (ct:Value) (osl:Array (Option Value)),
  fd=PySem.W.fnOf x qual (ee st) (cy st) (al st) .none kV doc pm an (.ref c) ct/\K.lookup f=some ⟨oc,od,.func fd,osl⟩/\PySem.W.codeIn K (.ref c) qual=true
 kp:PySem.W.keepIn K (.ref f)=true
 hd:PySem.W.codeHdIn K c P=true
 lam:gL K=some P
theorem JZ.fn {K:Frg}{x q:Str}{st:Stmt}{f c P:Addr}{d:FuncData}(F:JZ K x q st f d c P):Jb K x q st f d:=
 let ⟨oc,od,kV,doc,pm,an,ct,osl,e1,e2,e3⟩:=F.ex;⟨⟨oc,od,kV,doc,pm,an,.ref c,ct,osl,e1,e2,e3⟩,F.kp⟩
section
variable {P:Program}{wd:World}{K:Frg}{mg:Str->Option Value}{base:Heap}
theorem GV {x a:Str}{st:Stmt}{f c T:Addr}{i:FuncData}{N ps:List Str}{k:Nat}{sp:aO}{w:WS}(F:JZ K x a st f i c T)(S:ay N ps (al st))
  (e:∀ b R,sp b R->b.length=ps.length)
  (y:∀ (A:Around) (outer:List Env) (s:Shared) (H:Hp) (E:XK),cu k (A.deeper (PyProof.Rows.envOfC a (al st) s.heap.objs.size f (.ref c)))->ki (pz xx P wd K mg base N a (al st) f (.ref c) A outer s H E).nox (cy st) (bK K H w))
  (h:∀ b R,sp b R->w {nx:=λ_=>R (.t .non),rt:=R} (aD N b)):ix P wd K mg base xx (k+1) f i ps (tq K sp):=by
 have pl:ps.length<=N.length:=by
  have:=congrArg List.length S.pre;rw[length_take]at this;ext
 obtain⟨o,d,kV,d,pm,d,ct,o,rfl,lk,d⟩:=F.ex;refine Jo lk d S (λg H Q E d=>?_) λA outer s H g Q E m d=>?_
 .obtain⟨b,R,_,_,r,d,_⟩:=d;rw[i8 r,e b R d]
 .obtain⟨b,R,g,ha,r,d,k⟩:=d;refine⟨_,(y A outer s H E m).nox,aD N b,_,H,Same.refl _,qx g (by rw[e b R d];exact pl) ha r,h b R d,⟨λb b b d ff d q=>?_,λv b m o g rc q=>k v b m o g rc q,λ_ _ _ _ _ _ z=>z.elim,λ_ _ _ _ _ _ z=>z.elim⟩⟩
  exact k .non b (.t .non) (ff.trans d.sub) d.tab rfl q
end
end DL
set_option maxHeartbeats 4000000
namespace DL
open PySem PySem.Spec L2 PyProof.Rows PySem.W
def Nv (mg:Str->Option Value) (base:Heap):Prop:=∃ b o,mg "__builtins__"=some (.ref b)/\b≠builtinsNs/\b≠mainGlobals/\base.get? b=some o/\o.cls=.type "module"/\o.dict=some builtinsNs/\o.data=.plain
theorem Aa {P:Program}{w:World}{K:Frg}{mg mb:Str->Option Value}{CX:AX}{k:Nat}{fa a c T:Addr}{fd:FuncData}{x:Str}{sp:Sp}{g:Shared}{vs:List Value}{ns:List Int}
  (hTK:K.lookup T=none) (Q:g.heap.get? T=some (tabObj #[])) (hTc:CodeHd g.heap c T)
  (KX:K.In g.heap) (R:g.heap.Ns mainGlobals mg) (hb:g.heap.Ns builtinsNs mb) (hbm:Nv mg g.heap) (hbb:∀ x:Str,x≠"__name__"->mb x=bootBuiltins x) (U:g.heap.NoLimit) (hg:g.gens=#[])
  (ha:g.heap.get? a=some {cls:=.type "list",data:=.seq vs.toArray}) (hi:IntsAre vs ns) (hl:ns.length<=sizeLine) (hr:cu k callerA)
  (F:∀ base:Heap,K.In base->base.Ns mainGlobals mg->Nv mg base->ix P w K mg base CX k fa fd [x] sp) (M:∀ (s:Shared) (u:Value),BindsTo s fd ⟨[u],[]⟩ [(x,u)])
  (hsp:∀ H:Hp,Tab H->(∃ ps,H T=some (.tbl ps))->cC K H a (ns.map V.int)->sp [.ref a] H (λv _=>v=.bl true) λ_ _ _=>False)
  (hCX:∀ H e p,CX [] H g (λ_ _ _=>False) e p->False) :
  codeAny (model P w) callerA (.call (.ref fa) ⟨[.ref a],[]⟩) (λr p=>r=.ok (.ret (.bool true))/\OldK g.heap p.heap/\p.os=g.os/\AllBare p.gens) g:=by
 have rv:=qI hi;have W:=hi.length;have X:a≠T:=λz=>by
  rw[z,Q]at ha
  cases ha
 have J:∀ H:Hp,(∀ b,H b=none\/b=T\/∃ o xs,b=a/\H b=some (.frz o (.lst xs)))->H T=some (.tbl #[])->cC K H a (ns.map V.int)->gz P w H g.heap->(H a≠none->K.lookup a=none) →
   codeAny (model P w) callerA (.call (.ref fa) ⟨[.ref a],[]⟩) (λr p=>r=.ok (.ret (.bool true))/\OldK g.heap p.heap/\p.os=g.os/\AllBare p.gens) g:=by
  intro H hO L hS hok hK;have hA:∀ b,H b≠none->b=a\/b=T:=λb z=>by
   obtain q|q|⟨_,_,q,_⟩:=hO b
   .exact absurd q z
   .exact .inr q
   .exact .inl q
  have i:∀ {b:Addr}{o:Obj},g.heap.get? b=some o->H b=none->(pA g.heap H).get? b=some o:=λe n=>C5 e n;have Y:∀ {b:Addr}{o:Obj},g.heap.get? b=some o->(∀ its n,o.data≠.seq its n)->(∀ ps,o.data≠.fields ps)->H b=none:=λ{b o} e d1 d2=>by
   cases q:H b with
   |none=>rfl
   |some u=>
    rcases hA b (by rw[q];simp) with O|O
    .subst O;rw[ha]at e;cases e
     exact absurd rfl (d1 vs.toArray 0)
    .subst O;rw[Q]at e;cases e
     exact absurd rfl (d2 #[])
  have C:∀ {b:Addr}{m:Str->Option Value},g.heap.Ns b m->(pA g.heap H).Ns b m:=λ{b m} ⟨o,es,ep,e,d,r⟩=>⟨o,es,ep,i e (Y e (λ_ _ z=>by rw[d]at z;cases z) (λ_ z=>by rw[d]at z;cases z)),d,r⟩
  have Z:K.In (pA g.heap H):=λb o e=>i (KX b o e) (by
   cases q:H b with
   |none=>rfl
   |some u=>
    rcases hA b (by rw[q];simp) with O|O
    .subst O;rw[hK (by rw[q];simp)]at e;cases e
    .subst O;rw[hTK]at e;cases e)
  have hM:Mod K mg (pA g.heap H):=⟨Z,C R,⟨mb,C hb,hbb⟩,let ⟨mc,h1,h2⟩:=U;⟨mc,C h1,h2⟩⟩;have hB:Nv mg (pA g.heap H):=by
   obtain⟨bm,ob,b1,b2,b3,b4,b5,b6,b7⟩:=hbm;exact⟨bm,ob,b1,b2,b3,i b4 (Y b4 (λ_ _ z=>by rw[b7]at z;cases z) (λ_ z=>by rw[b7]at z;cases z)),b5,b6,b7⟩
  have e0:vC P w K mg (pA g.heap H) callerA [] g H:=⟨rfl,hM,λb o e=>HE e,Nat.le_of_eq (zV _ _),trivial,λb hb=>absurd (show b∈([]:List Addr) from hb) (by simp),hok,.of_eq hg⟩
  have tab:Tab H:=λP2 ps e=>by
   obtain q|q|⟨_,_,_,q⟩:=hO P2
   .rw[e]at q;cases q
   .subst q;rw[L]at e;cases e
    exact⟨trivial,λpos v z=>by cases z⟩
   .rw[e]at q;cases q
  refine codeAny_mono ((F _ Z (C R) hB).run callerA [] g H ⟨[.ref a],[]⟩ [.ref a] [.ref a] _ _ hr e0 (M g (.ref a)) (.cons rfl .nil) (hsp H tab ⟨_,L⟩ hS)) λr p h=>?_
  cases r with
  |error e=>exact(hCX H e p h).elim
  |ok fl=>
   cases fl with
   |next=>exact False.elim h
   |brk=>exact False.elim h
   |cont=>exact False.elim h
   |ret u=>
    obtain⟨v,H',os,bare,un,I,r',q⟩:=h;have q':v=.bl true:=q;subst q';obtain rfl:u=Value.bool true:=r';have y:∀ b o,b≠T->g.heap.get? b=some o->p.heap.get? b=some o:=λb o nT e=>by
     obtain q|q|⟨ob,xs,_,z⟩:=hO b
     .exact un.keep b o e q (by intro z;exact absurd (show b∈([]:List Addr) from z) (by simp)) (by simp)
     .exact absurd q nT
     .have z2:=un.frzs b ob _ z;obtain⟨e1,_⟩:=hok b _ z;obtain⟨e2,_⟩:=I b _ z2;rw[e]at e1;cases e1
      exact e2
    obtain⟨E,hm⟩:=un.tbls T _ L;have gT:p.heap.get? T=some (tabObj (#[]++E)):=I T _ hm;refine⟨rfl,⟨λb o e=>?_,λb o e=>?_⟩,os,bare⟩
    .by_cases z:b=T
     .subst z;rw[Q]at e;cases e
      exact .inr (.inl ⟨(hTc.tab Q).isCodeTable,rfl,#[],E,rfl,gT⟩)
     .exact .inl (y b o z e)
    .by_cases z:b=T
     .subst z;exact⟨_,gT⟩
     .exact⟨o,y b o z e⟩
 cases hk:K.lookup a with
 |some o=>
  have e:=KX a o hk;rw[ha]at e
  cases e
  refine J (λb=>if b=T then some (.tbl #[]) else none) (λb=>?_) (if_pos rfl) (.inr ⟨_,vs.toArray,_,hk,rfl,rfl,rfl,by rw[size_toArray,W];exact hl,by simpa using rv⟩) (λb u z=>?_) λz=>absurd (if_neg X) z
  .by_cases hb:b=T
   .exact .inr (.inl hb)
   .exact .inl (if_neg hb)
  .by_cases hb:b=T
   .have D:=(if_pos hb).symm.trans z
    cases D
    subst hb;exact Q
   .have D:=(if_neg hb).symm.trans z
    cases D
 |none=>
  have H2:∀ b,b≠T->b≠a->(if b=T then some (HO.tbl #[]) else if b=a then some (HO.frz {cls:=.type "list",data:=.seq vs.toArray} (.lst (ns.map V.int))) else none)=none:=λb h1 h2=>by rw[if_neg h1,if_neg h2]
  have H3:(if a=T then some (HO.tbl #[]) else if a=a then some (HO.frz {cls:=.type "list",data:=.seq vs.toArray} (.lst (ns.map V.int))) else none)=some (HO.frz {cls:=.type "list",data:=.seq vs.toArray} (.lst (ns.map V.int))):=by rw[if_neg X,if_pos rfl]
  refine J (λb=>if b=T then some (.tbl #[]) else if b=a then some (.frz {cls:=.type "list",data:=.seq vs.toArray} (.lst (ns.map V.int))) else none) (λb=>?_) (if_pos rfl) (.inl (.inr ⟨{cls:=.type "list",data:=.seq vs.toArray},H3⟩)) (λb u z=>?_) λ_=>hk
  .by_cases hb:b=T
   .exact .inr (.inl hb)
   .by_cases B:b=a
    .subst B;exact .inr (.inr ⟨_,_,rfl,H3⟩)
    .exact .inl (H2 b hb B)
  .by_cases hb:b=T
   .have D:=(if_pos hb).symm.trans z
    cases D
    subst hb;exact Q
   .by_cases B:b=a
    .subst B;have D:=H3.symm.trans z
     cases D
     exact⟨ha,by rw[length_map];exact hl,vs,_,rv,ha⟩
    .have D:=(H2 b hb B).symm.trans z
     cases D
theorem walkT {l:PySem.W.OpenLaw}{n k:Nat}{q:Program}{i:List Str}{X:(Str->Option Value)->Heap->Prop}{I:World->Heap->Prop}{d:DefRec}{K:Params->Frg}{x:Str}{ts:List Addr}
  (hn:l.most=some n) (v:n<=63) (J:d.params.defaults=[]) (U:cu k callerA)
  (Q:∀ (w:World) (h:Heap),I w h->(K w.params).In h) (C:∀ (w:World) (h:Heap),I w h->∀ P∈ts,h.get? P=some (tabObj #[]))
  (F:∀ (w:World) (mg:Str->Option Value) (y:Addr) (h:Heap),(K w.params).In h->h.Ns mainGlobals mg->mg d.name=some (.ref y) →
   ∃ (D:FuncData) (c T:Addr),(∀ (s:Shared) (u:Value),BindsTo s D ⟨[u],[]⟩ [(x,u)])/\T∈ts/\(K w.params).lookup T=none/\PySem.W.codeHdIn (K w.params) c T=true/\gL (K w.params)=some T ∧
    ∀ base:Heap,(K w.params).In base->base.Ns mainGlobals mg->Nv mg base->ix l.prog w (K w.params) mg base xx k y D [x] (tq (K w.params) yT)) :
  PySem.W.WalkO q i X I l.row.toRowW d [] (λf O=>PySem.call f O):=by
 refine Att.attach_call hn J λw s₀ m mg b y o pm b b a O ns G Y b hd b E r g b W=>?_;have L:=Q w _ Y;obtain⟨D,c,T,hb,D,B,M,p,O⟩:=F w mg y _ L G.T.g E;have y:Nv mg m.heap:=by
  obtain⟨bm,ob,b1,R,m,b4,Z,E⟩:=G.T.bmain;refine⟨bm,ob,b1,R,λz=>?_,m,b4,Z,E⟩;obtain⟨R,R,R,e,d,_⟩:=G.T.g;rw[<-z,m]at e
  cases e
  rw[E]at d;cases d
 exact Aa B (C w _ Y T D) (codeHd_of_K L M) L G.T.g G.T.b y G.T.builtins G.T.nolimit W r g (le_trans b (le_trans v ⋯)) U O hb (λH m g r=>LU ⟨m,λP e=>by rw[p]at e;cases e;exact g⟩ (le_trans b v) r) λ_ _ _ z=>z
end DL
set_option maxHeartbeats 4000000
namespace DL
open PySem PySem.Spec L2 PyProof.Rows
theorem wD:typeLookup (.type "list_reverseiterator") "__len__"=pure none:=by rw[typeLookup_type,builtinLookup_eq_fast];kernel_rfl
theorem pQ:Slot "list_reverseiterator" "__length_hint__" "list_reverseiterator.__length_hint__":=
 .of (owner:="list_reverseiterator") (n:="__length_hint__") (by rw[typeLookup_type,builtinLookup_eq_fast];kernel_rfl) (by decide +kernel) (by decide +kernel) (by decide +kernel)
  (by first|exact .inl (by decide +kernel)|exact .inr (by decide +kernel)) (by rw[isSubtype_type];kernel_rfl)
section
variable {prog:Program}{w:World}{A:Around}{E:Value->Shared->Prop}{s:Shared}
theorem o9 (d:s.heap.IsRevIter it l i)(h:Q false s):wpAny (model prog w) A (Builtin.List.listLengthHint (.ref it)) Q E s:=by
 unfold Builtin.List.listLengthHint;refine wpAny_bind (wpAny_specialOf d.typeIs wD ?_);show wpAny _ A (specialOf (Value.ref it) (Str.ofString "__length_hint__") >>= _) _ _ _;refine wpAny_bind (wpAny_specialOf d.typeIs pQ.lookup ?_);generalize a:("list_reverseiterator.__length_hint__":String)=id0
 wp_delta
 rw[show splitId id0=some ("list_reverseiterator","__length_hint__") from by subst a;decide +kernel]
 subst a;refine wpAny_bind (wpAny_isInstance (T:="list_reverseiterator") (b:=true) d.typeIs (by rw[isSubtype_type];kernel_rfl) ?_)
 refine wpAny_ite_split (λa=>absurd a ⋯) (λ_=>?_)
 refine wpAny_ite_split (λ_=>?_) (λa=>absurd (by decide +kernel) a)
 refine wpAny_ite_split (λa=>absurd a (by decide +kernel)) (λ_=>?_)
 exact wpAny_pure h
theorem l8 {R:Result->Shared->Prop}{I l:Addr}{items:Array Value} (hh:A.handled=none) (d:s.heap.IsRevIter I l ((items.size:Int)-1)) (D:s.heap.IsList l items) (hz:items.size<=sizeLine) (S:Addr) (r:Value) (g:Nat) (y:s.heap.get? S=some {cls:=.type "list",data:=.seq #[] g}) (x:l≠I) (m:S≠I) (u:S≠l)
  (B:∀ h p a k,(∀ b o,b≠S->b≠I->s.heap.get? b=some o->h.get? b=some o)->h.get? S=some {cls:=.type "list",dict:=none,data:=.seq a k,slots:=#[]} →
   ItemsOf (λi v=>items[items.size-1-i]?=some v) a items.size->R (.ok (.ret r)) {s with heap:=h,toks:=p}) :
  wpAny (model prog w) A.in1 (Builtin.List.listExtendWith (.ref S) (.ref I) r)
   (λp h=>match p with|.done f=>R (.ok f) h|.again k=>k.quiet=true/\codeAny (model prog w) A k R h) (λe h=>R (.error e) h) s:=by
 have W:=(Walks.listRev (prog:=prog) (w:=w) (A:=A.in1) hh I l x items).toS;have p:S∉[I,l]:=λhm=>by
  obtain e|e:=mem_cons.mp hm
  .exact m e
  .exact u (mem_singleton.mp e)
 unfold Builtin.List.listExtendWith;refine wpAny_bind (wpAny_typeOf d.typeIs ?_);have z:Builtin.List.listSameRef (.ref S) (.ref I)=false:=by simp[Builtin.List.listSameRef,m]
 have C:(Value.type "list_reverseiterator" == Value.type "list")=false:=⋯
 have q:(Value.type "list_reverseiterator" == Value.type "tuple")=false:=⋯
 simp only[z,C,q,Bool.or_false,Bool.false_eq_true,if_false];refine wpAny_bind (wpAny_pyIter_revIter d ?_);refine wpAny_bind (wpAny_holding (o9 d ?_));refine wpAny_ite_split (λq=>absurd q ⋯) (λ_=>wpAny_pure ⟨plainId_quiet F.plain_extend_loop _,?_⟩)
 have q:(items.size:Int)-1-((0:Nat):Int)=(items.size:Int)-1:=⋯
 refine codeAny_extend_loopS W hz S p r items.size 0 s #[] g rfl (zero_le _) ⟨zero_le _,by rw[q];exact d,D⟩ y (ItemsOf.nil _) λh a k hm q p=>?_
 rw[Moved.eq_with hm];refine B h.heap h.toks a k (λb o hb a e=>hm.heap b o (λh=>?_) e) q p
 obtain k|h:=mem_cons.mp h
 .exact hb k
 .exact a (mem_singleton.mp h)
theorem jD {R:Result->Shared->Prop}{I l:Addr}{items:Array Value} (hh:A.handled=none) (u:s.heap.IsRevIter I l ((items.size:Int)-1)) (C:s.heap.IsList l items) (hz:items.size<=sizeLine) (S:Addr) (q:s.heap.get? S=some {cls:=.type "list",data:=.seq #[]}) (y:l≠I) (k:S≠I) (m:S≠l)
  (z:∀ p x a g,(∀ b o,b≠S->b≠I->s.heap.get? b=some o->p.get? b=some o)->p.get? S=some {cls:=.type "list",dict:=none,data:=.seq a g,slots:=#[]} →
   ItemsOf (λi v=>items[items.size-1-i]?=some v) a items.size->R (.ok (.ret .none)) {s with heap:=p,toks:=x}) :
  wpAny (model prog w) A.in1 (Builtin.«list.__init__» ⟨[.ref S,.ref I],[]⟩)
   (λh d=>match h with|.done f=>R (.ok f) d|.again g=>g.quiet=true/\codeAny (model prog w) A g R d) (λe d=>R (.error e) d) s:=by
 show wpAny _ _ (do let old ← Builtin.List.listItems (.ref S);Builtin.List.listUpdate (.ref S) (λ_=>#[]);letGo old.toList.reverse;Builtin.List.listExtendWith (.ref S) (.ref I) .none) _ _ s
 refine wpAny_bind ?_;unfold Builtin.List.listItems;refine wpAny_bind (wpAny_seqItems q rfl (wpAny_pure ?_));show wpAny _ _ (updateSeq S (λ_=>#[]) >>= λ_=>letGo (#[]:Array Value).toList.reverse >>= λ_=>Builtin.List.listExtendWith (.ref S) (.ref I) .none) _ _ s;refine wpAny_bind (wpAny_updateSeq q rfl ?_);have h:=Heap.get?_update_self (Obj.mapSeq (λ_=>(#[]:Array Value))) q rfl;have d:∀ b o,b≠S->s.heap.get? b=some o->(s.heap.update S (Obj.mapSeq (λ_=>(#[]:Array Value)))).get? b=some o:=
  λb o hb e=>(Heap.get?_update_other _ _ (Ne.symm hb)).trans e
 refine wpAny_bind (wpAny_letGo ?_);refine l8 hh (u.at λo e=>d I o (Ne.symm k) e) (C.at λo e=>d l o (Ne.symm m) e) hz S .none _ h y k m λp x a g B r h=>?_;exact z p x a g (λb o hb a e=>B b o hb a (d b o hb e)) r h
theorem py {Q:Value->Shared->Prop}{I l:Addr}{items:Array Value}(hh:A.handled=none)(g:s.heap.IsRevIter I l ((items.size:Int)-1))(x:s.heap.IsList l items)(hz:items.size<=sizeLine)(m:l≠I)
  (y:∀ k u a p,(∀ b o,b≠I->s.heap.get? b=some o->k.get? b=some o) →
   k.get? s.heap.objs.size=some {cls:=.type "list",dict:=none,data:=.seq a p,slots:=#[]}->ItemsOf (λi v=>items[items.size-1-i]?=some v) a items.size->Q (.ref s.heap.objs.size) {s with heap:=k,toks:=u}) :
  wpAny (model prog w) A (call (.type "list") [.ref I]) Q E s:=by
 obtain⟨d,r,_⟩:=id g;obtain⟨ol,q,_⟩:=id x;refine callType_codes (Q₁:=λobj d=>obj=.ref s.heap.objs.size/\d={s with heap:=s.heap.push {cls:=.type "list",data:=.seq #[]}}) F.called_list (F.typeCall_list_1 _) F.entry_list_init
  (code_list_new _ ⟨rfl,rfl⟩) λobj d h=>?_
 obtain⟨rfl,rfl⟩:=h;have h:(s.heap.push {cls:=.type "list",data:=.seq #[]}).get? s.heap.objs.size=some {cls:=.type "list",data:=.seq #[]}:=Heap.get?_push_size _ rfl;refine⟨⟨_,h,rfl⟩,F.args_list_init_2 _ _,jD (A:=A.in1) hh (g.at λo e=>Heap.get?_push_of_some _ e) (x.at λo e=>Heap.get?_push_of_some _ e) hz _ h m (λe=>ne_of_lt (Heap.lt_size r) e.symm) (λe=>ne_of_lt (Heap.lt_size q) e.symm) λk u a p q d h=>?_⟩;exact⟨rfl,y k u a p (λb o hb e=>q b o (ne_of_lt (Heap.lt_size e)) hb (Heap.get?_push_of_some _ e)) d h⟩
theorem zY {its:List Value}{a:Array Value}(h:ItemsOf (λi v=>its.toArray[its.toArray.size-1-i]?=some v) a its.toArray.size):a=its.reverse.toArray:=by
 obtain⟨d,b⟩:=h;have e:a.toList=its.reverse:=by
  apply ext_getElem?;intro i
  by_cases hi:i<a.size
  .have g:=b i a[i] (getElem?_eq_getElem hi);have b:i<its.length:=by simpa [d] using hi
   rw[getElem?_toList,getElem?_eq_getElem hi,List.getElem?_reverse b];simpa using g.symm
  .rw[getElem?_eq_none (by simpa using le_of_not_lt hi),getElem?_eq_none (by simp[d]at hi;simpa using hi)]
 rw[<-e]
theorem vl:∀ {a:List V}{b:List Value},aT a b->aT a.reverse b.reverse
 | [],_,.nil=>.nil
 |x::a,u::b,.cons r t=>by
  rw[reverse_cons,reverse_cons];exact(vl t).append (.cons r .nil)
end
def Fv (K:Frg)(te:TE):TE:=λa H Q=>te a H λx h=>∃ p y,x=.ref p/\cC K h p y/\∀ l,h l=none->Q (.ref l) (cs h l (.lst y.reverse))
section
variable {X:Cx}{e:Expr}{te:TE}{p1 p2 pos1 pos2:Pos}
theorem w8 (hm1:X.mg "list"=none) (hm2:X.mg "reversed"=none) (hd:X.A.handled=none) (he:PE X e te) (hg1:Gl X "list":=by rfl) (hg2:Gl X "reversed":=by rfl)
  (qc:starEach [e] X.env=(false,eval e X.env)::starEach [] X.env:=by exact aN rfl) (rG:starEach [.Call (.Name "reversed" p2) [e] [] pos2] X.env=(false,eval (.Call (.Name "reversed" p2) [e] [] pos2) X.env)::starEach [] X.env:=by rfl) :
  PE X (.Call (.Name "list" p1) [.Call (.Name "reversed" p2) [e] [] pos2] [] pos1) (Fv X.K te):=by
 intro pins s σ H Q I h;refine wpAny_Call_Name_kw (fP I hg1 hm1 PyProof.Rows.boot_list ?_);refine PyProof.Rows.callWith_type1 ?_ rG;rw[rG];show wpAny _ _ (spliced ((false,eval (.Call (.Name "reversed" p2) [e] [] pos2) X.env)::backTo pos1 (starEach [] X.env))) _ _ s;refine Calls.spliced_cons ?_;refine wpAny_Call_Name_kw (fP I hg2 hm2 PyProof.Rows.boot_reversed ?_);refine PyProof.Rows.callWith_type1 ?_ qc;rw[qc];show wpAny _ _ (spliced ((false,eval e X.env)::backTo pos2 (starEach [] X.env))) _ _ s;refine Calls.spliced_cons (cG (he pins s σ H _ I h) ?_);rintro u s1 ⟨x,H1,I1,r1,q1⟩;obtain⟨p,ys,rfl,hq,fin⟩:=q1
 cases r1
 refine Calls.spliced_nil ?_;obtain⟨its,r,pl,hz⟩:=I1.list hq;have hl:=pl.isList;obtain⟨ol,hol,_⟩:=id hl;refine call_reversed_list hl ?_;have hit:((s1.heap.push (revObj p ((its.toArray.size:Int)-1))).IsRevIter s1.heap.objs.size p ((its.toArray.size:Int)-1)):=⟨_,Heap.get?_push_size _ rfl,rfl,rfl⟩;refine Calls.spliced_nil ?_;have hlen:=r.length;refine py hd hit (hl.at λo e=>Heap.get?_push_of_some _ e) (by rw[size_toArray];ext) (ne_of_lt (Heap.lt_size hol)) λh' tk acc' c' hk hS' hacc=>?_
 have hacc':=zY hacc;subst hacc';have keep:∀ b o,s1.heap.get? b=some o->h'.get? b=some o:=λb o e=>hk b o (ne_of_lt (Heap.lt_size e)) (Heap.get?_push_of_some _ e);have hsz:(s1.heap.push (revObj p ((its.toArray.size:Int)-1))).objs.size=s1.heap.objs.size+1:=size_push' ..;rw[hsz]at hS' ⊢;have le:s1.heap.objs.size<=s1.heap.objs.size+1:=Nat.le_succ _;exact⟨.ref (s1.heap.objs.size+1),_,I1.laid (t':=tk) keep le (show fh X.prog X.w _ h' _ (.lst ys.reverse) from⟨by rw[length_reverse];exact hz,its.reverse,c',vl r,hS'⟩),rfl,fin _ (I1.hok.fresh le)⟩
def AH (R:S->Prop)(s:S):Prop:=match items s with
 |some a=>cI a=true/\R (.ol a.reverse)
 |none=>False
def o6 (b:WE):WE:=λa R=>b a (AH R)
theorem v5 (g:X.mg "list"=none) (i:X.mg "reversed"=none) (hd:X.A.handled=none) (he:PE X e (au X.K o)) (d:Gl X "list":=by rfl) (m:Gl X "reversed":=by rfl)
  (qc:starEach [e] X.env=(false,eval e X.env)::starEach [] X.env:=by exact aN rfl) (rG:starEach [.Call (.Name "reversed" p2) [e] [] pos2] X.env=(false,eval (.Call (.Name "reversed" p2) [e] [] pos2) X.env)::starEach [] X.env:=by rfl) :
  PE X (.Call (.Name "list" p1) [.Call (.Name "reversed" p2) [e] [] pos2] [] pos1) (au X.K (o6 o)):=
 (w8 g i hd he d m qc rG).imp <| by rintro I H Q ⟨y,R,F,B,h,k⟩;exact⟨y,_,F,B,h,λv D E s ex p q=>by
  unfold AH at q
  split at q
  .rename_i C hi;obtain⟨a,x,rfl,z,r⟩:=(p.val ex.sub).list ex.sub hi;refine⟨a,x,rfl,z,λl b=>?_⟩;have u:=dq.newL x.reverse ex.sub ex.full b;exact k _ D _ (.ol C.reverse) (ex.trans u) ⟨l,x.reverse,rfl,aJ ex.hh b,aJ ex.sub b,aW,(aq.full ex.full q.1 r).reverse⟩ q.2
  .exact q.elim⟩
end
theorem BP (he:PE X (.Subscript a b e) (au X.K h))(i:PG X (.Tuple es k p) (kF X.K g)):PS X (.Assign [.Tuple es k p] (.Subscript a b e) d) (bK X.K H₀ (FI h g)):=BO he i rfl rfl rfl
theorem zf (e:WE)(a:bf)(R:S->Prop):o6 e a R=e a (AH R):=rfl
theorem MP (R:S->Prop)(ts:List T):AH R (.t (.lst ts))=(cI ts=true/\R (.ol ts.reverse)):=rfl
theorem MR (R:S->Prop)(ts:List T):AH R (.vt (.lst ts))=(cI ts=true/\R (.ol ts.reverse)):=rfl
theorem MQ (R:S->Prop)(ts:List T):AH R (.ol ts)=(cI ts=true/\R (.ol ts.reverse)):=rfl
end DL
namespace ST
open PySem PySem.SetTable
def line (k:Nat):Nat->Nat->Nat->List Nat
 |0,_,_=>[]
 |n+1,i,p=>(List.range (runEnd k i+1-i)).map (i + ·)++line k n (leap k i p).1 (leap k i p).2
def rem (k N:Nat)(p:Probe):List Nat:=
 (List.range (p.more+1)).map (p.j + ·)++line k N (leap k p.i p.perturb).1 (leap k p.i p.perturb).2
def way (k:Nat)(h:Int):List Nat:=line k (k+14) (bits h % (k+1)) (bits h)
theorem lQ (k i:Nat):i<=runEnd k i:=by unfold runEnd;split <;> ext
theorem AI (k i:Nat):runEnd k i<=i+9:=by unfold runEnd;split <;> ext
theorem iJ (k:Nat):∀ n i p,(line k n i p).length<=10*n
 |0,_,_=>by simp[line]
 |n+1,i,p=>by
  have a:=iJ k n (leap k i p).1 (leap k i p).2;have h:=AI k i;simp only[line,List.length_append,length_map,length_range];ext
theorem AG (t:SetTable)(h:Int)(N:Nat):rem t.mask N (t.probeStart h)=line t.mask (N+1) (bits h % (t.mask+1)) (bits h):=by
 have a:=lQ t.mask (bits h % (t.mask+1));unfold rem probeStart;simp only[line];rw[show runEnd t.mask (bits h % (t.mask+1))-bits h % (t.mask+1)+1=runEnd t.mask (bits h % (t.mask+1))+1-bits h % (t.mask+1) by ext]
theorem yP (t:SetTable)(h:Int):rem t.mask (t.mask+13) (t.probeStart h)=way t.mask h:=AG t h _
theorem oG (m j:Nat):(List.range (m+1+1)).map (j + ·)=j::(List.range (m+1)).map (j+1 + ·):=by
 rw[range_succ_eq_map,map_cons,map_map]
 congr 1
 exact map_congr_left λa _=>by simp only[Function.comp];ext
theorem Fh {t:SetTable}{N:Nat}{p:Probe}(h:0<p.more):rem t.mask N p=p.j::rem t.mask N (t.advance p):=by
 obtain⟨j,e,i,r,d⟩:=p
 cases e with
 |zero=>simp at h
 |succ m=>
  simp only[rem,advance,succ_pos,if_true,gt_iff_lt,Nat.zero_lt_succ];rw[oG]
  rfl
theorem Fg {t:SetTable}{N:Nat}{p:Probe}(h:p.more=0):rem t.mask (N+1) p=p.j::rem t.mask N (t.advance p):=by
 obtain⟨j,e,i,r,d⟩:=p;simp only at h;subst h;have a:=lQ t.mask (leap t.mask i r).1;simp only[rem,advance,line,gt_iff_lt,lt_irrefl,if_false];rw[show runEnd t.mask (leap t.mask i r).1-(leap t.mask i r).1+1=runEnd t.mask (leap t.mask i r).1+1-(leap t.mask i r).1 by ext]
 simp
theorem jH {t:SetTable}{p:Probe}:(t.advance p).dummy=p.dummy:=by
 unfold advance;split <;> rfl
theorem G5 {t:SetTable}{hashAt:Nat->Int}{h:Int}(nd:∀ j,t.slot j≠.dummy):∀ (a N:Nat) (p:Probe),(rem t.mask N p).length<=a->p.dummy=none →
  (∃ j∈rem t.mask N p,t.slot j=.empty) →
  ∃ pre j b,rem t.mask N p=pre++j::b/\(∀ x∈pre,∃ i,t.slot x=.live i/\hashAt i≠h) ∧
   (
    (t.slot j=.empty/\probe.go t hashAt h a p=some (.empty j none)) ∨
    (∃ i k q,t.slot j=.live i/\hashAt i=h/\probe.go t hashAt h a p=some (.candidate j i q)/\rem t.mask k q=b/\q.dummy=none)):=by
 intro a
 induction a with
 |zero=>
  intro N p q _ ⟨j,g,_⟩;have:=List.length_pos_of_mem g;ext
 |succ a v=>
  intro N p q hd ⟨j,g,m⟩;have key:(∃ k,rem t.mask N p=p.j::rem t.mask k (t.advance p))\/rem t.mask N p=[p.j]:=by
   obtain d|d:=eq_zero_or_pos p.more
   .cases N with
    |zero=>right;simp[rem,d,line]
    |succ N=>left;exact⟨N,Fg d⟩
   .left;exact⟨N,Fh d⟩
  cases d:t.slot p.j with
  |dummy=>exact absurd d (nd _)
  |empty=>
   have o:probe.go t hashAt h (a+1) p=some (.empty p.j none):=by
    simp only[probe.go,d,hd]
   obtain⟨k,e⟩|e:=key
   .exact⟨[],p.j,_,e,by simp,.inl ⟨d,o⟩⟩
   .exact⟨[],p.j,[],e,by simp,.inl ⟨d,o⟩⟩
  |live i=>
   obtain⟨k,e⟩|e:=key
   .by_cases hh:hashAt i=h
    .refine⟨[],p.j,_,e,by simp,.inr ⟨i,k,t.advance p,d,hh,?_,rfl,jH.trans hd⟩⟩
     simp only[probe.go,d,hh,beq_self_eq_true,if_true]
    .have o:probe.go t hashAt h (a+1) p=probe.go t hashAt h a (t.advance p):=by
      simp only[probe.go,d];rw[if_neg (by simpa using hh)]
     rw[e]at g q;have r:j∈rem t.mask k (t.advance p):=by
      obtain rfl|g:=mem_cons.mp g
      .rw[m]at d;exact nomatch d
      .exact g
     simp only[length_cons]at q;obtain⟨pre,u,b,y,a,q⟩:=v k (t.advance p) ⋯ (jH.trans hd) ⟨j,r,m⟩
     refine⟨p.j::pre,u,b,by rw[e,y];rfl,?_,by rw[o];exact q⟩
     intro x b
     obtain rfl|b:=mem_cons.mp b
     .exact⟨i,d,hh⟩
     .exact a x b
   .rw[e]at g;obtain rfl:=mem_singleton.mp g;rw[m]at d;exact nomatch d
def QU (k:Nat):Nat->Nat->Nat->Nat
 |0,_,a=>a
 |n+1,i,a=>QU k n ((i*5+1) % (k+1)) (a ||| (1 <<< i))
theorem Hx (k i:Nat):i∈(List.range (runEnd k i+1-i)).map (i + ·):=
 mem_map.mpr ⟨0,mem_range.mpr (by have:=lQ k i;ext),⋯⟩
theorem yE (k j:Nat):∀ n i a,(QU k n i a).testBit j=true->a.testBit j=true\/j∈line k n i 0
 |0,i,a,h=>.inl h
 |n+1,i,a,h=>by
  obtain h|h:=yE k j n _ _ h
  .rw[Nat.testBit_or,Bool.or_eq_true]at h
   obtain h|h:=h
   .exact .inl h
   .right
    have:j=i:=by
     rw[Nat.one_shiftLeft,Nat.testBit_two_pow]at h;simpa using (of_decide_eq_true h).symm
    subst this;exact mem_append_left _ (Hx k j)
  .right
   exact mem_append_right _ (by simpa [leap] using h)
def HG (k:Nat):Prop:=k=7\/k=31\/k=127
theorem H0 {k:Nat}(ok:HG k):∀ i,i<k+1->QU k (k+1) i 0=2 ^ (k+1)-1:=by
 rcases ok with rfl|rfl|rfl <;> decide +kernel
theorem Af {k i j:Nat}(ok:HG k)(hi:i<k+1)(a:j<k+1):j∈line k (k+1) i 0:=by
 rcases yE k j (k+1) i 0 (by rw[H0 ok i hi,Nat.testBit_two_pow_sub_one];simpa using a) with h|h
 .simp at h
 .exact h
theorem qi {m n j:Nat}(hz:∀ i,i<m+1->j∈line m n i 0):∀ k i p,i<m+1->p<32 ^ k->j∈line m (k+n) i p
 |0,i,p,hi,h=>by
  have:p=0:=by simpa using h
  subst this;rw[zero_add];exact hz i hi
 |k+1,i,p,hi,h=>by
  rw[Nat.add_right_comm];refine mem_append_right _ (qi hz k _ _ (mod_lt _ (succ_pos _)) ?_);show p / 32<32 ^ k;rw[Nat.div_lt_iff_lt_mul ⋯]
  rwa [Nat.pow_succ]at h
theorem GH (h:Int):bits h<2 ^ 64:=by
 unfold bits;have a:h % (2 ^ 64:Int)<2 ^ 64:=Int.emod_lt_of_pos _ ⋯
 have a:0<=h % (2 ^ 64:Int):=Int.emod_nonneg _ ⋯
 ext
theorem zb {k j:Nat}{h:Int}(ok:HG k)(a:j<=k):j∈way k h:=by
 unfold way;rw[show k+14=13+(k+1) by ext]
 exact qi (λi hi=>Af ok hi ⋯) 13 _ _ (mod_lt _ (succ_pos _)) (lt_of_lt_of_le (GH h) ⋯)
theorem yu {m x:Nat}:∀ n i p,i<=m->x∈line m n i p->x<=m
 |0,_,_,_,h=>by simp[line]at h
 |n+1,i,p,hi,h=>by
  obtain h|h:=mem_append.mp h
  .obtain⟨k,a,rfl⟩:=mem_map.mp h;have a:=mem_range.mp a;unfold runEnd at a
   split at a <;> ext
  .exact yu n _ _ (le_of_lt_succ (mod_lt _ (succ_pos _))) h
theorem xv {k x:Nat}{h:Int}(a:x∈way k h):x<=k:=yu _ _ _ (le_of_lt_succ (mod_lt _ (succ_pos _))) a
theorem By (ris:xs.toList.Pairwise (· < ·)):∀ d lo hi,hi-lo<=d->lo<=hi->hi<=xs.size →
  (∀ m (h:m<xs.size),m<lo->xs[m]<j)->(∀ m (h:m<xs.size),hi<=m->¬ xs[m]<j) →
  below.go xs j d lo hi<=xs.size/\∀ m (h:m<xs.size),m<below.go xs j d lo hi↔xs[m]<j:=by
 intro d;have mono:∀ a b (ha:a<xs.size) (hb:b<xs.size),a<b->xs[a]<xs[b]:=λa b ha hb e=>by
  have:=pairwise_iff_getElem.mp ris a b (by simpa using ha) (by simpa using hb) e
  simpa using this
 induction d with
 |zero=>
  intro lo hi o e g i k;have:lo=hi:=⋯
  subst this;refine⟨g,λm h=>⟨i m h,λhm=>?_⟩⟩
  obtain hh|hh:=lt_or_ge m lo
  .exact hh
  .exact absurd hm (k m h hh)
 |succ d p=>
  intro lo hi o e g i k;simp only[below.go]
  by_cases e:lo<hi
  .rw[if_pos e];have hm:(lo+hi) / 2<xs.size:=⋯
   have d:xs.getD ((lo+hi) / 2) j=xs[(lo+hi) / 2]:=by simp[Array.getD,hm]
   rw[d]
   by_cases d:xs[(lo+hi) / 2]<j
   .rw[if_pos d];refine p _ _ ⋯ ⋯ g (λm h o=>?_) k
    obtain hh|hh:=lt_or_ge m ((lo+hi) / 2)
    .exact lt_trans (mono m _ h hm hh) d
    .have:m=(lo+hi) / 2:=⋯
     subst this;exact d
   .rw[if_neg d];refine p _ _ ⋯ ⋯ ⋯ i (λm h o=>?_)
    obtain hh|hh:=lt_or_ge ((lo+hi) / 2) m
    .exact λx=>d (lt_trans (mono _ m hm h hh) x)
    .have:m=(lo+hi) / 2:=⋯
     subst this;exact d
  .rw[if_neg e];have:lo=hi:=⋯
   subst this;refine⟨g,λm h=>⟨i m h,λhm=>?_⟩⟩
   obtain hh|hh:=lt_or_ge m lo
   .exact hh
   .exact absurd hm (k m h hh)
theorem kr (j:Nat)(ris:xs.toList.Pairwise (· < ·)) :
  below xs j<=xs.size/\∀ m (h:m<xs.size),m<below xs j↔xs[m]<j:=
 By ris _ _ _ ⋯ ⋯ (le_refl _) (λm _ h=>⋯) (λm h a=>⋯)
theorem below_at (ris:xs.toList.Pairwise (· < ·))(i:Nat)(hi:i<xs.size):below xs xs[i]=i:=by
 obtain⟨d,e⟩:=kr xs[i] ris;have mono:∀ a b (ha:a<xs.size) (hb:b<xs.size),a<b->xs[a]<xs[b]:=λa b ha hb d=>by
  have:=pairwise_iff_getElem.mp ris a b (by simpa using ha) (by simpa using hb) d
  simpa using this
 obtain h|h|h:=lt_trichotomy (below xs xs[i]) i
 .have:=(e (below xs xs[i]) ⋯).mpr (mono _ _ ⋯ hi h)
  ext
 .exact h
 .have:=(e i hi).mp h;ext
theorem yb (j:Nat):has #[] j=false:=by
 unfold has;simp
theorem AK {t:SetTable}(ris:t.place.toList.Pairwise (· < ·))(i:Nat)(hi:i<t.place.size):t.slot t.place[i]=.live i:=by
 unfold slot;simp only[below_at ris i hi];simp[hi]
theorem slot_of {t:SetTable}(ris:t.place.toList.Pairwise (· < ·))(nd:t.dummies=#[])(j:Nat) :
  (t.slot j=.empty/\j∉t.place.toList)\/∃ i,∃ hi:i<t.place.size,t.slot j=.live i/\t.place[i]=j:=by
 by_cases a:j∈t.place.toList
 .right
  obtain⟨i,hi,e⟩:=getElem_of_mem a;have h:i<t.place.size:=by simpa using hi
  have b:t.place[i]=j:=by simpa using e
  exact⟨i,h,by rw[<-b];exact AK ris i h,b⟩
 .left
  refine⟨?_,a⟩;unfold slot;have h:(t.place[below t.place j]? == some j)=false:=by
   rw[beq_eq_false_iff_ne];intro e;obtain⟨hb,e⟩:=Array.getElem?_eq_some_iff.mp e;exact a (by rw[<-e];simp)
  simp only[h,nd,yb];simp
structure Tab (t:SetTable) (es:Array (Int × Value)) (ps:List (Nat × (Int × Value))):Prop where
 pl:t.place.toList=ps.map (·.1)
 en:es.toList=ps.map (·.2)
 ris:(ps.map (·.1)).Pairwise (· < ·)
 top:∀ q∈ps,q.1<=t.mask
 dum:t.dummies=#[]
 ok:HG t.mask
 reach:∀ q∈ps,∃ pre post,way t.mask q.2.1=pre++q.1::post/\∀ x∈pre,x∈ps.map (·.1)
def cu (k n:Nat):Prop:=(k=7/\n<=4)\/(k=31/\n<=18)\/(k=127/\n<=76)
namespace Tab
variable {t:SetTable}{es:Array (Int × Value)}{ps:List (Nat × (Int × Value))}
theorem psz (T:Tab t es ps):t.place.size=ps.length:=by rw[<-length_toList,T.pl,length_map]
theorem esz (T:Tab t es ps):es.size=ps.length:=by rw[<-length_toList,T.en,length_map]
theorem ris' (T:Tab t es ps):t.place.toList.Pairwise (· < ·):=by rw[T.pl];exact T.ris
theorem fits (T:Tab t es ps)(r:ps.length<=t.mask):t.fits es.size=true:=by
 simp only[SetTable.fits,SetTable.fill,T.dum,T.psz,T.esz];simpa using r
theorem put (T:Tab t es ps)(B:j<=t.mask)(C:j∉ps.map (·.1))
  (z:∃ pre p,way t.mask e.1=pre++j::p/\∀ x∈pre,x∈ps.map (·.1)) :
  Tab (t.put j).1 (insertAt es (t.put j).2 e) (ps.take (t.put j).2++(j,e)::ps.drop (t.put j).2):=by
 have g:∀ x,x∈ps.map (·.1)->x∈(ps.take (t.put j).2++(j,e)::ps.drop (t.put j).2).map (·.1):=λx u=>by
  obtain⟨q,i,rfl⟩:=mem_map.mp u;refine mem_map.mpr ⟨q,?_,rfl⟩;rw[<-take_append_drop (t.put j).2 ps]at i
  obtain h|h:=mem_append.mp i
  .exact mem_append_left _ h
  .exact mem_append_right _ (mem_cons_of_mem _ h)
 have d:∀ q,q∈ps.take (t.put j).2++(j,e)::ps.drop (t.put j).2->q=(j,e)\/q∈ps:=λq i=>by
  obtain h|h:=mem_append.mp i
  .exact .inr (mem_of_mem_take h)
  .rcases mem_cons.mp h with h|h
   .exact .inl h
   .exact .inr (mem_of_mem_drop h)
 have hb:=kr j T.ris';have k:(t.put j).2=below t.place j:=rfl;have hm:(t.put j).1.mask=t.mask:=rfl;have y:∀ m (h:m<(ps.map (·.1)).length),(ps.map (·.1))[m]=t.place[m]'(by rw[T.psz];simpa using h):=λm h=>by
  have:=T.pl;simp only[<-this];simp
 refine⟨?_,?_,?_,?_,?_,?_,?_⟩
 .show(insertAt t.place (below t.place j) j).toList=_;rw[toList_insertAt,T.pl,map_append,map_cons,map_take,map_drop,k]
 .rw[toList_insertAt,T.en,map_append,map_cons,map_take,map_drop]
 .rw[map_append,map_cons,map_take,map_drop,k];rw[List.pairwise_append,pairwise_cons];have o:∀ a∈(ps.map (·.1)).take (below t.place j),a<j:=λa ha=>by
   obtain⟨m,hm,rfl⟩:=getElem_of_mem ha;rw[length_take]at hm;rw[List.getElem_take,y];exact(hb.2 m _).mp (by omega)
  have k:∀ a∈(ps.map (·.1)).drop (below t.place j),j<a:=λa ha=>by
   have r:=mem_of_mem_drop ha;obtain⟨m,hm,rfl⟩:=getElem_of_mem ha;rw[length_drop]at hm;rw[List.getElem_drop]at r ⊢;have v:¬ (ps.map (·.1))[below t.place j+m]<j:=by
    rw[y];exact λh=>by have:=(hb.2 _ _).mpr h;omega
   have y:(ps.map (·.1))[below t.place j+m]≠j:=λh=>C (h ▸ r);omega
  refine⟨T.ris.sublist (List.take_sublist _ _),⟨k,T.ris.sublist (List.drop_sublist _ _)⟩,λa ha b hb'=>?_⟩
  obtain rfl|hb':=mem_cons.mp hb'
  .exact o a ha
  .exact lt_trans (o a ha) (k b hb')
 .intro q i
  obtain rfl|h:=d q i
  .exact B
  .exact T.top q h
 .show(if has t.dummies j=true then _ else t.dummies)=#[]
  rw[T.dum,yb];rfl
 .exact T.ok
 .intro q i
  obtain rfl|h:=d q i
  .obtain⟨pre,p,d,v⟩:=z;exact⟨pre,p,d,λx u=>g x (v x u)⟩
  .obtain⟨pre,p,d,v⟩:=T.reach q h;exact⟨pre,p,d,λx u=>g x (v x u)⟩
end Tab
theorem qj (k:Nat):∀ n i p,∃ r,line k (n+1) i p=line k n i p++r
 |0,i,p=>⟨line k 1 i p,rfl⟩
 |n+1,i,p=>by
  obtain⟨r,e⟩:=qj k n (leap k i p).1 (leap k i p).2;refine⟨r,?_⟩;show _++line k (n+1) _ _=(_++line k n _ _)++r;rw[e,List.append_assoc]
theorem free_eq (m:Nat)(owner:Array (Option Nat)):∀ a i p,layClean.free m owner a i p=(line m a i p).find? (λj=>(owner.getD j (some 0)).isNone)
 |0,i,p=>rfl
 |a+1,i,p=>by
  simp only[layClean.free,line,List.find?_append,List.find?_map];have e:(λk=>(owner.getD (i+k) (some 0)).isNone)=((λj=>(owner.getD j (some 0)).isNone) ∘ λx=>i+x):=rfl;rw[e]
  cases h:List.find? ((λj=>(owner.getD j (some 0)).isNone) ∘ λx=>i+x) (List.range (runEnd m i+1-i)) with
  |some k=>rfl
  |none=>
   simp only[Option.map_none,Option.none_or];exact free_eq m owner a _ _
theorem vd:∀ (l:List (Option Nat)) (j k:Nat),l[j]?=some none->List.Perm ((l.set j (some k)).filterMap id) (k::l.filterMap id)
 | [],j,k,h=>by simp at h
 |a::l,0,k,h=>by
  simp only[List.getElem?_cons_zero,Option.some.injEq]at h;subst h;simp
 |a::l,j+1,k,h=>by
  simp only[List.getElem?_cons_succ]at h;have i:=vd l j k h
  cases a with
  |none=>simpa using i
  |some b=>
   simp only[List.set_cons_succ,filterMap_cons,id];exact(List.Perm.cons b i).trans (List.Perm.swap k b _)
theorem tT:∀ l:List (Option Nat),(∀ x∈l,x.isSome=true)->(l.filterMap id).length=l.length
 | [],_=>rfl
 |none::l,h=>by have:=h none mem_cons_self;simp at this
 |some a::l,h=>by
  simp only[filterMap_cons,id,length_cons];rw[tT l λx b=>h x (mem_cons_of_mem _ b)]
structure Own (mask:Nat) (hs:List Int) (owner:Array (Option Nat)):Prop where
 sz:owner.size=mask+1
 pm:List.Perm (owner.toList.filterMap id) (List.range hs.length)
 rc:∀ j k,owner[j]?=some (some k)->∃ h,hs[k]?=some h/\∃ pre post,way mask h=pre++j::post/\∀ x∈pre,∃ k',owner[x]?=some (some k')
theorem Own.step {k:Nat}{hs:List Int}{owner:Array (Option Nat)}(O:Own k hs owner)(ok:HG k)(hl:hs.length<k+1)(h:Int) :
  ∃ j,layClean.free k owner (turns k) (bits h % (k+1)) (bits h)=some j/\Own k (hs++[h]) (owner.setIfInBounds j (some hs.length)):=by
 have L:∃ j,j<k+1/\owner[j]?=some none:=by
  apply Classical.byContradiction;intro hc;have z:∀ x∈owner.toList,x.isSome=true:=λx a=>by
   obtain⟨m,hm,rfl⟩:=getElem_of_mem a;have D:m<owner.size:=by simpa using hm
   cases a:owner[m] with
   |some v=>simp[a]
   |none=>exact absurd ⟨m,by rw[<-O.sz];exact D,by rw[getElem?_eq_getElem D,a]⟩ hc
  have h1:=tT _ z;have h2:=O.pm.length_eq;rw[length_range]at h2;have h3:owner.toList.length=k+1:=by simpa using O.sz
  have h4:=h1.symm.trans h2;rw[h3]at h4;omega
 obtain⟨Z,M,e0⟩:=L;have g:∀ x,x<k+1->owner.getD x (some 0)=owner[x]?.getD (some 0):=λx a=>by
  rw[Array.getD_eq_getD_getElem?]
 have o:((way k h).find? (λj=>(owner.getD j (some 0)).isNone)).isSome=true:=by
  rw[List.find?_isSome];exact⟨Z,zb ok (by omega),by rw[g Z M,e0];rfl⟩
 obtain⟨j,Y⟩:=isSome_iff_exists.mp o;have u:layClean.free k owner (turns k) (bits h % (k+1)) (bits h)=some j:=by
  rw[free_eq];obtain⟨r,e⟩:=qj k (k+14) (bits h % (k+1)) (bits h);show(line k (k+14+1) _ _).find? _=_;rw[e,List.find?_append];show Option.or ((way k h).find? _) _=_;rw[Y];rfl
 obtain⟨P,pre,B,R,F⟩:=List.find?_eq_some_iff_append.mp Y;have y:j<k+1:=Nat.lt_succ_of_le (xv (h:=h) (by rw[R];simp))
 have W:owner[j]?=some none:=by
  have b:j<owner.size:=by rw[O.sz];exact y
  have:=P;rw[g j y,getElem?_eq_getElem b]at this;rw[getElem?_eq_getElem b];simpa using this
 have b:j<owner.size:=by rw[O.sz];exact y
 have d:∀ x,(owner.setIfInBounds j (some hs.length))[x]?=if j=x then some (some hs.length) else owner[x]?:=λx=>by
  rw[Array.getElem?_setIfInBounds]
  split
  .rename_i e;subst e;simp[b]
  .rfl
 have p:∀ (x q:Nat),owner[x]?=some (some q)->∃ Q,(owner.setIfInBounds j (some hs.length))[x]?=some (some Q):=λx q e=>by
  rw[d]
  split
  .exact⟨_,rfl⟩
  .exact⟨q,e⟩
 refine⟨j,u,⟨by simpa using O.sz,?_,?_⟩⟩
 .rw[Array.toList_setIfInBounds];refine(vd _ _ _ (by simpa using W)).trans ?_
  rw[List.length_append,length_singleton,range_succ];exact(List.Perm.cons _ O.pm).trans (List.perm_append_singleton _ _).symm
 .intro j' q e;rw[d]at e
  split at e
  .rename_i ej;subst ej;obtain rfl:hs.length=q:=by simpa using e
   refine⟨h,by simp,pre,B,R,λx a=>?_⟩
   have H:=F x a;have I:x<k+1:=Nat.lt_succ_of_le (xv (h:=h) (by rw[R];exact mem_append_left _ a))
   have E:x<owner.size:=by rw[O.sz];exact I
   rw[g x I,getElem?_eq_getElem E]at H
   cases ho:owner[x] with
   |none=>simp[ho]at H
   |some v=>exact p x v (by rw[getElem?_eq_getElem E,ho])
  .obtain⟨h',J,C,i,X,U⟩:=O.rc j' q e;refine⟨h',?_,C,i,X,λx a=>?_⟩
   .rw[getElem?_append_left (by
     obtain hh|hh:=lt_or_ge q hs.length
     .exact hh
     .rw[getElem?_eq_none hh]at J;simp at J)]
    exact J
   .obtain⟨v,hv⟩:=U x a;exact p x v hv
theorem uU {mask:Nat}(ok:HG mask):∀ (l hs:List Int) (owner:Array (Option Nat)),Own mask hs owner->hs.length+l.length<=mask+1 →
  ∃ owner',l.foldl (init:=some (owner,hs.length)) (λacc h=>do
   let (owner,k) ← acc
   let j ← layClean.free mask owner (turns mask) (bits h % (mask+1)) (bits h)
   pure (owner.setIfInBounds j (some k),k+1))=some (owner',(hs++l).length)/\Own mask (hs++l) owner'
 | [],hs,owner,O,_=>⟨owner,by simp,by simpa using O⟩
 |h::l,hs,owner,O,hl=>by
  simp only[length_cons]at hl;obtain⟨j,hj,O'⟩:=O.step ok (by omega) h
  obtain⟨owner',e,O''⟩:=uU ok l (hs++[h]) _ O' (by simp;omega)
  refine⟨owner',?_,by simpa using O''⟩
  rw[foldl_cons];simp only[Option.bind_eq_bind,Option.bind_some,hj,Option.pure_def]at e ⊢;rw[List.append_assoc]at e;simp only[List.length_append,length_singleton,List.singleton_append]at e ⊢;exact e
theorem uB {m:Nat}(ok:HG m)(h:Array Int)(a:h.size<=m+1) :
  ∃ o,layClean m h=some o/\Own m h.toList o:=by
 have O:Own m [] (Array.replicate (m+1) none):=⟨by simp,by simp,λj k e=>by
  rw[Array.getElem?_replicate]at e
  split at e <;> simp at e⟩
 obtain⟨o,e,b⟩:=uU ok h.toList [] _ O (by simpa using a)
 refine⟨o,?_,by simpa using b⟩
 unfold layClean;rw[<-Array.foldl_toList];simp only[length_nil]at e;rw[e];rfl
theorem uE (f:Nat->Option Nat):∀ l:List Nat,(l.filterMap λj=>(f j).map (j,·)).map (·.1)=l.filter λj=>(f j).isSome
 | []=>rfl
 |a::l=>by
  have i:=uE f l
  cases h:f a <;> simp[h]at i ⊢ <;> exact i
theorem uF (f:Nat->Option Nat):∀ l:List Nat,(l.filterMap λj=>(f j).map (j,·)).map (·.2)=l.filterMap f
 | []=>rfl
 |a::l=>by
  have i:=uF f l
  cases h:f a <;> simp[h]at i ⊢ <;> exact i
theorem ui:∀ l:List α,(∀ x∈l,f x=g x)->l.filterMap f=l.filterMap g
 | [],_=>rfl
 |a::l,h=>by
  rw[filterMap_cons,filterMap_cons,h a mem_cons_self,ui l λx b=>h x (mem_cons_of_mem _ b)]
theorem range_getD (o:Array (Option Nat)):(List.range o.size).filterMap (λj=>o.getD j none)=o.toList.filterMap id:=by
 have e:=filterMap_getElem?_range o;rw[<-e,List.filterMap_filterMap];refine ui _ λx h=>?_;have h:=mem_range.mp h;simp[Array.getD,h]
theorem Hj {m finger moves:Nat}{led plain:Bool}(ok:HG m)(es:Array (Int × Value))(I:es.size<=m+1) :
  ∃ t p J,laid m finger moves led plain (es.map (·.1))=some (t,p)/\Tab t (p.filterMap (es[·]?)) J/\t.mask=m/\t.led=led/\t.plain=plain ∧
   List.Perm (p.filterMap (es[·]?)).toList es.toList:=by
 obtain⟨o,e,O⟩:=uB ok (es.map (·.1)) (by simpa using I)
 have D:((es.map (·.1)).toList).length=es.size:=by simp
 have C:∀ j k,o[j]?=some (some k)->∃ q:k<es.size,∃ pre p,way m es[k].1=pre++j::p/\∀ x∈pre,∃ H,o[x]?=some (some H):=λj k u=>by
  obtain⟨h,g,r⟩:=O.rc j k u;have E:k<es.size:=by
   obtain hh|hh:=lt_or_ge k es.size
   .exact hh
   .rw[getElem?_eq_none (by simpa using hh)]at g;simp at g
  refine⟨E,?_⟩;have:h=es[k].1:=by simpa [E] using g.symm
  rw[<-this];exact r
 let g:=(List.range (m+1)).filterMap λj=>(o.getD j none).map (j,·)
 have i:∀ q∈g,q.1<m+1/\o[q.1]?=some (some q.2):=λq y=>by
  obtain⟨j,z,e⟩:=List.mem_filterMap.mp y;have z:=mem_range.mp z;have v:j<o.size:=by rw[O.sz];exact z
  cases u:o[j] with
  |none=>simp[Array.getD,v,u]at e
  |some k=>
   have:q=(j,k):=by simpa [Array.getD,v,u] using e.symm
   subst this;exact⟨z,by rw[getElem?_eq_getElem v,u]⟩
 have z:g.map (·.1)=(List.range (m+1)).filter λj=>(o.getD j none).isSome:=uE _ _;have B:g.map (·.2)=o.toList.filterMap id:=by
  rw[<-range_getD,O.sz];exact uF _ _
 have v:List.Perm (g.map (·.2)) (List.range es.size):=by rw[B,<-D];exact O.pm
 have F:List.Perm ((g.map (·.2)).filterMap (es[·]?)) es.toList:=by
  have:=v.filterMap (es[·]?)
  rwa [filterMap_getElem?_range]at this
 let d:Int × Value:=(0,.none)
 have v:(g.map (·.2)).filterMap (es[·]?)=g.map (λq=>es.getD q.2 d):=by
  rw[List.filterMap_map];have:∀ (l:List (Nat × Nat)),(∀ q∈l,q.2<es.size)->l.filterMap ((es[·]?) ∘ (·.2))=l.map (λq=>es.getD q.2 d):=by
   intro l
   induction l with
   |nil=>intro _;rfl
   |cons a l B=>
    intro h;have ha:=h a mem_cons_self;rw[List.filterMap_cons_some (b:=es.getD a.2 d) (by simp[Array.getD,ha]),B λq y=>h q (mem_cons_of_mem _ y)]
    rfl
  exact this g λq y=>(C q.1 q.2 (i q y).2).1
 refine⟨_,_,g.map (λq=>(q.1,es.getD q.2 d)),by unfold laid;rw[e];rfl,?_,rfl,rfl,rfl,?_⟩
 .have D:∀ x k,o[x]?=some (some k)->x∈(g.map (λq=>(q.1,es.getD q.2 d))).map (·.1):=λx k u=>by
   have B:x<o.size:=by
    obtain hh|hh:=lt_or_ge x o.size
    .exact hh
    .rw[Array.getElem?_eq_none hh]at u;simp at u
   rw[map_map];show x∈g.map (·.1);rw[z,mem_filter];refine⟨mem_range.mpr (by rw[<-O.sz];exact B),?_⟩
   rw[getElem?_eq_getElem B]at u;simp[Array.getD,B,Option.some.inj u]
  refine⟨?_,?_,?_,?_,rfl,ok,?_⟩
  .show(g.map (·.1))=_;rw[map_map];rfl
  .rw[Array.toList_filterMap];show(g.map (·.2)).filterMap _=_;rw[v,map_map];rfl
  .rw[map_map];show(g.map (·.1)).Pairwise _;rw[z];exact List.pairwise_lt_range.sublist List.filter_sublist
  .intro q y;obtain⟨o,g,rfl⟩:=mem_map.mp y;exact le_of_lt_succ (i o g).1
  .intro q y;obtain⟨o,g,rfl⟩:=mem_map.mp y;obtain⟨E,pre,p,u,v⟩:=C o.1 o.2 (i o g).2;refine⟨pre,p,?_,λx i=>?_⟩
   .show way m (es.getD o.2 d).1=_;simp only[Array.getD,E,dif_pos];exact u
   .obtain⟨H,g⟩:=v x i;exact D x H g
 .rw[Array.toList_filterMap];exact F
abbrev ik (prog:Program)(w:World):=intKind prog w
structure Holds (prog:Program) (w:World) (h:Heap) (es:Array (Int × Value)) (ms:List (Addr × List Int)):Prop where
 pm:List.Perm es.toList (ms.map λm=>(tupleKeyHash (ik prog w) m.2,Value.ref m.1))
 key:∀ m∈ms,IsTupleKey (ik prog w) h m.2 m.1
 nd:(ms.map (·.2)).Nodup
theorem vk:∀ {pre p g d:List Nat},pre++j::g=p++k::d->k∈pre\/j=k\/j∈p
 | [],[],_,_,e=>by simp at e;exact .inr (.inl e.1)
 | [],a::p,_,_,e=>by simp at e;exact .inr (.inr (by rw[e.1];exact mem_cons_self))
 |a::pre,[],_,_,e=>by simp at e;exact .inl (by rw[e.1];exact mem_cons_self)
 |a::pre,b::p,_,_,e=>by
  simp only[List.cons_append,List.cons.injEq]at e
  obtain h|h|h:=vk e.2
  .exact .inl (mem_cons_of_mem _ h)
  .exact .inr (.inl h)
  .exact .inr (.inr (mem_cons_of_mem _ h))
section
variable {prog:Program}{w:World}{A:Around}{E:Value->Shared->Prop}{s:Shared}
theorem mw (n:Nat)(hk:IsTupleKey (ik prog w) s.heap ks b)(h:Q false s) :
  wpAny (model prog w) A (ofAClassStatement (n+1) (.ref b)) Q E s:=by
 have hT:=hk.typeIs;obtain⟨o,items,m,ho,_,hd,hi⟩:=hk;unfold ofAClassStatement;refine wpAny_bind (wpAny_typeOf hT ?_);dsimp only;rw[if_pos ⋯]
 refine wpAny_bind (wpAny_pure ?_);simp only[Bool.not_true,Bool.false_eq_true,if_false];refine wpAny_bind (wpAny_seqItems ho hd ?_);dsimp only;refine wpAny_bind ?_;rw[<-Array.forIn_toList];refine wpAny_forIn_list _ (λrest r s'=>r.1=none/\s'=s/\∀ v∈rest,carriedByValue v=true) _ ?_ ?_ _ _ ⟨rfl,rfl,hi.byValue⟩
 .rintro v rest r s' ⟨hr,rfl,hall⟩;have hv:=hall v mem_cons_self;have e:ofAClassStatement n v=pure false:=by
   cases v with
   |ref a=>simp[carriedByValue]at hv
   |_=>unfold ofAClassStatement;rfl
  rw[e];refine wpAny_bind (wpAny_pure ?_);simp only[Bool.false_eq_true,if_false];exact wpAny_pure ⟨rfl,rfl,λu hu'=>hall u (mem_cons_of_mem _ hu')⟩
 .rintro⟨r1,r2⟩ s' ⟨hr,rfl,_⟩;simp only at hr;subst hr;exact wpAny_pure h
theorem pa (o:IsTupleKey (ik prog w) s.heap ks b)
  (p:∀ v∈l,∃ c k,v=.ref c/\IsTupleKey (ik prog w) s.heap k c) (h:Q false s) :
  wpAny (model prog w) A (searchCouldBeSeen (.ref b) l) Q E s:=by
 unfold searchCouldBeSeen;refine wpAny_bind ?_;refine wpAny_forIn_list _ (λrest r e=>r.1=none/\e=s/\∀ v∈rest,∃ c k,v=.ref c/\IsTupleKey (ik prog w) s.heap k c) _ ?_ ?_ _ _ ⟨rfl,rfl,p⟩
 .rintro v rest r e ⟨i,rfl,a⟩;obtain⟨c,k,rfl,m⟩:=a v mem_cons_self;have d:∀ v∈rest,∃ c k,v=.ref c/\IsTupleKey (ik prog w) e.heap k c:=λu g=>a u (mem_cons_of_mem _ g);dsimp only;refine wpAny_ite_split (λ_=>wpAny_pure ⟨rfl,rfl,d⟩) (λ_=>?_);refine wpAny_bind (wpAny_eqIsQuiet_tuple o ?_);simp only[Bool.not_true,Bool.false_eq_true,if_false];refine wpAny_bind (wpAny_eqIsQuiet_tuple m ?_);simp only[Bool.not_true,Bool.false_eq_true,if_false];refine wpAny_bind (mw 7 o ?_);simp only[Bool.false_eq_true,if_false];refine wpAny_bind (mw 7 m ?_);simp only[Bool.false_eq_true,if_false];exact wpAny_pure ⟨rfl,rfl,d⟩
 .rintro⟨a,a⟩ e ⟨i,rfl,_⟩;simp only at i;subst i;exact wpAny_pure h
theorem pb (n:Nat)(hk:IsTupleKey (ik prog w) s.heap ks b)(h:Q true s) :
  wpAny (model prog w) A (hashByValue (n+1) (.ref b)) Q E s:=by
 have hT:=hk.typeIs;obtain⟨o,items,m,ho,_,hd,hi⟩:=hk;unfold hashByValue;refine wpAny_bind (wpAny_specialOf hT F.slot_tuple_hash.lookup ?_);dsimp only;refine wpAny_bind (wpAny_seqItems ho hd ?_);simp only[Option.getD_some];refine wpAny_bind ?_;rw[<-Array.forIn_toList];refine wpAny_forIn_list _ (λrest r s'=>r.1=none/\s'=s/\∃ ks',ItemsAre (ik prog w) ks' rest) _ ?_ ?_ _ _ ⟨rfl,rfl,ks,hi⟩
 .rintro v rest r s' ⟨hr,rfl,ks',hall⟩
  cases hall with
  | @cons k _ ks'' _ h1 h2=>
   obtain⟨t,rfl⟩:=Value.isInt_shape h1;have e:hashByValue n (.int k t)=pure true:=by unfold hashByValue;rfl
   rw[e];refine wpAny_bind (wpAny_pure ?_);simp only[Bool.not_true,Bool.false_eq_true,if_false];exact wpAny_pure ⟨rfl,rfl,ks'',h2⟩
 .rintro⟨r1,r2⟩ s' ⟨hr,rfl,_⟩;simp only at hr;subst hr;exact wpAny_pure h
theorem AW
  (hu:A.units<cLine) (ho:s.heap.get? a=some o) (hd:o.data=.set es ep t) (T:Tab t es ps) (hlen:ps.length<=t.mask) (H:Holds prog w s.heap es ms)
  (hk:IsTupleKey (ik prog w) s.heap ks b)
  (hin:ks∈ms.map (·.2)->Q (.there none) s)
  (hout:ks∉ms.map (·.2)->∀ j pre y,way t.mask (tupleKeyHash (ik prog w) ks)=pre++j::y->(∀ x∈pre,x∈ps.map (·.1))->j∉ps.map (·.1)->Q (.free j false) s) :
  ∀ (z N:Nat) (p:Probe) (g:Option Probe) (done:List Nat),g.getD (t.probeStart (tupleKeyHash (ik prog w) ks))=p->p.dummy=none →
   way t.mask (tupleKeyHash (ik prog w) ks)=done++rem t.mask N p->(rem t.mask N p).length<z →
   (∀ x∈done,∃ q∈ps,q.1=x/\∀ c,q.2.2=.ref c->¬ IsTupleKey (ik prog w) s.heap ks c) →
   wpAny (model prog w) A (setSearchFrom a (.ref b) (tupleKeyHash (ik prog w) ks) true z g) Q E s:=by
 have hf:=T.fits hlen;have hnd:∀ j,t.slot j≠.dummy:=λj=>by
  rcases slot_of T.ris' T.dum j with ⟨e,_⟩|⟨i,_,e,_⟩ <;> rw[e] <;> exact λh=>nomatch h
 have I:∀ q∈ps,∃ m∈ms,q.2=(tupleKeyHash (ik prog w) m.2,Value.ref m.1):=λq M=>by
  have C:q.2∈es.toList:=by rw[T.en];exact mem_map.mpr ⟨q,M,rfl⟩
  obtain⟨m,hm,e⟩:=mem_map.mp (H.pm.mem_iff.mp C);exact⟨m,hm,e.symm⟩
 have k:∃ j,j<=t.mask/\t.slot j=.empty:=by
  apply Classical.byContradiction;intro X;have d:∀ j,j∈List.range (t.mask+1)->j∈ps.map (·.1):=λj u=>by
   have u:=mem_range.mp u
   obtain⟨e,_⟩|⟨i,hi,_,e⟩:=slot_of T.ris' T.dum j
   .exact absurd ⟨j,⋯,e⟩ X
   .rw[<-T.pl,<-e];simp
  have:=List.nodup_range.length_le_of_subset (l₂:=ps.map (·.1)) (λj u=>d j u);simp at this;ext
 intro z
 induction z with
 |zero=>intro N p g done _ _ _ d;ext
 |succ z ih=>
  intro N p g done Y F B d z;unfold setSearchFrom;refine wpAny_bind (wpAny_setState_of ho hd hf ?_);dsimp only;rw[if_neg (by rcases T.ok with e|e|e <;> simp[gaveWay,e])]
  obtain⟨D,d,L⟩:=k;have k:D∈rem t.mask N p:=by
   have C:=zb (h:=tupleKeyHash (ik prog w) ks) T.ok d;rw[B]at C
   obtain C|C:=mem_append.mp C
   .obtain⟨q,M,e,_⟩:=z _ C
    obtain⟨_,hn⟩|⟨i,hi,O,_⟩:=slot_of T.ris' T.dum D
    .exact absurd (by rw[T.pl,<-e];exact mem_map.mpr ⟨q,M,rfl⟩) hn
    .rw[L]at O;exact nomatch O
   .exact C
  have d:(rem t.mask N p).length<=10*turns t.mask:=by
   have C:=iJ t.mask (t.mask+14) (bits (tupleKeyHash (ik prog w) ks) % (t.mask+1)) (bits (tupleKeyHash (ik prog w) ks));have u:(way t.mask (tupleKeyHash (ik prog w) ks)).length=done.length+(rem t.mask N p).length:=by rw[B,List.length_append]
   unfold way at u;unfold turns;ext
  obtain⟨pre,j,y,J,u,P⟩:=G5 (hashAt:=λi=>(es[i]?.map (·.1)).getD 0) (h:=tupleKeyHash (ik prog w) ks) hnd (10*turns t.mask) N p d F ⟨D,k,L⟩;have L:∀ x∈pre,∃ q∈ps,q.1=x/\∀ c,q.2.2=.ref c->¬ IsTupleKey (ik prog w) s.heap ks c:=λx k=>by
   obtain⟨i,F,U⟩:=u x k
   obtain⟨e,_⟩|⟨u,D,e,O⟩:=slot_of T.ris' T.dum x
   .rw[e]at F;exact nomatch F
   .rw[e]at F;obtain rfl:u=i:=by injection F
    have d:u<ps.length:=by rw[<-T.psz];exact D
    have R:ps[u].1=x:=by
     rw[<-O];have:=T.pl;have h3:t.place.toList[u]?=(ps.map (·.1))[u]?:=by rw[this]
     simpa [D,d] using h3.symm
    refine⟨ps[u],getElem_mem d,R,λc X W=>U ?_⟩;obtain⟨m,hm,em⟩:=I ps[u] (getElem_mem d);rw[em]at X;obtain rfl:m.1=c:=by injection X
    have U:=(H.key m hm).inj W;have h4:es[u]?=some ps[u].2:=by
     have:es.toList[u]?=(ps.map (·.2))[u]?:=by rw[T.en]
     simpa [d] using this
    rw[h4,em,U];rfl
  generalize Z:t.probe _ (tupleKeyHash (ik prog w) ks) (g.getD _)=pr;rw[Y]at Z
  obtain⟨F,U⟩|⟨i,N',p',F,hh,U,g,hpd'⟩:=P
  .obtain rfl:pr=some (.empty j none):=Z.symm.trans U;have Y:j∉ps.map (·.1):=by
    obtain⟨_,hn⟩|⟨i,hi,O,_⟩:=slot_of T.ris' T.dum j
    .rw[<-T.pl];exact hn
    .rw[F]at O;exact nomatch O
   have O:∀ x∈done++pre,∃ q∈ps,q.1=x/\∀ c,q.2.2=.ref c->¬ IsTupleKey (ik prog w) s.heap ks c:=λx k=>by
    obtain k|k:=mem_append.mp k
    .exact z x k
    .exact L x k
   have P:way t.mask (tupleKeyHash (ik prog w) ks)=(done++pre)++j::y:=by rw[B,J,List.append_assoc]
   refine wpAny_pure (hout (λhin'=>?_) j (done++pre) y P (λx k=>?_) Y)
   .obtain⟨m,hm,ek⟩:=mem_map.mp hin';have he:(tupleKeyHash (ik prog w) m.2,Value.ref m.1)∈es.toList:=H.pm.mem_iff.mpr (mem_map.mpr ⟨m,hm,rfl⟩);rw[T.en]at he;obtain⟨q,M,eq⟩:=mem_map.mp he;obtain⟨pre',post',ew,hp'⟩:=T.reach q M;have eq1:q.2.1=tupleKeyHash (ik prog w) ks:=by rw[eq,ek]
    rw[eq1,P]at ew
    obtain h|h|h:=vk ew
    .obtain⟨q',P,e1,C⟩:=O _ h;have:q'=q:=by
      have hnd:=T.ris.imp (λh=>ne_of_lt h);obtain⟨i1,hi1,rfl⟩:=getElem_of_mem P;obtain⟨i2,d,rfl⟩:=getElem_of_mem M;have:i1=i2:=by
       have h5:=pairwise_iff_getElem.mp T.ris
       obtain P|P|P:=lt_trichotomy i1 i2
       .have:=h5 i1 i2 (by simpa using hi1) (by simpa using d) P
        simp only[getElem_map]at this;ext
       .exact P
       .have:=h5 i2 i1 (by simpa using d) (by simpa using hi1) P
        simp only[getElem_map]at this;ext
      subst this;rfl
     subst this;exact C m.1 (by rw[eq]) (ek ▸ H.key m hm)
    .exact Y (h ▸ mem_map.mpr ⟨q,M,rfl⟩)
    .exact Y (hp' j h)
   .obtain⟨q,M,e,_⟩:=O x k;exact mem_map.mpr ⟨q,M,e⟩
  .obtain rfl:pr=some (.candidate j i p'):=Z.symm.trans U;dsimp only;obtain⟨u,D,C,M⟩:∃ u,∃ hi:u<t.place.size,t.slot j=.live u/\t.place[u]=j:=by
    obtain⟨e,_⟩|r:=slot_of T.ris' T.dum j
    .rw[e]at F;exact nomatch F
    .exact r
   rw[F]at C;obtain rfl:i=u:=by injection C
   have d:i<ps.length:=by rw[<-T.psz];exact D
   have R:ps[i].1=j:=by
    rw[<-M];have h3:t.place.toList[i]?=(ps.map (·.1))[i]?:=by rw[T.pl]
    simpa [D,d] using h3.symm
   have h4:es[i]?=some ps[i].2:=by
    have:es.toList[i]?=(ps.map (·.2))[i]?:=by rw[T.en]
    simpa [d] using this
   obtain⟨m,hm,em⟩:=I ps[i] (getElem_mem d);rw[em]at h4;have u:∀ v∈(es.filter (·.1 == tupleKeyHash (ik prog w) ks)).toList.map (·.2),∃ c C,v=.ref c/\IsTupleKey (ik prog w) s.heap C c:=λv C=>by
    obtain⟨e,he,rfl⟩:=mem_map.mp C;have M:e∈es.toList:=by
     have:=Array.mem_toList_iff.mp he;exact Array.mem_toList_iff.mpr (Array.mem_filter.mp this).1
    obtain⟨C,I,D⟩:=mem_map.mp (H.pm.mem_iff.mp M);exact⟨C.1,C.2,by rw[<-D],H.key C I⟩
   refine wpAny_ite_split (λ_=>wpAny_bind (pa hk u ?_)) (λ_=>?_)
   all_goals try simp only[Bool.false_eq_true,if_false]
   all_goals rw[h4]
   all_goals dsimp only
   all_goals refine wpAny_bind (wpAny_holding (wpAny_eqBool_tuple hu (H.key m hm) hk ?_))
   all_goals refine wpAny_bind (wpAny_setState_of ho hd hf ?_)
   all_goals by_cases u:m.2=ks
   all_goals try (
    rw[decide_eq_true u];simp only[Bool.and_self,if_true];exact wpAny_pure (hin (mem_map.mpr ⟨m,hm,u⟩)))
   all_goals rw[decide_eq_false u]
   all_goals simp only[Bool.and_false,Bool.false_eq_true,if_false,sameMemory,beq_self_eq_true,if_true]
   all_goals rw[F]
   all_goals dsimp only
   all_goals rw[h4]
   all_goals dsimp only
   all_goals refine wpAny_bind (wpAny_isSame_ref_self ?_)
   all_goals simp only[if_true]
   all_goals refine wpAny_bind (wpAny_pure ?_)
   all_goals dsimp only
   all_goals(
    refine ih N' p' (some p') (done++pre++[j]) rfl hpd' (by rw[g,B,J];simp) ?_ ?_
    .rw[g];have:(rem t.mask N p).length=pre.length+(y.length+1):=by rw[J];simp
     ext
    .intro x k
     obtain k|k:=mem_append.mp k
     .rcases mem_append.mp k with k|k
      .exact z x k
      .exact L x k
     .obtain rfl:=mem_singleton.mp k;refine⟨ps[i],getElem_mem d,R,λc X W=>?_⟩;rw[em]at X;obtain rfl:m.1=c:=by injection X
      exact u ((H.key m hm).inj W))
end
def dV (prog:Program)(w:World)(h:Heap)(a:Addr)(ms:List (Addr × List Int)):Prop:=
 ∃ o e b t p,h.get? a=some o/\o.ExactSet/\o.data=.set e b t/\Tab t e p/\cu t.mask p.length/\Holds prog w h e ms/\t.plain=true/\t.led=!(w.params.followText "set-order")
theorem cu.le {k n:Nat}(r:cu k n):n<=k:=by
 rcases r with ⟨e,h⟩ | ⟨e,h⟩ | ⟨e,h⟩ <;> ext
section
variable {prog:Program}{w:World}{A:Around}{E:Value->Shared->Prop}{s:Shared}
theorem ux (x:IsTupleKey (ik prog w) h ks c)(k:h.get? a=some o)(hd:o.data=.set es p t)
  (hs:Heap.SameBut a h h'):IsTupleKey (ik prog w) h' ks c:=by
 obtain⟨g,items,n,d,i,b,hi⟩:=x;have e:c≠a:=by
  rintro rfl;obtain rfl:g=o:=Option.some.inj (d.symm.trans k);rw[hd]at b;exact nomatch b
 exact⟨g,items,n,(hs.2 c e).trans d,i,b,hi⟩
theorem Holds.len (H:Holds prog w h es ms):es.size=ms.length:=by
 rw[<-length_toList,H.pm.length_eq,length_map]
def ga (ms:List (Addr × List Int))(b:Addr)(ks:List Int):List (Addr × List Int):=if ks∈ms.map (·.2) then ms else ms++[(b,ks)]
theorem Nq {a b:Addr}{ks:List Int}{ms:List (Addr × List Int)}{Q:Bool->Shared->Prop}(hu:A.units<cLine)(hS:dV prog w s.heap a ms)(hk:IsTupleKey (ik prog w) s.heap ks b)(hroom:ms.length<76)
  (h:∀ h' r,Heap.SameBut a s.heap h'->dV prog w h' a (ga ms b ks)->Q r {s with heap:=h'}) :
  wpAny (model prog w) A (setAddHashed a (.ref b) (tupleKeyHash (ik prog w) ks)) Q E s:=by
 obtain⟨o,es,ep,t,q,U,X,hd,T,R,H,P,M⟩:=id hS;have v:=T.fits R.le;have k:q.length=ms.length:=by rw[<-T.esz,H.len]
 unfold setAddHashed setAddHashedIn;refine wpAny_holding (wpAny_bind (wpAny_setState_of U hd v ?_));dsimp only;rw[if_neg (by simp[byScan,Value.scannable])]
 refine wpAny_bind ?_;unfold setSearch;refine AW hu U hd T R.le H hk (λi=>?_) (λd j pre p z g B=>?_) 100000 (t.mask+13) _ none [] rfl rfl (by rw[getD_none,yP,nil_append]) ?_ (λx u=>absurd u not_mem_nil)
 .refine wpAny_pure ?_;have e:s={s with heap:=s.heap}:=by cases s;rfl
  rw[e];exact h s.heap false (Heap.SameBut.refl a s.heap) (by unfold ga;rw[if_pos i];exact hS)
 .dsimp only;refine wpAny_bind (wpAny_setState_of U hd v ?_);dsimp only;have i:j<=t.mask:=xv (h:=tupleKeyHash (ik prog w) ks) (by rw[z];simp)
  have I:=T.put (e:=(tupleKeyHash (ik prog w) ks,Value.ref b)) i B ⟨pre,p,z,g⟩;have g:(t.put j).1.plain=true:=P;rw[if_pos g];refine wpAny_bind (pb 7 hk ?_);simp only[if_true];have v:q.length+1<=(t.put j).1.mask:=by
   show q.length+1<=t.mask
   rcases R with ⟨e,h⟩ | ⟨e,h⟩ | ⟨e,h⟩ <;> ext
  generalize i:q.take (t.put j).2++(j,(tupleKeyHash (ik prog w) ks,Value.ref b))::q.drop (t.put j).2=ps1 at I;generalize g:insertAt es (t.put j).2 (tupleKeyHash (ik prog w) ks,Value.ref b)=es1 at I ⊢;have p:ps1.length=q.length+1:=by
   rw[<-i];have:=congrArg List.length (take_append_drop (t.put j).2 q);simp only[List.length_append,length_cons]at this ⊢;ext
  have L:List.Perm es1.toList (ga ms b ks |>.map λm=>(tupleKeyHash (ik prog w) m.2,Value.ref m.1)):=by
   unfold ga;rw[if_neg d,<-g,map_append];refine(SetTable.insertAt_perm _ _ _).trans ?_;rw[toList_push];exact H.pm.append_right _
  have O:((ga ms b ks).map (·.2)).Nodup:=by
   unfold ga;rw[if_neg d,map_append,List.nodup_append];refine⟨H.nd,by simp,λx u y g=>?_⟩
   obtain rfl:y=ks:=by simpa using g
   exact λe=>d (e ▸ u)
  have u:∀ m∈ga ms b ks,IsTupleKey (ik prog w) s.heap m.2 m.1:=by
   unfold ga;rw[if_neg d];intro m hm
   obtain hm|hm:=mem_append.mp hm
   .exact H.key m hm
   .obtain rfl:=mem_singleton.mp hm;exact hk
  have d:(t.put j).1.fits es1.size=true:=I.fits (by rw[p];exact v)
  have C:es1.size<=sizeLine:=by
   rw[I.esz,p];have:sizeLine=16777216:=sizeLine_eq;have g:q.length=ms.length:=k;ext
  refine wpAny_bind (wpAny_storeSet_of U hd ?_ C);have D:=Heap.SameBut.update s.heap a (Obj.putSet es1 (t.put j).1);have F:(s.heap.update a (Obj.putSet es1 (t.put j).1)).get? a=some {o with data:=.set es1 (ep+1) (t.put j).1}:=by
   have:=Heap.get?_update_self (Obj.putSet es1 (t.put j).1) U (by rw[putSet_of es1 (t.put j).1 hd];rfl)
   rw[putSet_of es1 (t.put j).1 hd]at this;exact this
  have B:(t.put j).1.fill=q.length+1:=by
   show(t.put j).1.place.size+(t.put j).1.dummies.size=_;rw[I.psz,I.dum,p];rfl
  have k:(t.put j).1.mask=t.mask:=rfl;refine wpAny_ite_split (λg=>?_) (λg=>?_)
  .simp only[Bool.not_false,Bool.true_and,tooFull,B,k,ge_iff_le,decide_eq_true_eq]at g;obtain⟨z,Z,W,i⟩:∃ z,sizeAbove (grown (es.size+1))=z+1/\HG z/\cu z (q.length+1):=by
    rw[T.esz]
    obtain⟨e,h⟩|⟨e,h⟩|⟨e,h⟩:=R
    .have v:q.length=4:=⋯
     rw[v];exact⟨31,⋯,.inr (.inl rfl),.inr (.inl ⟨rfl,⋯⟩)⟩
    .have v:q.length=18:=⋯
     rw[v];exact⟨127,⋯,.inr (.inr rfl),.inr (.inr ⟨rfl,⋯⟩)⟩
    .ext
   refine wpAny_bind ?_;unfold setRelay;refine wpAny_bind (wpAny_setState_of F rfl d ?_);dsimp only;have d:z<=127:=by rcases W with e | e | e <;> ext
   rw[Z,if_neg (by rw[sizeLine_eq];ext)]
   obtain⟨J,d,Y,el,T2,em2,el2,epl2,v⟩:=Hj (finger:=(t.put j).1.finger) (moves:=(t.put j).1.movedTo z) (led:=(t.put j).1.led) (plain:=(t.put j).1.plain) W es1 (by rw[I.esz,p];have:=i.le;ext)
   have z:(t.put j).1.relaid (es1.map (·.1)) (grown (es.size+1))=some (J,d):=by
    unfold relaid;rw[Z,add_sub_cancel];exact el
   rw[z];generalize W:d.filterMap (es1[·]?)=es2 at T2 v;have z:es2.size=es1.size:=by rw[<-length_toList,v.length_eq,length_toList]
   have Z:Y.length=q.length+1:=by rw[<-T2.esz,z,I.esz,p]
   refine wpAny_bind ?_;show wpAny (model prog w) A (if ((d.filterMap (es1[·]?)).size != es1.size)=true then _ else _) _ _ _
   rw[W,if_neg (by rw[z];simp)]
   refine wpAny_pure ?_;dsimp only;refine wpAny_storeSet_of (s:={s with heap:=s.heap.update a (Obj.putSet es1 (t.put j).1)}) F rfl ?_ (by rw[z];exact C)
   have d:=D.trans (Heap.SameBut.update (s.heap.update a (Obj.putSet es1 (t.put j).1)) a (Obj.putSet es2 J));have q:((s.heap.update a (Obj.putSet es1 (t.put j).1)).update a (Obj.putSet es2 J)).get? a=some {o with data:=.set es2 (ep+1+1) J}:=by
    have:=Heap.get?_update_self (Obj.putSet es2 J) F (by rw[putSet_of es2 J rfl];rfl)
    rw[putSet_of es2 J rfl]at this;exact this
   refine wpAny_pure (h _ true d ⟨_,es2,ep+1+1,J,Y,q,X,rfl,T2,by rw[em2,Z];exact i,⟨v.trans L,λm hm=>ux (u m hm) U hd d,O⟩,by rw[epl2];exact P,by rw[el2];exact M⟩)
  .refine wpAny_pure (h _ true D ⟨_,es1,ep+1,(t.put j).1,ps1,F,X,rfl,I,?_,⟨L,λm hm=>ux (u m hm) U hd D,O⟩,P,M⟩);rw[p,k];simp only[Bool.not_false,Bool.true_and,tooFull,B,k,ge_iff_le,decide_eq_true_eq]at g
   obtain⟨e,h⟩|⟨e,h⟩|⟨e,h⟩:=R
   .left;ext
   .right;left;ext
   .right;right;ext
 .rw[getD_none,yP];unfold way;have d:=iJ t.mask (t.mask+14) (bits (tupleKeyHash (ik prog w) ks) % (t.mask+1)) (bits (tupleKeyHash (ik prog w) ks))
  rcases T.ok with e | e | e <;> rw[e]at d ⊢ <;> ext
end
set_option maxHeartbeats 3200000
def met (km:Nat->Addr × List Int)(i:Nat):List (Addr × List Int):=((List.range i).map km).foldl (λms m=>ga ms m.1 m.2) []
theorem kJ (km:Nat->Addr × List Int)(i:Nat):met km (i+1)=ga (met km i) (km i).1 (km i).2:=by
 unfold met;rw[range_succ,map_append,foldl_append];rfl
theorem met_len (km:Nat->Addr × List Int):∀ i,(met km i).length<=i
 |0=>by simp[met]
 |i+1=>by
  have:=met_len km i;rw[kJ];unfold ga
  split
  .ext
  .simp;ext
theorem met_of (km:Nat->Addr × List Int):∀ i m,m∈met km i->∃ k,k<i/\m=km k
 |0,m,h=>by simp[met]at h
 |i+1,m,h=>by
  rw[kJ]at h;unfold ga at h
  split at h
  .obtain⟨k,a,e⟩:=met_of km i m h;exact⟨k,⋯,e⟩
  .rcases mem_append.mp h with h|h
   .obtain⟨k,a,e⟩:=met_of km i m h;exact⟨k,⋯,e⟩
   .exact⟨i,⋯,by simpa using h⟩
theorem met_has (km:Nat->Addr × List Int):∀ i k,k<i->(km k).2∈(met km i).map (·.2)
 |0,k,h=>⋯
 |i+1,k,h=>by
  rw[kJ];unfold ga
  obtain a|a:=lt_or_ge k i
  .have:=met_has km i k a
   split
   .exact this
   .rw[map_append];exact mem_append_left _ this
  .have:k=i:=⋯
   subst this
   split
   .assumption
   .simp
section
variable {prog:Program}{w:World}{A:Around}{E:Value->Shared->Prop}{s:Shared}
theorem dV.kept (S:dV prog w h a ms)(k:∀ o,h.get? a=some o->h'.get? a=some o)
  (km:∀ m∈ms,∀ o,h.get? m.1=some o->h'.get? m.1=some o):dV prog w h' a ms:=by
 obtain⟨o,d,e,t,p,g,b,hd,T,R,H,r⟩:=S;refine⟨o,d,e,t,p,k o g,b,hd,T,R,⟨H.pm,λm hm=>?_,H.nd⟩,r⟩;obtain⟨d,items,n,b,x⟩:=H.key m hm;exact⟨d,items,n,km m hm d b,x⟩
theorem Dz
  (W:WalksS prog w A.in1 I fp q G n P St) (S:Addr) (B:S∉fp) (km:Nat->Addr × List Int) (C:∀ i v,P i v->v=.ref (km i).1) (u:∀ i,i<n->(km i).1∉S::q) (X:n<=76) (Q:A.in1.units<cLine) :
  ∀ (k i:Nat) (s:Shared),n-i=k->i<=n->St i s->(∀ i,i<n->IsTupleKey (ik prog w) s.heap (km i).2 (km i).1)->dV prog w s.heap S (met km i) →
   (∀ p,Moved (S::q) G s p->dV prog w p.heap S (met km n)->R (.ok (.ret .none)) p) →
   codeAny (model prog w) A (.builtin "set.update.loop" ⟨[.ref S,.ref I],[]⟩) R s:=by
 have a:S∉q:=λh=>B (W.sub _ h);have F:∀ b∈q,b∈S::q:=λb hb=>mem_cons_of_mem _ hb;have D:∀ {s p:Shared} (i:Nat),i<=n->Moved q G s p->dV prog w s.heap S (met km i)->dV prog w p.heap S (met km i):=λi hi hm d=>
  d.kept (λo e=>hm.heap S o a e) λm a o e=>by
   obtain⟨k,g,rfl⟩:=met_of km i m a;exact hm.heap _ o (λL=>u k ⋯ (mem_cons_of_mem _ L)) e
 intro k
 induction k with
 |zero=>
  intro i s g hi a y d J;obtain rfl:i=n:=⋯
  refine codeAny_builtin PyProof.Rows.F.entry_set_update_loop ?_;rw[Around.under_plainId PyProof.Rows.F.plain_set_update_loop _];show wpAny _ A.in1 (pyNext (.ref I) >>= _) _ _ s;refine wpAny_bind (W.done s _ _ a λp hm=>?_);show wpAny _ A.in1 (ret Value.none) _ _ p;exact wpAny_pure (J p (hm.mono F) (D i (le_refl _) hm d))
 |succ k U=>
  intro i s g hi a y d J;have g:i<n:=⋯
  refine codeAny_builtin PyProof.Rows.F.entry_set_update_loop ?_;rw[Around.under_plainId PyProof.Rows.F.plain_set_update_loop _];show wpAny _ A.in1 (pyNext (.ref I) >>= _) _ _ s;refine wpAny_bind (W.item i s _ _ g a λv z p H hm=>?_);obtain rfl:=C i v p;have O:=D i hi hm d;have a:∀ i,i<n->IsTupleKey (ik prog w) z.heap (km i).2 (km i).1:=λi hi=>by
   obtain⟨D,items,M,p,x⟩:=y i hi;exact⟨D,items,M,hm.heap _ D (λL=>u i hi (mem_cons_of_mem _ L)) p,x⟩
  show wpAny _ A.in1 (holding [Value.ref (km i).1] (setAdd S (.ref (km i).1)) >>= _) _ _ z;refine wpAny_bind (wpAny_holding ?_);unfold setAdd;refine wpAny_holding (wpAny_bind (wpAny_pyHash_tuple Q (a i g) ?_));refine Nq (s:={z with toks:=z.toks+((km i).2.length+1)}) Q O (a i g) (lt_of_le_of_lt (met_len km i) ⋯) λO r L y=>?_
  rw[<-kJ]at y;have d:∀ b o,b≠S->z.heap.get? b=some o->O.get? b=some o:=λb o hb e=>(L.2 b hb).trans e;refine wpAny_pure ⟨plainId_quiet PyProof.Rows.F.plain_set_update_loop _,U (i+1) _ ⋯ g (W.frame _ z O _ H (Nat.le_add_right _ _) λb hb o e=>d b o (λhh:b=S=>B (hh ▸ hb)) e) (λi hi=>?_) y λz g y=>?_⟩
  .obtain⟨D,items,M,p,x⟩:=a i hi;exact⟨D,items,M,d _ D (λhh=>u i hi (hh ▸ mem_cons_self)) p,x⟩
  .refine J z (Moved.trans W.gtrans ((hm.mono F).then_heap (Nat.le_add_right _ _) λb o hb e=>?_) g) y;exact d b o (λhh=>hb (hh ▸ mem_cons_self)) e
theorem ri (a:Value)
  (h:Q1 (.ref s.heap.objs.size) {s with heap:=s.heap.push {cls:=.type "set",dict:=none,data:=.set #[] 0 (.fresh 0 0 (!(w.params.followText "set-order")))}}) :
  codeAny (model prog w) A (.call (.builtin "set.__new__") ⟨[.type "set",a],[]⟩) (wants Q1 E) s:=by
 refine codeAny_of_tree ?_;show wpAny _ A.in1 (checkBuiltinCall "set.__new__" ⟨[.type "set",a],[]⟩ >>= λ_=>again (.builtin "set.__new__" ⟨[.type "set",a],[]⟩)) _ _ s;refine wpAny_bind (wpAny_of_eq (F.newCall_set_1 a) (wpAny_pure ⟨plainId_quiet F.plain_set_new _,codeAny_builtin F.entry_set_new ?_⟩));rw[Around.under_plainId F.plain_set_new _];unfold Builtin.«set.__new__» Builtin.Frozenset.newClass;have b:=sub_set_self;obtain⟨p,g,d,k,os⟩:=s;dsimp only
 wp_walk
 refine wpAny_askSetting (wpAny_pure ?_);dsimp only;simp only[newObj];refine wpAny_bind (wpAny_alloc (wpAny_pure ?_));exact wpAny_pure h
theorem zQ (o:h.get? a=some {cls:=.type "set",dict:=none,data:=.set #[] 0 (.fresh 0 0 (!(w.params.followText "set-order")))}):dV prog w h a []:=
 ⟨_,#[],0,_,[],o,⟨rfl,rfl,rfl⟩,rfl,⟨rfl,rfl,.nil,λq b=>absurd b not_mem_nil,rfl,.inl rfl,λq b=>absurd b not_mem_nil⟩,.inl ⟨rfl,⋯⟩,
  ⟨.refl _,λm hm=>absurd hm not_mem_nil,.nil⟩,rfl,rfl⟩
theorem call_set_tup
  (hh:A.handled=none) (hu:A.units+10<cLine) (hl:s.heap.IsList l items) (hv:∀ (i:Nat) (v:Value),items[i]?=some v->v=.ref (km i).1) (y:∀ i,i<items.size->IsTupleKey (ik prog w) s.heap (km i).2 (km i).1) (hn:items.size<=76)
  (h:∀ (d:Heap) (O:Nat),dV prog w d s.heap.objs.size (met km items.size)->(∀ b o,b<s.heap.objs.size->s.heap.get? b=some o->d.get? b=some o)->Q (.ref s.heap.objs.size) {s with heap:=d,toks:=O}) :
  wpAny (model prog w) A (call (.type "set") [.ref l]) Q E s:=by
 obtain⟨c,tl,hmro⟩:=F.called_set.mro;have hmade:=F.called_set.made;have hsub:=F.called_set.sub;refine wpAny_call (codeAny_of_tree ?_);show wpAny _ _ (callAny (.type "set") _) _ _ _;refine wpAny_pure ⟨Code.quiet_builtin _ (by decide +kernel),codeAny_builtin F.entry_type_call ?_⟩
 rw[Around.under_plain (weight_type_call_type "set" [.ref l] []) rfl];have h1:=F.called_set.notType;have h2:=F.called_set.canCreate;have hct:=F.typeCall_set_1 (.ref l)
 repeat (any_goals (first|assumption|wp_step))
 generalize a:({cls:=.type "set",dict:=none,data:=.set #[] 0 (.fresh 0 0 (!(w.params.followText "set-order")))}:Obj)=ob;refine codeAny_mono (ri (.ref l) (E:=E) (Q1:=λv s1=>v=.ref s.heap.objs.size/\s1={s with heap:=s.heap.push ob}) (a ▸ ⟨rfl,rfl⟩)) λr s1 U=>?_
 cases r with
 |error e=>exact U
 |ok fl=>
  cases fl with
  |ret v=>
   obtain⟨rfl,rfl⟩:=U;have hS:(s.heap.push ob).get? s.heap.objs.size=some ob:=Heap.get?_push_size _ (by rw[<-a];rfl)
   have hT:Shared.TypeIs {s with heap:=s.heap.push ob} (.ref s.heap.objs.size) "set":=⟨_,hS,by rw[<-a]⟩
   have hli:=F.called_set.init.lookup;have hbi:=F.called_set.init.bind (.ref s.heap.objs.size)
   repeat (any_goals (first|assumption|wp_step))
   refine codeAny_mono (codeAny_call_builtin (R:=wants (λr s2=>r=.none/\∃ d O,s2={s with heap:=d,toks:=O}/\dV prog w d s.heap.objs.size (met km items.size) ∧
     (∀ b o,b<s.heap.objs.size->s.heap.get? b=some o->d.get? b=some o)) E) F.called_set.init.plain F.entry_set_init (check_set_init_1 hT ?_)) λr2 s2 p=>?_
   .obtain⟨ol,C,D,nl,I⟩:=id hl;obtain⟨ocls,q,odata,g⟩:=ol;simp only at D I;subst D;subst I;have H:(s.heap.push ob).get? l=some {cls:=.type "list",dict:=q,data:=.seq items nl,slots:=g}:=Heap.get?_push_of_some _ C;have hsls:=F.sub_list_set;have hslf:=F.sub_list_frozenset;have hne:(Value.type "list" == Value.type "dict")=false:=⋯
    have u:(s.heap.push ob).IsList l items:=⟨_,H,rfl,nl,rfl⟩;subst a;unfold Builtin.«set.__init__» noKeywords Builtin.Frozenset.updateFrom;generalize W:pyIter=PI
    wp_walk
    subst W;refine wpAny_pyIter_list u ?_;refine wpAny_bind (wpAny_runValue ?_);generalize a:({cls:=.type "set",dict:=none,data:=.set #[] 0 (.fresh 0 0 (!(w.params.followText "set-order")))}:Obj)=ob at *;have J:l<s.heap.objs.size:=Heap.lt_size C;have z:(s.heap.push ob).objs.size=s.heap.objs.size+1:=by rw[Heap.size_push]
    have L:l≠(s.heap.push ob).objs.size:=by rw[z];exact ne_of_lt (lt_succ_of_lt J)
    have P:s.heap.objs.size∉[(s.heap.push ob).objs.size,l]:=by
     rw[z];intro hm
     obtain e|hm:=mem_cons.mp hm
     .exact ne_of_lt (lt_succ_self _) e
     .exact ne_of_gt J (mem_singleton.mp hm)
    have M:∀ b:Nat,b<s.heap.objs.size->b∉s.heap.objs.size::[(s.heap.push ob).objs.size]:=λb hb hm=>by
     rw[z]at hm
     obtain e|hm:=mem_cons.mp hm
     .exact ne_of_lt hb e
     .exact ne_of_lt (lt_succ_of_lt hb) (mem_singleton.mp hm)
    have Z:∀ i,i<items.size->(km i).1∉s.heap.objs.size::[(s.heap.push ob).objs.size]:=λi hi=>M _ (by
     obtain⟨o',_,_,m,_⟩:=y i hi;exact Heap.lt_size m)
    refine Dz ((Walks.list (by simp[hh]) _ l L items).toS) s.heap.objs.size P km hv Z hn (by show A.units+1+1+1<cLine;ext) (items.size-0) 0 _ ⋯ (zero_le _)
     ⟨⟨_,Heap.get?_push_size _ rfl,rfl,rfl⟩,(u.push _)⟩ (λi hi=>?_) ?_ ?_
    .obtain⟨o',B,m',m,x⟩:=y i hi;exact⟨o',B,m',Heap.get?_push_of_some _ (Heap.get?_push_of_some _ m),x⟩
    .refine zQ ?_;rw[a];exact Heap.get?_push_of_some _ hS
    .intro s' hm k;obtain⟨d,g',d',tk',X⟩:=s';have eg:g'=s.gens:=hm.gens;have ed:d'=s.drawn:=hm.drawn;have eo:X=s.os:=hm.os;subst eg;subst ed;subst eo;show wpAny _ _ _ _ _ _;refine wpAny_pure ?_;show wpAny _ _ (ret Value.none) _ _ _;refine wpAny_pure ⟨rfl,d,tk',rfl,k,λb o hb e=>?_⟩;exact hm.heap b o (M b hb) (Heap.get?_push_of_some _ (Heap.get?_push_of_some _ e))
   .cases r2 with
    |error e=>exact p
    |ok fl2=>
     cases fl2 with
     |ret r=>
      obtain⟨rfl,d,O,rfl,k,Y⟩:=p
      repeat (any_goals (first|assumption|wp_step))
      exact h _ _ k Y
     |_=>exact p.elim
  |_=>exact U.elim
end
set_option maxHeartbeats 3200000
theorem nW:∀ (l:List α) (i:Nat) (h:i<l.length),List.Perm (l[i]::l.eraseIdx i) l
 | [],i,h=>by simp at h
 |a::l,0,h=>by simp
 |a::l,i+1,h=>by
  simp only[List.getElem_cons_succ,List.eraseIdx_cons_succ];exact(List.Perm.swap _ _ _).trans (List.Perm.cons a (nW l i (by simpa using h)))
theorem yF (next:Nat->Nat):∀ (a k:Nat) (left:List α) (out:Array α),left.length=a->List.Perm (pickOrder.go next a k left out).toList (out.toList++left)
 |0,k,left,out,h=>by
  have:left=[]:=length_eq_zero_iff.mp h;subst this;simp[pickOrder.go]
 |a+1,k,left,out,h=>by
  have hi:next k % left.length<left.length:=mod_lt _ ⋯
  simp only[pickOrder.go,List.getElem?_eq_getElem hi];refine(yF next a (k+1) _ _ (by rw[List.length_eraseIdx_of_lt hi];ext)).trans ?_
  rw[toList_push,List.append_assoc];exact List.Perm.append_left _ (nW _ _ hi)
theorem AE (next:Nat->Nat)(xs:Array α):List.Perm (pickOrder next xs).toList xs.toList:=by
 have:=yF next xs.size 0 xs.toList #[] (by simp)
 simpa [pickOrder] using this
def dg (w:World)(a:Addr)(e:Nat)(es:Array (Int × Value)):List Value:=
 if w.params.followText "set-order"=true then (pickOrder (w.params.setOrder a e) es).toList.map (·.2) else es.toList.map (·.2)
theorem qL (w:World)(a:Addr)(e:Nat)(es:Array (Int × Value)):List.Perm (dg w a e es) (es.toList.map (·.2)):=by
 unfold dg
 split
 .exact(AE _ es).map _
 .exact .refl _
theorem vO (ris:xs.toList.Pairwise (· < ·)):below xs 0=0:=by
 obtain⟨a,a⟩:=kr 0 ris
 obtain h|h:=eq_zero_or_pos (below xs 0)
 .exact h
 .have:=(a 0 ⋯).mp h
  ext
theorem vN (ris:xs.toList.Pairwise (· < ·))(hi:i<xs.size):below xs (xs[i]+1)=i+1:=by
 obtain⟨d,e⟩:=kr (xs[i]+1) ris;have mono:∀ a b (ha:a<xs.size) (hb:b<xs.size),a<b->xs[a]<xs[b]:=λa b ha hb d=>by
  have:=pairwise_iff_getElem.mp ris a b (by simpa using ha) (by simpa using hb) d
  simpa using this
 obtain h|h|h:=lt_trichotomy (below xs (xs[i]+1)) (i+1)
 .have:=(e i hi).mpr ⋯
  ext
 .exact h
 .have d:=(e (i+1) ⋯).mp h
  have:=mono i (i+1) hi ⋯ ⋯
  ext
theorem et:Slot "set_iterator" "__next__" "set_iterator.__next__":=
 .of (owner:="set_iterator") (n:="__next__") (by rw[typeLookup_type,builtinLookup_eq_fast];kernel_rfl) (by decide +kernel) (by decide +kernel) (by decide +kernel)
  (by first|exact .inl (by decide +kernel)|exact .inr (by decide +kernel)) (by rw[isSubtype_type];kernel_rfl)
theorem nR:entryFor table "set_iterator.__next__"=some Builtin.«set_iterator.__next__»:=entryFor_of_tree (by kernel_rfl)
theorem qq:Manifest.owners.lookup (String.ofList ("set_iterator".toList.reverse).reverse)=some Manifest.sig_set_iterator:=by kernel_rfl
theorem pj (a:Value):argsOk "set_iterator.__next__" ⟨[a],[]⟩:=by
 unfold argsOk;rw[signature?_of (id:="set_iterator.__next__") (n:="__next__".toList.reverse) (o:="set_iterator".toList.reverse) (by kernel_rfl) qq];kernel_rfl
theorem jP:Slot "set_iterator" "__iter__" "set_iterator.__iter__":=
 .of (owner:="set_iterator") (n:="__iter__") (by rw[typeLookup_type,builtinLookup_eq_fast];kernel_rfl) (by decide +kernel) (by decide +kernel) (by decide +kernel)
  (by first|exact .inl (by decide +kernel)|exact .inr (by decide +kernel)) (by rw[isSubtype_type];kernel_rfl)
theorem ph (a:Value):argsOk "set_iterator.__iter__" ⟨[a],[]⟩:=by
 unfold argsOk;rw[signature?_of (id:="set_iterator.__iter__") (n:="__iter__".toList.reverse) (o:="set_iterator".toList.reverse) (by kernel_rfl) qq];kernel_rfl
theorem nQ:entryFor table "set_iterator.__iter__"=some Builtin.«dict_keyiterator.__iter__»:=
 entryFor_alias (id':="dict_keyiterator.__iter__") (by kernel_rfl) (by first | rfl | decide +kernel) (by decide +kernel) (by kernel_rfl)
theorem nO:entryFor table "set.__iter__"=some Builtin.«frozenset.__iter__»:=
 entryFor_alias (id':="frozenset.__iter__") (by kernel_rfl) rfl (by decide +kernel) (by kernel_rfl)
structure jR (w:World) (o:Obj) (es:Array (Int × Value)) (ep:Nat) (t:SetTable):Prop where
 ex:o.ExactSet
 dt:o.data=.set es ep t
 fit:t.fits es.size=true
 ris:t.place.toList.Pairwise (· < ·)
 pl:t.plain=true
 led:t.led=!(w.params.followText "set-order")
def ko (h:Heap) (I S:Addr) (a i n e:Nat):Prop:=∃ o,h.get? I=some o/\o.cls=.type "set_iterator"/\o.data=.fields #[rawInt a,rawInt i,.ref S,rawInt n,rawInt e]
section
variable {prog:Program}{w:World}{A:Around}{E:Value->Shared->Prop}{s:Shared}{o:Obj}{es:Array (Int × Value)}{ep:Nat}{t:SetTable}{S I:Addr}
theorem ko.typeIs (x:ko s.heap I S a i n ep):s.TypeIs (.ref I) "set_iterator":=let ⟨o,ho,hc,_⟩:=x;⟨o,ho,hc⟩
theorem ko.at (x:ko h I S a i n ep)(e:∀ o,h.get? I=some o->h'.get? I=some o):ko h' I S a i n ep:=let ⟨o,ho,r⟩:=x;⟨o,e _ ho,r⟩
theorem xw (W:jR w o es ep t)(r:s.heap.get? S=some o)
  (q:w.params.followText "set-order"=false->below t.place p=i)
  (b:∀ v m,(dg w S ep es)[i]?=some v->(w.params.followText "set-order"=false->below t.place m=i+1)->Q (some (v,m)) s) (a:(dg w S ep es)[i]?=none->Q none s) :
  wpAny (model prog w) A (setNext S p i ep) Q E s:=by
 unfold setNext;refine wpAny_bind (wpAny_setState_of r W.dt W.fit ?_);dsimp only;unfold setsByText;refine wpAny_bind (wpAny_bind (wpAny_askSetting (wpAny_pure ?_)))
 by_cases hb:w.params.followText "set-order"=true
 .show wpAny _ _ (if w.params.followText "set-order"=true then _ else _) _ _ _
  rw[if_pos hb];rw[if_neg (by simp)]
  unfold setWalk;refine wpAny_bind (wpAny_bind (wpAny_setState_of r W.dt W.fit ?_));dsimp only;unfold setsByText;refine wpAny_bind (wpAny_bind (wpAny_askSetting (wpAny_pure ?_)));show wpAny _ _ (if w.params.followText "set-order"=true then _ else _) _ _ _
  rw[if_pos hb];refine wpAny_bind (wpAny_askSetting (wpAny_pure ?_));refine wpAny_pure ?_;have k:dg w S ep es=(pickOrder (w.params.setOrder S ep) es).toList.map (·.2):=by unfold dg;rw[if_pos hb]
  show Q (((pickOrder (w.params.setOrder S ep) es)[i]?).map λe=>(e.2,p)) s
  cases d:(pickOrder (w.params.setOrder S ep) es)[i]? with
  |none=>
   have:=a (by rw[k,getElem?_map,getElem?_toList,d];rfl)
   exact this
  |some e=>
   have:=b e.2 p (by rw[k,getElem?_map,getElem?_toList,d];rfl) (λh=>by rw[hb]at h;exact nomatch h)
   exact this
 .have hb':w.params.followText "set-order"=false:=by simpa using hb
  show wpAny _ _ (if w.params.followText "set-order"=true then _ else _) _ _ _
  rw[if_neg hb];show wpAny _ _ (if (!t.plain && decide (es.size>1))=true then _ else _) _ _ _
  rw[if_neg (by simp[W.pl])]
  refine wpAny_bind ?_;show wpAny _ _ (if (!t.led && !es.isEmpty)=true then _ else _) _ _ _
  rw[if_neg (by simp[W.led,hb'])]
  refine wpAny_pure ?_;rw[q hb'];refine wpAny_pure ?_;have g:t.place.size=es.size:=by
   have:=W.fit;simp only[SetTable.fits,Bool.and_eq_true,beq_iff_eq]at this;exact this.1
  have k:dg w S ep es=es.toList.map (·.2):=by unfold dg;rw[if_neg hb]
  obtain hi|hi:=lt_or_ge i es.size
  .have d:i<t.place.size:=by rw[g];exact hi
   have:=b es[i].2 (t.place[i]+1) (by rw[k];simp[hi]) (λ_=>vN W.ris d)
   simpa [hi,d] using this
  .have:=a (by rw[k];simpa using hi)
   have d:t.place.size<=i:=by rw[g];exact hi
   simpa [Array.getElem?_eq_none hi,Array.getElem?_eq_none d] using this
theorem mx (hh:A.handled=none)(W:jR w o es ep t)(z:s.heap.get? S=some o)(y:S≠I)
  (q:ko s.heap I S D i es.size ep) (u:w.params.followText "set-order"=false->below t.place D=i)
  (k:∀ v d e,(dg w S ep es)[i]?=some v->ko e I S d (i+1) es.size ep->(w.params.followText "set-order"=false->below t.place d=i+1)->Heap.ExtBut I s.heap e->Q (some v) {s with heap:=e})
  (p:∀ e,(dg w S ep es)[i]?=none->Heap.ExtBut I s.heap e->Q none {s with heap:=e}) :
  wpAny (model prog w) A (pyNext (.ref I)) Q E s:=by
 obtain⟨g,g,x,h⟩:=id q;unfold pyNext;refine wpAny_bind (wpAny_attempt (wpAny_callSpecial?_slot (name:=Str.ofString "__next__") q.typeIs et
  (wpAny_call_entry et q.typeIs nR ?_ (pj _))))
 unfold Builtin.«set_iterator.__next__»;refine wpAny_bind (wpAny_of_eq (a:=(Value.ref I,[])) rfl ?_);refine wpAny_bind (wpAny_fieldsOf g h ?_);simp only[rawInt,List.toList_toArray];refine wpAny_bind (wpAny_setEntries_of z W.dt W.fit ?_);rw[if_neg (by simp)]
 simp only[toNat_natCast];have r:∀ {e:Heap},Heap.SameBut I s.heap e->e.get? S=some o:=λe=>(e.2 S y).trans z;refine wpAny_bind (xw W z u (λv d B e=>?_) (λB=>?_))
 .dsimp only;refine wpAny_bind (wpAny_setField g h (by simp) ?_)
  have C:=Heap.get?_update_self (Obj.mapFields (·.setIfInBounds 0 (Value.int (d:Int) 0))) g (Obj.isFreed_of_fields (Obj.data_mapFields h _));have r:=Obj.data_mapFields h (·.setIfInBounds 0 (Value.int (d:Int) 0));refine wpAny_bind (wpAny_setField (s:={s with heap:=s.heap.update I (Obj.mapFields (·.setIfInBounds 0 (Value.int (d:Int) 0)))}) C r (by simp) ?_)
  refine wpAny_pure ⟨v,rfl,wpAny_pure (k v d _ B ?_ e ((Heap.SameBut.update ..).trans (Heap.SameBut.update ..)).extBut)⟩;refine⟨_,Heap.get?_update_self _ C (Obj.isFreed_of_fields (Obj.data_mapFields r _)),(Obj.cls_mapFields ..).trans ((Obj.cls_mapFields ..).trans x),?_⟩;rw[Obj.data_mapFields r];simp[rawInt]
 .dsimp only;refine wpAny_bind (wpAny_setField g h (by simp) ?_)
  show wpAny _ _ (newExc (.type "StopIteration") [] >>= _) _ _ _;refine wpAny_bind ?_;simp only[newExc,newTuple];refine wpAny_bind (wpAny_newObj_type ?_ (by size_fits))
  refine wpAny_bind (m:=firstArgMember _ _) (wpAny_of_eq (a:=Value.none) (by first|rfl|(simp only[firstArgMember];rfl)) ?_)
  refine wpAny_newObj_type ?_ (by size_fits)
  simp only[raiseNew];refine wpAny_bind (wpAny_handled ?_);rw[show A.in1.handled=none from hh];refine wpAny_bind (wpAny_pure (wpAny_throw ?_));refine wpAny_bind (wpAny_isInstance (T:="StopIteration") (b:=true) ⟨_,Heap.get?_push_size _ rfl,rfl⟩ isSubtype_stop ?_);exact wpAny_pure (p _ B (((Heap.SameBut.update ..).extBut.push _).push _))
theorem vu (a:ko s.heap I S b i n ep)(h:Q (.ref I) s):wpAny (model prog w) A (pyIter (.ref I)) Q E s:=by
 refine wpAny_pyIter_slot a.typeIs jP (wpAny_call_entry jP a.typeIs nQ ?_ (ph _));show wpAny _ _ (ret (.ref I)) _ _ s;exact wpAny_pure ⟨_,rfl,"set_iterator",_,a.typeIs,et.lookup,h⟩
theorem o8 (W:jR w o es ep t):(dg w S ep es).length=es.size:=by
 rw[(qL w S ep es).length_eq,length_map,length_toList]
theorem AU (hh:A.handled=none)(W:jR w o es ep t)(g:S≠I) :
  Walks prog w A I [I,S] [I] es.size (λi v=>(dg w S ep es)[i]?=some v)
   (λi h=>∃ k,ko h I S k i es.size ep/\(w.params.followText "set-order"=false->below t.place k=i)/\h.get? S=some o) where
 sub:=λb hb=>by simp at hb;simp[hb]
 frame:=λ_ _ _ ⟨k,x,z,m⟩ a=>⟨k,x.at λo e=>a I (by simp) o e,z,a S (by simp) _ m⟩
 item:=λi s Q E hi ⟨k,x,z,m⟩ u=>by
  refine mx hh W m g x z (λv r y p d a q=>?_) (λy p=>?_)
  .exact u v y s.toks p ⟨r,d,a,q S o g m⟩ λb B hb e=>q b B (λh=>hb (by simp[h])) e
  .rw[List.getElem?_eq_none_iff,o8 W]at p;ext
 done:=λs Q E ⟨k,x,z,m⟩ u=>by
  refine mx hh W m g x z (λv r y p d a q=>?_) (λy p q=>?_)
  .have:=List.getElem?_eq_some_iff.mp p;obtain⟨a,_⟩:=this;rw[o8 W]at a;ext
  .exact u y s.toks λb B hb e=>q b B (λh=>hb (by simp[h])) e
 self:=λ_ _ _ _ ⟨_,x,_⟩ u=>vu x u
theorem vq (W:jR w o es ep t)(h:s.heap.get? S=some o)
  (q:Q (.ref s.heap.objs.size) {s with heap:=s.heap.push {cls:=.type "set_iterator",data:=.fields #[rawInt (0:Nat),rawInt (0:Nat),.ref S,rawInt es.size,rawInt ep]}}) :
  wpAny (model prog w) A (pyIter (.ref S)) Q E s:=by
 have a:s.TypeIs (.ref S) "set":=⟨o,h,W.ex.1⟩;refine wpAny_pyIter_slot a F.slot_set_iter (wpAny_call_entry F.slot_set_iter a nO ?_ (F.args_set_iter_1 _));unfold Builtin.«frozenset.__iter__» Builtin.Frozenset.slot0 slotArgs;simp only[List.isEmpty_nil,Bool.not_true,Bool.false_eq_true,↓reduceIte,bind_assoc,length_nil,bne_self_eq_false];unfold Builtin.Frozenset.addrOf Builtin.Frozenset.sizeOf;refine wpAny_bind (wpAny_pure ?_)
 try dsimp only
 refine wpAny_bind (wpAny_pure ?_);refine wpAny_bind (wpAny_bind (wpAny_setEntries_of h W.dt W.fit (wpAny_pure ?_)));unfold setDrawn setsByText;refine wpAny_bind (wpAny_bind (wpAny_setState_of h W.dt W.fit ?_));dsimp only;refine wpAny_bind (wpAny_bind (wpAny_askSetting (wpAny_pure ?_)));refine wpAny_pure ?_;show wpAny _ _ (if (!(w.params.followText "set-order") && (!t.plain && decide (es.size>1)))=true then _ else _) _ _ _
 rw[if_neg (by simp[W.pl])]
 refine wpAny_bind (wpAny_pure ?_);refine wpAny_bind (wpAny_setEpoch_of h W.dt W.fit ?_);exact wpAny_bind (wpAny_newObj_type (wpAny_pure ⟨_,rfl,"set_iterator",_,⟨_,Heap.get?_push_size _ rfl,rfl⟩,et.lookup,q⟩))
end
end ST
set_option maxHeartbeats 3200000
namespace SR
variable {α:Type}
theorem QV (h:List.Perm (out++A++(b++B2)) X):List.Perm (out++b++A++B2) X:=by
 refine List.Perm.trans ?_ h;have:List.Perm (b++A) (A++b):=List.perm_append_comm;have a:=(this.append_left out).append_right B2;simpa [List.append_assoc] using a
theorem Mp (h:List.Perm (out++A++B) X):List.Perm (out++B++A) X:=by
 have:=QV (B2:=[]) (by simpa using h)
 simpa using this
theorem Rx (h:List.Perm (b++a++B++o) X):List.Perm (b++B++(a++o)) X:=by
 refine List.Perm.trans ?_ h;have:List.Perm (B++a) (a++B):=List.perm_append_comm;have d:=(this.append_left b).append_right o;simpa [List.append_assoc] using d
theorem uC:∀ (l:List α) (i sa:Nat) (r:Array α),sa+i+l.length<=r.size →
  ((l.zipIdx i).foldl (λa (q:α × Nat)=>a.setIfInBounds (sa+q.2) q.1) r).toList=r.toList.take (sa+i)++l++r.toList.drop (sa+i+l.length)
 | [],i,sa,r,_=>by simp
 |x::l,i,sa,r,h=>by
  simp only[length_cons]at h;rw[List.zipIdx_cons,foldl_cons,uC l (i+1) sa _ (by simp;ext)]
  have d:sa+i<r.toList.length:=by simp;ext
  have d:((r.setIfInBounds (sa+i) x).toList.take (sa+(i+1)))=r.toList.take (sa+i)++[x]:=by
   rw[Array.toList_setIfInBounds,show sa+(i+1)=sa+i+1 by ext,List.take_succ]
   rw[List.take_set_of_le ⋯]
   have b:sa+i<r.size:=⋯
   simp[b]
  have e:((r.setIfInBounds (sa+i) x).toList.drop (sa+(i+1)+l.length))=r.toList.drop (sa+i+(x::l).length):=by
   rw[Array.toList_setIfInBounds,List.drop_set_of_lt ⋯]
   simp only[length_cons]
   congr 1;ext
  rw[d,e];simp
end SR
set_option maxHeartbeats 3200000
namespace SR
open PySem PyProof.Rows
def du:Bool->Keyed->Array Keyed->Nat->Nat->Nat->StateT SortSt Sem (Option Nat):=sortPriv% PySem.Builtin.gallop
def bC:Nat->StateT SortSt Sem Unit:=sortPriv% PySem.Builtin.setMinGallop
def kI:Array Keyed->Array Keyed->StateT SortSt Sem (Array Keyed):=sortPriv% PySem.Builtin.mergeLo
def kH:Array Keyed->Array Keyed->StateT SortSt Sem (Array Keyed):=sortPriv% PySem.Builtin.mergeHi
def vQ (left:Bool)(key:Keyed)(arr:Array Keyed)(base i:Nat):StateT SortSt Sem (Option Bool):=do
 let x ← elem' arr (base+i)
 if left then lt' x key else return (← lt' key x).map (!·)
theorem ww (left:Bool)(key:Keyed)(arr:Array Keyed)(base n hint:Nat):du left key arr base n hint=(do
 let mut lastofs:=0
 let mut ofs:=1
 let mut lo:=0
 let mut hi:=0
 let some right ← vQ left key arr base hint|return none
 if right then
  let maxofs:=n-hint
  for _ in [0:n] do
   if ofs>=maxofs then break
   let some more ← vQ left key arr base (hint+ofs)|return none
   if !more then break
   lastofs:=ofs
   ofs:=2*ofs+1
  lo:=hint+lastofs+1
  hi:=hint+min ofs maxofs
 else
  let maxofs:=hint+1
  for _ in [0:n] do
   if ofs>=maxofs then break
   let some found ← vQ left key arr base (hint-ofs)|return none
   if found then break
   lastofs:=ofs
   ofs:=2*ofs+1
  lo:=hint+1-min ofs maxofs
  hi:=hint-lastofs
 for _ in [0:n] do
  if lo>=hi then break
  let m:=lo+(hi-lo) / 2
  let some more ← vQ left key arr base m|return none
  if more then lo:=m+1 else hi:=m
 return some hi):=rfl
theorem l0 (g:Nat):bC g=modify λs=>SortSt.mk' (kindOf s) (arrOf s) (pendingOf s) g (failedOf s):=rfl
def dU (a b out:Array Keyed)(i d:Nat):Array Keyed:=out++a.extract i a.size++b.extract d b.size
def jL (a b out:Array Keyed)(i d:Nat):Array Keyed:=out++b.extract d b.size++a.extract i a.size
theorem uM (a b:Array Keyed):kI a b=(do
 rule "list.sort.merge-lo"
 let total:=a.size+b.size
 let mut out:Array Keyed:=#[<-elem' b 0]
 let mut ia:=0
 let mut ib:=1
 if ib == b.size then return dU a b out ia ib
 if ia+1 == a.size then return jL a b out ia ib
 let mut minGallop:=gallopOf (← get)
 for _ in [0:total] do
  let mut acount:=0
  let mut bcount:=0
  for _ in [0:total] do
   let some bWins ← lt' (← elem' b ib) (← elem' a ia)|return dU a b out ia ib
   if bWins then
    out:=out.push (← elem' b ib);ib:=ib+1;bcount:=bcount+1;acount:=0
    if ib == b.size then return dU a b out ia ib
    if bcount>=minGallop then break
   else
    out:=out.push (← elem' a ia);ia:=ia+1;acount:=acount+1;bcount:=0
    if ia+1 == a.size then return jL a b out ia ib
    if acount>=minGallop then break
  rule "list.sort.gallop"
  minGallop:=minGallop+1
  for _ in [0:total] do
   if minGallop>1 then minGallop:=minGallop-1
   bC minGallop
   let some k ← du false (← elem' b ib) a ia (a.size-ia) 0|return dU a b out ia ib
   acount:=k
   if k>0 then
    out:=out++a.extract ia (ia+k);ia:=ia+k
    if ia+1 == a.size then return jL a b out ia ib
    if ia == a.size then return dU a b out ia ib
   out:=out.push (← elem' b ib);ib:=ib+1
   if ib == b.size then return dU a b out ia ib
   let some k ← du true (← elem' a ia) b ib (b.size-ib) 0|return dU a b out ia ib
   bcount:=k
   if k>0 then
    out:=out++b.extract ib (ib+k);ib:=ib+k
    if ib == b.size then return dU a b out ia ib
   out:=out.push (← elem' a ia);ia:=ia+1
   if ia+1 == a.size then return jL a b out ia ib
   if acount<7 && bcount<7 then break
  minGallop:=minGallop+1
  bC minGallop
 unsupported "internal:list.sort.merge-bound"):=rfl
def dS (a b out:Array Keyed)(d e:Nat):Array Keyed:=a.extract 0 d++b.extract 0 e++out.reverse
def fO (a b out:Array Keyed)(d e:Nat):Array Keyed:=b.extract 0 e++a.extract 0 d++out.reverse
theorem uL (a b:Array Keyed):kH a b=(do
 rule "list.sort.merge-hi"
 let total:=a.size+b.size
 let mut na:=a.size-1
 let mut nb:=b.size
 let mut out:Array Keyed:=#[<-elem' a na]
 if na == 0 then return dS a b out na nb
 if nb == 1 then return fO a b out na nb
 let mut minGallop:=gallopOf (← get)
 for _ in [0:total] do
  let mut acount:=0
  let mut bcount:=0
  for _ in [0:total] do
   let some aWins ← lt' (← elem' b (nb-1)) (← elem' a (na-1))|return dS a b out na nb
   if aWins then
    na:=na-1;out:=out.push (← elem' a na);acount:=acount+1;bcount:=0
    if na == 0 then return dS a b out na nb
    if acount>=minGallop then break
   else
    nb:=nb-1;out:=out.push (← elem' b nb);bcount:=bcount+1;acount:=0
    if nb == 1 then return fO a b out na nb
    if bcount>=minGallop then break
  rule "list.sort.gallop"
  minGallop:=minGallop+1
  for _ in [0:total] do
   if minGallop>1 then minGallop:=minGallop-1
   bC minGallop
   let some at_ ← du false (← elem' b (nb-1)) a 0 na (na-1)|return dS a b out na nb
   let k:=na-at_
   acount:=k
   if k>0 then
    out:=out++(a.extract at_ na).reverse;na:=at_
    if na == 0 then return dS a b out na nb
   nb:=nb-1;out:=out.push (← elem' b nb)
   if nb == 1 then return fO a b out na nb
   let some at_ ← du true (← elem' a (na-1)) b 0 nb (nb-1)|return dS a b out na nb
   let k:=nb-at_
   bcount:=k
   if k>0 then
    out:=out++(b.extract at_ nb).reverse;nb:=at_
    if nb == 1 then return fO a b out na nb
    if nb == 0 then return dS a b out na nb
   na:=na-1;out:=out.push (← elem' a na)
   if na == 0 then return dS a b out na nb
   if acount<7 && bcount<7 then break
  minGallop:=minGallop+1
  bC minGallop
 unsupported "internal:list.sort.merge-bound"):=rfl
section
variable {prog:Program}{w:World}{A:Around}{E:Value->Shared->Prop}{s:Shared}{κ:SortKind}{rk:Keyed->Int}{Gd:Keyed->Prop}
def pd (prog:Program)(w:World)(A:Around)(s:Shared)(κ:SortKind)(rk:Keyed->Int)(Gd:Keyed->Prop):Prop:=
 ∀ x y,Gd x->Gd y->∀ Q:Bool->Shared->Prop,Q (decide (rk x<rk y)) s->wpAny (model prog w) A (keyLt' κ x.1 y.1) Q (λ_ _=>False) s
theorem w_lt (i:pd prog w A s κ rk Gd)(e:Gd x)(d:Gd y)(h:Q (some (decide (rk x<rk y))) (SortSt.mk' κ a p g none)) :
  wpS (model prog w) A E s (lt' x y) Q (SortSt.mk' κ a p g none):=by
 rw[lt'_eq];refine wpS_bind (wpS_get ?_);refine wpS_bind (wpS_lift (wpAny_attempt (wpAny_mono (i x y e d (λc b=>b=s/\Q (some c) (SortSt.mk' κ a p g none)) ⟨rfl,h⟩) (λc b q=>?_) λ_ _ b=>b.elim)));exact⟨q.1,wpS_pure q.2⟩
theorem xt {a:Array Keyed}{i:Nat}{x:Keyed}{st:SortSt}{Q:Keyed->SortSt->Prop}(he:a[i]?=some x)(h:Q x st):wpS (model prog w) A E s (elem' a i) Q st:=by
 rw[elem'_eq,he];exact wpS_pure h
theorem Nn (m:pd prog w A s κ rk Gd)(d:a[i]?=some x)(e:a[j]?=some y)(k:Gd x)(b:Gd y)
  (h:Q (some (decide (rk x<rk y))) (SortSt.mk' κ a p g none)):wpS (model prog w) A E s (ltAt' i j) Q (SortSt.mk' κ a p g none):=by
 rw[ltAt'_eq];refine wpS_bind (wpS_get ?_);exact wpS_bind (xt d (wpS_bind (xt e (w_lt m k b h))))
def G (prog:Program)(w:World)(A:Around)(E:Value->Shared->Prop)(s:Shared)(κ:SortKind)(r:Array Keyed)(p:Array (Nat × Nat × Nat)){α:Type}(m:StateT SortSt Sem α)(Q:α->Prop):Prop:=
 ∀ g,wpS (model prog w) A E s m (λa b=>(∃ d,b=SortSt.mk' κ r p d none)/\Q a) (SortSt.mk' κ r p g none)
variable {arr:Array Keyed}{p:Array (Nat × Nat × Nat)}
theorem aH (h:Q a):G prog w A E s κ arr p (pure a) Q:=λg=>wpS_pure ⟨⟨g,rfl⟩,h⟩
theorem aM (h:G prog w A E s κ arr p m λa=>G prog w A E s κ arr p (f a) Q):G prog w A E s κ arr p (m >>= f) Q:=λg=>
 wpS_bind (wpS_mono (h g) λa b q=>by
  obtain⟨⟨b,rfl⟩,q⟩:=q;exact q b)
theorem dG (h:G prog w A E s κ arr p m Q)(d:∀ a,Q a->q a):G prog w A E s κ arr p m q:=λg=>wpS_mono (h g) λa b hh=>⟨hh.1,d a hh.2⟩
theorem FT (a:pd prog w A s κ rk Gd)(d:Gd x)(b:Gd y)(h:Q (some (decide (rk x<rk y)))):G prog w A E s κ arr p (lt' x y) Q:=λg=>w_lt a d b ⟨⟨g,rfl⟩,h⟩
theorem b9 {a:Array Keyed}{i:Nat}{x:Keyed}{Q:Keyed->Prop}(he:a[i]?=some x)(h:Q x):G prog w A E s κ arr p (elem' a i) Q:=λg=>xt he ⟨⟨g,rfl⟩,h⟩
theorem Jc (h:∀ a,Q a):G prog w A E s κ arr p get Q:=λg=>wpS_get ⟨⟨g,rfl⟩,h _⟩
theorem xA (h:Q ()):G prog w A E s κ arr p (bC g) Q:=λa=>by
 rw[l0];exact wpS_modify ⟨⟨g,rfl⟩,h⟩
theorem qQ (h:Q ⟨⟩):G prog w A E s κ arr p (liftM (rule r)) Q:=λg=>wpS_lift (wpAny_rule ⟨rfl,⟨g,rfl⟩,h⟩)
theorem kl (I:Nat->β->Prop)
  (d:∀ i c,a<=i->i<b->I i c->G prog w A E s κ arr p (f i c) λr=>match r with|.done k=>Q k|.yield k=>I (i+1) k)
  (e:∀ c,I (max a b) c->Q c) (h:I a c):G prog w A E s κ arr p (forIn [a:b] c f) Q:=λg=>by
 refine wpS_forRange (I:=λx c o=>(∃ m,o=SortSt.mk' κ arr p m none)/\I x c) (Q:=λc o=>(∃ m,o=SortSt.mk' κ arr p m none)/\Q c) ?_ (λc o hh=>⟨hh.1,e c hh.2⟩) ⟨⟨g,rfl⟩,h⟩;rintro i c o o u ⟨⟨m,rfl⟩,q⟩;refine wpS_mono (d i c o u q m) λr m hh=>?_
 cases r with
 |done k=>exact hh
 |yield k=>exact hh
theorem NL (d:pd prog w A s κ rk Gd)(k:Gd key)(e:Gd x)(he:a[base+i]?=some x)(h:∀ b,Q (some b)) :
  G prog w A E s κ arr p (vQ left key a base i) Q:=by
 unfold vQ;refine aM (b9 he ?_)
 cases left with
 |true=>exact FT d e k (h _)
 |false=>exact aM (FT d k e (aH (h _)))
theorem qb (C:pd prog w A s κ rk Gd)(D:Gd key)(B:∀ x∈a.toList,Gd x)(z:base+n<=a.size)(hh:d<n)(h:∀ k,k<=n->Q (some k)) :
  G prog w A E s κ arr p (du left key a base n d) Q:=by
 have m:∀ i,i<n->∀ {Q:Option Bool->Prop},(∀ b,Q (some b))->G prog w A E s κ arr p (vQ left key a base i) Q:=λi hi Q q=>
  NL C D (B _ (Array.getElem_mem_toList (⋯:base+i<a.size))) (getElem?_eq_getElem _) q
 have r:∀ (f:Nat->Option (Option Nat) × Nat × Nat->StateT SortSt Sem (ForInStep (Option (Option Nat) × Nat × Nat))) (k:Option (Option Nat) × Nat × Nat->StateT SortSt Sem (Option Nat)),
   (∀ x lo hi (Q:ForInStep (Option (Option Nat) × Nat × Nat)->Prop),hi<=n->(lo>=hi->Q (.done (none,lo,hi)))->(lo<hi->Q (.yield (none,lo+(hi-lo) / 2+1,hi))/\Q (.yield (none,lo,lo+(hi-lo) / 2)))->G prog w A E s κ arr p (f x (none,lo,hi)) Q)->(∀ lo hi,k (none,lo,hi)=pure (some hi)) →
   ∀ lo hi,lo<=hi->hi<=n->G prog w A E s κ arr p (forIn [0:n] (none,lo,hi) f >>= k) Q:=λf k u e lo hi o g=>by
  refine aM (kl (I:=λx c=>∃ lo hi,c=(none,lo,hi)/\lo<=hi/\hi<=n) ?_ ?_ ⟨lo,hi,rfl,o,g⟩)
  .rintro x c _ y ⟨lo,hi,rfl,q,g⟩;refine u x lo hi _ g (λhb=>?_) (λo=>⟨⟨_,_,rfl,⋯,g⟩,_,_,rfl,⋯,⋯⟩)
   dsimp only;rw[e];exact aH (h _ g)
  .rintro c ⟨lo,hi,rfl,q,g⟩;rw[e];exact aH (h _ g)
 rw[ww];refine aM (m d hh λright=>?_);dsimp only
 cases right with
 |true=>
  simp only[if_true];refine aM (dG (kl (I:=λx c=>∃ e o,c=(none,e,o)/\e<o/\d+e<n)
   (Q:=λc=>∃ e o,c=(none,e,o)/\e<o/\d+e<n) ?_ (λc h=>h) ⟨0,1,rfl,⋯,hh⟩) ?_)
  .rintro x c _ y ⟨e,o,rfl,q,g⟩;dsimp only
   by_cases hb:o>=n-d
   .rw[if_pos hb];exact aH ⟨e,o,rfl,q,g⟩
   .rw[if_neg hb];refine aM (m _ ⋯ λb=>?_)
    cases b with
    |false=>exact aH ⟨e,o,rfl,q,g⟩
    |true=>exact aH ⟨_,_,rfl,⋯,⋯⟩
  .rintro c ⟨e,o,rfl,q,g⟩;dsimp only;refine r _ _ (λx lo hi Q z v u=>?_) (λlo hi=>rfl) _ _ ⋯ ⋯
   dsimp only
   by_cases hb:lo>=hi
   .rw[if_pos hb];exact aH (v hb)
   .rw[if_neg hb];refine aM (m _ ⋯ λb=>?_)
    cases b with
    |true=>exact aH (u ⋯).1
    |false=>exact aH (u ⋯).2
 |false=>
  simp only[Bool.false_eq_true,if_false];refine aM (dG (kl (I:=λx c=>∃ e o,c=(none,e,o)/\e<o/\e<=d)
   (Q:=λc=>∃ e o,c=(none,e,o)/\e<o/\e<=d) ?_ (λc h=>h) ⟨0,1,rfl,⋯,⋯⟩) ?_)
  .rintro x c _ y ⟨e,o,rfl,q,g⟩;dsimp only
   by_cases hb:o>=d+1
   .rw[if_pos hb];exact aH ⟨e,o,rfl,q,g⟩
   .rw[if_neg hb];refine aM (m _ ⋯ λb=>?_)
    cases b with
    |true=>exact aH ⟨e,o,rfl,q,g⟩
    |false=>exact aH ⟨_,_,rfl,⋯,⋯⟩
  .rintro c ⟨e,o,rfl,q,g⟩;dsimp only;refine r _ _ (λx lo hi Q z v u=>?_) (λlo hi=>rfl) _ _ ⋯ ⋯
   dsimp only
   by_cases hb:lo>=hi
   .rw[if_pos hb];exact aH (v hb)
   .rw[if_neg hb];refine aM (m _ ⋯ λb=>?_)
    cases b with
    |true=>exact aH (u ⋯).1
    |false=>exact aH (u ⋯).2
end
set_option maxHeartbeats 3200000
abbrev LS:=Option (Array Keyed) × Array Keyed × Nat × Nat × Nat × Nat × Nat
abbrev MS:=Option (Array Keyed) × Array Keyed × Nat × Nat × Nat × Nat
section
variable (a b:Array Keyed)
def Qe (out:Array Keyed)(ia ib mg k k1:Nat):StateT SortSt Sem (ForInStep LS):=do
 let x ← elem' a ia
 if (ia+1+1 == a.size)=true then pure (.done (some (jL a b (out.push x) (ia+1) ib),out.push x,ia+1,ib,mg,k,k1))
 else if (decide (k<7) && decide (k1<7))=true then pure (.done (none,out.push x,ia+1,ib,mg,k,k1))
 else pure (.yield (none,out.push x,ia+1,ib,mg,k,k1))
def Qd (out:Array Keyed)(ia ib mg k bc:Nat):StateT SortSt Sem (ForInStep LS):=do
 let x ← elem' a ia
 let r ← du true x b ib (b.size-ib) 0
 match r with
 |some k1=>
  if k1>0 then
   if (ib+k1 == b.size)=true then pure (.done (some (dU a b (out++b.extract ib (ib+k1)) ia (ib+k1)),out++b.extract ib (ib+k1),ia,ib+k1,mg,k,k1))
   else Qe a b (out++b.extract ib (ib+k1)) ia (ib+k1) mg k k1
  else Qe a b out ia ib mg k k1
 |_=>pure (.done (some (dU a b out ia ib),out,ia,ib,mg,k,bc))
def OZ (out:Array Keyed)(ia ib mg k bc:Nat):StateT SortSt Sem (ForInStep LS):=do
 let y ← elem' b ib
 if (ib+1 == b.size)=true then pure (.done (some (dU a b (out.push y) ia (ib+1)),out.push y,ia,ib+1,mg,k,bc))
 else Qd a b (out.push y) ia (ib+1) mg k bc
def OY (out:Array Keyed)(ia ib mg ac bc:Nat):StateT SortSt Sem (ForInStep LS):=do
 bC mg
 let y ← elem' b ib
 let r ← du false y a ia (a.size-ia) 0
 match r with
 |some k=>
  if k>0 then
   if (ia+k+1 == a.size)=true then pure (.done (some (jL a b (out++a.extract ia (ia+k)) (ia+k) ib),out++a.extract ia (ia+k),ia+k,ib,mg,k,bc))
   else if (ia+k == a.size)=true then pure (.done (some (dU a b (out++a.extract ia (ia+k)) (ia+k) ib),out++a.extract ia (ia+k),ia+k,ib,mg,k,bc))
   else OZ a b (out++a.extract ia (ia+k)) (ia+k) ib mg k bc
  else OZ a b out ia ib mg k bc
 |_=>pure (.done (some (dU a b out ia ib),out,ia,ib,mg,ac,bc))
def QE (c:LS):StateT SortSt Sem (ForInStep LS):=
 if c.2.2.2.2.1>1 then OY a b c.2.1 c.2.2.1 c.2.2.2.1 (c.2.2.2.2.1-1) c.2.2.2.2.2.1 c.2.2.2.2.2.2
 else OY a b c.2.1 c.2.2.1 c.2.2.2.1 c.2.2.2.2.1 c.2.2.2.2.2.1 c.2.2.2.2.2.2
def ms (mg:Nat)(c:MS):StateT SortSt Sem (ForInStep MS):=do
 let y ← elem' b c.2.2.2.1
 let x ← elem' a c.2.2.1
 let r ← lt' y x
 match r with
 |some bWins=>
  if bWins=true then do
   let y ← elem' b c.2.2.2.1
   if (c.2.2.2.1+1 == b.size)=true then pure (.done (some (dU a b (c.2.1.push y) c.2.2.1 (c.2.2.2.1+1)),c.2.1.push y,c.2.2.1,c.2.2.2.1+1,0,c.2.2.2.2.2+1))
   else if c.2.2.2.2.2+1>=mg then pure (.done (none,c.2.1.push y,c.2.2.1,c.2.2.2.1+1,0,c.2.2.2.2.2+1))
   else pure (.yield (none,c.2.1.push y,c.2.2.1,c.2.2.2.1+1,0,c.2.2.2.2.2+1))
  else do
   let x ← elem' a c.2.2.1
   if (c.2.2.1+1+1 == a.size)=true then pure (.done (some (jL a b (c.2.1.push x) (c.2.2.1+1) c.2.2.2.1),c.2.1.push x,c.2.2.1+1,c.2.2.2.1,c.2.2.2.2.1+1,0))
   else if c.2.2.2.2.1+1>=mg then pure (.done (none,c.2.1.push x,c.2.2.1+1,c.2.2.2.1,c.2.2.2.2.1+1,0))
   else pure (.yield (none,c.2.1.push x,c.2.2.1+1,c.2.2.2.1,c.2.2.2.2.1+1,0))
 |_=>pure (.done (some (dU a b c.2.1 c.2.2.1 c.2.2.2.1),c.2.1,c.2.2.1,c.2.2.2.1,c.2.2.2.2.1,c.2.2.2.2.2))
end
theorem ic [Decidable c](h:x=u)(a:y=v):(if c then x else y)=if c then u else v:=by rw[h,a]
theorem ot (a b:Array Keyed):kI a b=(do
 rule "list.sort.merge-lo"
 let x0 ← elem' b 0
 if (1 == b.size)=true then pure (dU a b #[x0] 0 1)
 else if (0+1 == a.size)=true then pure (jL a b #[x0] 0 1)
 else do
  let st ← get
  let c ← forIn [0:a.size+b.size] ((none,#[x0],0,1,gallopOf st):Option (Array Keyed) × Array Keyed × Nat × Nat × Nat) λ_ c=>do
   let d ← forIn [0:a.size+b.size] ((none,c.2.1,c.2.2.1,c.2.2.2.1,0,0):MS) λ_ d=>ms a b c.2.2.2.2 d
   match d.1 with
   |some r=>pure (.done (some r,d.2.1,d.2.2.1,d.2.2.2.1,c.2.2.2.2))
   |none=>do
    liftM (rule "list.sort.gallop")
    let e ← forIn [0:a.size+b.size] ((none,d.2.1,d.2.2.1,d.2.2.2.1,c.2.2.2.2+1,d.2.2.2.2.1,d.2.2.2.2.2):LS) λ_ e=>QE a b e
    match e.1 with
    |some r=>pure (.done (some r,e.2.1,e.2.2.1,e.2.2.2.1,e.2.2.2.2.1))
    |none=>do
     bC (e.2.2.2.2.1+1)
     pure (.yield (none,e.2.1,e.2.2.1,e.2.2.2.1,e.2.2.2.2.1+1))
  match c.1 with
  |some r=>pure r
  |none=>liftM (unsupported "internal:list.sort.merge-bound":Sem (Array Keyed))):=by
 rw[uM];dsimp only;refine congrArg _ (funext λ_=>?_);refine congrArg _ (funext λx0=>?_);refine ic rfl (ic rfl ?_);refine congrArg _ (funext λst=>?_);refine congr (congrArg _ (congrArg _ (funext λ_=>funext λc=>?_))) (funext λc=>?_)
 rotate_left
 .obtain⟨r,_⟩:=c
  cases r <;> rfl
 refine congr (congrArg _ (congrArg _ (funext λ_=>funext λd=>?_))) (funext λd=>?_)
 .unfold ms;refine congrArg _ (funext λ_=>?_);refine congrArg _ (funext λ_=>?_);refine congrArg _ (funext λr=>?_)
  cases r <;> rfl
 obtain⟨r,d⟩:=d
 cases r with
 |some r=>rfl
 |none=>
  dsimp only;refine congrArg _ (funext λ_=>?_);refine congr (congrArg _ (congrArg _ (funext λ_=>funext λe=>?_))) (funext λe=>?_)
  rotate_left
  .obtain⟨r,_⟩:=e
   cases r <;> rfl
  unfold QE;refine ic ?_ ?_
  all_goals
   unfold OY;refine congrArg _ (funext λ_=>?_);refine congrArg _ (funext λ_=>?_);refine congrArg _ (funext λr=>?_)
   cases r with
   |none=>rfl
   |some k=>
    dsimp only;refine ic (ic rfl (ic rfl ?_)) ?_
    all_goals
     unfold OZ;refine congrArg _ (funext λ_=>?_);refine ic rfl ?_;unfold Qd;refine congrArg _ (funext λ_=>?_);refine congrArg _ (funext λr=>?_)
     cases r <;> rfl
theorem fR {x:Array Keyed}{i:Nat}(h:i<x.size):x[i]∈x.toList:=Array.getElem_mem_toList h
section
variable {prog:Program}{w:World}{A:Around}{E:Value->Shared->Prop}{s:Shared}{κ:SortKind}{rk:Keyed->Int}{Gd:Keyed->Prop}{arr:Array Keyed}{p:Array (Nat × Nat × Nat)}
variable {a b:Array Keyed}{N:Nat}
def iq (a b r:Array Keyed):Prop:=List.Perm r.toList (a.toList++b.toList)
def JL (a b out:Array Keyed)(i d:Nat):Prop:=List.Perm (out.toList++a.toList.drop i++b.toList.drop d) (a.toList++b.toList)
structure FN (a b:Array Keyed) (N:Nat) (out:Array Keyed) (ia ib:Nat):Prop where
 j:JL a b out ia ib
 ha:ia+1<a.size
 hb:ib<b.size
 n:(a.size-ia)+(b.size-ib)<=N
theorem xS {x:Array Keyed}{i:Nat}(h:i<x.size):x.toList.drop i=[x[i]]++x.toList.drop (i+1):=by
 rw[List.drop_eq_getElem_cons (by simpa using h)];simp
theorem iF (j:JL a b out i d):iq a b (dU a b out i d):=by
 unfold iq dU;have e:(out++a.extract i a.size++b.extract d b.size).toList=out.toList++a.toList.drop i++b.toList.drop d:=by simp[take_of_length_le]
 rw[e];exact j
theorem kC (j:JL a b out i d):iq a b (jL a b out i d):=by
 unfold iq jL;have e:(out++b.extract d b.size++a.extract i a.size).toList=out.toList++b.toList.drop d++a.toList.drop i:=by simp[take_of_length_le]
 rw[e];exact Mp j
theorem yj {out:Array Keyed}{i d:Nat}(j:JL a b out i d)(ha:i<a.size):JL a b (out.push a[i]) (i+1) d:=by
 unfold JL at j ⊢;rw[xS ha]at j;rw[toList_push];simpa [List.append_assoc] using j
theorem sv {out:Array Keyed}{d i:Nat}(j:JL a b out d i)(hb:i<b.size):JL a b (out.push b[i]) d (i+1):=by
 unfold JL at j ⊢;rw[xS hb]at j;rw[toList_push];exact QV j
theorem LM (k:Nat)(j:JL a b out i d):JL a b (out++a.extract i (i+k)) (i+k) d:=by
 unfold JL at j ⊢;have e:(out++a.extract i (i+k)).toList=out.toList++(a.toList.drop i).take k:=by simp
 rw[e,<-List.drop_drop,List.append_assoc out.toList,take_append_drop];exact j
theorem Dh (k:Nat)(j:JL a b out d i):JL a b (out++b.extract i (i+k)) d (i+k):=by
 unfold JL at j ⊢;have e:(out++b.extract i (i+k)).toList=out.toList++(b.toList.drop i).take k:=by simp
 rw[e];refine QV ?_;rw[<-List.drop_drop,take_append_drop];exact j
def Qa (a b:Array Keyed)(N:Nat)(c:LS):Prop:=c.1=none/\FN a b N c.2.1 c.2.2.1 c.2.2.2.1
def Rq (a b:Array Keyed)(N:Nat)(c:LS):Prop:=(∃ r,c.1=some r/\iq a b r)\/Qa a b N c
def xE (a b:Array Keyed)(N:Nat):ForInStep LS->Prop
 | .done c=>Rq a b N c
 | .yield c=>Qa a b N c
theorem Jt (I:FN a b N out i d):G prog w A E s κ arr p (Qe a b out i d mg k k1) (xE a b N):=by
 obtain⟨j,r,o,q⟩:=I;have h:i<a.size:=⋯
 have m:=yj j h;unfold Qe;refine aM (b9 (getElem?_eq_getElem h) ?_)
 split
 .exact aH (.inl ⟨_,rfl,kC m⟩)
 .rename_i e;have e:¬ i+1+1=a.size:=by simpa using e
  have g:∀ mg k k1,Qa a b N (none,out.push a[i],i+1,d,mg,k,k1):=λmg k k1=>⟨rfl,m,by show i+1+1<a.size;ext,o,by show(a.size-(i+1))+(b.size-d)<=N;ext⟩
  split
  .exact aH (.inr (g _ _ _))
  .exact aH (g _ _ _)
theorem OW (u:pd prog w A s κ rk Gd)(q:∀ x∈a.toList,Gd x)(e:∀ x∈b.toList,Gd x){out:Array Keyed}{d i mg k r:Nat}(I:FN a b N out d i):G prog w A E s κ arr p (Qd a b out d i mg k r) (xE a b N):=by
 obtain⟨j,m,o,v⟩:=I;have h:d<a.size:=⋯
 unfold Qd;refine aM (b9 (getElem?_eq_getElem h) ?_);refine aM (qb u (q _ (fR h)) e ⋯ ⋯ λk1 y=>?_)
 dsimp only
 split
 .split
  .exact aH (.inl ⟨_,rfl,iF (Dh k1 j)⟩)
  .rename_i g;have g:¬ i+k1=b.size:=by simpa using g
   exact Jt ⟨Dh k1 j,m,⋯,⋯⟩
 .exact Jt ⟨j,m,o,v⟩
theorem Js (r:pd prog w A s κ rk Gd)(o:∀ x∈a.toList,Gd x)(h:∀ x∈b.toList,Gd x)(I:FN a b N out g i):G prog w A E s κ arr p (OZ a b out g i mg k q) (xE a b N):=by
 obtain⟨j,u,m,v⟩:=I;unfold OZ;refine aM (b9 (getElem?_eq_getElem m) ?_);have e:=sv j m
 split
 .exact aH (.inl ⟨_,rfl,iF e⟩)
 .rename_i d;have d:¬ i+1=b.size:=by simpa using d
  exact OW r o h ⟨e,u,⋯,⋯⟩
theorem Jr (o:pd prog w A s κ rk Gd)(g:∀ x∈a.toList,Gd x)(h:∀ x∈b.toList,Gd x){out:Array Keyed}{i r mg v u:Nat}(I:FN a b N out i r):G prog w A E s κ arr p (OY a b out i r mg v u) (xE a b N):=by
 obtain⟨j,y,e,z⟩:=I;unfold OY;refine aM (xA ?_);refine aM (b9 (getElem?_eq_getElem e) ?_);refine aM (qb o (h _ (fR e)) g ⋯ ⋯ λk B=>?_)
 dsimp only;have m:=LM k j
 split
 .split
  .exact aH (.inl ⟨_,rfl,kC m⟩)
  .split
   .exact aH (.inl ⟨_,rfl,iF m⟩)
   .rename_i q d;have q:¬ i+k+1=a.size:=by simpa using q
    have d:¬ i+k=a.size:=by simpa using d
    exact Js o g h ⟨m,⋯,e,⋯⟩
 .exact Js o g h ⟨j,y,e,z⟩
def J8 (a b:Array Keyed)(N:Nat)(c:MS):Prop:=c.1=none/\FN a b N c.2.1 c.2.2.1 c.2.2.2.1
def Rt (a b:Array Keyed)(N:Nat)(c:MS):Prop:=(∃ r,c.1=some r/\iq a b r)\/J8 a b N c
theorem QD (v:pd prog w A s κ rk Gd)(u:∀ x∈a.toList,Gd x)(o:∀ x∈b.toList,Gd x){mg:Nat}{c:MS}(I:J8 a b (N+1) c) :
  G prog w A E s κ arr p (ms a b mg c) λr=>match r with|.done c=>Rt a b N c|.yield c=>J8 a b N c:=by
 obtain⟨r,out,i,d,D,C⟩:=c;obtain⟨B,j,q,e,z⟩:=I;dsimp only at j q e z;have h:i<a.size:=⋯
 unfold ms;dsimp only;refine aM (b9 (getElem?_eq_getElem e) ?_);refine aM (b9 (getElem?_eq_getElem h) ?_);refine aM (FT v (o _ (fR e)) (u _ (fR h)) ?_);dsimp only
 split
 .refine aM (b9 (getElem?_eq_getElem e) ?_);have m:=sv j e
  split
  .exact aH (.inl ⟨_,rfl,iF m⟩)
  .rename_i g;have g:¬ d+1=b.size:=by simpa using g
   have k:∀ x y,J8 a b N (none,out.push b[d],i,d+1,x,y):=λx y=>⟨rfl,m,q,by show d+1<b.size;ext,by show(a.size-i)+(b.size-(d+1))<=N;ext⟩
   split
   .exact aH (.inr (k _ _))
   .exact aH (k _ _)
 .refine aM (b9 (getElem?_eq_getElem h) ?_);have m:=yj j h
  split
  .exact aH (.inl ⟨_,rfl,kC m⟩)
  .rename_i g;have g:¬ i+1+1=a.size:=by simpa using g
   have k:∀ x y,J8 a b N (none,out.push a[i],i+1,d,x,y):=λx y=>⟨rfl,m,by show i+1+1<a.size;ext,e,by show(a.size-(i+1))+(b.size-d)<=N;ext⟩
   split
   .exact aH (.inr (k _ _))
   .exact aH (k _ _)
theorem FN.weak (h:FN a b N out i d)(hm:N<=M):FN a b M out i d:=⟨h.j,h.ha,h.hb,le_trans h.n hm⟩
theorem zU (C:pd prog w A s κ rk Gd)(B:∀ x∈a.toList,Gd x)(k:∀ x∈b.toList,Gd x)(q:0<b.size)(P:0<a.size):G prog w A E s κ arr p (kI a b) (iq a b):=by
 have D:JL a b #[b[0]] 0 1:=by
  have:JL a b #[] 0 0:=by unfold JL;simp
  exact sv this q
 rw[ot];refine aM (qQ ?_);refine aM (b9 (getElem?_eq_getElem q) ?_)
 split
 .exact aH (iF D)
 split
 .exact aH (kC D)
 rename_i u m;have u:¬ 1=b.size:=by simpa using u
 have m:¬ 0+1=a.size:=by simpa using m
 refine aM (Jc λZ=>?_);refine aM (dG (kl (I:=λi c=>c.1=none/\FN a b (a.size+b.size-i) c.2.1 c.2.2.1 c.2.2.2.1) (Q:=λc=>∃ r,c.1=some r/\iq a b r) ?step ?fin ⟨rfl,D,by show 0+1<a.size;ext,by show 1<b.size;ext,by show(a.size-0)+(b.size-1)<=_;ext⟩) ?post)
 case fin=>
  rintro c ⟨_,_,M,z,O⟩;rw[show max 0 (a.size+b.size)=a.size+b.size by ext]at O
  ext
 case post=>
  rintro⟨r,c⟩ ⟨y,g,o⟩;dsimp only at g;subst g;exact aH o
 case step=>
  rintro i ⟨r,out,F,J,mg⟩ _ hi ⟨_,I⟩;dsimp only at I ⊢;obtain⟨N,U⟩:∃ N,a.size+b.size-i=N+1:=⟨a.size+b.size-i-1,⋯⟩
  rw[U]at I;refine aM (dG (kl (I:=λx d=>J8 a b (N+1) d/\(0<x->J8 a b N d)) (Q:=Rt a b N) ?_ ?_ ⟨⟨rfl,I⟩,λh=>absurd h ⋯⟩) ?_)
  .rintro x d _ R ⟨M,z⟩;refine dG (QD C B k M) λr g=>?_
   cases r with
   |done c=>exact g
   |yield c=>exact⟨⟨g.1,g.2.weak ⋯⟩,λ_=>g⟩
  .rintro d ⟨_,z⟩;exact .inr (z ⋯)
  .rintro⟨r,out,F,J,Y,W⟩ (⟨y,g,o⟩|⟨g,L⟩)
   .dsimp only at g;subst g;exact aH ⟨y,rfl,o⟩
   .dsimp only at g L;subst g;dsimp only;refine aM (qQ ?_);refine aM (dG (kl (I:=λx e=>Qa a b N e) (Q:=Rq a b N) ?_ ?_ ⟨rfl,L⟩) ?_)
    .rintro x e _ R ⟨H,v⟩;unfold QE
     split
     .refine dG (Jr C B k v) λr g=>?_
      cases r with
      |done c=>exact g
      |yield c=>exact g
     .refine dG (Jr C B k v) λr g=>?_
      cases r with
      |done c=>exact g
      |yield c=>exact g
    .rintro e H;exact .inr H
    .rintro⟨r,out,F,J,X,Y,W⟩ (⟨y,g,o⟩|⟨g,v⟩)
     .dsimp only at g;subst g;exact aH ⟨y,rfl,o⟩
     .dsimp only at g v;subst g;dsimp only;refine aM (xA (aH ⟨rfl,v.weak ⋯⟩))
end
set_option maxHeartbeats 3200000
section
variable (a b:Array Keyed)
def Qf (na nb:Nat)(out:Array Keyed)(mg k k1:Nat):StateT SortSt Sem (ForInStep (Option (Array Keyed) × Nat × Nat × Array Keyed × Nat × Nat × Nat)):=do
 let x ← elem' a (na-1)
 if (na-1 == 0)=true then pure (.done (some (dS a b (out.push x) (na-1) nb),na-1,nb,out.push x,mg,k,k1))
 else if (decide (k<7) && decide (k1<7))=true then pure (.done (none,na-1,nb,out.push x,mg,k,k1))
 else pure (.yield (none,na-1,nb,out.push x,mg,k,k1))
def NE (na nb:Nat)(out:Array Keyed)(mg k bc:Nat):StateT SortSt Sem (ForInStep (Option (Array Keyed) × Nat × Nat × Array Keyed × Nat × Nat × Nat)):=do
 let x ← elem' a (na-1)
 let r ← du true x b 0 nb (nb-1)
 match r with
 |some t=>
  if nb-t>0 then
   if (t == 1)=true then pure (.done (some (fO a b (out++(b.extract t nb).reverse) na t),na,t,out++(b.extract t nb).reverse,mg,k,nb-t))
   else if (t == 0)=true then pure (.done (some (dS a b (out++(b.extract t nb).reverse) na t),na,t,out++(b.extract t nb).reverse,mg,k,nb-t))
   else Qf a b na t (out++(b.extract t nb).reverse) mg k (nb-t)
  else Qf a b na nb out mg k (nb-t)
 |_=>pure (.done (some (dS a b out na nb),na,nb,out,mg,k,bc))
def qc (na nb:Nat)(out:Array Keyed)(mg k bc:Nat):StateT SortSt Sem (ForInStep (Option (Array Keyed) × Nat × Nat × Array Keyed × Nat × Nat × Nat)):=do
 let y ← elem' b (nb-1)
 if (nb-1 == 1)=true then pure (.done (some (fO a b (out.push y) na (nb-1)),na,nb-1,out.push y,mg,k,bc))
 else NE a b na (nb-1) (out.push y) mg k bc
def rG (na nb:Nat)(out:Array Keyed)(mg ac bc:Nat):StateT SortSt Sem (ForInStep (Option (Array Keyed) × Nat × Nat × Array Keyed × Nat × Nat × Nat)):=do
 bC mg
 let y ← elem' b (nb-1)
 let r ← du false y a 0 na (na-1)
 match r with
 |some t=>
  if na-t>0 then
   if (t == 0)=true then pure (.done (some (dS a b (out++(a.extract t na).reverse) t nb),t,nb,out++(a.extract t na).reverse,mg,na-t,bc))
   else qc a b t nb (out++(a.extract t na).reverse) mg (na-t) bc
  else qc a b na nb out mg (na-t) bc
 |_=>pure (.done (some (dS a b out na nb),na,nb,out,mg,ac,bc))
def G8 (c:Option (Array Keyed) × Nat × Nat × Array Keyed × Nat × Nat × Nat):StateT SortSt Sem (ForInStep (Option (Array Keyed) × Nat × Nat × Array Keyed × Nat × Nat × Nat)):=
 if c.2.2.2.2.1>1 then rG a b c.2.1 c.2.2.1 c.2.2.2.1 (c.2.2.2.2.1-1) c.2.2.2.2.2.1 c.2.2.2.2.2.2
 else rG a b c.2.1 c.2.2.1 c.2.2.2.1 c.2.2.2.2.1 c.2.2.2.2.2.1 c.2.2.2.2.2.2
def hm (mg:Nat)(c:Option (Array Keyed) × Nat × Nat × Array Keyed × Nat × Nat):StateT SortSt Sem (ForInStep (Option (Array Keyed) × Nat × Nat × Array Keyed × Nat × Nat)):=do
 let y ← elem' b (c.2.2.1-1)
 let x ← elem' a (c.2.1-1)
 let r ← lt' y x
 match r with
 |some aWins=>
  if aWins=true then do
   let x ← elem' a (c.2.1-1)
   if (c.2.1-1 == 0)=true then pure (.done (some (dS a b (c.2.2.2.1.push x) (c.2.1-1) c.2.2.1),c.2.1-1,c.2.2.1,c.2.2.2.1.push x,c.2.2.2.2.1+1,0))
   else if c.2.2.2.2.1+1>=mg then pure (.done (none,c.2.1-1,c.2.2.1,c.2.2.2.1.push x,c.2.2.2.2.1+1,0))
   else pure (.yield (none,c.2.1-1,c.2.2.1,c.2.2.2.1.push x,c.2.2.2.2.1+1,0))
  else do
   let y ← elem' b (c.2.2.1-1)
   if (c.2.2.1-1 == 1)=true then pure (.done (some (fO a b (c.2.2.2.1.push y) c.2.1 (c.2.2.1-1)),c.2.1,c.2.2.1-1,c.2.2.2.1.push y,0,c.2.2.2.2.2+1))
   else if c.2.2.2.2.2+1>=mg then pure (.done (none,c.2.1,c.2.2.1-1,c.2.2.2.1.push y,0,c.2.2.2.2.2+1))
   else pure (.yield (none,c.2.1,c.2.2.1-1,c.2.2.2.1.push y,0,c.2.2.2.2.2+1))
 |_=>pure (.done (some (dS a b c.2.2.2.1 c.2.1 c.2.2.1),c.2.1,c.2.2.1,c.2.2.2.1,c.2.2.2.2.1,c.2.2.2.2.2))
end
theorem oq (a b:Array Keyed):kH a b=(do
 rule "list.sort.merge-hi"
 let x0 ← elem' a (a.size-1)
 if (a.size-1 == 0)=true then pure (dS a b #[x0] (a.size-1) b.size)
 else if (b.size == 1)=true then pure (fO a b #[x0] (a.size-1) b.size)
 else do
  let st ← get
  let c ← forIn [0:a.size+b.size] ((none,a.size-1,b.size,#[x0],gallopOf st):Option (Array Keyed) × Nat × Nat × Array Keyed × Nat) λ_ c=>do
   let d ← forIn [0:a.size+b.size] ((none,c.2.1,c.2.2.1,c.2.2.2.1,0,0):Option (Array Keyed) × Nat × Nat × Array Keyed × Nat × Nat) λ_ d=>hm a b c.2.2.2.2 d
   match d.1 with
   |some r=>pure (.done (some r,d.2.1,d.2.2.1,d.2.2.2.1,c.2.2.2.2))
   |none=>do
    liftM (rule "list.sort.gallop")
    let e ← forIn [0:a.size+b.size] ((none,d.2.1,d.2.2.1,d.2.2.2.1,c.2.2.2.2+1,d.2.2.2.2.1,d.2.2.2.2.2):Option (Array Keyed) × Nat × Nat × Array Keyed × Nat × Nat × Nat) λ_ e=>G8 a b e
    match e.1 with
    |some r=>pure (.done (some r,e.2.1,e.2.2.1,e.2.2.2.1,e.2.2.2.2.1))
    |none=>do
     bC (e.2.2.2.2.1+1)
     pure (.yield (none,e.2.1,e.2.2.1,e.2.2.2.1,e.2.2.2.2.1+1))
  match c.1 with
  |some r=>pure r
  |none=>liftM (unsupported "internal:list.sort.merge-bound":Sem (Array Keyed))):=by
 rw[uL];dsimp only;refine congrArg _ (funext λ_=>?_);refine congrArg _ (funext λx0=>?_);refine ic rfl (ic rfl ?_);refine congrArg _ (funext λst=>?_);refine congr (congrArg _ (congrArg _ (funext λ_=>funext λc=>?_))) (funext λc=>?_)
 rotate_left
 .obtain⟨r,_⟩:=c
  cases r <;> rfl
 refine congr (congrArg _ (congrArg _ (funext λ_=>funext λd=>?_))) (funext λd=>?_)
 .unfold hm;refine congrArg _ (funext λ_=>?_);refine congrArg _ (funext λ_=>?_);refine congrArg _ (funext λr=>?_)
  cases r <;> rfl
 obtain⟨r,d⟩:=d
 cases r with
 |some r=>rfl
 |none=>
  dsimp only;refine congrArg _ (funext λ_=>?_);refine congr (congrArg _ (congrArg _ (funext λ_=>funext λe=>?_))) (funext λe=>?_)
  rotate_left
  .obtain⟨r,_⟩:=e
   cases r <;> rfl
  unfold G8;refine ic ?_ ?_
  all_goals
   unfold rG;refine congrArg _ (funext λ_=>?_);refine congrArg _ (funext λ_=>?_);refine congrArg _ (funext λr=>?_)
   cases r with
   |none=>rfl
   |some k=>
    dsimp only;refine ic (ic rfl ?_) ?_
    all_goals
     unfold qc;refine congrArg _ (funext λ_=>?_);refine ic rfl ?_;unfold NE;refine congrArg _ (funext λ_=>?_);refine congrArg _ (funext λr=>?_)
     cases r <;> rfl
abbrev HS:=Option (Array Keyed) × Nat × Nat × Array Keyed × Nat × Nat × Nat
abbrev HM:=Option (Array Keyed) × Nat × Nat × Array Keyed × Nat × Nat
section
variable {prog:Program}{w:World}{A:Around}{E:Value->Shared->Prop}{s:Shared}{κ:SortKind}{rk:Keyed->Int}{Gd:Keyed->Prop}{arr:Array Keyed}{p:Array (Nat × Nat × Nat)}
variable {a b:Array Keyed}{N:Nat}
def JH (a b out:Array Keyed)(d e:Nat):Prop:=List.Perm (a.toList.take d++b.toList.take e++out.toList.reverse) (a.toList++b.toList)
structure FM (a b:Array Keyed) (N:Nat) (out:Array Keyed) (na nb:Nat):Prop where
 j:JH a b out na nb
 ha:0<na
 ha':na<=a.size
 hb:1<nb
 hb':nb<=b.size
 n:na+nb<=N
theorem yY {x:Array Keyed}{n:Nat}(d:0<n)(h:n<=x.size):x.toList.take n=x.toList.take (n-1)++[x[n-1]]:=by
 obtain⟨m,rfl⟩:∃ m,n=m+1:=⟨n-1,⋯⟩
 rw[List.take_succ];simp only[add_sub_cancel];have e:x.toList[m]?=some x[m]:=by rw[getElem?_toList,getElem?_eq_getElem ⋯]
 rw[e]
 rfl
theorem gk (j:JH a b out d g):iq a b (dS a b out d g):=by
 unfold iq dS;have e:(a.extract 0 d++b.extract 0 g++out.reverse).toList=a.toList.take d++b.toList.take g++out.toList.reverse:=by simp
 rw[e];exact j
theorem gJ (j:JH a b out d g):iq a b (fO a b out d g):=by
 unfold iq fO;have e:(b.extract 0 g++a.extract 0 d++out.reverse).toList=b.toList.take g++a.toList.take d++out.toList.reverse:=by simp
 rw[e];exact List.Perm.trans (List.perm_append_comm.append_right _) j
theorem He (j:JH a b out d g)(i:t<=d):JH a b (out++(a.extract t d).reverse) t g:=by
 unfold JH at j ⊢;have e:(out++(a.extract t d).reverse).toList.reverse=(a.toList.take d).drop t++out.toList.reverse:=by simp[List.drop_take]
 rw[e];refine Rx ?_;have h:a.toList.take t=(a.toList.take d).take t:=by rw[List.take_take];congr 1;ext
 rw[h,take_append_drop];exact j
theorem Hg (j:JH a b out g d)(i:t<=d):JH a b (out++(b.extract t d).reverse) g t:=by
 unfold JH at j ⊢;have e:(out++(b.extract t d).reverse).toList.reverse=(b.toList.take d).drop t++out.toList.reverse:=by simp[List.drop_take]
 have h:b.toList.take t=(b.toList.take d).take t:=by rw[List.take_take];congr 1;ext
 rw[e,h,List.append_assoc,<-List.append_assoc (List.take t _),take_append_drop,<-List.append_assoc];exact j
theorem oh {out:Array Keyed}{d g:Nat}(j:JH a b out d g)(h:0<d)(ha:d<=a.size):JH a b (out.push a[d-1]) (d-1) g:=by
 unfold JH at j ⊢;have e:(out.push a[d-1]).toList.reverse=[a[d-1]]++out.toList.reverse:=by simp
 rw[e];refine Rx ?_;rw[<-yY h ha];exact j
theorem uv {out:Array Keyed}{g d:Nat}(j:JH a b out g d)(h:0<d)(hb:d<=b.size):JH a b (out.push b[d-1]) g (d-1):=by
 unfold JH at j ⊢;have e:(out.push b[d-1]).toList.reverse=[b[d-1]]++out.toList.reverse:=by simp
 rw[e,List.append_assoc,<-List.append_assoc (List.take (d-1) _),<-yY h hb,<-List.append_assoc];exact j
def P9 (a b:Array Keyed)(N:Nat)(c:HS):Prop:=c.1=none/\FM a b N c.2.2.2.1 c.2.1 c.2.2.1
def Rp (a b:Array Keyed)(N:Nat)(c:HS):Prop:=(∃ r,c.1=some r/\iq a b r)\/P9 a b N c
def xD (a b:Array Keyed)(N:Nat):ForInStep HS->Prop
 | .done c=>Rp a b N c
 | .yield c=>P9 a b N c
theorem Jw (I:FM a b N out d e):G prog w A E s κ arr p (Qf a b d e out mg k k1) (xD a b N):=by
 obtain⟨j,q,h,r,g,u⟩:=I;have o:=oh j q h;unfold Qf;refine aM (b9 (getElem?_eq_getElem ⋯) ?_)
 split
 .exact aH (.inl ⟨_,rfl,gk o⟩)
 .rename_i i;have i:¬ d-1=0:=by simpa using i
  have m:∀ mg k k1,P9 a b N (none,d-1,e,out.push (a[d-1]'⋯),mg,k,k1):=λmg k k1=>⟨rfl,o,by show 0<d-1;ext,by show d-1<=a.size;ext,r,g,by show d-1+e<=N;ext⟩
  split
  .exact aH (.inr (m _ _ _))
  .exact aH (m _ _ _)
theorem OX (C:pd prog w A s κ rk Gd)(z:∀ x∈a.toList,Gd x)(o:∀ x∈b.toList,Gd x)(I:FM a b N out g u):G prog w A E s κ arr p (NE a b g u out mg k B) (xD a b N):=by
 obtain⟨j,r,h,v,i,D⟩:=I;have d:g-1<a.size:=⋯
 unfold NE;refine aM (b9 (getElem?_eq_getElem d) ?_);refine aM (qb C (z _ (fR d)) o ⋯ ⋯ λt y=>?_)
 dsimp only
 split
 .have m:=Hg j y
  split
  .exact aH (.inl ⟨_,rfl,gJ m⟩)
  .split
   .exact aH (.inl ⟨_,rfl,gk m⟩)
   .rename_i q e;have q:¬ t=1:=by simpa using q
    have e:¬ t=0:=by simpa using e
    exact Jw ⟨m,r,h,⋯,⋯,⋯⟩
 .exact Jw ⟨j,r,h,v,i,D⟩
theorem Jv (u:pd prog w A s κ rk Gd)(q:∀ x∈a.toList,Gd x)(e:∀ x∈b.toList,Gd x)(I:FM a b N out m g):G prog w A E s κ arr p (qc a b m g out mg k r) (xD a b N):=by
 obtain⟨j,v,h,z,d,y⟩:=I;unfold qc;refine aM (b9 (getElem?_eq_getElem ⋯) ?_)
 have o:=uv j ⋯ d
 split
 .exact aH (.inl ⟨_,rfl,gJ o⟩)
 .rename_i i;have i:¬ g-1=1:=by simpa using i
  exact OX u q e ⟨o,v,h,⋯,⋯,⋯⟩
theorem Ju (k:pd prog w A s κ rk Gd)(i:∀ x∈a.toList,Gd x)(h:∀ x∈b.toList,Gd x)(I:FM a b N out q m):G prog w A E s κ arr p (rG a b q m out mg y z) (xD a b N):=by
 obtain⟨j,B,g,u,d,C⟩:=I;have e:m-1<b.size:=⋯
 unfold rG;refine aM (xA ?_);refine aM (b9 (getElem?_eq_getElem e) ?_);refine aM (qb k (h _ (fR e)) i ⋯ ⋯ λt v=>?_)
 dsimp only
 split
 .have r:=He j v
  split
  .exact aH (.inl ⟨_,rfl,gk r⟩)
  .rename_i o;have o:¬ t=0:=by simpa using o
   exact Jv k i h ⟨r,⋯,⋯,u,d,⋯⟩
 .exact Jv k i h ⟨j,B,g,u,d,C⟩
def J9 (a b:Array Keyed)(N:Nat)(c:HM):Prop:=c.1=none/\FM a b N c.2.2.2.1 c.2.1 c.2.2.1
def Ru (a b:Array Keyed)(N:Nat)(c:HM):Prop:=(∃ r,c.1=some r/\iq a b r)\/J9 a b N c
theorem QC (C:pd prog w A s κ rk Gd)(B:∀ x∈a.toList,Gd x)(v:∀ x∈b.toList,Gd x)(I:J9 a b (N+1) c) :
  G prog w A E s κ arr p (hm a b mg c) λr=>match r with|.done c=>Ru a b N c|.yield c=>J9 a b N c:=by
 obtain⟨r,d,e,out,H,J⟩:=c;obtain⟨F,j,u,h,z,i,D⟩:=I;dsimp only at j u h z i D;have g:d-1<a.size:=⋯
 have k:e-1<b.size:=⋯
 unfold hm;dsimp only;refine aM (b9 (getElem?_eq_getElem k) ?_);refine aM (b9 (getElem?_eq_getElem g) ?_);refine aM (FT C (v _ (fR k)) (B _ (fR g)) ?_);dsimp only
 split
 .refine aM (b9 (getElem?_eq_getElem g) ?_);have q:=oh j u h
  split
  .exact aH (.inl ⟨_,rfl,gk q⟩)
  .rename_i m;have m:¬ d-1=0:=by simpa using m
   have o:∀ x y,J9 a b N (none,d-1,e,out.push a[d-1],x,y):=λx y=>⟨rfl,q,by show 0<d-1;ext,by show d-1<=a.size;ext,z,i,by show d-1+e<=N;ext⟩
   split
   .exact aH (.inr (o _ _))
   .exact aH (o _ _)
 .refine aM (b9 (getElem?_eq_getElem k) ?_);have q:=uv j ⋯ i
  split
  .exact aH (.inl ⟨_,rfl,gJ q⟩)
  .rename_i m;have m:¬ e-1=1:=by simpa using m
   have o:∀ x y,J9 a b N (none,d,e-1,out.push b[e-1],x,y):=λx y=>⟨rfl,q,u,h,by show 1<e-1;ext,by show e-1<=b.size;ext,by show d+(e-1)<=N;ext⟩
   split
   .exact aH (.inr (o _ _))
   .exact aH (o _ _)
theorem FM.weak (h:FM a b N out d e)(hm:N<=M):FM a b M out d e:=⟨h.j,h.ha,h.ha',h.hb,h.hb',le_trans h.n hm⟩
theorem zT (C:pd prog w A s κ rk Gd)(B:∀ x∈a.toList,Gd x)(k:∀ x∈b.toList,Gd x)(y:0<a.size)(R:0<b.size):G prog w A E s κ arr p (kH a b) (iq a b):=by
 have D:JH a b #[a[a.size-1]] (a.size-1) b.size:=by
  have:JH a b #[] a.size b.size:=by
   unfold JH;rw[take_of_length_le (by simp),take_of_length_le (by simp)]
   simp
  exact oh this y (le_refl _)
 rw[oq];refine aM (qQ ?_);refine aM (b9 (getElem?_eq_getElem ⋯) ?_)
 split
 .exact aH (gk D)
 split
 .exact aH (gJ D)
 rename_i m q;have m:¬ a.size-1=0:=by simpa using m
 have q:¬ b.size=1:=by simpa using q
 refine aM (Jc λst=>?_);refine aM (dG (kl (I:=λi c=>c.1=none/\FM a b (a.size+b.size-i) c.2.2.2.1 c.2.1 c.2.2.1) (Q:=λc=>∃ r,c.1=some r/\iq a b r) ?step ?fin ⟨rfl,D,by show 0<a.size-1;ext,by show a.size-1<=a.size;ext,by show 1<b.size;ext,le_refl _,by show(a.size-1)+b.size<=_;ext⟩) ?post)
 case fin=>
  rintro c ⟨_,_,J,X,z,P,O⟩;rw[show max 0 (a.size+b.size)=a.size+b.size by ext]at O
  ext
 case post=>
  rintro⟨r,c⟩ ⟨v,g,o⟩;dsimp only at g;subst g;exact aH o
 case step=>
  rintro i ⟨r,L,M,out,mg⟩ _ hi ⟨_,I⟩;dsimp only at I ⊢;obtain⟨N,W⟩:∃ N,a.size+b.size-i=N+1:=⟨a.size+b.size-i-1,⋯⟩
  rw[W]at I;refine aM (dG (kl (I:=λx d=>J9 a b (N+1) d/\(0<x->J9 a b N d)) (Q:=Ru a b N) ?_ ?_ ⟨⟨rfl,I⟩,λh=>absurd h ⋯⟩) ?_)
  .rintro x d _ U ⟨J,z⟩;refine dG (QC C B k J) λr g=>?_
   cases r with
   |done c=>exact g
   |yield c=>exact⟨⟨g.1,g.2.weak ⋯⟩,λ_=>g⟩
  .rintro d ⟨_,z⟩;exact .inr (z ⋯)
  .rintro⟨r,L,M,out,ac,Y⟩ (⟨v,g,o⟩|⟨g,H⟩)
   .dsimp only at g;subst g;exact aH ⟨v,rfl,o⟩
   .dsimp only at g H;subst g;dsimp only;refine aM (qQ ?_);refine aM (dG (kl (I:=λx e=>P9 a b N e) (Q:=Rp a b N) ?_ ?_ ⟨rfl,H⟩) ?_)
    .rintro x e _ U ⟨F,u⟩;unfold G8
     split
     .refine dG (Ju C B k u) λr g=>?_
      cases r with
      |done c=>exact g
      |yield c=>exact g
     .refine dG (Ju C B k u) λr g=>?_
      cases r with
      |done c=>exact g
      |yield c=>exact g
    .rintro e F;exact .inr F
    .rintro⟨r,L,M,out,Z,ac,Y⟩ (⟨v,g,o⟩|⟨g,u⟩)
     .dsimp only at g;subst g;exact aH ⟨v,rfl,o⟩
     .dsimp only at g u;subst g;dsimp only;refine aM (xA (aH ⟨rfl,u.weak ⋯⟩))
end
set_option maxHeartbeats 3200000
def kk (k:Keyed->Int)(xs:Array Keyed)(i:Nat):Int:=match xs[i]? with
 |some p=>k p
 |none=>0
def Up (k:Keyed->Int)(xs:Array Keyed)(lo hi:Nat):Prop:=∀ i j,lo<=i->i<=j->j<hi->kk k xs i<=kk k xs j
def Dn (k:Keyed->Int)(xs:Array Keyed)(lo hi:Nat):Prop:=∀ i j,lo<=i->i<=j->j<hi->kk k xs j<=kk k xs i
section
variable {rk:Keyed->Int}{xs:Array Keyed}{lo hi:Nat}
theorem uz (h:i<xs.size):kk rk xs i=rk xs[i]:=by unfold kk;rw[getElem?_eq_getElem h]
theorem iH (h:xs[i]?=ys[j]?):kk rk xs i=kk rk ys j:=by unfold kk;rw[h]
structure Ar (rk:Keyed->Int) (Gd:Keyed->Prop) (n:Nat) (xs:Array Keyed):Prop where
 sz:xs.size=n
 gd:∀ x∈xs.toList,Gd x
 nd:(xs.toList.map rk).Nodup
variable {Gd:Keyed->Prop}{n:Nat}
theorem Ar.perm (h:Ar rk Gd n xs)(p:ys.toList.Perm xs.toList):Ar rk Gd n ys:=
 ⟨by have:=p.length_eq;simpa [h.sz] using this,λx a=>h.gd x (p.mem_iff.mp a),((p.map rk).nodup_iff).mpr h.nd⟩
theorem Ar.ne (h:Ar rk Gd n xs)(hi:i<n)(b:j<n)(a:i≠j):kk rk xs i≠kk rk xs j:=by
 have d:=h.sz;rw[uz ⋯,uz ⋯]
 have d:=pairwise_iff_getElem.mp h.nd
 obtain q|q:=Nat.lt_or_gt_of_ne a
 .have:=d i j (by simp;ext) (by simp;ext) q
  simpa using this
 .have:=d j i (by simp;ext) (by simp;ext) q
  simp only[getElem_map,Array.getElem_toList]at this;exact λe=>this e.symm
end
section
variable {prog:Program}{w:World}{A:Around}{E:Value->Shared->Prop}{s:Shared}{κ:SortKind}{rk:Keyed->Int}{Gd:Keyed->Prop}{n:Nat}{xs:Array Keyed}{p:Array (Nat × Nat × Nat)}{g:Nat}
theorem AS (b:pd prog w A s κ rk Gd)(a:Ar rk Gd n xs)(hi:i<n)(d:j<n)(h:Q (some (decide (kk rk xs i<kk rk xs j))) (SortSt.mk' κ xs p g none)) :
  wpS (model prog w) A E s (ltAt' i j) Q (SortSt.mk' κ xs p g none):=by
 have e:=a.sz;rw[uz ⋯,uz ⋯]at h
 exact Nn b (getElem?_eq_getElem ⋯) (getElem?_eq_getElem ⋯) (a.gd _ (by simp)) (a.gd _ (by simp)) h
theorem o7 (O:pd prog w A s κ rk Gd)(q:Ar rk Gd n xs){lo a:Nat}{Q:Option Nat->SortSt->Prop}(Z:1<=a)(hn:lo+a<=n)
  (h:∀ m y,1<=m->m<=a->y.toList.Perm xs.toList->(∀ k:Nat,k<lo->y[k]?=xs[k]?)->Up rk y lo (lo+m)->Q (some m) (SortSt.mk' κ y p g none)) :
  wpS (model prog w) A E s (countRun' lo a) Q (SortSt.mk' κ xs p g none):=by
 have u1:Up rk xs lo (lo+1):=λi j e r H=>by
  have:i=j:=⋯
  subst this;exact Int.le_refl _
 rw[countRun'_eq];dsimp only;refine wpS_bind (wpS_mono (wpS_forRange (I:=λx c d=>d=SortSt.mk' κ xs p g none/\c=(none,x)/\Up rk xs lo (lo+x))
  (Q:=λc d=>d=SortSt.mk' κ xs p g none/\∃ m,c=(none,m)/\1<=m/\m<=a/\Up rk xs lo (lo+m)/\(m=a\/kk rk xs (lo+m)<kk rk xs (lo+m-1))) ?step ?fin ⟨rfl,rfl,u1⟩) ?post)
 case fin=>
  rintro c d ⟨rfl,rfl,u⟩;rw[show max 1 a=a by ext]at u ⊢
  exact⟨rfl,a,rfl,Z,le_refl _,u,.inl rfl⟩
 case step=>
  rintro x c d F J ⟨rfl,rfl,u⟩;dsimp only;refine wpS_bind (AS O q ⋯ ⋯ ?_)
  dsimp only
  by_cases b:kk rk xs (lo+x)<kk rk xs (lo+x-1)
  .rw[decide_eq_true b,if_pos rfl];exact wpS_pure ⟨rfl,x,rfl,F,⋯,u,.inr b⟩
  .rw[decide_eq_false b,if_neg (by simp)]
   refine wpS_pure ⟨rfl,rfl,λi j e r H=>?_⟩
   by_cases D:j<lo+x
   .exact u i j e r D
   .have:j=lo+x:=⋯
    subst this
    by_cases hi:i=lo+x
    .subst hi;exact Int.le_refl _
    .have:=u i (lo+x-1) e ⋯ ⋯
     ext
 case post=>
  rintro c d ⟨rfl,m,rfl,C,v,u,R⟩;dsimp only
  by_cases W:m=a
  .rw[if_pos (by simpa using W)]
   exact wpS_pure (h m xs C v (.refl _) (λ_ _=>rfl) u)
  rw[if_neg (by simpa using W)]
  by_cases hm:m>1
  .rw[if_pos hm];refine wpS_bind (AS O q ⋯ ⋯ ?_)
   dsimp only;have b:kk rk xs lo<kk rk xs (lo+m-1):=by
    have g1:=u lo (lo+m-1) (le_refl _) ⋯ ⋯
    have Y:=q.ne (i:=lo) (j:=lo+m-1) ⋯ ⋯ ⋯
    ext
   rw[decide_eq_true b,if_pos rfl];exact wpS_pure (h m xs C v (.refl _) (λ_ _=>rfl) u)
  rw[if_neg hm];obtain rfl:m=1:=⋯
  have b:=R.resolve_left W;refine wpS_bind (wpS_lift (wpAny_rule ⟨rfl,?_⟩));have d2:Dn rk xs lo (lo+2):=λi j e r H=>by
   by_cases D:i=j
   .subst D;exact Int.le_refl _
   .obtain rfl:i=lo:=⋯
    obtain rfl:j=i+1:=⋯
    rw[add_sub_cancel]at b;ext
  refine wpS_bind (wpS_mono (wpS_forRange (I:=λx c d=>d=SortSt.mk' κ xs p g none/\c=(none,x,0)/\Dn rk xs lo (lo+x))
   (Q:=λc d=>d=SortSt.mk' κ xs p g none/\∃ m,c=(none,m,0)/\2<=m/\m<=a/\Dn rk xs lo (lo+m)) ?step ?fin ⟨rfl,rfl,d2⟩) ?post)
  case fin=>
   rintro c d ⟨rfl,rfl,hd⟩;rw[show max (1+1) a=a by ext]at hd ⊢
   exact⟨rfl,a,rfl,⋯,le_refl _,hd⟩
  case step=>
   rintro x c d F J ⟨rfl,rfl,hd⟩;dsimp only;refine wpS_bind (AS O q ⋯ ⋯ ?_)
   dsimp only
   by_cases o:kk rk xs (lo+x)<kk rk xs (lo+x-1)
   .rw[decide_eq_true o,if_pos rfl,if_neg ⋯]
    refine wpS_pure ⟨rfl,rfl,λi j e r H=>?_⟩
    by_cases D:j<lo+x
    .exact hd i j e r D
    .have:j=lo+x:=⋯
     subst this
     by_cases hi:i=lo+x
     .subst hi;exact Int.le_refl _
     .have:=hd i (lo+x-1) e ⋯ ⋯
      ext
   .rw[decide_eq_false o,if_neg (by simp)]
    refine wpS_bind (AS O q ⋯ ⋯ ?_)
    dsimp only;have hne:=q.ne (i:=lo+x) (j:=lo+x-1) ⋯ ⋯ ⋯
    rw[decide_eq_true (⋯:kk rk xs (lo+x-1)<kk rk xs (lo+x)),if_pos rfl]
    exact wpS_pure ⟨rfl,x,rfl,⋯,⋯,hd⟩
  case post=>
   rintro c d ⟨rfl,m,rfl,C,v,hd⟩;dsimp only;rw[if_neg ⋯,reverseSlice'_eq]
   refine wpS_bind (wpS_modify ?_);have U:lo+m<=xs.size:=by have:=q.sz;ext
   generalize L:mirror xs lo (lo+m) ((lo+m-lo) / 2)=y;have M:y.toList.Perm xs.toList:=by rw[<-L];exact Array.perm_iff_toList_perm.mp (mirror_perm _ _ _ _)
   have B:∀ k:Nat,y[k]?=if lo<=k/\k<lo+m then xs[lo+(lo+m)-1-k]? else xs[k]?:=λk=>by rw[<-L];exact getElem?_mirror_all U k
   have X:Up rk y lo (lo+m):=λi j e r H=>by
    have e1:kk rk y i=kk rk xs (lo+(lo+m)-1-i):=iH (by rw[B,if_pos ⟨e,⋯⟩])
    have e2:kk rk y j=kk rk xs (lo+(lo+m)-1-j):=iH (by rw[B,if_pos ⟨⋯,H⟩])
    rw[e1,e2];exact hd _ _ ⋯ ⋯ ⋯
   have P:=q.perm M;have z:∀ k:Nat,k<lo->y[k]?=xs[k]?:=λk hk=>by rw[B,if_neg ⋯]
   show wpS _ _ _ _ _ Q (SortSt.mk' κ y p g none);refine wpS_bind (wpS_mono (wpS_forRange (I:=λx c d=>d=SortSt.mk' κ y p g none/\c=(none,x)/\Up rk y lo (lo+x))
    (Q:=λc d=>d=SortSt.mk' κ y p g none/\∃ m,c=(none,m)/\1<=m/\m<=a/\Up rk y lo (lo+m)) ?_ ?_ ⟨rfl,rfl,X⟩) ?_)
   .rintro x c d F J ⟨rfl,rfl,u⟩;dsimp only;refine wpS_bind (AS O P ⋯ ⋯ ?_)
    dsimp only
    by_cases b:kk rk y (lo+x)<kk rk y (lo+x-1)
    .rw[decide_eq_true b,if_pos rfl];exact wpS_pure ⟨rfl,x,rfl,⋯,⋯,u⟩
    .rw[decide_eq_false b,if_neg (by simp)]
     refine wpS_pure ⟨rfl,rfl,λi j e r H=>?_⟩
     by_cases D:j<lo+x
     .exact u i j e r D
     .have:j=lo+x:=⋯
      subst this
      by_cases hi:i=lo+x
      .subst hi;exact Int.le_refl _
      .have:=u i (lo+x-1) e ⋯ ⋯
       ext
   .rintro c d ⟨rfl,rfl,u⟩;rw[show max m a=a by ext]at u ⊢
    exact⟨rfl,a,rfl,Z,le_refl _,u⟩
   .rintro c d ⟨rfl,m',rfl,g1,Y,u⟩;exact wpS_pure (h m' y g1 Y M z u)
theorem lh (hc:pd prog w A s κ rk Gd)(hA:Ar rk Gd n xs){lo m ok:Nat}{Q:Bool->SortSt->Prop}(hn:lo+m<=n)(hok:ok<=m)(hu:Up rk xs lo (lo+ok))
  (h:∀ y:Array Keyed,y.toList.Perm xs.toList->(∀ k:Nat,k<lo->y[k]?=xs[k]?)->Up rk y lo (lo+m)->Q true (SortSt.mk' κ y p g none)) :
  wpS (model prog w) A E s (binarySort' lo m ok) Q (SortSt.mk' κ xs p g none):=by
 rw[binarySort'_eq];refine wpS_bind (wpS_mono (wpS_forRange (I:=λk c a=>c=(none,())/\∃ y:Array Keyed,a=SortSt.mk' κ y p g none/\y.toList.Perm xs.toList/\(∀ k:Nat,k<lo->y[k]?=xs[k]?)/\Up rk y lo (lo+min k m))
  (Q:=λc a=>c=(none,())/\∃ y:Array Keyed,a=SortSt.mk' κ y p g none/\y.toList.Perm xs.toList/\(∀ k:Nat,k<lo->y[k]?=xs[k]?)/\Up rk y lo (lo+m)) ?step ?fin ?init) ?post)
 case post=>
  rintro c a ⟨rfl,y,rfl,B,C,b⟩;exact wpS_pure (h y B C b)
 case init=>
  refine⟨rfl,xs,rfl,.refl _,λ_ _=>rfl,λi j o q a3=>?_⟩
  by_cases h1:ok=0
  .have:i=j:=⋯
   subst this;exact Int.le_refl _
  .exact hu i j o q ⋯
 case fin=>
  rintro c a ⟨rfl,y,rfl,B,C,b⟩;rw[show min (max (max ok 1) m) m=m by ext]at b
  exact⟨rfl,y,rfl,B,C,b⟩
 case step=>
  rintro k c a hk1 hk2 ⟨rfl,y,rfl,B,C,b⟩;rw[show min k m=k by ext]at b
  have D:=hA.perm B;dsimp only;refine wpS_bind (wpS_mono (wpS_forRange (I:=λx c a=>a=SortSt.mk' κ y p g none/\∃ l r,c=(none,l,r)/\l<=r/\r<=k/\r-l<=k-x ∧
    (∀ i,lo<=i->i<lo+l->kk rk y i<=kk rk y (lo+k))/\(∀ i,lo+r<=i->i<lo+k->kk rk y (lo+k)<=kk rk y i))
   (Q:=λc a=>a=SortSt.mk' κ y p g none/\∃ l r,c=(none,l,r)/\l<=k ∧
    (∀ i,lo<=i->i<lo+l->kk rk y i<=kk rk y (lo+k))/\(∀ i,lo+l<=i->i<lo+k->kk rk y (lo+k)<=kk rk y i)) ?is ?ifn ?ii) ?ip)
  case ii=>exact⟨rfl,0,k,rfl,⋯,⋯,⋯,λi o q=>⋯,λi o q=>⋯⟩
  case ifn=>
   rintro c a ⟨rfl,l,r,rfl,Z,P,b3,z,v⟩;have:l=r:=⋯
   subst this;exact⟨rfl,l,l,rfl,P,z,v⟩
  case is=>
   rintro x c a _ hx ⟨rfl,l,r,rfl,Z,P,b3,z,v⟩;dsimp only
   by_cases hb:l>=r
   .rw[if_pos hb];have:l=r:=⋯
    subst this;exact wpS_pure ⟨rfl,l,l,rfl,P,z,v⟩
   .rw[if_neg hb];refine wpS_bind (AS hc D ⋯ ⋯ ?_)
    dsimp only
    by_cases H:kk rk y (lo+k)<kk rk y (lo+(l+r) / 2)
    .rw[decide_eq_true H,if_pos rfl];refine wpS_pure ⟨rfl,_,_,rfl,⋯,⋯,⋯,z,λi o q=>?_⟩
     have:=b (lo+(l+r) / 2) i ⋯ o q
     ext
    .rw[decide_eq_false H,if_neg (by simp)]
     refine wpS_pure ⟨rfl,_,_,rfl,⋯,⋯,⋯,λi o q=>?_,v⟩
     have:=b i (lo+(l+r) / 2) o ⋯ ⋯
     ext
  case ip=>
   rintro c a ⟨rfl,l,r,rfl,Z,z,v⟩;dsimp only;rw[moveDown'_eq];have U:lo+k<y.size:=by have:=D.sz;ext
   generalize u:bubble y (lo+k) (lo+k-(lo+l))=zs;have R:zs.toList.Perm y.toList:=by rw[<-u];exact Array.perm_iff_toList_perm.mp (bubble_perm _ _ _)
   have F:∀ i:Nat,zs[i]?=if i=lo+l then y[lo+k]? else if lo+l<i/\i<=lo+k then y[i-1]? else y[i]?:=λi=>by
    rw[<-u,getElem?_bubble U _ ⋯,show lo+k-(lo+k-(lo+l))=lo+l by ext]
   have M:∀ i,kk rk zs i=if i=lo+l then kk rk y (lo+k) else if lo+l<i/\i<=lo+k then kk rk y (i-1) else kk rk y i:=λi=>by
    have e:=F i
    by_cases X:i=lo+l
    .rw[if_pos X]at e ⊢;exact iH e
    .rw[if_neg X]at e ⊢
     by_cases Y:lo+l<i/\i<=lo+k
     .rw[if_pos Y]at e ⊢;exact iH e
     .rw[if_neg Y]at e ⊢;exact iH e
   refine wpS_bind (wpS_modify ?_);show wpS _ _ _ _ _ _ (SortSt.mk' κ (bubble y (lo+k) (lo+k-(lo+l))) p g none);rw[u];refine wpS_pure ⟨rfl,zs,rfl,R.trans B,λi hi=>?_,λi j o q a3=>?_⟩
   .rw[F,if_neg ⋯,if_neg ⋯];exact C i hi
   .rw[show min (k+1) m=k+1 by ext]at a3
    rw[M,M]
    by_cases J:i=lo+l
    .rw[if_pos J]
     by_cases d:j=lo+l
     .rw[if_pos d];exact Int.le_refl _
     .rw[if_neg d,if_pos ⋯]
      exact v (j-1) ⋯ ⋯
    .rw[if_neg J]
     by_cases L:lo+l<i/\i<=lo+k
     .rw[if_pos L,if_neg ⋯,if_pos ⋯]
      exact b (i-1) (j-1) ⋯ ⋯ ⋯
     .rw[if_neg L]
      by_cases d:j=lo+l
      .rw[if_pos d];exact z i o ⋯
      .rw[if_neg d]
       by_cases O:lo+l<j/\j<=lo+k
       .rw[if_pos O]
        by_cases W:i<=j-1
        .exact b i (j-1) o W ⋯
        .ext
       .rw[if_neg O];exact b i j o q ⋯
end
set_option maxHeartbeats 3200000
theorem uK (i:Nat):mergeAt' i=(do
 let s ← get
 let (some (sa,na,power),some (sb,nb,_)):=((pendingOf s)[i]?,(pendingOf s)[i+1]?) | unsupported "internal:list.sort.pending"
 set (setPending s (((pendingOf s).setIfInBounds i (sa,na+nb,power)).eraseIdxIfInBounds (i+1)))
 let some k ← du false (← elem' (arrOf s) sb) (arrOf s) sa na 0|return false
 let (sa,na):=(sa+k,na-k)
 if na == 0 then return true
 let some nb ← du true (← elem' (arrOf s) (sa+na-1)) (arrOf s) sb nb (nb-1)|return false
 if nb == 0 then return true
 let x:=(arrOf s).extract sa sb
 let y:=(arrOf s).extract sb (sb+nb)
 let merged ← if na<=nb then kI x y else kH x y
 modify λs=>setArr s (merged.toList.zipIdx.foldl (λa (p,j)=>a.setIfInBounds (sa+j) p) (arrOf s))
 return (failedOf (← get)).isNone):=rfl
theorem Ja {M:Model}{A:Around}{E:Value->Shared->Prop}{s:Shared}{σ:Type}{a:σ}{Q:PUnit->σ->Prop}{st:σ}(h:Q ⟨⟩ a):wpS M A E s (set a:StateT σ Sem PUnit) Q st:=by
 unfold wpS;rw[StateT.run_set];exact wpAny_pure ⟨rfl,h⟩
section
variable {prog:Program}{w:World}{A:Around}{E:Value->Shared->Prop}{s:Shared}{κ:SortKind}{rk:Keyed->Int}{Gd:Keyed->Prop}{n:Nat}{xs:Array Keyed}{p:Array (Nat × Nat × Nat)}{g:Nat}
theorem NJ (h:G prog w A E s κ xs p m P)(q:∀ a b,P a->wpS (model prog w) A E s (f a) Q (SortSt.mk' κ xs p b none)) :
  wpS (model prog w) A E s (m >>= f) Q (SortSt.mk' κ xs p g none):=
 wpS_bind (wpS_mono (h g) λa d hh=>by
  obtain⟨⟨b,rfl⟩,d⟩:=hh;exact q a b d)
theorem AT (hc:pd prog w A s κ rk Gd)(hA:Ar rk Gd n xs){n1 n2 pw:Nat}{Q:Bool->SortSt->Prop}(h1:1<=n1)(h2:1<=n2)(hn:n1+n2=n)
  (h:∀ (ys:Array Keyed) g',ys.toList.Perm xs.toList->Q true (SortSt.mk' κ ys #[(0,n1+n2,pw)] g' none)) :
  wpS (model prog w) A E s (mergeAt' 0) Q (SortSt.mk' κ xs #[(0,n1,pw),(n1,n2,0)] g none):=by
 have hsz:=hA.sz;rw[uK];refine wpS_bind (wpS_get ?_);dsimp only;refine wpS_bind (Ja ?_);have ep:(((#[(0,n1,pw),(n1,n2,0)]:Array (Nat × Nat × Nat)).setIfInBounds 0 (0,n1+n2,pw)).eraseIdxIfInBounds (0+1))=#[(0,n1+n2,pw)]:=by simp[Array.eraseIdxIfInBounds]
 show wpS _ _ _ _ _ Q (SortSt.mk' κ xs (((#[(0,n1,pw),(n1,n2,0)]:Array (Nat × Nat × Nat)).setIfInBounds 0 (0,n1+n2,pw)).eraseIdxIfInBounds (0+1)) g none);rw[ep];simp only[show arrOf (SortSt.mk' κ xs #[(0,n1,pw),(n1,n2,0)] g none)=xs from rfl,zero_add];have hn1:n1<xs.size:=⋯
 refine NJ (P:=(·=xs[n1])) (b9 (getElem?_eq_getElem hn1) rfl) ?_;rintro _ g1 rfl;refine NJ (P:=λr=>∃ k,r=some k/\k<=n1) (qb hc (hA.gd _ (fR hn1)) hA.gd ⋯ ⋯ λk hk=>⟨k,rfl,hk⟩) ?_
 rintro _ g2 ⟨k,rfl,hk⟩;dsimp only
 split
 .exact wpS_pure (h xs g2 (.refl _))
 rename_i hk0;have hk0:¬ n1-k=0:=by simpa using hk0
 have hkn:k+(n1-k)-1<xs.size:=⋯
 refine NJ (P:=(·=xs[k+(n1-k)-1])) (b9 (getElem?_eq_getElem hkn) rfl) ?_;rintro _ g3 rfl;refine NJ (P:=λr=>∃ t,r=some t/\t<=n2) (qb hc (hA.gd _ (fR hkn)) hA.gd ⋯ ⋯ λt ht=>⟨t,rfl,ht⟩) ?_
 rintro _ g4 ⟨t,rfl,ht⟩;dsimp only
 split
 .exact wpS_pure (h xs g4 (.refl _))
 rename_i ht0;have ht0:¬ t=0:=by simpa using ht0
 have ex:(xs.extract k n1).toList=(xs.toList.take n1).drop k:=by simp[List.drop_take]
 have ey:(xs.extract n1 (n1+t)).toList=(xs.toList.drop n1).take t:=by simp
 have gx:∀ x∈(xs.extract k n1).toList,Gd x:=λx hx=>hA.gd x (by rw[ex]at hx;exact mem_of_mem_take (mem_of_mem_drop hx))
 have gy:∀ x∈(xs.extract n1 (n1+t)).toList,Gd x:=λx hx=>hA.gd x (by rw[ey]at hx;exact mem_of_mem_drop (mem_of_mem_take hx))
 have zx:(xs.extract k n1).size=n1-k:=by simp;ext
 have zy:(xs.extract n1 (n1+t)).size=t:=by simp;ext
 have fin:∀ (m:Array Keyed) g5,iq (xs.extract k n1) (xs.extract n1 (n1+t)) m->wpS (model prog w) A E s (do
   modify λs=>setArr s (m.toList.zipIdx.foldl (λa (q:Keyed × Nat)=>a.setIfInBounds (k+q.2) q.1) (arrOf s))
   let st ← get
   pure (failedOf st).isNone) Q (SortSt.mk' κ xs #[(0,n1+n2,pw)] g5 none):=λm g5 hp=>by
  refine wpS_bind (wpS_modify (wpS_bind (wpS_get (wpS_pure ?_))));unfold iq at hp;rw[ex,ey]at hp;have hlen:m.toList.length=n1-k+t:=by
   have:=hp.length_eq;rw[List.length_append,length_drop,length_take,length_take,length_drop,length_toList,length_toList]at this;rw[length_toList];ext
  have elay:=uC m.toList 0 k xs ⋯
  rw[hlen,add_zero,show k+(n1-k+t)=n1+t by ext]at elay
  have eT:xs.toList=xs.toList.take k++((xs.toList.take n1).drop k++(xs.toList.drop n1).take t)++xs.toList.drop (n1+t):=by
   have c1:xs.toList.take k=(xs.toList.take n1).take k:=by rw[List.take_take];congr 1;ext
   rw[c1,<-List.append_assoc,take_append_drop,List.append_assoc,<-List.drop_drop,take_append_drop,take_append_drop]
  refine h _ g5 ?_;rw[elay];refine List.Perm.trans ((hp.append_left _).append_right _) ?_;rw[<-eT]
 split
 .exact NJ (zU hc gx gy ⋯ ⋯) λm g5 hm=>fin m g5 hm
 .exact NJ (zT hc gx gy ⋯ ⋯) λm g5 hm=>fin m g5 hm
end
set_option maxHeartbeats 3200000
theorem Hy (i:1<=n)(g:n<128):n<=2*minRun' n n 0/\minRun' n n 0<=n/\1<=minRun' n n 0/\(n<64->minRun' n n 0=n):=by
 obtain h|h:=lt_or_ge n 64
 .obtain⟨f,rfl⟩:∃ f,n=f+1:=⟨n-1,⋯⟩
  have e:minRun' (f+1) (f+1) 0=f+1:=by rw[minRun'_succ,if_pos h]
  rw[e];ext
 .obtain⟨f,rfl⟩:∃ f,n=f+2:=⟨n-2,⋯⟩
  have d:minRun' (f+1+1) (f+2) 0=minRun' (f+1) ((f+2) / 2) (max 0 ((f+2) % 2)):=by rw[minRun'_succ,if_neg ⋯]
  have a:minRun' (f+1) ((f+2) / 2) (max 0 ((f+2) % 2))=(f+2) / 2+max 0 ((f+2) % 2):=by rw[minRun'_succ,if_pos ⋯]
  have b:minRun' (f+2) (f+2) 0=(f+2) / 2+max 0 ((f+2) % 2):=d.trans a;rw[b];ext
section
variable {prog:Program}{w:World}{A:Around}{E:Value->Shared->Prop}{s:Shared}{κ:SortKind}{rk:Keyed->Int}{Gd:Keyed->Prop}{n:Nat}{xs:Array Keyed}
theorem xu (P:pd prog w A s κ rk Gd)(M:Ar rk Gd n xs)(h64:1<=n)(W:n<128)
  (h:∀ (y:Array Keyed) p r,y.toList.Perm xs.toList->(n<64->Up rk y 0 n)->Q () (SortSt.mk' κ y p r none)) :
  wpS (model prog w) A E s sortRuns' Q (SortSt.mk' κ xs #[] g none):=by
 rw[sortRuns'_eq];refine wpS_bind (wpS_get ?_);dsimp only;have hmr:=Hy h64 W;simp only[show(arrOf (SortSt.mk' κ xs #[] g none)).size=n from M.sz];generalize minRun' n n 0=mr at hmr;refine wpS_bind (wpS_mono (wpS_forRange
  (I:=λx c k=>(x=0/\c=(none,0)/\k=SortSt.mk' κ xs #[] g none)\/(1<=x/\∃ y:Array Keyed,∃ a,c=(none,a)/\mr<=a/\a<n/\k=SortSt.mk' κ y #[(0,a,0)] g none/\y.toList.Perm xs.toList/\Up rk y 0 a/\x=1) ∨
   (c=(none,n)/\∃ y:Array Keyed,y.toList.Perm xs.toList/\((k=SortSt.mk' κ y #[(0,n,0)] g none/\Up rk y 0 n)\/∃ a i o,1<=a/\1<=i/\a+i=n/\k=SortSt.mk' κ y #[(0,a,o),(a,i,0)] g none/\64<=n)))
  (Q:=λc k=>c=(none,n)/\∃ y:Array Keyed,y.toList.Perm xs.toList/\((k=SortSt.mk' κ y #[(0,n,0)] g none/\Up rk y 0 n)\/∃ a i o,1<=a/\1<=i/\a+i=n/\k=SortSt.mk' κ y #[(0,a,o),(a,i,0)] g none/\64<=n))
  ?step ?fin (.inl ⟨rfl,rfl,rfl⟩)) ?post)
 case fin=>
  rintro c k (⟨Z,_⟩|⟨_,_,_,_,_,_,_,_,_,Z⟩|hh)
  .ext
  .ext
  .exact hh
 case step=>
  rintro x c k _ Z (⟨rfl,rfl,rfl⟩|⟨hx1,y,a,rfl,hm,hl,rfl,C,u,rfl⟩|⟨rfl,hh⟩)
  .dsimp only;rw[if_neg ⋯]
   refine wpS_bind (o7 P M ⋯ ⋯ λm y hm1 hm2 C hk u=>?_)
   dsimp only;rw[zero_add]at u;have out:∀ (b:Array Keyed) a,mr<=a->a<=n->b.toList.Perm xs.toList->Up rk b 0 a →
     (0+1=0/\((none:Option Unit),0+a)=(none,0)/\setPending (SortSt.mk' κ b #[] g none) ((pendingOf (SortSt.mk' κ b #[] g none)).push (0,a,0))=SortSt.mk' κ xs #[] g none)\/(1<=0+1/\∃ y:Array Keyed,∃ d,((none:Option Unit),0+a)=(none,d)/\mr<=d/\d<n/\setPending (SortSt.mk' κ b #[] g none) ((pendingOf (SortSt.mk' κ b #[] g none)).push (0,a,0))=SortSt.mk' κ y #[(0,d,0)] g none/\y.toList.Perm xs.toList/\Up rk y 0 d/\0+1=1) ∨
     (((none:Option Unit),0+a)=(none,n)/\∃ y:Array Keyed,y.toList.Perm xs.toList/\((setPending (SortSt.mk' κ b #[] g none) ((pendingOf (SortSt.mk' κ b #[] g none)).push (0,a,0))=SortSt.mk' κ y #[(0,n,0)] g none/\Up rk y 0 n)\/∃ d i o,1<=d/\1<=i/\d+i=n/\setPending (SortSt.mk' κ b #[] g none) ((pendingOf (SortSt.mk' κ b #[] g none)).push (0,a,0))=SortSt.mk' κ y #[(0,d,o),(d,i,0)] g none/\64<=n)):=λb a X a2 a3 a4=>by
    obtain q|q:=lt_or_ge a n
    .exact .inr (.inl ⟨⋯,b,a,by rw[zero_add],X,q,rfl,a3,a4,rfl⟩)
    .obtain rfl:a=n:=⋯
     exact .inr (.inr ⟨by rw[zero_add],b,a3,.inl ⟨rfl,a4⟩⟩)
   by_cases v:m<mr
   .rw[if_pos v];refine wpS_bind (wpS_lift (wpAny_rule ⟨rfl,?_⟩));refine wpS_bind (lh P (M.perm C) ⋯ ⋯ (by rw[zero_add];exact u) λb e hk2 B=>?_)
    rw[if_neg (by simp)]
    refine wpS_bind (wpS_get ?_);rw[show(pendingOf (SortSt.mk' κ b #[] g none)).back?=none from rfl];dsimp only;refine wpS_bind (wpS_modify (wpS_pure ?_));rw[zero_add]at B;exact out b _ ⋯ ⋯ (e.trans C) B
   .rw[if_neg v];refine wpS_bind (wpS_get ?_);rw[show(pendingOf (SortSt.mk' κ y #[] g none)).back?=none from rfl];dsimp only;refine wpS_bind (wpS_modify (wpS_pure ?_));exact out y _ ⋯ ⋯ C u
  .dsimp only;rw[if_neg ⋯]
   have O:=M.perm C;refine wpS_bind (o7 P O ⋯ ⋯ λm b hm1 hm2 e hk2 B=>?_)
   dsimp only;have D:∀ (b:Array Keyed) (f:Nat->Option Unit × Unit->StateT SortSt Sem (ForInStep (Option Unit × Unit))) {R:Option Unit × Unit->SortSt->Prop},
     (∀ x (Y:ForInStep (Option Unit × Unit)->SortSt->Prop),Y (.done (none,())) (SortSt.mk' κ b #[(0,a,0)] g none)->wpS (model prog w) A E s (f x (none,())) Y (SortSt.mk' κ b #[(0,a,0)] g none))->R (none,()) (SortSt.mk' κ b #[(0,a,0)] g none) →
     wpS (model prog w) A E s (forIn [0:n] ((none:Option Unit),()) f) R (SortSt.mk' κ b #[(0,a,0)] g none):=λb f R hf J=>by
    refine wpS_forRange (I:=λx c k=>c=(none,())/\k=SortSt.mk' κ b #[(0,a,0)] g none) ?_ ?_ ⟨rfl,rfl⟩
    .rintro x c k _ _ ⟨rfl,rfl⟩;exact hf x _ J
    .rintro c k ⟨rfl,rfl⟩;exact J
   have out:∀ (b:Array Keyed) i o,a+i=n →
     ∃ d F pw',1<=d/\1<=F/\d+F=n/\SortSt.mk' κ b #[(0,a,o),(a,i,0)] g none=SortSt.mk' κ b #[(0,d,pw'),(d,F,0)] g none/\64<=n:=λb i o X=>
    ⟨a,i,o,⋯,⋯,X,rfl,⋯⟩
   by_cases v:m<mr
   .rw[if_pos v];refine wpS_bind (wpS_lift (wpAny_rule ⟨rfl,?_⟩));refine wpS_bind (lh P (O.perm e) ⋯ ⋯ B λL H hk3 U=>?_)
    rw[if_neg (by simp)]
    have en:min (n-a) (mr)=n-a:=⋯
    rw[en]at U ⊢;rw[show a+(n-a)=n by ext]at U
    refine wpS_bind (wpS_get ?_);rw[show(pendingOf (SortSt.mk' κ L #[(0,a,0)] g none)).back?=some (0,a,0) from rfl];dsimp only;refine wpS_bind (D L _ (λx Y J=>?_) ?_)
    .refine wpS_bind (wpS_get ?_);rw[if_neg (by show ¬ (1>1);ext)]
     exact wpS_pure J
    .refine wpS_bind (wpS_modify (wpS_bind (wpS_modify (wpS_pure ?_))));exact .inr (.inr ⟨by rw[show a+(n-a)=n by ext],L,H.trans (e.trans C),.inr (out L (n-a) _ ⋯)⟩)
   .rw[if_neg v];obtain rfl:m=n-a:=⋯
    rw[show a+(n-a)=n by ext]at B
    refine wpS_bind (wpS_get ?_);rw[show(pendingOf (SortSt.mk' κ b #[(0,a,0)] g none)).back?=some (0,a,0) from rfl];dsimp only;refine wpS_bind (D b _ (λx Y J=>?_) ?_)
    .refine wpS_bind (wpS_get ?_);rw[if_neg (by show ¬ (1>1);ext)]
     exact wpS_pure J
    .refine wpS_bind (wpS_modify (wpS_bind (wpS_modify (wpS_pure ?_))));exact .inr (.inr ⟨by rw[show a+(n-a)=n by ext],b,e.trans C,.inr (out b (n-a) _ ⋯)⟩)
  .dsimp only;rw[if_pos (le_refl _)];exact wpS_pure ⟨rfl,hh⟩
 case post=>
  rintro c k ⟨rfl,y,C,hh⟩;dsimp only;refine wpS_bind (wpS_mono (wpS_forRange
   (I:=λx c k=>c=(none,())/\∃ y:Array Keyed,y.toList.Perm xs.toList/\((∃ p r,p.size<=1/\k=SortSt.mk' κ y p r none/\(n<64->Up rk y 0 n))\/(x=0/\∃ a i o,1<=a/\1<=i/\a+i=n/\k=SortSt.mk' κ y #[(0,a,o),(a,i,0)] g none/\64<=n)))
   (Q:=λc k=>c=(none,())/\∃ y:Array Keyed,y.toList.Perm xs.toList/\∃ p r,k=SortSt.mk' κ y p r none/\(n<64->Up rk y 0 n)) ?s2 ?f2 ?i2) ?p2)
  case i2=>
   refine⟨rfl,y,C,?_⟩
   obtain⟨rfl,u⟩|hh:=hh
   .exact .inl ⟨#[(0,n,0)],g,by simp,rfl,λ_=>u⟩
   .exact .inr ⟨rfl,hh⟩
  case f2=>
   rintro c k ⟨rfl,b,e,⟨p,r,_,rfl,u⟩|⟨Z,_⟩⟩
   .exact⟨rfl,b,e,p,r,rfl,u⟩
   .ext
  case p2=>
   rintro c k ⟨rfl,b,e,p,r,rfl,u⟩;exact wpS_pure (h b p r e u)
  case s2=>
   rintro x c k _ Z ⟨rfl,b,e,⟨p,r,hp1,rfl,u⟩|⟨rfl,a,i,o,X,a2,a3,rfl,a4⟩⟩
   .refine wpS_bind (wpS_get ?_);rw[if_pos (show(pendingOf (SortSt.mk' κ b p r none)).size<=1 from hp1)];exact wpS_pure ⟨rfl,b,e,p,r,rfl,u⟩
   .refine wpS_bind (wpS_get ?_);rw[if_neg (show ¬ ((pendingOf (SortSt.mk' κ b #[(0,a,o),(a,i,0)] g none)).size<=1) by show ¬ (2<=1);ext)]
    refine wpS_bind ?_;show wpS (model prog w) A E s (mergeAt' 0) _ _;refine AT P (M.perm e) X a2 a3 λL r H=>?_;rw[if_neg (by simp)]
    exact wpS_pure ⟨rfl,L,H.trans e,.inl ⟨#[(0,a+i,o)],r,by simp,rfl,λz=>⋯⟩⟩
end
set_option maxHeartbeats 3200000
theorem perm_up:∀ (ms:List α) (l:List β),List.Perm l (ms.map f)->∃ d,List.Perm d ms/\l=d.map f
 | [],l,h=>⟨[],.refl _,by simpa using h⟩
 |m::ms,l,h=>by
  rw[map_cons]at h;obtain⟨g,i,rfl⟩:=List.append_of_mem (h.mem_iff.mpr mem_cons_self);have k:List.Perm (g++i) (ms.map f):=List.Perm.cons_inv (a:=f m) (List.perm_middle.symm.trans h);obtain⟨d,p,e⟩:=perm_up ms _ k;obtain⟨a,b,rfl,g,d⟩:=List.append_eq_map_iff.mp e;refine⟨a++m::b,List.perm_middle.trans (List.Perm.cons m p),?_⟩;rw[map_append,map_cons,g,d]
theorem BE:∀ l:List Nat,(∀ x∈l,p x=true->q x=true)->l.countP p<=l.countP q:=λl h=>countP_mono_left h
theorem BF:∀ l:List Nat,(∀ x∈l,p x=true->q x=true)->∀ y∈l,p y=false->q y=true->l.countP p<l.countP q
 | [],_,y,a,_,_=>absurd a not_mem_nil
 |x::l,h,y,a,b,d=>by
  rw[countP_cons,countP_cons];have e:=BE l λz hz=>h z (mem_cons_of_mem _ hz)
  obtain rfl|a:=mem_cons.mp a
  .rw[b,d];simp;ext
  .have:=BF l (λz hz=>h z (mem_cons_of_mem _ hz)) y a b d;have b:=h x mem_cons_self
   cases a:p x with
   |false=>simp;split <;> ext
   |true=>rw[b a];simp;ext
section
variable {prog:Program}{w:World}{A:Around}{E:Value->Shared->Prop}{s:Shared}{κ:SortKind}
theorem w_run {vs:List Value}{lt:Nat->Nat->Bool}(D:1<=vs.length)(v:vs.length<128)
  (o:∀ i j,i<vs.length->j<vs.length->vs.getD i Value.none=vs.getD j Value.none->i=j)
  (J:∀ i,lt i i=false) (P:∀ i j k,lt i j=true->lt j k=true->lt i k=true) (L:∀ i j k,lt i k=true->lt i j=true\/lt j k=true)
  (r:∀ i j,i<vs.length->j<vs.length->lt i j=false->lt j i=false->i=j)
  (u:∀ i j,i<vs.length->j<vs.length->∀ Q:Bool->Shared->Prop,Q (lt i j) s->wpAny (model prog w) A (keyLt' κ (vs.getD i Value.none) (vs.getD j Value.none)) Q (λ_ _=>False) s) :
  wpS (model prog w) A E s sortRuns' (λ_ R=>∃ p:Array Nat,arrOf R=p.map (λi=>(vs.getD i Value.none,vs.getD i Value.none))/\failedOf R=none/\List.Perm p.toList (List.range vs.length) ∧
   (vs.length<64->∀ i j,i<=j->j<vs.length->lt (p.getD j 0) (p.getD i 0)=false)) (SortSt.mk' κ (vs.toArray.zip vs.toArray) #[] 7 none):=by
 generalize H:vs.length=n at D v o r u
 classical
 let a:Nat->Keyed:=λi=>(vs.getD i Value.none,vs.getD i Value.none)
 let z:Nat->Int:=λi=>((List.range n).countP λj=>lt j i:Nat)
 let M:Keyed->Int:=λx=>if h:∃ i,i<n/\a i=x then z (Classical.choose h) else 0
 have d:∀ i j,i<n->j<n->a i=a j->i=j:=λi j hi b e=>o i j hi b (congrArg Prod.fst e);have m:∀ i,i<n->M (a i)=z i:=λi hi=>by
  have B:∃ j,j<n/\a j=a i:=⟨i,hi,rfl⟩;show(if h:∃ j,j<n/\a j=a i then z (Classical.choose h) else 0)=z i
  rw[dif_pos B];have g:=Classical.choose_spec B;rw[d _ _ g.1 hi g.2]
 have g:∀ i j,i<n->lt i j=decide (z i<z j):=λi j hi=>by
  cases hb:lt i j with
  |true=>
   have:=BF (p:=λk=>lt k i) (q:=λk=>lt k j) (List.range n) (λk _ O=>P k i j O hb) i (by simpa using hi) (J i) hb
   exact(decide_eq_true (by show((_:Nat):Int)<((_:Nat):Int);ext)).symm
  |false=>
   have:=BE (p:=λk=>lt k j) (q:=λk=>lt k i) (List.range n) (λk _ O=>(L k i j O).resolve_right (by rw[hb];simp))
   exact(decide_eq_false (by show ¬ (((_:Nat):Int)<((_:Nat):Int));ext)).symm
 let F:Keyed->Prop:=λx=>∃ i,i<n/\x=a i
 have U:pd prog w A s κ M F:=by
  rintro x y ⟨i,hi,rfl⟩ ⟨j,b,rfl⟩ Q C;rw[m i hi,m j b,<-g i j hi]at C;exact u i j hi b Q C
 have d:(vs.toArray.zip vs.toArray).toList=(List.range n).map a:=by
  apply ext_getElem?;intro i
  obtain h|h:=lt_or_ge i n
  .have I:i<vs.length:=⋯
   simp[h,a,I]
  .have I:vs.length<=i:=⋯
   simp[h,I]
 have R:Ar M F n (vs.toArray.zip vs.toArray):=by
  refine⟨by simp[H],λx B=>?_,?_⟩
  .rw[d]at B;obtain⟨i,hi,rfl⟩:=mem_map.mp B;exact⟨i,by simpa using hi,rfl⟩
  .rw[d,map_map];have e:(List.range n).map (M ∘ a)=(List.range n).map z:=map_congr_left λi hi=>m i (by simpa using hi)
   rw[e];refine pairwise_map.mpr (List.Pairwise.imp_of_mem (λ{i j} hi b B e=>?_) List.nodup_range);have F:i<n:=by simpa using hi
   have H:j<n:=by simpa using b
   refine B (r i j F H ?_ ?_)
   .rw[g i j F];exact decide_eq_false ⋯
   .rw[g j i H];exact decide_eq_false ⋯
 refine xu U R D v λH p F F R=>?_;rw[d]at F;obtain⟨q,C,e⟩:=perm_up _ _ F;have d:q.length=n:=by rw[C.length_eq,length_range]
 refine⟨q.toArray,?_,rfl,by simpa using C,λF i j B b=>?_⟩
 .show H=_;apply Array.toList_inj.mp;rw[e];simp[a]
 .have hi:i<n:=⋯
  have U:H.size=n:=by rw[<-length_toList,e,length_map,d]
  have I:=R F i j (zero_le _) B b;have at_:∀ k (O:k<n),kk M H k=z (q[k]'⋯)/\q[k]'⋯<n:=λk O=>by
   have hm:q[k]'⋯<n:=by simpa using C.mem_iff.mp (getElem_mem (⋯:k<q.length))
   refine⟨?_,hm⟩;rw[uz ⋯]
   have z:H[k]'⋯=a (q[k]'⋯):=by
    have:H.toList[k]'(by simp;ext)=(q.map a)[k]'(by simp;ext):=by simp only[e]
    simpa using this
   rw[z,m _ hm]
  rw[(at_ i hi).1,(at_ j b).1]at I;have m:q.toArray.getD i 0=q[i]'⋯:=by simp[Array.getD,d,hi]
  have a:q.toArray.getD j 0=q[j]'⋯:=by simp[Array.getD,d,b]
  rw[m,a,g _ _ (at_ j b).2];exact decide_eq_false ⋯
end
end SR
set_option maxHeartbeats 3200000
namespace ST
open PySem PySem.W PyProof.Rows
def lexB:List Int->List Int->Bool
 | [],[]=>false
 | [],_::_=>true
 |_::_,[]=>false
 |a::x,b::y=>if a=b then lexB x y else decide (a<b)
theorem gM:∀ a,lexB a a=false
 | []=>rfl
 |a::x=>by simp[lexB,gM x]
theorem qg:∀ a b c,lexB a b=true->lexB b c=true->lexB a c=true
 | [],[],c,d,h=>h
 | [],_::_,[],d,h=>by simp[lexB]at h
 | [],_::_,_::_,d,h=>rfl
 |_::_,[],c,d,h=>by simp[lexB]at d
 |_::_,_::_,[],d,h=>by simp[lexB]at h
 |a::x,b::y,c::z,d,h=>by
  simp only[lexB]at d h ⊢
  by_cases g:a=b
  .subst g
   by_cases e:a=c
   .subst e;simp only[if_true]at d h ⊢;exact qg x y z d h
   .simp only[if_true,e,if_false]at d h ⊢;exact h
  .by_cases e:b=c
   .subst e;simp only[g,if_false,if_true]at d h ⊢;exact d
   .simp only[g,e,if_false,decide_eq_true_eq]at d h ⊢;have:a≠c:=⋯
    simp only[this,if_false,decide_eq_true_eq];ext
theorem yn:∀ a b c,lexB a c=true->lexB a b=true\/lexB b c=true
 | [],[],c,h=>.inr h
 | [],_::_,c,h=>.inl rfl
 |_::_,b,[],h=>by simp[lexB]at h
 |_::_,[],_::_,h=>.inr rfl
 |a::x,b::y,c::z,h=>by
  simp only[lexB]at h ⊢
  by_cases d:a=b
  .subst d
   by_cases e:a=c
   .subst e;simp only[if_true]at h ⊢;exact yn x y z h
   .simp only[e,if_false]at h ⊢;exact .inr h
  .by_cases e:b=c
   .subst e;simp only[d,if_false]at h ⊢;exact .inl h
   .simp only[d,e,if_false,decide_eq_true_eq]at h ⊢
    by_cases g:a=c
    .subst g;ext
    .simp only[g,if_false,decide_eq_true_eq]at h;ext
theorem lM:∀ a b,lexB a b=false->lexB b a=false->a=b
 | [],[],_,_=>rfl
 | [],_::_,h,_=>by simp[lexB]at h
 |_::_,[],_,h=>by simp[lexB]at h
 |a::x,b::y,d,g=>by
  simp only[lexB]at d g
  by_cases e:a=b
  .subst e;simp only[if_true]at d g;rw[lM x y d g]
  .have i:b≠a:=λh=>e h.symm;simp only[e,i,if_false,decide_eq_false_iff_not]at d g;ext
def Bc (key:Nat->List Int)(p:Array Nat)(n:Nat):Prop:=∀ i j,i<=j->j<n->lexB (key (p.getD j 0)) (key (p.getD i 0))=false
section
variable {prog:Program}{w:World}{A:Around}{E:Value->Shared->Prop}{s:Shared}
theorem Dp:∀ (a ls:List Int) (x y:List Value) (i:Nat),ItemsAre (ik prog w) a x->ItemsAre (ik prog w) ls y->a.length=ls.length->Q (lexB a ls) s →
  KatLex prog w A b false Q (x.zip y) i s
 |_,_,_,_,i,.nil,.nil,_,h=>h
 |_,_,_,_,i,.nil,.cons _ _,e,h=>by simp at e
 |_,_,_,_,i,.cons _ _,.nil,e,h=>by simp at e
 |_,_,_,_,i,.cons (k:=k) (v:=v) (ks:=a) (vs:=vs) h1 h2,.cons (k:=k') (v:=v') (ks:=ks') (vs:=vs') h3 h4,e,h=>by
  obtain⟨t,rfl⟩:=Value.isInt_shape h1;obtain⟨d,rfl⟩:=Value.isInt_shape h3;refine kat_cons (wpAny_eqBool_int ?_)
  by_cases d:k=k'
  .subst d;rw[beq_self_eq_true];refine kat_yes (Dp a ks' vs vs' (i+1) h2 h4 (by simpa using e) ?_)
   simpa [lexB] using h
  .rw[beq_eq_false_iff_ne.mpr d];refine kat_no ?_;have a:Q (decide (k<k')) s:=by simpa [lexB,d] using h
   cases hb:(b && i == 0) with
   |true=>exact oneLt_int a
   |false=>exact kat_one _ _ (wpAny_lt_int a)
theorem y0:∀ (d:List Value) (a:Nat->Addr × List Int),(∀ i,i<d.length->d.getD i Value.none=.ref (a i).1/\IsTupleKey (ik prog w) h (a i).2 (a i).1/\0<(a i).2.length) →
  ∃ fs,KatTups h d fs/\fs.length=d.length/\∀ v∈fs,∃ k t,v=Value.int k t
 | [],a,_=>⟨[],.nil,rfl,λv z=>absurd z not_mem_nil⟩
 |v::d,a,p=>by
  obtain⟨fs,g,y,x⟩:=y0 d (λi=>a (i+1)) λi hi=>by
   have:=p (i+1) (by simpa using hi)
   simpa using this
  obtain⟨e,⟨o,items,m,q,r,hd,hi⟩,b⟩:=p 0 (by simp)
  have d:v=.ref (a 0).1:=by simpa using e
  subst d;generalize (a 0).2=kk at hi b;obtain⟨k,t,rest,d⟩:∃ k t rest,items.toList=Value.int k t::rest:=by
   generalize items.toList=il at hi
   cases hi with
   |nil=>simp at b
   | @cons k v _ vs' g _=>
    obtain⟨t,rfl⟩:=Value.isInt_shape g;exact⟨k,t,vs',rfl⟩
  refine⟨Value.int k t::fs,.cons q r hd (f:=Value.int k t) ?_ g,by simp[y],λu a=>?_⟩
  .rw[<-getElem?_toList,d];rfl
  .rcases mem_cons.mp a with rfl|a
   .exact⟨k,t,rfl⟩
   .exact x u a
theorem Az:∀ a:List Value,a.length<2->(a.toArray.zip a.toArray).map (·.2)=((List.range a.length).toArray.toList.map λi=>a.getD i Value.none).toArray
 | [],_=>by simp
 | [v],_=>by simp[range_succ]
 |_::_::_,h=>absurd h (by simp only[length_cons];ext)
theorem qe:∀ {a ls:List Int}{x:List Value},ItemsAre (ik prog w) a x->ItemsAre (ik prog w) ls x->a=ls
 |_,_,_,.nil,.nil=>rfl
 |_,_,_,.cons (k:=k) (v:=v) (ks:=a) (vs:=vs) h1 h2,.cons (k:=k') (ks:=ks') h3 h4=>by
  obtain⟨a,a⟩:=Value.isInt_shape h3;obtain⟨t,e⟩:=Value.isInt_shape h1;rw[e]at a;rw[qe h2 h4,(Value.int.inj a).1]
theorem Hi (g:IsTupleKey (ik prog w) h ks a)(p:IsTupleKey (ik prog w) h ls a):ks=ls:=by
 obtain⟨o,i,m,k,b,hd,hi⟩:=g;obtain⟨b,i,b,d,b,b,e⟩:=p;rw[k]at d;obtain rfl:=Option.some.inj d;rw[hd]at b;obtain⟨rfl,_⟩:=Data.seq.inj b;exact qe hi e
theorem Ft {a:Addr}{n d:Nat}{vs:List Value}{km:Nat->Addr × List Int}{P:PySem.Fin->Shared->Prop} (M:s.heap.get? a=some (seqObj "list" vs.toArray n)) (W:vs.length<128/\∀ i j,i<vs.length->j<vs.length->(km i).2=(km j).2->i=j) (hd0:0<d)
  (hk:∀ i,i<vs.length->vs.getD i Value.none=.ref (km i).1/\IsTupleKey (ik prog w) s.heap (km i).2 (km i).1/\(km i).2.length=d)
  (h:∀ h' (p:Array Nat) e,(∀ b o,b≠a->s.heap.get? b=some o->h'.get? b=some o)->h'.get? a=some (seqObj "list" (p.toList.map λi=>vs.getD i Value.none).toArray e) →
   List.Perm p.toList (List.range vs.length)->(vs.length<64->Bc (λi=>(km i).2) p vs.length)->P (.done (.ret .none)) {s with heap:=h'}) :
  wpAny (model prog w) A (Builtin.«list.sort» ⟨[.ref a],[]⟩) P E s:=by
 have ha:a<s.heap.objs.size:=Heap.lt_size M;have g:=Heap.SameBut.update s.heap a (Obj.mapSeq λ_=>(#[]:Array Value));obtain⟨J,B⟩:∃ J,(s.heap.update a (Obj.mapSeq λ_=>(#[]:Array Value))).get? a=some (seqObj "list" #[] J):=⟨_,get?_update_seq M λ_=>#[]⟩;generalize x:((s.heap.update a (Obj.mapSeq λ_=>(#[]:Array Value))).push (seqObj "tuple" vs.toArray 0)).push (seqObj "list" #[] 0)=m;have I:∀ b o,b≠a->s.heap.get? b=some o->m.get? b=some o:=λb o hb e=>by
  rw[<-x];exact Heap.get?_push_of_some _ (Heap.get?_push_of_some _ ((g.2 b hb).trans e))
 have O:m.get? a=some (seqObj "list" #[] J):=by rw[<-x];exact Heap.get?_push_of_some _ (Heap.get?_push_of_some _ B)
 have g:∀ i,i<vs.length->vs.getD i Value.none=.ref (km i).1/\IsTupleKey (ik prog w) m (km i).2 (km i).1/\(km i).2.length=d:=λi hi=>by
  obtain⟨F,⟨L,items,Q,q,y,D,H⟩,x3⟩:=hk i hi;refine⟨F,⟨L,items,Q,I _ L (λe=>?_) q,y,D,H⟩,x3⟩;rw[e,M]at q;obtain rfl:=Option.some.inj q;exact absurd y (by simp[seqObj])
 have Q:∀ p:Array Nat,List.Perm p.toList (List.range vs.length)->(vs.length<64->Bc (λi=>(km i).2) p vs.length)->∃ e,
   (m.update a (Obj.mapSeq λ_=>(p.toList.map λi=>vs.getD i Value.none).toArray)).get? a=some (seqObj "list" (p.toList.map λi=>vs.getD i Value.none).toArray e) ∧
   P (.done (.ret .none)) {s with heap:=m.update a (Obj.mapSeq λ_=>(p.toList.map λi=>vs.getD i Value.none).toArray)}:=λp U hs=>by
  have R:=get?_update_seq O λ_=>(p.toList.map λi=>vs.getD i Value.none).toArray;exact⟨_,R,h _ p _ (λb o hb e=>((Heap.SameBut.update m a _).2 b hb).trans (I b o hb e)) R U hs⟩
 rw[list_sort_plain];refine wpAny_bind (listItems_at M rfl ?_);refine wpAny_bind (listUpdate_at M rfl ?_ (by rw[size_toArray,sizeLine_eq];ext) (zero_le _))
 refine wpAny_bind (seqEpoch_at B rfl ?_);refine wpAny_bind (wpAny_newTuple ?_ (by show vs.length<=_;rw[sizeLine_eq];ext))
 refine wpAny_bind (wpAny_newList ?_ (zero_le _));refine wpAny_holding ?_;show wpAny (model prog w) A _ P E {s with heap:=((s.heap.update a (Obj.mapSeq λ_=>(#[]:Array Value))).push (seqObj "tuple" vs.toArray 0)).push (seqObj "list" #[] 0)};rw[x];dsimp only
 by_cases y:vs.toArray.size<2
 .rw[if_pos y,if_pos y];refine wpAny_bind (wpAny_pure ?_);rw[StateT.run_pure];refine wpAny_bind (wpAny_pure ?_);dsimp only;have q:(arrOf (SortSt.mk' general' (vs.toArray.zip vs.toArray) #[] 7 none)).map (·.2)=((List.range vs.length).toArray.toList.map λi=>vs.getD i Value.none).toArray:=by
   exact Az vs (by simpa using y)
  obtain⟨e,R,hP⟩:=Q (List.range vs.length).toArray (.refl _) (λ_ i j L B=>by
   have x:vs.length<2:=by simpa using y
   have:i=j:=⋯
   subst this;exact gM _)
  rw[q];refine wpAny_bind (seqEpoch_at O rfl ?_);refine wpAny_bind (listUpdate_at O rfl ?_ (zero_le _) (by simp[sizeLine_eq];ext))
  simp only[bne_self_eq_false,Bool.false_eq_true,if_false];exact wpAny_pure hP
 .rw[if_neg y,if_neg y];have x:2<=vs.length:=by simpa using y
  obtain⟨fs,D,x,x⟩:=y0 (prog:=prog) (w:=w) (h:=m) vs km λi hi=>⟨(g i hi).1,(g i hi).2.1,by rw[(g i hi).2.2];exact hd0⟩
  refine wpAny_bind (kat_kind (T:=.type "int") D ⋯ (λv D=>by
   obtain⟨k,t,rfl⟩:=x v D;exact Looks.of_pure rfl) ⋯ ?_)
  have cmp:∀ i j,i<vs.length->j<vs.length->∀ C:Bool->Shared->Prop,C (lexB (km i).2 (km j).2) {s with heap:=m} →
    wpAny (model prog w) A (keyLt' (tuples' (Value.type "int" != Value.type "tuple")) (vs.getD i Value.none) (vs.getD j Value.none)) C (λ_ _=>False) {s with heap:=m}:=λi j hi B C hC=>by
   obtain⟨F,⟨x,it1,x,x,D,Y,H⟩,x3⟩:=g i hi;obtain⟨y1,⟨D,X,D,D,I,hd2,I⟩,y3⟩:=g j B;rw[F,y1];have Z:decide (it1.size<X.size)=false:=by
    have J:=H.length;have X:=I.length;simp only[length_toList]at J X;simp only[decide_eq_false_iff_not];ext
   refine kat_lt x Y D hd2 ?_;rw[Z];exact Dp _ _ _ _ 0 H I (x3.trans y3.symm) hC
  have run:wpAny (model prog w) A (sortRuns'.run (SortSt.mk' (tuples' (Value.type "int" != Value.type "tuple")) (vs.toArray.zip vs.toArray) #[] 7 none))
    (λr I=>∃ p:Array Nat,arrOf r.2=p.map (kas_item (vs.toArray.zip vs.toArray))/\failedOf r.2=none/\I={s with heap:=m}/\List.Perm p.toList (List.range vs.length)/\(vs.length<64->Bc (λi=>(km i).2) p vs.length)) E {s with heap:=m}:=by
   .obtain⟨H,x⟩:=W;have D:∀ i j,i<vs.length->j<vs.length->vs.getD i Value.none=vs.getD j Value.none->i=j:=λi j hi B e=>by
     refine x i j hi B ?_;obtain⟨F,J,_⟩:=g i hi;obtain⟨y1,X,_⟩:=g j B;rw[F,y1]at e;rw[Value.ref.inj e]at J;exact Hi J X
    refine wpAny_mono (SR.w_run (s:={s with heap:=m}) (lt:=λi j=>lexB (km i).2 (km j).2) ⋯ H D (λi=>gM _) (λi j k=>qg _ _ _) (λi j k=>yn _ _ _) (λi j hi B g y=>x i j hi B (lM _ _ g y)) cmp) ?_ λ_ _ e=>e
    rintro⟨u,x⟩ I ⟨rfl,p,g,y,m,D⟩;refine⟨p,?_,y,rfl,m,λz i j L B=>D z i j L B⟩;rw[g];apply Array.toList_inj.mp;rw[Array.toList_map,Array.toList_map];exact map_congr_left λi _=>(kat_item rfl i).symm
  refine wpAny_bind (wpAny_mono run ?_ λ_ _ e=>e)
  .rintro⟨⟨⟩,x⟩ I ⟨p,g,m,rfl,U,hs⟩;dsimp only;obtain⟨e,R,hP⟩:=Q p U hs;have q:=kat_snds (ks:=vs) (vs:=vs) rfl g;rw[q];refine wpAny_bind (seqEpoch_at O rfl ?_);refine wpAny_bind (listUpdate_at O rfl ?_ (zero_le _) (by
    rw[size_toArray,length_map,U.length_eq,length_range,sizeLine_eq];ext))
   rw[m];simp only[bne_self_eq_false,Bool.false_eq_true,if_false];exact wpAny_pure hP
end
set_option maxHeartbeats 3200000
section
variable {prog:Program}{w:World}{A:Around}{E:Value->Shared->Prop}{s:Shared}{o:Obj}{es:Array (Int × Value)}{ep:Nat}{t:SetTable}{S:Addr}
theorem C6 (e:s.TypeIs (.ref S) "set") (h:Q false s):wpAny (model prog w) A (Builtin.List.listLengthHint (.ref S)) Q E s:=by
 unfold Builtin.List.listLengthHint;refine wpAny_bind (wpAny_specialOf e F.slot_set_len.lookup ?_);generalize d:("set.__len__":String)=id0
 wp_delta
 rw[show splitId id0=some ("set","__len__") from by subst d;decide +kernel]
 subst d;refine wpAny_bind (wpAny_isInstance (T:="set") (b:=true) e sub_set_self ?_);refine wpAny_ite_split (λa=>absurd a ⋯) (λ_=>?_)
 refine wpAny_ite_split (λ_=>?_) (λa=>absurd (by decide +kernel) a)
 refine wpAny_bind (wpAny_typeOf e ?_);exact wpAny_pure h
theorem wz {b:List Value}{a:Array Value}(h:ItemsOf (λi v=>b[i]?=some v) a b.length):a=b.toArray:=by
 obtain⟨k,d⟩:=h;have e:a.toList=b:=by
  apply ext_getElem?;intro i
  by_cases hi:i<a.size
  .have g:=d i a[i] (getElem?_eq_getElem hi);rw[getElem?_toList,getElem?_eq_getElem hi,g]
  .rw[getElem?_eq_none (by simpa using le_of_not_lt hi),getElem?_eq_none (by rw[<-k];exact le_of_not_lt hi)]
 rw[<-e]
theorem t6 {Q:List Value->Shared->Prop}(hh:A.handled=none)(W:jR w o es ep t)(u:s.heap.get? S=some o)(hz:es.size<=76)
  (h:∀ r v,(∀ b o,s.heap.get? b=some o->r.get? b=some o)->s.heap.objs.size<=r.objs.size->Q (dg w S ep es) {s with heap:=r,toks:=v}) :
  wpAny (model prog w) A (collect (.ref S)) Q E s:=by
 have d:S<s.heap.objs.size:=Heap.lt_size u;unfold collect;refine wpAny_bind (wpAny_runValue (codeAny_builtin entry_proto_collect' ?_));show wpAny _ _ (newList [] >>= λl=>again (.builtin "list.__iadd__" ⟨[l,.ref S],[]⟩)) _ _ s;refine wpAny_bind (wpAny_newList (wpAny_pure ⟨Code.quiet_builtin _ (by decide +kernel),codeAny_builtin entry_list_iadd' ?_⟩))
 show wpAny _ _ (Builtin.List.listExtendWith (.ref s.heap.objs.size) (.ref S) (.ref s.heap.objs.size)) _ _ {s with heap:=s.heap.push (seqObj "list" #[] 0)};have a:(s.heap.push (seqObj "list" #[] 0)).get? S=some o:=Heap.get?_push_of_some _ u;have g:Shared.TypeIs {s with heap:=s.heap.push (seqObj "list" #[] 0)} (.ref S) "set":=⟨o,a,W.ex.1⟩;unfold Builtin.List.listExtendWith;refine wpAny_bind (wpAny_typeOf g ?_);have k:Builtin.List.listSameRef (.ref s.heap.objs.size) (.ref S)=false:=by
  have:s.heap.objs.size≠S:=ne_of_gt d;simp[Builtin.List.listSameRef,this]
 have g:(Value.type "set" == Value.type "list")=false:=⋯
 have i:(Value.type "set" == Value.type "tuple")=false:=⋯
 simp only[k,g,i,Bool.or_false,Bool.false_eq_true,if_false];refine wpAny_bind (vq W a ?_);generalize i:({cls:=.type "set_iterator",data:=.fields #[rawInt (0:Nat),rawInt (0:Nat),.ref S,rawInt es.size,rawInt ep]}:Obj)=io;have g:(s.heap.push (seqObj "list" #[] 0)).objs.size=s.heap.objs.size+1:=size_push' ..;dsimp only;rw[g];have m:((s.heap.push (seqObj "list" #[] 0)).push io).get? S=some o:=Heap.get?_push_of_some _ a;refine wpAny_bind (wpAny_holding (C6 ⟨o,m,W.ex.1⟩ ?_));refine wpAny_ite_split (λ_=>?_) (λa=>absurd (by decide +kernel) a)
 refine wpAny_bind (wpAny_rule ?_);have a:((s.heap.push (seqObj "list" #[] 0)).push io).get? s.heap.objs.size=some (seqObj "list" #[] 0):=Heap.get?_push_of_some _ (Heap.get?_push_size _ rfl);unfold Builtin.List.listTouch;refine wpAny_bind (wpAny_bind (listUpdate_at a rfl ?_ (zero_le _) (by simp[sizeLine_eq])))
 have k:=get?_update_seq a (·.push Value.none);refine listUpdate_at (s:={s with heap:=((s.heap.push (seqObj "list" #[] 0)).push io).update s.heap.objs.size (Obj.mapSeq (·.push Value.none))}) k rfl ?_ (by simp[sizeLine_eq]) (by simp[sizeLine_eq])
 have a:=get?_update_seq k (·.pop);generalize k:(((s.heap.push (seqObj "list" #[] 0)).push io).update s.heap.objs.size (Obj.mapSeq (·.push Value.none))).update s.heap.objs.size (Obj.mapSeq (·.pop))=h4 at a ⊢;obtain⟨p,a⟩:∃ p,h4.get? s.heap.objs.size=some (seqObj "list" #[] p):=⟨_,a⟩;have q:∀ b o,b≠s.heap.objs.size->((s.heap.push (seqObj "list" #[] 0)).push io).get? b=some o->h4.get? b=some o:=λb o hb e=>by
  rw[<-k];exact((Heap.SameBut.update _ _ _).2 b hb).trans (((Heap.SameBut.update _ _ _).2 b hb).trans e)
 have k:h4.get? (s.heap.objs.size+1)=some io:=q _ _ (Nat.succ_ne_self _) (by
  have:=Heap.get?_push_size (s.heap.push (seqObj "list" #[] 0)) (o:=io) (by rw[<-i];rfl)
  rwa [g]at this)
 have r:S≠s.heap.objs.size+1:=ne_of_lt (lt_succ_of_lt d);have g:s.heap.objs.size∉[s.heap.objs.size+1,S]:=λhm=>by
  obtain e|hm:=mem_cons.mp hm
  .exact ne_of_lt (lt_succ_self _) e
  .exact ne_of_gt d (mem_singleton.mp hm)
 refine wpAny_pure ⟨plainId_quiet F.plain_extend_loop _,?_⟩;refine codeAny_extend_loopS ((AU (by simp[hh]) W r).toS) (by rw[sizeLine_eq];ext) s.heap.objs.size g _ es.size 0 _ #[] p rfl (zero_le _)
  ⟨0,⟨_,k,by rw[<-i],by rw[<-i]⟩,λ_=>vO W.ris,q S o (ne_of_lt d) m⟩ a (ItemsOf.nil _) λi g a hm d k=>?_
 have a:g=(dg w S ep es).toArray:=wz (by rw[o8 W];exact k)
 subst a;have key:∀ b o,s.heap.get? b=some o->i.heap.get? b=some o:=λb o e=>by
  have hb:b<s.heap.objs.size:=Heap.lt_size e;refine hm.heap b o (λm=>?_) (q b o (ne_of_lt hb) (Heap.get?_push_of_some _ (Heap.get?_push_of_some _ e)))
  obtain a|m:=mem_cons.mp m
  .exact ne_of_lt hb a
  .exact ne_of_lt (lt_succ_of_lt hb) (mem_singleton.mp m)
 rw[Moved.eq_with hm];show wpAny (model prog w) A (load s.heap.objs.size >>= λo=>match o.data with
   | .seq x _=>pure x.toList
   |_=>unsupported "internal:collect") Q E {s with heap:=i.heap,toks:=i.toks}
 refine wpAny_bind (wpAny_load d ?_);exact wpAny_pure (h i.heap i.toks key (Nat.le_of_lt (Heap.lt_size d)))
theorem AC {α β:Type}{f:α->β}(ms:List α)(l:List β)(h:List.Perm l (ms.map f)):∃ m,List.Perm m ms/\l=m.map f:=SR.perm_up ms l h
theorem uG (l:List α)(d:α):(List.range l.length).map (λi=>l.getD i d)=l:=by
 apply ext_getElem?;intro i;rw[getElem?_map]
 obtain h|h:=lt_or_ge i l.length
 .simp[h]
 .simp[h]
theorem call_sorted_set (hh:A.handled=none)(Y:dV prog w s.heap S ms)(P:ms.length<=76)(J:0<d)(hd:∀ m∈ms,m.2.length=d)
  (h:∀ y B D e (ns:List (Addr × List Int)),List.Perm ns ms->(ns.map (·.2)).Nodup->(ms.length<64->ns.Pairwise (λa b=>lexB a.2 b.2=true))->(∀ b o,s.heap.get? b=some o->y.get? b=some o)->s.heap.objs.size<=D →
   y.get? D=some (seqObj "list" (ns.map λm=>Value.ref m.1).toArray e)->Q (.ref D) {s with heap:=y,toks:=B}) :
  wpAny (model prog w) A (call (.builtin "sorted") [.ref S]) Q E s:=by
 obtain⟨o,es,ep,t,g,r,q,k,T,R,H,z,g⟩:=Y;have W:jR w o es ep t:=⟨q,k,T.fits R.le,T.ris',z,g⟩;have g:es.size=ms.length:=H.len;refine Calls.call_function_entry kind_sorted plain_sorted entry_sorted (args_sorted1 _) ?_;unfold Builtin.«sorted»;refine wpAny_bind (m:=checkCount "sorted" 1 1 _) (wpAny_pure ?_);refine wpAny_bind (t6 (by simp[hh]) W r ⋯ λu B k1 I=>?_)
 have k:List.Perm (dg w S ep es) (ms.map λm=>Value.ref m.1):=by
  refine(qL w S ep es).trans ?_;have:=H.pm.map (·.2);rw[map_map]at this;exact this
 obtain⟨g,q,r⟩:∃ g:List (Addr × List Int),List.Perm g ms/\dg w S ep es=g.map λm=>Value.ref m.1:=AC ms _ k;have k:g.length=ms.length:=q.length_eq;rw[r];refine wpAny_bind (wpAny_newList ?_ (by rw[length_map,sizeLine_eq];ext))
 dsimp only;have k:(u.push (seqObj "list" (g.map λm=>Value.ref m.1).toArray 0)).get? u.objs.size=some (seqObj "list" (g.map λm=>Value.ref m.1).toArray 0):=Heap.get?_push_size _ rfl;refine wpAny_bind (wpAny_holding (wpAny_call_entry slot_list_sort ⟨_,k,rfl⟩ entry_list_sort ?_ (args_list_sort _)));refine Ft (s:={s with heap:=u.push (seqObj "list" (g.map λm=>Value.ref m.1).toArray 0),toks:=B}) (km:=λi=>g.getD i (0,[])) k ⟨by rw[length_map];ext,λi j hi v e=>?_⟩ J (λi hi=>?_) λy p e Z M C O=>?_
 .have k:i<g.length:=by simpa using hi
  have r:j<g.length:=by simpa using v
  have F:(g.map (·.2)).Nodup:=(q.map (·.2)).nodup_iff.mpr H.nd;have L:(g.map (·.2))[i]'(by simpa using k)=(g.map (·.2))[j]'(by simpa using r):=by
   simpa [k,r] using e
  exact(List.getElem_inj F).mp L
 .have k:i<g.length:=by simpa using hi
  have hm:g.getD i (0,[])=g[i]:=by simp[k]
  have r:g[i]∈ms:=q.mem_iff.mp (getElem_mem k);dsimp only;rw[hm];refine⟨by simp[k],?_,hd _ r⟩
  obtain⟨U,L,X,F,x⟩:=H.key _ r;exact⟨U,L,X,Heap.get?_push_of_some _ (k1 _ _ F),x⟩
 .refine⟨_,rfl,wpAny_pure ⟨_,rfl,?_⟩⟩;rw[length_map]at C O;have F:(p.toList.map λi=>(g.map λm=>Value.ref m.1).getD i Value.none)=(p.toList.map λi=>g.getD i (0,[])).map λm=>Value.ref m.1:=by
   rw[map_map];refine map_congr_left λi hi=>?_;have k:i<g.length:=by simpa using C.mem_iff.mp hi
   simp[k]
  have r:List.Perm (p.toList.map λi=>g.getD i (0,[])) g:=by
   have:=C.map λi=>g.getD i ((0:Addr),([]:List Int))
   rwa [uG]at this
  rw[F]at M;have k:((p.toList.map λi=>g.getD i ((0:Addr),([]:List Int))).map (·.2)).Nodup:=((r.trans q).map (·.2)).nodup_iff.mpr H.nd;refine h y B _ e _ (r.trans q) k (λq=>?_) (λb o e=>Z b o (λhb=>?_) (Heap.get?_push_of_some _ (k1 b o e))) ?_ M
  .have z:p.toList.length=g.length:=by rw[C.length_eq,length_range]
   rw[pairwise_iff_getElem];intro i j hi v q;rw[length_map]at hi v;have u:=O ⋯ i j (Nat.le_of_lt q) ⋯
   have z:p.getD i 0=p.toList[i]:=by simp at hi;simp[Array.getD,hi]
   have y:p.getD j 0=p.toList[j]:=by simp at v;simp[Array.getD,v]
   have r:=pairwise_iff_getElem.mp k i j (by simpa using hi) (by simpa using v) q
   simp only[getElem_map]at r ⊢;rw[z,y]at u
   cases hb:lexB (g.getD p.toList[i] (0,[])).2 (g.getD p.toList[j] (0,[])).2 with
   |true=>rfl
   |false=>exact absurd (lM _ _ hb u) r
  .exact ne_of_lt (Heap.lt_size (k1 b o e)) hb
  .exact I
end
end ST
set_option maxHeartbeats 4000000
namespace DL
open PySem PySem.Spec L2 PyProof.Rows
def refs (km:List (Addr × List Int)):List V:=km.map λm=>V.ref m.1
def Fw (K:Frg)(te:TE):TE:=λe H Q=>te e H λx h=>∃ p d,∃ k:List (Addr × List Int),x=.ref p/\cC K h p (refs k)/\k.length<=76/\0<d ∧
 (∀ m∈k,jy K h m.1 (m.2.map V.int)/\m.2.length=d) ∧
 ∀ ns:List (Addr × List Int),(∀ m∈ns,m∈k)->(∀ m∈k,m.2∈ns.map (·.2))->(ns.map (·.2)).Nodup->(k.length<=63->ns.Pairwise (λa b=>ST.lexB a.2 b.2=true))->∀ l,h l=none->Q (.ref l) (cs h l (.lst (refs ns)))
theorem qw:∀ {k:List (Addr × List Int)}{u:List Value},aT (refs k) u->u=k.map λm=>Value.ref m.1
 | [],_,.nil=>rfl
 |m::k,_,.cons r t=>by cases r;rw[qw t];rfl
theorem yk:∀ k:List (Addr × List Int),aT (refs k) (k.map λm=>Value.ref m.1)
 | []=>.nil
 |m::k=>.cons rfl (yk k)
section
variable {X:Cx}{e:Expr}{te:TE}{p1 p2 pos1 pos2:Pos}
theorem oe:∀ {a:List Int}{u:List Value},aT (a.map V.int) u->ItemsAre (intKind prog w) a u
 | [],_,.nil=>.nil
 |k::a,_,.cons r t=>by obtain⟨b,rfl⟩:=r;exact .cons (intKind_is _ _ _ _) (oe t)
theorem IV (I:aE X pins σ H s)(h:jy X.K H a (ks.map V.int)):IsTupleKey (ST.ik X.prog X.w) s.heap ks a:=by
 obtain⟨i,r,⟨o,d,b,n,hd⟩,_⟩:=I.tuple h;exact⟨o,i.toArray,n,d,b,hd,by simpa using oe r⟩
theorem xa (hr:cu k X.A) (U:X.mg "sorted"=none) (E:X.mg "set"=none) (hd:X.A.handled=none) (he:PE X e te) (L:Gl X "sorted":=by rfl) (R:Gl X "set":=by rfl)
  (qc:starEach [e] X.env=(false,eval e X.env)::starEach [] X.env:=by exact aN rfl) (rG:starEach [.Call (.Name "set" p2) [e] [] pos2] X.env=(false,eval (.Call (.Name "set" p2) [e] [] pos2) X.env)::starEach [] X.env:=by rfl) :
  PE X (.Call (.Name "sorted" p1) [.Call (.Name "set" p2) [e] [] pos2] [] pos1) (Fw X.K te):=by
 intro a s g H Q I h;refine wpAny_Call_Name_kw (fP I L U PyProof.Rows.boot_sorted ?_);refine PyProof.Rows.callWith_builtin1 ?_ rG;rw[rG];show wpAny _ _ (spliced ((false,eval (.Call (.Name "set" p2) [e] [] pos2) X.env)::backTo pos1 (starEach [] X.env))) _ _ s;refine Calls.spliced_cons ?_;refine wpAny_Call_Name_kw (fP I R E PyProof.Rows.boot_set ?_);refine PyProof.Rows.callWith_type1 ?_ qc;rw[qc];show wpAny _ _ (spliced ((false,eval e X.env)::backTo pos2 (starEach [] X.env))) _ _ s;refine Calls.spliced_cons (cG (he a s g H _ I h) ?_);rintro u O ⟨x,a,C,z,g⟩;obtain⟨p,d,a,rfl,B,q,F,y,W⟩:=g
 cases z
 refine Calls.spliced_nil ?_;obtain⟨g,r,pl,hz⟩:=C.list B;have g:=qw r;subst g;have z:((a.map λm=>Value.ref m.1).toArray).size=a.length:=by simp
 refine ST.call_set_tup (km:=λi=>a.getD i (0,[])) hd (by have:=hr.units;ext) pl.isList (λi v g=>?_) (λi hi=>?_) (by rw[z];ext) λM J P k2=>?_
 .rw[List.getElem?_toArray,getElem?_map]at g
  cases B:a[i]? with
  |none=>rw[B]at g;simp at g
  |some m=>
   rw[B]at g;simp only[getD_eq_getElem?_getD,B,Option.getD_some];simpa using g.symm
 .rw[z]at hi;have B:a.getD i (0,[])=a[i]:=by simp[hi]
  rw[B];exact IV C (y _ (getElem_mem hi)).1
 refine Calls.spliced_nil ?_;rw[z]at P;have g:∀ m∈ST.met (λi=>a.getD i (0,[])) a.length,m∈a:=λm hm=>by
  obtain⟨i,hi,rfl⟩:=ST.met_of _ _ m hm;have B:a.getD i (0,[])=a[i]:=by simp[hi]
  rw[B];exact getElem_mem hi
 refine ST.call_sorted_set (s:={O with heap:=M,toks:=J}) hd P (le_trans (ST.met_len _ _) q) F (λm hm=>(y m (g m hm)).2) λY M D c3 ns y F J Z z hD=>?_;have keep:∀ b o,O.heap.get? b=some o->Y.get? b=some o:=λb o e=>Z b o (k2 b o (Heap.lt_size e) e);have le:O.heap.objs.size<=D:=by
  obtain⟨O,_,_,_,_,O,_⟩:=P;exact le_trans (Nat.le_of_lt (Heap.lt_size O)) z
 have z:ns.length<=76:=by rw[y.length_eq];exact le_trans (ST.met_len _ _) q
 refine⟨.ref D,_,C.laid (t':=M) keep le (show fh X.prog X.w _ Y _ (.lst (refs ns)) from⟨?_,_,c3,yk ns,hD⟩),rfl,W ns (λm hm=>g m (y.mem_iff.mp hm)) (λm hm=>?_) F (λh=>J (Nat.lt_succ_of_le (le_trans (ST.met_len _ _) h))) _ (C.hok.fresh le)⟩
 .unfold refs;rw[length_map];exact le_trans z ⋯
 .obtain⟨i,hi,rfl⟩:=getElem_of_mem hm;have g:=ST.met_has (λi=>a.getD i (0,[])) a.length i hi;have B:a.getD i (0,[])=a[i]:=by simp[hi]
  rw[B]at g;exact(y.map (·.2)).mem_iff.mpr g
end
def mE (ks:List Int):T:=.tup (ks.map T.int)
def QY (R:S->Prop)(s:S):Prop:=match items s with
 |some g=>∃ (d:Nat) (e:List (List Int)),0<d/\g=e.map mE/\(∀ g∈e,g.length=d)/\e.length<=76 ∧
   ∀ ns:List (List Int),(∀ k∈ns,k∈e)->(∀ k∈e,k∈ns)->ns.Nodup->(e.length<=63->ns.Pairwise (λa b=>ST.lexB a b=true))->R (.ol (ns.map mE))
 |none=>False
def lc (e:WE):WE:=λa R=>e a (QY R)
theorem qu:∀ a:List Int,cI (a.map T.int)=true
 | []=>rfl
 |k::a=>by simp only[map_cons,cI,kM,Bool.true_and];exact qu a
theorem qv:∀ a:List (List Int),cI (a.map mE)=true
 | []=>rfl
 |k::a=>by
  simp only[map_cons,cI,Bool.and_eq_true];exact⟨by unfold mE;simp only[kM];exact qu k,qv a⟩
theorem mq {K:Frg}{H:Hp}:∀ {a:List Int}{b:List V},aq K H (a.map T.int) b->b=a.map V.int
 | [],_,h=>h
 |k::a,_,⟨x,r,e,p,q⟩=>by subst e;cases p;rw[mq q];rfl
theorem vi {K:Frg}{H:Hp}:∀ {b:List (List Int)}{g:List V},aq K H (b.map mE) g →
  ∃ d:List (Addr × List Int),d.map (·.2)=b/\g=refs d/\∀ m∈d,jy K H m.1 (m.2.map V.int)/\az K H (mE m.2) (.ref m.1)
 | [],_,h=>⟨[],rfl,h,λm hm=>absurd hm not_mem_nil⟩
 |k::b,_,⟨x,r,e,p,q⟩=>by
  subst e;obtain⟨d,o,i,u⟩:=vi q;obtain⟨a,y,g,b,ty⟩:=id p;subst g;have g:=mq ty;subst g;refine⟨(a,k)::d,by rw[map_cons,o],by rw[i];rfl,λm hm=>?_⟩
  obtain rfl|hm:=mem_cons.mp hm
  .exact⟨b,p⟩
  .exact u m hm
theorem uA {K:Frg}{H:Hp}:∀ ns:List (Addr × List Int),(∀ m∈ns,az K H (mE m.2) (.ref m.1))->aq K H ((ns.map (·.2)).map mE) (refs ns)
 | [],_=>rfl
 |m::ns,h=>⟨.ref m.1,refs ns,rfl,h m mem_cons_self,uA ns λa hm=>h a (mem_cons_of_mem _ hm)⟩
section
variable {X:Cx}{e:Expr}{p1 p2 pos1 pos2:Pos}
theorem nL {k:Nat}{J:WE} (Y:cu k X.A) (E:X.mg "sorted"=none) (u:X.mg "set"=none) (hd:X.A.handled=none) (he:PE X e (au X.K J)) (C:Gl X "sorted":=by rfl) (D:Gl X "set":=by rfl)
  (qc:starEach [e] X.env=(false,eval e X.env)::starEach [] X.env:=by exact aN rfl) (rG:starEach [.Call (.Name "set" p2) [e] [] pos2] X.env=(false,eval (.Call (.Name "set" p2) [e] [] pos2) X.env)::starEach [] X.env:=by rfl) :
  PE X (.Call (.Name "sorted" p1) [.Call (.Name "set" p2) [e] [] pos2] [] pos1) (au X.K (lc J)):=
 (xa Y E u hd he C D qc rG).imp <| by rintro σ H Q ⟨Z,R,F,rl,h,k⟩;exact⟨Z,_,F,rl,h,λv M H1 s ex p q=>by
  unfold QY at q
  split at q
  .rename_i ts hi;obtain⟨a,xs,rfl,W,tp⟩:=(p.val ex.sub).list ex.sub hi;obtain⟨d,z,B,rfl,i,g,I⟩:=q;obtain⟨L,o,y,O⟩:=vi tp;subst y;have b:∀ m∈L,m.2∈z:=λm hm=>by rw[<-o];exact mem_map.mpr ⟨m,hm,rfl⟩
   refine⟨a,d,L,rfl,W,by rw[<-o,length_map]at g;exact g,B,λm hm=>⟨(O m hm).1,i _ (b m hm)⟩,λns P U n4 n3 l x=>?_⟩
   have y:=dq.newL (refs ns) ex.sub ex.full x;have hp:aq X.K M ((ns.map (·.2)).map mE) (refs ns):=aq.full ex.full (qv _) (uA ns λm hm=>(O m (P m hm)).2);exact k _ M _ (.ol ((ns.map (·.2)).map mE)) (ex.trans y) ⟨l,refs ns,rfl,aJ ex.hh x,aJ ex.sub x,aW,hp⟩
    (I _ (λk r=>by obtain⟨m,hm,rfl⟩:=mem_map.mp r;exact b m (P m hm)) (λk r=>by
     rw[<-o]at r;obtain⟨m,hm,rfl⟩:=mem_map.mp r;exact U m hm) n4 (λh=>pairwise_map.mpr (n3 (by rwa [<-o,length_map]at h))))
  .exact q.elim⟩
end
theorem zg (e:WE)(a:bf)(R:S->Prop):lc e a R=e a (QY R):=rfl
set_option maxHeartbeats 4000000
def LA (i:Nat)(a:bf)(N:bf->Prop)(ts:List T):S->Prop
 | .ol u=>ts.length+u.length<100000/\N (a.set i (some (.ol (ts++u))))
 |_=>False
def mV (i:Nat)(e:WE):WS:=λD a=>match a[i]? with
 |some (some (.ol ts))=>e a (LA i a D.nx ts)
 |_=>False
theorem Bh:mV i e D a=om i a λb=>e a (LA i a D.nx b):=rfl
theorem LB (N:bf->Prop)(ts us:List T):LA i a N ts (.ol us)=(ts.length+us.length<100000/\N (a.set i (some (.ol (ts++us))))):=rfl
section
variable {X:Cx}{e:Expr}{we:WE}{pos:Pos}{H₀:Hp}{i:Nat}{x:Str}{p1 p2:Pos}
theorem zN (he:PE X e (au X.K we)) (U:PE X (.Name x p1) (vg i):=by exact pv _) (k:attributeBase (.Name x p1) "extend" X.env (eval (.Name x p1) X.env)=eval (.Name x p1) X.env:=by rfl)
  (r:((backTo pos (starEach [e] X.env)).all (λx=>!x.1) && (backToKw pos (keywordEach [] X.env)).all (λx=>x.1.isSome) && decide ([e].length+([]:List Keyword).length+(if ([]:List Keyword).isEmpty then 0 else 1)<30))=true:=by rfl)
  (m:(p2.endLine == pos.line)=true:=by rfl) (hs:starEach [e] X.env=(false,eval e X.env)::starEach [] X.env:=by rfl) (d:(backTo pos (starEach [] X.env)).any (·.1)=false:=by rfl)
  (z:swapsWith (.Call (.Attribute (.Name x p1) "extend" p2) [e] [] pos) none g.line X.env=pure false:=by rfl) :
  PS X (.Expr (.Call (.Attribute (.Name x p1) "extend" p2) [e] [] pos) g) (bK X.K H₀ (mV i we)):=
 (kK (JK PySem.F.plainAttrs_list PySem.F.slot_list_extend PySem.F.type_list_extend Ai U (i7 he oB hs) k r m hs d) z).imp λD Q H ⟨P,D',F,s0,B,h,ok⟩=>by
  unfold mV at h
  split at h
  .rename_i Y hi;obtain⟨v,ha,a,C,rfl,M,u,I⟩:=B.slot i _ hi;refine⟨_,ha,.inl ⟨rfl,C,cC.of u⟩,P,_,F,B,h,λv O Z s e p q=>?_⟩
   cases s with
   |ol W=>
    obtain⟨L,q⟩:=q;obtain⟨b,R,rfl,_,J,y,o⟩:=p;have E:=e.hh.get u;refine⟨a,b,C,R,rfl,rfl,E,y,by rw[I.length,o.length];exact Nat.le_of_lt (mN L),?_⟩
    exact ok.nx Q O _ _ e.ff ((B.ext e).mutate hi ha (e.keep a (by rw[u];simp) M) ⟨C,E⟩ ((aq.same e.ff I).append o)) q
   |_=>exact q.elim
  .exact h.elim
end
end DL
open L2 DL
def JY:List String:=("Bh LB zf MP MR MQ zg L0 L1 Hv Hw Od Oe Qt Oc KB KA Kv F4 Ki Kj Oh RF N7 Qv RE Qr N5 N1 NZ N2 N0 Om On Oo Oq Ly Lx Lz GY GZ GX Lv Lw Lu Ll Lm Lj Lr de Lq Lo OK Ln Lp RD KJ Kd N8 Kx Ke N9 Ky Gn Mn HD NW Qs N6 Kh Of N4 Rf Rg Rh QM QN QO QP QR Kf Kq Ko Kr Kp NT Kt Ku Kn Km F9 Gb Ga OQ Pe Qu Nf PX ty_int Ng PY P0 PZ rV pI rS rW rX rT pD oa pB pE pF pC rK pG rH rL rM rJ sd pJ rY se sf rZ sk pK sg sn so si rP pH rN rQ rR rO NV Bj Hs Hu Ht Gj PU Bk MT Bl MU F8 Kl Kk F7 Og Ni Oa Mq Gf M0 M2 M1 Gc Kz ME Be KH Ob Ge List.set_cons_zero List.set_cons_succ List.map_cons List.map_nil if_true if_false true_and and_true Bool.not_true Bool.not_false Bool.not_eq_true decide_eq_true_eq decide_eq_false_iff_not Bool.not_not Bool.false_eq_true Bool.true_eq_false ite_true ite_false Int.reducePow Int.reduceToNat Int.reduceNeg Int.reduceMul Int.reduceAdd Int.reduceSub List.length_cons List.length_nil Nat.zero_add Nat.reduceAdd ite_not Ot Ou Ov Ow EB HA Ez ED Ey EA HB EC HC OM ON OL N3 Ks Ri ty_str IW NY Kw Jy L6 L7 L8 L9 Ma Mb PV Nj KC NU KU KY KW Kg Oi yg yf Iu MK Iq Iv Iw Ir E8 qt Bool.and_true Bool.true_and Bool.and_self yN CB Ec CC Ed CA Eb CG Eg CH Eh CF Ef Cw D8 Cy D9 Cu D7 Cz Ea CD Ee Ct D6 Iy B6 DN B7 DO B5 DM Ca DR Cb DS B9 DQ BX DI BY DJ BW DH BZ DK B8 DP BV DG IA CO Ep CP Er CN Eo CT Eu CU Ew CS Et CK Ek CL El CJ Ej CM Em CQ Es CI Ei Iz Ck DZ Cm D0 Cj DY Cq D3 Cr D5 Cp D2 Cf DV Cg DW Cd DU Ci DX Co D1 Cc DT bj aZ wu spT OS Pf OP Pd px List.replicate_succ List.replicate_zero List.cons_append List.nil_append List.getElem?_cons_succ List.getElem?_cons_zero Option.join_some Option.join_none KD KG KF FY F0 FZ F6 F5 Gk Nt Gg Gi Gh Nu Bi".splitOn " ")
local macro_rules | `(tactic| walk_at"d")=>do {let ids:Array (Lean.TSyntax `ident):=JY.toArray.map (fun x=>Lean.mkIdent x.toName);`(tactic| try simp only[$[$ids:ident],*])}
local macro_rules | `(tactic| walk_at"db")=>do {let ids:Array (Lean.TSyntax `ident):=JY.toArray.map (fun x=>Lean.mkIdent x.toName);`(tactic| try simp (config:={implicitDefEqProofs:=false}) only [$[$ids:ident],*])}
local macro_rules | `(tactic| walk_at"sz")=>`(tactic| first | assumption | with_reducible exact Sz.of (m:=250) (by omega) (by omega) | with_reducible exact Sz.mul (by walk_at"sz") (by walk_at"sz") | with_reducible exact Sz.add (by walk_at"sz") (by walk_at"sz") | with_reducible exact Sz.sub (by walk_at"sz") (by walk_at"sz") | with_reducible exact Sz.neg (by walk_at"sz"))
local macro_rules | `(tactic| walk_at"szk")=>`(tactic| first | assumption | exact Sz.mono (by walk_at"sz") (by decide))
local macro_rules | `(tactic| walk_at"mul")=>`(tactic| first | with_reducible exact Hz (by decide) (by decide) | with_reducible exact bL (by walk_at"sz") (by walk_at"sz") (by decide) (by decide) | with_reducible exact Hz (by omega) (by omega) | with_reducible exact Pb (by omega) (by omega))
local macro_rules | `(tactic| walk_at"side")=>`(tactic| first | decide | with_reducible exact E4 (by decide) (by decide) (by decide) | with_reducible exact BM (by decide) (by decide +kernel) | walk_at"mul" | omega | assumption)
local macro_rules | `(tactic| walk_at"pre")=>`(tactic| repeat ((with_reducible apply And.intro);(case left=>walk_at"side")))
local macro_rules | `(tactic| walk_at"go")=>`(tactic| (walk_at"d";walk_at"pre"))
local macro_rules | `(tactic| walk_at"gb")=>`(tactic| (walk_at"db";walk_at"pre"))
local macro_rules | `(tactic| walk_at"o")=>`(tactic| first | lia | omega)
namespace Law
open L2 DL
abbrev Ok (sp:aO)(w:WS)(N:List PySem.Str):Prop:=∀ ss R,sp ss R->w {nx:=λ_=>R (.t .non),rt:=R} (aD N ss)
def cQ:aO:=λd R=>∃ a b:Int,d=[.t (.int a),.t (.int b)]/\R (.t (.int (Int.gcd a b)))
def hV:aO:=λa R=>∃ s,a=[.t s]/\JV s≠.exc/\R (.t (.bl (ca (JV s) .int && !ca (JV s) .bool)))
def jn:WS:=
 (aG (aP 2 (dP jA (ae (af 0) ap)))
 (aG (aP 3 (dP jA (ae (af 1) ap)))
 (cq (tG (wB (IY (af 3) (wC (.int 0)))) (aG (aP 4 (iY (af 2) (af 3)))
 (aG (aP 2 (af 3))
 (aP 3 (af 4)))))
 (jQ 2))))
def jq:WS:=
 (bh (vm (JX .int (af 0)) (vp (JX .bool (af 0)))))
theorem C2 (g l:Nat):Nat.gcd l (g % l)=Nat.gcd g l:=by
 rw[Nat.gcd_comm l (g % l),<-Nat.gcd_rec,Nat.gcd_comm]
theorem wQ:∀ i R,cQ i R->jn {nx:=λ_=>R (.t .non),rt:=R} (aD ["one","other","greater","lesser","rest"] i):=by
 rintro i R ⟨a,b,rfl,h⟩;show jn _ [some (.t (.int a)),some (.t (.int b)),none,none,none];unfold jn;symm;rw[qS,qS];refine⟨λd=>∃ r,d=[some (.t (.int a)),some (.t (.int b)),some (.t (.int (Int.gcd a b))),some (.t (.int 0)),r],?_,by rintro d ⟨r,e⟩;exact by subst e;symm;exact h⟩
 refine⟨λn d=>∃ (g l:Nat) (r:Option S),d=[some (.t (.int a)),some (.t (.int b)),some (.t (.int g)),some (.t (.int l)),r]/\l=n/\Nat.gcd g l=Int.gcd a b,⟨_,_,_,none,rfl,rfl,rfl⟩,?_⟩;rintro n d ⟨g,l,r,rfl,rfl,d⟩;symm
 cases l with
 |zero=>rw[if_neg (by simp)];exact⟨r,by rw[<-d];simp⟩
 |succ l=>
  rw[if_pos (by simp;omega)]
  refine⟨by omega,?_⟩
  rw[uj];exact⟨_,mod_lt g (by omega),_,_,_,rfl,rfl,by rw[C2];exact d⟩
theorem wV:∀ a R,hV a R->jq {nx:=λ_=>R (.t .non),rt:=R} (aD ["_law_found"] a):=by
 rintro a R ⟨s,rfl,x,h⟩;show jq _ [some (.t s)];unfold jq
 cases s with
 |exc c=>exact absurd rfl x
 |_=>symm;exact h
theorem AV (v:Int)(R:S->Prop)(h:R (.t (.bl true))):hV [.t (.int v)] R:=⟨_,rfl,by simp[JV],h⟩
def a9 (h:Hf)(s:aS):Int:=h.1*s.1.1*s.2.2+h.2.1*s.2.1*s.1.2-h.2.2*(s.1.2*s.2.2)
def sgn (i:Int):Int:=if i>0 then 1 else if i<0 then -1 else 0
def cO:aO:=λa R=>∃ s:aS,a=[.t (spT s)]/\eW 60000 s/\R (.t (.int (s.1.2*s.2.2)))
def dE:aO:=λa R=>∃ (h:Hf) (s:aS),a=[.t (bj h),.t (spT s)]/\dy 300000 h/\eW 60000 s/\R (.t (.int (a9 h s)))
def k7:aO:=λa R=>∃ i:Int,a=[.t (.int i)]/\R (.t (.int (sgn i)))
def hX:aO:=λa R=>∃ (h:Hf) (s:aS),a=[.t (bj h),.t (spT s)]/\dy 300000 h/\eW 60000 s/\R (.t (.int (sgn (a9 h s))))
def jk:WS:=
 (bh (bG (av aU (av aU (af 0) (wC (.int 0))) (wC (.int 1))) (av aU (av aU (af 0) (wC (.int 1))) (wC (.int 1)))))
def li:WS:=
 (aG (aP 2 (av aU (af 1) (wC (.int 0))))
 (aG (aP 3 (av aU (af 1) (wC (.int 1))))
 (bh (dR (eM (bG (bG (av aU (af 0) (wC (.int 0))) (av aU (af 2) (wC (.int 0)))) (av aU (af 3) (wC (.int 1)))) (bG (bG (av aU (af 0) (wC (.int 1))) (av aU (af 3) (wC (.int 0)))) (av aU (af 2) (wC (.int 1))))) (bG (av aU (af 0) (wC (.int 2))) (ax cO (ae (af 1) ap)))))))
def tJ:WS:=
 (aG (f5 (wB (AQ (af 0) (wC (.int 0)))) (bh (wC (.int 1))) br)
 (aG (f5 (wB (y9 (af 0) (wC (.int 0)))) (bh (tN gI (wC (.int 1)))) br)
 (bh (wC (.int 0)))))
def w_side:WS:=
 (bh (ax k7 (ae (ax dE (ae (af 0) (ae (af 1) ap))) ap)))
theorem wM:∀ a R,cO a R->jk {nx:=λ_=>R (.t .non),rt:=R} (aD ["spot"] a):=by
 rintro a R ⟨⟨⟨x,p⟩,y,q⟩,rfl,⟨⟨b,a⟩,d,z⟩,h⟩;dsimp only at b a d z;show jk _ [some (.t (.tup [.tup [.int x,.int p],.tup [.int y,.int q]]))]
 delta jk
 symm;exact⟨bL a z ⋯ ⋯,h⟩
theorem An:∀ d R,dE d R->li {nx:=λ_=>R (.t .non),rt:=R} (aD ["half","spot","x","y"] d):=by
 rintro d R ⟨⟨a,b,c⟩,⟨⟨x,p⟩,y,q⟩,rfl,⟨k,m,i⟩,⟨⟨z,e⟩,g,d⟩,h⟩;dsimp only at k m i z e g d;show li _ [some (.t (.tup [.int a,.int b,.int c])),some (.t (.tup [.tup [.int x,.int p],.tup [.int y,.int q]])),none,none]
 delta li
 symm;refine⟨by walk_at"mul",by walk_at"mul",by walk_at"mul",by walk_at"mul",⟨(x,p),(y,q)⟩,rfl,⟨⟨z,e⟩,g,d⟩,?_⟩
 symm;exact⟨by walk_at"mul",h⟩
theorem HN:∀ b R,k7 b R->tJ {nx:=λ_=>R (.t .non),rt:=R} (aD ["number"] b):=by
 rintro b R ⟨i,rfl,h⟩;show tJ _ [some (.t (.int i))]
 delta tJ
 unfold sgn at h;symm
 split
 .rename_i hi;rw[if_pos hi]at h;exact h
 .rename_i hi;rw[if_neg hi]at h
  split
  .rename_i a;rw[if_pos a]at h;exact h
  .rename_i a;rw[if_neg a]at h;exact h
theorem HL:∀ b R,hX b R->w_side {nx:=λ_=>R (.t .non),rt:=R} (aD ["half","spot"] b):=by
 rintro b R ⟨a,s,rfl,y,z,h⟩;show w_side _ [some (.t (bj a)),some (.t (spT s))]
 delta w_side
 symm;refine⟨a,s,rfl,y,z,?_⟩;symm;refine⟨_,rfl,?_⟩;symm;exact h
theorem cM {a d:Int}(h:d ∣ a):a.fdiv d*d=a:=by
 obtain⟨k,rfl⟩:=h
 by_cases hd:d=0
 .subst hd;simp
 .rw[Int.mul_fdiv_cancel_left _ hd,mul_comm]
theorem x4 {a d:Int}(h:d ∣ a)(ha:a≠0):a.fdiv d≠0:=λe=>by
 have:=cM h;rw[e]at this;ext
def jB (a b c:Int):Nat:=Int.gcd (Int.gcd a b) c
theorem C0 (a b c:Int):(jB a b c:Int) ∣ a:=Int.dvd_trans (gcd_dvd_left _ _) (gcd_dvd_left _ _)
theorem C1 (a b c:Int):(jB a b c:Int) ∣ b:=Int.dvd_trans (gcd_dvd_left _ _) (gcd_dvd_right _ _)
theorem LF (a b c:Int):(jB a b c:Int) ∣ c:=gcd_dvd_right _ _
theorem gK (h:a≠0\/b≠0):(Int.gcd a b:Int)≠0:=λe=>by
 have d:Int.gcd a b=0:=⋯
 rw[Int.gcd_eq_zero_iff]at d;ext
theorem x9 (h:a≠0\/b≠0):(jB a b c:Int)≠0:=gK (.inl (gK h))
def LG (a b c:Int):Hf:=(a.fdiv (jB a b c),b.fdiv (jB a b c),c.fdiv (jB a b c))
def lv (a b:Int):Int:=if b<0 then -(Int.gcd a b:Int) else (Int.gcd a b:Int)
def tM (a b:Int):Int × Int:=(a.fdiv (lv a b),b.fdiv (lv a b))
def vS (p q:Pt):Hf:=LG (p.2-q.2) (q.1-p.1) ((p.2-q.2)*p.1+(q.1-p.1)*p.2)
def kZ:aO:=λd R=>∃ a b c:Int,d=[.t (.int a),.t (.int b),.t (.int c)]/\(a≠0\/b≠0)/\dy 9000 (a,b,c)/\R (.t (bj (LG a b c)))
def j4:aO:=λa R=>∃ p q:Pt,a=[.t (aZ p),.t (aZ q)]/\p≠q/\SzF 4000 p/\SzF 4000 q/\R (.t (bj (vS p q)))
def gu:aO:=λd R=>∃ a b:Int,d=[.t (.int a),.t (.int b)]/\b≠0/\Sz 9000 b/\R (.t (wu (tM a b)))
def dL:aO:=λa R=>∃ p q:Int × Int,a=[.t (wu p),.t (wu q)]/\SzF 60000 p/\SzF 60000 q/\R (.t (.bl (decide (p.1*q.2<q.1*p.2))))
def tH:WS:=
 (aG (f5 (FQ (iW (wB (tD (af 0) (wC (.int 0)))) (wB (tD (af 1) (wC (.int 0)))))) l6 br)
 (aG (aP 3 (ax cQ (ae (ax cQ (ae (af 0) (ae (af 1) ap))) (ae (af 2) ap))))
 (bh (cF (ae (iX (af 0) (af 3)) (ae (iX (af 1) (af 3)) (ae (iX (af 2) (af 3)) ap)))))))
def jj:WS:=
 (aG (aP 2 (dR (av aU (af 0) (wC (.int 1))) (av aU (af 1) (wC (.int 1)))))
 (aG (aP 3 (dR (av aU (af 1) (wC (.int 0))) (av aU (af 0) (wC (.int 0)))))
 (bh (ax kZ (ae (af 2) (ae (af 3) (ae (eM (bG (af 2) (av aU (af 0) (wC (.int 0)))) (bG (af 3) (av aU (af 0) (wC (.int 1))))) ap)))))))
def nq:WS:=
 (aG (f5 (wB (tD (af 1) (wC (.int 0)))) l6 br)
 (aG (aP 2 (ax cQ (ae (af 0) (ae (af 1) ap))))
 (cq (f5 (wB (y9 (af 1) (wC (.int 0)))) (aP 2 (tN gI (af 2))) br)
 (bh (cF (ae (iX (af 0) (af 2)) (ae (iX (af 1) (af 2)) ap)))))))
def mZ:WS:=
 (bh (y9 (bG (av aU (af 0) (wC (.int 0))) (av aU (af 1) (wC (.int 1)))) (bG (av aU (af 1) (wC (.int 0))) (av aU (af 0) (wC (.int 1))))))
theorem HH:∀ g R,kZ g R->tH {nx:=λ_=>R (.t .non),rt:=R} (aD ["a","b","c","common"] g):=by
 rintro g R ⟨a,b,c,rfl,d,⟨sa,sb,i⟩,h⟩;dsimp only at sa sb i;show tH _ [some (.t (.int a)),some (.t (.int b)),some (.t (.int c)),none]
 delta tH
 symm;refine⟨λk=>k=false,?_,?_⟩
 .symm
  split
  .rename_i e;ext
  .trivial
 rintro k rfl;symm;refine⟨_,_,rfl,?_⟩;symm;refine⟨_,_,rfl,?_⟩;symm;have m:(jB a b c:Int)≠0:=x9 d;have o:Sz 9000 (jB a b c:Int):=(Sz.gcd (Sz.gcd sa sb) i).mono ⋯
 have dv:∀ z,nu z (jB a b c:Int):=λz=>Jj m o ⋯
 exact⟨dv _,dv _,dv _,h⟩
theorem wL:∀ b R,j4 b R->jj {nx:=λ_=>R (.t .non),rt:=R} (aD ["one","other","a","b"] b):=by
 rintro b R ⟨⟨u,v⟩,⟨x,y⟩,rfl,a,⟨d,b⟩,⟨i,g⟩,h⟩;dsimp only at d b i g;show jj _ [some (.t (.tup [.int u,.int v])),some (.t (.tup [.int x,.int y])),none,none]
 delta jj
 symm;have sa:Sz 4001 (v-y):=by walk_at"szk"
 have sb:Sz 4001 (x-u):=by walk_at"szk"
 have g:Sz 9000 ((v-y)*u+(x-u)*v):=by walk_at"szk"
 refine⟨bL sa d ⋯ ⋯,bL sb b ⋯ ⋯,_,_,_,rfl,?_,⟨sa.mono ⋯,sb.mono ⋯,g⟩,h⟩
 by_cases e:v-y=0
 .right
  intro b;exact a (by rw[show u=x by ext,show v=y by ext])
 .exact .inl e
theorem EQ:∀ d R,gu d R->nq {nx:=λ_=>R (.t .non),rt:=R} (aD ["top","bottom","common"] d):=by
 rintro d R ⟨a,b,rfl,e,sb,h⟩;show nq _ [some (.t (.int a)),some (.t (.int b)),none]
 delta nq
 symm;rw[if_neg (by simpa using e)]
 refine⟨_,_,rfl,?_⟩;symm;refine⟨λd=>d=[some (.t (.int a)),some (.t (.int b)),some (.t (.int (lv a b)))],?_,?_⟩
 .symm;unfold lv
  split <;> rfl
 rintro d rfl;symm;have g:lv a b≠0:=by
  have:=gK (a:=a) (.inr e);unfold lv;split <;> ext
 have d:Sz 9000 (lv a b):=by
  have q:Sz 9000 (Int.gcd a b:Int):=by rw[Int.gcd_comm];exact Sz.gcdL sb e
  unfold lv
  split
  .exact Sz.neg q
  .exact q
 have dv:∀ z,nu z (lv a b):=λz=>Jj g d ⋯
 exact⟨dv _,dv _,h⟩
theorem EJ:∀ e R,dL e R->mZ {nx:=λ_=>R (.t .non),rt:=R} (aD ["one","other"] e):=by
 rintro e R ⟨⟨a,b⟩,⟨c,d⟩,rfl,⟨i,e⟩,⟨k,g⟩,h⟩;dsimp only at i e k g;show mZ _ [some (.t (.tup [.int a,.int b])),some (.t (.tup [.int c,.int d]))]
 delta mZ
 symm;exact⟨bL i g ⋯ ⋯,bL k e ⋯ ⋯,h⟩
def eX (p:Pt):aS:=((p.1,1),(p.2,1))
def ah (s:aS):Hf:=(s.1.1*s.2.2,s.2.1*s.1.2,s.1.2*s.2.2)
def Qg (u v:Hf):Hf:=(u.2.1*v.2.2-u.2.2*v.2.1,u.2.2*v.1-u.1*v.2.2,u.2.1*v.1-u.1*v.2.1)
def tx (a b c:aS):Int:=a9 (Qg (ah a) (ah b)) c
def Re (p q r:Pt):Int:=tx (eX p) (eX q) (eX r)
theorem Nc (p q r:Pt):Re p q r=(p.2-q.2)*r.1+(q.1-p.1)*r.2-(p.2*q.1-p.1*q.2):=by
 unfold Re tx a9 Qg ah eX;simp only[mul_one,Int.one_mul]
def fv:aO:=λa R=>∃ p:Pt,a=[.t (aZ p)]/\R (.t (spT (eX p)))
def bZ:aO:=λa R=>∃ s:aS,a=[.t (spT s)]/\eW 30000 s/\R (.t (bj (ah s)))
def hZ:aO:=λd R=>∃ a b c:aS,d=[.t (spT a),.t (spT b),.t (spT c)]/\eW 30000 a/\eW 30000 b/\eW 30000 c/\R (.t (.int (tx a b c)))
def ji:WS:=
 (bh (cF (ae (cF (ae (av aU (af 0) (wC (.int 0))) (ae (wC (.int 1)) ap))) (ae (cF (ae (av aU (af 0) (wC (.int 1))) (ae (wC (.int 1)) ap))) ap))))
def fK:WS:=
 (bh (cF (ae (bG (av aU (av aU (af 0) (wC (.int 0))) (wC (.int 0))) (av aU (av aU (af 0) (wC (.int 1))) (wC (.int 1)))) (ae (bG (av aU (av aU (af 0) (wC (.int 1))) (wC (.int 0))) (av aU (av aU (af 0) (wC (.int 0))) (wC (.int 1)))) (ae (ax cO (ae (af 0) ap)) ap)))))
def tK:WS:=
 (aG (aP 3 (ax bZ (ae (af 0) ap)))
 (aG (aP 4 (ax bZ (ae (af 1) ap)))
 (aG (aP 5 (dR (bG (av aU (af 3) (wC (.int 1))) (av aU (af 4) (wC (.int 2)))) (bG (av aU (af 3) (wC (.int 2))) (av aU (af 4) (wC (.int 1))))))
 (aG (aP 6 (dR (bG (av aU (af 3) (wC (.int 2))) (av aU (af 4) (wC (.int 0)))) (bG (av aU (af 3) (wC (.int 0))) (av aU (af 4) (wC (.int 2))))))
 (aG (aP 7 (dR (bG (av aU (af 3) (wC (.int 1))) (av aU (af 4) (wC (.int 0)))) (bG (av aU (af 3) (wC (.int 0))) (av aU (af 4) (wC (.int 1))))))
 (bh (ax dE (ae (cF (ae (af 5) (ae (af 6) (ae (af 7) ap)))) (ae (af 2) ap)))))))))
theorem wK:∀ a R,fv a R->ji {nx:=λ_=>R (.t .non),rt:=R} (aD ["point"] a):=by
 rintro a R ⟨⟨x,y⟩,rfl,h⟩;show ji _ [some (.t (.tup [.int x,.int y]))]
 delta ji
 walk_at"go";exact h
theorem sJ:∀ e R,bZ e R->fK {nx:=λ_=>R (.t .non),rt:=R} (aD ["spot"] e):=by
 rintro e R ⟨⟨⟨x,p⟩,y,q⟩,rfl,⟨⟨z,b⟩,d,a⟩,h⟩;dsimp only at z b d a;show fK _ [some (.t (.tup [.tup [.int x,.int p],.tup [.int y,.int q]]))]
 delta fK
 symm;refine⟨bL z a ⋯ ⋯,bL d b ⋯ ⋯,((x,p),(y,q)),rfl,⟨⟨z.mono ⋯,b.mono ⋯⟩,d.mono ⋯,a.mono ⋯⟩,?_⟩
 symm;exact h
theorem HQ:∀ m R,hZ m R->tK {nx:=λ_=>R (.t .non),rt:=R} (aD ["one","other","third","here","there","a","b","c"] m):=by
 rintro m R ⟨s,t,u,rfl,a,z,b,h⟩;show tK _ [some (.t (spT s)),some (.t (spT t)),some (.t (spT u)),none,none,none,none,none]
 delta tK
 have d:dy 60000 (ah s):=⟨(Sz.mul a.1.1 a.2.2).mono ⋯,(Sz.mul a.2.1 a.1.2).mono ⋯,(Sz.mul a.1.2 a.2.2).mono ⋯⟩
 have m:dy 60000 (ah t):=⟨(Sz.mul z.1.1 z.2.2).mono ⋯,(Sz.mul z.2.1 z.1.2).mono ⋯,(Sz.mul z.1.2 z.2.2).mono ⋯⟩
 symm;refine⟨s,rfl,a,?_⟩;obtain⟨g,a,k⟩:=d;generalize v:ah s=hs at g a k ⊢;obtain⟨x,p,o⟩:=hs;dsimp only at g a k;symm;refine⟨t,rfl,z,?_⟩;obtain⟨i,d,e⟩:=m;generalize r:ah t=ht at i d e ⊢;obtain⟨m,y,q⟩:=ht;dsimp only at i d e;symm;refine⟨bL a e ⋯ ⋯,bL k d ⋯ ⋯,bL k i ⋯ ⋯,bL g e ⋯ ⋯,bL a i ⋯ ⋯,bL g d ⋯ ⋯,(p*q-o*y,o*m-x*q,p*m-x*y),u,rfl,⟨by walk_at"szk",by walk_at"szk",by walk_at"szk"⟩,⟨⟨b.1.1.mono ⋯,b.1.2.mono ⋯⟩,b.2.1.mono ⋯,b.2.2.mono ⋯⟩,?_⟩
 unfold tx Qg at h;rw[v,r]at h;exact h
def cr (p q r:Pt):Int:=(q.1-p.1)*(r.2-p.2)-(q.2-p.2)*(r.1-p.1)
def fn (m p:Pt):Int:=m.1*p.1+m.2*p.2
theorem Nb (p q r:Pt):Re p q r=cr p q r:=by
 rw[Nc];unfold cr;grind
theorem LI (a b p q:Pt):cr a p q=cr a b q-cr a b p+cr b p q:=by unfold cr;grind
theorem LJ (m a b p q:Pt):(fn m b-fn m a)*cr a p q=(fn m p-fn m a)*cr a b q-(fn m q-fn m a)*cr a b p:=by unfold cr fn;grind
theorem Da (m z t p q:Pt):(fn m t-fn m z)*cr t p q=(fn m p-fn m t)*cr z t q-(fn m q-fn m t)*cr z t p:=by unfold cr fn;grind
theorem C9 (m a b c p:Pt):(fn m c-fn m b)*cr a b p=(fn m p-fn m b)*cr a b c+(fn m b-fn m a)*cr b c p:=by unfold cr fn;grind
theorem C8 (m a b v u w:Pt):(fn m b-fn m v)*cr u w a+(fn m v-fn m a)*cr u w b=(fn m b-fn m a)*cr u w v-fn m (w.1-u.1,w.2-u.2)*cr a b v:=by unfold cr fn;grind
theorem rj (a b:Pt):cr a b b=0:=by unfold cr;grind
theorem t8 (a b:Pt):cr a b a=0:=by unfold cr;grind
theorem GO (a b q:Pt):cr b a q=-cr a b q:=by unfold cr;grind
theorem lP {f x:Int}(b:0<f)(h:0<=f*x):0<=x:=by
 obtain a|a:=lt_or_le x 0
 .have:=mul_neg_of_pos_of_neg b a;ext
 .exact a
theorem wJ {a b:Int}(ha:a<=0)(hb:0<=b):a*b<=0:=mul_nonpos_of_nonpos_of_nonneg ha hb
def vA:List Pt->Prop
 |c::b::a::r=>0<cr a b c/\vA (b::a::r)
 |_=>True
def Lf (q:Pt):List Pt->Prop
 |b::a::r=>0<=cr a b q/\Lf q (a::r)
 |_=>True
def Dn (m:Pt)(k:List Pt):Prop:=k.Pairwise λb a=>fn m a<fn m b
def popTo (p:Pt):List Pt->List Pt
 |b::a::r=>if cr a b p<=0 then popTo p (a::r) else b::a::r
 |k=>k
def rf (ps:List Pt):List Pt:=ps.foldl (λk p=>p::popTo p k) []
theorem p8:∀ {b:Pt}{k:List Pt},vA (b::k)->vA k
 |_,[],_=>trivial
 |_,[_],_=>trivial
 |_,_::_::_,h=>h.2
theorem Hr:∀ {q b:Pt}{k:List Pt},Lf q (b::k)->Lf q k
 |_,_,[],_=>trivial
 |_,_,_::_,h=>h.2
structure Off (m:Pt) (D:List Pt) (p p0:Pt) (t:Pt) (k:List Pt):Prop where
 dn:Dn m (t::k)
 cv:vA (t::k)
 lf:∀ q∈D,Lf q (t::k)
 sb:∀ x∈t::k,x∈D
 ls:(t::k).getLast?=some p0
 ne:∀ q∈D,fn m t<=fn m q->0<=cr t p q
theorem HF {m p g b a:Pt}{D r:List Pt}(o:∀ q∈D,fn m q<fn m p)(O:Off m D p g b (a::r))(e:cr a b p<=0):Off m D p g a r:=by
 have h:fn m a<fn m b:=(pairwise_cons.mp O.dn).1 a mem_cons_self;refine⟨(pairwise_cons.mp O.dn).2,p8 O.cv,λq d=>Hr (O.lf q d),λx h=>O.sb x (mem_cons_of_mem _ h),by simpa using O.ls,λq d h=>?_⟩
 have u:0<=cr a b q:=(O.lf q d).1
 obtain h|h:=lt_or_le (fn m q) (fn m b)
 .have k:fn m a<fn m p:=o a (O.sb a (by simp))
  have i:=LJ m a b p q;have k:0<=(fn m p-fn m a)*cr a b q:=mul_nonneg ⋯ u
  have k:(fn m q-fn m a)*cr a b p<=0:=mul_nonpos_of_nonneg_of_nonpos ⋯ e
  exact lP (f:=fn m b-fn m a) ⋯ ⋯
 .have k:=O.ne q d h;have i:=LI a b p q;ext
theorem E3 (g:∀ q∈D,fn m q<fn m p):∀ (k:List Pt) (t:Pt),Off m D p i t k →
  ∃ d b,popTo p (t::k)=d::b/\Off m D p i d b/\∀ z r,b=z::r->0<cr z d p
 | [],t,O=>⟨t,[],rfl,O,λz r e=>nomatch e⟩
 |a::r,t,O=>by
  by_cases h:cr a t p<=0
  .obtain⟨d,b,e,o,u⟩:=E3 g r a (HF g O h);exact⟨d,b,by simp only[popTo,if_pos h];exact e,o,u⟩
  .refine⟨t,a::r,by simp only[popTo,if_neg h],O,λz b e=>?_⟩
   cases e;ext
theorem yO {m p:Pt}:∀ (k:List Pt) (t:Pt),Dn m (t::k)->vA (t::k)->(∀ x∈t::k,fn m x<fn m p)->(∀ z r,k=z::r->0<=cr z t p)->Lf p (t::k)
 | [],t,_,_,_,_=>trivial
 |z::r,t,hd,d,b,h=>by
  refine⟨h z r rfl,yO r z (pairwise_cons.mp hd).2 (p8 d) (λx a=>b x (mem_cons_of_mem _ a)) λy g e=>?_⟩;subst e;have o:0<cr y z t:=d.1;have a:fn m z<fn m t:=(pairwise_cons.mp hd).1 z mem_cons_self;have a:fn m y<fn m z:=(pairwise_cons.mp (pairwise_cons.mp hd).2).1 y mem_cons_self;have a:=b z (by simp)
  have i:=C9 m y z t p;have a:0<=(fn m p-fn m z)*cr y z t:=mul_nonneg ⋯ ⋯
  have a:0<=(fn m z-fn m y)*cr z t p:=mul_nonneg ⋯ (h z (y::g) rfl)
  exact lP (f:=fn m t-fn m z) ⋯ ⋯
structure Ch (m:Pt) (D:List Pt) (p0 t:Pt) (k:List Pt):Prop where
 dn:Dn m (t::k)
 cv:vA (t::k)
 lf:∀ q∈D,Lf q (t::k)
 sb:∀ x∈t::k,x∈D
 ls:(t::k).getLast?=some p0
 hi:∀ q∈D,q≠t->fn m q<fn m t
 lo:∀ q∈D,fn m p0<=fn m q
theorem GM {m p d t:Pt}{D k:List Pt}(C:Ch m D d t k)(v:∀ q∈D,fn m q<fn m p):∃ u,popTo p (t::k)=u/\Ch m (D++[p]) d p u:=by
 have O:Off m D p d t k:=⟨C.dn,C.cv,C.lf,C.sb,C.ls,λq a h=>by
  by_cases e:q=t
  .subst e;rw[t8];exact Int.le_refl _
  .have:=C.hi q a e;ext⟩
 obtain⟨b,u,e,o,E⟩:=E3 v k t O;have y:∀ q∈D,0<=cr b p q:=λq a=>by
  obtain h|h:=lt_or_le (fn m q) (fn m b)
  .cases u with
   |nil=>
    have:b=d:=by simpa using o.ls
    subst this;have:=C.lo q a;ext
   |cons z r=>
    have hz:=E z r rfl;have g:fn m z<fn m b:=(pairwise_cons.mp o.dn).1 z mem_cons_self;have B:0<=cr z b q:=(o.lf q a).1;have g:=v b (o.sb b (by simp))
    have i:=Da m z b p q;have g:0<=(fn m p-fn m b)*cr z b q:=mul_nonneg ⋯ B
    have g:(fn m q-fn m b)*cr z b p<=0:=wJ ⋯ ⋯
    exact lP (f:=fn m b-fn m z) ⋯ ⋯
  .exact o.ne q a h
 refine⟨_,e,pairwise_cons.mpr ⟨λx g=>v x (o.sb x g),o.dn⟩,?_,λq a=>?_,λx g=>?_,?_,λq a B=>?_,λq a=>?_⟩
 .cases u with
  |nil=>trivial
  |cons z r=>exact⟨E z r rfl,o.cv⟩
 .rcases mem_append.mp a with a|a
  .exact⟨y q a,o.lf q a⟩
  .obtain rfl:=mem_singleton.mp a;refine⟨by rw[rj];exact Int.le_refl _,yO (m:=m) u b o.dn o.cv (λx g=>v x (o.sb x g)) λz r e=>le_of_lt (E z r e)⟩
 .rcases mem_cons.mp g with rfl|g
  .simp
  .exact mem_append_left _ (o.sb x g)
 .have:=o.ls;simpa using this
 .rcases mem_append.mp a with a|a
  .exact v q a
  .exact absurd (mem_singleton.mp a) B
 .rcases mem_append.mp a with a|a
  .exact C.lo q a
  .obtain rfl:=mem_singleton.mp a;have hh:d∈D:=o.sb d (List.mem_of_getLast? o.ls);exact le_of_lt (v d hh)
theorem xJ:∀ (l D:List Pt) (t:Pt) (k:List Pt),Ch m D i t k->(D++l).Pairwise (λa b=>fn m a<fn m b) →
  ∃ d g,l.foldl (λk p=>p::popTo p k) (t::k)=d::g/\Ch m (D++l) i d g/\(l≠[]->l.getLast?=some d)/\(l=[]->d=t)
 | [],D,t,k,C,_=>⟨t,k,rfl,by simpa using C,λh=>absurd rfl h,λ_=>rfl⟩
 |p::l,D,t,k,C,o=>by
  have y:∀ q∈D,fn m q<fn m p:=λq r=>(List.pairwise_append.mp o).2.2 q r p mem_cons_self;obtain⟨g,e,r⟩:=GM C y;obtain⟨d,u,v,y,B,z⟩:=xJ l (D++[p]) p g r (by simpa using o)
  refine⟨d,u,by rw[foldl_cons,e];exact v,by simpa using y,λ_=>?_,λh=>nomatch h⟩
  cases l with
  |nil=>rw[z rfl];rfl
  |cons x l=>simpa using B (by simp)
theorem BC (hs:(p::l).Pairwise (λa b=>fn m a<fn m b)):∃ t k,rf (p::l)=t::k/\Ch m (p::l) p t k/\(p::l).getLast?=some t:=by
 have g:Ch m [p] p p []:=⟨List.pairwise_singleton _ _,trivial,λq h=>trivial,λx d=>d,rfl,λq h d=>absurd (mem_singleton.mp h) d,λq h=>by rw[mem_singleton.mp h];exact Int.le_refl _⟩
 obtain⟨t,k,e,C,h,d⟩:=xJ l [p] p [] g hs;refine⟨t,k,e,C,?_⟩
 cases l with
 |nil=>rw[d rfl];rfl
 |cons x l=>simpa using h (by simp)
theorem LH (m a v u w:Pt):(fn m a-fn m v)*cr u v w=(fn m w-fn m v)*cr u v a-(fn m v-fn m u)*cr v w a:=by unfold cr fn;grind
structure xy (m:Pt) (S C:List Pt):Prop where
 left:∀ i (h:i+1<C.length),∀ q∈S,0<=cr C[i] C[i+1] q
 conv:∀ i (h:i+2<C.length),0<cr C[i] C[i+1] C[i+2]
 up:∀ i j (hi:i<C.length) (hj:j<C.length),i<j->fn m C[i]<fn m C[j]
 sub:∀ x∈C,x∈S
 lo:∀ q∈S,∀ h:0<C.length,fn m C[0]<=fn m q
 hi:∀ q∈S,∀ h:C.length-1<C.length,fn m q<=fn m C[C.length-1]
theorem Dq:∀ (k:List Pt),Lf q k->∀ i (h:i+1<k.length),0<=cr k[i+1] k[i] q
 | [],_,i,h=>by simp at h
 | [a],_,i,h=>by simp at h
 |b::a::r,d,0,h=>d.1
 |b::a::r,d,i+1,h=>Dq (a::r) d.2 i (by simpa using h)
theorem t7:∀ (k:List Pt),vA k->∀ i (h:i+2<k.length),0<cr k[i+2] k[i+1] k[i]
 | [],_,i,h=>by simp at h
 | [a],_,i,h=>by simp at h
 | [a,b],_,i,h=>absurd h (by simp only[length_cons,length_nil];ext)
 |c::b::a::r,d,0,h=>d.1
 |c::b::a::r,d,i+1,h=>t7 (b::a::r) d.2 i (by simpa using h)
theorem t5 {m p t:Pt}{S k:List Pt}(C:Ch m S p t k):xy m S (t::k).reverse:=by
 have r:∀ i (h:i<(t::k).reverse.length),(t::k).reverse[i]=(t::k)[(t::k).length-1-i]'(by simp at h ⊢;ext):=λi h=>List.getElem_reverse h
 have b:=pairwise_iff_getElem.mp C.dn;refine⟨λi h q a=>?_,λi h=>?_,λi j hi g d=>?_,λx d=>C.sb x (List.mem_reverse.mp d),λq a h=>?_,λq a h=>?_⟩
 .rw[r,r];simp only[length_reverse]at h;have:=Dq _ (C.lf q a) ((t::k).length-1-(i+1)) ⋯
  have e:(t::k).length-1-(i+1)+1=(t::k).length-1-i:=⋯
  simpa only [e] using this
 .rw[r,r,r];simp only[length_reverse]at h;have:=t7 _ C.cv ((t::k).length-1-(i+2)) ⋯
  have e:(t::k).length-1-(i+2)+1=(t::k).length-1-(i+1):=⋯
  have d:(t::k).length-1-(i+2)+2=(t::k).length-1-i:=⋯
  simpa only [e,d] using this
 .rw[r,r];simp only[length_reverse]at hi g;exact b _ _ ⋯ ⋯ ⋯
 .have e:(t::k).reverse[0]=p:=by
   have b:=C.ls;rw[<-head?_reverse]at b;rw[head?_eq_getElem?,List.getElem?_eq_getElem h]at b;exact Option.some.inj b
  rw[e];exact C.lo q a
 .have e:(t::k).reverse[(t::k).reverse.length-1]=t:=by
   rw[r];simp
  rw[e]
  by_cases b:q=t
  .rw[b];exact Int.le_refl _
  .exact le_of_lt (C.hi q a b)
theorem strict {m J:Pt}{S C d:List Pt}(A:xy m S C)(q:xy J S d)(M:1<C.length)(E:1<d.length)(I:d[0]=C[C.length-1])(F:d[d.length-1]=C[0])
  (inj:∀ a∈S,∀ b∈S,fn m a=fn m b->a=b) {i:Nat} (hi:i+1<C.length) {v:Pt} (r:v∈C\/v∈d) (H:v≠C[i]) (L:v≠C[i+1]):0<cr C[i] C[i+1] v:=by
 have g:v∈S:=by
  obtain h|h:=r
  .exact A.sub v h
  .exact q.sub v h
 have o:C[i]∈S:=A.sub _ (getElem_mem _);have k:C[i+1]∈S:=A.sub _ (getElem_mem _);have p:=A.left i hi v g;have u:=A.up i (i+1) ⋯ hi ⋯
 obtain h|h:=Int.lt_or_eq_of_le p
 .exact h
 exfalso;have u:cr C[i] C[i+1] v=0:=h.symm;have p:fn m v≠fn m C[i]:=λe=>H (inj _ g _ o e);have p:fn m v≠fn m C[i+1]:=λe=>L (inj _ g _ k e)
 obtain p|p:=lt_or_le (fn m C[i+1]) (fn m v)
 .rcases lt_or_ge (i+2) C.length with p|p
  .have y:=A.conv i p
   have x:=A.left (i+1) p v g;have id:=C9 m C[i] C[i+1] C[i+2] v;rw[u,mul_zero]at id;have D:0<(fn m v-fn m C[i+1])*cr C[i] C[i+1] C[i+2]:=mul_pos ⋯ y
   have z:0<=(fn m C[i+1]-fn m C[i])*cr C[i+1] C[i+2] v:=mul_nonneg ⋯ x
   ext
  .have:=A.hi v g ⋯
   have e:C.length-1=i+1:=⋯
   simp only[e]at this;ext
 obtain B|B:=lt_or_le (fn m v) (fn m C[i])
 .cases i with
  |zero=>have:=A.lo v g ⋯;ext
  |succ i=>
   have y:=A.conv i ⋯
   have x:=A.left i ⋯ v g
   have g:=A.up i (i+1) ⋯ ⋯ ⋯
   have id:=Da m C[i] C[i+1] C[i+1+1] v;rw[u,mul_zero]at id;have D:0<=(fn m C[i+1+1]-fn m C[i+1])*cr C[i] C[i+1] v:=mul_nonneg ⋯ x
   have z:(fn m v-fn m C[i+1])*cr C[i] C[i+1] C[i+1+1]<0:=Int.mul_neg_of_neg_of_pos ⋯ y
   ext
 have g:fn m C[i]<fn m v:=⋯
 have y:fn m v<fn m C[i+1]:=⋯
 obtain r|r:=r
 .obtain⟨j,x,rfl⟩:=getElem_of_mem r
  obtain h|h|h:=lt_trichotomy j i
  .have:=A.up j i x ⋯ h;ext
  .subst h;ext
  .rcases lt_or_ge (i+1) j with B|B
   .have:=A.up (i+1) j hi x B;ext
   .have:j=i+1:=⋯
    subst this;ext
 .obtain⟨j,x,rfl⟩:=getElem_of_mem r;have x:j≠0:=λe=>by
   subst e;rw[I]at y;have:=A.hi C[i+1] k ⋯
   ext
  have x:j≠d.length-1:=λe=>by
   subst e;rw[F]at g;have:=A.lo C[i] o ⋯
   ext
  obtain⟨j,rfl⟩:∃ g,j=g+1:=⟨j-1,⋯⟩
  have p:j+2<d.length:=⋯
  have cv:=q.conv j p
  have y:=q.left j ⋯ C[i] o
  have x:=q.left j ⋯ C[i+1] k
  have g:=q.left (j+1) p C[i] o;have o:=q.left (j+1) p C[i+1] k;have p:=C8 m C[i] C[i+1] d[j+1] d[j] d[j+1];have k:=C8 m C[i] C[i+1] d[j+1] d[j+1] d[j+2];rw[u,rj,mul_zero,mul_zero]at p;rw[u,t8,mul_zero,mul_zero]at k;have D:0<=(fn m C[i+1]-fn m d[j+1])*cr d[j] d[j+1] C[i]:=mul_nonneg ⋯ y
  have z:0<=(fn m d[j+1]-fn m C[i])*cr d[j] d[j+1] C[i+1]:=mul_nonneg ⋯ x
  have k:0<=(fn m C[i+1]-fn m d[j+1])*cr d[j+1] d[j+2] C[i]:=mul_nonneg ⋯ g
  have g:0<=(fn m d[j+1]-fn m C[i])*cr d[j+1] d[j+2] C[i+1]:=mul_nonneg ⋯ o
  have z:cr d[j] d[j+1] C[i]=0:=by
   have:(fn m C[i+1]-fn m d[j+1])*cr d[j] d[j+1] C[i]=0:=⋯
   obtain h|h:=mul_eq_zero.mp this
   .ext
   .exact h
  have g:cr d[j+1] d[j+2] C[i]=0:=by
   have:(fn m C[i+1]-fn m d[j+1])*cr d[j+1] d[j+2] C[i]=0:=⋯
   obtain h|h:=mul_eq_zero.mp this
   .ext
   .exact h
  have k:=LH m C[i] d[j+1] d[j] d[j+2];rw[z,g,mul_zero,mul_zero]at k
  obtain h | h:=mul_eq_zero.mp (show(fn m C[i]-fn m d[j+1])*cr d[j] d[j+1] d[j+2]=0 by ext)
  .ext
  .ext
def NG (H:List Pt)(k:Nat)(a:k<H.length):Pt:=if h:k=0 then H[H.length-1] else H[k-1]
structure NR (S H:List Pt):Prop where
 left:∀ k (hk:k<H.length),∀ q∈S,0<=cr (NG H k hk) H[k] q
 strict:∀ k (hk:k<H.length),∀ v∈H,v≠NG H k hk->v≠H[k]->0<cr (NG H k hk) H[k] v
 sub:∀ x∈H,x∈S
 fst:∀ k (hk:k<H.length),0<k->H[k]≠H[0]
 two:∀ h:H.length=2,∀ q∈S,cr H[0] H[1] q=0/\∃ m:Pt,fn m H[0]<=fn m q/\fn m q<=fn m H[1]/\S.Pairwise λa b=>fn m a<fn m b
 len:2<=H.length
def mj (S:List Pt):List Pt:=(rf S).reverse.dropLast++(rf S.reverse).reverse.dropLast
def neg (m:Pt):Pt:=(-m.1,-m.2)
theorem rC (m p:Pt):fn (neg m) p=-fn m p:=by unfold fn neg;grind
theorem Fk (hs:(W::J::l).Pairwise (λa b=>fn m a<fn m b)):NR (W::J::l) (mj (W::J::l))/\∀ h:0<(mj (W::J::l)).length,(mj (W::J::l))[0]=W:=by
 obtain⟨t,k,e,C,o⟩:=BC hs;generalize g:W::J::l=S at *;have d:S.reverse.Pairwise (λa b=>fn (neg m) a<fn (neg m) b):=by
  rw[List.pairwise_reverse];exact hs.imp λh=>by rw[rC,rC];ext
 obtain⟨z,r,F⟩:∃ z r,S.reverse=z::r:=by
  cases h:S.reverse with
  |nil=>rw[List.reverse_eq_nil_iff]at h;rw[h]at g;exact nomatch g
  |cons z r=>exact⟨z,r,rfl⟩
 have hz:z=t:=by
  have E:S.reverse.head?=some z:=by rw[F];rfl
  rw[head?_reverse,o]at E;exact(Option.some.inj E).symm
 subst hz;rw[F]at d;obtain⟨p,I,P,y,o⟩:=BC d;have d:p=W:=by
  rw[<-F,List.getLast?_reverse,<-g]at o;exact(Option.some.inj o).symm
 subst d;have A:=t5 C;have Z:xy (neg m) S (p::I).reverse:=by
  have B:=t5 y;have hm:∀ q,q∈z::r↔q∈S:=λq=>by rw[<-F];exact List.mem_reverse
  exact⟨λi h q u=>B.left i h q ((hm q).mpr u),B.conv,B.up,λx hx=>(hm x).mp (B.sub x hx),λq u h=>B.lo q ((hm q).mpr u) h,λq u h=>B.hi q ((hm q).mpr u) h⟩
 have D:(z::k).reverse.head?=some p:=by rw[head?_reverse];exact C.ls
 have H:(p::I).reverse.head?=some z:=by rw[head?_reverse];exact y.ls
 have y:(z::k).reverse.getLast?=some z:=by rw[List.getLast?_reverse];rfl
 have o:(p::I).reverse.getLast?=some p:=by rw[List.getLast?_reverse];rfl
 have d:z∈S:=C.sb z mem_cons_self;have d:p∈S:=by rw[<-g];exact mem_cons_self
 have inj:∀ a∈S,∀ b∈S,fn m a=fn m b->a=b:=λa ha b hb M=>by
  obtain⟨i,hi,rfl⟩:=getElem_of_mem ha;obtain⟨j,O,rfl⟩:=getElem_of_mem hb;have d:=pairwise_iff_getElem.mp hs
  obtain h|h|h:=lt_trichotomy i j
  .have:=d i j hi O h;ext
  .subst h;rfl
  .have:=d j i O hi h;ext
 have O:p≠z:=λh=>by
  have E:J∈S:=by rw[<-g];simp
  have X:fn m p<fn m J:=by rw[<-g]at hs;exact(pairwise_cons.mp hs).1 J mem_cons_self
  by_cases R:J=z
  .rw[R,<-h]at X;ext
  .have:=C.hi J E R;rw[<-h]at this;ext
 have d:mj S=(z::k).reverse.dropLast++(p::I).reverse.dropLast:=by unfold mj;rw[e,F,P]
 rw[d];generalize (z::k).reverse=L at *;generalize (p::I).reverse=U at *;have d:∀ {l:List Pt}{a b:Pt},l.head?=some a->l.getLast?=some b->a≠b->1<l.length:=λ{l a b} E X R=>by
  match l with
  | []=>simp at E
  | [x]=>simp at E X;exact absurd (E.symm.trans X) R
  |_::_::_=>simp
 have hL:=d D y O;have hU:=d H o (Ne.symm O);have g:L[0]=p:=by rw[head?_eq_getElem?,List.getElem?_eq_getElem ⋯]at D;exact Option.some.inj D
 have F:U[0]=z:=by rw[head?_eq_getElem?,List.getElem?_eq_getElem ⋯]at H;exact Option.some.inj H
 have I:L[L.length-1]=z:=by rw[List.getLast?_eq_getElem?,List.getElem?_eq_getElem ⋯]at y;exact Option.some.inj y
 have H:U[U.length-1]=p:=by rw[List.getLast?_eq_getElem?,List.getElem?_eq_getElem ⋯]at o;exact Option.some.inj o
 have inj':∀ a∈S,∀ b∈S,fn (neg m) a=fn (neg m) b->a=b:=λa ha b hb M=>inj a ha b hb (by rw[rC,rC]at M;ext)
 have d:(L.dropLast++U.dropLast).length=L.length-1+(U.length-1):=by simp
 have o:∀ i (h:i<(L.dropLast++U.dropLast).length) (D:i<L.length-1),(L.dropLast++U.dropLast)[i]=L[i]:=λi h D=>by
  rw[getElem_append_left (by simpa using D),List.getElem_dropLast]
 have y:∀ i (h:i<(L.dropLast++U.dropLast).length) (D:L.length-1<=i),(L.dropLast++U.dropLast)[i]=U[i-(L.length-1)]'(by rw[d]at h;ext):=λi h D=>by
  rw[getElem_append_right (by simpa using D),List.getElem_dropLast]
  simp
 have Y:∀ v∈L.dropLast++U.dropLast,v∈L\/v∈U:=λv hv=>by
  obtain h|h:=mem_append.mp hv
  .exact .inl ((List.dropLast_sublist _).subset h)
  .exact .inr ((List.dropLast_sublist _).subset h)
 have Q:∀ k (M:k<(L.dropLast++U.dropLast).length),(∃ i,∃ hi:i+1<L.length,NG (L.dropLast++U.dropLast) k M=L[i]/\(L.dropLast++U.dropLast)[k]=L[i+1]) ∨
   (∃ i,∃ hi:i+1<U.length,NG (L.dropLast++U.dropLast) k M=U[i]/\(L.dropLast++U.dropLast)[k]=U[i+1]):=λk M=>by
  unfold NG
  by_cases h0:k=0
  .subst h0
   right
   refine⟨U.length-2,⋯,?_,?_⟩
   .rw[dif_pos rfl];simp only[d];rw[y _ _ ⋯]
    congr 1;ext
   .rw[o _ _ ⋯,g,<-H]
    congr 1;ext
  .rw[dif_neg h0]
   obtain h|h:=lt_or_ge (L.length-1) k
   .right
    refine⟨k-1-(L.length-1),⋯,?_,?_⟩
    .rw[y _ _ ⋯]
    .rw[y _ _ ⋯]
     congr 1;ext
   .left
    refine⟨k-1,⋯,?_,?_⟩
    .rw[o _ _ ⋯]
    .rcases lt_or_ge k (L.length-1) with D|D
     .rw[o _ _ D]
      congr 1;ext
     .have:k=L.length-1:=⋯
      subst this;rw[y _ _ ⋯]
      have P:L.length-1-(L.length-1)=0:=⋯
      have O:L.length-1-1+1=L.length-1:=⋯
      simp only[P,O];rw[F,I]
 refine⟨⟨λk M q u=>?_,λk M v hv E X=>?_,λx hx=>?_,λk M h0=>?_,λX q u=>?_,by rw[d];ext⟩,λh=>by rw[o _ _ ⋯,g]⟩
 .rcases Q k M with ⟨i,hi,O,P⟩|⟨i,hi,O,P⟩
  .rw[O,P];exact A.left i hi q u
  .rw[O,P];exact Z.left i hi q u
 .rcases Q k M with ⟨i,hi,O,P⟩|⟨i,hi,O,P⟩
  .rw[O,P];exact strict A Z hL hU (by rw[F,I]) (by rw[H,g]) inj hi (Y v hv) (by rw[<-O];exact E) (by rw[<-P];exact X)
  .rw[O,P];exact strict Z A hU hL (by rw[g,H]) (by rw[I,F]) inj' hi ((Y v hv).symm) (by rw[<-O];exact E) (by rw[<-P];exact X)
 .rcases Y x hx with h|h
  .exact A.sub x h
  .exact Z.sub x h
 .rw[o 0 ⋯ ⋯,g]
  obtain D|D:=lt_or_ge k (L.length-1)
  .rw[o _ _ D];intro R;have:=A.up 0 k ⋯ ⋯ h0
   rw[g,R]at this;ext
  .rw[y _ _ D];intro R;have:=Z.up (k-(L.length-1)) (U.length-1) (by rw[d]at M;ext) ⋯ (by rw[d]at M;ext)
   rw[H,R]at this;ext
 .have d:L.length=2:=⋯
  have D:U.length=2:=⋯
  have O:(L.dropLast++U.dropLast)[0]=p:=by rw[o _ _ ⋯,g]
  have M:(L.dropLast++U.dropLast)[1]=z:=by
   rw[y _ _ ⋯]
   simp only[d];exact F
  have E:=A.left 0 ⋯ q u
  have y:=Z.left 0 ⋯ q u
  have o:L[1]=z:=by simpa only [d] using I
  have d:U[1]=p:=by simpa only [D] using H
  simp only[zero_add]at E y;rw[g,o]at E;rw[F,d,GO]at y;rw[O,M];refine⟨⋯,m,?_,?_,hs⟩
  .have:=A.lo q u ⋯;rwa [g]at this
  .have:=A.hi q u ⋯;rwa [I]at this
def ck (p:Pt):T:=spT (eX p)
theorem kN (p:Pt):kM (ck p)=true:=rfl
theorem xo (h:SzF n p) (a:1<=n):eW n (eX p):=⟨⟨h.1,⟨by show 1<2 ^ n;exact Nat.one_lt_two_pow ⋯⟩⟩,h.2,⟨by show 1<2 ^ n;exact Nat.one_lt_two_pow ⋯⟩⟩
theorem _root_.DL.SzF.mono3 (h:SzF n p)(l:n<=m):SzF m p:=⟨h.1.mono l,h.2.mono l⟩
def kX:aO:=λb R=>∃ a:List Pt,b=[.t (.lst (a.map ck))]/\a.length<=1000/\(∀ p∈a,SzF 120 p)/\R (.ol ((rf a).reverse.map ck))
def ng:WS:=
 (aG (aP 1 (jC ap))
 (cq (h7 (bT (af 0)) (aQ 2) (cq (tG (FQ (iW (wB (AQ (dP cL (ae (af 1) ap)) (wC (.int 1)))) (wB (Rz (ax hZ (ae (av aU (af 1) (tN gI (wC (.int 2)))) (ae (av aU (af 1) (tN gI (wC (.int 1)))) (ae (af 2) ap)))) (wC (.int 0)))))) (IZ 1))
 (e5 1 (af 2))))
 (jQ 1)))
theorem yI:∀ k:List Pt,∀ x∈popTo p k,x∈k
 | [],x,h=>h
 | [b],x,h=>h
 |b::a::r,x,h=>by
  simp only[popTo]at h
  split at h
  .exact mem_cons_of_mem _ (yI (a::r) x h)
  .exact h
theorem sL:∀ k:List Pt,(popTo p k).length<=k.length
 | []=>le_refl _
 | [b]=>le_refl _
 |b::a::r=>by
  simp only[popTo]
  split
  .exact Nat.le_succ_of_le (sL (a::r))
  .exact le_refl _
theorem BD (l:List Pt)(p:Pt):rf (l++[p])=p::popTo p (rf l):=by unfold rf;rw[foldl_append];rfl
theorem uk (p:List Pt):∀ (k:List Pt),(∀ x∈p.foldl (λk p=>p::popTo p k) k,x∈k\/x∈p)/\(p.foldl (λk p=>p::popTo p k) k).length<=k.length+p.length:=by
 induction p with
 |nil=>exact λk=>⟨λx h=>.inl h,le_refl _⟩
 |cons a p i=>
  intro k;obtain⟨e,b⟩:=i (a::popTo a k);refine⟨λx d=>?_,?_⟩
  .rcases e x d with h|h
   .rcases mem_cons.mp h with rfl|h
    .exact .inr mem_cons_self
    .exact .inl (yI _ x h)
   .exact .inr (mem_cons_of_mem _ h)
  .have:=sL (p:=a) k;rw[foldl_cons];simp only[length_cons]at b ⊢;ext
theorem GL (l:List Pt):∀ x∈rf l,x∈l:=λx h=>((uk l []).1 x h).resolve_left (by simp)
theorem ku (l:List Pt):(rf l).length<=l.length:=by have:=(uk l []).2;simpa [rf] using this
theorem O4 (l:List T)(a b:T):atI (l++[a,b]) (-2)=some a:=by
 have e:su (l++[a,b]).length (-2)=some l.length:=by
  unfold su;rw[List.length_append,length_cons,length_cons,length_nil,if_neg ⋯,if_pos ⋯]
  congr 1;ext
 unfold atI;rw[e];simp
theorem Ox:vy (l++[ck b]) (-1) R=R (.t (ck b)):=by rw[gC (Bp l _),sF (kN b)]
theorem Oy:vy (l++[ck a,ck b]) (-2) R=R (.t (ck a)):=by rw[gC (O4 l _ _),sF (kN a)]
theorem EK:∀ y R,kX y R->ng {nx:=λ_=>R (.t .non),rt:=R} (aD ["spots","kept","spot"] y):=by
 rintro y R ⟨m,rfl,d,hz,h⟩;show ng _ [some (.t (.lst (m.map ck))),none,none]
 delta ng
 symm;refine⟨λi=>∃ r,i=[some (.t (.lst (m.map ck))),some (.ol ((rf m).reverse.map ck)),r],?_,?_⟩
 .refine⟨λq i=>∃ pre d r,m=pre++d/\q=d.map ck/\i=[some (.t (.lst (m.map ck))),some (.ol ((rf pre).reverse.map ck)),r],⟨[],m,_,rfl,rfl,rfl⟩,?_,?_⟩
  .rintro i ⟨pre,d,r,o,g,rfl⟩;have:d=[]:=by simpa using g.symm
   subst this;rw[append_nil]at o;subst o;exact⟨r,rfl⟩
  .rintro x q i ⟨pre,d,r,o,g,rfl⟩
   cases d with
   |nil=>cases g
   |cons p d=>
    rw[map_cons]at g
    cases g
    have u:SzF 120 p:=hz p (by rw[o];simp)
    have z:∀ x∈rf pre,SzF 120 x:=λx v=>hz x (by rw[o];exact mem_append_left _ (GL pre x v))
    have g:(rf pre).length<=1000:=by
     have:=ku pre;have:m.length=pre.length+(d.length+1):=by rw[o];simp
     ext
    symm;refine⟨λi=>i=[some (.t (.lst (m.map ck))),some (.ol ((popTo p (rf pre)).reverse.map ck)),some (.t (ck p))],?_,?_⟩
    .refine⟨λn i=>∃ k,k.length=n/\popTo p k=popTo p (rf pre)/\(∀ x∈k,SzF 120 x)/\i=[some (.t (.lst (m.map ck))),some (.ol (k.reverse.map ck)),some (.t (ck p))],⟨_,rf pre,rfl,rfl,z,rfl⟩,?_⟩;rintro n i ⟨k,q,g,z,rfl⟩;have base:popTo p k=k->(λi=>i=[some (S.t (.lst (m.map ck))),some (.ol ((popTo p (rf pre)).reverse.map ck)),some (.t (ck p))]) [some (.t (.lst (m.map ck))),some (.ol (k.reverse.map ck)),some (.t (ck p))]:=λe=>by
      rw[<-g,e]
     match k,q,g,z,base with
     | [],q,g,z,base=>
      refine⟨λk=>k=false,?_,?_⟩
      .symm
       first|trivial|(rw[if_neg (by simp)];trivial)
      .rintro k rfl;rw[if_neg ⋯]
       exact base rfl
     | [b],q,g,z,base=>
      refine⟨λk=>k=false,?_,?_⟩
      .symm
       first|trivial|(rw[if_neg (by simp)];trivial)
      .rintro k rfl;rw[if_neg ⋯]
       exact base rfl
     |b::a::r,q,g,z,base=>
      have y:(b::a::r).reverse.map ck=(r.reverse.map ck)++[ck a,ck b]:=by simp
      have m:(b::a::r).reverse.map ck=((a::r).reverse.map ck)++[ck b]:=by simp
      refine⟨λk=>k=decide (cr a b p<=0),?_,?_⟩
      .symm;rw[if_pos (by simp;ext)]
       symm;rw[y,Oy];symm;rw[<-y,m,Ox];symm;refine⟨eX a,eX b,eX p,rfl,xo ((z a (by simp)).mono3 ⋯) ⋯,xo ((z b (by simp)).mono3 ⋯) ⋯,xo (u.mono3 ⋯) ⋯,?_⟩
       symm;rw[show tx (eX a) (eX b) (eX p)=cr a b p from Nb a b p]
      .rintro k rfl
       by_cases u:cr a b p<=0
       .rw[if_pos (by simpa using u)]
        symm;refine⟨by simp,r.length+1,by simp at q;ext,a::r,rfl,?_,λx v=>z x (mem_cons_of_mem _ v),?_⟩
        .rw[<-g];simp only[popTo,if_pos u]
        .rw[m,List.dropLast_concat]
       .rw[if_neg (by simpa using u)]
        exact base (by simp only[popTo,if_neg u])
    .rintro i rfl;symm;refine⟨?_,pre++[p],d,some (.t (ck p)),by rw[o];simp,rfl,?_⟩
     .rw[length_map,length_reverse];have:=sL (p:=p) (rf pre);ext
     .rw[BD,reverse_cons,map_append];rfl
 .rintro i ⟨r,rfl⟩;symm;exact h
def E2 (p:Pt):List Int:=[p.1,p.2]
def cS (a b:Pt):Prop:=a.1<b.1\/(a.1=b.1/\a.2<b.2)
def bO (S:List Pt):List Pt:=if S.length<2 then S else mj S
def SetOf (ps S:List Pt):Prop:=(∀ p∈S,p∈ps)/\(∀ p∈ps,p∈S)/\S.Pairwise cS
theorem LX (a b:Pt):ST.lexB (E2 a) (E2 b)=true↔cS a b:=by
 unfold cS E2;simp only[ST.lexB]
 by_cases h:a.1=b.1
 .rw[if_pos h]
  by_cases d:a.2=b.2
  .rw[if_pos d];constructor
   .intro h;cases h
   .intro h;omega
  .rw[if_neg d,decide_eq_true_eq];omega
 .rw[if_neg h,decide_eq_true_eq];omega
theorem yG {ps:List Pt}:∀ ns:List (List Int),(∀ k∈ns,k∈ps.map E2)->∃ S:List Pt,ns=S.map E2/\∀ p∈S,p∈ps
 | [],_=>⟨[],rfl,λp a=>by cases a⟩
 |k::ns,h=>by
  obtain⟨S,e,d⟩:=yG ns λk b=>h k (mem_cons_of_mem _ b);obtain⟨p,a,rfl⟩:=mem_map.mp (h k mem_cons_self);exact⟨p::S,by rw[e];rfl,λq b=>by
   obtain rfl|b:=mem_cons.mp b
   .exact a
   .exact d q b⟩
theorem MD (h:E2 a=E2 b):a=b:=by
 unfold E2 at h;simp only[List.cons.injEq,and_true]at h;exact Prod.ext h.1 h.2
def k4:aO:=λb R=>∃ a:List Pt,b=[.t (.lst (a.map aZ))]/\a.length<=63/\(∀ p∈a,SzF 120 p)/\∀ S:List Pt,SetOf a S->R (.ol ((bO S).map ck))
def tI:WS:=
 (aG (aP 1 (dm 1 [] (bT (lc (af 0))) (aQ 0) kg (ax fv (ae (af 0) ap))))
 (aG (f5 (wB (y9 (dP cL (ae (af 1) ap)) (wC (.int 2)))) (jQ 1) br)
 (aG (aP 2 (ax kX (ae (af 1) ap)))
 (aG (aP 3 (ax kX (ae (o6 (af 1)) ap)))
 (bh (av zO (i0 (af 2) iZ (mu (tN gI (wC (.int 1))))) (i0 (af 3) iZ (mu (tN gI (wC (.int 1)))))))))))
theorem qf {S:List Pt}(h:S.Pairwise cS):S.Nodup:=h.imp λh e=>by subst e;unfold cS at h;omega
theorem kz (ts:List T):iz ts none (some (-1))=ts.dropLast:=by
 unfold iz;show(ts.drop 0).take (HT.sIx ts.length ts.length (some (-1))-0)=_;have:HT.sIx ts.length ts.length (some (-1))=ts.length-1:=by
  show(if (-1:Int)<0 then ((-1:Int)+(ts.length:Int)).toNat else min (-1:Int).toNat ts.length)=_
  rw[if_pos ⋯];omega
 rw[this,List.dropLast_eq_take];simp
theorem HI:∀ i R,k4 i R->tI {nx:=λ_=>R (.t .non),rt:=R} (aD ["points","spots","under","above"] i):=by
 rintro i R ⟨b,rfl,i,hz,h⟩;show tI _ [some (.t (.lst (b.map aZ))),none,none,none]
 delta tI
 symm;refine⟨2,b.map E2,⋯,by rw[map_map];rfl,λk k=>by obtain⟨p,_,rfl⟩:=mem_map.mp k;rfl,by rw[length_map];omega,λns a m _ d=>?_⟩
 replace d:=d (by rw[length_map];exact i)
 obtain⟨S,rfl,k⟩:=yG ns a;have a:SetOf b S:=⟨k,λp b=>by
  obtain⟨q,o,e⟩:=mem_map.mp (m (E2 p) (mem_map.mpr ⟨p,b,rfl⟩));rw[<-MD e];exact o,by
  rw[pairwise_map]at d;exact d.imp λh=>(LX _ _).mp h⟩
 have d:S.length<=63:=le_trans (List.Nodup.length_le_of_subset (qf a.2.2) a.1) i;have z:∀ p∈S,SzF 120 p:=λp b=>hz p (k p b);have e:(S.map E2).map mE=S.map aZ:=by rw[map_map];rfl
 rw[e];symm;refine eD (h:=ck) (λd=>∃ r,d=[r]) (λp _=>kN p) (by omega) ⟨_,rfl⟩ ?_ ?_
 .rintro p b d ⟨r,rfl⟩ Y y;symm;refine⟨p,rfl,?_⟩;symm;exact y _ ⟨_,rfl⟩
 have d:=h S a;unfold bO at d;symm
 by_cases a:S.length<2
 .rw[if_pos a]at d;rw[if_pos (by rw[length_map];omega)]
  symm;exact d
 .rw[if_neg a]at d;rw[if_neg (by rw[length_map];omega)]
  symm;refine⟨S,rfl,by omega,z,?_⟩
  have u:∀ l:List Pt,cI (l.map ck)=true:=bp λp=>kN p;have g:∀ l:List Pt,got (.ol (l.map ck))=.ol (l.map ck):=λl=>de _ (u l);dsimp only;rw[g];symm;refine⟨u S,S.reverse,by rw[List.map_reverse],by rw[length_reverse];omega,λp b=>z p (List.mem_reverse.mp b),?_⟩
  dsimp only;rw[g];symm;refine⟨u _,u _,?_,?_⟩
  .rw[kz,kz,length_dropLast,length_dropLast,length_map,length_map,length_reverse,length_reverse];have a:=ku S;have a:=ku S.reverse;rw[length_reverse]at a;omega
  .rw[kz,kz,<-List.map_dropLast,<-List.map_dropLast,<-map_append];exact d
def a8 (a b c:Hf):Int:=a.1*(b.2.1*c.2.2-c.2.1*b.2.2)-a.2.1*(b.1*c.2.2-c.1*b.2.2)+a.2.2*(b.1*c.2.1-c.1*b.2.1)
def kj (a b:Hf):Bool:=if a.1*b.2.2≠b.1*a.2.2 then decide (a.1*b.2.2<b.1*a.2.2) else decide (a.2.1*b.2.2<b.2.1*a.2.2)
def qP (s:Fr):Prop:=0<s.2/\Int.gcd s.1 s.2=1
def bH (s:aS):Prop:=qP s.1/\qP s.2
def dh {α:Type}(H:List α)(k:Nat)(a:k<H.length):α:=if h:k=0 then H[H.length-1] else H[k-1]
structure J6 (F:List Hf):Prop where
 fst:∀ k (hk:k<F.length),0<k->kj F[0] F[k]=true
 trn:2<F.length->∀ k (hk:k<F.length),∀ v∈F,v≠F[k]->v≠dh F k hk->0<a8 (dh F k hk) F[k] v
structure bV (F:List Hf) (q:Hf):Prop where
 ne:0<F.length
 few:F.length<3->a8 F[0] F[F.length-1] q=0/\kj q F[0]=false/\kj F[F.length-1] q=false
 all:3<=F.length->∀ k (hk:k<F.length),0<=a8 (dh F k hk) F[k] q
theorem k9 (h:dy n s)(l:n<=m):dy m s:=⟨h.1.mono l,h.2.1.mono l,h.2.2.mono l⟩
theorem oE (h:k<F.length):dh F k h∈F:=by
 unfold dh
 split <;> exact getElem_mem _
theorem x5 {α:Type}{f:α->T}{l:List α}{g:WG}{k:WS}{D:nt}{b:bf}(M:bf->Prop)(m:M b)(e:∀ b,M b->D.nx b)
  (step:∀ a∈l,∀ b,M b->∀ N:bf->Prop,(∀ d,M d->N d)->g (f a) b λd=>k {nx:=N,rt:=D.rt,bk:=D.nx,ct:=N} d):wq g k (l.map f) D b:=by
 refine⟨λi b=>(∀ t∈i,∃ a∈l,t=f a)/\M b,⟨λt i=>?_,m⟩,λb h=>e b h.2,?_⟩
 .obtain⟨a,ha,rfl⟩:=mem_map.mp i;exact⟨a,ha,rfl⟩
 .rintro x r b ⟨i,o⟩;obtain⟨a,ha,rfl⟩:=i x mem_cons_self;exact step a ha b o _ λd o=>⟨λt d=>i t (mem_cons_of_mem _ d),o⟩
set_option maxHeartbeats 4000000
theorem mH (h:Int.gcd a b=1)(hd:b ∣ a*c):b ∣ c:=by
 have d:b.natAbs ∣ a.natAbs*c.natAbs:=by rw[<-Int.natAbs_mul];exact natAbs_dvd_natAbs.mpr hd
 have e:Nat.Coprime b.natAbs a.natAbs:=by
  rw[Nat.coprime_comm];exact h
 exact natAbs_dvd_natAbs.mp (e.dvd_of_dvd_mul_left d)
theorem x6 (g:qP p)(i:qP q)(h:p.1*q.2=q.1*p.2):p=q:=by
 obtain⟨a,b⟩:=g;obtain⟨a,a⟩:=i;have d:p.2 ∣ q.2:=mH b ⟨q.1,by rw[h,mul_comm]⟩
 have b:q.2 ∣ p.2:=mH a ⟨p.1,by rw[<-h,mul_comm]⟩
 have e:p.2=q.2:=Int.dvd_antisymm ⋯ ⋯ d b
 rw[e]at h;have:=eq_of_mul_eq_mul_right ⋯ h
 exact Prod.ext this e
theorem K3 (hb:b≠0):lv a b≠0:=by
 have:=gK (a:=a) (.inr hb);unfold lv
 split <;> ext
theorem xL (a b:Int):lv a b ∣ a/\lv a b ∣ b:=by
 unfold lv
 split
 .exact⟨Int.neg_dvd.mpr (gcd_dvd_left _ _),Int.neg_dvd.mpr (gcd_dvd_right _ _)⟩
 .exact⟨gcd_dvd_left _ _,gcd_dvd_right _ _⟩
theorem Jp (hb:b≠0):qP (tM a b):=by
 have p:=K3 (a:=a) hb;obtain⟨m,r⟩:=xL a b;have g:=cM m;have e:=cM r;unfold tM qP;dsimp only;generalize a.fdiv (lv a b)=x at g ⊢;generalize b.fdiv (lv a b)=y at e ⊢;constructor
 .have o:(b<0/\lv a b<0)\/(0<b/\0<lv a b):=by
   have:=gK (a:=a) (.inr hb);unfold lv at p ⊢
   split <;> rename_i h <;> first | (left;ext) | (right;ext)
  obtain⟨q,d⟩|⟨q,d⟩:=o
  .rcases lt_or_le 0 y with z|z
   .exact z
   .have:=mul_nonneg_of_nonpos_of_nonpos z (le_of_lt d);ext
  .rcases lt_or_le 0 y with z|z
   .exact z
   .have:=mul_nonpos_of_nonpos_of_nonneg z (le_of_lt d);ext
 .have i:Int.gcd a b=Int.gcd x y*(lv a b).natAbs:=by
   have:=Int.gcd_mul_right x (lv a b) y;rw[g,e]at this;exact this
  have en:(lv a b).natAbs=Int.gcd a b:=by
   unfold lv
   split
   .rw[Int.natAbs_neg,Int.natAbs_natCast]
   .rw[Int.natAbs_natCast]
  rw[en]at i;have k:0<Int.gcd a b:=by have:=gK (a:=a) (.inr hb);ext
  exact(Nat.eq_of_mul_eq_mul_right k (by rw[Nat.one_mul];exact i)).symm
def ND (p q:Fr):Bool:=decide (p.1*q.2<q.1*p.2)
def FP (p q:aS):Bool:=if p.1=q.1 then ND p.2 q.2 else ND p.1 q.1
theorem ow {a b c:Int}(d:0<c):a*c<b*c↔a<b:=⟨λh=>Int.lt_of_mul_lt_mul_right h (le_of_lt d),λh=>Int.mul_lt_mul_of_pos_right h d⟩
theorem oo {p q:aS}(i:bH p)(k:bH q):FP p q=kj (ah p) (ah q):=by
 obtain⟨⟨a,x⟩,⟨o,y⟩⟩:=p;obtain⟨⟨b,u⟩,⟨m,v⟩⟩:=q;have z:0<x:=i.1.1;have g:0<y:=i.2.1;have r:0<u:=k.1.1;have B:0<v:=k.2.1;have d:0<y*v:=mul_pos g B;have g:0<x*u:=mul_pos z r;unfold FP kj ah ND;dsimp only;have z:a*y*(u*v)=(a*u)*(y*v):=by grind
 have r:b*v*(x*y)=(b*x)*(y*v):=by grind
 have B:o*x*(u*v)=(o*v)*(x*u):=by grind
 have o:m*u*(x*y)=(m*y)*(x*u):=by grind
 rw[z,r,B,o]
 by_cases e:((a,x):Fr)=(b,u)
 .rw[if_pos e];have o:a=b:=congrArg Prod.fst e;have m:x=u:=congrArg Prod.snd e;subst o;subst m;rw[if_neg (by simp)]
  exact decide_eq_decide.mpr (ow g).symm
 .rw[if_neg e];have g:a*u*(y*v)≠b*x*(y*v):=λh=>e (x6 i.1 k.1 (eq_of_mul_eq_mul_right ⋯ h))
  rw[if_pos g];exact decide_eq_decide.mpr (ow d).symm
theorem FB (a b c:aS):tx a b c=a8 (ah a) (ah b) (ah c):=by
 unfold tx a9 Qg a8 ah;dsimp only;grind
set_option maxHeartbeats 1000000
theorem aX (a b c:Hf):a8 a b c=a8 b c a:=by unfold a8;grind
theorem nN (a b:Hf):a8 a a b=0:=by unfold a8;grind
theorem fN (a b:Hf):a8 a b a=0:=by unfold a8;grind
theorem dX (a b:Hf):a8 a b b=0:=by unfold a8;grind
theorem xW (a b c:Hf):a8 a c b=-a8 a b c:=by unfold a8;grind
theorem OJ (a e b c d:Hf):a8 a e c*a8 a b d=a8 a e b*a8 a c d+a8 a e d*a8 a b c:=by unfold a8;grind
def tL (u p q:Hf):Prop:=∃ d b a:Int,0<d/\0<b/\0<a/\d*u.1=b*p.1+a*q.1/\d*u.2.1=b*p.2.1+a*q.2.1/\d*u.2.2=b*p.2.2+a*q.2.2
theorem gq (u:Hf):tL u u u:=⟨2,1,1,⋯,⋯,⋯,⋯,⋯,⋯⟩
theorem sD (b:κ*u.1=α*p.1+β*q.1)(e:κ*u.2.1=α*p.2.1+β*q.2.1)(a:κ*u.2.2=α*p.2.2+β*q.2.2)(v w:Hf):κ*a8 u v w=α*a8 p v w+β*a8 q v w:=by
 unfold a8;have h:κ*(u.1*(v.2.1*w.2.2-w.2.1*v.2.2)-u.2.1*(v.1*w.2.2-w.1*v.2.2)+u.2.2*(v.1*w.2.1-w.1*v.2.1))=κ*u.1*(v.2.1*w.2.2-w.2.1*v.2.2)-κ*u.2.1*(v.1*w.2.2-w.1*v.2.2)+κ*u.2.2*(v.1*w.2.1-w.1*v.2.1):=by grind
 rw[h,b,e,a];grind
theorem dA {κ x:Int}(k:0<κ)(h:0<κ*x):0<x:=by
 obtain z|z:=lt_or_le 0 x
 .exact z
 .have:=mul_nonpos_of_nonneg_of_nonpos (le_of_lt k) z;ext
theorem cT {κ x:Int}(k:0<κ)(h:0<=κ*x):0<=x:=by
 obtain z|z:=lt_or_le x 0
 .have:=mul_neg_of_pos_of_neg k z;ext
 .exact z
theorem sE {u p q:Hf}(h:tL u p q)(v w:Hf)(a:0<=a8 p v w)(d:0<=a8 q v w):0<=a8 u v w:=by
 obtain⟨b,b,b,k,i,o,g,m,b⟩:=h;have e:=sD g m b v w;have x:=mul_nonneg (le_of_lt i) a;have x:=mul_nonneg (le_of_lt o) d;exact cT k ⋯
theorem mP {u p q:Hf}(h:tL u p q)(v w:Hf)(g:0<=a8 p v w)(m:0<=a8 q v w)(a:0<a8 p v w\/0<a8 q v w):0<a8 u v w:=by
 obtain⟨b,b,b,k,b,d,o,r,i⟩:=h;have e:=sD o r i v w;have x:=mul_nonneg (le_of_lt b) g;have x:=mul_nonneg (le_of_lt d) m;refine dA k ?_
 obtain a|a:=a
 .have:=mul_pos b a;ext
 .have:=mul_pos d a;ext
theorem ou (h:tL u p q):a8 p q u=0:=by
 obtain⟨g,a,a,k,a,b,b,d,a⟩:=h;have e:=sD b d a p q;rw[nN,fN,mul_zero,mul_zero,aX u p q]at e
 obtain z | z:=mul_eq_zero.mp (show g*a8 p q u=0 by ext)
 .ext
 .exact z
theorem QT (H:tL u p g)(E:tL v q d)(F:tL w r m)(n:∀ x,x=p\/x=g->∀ y,y=q\/y=d->∀ z,z=r\/z=m->0<=a8 x y z)
  (s:∃ x y z,(x=p\/x=g)/\(y=q\/y=d)/\(z=r\/z=m)/\0<a8 x y z):0<a8 u v w:=by
 obtain⟨a,k,b,h,b,B,D⟩:=s;have o:∀ x,x=p\/x=g->∀ y,y=q\/y=d->0<=a8 x y w:=λx i y C=>by
  rw[<-aX w x y];refine sE F x y ?_ ?_
  .rw[aX];exact n x i y C r (.inl rfl)
  .rw[aX];exact n x i y C m (.inr rfl)
 have C:0<a8 a k w:=by
  rw[<-aX w a k];refine mP F a k ?_ ?_ ?_
  .rw[aX];exact n a h k b r (.inl rfl)
  .rw[aX];exact n a h k b m (.inr rfl)
  .rcases B with e|e
   .left;rw[aX,<-e];exact D
   .right;rw[aX,<-e];exact D
 have k:∀ x,x=p\/x=g->0<=a8 x v w:=λx i=>by
  rw[aX];refine sE E w x ?_ ?_
  .rw[<-aX];exact o x i q (.inl rfl)
  .rw[<-aX];exact o x i d (.inr rfl)
 have pv:0<a8 a v w:=by
  rw[aX];refine mP E w a ?_ ?_ ?_
  .rw[<-aX];exact o a h q (.inl rfl)
  .rw[<-aX];exact o a h d (.inr rfl)
  .rcases b with e|e
   .left;rw[<-aX,<-e];exact C
   .right;rw[<-aX,<-e];exact C
 refine mP H v w (k p (.inl rfl)) (k g (.inr rfl)) ?_
 obtain e|e:=h
 .left;rw[<-e];exact pv
 .right;rw[<-e];exact pv
def pe (P:Nat->Hf)(n:Nat):Prop:=∀ a b c,a<b->b<c->c<n->0<a8 (P a) (P b) (P c)
def bt (n i:Nat):Nat:=if i=0 then n-1 else i-1
theorem wk (h:pe P n)(i:a<=b)(k:b<=c)(g:c<n):0<=a8 (P a) (P b) (P c):=by
 obtain e|e:=lt_or_ge a b
 .rcases lt_or_ge b c with d|d
  .exact le_of_lt (h a b c e d g)
  .have:b=c:=⋯
   rw[this,dX];exact Int.le_refl _
 .have:a=b:=⋯
  rw[this,nN];exact Int.le_refl _
theorem RZ (h:pe P n)(a:b<=c)(d:c<n):0<=a8 (P (n-1)) (P b) (P c):=by
 rw[aX];exact wk h a ⋯ ⋯
def lo (n:Nat)(s:Bool)(i:Nat):Nat:=if s=true then bt n i else i
theorem oj (h:a=lo n s i\/a=i):a=i\/(s=true/\a=bt n i):=by
 unfold lo at h
 cases s with
 |true=>
      obtain h|h:=h
      .exact .inr ⟨rfl,by simpa using h⟩
      .exact .inl h
 |false=>
       obtain h|h:=h
       .exact .inl (by simpa using h)
       .exact .inl h
theorem Rc (W:3<=n)(g:pe P n)(O:tL u (P (lo n d i)) (P i))(M:tL v (P (lo n p j)) (P j))(U:tL w (P (lo n q k)) (P k))(E:k<n)
  (J:i<j\/(i=j/\d=true/\p=false)) (H:j<k\/(j=k/\p=true/\q=false))
  (Q:d=true->i=j->q=false->k≠bt n i) (R:p=true->j=k->d=false->i≠bt n j):0<a8 u v w:=by
 refine QT O M U ?_ ?_
 .intro x r y o z hz;obtain⟨a,rfl,ha⟩:∃ a,x=P a/\(a=lo n d i\/a=i):=r.elim (λe=>⟨_,e,.inl rfl⟩) (λe=>⟨_,e,.inr rfl⟩);obtain⟨b,rfl,hb⟩:∃ b,y=P b/\(b=lo n p j\/b=j):=o.elim (λe=>⟨_,e,.inl rfl⟩) (λe=>⟨_,e,.inr rfl⟩);obtain⟨c,rfl,B⟩:∃ c,z=P c/\(c=lo n q k\/c=k):=hz.elim (λe=>⟨_,e,.inl rfl⟩) (λe=>⟨_,e,.inr rfl⟩);have ha:=oj ha;have hb:=oj hb;have B:=oj B;have o:i<=b/\b<=j:=by
   obtain h|⟨h,o⟩:=hb
   .ext
   .rcases J with l|⟨_,_,l⟩
    .unfold bt at o;rw[if_neg ⋯]at o;ext
    .rw[h]at l;cases l
  have r:b<=c/\c<=k:=by
   obtain h|⟨h,o⟩:=B
   .ext
   .rcases H with l|⟨_,_,l⟩
    .unfold bt at o;rw[if_neg ⋯]at o;ext
    .rw[h]at l;cases l
  obtain h|⟨h,o⟩:=ha
  .exact wk g ⋯ r.1 ⋯
  .unfold bt at o
   split at o
   .rw[o];exact RZ g r.1 ⋯
   .exact wk g ⋯ r.1 ⋯
 .have o:∀ (s:Bool) (m:Nat),s=true->lo n s m=bt n m:=λs m h=>by unfold lo;rw[if_pos h]
  obtain D|⟨L,I,F⟩:=J
  .rcases H with r|⟨C,B,X⟩
   .exact⟨P i,P j,P k,.inr rfl,.inr rfl,.inr rfl,g i j k D r E⟩
   .have r:lo n p j=j-1:=by rw[o p j B];unfold bt;rw[if_neg ⋯]
    by_cases h:i<j-1
    .exact⟨P i,P (j-1),P k,.inr rfl,.inl (by rw[r]),.inr rfl,g i (j-1) k h ⋯ E⟩
    .have hi:i=j-1:=⋯
     have D:d=true:=by
      cases d with
      |true=>rfl
      |false=>exact absurd (by unfold bt;rw[if_neg ⋯];exact hi) (R B C rfl)
     by_cases B:i=0
     .refine⟨P (n-1),P (j-1),P k,.inl (by rw[o d i D];unfold bt;rw[if_pos B]),.inl (by rw[r]),.inr rfl,?_⟩
      rw[aX];exact g (j-1) k (n-1) ⋯ ⋯ ⋯
     .exact⟨P (i-1),P (j-1),P k,.inl (by rw[o d i D];unfold bt;rw[if_neg B]),.inl (by rw[r]),.inr rfl,g (i-1) (j-1) k ⋯ ⋯ E⟩
  .have C:j<k:=by
    obtain l|⟨_,f,_⟩:=H
    .exact l
    .rw[f]at F;cases F
   by_cases B:i=0
   .have r:lo n d i=n-1:=by rw[o d i I];unfold bt;rw[if_pos B]
    by_cases F:k<n-1
    .refine⟨P (n-1),P j,P k,.inl (by rw[r]),.inr rfl,.inr rfl,?_⟩
     rw[aX];exact g j k (n-1) C F ⋯
    .have D:q=true:=by
      cases q with
      |true=>rfl
      |false=>exact absurd (by unfold bt;rw[if_pos B];ext) (Q I L rfl)
     refine⟨P (n-1),P j,P (k-1),.inl (by rw[r]),.inr rfl,.inl (by rw[o q k D];unfold bt;rw[if_neg ⋯]),?_⟩
     rw[aX];exact g j (k-1) (n-1) ⋯ ⋯ ⋯
   .exact⟨P (i-1),P j,P k,.inl (by rw[o d i I];unfold bt;rw[if_neg B]),.inr rfl,.inr rfl,g (i-1) j k ⋯ C E⟩
theorem di (h:pe P n)(d:k<n)(e:j<n)(g:j≠k)(b:j≠bt n k):0<a8 (P (bt n k)) (P k) (P j):=by
 unfold bt at *
 split at b
 .rename_i a;rw[if_pos a,aX];exact h k j (n-1) ⋯ ⋯ ⋯
 .rename_i a;rw[if_neg a]
  obtain l|l:=lt_or_ge j k
  .rw[<-aX];exact h j (k-1) k ⋯ ⋯ d
  .exact h (k-1) k j ⋯ ⋯ e
theorem gG (b:pe P n)(d:k<n)(e:j<n):0<=a8 (P (bt n k)) (P k) (P j):=by
 by_cases h:j=k
 .rw[h,dX];exact Int.le_refl _
 .by_cases a:j=bt n k
  .rw[a,fN];exact Int.le_refl _
  .exact le_of_lt (di b d e h a)
theorem JM (u:3<=n)(p:pe P n)(hi:i<n)(o:j<n)(h:i≠j):P i≠P j:=λe=>by
 obtain⟨m,hm,g,k⟩:∃ m,m<n/\m≠i/\m≠j:=by
  by_cases a:0≠i/\0≠j
  .exact⟨0,⋯,a⟩
  .by_cases b:1≠i/\1≠j
   .exact⟨1,⋯,b⟩
   .exact⟨2,⋯,⋯,⋯⟩
 have d:∀ a b c,a<b->b<c->c<n->P a=P b\/P b=P c\/P a=P c->False:=λa b c g k r e=>by
  have:=p a b c g k r
  obtain e|e|e:=e
  .rw[e,nN]at this;ext
  .rw[e,dX]at this;ext
  .rw[e,fN]at this;ext
 obtain l|l|l:=lt_trichotomy i j
 .rcases lt_or_ge m i with q|q
  .exact d m i j q l o (.inr (.inl e))
  .rcases lt_or_ge m j with g|g
   .exact d i m j ⋯ g o (.inr (.inr e))
   .exact d i j m l ⋯ hm (.inl e)
 .exact h l
 .rcases lt_or_ge m j with q|q
  .exact d m j i q l hi (.inr (.inl e.symm))
  .rcases lt_or_ge m i with g|g
   .exact d j m i ⋯ g hi (.inr (.inr e.symm))
   .exact d j i m l ⋯ hm (.inl e.symm)
theorem cA (h:k<n):bt n k<n:=by unfold bt;split <;> ext
theorem gU (h:3<=n)(a:k<n):bt n k≠k/\bt n (bt n k)≠k/\bt n (bt n k)≠bt n k:=by
 unfold bt;refine⟨?_,?_,?_⟩
 .split <;> ext
 .split
  .split <;> ext
  .split <;> ext
 .split
  .split <;> ext
  .split <;> ext
def qR (F:List Hf):Prop:=∀ a b c (_:a<b) (_:b<c) (h:c<F.length),0<a8 F[a] F[b] F[c]
theorem AM {α:Type}{R:α->α->Prop}{f:α->Hf}{L:List α}(p:L.Pairwise R)(h:∀ x∈L,∀ y∈L,∀ z∈L,R x y->R y z->0<a8 (f x) (f y) (f z)):qR (L.map f):=by
 intro a b c g e d;rw[length_map]at d;rw[getElem_map,getElem_map,getElem_map];rw[pairwise_iff_getElem]at p;exact h _ (getElem_mem _) _ (getElem_mem _) _ (getElem_mem _) (p a b ⋯ ⋯ g) (p b c ⋯ ⋯ e)
theorem fz {F:List Hf}(R:J6 F):qR F:=by
 by_cases hn:F.length<3
 .intro a b c h1 h2 h3;ext
 have hn:3<=F.length:=⋯
 have trn:=R.trn ⋯
 have ne0:∀ k (hk:k<F.length),0<k->F[0]≠F[k]:=λk hk h0 e=>by
  have:=R.fst k hk h0;rw[<-e]at this;unfold kj at this;simp at this
 have ed:∀ k (hk:k<F.length) (h0:0<k) v,v∈F->v≠F[k]->v≠F[k-1]->0<a8 F[k-1] F[k] v:=λk hk h0 v hv h1 h2=>by
  have:=trn k hk v hv h1 (by unfold dh;rw[dif_neg ⋯];exact h2)
  unfold dh at this;rw[dif_neg ⋯]at this
  exact this
 have fan:∀ (a:Nat) (ha:a+1<F.length),(∀ c (hc:c<F.length),a+1<c->0<a8 F[a] F[a+1] F[c])->(∀ c (hc:c+1<F.length),a<c->0<a8 F[a] F[c] F[c+1])->∀ b c (_:a<b) (_:b<c) (hc:c<F.length),0<a8 F[a] F[b] F[c]:=by
  intro a ha hA hB b c hab hbc
  induction c with
  |zero=>ext
  |succ c ih=>
   intro hc
   by_cases e:b=c
   .subst e;exact hB b hc hab
   .have i1:=ih ⋯ ⋯
    by_cases eb:b=a+1
    .subst eb;exact hA (c+1) hc ⋯
    .have q1:=hA b ⋯ ⋯
     have q2:=hA c ⋯ ⋯
     have q3:=hA (c+1) hc ⋯
     have q4:=hB c hc ⋯
     have pl:=OJ F[a] F[a+1] F[b] F[c] F[c+1];have m1:=mul_pos q1 q4;have m2:=mul_pos q3 i1;exact dA q2 ⋯
 have B0:∀ c (hc:c+1<F.length),0<c->0<a8 F[0] F[c] F[c+1]:=λc hc h0=>by
  have:=ed (c+1) hc ⋯ F[0] (getElem_mem _) (ne0 _ hc ⋯) (ne0 c ⋯ h0)
  rw[<-aX]at this;exact this
 have A0:∀ c (hc:c<F.length),1<c->0<a8 F[0] F[1] F[c]:=λc hc h1=>by
  have nn:∀ c (hc:c<F.length),1<=c->0<=a8 F[0] F[1] F[c]:=λc hc h1=>by
   by_cases e:F[c]=F[1]
   .rw[e,dX];exact Int.le_refl _
   .exact le_of_lt (ed 1 ⋯ ⋯ F[c] (getElem_mem _) e (λe'=>ne0 c hc ⋯ e'.symm))
  by_cases e:F[c]=F[1]
  .exfalso;obtain⟨d,rfl⟩:∃ d,c=d+1:=⟨c-1,⋯⟩
   have b:=B0 d hc ⋯
   rw[e,xW]at b;have:=nn d ⋯ ⋯
   ext
  .exact ed 1 ⋯ ⋯ F[c] (getElem_mem _) e (λe'=>ne0 c hc ⋯ e'.symm)
 have T0:=fan 0 ⋯ A0 B0
 have ne:∀ b c (hb:b<F.length) (hc:c<F.length),b<c->F[b]≠F[c]:=λb c hb hc h e=>by
  by_cases b0:b=0
  .subst b0;exact ne0 c hc h e
  .have:=T0 b c ⋯ h hc
   rw[e,dX]at this;ext
 intro a b c h1 h2 h3;refine fan a ⋯ (λc hc h=>?_) (λc hc h=>?_) b c h1 h2 h3
 .exact ed (a+1) ⋯ ⋯ F[c] (getElem_mem _) (λe=>ne (a+1) c ⋯ hc h e.symm) (λe=>ne a c ⋯ hc ⋯ e.symm)
 .have:=ed (c+1) hc ⋯ F[a] (getElem_mem _) (ne a (c+1) ⋯ hc ⋯) (ne a c ⋯ ⋯ h)
  rw[<-aX]at this;exact this
theorem xf (r:qR F)(B:2<F.length)(k:Nat)(h:k<F.length)(v:Hf)(z:v∈F)(u:v≠F[k])(o:v≠dh F k h):0<a8 (dh F k h) F[k] v:=by
 obtain⟨j,m,rfl⟩:=getElem_of_mem z;have p:pe (λi=>F.getD i (0,0,0)) F.length:=λa b c x y q=>by
  have:=r a b c x y q;simp only[getD_eq_getElem?_getD,List.getElem?_eq_getElem (show a<F.length by ext),List.getElem?_eq_getElem (show b<F.length by ext),List.getElem?_eq_getElem q,Option.getD_some]
  exact this
 have g:∀ i (hi:i<F.length),F.getD i (0,0,0)=F[i]:=λi hi=>by simp[getD_eq_getElem?_getD,List.getElem?_eq_getElem hi]
 have d:dh F k h=F.getD (bt F.length k) (0,0,0):=by
  rw[g _ (cA h)];unfold dh bt
  split <;> rename_i e
  .simp[e]
  .simp[e]
 rw[d]at o ⊢;have:=di p h m (λe=>u (by subst e;rfl)) (λe=>o (by rw[<-e,g _ m]))
 rw[g _ m,g _ h]at this;exact this
set_option maxHeartbeats 1000000
def gw (x:Int):Int:=if x<0 then -x else x
theorem lB (h:x≠0):0<gw x:=by unfold gw;split <;> ext
def JD (p q:Fr)(a b:Int):Fr:=tM (p.1*q.2*a+q.1*p.2*b) (p.2*q.2*(a+b))
def dF (h:Hf)(p q:aS):aS:=(JD p.1 q.1 (gw (a9 h q)*(p.1.2*p.2.2)) (gw (a9 h p)*(q.1.2*q.2.2)),JD p.2 q.2 (gw (a9 h q)*(p.1.2*p.2.2)) (gw (a9 h p)*(q.1.2*q.2.2)))
theorem yy (p q:Fr)(a b:Int):JD p q a b=JD q p b a:=by
 unfold JD;have d:p.1*q.2*a+q.1*p.2*b=q.1*p.2*b+p.1*q.2*a:=Int.add_comm _ _;have e:p.2*q.2*(a+b)=q.2*p.2*(b+a):=by rw[mul_comm p.2,Int.add_comm a]
 rw[d,e]
theorem mI (h:Hf)(p q:aS):dF h p q=dF h q p:=by
 unfold dF;rw[yy p.1,yy p.2]
theorem x8 (hb:0<b):∃ g:Int,0<g/\a=g*(tM a b).1/\b=g*(tM a b).2:=by
 have h:0<(Int.gcd a b:Int):=by have:=gK (a:=a) (b:=b) (.inr ⋯);ext
 have h:lv a b=(Int.gcd a b:Int):=by unfold lv;rw[if_neg ⋯]
 obtain⟨d,i⟩:=xL a b;have h:=cM d;have e:=cM i;refine⟨lv a b,⋯,?_,?_⟩
 .unfold tM;dsimp only;rw[mul_comm];exact h.symm
 .unfold tM;dsimp only;rw[mul_comm];exact e.symm
theorem RP (e a p d b q A B:Int):(e*b*(A*(a*p))+d*a*(B*(b*q)))*(p*q*(A*(a*p)+B*(b*q)))=(A*(a*p)+B*(b*q))*(a*p*(b*q))*(A*(e*p)+B*(d*q)):=by grind
theorem RQ (d p a e q b A B:Int):(d*b*(A*(p*a))+e*a*(B*(q*b)))*(p*q*(A*(p*a)+B*(q*b)))=(A*(p*a)+B*(q*b))*(p*a*(q*b))*(A*(d*p)+B*(e*q)):=by grind
theorem RR (b p a q A B:Int):b*a*(A*(b*p)+B*(a*q))*(p*q*(A*(b*p)+B*(a*q)))=(A*(b*p)+B*(a*q))*(b*p*(a*q))*(A*(b*p)+B*(a*q)):=by grind
theorem xN (op:bH p)(H:bH q)(O:a9 h p≠0)(P:a9 h q≠0) :
  bH (dF h p q)/\∃ z c:Int,0<z/\0<c/\z*(ah (dF h p q)).1=c*(gw (a9 h q)*(ah p).1+gw (a9 h p)*(ah q).1)/\z*(ah (dF h p q)).2.1=c*(gw (a9 h q)*(ah p).2.1+gw (a9 h p)*(ah q).2.1)/\z*(ah (dF h p q)).2.2=c*(gw (a9 h q)*(ah p).2.2+gw (a9 h p)*(ah q).2.2):=by
 obtain⟨⟨r,i⟩,⟨o,e⟩⟩:=p;obtain⟨⟨m,k⟩,⟨u,g⟩⟩:=q;have C:0<i:=op.1.1;have D:0<e:=op.2.1;have v:0<k:=H.1.1;have y:0<g:=H.2.1;have z:=lB P;have x:=lB O;unfold dF ah;generalize gw (a9 h ((m,k),u,g))=A at z;generalize gw (a9 h ((r,i),o,e))=B at x;unfold JD;dsimp only;have I:0<i*e:=mul_pos C D;have J:0<k*g:=mul_pos v y;have F:0<A*(i*e)+B*(k*g):=by
  have:=mul_pos z I;have:=mul_pos x J;ext
 have L:0<i*k*(A*(i*e)+B*(k*g)):=mul_pos (mul_pos C v) F;have E:0<e*g*(A*(i*e)+B*(k*g)):=mul_pos (mul_pos D y) F;have M:=Jp (a:=r*k*(A*(i*e))+m*i*(B*(k*g))) (b:=i*k*(A*(i*e)+B*(k*g))) ⋯
 have Q:=Jp (a:=o*g*(A*(i*e))+u*e*(B*(k*g))) (b:=e*g*(A*(i*e)+B*(k*g))) ⋯
 obtain⟨x,z,C,v⟩:=x8 (a:=r*k*(A*(i*e))+m*i*(B*(k*g))) L;obtain⟨y,r,D,m⟩:=x8 (a:=o*g*(A*(i*e))+u*e*(B*(k*g))) E;refine⟨⟨M,Q⟩,x*y,(A*(i*e)+B*(k*g))*(i*e*(k*g)),mul_pos z r,mul_pos F (mul_pos I J),?_,?_,?_⟩
 .rw[show ∀ a d:Int,x*y*(a*d)=x*a*(y*d) from λa d=>by grind,<-C,<-m]
  exact RP ..
 .rw[show ∀ a d:Int,x*y*(a*d)=y*a*(x*d) from λa d=>by grind,<-D,<-v]
  exact RQ ..
 .rw[show ∀ a d:Int,x*y*(a*d)=x*a*(y*d) from λa d=>by grind,<-v,<-m]
  exact RR ..
theorem ef (h:Hf)(s:aS):a9 h s=h.1*(ah s).1+h.2.1*(ah s).2.1-h.2.2*(ah s).2.2:=by
 unfold a9 ah;dsimp only;grind
def iu (h:Hf)(p q:aS):Prop:=sgn (a9 h p)*sgn (a9 h q)<0
def lw (h:Hf)(q:aS):Prop:=sgn (a9 h q)>=0
instance (h:Hf) (p q:aS):Decidable (iu h p q):=inferInstanceAs (Decidable (_<_))
instance (h:Hf) (q:aS):Decidable (lw h q):=inferInstanceAs (Decidable (_>=_))
theorem ci:iu h p q↔(0<a9 h p/\a9 h q<0)\/(a9 h p<0/\0<a9 h q):=by
 unfold iu sgn
 by_cases a:a9 h p>0
 .by_cases b:a9 h q>0
  .simp[a,b] <;> ext
  .by_cases c:a9 h q<0
   .simp[a,b,c]
   .simp[a,b,c] <;> ext
 .by_cases d:a9 h p<0
  .by_cases b:a9 h q>0
   .simp[a,d,b]
   .by_cases c:a9 h q<0
    .simp[a,d,b,c]
    .simp[a,d,b,c]
  .simp[a,d]
theorem cb:lw h q↔0<=a9 h q:=by
 unfold lw sgn
 split
 .simp;ext
 .split <;> simp <;> ext
theorem fM (op:bH p)(v:bH q)(o:iu h p q):bH (dF h p q)/\tL (ah (dF h p q)) (ah p) (ah q)/\a9 h (dF h p q)=0:=by
 have o:=ci.mp o;have r:a9 h p≠0:=⋯
 have u:a9 h q≠0:=⋯
 obtain⟨ok,d,c,y,m,g,e,i⟩:=xN op v r u;have x:=lB u;have u:=lB r;refine⟨ok,⟨d,c*gw (a9 h q),c*gw (a9 h p),y,mul_pos m x,mul_pos m u,by rw[g];grind,by rw[e];grind,by rw[i];grind⟩,?_⟩
 have z:gw (a9 h q)*a9 h p+gw (a9 h p)*a9 h q=0:=by
  obtain⟨a,b⟩|⟨a,b⟩:=o
  .have x:gw (a9 h q)=-a9 h q:=by unfold gw;rw[if_pos b]
   have m:gw (a9 h p)=a9 h p:=by unfold gw;rw[if_neg ⋯]
   rw[x,m];grind
  .have x:gw (a9 h q)=a9 h q:=by unfold gw;rw[if_neg ⋯]
   have m:gw (a9 h p)=-a9 h p:=by unfold gw;rw[if_pos a]
   rw[x,m];grind
 have k:d*a9 h (dF h p q)=c*(gw (a9 h q)*a9 h p+gw (a9 h p)*a9 h q):=by
  rw[ef h (dF h p q)];generalize ah (dF h p q)=f at g e i;have t:d*(h.1*f.1+h.2.1*f.2.1-h.2.2*f.2.2)=h.1*(d*f.1)+h.2.1*(d*f.2.1)-h.2.2*(d*f.2.2):=by grind
  rw[t,g,e,i];generalize gw (a9 h q)=A;generalize gw (a9 h p)=B;rw[ef h p,ef h q];grind
 rw[z,mul_zero]at k
 obtain z|z:=mul_eq_zero.mp k
 .ext
 .exact z
theorem kO {x a y b z c:Int}(hb:0<b)(ha:0<a)(d:0<c)(e:x*b<=y*a)(g:y*c<=z*b):x*c<=z*a/\((x*b<y*a\/y*c<z*b)->x*c<z*a):=by
 have m:=mul_le_mul_of_nonneg_right e (le_of_lt d);have m:=mul_le_mul_of_nonneg_right g (le_of_lt ha);have i:x*b*c=x*c*b:=by grind
 have i:z*b*a=z*a*b:=by grind
 have i:y*a*c=y*c*a:=by grind
 refine⟨Int.le_of_mul_le_mul_right (show x*c*b<=z*a*b by ext) hb,λh=>Int.lt_of_mul_lt_mul_right (a:=b) ?_ (le_of_lt hb)⟩
 obtain h|h:=h
 .have:=Int.mul_lt_mul_of_pos_right h d;ext
 .have:=Int.mul_lt_mul_of_pos_right h ha;ext
def Bf (a b:Hf):Prop:=a.1*b.2.2<b.1*a.2.2\/(a.1*b.2.2=b.1*a.2.2/\a.2.1*b.2.2<b.2.1*a.2.2)
theorem eO:kj a b=true↔Bf a b:=by
 unfold kj Bf
 split
 .rw[decide_eq_true_eq];ext
 .rw[decide_eq_true_eq];ext
theorem bW:kj a b=false↔¬ Bf a b:=by
 rw[<-eO]
 cases kj a b <;> simp
theorem Bf.trans {a b c:Hf}(ha:0<a.2.2)(hb:0<b.2.2)(d:0<c.2.2)(e:Bf a b)(g:Bf b c):Bf a c:=by
 unfold Bf at *
 obtain e|⟨e,h⟩:=e
 .left
  refine(kO hb ha d (le_of_lt e) ?_).2 (.inl e);ext
 .rcases g with g|⟨g,i⟩
  .left
   exact(kO hb ha d ⋯ (le_of_lt g)).2 (.inr g)
  .right
   have k1:=(kO (x:=a.1) (y:=b.1) (z:=c.1) hb ha d ⋯ ⋯).1
   have k:=(kO (x:=-a.1) (y:=-b.1) (z:=-c.1) hb ha d (by rw[neg_mul,neg_mul];ext) (by rw[neg_mul,neg_mul];ext)).1
   rw[neg_mul,neg_mul]at k;exact⟨⋯,(kO hb ha d (le_of_lt h) (le_of_lt i)).2 (.inl h)⟩
theorem Bf.irr (a:Hf):¬ Bf a a:=by unfold Bf;ext
theorem Bf.asym (h:Bf a b):¬ Bf b a:=by unfold Bf at *;ext
theorem b8 (h:bH s):0<(ah s).2.2:=mul_pos h.1.1 h.2.1
theorem Bz (d:bH p)(e:bH q)(h:p≠q):Bf (ah p) (ah q)\/Bf (ah q) (ah p):=by
 by_cases a:Bf (ah p) (ah q)
 .exact .inl a
 .right
  by_cases b:Bf (ah q) (ah p)
  .exact b
  .exfalso;apply h;unfold Bf ah at a b;have g:0<p.2.2:=d.2.1;have i:0<q.2.2:=e.2.1;have k:0<p.1.2:=d.1.1;have x:0<q.1.2:=e.1.1;dsimp only at a b;have o:p.1.1*p.2.2*(q.1.2*q.2.2)=q.1.1*q.2.2*(p.1.2*p.2.2):=⋯
   have m:p.2.1*p.1.2*(q.1.2*q.2.2)=q.2.1*q.1.2*(p.1.2*p.2.2):=⋯
   refine Prod.ext (x6 d.1 e.1 ?_) (x6 d.2 e.2 ?_)
   .refine eq_of_mul_eq_mul_right (a:=p.2.2*q.2.2) (by have:=mul_pos g i;ext) ?_
    have i:p.1.1*q.1.2*(p.2.2*q.2.2)=p.1.1*p.2.2*(q.1.2*q.2.2):=by grind
    have g:q.1.1*p.1.2*(p.2.2*q.2.2)=q.1.1*q.2.2*(p.1.2*p.2.2):=by grind
    rw[i,g,o]
   .refine eq_of_mul_eq_mul_right (a:=p.1.2*q.1.2) (by have:=mul_pos k x;ext) ?_
    have i:p.2.1*q.2.2*(p.1.2*q.1.2)=p.2.1*p.1.2*(q.1.2*q.2.2):=by grind
    have g:q.2.1*p.2.2*(p.1.2*q.1.2)=q.2.1*q.1.2*(p.1.2*p.2.2):=by grind
    rw[i,g,m]
theorem L4 (h:tL u p q)(B:0<p.2.2)(C:0<q.2.2)(hb:Bf p q):¬ Bf u p/\¬ Bf q u:=by
 obtain⟨a,o,i,y,r,k,m,g,b⟩:=h;have x:a*(u.1*p.2.2-p.1*u.2.2)=i*(q.1*p.2.2-p.1*q.2.2):=by
  have t:a*(u.1*p.2.2-p.1*u.2.2)=a*u.1*p.2.2-p.1*(a*u.2.2):=by grind
  rw[t,m,b];grind
 have v:a*(u.2.1*p.2.2-p.2.1*u.2.2)=i*(q.2.1*p.2.2-p.2.1*q.2.2):=by
  have t:a*(u.2.1*p.2.2-p.2.1*u.2.2)=a*u.2.1*p.2.2-p.2.1*(a*u.2.2):=by grind
  rw[t,g,b];grind
 have i:a*(q.1*u.2.2-u.1*q.2.2)=o*(q.1*p.2.2-p.1*q.2.2):=by
  have t:a*(q.1*u.2.2-u.1*q.2.2)=q.1*(a*u.2.2)-a*u.1*q.2.2:=by grind
  rw[t,m,b];grind
 have m:a*(q.2.1*u.2.2-u.2.1*q.2.2)=o*(q.2.1*p.2.2-p.2.1*q.2.2):=by
  have t:a*(q.2.1*u.2.2-u.2.1*q.2.2)=q.2.1*(a*u.2.2)-a*u.2.1*q.2.2:=by grind
  rw[t,g,b];grind
 have g:∀ {b d e:Int},0<b->a*d=b*e->(0<e->0<d)/\(e=0->d=0):=λ{b d e} b a=>⟨λh=>dA y (by rw[a];exact mul_pos b h),λh=>by
  rw[h,mul_zero]at a
  obtain z|z:=mul_eq_zero.mp a
  .ext
  .exact z⟩
 have a:=g k x;have o:=g k v;have b:=g r i;have i:=g r m;unfold Bf at *
 obtain hb|⟨hb,hb'⟩:=hb
 .have:=a.1 ⋯
  have:=b.1 ⋯
  ext
 .have:=a.2 ⋯
  have:=b.2 ⋯
  have:=o.1 ⋯
  have:=i.1 ⋯
  ext
def Je (Q:Hf->Prop)(l:Hf)(s:aS):Prop:=Q l/\(l.1≠0\/l.2.1≠0)/\a9 l s=0
abbrev Ny (l:Hf)(s:aS):Prop:=Je (dy 300) l s
def Cn (s:aS):Prop:=∃ l m:Hf,Ny l s/\Ny m s/\l.1*m.2.1-l.2.1*m.1≠0
def A6 (Q:Hf->Prop)(p q:aS):Prop:=∃ l:Hf,Je Q l p/\Je Q l q
abbrev Lk (p q:aS):Prop:=A6 (dy 300) p q
theorem Jq (i:qP f)(m:D≠0)(h:D*f.1=N*f.2)(p:Sz n N)(o:Sz n D):SzF n f:=by
 obtain⟨d,d⟩:=i;have g:f.2 ∣ D:=mH d ⟨N,by rw[mul_comm,h,mul_comm]⟩
 have k:f.1 ∣ N:=by
  refine mH (a:=f.2) (b:=f.1) (by rw[Int.gcd_comm];exact d) ⟨D,by rw[mul_comm,<-h,mul_comm]⟩
 constructor
 .by_cases e:N=0
  .rw[e,zero_mul]at h
   obtain z|z:=mul_eq_zero.mp h
   .exact absurd z m
   .rw[z];exact⟨Nat.two_pow_pos n⟩
  .exact⟨lt_of_le_of_lt (Nat.le_of_dvd ⋯ (natAbs_dvd_natAbs.mpr k)) p.lt⟩
 .exact⟨lt_of_le_of_lt (Nat.le_of_dvd ⋯ (natAbs_dvd_natAbs.mpr g)) o.lt⟩
theorem OD (ok:bH s)(h:Cn s):eW 602 s:=by
 obtain⟨l,m,⟨z,_,d⟩,⟨b,_,e⟩,g⟩:=h;rw[ef]at d e;unfold ah at d e;dsimp only at d e;have x:0<s.1.2:=ok.1.1;have x:0<s.2.2:=ok.2.1;have d:Sz 602 (l.1*m.2.1-l.2.1*m.1):=(Sz.sub (Sz.mul z.1 b.2.1) (Sz.mul z.2.1 b.1)).mono ⋯
 have x:Sz 602 (l.2.2*m.2.1-m.2.2*l.2.1):=(Sz.sub (Sz.mul z.2.2 b.2.1) (Sz.mul b.2.2 z.2.1)).mono ⋯
 have y:Sz 602 (l.1*m.2.2-m.1*l.2.2):=(Sz.sub (Sz.mul z.1 b.2.2) (Sz.mul b.1 z.2.2)).mono ⋯
 refine⟨Jq ok.1 g (N:=l.2.2*m.2.1-m.2.2*l.2.1) ?_ x d,Jq ok.2 g (N:=l.1*m.2.2-m.1*l.2.2) ?_ y d⟩
 .refine eq_of_mul_eq_mul_right (a:=s.2.2) ⋯ ?_
  grind
 .refine eq_of_mul_eq_mul_right (a:=s.1.2) ⋯ ?_
  grind
theorem vU (op:bH p)(o:bH q)(x:iu h p q)(b:Je Q l p)(v:Je Q l q):Je Q l (dF h p q):=by
 refine⟨b.1,b.2.1,?_⟩;obtain⟨_,⟨a,g,u,k,d,d,m,k,r⟩,_⟩:=fM op o x;have e:=b.2.2;have d:=v.2.2;rw[ef]at e d ⊢;generalize ah (dF h p q)=f at *;have t:a*(l.1*f.1+l.2.1*f.2.1-l.2.2*f.2.2)=l.1*(a*f.1)+l.2.1*(a*f.2.1)-l.2.2*(a*f.2.2):=by grind
 have i:a*(l.1*f.1+l.2.1*f.2.1-l.2.2*f.2.2)=g*(l.1*(ah p).1+l.2.1*(ah p).2.1-l.2.2*(ah p).2.2)+u*(l.1*(ah q).1+l.2.1*(ah q).2.1-l.2.2*(ah q).2.2):=by
  rw[t,m,k,r];grind
 rw[e,d,mul_zero,mul_zero]at i
 obtain z | z:=mul_eq_zero.mp (show a*(l.1*f.1+l.2.1*f.2.1-l.2.2*f.2.2)=0 by ext)
 .ext
 .exact z
theorem Jh (op:bH p)(a:bH q)(o:iu h p q)(m:dy 300 h)(y:h.1≠0\/h.2.1≠0)(r:Lk p q):Cn (dF h p q):=by
 obtain⟨l,b,d⟩:=r;refine⟨l,h,vU op a o b d,⟨m,y,(fM op a o).2.2⟩,λe=>?_⟩;have x:=b.2.2;have k:=d.2.2;have g:=b8 op;have i:=b8 a;have o:=ci.mp o;rw[ef]at x k;rw[ef,ef]at o;generalize ah p=u at *;generalize ah q=v at *;have n:=b.2.1;have b:v.2.2*(h.1*u.1+h.2.1*u.2.1-h.2.2*u.2.2)=u.2.2*(h.1*v.1+h.2.1*v.2.1-h.2.2*v.2.2):=by
  have b:l.1*(v.2.2*(h.1*u.1+h.2.1*u.2.1-h.2.2*u.2.2)-u.2.2*(h.1*v.1+h.2.1*v.2.1-h.2.2*v.2.2))=0:=by grind
  have d:l.2.1*(v.2.2*(h.1*u.1+h.2.1*u.2.1-h.2.2*u.2.2)-u.2.2*(h.1*v.1+h.2.1*v.2.1-h.2.2*v.2.2))=0:=by grind
  obtain n|n:=n
  .rcases mul_eq_zero.mp b with z|z
   .exact absurd z n
   .ext
  .rcases mul_eq_zero.mp d with z|z
   .exact absurd z n
   .ext
 obtain⟨b,d⟩|⟨b,d⟩:=o
 .have:=mul_pos i b;have:=mul_neg_of_pos_of_neg g d;ext
 .have:=mul_neg_of_pos_of_neg i b;have:=mul_pos g d;ext
theorem yt {h u v w:Hf}(a:h.1≠0\/h.2.1≠0)(d:h.1*u.1+h.2.1*u.2.1-h.2.2*u.2.2=0)(e:h.1*v.1+h.2.1*v.2.1-h.2.2*v.2.2=0)(b:h.1*w.1+h.2.1*w.2.1-h.2.2*w.2.2=0):a8 u v w=0:=by
 unfold a8
 obtain n|n:=a
 .refine(mul_eq_zero.mp (show h.1*_=0 from ?_)).resolve_left n;grind
 .refine(mul_eq_zero.mp (show h.2.1*_=0 from ?_)).resolve_left n;grind
set_option maxHeartbeats 1000000
def s0:aS:=((0,1),(0,1))
def qr (L:List aS):List (aS × aS):=(List.range L.length).map λk=>if h:k<L.length then (dh L k h,L[k]) else (((0,0),(0,0)),((0,0),(0,0)))
def pc (h:Hf)(ks:List aS)(x:aS × aS):List aS:=
 if lw h x.2 then (if iu h x.1 x.2/\¬ dF h x.1 x.2∈ks then ks++[dF h x.1 x.2] else ks)++[x.2] else (if iu h x.1 x.2/\¬ dF h x.1 x.2∈ks then ks++[dF h x.1 x.2] else ks)
def gf (h:Hf)(L:List aS):List aS:=(qr L).foldl (pc h) []
def gt (L:List aS)(i:Nat):aS:=L.getD i s0
theorem bJ (h:i<L.length):gt L i=L[i]:=by unfold gt;simp[getD_eq_getElem?_getD,List.getElem?_eq_getElem h]
theorem gR (h:k<L.length):dh L k h=gt L (bt L.length k):=by
 rw[bJ (cA h)];unfold dh bt
 split <;> rename_i e
 .simp[e]
 .simp[e]
theorem xb (L:List aS):qr L=(List.range L.length).map λk=>(gt L (bt L.length k),gt L k):=by
 unfold qr;refine map_congr_left λk h=>?_;have h:=mem_range.mp h;rw[dif_pos h,gR h,bJ h]
abbrev Itm:=Nat × Bool × aS
def Jz (h:Hf)(G:Nat->aS)(n i:Nat):List Itm:=(if iu h (G (bt n i)) (G i) then [(i,true,dF h (G (bt n i)) (G i))] else [])++(if lw h (G i) then [(i,false,G i)] else [])
def KI (h:Hf)(G:Nat->aS)(n m:Nat):List Itm:=(List.range m).flatMap (Jz h G n)
def Is (h:Hf)(G:Nat->aS)(n:Nat)(x:Itm):Prop:=(x.2.1=true/\iu h (G (bt n x.1)) (G x.1)/\x.2.2=dF h (G (bt n x.1)) (G x.1))\/(x.2.1=false/\lw h (G x.1)/\x.2.2=G x.1)
theorem mO:x∈Jz h G n i↔x.1=i/\Is h G n x:=by
 unfold Jz Is;obtain⟨j,b,s⟩:=x;constructor
 .intro a
  obtain a|a:=mem_append.mp a
  .split at a
   .rename_i o;simp only[mem_singleton,Prod.mk.injEq]at a;obtain⟨rfl,rfl,rfl⟩:=a;exact⟨rfl,.inl ⟨rfl,o,rfl⟩⟩
   .cases a
  .split at a
   .rename_i k;simp only[mem_singleton,Prod.mk.injEq]at a;obtain⟨rfl,rfl,rfl⟩:=a;exact⟨rfl,.inr ⟨rfl,k,rfl⟩⟩
   .cases a
 .rintro⟨e,a⟩;dsimp only at e a;subst e
  obtain⟨rfl,o,rfl⟩|⟨rfl,k,rfl⟩:=a
  .rw[if_pos o];simp
  .rw[if_pos k];simp
theorem cz:x∈KI h G n m↔x.1<m/\Is h G n x:=by
 unfold KI;rw[List.mem_flatMap];constructor
 .rintro⟨i,hi,a⟩;obtain⟨e,h⟩:=mO.mp a;rw[e];exact⟨mem_range.mp hi,h⟩
 .rintro⟨hi,h⟩;exact⟨x.1,mem_range.mpr hi,mO.mpr ⟨rfl,h⟩⟩
def RI (x y:Itm):Prop:=x.1<y.1\/(x.1=y.1/\x.2.1=true/\y.2.1=false)
theorem uZ (h:Hf)(G:Nat->aS)(n m:Nat):(KI h G n m).Pairwise RI:=by
 unfold KI;rw[List.pairwise_flatMap];refine⟨λi _=>?_,List.pairwise_lt_range.imp λb x d y a=>.inl (by rw[(mO.mp d).1,(mO.mp a).1];exact b)⟩
 unfold Jz
 split <;> split <;> simp[RI]
theorem xB (h:Hf)(G:Nat->aS)(n m:Nat):KI h G n (m+1)=KI h G n m++Jz h G n m:=by
 unfold KI;rw[range_succ,List.flatMap_append];simp
section
variable {h:Hf}{G:Nat->aS}{n:Nat} (hn:3<=n) (ok:∀ i,i<n->bH (G i)) (hT:pe (λi=>ah (G i)) n)
include hn ok hT
theorem uu (g:x.1<n)(hi:Is h G n x):bH x.2.2/\tL (ah x.2.2) (ah (G (lo n x.2.1 x.1))) (ah (G x.1))/\0<=a9 h x.2.2:=by
 obtain⟨e,o,d⟩|⟨e,k,d⟩:=hi
 .obtain⟨a,b,c⟩:=fM (ok _ (cA g)) (ok _ g) o;rw[d,e];refine⟨a,?_,⋯⟩
  unfold lo;rw[if_pos rfl];exact b
 .rw[d,e];refine⟨ok _ g,?_,cb.mp k⟩;unfold lo;rw[if_neg ⋯]
  exact gq _
theorem Fz:qR ((KI h G n n).map λx=>ah x.2.2):=by
 refine AM (uZ h G n n) λx g y a z hz m r=>?_;obtain⟨d,g⟩:=cz.mp g;obtain⟨o,a⟩:=cz.mp a;obtain⟨b,hz⟩:=cz.mp hz;refine Rc (P:=λi=>ah (G i)) hn hT (uu hn ok hT d g).2.1 (uu hn ok hT o a).2.1 (uu hn ok hT b hz).2.1 b m r ?_ ?_
 .intro b p d q
  obtain⟨_,o,_⟩|⟨e,_⟩:=g
  .have u:lw h (G y.1):=by
    obtain⟨e,_⟩|⟨_,k,_⟩:=a
    .rcases m with l|⟨_,_,l⟩
     .ext
     .rw[e]at l;cases l
    .exact k
   have m:lw h (G z.1):=by
    obtain⟨e,_⟩|⟨_,k,_⟩:=hz
    .rw[e]at d;cases d
    .exact k
   rw[<-p]at u;rw[q]at m;have:=ci.mp o;have:=cb.mp u;have:=cb.mp m;ext
  .rw[e]at b;cases b
 .intro b p d q
  obtain⟨_,o,_⟩|⟨e,_⟩:=a
  .have a:lw h (G x.1):=by
    obtain⟨e,_⟩|⟨_,k,_⟩:=g
    .rw[e]at d;cases d
    .exact k
   have m:lw h (G z.1):=by
    obtain⟨e,_⟩|⟨_,k,_⟩:=hz
    .rcases r with l|⟨_,_,l⟩
     .ext
     .rw[e]at l;cases l
    .exact k
   rw[q]at a;rw[<-p]at m;have:=ci.mp o;have:=cb.mp a;have:=cb.mp m;ext
  .rw[e]at b;cases b
theorem Fl (hi:i<n)(k:j<n)(a:iu h (G (bt n i)) (G i)):dF h (G (bt n i)) (G i)≠G j:=λe=>by
 obtain⟨_,b,c⟩:=fM (ok _ (cA hi)) (ok _ hi) a;have o:=ci.mp a
 by_cases g:j=i
 .rw[e,g]at c;ext
 by_cases d:j=bt n i
 .rw[e,d]at c;ext
 have:=di (P:=λi=>ah (G i)) hT hi k g d;have z:=ou b;rw[e]at z;ext
theorem MW (hi:i<n)(a:j<n)(d:i≠j)(r:iu h (G (bt n i)) (G i))(g:iu h (G (bt n j)) (G j)):dF h (G (bt n i)) (G i)≠dF h (G (bt n j)) (G j):=λe=>by
 obtain⟨_,b,_⟩:=fM (ok _ (cA hi)) (ok _ hi) r;obtain⟨_,o,_⟩:=fM (ok _ (cA a)) (ok _ a) g;have z:=ou b;rw[e]at z;have m:=gG (P:=λi=>ah (G i)) hT hi a;have k:=gG (P:=λi=>ah (G i)) hT hi (cA a);have p:0<a8 (ah (G (bt n i))) (ah (G i)) (ah (dF h (G (bt n j)) (G j))):=by
  rw[<-aX];refine mP o _ _ (by rw[aX];exact k) (by rw[aX];exact m) ?_
  by_cases k:j=bt n i
  .left
   rw[aX];have q:=gU hn hi;exact di (P:=λi=>ah (G i)) hT hi (cA a) (by rw[k];exact q.2.1) (by rw[k];exact q.2.2)
  .right
   rw[aX];exact di (P:=λi=>ah (G i)) hT hi a (λe=>d e.symm) k
 ext
theorem JA (b:x.1<n)(d:y.1<n)(q:Is h G n x)(m:Is h G n y)(r:RI x y):x.2.2≠y.2.2:=by
 obtain⟨ex,k,a⟩|⟨ex,g,a⟩:=q
 .rcases m with ⟨g,o,p⟩|⟨g,u,p⟩
  .rw[a,p];refine MW hn ok hT b d ?_ k o
   obtain r|⟨_,_,r⟩:=r
   .ext
   .rw[g]at r;cases r
  .rw[a,p];exact Fl hn ok hT b d k
 .rcases m with ⟨g,o,p⟩|⟨g,u,p⟩
  .rw[a,p];exact λe=>Fl hn ok hT d b o e.symm
  .rw[a,p];have:x.1≠y.1:=by
    obtain r|⟨_,r,_⟩:=r
    .ext
    .rw[ex]at r;cases r
   exact λe=>JM (P:=λi=>ah (G i)) hn hT b d this (congrArg ah e)
theorem mK:∀ m,m<=n->((List.range m).map λk=>(G (bt n k),G k)).foldl (pc h) []=(KI h G n m).map (·.2.2)
 |0,_=>rfl
 |m+1,hm=>by
  rw[range_succ,map_append,foldl_append,mK m ⋯,xB,map_append]
  show pc h _ (G (bt n m),G m)=_;unfold pc Jz;dsimp only;have b:iu h (G (bt n m)) (G m)->¬ dF h (G (bt n m)) (G m)∈(KI h G n m).map (·.2.2):=λo a=>by
   obtain⟨y,d,e⟩:=mem_map.mp a;obtain⟨a,d⟩:=cz.mp d;exact JA hn ok hT (x:=y) (y:=(m,true,dF h (G (bt n m)) (G m))) ⋯ (show m<n by ext) d (.inl ⟨rfl,o,rfl⟩) (.inl a) e
  by_cases o:iu h (G (bt n m)) (G m)
  .have c:iu h (G (bt n m)) (G m)/\¬ dF h (G (bt n m)) (G m)∈(KI h G n m).map (·.2.2):=⟨o,b o⟩
   by_cases a:lw h (G m)
   .rw[if_pos a,if_pos c,if_pos o,if_pos a];simp
   .rw[if_neg a,if_pos c,if_pos o,if_neg a];simp
  .have c:¬ (iu h (G (bt n m)) (G m)/\¬ dF h (G (bt n m)) (G m)∈(KI h G n m).map (·.2.2)):=λz=>o z.1
   by_cases a:lw h (G m)
   .rw[if_pos a,if_neg c,if_neg o,if_pos a];simp
   .rw[if_neg a,if_neg c,if_neg o,if_neg a];simp
theorem Pc:((KI h G n n).map (·.2.2)).Nodup:=by
 unfold List.Nodup;rw[pairwise_map];exact(uZ h G n n).imp_of_mem λ{x y} b a r=>JA hn ok hT (cz.mp b).1 (cz.mp a).1 (cz.mp b).2 (cz.mp a).2 r
theorem LV (D:h.1≠0\/h.2.1≠0):(KI h G n n).length<=n+2:=by
 have e:=List.length_eq_countP_add_countP (λx:Itm=>x.2.1) (l:=KI h G n n);have a:(KI h G n n).countP (λx:Itm=>x.2.1)<=2:=by
  rw[countP_eq_length_filter]
  obtain l|l:=lt_or_ge 2 ((KI h G n n).filter λx=>x.2.1).length
  .exfalso;have p:((KI h G n n).filter λx=>x.2.1).Pairwise RI:=(uZ h G n n).filter _;have all:∀ x∈(KI h G n n).filter (λx=>x.2.1),x∈KI h G n n/\a9 h x.2.2=0:=λx a=>by
    obtain⟨b,d⟩:=mem_filter.mp a;refine⟨b,?_⟩;obtain⟨a,hi⟩:=cz.mp b
    obtain⟨_,o,e⟩|⟨e,_⟩:=hi
    .rw[e];exact(fM (ok _ (cA a)) (ok _ a) o).2.2
    .rw[e]at d;cases d
   have T:=Fz hn ok hT (h:=h);generalize (KI h G n n).filter (λx=>x.2.1)=C at *;have R:=pairwise_iff_getElem.mp p;have k:=R 0 1 ⋯ ⋯ ⋯
   have g:=R 1 2 ⋯ ⋯ ⋯
   obtain⟨F,m⟩:=all C[0] (getElem_mem _);obtain⟨E,z⟩:=all C[1] (getElem_mem _);obtain⟨B,o⟩:=all C[2] (getElem_mem _);rw[ef]at m z o;have zero:=yt D m z o;have u:∀ {x y:Itm}{i j:Nat} (hi:i<(KI h G n n).length) (o:j<(KI h G n n).length),(KI h G n n)[i]=x->(KI h G n n)[j]=y->RI x y->i<j:=λ{x y i j} hi o ex m r=>by
    obtain l|l|l:=lt_trichotomy i j
    .exact l
    .subst l;rw[<-ex,<-m]at r;unfold RI at r
     obtain r|⟨_,k,g⟩:=r
     .ext
     .rw[k]at g;cases g
    .have:=pairwise_iff_getElem.mp (uZ h G n n) j i o hi l;rw[ex,m]at this;unfold RI at r this
     rcases r with r|⟨r,k,g⟩ <;> rcases this with q|⟨q,m,m⟩
     .ext
     .ext
     .ext
     .rw[k]at m;cases m
   obtain⟨H,z,v⟩:=getElem_of_mem F;obtain⟨F,b,m⟩:=getElem_of_mem E;obtain⟨E,d,o⟩:=getElem_of_mem B;have:=T H F E (u z b v m k) (u b d m o g) (by rw[length_map];exact d)
   rw[getElem_map,getElem_map,getElem_map,v,m,o]at this;ext
  .exact l
 have g:(KI h G n n).countP (λx:Itm=>¬ x.2.1=true)<=n:=by
  rw[countP_eq_length_filter];have p:((KI h G n n).filter λx=>decide (¬ x.2.1=true)).Pairwise RI:=(uZ h G n n).filter _;have all:∀ x∈(KI h G n n).filter (λx=>decide (¬ x.2.1=true)),x.1<n/\x.2.1=false:=λx a=>by
   obtain⟨b,d⟩:=mem_filter.mp a;exact⟨(cz.mp b).1,by simpa using d⟩
  generalize (KI h G n n).filter (λx=>decide (¬ x.2.1=true))=C at *;have nd:(C.map (·.1)).Nodup:=by
   unfold List.Nodup;rw[pairwise_map];refine p.imp_of_mem λ{x y} a b r=>?_
   obtain r|⟨_,r,_⟩:=r
   .ext
   .rw[(all x a).2]at r;cases r
  have:=List.Nodup.length_le_of_subset nd (l₂:=List.range n) (λi hi=>by
   obtain⟨x,a,rfl⟩:=mem_map.mp hi;exact mem_range.mpr (all x a).1)
  rw[length_map,length_range]at this;exact this
 simp only[decide_not,Bool.decide_eq_true]at g e;ext
end
set_option maxHeartbeats 1000000
theorem sw {A:List aS}(h:0<A.length):A.getLast?=some A[A.length-1]:=by
 rw[List.getLast?_eq_getElem?,List.getElem?_eq_getElem (by omega)]
theorem eY:(A++[x]).getLast?=some x:=by simp
theorem lI (h:(A++[x]).head?=some y):A.head?=some y\/(A=[]/\y=x):=by
 cases A with
 |nil=>right;exact⟨rfl,by simpa using h.symm⟩
 |cons a A=>left;simpa using h
def vD (Q:Hf->Prop)(h:Hf):Prop:=Q h/\(h.1≠0\/h.2.1≠0)
abbrev gz (h:Hf):Prop:=vD (dy 300) h
def FR (Q:Hf->Prop)(A:List aS):Prop:=∀ k (h:k+1<A.length),A6 Q A[k] A[k+1]
theorem lC {Q:Hf->Prop}{A:List aS}{x:aS}(h:FR Q A)(b:∀ y,A.getLast?=some y->A6 Q y x):FR Q (A++[x]):=by
 intro k a;rw[List.length_append,length_singleton]at a
 by_cases l:k+1<A.length
 .rw[getElem_append_left (by omega),getElem_append_left l]
  exact h k l
 .have e:k+1=A.length:=by omega
  have a:(A++[x])[k+1]'(by simp;omega)=x:=by
   rw[getElem_append_right (by omega)];simp
  rw[a,getElem_append_left (by omega)]
  refine b _ ?_;rw[sw (by omega)]
  congr 2;omega
structure A7 (Q:Hf->Prop) (h:Hf) (q0 qm:aS) (A:List aS):Prop where
 adj:FR Q A
 inn:0<=a9 h qm->A.getLast?=some qm
 out:a9 h qm<0->∀ x,A.getLast?=some x->a9 h x=0
 hd:a9 h q0<0->∀ y,A.head?=some y->a9 h y=0
theorem Dw (hh:vD Q h)(a:a9 h p=0)(b:a9 h q=0):A6 Q p q:=⟨h,⟨hh.1,hh.2,a⟩,hh.1,hh.2,b⟩
theorem Ag (hh:vD Q h)(op:bH p)(r:bH q)(u:A6 Q p q)(H:A7 Q h m p A) :
  A7 Q h m q (A++((if iu h p q then [dF h p q] else [])++(if lw h q then [q] else []))):=by
 by_cases d:iu h p q
 .obtain⟨_,_,fs⟩:=fM op r d;have o:=ci.mp d;obtain⟨l,b,v⟩:=u;have ls:=vU op r d b v;have g:FR Q (A++[dF h p q]):=lC H.adj λy a=>by
   obtain⟨i,B⟩|⟨i,B⟩:=o
   .rw[H.inn (by omega)]at a
    cases a
    exact⟨l,b,ls⟩
   .exact Dw hh (H.out i y a) fs
  have B:a9 h m<0->∀ y,(A++[dF h p q]).head?=some y->a9 h y=0:=λi y a=>by
   obtain e|⟨_,e⟩:=lI a
   .exact H.hd i y e
   .rw[e];exact fs
  rw[if_pos d]
  by_cases b:lw h q
  .rw[if_pos b,<-List.append_assoc];have k:=cb.mp b;refine⟨lC g λy a=>?_,λ_=>eY,λz=>by omega,λi y a=>?_⟩
   .rw[eY]at a
    cases a
    exact⟨l,ls,v⟩
   .rcases lI a with e|⟨e,_⟩
    .exact B i y e
    .simp at e
  .rw[if_neg b,append_nil];have k:¬ 0<=a9 h q:=λz=>b (cb.mpr z);exact⟨g,λz=>absurd z k,λ_ x g=>by rw[eY]at g;cases g;exact fs,B⟩
 .rw[if_neg d,nil_append];have o:¬ ((0<a9 h p/\a9 h q<0)\/(a9 h p<0/\0<a9 h q)):=λz=>d (ci.mpr z)
  by_cases b:lw h q
  .rw[if_pos b];have k:=cb.mp b;refine⟨lC H.adj λy a=>?_,λ_=>eY,λz=>by omega,λi y a=>?_⟩
   .by_cases d:0<=a9 h p
    .rw[H.inn d]at a
     cases a
     exact u
    .exact Dw hh (H.out (by omega) y a) (by omega)
   .rcases lI a with e|⟨e,rfl⟩
    .exact H.hd i y e
    .by_cases d:0<=a9 h p
     .have:=H.inn d;rw[e]at this;cases this
     .omega
  .rw[if_neg b,append_nil];have k:¬ 0<=a9 h q:=λz=>b (cb.mpr z);refine⟨H.adj,λz=>absurd z k,λ_ x g=>?_,H.hd⟩
   by_cases d:0<=a9 h p
   .rw[H.inn d]at g
    cases g
    omega
   .exact H.out (by omega) x g
theorem mM (hh:vD Q h)(g:0<n)(ok:∀ i,i<n->bH (G i))(d:∀ k,k<n->A6 Q (G (bt n k)) (G k)) :
  ∀ m,m<=n->A7 Q h (G (n-1)) (G (bt n m)) ((if 0<=a9 h (G (n-1)) then [G (n-1)] else [])++(KI h G n m).map (·.2.2))
 |0,_=>by
  have e:bt n 0=n-1:=rfl;rw[e];show A7 Q h _ _ (_++[]);rw[append_nil]
  by_cases z:0<=a9 h (G (n-1))
  .rw[if_pos z];exact⟨λk b=>by simp at b,λ_=>rfl,λa=>by omega,λa=>by omega⟩
  .rw[if_neg z];exact⟨λk b=>by simp at b,λa=>absurd a z,λ_ x a=>(nomatch a),λ_ y a=>(nomatch a)⟩
 |m+1,hm=>by
  have:=Ag hh (ok _ (cA (show m<n by omega))) (ok m (by omega)) (d m (by omega)) (mM hh g ok d m (by omega))
  have e:bt n (m+1)=m:=by unfold bt;rw[if_neg (by omega)];rfl
  rw[e,xB,map_append,<-List.append_assoc];have a:(Jz h G n m).map (·.2.2)=(if iu h (G (bt n m)) (G m) then [dF h (G (bt n m)) (G m)] else [])++(if lw h (G m) then [G m] else []):=by
   unfold Jz
   split <;> split <;> rfl
  rw[a];exact this
theorem rp {Q:Hf->Prop}{h:Hf}(hh:vD Q h){q:aS}{K:List aS}(H:A7 Q h q q ((if 0<=a9 h q then [q] else [])++K))(k:Nat)(i:k<K.length):A6 Q (dh K k i) K[k]:=by
 by_cases z:0<=a9 h q
 .rw[if_pos z]at H;have a:=H.adj k (by simp;omega)
  have b:=H.inn z;unfold dh
  split <;> rename_i e
  .subst e;have:K[K.length-1]=q:=by
    rw[sw (by simp)]at b
    have:=Option.some.inj b;rw[<-this];simp only[List.singleton_append,length_cons,add_sub_cancel];rw[List.getElem_cons,dif_neg (by omega)]
   rw[this];simpa using a
  .have d:([q]++K)[k]'(by simp;omega)=K[k-1]:=by
    simp only[List.singleton_append];rw[List.getElem_cons,dif_neg e]
   rw[d]at a;simpa using a
 .rw[if_neg z,nil_append]at H;unfold dh
  split <;> rename_i e
  .subst e;have m:=H.out (by omega) K[K.length-1] (sw i)
   have g:=H.hd (by omega) K[0] (by rw[head?_eq_getElem?,List.getElem?_eq_getElem i])
   exact Dw hh m g
  .have a:=H.adj (k-1) (by omega)
   have d:k-1+1=k:=by omega
   simp only[d]at a;exact a
structure jx (L:List aS):Prop where
 ok:∀ s∈L,bH s
 reg:J6 (L.map ah)
 cn:∀ s∈L,Cn s
 lk:∀ k (hk:k<L.length),Lk (dh L k hk) L[k]
structure tO (h:Hf) (L K:List aS):Prop where
 ok:∀ u∈K,bH u
 nd:K.Nodup
 tri:qR (K.map ah)
 cn:∀ u∈K,Cn u
 lk:∀ k (hk:k<K.length),Lk (dh K k hk) K[k]
 len:K.length<=L.length+2
 hold:∀ u∈K,bV (L.map ah) (ah u)/\0<=a9 h u
 kept:∀ s∈L,0<=a9 h s->s∈K
 cross:∀ k (hk:k<L.length),iu h (dh L k hk) L[k]->dF h (dh L k hk) L[k]∈K
theorem RO (hh:gz h)(R:jx L)(p:3<=L.length):tO h L (gf h L):=by
 have T:=fz R.reg;have ok:∀ i,i<L.length->bH (gt L i):=λi hi=>by rw[bJ hi];exact R.ok _ (getElem_mem _)
 have m:pe (λi=>ah (gt L i)) L.length:=λa b c I J B=>by
  have:=T a b c I J (by rw[length_map];exact B)
  rw[getElem_map,getElem_map,getElem_map]at this;dsimp only;rw[bJ (show a<L.length by omega),bJ (show b<L.length by omega),bJ B]
  exact this
 have lk:∀ k,k<L.length->Lk (gt L (bt L.length k)) (gt L k):=λk d=>by
  have:=R.lk k d;rw[gR d]at this;rw[bJ d];exact this
 have e:gf h L=(KI h (gt L) L.length L.length).map (·.2.2):=by
  unfold gf;rw[xb];exact mK p ok m _ (le_refl _)
 rw[e];have mem:∀ u,u∈(KI h (gt L) L.length L.length).map (·.2.2)->∃ x:Itm,x.1<L.length/\Is h (gt L) L.length x/\u=x.2.2:=λu o=>by
  obtain⟨x,g,e⟩:=mem_map.mp o;exact⟨x,(cz.mp g).1,(cz.mp g).2,e.symm⟩
 refine⟨λu o=>?_,Pc p ok m,?_,λu o=>?_,λk d=>?_,?_,λu o=>?_,λs F C=>?_,λk d q=>?_⟩
 .obtain⟨x,g,hi,rfl⟩:=mem u o;exact(uu p ok m g hi).1
 .have:=Fz p ok m (h:=h);rw[map_map];exact this
 .obtain⟨x,g,hi,rfl⟩:=mem u o
  obtain⟨_,q,e⟩|⟨_,_,e⟩:=hi
  .rw[e];exact Jh (ok _ (cA g)) (ok _ g) q hh.1 hh.2 (lk _ g)
  .rw[e,bJ g];exact R.cn _ (getElem_mem _)
 .have H:=mM hh (show 0<L.length by omega) ok lk L.length (le_refl _)
  have E:bt L.length L.length=L.length-1:=by unfold bt;rw[if_neg (by omega)]
  rw[E]at H;exact rp hh H k d
 .rw[length_map];exact LV p ok m hh.2
 .obtain⟨x,g,hi,rfl⟩:=mem u o;obtain⟨_,D,f⟩:=uu p ok m g hi;refine⟨⟨by rw[length_map];omega,λz=>by rw[length_map]at z;omega,λ_ k d=>?_⟩,f⟩
  rw[length_map]at d;have v:dh (L.map ah) k (by rw[length_map];exact d)=ah (gt L (bt L.length k)):=by
   rw[bJ (cA d)];unfold dh bt
   split <;> rename_i e
   .simp[e]
   .simp[e]
  rw[v,getElem_map,<-bJ d,<-aX];have y:lo L.length x.2.1 x.1<L.length:=by
   unfold lo
   split
   .exact cA g
   .exact g
  refine sE D _ _ ?_ ?_
  .rw[aX];exact gG (P:=λi=>ah (gt L i)) m d y
  .rw[aX];exact gG (P:=λi=>ah (gt L i)) m d g
 .obtain⟨j,r,rfl⟩:=getElem_of_mem F;refine mem_map.mpr ⟨(j,false,L[j]),cz.mpr ⟨r,.inr ⟨rfl,?_,?_⟩⟩,rfl⟩
  .rw[bJ r];exact cb.mpr C
  .exact(bJ r).symm
 .rw[gR d,<-bJ d]at q ⊢;exact mem_map.mpr ⟨(k,true,_),cz.mpr ⟨d,.inl ⟨rfl,q,rfl⟩⟩,rfl⟩
theorem RL:tO h [] (gf h []):=by
 show tO h [] [];exact⟨λu d=>(nomatch d),List.nodup_nil,λa b c _ _ e=>(nomatch e),λu d=>(nomatch d),λk e=>(nomatch e),⋯,λu d=>(nomatch d),λu d=>(nomatch d),λk e=>(nomatch e)⟩
theorem tu (h:F.length<3):qR F:=λa b c d d d=>by omega
theorem yD:¬ iu h p p:=λz=>by have:=ci.mp z;omega
theorem xn (o:¬ iu h x.1 x.2):pc h ks x=if lw h x.2 then ks++[x.2] else ks:=by
 have c:¬ (iu h x.1 x.2/\¬ dF h x.1 x.2∈ks):=λz=>o z.1;unfold pc
 by_cases k:lw h x.2
 .rw[if_pos k,if_pos k,if_neg c]
 .rw[if_neg k,if_neg k,if_neg c]
theorem RM (R:jx [p]):tO h [p] (gf h [p]):=by
 have d:=R.ok p (by simp)
 have e:gf h [p]=if lw h p then [p] else []:=by
  show pc h [] (p,p)=_;rw[xn (x:=(p,p)) yD]
  rfl
 rw[e];have d:=R.lk 0 (by simp)
 have cross:∀ k (d:k < [p].length) (K:List aS),iu h (dh [p] k d) [p][k]->dF h (dh [p] k d) [p][k]∈K:=λk d K o=>by
  have:k=0:=by simp at d;exact d
  subst this;exact absurd o yD
 by_cases d:lw h p
 .rw[if_pos d];refine⟨λu g=>R.ok u g,by simp,tu (by simp),R.cn,R.lk,by simp,λu g=>?_,λs m _=>m,λk i o=>cross k i _ o⟩
  obtain rfl:=mem_singleton.mp g;exact⟨⟨by simp,λ_=>⟨nN _ _,bW.mpr (Bf.irr _),bW.mpr (Bf.irr _)⟩,λz=>by simp at z⟩,cb.mp d⟩
 .rw[if_neg d];refine⟨λu g=>(nomatch g),List.nodup_nil,λa b c _ _ q=>(nomatch q),λu g=>(nomatch g),λk d=>(nomatch d),by simp,λu g=>(nomatch g),λs m g=>?_,λk i o=>cross k i _ o⟩
  obtain rfl:=mem_singleton.mp m;exact absurd (cb.mpr g) d
theorem RN (hh:gz h)(R:jx [p,q]):tO h [p,q] (gf h [p,q]):=by
 have g:=R.ok p (by simp)
 have E:=R.ok q (by simp)
 have hb:Bf (ah p) (ah q):=eO.mp (R.reg.fst 1 (by simp) ⋯)
 have O:p≠q:=λe=>by rw[e]at hb;exact Bf.irr _ hb
 have lk:Lk p q:=R.lk 1 (by simp)
 have e:gf h [p,q]=pc h (pc h [] (q,p)) (p,q):=rfl;have y:∀ u,tL (ah u) (ah p) (ah q)\/u=p\/u=q->bV ([p,q].map ah) (ah u):=λu d=>by
  refine⟨by simp,λ_=>?_,λz=>by simp at z⟩
  show a8 (ah p) (ah q) (ah u)=0/\kj (ah u) (ah p)=false/\kj (ah q) (ah u)=false;rw[bW,bW]
  obtain m|rfl|rfl:=d
  .exact⟨ou m,L4 m (b8 g) (b8 E) hb⟩
  .exact⟨fN _ _,Bf.irr _,hb.asym⟩
  .exact⟨dX _ _,hb.asym,Bf.irr _⟩
 have I:∀ k (i:k < [p,q].length),(dh [p,q] k i=q/\[p,q][k]=p)\/(dh [p,q] k i=p/\[p,q][k]=q):=λk i=>by
  have:k=0\/k=1:=by simp at i;omega
  obtain rfl|rfl:=this
  .exact .inl ⟨rfl,rfl⟩
  .exact .inr ⟨rfl,rfl⟩
 have v:∀ K:List aS,(∃ l,∀ u∈K,Ny l u)->∀ k (i:k<K.length),Lk (dh K k i) K[k]:=by rintro K ⟨l,B⟩ k i;exact⟨l,B _ (oE i),B _ (getElem_mem _)⟩
 obtain⟨l,L,J⟩:=lk
 by_cases D:iu h p q
 .have B:iu h q p:=ci.mpr (by have:=ci.mp D;omega)
  obtain⟨Q,W,F⟩:=fM g E D;have ls:=vU g E D L J;have H:=Jh g E D hh.1 hh.2 ⟨l,L,J⟩;have o:=ci.mp D;have P:∀ x:aS,(x=p\/x=q)->0<=a9 h x->(∀ s∈[p,q],0<=a9 h s->s=x)->tO h [p,q] [dF h p q,x]:=λx C M only=>by
   have U:bH x:=by obtain rfl|rfl:=C;exact g;exact E
   have lx:Ny l x:=by obtain rfl|rfl:=C;exact L;exact J
   have nx:dF h p q≠x:=λe=>by
    rw[e]at F
    rcases C with rfl|rfl <;> omega
   have all:∀ u∈[dF h p q,x],u=dF h p q\/u=x:=λu d=>by simpa using d
   refine⟨λu d=>?_,?_,tu (by simp),λu d=>?_,v _ ⟨l,λu d=>?_⟩,by simp,λu d=>?_,λs F E=>?_,λk i _=>?_⟩
   .rcases all u d with rfl|rfl;exact Q;exact U
   .simp[nx]
   .rcases all u d with rfl|rfl
    .exact H
    .rcases C with e|e <;> rw[e] <;> exact R.cn _ (by simp)
   .rcases all u d with rfl|rfl;exact ls;exact lx
   .rcases all u d with rfl|rfl
    .exact⟨y _ (.inl W),by omega⟩
    .exact⟨y _ (.inr C),M⟩
   .rw[only s F E];simp
   .rcases I k i with ⟨H,g⟩|⟨H,g⟩
    .rw[H,g,mI h q p];simp
    .rw[H,g];simp
  obtain⟨Q,M⟩|⟨Q,M⟩:=o
  .have g:gf h [p,q]=[dF h p q,p]:=by
    rw[e];have M:pc h [] (q,p)=[dF h p q,p]:=by
     unfold pc;dsimp only;rw[if_pos (cb.mpr (by omega)),if_pos (show _/\_ from⟨B,by simp⟩),mI h q p]
     rfl
    rw[M];unfold pc;dsimp only;rw[if_neg (λz=>by have:=cb.mp z;omega),if_neg (λz=>z.2 (by simp))]
   rw[g];exact P p (.inl rfl) (by omega) λs F E=>by
    obtain r|r:=mem_cons.mp F
    .exact r
    .have:=mem_singleton.mp r;rw[this]at E;omega
  .have g:gf h [p,q]=[dF h p q,q]:=by
    rw[e];have M:pc h [] (q,p)=[dF h p q]:=by
     unfold pc;dsimp only;rw[if_neg (λz=>by have:=cb.mp z;omega),if_pos (show _/\_ from⟨B,by simp⟩),mI h q p]
     rfl
    rw[M];unfold pc;dsimp only;rw[if_pos (cb.mpr (by omega)),if_neg (λz=>z.2 (by simp))]
    rfl
   rw[g];exact P q (.inr rfl) (by omega) λs F E=>by
    obtain r|r:=mem_cons.mp F
    .rw[r]at E;omega
    .exact mem_singleton.mp r
 .have B:¬ iu h q p:=λz=>D (ci.mpr (by have:=ci.mp z;omega))
  have g:gf h [p,q]=[p,q].filter λs=>decide (lw h s):=by
   rw[e];rw[xn (x:=(q,p)) B,xn (x:=(p,q)) D];dsimp only
   by_cases a:lw h p <;> by_cases b:lw h q <;> simp[a,b]
  rw[g];have sub:∀ u∈[p,q].filter (λs=>decide (lw h s)),u∈[p,q]/\lw h u:=λu d=>by
   obtain⟨a,b⟩:=mem_filter.mp d;exact⟨a,of_decide_eq_true b⟩
  have M:([p,q].filter λs=>decide (lw h s)).length<=2:=length_filter_le _ [p,q];refine⟨λu d=>R.ok u (sub u d).1,?_,tu (by rw[length_map];omega),λu d=>R.cn u (sub u d).1,v _ ⟨l,λu d=>?_⟩,by simp only[length_cons,length_nil];omega,λu d=>⟨y u ?_,cb.mp (sub u d).2⟩,λs F E=>mem_filter.mpr ⟨F,decide_eq_true (cb.mpr E)⟩,λk i C=>?_⟩
  .have:[p,q].Nodup:=by simp[O]
   exact this.filter _
  .rcases mem_cons.mp (sub u d).1 with r|r
   .rw[r];exact L
   .rw[mem_singleton.mp r];exact J
  .rcases mem_cons.mp (sub u d).1 with r|r
   .exact .inr (.inl r)
   .exact .inr (.inr (mem_singleton.mp r))
  .rcases I k i with ⟨H,g⟩|⟨H,g⟩
   .rw[H,g]at C;exact absurd C B
   .rw[H,g]at C;exact absurd C D
theorem xK (hh:gz h)(R:jx L):tO h L (gf h L):=by
 match L,R with
 | [],_=>exact RL
 | [p],R=>exact RM R
 | [p,q],R=>exact RN hh R
 |p::q::r::l,R=>exact RO hh R (by simp)
def fl (p:Pt):Hf:=(p.1,p.2,1)
theorem kd (p:Pt):ah (eX p)=fl p:=by unfold ah eX fl;simp
theorem xT (a b c:Pt):a8 (fl a) (fl b) (fl c)=cr a b c:=by unfold a8 fl cr;grind
theorem qX (a b:Pt):kj (fl a) (fl b)=true↔cS a b:=by
 unfold kj fl cS;simp only[mul_one]
 by_cases h:a.1=b.1
 .rw[if_neg (by simpa using h),decide_eq_true_eq];ext
 .rw[if_pos h,decide_eq_true_eq];ext
theorem xH (h:¬ cS a b):kj (fl a) (fl b)=false:=by
 cases e:kj (fl a) (fl b) with
 |false=>rfl
 |true=>exact absurd ((qX a b).mp e) h
theorem gM (a:Pt):¬ cS a a:=by unfold cS;ext
theorem Do (h:cS a b):¬ cS b a:=by unfold cS at *;ext
theorem LW {S:List Pt}(h:S.Pairwise cS):∃ m:Pt,S.Pairwise λa b=>fn m a<fn m b:=by
 obtain⟨B,d,g⟩:∃ B:Int,0<=B/\∀ p∈S,-B<=p.2/\p.2<=B:=by
  clear h
  induction S with
  |nil=>exact⟨0,Int.le_refl _,λp e=>by cases e⟩
  |cons a S k=>
   obtain⟨B,d,d⟩:=k;refine⟨B+(a.2.natAbs:Int),⋯,λp e=>?_⟩
   obtain rfl|e:=mem_cons.mp e
   .ext
   .have:=d p e;ext
 refine⟨(2*B+1,1),?_⟩;rw[pairwise_iff_getElem]at h ⊢;intro i j hi k e;have d:=h i j hi k e;have e:=g _ (getElem_mem hi);have e:=g _ (getElem_mem k);unfold fn;dsimp only
 obtain d|⟨d,e⟩:=d
 .have e:(2*B+1)*(S[i].1+1)<=(2*B+1)*S[j].1:=Int.mul_le_mul_of_nonneg_left ⋯ ⋯
  rw[Int.mul_add]at e;ext
 .rw[d];ext
theorem fT (f:α->β)(H:List α)(k:Nat)(h:k<(H.map f).length):dh (H.map f) k h=f (dh H k (by simpa using h)):=by
 unfold dh
 split
 .simp
 .simp
theorem uD {S:List Pt}{m:Pt}(g:S.Pairwise cS)(k:S.Pairwise λa b=>fn m a<fn m b){a b:Pt}(ha:a∈S)(hb:b∈S)(h:cS a b):fn m a<fn m b:=by
 obtain⟨i,hi,rfl⟩:=getElem_of_mem ha;obtain⟨j,e,rfl⟩:=getElem_of_mem hb
 obtain d|d|d:=lt_trichotomy i j
 .exact pairwise_iff_getElem.mp k i j hi e d
 .subst d;exact absurd h (gM _)
 .exact absurd (pairwise_iff_getElem.mp g j i e hi d) (Do h)
structure vE (S H:List Pt):Prop where
 reg:J6 (H.map fl)
 hold:∀ p∈S,bV (H.map fl) (fl p)
 sub:∀ p∈H,p∈S
 ne:H≠[]
theorem G9 {S:List Pt}(hs:S.Pairwise cS)(u:S≠[]):vE S (bO S):=by
 unfold bO
 match S,u,hs with
 | [p],_,_=>
  rw[if_pos (by simp)]
  refine⟨⟨λk i d=>by simp at i;ext,λh=>by simp at h⟩,λq a=>?_,λq a=>a,by simp⟩
  obtain rfl:=mem_singleton.mp a;refine⟨by simp,λ_=>?_,λh=>by simp at h⟩
  show a8 (fl q) (fl q) (fl q)=0/\kj (fl q) (fl q)=false/\kj (fl q) (fl q)=false;exact⟨by rw[xT,rj],xH (gM q),xH (gM q)⟩
 |b::a::l,_,hs=>
  rw[if_neg (by simp only[length_cons];ext)]
  obtain⟨m,hm⟩:=LW hs;obtain⟨R,d⟩:=Fk hm;generalize mj (b::a::l)=H at R d;have a:=R.len;have b:=d ⋯
  have d:(H.map fl).length=H.length:=length_map ..;refine⟨⟨λk i o=>?_,λy k i v z d r=>?_⟩,λp g=>⟨⋯,λh=>?_,λr k i=>?_⟩,R.sub,λe=>by rw[e]at a;simp at a⟩
  .rw[getElem_map,getElem_map,qX,b];have d:=R.sub _ (getElem_mem (show k<H.length by ext))
   have y:=R.fst k ⋯ o
   rw[b]at y
   obtain h|h:=mem_cons.mp d
   .exact absurd h y
   .exact(pairwise_cons.mp hs).1 _ h
  .obtain⟨x,a,rfl⟩:=mem_map.mp z;rw[fT]at r ⊢;rw[getElem_map]at d ⊢;rw[xT];exact R.strict k ⋯ x a (λe=>r (by rw[e];rfl)) (λe=>d (by rw[e]))
  .have b:H.length=2:=⋯
   obtain⟨c,a,a,a,a⟩:=R.two b p g;have d:=R.sub _ (getElem_mem (show 0<H.length by ext))
   have b:=R.sub _ (getElem_mem (show 1<H.length by ext))
   have i:(H.map fl)[(H.map fl).length-1]'⋯=fl H[1]:=by
    rw[getElem_map]
    congr 2;ext
   rw[i,getElem_map,xT];refine⟨c,xH λh=>?_,xH λh=>?_⟩
   .have:=uD hs a g d h;ext
   .have:=uD hs a b g h;ext
  .rw[fT,getElem_map,xT];exact R.left k ⋯ p g
set_option maxHeartbeats 1000000
def uN (L:List aS)(m:Nat):Nat:=(List.range m).foldl (λf k=>if FP (gt L k) (gt L f)=true then k else f) 0
def LD (L:List aS):List aS:=L.drop (uN L L.length)++L.take (uN L L.length)
theorem uO (L:List aS)(m:Nat):uN L (m+1)=if FP (gt L m) (gt L (uN L m))=true then m else uN L m:=by
 unfold uN;rw[range_succ,foldl_append]
 rfl
theorem lO (ok:∀ s∈L,bH s)(h:0<L.length):∀ m,m<=L.length->uN L m<L.length/\∀ j,j<m->¬ Bf (ah (gt L j)) (ah (gt L (uN L m)))
 |0,_=>⟨h,λj d=>⋯⟩
 |m+1,hm=>by
  obtain⟨a,b⟩:=lO ok h m ⋯
  have g:∀ i,i<L.length->bH (gt L i):=λi hi=>by rw[bJ hi];exact ok _ (getElem_mem _)
  rw[uO,oo (g m ⋯) (g _ a)]
  split
  .rename_i hb;rw[eO]at hb;refine⟨⋯,λj d=>?_⟩
   by_cases e:j=m
   .rw[e];exact Bf.irr _
   .exact λz=>b j ⋯ (Bf.trans (b8 (g j ⋯)) (b8 (g m ⋯)) (b8 (g _ a)) z hb)
  .rename_i hb;rw[eO]at hb;refine⟨a,λj d=>?_⟩
   by_cases e:j=m
   .rw[e];exact hb
   .exact b j ⋯
def oK (n m i:Nat):Nat:=if i<n-m then m+i else i-(n-m)
theorem jX (hm:m<n) (hi:i<n):oK n m i<n:=by unfold oK;split <;> ext
theorem kP (K:List α)(hm:m<=K.length):(K.drop m++K.take m).length=K.length:=by
 rw[List.length_append,length_drop,length_take];ext
theorem ei {α:Type}{K:List α}{m i:Nat} (hm:m<K.length) (hi:i<K.length):(K.drop m++K.take m)[i]'(by rw[kP K ⋯];exact hi)=K[oK K.length m i]'(jX hm hi):=by
 unfold oK
 split
 .rename_i h;rw[getElem_append_left (by rw[length_drop];exact h),List.getElem_drop]
 .rename_i h;rw[getElem_append_right (by rw[length_drop];ext),List.getElem_take]
  simp only[length_drop]
theorem sN {α:Type}{K:List α}{m:Nat}{u:α}:u∈K.drop m++K.take m↔u∈K:=by
 rw[mem_append,Or.comm,<-mem_append,take_append_drop]
theorem xg {α:Type}{K:List α}{m i:Nat} (hm:m<K.length) (hi:i<K.length):dh (K.drop m++K.take m) i (by rw[kP K ⋯];exact hi)=dh K (oK K.length m i) (jX hm hi):=by
 have b:=kP K (m:=m) ⋯
 unfold dh
 by_cases e:i=0
 .rw[dif_pos e];have h:(K.drop m++K.take m).length-1=K.length-1:=by rw[b]
  simp only[h];rw[ei hm ⋯]
  subst e;have r:oK K.length m 0=m:=by unfold oK;rw[if_pos ⋯];rfl
  by_cases a:m=0
  .rw[dif_pos (by rw[r];exact a)]
   congr 1
   unfold oK;rw[if_pos ⋯];ext
  .rw[dif_neg (by rw[r];exact a)]
   congr 1
   rw[r];unfold oK;rw[if_neg ⋯];ext
 .rw[dif_neg e,ei hm ⋯]
  by_cases z:oK K.length m i=0
  .rw[dif_pos z]
   congr 1
   unfold oK at z ⊢
   split at z
   .ext
   .rw[if_pos ⋯];ext
  .rw[dif_neg z]
   congr 1
   unfold oK at z ⊢
   split at z
   .rw[if_pos ⋯,if_pos ⋯];ext
   .rename_i c;rw[if_neg ⋯,if_neg c];ext
theorem IU {F:List Hf}{m:Nat}(hm:m<F.length)(T:qR F):qR (F.drop m++F.take m):=by
 intro a b c h h h;rw[kP F ⋯]at h
 rw[ei hm ⋯,ei hm ⋯,ei hm h]
 unfold oK
 by_cases h:c<F.length-m
 .simp only[if_pos h,if_pos (show b<F.length-m by ext),if_pos (show a<F.length-m by ext)]
  exact T _ _ _ ⋯ ⋯ _
 .by_cases hb:b<F.length-m
  .simp only[if_neg h,if_pos hb,if_pos (show a<F.length-m by ext)]
   rw[<-aX];exact T _ _ _ ⋯ ⋯ _
  .by_cases ha:a<F.length-m
   .simp only[if_neg h,if_neg hb,if_pos ha];rw[aX];exact T _ _ _ ⋯ ⋯ _
   .simp only[if_neg h,if_neg hb,if_neg ha];exact T _ _ _ ⋯ ⋯ _
theorem Fb {h:Hf}{L K:List aS}(C:tO h L K):jx (LD K)/\(∀ u,u∈LD K↔u∈K)/\(LD K).length=K.length:=by
 by_cases b:K.length=0
 .have e:K=[]:=length_eq_zero_iff.mp b;subst e;exact⟨⟨λu g=>(nomatch g),⟨λk b=>(nomatch b),λh=>(nomatch h)⟩,λu g=>(nomatch g),λk b=>(nomatch b)⟩,λu=>Iff.rfl,rfl⟩
 have p:0<K.length:=⋯
 obtain⟨hm,d⟩:=lO C.ok p K.length (le_refl _);unfold LD;generalize uN K K.length=m at hm d;have i:=kP K (m:=m) ⋯
 have o:(K.drop m++K.take m).map ah=(K.map ah).drop m++(K.map ah).take m:=by rw[map_append,map_drop,map_take]
 have T:qR ((K.drop m++K.take m).map ah):=by
  rw[o];exact IU (by rw[length_map];exact hm) C.tri
 refine⟨⟨λu g=>C.ok u (sN.mp g),⟨λk b o=>?_,λr k b v x o q=>xf T r k b v x o q⟩,λu g=>C.cn u (sN.mp g),λk b=>?_⟩,λu=>sN,i⟩
 .rw[length_map,i]at b;rw[getElem_map,getElem_map,ei hm p,ei hm b,eO];have g:oK K.length m 0=m:=by unfold oK;rw[if_pos ⋯];rfl
  have r:=jX hm b;have o:oK K.length m k≠m:=by unfold oK;split <;> ext
  simp only[g];have a:=d _ r;rw[bJ r,bJ hm]at a;have ne:K[m]≠K[oK K.length m k]:=λe=>by
   obtain l|l|l:=lt_trichotomy m (oK K.length m k)
   .exact pairwise_iff_getElem.mp C.nd _ _ hm r l e
   .exact o l.symm
   .exact pairwise_iff_getElem.mp C.nd _ _ r hm l e.symm
  exact(Bz (C.ok _ (getElem_mem _)) (C.ok _ (getElem_mem _)) ne).resolve_right a
 .have d:k<K.length:=by rw[i]at b;exact b
  rw[xg hm d,ei hm d];exact C.lk _ _
def gD (h:Hf)(L:List aS):List aS:=LD (gf h L)
structure RB (h:Hf) (L K:List aS):Prop where
 reg:jx K
 len:K.length<=L.length+2
 hold:∀ u∈K,bV (L.map ah) (ah u)/\0<=a9 h u
 kept:∀ s∈L,0<=a9 h s->s∈K
 cross:∀ k (hk:k<L.length),iu h (dh L k hk) L[k]->dF h (dh L k hk) L[k]∈K
theorem rg (hh:gz h)(R:jx L):RB h L (gD h L):=by
 have C:=xK hh R;obtain⟨a,b,c⟩:=Fb C;exact⟨a,by unfold gD;rw[c];exact C.len,λu d=>C.hold u ((b u).mp d),λs e d=>(b s).mpr (C.kept s e d),λk d o=>(b _).mpr (C.cross k d o)⟩
theorem qY (v:tL q u u):(Bf q x↔Bf u x)/\(Bf x q↔Bf x u):=by
 obtain⟨a,i,b,k,g,g,p,m,r⟩:=v;have g:0<i+b:=⋯
 have o:a*q.1=(i+b)*u.1:=by rw[p];grind
 have p:a*q.2.1=(i+b)*u.2.1:=by rw[m];grind
 have m:a*q.2.2=(i+b)*u.2.2:=by rw[r];grind
 generalize i+b=c at g o p m;have r:a*(q.1*x.2.2-x.1*q.2.2)=c*(u.1*x.2.2-x.1*u.2.2):=by
  have t:a*(q.1*x.2.2-x.1*q.2.2)=a*q.1*x.2.2-x.1*(a*q.2.2):=by grind
  rw[t,o,m];grind
 have i:a*(q.2.1*x.2.2-x.2.1*q.2.2)=c*(u.2.1*x.2.2-x.2.1*u.2.2):=by
  have t:a*(q.2.1*x.2.2-x.2.1*q.2.2)=a*q.2.1*x.2.2-x.2.1*(a*q.2.2):=by grind
  rw[t,p,m];grind
 have b:∀ {d e:Int},a*d=c*e->(0<d↔0<e)/\(d<0↔e<0):=λ{d e} h=>by
  constructor
  .exact⟨λz=>dA g (by rw[<-h];exact mul_pos k z),λz=>dA k (by rw[h];exact mul_pos g z)⟩
  .constructor
   .intro z;have:=dA (κ:=c) (x:=-e) g (by rw[mul_neg,<-h];have:=mul_neg_of_pos_of_neg k z;ext)
    ext
   .intro z;have:=dA (κ:=a) (x:=-d) k (by rw[mul_neg,h];have:=mul_neg_of_pos_of_neg g z;ext)
    ext
 have a:=b r;have a:=b i;unfold Bf;generalize q.1*x.2.2=A1 at *;generalize x.1*q.2.2=A2 at *;generalize u.1*x.2.2=A3 at *;generalize x.1*u.2.2=A4 at *;generalize q.2.1*x.2.2=B1 at *;generalize x.2.1*q.2.2=B2 at *;generalize u.2.1*x.2.2=B3 at *;generalize x.2.1*u.2.2=B4 at *;constructor <;> constructor <;> intro z <;> ext
theorem wg (a:tL q u u)(v w:Hf):(0<=a8 v w u->0<=a8 v w q)/\(a8 v w u=0->a8 v w q=0):=by
 refine⟨λh=>?_,λh=>?_⟩
 .rw[<-aX];exact sE a v w (by rw[aX];exact h) (by rw[aX];exact h)
 .obtain⟨i,b,b,k,b,b,d,b,g⟩:=a;have e:=sD d b g v w;rw[aX q v w,aX u v w,h,mul_zero,mul_zero]at e
  obtain z | z:=mul_eq_zero.mp (show i*a8 v w q=0 by ext)
  .ext
  .exact z
theorem gm (R:jx L)(hs:s∈L)(b:tL q (ah s) (ah s)):bV (L.map ah) q:=by
 obtain⟨j,d,rfl⟩:=getElem_of_mem hs;have a:(L.map ah).length=L.length:=length_map ..;have h:ah L[j]∈L.map ah:=mem_map.mpr ⟨_,getElem_mem d,rfl⟩;refine⟨⋯,λd=>?_,λd k g=>(wg b _ _).1 ?_⟩
 .rw[a]at d;rw[bW,bW,(qY b).1,(qY b).2];have d:(L.map ah)[(L.map ah).length-1]'⋯=ah L[L.length-1]:=by
   rw[getElem_map];congr 2;ext
  rw[d,getElem_map];have z:j=0\/j=L.length-1:=⋯
  have d:L.length=2->Bf (ah L[0]) (ah L[L.length-1]):=λe=>by
   have:=R.reg.fst 1 (by rw[a];ext) ⋯
   rw[getElem_map,getElem_map,eO]at this;have a:L.length-1=1:=⋯
   simp only[a];exact this
  obtain z|z:=z
  .subst z;refine⟨(wg b _ _).2 (fN _ _),Bf.irr _,?_⟩
   by_cases e:L.length=2
   .exact(d e).asym
   .have a:L.length-1=0:=⋯
    simp only[a];exact Bf.irr _
  .subst z;refine⟨(wg b _ _).2 (dX _ _),?_,Bf.irr _⟩
   by_cases e:L.length=2
   .exact(d e).asym
   .have a:L.length-1=0:=⋯
    simp only[a];exact Bf.irr _
 .by_cases a:ah L[j]=(L.map ah)[k]
  .rw[a,dX];exact Int.le_refl _
  .by_cases d:ah L[j]=dh (L.map ah) k g
   .rw[d,fN];exact Int.le_refl _
   .exact le_of_lt (R.reg.trn ⋯ k g _ h a d)
def aY (h u:Hf):Int:=h.1*u.1+h.2.1*u.2.1-h.2.2*u.2.2
theorem cN (h:Hf)(s:aS):aY h (ah s)=a9 h s:=(ef h s).symm
theorem M3 (p:Pt):bH (eX p):=⟨⟨by show(0:Int)<1;decide,by show Int.gcd p.1 1=1;simp⟩,by show(0:Int)<1;decide,by show Int.gcd p.2 1=1;simp⟩
theorem tf (h:1<=n):Sz n 1:=⟨by show 1<2 ^ n;exact Nat.one_lt_two_pow ⋯⟩
theorem tj:Sz n 0:=⟨Nat.two_pow_pos n⟩
set_option maxHeartbeats 1000000
theorem Mo (a:κ*u.1=α*p.1+β*q.1)(e:κ*u.2.1=α*p.2.1+β*q.2.1)(b:κ*u.2.2=α*p.2.2+β*q.2.2):κ*aY l u=α*aY l p+β*aY l q:=by
 unfold aY;have t:κ*(l.1*u.1+l.2.1*u.2.1-l.2.2*u.2.2)=l.1*(κ*u.1)+l.2.1*(κ*u.2.1)-l.2.2*(κ*u.2.2):=by grind
 rw[t,a,e,b];grind
def Rn (L:List aS)(q:Hf):Prop:=∃ a b c:aS,a∈L/\b∈L/\c∈L/\∃ e d h g:Int,0<e/\0<=d/\0<=h/\0<=g/\e*q.1=d*(ah a).1+h*(ah b).1+g*(ah c).1/\e*q.2.1=d*(ah a).2.1+h*(ah b).2.1+g*(ah c).2.1/\e*q.2.2=d*(ah a).2.2+h*(ah b).2.2+g*(ah c).2.2
theorem mQ (h:κ*q.1=α*a.1+β*b.1+d*c.1)(e:κ*q.2.1=α*a.2.1+β*b.2.1+d*c.2.1)(g:κ*q.2.2=α*a.2.2+β*b.2.2+d*c.2.2):κ*aY l q=α*aY l a+β*aY l b+d*aY l c:=by
 unfold aY;have t:κ*(l.1*q.1+l.2.1*q.2.1-l.2.2*q.2.2)=l.1*(κ*q.1)+l.2.1*(κ*q.2.1)-l.2.2*(κ*q.2.2):=by grind
 rw[t,h,e,g];grind
def Cv (L:List aS)(q:Hf):Prop:=∀ l:Hf,(∀ s∈L,0<=aY l (ah s))->0<=aY l q
theorem K6 (h:Rn L q):Cv L q:=by
 obtain⟨a,b,c,ha,hb,p,d,d,d,d,u,r,i,g,m,k,o⟩:=h;intro l d;have e:=mQ (l:=l) m k o;have x:=mul_nonneg r (d a ha);have x:=mul_nonneg i (d b hb);have x:=mul_nonneg g (d c p);exact cT u ⋯
theorem change (f:Nat->Int):∀ m,2<=m->0<=f 1->f m<=0->∃ i,1<=i/\i<m/\0<=f i/\f (i+1)<=0
 |0,h,_,_=>⋯
 |1,h,_,_=>⋯
 |m+2,_,a,b=>by
  by_cases h:0<=f (m+1)
  .exact⟨m+1,⋯,⋯,h,b⟩
  .by_cases hm:m=0
   .subst hm;exact absurd a h
   .obtain⟨i,d,k,g,e⟩:=change f (m+1) ⋯ a ⋯
    exact⟨i,d,⋯,g,e⟩
theorem K5 (a b c q:Hf):a8 a b c*q.1=a8 b c q*a.1+a8 c a q*b.1+a8 a b q*c.1/\a8 a b c*q.2.1=a8 b c q*a.2.1+a8 c a q*b.2.1+a8 a b q*c.2.1/\a8 a b c*q.2.2=a8 b c q*a.2.2+a8 c a q*b.2.2+a8 a b q*c.2.2:=by
 unfold a8;refine⟨?_,?_,?_⟩ <;> grind
theorem eH (R:jx L):pe (λi=>ah (gt L i)) L.length:=λa b c d e h=>by
 have:=fz R.reg a b c d e (by rw[length_map];exact h)
 rw[getElem_map,getElem_map,getElem_map]at this;dsimp only;rw[bJ (show a<L.length by ext),bJ (show b<L.length by ext),bJ h]
 exact this
theorem i5 (h:bV (L.map ah) q)(b:3<=L.length)(k:Nat)(a:k<L.length):0<=a8 (ah (gt L (bt L.length k))) (ah (gt L k)) q:=by
 have:=h.all (by rw[length_map];exact b) k (by rw[length_map];exact a)
 rw[fT,getElem_map,gR a,<-bJ a]at this;exact this
theorem GN (hd:a8 p r q=0)(hb:Bf p r)(e:¬ Bf q p)(h:¬ Bf r q)(g:0<p.2.2)(i:0<r.2.2)(k:0<q.2.2):∃ d a b:Int,0<d/\0<=a/\0<=b/\d*q.1=a*p.1+b*r.1/\d*q.2.1=a*p.2.1+b*r.2.1/\d*q.2.2=a*p.2.2+b*r.2.2:=by
 unfold Bf at hb e h;unfold a8 at hd
 obtain hb|⟨hb,hb'⟩:=hb
 .refine⟨r.1*p.2.2-p.1*r.2.2,r.1*q.2.2-q.1*r.2.2,q.1*p.2.2-p.1*q.2.2,⋯,⋯,⋯,?_,?_,?_⟩
  .grind
  .grind
  .grind
 .have x:q.1*p.2.2-p.1*q.2.2=0:=by
   have:(q.1*p.2.2-p.1*q.2.2)*(r.2.1*p.2.2-p.2.1*r.2.2)=0:=by grind
   obtain z|z:=mul_eq_zero.mp this
   .exact z
   .ext
  have x:r.1*q.2.2-q.1*r.2.2=0:=by
   have:p.2.2*(r.1*q.2.2-q.1*r.2.2)=0:=by grind
   obtain z|z:=mul_eq_zero.mp this
   .ext
   .exact z
  refine⟨r.2.1*p.2.2-p.2.1*r.2.2,r.2.1*q.2.2-q.2.1*r.2.2,q.2.1*p.2.2-p.2.1*q.2.2,⋯,⋯,⋯,?_,?_,?_⟩
  .grind
  .grind
  .grind
theorem kx (R:jx L)(v:0<q.2.2)(h:bV (L.map ah) q):Rn L q:=by
 match L,R,h with
 | [],_,h=>exact absurd h.ne (by simp)
 | [p],R,h=>
  obtain⟨_,a,b⟩:=h.few (by simp)
  have a:¬ Bf q (ah p):=bW.mp a;have b:¬ Bf (ah p) q:=bW.mp b;have z:=b8 (R.ok p (by simp))
  unfold Bf at a b;refine⟨p,p,p,by simp,by simp,by simp,(ah p).2.2,q.2.2,0,0,z,⋯,⋯,⋯,?_,?_,?_⟩
  .have:q.1*(ah p).2.2=(ah p).1*q.2.2:=⋯
   grind
  .have:q.2.1*(ah p).2.2=(ah p).2.1*q.2.2:=⋯
   grind
  .grind
 | [p,r],R,h=>
  obtain⟨d,a,b⟩:=h.few (by simp)
  have d:a8 (ah p) (ah r) q=0:=d;have a:¬ Bf q (ah p):=bW.mp a;have b:¬ Bf (ah r) q:=bW.mp b;have hb:Bf (ah p) (ah r):=eO.mp (R.reg.fst 1 (by simp) ⋯)
  obtain⟨m,y,o,x,z,u,g,e,k⟩:=GN d hb a b (b8 (R.ok p (by simp))) (b8 (R.ok r (by simp))) v
  exact⟨p,r,p,by simp,by simp,by simp,m,y,o,0,x,z,u,⋯,by rw[g];ext,by rw[e];ext,by rw[k];ext⟩
 |p::r::s::t,R,h=>
  have a:3<=(p::r::s::t).length:=by simp
  generalize p::r::s::t=L at R h a;have m:=eH R;have d:=i5 h a 1 ⋯
  have b:=i5 h a 0 ⋯
  have g:bt L.length 1=0:=rfl;have e:bt L.length 0=L.length-1:=rfl;rw[g]at d;rw[e]at b;obtain⟨i,b,b,b,e⟩:=change (λi=>a8 (ah (gt L 0)) (ah (gt L i)) q) (L.length-1) ⋯ d (by
   have:a8 (ah (gt L 0)) (ah (gt L (L.length-1))) q=-a8 (ah (gt L (L.length-1))) (ah (gt L 0)) q:=by unfold a8;grind
   show a8 (ah (gt L 0)) (ah (gt L (L.length-1))) q<=0;ext)
  have d:=i5 h a (i+1) ⋯
  have k:bt L.length (i+1)=i:=by unfold bt;rw[if_neg ⋯];rfl
  rw[k]at d;have b:0<=a8 (ah (gt L 0)) (ah (gt L i)) q:=b;have e:a8 (ah (gt L 0)) (ah (gt L (i+1))) q<=0:=e;have D:=m 0 i (i+1) ⋯ ⋯ ⋯
  obtain⟨e,a,m⟩:=K5 (ah (gt L 0)) (ah (gt L i)) (ah (gt L (i+1))) q;have g:0<=a8 (ah (gt L (i+1))) (ah (gt L 0)) q:=by
   have:a8 (ah (gt L (i+1))) (ah (gt L 0)) q=-a8 (ah (gt L 0)) (ah (gt L (i+1))) q:=by unfold a8;grind
   ext
  have mem:∀ j,j<L.length->gt L j∈L:=λj k=>by rw[bJ k];exact getElem_mem _
  exact⟨gt L 0,gt L i,gt L (i+1),mem _ ⋯,mem _ ⋯,mem _ ⋯,_,_,_,_,D,d,g,b,e,a,m⟩
def qo (a b:Hf):Hf:=(a.2.1*b.2.2-b.2.1*a.2.2,b.1*a.2.2-a.1*b.2.2,b.1*a.2.1-a.1*b.2.1)
theorem fk (a b q:Hf):aY (qo a b) q=a8 a b q:=by unfold aY qo a8;grind
theorem mL (R:jx L)(y:0<q.2.2)(h:Cv L q):bV (L.map ah) q:=by
 match L,R,h with
 | [],_,h=>
  have:=h (0,0,1) (λs g=>by cases g)
  unfold aY at this;dsimp only at this;ext
 | [p],R,h=>
  have x:=b8 (R.ok p (by simp))
  have all:∀ l:Hf,0<=aY l (ah p)->0<=aY l q:=λl o=>h l (λs g=>by rw[mem_singleton.mp g];exact o)
  have b:=all ((ah p).2.2,0,(ah p).1) (by unfold aY;grind)
  have a:=all (-(ah p).2.2,0,-(ah p).1) (by unfold aY;grind)
  have m:=all (0,(ah p).2.2,(ah p).2.1) (by unfold aY;grind)
  have d:=all (0,-(ah p).2.2,-(ah p).2.1) (by unfold aY;grind)
  unfold aY at b a m d;dsimp only at b a m d;rw[zero_mul]at b a m d;simp only[neg_mul]at b a m d;rw[mul_comm (ah p).2.2 q.1]at b a;rw[mul_comm (ah p).2.2 q.2.1]at m d;refine⟨by simp,λ_=>⟨nN _ _,bW.mpr (λz=>?_),bW.mpr (λz=>?_)⟩,λz=>by simp at z⟩
  .have z:Bf q (ah p):=z;unfold Bf at z;ext
  .have z:Bf (ah p) q:=z;unfold Bf at z;ext
 | [p,r],R,h=>
  have x:=b8 (R.ok p (by simp))
  have d:=b8 (R.ok r (by simp))
  have hb:Bf (ah p) (ah r):=eO.mp (R.reg.fst 1 (by simp) ⋯)
  have all:∀ l:Hf,0<=aY l (ah p)->0<=aY l (ah r)->0<=aY l q:=λl o d=>h l (λs g=>by
   obtain e|e:=mem_cons.mp g
   .rw[e];exact o
   .rw[mem_singleton.mp e];exact d)
  refine⟨by simp,λ_=>?_,λz=>by simp at z⟩
  show a8 (ah p) (ah r) q=0/\kj q (ah p)=false/\kj (ah r) q=false;generalize ah p=u at *;generalize ah r=v at *;have d:=all (qo u v) (by rw[fk,fN];exact Int.le_refl _) (by rw[fk,dX];exact Int.le_refl _)
  have m:=all (qo v u) (by rw[fk,dX];exact Int.le_refl _) (by rw[fk,fN];exact Int.le_refl _)
  rw[fk]at d m;have d:a8 v u q=-a8 u v q:=by unfold a8;grind
  have hd:a8 u v q=0:=⋯
  have d:=hd;unfold a8 at d;have d:¬ Bf q u/\¬ Bf v q:=by
   unfold Bf at hb ⊢
   obtain hb|⟨hb,hb'⟩:=hb
   .have b:=all (u.2.2,0,u.1) (by unfold aY;grind) (by unfold aY;dsimp only;rw[zero_mul,mul_comm u.2.2];ext)
    have a:=all (-v.2.2,0,-v.1) (by unfold aY;dsimp only;rw[zero_mul,neg_mul,neg_mul,mul_comm v.2.2];ext) (by unfold aY;grind)
    unfold aY at b a;dsimp only at b a;rw[zero_mul]at b a;simp only[neg_mul]at b a;rw[mul_comm u.2.2]at b;rw[mul_comm v.2.2]at a;have k1:q.1*u.2.2=u.1*q.2.2->q.2.1*u.2.2=u.2.1*q.2.2:=λe=>by
     have:(q.2.1*u.2.2-u.2.1*q.2.2)*(v.1*u.2.2-u.1*v.2.2)=0:=by grind
     obtain z|z:=mul_eq_zero.mp this
     .ext
     .ext
    have o:v.1*q.2.2=q.1*v.2.2->v.2.1*q.2.2=q.2.1*v.2.2:=λe=>by
     have:(v.2.1*q.2.2-q.2.1*v.2.2)*(v.1*u.2.2-u.1*v.2.2)=0:=by grind
     obtain z|z:=mul_eq_zero.mp this
     .ext
     .ext
    constructor
    .rintro(z|⟨z,m⟩)
     .ext
     .have:=k1 z;ext
    .rintro(z|⟨z,m⟩)
     .ext
     .have:=o z;ext
   .have x:q.1*u.2.2-u.1*q.2.2=0:=by
     have:(q.1*u.2.2-u.1*q.2.2)*(v.2.1*u.2.2-u.2.1*v.2.2)=0:=by grind
     obtain z|z:=mul_eq_zero.mp this
     .exact z
     .ext
    have x:v.1*q.2.2-q.1*v.2.2=0:=by
     have:u.2.2*(v.1*q.2.2-q.1*v.2.2)=0:=by grind
     obtain z|z:=mul_eq_zero.mp this
     .ext
     .exact z
    have b:=all (0,u.2.2,u.2.1) (by unfold aY;grind) (by unfold aY;dsimp only;rw[zero_mul,mul_comm u.2.2];ext)
    have a:=all (0,-v.2.2,-v.2.1) (by unfold aY;dsimp only;rw[zero_mul,neg_mul,neg_mul,mul_comm v.2.2];ext) (by unfold aY;grind)
    unfold aY at b a;dsimp only at b a;rw[zero_mul]at b a;simp only[neg_mul]at b a;rw[mul_comm u.2.2]at b;rw[mul_comm v.2.2]at a;constructor
    .rintro(z | ⟨z,m⟩) <;> ext
    .rintro(z | ⟨z,m⟩) <;> ext
  exact⟨hd,bW.mpr d.1,bW.mpr d.2⟩
 |p::r::s::t,R,h=>
  have a:3<=(p::r::s::t).length:=by simp
  generalize p::r::s::t=L at R h a;have d:=eH R;refine⟨by rw[length_map];ext,λz=>by rw[length_map]at z;ext,λ_ k a=>?_⟩
  rw[length_map]at a;rw[fT,getElem_map,gR a,<-bJ a,<-fk];refine h _ λs g=>?_;obtain⟨j,b,rfl⟩:=getElem_of_mem g;rw[fk,<-bJ b];exact gG (P:=λi=>ah (gt L i)) d a b
theorem iG (R:jx L)(z:0<q.2.2):bV (L.map ah) q↔Cv L q:=⟨λh=>K6 (kx R z h),mL R z⟩
set_option maxHeartbeats 1000000
def Ql (Q:Hf->Prop)(l:Hf):Prop:=∀ x,Q x->0<=aY l x
theorem zF (l u v w q:Hf):aY l q*a8 u v w=a8 v w q*aY l u+a8 w u q*aY l v+a8 u v q*aY l w:=by
 unfold aY a8;grind
theorem OU (g:3<=n)(hi:i<n)(p:0<a9 h (G i)):3<=(KI h G n n).length:=by
 obtain⟨j,b,d,a,a⟩:∃ j,j<n/\bt n j=i/\j≠i/\j≠bt n i:=by
  by_cases e:i=n-1
  .refine⟨0,⋯,?_,⋯,?_⟩
   .unfold bt;rw[if_pos rfl];ext
   .unfold bt;rw[if_neg ⋯];ext
  .refine⟨i+1,⋯,?_,⋯,?_⟩
   .unfold bt;rw[if_neg ⋯];ext
   .unfold bt;split <;> ext
 have o:((i,false,G i):Itm)∈KI h G n n:=cz.mpr ⟨hi,.inr ⟨rfl,cb.mpr (show 0<=a9 h (G i) by ext),rfl⟩⟩
 obtain⟨x,m,ex⟩:∃ x:Itm,x∈KI h G n n/\((x.1=i/\x.2.1=true)\/(x.1=bt n i/\x.2.1=false)):=by
  by_cases z:0<=a9 h (G (bt n i))
  .exact⟨(bt n i,false,G (bt n i)),cz.mpr ⟨cA hi,.inr ⟨rfl,cb.mpr z,rfl⟩⟩,.inr ⟨rfl,rfl⟩⟩
  .exact⟨(i,true,dF h (G (bt n i)) (G i)),cz.mpr ⟨hi,.inl ⟨rfl,ci.mpr (by dsimp only;ext),rfl⟩⟩,.inl ⟨rfl,rfl⟩⟩
 obtain⟨y,k,a⟩:∃ y:Itm,y∈KI h G n n/\y.1=j:=by
  by_cases z:0<=a9 h (G j)
  .exact⟨(j,false,G j),cz.mpr ⟨b,.inr ⟨rfl,cb.mpr z,rfl⟩⟩,rfl⟩
  .exact⟨(j,true,dF h (G (bt n j)) (G j)),cz.mpr ⟨b,.inl ⟨rfl,ci.mpr (by dsimp only;rw[d];ext),rfl⟩⟩,rfl⟩
 have pn:=(gU g hi).1;have nd:[((i,false,G i):Itm),x,y].Nodup:=by
  simp only[nodup_cons,mem_cons,not_mem_nil,or_false,not_or,not_false_eq_true,and_true,List.nodup_nil];refine⟨⟨λe=>?_,λe=>?_⟩,λe=>?_⟩
  .have b:x.1=i:=by rw[<-e]
   have a:x.2.1=false:=by rw[<-e]
   obtain⟨_,z⟩|⟨z,_⟩:=ex
   .rw[z]at a;cases a
   .ext
  .have b:y.1=i:=by rw[<-e]
   ext
  .have b:x.1=y.1:=by rw[e]
   rcases ex with ⟨z,_⟩ | ⟨z,_⟩ <;> ext
 have:=List.Nodup.length_le_of_subset nd (l₂:=KI h G n n) (λz hz=>by
  simp only[mem_cons,not_mem_nil,or_false]at hz
  obtain rfl|rfl|rfl:=hz
  .exact o
  .exact m
  .exact k)
 exact this
theorem n0 (hh:gz h)(R:jx L):(gD h L).length=(gf h L).length:=(Fb (xK hh R)).2.2
theorem qH (op:bH p)(a:bH r)(y:iu h p r)(m:0<=aY l (ah (dF h p r)))(z:0<=aY l (ah p))(H:0<=A)(C:0<=B)(i:0<=A*aY h (ah p)+B*aY h (ah r))(s:0<a9 h p\/False):0<=A*aY l (ah p)+B*aY l (ah r):=by
 have s:=s.resolve_right id;have o:=ci.mp y;have D:a9 h r<0:=⋯
 obtain⟨_,v,c,E,b,d,e,g⟩:=xN op a (show a9 h p≠0 by ext) (show a9 h r≠0 by ext)
 have x:gw (a9 h r)=-a9 h r:=by unfold gw;rw[if_pos D]
 have D:gw (a9 h p)=a9 h p:=by unfold gw;rw[if_neg ⋯]
 rw[x,D]at d e g;rw[cN,cN]at i;have t:=Mo (l:=l) (u:=ah (dF h p r)) (p:=ah p) (q:=ah r) (κ:=v) (α:=c*-a9 h r) (β:=c*a9 h p) (by rw[d];grind) (by rw[e];grind) (by rw[g];grind)
 generalize aY l (ah (dF h p r))=S at t m;generalize aY l (ah p)=P at *;generalize aY l (ah r)=Rr at *;generalize a9 h p=F at *;generalize a9 h r=G at *;refine cT (κ:=c*F) (mul_pos b s) ?_;have k:c*F*(A*P+B*Rr)=B*(v*S)+c*(P*(A*F+B*G)):=by rw[t];grind
 rw[k];have d:=mul_nonneg C (mul_nonneg (le_of_lt E) m);have d:=mul_nonneg (le_of_lt b) (mul_nonneg z i);ext
theorem zW (hh:gz h)(R:jx L)(Y:0<q.2.2)(hL:bV (L.map ah) q)(Z:0<=aY h q):bV ((gD h L).map ah) q:=by
 have C:=rg hh R;obtain⟨a,b,c,ha,hb,F,κ,J,I,E,D,a0,b0,c0,d,U,o⟩:=kx R Y hL;have g:=λl=>mQ (l:=l) d U o
 by_cases v:3<=L.length
 .have ok:∀ i,i<L.length->bH (gt L i):=λi hi=>by rw[bJ hi];exact R.ok _ (getElem_mem _)
  have O:=eH R;have eK:gf h L=(KI h (gt L) L.length L.length).map (·.2.2):=by
   unfold gf;rw[xb];exact mK v ok O _ (le_refl _)
  by_cases k3:3<=(gD h L).length
  .let Q:Hf->Prop:=λx=>bV (L.map ah) x/\0<=aY h x
   have M:vD (Ql Q) h:=⟨λx hx=>hx.2,hh.2⟩;have X:∀ k,k<L.length->A6 (Ql Q) (gt L (bt L.length k)) (gt L k):=λk d=>by
    have B:(qo (ah (gt L (bt L.length k))) (ah (gt L k))).1≠0\/(qo (ah (gt L (bt L.length k))) (ah (gt L k))).2.1≠0:=by
     by_cases z:(qo (ah (gt L (bt L.length k))) (ah (gt L k))).1=0/\(qo (ah (gt L (bt L.length k))) (ah (gt L k))).2.1=0
     .exfalso;obtain⟨m,hm,W,m2⟩:∃ m,m<L.length/\m≠k/\m≠bt L.length k:=⟨bt L.length (bt L.length k),cA (cA d),(gU v d).2.1,(gU v d).2.2⟩;have o:=di (P:=λi=>ah (gt L i)) O d hm W m2;have p2:aY (qo (ah (gt L (bt L.length k))) (ah (gt L k))) (ah (gt L k))=0:=by rw[fk,dX]
      have o:0<a8 (ah (gt L (bt L.length k))) (ah (gt L k)) (ah (gt L m)):=o;rw[<-fk]at o;have O:=b8 (ok k d);unfold aY at o p2;rw[z.1,z.2,zero_mul,zero_mul]at o p2;have z2:(qo (ah (gt L (bt L.length k))) (ah (gt L k))).2.2=0:=by
       obtain y | y:=mul_eq_zero.mp (show(qo (ah (gt L (bt L.length k))) (ah (gt L k))).2.2*(ah (gt L k)).2.2=0 by ext)
       .exact y
       .ext
      rw[z2,zero_mul]at o;ext
     .by_cases O:(qo (ah (gt L (bt L.length k))) (ah (gt L k))).1=0
      .exact .inr λz2=>z ⟨O,z2⟩
      .exact .inl O
    have A:∀ x,Q x->0<=aY (qo (ah (gt L (bt L.length k))) (ah (gt L k))) x:=λx hx=>by
     rw[fk];exact i5 hx.1 v k d
    refine⟨qo (ah (gt L (bt L.length k))) (ah (gt L k)),⟨A,B,?_⟩,⟨A,B,?_⟩⟩
    .rw[<-cN,fk,fN]
    .rw[<-cN,fk,dX]
   have H:=mM M (show 0<L.length by ext) ok X L.length (le_refl _)
   have U:bt L.length L.length=L.length-1:=by unfold bt;rw[if_neg ⋯]
   rw[U,<-eK]at H;have O:=rp M H;have inQ:∀ u∈gD h L,Q (ah u):=λu o=>⟨(C.hold u o).1,by rw[cN];exact(C.hold u o).2⟩
   have T:=fz C.reg.reg;refine⟨by rw[length_map];ext,λz=>by rw[length_map]at z;ext,λ_ k d=>?_⟩
   rw[length_map]at d;rw[fT,getElem_map];have U:A6 (Ql Q) (dh (gD h L) k d) (gD h L)[k]:=by
    have o:0<(gf h L).length:=by rw[<-n0 hh R];ext
    obtain⟨hm,_⟩:=lO (xK hh R).ok o (gf h L).length (le_refl _);have o:k<(gf h L).length:=by rw[<-n0 hh R];exact d
    have X:(gD h L)[k]=(gf h L)[oK (gf h L).length (uN (gf h L) (gf h L).length) k]'(jX hm o):=ei hm o;have M:dh (gD h L) k d=dh (gf h L) (oK (gf h L).length (uN (gf h L) (gf h L).length) k) (jX hm o):=xg hm o;rw[X,M];exact O _ _
   obtain⟨l,⟨gl,nl,M⟩,⟨_,_,o⟩⟩:=U;have O:=gR d;have U:=bJ d;obtain⟨m,hm,W,m2⟩:∃ m,m<(gD h L).length/\m≠k/\m≠bt (gD h L).length k:=⟨bt (gD h L).length (bt (gD h L).length k),cA (cA d),(gU k3 d).2.1,(gU k3 d).2.2⟩;have X:0<a8 (ah (dh (gD h L) k d)) (ah (gD h L)[k]) (ah (gt (gD h L) m)):=by
    rw[O,<-U];exact di (P:=λi=>ah (gt (gD h L) i)) (eH C.reg) d hm W m2
   have O:0<=aY l (ah (gt (gD h L) m)):=gl _ (inQ _ (by rw[bJ hm];exact getElem_mem _))
   have U:0<=aY l q:=gl _ ⟨hL,Z⟩;rw[<-cN]at M o;have cr:=zF l (ah (dh (gD h L) k d)) (ah (gD h L)[k]) (ah (gt (gD h L) m)) q;rw[M,o,mul_zero,mul_zero]at cr;have d:0<aY l (ah (gt (gD h L) m)):=by
    obtain z|z:=lt_or_le 0 (aY l (ah (gt (gD h L) m)))
    .exact z
    .have O:aY l (ah (gt (gD h L) m))=0:=⋯
     unfold aY at M o O;have:=yt nl M o O;ext
   have x:=mul_nonneg U (le_of_lt X);refine cT d ?_;rw[mul_comm];ext
  .
   have no:∀ s∈L,a9 h s<=0:=λs o=>by
    obtain z|z:=lt_or_le 0 (a9 h s)
    .exfalso;obtain⟨i,hi,rfl⟩:=getElem_of_mem o;rw[<-bJ hi]at z;have:=OU v hi z;have e:=n0 hh R;rw[eK,length_map]at e;ext
    .exact z
   refine mL C.reg Y λl d=>?_;have fl:=g h;have M:∀ s∈L,∀ w:Int,0<=w->w*aY h (ah s)<=0/\(w*aY h (ah s)=0->0<=w*aY l (ah s)):=λs o w W=>by
    have ns:=no s o;rw[<-cN]at ns;refine⟨mul_nonpos_of_nonneg_of_nonpos W ns,λe=>?_⟩
    obtain z|z:=mul_eq_zero.mp e
    .rw[z,zero_mul];exact Int.le_refl _
    .exact mul_nonneg W (d s (C.kept s o (by rw[<-cN];ext)))
   have O:=mul_nonneg (le_of_lt D) Z;have x1:=M a ha J a0;have x2:=M b hb I b0;have x3:=M c F E c0;have y1:=x1.2 ⋯
   have y2:=x2.2 ⋯
   have y3:=x3.2 ⋯
   have M:=g l;exact cT D ⋯
 .refine mL C.reg Y λl d=>?_
  match L,R,C,v,d,ha,hb,F with
  | [],_,_,_,_,ha,_,_=>cases ha
  | [p],R,C,_,d,ha,hb,F=>
   rw[mem_singleton.mp ha,mem_singleton.mp hb,mem_singleton.mp F]at g;have M:=g (0,0,-1);have U:=b8 (R.ok p (by simp))
   have hz:0<J+I+E:=by
    unfold aY at M;dsimp only at M;have:=mul_pos D Y
    obtain z|z:=lt_or_le 0 (J+I+E)
    .exact z
    .have t:κ*q.2.2=(J+I+E)*(ah p).2.2:=by grind
     have:=mul_nonpos_of_nonpos_of_nonneg z (le_of_lt U);ext
   have t:∀ m:Hf,κ*aY m q=(J+I+E)*aY m (ah p):=λm=>by rw[g m];grind
   have M:0<=aY h (ah p):=cT hz (by rw[<-t];exact mul_nonneg (le_of_lt D) Z)
   have:=d p (C.kept p (by simp) (by rw[<-cN];exact M))
   exact cT D (by rw[t];exact mul_nonneg (le_of_lt hz) this)
  | [p,r],R,C,_,d,ha,hb,F=>
   have op:=R.ok p (by simp)
   have O:=R.ok r (by simp)
   obtain⟨A,B,X,M,t⟩:∃ A B:Int,0<=A/\0<=B/\∀ m:Hf,κ*aY m q=A*aY m (ah p)+B*aY m (ah r):=by
    have one:∀ s∈[p,r],∀ w:Int,0<=w->∃ x y:Int,0<=x/\0<=y/\∀ m:Hf,w*aY m (ah s)=x*aY m (ah p)+y*aY m (ah r):=λs o w W=>by
     obtain e|e:=mem_cons.mp o
     .exact⟨w,0,W,⋯,λm=>by rw[e];ext⟩
     .exact⟨0,w,⋯,W,λm=>by rw[mem_singleton.mp e];ext⟩
    obtain⟨x1,y1,o,o,W⟩:=one a ha J a0;obtain⟨x2,y2,o,o,J⟩:=one b hb I b0;obtain⟨x3,y3,o,o,o⟩:=one c F E c0;exact⟨x1+x2+x3,y1+y2+y3,⋯,⋯,λm=>by rw[g m,W m,J m,o m];grind⟩
   have g:=mul_nonneg (le_of_lt D) Z;rw[t]at g;have kp:0<=aY h (ah p)->0<=aY l (ah p):=λz=>d p (C.kept p (by simp) (by rw[<-cN];exact z))
   have E:0<=aY h (ah r)->0<=aY l (ah r):=λz=>d r (C.kept r (by simp) (by rw[<-cN];exact z))
   have jJ:iu h p r->0<=aY l (ah (dF h p r)):=λo=>d _ (C.cross 1 (by simp) o)
   refine cT D ?_;rw[t]
   by_cases U:0<=aY h (ah p)
   .by_cases d:0<=aY h (ah r)
    .have:=mul_nonneg X (kp U);have:=mul_nonneg M (E d);ext
    .by_cases D:aY h (ah p)=0
     .rw[D,mul_zero]at g;have:B=0:=by
       obtain y|y:=lt_or_le 0 B
       .have:=mul_neg_of_pos_of_neg y (show aY h (ah r)<0 by ext);ext
       .ext
      rw[this,zero_mul];have:=mul_nonneg X (kp U);ext
     .have o:iu h p r:=ci.mpr (by rw[<-cN,<-cN];ext)
      exact qH op O o (jJ o) (kp U) X M g (.inl (by rw[<-cN];ext))
   .by_cases d:0<=aY h (ah r)
    .by_cases D:aY h (ah r)=0
     .rw[D,mul_zero]at g;have:A=0:=by
       obtain y|y:=lt_or_le 0 A
       .have:=mul_neg_of_pos_of_neg y (show aY h (ah p)<0 by ext);ext
       .ext
      rw[this,zero_mul];have:=mul_nonneg M (E d);ext
     .have o:iu h r p:=ci.mpr (by rw[<-cN,<-cN];ext)
      have D:iu h p r:=ci.mpr (by rw[<-cN,<-cN];ext)
      have c:=jJ D;rw[mI]at c;rw[Int.add_comm]at g ⊢;exact qH O op o c (E d) M X g (.inl (by rw[<-cN];ext))
    .have:A=0/\B=0:=by
      have d:=mul_nonpos_of_nonneg_of_nonpos X (show aY h (ah p)<=0 by ext)
      have d:=mul_nonpos_of_nonneg_of_nonpos M (show aY h (ah r)<=0 by ext)
      constructor
      .rcases lt_or_le 0 A with y|y
       .have:=mul_neg_of_pos_of_neg y (show aY h (ah p)<0 by ext);ext
       .ext
      .rcases lt_or_le 0 B with y|y
       .have:=mul_neg_of_pos_of_neg y (show aY h (ah r)<0 by ext);ext
       .ext
     rw[this.1,this.2];ext
  |_::_::_::_,_,_,v,_,_,_,_=>exact absurd (by simp) v
theorem O3 (hh:gz h)(R:jx L)(b:0<q.2.2):bV ((gD h L).map ah) q↔bV (L.map ah) q/\0<=aY h q:=by
 refine⟨λa=>?_,λz=>zW hh R b z.1 z.2⟩;have C:=rg hh R;have k:=(iG C.reg b).mp a;refine⟨mL R b λl d=>k l λs a=>?_,k h λs a=>by rw[cN];exact(C.hold s a).2⟩
 exact(iG R (b8 (C.reg.ok s a))).mp (C.hold s a).1 l d
set_option maxHeartbeats 1000000
theorem Ij (b:bH p)(d:bH q)(k:0<κ)(m:κ*(ah p).1=c*(ah q).1)(i:κ*(ah p).2.1=c*(ah q).2.1)(o:κ*(ah p).2.2=c*(ah q).2.2):p=q:=by
 have e:=b8 b;have g:=b8 d;have a:0<c:=by
  obtain z|z:=lt_or_le 0 c
  .exact z
  .have:=mul_pos k e;have:=mul_nonpos_of_nonpos_of_nonneg z (le_of_lt g);ext
 have hm:tL (ah p) (ah q) (ah q):=⟨2*κ,c,c,⋯,a,a,by grind,by grind,by grind⟩
 by_cases h:p=q
 .exact h
 .rcases Bz b d h with z|z
  .exact absurd ((qY hm).1.mp z) (Bf.irr _)
  .exact absurd ((qY hm).2.mp z) (Bf.irr _)
theorem Qy (R:jx L)(k:u∈L):∃ g:Hf,aY g (ah u)=0/\∀ s∈L,s≠u->0<aY g (ah s):=by
 match L,R,k with
 | [],_,k=>cases k
 | [p],_,k=>exact⟨(0,0,0),by unfold aY;simp,λs d h=>absurd ((mem_singleton.mp d).trans (mem_singleton.mp k).symm) h⟩
 | [p,r],R,k=>
  have hb:Bf (ah p) (ah r):=eO.mp (R.reg.fst 1 (by simp) ⋯)
  have two:∀ s∈[p,r],s=p\/s=r:=λs d=>by simpa using d
  unfold Bf at hb
  obtain rfl|rfl:=two u k
  .rcases hb with hb|⟨_,hb⟩
   .refine⟨((ah u).2.2,0,(ah u).1),by unfold aY;grind,λs d h=>?_⟩
    rw[(two s d).resolve_left h];unfold aY;dsimp only;rw[zero_mul,mul_comm (ah u).2.2];ext
   .refine⟨(0,(ah u).2.2,(ah u).2.1),by unfold aY;grind,λs d h=>?_⟩
    rw[(two s d).resolve_left h];unfold aY;dsimp only;rw[zero_mul,mul_comm (ah u).2.2];ext
  .rcases hb with hb|⟨_,hb⟩
   .refine⟨(-(ah u).2.2,0,-(ah u).1),by unfold aY;grind,λs d h=>?_⟩
    rw[(two s d).resolve_right h];unfold aY;dsimp only;rw[zero_mul,neg_mul,neg_mul,mul_comm (ah u).2.2];ext
   .refine⟨(0,-(ah u).2.2,-(ah u).2.1),by unfold aY;grind,λs d h=>?_⟩
    rw[(two s d).resolve_right h];unfold aY;dsimp only;rw[zero_mul,neg_mul,neg_mul,mul_comm (ah u).2.2];ext
 |a::b::c::t,R,k=>
  have C:3<=(a::b::c::t).length:=by simp
  generalize a::b::c::t=L at R k C;have z:=eH R;obtain⟨i,hi,rfl⟩:=getElem_of_mem k;obtain⟨j,B,y⟩:∃ j,j<L.length/\bt L.length j=i:=by
   by_cases e:i=L.length-1
   .exact⟨0,⋯,by unfold bt;rw[if_pos rfl];ext⟩
   .exact⟨i+1,⋯,by unfold bt;rw[if_neg ⋯];ext⟩
  let q:=qo (ah (gt L (bt L.length i))) (ah (gt L i))
  let o:=qo (ah (gt L i)) (ah (gt L j))
  have v:∀ x:Hf,aY (q.1+o.1,q.2.1+o.2.1,q.2.2+o.2.2) x=a8 (ah (gt L (bt L.length i))) (ah (gt L i)) x+a8 (ah (gt L i)) (ah (gt L j)) x:=λx=>by
   rw[<-fk,<-fk];show aY _ x=aY q x+aY o x;unfold aY;dsimp only;grind
  refine⟨(q.1+o.1,q.2.1+o.2.1,q.2.2+o.2.2),?_,λs d h=>?_⟩
  .rw[v,<-bJ hi,dX,fN];rfl
  .obtain⟨m,hm,rfl⟩:=getElem_of_mem d;rw[v,<-bJ hm];have q:m≠i:=λe=>h (by subst e;rfl)
   have o:=gG (P:=λi=>ah (gt L i)) z hi hm;have d:=gG (P:=λi=>ah (gt L i)) z B hm;have o:0<=a8 (ah (gt L (bt L.length i))) (ah (gt L i)) (ah (gt L m)):=o;have d:0<=a8 (ah (gt L (bt L.length j))) (ah (gt L j)) (ah (gt L m)):=d;rw[y]at d
   by_cases e:m=bt L.length i
   .have ne:=(gU C B).2.1;rw[y]at ne;have:=di (P:=λi=>ah (gt L i)) z B hm (by rw[e];exact ne) (by rw[y];exact q)
    have this:0<a8 (ah (gt L (bt L.length j))) (ah (gt L j)) (ah (gt L m)):=this;rw[y]at this;ext
   .have:=di (P:=λi=>ah (gt L i)) z hi hm q e;have this:0<a8 (ah (gt L (bt L.length i))) (ah (gt L i)) (ah (gt L m)):=this;ext
theorem xM (R:jx L)(C:jx d)(Y:∀ q:Hf,0<q.2.2->bV (L.map ah) q->bV (d.map ah) q)(U:∀ s∈d,bV (L.map ah) (ah s)):∀ u∈L,u∈d:=λu B=>by
 have E:=b8 (R.ok u B);obtain⟨g,Q,M⟩:=Qy R B;have F:=Y _ E (gm R B (gq _));have o:∀ s∈L,0<=aY g (ah s):=λs h=>by
  by_cases e:s=u
  .rw[e,Q];exact Int.le_refl _
  .exact le_of_lt (M s h e)
 have i:∀ s∈d,0<=aY g (ah s):=λs h=>(iG R (b8 (C.ok s h))).mp (U s h) g o;have zero:∀ s∈d,aY g (ah s)=0->s=u:=λs h e=>by
  obtain⟨a,b,c,ha,hb,r,X,p,m,k,J,O,I,H,D,y,v⟩:=kx R (b8 (C.ok s h)) (U s h);have l:=mQ (l:=g) D y v;rw[e,mul_zero]at l;have n1:=mul_nonneg O (o a ha);have W:=mul_nonneg I (o b hb);have Z:=mul_nonneg H (o c r);have P:∀ x∈L,∀ w:Int,w*aY g (ah x)=0->w=0\/x=u:=λx o w z=>by
   obtain z|z:=mul_eq_zero.mp z
   .exact .inl z
   .right
    by_cases e:x=u
    .exact e
    .have:=M x o e;ext
  have t:∀ x∈L,∀ w:Int,w*aY g (ah x)=0->w*(ah x).1=w*(ah u).1/\w*(ah x).2.1=w*(ah u).2.1/\w*(ah x).2.2=w*(ah u).2.2:=λx o w z=>by
   obtain e|e:=P x o w z
   .rw[e];simp
   .rw[e];exact⟨rfl,rfl,rfl⟩
  have M:=t a ha p ⋯
  have tb:=t b hb m ⋯
  have P:=t c r k ⋯
  refine Ij (C.ok s h) (R.ok u B) J (c:=p+m+k) ?_ ?_ ?_
  .rw[D,M.1,tb.1,P.1];grind
  .rw[y,M.2.1,tb.2.1,P.2.1];grind
  .rw[v,M.2.2,tb.2.2,P.2.2];grind
 obtain⟨a,b,c,ha,hb,r,X,p,m,k,J,O,I,H,D,y,v⟩:=kx C E F;have l:=mQ (l:=g) D y v;rw[Q,mul_zero]at l;have n1:=mul_nonneg O (i a ha);have W:=mul_nonneg I (i b hb);have Z:=mul_nonneg H (i c r);have done:∀ x∈d,∀ w:Int,0<w->w*aY g (ah x)=0->u∈d:=λx o w h z=>by
  obtain z|z:=mul_eq_zero.mp z
  .ext
  .rw[<-zero x o z];exact o
 obtain z|z:=lt_or_le 0 p
 .exact done a ha p z ⋯
 .rcases lt_or_le 0 m with h|h
  .exact done b hb m h ⋯
  .rcases lt_or_le 0 k with h|h
   .exact done c r k h ⋯
   .exfalso;have h:p=0:=⋯
    have i:m=0:=⋯
    have m:k=0:=⋯
    rw[h,i,m,zero_mul,zero_mul,zero_mul]at v;have:=mul_pos J E;ext
theorem qD {α:Type}{P:α->α->Prop}(as:∀ a b,P a b->¬ P b a):∀ {l m:List α},l.Pairwise P->m.Pairwise P->(∀ x,x∈l↔x∈m)->l=m
 | [],[],_,_,_=>rfl
 | [],b::m,_,_,h=>absurd ((h b).mpr mem_cons_self) (by simp)
 |a::l,[],_,_,h=>absurd ((h a).mp mem_cons_self) (by simp)
 |a::l,b::m,k,hm,h=>by
  obtain⟨g,o⟩:=pairwise_cons.mp k;obtain⟨i,k⟩:=pairwise_cons.mp hm;have e:a=b:=by
   obtain e|e:=mem_cons.mp ((h a).mp mem_cons_self)
   .exact e
   .rcases mem_cons.mp ((h b).mpr mem_cons_self) with d|d
    .exact d.symm
    .exact absurd (g b d) (as _ _ (i a e))
  subst e;refine congrArg _ (qD as o k λx=>⟨λd=>?_,λd=>?_⟩)
  .rcases mem_cons.mp ((h x).mp (mem_cons_of_mem _ d)) with e|e
   .subst e;exact absurd (g _ d) (as _ _ (g _ d))
   .exact e
  .rcases mem_cons.mp ((h x).mpr (mem_cons_of_mem _ d)) with e|e
   .subst e;exact absurd (i _ d) (as _ _ (i _ d))
   .exact e
theorem Fa {L p:List aS}(R:jx L)(r:jx p)(h:∀ q:Hf,0<q.2.2->(bV (L.map ah) q↔bV (p.map ah) q)):L=p:=by
 have o:∀ u∈L,u∈p:=xM R r (λq z v=>(h q z).mp v) λs d=>(h _ (b8 (r.ok s d))).mpr (gm r d (gq _));have g:∀ u∈p,u∈L:=xM r R (λq z v=>(h q z).mpr v) λs d=>(h _ (b8 (R.ok s d))).mp (gm R d (gq _));have v:∀ {a:aS}{l:List aS},jx (a::l)->(∀ s∈l,Bf (ah a) (ah s))/\l.Pairwise (λb c=>0<a8 (ah a) (ah b) (ah c)):=λ{a l} R=>by
  constructor
  .intro s d;obtain⟨k,y,rfl⟩:=getElem_of_mem d;have:=R.reg.fst (k+1) (by simp;ext) ⋯
   simpa [eO] using this
  .rw[pairwise_iff_getElem];intro i j hi d d;have:=fz R.reg 0 (i+1) (j+1) ⋯ ⋯ (by simp;ext)
   simpa using this
 match L,p,R,r,o,g with
 | [],[],_,_,_,_=>rfl
 | [],b::m,_,_,_,g=>exact absurd (g b mem_cons_self) (by simp)
 |a::l,[],_,_,o,_=>exact absurd (o a mem_cons_self) (by simp)
 |a::l,b::m,R,r,o,g=>
  obtain⟨B,C⟩:=v R;obtain⟨y,D⟩:=v r;have e:a=b:=by
   obtain e|e:=mem_cons.mp (o a mem_cons_self)
   .exact e
   .rcases mem_cons.mp (g b mem_cons_self) with d|d
    .exact d.symm
    .exact absurd (B b d) (y a e).asym
  subst e;refine congrArg _ (qD (λb c d d=>by rw[xW]at d;ext) C D λx=>⟨λd=>?_,λd=>?_⟩)
  .rcases mem_cons.mp (o x (mem_cons_of_mem _ d)) with e|e
   .subst e;exact absurd (B _ d) (Bf.irr _)
   .exact e
  .rcases mem_cons.mp (g x (mem_cons_of_mem _ d)) with e|e
   .subst e;exact absurd (y _ d) (Bf.irr _)
   .exact e
set_option maxHeartbeats 1000000
def vF (a:List aS)(D:List Hf)(L:List aS):Prop:=jx L/\L.length<=a.length+2*D.length/\∀ q:Hf,0<q.2.2->(bV (L.map ah) q↔bV (a.map ah) q/\∀ h∈D,0<=aY h q)
theorem QJ (R:jx a):vF a [] a:=⟨R,by simp,λq _=>⟨λh=>⟨h,λ_ hh=>(nomatch hh)⟩,λh=>h.1⟩⟩
theorem Dd (hh:gz h)(I:vF e D L):vF e (D++[h]) (gD h L):=by
 obtain⟨R,d,d⟩:=I;have C:=rg hh R;refine⟨C.reg,by have:=C.len;rw[List.length_append,length_singleton];ext,λq z=>?_⟩
 rw[O3 hh R z,d q z];constructor
 .rintro⟨⟨a,b⟩,c⟩;refine⟨a,λx d=>?_⟩
  obtain d|d:=mem_append.mp d
  .exact b x d
  .rw[mem_singleton.mp d];exact c
 .rintro⟨a,b⟩;exact⟨⟨a,λx d=>b x (mem_append_left _ d)⟩,b h (mem_append_right _ (mem_singleton.mpr rfl))⟩
theorem Pk (e:a≠0\/b≠0)(q:Hf):0<=aY (LG a b c) q↔0<=aY (a,b,c) q:=by
 have d:0<(jB a b c:Int):=by have:=x9 (c:=c) e;ext
 have i:=cM (C0 a b c);have o:=cM (C1 a b c);have m:=cM (LF a b c);have k:(jB a b c:Int)*aY (LG a b c) q=aY (a,b,c) q:=by
  unfold LG aY;dsimp only;generalize a.fdiv (jB a b c)=x at *;generalize b.fdiv (jB a b c)=y at *;generalize c.fdiv (jB a b c)=z at *;generalize (jB a b c:Int)=g at *;rw[<-i,<-o,<-m];grind
 rw[<-k];exact⟨λh=>mul_nonneg (le_of_lt d) h,λh=>cT d h⟩
theorem O0 (e:a≠0\/b≠0)(hz:dy 300 (a,b,c)):gz (LG a b c):=by
 refine⟨⟨hz.1.fdiv _,hz.2.1.fdiv _,hz.2.2.fdiv _⟩,?_⟩
 obtain h|h:=e
 .exact .inl (x4 (C0 a b c) h)
 .exact .inr (x4 (C1 a b c) h)
theorem me (e:p≠q)(x:Hf):0<=aY (vS p q) x↔0<=a8 (fl p) (fl q) x:=by
 have n:p.2-q.2≠0\/q.1-p.1≠0:=by
  by_cases a:p.2-q.2=0
  .exact .inr λb=>e (Prod.ext ⋯ ⋯)
  .exact .inl a
 unfold vS;rw[Pk n];have:aY (p.2-q.2,q.1-p.1,(p.2-q.2)*p.1+(q.1-p.1)*p.2) x=a8 (fl p) (fl q) x:=by
  unfold aY a8 fl;grind
 rw[this]
theorem OA (e:p≠q)(z:SzF 110 p)(d:SzF 110 q):gz (vS p q):=by
 have n:p.2-q.2≠0\/q.1-p.1≠0:=by
  by_cases a:p.2-q.2=0
  .exact .inr λb=>e (Prod.ext ⋯ ⋯)
  .exact .inl a
 have h:Sz 120 (p.2-q.2):=(Sz.sub z.2 d.2).mono ⋯
 have g:Sz 120 (q.1-p.1):=(Sz.sub d.1 z.1).mono ⋯
 have i:Sz 300 ((p.2-q.2)*p.1+(q.1-p.1)*p.2):=(Sz.add (Sz.mul h z.1) (Sz.mul g z.2)).mono ⋯
 exact O0 n ⟨h.mono ⋯,g.mono ⋯,i⟩
theorem ES (z:SzF 115 p):Ny (1,0,p.1) (eX p):=⟨⟨tf ⋯,tj,z.1.mono ⋯⟩,.inl (show(1:Int)≠0 by decide),by unfold a9 eX;simp⟩
theorem Ph (z:SzF 115 p):Ny (0,1,p.2) (eX p):=⟨⟨tj,tf ⋯,z.2.mono ⋯⟩,.inr (show(1:Int)≠0 by decide),by unfold a9 eX;simp⟩
theorem LZ (z:SzF 115 p)(d:SzF 115 q):Lk (eX p) (eX q):=by
 by_cases e:p=q
 .subst e;exact⟨_,ES z,ES z⟩
 .have g:Sz 120 (p.2-q.2):=(Sz.sub z.2 d.2).mono ⋯
  have h:Sz 120 (q.1-p.1):=(Sz.sub d.1 z.1).mono ⋯
  have i:Sz 300 ((p.2-q.2)*p.1+(q.1-p.1)*p.2):=(Sz.add (Sz.mul g z.1) (Sz.mul h z.2)).mono ⋯
  have n:p.2-q.2≠0\/q.1-p.1≠0:=by
   by_cases a:p.2-q.2=0
   .exact .inr λb=>e (Prod.ext ⋯ ⋯)
   .exact .inl a
  have s:dy 300 (p.2-q.2,q.1-p.1,(p.2-q.2)*p.1+(q.1-p.1)*p.2):=⟨g.mono ⋯,h.mono ⋯,i⟩
  refine⟨(p.2-q.2,q.1-p.1,(p.2-q.2)*p.1+(q.1-p.1)*p.2),⟨s,n,?_⟩,⟨s,n,?_⟩⟩
  .unfold a9 eX;dsimp only;grind
  .unfold a9 eX;dsimp only;grind
theorem fb {S H:List Pt}(O:vE S H)(z:∀ p∈H,SzF 115 p):jx (H.map eX):=by
 have e:(H.map eX).map ah=H.map fl:=by rw[map_map];exact map_congr_left λp _=>kd p
 refine⟨λs a=>?_,by rw[e];exact O.reg,λs a=>?_,λk b=>?_⟩
 .obtain⟨p,_,rfl⟩:=mem_map.mp a;exact M3 p
 .obtain⟨p,h,rfl⟩:=mem_map.mp a;exact⟨_,_,ES (z p h),Ph (z p h),show(1:Int)*1-0*0≠0 by decide⟩
 .obtain⟨p,h,e⟩:=mem_map.mp (oE b);obtain⟨q,a,d⟩:=mem_map.mp (getElem_mem b);rw[<-e,<-d];exact LZ (z p h) (z q a)
theorem l4 (d:SetOf ps a)(b:ps≠[]):vE a (bO a):=by
 have h:a≠[]:=λe=>by
  cases ps with
  |nil=>exact b rfl
  |cons p ps=>have:=d.2.1 p mem_cons_self;rw[e]at this;cases this
 exact G9 d.2.2 h
theorem DB (H:List Pt):(H.map eX).map ah=H.map fl:=by rw[map_map];exact map_congr_left λp _=>kd p
set_option maxHeartbeats 4000000
theorem og {α:Type}(f:α->T){L:List α}{k:Nat}(h:k<L.length):atI (L.map f) (k:Int)=some (f L[k]):=cJ (by rw[getElem?_map,List.getElem?_eq_getElem h];rfl)
theorem yi {α:Type}(f:α->T){L:List α}(h:0<L.length):atI (L.map f) (-1)=some (f L[L.length-1]):=by
 have e:su (L.map f).length (-1)=some (L.length-1):=by
  unfold su;rw[length_map,if_neg ⋯,if_pos ⋯]
  congr 1;ext
 unfold atI;rw[e];show(L.map f)[L.length-1]?=_;rw[getElem?_map,List.getElem?_eq_getElem ⋯];rfl
theorem Hd {α:Type}(f:α->T){L:List α}{k:Nat}(h:k<L.length):atI (L.map f) ((k:Int)-1)=some (f (dh L k h)):=by
 unfold dh
 by_cases a:k=0
 .subst a;rw[dif_pos rfl];exact yi f h
 .rw[dif_neg a];have:(k:Int)-1=((k-1:Nat):Int):=⋯
  rw[this];exact og f ⋯
theorem bD (h:eW n s)(l:n<=m):eW m s:=⟨⟨h.1.1.mono l,h.1.2.mono l⟩,h.2.1.mono l,h.2.2.mono l⟩
def Pq (q:aS × aS):T:=.tup [spT q.1,spT q.2]
theorem u3 (k n:Nat):bS (k:Int) (n+1)=.int k::bS ((k+1:Nat):Int) n:=by
 unfold bS;rw[range_succ_eq_map,map_cons,map_map]
 congr 1
 .simp;intro a _;ext
theorem G4 (I:Nat->bf->Prop)(n:Nat)(u:I 0 a)(m:∀ a,I n a->D.nx a)
  (p:∀ k,k<n->∀ a,I k a->g (.int (k:Int)) a λi=>o {nx:=I (k+1),rt:=D.rt,bk:=D.nx,ct:=I (k+1)} i):wq g o (bS 0 n) D a:=by
 refine⟨λb a=>∃ k j:Nat,b=bS (k:Int) j/\k+j=n/\I k a,⟨0,n,rfl,⋯,u⟩,?_,?_⟩
 .rintro a ⟨k,j,e,b,h⟩
  cases j with
  |zero=>exact m a (by rw[add_zero]at b;rw[<-b];exact h)
  |succ j=>rw[u3]at e;cases e
 .rintro x r a ⟨k,j,e,b,h⟩
  cases j with
  |zero=>cases e
  |succ j=>
   rw[u3]at e;obtain⟨rfl,rfl⟩:=List.cons.inj e;have q:=p k ⋯ a h
   have z:I (k+1)=λa=>∃ b d:Nat,bS ((k+1:Nat):Int) j=bS (b:Int) d/\b+d=n/\I b a:=by
    funext δ'
    refine propext ⟨λhi=>⟨k+1,j,rfl,⋯,hi⟩,?_⟩
    rintro⟨b,d,y,v,hi⟩;have:=congrArg List.length y;rw[gp,gp]at this;have:b=k+1:=⋯
    rw[<-this];exact hi
   show g _ a λi=>o {nx:=λa=>∃ b d:Nat,bS ((k+1:Nat):Int) j=bS (b:Int) d/\b+d=n/\I b a,rt:=D.rt,bk:=D.nx,ct:=λa=>∃ b d:Nat,bS ((k+1:Nat):Int) j=bS (b:Int) d/\b+d=n/\I b a} i;rw[<-z];exact q
def fc:aO:=λa R=>∃ p q:aS,a=[.t (spT p),.t (spT q)]/\eW 20000 p/\eW 20000 q/\R (.t (.bl (FP p q)))
def iU:aO:=λa R=>∃ L:List aS,a=[.t (.lst (L.map spT))]/\L.length<=200/\R (.ol ((qr L).map Pq))
def fX:aO:=λa R=>∃ L:List aS,a=[.t (.lst (L.map spT))]/\L.length<=400/\(∀ p∈L,bH p/\eW 20000 p)/\R (.ol ((LD L).map spT))
def k5:aO:=λd R=>∃ (p q:Fr) (a b:Int),d=[.t (wu p),.t (.int a),.t (wu q),.t (.int b)]/\SzF 700 p/\SzF 700 q/\Sz 3200 a/\Sz 3200 b/\0<a/\0<b/\0<p.2/\0<q.2/\R (.t (wu (JD p q a b)))
def iR:aO:=λa R=>∃ (h:Hf) (p q:aS),a=[.t (bj h),.t (spT p),.t (spT q)]/\dy 300 h/\eW 700 p/\eW 700 q/\bH p/\bH q/\a9 h p≠0/\a9 h q≠0/\R (.t (spT (dF h p q)))
def j5:aO:=λa R=>∃ (L:List aS) (h:Hf),a=[.t (.lst (L.map spT)),.t (bj h)]/\L.length<=180/\(∀ p∈L,bH p/\eW 700 p)/\dy 300 h/\R (.ol ((gD h L).map spT))
def lj:WS:=
 (aG (f5 (wB (tD (av aU (af 0) (wC (.int 0))) (av aU (af 1) (wC (.int 0))))) (bh (ax dL (ae (av aU (af 0) (wC (.int 1))) (ae (av aU (af 1) (wC (.int 1))) ap)))) br)
 (bh (ax dL (ae (av aU (af 0) (wC (.int 0))) (ae (av aU (af 1) (wC (.int 0))) ap)))))
def nr:WS:=
 (bh (dm 1 [0] (dN (ae (dP cL (ae (af 0) ap)) ap)) (aQ 0) kg (cF (ae (av aU (af 1) (dR (af 0) (wC (.int 1)))) (ae (av aU (af 1) (af 0)) ap)))))
def e6:WS:=
 (aG (aP 1 (wC (.int 0)))
 (cq (h7 (dN (ae (dP cL (ae (af 0) ap)) ap)) (aQ 2) (f5 (wB (ax fc (ae (av aU (af 0) (af 2)) (ae (av aU (af 0) (af 1)) ap)))) (aP 1 (af 2)) br))
 (bh (av zO (i0 (af 0) (mu (af 1)) iZ) (i0 (af 0) iZ (mu (af 1)))))))
def nj:WS:=
 (aG (aP 4 (eM (bG (bG (av aU (af 0) (wC (.int 0))) (av aU (af 2) (wC (.int 1)))) (af 1)) (bG (bG (av aU (af 2) (wC (.int 0))) (av aU (af 0) (wC (.int 1)))) (af 3))))
 (bh (ax gu (ae (af 4) (ae (bG (bG (av aU (af 0) (wC (.int 1))) (av aU (af 2) (wC (.int 1)))) (eM (af 1) (af 3))) ap)))))
def h9:WS:=
 (aG (aP 3 (bG (dP jA (ae (ax dE (ae (af 0) (ae (af 2) ap))) ap)) (ax cO (ae (af 1) ap))))
 (aG (aP 4 (bG (dP jA (ae (ax dE (ae (af 0) (ae (af 1) ap))) ap)) (ax cO (ae (af 2) ap))))
 (aG (aP 5 (ax k5 (ae (av aU (af 1) (wC (.int 0))) (ae (af 3) (ae (av aU (af 2) (wC (.int 0))) (ae (af 4) ap))))))
 (aG (aP 6 (ax k5 (ae (av aU (af 1) (wC (.int 1))) (ae (af 3) (ae (av aU (af 2) (wC (.int 1))) (ae (af 4) ap))))))
 (bh (cF (ae (af 5) (ae (af 6) ap))))))))
def jl:WS:=
 (aG (aP 2 (jC ap))
 (cq (h7 (bT (ax iU (ae (af 0) ap))) (aQ 3) (cq (f5 (wB (y9 (bG (ax hX (ae (af 1) (ae (av aU (af 3) (wC (.int 0))) ap))) (ax hX (ae (af 1) (ae (av aU (af 3) (wC (.int 1))) ap)))) (wC (.int 0)))) (aG (aP 4 (ax iR (ae (af 1) (ae (av aU (af 3) (wC (.int 0))) (ae (av aU (af 3) (wC (.int 1))) ap)))))
 (f5 (wB (FG (af 4) (af 2))) (e5 2 (af 4)) br)) br)
 (f5 (wB (JW (ax hX (ae (af 1) (ae (av aU (af 3) (wC (.int 1))) ap))) (wC (.int 0)))) (e5 2 (av aU (af 3) (wC (.int 1)))) br)))
 (bh (ax fX (ae (af 2) ap)))))
theorem Ao:∀ d R,fc d R->lj {nx:=λ_=>R (.t .non),rt:=R} (aD ["one","other"] d):=by
 rintro d R ⟨⟨⟨a,x⟩,y,p⟩,⟨⟨u,b⟩,B,v⟩,rfl,⟨⟨d,q⟩,r,o⟩,⟨⟨m,g⟩,i,k⟩,h⟩;dsimp only at d q r o m g i k;show lj _ [some (.t (.tup [.tup [.int a,.int x],.tup [.int y,.int p]])),some (.t (.tup [.tup [.int u,.int b],.tup [.int B,.int v]]))]
 delta lj
 unfold FP at h;symm
 by_cases e:a=u/\x=b
 .rw[if_pos (by simpa using e)]
  rw[if_pos (by rw[e.1,e.2])]at h
  exact⟨(y,p),(B,v),rfl,⟨r.mono ⋯,o.mono ⋯⟩,⟨i.mono ⋯,k.mono ⋯⟩,h⟩
 .rw[if_neg (by simpa using e)]
  rw[if_neg (λz=>e ⟨congrArg Prod.fst z,congrArg Prod.snd z⟩)]at h;exact⟨(a,x),(u,b),rfl,⟨d.mono ⋯,q.mono ⋯⟩,⟨m.mono ⋯,g.mono ⋯⟩,h⟩
theorem ER:∀ b R,iU b R->nr {nx:=λ_=>R (.t .non),rt:=R} (aD ["region"] b):=by
 rintro b R ⟨L,rfl,a,h⟩;show nr _ [some (.t (.lst (L.map spT)))]
 delta nr
 symm;refine⟨ij ⋯ (by rw[length_map];ext),?_⟩
 rw[length_map,toNat_natCast]
 let p:Nat->aS × aS:=λk=>if a:k<L.length then (dh L k a,L[k]) else (((0,0),(0,0)),((0,0),(0,0)))
 refine eD (f:=λk:Nat=>.int (0+(k:Int))) (h:=λk=>Pq (p k)) (l:=List.range L.length) (λb=>∃ r,b=[r,some (.t (.lst (L.map spT)))]) (λk _=>rfl) (by rw[length_range];ext) ⟨_,rfl⟩ ?_ ?_
 .rintro k a b ⟨r,rfl⟩ Y y;have a:=mem_range.mp a;have e:p k=(dh L k a,L[k]):=dif_pos a;rw[Int.zero_add];symm;rw[dz (Hd spT a)];symm;rw[dz (og spT a)];rw[e]at y;exact y _ ⟨_,rfl⟩
 .have e:(List.range L.length).map (λk=>Pq (p k))=(qr L).map Pq:=by unfold qr;rw[map_map];rfl
  rw[e];exact h
theorem pL:∀ i R,fX i R->e6 {nx:=λ_=>R (.t .non),rt:=R} (aD ["corners","first","place"] i):=by
 rintro i R ⟨L,rfl,u,hz,h⟩;show e6 _ [some (.t (.lst (L.map spT))),none,none]
 delta e6
 symm
 let I:Nat->bf->Prop:=λk d=>∃ r:Option S,d=[some (.t (.lst (L.map spT))),some (.t (.int (uN L k))),r]
 refine⟨I L.length,?_,?_⟩
 .symm;refine⟨ij ⋯ (by rw[length_map];ext),?_⟩
  rw[length_map,toNat_natCast];refine G4 I L.length ⟨_,rfl⟩ (λd h=>h) ?_;rintro k m d ⟨r,rfl⟩;obtain⟨b,_⟩:=lO (λp g=>(hz p g).1) (show 0<L.length by ext) k ⋯
  symm;rw[dz (og spT m)];symm;rw[dz (og spT b)];symm;refine⟨L[k],L[uN L k],rfl,(hz _ (getElem_mem _)).2,(hz _ (getElem_mem _)).2,?_⟩;have e:=uO L k;rw[bJ m,bJ b]at e;symm
  split
  .rename_i c;rw[if_pos c]at e;exact⟨_,by rw[e]⟩
  .rename_i c;rw[if_neg c]at e;exact⟨_,by rw[e]⟩
 .rintro d ⟨r,rfl⟩;symm;have a:uN L L.length<=L.length:=by
   by_cases e:0<L.length
   .exact Nat.le_of_lt (lO (λp g=>(hz p g).1) e L.length (le_refl _)).1
   .have:L=[]:=length_eq_zero_iff.mp ⋯
    subst this;exact le_refl _
  unfold LD at h;generalize uN L L.length=f at h a;have q:iz (L.map spT) (some (f:Int)) none=(L.drop f).map spT:=by
   unfold iz;rw[HT.sIx_nat,HT.sIx_none,length_map,Nat.min_eq_left a,<-map_drop,<-map_take];rw[take_of_length_le (by rw[length_drop];ext)]
  have o:iz (L.map spT) none (some (f:Int))=(L.take f).map spT:=by
   unfold iz;rw[HT.sIx_nat,HT.sIx_none,length_map,Nat.min_eq_left a,List.drop_zero,Nat.sub_zero,<-map_take]
  rw[q,o,<-map_append];exact⟨by simp only[length_map,length_drop,length_take];ext,h⟩
theorem DF (z:SzF 700 p)(d:SzF 700 q)(h:Sz 3200 a)(e:Sz 3200 b):Sz 5000 (p.1*q.2*a+q.1*p.2*b)/\Sz 5000 (p.2*q.2*(a+b))/\SzF 5000 (JD p q a b):=by
 have g:Sz 5000 (p.1*q.2*a+q.1*p.2*b):=(Sz.add (Sz.mul (Sz.mul z.1 d.2) h) (Sz.mul (Sz.mul d.1 z.2) e)).mono ⋯
 have i:Sz 5000 (p.2*q.2*(a+b)):=(Sz.mul (Sz.mul z.2 d.2) (Sz.add h e)).mono ⋯
 exact⟨g,i,g.fdiv _,i.fdiv _⟩
theorem EN:∀ i R,k5 i R->nj {nx:=λ_=>R (.t .non),rt:=R} (aD ["one","one_weight","other","other_weight","top"] i):=by
 rintro i R ⟨⟨m,x⟩,⟨o,y⟩,a,b,rfl,⟨e,d⟩,⟨g,z⟩,sa,sb,i,i,k,i,h⟩;obtain⟨u,r,_⟩:=DF (p:=(m,x)) (q:=(o,y)) ⟨e,d⟩ ⟨g,z⟩ sa sb;dsimp only at e d g z k i u r;show nj _ [some (.t (.tup [.int m,.int x])),some (.t (.int a)),some (.t (.tup [.int o,.int y])),some (.t (.int b)),none]
 delta nj
 have m:x*y*(a+b)≠0:=by
  have:=mul_pos (mul_pos k i) (show 0<a+b by ext)
  ext
 symm;refine⟨bL e z ⋯ ⋯,bL (Sz.mul e z) sa ⋯ ⋯,bL g d ⋯ ⋯,bL (Sz.mul g d) sb ⋯ ⋯,bL d z ⋯ ⋯,bL (Sz.mul d z) (Sz.add sa sb) ⋯ ⋯,_,_,rfl,m,r.mono ⋯,?_⟩
 symm;exact h
theorem CV (hh:dy 300 h)(hs:eW 700 s):Sz 1750 (a9 h s):=by
 obtain⟨a,b,c⟩:=hh;obtain⟨⟨e,x⟩,d,y⟩:=hs;unfold a9;exact(Sz.sub (Sz.add (Sz.mul (Sz.mul a e) y) (Sz.mul (Sz.mul b d) x)) (Sz.mul c (Sz.mul x y))).mono ⋯
theorem Bm (h:Sz n x):Sz n (gw x):=by
 unfold gw
 split
 .exact⟨by rw[Int.natAbs_neg];exact h.lt⟩
 .exact h
theorem qN (hh:dy 300 h)(a:eW 700 p)(b:eW 700 q):Sz 3200 (gw (a9 h q)*(p.1.2*p.2.2)):=(Sz.mul (Bm (CV hh b)) (Sz.mul a.1.2 a.2.2)).mono ⋯
theorem OE (hh:dy 300 h)(a:eW 700 p)(b:eW 700 q):eW 5000 (dF h p q):=⟨(DF a.1 b.1 (qN hh a b) (qN hh b a)).2.2,(DF a.2 b.2 (qN hh a b) (qN hh b a)).2.2⟩
theorem uR:∀ i R,iR i R->h9 {nx:=λ_=>R (.t .non),rt:=R} (aD ["half","one","other","one_weight","other_weight","x","y"] i):=by
 rintro i R ⟨e,p,q,rfl,hh,a,b,g,o,d,k,h⟩;show h9 _ [some (.t (bj e)),some (.t (spT p)),some (.t (spT q)),none,none,none,none]
 delta h9
 have sh:=k9 hh (show 300<=300000 by decide)
 have v:=bD a (show 700<=60000 by decide)
 have m:=bD b (show 700<=60000 by decide)
 have u:0<p.1.2*p.2.2:=mul_pos g.1.1 g.2.1;have r:0<q.1.2*q.2.2:=mul_pos o.1.1 o.2.1;have i:Sz 1400 (p.1.2*p.2.2):=Sz.mul a.1.2 a.2.2;have z:Sz 1400 (q.1.2*q.2.2):=Sz.mul b.1.2 b.2.2;have B:=Bm (CV hh b);have y:=Bm (CV hh a);have k1:0<gw (a9 e q)*(p.1.2*p.2.2):=mul_pos (lB k) u;have u:0<gw (a9 e p)*(q.1.2*q.2.2):=mul_pos (lB d) r;have k:=qN hh a b;have r:=qN hh b a;unfold dF at h;have d:∀ x:Int,(if x<0 then -x else x)=gw x:=λ_=>rfl
 symm;refine⟨e,q,rfl,sh,m,?_⟩;symm;refine⟨p,rfl,v,?_⟩;symm;rw[d];refine⟨bL B i ⋯ ⋯,e,p,rfl,sh,v,?_⟩
 symm;refine⟨q,rfl,m,?_⟩;symm;rw[d];refine⟨bL y z ⋯ ⋯,p.1,q.1,_,_,rfl,a.1,b.1,k,r,k1,u,g.1.1,o.1.1,?_⟩
 symm;refine⟨p.2,q.2,_,_,rfl,a.2,b.2,k,r,k1,u,g.2.1,o.2.1,?_⟩;symm;exact h
theorem Fp (a:Int):-1<=sgn a/\sgn a<=1:=by
 unfold sgn
 split
 .ext
 .split <;> ext
theorem EE {s:aS}{ks:List aS}{y:S}{R:S->Prop}(a:tr y=.lst (ks.map spT))(g:s∈ks->R (.t (.bl false)))(i:¬ s∈ks->R (.t (.bl true))):nY (.t (spT s)) y R:=by
 unfold nY;rw[a];refine⟨by show 2<=20;decide,le_trans (eE bi _) ⋯,?_⟩
 by_cases h:s∈ks
 .have e:Ha (tr (.t (spT s))) (ks.map spT)=true:=by
   unfold Ha;rw[List.any_map,List.any_eq_true];exact⟨s,h,(bg s s).mpr rfl⟩
  rw[e];exact g h
 .have e:Ha (tr (.t (spT s))) (ks.map spT)=false:=by
   unfold Ha;rw[List.any_map,List.any_eq_false];intro x b d;exact h (((bg x s).mp d) ▸ b)
  rw[e];exact i h
theorem yJ (h:q∈qr L):q.1∈L/\q.2∈L:=by
 obtain⟨k,a,rfl⟩:=mem_map.mp h;have a:=mem_range.mp a;rw[dif_pos a];exact⟨oE a,getElem_mem a⟩
theorem qa (h:Hf)(pre:List (aS × aS))(q:aS × aS):(pre++[q]).foldl (pc h) []=pc h (pre.foldl (pc h) []) q:=by rw[foldl_append];rfl
theorem wN:∀ Q R,j5 Q R->jl {nx:=λ_=>R (.t .non),rt:=R} (aD ["region","half","kept","pair","spot"] Q):=by
 rintro Q R ⟨L,b,rfl,hl,hz,hh,h⟩;show jl _ [some (.t (.lst (L.map spT))),some (.t (bj b)),none,none,none]
 delta jl
 symm;have U:∀ p∈L,eW 60000 p:=λp v=>bD (hz p v).2 ⋯
 have J:dy 300000 b:=k9 hh ⋯
 let K:List (aS × aS)->List aS->Prop:=λpre k=>k=pre.foldl (pc b) []/\k.length<=2*pre.length/\∀ p∈k,bH p/\eW 20000 p
 refine⟨λd=>∃ k y r,d=[some (.t (.lst (L.map spT))),some (.t (bj b)),some (.ol (k.map spT)),y,r]/\K (qr L) k,?_,?_⟩
 .refine⟨L,rfl,⋯,?_⟩
  dsimp only;rw[de _ (bp (λ_=>rfl) _)];symm;refine⟨λZ d=>∃ (pre a:List (aS × aS)) (k:List aS) (y r:Option S),qr L=pre++a/\Z=a.map Pq/\d=[some (.t (.lst (L.map spT))),some (.t (bj b)),some (.ol (k.map spT)),y,r]/\K pre k,⟨[],qr L,[],_,_,rfl,rfl,rfl,by simp[K]⟩,?_,?_⟩
  .rintro d ⟨pre,a,k,y,r,B,H,rfl,P⟩;have:a=[]:=by simpa using H.symm
   subst this;rw[append_nil]at B;rw[B];exact⟨k,y,r,rfl,P⟩
  .rintro x Z d ⟨pre,a,k,y,r,B,H,rfl,P⟩
   cases a with
   |nil=>cases H
   |cons q a=>
    rw[map_cons]at H
    cases H
    obtain⟨C,g⟩:=yJ (L:=L) (q:=q) (by rw[B];simp)
    have hpl:pre.length<=180:=by
     have M:(qr L).length=L.length:=by unfold qr;simp
     rw[B]at M;simp only[List.length_append,length_cons]at M;ext
    obtain⟨D,I,m⟩:=P;have b1:=Fp (a9 b q.1);have b2:=Fp (a9 b q.2);have E:∀ {n:Nat}{k:List aS}{s:aS},k.length<=n->(∀ p∈k,bH p/\eW 20000 p)->bH s/\eW 20000 s->(k++[s]).length<=n+1/\∀ p∈k++[s],bH p/\eW 20000 p:=λ{n k s} h1 h2 h3=>⟨by rw[List.length_append,length_singleton];ext,λp v=>by
     obtain v|v:=mem_append.mp v
     .exact h2 p v
     .rw[mem_singleton.mp v];exact h3⟩
    have z2:bH q.2/\eW 20000 q.2:=⟨(hz _ g).1,bD (hz _ g).2 ⋯⟩
    let k1:List aS:=if iu b q.1 q.2/\¬ dF b q.1 q.2∈k then k++[dF b q.1 q.2] else k
    show aQ 3 (.tup [spT q.1,spT q.2]) _ _;symm;refine⟨λd=>∃ (r:Option S),d=[some (.t (.lst (L.map spT))),some (.t (bj b)),some (.ol (k1.map spT)),some (.t (.tup [spT q.1,spT q.2])),r]/\k1.length<=2*pre.length+1/\∀ p∈k1,bH p/\eW 20000 p,?_,?_⟩
    .symm;refine⟨b,q.1,rfl,J,U _ C,b,q.2,rfl,J,U _ g,?_⟩;symm;refine⟨Hz ⋯ ⋯,?_⟩
     split
     .rename_i u;have W:iu b q.1 q.2:=u;have o:=ci.mp W;refine⟨b,q.1,q.2,rfl,hh,(hz _ C).2,(hz _ g).2,(hz _ C).1,(hz _ g).1,⋯,⋯,?_⟩
      symm;have zs:bH (dF b q.1 q.2)/\eW 20000 (dF b q.1 q.2):=⟨(fM (hz _ C).1 (hz _ g).1 W).1,bD (OE hh (hz _ C).2 (hz _ g).2) ⋯⟩
      refine EE (ks:=k) rfl (λi=>?_) (λi=>?_)
      .symm;have e:k1=k:=if_neg λz=>z.2 i;rw[e];exact⟨_,rfl,⋯,m⟩
      .symm;have e:k1=k++[dF b q.1 q.2]:=if_pos ⟨W,i⟩;obtain⟨a1,O⟩:=E I m zs;rw[e];exact⟨by rw[length_map];ext,_,by rw[map_append];rfl,a1,O⟩
     .rename_i u;have e:k1=k:=if_neg λz=>u z.1;rw[e];exact⟨_,rfl,⋯,m⟩
    .rintro d ⟨F,rfl,l1,Y⟩;symm;refine⟨b,q.2,rfl,J,U _ g,?_⟩;symm
     split
     .rename_i X;obtain⟨a1,O⟩:=E l1 Y z2;refine⟨by rw[length_map];ext,pre++[q],a,k1++[q.2],some (.t (.tup [spT q.1,spT q.2])),F,by rw[B];simp,rfl,by rw[map_append];rfl,?_,?_,O⟩
      .rw[qa,<-D];exact(if_pos (show lw b q.2 from X)).symm
      .rw[List.length_append (as:=pre),length_singleton];ext
     .rename_i X;refine⟨pre++[q],a,k1,some (.t (.tup [spT q.1,spT q.2])),F,by rw[B];simp,rfl,rfl,?_,?_,Y⟩
      .rw[qa,<-D];exact(if_neg (show ¬ lw b q.2 from X)).symm
      .rw[List.length_append,length_singleton];ext
 .rintro d ⟨k,y,r,rfl,k1,k2,k3⟩;have M:(qr L).length=L.length:=by unfold qr;simp
  symm;refine⟨k,rfl,⋯,k3,?_⟩
  dsimp only;rw[de _ (bp (λ_=>rfl) _)];symm;unfold gD gf at h;rw[<-k1]at h;exact h
set_option maxHeartbeats 4000000
def NF (a b s:aS):Bool:=decide (tx a b s=0) && !FP s a && !FP b s
def JQ (L:List aS)(s:aS):List Int:=(qr L).map λq=>sgn (tx q.1 q.2 s)
def NM (l:List Int)(m:Int):Prop:=m∈l/\∀ x∈l,m<=x
def NN (L:List aS)(s:aS)(m:Int):Prop:=
 (L=[]/\m=-1)\/(∃ h:0<L.length,L.length<3/\m=if NF L[0] L[L.length-1] s=true then 0 else -1)\/(3<=L.length/\NM (JQ L s) m)
def fY:aO:=λd R=>∃ a b s:aS,d=[.t (spT a),.t (spT b),.t (spT s)]/\eW 20000 a/\eW 20000 b/\eW 20000 s/\R (.t (.bl (NF a b s)))
def dY:aO:=λa R=>∃ (L:List aS) (s:aS),a=[.t (.lst (L.map spT)),.t (spT s)]/\L.length<=200/\(∀ p∈L,eW 20000 p)/\eW 20000 s/\∀ m,NN L s m->R (.t (.int m))
def e8:WS:=
 (aG (f5 (wB (IY (ax hZ (ae (af 0) (ae (af 1) (ae (af 2) ap)))) (wC (.int 0)))) (bh (wC (.bl false))) br)
 (bh (vm (vp (ax fc (ae (af 2) (ae (af 0) ap)))) (vp (ax fc (ae (af 1) (ae (af 2) ap)))))))
def jr:WS:=
 (aG (f5 (wB (tD (dP cL (ae (af 0) ap)) (wC (.int 0)))) (bh (tN gI (wC (.int 1)))) br)
 (aG (f5 (wB (y9 (dP cL (ae (af 0) ap)) (wC (.int 3)))) (bh (Nl (wB (ax fY (ae (av aU (af 0) (wC (.int 0))) (ae (av aU (af 0) (tN gI (wC (.int 1)))) (ae (af 1) ap))))) (wC (.int 0)) (tN gI (wC (.int 1))))) br)
 (bh (dP Jn (ae (dm 1 [1] (bT (ax iU (ae (af 0) ap))) (aQ 0) kg (ax k7 (ae (ax hZ (ae (av aU (af 0) (wC (.int 0))) (ae (av aU (af 0) (wC (.int 1))) (ae (af 1) ap)))) ap))) ap)))))
theorem pN:∀ d R,fY d R->e8 {nx:=λ_=>R (.t .non),rt:=R} (aD ["first","last","spot"] d):=by
 rintro d R ⟨a,b,s,rfl,d,g,z,h⟩;show e8 _ [some (.t (spT a)),some (.t (spT b)),some (.t (spT s))]
 delta e8
 unfold NF at h;symm;refine⟨a,b,s,rfl,bD d ⋯,bD g ⋯,bD z ⋯,?_⟩
 symm
 by_cases e:tx a b s=0
 .rw[if_neg (by simpa using e)]
  rw[decide_eq_true e,Bool.true_and]at h;symm;refine⟨s,a,rfl,z,d,?_⟩;symm
  cases d:FP s a with
  |true=>
   rw[d]at h;symm;exact h
  |false=>
   rw[d]at h;symm;refine⟨b,s,rfl,g,z,?_⟩;symm;exact h
 .rw[if_pos (by simpa using e)]
  rw[decide_eq_false e,Bool.false_and,Bool.false_and]at h;symm;exact h
theorem wW:∀ a R,dY a R->jr {nx:=λ_=>R (.t .non),rt:=R} (aD ["region","spot"] a):=by
 rintro a R ⟨L,s,rfl,i,hz,d,h⟩;show jr _ [some (.t (.lst (L.map spT))),some (.t (spT s))]
 delta jr
 symm
 by_cases o:L.length=0
 .rw[if_pos (by rw[length_map];ext)]
  symm;exact h _ (.inl ⟨length_eq_zero_iff.mp o,rfl⟩)
 rw[if_neg (by rw[length_map];ext)]
 symm;have p:0<L.length:=⋯
 by_cases v:L.length<3
 .rw[if_pos (by rw[length_map];ext)]
  symm;rw[dz (show atI (L.map spT) 0=some (spT L[0]) from og (k:=0) spT p)];symm;rw[dz (yi spT p)];symm;refine⟨L[0],L[L.length-1],s,rfl,hz _ (getElem_mem _),hz _ (getElem_mem _),d,?_⟩;symm;have hm:=h _ (.inr (.inl ⟨p,v,rfl⟩))
  split
  .rename_i e;rw[if_pos e]at hm;exact hm
  .rename_i e;rw[if_neg e]at hm;exact hm
 .rw[if_neg (by rw[length_map];ext)]
  symm;refine⟨L,rfl,i,?_⟩;dsimp only;rw[de _ (bp (λ_=>rfl) _)];symm;refine eD (h:=λq:aS × aS=>.int (sgn (tx q.1 q.2 s))) (λb=>∃ r,b=[r,some (.t (spT s))]) (λ_ _=>rfl) (by unfold qr;simp;ext) ⟨_,rfl⟩ ?_ ?_
  .rintro q u b ⟨r,rfl⟩ Y y;obtain⟨g,B⟩:=yJ u;show aQ 0 (.tup [spT q.1,spT q.2]) _ _;symm;refine⟨q.1,q.2,s,rfl,bD (hz _ g) ⋯,bD (hz _ B) ⋯,bD d ⋯,?_⟩
   symm;refine⟨_,rfl,?_⟩;symm;exact y _ ⟨_,rfl⟩
  .symm;have e:(qr L).map (λq:aS × aS=>T.int (sgn (tx q.1 q.2 s)))=(JQ L s).map T.int:=by unfold JQ;rw[map_map];rfl
   rw[e,pV];refine⟨λz=>?_,λm hm x=>h m (.inr (.inr ⟨⋯,hm,x⟩))⟩
   have:(JQ L s).length=L.length:=by unfold JQ qr;simp
   rw[z]at this;simp at this;ext
theorem Fq (x:Int):(sgn x<0↔x<0)/\(sgn x=0↔x=0)/\(0<sgn x↔0<x)/\sgn x<=1/\-1<=sgn x:=by
 unfold sgn
 split
 .ext
 .split <;> ext
theorem sy (r:∀ p∈L,bH p)(hs:bH s)(h:NN L s m):0<=m↔bV (L.map ah) (ah s):=by
 have a:(L.map ah).length=L.length:=length_map ..;have hd:∀ k (a:k<(L.map ah).length),a8 (dh (L.map ah) k a) (L.map ah)[k] (ah s)=tx (dh L k ⋯) (L[k]'⋯) s:=λk a=>by
  rw[fT,getElem_map,FB]
 obtain⟨rfl,rfl⟩|⟨i,b,rfl⟩|⟨b,hm,x⟩:=h
 .exact⟨λh=>absurd h ⋯,λh=>absurd h.ne (by simp)⟩
 .have g:(L.map ah)[0]'⋯=ah L[0]:=getElem_map ..
  have d:(L.map ah)[(L.map ah).length-1]'⋯=ah L[L.length-1]:=by
   rw[getElem_map];congr 2;ext
  have b:=r _ (getElem_mem i);have k1:=r _ (getElem_mem (show L.length-1<L.length by ext))
  have i:bV (L.map ah) (ah s)↔NF L[0] L[L.length-1] s=true:=by
   unfold NF;constructor
   .intro z;have:=z.few ⋯
    rw[g,d,<-FB,<-oo hs b,<-oo k1 hs]at this;simp[this.1,this.2.1,this.2.2]
   .intro z;simp only[Bool.and_eq_true,decide_eq_true_eq,Bool.not_eq_true']at z;refine⟨⋯,λ_=>?_,λ_=>⋯⟩
    rw[g,d,<-FB,<-oo hs b,<-oo k1 hs];exact⟨z.1.1,z.1.2,z.2⟩
  rw[i]
  by_cases o:NF L[0] L[L.length-1] s=true
  .rw[if_pos o];exact⟨λ_=>o,λ_=>⋯⟩
  .rw[if_neg o];exact⟨λz=>absurd z ⋯,λz=>absurd z o⟩
 .have mem:∀ k (a:k<L.length),sgn (tx (dh L k a) L[k] s)∈JQ L s:=λk a=>by
   unfold JQ qr;rw[map_map];refine mem_map.mpr ⟨k,mem_range.mpr a,?_⟩;show sgn (tx (if a:k<L.length then (dh L k a,L[k]) else (((0,0),(0,0)),((0,0),(0,0)))).1 (if a:k<L.length then (dh L k a,L[k]) else (((0,0),(0,0)),((0,0),(0,0)))).2 s)=_
   rw[dif_pos a]
  obtain⟨b,d,g⟩:∃ k,∃ a:k<L.length,m=sgn (tx (dh L k a) L[k] s):=by
   unfold JQ qr at hm;rw[map_map]at hm;obtain⟨k,a,e⟩:=mem_map.mp hm;have a:=mem_range.mp a;refine⟨k,a,?_⟩;rw[<-e];show sgn (tx (if a:k<L.length then (dh L k a,L[k]) else (((0,0),(0,0)),((0,0),(0,0)))).1 (if a:k<L.length then (dh L k a,L[k]) else (((0,0),(0,0)),((0,0),(0,0)))).2 s)=_
   rw[dif_pos a]
  have o:=Fq (tx (dh L b d) L[b] s);constructor
  .intro d;refine⟨⋯,λ_=>⋯,λ_ k a=>?_⟩
   rw[hd];have q:=x _ (mem k ⋯)
   have a:=Fq (tx (dh L k ⋯) (L[k]'⋯) s)
   ext
  .intro z;have:=z.all ⋯ b ⋯
   rw[hd]at this;ext
theorem K7 (a:SetOf ps d)(hz:∀ p∈ps,SzF 115 p)(l:Hf):(∀ p∈bO d,0<=aY l (fl p))↔∀ p∈ps,0<=aY l (fl p):=by
 cases ps with
 |nil=>
  have e:d=[]:=by
   cases d with
   |nil=>rfl
   |cons p r=>have:=a.1 p mem_cons_self;cases this
  subst e;simp[bO]
 |cons b r=>
  have O:=l4 a (by simp)
  have R:=fb O λp b=>hz p (a.1 p (O.sub p b));constructor
  .intro h p b;have g:=O.hold p (a.2.1 p b);rw[<-DB]at g;refine(iG R (show(0:Int)<1 by decide)).mp g l λs k=>?_
   obtain⟨i,g,rfl⟩:=mem_map.mp k;rw[kd];exact h i g
  .intro h p b;exact h p (a.1 p (O.sub p b))
theorem uq (a:SetOf ps d)(e:ps≠[])(hz:∀ p∈ps,SzF 115 p)(z:0<q.2.2):bV (((bO d).map eX).map ah) q↔∀ l:Hf,(∀ p∈ps,0<=aY l (fl p))->0<=aY l q:=by
 have O:=l4 a e;have R:=fb O λp b=>hz p (a.1 p (O.sub p b));rw[iG R z];unfold Cv;refine forall_congr' λl=>?_;rw[<-K7 a hz l];refine imp_congr ⟨λh p b=>?_,λh s i=>?_⟩ Iff.rfl
 .have:=h (eX p) (mem_map.mpr ⟨p,b,rfl⟩)
  rwa [kd]at this
 .obtain⟨g,b,rfl⟩:=mem_map.mp i;rw[kd];exact h g b
def bo (v f:Pt):Int:=v.1*f.1+v.2*f.2
def jJ (u v:Pt):Int:=u.1*v.2-u.2*v.1
def ahead (vs:List Pt)(f:Pt):Nat:=vs.countP λv=>decide (0<=bo v f)
def Di (w:Pt)(t:Int):Pt:=(-w.2*t-w.1,w.1*t-w.2)
theorem Le (w v:Pt)(t:Int):bo v (Di w t)=t*jJ w v-bo w v:=by
 unfold bo Di jJ;grind
def uV (w v:Pt):Bool:=decide (0<jJ w v\/(jJ w v=0/\bo w v<=0))
theorem wH (h:0<t)(a:x<=-1):t*x<=-t:=by
 have:=Int.mul_le_mul_of_nonneg_left a (le_of_lt h);omega
theorem wG {t x:Int}(h:0<t)(a:1<=x):t<=t*x:=by
 have:=Int.mul_le_mul_of_nonneg_left a (le_of_lt h);omega
theorem QF {t c d:Int}(g:d<t)(e:-t<d):0<=t*c+d↔0<c\/(c=0/\0<=d):=by
 have a:0<t:=by omega
 constructor
 .intro h
  by_cases b:c=0
  .subst b;rw[mul_zero]at h;exact .inr ⟨rfl,by omega⟩
  .refine .inl ?_
   by_cases p:0<c
   .exact p
   .have:=wH a (show c<=-1 by omega)
    omega
 .rintro(h|⟨rfl,h⟩)
  .have:=wG a (show 1<=c by omega)
   omega
  .rw[mul_zero];omega
theorem Hh (b:bo w v<t)(e:-t<bo w v):decide (0<=bo v (Di w t))=uV w v:=by
 rw[Le];unfold uV;have:=QF (c:=jJ w v) (d:=-bo w v) (t:=t) (by omega) (by omega)
 rw[decide_eq_decide];rw[show t*jJ w v-bo w v=t*jJ w v + -bo w v by omega,this]
 constructor
 .rintro(h|⟨h,a⟩)
  .exact .inl h
  .exact .inr ⟨h,by omega⟩
 .rintro(h|⟨h,a⟩)
  .exact .inl h
  .exact .inr ⟨h,by omega⟩
theorem Bn (h:∀ v∈vs,bo w v<t/\-t<bo w v):ahead vs (Di w t)=vs.countP (uV w):=by
 unfold ahead;refine List.countP_congr λv a=>?_;rw[Hh (h v a).1 (h v a).2]
theorem ve (x:Int):0<=x*x:=by
 obtain h|h:=Int.le_total 0 x
 .exact mul_nonneg h h
 .exact mul_nonneg_of_nonpos_of_nonpos h h
theorem IP {x:Int}(h:x≠0):0<x*x:=by
 have:=ve x;have:x*x≠0:=λz=>by
  rcases mul_eq_zero.mp z with e|e <;> exact h e
 omega
theorem M4 {w g:Pt}(h:bo w g<0):0<w.1*w.1+w.2*w.2:=by
 have a:=ve w.1 ;have b:=ve w.2
 by_cases d:w.1=0
 .by_cases e:w.2=0
  .unfold bo at h;rw[d,e]at h;omega
  .have:=IP e;omega
 .have:=IP d;omega
theorem vV (u v w g:Pt):jJ u w*bo v g=jJ u v*bo w g+jJ v w*bo u g:=by
 unfold jJ bo;grind
theorem vI (w v g:Pt):bo v g*(w.1*w.1+w.2*w.2)=bo w v*bo w g+jJ w v*jJ w g:=by
 unfold jJ bo;grind
theorem mm (g:Pt):∀ i:List Pt,(∀ v∈i,0<=bo v g)\/∃ w∈i,bo w g<0/\∀ v∈i,bo v g<0->jJ w v<=0
 | []=>.inl λv h=>by cases h
 |u::i=>by
  obtain h|⟨w,o,k,m⟩:=mm g i
  .by_cases p:0<=bo u g
   .refine .inl λv d=>?_
    obtain z|z:=mem_cons.mp d
    .subst z;exact p
    .exact h v z
   .refine .inr ⟨u,mem_cons_self,by omega,λv d e=>?_⟩
    obtain z|z:=mem_cons.mp d
    .subst z;have:jJ v v=0:=by unfold jJ;grind
     omega
    .have:=h v z;omega
  .by_cases p:0<=bo u g
   .refine .inr ⟨w,mem_cons_of_mem _ o,k,λv d e=>?_⟩
    obtain z|z:=mem_cons.mp d
    .subst z;omega
    .exact m v z e
   .by_cases i:jJ w u<=0
    .refine .inr ⟨w,mem_cons_of_mem _ o,k,λv d e=>?_⟩
     obtain z|z:=mem_cons.mp d
     .subst z;exact i
     .exact m v z e
    .refine .inr ⟨u,mem_cons_self,by omega,λv d e=>?_⟩
     obtain z|z:=mem_cons.mp d
     .subst z;have:jJ v v=0:=by unfold jJ;grind
      omega
     .have d:=m v z e;have i:jJ u w=-jJ w u:=by unfold jJ;grind
      have key:=vV u w v g;have p:0<=jJ u w*bo v g:=mul_nonneg_of_nonpos_of_nonpos (by omega) (by omega)
      have p:0<=jJ w v*bo u g:=mul_nonneg_of_nonpos_of_nonpos (by omega) (by omega)
      by_cases p:jJ u v<=0
      .exact p
      .have:=mul_neg_of_pos_of_neg (a:=jJ u v) (b:=bo w g) (by omega) k
       omega
theorem uW (b:bo w g<0)(a:bo v g<0)(e:jJ w v<=0):uV w v=false:=by
 unfold uV;rw[decide_eq_false_iff_not];rintro(h|⟨d,hd⟩)
 .omega
 .have key:=vI w v g;rw[d,zero_mul,Int.add_zero]at key;have p:=Int.mul_neg_of_neg_of_pos a (M4 b);have p:=mul_nonneg_of_nonpos_of_nonpos hd (by omega:bo w g<=0)
  omega
theorem tS (vs:List Pt)(g:Pt):vs.length<=ahead vs g\/∃ w∈vs,w≠(0,0)/\vs.countP (uV w)<=ahead vs g:=by
 obtain h|⟨w,d,b,e⟩:=mm g vs
 .refine .inl ?_;have:ahead vs g=vs.length:=by
   unfold ahead;rw[countP_eq_length];exact λv a=>decide_eq_true (h v a)
  omega
 .refine .inr ⟨w,d,λz=>?_,?_⟩
  .subst z;unfold bo at b;simp at b
  .unfold ahead;refine countP_mono_left λv a p=>?_;rw[decide_eq_true_eq]
   by_cases d:0<=bo v g
   .exact d
   .rw[uW b (by omega) (e v a (by omega))]at p
    cases p
theorem nD (vs:List Pt)(g:Pt):ahead vs g<=vs.length:=countP_le_length
def nv (vs:List Pt)(n:Nat):Prop:=(∃ f:Pt,f≠(0,0)/\ahead vs f=n)/\∀ g:Pt,g≠(0,0)->n<=ahead vs g
theorem wy (h:nv vs m)(k:nv vs n):m=n:=by
 obtain⟨⟨f,h1,h2⟩,h3⟩:=h;obtain⟨⟨g,k1,k2⟩,k3⟩:=k;have:=h3 g k1;have:=k3 f h1;omega
theorem BK (vs:List Pt):∃ n,nv vs n:=by
 have key:∀ (n:Nat) (f:Pt),f≠(0,0)->ahead vs f<=n->∃ m,nv vs m:=by
  intro n
  induction n with
  |zero=>exact λf a h=>⟨0,⟨f,a,by omega⟩,λg _=>zero_le _⟩
  |succ n i=>
   intro f a h
   by_cases x:∃ g:Pt,g≠(0,0)/\ahead vs g<=n
   .obtain⟨g,d,b⟩:=x;exact i g d b
   .refine⟨n+1,⟨f,a,?_⟩,λg b=>?_⟩
    .have:¬ ahead vs f<=n:=λz=>x ⟨f,a,z⟩;omega
    .have:¬ ahead vs g<=n:=λz=>x ⟨g,b,z⟩;omega
 exact key vs.length (1,0) ⋯ (nD _ _)
noncomputable def ud (vs:List Pt):Nat:=Classical.choose (BK vs)
theorem rx (vs:List Pt):nv vs (ud vs):=Classical.choose_spec (BK vs)
theorem Lg (h:nv vs n):ud vs=n:=wy (rx vs) h
def AZ (vs:List Pt)(fs:List Pt):Prop:=(∀ f∈fs,f≠(0,0))/\fs≠[]/\∀ w∈vs,w≠(0,0)->∃ f∈fs,ahead vs f=vs.countP (uV w)
theorem wn (h:AZ vs fs)(b:f∈fs)(hm:∀ g∈fs,ahead vs f<=ahead vs g):nv vs (ahead vs f):=by
 obtain⟨a,d,i⟩:=h;refine⟨⟨f,a f b,rfl⟩,λg a=>?_⟩
 obtain z|⟨w,a,d,z⟩:=tS vs g
 .have:=nD vs f;omega
 .obtain⟨k,m,e⟩:=i w a d;have:=hm k m;omega
theorem O5 {w:Pt}{t:Int}(h:w≠(0,0)):Di w t≠(0,0):=λz=>by
 have d:-w.2*t-w.1=0:=congrArg Prod.fst z;have d:w.1*t-w.2=0:=congrArg Prod.snd z;have e:w.1*w.1+w.2*w.2=0:=by
  have g:w.1=-w.2*t:=by omega
  have d:w.2=w.1*t:=by omega
  have a:w.1*w.1=-(w.2*(w.1*t)):=by
   have:w.1*w.1=w.1*(-w.2*t):=by rw[<-g]
   rw[this];grind
  rw[a,<-d];omega
 have a:=ve w.1;have b:=ve w.2;apply h;have g:w.1=0:=by
  by_cases z:w.1=0
  .exact z
  .have:=IP z;omega
 have d:w.2=0:=by
  by_cases z:w.2=0
  .exact z
  .have:=IP z;omega
 exact Prod.ext g d
def lf (u v:Pt):Bool:=decide (0<jJ u v)
def bound (u:Pt):List Pt->Int
 | []=>1
 |v::r=>1+(bo u v).natAbs+bound u r
def rF (h:Hf)(p:Pt):Bool:=decide (h.2.2<=h.1*p.1+h.2.1*p.2)
def eV (h:Hf)(ps:List Pt):Nat:=ps.countP (rF h)
def j9:aO:=λb R=>∃ (h:Hf) (a:List Pt),b=[.t (bj h),.t (.lst (a.map aZ))]/\dy 60000 h/\(∀ p∈a,SzF 60000 p)/\a.length<10000/\R (.t (.int (eV h a)))
def jt:WS:=
 (bh (dP cL (ae (dm 1 [0] (bT (af 1)) (aQ 0) (wB (JW (eM (bG (av aU (af 1) (wC (.int 0))) (av aU (af 0) (wC (.int 0)))) (bG (av aU (af 1) (wC (.int 1))) (av aU (af 0) (wC (.int 1))))) (av aU (af 1) (wC (.int 2))))) (af 0)) ap)))
theorem wY:∀ d R,j9 d R->jt {nx:=λ_=>R (.t .non),rt:=R} (aD ["half","points"] d):=by
 rintro d R ⟨⟨a,b,c⟩,o,rfl,⟨v,C,i⟩,m,D,h⟩;dsimp only at v C i;show jt _ [some (.t (.tup [.int a,.int b,.int c])),some (.t (.lst (o.map aZ)))]
 delta jt
 symm;refine eC (f:=aZ) (h:=aZ) (p:=rF (a,b,c)) (λe=>∃ r,e=[r,some (.t (.tup [.int a,.int b,.int c]))]) (λp _=>yM p) (by omega) ⟨_,rfl⟩ ?_ ?_
 .rintro⟨x,y⟩ q e ⟨r,rfl⟩ Y N B k;obtain⟨z,u⟩:=m _ q;dsimp only at z u;walk_at"go"
  split
  .rename_i g;exact B _ ⟨_,rfl⟩ (by simp[rF];exact g)
  .rename_i g;exact k _ ⟨_,rfl⟩ (by simp[rF];omega)
 .symm;rw[length_map,<-countP_eq_length_filter];exact h
set_option maxHeartbeats 1000000
def FE (p:Pt):List Hf:=[(1,0,p.1),(-1,0,-p.1),(0,1,p.2),(0,-1,-p.2)]
def fA (ps:List Pt)(h:Hf):Prop:=(∃ p∈ps,h∈FE p)\/∃ p∈ps,∃ q∈ps,p≠q/\h=vS p q
theorem fA.sub (hs:∀ p∈B,p∈ps)(hb:fA B h):fA ps h:=by
 obtain⟨p,b,hh⟩|⟨p,b,q,d,a,e⟩:=hb
 .exact .inl ⟨p,hs p b,hh⟩
 .exact .inr ⟨p,hs p b,q,hs q d,a,e⟩
instance QL (a b:Pt):Decidable (cS a b):=inferInstanceAs (Decidable (_\/_))
def ins (p:Pt):List Pt->List Pt
 | []=>[p]
 |q::l=>if cS p q then p::q::l else if p=q then q::l else q::ins p l
theorem LY (h:cS a b) (d:cS b c):cS a c:=by unfold cS at *;ext
theorem Hq (g:¬ cS a b)(h:a≠b):cS b a:=by
 unfold cS at *;have:a.1≠b.1\/a.2≠b.2:=by
  by_cases e:a.1=b.1
  .right;intro d;exact h (Prod.ext e d)
  .exact .inl e
 ext
theorem kG (p x:Pt):∀ l:List Pt,x∈ins p l↔x=p\/x∈l
 | []=>by simp[ins]
 |q::l=>by
  unfold ins
  split
  .simp
  .split
   .rename_i e;subst e;simp
   .simp only[mem_cons,kG p x l];exact⟨λh=>by rcases h with h|h|h <;> simp[h],λh=>by rcases h with h|h|h <;> simp[h]⟩
theorem Dc (p:Pt):∀ l:List Pt,l.Pairwise cS->(ins p l).Pairwise cS
 | [],_=>by simp[ins]
 |q::l,h=>by
  unfold ins;have b:=pairwise_cons.mp h
  split
  .rename_i e;exact pairwise_cons.mpr ⟨λx a=>by
    obtain rfl|a:=mem_cons.mp a
    .exact e
    .exact LY e (b.1 x a),h⟩
  .split
   .exact h
   .rename_i g d;refine pairwise_cons.mpr ⟨λx a=>?_,Dc p l b.2⟩
    obtain rfl|a:=(kG p x l).mp a
    .exact Hq g d
    .exact b.1 x a
theorem MY (B:List Pt):∃ S:List Pt,SetOf B S:=by
 induction B with
 |nil=>exact⟨[],by simp[SetOf]⟩
 |cons p B h=>
  obtain⟨S,d,a,b⟩:=h;refine⟨ins p S,λx h=>?_,λx h=>?_,Dc p S b⟩
  .rcases(kG p x S).mp h with rfl|h
   .exact mem_cons_self
   .exact mem_cons_of_mem _ (d x h)
  .rcases mem_cons.mp h with rfl|h
   .exact(kG _ _ S).mpr (.inl rfl)
   .exact(kG _ _ S).mpr (.inr (a x h))
theorem oA (l:Hf)(p:Pt):aY l (fl p)=l.1*p.1+l.2.1*p.2-l.2.2:=by unfold aY fl;simp
theorem n7 (h:Hf)(p:Pt):rF h p=true↔0<=aY h (fl p):=by
 rw[oA];unfold rF;rw[decide_eq_true_eq];ext
theorem Jk (a b c:Hf):a8 b a c=-a8 a b c:=by unfold a8;grind
theorem xV (a c:Hf):a8 a a c=0:=by unfold a8;grind
theorem JN (R:jx L)(g:1<L.length)(k:Nat)(h:k<L.length):dh L k h≠L[k]:=by
 by_cases d:3<=L.length
 .rw[gR h,<-bJ h];exact λe=>JM (P:=λi=>ah (gt L i)) d (eH R) (cA h) h (gU d h).1 (congrArg ah e)
 .have d:L.length=2:=⋯
  match L,d,R with
  | [a,b],_,R=>
   have hb:Bf (ah a) (ah b):=eO.mp (R.reg.fst 1 (by simp) ⋯)
   have ne:a≠b:=λe=>by rw[e]at hb;exact Bf.irr _ hb
   have:k=0\/k=1:=by simp at h;ext
   obtain rfl|rfl:=this
   .exact λe=>ne e.symm
   .exact ne
theorem Ry (u:SetOf B q)(F:B≠[])(hz:∀ p∈B,SzF 110 p)(Y:0<c.2.2)(D:¬ bV (((bO q).map eX).map ah) c) :
  ∃ h,fA B h/\(∀ p∈B,0<=aY h (fl p))/\aY h c<0:=by
 have O:=l4 u F;have R:=fb O λp b=>(hz p (u.1 p (O.sub p b))).mono3 ⋯
 rw[DB]at D;have i:∀ p∈bO q,p∈B:=λp b=>u.1 p (O.sub p b);have hold:∀ p∈B,bV ((bO q).map fl) (fl p):=λp b=>O.hold p (u.2.1 p b);have o:=O.ne;generalize bO q=H at *;have b:0<H.length:=length_pos_iff.mpr o;have P:(H.map fl).length=H.length:=length_map ..
 obtain U|U:=lt_or_ge H.length 3
 .have J:(H.map fl)[0]'⋯=fl H[0]:=getElem_map ..
  have L:(H.map fl)[(H.map fl).length-1]'⋯=fl H[H.length-1]:=by
   rw[getElem_map];congr 2;ext
  have few:∀ p∈B,a8 (fl H[0]) (fl H[H.length-1]) (fl p)=0/\¬ cS p H[0]/\¬ cS H[H.length-1] p:=λp b=>by
   have:=(hold p b).few ⋯
   rw[J,L]at this;exact⟨this.1,λz=>by rw[(qX _ _).mpr z]at this;exact absurd this.2.1 ⋯,λz=>by rw[(qX _ _).mpr z]at this;exact absurd this.2.2 ⋯⟩
  have r:=i _ (getElem_mem b);have v:=i _ (getElem_mem (show H.length-1<H.length by ext))
  have x:¬ (a8 (fl H[0]) (fl H[H.length-1]) c=0/\kj c (fl H[0])=false/\kj (fl H[H.length-1]) c=false):=λz=>D ⟨⋯,λ_=>by rw[J,L];exact z,λz=>⋯⟩
  generalize H[0]=p0 at *;generalize H[H.length-1]=p1 at *
  by_cases hd:a8 (fl p0) (fl p1) c=0
  .
   have Z:p1.1≠p0.1\/p1.1=p0.1:=⋯
   have line:c.1=p0.1*c.2.2->c.2.1≠p0.2*c.2.2->p1.1=p0.1:=λE y=>by
    have I:(p1.1-p0.1)*(c.2.1-p0.2*c.2.2)=0:=by
     have:(p1.1-p0.1)*(c.2.1-p0.2*c.2.2)=a8 (fl p0) (fl p1) c+(p1.2-p0.2)*(c.1-p0.1*c.2.2):=by unfold a8 fl;grind
     rw[this,hd,E];simp
    obtain h|h:=mul_eq_zero.mp I
    .ext
    .exact absurd ⋯ y
   have m:c.1=p1.1*c.2.2->c.2.1≠p1.2*c.2.2->p1.1=p0.1:=λE y=>by
    have I:(p1.1-p0.1)*(c.2.1-p1.2*c.2.2)=0:=by
     have:(p1.1-p0.1)*(c.2.1-p1.2*c.2.2)=a8 (fl p0) (fl p1) c+(p1.2-p0.2)*(c.1-p1.1*c.2.2):=by unfold a8 fl;grind
     rw[this,hd,E];simp
    obtain h|h:=mul_eq_zero.mp I
    .ext
    .exact absurd ⋯ y
   by_cases hb:kj c (fl p0)=false
   .have d:kj (fl p1) c=true:=by
     cases C:kj (fl p1) c with
     |true=>rfl
     |false=>exact absurd ⟨hd,hb,C⟩ x
    unfold kj fl at d;simp only[mul_one,ne_eq]at d
    split at d
    .rename_i e;have:=of_decide_eq_true d;refine⟨(-1,0,-p1.1),.inl ⟨p1,v,by simp[FE]⟩,λp b=>?_,?_⟩
     .have:=(few p b).2.2;rw[oA];unfold cS at this;simp only;ext
     .unfold aY;simp only;have M:=neg_mul p1.1 c.2.2;ext
    .rename_i e;have:=of_decide_eq_true d;have ex:=m ⋯ ⋯
     refine⟨(0,-1,-p1.2),.inl ⟨p1,v,by simp[FE]⟩,λp b=>?_,?_⟩
     .have f:=(few p b).2;rw[oA];unfold cS at f;simp only;ext
     .unfold aY;simp only;have M:=neg_mul p1.2 c.2.2;ext
   .have hb:kj c (fl p0)=true:=by simpa using hb
    unfold kj fl at hb;simp only[mul_one,ne_eq]at hb
    split at hb
    .rename_i e;have:=of_decide_eq_true hb;refine⟨(1,0,p0.1),.inl ⟨p0,r,by simp[FE]⟩,λp b=>?_,?_⟩
     .have:=(few p b).2.1;rw[oA];unfold cS at this;simp only;ext
     .unfold aY;simp only;ext
    .rename_i e;have:=of_decide_eq_true hb;have ex:=line ⋯ ⋯
     refine⟨(0,1,p0.2),.inl ⟨p0,r,by simp[FE]⟩,λp b=>?_,?_⟩
     .have f:=(few p b).2;rw[oA];unfold cS at f;simp only;ext
     .unfold aY;simp only;ext
  .have a:p0≠p1:=λe=>hd (by rw[e];exact xV _ _)
   obtain W|X:=Int.lt_or_gt_of_ne hd
   .refine⟨vS p0 p1,.inr ⟨p0,r,p1,v,a,rfl⟩,λp b=>(me a _).mpr (by rw[(few p b).1];decide),?_⟩
    have:=mt (me a c).mp ⋯
    ext
   .refine⟨vS p1 p0,.inr ⟨p1,v,p0,r,a.symm,rfl⟩,λp b=>(me a.symm _).mpr (by rw[Jk,(few p b).1];decide),?_⟩
    have:=mt (me a.symm c).mp (by rw[Jk];ext)
    ext
 .have:∃ k,∃ g:k<H.length,a8 (fl (dh H k g)) (fl H[k]) c<0:=by
   apply Classical.byContradiction;intro C;refine D ⟨⋯,λz=>⋯,λ_ k g=>?_⟩
   rw[fT,getElem_map];have:¬ a8 (fl (dh H k ⋯)) (fl (H[k]'⋯)) c<0:=λz=>C ⟨k,⋯,z⟩
   ext
  obtain⟨k,g,Q⟩:=this;have a:dh H k g≠H[k]:=λe=>by
   have:=JN R (by rw[length_map];ext) k (by rw[length_map];exact g)
   rw[fT,getElem_map]at this;exact this (congrArg eX e)
  refine⟨vS (dh H k g) H[k],.inr ⟨_,i _ (oE g),_,i _ (getElem_mem g),a,rfl⟩,λp b=>(me a _).mpr ?_,?_⟩
  .have:=(hold p b).all ⋯ k ⋯
   rwa [fT,getElem_map]at this
  .have:=mt (me a c).mp ⋯
   ext
def kh (h:Hf)(p:Pt):Pt:=(p.1*h.2.2-h.1,p.2*h.2.2-h.2.1)
theorem pT (c:Hf)(ps:List Pt)(f:Pt):ahead (ps.map (kh c)) f=ps.countP λp=>decide (0<=bo (kh c p) f):=by
 unfold ahead;rw[List.countP_map];rfl
theorem rh (p:α->Bool)(l:List α):l.countP p+l.countP (λx=>!p x)=l.length:=by
 induction l with
 |nil=>rfl
 |cons x l h=>
  rw[countP_cons,countP_cons,length_cons]
  cases p x <;> simp <;> ext
theorem La (z:0<c.2.2)(d:h.1≠0\/h.2.1≠0)(o:aY h c<0):ud (ps.map (kh c))+eV h ps<=ps.length:=by
 have a:((-h.1,-h.2.1):Pt)≠(0,0):=λe=>by
  have:=Prod.mk.inj e;ext
 have b:=(rx (ps.map (kh c))).2 _ a;rw[pT]at b;have a:ps.countP (λp=>decide (0<=bo (kh c p) (-h.1,-h.2.1)))<=ps.countP λp=>!rF h p:=by
  refine countP_mono_left λp _ a=>?_;have a:=of_decide_eq_true a
  cases hb:rF h p with
  |false=>rfl
  |true=>
   exfalso;rw[n7,oA]at hb;unfold bo kh at a;unfold aY at o;dsimp only at a;have e:(p.1*c.2.2-c.1)*-h.1+(p.2*c.2.2-c.2.1)*-h.2.1=-(c.2.2*(h.1*p.1+h.2.1*p.2-h.2.2))+(h.1*c.1+h.2.1*c.2.1-h.2.2*c.2.2):=by grind
   rw[e]at a;have:=mul_nonneg (le_of_lt z) hb;ext
 have a:=rh (rF h) ps;unfold eV;ext
theorem K9 (hz:∀ p∈ps,SzF 110 p)(z:0<c.2.2)(y:k<=ps.length)(v:1<=k)(o:∀ h,fA ps h->ps.length+1<=eV h ps+k->0<=aY h c):k<=ud (ps.map (kh c)):=by
 apply Classical.byContradiction;intro d;obtain⟨⟨f,d,hd⟩,_⟩:=rx (ps.map (kh c));rw[pT]at hd
 let B:=ps.filter λp=>!decide (0<=bo (kh c p) f)
 have m:∀ p,p∈B↔p∈ps/\bo (kh c p) f<0:=λp=>by
  simp only[B,mem_filter,Bool.not_eq_true',decide_eq_false_iff_not];constructor
  .rintro⟨a,b⟩;exact⟨a,⋯⟩
  .rintro⟨a,b⟩;exact⟨a,⋯⟩
 have d:ps.countP (λp=>decide (0<=bo (kh c p) f))+B.length=ps.length:=by
  have:=rh (λp=>decide (0<=bo (kh c p) f)) ps;rw[countP_eq_length_filter (p:=λp=>!decide (0<=bo (kh c p) f))]at this;exact this
 have g:B≠[]:=λe=>by rw[e,length_nil]at d;ext
 obtain⟨i,u⟩:=MY B;have q:∀ p∈B,SzF 110 p:=λp d=>hz p ((m p).mp d).1;have r:¬ bV (((bO i).map eX).map ah) c:=λhh=>by
  have:=(uq u g (λp d=>(q p d).mono3 ⋯) z).mp hh (-(c.2.2*f.1),-(c.2.2*f.2),1-(c.1*f.1+c.2.1*f.2)) λp d=>?_
  .unfold aY at this;dsimp only at this;have e:-(c.2.2*f.1)*c.1 + -(c.2.2*f.2)*c.2.1-(1-(c.1*f.1+c.2.1*f.2))*c.2.2=-c.2.2:=by grind
   rw[e]at this;ext
  .have i:=((m p).mp d).2;rw[oA];unfold bo kh at i;dsimp only at i ⊢;have e:-(c.2.2*f.1)*p.1 + -(c.2.2*f.2)*p.2-(1-(c.1*f.1+c.2.1*f.2))=-((p.1*c.2.2-c.1)*f.1+(p.2*c.2.2-c.2.1)*f.2)-1:=by grind
   rw[e];ext
 obtain⟨h,hb,i,x⟩:=Ry u g q z r;have hm:B.length<=eV h ps:=by
  have:B.length=ps.countP λp=>!decide (0<=bo (kh c p) f):=(countP_eq_length_filter ..).symm;rw[this];refine countP_mono_left λp d q=>(n7 h p).mpr (i p ((m p).mpr ⟨d,?_⟩));simp only[Bool.not_eq_true',decide_eq_false_iff_not]at q;ext
 have:=o h (hb.sub λp d=>((m p).mp d).1) ⋯
 ext
theorem kt (hz:∀ p∈ps,SzF 110 p)(hb:fA ps h):gz h:=by
 obtain⟨p,a,hh⟩|⟨p,a,q,g,e,rfl⟩:=hb
 .have z:=hz p a;have o:Sz 300 (0:Int):=tj;have b:Sz 300 (1:Int):=tf ⋯
  have d:Sz 300 (-1:Int):=(tf (n:=300) ⋯).neg
  simp only[FE,mem_cons,not_mem_nil,or_false]at hh
  obtain rfl|rfl|rfl|rfl:=hh
  .exact⟨⟨b,o,z.1.mono ⋯⟩,.inl (show(1:Int)≠0 by decide)⟩
  .exact⟨⟨d,o,z.1.neg.mono ⋯⟩,.inl (show(-1:Int)≠0 by decide)⟩
  .exact⟨⟨o,b,z.2.mono ⋯⟩,.inr (show(1:Int)≠0 by decide)⟩
  .exact⟨⟨o,d,z.2.neg.mono ⋯⟩,.inr (show(-1:Int)≠0 by decide)⟩
 .exact OA e (hz p a) (hz q g)
theorem mJ (hz:∀ p∈ps,SzF 110 p)(z:0<c.2.2)(b:k<=ps.length)(a:1<=k):k<=ud (ps.map (kh c))↔∀ h,fA ps h->ps.length+1<=eV h ps+k->0<=aY h c:=by
 refine⟨λhd h hb hm=>?_,K9 hz z b a⟩
 obtain o|o:=lt_or_le (aY h c) 0
 .have:=La (ps:=ps) z (kt hz hb).2 o;ext
 .exact o
theorem ub (d:SetOf ps b)(e:ps≠[])(hz:∀ p∈ps,SzF 110 p)(z:0<c.2.2)(i:1<=k)(a:∀ h,fA ps h->ps.length+1<=eV h ps+k->0<=aY h c):bV (((bO b).map eX).map ah) c:=by
 apply Classical.byContradiction;intro g;obtain⟨h,hb,ha,o⟩:=Ry d e hz z g;have hm:eV h ps=ps.length:=countP_eq_length.mpr λp g=>(n7 h p).mpr (ha p g);have:=a h hb ⋯
 ext
set_option maxHeartbeats 1000000
def FU (G:Hf->Prop)(L:List aS):Prop:=3<=L.length->∀ k (h:k<L.length),A6 G (dh L k h) L[k]
theorem DA (i:bH p)(k:bH q)(d:kj (ah p) (ah q)=false)(h:kj (ah q) (ah p)=false):p=q:=by
 rw[<-oo i k]at d;rw[<-oo k i]at h;unfold FP at d h;have fr:∀ {f g:Fr},qP f->qP g->ND f g=false->ND g f=false->f=g:=λ{f g} o m a b=>by
  unfold ND at a b;have a:=of_decide_eq_false a;have b:=of_decide_eq_false b;exact x6 o m ⋯
 by_cases e:p.1=q.1
 .rw[if_pos e]at d;rw[if_pos e.symm]at h;exact Prod.ext e (fr i.2 k.2 d h)
 .rw[if_neg e]at d;rw[if_neg λz=>e z.symm]at h;exact absurd (fr i.1 k.1 d h) e
theorem KZ (hh:gz h)(R:jx L)(B:3<=(gD h L).length):3<=L.length:=by
 have C:=rg hh R
 obtain e|e:=lt_or_ge L.length 3
 .exfalso;have T:=fz C.reg.reg 0 1 2 ⋯ ⋯ (by rw[length_map];ext)
  rw[getElem_map,getElem_map,getElem_map]at T;have f:=λi (hi:i<(gD h L).length)=>(C.hold _ (getElem_mem hi)).1;have o:=λi (hi:i<(gD h L).length)=>C.reg.ok _ (getElem_mem hi);have k:=f 0 ⋯
  have m:=f 1 ⋯
  have D:=f 2 ⋯
  have p:=o 0 ⋯
  have E:=o 1 ⋯
  have d:=o 2 ⋯
  clear f o C;generalize (gD h L)[0]=u at *;generalize (gD h L)[1]=v at *;generalize (gD h L)[2]=w at *;clear B
  obtain _|⟨a,_|⟨b,_|⟨c,r⟩⟩⟩:=L
  .exact absurd k.ne (by simp)
  .have o:=R.ok a mem_cons_self;have d:=(k.few (by simp)).2
   have q:=(m.few (by simp)).2
   have y:u=a:=DA p o d.1 d.2;have p:v=a:=DA E o q.1 q.2;rw[y,p,xV]at T;exact absurd T ⋯
  .have d:=(k.few (by simp)).1
   have q:=(m.few (by simp)).1
   have m:=(D.few (by simp)).1
   have ne:Bf (ah a) (ah b):=eO.mp (R.reg.fst 1 (by simp) ⋯)
   have o:(qo (ah a) (ah b)).1≠0\/(qo (ah a) (ah b)).2.1≠0:=by
    apply Classical.byContradiction;intro z;unfold qo at z;simp only[not_or,ne_eq,Classical.not_not]at z;unfold Bf at ne;ext
   have g:∀ x:Hf,a8 (ah a) (ah b) x=0->aY (qo (ah a) (ah b)) x=0:=λx k=>by rw[fk];exact k
   have k:=g _ d;have d:=g _ q;have y:=g _ m;unfold aY at k d y;have:=yt o k d y;ext
  .simp at e;ext
 .exact e
theorem Dy (hh:gz h)(m:G h)(R:jx L)(H:FU G L):FU G (gD h L):=λa k b=>by
 have d:=KZ hh R a;have ok:∀ i,i<L.length->bH (gt L i):=λi hi=>by rw[bJ hi];exact R.ok _ (getElem_mem _)
 have a:=eH R;have g:gf h L=(KI h (gt L) L.length L.length).map (·.2.2):=by
  unfold gf;rw[xb];exact mK d ok a _ (le_refl _)
 have a:vD G h:=⟨m,hh.2⟩;have q:∀ k,k<L.length->A6 G (gt L (bt L.length k)) (gt L k):=λk b=>by
  have:=H d k b
  rwa [gR b,<-bJ b]at this
 have e:=mM a (show 0<L.length by ext) ok q L.length (le_refl _)
 have d:bt L.length L.length=L.length-1:=by unfold bt;rw[if_neg ⋯]
 rw[d,<-g]at e;have d:=rp a e;have a:0<(gf h L).length:=by rw[<-n0 hh R];ext
 obtain⟨hm,_⟩:=lO (xK hh R).ok a (gf h L).length (le_refl _);have a:k<(gf h L).length:=by rw[<-n0 hh R];exact b
 have e:(gD h L)[k]=(gf h L)[oK (gf h L).length (uN (gf h L) (gf h L).length) k]'(jX hm a):=ei hm a;have g:dh (gD h L) k b=dh (gf h L) (oK (gf h L).length (uN (gf h L) (gf h L).length) k) (jX hm a):=xg hm a;rw[e,g];exact d _ _
theorem xI (e:p≠q)(h:a8 (fl p) (fl q) x=0):aY (vS p q) x=0:=by
 have a:=(me e x).mpr ⋯
 have a:=(me e (-x.1,-x.2.1,-x.2.2)).mpr (by
  have:a8 (fl p) (fl q) (-x.1,-x.2.1,-x.2.2)=-a8 (fl p) (fl q) x:=by unfold a8;grind
  ext)
 have a:aY (vS p q) (-x.1,-x.2.1,-x.2.2)=-aY (vS p q) x:=by unfold aY;grind
 ext
theorem Dx (g:SetOf ps d)(i:ps≠[])(hz:∀ p∈ps,SzF 110 p):FU (fA ps) ((bO d).map eX):=λh k a=>by
 have O:=l4 g i;have R:=fb O λp h=>(hz p (g.1 p (O.sub p h))).mono3 ⋯
 have m:=JN R ⋯ k a
 have h:k<(bO d).length:=by rwa [length_map]at a
 rw[fT,getElem_map]at m ⊢;have a:dh (bO d) k h≠(bO d)[k]:=λe=>m (congrArg eX e);have o:=g.1 _ (O.sub _ (oE h));have m:=g.1 _ (O.sub _ (getElem_mem h));have b:fA ps (vS (dh (bO d) k h) (bO d)[k]):=.inr ⟨_,o,_,m,a,rfl⟩;have z:=(kt hz b).2;refine⟨_,⟨b,z,?_⟩,b,z,?_⟩
 .rw[<-cN,kd];exact xI a (by unfold a8;grind)
 .rw[<-cN,kd];exact xI a (by unfold a8;grind)
theorem zP {G:Hf->Prop}{L:List aS}(R:jx L)(H:FU G L)(o:3<=L.length){D:List Hf}(u:∀ l,G l->l∈D):L.length<=D.length:=by
 classical
 let f:Nat->Hf:=λk=>if d:k<L.length then Classical.choose (H o k d) else (0,0,0)
 have m:∀ k (d:k<L.length),Je G (f k) (gt L (bt L.length k))/\Je G (f k) (gt L k):=λk d=>by
  have:=Classical.choose_spec (H o k d);simp only[f,dif_pos d];rw[<-gR d,bJ d];exact this
 have r:=eH R;have key:∀ i j,i<L.length->j<L.length->i≠j->j≠bt L.length i->f i≠f j:=λi j hi g h p e=>by
  have q:0<a8 (ah (gt L (bt L.length i))) (ah (gt L i)) (ah (gt L j)):=di (P:=λi=>ah (gt L i)) r hi g (λz=>h z.symm) p;have a:=(m i hi).1.2.2;have b:=(m i hi).2.2.2;have c:=(m j g).2.2.2;rw[<-e]at c;rw[<-cN]at a b c;unfold aY at a b c;have:=yt (m i hi).1.2.1 a b c;ext
 have nd:((List.range L.length).map f).Nodup:=by
  refine pairwise_map.mpr (List.Pairwise.imp_of_mem (λ{i j} hi g h e=>?_) List.nodup_range);have hi:=mem_range.mp hi;have g:=mem_range.mp g
  by_cases p:j=bt L.length i
  .by_cases q:i=bt L.length j
   .have:=(gU o hi).2.1;rw[<-p,<-q]at this;exact this rfl
   .exact key j i g hi (λz=>h z.symm) q e.symm
  .exact key i j hi g h p e
 have:=List.Nodup.length_le_of_subset nd (l₂:=D) (λl h=>by
  obtain⟨k,d,rfl⟩:=mem_map.mp h;exact u _ (m k (mem_range.mp d)).1.1)
 rwa [length_map,length_range]at this
set_option maxHeartbeats 4000000
def jF (ps:List Pt)(hs:List Hf):Prop:=(∀ h,h∈hs↔fA ps h)/\hs.length<=70
def lz (m:Int)(ps:List Pt)(hs:List Hf):List Hf:=hs.filter λg=>decide (m<=eV g ps)
def cR:aO:=λa R=>∃ p:Pt,a=[.t (aZ p)]/\R (.ol ((FE p).map bj))
def iQ:aO:=λb R=>∃ a:List Pt,b=[.t (.lst (a.map aZ))]/\a.length<=7/\(∀ p∈a,SzF 100 p)/\∀ h:List Hf,jF a h->R (.ol (h.map bj))
def bq:aO:=λb R=>∃ (t:T) (a:List T),b=[.t (.lst (t::a))]/\R (.t .non)
def dZ:aO:=λb R=>∃ (a:List Pt) (m:Int),b=[.t (.lst (a.map aZ)),.t (.int m)]/\a≠[]/\a.length<=7/\(∀ p∈a,SzF 100 p)/\∀ h:List Hf,jF a h->R (.ol ((lz m a h).map bj))
def ce:WS:=
 (aG (aP 1 (av aU (af 0) (wC (.int 0))))
 (aG (aP 2 (av aU (af 0) (wC (.int 1))))
 (bh (jC (ae (cF (ae (wC (.int 1)) (ae (wC (.int 0)) (ae (af 1) ap)))) (ae (cF (ae (tN gI (wC (.int 1))) (ae (wC (.int 0)) (ae (tN gI (af 1)) ap)))) (ae (cF (ae (wC (.int 0)) (ae (wC (.int 1)) (ae (af 2) ap)))) (ae (cF (ae (wC (.int 0)) (ae (tN gI (wC (.int 1))) (ae (tN gI (af 2)) ap)))) ap))))))))
def h8:WS:=
 (aG (aP 1 (jC ap))
 (cq (h7 (bT (af 0)) (aQ 2) (aG (mV 1 (ax cR (ae (af 2) ap)))
 (h7 (bT (af 0)) (aQ 3) (f5 (wB (IY (af 2) (af 3))) (e5 1 (ax j4 (ae (af 2) (ae (af 3) ap)))) br))))
 (bh (lc (af 1)))))
def eA:WS:=
 (f5 (wB (tD (dP cL (ae (af 0) ap)) (wC (.int 0)))) l6 br)
def lr:WS:=
 (aG (vn (ax bq (ae (af 0) ap)))
 (bh (dm 1 [0,1] (bT (ax iQ (ae (af 0) ap))) (aQ 0) (wB (JW (ax j9 (ae (af 0) (ae (af 1) ap))) (af 2))) (af 0))))
theorem iL:∀ a R,cR a R->ce {nx:=λ_=>R (.t .non),rt:=R} (aD ["point","x","y"] a):=by
 rintro a R ⟨⟨x,y⟩,rfl,h⟩;show ce _ [some (.t (.tup [.int x,.int y])),none,none]
 delta ce
 symm;exact h
theorem oy:∀ a R,bq a R->eA {nx:=λ_=>R (.t .non),rt:=R} (aD ["points"] a):=by
 rintro a R ⟨t,a,rfl,h⟩;show eA _ [some (.t (.lst (t::a)))]
 delta eA
 symm;rw[if_neg ⋯]
 exact h
def Jx (h:Hf):List Int:=[h.1,h.2.1,h.2.2]
theorem uo {hs:List Hf}:∀ ns:List (List Int),(∀ k∈ns,k∈hs.map Jx)->∃ a:List Hf,ns=a.map Jx/\∀ g∈a,g∈hs
 | [],_=>⟨[],rfl,λp b=>by cases b⟩
 |k::ns,h=>by
  obtain⟨a,e,d⟩:=uo ns λk i=>h k (mem_cons_of_mem _ i);obtain⟨p,b,rfl⟩:=mem_map.mp (h k mem_cons_self);exact⟨p::a,by rw[e];rfl,λq a=>by
   obtain rfl|a:=mem_cons.mp a
   .exact b
   .exact d q a⟩
theorem G7 (h:Jx a=Jx b):a=b:=by
 unfold Jx at h;simp only[List.cons.injEq,and_true]at h;exact Prod.ext h.1 (Prod.ext h.2.1 h.2.2)
theorem K4:∀ {a:List Pt},p∈a->a.countP (λq=>decide (q≠p))+1<=a.length:=λ{a} h=>by
 have b:=rh (λq=>decide (q≠p)) a;have b:0<a.countP λq=>!decide (q≠p):=List.countP_pos_iff.mpr ⟨p,h,by simp⟩
 ext
theorem uQ:∀ Q R,iQ Q R->h8 {nx:=λ_=>R (.t .non),rt:=R} (aD ["points","found","one","other"] Q):=by
 rintro Q R ⟨k,rfl,a,hz,h⟩;show h8 _ [some (.t (.lst (k.map aZ))),none,none,none]
 delta h8
 symm
 let M:List Pt->List Hf->Prop:=λpre d=>d.length<=pre.length*10/\(∀ h∈d,fA k h)/\∀ p∈pre,(∀ h∈FE p,h∈d)/\∀ q∈k,p≠q->vS p q∈d
 refine⟨λo=>∃ (d:List Hf) (y r:Option S),o=[some (.t (.lst (k.map aZ))),some (.ol (d.map bj)),y,r]/\M k d,?_,?_⟩
 .refine⟨λC o=>∃ (pre a:List Pt) (d:List Hf) (y r:Option S),k=pre++a/\C=a.map aZ/\o=[some (.t (.lst (k.map aZ))),some (.ol (d.map bj)),y,r]/\M pre d,⟨[],k,[],_,_,rfl,rfl,rfl,by simp,λh hh=>(nomatch hh),λp D=>(nomatch D)⟩,?_,?_⟩
  .rintro o ⟨pre,a,d,y,r,b,i,rfl,m⟩;have:a=[]:=by simpa using i.symm
   subst this;rw[append_nil]at b;subst b;exact⟨d,y,r,rfl,m⟩
  .rintro x C o ⟨pre,a,d,y,r,b,i,rfl,W,U,F⟩
   cases a with
   |nil=>cases i
   |cons p a=>
    rw[map_cons]at i
    cases i
    have v:p∈k:=by rw[b];simp
    have P:SzF 100 p:=hz p v;have i:k.length=pre.length+(a.length+1):=by rw[b];simp
    symm;refine⟨p,rfl,?_⟩;dsimp only;rw[de _ (bp (λ_=>rfl) _)];symm;refine⟨by simp only[length_map];show d.length+4<100000;ext,?_⟩
    rw[<-map_append]
    let N:List Pt->List Hf->Prop:=λm i=>i.length<=d.length+4+m.countP (λq=>decide (q≠p))/\(∀ h∈i,fA k h)/\(∀ h∈d,h∈i)/\(∀ h∈FE p,h∈i)/\∀ q∈m,p≠q->vS p q∈i
    refine⟨λC o=>∃ (m u:List Pt) (i:List Hf) (r:Option S),k=m++u/\C=u.map aZ/\o=[some (.t (.lst (k.map aZ))),some (.ol (i.map bj)),some (.t (aZ p)),r]/\N m i,⟨[],k,d++FE p,_,rfl,rfl,rfl,by simp[FE],λh hh=>?_,λh hh=>mem_append_left _ hh,λh hh=>mem_append_right _ hh,λq E=>(nomatch E)⟩,?_,?_⟩
    .rcases mem_append.mp hh with hh|hh
     .exact U h hh
     .exact .inl ⟨p,v,hh⟩
    .rintro o ⟨m,u,i,r,z,H,rfl,Q,I,B,L,J⟩;have:u=[]:=by simpa using H.symm
     subst this;rw[append_nil]at z;subst z;have O:=K4 v;refine⟨pre++[p],a,i,_,_,by rw[List.append_assoc];exact b,rfl,rfl,by rw[List.length_append,length_singleton];ext,I,λO a=>?_⟩
     obtain a|a:=mem_append.mp a
     .exact⟨λh hh=>B h ((F O a).1 h hh),λq E b=>B _ ((F O a).2 q E b)⟩
     .rw[mem_singleton.mp a];exact⟨L,J⟩
    .rintro x C o ⟨m,u,i,r,z,H,rfl,Q,I,B,L,J⟩
     cases u with
     |nil=>cases H
     |cons q u=>
      rw[map_cons]at H
      cases H
      have C:q∈k:=by rw[z];simp
      have O:SzF 100 q:=hz q C;have a:k.length=m.length+(u.length+1):=by rw[z];simp
      have a:m.countP (λq=>decide (q≠p))<=m.length:=countP_le_length;symm
      by_cases k:p.1=q.1/\p.2=q.2
      .rw[decide_eq_true k,if_neg ⋯]
       have H:q=p:=(Prod.ext k.1 k.2).symm;refine⟨m++[q],u,i,_,by rw[List.append_assoc];exact z,rfl,rfl,?_,I,B,L,λQ a b=>?_⟩
       .rw[List.countP_append];ext
       .rcases mem_append.mp a with a|a
        .exact J Q a b
        .rw[mem_singleton.mp a,H]at b;exact absurd rfl b
      .rw[decide_eq_false k,if_pos ⋯]
       have b:p≠q:=λe=>k ⟨by rw[e],by rw[e]⟩
       refine⟨p,q,rfl,b,P.mono3 ⋯,O.mono3 ⋯,?_⟩
       symm;refine⟨by rw[length_map];ext,m++[q],u,i++[vS p q],_,by rw[List.append_assoc];exact z,rfl,by rw[map_append];rfl,?_,λg k=>?_,λg k=>mem_append_left _ (B g k),λg k=>mem_append_left _ (L g k),λQ a m=>?_⟩
       .rw[List.length_append,length_singleton,List.countP_append,List.countP_singleton,if_pos (by simpa using b.symm)];ext
       .rcases mem_append.mp k with k|k
        .exact I g k
        .rw[mem_singleton.mp k];exact .inr ⟨p,v,q,C,b,rfl⟩
       .rcases mem_append.mp a with a|a
        .exact mem_append_left _ (J Q a m)
        .rw[mem_singleton.mp a];exact mem_append_right _ (mem_singleton.mpr rfl)
 .rintro o ⟨d,y,r,rfl,W,U,F⟩;symm;refine⟨3,d.map Jx,⋯,by rw[map_map];rfl,λa a=>by obtain⟨p,_,rfl⟩:=mem_map.mp a;rfl,by rw[length_map];ext,λns a m o _=>?_⟩
  obtain⟨i,rfl,k⟩:=uo ns a;have r:i.length<=d.length:=by
   have:=List.Nodup.length_le_of_subset o a;simpa using this
  have e:(i.map Jx).map mE=i.map bj:=by rw[map_map];rfl
  rw[e];symm;refine h i ⟨λg=>⟨λa=>U g (k g a),λhb=>?_⟩,⋯⟩
  have i:g∈d:=by
   obtain⟨p,D,hh⟩|⟨p,D,q,E,b,rfl⟩:=hb
   .exact(F p D).1 g hh
   .exact(F p D).2 q E b
  obtain⟨b,a,b⟩:=mem_map.mp (m (Jx g) (mem_map.mpr ⟨g,i,rfl⟩));rw[<-G7 b];exact a
theorem GI (hz:∀ p∈ps,SzF 100 p)(hb:fA ps h):dy 300 h:=(kt (λp a=>(hz p a).mono3 ⋯) hb).1
theorem Av:∀ x R,dZ x R->lr {nx:=λ_=>R (.t .non),rt:=R} (aD ["points","many"] x):=by
 rintro x R ⟨d,m,rfl,o,B,hz,h⟩;obtain⟨i,k,rfl⟩:∃ i k,d=i::k:=by
  cases d with
  |nil=>exact absurd rfl o
  |cons a b=>exact⟨a,b,rfl⟩
 show lr _ [some (.t (.lst ((i::k).map aZ))),some (.t (.int m))]
 delta lr
 generalize q:i::k=d at *;have u:∀ R:S->Prop,R (.t .non)->bq [.t (.lst (d.map aZ))] R:=λR D=>⟨aZ i,k.map aZ,by rw[<-q];rfl,D⟩
 symm;refine u _ ?_;symm;refine⟨d,rfl,B,hz,λE e=>?_⟩;dsimp only;rw[de _ (bp (λ_=>rfl) _)];symm;have rG:=e.2;refine eC (f:=bj) (h:=bj) (p:=λg=>decide (m<=eV g d)) (λy=>∃ r,y=[r,some (.t (.lst (d.map aZ))),some (.t (.int m))]) (λ_ _=>rfl) ⋯ ⟨_,rfl⟩ ?_ ?_
 .rintro g z y ⟨r,rfl⟩ Y N H C;symm;refine⟨g,d,rfl,k9 (GI hz ((e.1 g).mp z)) ⋯,λp F=>(hz p F).mono3 ⋯,⋯,?_⟩
  symm
  split
  .rename_i v;exact H _ ⟨_,rfl⟩ (by simpa using v)
  .rename_i v;exact C _ ⟨_,rfl⟩ (by simpa using v)
 .symm;exact h E e
set_option maxHeartbeats 4000000
structure tQ (ps:List Pt) (k:Nat) (L:List aS):Prop where
 reg:jx L
 hold:∀ q:Hf,0<q.2.2->(bV (L.map ah) q↔k<=ud (ps.map (kh q)))
 len:L.length<=160
 few:3<=L.length->L.length<=70
 lk:FU (fA ps) L
def gv:aO:=λb R=>∃ (a:List Pt) (k:Nat),b=[.t (.lst (a.map aZ)),.t (.int (k:Int))]/\a≠[]/\a.length<=7/\(∀ p∈a,SzF 100 p)/\1<=k/\∀ L:List aS,tQ a k L->R (.ol (L.map spT))
def lm:WS:=
 (aG (vn (ax bq (ae (af 0) ap)))
 (aG (f5 (wB (y9 (af 1) (wC (.int 1)))) l6 br)
 (aG (f5 (wB (AQ (af 1) (dP cL (ae (af 0) ap)))) (bh (jC ap)) br)
 (aG (aP 2 (ax k4 (ae (af 0) ap)))
 (cq (h7 (bT (ax dZ (ae (af 0) (ae (eM (dR (dP cL (ae (af 0) ap)) (af 1)) (wC (.int 1))) ap)))) (aQ 3) (aP 2 (ax j5 (ae (af 2) (ae (af 3) ap)))))
 (jQ 2))))))
theorem oJ (R:jx L):∀ s∈L,bH s/\eW 700 s:=λs h=>⟨R.ok s h,bD (OD (R.ok s h) (R.cn s h)) ⋯⟩
theorem Fo (h:SetOf ps a):a.length<=ps.length:=List.Nodup.length_le_of_subset (qf h.2.2) h.1
theorem yd (a:List Pt):(bO a).length<=2*a.length:=by
 unfold bO
 split
 .ext
 .unfold mj;have b:=ku a;have b:=ku a.reverse;rw[length_reverse]at b;simp only[List.length_append,length_dropLast,length_reverse];ext
theorem xR (ps:List Pt)(q:Hf):ud (ps.map (kh q))<=ps.length:=by
 have h:=(rx (ps.map (kh q))).2 (1,0) ⋯
 have:=nD (ps.map (kh q)) (1,0);rw[length_map]at this;ext
theorem IG:jx ([]:List aS):=⟨λs b=>(nomatch b),⟨λk a=>(nomatch a),λh=>(nomatch h)⟩,λs b=>(nomatch b),λk a=>(nomatch a)⟩
theorem Fc (h:ps.length<k):tQ ps k []:=by
 refine⟨IG,λq _=>⟨λz=>absurd z.ne (by simp),λz=>?_⟩,by simp,λh=>by simp at h,λh=>by simp at h⟩
 have:=xR ps q;ext
theorem IH (o:SetOf ps m)(g:ps≠[])(v:ps.length<=7)(hz:∀ p∈ps,SzF 100 p)(a:1<=k)(u:k<=ps.length)(e:jF ps hs)
  (I:vF ((bO m).map eX) (lz ((ps.length:Int)-k+1) ps hs) L) (d:FU (fA ps) L):tQ ps k L:=by
 have b:∀ p∈ps,SzF 110 p:=λp i=>(hz p i).mono3 ⋯
 have mem:∀ h,h∈lz ((ps.length:Int)-k+1) ps hs↔fA ps h/\ps.length+1<=eV h ps+k:=λh=>by
  unfold lz;rw[mem_filter,e.1,decide_eq_true_eq];exact⟨λz=>⟨z.1,⋯⟩,λz=>⟨z.1,⋯⟩⟩
 have i:(lz ((ps.length:Int)-k+1) ps hs).length<=70:=le_trans (length_filter_le ..) e.2;refine⟨I.1,λq i=>?_,?_,λr=>le_trans (zP I.1 d r (D:=hs) λl d=>(e.1 l).mpr d) e.2,d⟩
 .rw[I.2.2 q i,mJ b i u a];constructor
  .rintro⟨_,z⟩ h hb hm;exact z h ((mem h).mpr ⟨hb,hm⟩)
  .intro z;exact⟨ub o g b i a z,λh hh=>z h ((mem h).mp hh).1 ((mem h).mp hh).2⟩
 .have:=I.2.1;have b:=yd m;have b:=Fo o;rw[length_map]at this;ext
theorem As:∀ H R,gv H R->lm {nx:=λ_=>R (.t .non),rt:=R} (aD ["points","k","part","found"] H):=by
 rintro H R ⟨d,k,rfl,i,H,hz,F,h⟩;obtain⟨m,r,rfl⟩:∃ m r,d=m::r:=by
  cases d with
  |nil=>exact absurd rfl i
  |cons a b=>exact⟨a,b,rfl⟩
 show lm _ [some (.t (.lst ((m::r).map aZ))),some (.t (.int (k:Int))),none,none]
 delta lm
 generalize e:m::r=d at *;have o:1<=d.length:=by rw[<-e];simp
 have o:∀ R:S->Prop,R (.t .non)->bq [.t (.lst (d.map aZ))] R:=λR E=>⟨aZ m,r.map aZ,by rw[<-e];rfl,E⟩
 symm;refine o _ ?_;symm;rw[if_neg ⋯]
 symm
 by_cases e:d.length<k
 .rw[if_pos (by rw[length_map];ext)]
  symm;exact h [] (Fc e)
 rw[if_neg (by rw[length_map];ext)]
 symm;refine⟨d,rfl,⋯,λp o=>(hz p o).mono3 ⋯,λu m=>?_⟩
 dsimp only;have e:(bO u).map ck=((bO u).map eX).map spT:=by rw[map_map];rfl
 have I:∀ l:List aS,got (.ol (l.map spT))=.ol (l.map spT):=λl=>de _ (bp (λ_=>rfl) l);rw[e,I];symm;have e:∀ p∈d,SzF 110 p:=λp o=>(hz p o).mono3 ⋯
 have O:=l4 m i;have D:jx ((bO u).map eX):=fb O λp o=>(e p (m.1 p (O.sub p o))).mono3 ⋯
 have B:=Dx m i e;have o:((bO u).map eX).length<=14:=by
  have o:=yd u;have z:=Fo m;rw[length_map];ext
 let M:bf->Prop:=λy=>∃ (o:List Hf) (L:List aS) (v:S) (r:Option S),y=[some (.t (.lst (d.map aZ))),some (.t (.int (k:Int))),some v,r]/\v=.ol (L.map spT)/\jF d o/\vF ((bO u).map eX) (lz ((d.length:Int)-k+1) d o) L/\FU (fA d) L
 refine⟨M,?_,?_⟩
 .refine⟨d,_,rfl,i,H,hz,λo C=>?_⟩;dsimp only;rw[de _ (bp (λ_=>rfl) _)];symm;rw[length_map];have hok:∀ g∈lz ((d.length:Int)-k+1) d o,gz g/\fA d g:=λg q=>by
   have:=(C.1 g).mp (mem_filter.mp q).1;exact⟨kt e this,this⟩
  have e:(lz ((d.length:Int)-k+1) d o).length<=70:=le_trans (length_filter_le ..) C.2;have q:∀ (L:List aS) (v:S) (r:Option S),v=.ol (L.map spT)->vF ((bO u).map eX) (lz ((d.length:Int)-k+1) d o) L->FU (fA d) L->M [some (.t (.lst (d.map aZ))),some (.t (.int (k:Int))),some v,r]:=λL v r a b c=>⟨o,L,v,r,rfl,a,C,b,c⟩;generalize lz ((d.length:Int)-k+1) d o=st at hok e q;refine⟨λJ y=>∃ (pre e:List Hf) (L:List aS) (v:S) (r:Option S),st=pre++e/\J=e.map bj/\y=[some (.t (.lst (d.map aZ))),some (.t (.int (k:Int))),some v,r]/\v=.ol (L.map spT)/\vF ((bO u).map eX) pre L/\FU (fA d) L,⟨[],st,_,_,_,rfl,rfl,rfl,rfl,QJ D,B⟩,?_,?_⟩
  .rintro y ⟨pre,e,L,v,r,u,B,rfl,z,d,D⟩;have:e=[]:=by simpa using B.symm
   subst this;rw[append_nil]at u;rw[<-u]at d;exact q L v r z d D
  .rintro x J y ⟨pre,e,L,v,r,u,B,rfl,z,d,D⟩
   cases e with
   |nil=>cases B
   |cons g e=>
    rw[map_cons]at B
    cases B
    obtain⟨q,J⟩:=hok g (by rw[u];simp)
    have B:pre.length<=70:=by
     have:=congrArg List.length u;simp only[List.length_append,length_cons]at this;ext
    have B:=d.2.1;subst z
    (
     symm;refine⟨L,g,rfl,⋯,oJ d.1,q.1,?_⟩
     dsimp only;rw[I];symm;exact⟨pre++[g],e,gD g L,_,_,by rw[u];simp,rfl,rfl,rfl,Dd q d,Dy q J d.1 D⟩)
 .rintro y ⟨o,L,v,r,rfl,z,C,d,D⟩;have E:=h L (IH m i H hz F ⋯ C d D)
  subst z;symm;exact E
set_option maxHeartbeats 4000000
theorem KL {α:Type}{f:α->T}{l:List α}{k:Nat}{x:α}{R:S->Prop}(e:l[k]?=some x):atT (l.map f) (k:Int) R=R (.t (f x)):=
 dz (cJ (by rw[getElem?_map,e];rfl))
theorem i9 (k n:Nat):bS (k:Int) (n+1)=.int k::bS ((k+1:Nat):Int) n:=by
 unfold bS;rw[range_succ_eq_map,map_cons,map_map]
 congr 1
 .simp;intro a _;ext
theorem kD (e:m=n)(I:Nat->bf->Prop)(B:I 0 a)(o:∀ a,I n a->D.nx a)
  (p:∀ k a,k<n->I k a->g (.int (k:Int)) a λi=>u {nx:=I (k+1),rt:=D.rt,bk:=D.nx,ct:=I (k+1)} i):wq g u (bS 0 m) D a:=by
 subst e;refine⟨λb a=>∃ k j:Nat,b=bS (k:Int) j/\k+j=m/\I k a,⟨0,m,rfl,⋯,B⟩,?_,?_⟩
 .rintro a ⟨k,j,e,b,h⟩
  cases j with
  |zero=>exact o a (by rw[add_zero]at b;rw[<-b];exact h)
  |succ j=>rw[i9]at e;cases e
 .rintro x r a ⟨k,j,e,b,h⟩
  cases j with
  |zero=>cases e
  |succ j=>
   rw[i9]at e;obtain⟨rfl,rfl⟩:=List.cons.inj e;have q:=p k a ⋯ h
   have z:I (k+1)=λa=>∃ b d:Nat,bS ((k+1:Nat):Int) j=bS (b:Int) d/\b+d=m/\I b a:=by
    funext δ'
    refine propext ⟨λhi=>⟨k+1,j,rfl,⋯,hi⟩,?_⟩
    rintro⟨b,d,y,v,hi⟩;have:=congrArg List.length y;rw[gp,gp]at this;have:b=k+1:=⋯
    rw[<-this];exact hi
   show g _ a λi=>u {nx:=λa=>∃ b d:Nat,bS ((k+1:Nat):Int) j=bS (b:Int) d/\b+d=m/\I b a,rt:=D.rt,bk:=D.nx,ct:=λa=>∃ b d:Nat,bS ((k+1:Nat):Int) j=bS (b:Int) d/\b+d=m/\I b a} i;rw[<-z];exact q
theorem MZ {i:Nat}{a:bf}{N:bf->Prop}{vs:List Int}{x:Int}{j:Nat}(h:j<vs.length):PH i a N (vs.map .int) (.t (.int x)) (.t (.int (j:Int)))=N (a.set i (some (.ol ((vs.set j x).map .int)))):=by
 have:su (vs.map T.int).length (j:Int)=some j:=by unfold su;rw[if_pos ⋯,if_pos (by rw[length_map];ext)];rfl
 show(match su _ _ with|some j=>_|none=>False)=_
 rw[this,List.map_set]
abbrev big:Int:=1000000000000000000000000000000000000000000000000000000000007
theorem mF:(0:Int)<big:=⋯
def tP (x:Int):Prop:=-1000000000000000000<=x/\x<=1000000000000000000
theorem BS (h:tP x):Sz 60 x:=by unfold tP at h;exact Sz.of ⋯ ⋯
def hE:aO:=λa R=>∃ (ns:List Int) (m:Nat),a=[.t (.lst (ns.map .int)),.t (.int (m:Int))]/\ns.length<=63/\0<m/\m<=100/\∀ a:List Int,a.length=m->(∀ v∈a,0<=v/\v<big)->R (.ol (a.map .int))
def j8:aO:=λa R=>∃ n b k:Int,a=[.t (.int n),.t (.int b),.t (.int k)]/\b=5/\0<=k/\k<1000/\∀ v:Int,R (.t (.int v))
def iS:aO:=λa R=>∃ (hd:List Int) (m:Int),a=[.t (.lst (hd.map .int)),.t (.int m)]/\4+m<=hd.length/\(∀ v∈hd,0<=v/\v<big)/\1<=m/\m<=8/\∀ a:List Pt,a.length=m.toNat->(∀ p∈a,tP p.1/\tP p.2)->R (.ol (a.map aZ))
def eN (s:aS)(ps:List Pt):List Pt:=ps.map (kh (ah s))
def fJ:WS:=
 (aG (aP 2 (dm 1 [] (dN (ae (af 1) ap)) (aQ 0) kg (wC (.int 0))))
 (cq (h7 (dN (ae (dP ug (ae (af 1) (ae (dP p9 (ae (dP cL (ae (af 0) ap)) (ae (wC (.int 63)) ap))) ap))) ap)) (aQ 3) (aG (aP 4 (wC (.int 0)))
 (cq (f5 (wB (AQ (dP cL (ae (af 0) ap)) (wC (.int 0)))) (aP 4 (iY (av aU (af 0) (iY (af 3) (dP p9 (ae (dP cL (ae (af 0) ap)) (ae (wC (.int 63)) ap))))) (eM (xr (wC (.int 10)) (wC (.int 60))) (wC (.int 7))))) br)
 (aG (aP 5 (iY (af 3) (af 1)))
 (tF 2 (af 5) (iY (eM (eM (bG (av aU (af 2) (af 5)) (wC (.int 48271))) (af 4)) (bG (af 3) (af 3))) (eM (xr (wC (.int 10)) (wC (.int 60))) (wC (.int 7)))))))))
 (jQ 2)))
def jp:WS:=
 (cq (h7 (dN (ae (af 2) ap)) (aQ 3) (aP 0 (iX (af 0) (af 1))))
 (bh (iY (af 0) (af 1))))
def ie:WS:=
 (aG (aP 2 (jC ap))
 (aG (aP 3 (iY (av aU (af 0) (wC (.int 0))) (wC (.int 8))))
 (cq (h7 (dN (ae (af 1) ap)) (aQ 4) (aG (aP 5 (av aU (af 0) (eM (wC (.int 4)) (af 4))))
 (aG (aP 6 (dR (iY (af 5) (wC (.int 7))) (wC (.int 3))))
 (aG (aP 7 (dR (iY (iX (af 5) (wC (.int 7))) (wC (.int 7))) (wC (.int 3))))
 (cq (f5 (wB (tD (af 3) (wC (.int 1)))) (aP 7 (dR (bG (wC (.int 2)) (af 6)) (wC (.int 1)))) br)
 (cq (f5 (wB (tD (af 3) (wC (.int 2)))) (aP 6 (wC (.int 1))) br)
 (cq (f5 (wB (tD (af 3) (wC (.int 3)))) (Nm 6 7 (ae (dR (iY (af 5) (wC (.int 3))) (wC (.int 1))) (ae (dR (iY (iX (af 5) (wC (.int 3))) (wC (.int 3))) (wC (.int 1))) ap))) br)
 (cq (f5 (wB (AQ (af 3) (wC (.int 5)))) (aG (aP 6 (dR (iY (af 5) (eM (bG (wC (.int 2)) (xr (wC (.int 10)) (wC (.int 18)))) (wC (.int 1)))) (xr (wC (.int 10)) (wC (.int 18)))))
 (aP 7 (dR (iY (bG (af 5) (wC (.int 69621))) (eM (bG (wC (.int 2)) (xr (wC (.int 10)) (wC (.int 18)))) (wC (.int 1)))) (xr (wC (.int 10)) (wC (.int 18)))))) br)
 (cq (f5 (FQ (iW (wB (AQ (af 4) (wC (.int 0)))) (wB (tD (ax j8 (ae (av aU (af 0) (wC (.int 1))) (ae (wC (.int 5)) (ae (af 4) ap)))) (wC (.int 1)))))) (FI (av aU (af 2) (dR (af 4) (wC (.int 1)))) (qM (ea (aQ 6) (ea (aQ 7) mv)))) br)
 (e5 2 (cF (ae (af 6) (ae (af 7) ap)))))))))))))
 (jQ 2))))
theorem IM {vs:List Int}{P:Int->Prop}{j:Nat}{x:Int}(h:∀ v∈vs,P v)(b:P x):∀ v∈vs.set j x,P v:=λv a=>by
 obtain z|z:=List.mem_or_eq_of_mem_set a
 .exact h v z
 .rw[z];exact b
theorem IJ (m:Nat):(List.range m).map (λ_=>T.int 0)=(replicate m (0:Int)).map T.int:=by
 rw[List.map_replicate];exact List.eq_replicate_iff.mpr ⟨by simp,λb hb=>by simp at hb;exact hb.2.symm⟩
theorem sI:∀ x R,hE x R->fJ {nx:=λ_=>R (.t .non),rt:=R} (aD ["_law_script","_law_many","_law_found","_law_k","_law_cell","_law_at"] x):=by
 rintro x R ⟨ns,m,rfl,P,F,M,h⟩;show fJ _ [some (.t (.lst (ns.map .int))),some (.t (.int (m:Int))),none,none,none,none]
 delta fJ
 symm;refine⟨ij ⋯ ⋯,?_⟩
 rw[toNat_natCast];refine eD (f:=λk:Nat=>.int (0+(k:Int))) (h:=λ_=>.int 0) (l:=List.range m) (λb=>∃ r,b=[r]) (λ_ _=>rfl) (by rw[length_range];ext) ⟨_,rfl⟩ ?_ ?_
 .rintro k u b ⟨r,rfl⟩ Y C;symm;exact C _ ⟨_,rfl⟩
 rw[IJ]
 let I:bf->Prop:=λb=>∃ (a:List Int) (i o g:Option S),b=[some (.t (.lst (ns.map .int))),some (.t (.int (m:Int))),some (.ol (a.map .int)),i,o,g]/\a.length=m/\∀ v∈a,0<=v/\v<big
 have J:∀ v∈replicate m (0:Int),0<=v/\v<big:=λv d=>by
  rw[List.eq_of_mem_replicate d];decide
 refine⟨I,?_,?_⟩
 .symm;simp only[length_map];refine⟨ij (by(repeat' split) <;> ext) (by(repeat' split) <;> ext),kD rfl (λ_=>I) ⟨_,_,_,_,rfl,by simp,J⟩ (λ_ z=>z) ?_⟩
  rintro k b u ⟨a,i,o,g,rfl,e,d⟩;have u:k<1000:=by revert u;(repeat' split) <;> ext
  symm
  try simp only[length_map]
  refine⟨λb=>∃ c:Int,b=[some (.t (.lst (ns.map .int))),some (.t (.int (m:Int))),some (.ol (a.map .int)),some (.t (.int k)),some (.t (.int c)),g]/\0<=c/\c<big,?_,?_⟩
  .symm
   try simp only[length_map]
   split
   .rename_i c;have L:∃ q:Int,(if 63<(ns.length:Int) then (63:Int) else ns.length)=q/\0<q/\q<=ns.length:=⟨_,rfl,by split <;> ext,by split <;> ext⟩
    obtain⟨q,E,y,U⟩:=L;rw[E];have H:=fmod_lo (k:Int) y;have Q:=fmod_hi (k:Int) y;symm;refine⟨⋯,Bq H ⋯ λv _=>?_⟩
    symm;refine⟨E4 ⋯ ⋯ ⋯,⋯,?_⟩
    exact⟨v.fmod big,rfl,fmod_lo v mF,fmod_hi v mF⟩
   .exact⟨0,rfl,⋯,⋯⟩
  rintro b ⟨c,rfl,W,O⟩;have D:(k:Int).fmod (m:Int)=((k % m:Nat):Int):=uj k m;have p:k % m<a.length:=by rw[e];exact mod_lt _ F
  have B:a[k % m]?=some (a[k % m]'p):=List.getElem?_eq_getElem _;generalize a[k % m]'p=v at B;symm;refine⟨⋯,?_⟩
  rw[D];rw[gC (cJ (show(a.map T.int)[k % m]?=some (.int v) by rw[getElem?_map,B];rfl))]
  symm;refine⟨Pb ⋯ ⋯,Hz ⋯ ⋯,E4 ⋯ ⋯ ⋯,⋯,?_⟩
  rw[MZ p];exact⟨_,_,_,_,rfl,by rw[length_set];exact e,IM d ⟨fmod_lo (n:=big) _ mF,fmod_hi (n:=big) _ mF⟩⟩
 .rintro b ⟨a,i,o,g,rfl,e,d⟩;symm;exact h a e d
theorem wU:∀ d R,j8 d R->jp {nx:=λ_=>R (.t .non),rt:=R} (aD ["_law_number","_law_base","_law_place","_law_k"] d):=by
 rintro d R ⟨n,b,k,rfl,rfl,a,k1,h⟩;show jp _ [some (.t (.int n)),some (.t (.int 5)),some (.t (.int k)),none]
 delta jp
 symm;refine⟨λa=>∃ (v:Int) (r:Option S),a=[some (.t (.int v)),some (.t (.int 5)),some (.t (.int k)),r],?_,?_⟩
 .symm;refine⟨ij ⋯ ⋯,λd a=>∃ (v:Int) (r:Option S),a=[some (.t (.int v)),some (.t (.int 5)),some (.t (.int k)),r],⟨_,_,rfl⟩,λ_ q=>q,?_⟩
  rintro t d a ⟨v,r,rfl⟩;symm;exact⟨BM ⋯ (by decide +kernel),_,_,rfl⟩
 rintro a ⟨v,r,rfl⟩;symm;exact⟨⋯,h _⟩
theorem C4 {hd:List Int}{i:Nat}{R:S->Prop}(hi:i<hd.length)(hb:∀ v∈hd,0<=v/\v<big)(h:∀ v,0<=v->v<big->R (.t (.int v))):atT (hd.map T.int) (i:Int) R:=by
 have e:hd[i]?=some (hd[i]'⋯):=List.getElem?_eq_getElem _
 rw[KL e];have:=hb _ (mem_of_getElem? e);exact h _ this.1 this.2
theorem wx {hd:List Int}{i:Nat}{R:S->Prop}(hi:i<hd.length)(hb:∀ v∈hd,0<=v/\v<big)(h:∀ v,0<=v->v<big->R (.t (.int v))):vy (hd.map T.int) (i:Int) R:=by
 have e:hd[i]?=some (hd[i]'⋯):=List.getElem?_eq_getElem _
 rw[gC (cJ (show(hd.map T.int)[i]?=some (.int _) by rw[getElem?_map,e];rfl))]
 have:=hb _ (mem_of_getElem? e);exact h _ this.1 this.2
theorem KM {l:List Pt}{k:Nat}{x:Pt}{R:S->Prop}(e:l[k]?=some x):vy (l.map aZ) (k:Int) R=R (.t (aZ x)):=by
 rw[gC (cJ (x:=aZ x) (by rw[getElem?_map,e];rfl))];rfl
theorem uS:∀ J R,iS J R->ie {nx:=λ_=>R (.t .non),rt:=R} (aD ["_law_head","_law_many","_law_found","_law_way","_law_k","_law_number","_law_x","_law_y"] J):=by
 rintro J R ⟨hd,m,rfl,hl,hb,m0,X,h⟩;have B:Sz 1 0:=⟨⋯⟩
 show ie _ [some (.t (.lst (hd.map .int))),some (.t (.int m)),none,none,none,none,none,none]
 delta ie
 symm;refine C4 (i:=0) ⋯ hb λL _ _=>?_
 walk_at"go";generalize L.fmod 8=way
 let M (n:Nat):bf->Prop:=λr=>∃ (o:List Pt) (D I F C:Option S),r=[some (.t (.lst (hd.map .int))),some (.t (.int m)),some (.ol (o.map aZ)),some (.t (.int way)),D,I,F,C]/\o.length=n/\∀ p∈o,tP p.1/\tP p.2
 refine⟨M m.toNat,?_,?_⟩
 .symm;refine⟨ij ⋯ ⋯,kD rfl M ⟨[],_,_,_,_,rfl,rfl,λp O=>by cases O⟩ (λ_ z=>z) ?_⟩
  rintro k r hk ⟨o,D,I,F,C,rfl,pl,u⟩;have P:k<8:=⋯
  symm;rw[show(4+(k:Int))=((4+k:Nat):Int) by ext]
  refine C4 (i:=4+k) ⋯ hb λv L U=>?_
  have a1:=fmod_lo v (n:=7) ⋯
  have a2:=fmod_hi v (n:=7) ⋯
  have a3:=fmod_lo (v.fdiv 7) (n:=7) ⋯
  have Y:=fmod_hi (v.fdiv 7) (n:=7) ⋯
  have b1:=fmod_lo v (n:=3) ⋯
  have b2:=fmod_hi v (n:=3) ⋯
  have b3:=fmod_lo (v.fdiv 3) (n:=3) ⋯
  have Z:=fmod_hi (v.fdiv 3) (n:=3) ⋯
  have c1:=fmod_lo v (n:=2000000000000000001) ⋯
  have W:=fmod_hi v (n:=2000000000000000001) ⋯
  have c3:=fmod_lo (v*69621) (n:=2000000000000000001) ⋯
  have c4:=fmod_hi (v*69621) (n:=2000000000000000001) ⋯
  let N:bf->Prop:=λr=>∃ x y:Int,r=[some (.t (.lst (hd.map .int))),some (.t (.int m)),some (.ol (o.map aZ)),some (.t (.int way)),some (.t (.int k)),some (.t (.int v)),some (.t (.int x)),some (.t (.int y))]/\tP x/\tP y
  walk_at"go";refine⟨N,?_,?_⟩
  .walk_at"go"
   split
   .walk_at"go";exact⟨_,_,rfl,(by unfold tP;ext),(by unfold tP;ext)⟩
   .exact⟨_,_,rfl,(by unfold tP;ext),(by unfold tP;ext)⟩
  rintro r ⟨x,y,rfl,g,a⟩;symm;refine⟨N,?_,?_⟩
  .walk_at"go"
   split
   .exact⟨_,_,rfl,(by unfold tP;ext),a⟩
   .exact⟨_,_,rfl,g,a⟩
  clear g a x y;rintro r ⟨x,y,rfl,g,a⟩;symm;refine⟨N,?_,?_⟩
  .walk_at"go"
   split
   .walk_at"go";exact⟨_,_,rfl,(by unfold tP;ext),(by unfold tP;ext)⟩
   .exact⟨_,_,rfl,g,a⟩
  clear g a x y;rintro r ⟨x,y,rfl,g,a⟩;symm;refine⟨N,?_,?_⟩
  .walk_at"go"
   split
   .walk_at"go";exact⟨_,_,rfl,(by unfold tP;ext),(by unfold tP;ext)⟩
   .exact⟨_,_,rfl,g,a⟩
  clear g a x y;rintro r ⟨x,y,rfl,g,a⟩;symm;refine⟨N,?_,?_⟩
  .symm;refine⟨λb=>b=true->0<k,?_,?_⟩
   .symm
    split
    .refine C4 (i:=1) ⋯ hb λd0 _ _=>?_
     symm;refine⟨_,5,k,rfl,rfl,⋯,⋯,λd=>?_⟩
     symm;intro _;ext
    .exact λz=>z.elim
   .rintro b H;symm
    split
    .rename_i E;have k0:=H E;have e:o[k-1]?=some (o[k-1]'⋯):=List.getElem?_eq_getElem _
     have hm:=u _ (mem_of_getElem? e);generalize o[k-1]'⋯=q at e hm
     rw[show((k:Int)-1)=((k-1:Nat):Int) by ext,KM e]
     symm;exact⟨_,_,rfl,hm.1,hm.2⟩
    .exact⟨_,_,rfl,g,a⟩
  clear g a x y;rintro r ⟨x,y,rfl,g,a⟩;symm;refine⟨by rw[length_map,pl];ext,o++[(x,y)],_,_,_,_,by rw[map_append];rfl,by simp[pl],λq Q=>?_⟩
  obtain z|z:=mem_append.mp Q
  .exact u q z
  .have z:=mem_singleton.mp z;subst z;exact⟨g,a⟩
 rintro r ⟨o,D,I,F,C,rfl,pl,u⟩;symm;exact h o pl u
def gB (p q:Hf):Int:=p.1*q.1+p.2.1*q.2.1
def bM (p q:Hf):Int:=p.1*q.2.1-p.2.1*q.1
def kq (b o:Hf):Int:=o.2.2*gB b b-gB b o*b.2.2
def i6 (b o:Hf):Fr:=if bM b o<0 then (-kq b o,-bM b o) else (kq b o,bM b o)
def Nz (h:Hf):Prop:=h.1≠0\/h.2.1≠0
def NH (b:Hf)(s:Fr):Int:=b.1*b.2.2*s.2-b.2.1*s.1
def NI (b:Hf)(s:Fr):Int:=b.2.1*b.2.2*s.2+b.1*s.1
def yU (b:Hf)(s:Fr):Int:=gB b b*s.2
def IK (b:Hf)(s:Fr):aS:=(tM (NH b s) (yU b s),tM (NI b s) (yU b s))
def J5 (s:Fr):Prop:=0<s.2/\Int.gcd s.1 s.2=1
def Nw (s:aS):Prop:=J5 s.1/\J5 s.2
theorem sZ {a:Int}(h:a≠0):0<a*a:=by
 obtain z|z:=Int.lt_or_gt_of_ne h
 .exact Int.mul_pos_of_neg_of_neg z z
 .exact mul_pos z z
theorem Fu (a:Int):0<=a*a:=by
 by_cases h:a=0
 .subst h;decide
 .exact le_of_lt (sZ h)
theorem nE {b:Hf}(h:Nz b):0<gB b b:=by
 unfold gB
 obtain z|z:=h
 .have:=sZ z;have:=Fu b.2.1;ext
 .have:=sZ z;have:=Fu b.1;ext
theorem Ex {c t:Int}(a:0<c)(h:0<=c*t):0<=t:=by
 obtain z|z:=lt_or_le t 0
 .have:=mul_neg_of_pos_of_neg a z;ext
 .exact z
theorem bR {c t:Int}(a:0<c)(h:0<c*t):0<t:=by
 obtain z|z:=lt_or_le 0 t
 .exact z
 .have:=mul_nonpos_of_nonneg_of_nonpos (le_of_lt a) z;ext
theorem rD {a b:Int}(hb:0<b):J5 (tM a b)/\(tM a b).1*b=a*(tM a b).2:=by
 have g:(Int.gcd a b:Int)≠0:=gK (.inr ⋯)
 have h:0<(Int.gcd a b:Int):=⋯
 have e:lv a b=(Int.gcd a b:Int):=by unfold lv;rw[if_neg ⋯]
 unfold tM;rw[e];have g:=cM (gcd_dvd_left a b);have e:=cM (gcd_dvd_right a b);have d:a.fdiv (Int.gcd a b:Int)=a / (Int.gcd a b:Int):=Int.fdiv_eq_ediv_of_nonneg _ ⋯
 have i:b.fdiv (Int.gcd a b:Int)=b / (Int.gcd a b:Int):=Int.fdiv_eq_ediv_of_nonneg _ ⋯
 refine⟨⟨?_,?_⟩,?_⟩
 .refine bR h ?_;rw[mul_comm,e];exact hb
 .dsimp only;rw[d,i,Int.gcd_ediv_gcd_ediv_gcd ⋯]
 .dsimp only;have d:a.fdiv (Int.gcd a b:Int)*b=a.fdiv (Int.gcd a b:Int)*(b.fdiv (Int.gcd a b:Int)*(Int.gcd a b:Int)):=by rw[e]
  have e:a*b.fdiv (Int.gcd a b:Int)=a.fdiv (Int.gcd a b:Int)*(Int.gcd a b:Int)*b.fdiv (Int.gcd a b:Int):=by rw[g]
  rw[d,e,mul_comm (b.fdiv _),<-Int.mul_assoc]
theorem MX (hb:Nz b)(hs:0<s.2):Nw (IK b s):=by
 have:0<yU b s:=mul_pos (nE hb) hs;exact⟨(rD this).1,(rD this).1⟩
theorem Jl {b:Hf}{s:Fr}(o:Hf)(hb:Nz b)(hs:0<s.2)(h:kq b o*s.2<=bM b o*s.1):0<=a9 o (IK b s):=by
 have d:0<yU b s:=mul_pos (nE hb) hs;obtain⟨⟨i,_⟩,g⟩:=rD (a:=NH b s) d;obtain⟨⟨g,_⟩,k⟩:=rD (a:=NI b s) d;unfold a9 IK;generalize tM (NH b s) (yU b s)=X at *;generalize tM (NI b s) (yU b s)=Y at *;dsimp only;refine Ex d ?_;have e:yU b s*(o.1*X.1*Y.2+o.2.1*Y.1*X.2-o.2.2*(X.2*Y.2))=(X.2*Y.2)*(bM b o*s.1-kq b o*s.2):=by
  have d:bM b o*s.1-kq b o*s.2=o.1*NH b s+o.2.1*NI b s-o.2.2*yU b s:=by
   unfold bM kq NH NI yU gB;grind
  rw[d];grind
 rw[e];exact mul_nonneg (le_of_lt (mul_pos i g)) ⋯
theorem lH (h:Hf)(p:aS):a9 h p=h.1*(p.1.1*p.2.2)+h.2.1*(p.2.1*p.1.2)-h.2.2*(p.1.2*p.2.2):=by unfold a9;grind
theorem K2 {b f l:Hf}{p:aS}(hb:Nz b)(a:0<p.1.2)(h:0<p.2.2)(m:0<=a9 f p)(i:0<=a9 l p)(o:a9 b p<0)(r:0<bM b f)(d:bM b l<0)
  (hm:(i6 b l).1*(i6 b f).2<(i6 b f).1*(i6 b l).2) :
  0<bM f l/\0<bM l b/\0<f.2.2*bM l b+l.2.2*bM b f+b.2.2*bM f l:=by
 have g:=nE hb;unfold i6 at hm;rw[if_pos d,if_neg ⋯]at hm
 dsimp only at hm;have k1:bM l b=-bM b l:=by unfold bM;grind
 have e:gB b b*(f.2.2*bM l b+l.2.2*bM b f+b.2.2*bM f l)=kq b f*-bM b l+kq b l*bM b f:=by unfold kq bM gB;grind
 have k:0<f.2.2*bM l b+l.2.2*bM b f+b.2.2*bM f l:=by
  refine bR g ?_;rw[e];have:-kq b l*bM b f=-(kq b l*bM b f):=by grind
  ext
 refine⟨?_,⋯,k⟩
 obtain z|z:=lt_or_le 0 (bM f l)
 .exact z
 exfalso;have hz:0<p.1.2*p.2.2:=mul_pos a h;have e:bM l b*a9 f p+bM b f*a9 l p+bM f l*a9 b p=-((f.2.2*bM l b+l.2.2*bM b f+b.2.2*bM f l)*(p.1.2*p.2.2)):=by
  rw[lH,lH,lH];unfold bM;grind
 have q:0<=bM l b*a9 f p:=mul_nonneg ⋯ m
 have q:0<=bM b f*a9 l p:=mul_nonneg ⋯ i
 have q:0<=bM f l*a9 b p:=mul_nonneg_of_nonpos_of_nonpos z (le_of_lt o);have q:0<(f.2.2*bM l b+l.2.2*bM b f+b.2.2*bM f l)*(p.1.2*p.2.2):=mul_pos k hz;ext
def iI (h:Hf):Int:=(h.1.natAbs:Int)+(h.2.1.natAbs:Int)
theorem oi (a:Nz h):0<iI h:=by
 unfold iI
 rcases a with z | z <;> ext
theorem pR {n a x y:Int}(b:0<n)(ha:a<0)(h:n*x=a*y):n*(x.natAbs:Int)=-a*(y.natAbs:Int):=by
 obtain z|z:=lt_or_le y 0
 .have:0<n*x:=by rw[h];exact Int.mul_pos_of_neg_of_neg ha z
  have:=bR b this;rw[show(x.natAbs:Int)=x by ext,show(y.natAbs:Int)=-y by ext,h];grind
 .have:0<=n*-x:=by
   have:n*-x=-a*y:=by rw[mul_neg,h];grind
   rw[this];exact mul_nonneg ⋯ z
  have:=Ex b this;rw[show(x.natAbs:Int)=-x by ext,show(y.natAbs:Int)=y by ext,mul_neg,h];grind
theorem K0 {b o:Hf}{p:aS}(hb:Nz b)(y:Nz o)(m:0<p.1.2)(d:0<p.2.2)(u:0<=a9 o p)(v:a9 b p<0)(c:bM b o=0)(r:0<kq b o) :
  iI b*o.1+iI o*b.1=0/\iI b*o.2.1+iI o*b.2.1=0/\0<iI b*o.2.2+iI o*b.2.2:=by
 have e:=nE hb;have hz:0<p.1.2*p.2.2:=mul_pos m d;have g:gB b b*o.1=gB b o*b.1:=by unfold gB;unfold bM at c;grind
 have i:gB b b*o.2.1=gB b o*b.2.1:=by unfold gB;unfold bM at c;grind
 have neg:gB b o<0:=by
  obtain z|z:=lt_or_le (gB b o) 0
  .exact z
  exfalso;have k:gB b b*a9 o p=gB b o*a9 b p-(p.1.2*p.2.2)*kq b o:=by
   rw[lH,lH];have:gB b b*(o.1*(p.1.1*p.2.2)+o.2.1*(p.2.1*p.1.2)-o.2.2*(p.1.2*p.2.2))=(gB b b*o.1)*(p.1.1*p.2.2)+(gB b b*o.2.1)*(p.2.1*p.1.2)-gB b b*o.2.2*(p.1.2*p.2.2):=by grind
   rw[this,g,i];unfold kq;grind
  have q:0<=gB b b*a9 o p:=mul_nonneg ⋯ u
  have q:gB b o*a9 b p<=0:=mul_nonpos_of_nonneg_of_nonpos z (le_of_lt v);have q:0<(p.1.2*p.2.2)*kq b o:=mul_pos hz r;ext
 have x:=pR e neg g;have q:=pR e neg i;have a:gB b b*iI o=-gB b o*iI b:=by unfold iI;rw[Int.mul_add,x,q,Int.mul_add]
 have q:∀ {t:Int},gB b b*t=0->t=0:=λ{t} h=>by
  obtain z|z:=mul_eq_zero.mp h
  .ext
  .exact z
 refine⟨q ?_,q ?_,bR e ?_⟩
 .have:gB b b*(iI b*o.1+iI o*b.1)=iI b*(gB b b*o.1)+(gB b b*iI o)*b.1:=by grind
  rw[this,g,a];grind
 .have:gB b b*(iI b*o.2.1+iI o*b.2.1)=iI b*(gB b b*o.2.1)+(gB b b*iI o)*b.2.1:=by grind
  rw[this,i,a];grind
 .have:gB b b*(iI b*o.2.2+iI o*b.2.2)=iI b*(gB b b*o.2.2)+(gB b b*iI o)*b.2.2:=by grind
  rw[this,a];have:iI b*(gB b b*o.2.2) + -gB b o*iI b*b.2.2=iI b*kq b o:=by unfold kq;grind
  rw[this];exact mul_pos (oi hb) r
def iK (s t:Fr):Prop:=s.1*t.2<=t.1*s.2
theorem lN (d:0<t.2)(hs:0<s.2)(a:0<u.2)(b:iK s t)(h:iK t u):iK s u:=by
 unfold iK at *;have q:=mul_le_mul_of_nonneg_right b (le_of_lt a);have q:=mul_le_mul_of_nonneg_right h (le_of_lt hs);have:t.2*(s.1*u.2)<=t.2*(u.1*s.2):=by
  have z:t.2*(s.1*u.2)=s.1*t.2*u.2:=by grind
  have z:t.2*(u.1*s.2)=u.1*t.2*s.2:=by grind
  have z:t.1*s.2*u.2=t.1*u.2*s.2:=by grind
  ext
 exact Int.le_of_mul_le_mul_left this d
theorem fQ (c:bM b h≠0):0<(i6 b h).2:=by
 unfold i6;split <;> dsimp only <;> ext
abbrev En:=Option (Fr × Nat)
def ir:En->T
 |none=>.non
 |some (s,p)=>.tup [wu s,.int (p:Int)]
structure mz (b:Hf) (hs:List Hf) (f:En):Prop where
 non:f=none->∀ h∈hs,¬ 0<bM b h
 som:∀ s p,f=some (s,p)->(∃ h,hs[p]?=some h/\0<bM b h/\s=i6 b h)/\∀ h∈hs,0<bM b h->iK (i6 b h) s
structure ny (b:Hf) (hs:List Hf) (f:En):Prop where
 non:f=none->∀ h∈hs,¬ bM b h<0
 som:∀ s p,f=some (s,p)->(∃ h,hs[p]?=some h/\bM b h<0/\s=i6 b h)/\∀ h∈hs,bM b h<0->iK s (i6 b h)
def fy (f l:En):Fr:=match f,l with
 |some (s,_),_=>s
 |none,some (s,_)=>s
 |none,none=>(0,1)
theorem vf (F:mz b hs f)(L:ny b hs l):0<(fy f l).2:=by
 unfold fy
 split
 .obtain⟨⟨h,_,c,rfl⟩,_⟩:=F.som _ _ rfl;exact fQ ⋯
 .obtain⟨⟨h,_,c,rfl⟩,_⟩:=L.som _ _ rfl;exact fQ ⋯
 .decide
theorem vP (hb:Nz b)(F:mz b hs f)(L:ny b hs l)(hm:∀ s p t q,f=some (s,p)->l=some (t,q)->iK s t)(hz:∀ h∈hs,bM b h=0->kq b h<=0) :
  ∀ h∈hs,0<=a9 h (IK b (fy f l)):=by
 intro h hh;have a:=vf F L;refine Jl h hb a ?_
 obtain c|c|c:=Int.lt_trichotomy (bM b h) 0
 .
  have key:iK (fy f l) (i6 b h):=by
   cases l with
   |none=>exact absurd c (L.non rfl h hh)
   |some d=>
    obtain⟨t,q⟩:=d;obtain⟨⟨d,_,d,rfl⟩,g⟩:=L.som _ _ rfl;have d:=g h hh c
    cases f with
    |none=>exact d
    |some u=>
     obtain⟨s,p⟩:=u;have e:=hm s p _ q rfl rfl;exact lN (fQ ⋯) a (fQ ⋯) e d
  unfold iK i6 at key;rw[if_pos c]at key;dsimp only at key;grind
 .rw[c];have:=mul_nonpos_of_nonpos_of_nonneg (hz h hh c) (le_of_lt a);ext
 .have key:iK (i6 b h) (fy f l):=by
   cases f with
   |none=>exact absurd c (F.non rfl h hh)
   |some u=>
    obtain⟨s,p⟩:=u;exact(F.som _ _ rfl).2 h hh c
  unfold iK i6 at key;rw[if_neg ⋯]at key
  dsimp only at key;grind
theorem Aw (hb:Nz b)(hs:0<s.2):0<=a9 b (IK b s):=by
 refine Jl b hb hs ?_;have:bM b b=0:=by unfold bM;grind
 have e:kq b b=0:=by unfold kq;grind
 rw[this,e];ext
theorem cx {α:Type}{f:α->T}{l:List α}{k:Nat}{x:α}{R:S->Prop}(e:l[k]?=some x):atT (l.map f) (k:Int) R=R (.t (f x)):=
 dz (cJ (by rw[getElem?_map,e];rfl))
theorem oM (k n:Nat):bS (k:Int) (n+1)=.int k::bS ((k+1:Nat):Int) n:=by
 unfold bS;rw[range_succ_eq_map,map_cons,map_map]
 congr 1
 .simp;intro a _;ext
theorem ul (e:m=n)(I:Nat->bf->Prop)(v:I 0 a)(o:∀ a,I n a->D.nx a)
  (p:∀ k a,k<n->I k a->g (.int (k:Int)) a λi=>u {nx:=I (k+1),rt:=D.rt,bk:=D.nx,ct:=I (k+1)} i):wq g u (bS 0 m) D a:=by
 subst e;refine⟨λb a=>∃ k j:Nat,b=bS (k:Int) j/\k+j=m/\I k a,⟨0,m,rfl,⋯,v⟩,?_,?_⟩
 .rintro a ⟨k,j,e,b,h⟩
  cases j with
  |zero=>exact o a (by rw[add_zero]at b;rw[<-b];exact h)
  |succ j=>rw[oM]at e;cases e
 .rintro x r a ⟨k,j,e,b,h⟩
  cases j with
  |zero=>cases e
  |succ j=>
   rw[oM]at e;obtain⟨rfl,rfl⟩:=List.cons.inj e;have q:=p k a ⋯ h
   have z:I (k+1)=λa=>∃ b d:Nat,bS ((k+1:Nat):Int) j=bS (b:Int) d/\b+d=m/\I b a:=by
    funext δ'
    refine propext ⟨λhi=>⟨k+1,j,rfl,⋯,hi⟩,?_⟩
    rintro⟨b,d,B,y,hi⟩;have:=congrArg List.length B;rw[gp,gp]at this;have:b=k+1:=⋯
    rw[<-this];exact hi
   show g _ a λi=>u {nx:=λa=>∃ b d:Nat,bS ((k+1:Nat):Int) j=bS (b:Int) d/\b+d=m/\I b a,rt:=D.rt,bk:=D.nx,ct:=λa=>∃ b d:Nat,bS ((k+1:Nat):Int) j=bS (b:Int) d/\b+d=m/\I b a} i;rw[<-z];exact q
structure NB (A B:Prop) (x:Bool):Prop where
 yes:x=true->A
 no:x=false->B
theorem JT (h:A):NB A B true:=⟨λ_=>h,λz=>(by cases z)⟩
theorem yZ (h:B):NB A B false:=⟨λz=>(by cases z),λ_=>h⟩
theorem FA [Decidable p](h:p->A)(g:¬p->B):NB A B (decide p):=⟨λz=>h (of_decide_eq_true z),λz=>g (of_decide_eq_false z)⟩
def cD:aO:=λe R=>∃ (a b c d:Int) (g r:List T),e=[.t (.tup (.int a::.int b::g)),.t (.tup (.int c::.int d::r))]/\Sz 60000 a/\Sz 60000 b/\Sz 60000 c/\Sz 60000 d/\R (.t (.int (a*c+b*d)))
def cj:aO:=λa R=>∃ p q:Hf,a=[.t (bj p),.t (bj q)]/\dy 60000 p/\dy 60000 q/\R (.t (.int (bM p q)))
def iP:aO:=λa R=>∃ b o:Hf,a=[.t (bj b),.t (bj o)]/\dy 20000 b/\dy 20000 o/\R (.t (.int (kq b o)))
def ka:aO:=λa R=>∃ b o:Hf,a=[.t (bj b),.t (bj o)]/\dy 20000 b/\dy 20000 o/\R (.t (wu (i6 b o)))
def hY:aO:=λa R=>∃ (b:Hf) (s:Fr),a=[.t (bj b),.t (wu s)]/\Nz b/\0<s.2/\dy 400 b/\SzF 1500 s/\R (.t (spT (IK b s)))
def l5:aO:=λd R=>∃ (b:Hf) (a:List Hf),d=[.t (bj b),.t (.lst (a.map bj))]/\dy 400 b/\(∀ h∈a,dy 400 h)/\a.length<=1000/\∀ f l,mz b a f->ny b a l->R (.t (.tup [ir f,ir l]))
def NC (b:Hf)(hs:List Hf)(k:Nat):Bool:=match hs[k]? with
 |some h=>decide (bM b h=0) && decide (0<kq b h)
 |none=>false
def Gp (b:Hf)(hs:List Hf):List Nat:=(List.range hs.length).filter (NC b hs)
def ur (k:Nat):T:=.int (k:Int)
def o0:aO:=λd R=>∃ (b:Hf) (a:List Hf),d=[.t (bj b),.t (.lst (a.map bj))]/\dy 400 b/\(∀ h∈a,dy 400 h)/\a.length<=1000/\R (.ol ((Gp b a).map ur))
def JC (s t:Fr):Prop:=s.1*t.2<t.1*s.2
def Qb (n:Nat)(f:En):Prop:=∀ s p,f=some (s,p)->SzF n s
def o3:aO:=λd R=>∃ (b:Hf) (a:List Hf) (f l:En),d=[.t (bj b),.t (.lst (a.map bj)),.t (.tup [ir f,ir l])]/\dy 400 b/\(∀ h∈a,dy 400 h)/\a.length<=1000/\Qb 1500 f/\Qb 1500 l ∧
 (∀ s (p:Nat) t (q:Nat),f=some (s,p)->l=some (t,q)->JC t s->R (.ol [.int (p:Int),.int (q:Int)])) ∧
 ((∀ s (p:Nat) t (q:Nat),f=some (s,p)->l=some (t,q)->¬ JC t s)->(∀ (i:Nat) h,a[i]?=some h->bM b h=0->0<kq b h->R (.ol [.int (i:Int)]))/\((∀ h∈a,bM b h=0->kq b h<=0)->R (.ol [])))
def eU:aO:=λa R=>∃ (b:Hf) (f l:En),a=[.t (bj b),.t (.tup [ir f,ir l])]/\Nz b/\dy 400 b/\0<(fy f l).2/\SzF 1500 (fy f l)/\R (.t (spT (IK b (fy f l))))
def hW:aO:=λb R=>∃ a:List Int,b=[.t (.lst (a.map .int))]/\a≠[]/\a.length<=1000/\(∀ w∈a,0<w/\Sz 5000 w)/\∀ (g:Int) (v:List Int),0<g->v.map (·*g)=a->R (.ol (v.map .int))
def fZ:aO:=λa R=>(∃ p q:Hf,a=[.t (.lst ([p,q].map bj))]/\Nz p/\Nz q/\dy 400 p/\dy 400 q/\∀ g u v:Int,0<g->u*g=iI q->v*g=iI p->R (.ol [.int u,.int v])) ∨
 (∃ p q r:Hf,a=[.t (.lst ([p,q,r].map bj))]/\dy 400 p/\dy 400 q/\dy 400 r/\bM q r≠0/\bM r p≠0/\bM p q≠0/\∀ g u v w:Int,0<g->u*g=(bM q r).natAbs->v*g=(bM r p).natAbs->w*g=(bM p q).natAbs->R (.ol [.int u,.int v,.int w]))
def Ka (p q:Hf)(u v:Int):Prop:=u*p.1+v*q.1=0/\u*p.2.1+v*q.2.1=0/\0<u*p.2.2+v*q.2.2
def Kb (p q r:Hf)(u v w:Int):Prop:=u*p.1+v*q.1+w*r.1=0/\u*p.2.1+v*q.2.1+w*r.2.1=0/\0<u*p.2.2+v*q.2.2+w*r.2.2
inductive zd (hs:List Hf):List Nat->List Int->Prop
 |two (i j:Nat) (p q:Hf) (u v:Int):i<j->hs[i]?=some p->hs[j]?=some q->0<u->0<v->Ka p q u v->zd hs [i,j] [u,v]
 |three (i j k:Nat) (p q r:Hf) (u v w:Int):i<j->j<k->hs[i]?=some p->hs[j]?=some q->hs[k]?=some r->0<u->0<v->0<w->Kb p q r u v w->zd hs [i,j,k] [u,v,w]
def mo (pl:List Nat) (a:List Int):T:=.tup [.str "none",.lst (pl.map ur),.lst (a.map .int)]
def fx:aO:=λb R=>∃ (a:List Hf) (pl:List Nat),b=[.t (.lst (a.map bj)),.t (.lst (pl.map ur))]/\(∀ h∈a,dy 400 h/\Nz h) ∧
 ((∃ (i j:Nat) (p q:Hf),pl=[i,j]/\a[i]?=some p/\a[j]?=some q/\∀ g u v:Int,0<g->u*g=iI q->v*g=iI p->R (.t (mo [i,j] [u,v]))) ∨
 (∃ (i j k:Nat) (p q r:Hf),pl=[i,j,k]/\a[i]?=some p/\a[j]?=some q/\a[k]?=some r/\bM q r≠0/\bM r p≠0/\bM p q≠0/\∀ g u v w:Int,0<g->u*g=(bM q r).natAbs->v*g=(bM r p).natAbs->w*g=(bM p q).natAbs->R (.t (mo [i,j,k] [u,v,w]))))
def fe:aO:=λb R=>∃ a:List Hf,b=[.t (.lst (a.map bj))]/\(∀ h∈a,dy 400 h/\Nz h)/\a.length<=1000 ∧
 (∀ s:aS,Nw s->eW 5000 s->(∀ h∈a,0<=a9 h s)->R (.t (.tup [.str "spot",spT s])))/\∀ pl b,zd a pl b->(∀ w∈b,Sz 5000 w)->R (.t (mo pl b))
def mW:WS:=
 (bh (eM (bG (av aU (af 0) (wC (.int 0))) (av aU (af 1) (wC (.int 0)))) (bG (av aU (af 0) (wC (.int 1))) (av aU (af 1) (wC (.int 1))))))
def lg:WS:=
 (bh (dR (bG (av aU (af 0) (wC (.int 0))) (av aU (af 1) (wC (.int 1)))) (bG (av aU (af 0) (wC (.int 1))) (av aU (af 1) (wC (.int 0))))))
def mY:WS:=
 (bh (dR (bG (av aU (af 1) (wC (.int 2))) (ax cD (ae (af 0) (ae (af 0) ap)))) (bG (ax cD (ae (af 0) (ae (af 1) ap))) (av aU (af 0) (wC (.int 2))))))
def ju:WS:=
 (aG (aP 2 (ax iP (ae (af 0) (ae (af 1) ap))))
 (aG (aP 3 (ax cj (ae (af 0) (ae (af 1) ap))))
 (aG (f5 (wB (y9 (af 3) (wC (.int 0)))) (bh (cF (ae (tN gI (af 2)) (ae (tN gI (af 3)) ap)))) br)
 (bh (cF (ae (af 2) (ae (af 3) ap)))))))
def jv:WS:=
 (aG (aP 2 (bG (ax cD (ae (af 0) (ae (af 0) ap))) (av aU (af 1) (wC (.int 1)))))
 (aG (aP 3 (dR (bG (bG (av aU (af 0) (wC (.int 0))) (av aU (af 0) (wC (.int 2)))) (av aU (af 1) (wC (.int 1)))) (bG (av aU (af 0) (wC (.int 1))) (av aU (af 1) (wC (.int 0))))))
 (aG (aP 4 (eM (bG (bG (av aU (af 0) (wC (.int 1))) (av aU (af 0) (wC (.int 2)))) (av aU (af 1) (wC (.int 1)))) (bG (av aU (af 0) (wC (.int 0))) (av aU (af 1) (wC (.int 0))))))
 (bh (cF (ae (ax gu (ae (af 3) (ae (af 2) ap))) (ae (ax gu (ae (af 4) (ae (af 2) ap))) ap)))))))
def ll:WS:=
 (aG (aP 2 (wC .non))
 (aG (aP 3 (wC .non))
 (cq (h7 (dN (ae (dP cL (ae (af 1) ap)) ap)) (aQ 4) (aG (aP 5 (ax cj (ae (af 0) (ae (av aU (af 1) (af 4)) ap))))
 (aG (aP 6 (ax ka (ae (af 0) (ae (av aU (af 1) (af 4)) ap))))
 (cq (f5 (FQ (iW (wB (AQ (af 5) (wC (.int 0)))) (AR (wB (FF (af 2))) (wB (ax dL (ae (av aU (af 2) (wC (.int 0))) (ae (af 6) ap))))))) (aP 2 (cF (ae (af 6) (ae (af 4) ap)))) br)
 (f5 (FQ (iW (wB (y9 (af 5) (wC (.int 0)))) (AR (wB (FF (af 3))) (wB (ax dL (ae (af 6) (ae (av aU (af 3) (wC (.int 0))) ap))))))) (aP 3 (cF (ae (af 6) (ae (af 4) ap)))) br)))))
 (bh (cF (ae (af 2) (ae (af 3) ap)))))))
def mX:WS:=
 (bh (dm 1 [0,1] (dN (ae (dP cL (ae (af 1) ap)) ap)) (aQ 0) (iW (wB (tD (ax cj (ae (af 1) (ae (av aU (af 2) (af 0)) ap))) (wC (.int 0)))) (wB (AQ (ax iP (ae (af 1) (ae (av aU (af 2) (af 0)) ap))) (wC (.int 0))))) (af 0)))
def nh:WS:=
 (aG (f5 (FQ (iW (wB (qK (av aU (af 2) (wC (.int 0))))) (iW (wB (qK (av aU (af 2) (wC (.int 1))))) (wB (ax dL (ae (av aU (av aU (af 2) (wC (.int 1))) (wC (.int 0))) (ae (av aU (av aU (af 2) (wC (.int 0))) (wC (.int 0))) ap))))))) (bh (jC (ae (av aU (av aU (af 2) (wC (.int 0))) (wC (.int 1))) (ae (av aU (av aU (af 2) (wC (.int 1))) (wC (.int 1))) ap)))) br)
 (bh (i0 (ax o0 (ae (af 0) (ae (af 1) ap))) iZ (mu (wC (.int 1))))))
def dM:WS:=
 (cq (h7 (FJ (af 1)) (aQ 2) (f5 (wB (qK (af 2))) (bh (ax hY (ae (af 0) (ae (av aU (af 2) (wC (.int 0))) ap)))) br))
 (bh (ax hY (ae (af 0) (ae (cF (ae (wC (.int 0)) (ae (wC (.int 1)) ap))) ap)))))
def js:WS:=
 (aG (aP 1 (wC (.int 0)))
 (cq (h7 (bT (af 0)) (aQ 2) (aP 1 (ax cQ (ae (af 1) (ae (af 2) ap)))))
 (bh (dm 1 [1] (bT (af 0)) (aQ 0) kg (iX (af 0) (af 1))))))
def cW:WS:=
 (aG (aP 1 (av aU (af 0) (wC (.int 0))))
 (aG (aP 2 (av aU (af 0) (wC (.int 1))))
 (aG (f5 (wB (tD (dP cL (ae (af 0) ap)) (wC (.int 2)))) (bh (ax hW (ae (jC (ae (eM (dP jA (ae (av aU (af 2) (wC (.int 0))) ap)) (dP jA (ae (av aU (af 2) (wC (.int 1))) ap))) (ae (eM (dP jA (ae (av aU (af 1) (wC (.int 0))) ap)) (dP jA (ae (av aU (af 1) (wC (.int 1))) ap))) ap))) ap))) br)
 (aG (aP 3 (av aU (af 0) (wC (.int 2))))
 (bh (ax hW (ae (jC (ae (dP jA (ae (ax cj (ae (af 2) (ae (af 3) ap))) ap)) (ae (dP jA (ae (ax cj (ae (af 3) (ae (af 1) ap))) ap)) (ae (dP jA (ae (ax cj (ae (af 1) (ae (af 2) ap))) ap)) ap)))) ap)))))))
def cE:WS:=
 (bh (cF (ae (wC (.str "none")) (ae (af 1) (ae (ax fZ (ae (dm 1 [0] (bT (af 1)) (aQ 0) kg (av aU (af 1) (af 0))) ap)) ap)))))
def lq:WS:=
 (aG (aP 1 (cF (ae (cF (ae (wC (.int 0)) (ae (wC (.int 1)) ap))) (ae (cF (ae (wC (.int 0)) (ae (wC (.int 1)) ap))) ap))))
 (cq (h7 (dN (ae (dP cL (ae (af 0) ap)) ap)) (aQ 2) (aG (aP 3 (av aU (af 0) (af 2)))
 (f5 (wB (y9 (ax hX (ae (af 3) (ae (af 1) ap))) (wC (.int 0)))) (aG (aP 4 (i0 (af 0) iZ (mu (af 2))))
 (aG (aP 5 (ax l5 (ae (af 3) (ae (af 4) ap))))
 (aG (aP 6 (ax o3 (ae (af 3) (ae (af 4) (ae (af 5) ap)))))
 (aG (f5 (wB (AQ (dP cL (ae (af 6) ap)) (wC (.int 0)))) (bh (ax fx (ae (af 0) (ae (dP nZ (ae (av zO (af 6) (jC (ae (af 2) ap))) ap)) ap)))) br)
 (aP 1 (ax eU (ae (af 3) (ae (af 5) ap)))))))) br)))
 (bh (cF (ae (wC (.str "spot")) (ae (af 1) ap))))))
theorem EG:∀ e R,cD e R->mW {nx:=λ_=>R (.t .non),rt:=R} (aD ["one","other"] e):=by
 rintro e R ⟨a,b,c,d,r,g,rfl,sa,sb,i,e,h⟩;show mW _ [some (.t (.tup (.int a::.int b::r))),some (.t (.tup (.int c::.int d::g)))]
 delta mW
 symm;exact⟨bL sa i ⋯ ⋯,bL sb e ⋯ ⋯,h⟩
theorem Am:∀ a R,cj a R->lg {nx:=λ_=>R (.t .non),rt:=R} (aD ["one","other"] a):=by
 rintro a R ⟨p,q,rfl,⟨a,d,b⟩,⟨b,e,g⟩,h⟩;show lg _ [some (.t (bj p)),some (.t (bj q))]
 delta lg
 symm;exact⟨bL a e ⋯ ⋯,bL d b ⋯ ⋯,h⟩
theorem nF (h:dy n p)(a:dy n q):Sz (n+n+1) (gB p q):=by
 have:=Sz.add (Sz.mul h.1 a.1) (Sz.mul h.2.1 a.2.1);exact this.mono ⋯
theorem iA (h:dy n p)(a:dy n q):Sz (n+n+1) (bM p q):=by
 have:=Sz.sub (Sz.mul h.1 a.2.1) (Sz.mul h.2.1 a.1);exact this.mono ⋯
theorem Jg (h:dy n p)(a:dy n q):Sz (n+n+n+2) (kq p q):=by
 have:=Sz.sub (Sz.mul a.2.2 (nF h h)) (Sz.mul (nF h a) h.2.2);exact this.mono ⋯
theorem DC (h:dy n p)(a:dy n q):SzF (n+n+n+2) (i6 p q):=by
 unfold i6
 split
 .exact⟨(Jg h a).neg,(iA h a).neg.mono ⋯⟩
 .exact⟨Jg h a,(iA h a).mono ⋯⟩
theorem bu (h:dy m p)(l:m<=n):dy n p:=⟨h.1.mono l,h.2.1.mono l,h.2.2.mono l⟩
theorem eJ (h:SzF m p)(l:m<=n):SzF n p:=⟨h.1.mono l,h.2.mono l⟩
theorem EI:∀ e R,iP e R->mY {nx:=λ_=>R (.t .non),rt:=R} (aD ["border","other"] e):=by
 rintro e R ⟨b,o,rfl,sb,e,h⟩;have a:=bu (n:=60000) sb ⋯
 have d:=bu (n:=60000) e ⋯
 show mY _ [some (.t (bj b)),some (.t (bj o))]
 delta mY
 symm;refine⟨_,_,_,_,_,_,rfl,a.1,a.2.1,a.1,a.2.1,?_⟩;symm;refine⟨bL e.2.2 (nF sb sb) ⋯ ⋯,_,_,_,_,_,_,rfl,a.1,a.2.1,d.1,d.2.1,?_⟩
 symm;exact⟨bL (nF sb e) sb.2.2 ⋯ ⋯,h⟩
theorem wZ:∀ d R,ka d R->ju {nx:=λ_=>R (.t .non),rt:=R} (aD ["border","other","top","bottom"] d):=by
 rintro d R ⟨b,o,rfl,sb,g,h⟩;have a:=bu (n:=60000) sb ⋯
 have e:=bu (n:=60000) g ⋯
 show ju _ [some (.t (bj b)),some (.t (bj o)),none,none]
 delta ju
 symm;refine⟨b,o,rfl,sb,g,?_⟩;symm;refine⟨b,o,rfl,a,e,?_⟩;symm;unfold i6 at h
 split
 .rename_i c;rw[if_pos c]at h;exact h
 .rename_i c;rw[if_neg c]at h;exact h
theorem w4:∀ e R,hY e R->jv {nx:=λ_=>R (.t .non),rt:=R} (aD ["border","step","bottom","x","y"] e):=by
 rintro e R ⟨b,s,rfl,hb,e,sb,⟨g,d⟩,h⟩;have a:=bu (n:=60000) sb ⋯
 have i:0<yU b s:=mul_pos (nE hb) e;have e:Sz 9000 (yU b s):=(Sz.mul (nF sb sb) d).mono ⋯
 show jv _ [some (.t (bj b)),some (.t (wu s)),none,none,none]
 delta jv
 symm;refine⟨_,_,_,_,_,_,rfl,a.1,a.2.1,a.1,a.2.1,?_⟩;symm;refine⟨bL (nF sb sb) d ⋯ ⋯,bL sb.1 sb.2.2 ⋯ ⋯,bL (Sz.mul sb.1 sb.2.2) d ⋯ ⋯,bL sb.2.1 g ⋯ ⋯,bL sb.2.1 sb.2.2 ⋯ ⋯,bL (Sz.mul sb.2.1 sb.2.2) d ⋯ ⋯,bL sb.1 g ⋯ ⋯,_,_,rfl,by show yU b s≠0;ext,e,?_⟩
 symm;refine⟨_,_,rfl,by show yU b s≠0;ext,e,?_⟩
 symm;exact h
theorem uI (s:Fr):iK s s:=Int.le_refl _
theorem Dt (b:Hf):mz b [] none:=⟨λ_ h hh=>(by cases hh),λs p e=>(by cases e)⟩
theorem Dv (b:Hf):ny b [] none:=⟨λ_ h hh=>(by cases hh),λs p e=>(by cases e)⟩
theorem ya {α:Type}{l:List α}{x y:α}{p:Nat}(h:l[p]?=some y):(l++[x])[p]?=some y:=by
 have:p<l.length:=by rw[List.getElem?_eq_some_iff]at h;exact h.1
 rw[getElem?_append_left this];exact h
theorem Ad {b h:Hf}{pre:List Hf}{f:En}(F:mz b pre f)(c:0<bM b h->∃ s p,f=some (s,p)/\iK (i6 b h) s):mz b (pre++[h]) f:=by
 refine⟨λe x a=>?_,λs p e=>?_⟩
 .rcases mem_append.mp a with z|z
  .exact F.non e x z
  .simp at z;subst z;intro d;obtain⟨s,p,a,_⟩:=c d;rw[e]at a;cases a
 .obtain⟨⟨x,d,i⟩,g⟩:=F.som s p e;refine⟨⟨x,ya d,i⟩,λy i d=>?_⟩
  obtain z|z:=mem_append.mp i
  .exact g y z d
  .simp at z;subst z;obtain⟨i,i,a,q⟩:=c d;rw[e]at a;cases a
   exact q
theorem Ds (F:mz b pre f)(c:0<bM b h)(lt:∀ s p,f=some (s,p)->iK s (i6 b h)):mz b (pre++[h]) (some (i6 b h,pre.length)):=by
 refine⟨λe=>(by cases e),λs p e=>?_⟩
 cases e
 refine⟨⟨h,by simp,c,rfl⟩,λy d a=>?_⟩
 obtain z|z:=mem_append.mp d
 .cases f with
  |none=>exact absurd a (F.non rfl y z)
  |some u=>
   obtain⟨s,p⟩:=u;obtain⟨⟨x,_,d,rfl⟩,g⟩:=F.som _ _ rfl;exact lN (fQ ⋯) (fQ ⋯) (fQ ⋯) (g y z a) (lt _ _ rfl)
 .simp at z;subst z;exact uI _
theorem Ae {b h:Hf}{pre:List Hf}{f:En}(F:ny b pre f)(c:bM b h<0->∃ s p,f=some (s,p)/\iK s (i6 b h)):ny b (pre++[h]) f:=by
 refine⟨λe x a=>?_,λs p e=>?_⟩
 .rcases mem_append.mp a with z|z
  .exact F.non e x z
  .simp at z;subst z;intro d;obtain⟨s,p,a,_⟩:=c d;rw[e]at a;cases a
 .obtain⟨⟨x,d,i⟩,g⟩:=F.som s p e;refine⟨⟨x,ya d,i⟩,λy i d=>?_⟩
  obtain z|z:=mem_append.mp i
  .exact g y z d
  .simp at z;subst z;obtain⟨i,i,a,q⟩:=c d;rw[e]at a;cases a
   exact q
theorem Du (F:ny b pre f)(c:bM b h<0)(lt:∀ s p,f=some (s,p)->iK (i6 b h) s):ny b (pre++[h]) (some (i6 b h,pre.length)):=by
 refine⟨λe=>(by cases e),λs p e=>?_⟩
 cases e
 refine⟨⟨h,by simp,c,rfl⟩,λy d a=>?_⟩
 obtain z|z:=mem_append.mp d
 .cases f with
  |none=>exact absurd a (F.non rfl y z)
  |some u=>
   obtain⟨s,p⟩:=u;obtain⟨⟨x,_,d,rfl⟩,g⟩:=F.som _ _ rfl;exact lN (fQ ⋯) (fQ ⋯) (fQ ⋯) (lt _ _ rfl) (g y z a)
 .simp at z;subst z;exact uI _
theorem wA (sb:dy 400 b)(sh:∀ h∈hs,dy 400 h)(F:mz b hs f):Qb 1500 f:=λs p e=>by
 obtain⟨⟨x,a,_,rfl⟩,_⟩:=F.som s p e;exact eJ (DC sb (sh x (mem_of_getElem? a))) ⋯
theorem sB (sb:dy 400 b)(sh:∀ h∈hs,dy 400 h)(F:ny b hs f):Qb 1500 f:=λs p e=>by
 obtain⟨⟨x,a,_,rfl⟩,_⟩:=F.som s p e;exact eJ (DC sb (sh x (mem_of_getElem? a))) ⋯
theorem fg {α:Type}{l:List α}{k:Nat}{x:α}(e:l[k]?=some x):l.take (k+1)=l.take k++[x]:=by
 rw[List.take_succ,e];rfl
theorem Ap:∀ H R,l5 H R->ll {nx:=λ_=>R (.t .non),rt:=R} (aD ["border","halves","first","last","place","facing","step"] H):=by
 rintro H R ⟨b,a,rfl,sb,sh,Z,h⟩;have v:=bu (n:=60000) sb ⋯
 have B:=bu (n:=20000) sb ⋯
 show ll _ [some (.t (bj b)),some (.t (.lst (a.map bj))),none,none,none,none,none]
 delta ll
 symm
 let I (k:Nat):bf->Prop:=λd=>∃ (f l:En) (r u J:Option S),d=[some (.t (bj b)),some (.t (.lst (a.map bj))),some (.t (ir f)),some (.t (ir l)),r,u,J]/\mz b (a.take k) f/\ny b (a.take k) l
 refine⟨I a.length,⟨ij ⋯ (by rw[length_map];ext),ul (n:=a.length) (by rw[length_map,toNat_natCast]) I ⟨none,none,_,_,_,rfl,Dt b,Dv b⟩ (λ_ z=>z) ?_⟩,?_⟩
 .rintro k d Y ⟨f,l,r,u,J,rfl,F,L⟩;have e:a[k]?=some a[k]:=List.getElem?_eq_getElem Y;have O:(a.take k).length=k:=by rw[length_take];ext
  generalize a[k]=h at e;have o:=sh h (mem_of_getElem? e);have M:=DC sb o;have U:=wA sb (λx C=>sh x (mem_of_mem_take C)) F;have X:=sB sb (λx C=>sh x (mem_of_mem_take C)) L;symm;rw[cx e];symm;refine⟨b,h,rfl,v,bu o ⋯,?_⟩
  symm;rw[cx e];symm;refine⟨b,h,rfl,B,bu o ⋯,?_⟩
  symm;refine⟨λd=>∃ i:En,d=[some (.t (bj b)),some (.t (.lst (a.map bj))),some (.t (ir i)),some (.t (ir l)),some (.t (.int k)),some (.t (.int (bM b h))),some (.t (wu (i6 b h)))]/\mz b (a.take (k+1)) i,?_,?_⟩
  .symm;refine⟨NB (0<bM b h/\∀ s p,f=some (s,p)->JC s (i6 b h)) (0<bM b h->∃ s p,f=some (s,p)/\¬ JC s (i6 b h)),?_,?_⟩
   .symm
    split
    .rename_i c
     obtain _|⟨s,p⟩:=f
     .unfold ir;symm;exact JT ⟨c,λ_ _ z=>by cases z⟩
     .unfold ir;symm;refine⟨s,i6 b h,rfl,eJ (U s p rfl) ⋯,eJ M ⋯,?_⟩
      symm;exact FA (λz=>⟨c,λW Q q=>by cases q;exact z⟩) λz _=>⟨s,p,rfl,z⟩
    .rename_i c;exact yZ λz=>absurd z c
   rintro x ⟨y,E⟩
   cases x with
   |true=>
    obtain⟨c,g⟩:=y rfl;symm;refine⟨some (i6 b h,k),rfl,?_⟩;rw[fg e];have:=Ds (h:=h) F c λs p q=>le_of_lt (g s p q);rw[O]at this;exact this
   |false=>
    symm;refine⟨f,rfl,?_⟩;rw[fg e];refine Ad F λc=>?_;obtain⟨s,p,m,D⟩:=E rfl c;exact⟨s,p,m,Int.not_lt.mp D⟩
  .rintro d ⟨i,rfl,P⟩;symm;refine⟨NB (bM b h<0/\∀ s p,l=some (s,p)->JC (i6 b h) s) (bM b h<0->∃ s p,l=some (s,p)/\¬ JC (i6 b h) s),?_,?_⟩
   .symm
    split
    .rename_i c
     obtain _|⟨s,p⟩:=l
     .unfold ir;symm;exact JT ⟨c,λ_ _ z=>by cases z⟩
     .unfold ir;symm;refine⟨i6 b h,s,rfl,eJ M ⋯,eJ (X s p rfl) ⋯,?_⟩
      symm;exact FA (λz=>⟨c,λW Q q=>by cases q;exact z⟩) λz _=>⟨s,p,rfl,z⟩
    .rename_i c;exact yZ λz=>absurd z c
   rintro x ⟨y,E⟩
   cases x with
   |true=>
    obtain⟨c,g⟩:=y rfl;symm;refine⟨i,some (i6 b h,k),_,_,_,rfl,P,?_⟩;rw[fg e];have:=Du (h:=h) L c λs p q=>le_of_lt (g s p q);rw[O]at this;exact this
   |false=>
    symm;refine⟨i,l,_,_,_,rfl,P,?_⟩;rw[fg e];refine Ae L λc=>?_;obtain⟨s,p,m,D⟩:=E rfl c;exact⟨s,p,m,Int.not_lt.mp D⟩
 .rintro d ⟨f,l,r,u,J,rfl,F,L⟩;rw[List.take_length]at F L;symm;exact h f l F L
theorem Gq (h:k∈Gp b hs):∃ x,hs[k]?=some x/\bM b x=0/\0<kq b x:=by
 unfold Gp at h;have:=(mem_filter.mp h).2;unfold NC at this
 split at this
 .rename_i x a;simp at this;exact⟨x,a,this.1,this.2⟩
 .cases this
theorem Gr (h:Gp b hs=[]):∀ x∈hs,bM b x=0->kq b x<=0:=by
 intro x d c;obtain⟨k,a,rfl⟩:=getElem_of_mem d
 obtain z|z:=lt_or_le 0 (kq b hs[k])
 .exfalso;have:k∈Gp b hs:=by
   unfold Gp;refine mem_filter.mpr ⟨mem_range.mpr a,?_⟩;unfold NC;rw[List.getElem?_eq_getElem a];simp[c,z]
  rw[h]at this;cases this
 .exact z
theorem EH:∀ i R,o0 i R->mX {nx:=λ_=>R (.t .non),rt:=R} (aD ["border","halves"] i):=by
 rintro i R ⟨b,a,rfl,sb,sh,v,h⟩;show mX _ [some (.t (bj b)),some (.t (.lst (a.map bj)))]
 delta mX
 symm;refine⟨ij ⋯ (by rw[length_map];ext),?_⟩
 rw[length_map,toNat_natCast];refine eC (f:=λk:Nat=>.int (0+(k:Int))) (h:=ur) (p:=NC b a) (l:=List.range a.length) (λo=>∃ r,o=[r,some (.t (bj b)),some (.t (.lst (a.map bj)))]) (λ_ _=>rfl) (by rw[length_range];ext) ⟨_,rfl⟩ ?_ ?_
 .rintro k q o ⟨r,rfl⟩ Y N y u;have e:a[k]?=some (a[k]'(mem_range.mp q)):=List.getElem?_eq_getElem _;generalize a[k]'(mem_range.mp q)=x at e;have m:=sh x (mem_of_getElem? e);have g:NC b a k=(decide (bM b x=0) && decide (0<kq b x)):=by unfold NC;rw[e]
  rw[Int.zero_add];symm;rw[cx e];symm;refine⟨b,x,rfl,bu sb ⋯,bu m ⋯,?_⟩
  symm
  split
  .rename_i c;rw[cx e];symm;refine⟨b,x,rfl,bu sb ⋯,bu m ⋯,?_⟩
   symm
   split
   .rename_i d;exact y _ ⟨_,rfl⟩ (by rw[g];simp[c,d])
   .rename_i d;exact u _ ⟨_,rfl⟩ (by rw[g];simp[d])
  .rename_i c;exact u _ ⟨_,rfl⟩ (by rw[g];simp[c])
 .exact h
theorem BG (l:List α)(k:Nat):iz (l.map f) none (some (k:Int))=(l.take k).map f:=by
 unfold iz;rw[HT.sIx_nat,HT.sIx_none,List.drop_zero,Nat.sub_zero,length_map,map_take]
 obtain z|z:=Nat.le_total k l.length
 .rw[Nat.min_eq_left z]
 .rw[Nat.min_eq_right z,take_of_length_le (by simp),take_of_length_le (by simpa using z)]
theorem EL:∀ g R,o3 g R->nh {nx:=λ_=>R (.t .non),rt:=R} (aD ["border","halves","ends"] g):=by
 rintro g R ⟨b,h,f,l,rfl,sb,sh,g,a,d,i,o⟩;show nh _ [some (.t (bj b)),some (.t (.lst (h.map bj))),some (.t (.tup [ir f,ir l]))]
 delta nh
 symm;refine⟨NB (∃ s p t q,f=some (s,p)/\l=some (t,q)/\JC t s) (∀ s p t q,f=some (s,p)->l=some (t,q)->¬ JC t s),?_,?_⟩
 .rcases f with _|⟨s,p⟩
  .unfold ir;symm;exact yZ λs p t q z=>by cases z
  .rcases l with _|⟨t,q⟩
   .unfold ir;symm;exact yZ λs p t q _ z=>by cases z
   .unfold ir;symm;refine⟨t,s,rfl,eJ (d t q rfl) ⋯,eJ (a s p rfl) ⋯,?_⟩
    symm;refine FA (λz=>⟨s,p,t,q,rfl,rfl,z⟩) λz a a a a d a=>?_
    cases d;cases a
    exact z
 .rintro x ⟨m,u⟩
  cases x with
  |true=>
   obtain⟨s,p,t,q,rfl,rfl,lt⟩:=m rfl;unfold ir;symm;exact i s p t q rfl rfl lt
  |false=>
   have m:=u rfl;obtain⟨i,u⟩:=o m;symm;refine⟨b,h,rfl,sb,sh,g,?_⟩;dsimp only;rw[show got (.ol ((Gp b h).map ur))=.ol ((Gp b h).map ur) from if_pos (bp (λ_=>rfl) _)];symm;rw[show(1:Int)=((1:Nat):Int) from rfl,BG]
   cases e:Gp b h with
   |nil=>
    exact u (Gr e)
   |cons k r=>
    obtain⟨x,d,a,g⟩:=Gq (b:=b) (hs:=h) (k:=k) (by rw[e];simp)
    exact i k x d a g
theorem mD:∀ e R,eU e R->dM {nx:=λ_=>R (.t .non),rt:=R} (aD ["border","ends","end"] e):=by
 rintro e R ⟨b,f,l,rfl,hb,sb,d,a,h⟩;show dM _ [some (.t (bj b)),some (.t (.tup [ir f,ir l])),none]
 delta dM
 symm;refine⟨λe=>e=[some (.t (bj b)),some (.t (.tup [.non,.non])),some (.t .non)]/\f=none/\l=none,G3 ?_,?_⟩
 .unfold wt wt wt
  obtain _|⟨s,p⟩:=f
  .rcases l with _|⟨t,q⟩
   .unfold ir;symm
   .unfold ir;symm;refine⟨b,t,rfl,hb,d,sb,a,?_⟩;symm;exact h
  .unfold ir;symm;refine⟨b,s,rfl,hb,d,sb,a,?_⟩;symm;exact h
 .rintro e ⟨rfl,rfl,rfl⟩;symm;refine⟨b,(0,1),rfl,hb,d,sb,a,?_⟩;symm;exact h
theorem wX:∀ u R,hW u R->js {nx:=λ_=>R (.t .non),rt:=R} (aD ["weights","common","weight"] u):=by
 rintro u R ⟨d,rfl,m,g,k,h⟩;show js _ [some (.t (.lst (d.map .int))),none,none]
 delta js
 symm;refine⟨λg=>∃ (c:Int) (r:Option S),g=[some (.t (.lst (d.map .int))),some (.t (.int c)),r]/\0<c/\∀ w∈d,c ∣ w,⟨λi g=>∃ (pre p:List Int) (c:Int) (r:Option S),d=pre++p/\i=p.map .int/\g=[some (.t (.lst (d.map .int))),some (.t (.int c)),r]/\(pre≠[]->0<c)/\∀ w∈pre,c ∣ w,⟨[],d,0,none,rfl,rfl,rfl,λz=>absurd rfl z,λw k=>(by cases k)⟩,?_,?_⟩,?_⟩
 .rintro g ⟨pre,p,c,r,e,i,rfl,u,o⟩
  cases p with
  |cons a b=>cases i
  |nil=>
   rw[append_nil]at e;subst e;exact⟨c,r,rfl,u m,o⟩
 .rintro x r g ⟨pre,p,c,q,e,i,rfl,u,o⟩
  cases p with
  |nil=>cases i
  |cons a b=>
   obtain⟨rfl,rfl⟩:=List.cons.inj i;symm;refine⟨_,_,rfl,?_⟩;symm;have ha:a∈d:=by rw[e];simp
   refine⟨pre++[a],b,_,_,by rw[e];simp,rfl,rfl,λ_=>?_,λw hm=>?_⟩
   .have:=gK (a:=c) (b:=a) (.inr (by have:=(k a ha).1;ext))
    ext
   .rcases mem_append.mp hm with z|z
    .exact Int.dvd_trans (gcd_dvd_left _ _) (o w z)
    .simp at z;subst z;exact gcd_dvd_right _ _
 .rintro g ⟨c,r,rfl,i,hd⟩;symm;refine eD (f:=T.int) (h:=λw=>.int (w.fdiv c)) (l:=d) (λg=>∃ r,g=[r,some (.t (.int c))]) (λ_ _=>rfl) ⋯ ⟨_,rfl⟩ ?_ ?_
  .rintro w hm g ⟨r,rfl⟩ Y y;symm;exact⟨Ld ⋯ (k w hm).2 ⋯,y _ ⟨_,rfl⟩⟩
  .have e:d.map (λw=>T.int (w.fdiv c))=(d.map λw=>w.fdiv c).map .int:=by rw[map_map];rfl
   rw[e];refine h c _ i ?_;rw[map_map]
   conv=>rhs;rw[<-List.map_id d]
   exact map_congr_left λw hm=>cM (hd w hm)
theorem yo (s:dy 400 h):Sz 5000 (iI h):=by
 have a:Sz 400 (h.1.natAbs:Int):=⟨by have:=s.1.lt;ext⟩
 have b:Sz 400 (h.2.1.natAbs:Int):=⟨by have:=s.2.1.lt;ext⟩
 exact(Sz.add a b).mono ⋯
theorem gA (s:Sz n i):Sz n (i.natAbs:Int):=⟨by have:=s.lt;ext⟩
theorem Nd {vs:List Int}{g a b:Int}(h:vs.map (·*g)=[a,b]):∃ u v,vs=[u,v]/\u*g=a/\v*g=b:=by
 match vs,h with
 | [u,v],h=>simp at h;exact⟨u,v,rfl,h.1,h.2⟩
theorem Fy {vs:List Int}{g a b c:Int}(h:vs.map (·*g)=[a,b,c]):∃ u v w,vs=[u,v,w]/\u*g=a/\v*g=b/\w*g=c:=by
 match vs,h with
 | [u,v,w],h=>simp at h;exact⟨u,v,w,rfl,h.1,h.2.1,h.2.2⟩
theorem pO:∀ x R,fZ x R->cW {nx:=λ_=>R (.t .non),rt:=R} (aD ["chosen","one","other","third"] x):=by
 rintro x R (⟨p,q,rfl,o,m,a,b,h⟩|⟨p,q,r,rfl,a,b,i,d,d,d,h⟩)
 .show cW _ [some (.t (.lst [bj p,bj q])),none,none,none]
  delta cW
  symm;rw[if_pos ⋯]
  simp only[qS];refine⟨[iI q,iI p],rfl,by simp,by simp,λw d=>?_,λg x k e=>?_⟩
  .simp at d
   obtain rfl|rfl:=d
   .exact⟨oi m,yo b⟩
   .exact⟨oi o,yo a⟩
  .obtain⟨u,v,rfl,o,m⟩:=Nd e;symm;exact h g u v k o m
 .show cW _ [some (.t (.lst [bj p,bj q,bj r])),none,none,none]
  delta cW
  symm;rw[if_neg ⋯]
  symm;refine⟨q,r,rfl,bu b ⋯,bu i ⋯,?_⟩
  symm;refine⟨r,p,rfl,bu i ⋯,bu a ⋯,?_⟩
  symm;refine⟨p,q,rfl,bu a ⋯,bu b ⋯,?_⟩
  symm;simp only[qS];refine⟨[((bM q r).natAbs:Int),((bM r p).natAbs:Int),((bM p q).natAbs:Int)],rfl,by simp,by simp,λw d=>?_,λg x k e=>?_⟩
  .simp only[mem_cons,not_mem_nil,or_false]at d
   obtain rfl|rfl|rfl:=d
   .exact⟨⋯,(gA (iA b i)).mono ⋯⟩
   .exact⟨⋯,(gA (iA i a)).mono ⋯⟩
   .exact⟨⋯,(gA (iA a b)).mono ⋯⟩
  .obtain⟨u,v,w,rfl,o,m,a⟩:=Fy e;symm;exact h g u v w k o m a
theorem JU (x y:T)(ts:List T):tupK R [.t x,.t y,.ol ts]=R (.t (.tup [x,y,.lst ts])):=rfl
theorem oz:∀ y R,fx y R->cE {nx:=λ_=>R (.t .non),rt:=R} (aD ["halves","places"] y):=by
 rintro y R ⟨y,pl,rfl,hh,⟨i,j,p,q,rfl,d,e,h⟩|⟨i,j,k,p,q,r,rfl,d,e,z,D,C,B,h⟩⟩
 .have o:=hh p (mem_of_getElem? d);have m:=hh q (mem_of_getElem? e);show cE _ [some (.t (.lst (y.map bj))),some (.t (.lst [.int (i:Int),.int (j:Int)]))]
  delta cE
  symm;refine ky ?_;symm;rw[cx d];symm;refine⟨by simp,?_⟩
  rw[cx e];symm;refine⟨by simp,?_⟩
  refine .inl ⟨p,q,rfl,o.2,m.2,o.1,m.1,λg u v x a b=>?_⟩;symm;rw[JU];exact h g u v x a b
 .have o:=hh p (mem_of_getElem? d);have m:=hh q (mem_of_getElem? e);have E:=hh r (mem_of_getElem? z);show cE _ [some (.t (.lst (y.map bj))),some (.t (.lst [.int (i:Int),.int (j:Int),.int (k:Int)]))]
  delta cE
  symm;refine ky ?_;symm;rw[cx d];symm;refine⟨by simp,?_⟩
  rw[cx e];symm;refine⟨by simp,?_⟩
  rw[cx z];symm;refine⟨by simp,?_⟩
  refine .inr ⟨p,q,r,rfl,o.1,m.1,E.1,D,C,B,λg u v w x a b c=>?_⟩;symm;rw[JU];exact h g u v w x a b c
theorem yS:sgn i<0↔i<0:=by
 unfold sgn
 split
 .ext
 .split <;> ext
theorem o5 {α:Type}{l:List α}{k p:Nat}{x:α}(h:(l.take k)[p]?=some x):p<k/\l[p]?=some x:=by
 rw[List.getElem?_take]at h
 split at h
 .exact⟨by assumption,h⟩
 .cases h
theorem yL (f:En):kM (ir f)=true:=by
 rcases f with _|⟨s,p⟩ <;> rfl
theorem Ak (f l:En):norm (.tup [ir f,ir l])=.t (.tup [ir f,ir l]):=by
 unfold norm;rw[if_pos];show(kM (ir f) && (kM (ir l) && true))=true;rw[yL,yL];rfl
theorem sY {ms t:List Int}(h:ms.Perm t)(d:ms.Pairwise (·<=·))(e:t.Pairwise (·<=·)):ms=t:=
 List.Perm.eq_of_pairwise (λ_ _ _ _ a b=>Int.le_antisymm a b) d e h
theorem yV (a:0<g)(b:u*g=A)(e:v*g=B)(d:w*g=C)(m:0<A)(k:0<B)(x:0<C)
  (o:A*p.1+B*q.1+C*r.1=0) (i:A*p.2.1+B*q.2.1+C*r.2.1=0) (D:0<A*p.2.2+B*q.2.2+C*r.2.2):0<u/\0<v/\0<w/\Kb p q r u v w:=by
 have z:∀ {t:Int},g*t=0->t=0:=λ{t} h=>by
  obtain y|y:=mul_eq_zero.mp h
  .ext
  .exact y
 refine⟨bR a (by rw[mul_comm,b];exact m),bR a (by rw[mul_comm,e];exact k),bR a (by rw[mul_comm,d];exact x),z ?_,z ?_,bR a ?_⟩
 .rw[<-o,<-b,<-e,<-d];grind
 .rw[<-i,<-b,<-e,<-d];grind
 .have:g*(u*p.2.2+v*q.2.2+w*r.2.2)=A*p.2.2+B*q.2.2+C*r.2.2:=by rw[<-b,<-e,<-d];grind
  rw[this];exact D
theorem IR (b:0<g)(a:u*g=A)(e:v*g=B)(k:0<A)(i:0<B)
  (m:A*p.1+B*q.1=0) (d:A*p.2.1+B*q.2.1=0) (o:0<A*p.2.2+B*q.2.2):0<u/\0<v/\Ka p q u v:=by
 have z:∀ {t:Int},g*t=0->t=0:=λ{t} h=>by
  obtain y|y:=mul_eq_zero.mp h
  .ext
  .exact y
 refine⟨bR b (by rw[mul_comm,a];exact k),bR b (by rw[mul_comm,e];exact i),z ?_,z ?_,bR b ?_⟩
 .rw[<-m,<-a,<-e];grind
 .rw[<-d,<-a,<-e];grind
 .have:g*(u*p.2.2+v*q.2.2)=A*p.2.2+B*q.2.2:=by rw[<-a,<-e];grind
  rw[this];exact o
theorem ro (p q r:Hf):bM q r*p.1+bM r p*q.1+bM p q*r.1=0/\bM q r*p.2.1+bM r p*q.2.1+bM p q*r.2.1=0:=by
 constructor <;> unfold bM <;> grind
theorem rm (p q:Hf):bM p q=-bM q p:=by unfold bM;grind
theorem rE (ha:Sz m a)(hb:Sz n b):Sz m (tM a b).1/\Sz n (tM a b).2:=⟨ha.fdiv _,hb.fdiv _⟩
theorem PC (sb:dy 400 b)(a:SzF 1500 s):eW 5000 (IK b s):=by
 have x:Sz 2400 (NH b s):=(Sz.sub (Sz.mul (Sz.mul sb.1 sb.2.2) a.2) (Sz.mul sb.2.1 a.1)).mono ⋯
 have y:Sz 2400 (NI b s):=(Sz.add (Sz.mul (Sz.mul sb.2.1 sb.2.2) a.2) (Sz.mul sb.1 a.1)).mono ⋯
 have d:Sz 2400 (yU b s):=(Sz.mul (nF sb sb) a.2).mono ⋯
 exact⟨⟨(rE x d).1.mono ⋯,(rE x d).2.mono ⋯⟩,⟨(rE y d).1.mono ⋯,(rE y d).2.mono ⋯⟩⟩
theorem IQ (sb:dy 400 b)(sh:∀ h∈hs,dy 400 h)(F:mz b hs f)(L:ny b hs l):SzF 1500 (fy f l):=by
 unfold fy
 split
 .exact wA sb sh F _ _ rfl
 .exact sB sb sh L _ _ rfl
 .exact⟨Sz.of ⋯ ⋯,Sz.of ⋯ ⋯⟩
theorem iV (a:0<g)(e:u*g=A)(s:Sz n A):Sz n u:=by
 have h:=s.lt;have b:u.natAbs*g.natAbs=A.natAbs:=by rw[<-Int.natAbs_mul,e]
 have:u.natAbs<=u.natAbs*g.natAbs:=Nat.le_mul_of_pos_right _ ⋯
 exact⟨⋯⟩
theorem Au:Ok fe lq ["halves","spot","place","border","before","ends","places"]:=by
 rintro ss R ⟨D,rfl,hh,hl,hS,hC⟩;show lq _ [some (.t (.lst (D.map bj))),none,none,none,none,none,none]
 delta lq
 walk_at"db"
 let I (k:Nat):bf->Prop:=λδ=>∃ (s:aS) (r2 r3 r4 r5 r6:Option S),δ=[some (.t (.lst (D.map bj))),some (.t (spT s)),r2,r3,r4,r5,r6]/\Nw s/\eW 5000 s/\∀ h∈D.take k,0<=a9 h s
 have z1:Sz 5000 0:=Sz.of ⋯ ⋯
 have z2:Sz 5000 1:=Sz.of ⋯ ⋯
 refine⟨I D.length,⟨ij ⋯ (by rw[length_map];ext),ul (n:=D.length) (by rw[length_map,toNat_natCast]) I ⟨((0,1),(0,1)),_,_,_,_,_,rfl,⟨⟨⋯,⋯⟩,⟨⋯,⋯⟩⟩,⟨⟨z1,z2⟩,⟨z1,z2⟩⟩,λh hm=>(by cases hm)⟩ (λ_ z=>z) ?_⟩,?_⟩
 .rintro k δ hk ⟨s,r2,r3,r4,r5,r6,rfl,lo,sz,hold⟩;have e:D[k]?=some D[k]:=List.getElem?_eq_getElem hk;generalize D[k]=b at e;obtain⟨sb,P⟩:=hh b (mem_of_getElem? e);have Z:∀ h∈D.take k,dy 400 h:=λh hm=>(hh h (mem_of_mem_take hm)).1;walk_at"db";rw[cx e];walk_at"db";refine⟨b,s,rfl,bu sb ⋯,⟨⟨sz.1.1.mono ⋯,sz.1.2.mono ⋯⟩,⟨sz.2.1.mono ⋯,sz.2.2.mono ⋯⟩⟩,?_⟩
  walk_at"db"
  split
  .rename_i neg;have neg:=yS.mp neg;rw[BG];refine⟨b,D.take k,rfl,sb,Z,by rw[length_take];ext,λf l F L=>?_⟩
   dsimp only;rw[show got (.t (.tup [ir f,ir l]))=norm (.tup [ir f,ir l]) from rfl,Ak];walk_at"db";refine⟨b,D.take k,f,l,rfl,sb,Z,by rw[length_take];ext,wA sb Z F,sB sb Z L,?_,λnc=>⟨?_,?_⟩⟩
   .
    rintro s1 p t q rfl rfl lt;obtain⟨⟨y,U,c1,rfl⟩,_⟩:=F.som _ _ rfl;obtain⟨⟨d,g2,c2,rfl⟩,_⟩:=L.som _ _ rfl;obtain⟨pk,m⟩:=o5 U;obtain⟨qk,H⟩:=o5 g2;have M:=(hh y (mem_of_getElem? m)).1;have J:=(hh d (mem_of_getElem? H)).1;have npq:p≠q:=λz=>by
     subst z;rw[U]at g2;cases g2;ext
    obtain⟨w1,w2,w3⟩:=K2 P lo.1.1 lo.2.1 (hold y (mem_of_getElem? U)) (hold d (mem_of_getElem? g2)) neg c1 c2 lt;have sw1:=rm y b;have sw2:=rm b d;have sw3:=rm d y;walk_at"db";rw[if_pos ⋯]
    refine⟨⋯,?_⟩
    show im _ ([(p:Int),(q:Int),(k:Int)].map T.int);rw[qC];refine⟨by simp,λms pm ps=>?_⟩
    obtain o|o:=lt_or_ge p q
    .rw[sY (t:=[(p:Int),(q:Int),(k:Int)]) pm ps (by simp;ext)]
     refine⟨D,[p,q,k],rfl,hh,.inr ⟨p,q,k,y,d,b,rfl,m,H,e,⋯,⋯,⋯,λg u v w E a Q c=>?_⟩⟩
     obtain⟨Y,p2,p3,X⟩:=yV (p:=y) (q:=d) (r:=b) (A:=bM d b) (B:=bM b y) (C:=bM y d) (u:=u) (v:=v) (w:=w) E ⋯ ⋯ ⋯ ⋯ ⋯ ⋯ (ro y d b).1 (ro y d b).2 (by have:=w3;grind)
     refine hC _ _ (.three p q k y d b u v w o ⋯ m H e Y p2 p3 X) λx O=>?_
     simp only[mem_cons,not_mem_nil,or_false]at O
     obtain rfl|rfl|rfl:=O
     .exact iV E a ((gA (iA J sb)).mono ⋯)
     .exact iV E Q ((gA (iA sb M)).mono ⋯)
     .exact iV E c ((gA (iA M J)).mono ⋯)
    .rw[sY (t:=[(q:Int),(p:Int),(k:Int)]) (pm.trans (List.Perm.swap _ _ _)) ps (by simp;ext)]
     refine⟨D,[q,p,k],rfl,hh,.inr ⟨q,p,k,d,y,b,rfl,H,m,e,⋯,⋯,⋯,λg u v w E a Q c=>?_⟩⟩
     obtain⟨Y,p2,p3,X⟩:=yV (p:=d) (q:=y) (r:=b) (A:=bM b y) (B:=bM d b) (C:=bM y d) (u:=u) (v:=v) (w:=w) E ⋯ ⋯ ⋯ ⋯ ⋯ ⋯ (by have:=(ro y d b).1;grind) (by have:=(ro y d b).2;grind) (by have:=w3;grind)
     refine hC _ _ (.three q p k d y b u v w ⋯ ⋯ H m e Y p2 p3 X) λx O=>?_
     simp only[mem_cons,not_mem_nil,or_false]at O
     obtain rfl|rfl|rfl:=O
     .exact iV E a ((gA (iA M sb)).mono ⋯)
     .exact iV E Q ((gA (iA sb J)).mono ⋯)
     .exact iV E c ((gA (iA J M)).mono ⋯)
   .
    intro i o U c ak;obtain⟨ik,m⟩:=o5 U;have no:=(hh o (mem_of_getElem? m)).2;obtain⟨w1,w2,w3⟩:=K0 P no lo.1.1 lo.2.1 (hold o (mem_of_getElem? U)) neg c ak;walk_at"db";rw[if_pos ⋯]
    refine⟨⋯,?_⟩
    show im _ ([(i:Int),(k:Int)].map T.int);rw[qC];refine⟨by simp,λms pm ps=>?_⟩
    rw[sY (t:=[(i:Int),(k:Int)]) pm ps (by simp;ext)]
    refine⟨D,[i,k],rfl,hh,.inl ⟨i,k,o,b,rfl,m,e,λg u v E a Q=>?_⟩⟩;obtain⟨Y,p2,X⟩:=IR (p:=o) (q:=b) (A:=iI b) (B:=iI o) E a Q (oi P) (oi no) w1 w2 w3;refine hC _ _ (.two i k o b u v ik m e Y p2 X) λx O=>?_;simp only[mem_cons,not_mem_nil,or_false]at O
    obtain rfl|rfl:=O
    .exact iV E a (yo sb)
    .exact iV E Q (yo (hh o (mem_of_getElem? m)).1)
   .
    intro nz;have hm:∀ s p t q,f=some (s,p)->l=some (t,q)->iK s t:=λs p t q e1 e2=>Int.not_lt.mp (nc s p t q e1 e2);have sp:=vf F L;have st:=IQ sb Z F L;walk_at"db";rw[if_neg ⋯]
    refine⟨b,f,l,rfl,P,sb,sp,st,?_⟩;walk_at"db";refine⟨IK b (fy f l),_,_,_,_,_,rfl,MX P sp,PC sb st,λh W=>?_⟩;rw[fg e]at W
    obtain z|z:=mem_append.mp W
    .exact vP P F L hm nz h z
    .simp at z;subst z;exact Aw P sp
  .rename_i nn;have nn:0<=a9 b s:=by
    have:¬ a9 b s<0:=λz=>nn (yS.mpr z);ext
   refine⟨s,_,_,_,_,_,rfl,lo,sz,λh hm=>?_⟩;rw[fg e]at hm
   obtain z|z:=mem_append.mp hm
   .exact hold h z
   .simp at z;subst z;exact nn
 .rintro δ ⟨s,r2,r3,r4,r5,r6,rfl,lo,sz,hold⟩;rw[List.take_length]at hold;walk_at"db";exact hS s lo sz hold
def QG (f:Pt)(s:aS):Hf:=LG (f.1*(ah s).2.2) (f.2*(ah s).2.2) (f.1*(ah s).1+f.2*(ah s).2.1)
def kc:aO:=λb R=>∃ (a:List Pt) (s:aS),b=[.t (.lst (a.map aZ)),.t (spT s)]/\a.length<=1000/\(∀ p∈a,SzF 120 p)/\eW 600 s/\R (.ol ((eN s a).map aZ))
def eu:aO:=λa R=>∃ (v:List Pt) (f:Pt),a=[.t (.lst (v.map aZ)),.t (aZ f)]/\v.length<=1000/\(∀ p∈v,SzF 1400 p)/\SzF 4300 f/\R (.t (.int (ahead v f)))
def g9:aO:=λb R=>∃ (w:Pt) (a:List Pt),b=[.t (aZ w),.t (.lst (a.map aZ))]/\a.length<=1000/\a≠[]/\SzF 1400 w/\(∀ p∈a,SzF 1400 p)/\∀ t:Int,(∀ v∈a,bo w v<t/\-t<bo w v)->SzF 4300 (Di w t)->R (.t (aZ (Di w t)))
def j7:aO:=λa R=>∃ v:List Pt,a=[.t (.lst (v.map aZ))]/\v.length<=1000/\(∀ p∈v,SzF 1400 p)/\∀ fs:List Pt,AZ v fs->(∀ f∈fs,SzF 4300 f)->R (.ol (fs.map aZ))
def fw:aO:=λa R=>∃ (f:Pt) (s:aS),a=[.t (aZ f),.t (spT s)]/\f≠(0,0)/\s.1.2≠0/\s.2.2≠0/\SzF 4300 f/\eW 600 s/\R (.t (bj (QG f s)))
def kY:aO:=λb R=>∃ (a:List Pt) (s:aS),b=[.t (.lst (a.map aZ)),.t (spT s)]/\a≠[]/\a.length<=1000/\(∀ p∈a,SzF 120 p)/\eW 600 s/\s.1.2≠0/\s.2.2≠0 ∧
 ∀ f:Pt,f≠(0,0)->SzF 4300 f->ahead (eN s a) f=ud (eN s a)->R (.t (.tup [.int (ud (eN s a)),bj (QG f s)]))
def jw:WS:=
 (aG (aP 2 (ax bZ (ae (af 1) ap)))
 (bh (dm 1 [2] (bT (af 0)) (aQ 0) kg (cF (ae (dR (bG (av aU (af 0) (wC (.int 0))) (av aU (af 1) (wC (.int 2)))) (av aU (af 1) (wC (.int 0)))) (ae (dR (bG (av aU (af 0) (wC (.int 1))) (av aU (af 1) (wC (.int 2)))) (av aU (af 1) (wC (.int 1)))) ap))))))
def e7:WS:=
 (bh (dP cL (ae (dm 1 [1] (bT (af 0)) (aQ 0) (wB (JW (ax cD (ae (af 0) (ae (af 1) ap))) (wC (.int 0)))) (af 0)) ap)))
def fH:WS:=
 (aG (aP 2 (eM (wC (.int 1)) (dP Jm (ae (dm 1 [0] (bT (af 1)) (aQ 0) kg (dP jA (ae (ax cD (ae (af 1) (ae (af 0) ap))) ap))) ap))))
 (bh (cF (ae (dR (bG (tN gI (av aU (af 0) (wC (.int 1)))) (af 2)) (av aU (af 0) (wC (.int 0)))) (ae (dR (bG (av aU (af 0) (wC (.int 0))) (af 2)) (av aU (af 0) (wC (.int 1)))) ap)))))
def jo:WS:=
 (aG (aP 1 (dm 1 [0] (bT (af 0)) (aQ 0) (wB (IY (af 0) (cF (ae (wC (.int 0)) (ae (wC (.int 0)) ap))))) (ax g9 (ae (af 0) (ae (af 1) ap)))))
 (aG (e5 1 (cF (ae (wC (.int 1)) (ae (wC (.int 0)) ap))))
 (jQ 1)))
def ez:WS:=
 (aG (aP 2 (ax bZ (ae (af 1) ap)))
 (bh (ax kZ (ae (bG (av aU (af 0) (wC (.int 0))) (av aU (af 2) (wC (.int 2)))) (ae (bG (av aU (af 0) (wC (.int 1))) (av aU (af 2) (wC (.int 2)))) (ae (ax cD (ae (af 0) (ae (af 2) ap))) ap))))))
def ni:WS:=
 (aG (f5 (wB (tD (dP cL (ae (af 0) ap)) (wC (.int 0)))) l6 br)
 (aG (aP 2 (ax kc (ae (af 0) (ae (af 1) ap))))
 (aG (aP 3 (tE (ax j7 (ae (af 2) ap)) 2 (ax eu (ae (af 1) (ae (af 0) ap)))))
 (bh (cF (ae (ax eu (ae (af 2) (ae (af 3) ap))) (ae (ax fw (ae (af 3) (ae (af 1) ap))) ap)))))))
theorem td (h:eW 600 s):dy 1200 (ah s):=by
 obtain⟨⟨d,a⟩,b,z⟩:=h;exact⟨Sz.mul d z,Sz.mul b a,Sz.mul a z⟩
theorem Nr (h:eW 600 s)(a:SzF 120 p):SzF 1400 (kh (ah s) p):=by
 obtain⟨d,b,y⟩:=td h;exact⟨(Sz.sub (Sz.mul a.1 y) d).mono ⋯,(Sz.sub (Sz.mul a.2 y) b).mono ⋯⟩
theorem I0 (h:eW 600 s)(a:∀ p∈ps,SzF 120 p):∀ v∈eN s ps,SzF 1400 v:=λv b=>by
 obtain⟨p,hm,rfl⟩:=mem_map.mp b;exact Nr h (a p hm)
theorem w6:∀ b R,kc b R->jw {nx:=λ_=>R (.t .non),rt:=R} (aD ["points","spot","here"] b):=by
 rintro b R ⟨a,s,rfl,b,d,b,h⟩;show jw _ [some (.t (.lst (a.map aZ))),some (.t (spT s)),none]
 delta jw
 symm;refine⟨s,rfl,bD b ⋯,?_⟩
 obtain⟨g,k,i⟩:=td b;generalize hh:ah s=hr at *;obtain⟨X,Y,B⟩:=hr;dsimp only at g k i;symm;refine eD (f:=aZ) (h:=λp=>aZ (kh (X,Y,B) p)) (l:=a) (λb=>∃ r,b=[r,some (.t (.tup [.int X,.int Y,.int B]))]) (λ_ _=>rfl) ⋯ ⟨_,rfl⟩ ?_ ?_
 .rintro⟨x,y⟩ hm b ⟨r,rfl⟩ b g;obtain⟨z,b⟩:=d _ hm;dsimp only at z b;walk_at"go";exact g _ ⟨_,rfl⟩
 .have e:(a.map λp=>aZ (kh (X,Y,B) p))=(eN s a).map aZ:=by unfold eN;rw[map_map,hh];rfl
  rw[e];symm;exact h
theorem pM:∀ e R,eu e R->e7 {nx:=λ_=>R (.t .non),rt:=R} (aD ["ways","facing"] e):=by
 rintro e R ⟨B,⟨a,b⟩,rfl,C,q,⟨k,m⟩,h⟩;dsimp only at k m;show e7 _ [some (.t (.lst (B.map aZ))),some (.t (.tup [.int a,.int b]))]
 delta e7
 symm;refine eC (f:=aZ) (h:=aZ) (p:=λv=>decide (0<=bo v (a,b))) (λg=>∃ r,g=[r,some (.t (.tup [.int a,.int b]))]) (λp _=>yM p) ⋯ ⟨_,rfl⟩ ?_ ?_
 .rintro⟨x,y⟩ hm g ⟨r,rfl⟩ Y N u o;obtain⟨z,i⟩:=q _ hm;dsimp only at z i;symm;refine⟨x,y,a,b,[],[],rfl,z.mono ⋯,i.mono ⋯,k.mono ⋯,m.mono ⋯,?_⟩
  symm
  split
  .rename_i d;exact u _ ⟨_,rfl⟩ (by rw[decide_eq_true_eq];exact d)
  .rename_i d;exact o _ ⟨_,rfl⟩ (by rw[decide_eq_false_iff_not];exact d)
 .symm;rw[length_map,<-countP_eq_length_filter];exact h
theorem sG:∀ q R,g9 q R->fH {nx:=λ_=>R (.t .non),rt:=R} (aD ["way","ways","thin"] q):=by
 rintro q R ⟨⟨a,b⟩,i,rfl,d,d,⟨g,k⟩,q,h⟩;dsimp only at g k;show fH _ [some (.t (.tup [.int a,.int b])),some (.t (.lst (i.map aZ))),none]
 delta fH
 symm;refine eD (f:=aZ) (h:=λv=>T.int (if bo (a,b) v<0 then -bo (a,b) v else bo (a,b) v)) (l:=i) (λo=>∃ r,o=[r,some (.t (.tup [.int a,.int b]))]) (λ_ _=>rfl) ⋯ ⟨_,rfl⟩ ?_ ?_
 .rintro⟨x,y⟩ hm o ⟨r,rfl⟩ Y p;obtain⟨z,o⟩:=q _ hm;dsimp only at z o;symm;refine⟨a,b,x,y,[],[],rfl,g.mono ⋯,k.mono ⋯,z.mono ⋯,o.mono ⋯,?_⟩
  symm;exact p _ ⟨_,rfl⟩
 .have e:(i.map λv=>T.int (if bo (a,b) v<0 then -bo (a,b) v else bo (a,b) v))=(i.map λv=>(if bo (a,b) v<0 then -bo (a,b) v else bo (a,b) v)).map T.int:=by rw[map_map];rfl
  rw[e];symm;rw[pV];refine⟨by simpa using d,λm hm d=>?_⟩
  have u:Sz 2801 m:=by
   obtain⟨v,p,rfl⟩:=mem_map.mp hm;obtain⟨z,o⟩:=q _ p;have q:Sz 2801 (bo (a,b) v):=(Sz.add (Sz.mul g z) (Sz.mul k o)).mono ⋯
   split
   .exact Sz.neg q
   .exact q
  have o:Sz 2802 (1+m):=by
   have:Sz 2801 (1:Int):=⟨⋯⟩
   exact(Sz.add this u).mono ⋯
  have hb:∀ v∈i,bo (a,b) v<1+m/\-(1+m)<bo (a,b) v:=λv p=>by
   have:(if bo (a,b) v<0 then -bo (a,b) v else bo (a,b) v)<=m:=d _ (mem_map.mpr ⟨v,p,rfl⟩)
   split at this <;> ext
  have hz:SzF 4300 (Di (a,b) (1+m)):=⟨(Sz.sub (Sz.mul (Sz.neg k) o) g).mono ⋯,(Sz.sub (Sz.mul g o) k).mono ⋯⟩
  have d:=h (1+m) hb hz;walk_at"go";exact d
theorem wR:∀ I R,j7 I R->jo {nx:=λ_=>R (.t .non),rt:=R} (aD ["ways","found"] I):=by
 rintro I R ⟨v,rfl,L,J,h⟩;show jo _ [some (.t (.lst (v.map aZ))),none]
 delta jo
 symm;refine⟨λM D m=>∃ pre p fs r,v=pre++p/\M=p.map aZ/\D=[r,some (.t (.lst (v.map aZ)))]/\m=fs.map aZ/\fs.length<=pre.length/\(∀ f∈fs,f≠(0,0)/\SzF 4300 f)/\∀ w∈pre,w≠(0,0)->∃ f∈fs,ahead v f=v.countP (uV w),⟨[],v,[],_,rfl,rfl,rfl,rfl,le_refl _,λf g=>(by cases g),λw q=>(by cases q)⟩,?_,?_⟩
 .rintro D m ⟨pre,p,fs,r,o,y,rfl,rfl,B,i,d⟩;have:p=[]:=by simpa using y.symm
  subst this;rw[append_nil]at o;subst o;have H:Sz 1 0:=⟨⋯⟩
  symm;have e:fs.map aZ++[T.tup [.int 1,.int 0]]=(fs++[(1,0)]).map aZ:=by rw[map_append];rfl
  refine⟨by rw[length_map];ext,?_⟩
  rw[e];refine h (fs++[(1,0)]) ⟨λf g=>?_,by simp,λw q F=>?_⟩ λf g=>?_
  .rcases mem_append.mp g with z|z
   .exact(i f z).1
   .simp at z;subst z;decide
  .obtain⟨f,g,e⟩:=d w q F;exact⟨f,mem_append_left _ g,e⟩
  .rcases mem_append.mp g with z|z
   .exact(i f z).2
   .simp at z;subst z;exact⟨⟨⋯⟩,⟨⋯⟩⟩
 .rintro x r D m ⟨pre,p,fs,Q,o,y,rfl,rfl,B,i,d⟩
  cases p with
  |nil=>cases y
  |cons w p=>
   rw[map_cons]at y
   cases y
   have q:w∈v:=by rw[o];simp
   have P:v.length=pre.length+(p.length+1):=by rw[o];simp
   obtain⟨a,b⟩:=w;symm
   split
   .rename_i E;have F:((a,b):Pt)≠(0,0):=λz=>by
     cases z
     simp at E
    refine⟨(a,b),v,rfl,L,List.ne_nil_of_mem q,J _ q,J,λt O hz=>?_⟩;show qd _ (.t (aZ (Di (a,b) t)));rw[yg];refine⟨rfl,by rw[length_map];ext,pre++[(a,b)],p,fs++[Di (a,b) t],_,by rw[o];simp,rfl,rfl,by rw[map_append];rfl,by simp;ext,λf g=>?_,λu C k=>?_⟩
    .rcases mem_append.mp g with z|z
     .exact i f z
     .have z:=mem_singleton.mp z;subst z;exact⟨O5 F,hz⟩
    .rcases mem_append.mp C with z|z
     .obtain⟨f,g,e⟩:=d u z k;exact⟨f,mem_append_left _ g,e⟩
     .have z:=mem_singleton.mp z;subst z;exact⟨Di (a,b) t,by simp,Bn O⟩
   .rename_i E;have hz:a=0/\b=0:=by simpa using E
    refine⟨pre++[(a,b)],p,fs,_,by rw[o];simp,rfl,rfl,rfl,by simp;ext,i,λu C k=>?_⟩
    obtain z|z:=mem_append.mp C
    .exact d u z k
    .have z:=mem_singleton.mp z;subst z;exact absurd (Prod.ext hz.1 hz.2) k
theorem ox:∀ m R,fw m R->ez {nx:=λ_=>R (.t .non),rt:=R} (aD ["facing","spot","here"] m):=by
 rintro m R ⟨⟨a,b⟩,s,rfl,p,r,o,⟨d,g⟩,i,h⟩;dsimp only at d g;show ez _ [some (.t (.tup [.int a,.int b])),some (.t (spT s)),none]
 delta ez
 symm;refine⟨s,rfl,bD i ⋯,?_⟩
 obtain⟨k,m,y⟩:=td i;have i:(ah s).2.2≠0:=λz=>by
  obtain e|e:=mul_eq_zero.mp (show s.1.2*s.2.2=0 from z)
  .exact r e
  .exact o e
 unfold QG at h;generalize ah s=hr at *;obtain⟨X,Y,B⟩:=hr;dsimp only at k m y i h;walk_at"go";refine⟨a,b,X,Y,[],[.int B],rfl,d.mono ⋯,g.mono ⋯,k.mono ⋯,m.mono ⋯,?_⟩
 symm;refine⟨_,_,_,rfl,?_,⟨(Sz.mul d y).mono ⋯,(Sz.mul g y).mono ⋯,(Sz.add (Sz.mul d k) (Sz.mul g m)).mono ⋯⟩,h⟩
 by_cases e:a=0
 .right
  intro q
  obtain q|q:=mul_eq_zero.mp q
  .exact p (Prod.ext e q)
  .exact i q
 .left
  intro q
  obtain q|q:=mul_eq_zero.mp q
  .exact e q
  .exact i q
theorem y6:∀ fs:List Pt,tups (fs.map aZ)=true
 | []=>rfl
 |p::r=>by rw[map_cons];show tups (T.tup _::_)=true;unfold tups;rw[y6 r];rfl
def Rk:T->Pt
 | .tup [.int a,.int b]=>(a,b)
 |_=>(0,0)
theorem EM:∀ r R,kY r R->ni {nx:=λ_=>R (.t .non),rt:=R} (aD ["points","spot","ways","emptiest"] r):=by
 rintro r R ⟨p,s,rfl,b,i,d,m,u,r,h⟩;show ni _ [some (.t (.lst (p.map aZ))),some (.t (spT s)),none,none]
 delta ni
 have a:((p.map aZ).length:Int)≠0:=by
  rw[length_map];have:=length_pos_iff.mpr b;ext
 symm;rw[if_neg (by simpa using a)]
 refine⟨p,s,rfl,i,d,m,?_⟩;have q:=I0 m d;have d:(eN s p).length<=1000:=by unfold eN;rw[length_map];exact i
 symm;refine⟨eN s p,rfl,d,q,λfs k a=>?_⟩;symm;refine⟨fs.map aZ,λt=>(ahead (eN s p) (Rk t):Int),.ol ((eN s p).map aZ),rfl,λz=>k.2.1 (List.map_eq_nil_iff.mp z),y6 fs,rfl,λt o=>?_,λt o i=>?_⟩
 .obtain⟨f,b,rfl⟩:=mem_map.mp o;symm;refine⟨eN s p,f,rfl,d,q,a f b,?_⟩
  rfl
 .obtain⟨f,b,rfl⟩:=mem_map.mp o;have hd:=wn k b λg o=>by
   have:(ahead (eN s p) f:Int)<=(ahead (eN s p) g:Int):=i _ (mem_map.mpr ⟨g,o,rfl⟩);ext
  have e:=Lg hd;symm;refine⟨eN s p,f,rfl,d,q,a f b,?_⟩;symm;refine⟨f,s,rfl,k.1 f b,u,r,a f b,m,?_⟩;have d:=h f (k.1 f b) (a f b) e.symm;rw[e]at d;symm;exact d
set_option maxHeartbeats 4000000
inductive l9 (G:Hf->Prop):List Hf->List Int->Prop
 |two (p q:Hf) (u v:Int):G p->G q->0<u->0<v->Ka p q u v->l9 G [p,q] [u,v]
 |three (p q r:Hf) (u v w:Int):G p->G q->G r->0<u->0<v->0<w->Kb p q r u v w->l9 G [p,q,r] [u,v,w]
def J7 (ps:List Pt)(k:Nat)(h:Hf):Prop:=fA ps h/\ps.length+1<=eV h ps+k
theorem t4 (C:l9 G hs B)(z:0<c.2.2)(h:∀ l,G l->0<=aY l c):False:=by
 cases C with
 |two p q u v k y i m s=>
  obtain⟨g,x,o⟩:=s;have a:=mul_nonneg (le_of_lt i) (h p k);have b:=mul_nonneg (le_of_lt m) (h q y);have e:u*aY p c+v*aY q c=(u*p.1+v*q.1)*c.1+(u*p.2.1+v*q.2.1)*c.2.1-(u*p.2.2+v*q.2.2)*c.2.2:=by unfold aY;grind
  rw[g,x]at e;have:=mul_pos o z;omega
 |three p q r u v w k y D i m E s=>
  obtain⟨g,x,o⟩:=s;have a:=mul_nonneg (le_of_lt i) (h p k);have b:=mul_nonneg (le_of_lt m) (h q y);have d:=mul_nonneg (le_of_lt E) (h r D);have e:u*aY p c+v*aY q c+w*aY r c=(u*p.1+v*q.1+w*r.1)*c.1+(u*p.2.1+v*q.2.1+w*r.2.1)*c.2.1-(u*p.2.2+v*q.2.2+w*r.2.2)*c.2.2:=by unfold aY;grind
  rw[g,x]at e;have:=mul_pos o z;omega
theorem GK (g:∀ h∈hs,G h)(C:zd hs pl o):∃ x:List Hf,l9 G x o/\pl.map (λi=>hs[i]?)=x.map some:=by
 cases C with
 |two i j p q u v d a e b m s=>exact⟨[p,q],.two p q u v (g p (mem_of_getElem? a)) (g q (mem_of_getElem? e)) b m s,by simp[a,e]⟩
 |three i j k p q r u v w d d a e d b m x s=>exact⟨[p,q,r],.three p q r u v w (g p (mem_of_getElem? a)) (g q (mem_of_getElem? e)) (g r (mem_of_getElem? d)) b m x s,by simp[a,e,d]⟩
structure vB (ps:List Pt) (k:Nat) (s:aS):Prop where
 k1:1<=k
 kn:k<=ps.length
 ok:bH s
 sz:eW 5000 s
 dep:ud (ps.map (kh (ah s)))=k
 top:∀ c:Hf,0<c.2.2->ud (ps.map (kh c))<=k
def j6:aO:=λb R=>∃ a:List Pt,b=[.t (.lst (a.map aZ))]/\a≠[]/\a.length<=7/\(∀ p∈a,SzF 100 p)/\∀ k s x y,vB a k s->R (.t (.tup [.int (k:Int),spT s,.lst x,.lst y]))
def jm:WS:=
 (aG (vn (ax bq (ae (af 0) ap)))
 (aG (aP 1 (dP cL (ae (af 0) ap)))
 (aG (aP 2 (jC ap))
 (aG (aP 3 (jC ap))
 (aG (aP 4 (ax dZ (ae (af 0) (ae (wC (.int 1)) ap))))
 (aG (aP 5 (ax fe (ae (af 4) ap)))
 (cq (tG (wB (tD (av aU (af 5) (wC (.int 0))) (wC (.str "none")))) (aG (aP 2 (dm 1 [4] (bT (av aU (af 5) (wC (.int 1)))) (aQ 0) kg (av aU (af 1) (af 0))))
 (aG (aP 3 (av aU (af 5) (wC (.int 2))))
 (aG (aP 1 (dR (af 1) (wC (.int 1))))
 (aG (aP 4 (ax dZ (ae (af 0) (ae (eM (dR (dP cL (ae (af 0) ap)) (af 1)) (wC (.int 1))) ap))))
 (aP 5 (ax fe (ae (af 4) ap))))))))
 (FH (cF (ae (af 1) (ae (av aU (af 5) (wC (.int 1))) (ae (af 2) (ae (af 3) ap)))))))))))))
theorem Aj (hz:∀ p∈ps,SzF 110 p)(h:1<=k)(d:k<=ps.length)(C:l9 (J7 ps k) hs e):∀ c:Hf,0<c.2.2->ud (ps.map (kh c))<k:=λc b=>by
 obtain z|z:=lt_or_ge (ud (ps.map (kh c))) k
 .exact z
 .exact(t4 C b λl a=>(mJ hz b d h).mp z l a.1 a.2).elim
def Ls (v:S)(ts:List T):Prop:=v=.ol ts\/v=.t (.lst ts)
theorem xZ (a b:PySem.Str)(R:S->Prop):dO (.t (.str a)) (.t (.str b)) R=R (.t (.bl (a == b))):=by
 show(dep (.str a)<=20/\dep (.str b)<=20/\R (.t (.bl (a == b))))=_;exact propext ⟨λh=>h.2.2,λh=>⟨zero_le _,zero_le _,h⟩⟩
theorem L3 (h:Nw s):bH s:=⟨⟨h.1.1,h.1.2⟩,⟨h.2.1,h.2.2⟩⟩
theorem wO:Ok j6 jm ["points","k","halves","weights","asked","told"]:=by
 rintro ss R ⟨ps,rfl,hne,hl,hz,h⟩;obtain⟨p0,pr,rfl⟩:∃ p0 pr,ps=p0::pr:=by
  cases ps with
  |nil=>exact absurd rfl hne
  |cons a b=>exact⟨a,b,rfl⟩
 show jm _ [some (.t (.lst ((p0::pr).map aZ))),none,none,none,none,none]
 delta jm
 have hp0:p0∈p0::pr:=mem_cons_self;generalize hps:p0::pr=ps at *;have hlen:1<=ps.length:=by rw[<-hps];simp
 have hnp:∀ R:S->Prop,R (.t .non)->bq [.t (.lst (ps.map aZ))] R:=λR hR=>⟨aZ p0,pr.map aZ,by rw[<-hps];rfl,hR⟩
 have hz':∀ p∈ps,SzF 110 p:=λp hp=>(hz p hp).mono3 ⋯
 have dummy:Sz 1 0:=⟨⋯⟩
 symm;refine hnp _ ?_;symm;refine⟨ps,1,rfl,hne,hl,hz,λG8 hB0=>?_⟩;have gh:∀ l:List Hf,got (.ol (l.map bj))=.ol (l.map bj):=λl=>de _ (bp (λ_=>rfl) l);dsimp only;rw[gh];have mem:∀ (k:Nat) (hs:List Hf),jF ps hs->∀ l∈lz ((ps.length:Int)-k+1) ps hs,J7 ps k l:=λk hs hB l hl=>by
  unfold lz at hl;rw[mem_filter,hB.1,decide_eq_true_eq]at hl;exact⟨hl.1,by omega⟩
 have all:∀ (k:Nat) (hs:List Hf),jF ps hs->∀ l,J7 ps k l->l∈lz ((ps.length:Int)-k+1) ps hs:=λk hs hB l hl=>by
  unfold lz;rw[mem_filter,hB.1,decide_eq_true_eq];exact⟨hl.1,by have:=hl.2;omega⟩
 have oks:∀ (k:Nat) (hs:List Hf),jF ps hs->(∀ l∈lz ((ps.length:Int)-k+1) ps hs,dy 400 l/\Nz l)/\(lz ((ps.length:Int)-k+1) ps hs).length<=1000:=λk hs hB=>by
  refine⟨λl hl=>?_,le_trans (le_trans (length_filter_le ..) hB.2) ⋯⟩
  have:=kt hz' (mem k hs hB l hl).1;exact⟨k9 this.1 ⋯,this.2⟩
 let Td:Nat->List Hf->T->Prop:=λk st t=>(∃ s:aS,t=.tup [.str "spot",spT s]/\Nw s/\eW 5000 s/\∀ h∈st,0<=a9 h s)\/∃ pl ws,t=mo pl ws/\zd st pl ws/\∀ w∈ws,Sz 5000 w
 let HW:Nat->S->S->Prop:=λk v2 v3=>∃ (gs:List Hf) (ws:List Int),Ls v2 (gs.map bj)/\Ls v3 (ws.map .int)/\(∀ w∈ws,Sz 5000 w)/\((k=ps.length/\gs=[]/\ws=[]/\v2=.ol []/\v3=.ol [])\/(k<ps.length/\l9 (J7 ps (k+1)) gs ws))
 let SP:Nat->bf->Prop:=λk δ=>∃ (s:aS) (v2 v3 v4:S),δ=[some (.t (.lst (ps.map aZ))),some (.t (.int (k:Int))),some v2,some v3,some v4,some (.t (.tup [.str "spot",spT s]))]/\Nw s/\eW 5000 s/\(∀ l,J7 ps k l->0<=a9 l s)/\HW k v2 v3/\1<=k/\k<=ps.length
 let NO:Nat->bf->Prop:=λk δ=>∃ (hs:List Hf) (pl:List Nat) (ws:List Int) (v2 v3:S),δ=[some (.t (.lst (ps.map aZ))),some (.t (.int (k:Int))),some v2,some v3,some (.t (.lst ((lz ((ps.length:Int)-k+1) ps hs).map bj))),some (.t (mo pl ws))]/\jF ps hs/\zd (lz ((ps.length:Int)-k+1) ps hs) pl ws/\(∀ w∈ws,Sz 5000 w)/\1<=k/\k<=ps.length
 let I:Nat->bf->Prop:=λk δ=>SP k δ\/NO k δ
 have inI:∀ (k:Nat) (hs:List Hf) (t:T) (v2 v3 v4:S) (o:Option S),jF ps hs->Td k (lz ((ps.length:Int)-k+1) ps hs) t->HW k v2 v3->1<=k->k<=ps.length->(v4=.ol ((lz ((ps.length:Int)-k+1) ps hs).map bj)\/v4=.t (.lst ((lz ((ps.length:Int)-k+1) ps hs).map bj)))->I k (setS 5 (norm t) [some (.t (.lst (ps.map aZ))),some (.t (.int (k:Int))),some v2,some v3,some v4,o]):=by
  rintro k hs t v2 v3 v4 o hB ht ⟨gs,ws',l2,l3,zw',hc⟩ hk1 hkn h4
  obtain⟨s,rfl,lo,sz,hh⟩|⟨pl,ws,rfl,C,zw⟩:=ht
  .rw[sF (x:=.tup [.str "spot",spT s]) rfl];exact .inl ⟨s,v2,v3,v4,rfl,lo,sz,λl hl=>hh l (all k hs hB l hl),⟨gs,ws',l2,l3,zw',hc⟩,hk1,hkn⟩
  .have en:norm (mo pl ws)=.vt (mo pl ws):=rfl;rw[en];refine .inr ⟨hs,pl,ws,eh v2,eh v3,?_,hB,C,zw,hk1,hkn⟩
   rcases h4 with rfl|rfl <;> rfl
 have one:∀ hs ws,¬ l9 (J7 ps 1) hs ws:=λhs ws C=>t4 C (c:=fl p0) (show(0:Int)<1 by decide) λl hl=>by
  have hm:=hl.2;have hle:eV l ps<=ps.length:=countP_le_length;have he:eV l ps=ps.length:=by omega
  exact(n7 l p0).mp (countP_eq_length.mp he p0 hp0)
 have shd:∀ (k:Nat) (hs:List Hf),jF ps hs->∀ R':S->Prop,(∀ t,Td k (lz ((ps.length:Int)-k+1) ps hs) t->R' (.t t))->fe [.t (.lst ((lz ((ps.length:Int)-k+1) ps hs).map bj))] R':=λk hs hB R' hR=>by
  obtain⟨o1,o2⟩:=oks k hs hB;exact⟨_,rfl,o1,o2,λs lo sz hh=>hR _ (.inl ⟨s,rfl,lo,sz,hh⟩),λpl ws C zw=>hR _ (.inr ⟨pl,ws,rfl,C,zw⟩)⟩
 have e1:(1:Int)=(ps.length:Int)-(ps.length:Nat)+1:=by omega
 have e0:lz 1 ps G8=lz ((ps.length:Int)-(ps.length:Nat)+1) ps G8:=congrArg (λi=>lz i ps G8) e1;rw[e0];symm;refine shd ps.length G8 hB0 _ λt ht=>?_;rw[show got (.t t)=norm t from rfl];symm;rw[length_map]
 let M:bf->Prop:=λδ=>∃ k,SP k δ
 refine⟨M,⟨I,⟨ps.length,inI ps.length G8 t _ _ _ _ hB0 ht ⟨[],[],.inl rfl,.inl rfl,λw hw=>(by cases hw),.inl ⟨rfl,rfl,rfl,rfl,rfl⟩⟩ hlen (le_refl _) (by first|exact .inl rfl|exact .inr rfl)⟩,?_⟩,?_⟩
 .rintro k δ (⟨s,v2,v3,v4,rfl,lo,sz,hh,hw,hk1,hkn⟩|⟨hs,pl,ws,v2,v3,rfl,hB,C,zw,hk1,hkn⟩)
  .symm;rw[xZ];symm;exact⟨k,s,v2,v3,v4,rfl,lo,sz,hh,hw,hk1,hkn⟩
  .obtain⟨gs,cg,_⟩:=GK (mem k hs hB) C;have k2:2<=k:=by
    obtain z|z:=lt_or_ge 1 k
    .exact z
    .have:k=1:=by omega
     subst this;exact(one _ _ cg).elim
   have ek:((List.map aZ ps).length:Int)-((k:Int)-1)+1=(ps.length:Int)-((k-1:Nat):Int)+1:=by rw[length_map];omega
   have ek2:(k:Int)-1=((k-1:Nat):Int):=by omega
   have go:∀ gs':List Hf,l9 (J7 ps k) gs' ws->dZ [S.t (T.lst (List.map aZ ps)),S.t (T.int (((List.map aZ ps).length:Int)-((k:Int)-1)+1))] λs=>
    look 4 (setS 4 (got s) [some (S.t (T.lst (List.map aZ ps))),some (S.t (T.int ((k:Int)-1))),some (S.ol (gs'.map bj)),some (S.t (T.lst (List.map T.int ws))),some (S.t (T.lst (List.map bj (lz ((ps.length:Int)-k+1) ps hs)))),some (S.t (T.tup [T.str (PySem.Str.ofString "none"),T.lst (List.map ur pl),T.lst (List.map T.int ws)]))]) λs_1=>
     fe [md (seen s_1)] λs_2=>∃ m,m<k/\I m (setS 5 (got s_2) (setS 4 (got s) [some (S.t (T.lst (List.map aZ ps))),some (S.t (T.int ((k:Int)-1))),some (S.ol (gs'.map bj)),some (S.t (T.lst (List.map T.int ws))),some (S.t (T.lst (List.map bj (lz ((ps.length:Int)-k+1) ps hs)))),some (S.t (T.tup [T.str (PySem.Str.ofString "none"),T.lst (List.map ur pl),T.lst (List.map T.int ws)]))])):=λgs' cg'=>by
    rw[ek,ek2];refine⟨ps,_,rfl,hne,hl,hz,λrG hB1=>?_⟩;dsimp only;rw[gh];symm;refine shd (k-1) rG hB1 _ λt ht=>?_;rw[show got (.t t)=norm t from rfl];exact⟨k-1,by omega,inI (k-1) rG t _ _ _ _ hB1 ht ⟨gs',ws,.inl rfl,.inr rfl,zw,.inr ⟨by omega,by rw[show k-1+1=k by omega];exact cg'⟩⟩ (by omega) (by omega) (.inl rfl)⟩
   unfold mo;symm;rw[xZ];symm;rw[if_pos ⋯]
   cases C with
   |two i j p q u v hij e1 e2 u0 v0 sm=>
    show nK _ _ _ [.int (i:Int),.int (j:Int)] _ _;refine ky ?_;symm;rw[cx e1];symm;refine⟨by simp,?_⟩
    rw[cx e2];symm;refine⟨by simp,?_⟩
    exact go [p,q] (.two p q u v (mem k hs hB p (mem_of_getElem? e1)) (mem k hs hB q (mem_of_getElem? e2)) u0 v0 sm)
   |three i j l p q r u v w hij hjk e1 e2 e3 u0 v0 w0 sm=>
    show nK _ _ _ [.int (i:Int),.int (j:Int),.int (l:Int)] _ _;refine ky ?_;symm;rw[cx e1];symm;refine⟨by simp,?_⟩
    rw[cx e2];symm;refine⟨by simp,?_⟩
    rw[cx e3];symm;refine⟨by simp,?_⟩
    exact go [p,q,r] (.three p q r u v w (mem k hs hB p (mem_of_getElem? e1)) (mem k hs hB q (mem_of_getElem? e2)) (mem k hs hB r (mem_of_getElem? e3)) u0 v0 w0 sm)
 .rintro δ ⟨k,s,v2,v3,v4,rfl,lo,sz,hh,⟨gs,ws,l2,l3,zw,hc⟩,hk1,hkn⟩;have zc:0<(ah s).2.2:=mul_pos lo.1.1 lo.2.1;have ge:k<=ud (ps.map (kh (ah s))):=(mJ hz' zc hkn hk1).mpr λl b m=>by
   have:=hh l ⟨b,m⟩;rw[lH]at this;exact this
  have top:∀ c:Hf,0<c.2.2->ud (ps.map (kh c))<=k:=λc zc=>by
   obtain⟨rfl,_⟩|⟨lt,C⟩:=hc
   .exact xR ps c
   .exact le_of_lt_succ (Aj hz' (by omega) (by omega) C c zc)
  have fin:=λx y=>h k s x y ⟨hk1,hkn,L3 lo,sz,Nat.le_antisymm (top _ zc) ge,top⟩
  rcases l2 with rfl|rfl <;> rcases l3 with rfl|rfl
  all_goals(
   symm;exact fin (gs.map bj) (ws.map .int))
end Law
namespace DL
open PySem L2 PyProof.Rows
def Qx (N:Prop):S->Prop
 | .ol _=>N
 |_=>False
def tz (e:WE):WS:=λD a=>e a (Qx (D.nx a))
section
variable {X:Cx}{e:Expr}{we:WE}{p2 pos:Pos}{H₀:Hp}
theorem zM (he:PE X e (au X.K we)) (i:attributeBase e "clear" X.env (eval e X.env)=eval e X.env:=by rfl) (k:(p2.endLine == pos.line)=true:=by rfl)
  (u:swapsWith (.Call (.Attribute e "clear" p2) [] [] pos) none d.line X.env=pure false:=by rfl):PS X (.Expr (.Call (.Attribute e "clear" p2) [] [] pos) d) (bK X.K H₀ (tz we)):=
 (kK (EW PySem.F.plainAttrs_list PySem.F.slot_list_clear PySem.F.type_list_clear DE he i k) u).imp <| by rintro D J H ⟨C,m,F,s0,y,h,ok⟩;exact⟨C,_,F,y,h,λv E r s ex p q=>by
  cases s with
  |t x=>exact q.elim
  |vt x=>exact q.elim
  |ol m=>
   obtain⟨a,B,rfl,L,I,m,M⟩:=p;refine⟨.inl ⟨rfl,B,cC.of m⟩,a,B,rfl,rfl,m,?_⟩;have up:∀ {G:Hp},Same G r->G a=none->Same G (cs r a (.lst [])):=λ{G} g n=>⟨λb o q z=>by rw[aV (bb q n)];exact g.all b o q z,λb B q=>by rw[aV (bb q n)];exact g.tbl b B q⟩
   have B:dq F H E (cs r a (.lst [])):=⟨up ex.hh L,ex.ff,up ex.sub I,λb o q n=>by
    by_cases z:b=a
    .subst z;rw[aW]at q;cases q;exact .inr ⟨[],rfl⟩
    .rw[aV z]at q;exact ex.full b o q n,ex.keep,λt=>yX (ex.tb t) m⟩
   exact ok.nx J E _ C ex.ff (y.ext B) q⟩
end
theorem Bg (e:WE)(D:nt)(a:bf):tz e D a=e a (Qx (D.nx a)):=rfl
theorem OC (N:Prop)(ts:List T):Qx N (.ol ts)=N:=rfl
end DL
namespace Law
open L2 DL
set_option maxHeartbeats 4000000
noncomputable def Fj (ps:List Pt) (p:Pt):Nat:=ud (eN (eX p) ps)
def o4:aO:=λb R=>∃ a:List Pt,b=[.t (.lst (a.map aZ))]/\a.length<=1000/\(∀ p∈a,SzF 110 p)/\R (.ol (a.map λp=>.int (Fj a p)))
def nk:WS:=
 (bh (dm 1 [0] (bT (af 0)) (aQ 0) kg (av aU (ax kY (ae (af 1) (ae (ax fv (ae (af 0) ap)) ap))) (wC (.int 0)))))
theorem EO:∀ d R,o4 d R->nk {nx:=λ_=>R (.t .non),rt:=R} (aD ["points"] d):=by
 rintro d R ⟨a,rfl,e,b,h⟩;show nk _ [some (.t (.lst (a.map aZ)))]
 delta nk
 symm;refine eD (f:=aZ) (h:=λp=>T.int (Fj a p)) (l:=a) (λd=>∃ r,d=[r,some (.t (.lst (a.map aZ)))]) (λ_ _=>rfl) (by omega) ⟨_,rfl⟩ ?_ ?_
 .rintro p hm d ⟨r,rfl⟩ Y d;have z:=b p hm;have one:Sz 600 (1:Int):=⟨⋯⟩
  symm;refine⟨p,rfl,?_⟩;symm;refine⟨a,eX p,rfl,List.ne_nil_of_mem hm,e,λq a=>⟨(b q a).1.mono ⋯,(b q a).2.mono ⋯⟩,⟨⟨z.1.mono ⋯,one⟩,z.2.mono ⋯,one⟩,(by show(1:Int)≠0;decide),(by show(1:Int)≠0;decide),λf _ _ _=>?_⟩
  symm;exact d _ ⟨_,rfl⟩
 .symm;exact h
set_option maxHeartbeats 4000000
theorem C7 (d:SetOf ps i)(e:ps≠[])(hz:∀ p∈ps,SzF 100 p)(K:tQ ps 1 L):L=(bO i).map eX:=by
 have a:∀ p∈ps,SzF 110 p:=λp b=>(hz p b).mono3 ⋯
 have O:=l4 d e;have r:jx ((bO i).map eX):=fb O λp b=>(a p (d.1 p (O.sub p b))).mono3 ⋯
 have k:1<=ps.length:=length_pos_iff.mpr e;refine Fa K.reg r λq g=>?_;rw[K.hold q g,mJ a g k (le_refl _)];constructor
 .exact λz=>ub d e a g (le_refl _) z
 .intro z h _ hm;refine(uq d e (λp b=>(hz p b).mono3 ⋯) g).mp z h λp b=>?_
  have a:eV h ps<=ps.length:=countP_le_length;have a:eV h ps=ps.length:=⋯
  exact(n7 h p).mp (countP_eq_length.mp a p b)
theorem MO (K:tQ ps k L):L≠[]↔∃ q:Hf,0<q.2.2/\k<=ud (ps.map (kh q)):=by
 constructor
 .intro h;obtain⟨s,a⟩:∃ s,s∈L:=List.exists_mem_of_ne_nil L h;have z:=b8 (K.reg.ok s a);exact⟨ah s,z,(K.hold _ z).mp (gm K.reg a (gq _))⟩
 .rintro⟨q,z,h⟩ e;have:=((K.hold q z).mpr h).ne;rw[e]at this;simp at this
theorem vx (f g:α->T):∀ l:List α,jE (l.map f) (l.map g)=l.map λx=>.tup [f x,g x]
 | []=>rfl
 |a::l=>by rw[map_cons,map_cons,map_cons,<-vx f g l];rfl
theorem JE (R:S->Prop)(a b:Bool):dQ (.t (.bl a)) (.t (.bl b)) R=R (.t (.bl (!(a == b)))):=by
 show(dep (.bl a)<=20/\dep (.bl b)<=20/\R (.t (.bl (!(a == b)))))=_;exact propext ⟨λh=>h.2.2,λh=>⟨zero_le _,zero_le _,h⟩⟩
def Ba (ps:List Pt)(G:List (List aS)):Prop:=G.length=ps.length+1/\∀ i (hi:i<G.length),tQ ps (i+1) G[i]
def fU (G:List (List aS)):List T:=G.map λL=>.lst (L.map spT)
def iT:aO:=λb R=>∃ (a:List Pt) (G:List (List aS)),b=[.t (.lst (a.map aZ)),.t (.lst (a.map λp=>.int (Fj a p))),.t (.lst (fU G))]/\Ba a G/\a.length<=7/\(∀ p∈a,SzF 100 p)/\R (.t (.bl true))
def ig:WS:=
 (aG (f5 (FQ (AR (vo (wB (JX .lst (af 1)))) (wB (IY (dP cL (ae (af 1) ap)) (dP cL (ae (af 0) ap)))))) (bh (wC (.bl false))) br)
 (cq (h7 (FK (ae (af 0) (ae (af 1) ap))) (qM (ea (aQ 3) (ea (aQ 4) mv))) (aG (aP 5 (cF (ae (cF (ae (av aU (af 3) (wC (.int 0))) (ae (wC (.int 1)) ap))) (ae (cF (ae (av aU (af 3) (wC (.int 1))) (ae (wC (.int 1)) ap))) ap))))
 (aG (f5 (vo (wB (ax hV (ae (af 4) ap)))) (bh (wC (.bl false))) br)
 (h7 (dN (ae (dP cL (ae (af 2) ap)) ap)) (aQ 6) (f5 (wB (IY (JW (ax dY (ae (av aU (af 2) (af 6)) (ae (af 5) ap))) (wC (.int 0))) (JW (af 4) (eM (af 6) (wC (.int 1)))))) (bh (wC (.bl false))) br)))))
 (bh (wC (.bl true)))))
theorem uT:∀ v R,iT v R->ig {nx:=λ_=>R (.t .non),rt:=R} (aD ["_law_points_here","_law_numbers_here","_law_regions","_law_point","_law_number","_law_spot","_law_k"] v):=by
 rintro v R ⟨a,G,rfl,q,d,hz,h⟩;have d:Sz 1 0:=⟨⋯⟩
 show ig _ [some (.t (.lst (a.map aZ))),some (.t (.lst (a.map λp=>.int (Fj a p)))),some (.t (.lst (fU G))),none,none,none,none]
 delta ig
 symm;refine⟨λb=>b=false,?_,?_⟩
 .symm;simp
 rintro b rfl;symm
 let M:bf->Prop:=λd=>∃ k o u r:Option S,d=[some (.t (.lst (a.map aZ))),some (.t (.lst (a.map λp=>.int (Fj a p)))),some (.t (.lst (fU G))),k,o,u,r]
 refine⟨M,?_,?_⟩
 .symm;rw[vx];refine x5 (f:=λp=>.tup [aZ p,.int (Fj a p)]) M ⟨_,_,_,_,rfl⟩ (λd z=>z) ?_;rintro⟨x,y⟩ g d ⟨k,o,u,r,rfl⟩ N B;symm;refine AV _ _ ?_;symm;have v:=q.1;have v:(fU G).length=G.length:=by unfold fU;rw[length_map]
  refine⟨ij ⋯ ⋯,?_⟩
  refine kD (n:=G.length) (by rw[v];ext) (λ_ d=>∃ r:Option S,d=[some (.t (.lst (a.map aZ))),some (.t (.lst (a.map λp=>.int (Fj a p)))),some (.t (.lst (fU G))),some (.t (.tup [.int x,.int y])),some (.t (.int (Fj a (x,y)))),some (.t (.tup [.tup [.int x,.int 1],.tup [.int y,.int 1]])),r]) ⟨_,rfl⟩ (by rintro d ⟨_,e⟩;exact B d ⟨_,_,_,_,e⟩) ?_
  rintro i d hi ⟨r,rfl⟩;have K:=q.2 i hi;have B:bH (eX (x,y)):=⟨⟨(by show(0:Int)<1;decide),(by show Int.gcd x 1=1;simp)⟩,⟨(by show(0:Int)<1;decide),(by show Int.gcd y 1=1;simp)⟩⟩
  have v:=hz _ g;have one:Sz 20000 (1:Int):=Sz.mono (Sz.of (m:=10) ⋯ ⋯) ⋯
  symm;have q:(fU G)[i]?=some (.lst (G[i].map spT)):=by unfold fU;rw[getElem?_map,List.getElem?_eq_getElem hi];rfl
  rw[dz (cJ q)];symm;refine⟨G[i],eX (x,y),rfl,by have:=K.len;ext,λp g=>bD (oJ K.reg p g).2 ⋯,⟨⟨v.1.mono ⋯,one⟩,v.2.mono ⋯,one⟩,λm hm=>?_⟩
  symm;have hh:=(sy (λp g=>K.reg.ok p g) B hm).trans (K.hold _ (b8 B));have e:decide ((0:Int)<=m)=decide (((i:Int)+1)<=(Fj a (x,y):Int)):=decide_eq_decide.mpr (hh.trans ⟨λz=>by have:i+1<=Fj a (x,y):=z;ext,λz=>show i+1<=Fj a (x,y) by ext⟩)
  rw[e,JE];symm;simp
 .rintro d ⟨k,o,u,r,rfl⟩;symm;exact h
set_option maxHeartbeats 4000000
def Hn:WS:=
 (bh (vm (tD (af 3) (af 4)) (tD (ax gv (ae (af 2) (ae (wC (.int 1)) ap))) (av aU (af 4) (wC (.int 0))))))
def LR:WS:=
 (aG (f5 (FQ (AR (wB (y9 (ax dY (ae (av aU (af 3) (dR (af 5) (wC (.int 1)))) (ae (af 6) ap))) (wC (.int 0)))) (vo (wB (ax iT (ae (af 2) (ae (ax o4 (ae (af 2) ap)) (ae (af 3) ap)))))))) (bh (wC (.bl false))) br)
 (aG (tz (ax gv (ae (af 2) (ae (wC (.int 1)) ap)))) Hn))
def Hm:WS:=
 (cq (h7 (dN (ae (dP cL (ae (af 3) ap)) ap)) (aQ 9) (aG (f5 (wB (IY (tD (av aU (af 3) (af 9)) (jC ap)) (AQ (eM (af 9) (wC (.int 1))) (af 5)))) (bh (wC (.bl false))) br)
 (h7 (bT (av aU (af 3) (af 9))) (aQ 10) (f5 (FQ (iW (wB (AQ (af 9) (wC (.int 0)))) (wB (y9 (ax dY (ae (av aU (af 3) (dR (af 9) (wC (.int 1)))) (ae (af 10) ap))) (wC (.int 0)))))) (bh (wC (.bl false))) br)))) LR)
def Hl:WS:=
 (aG (f5 (wB (IY (av aU (af 3) (wC (.int 0))) (ax k4 (ae (af 2) ap)))) (bh (wC (.bl false))) br)
 (aG (FI (ax j6 (ae (af 2) ap)) (qM (ea (aQ 5) (ea (aQ 6) (ea (aQ 7) (ea (aQ 8) mv)))))) Hm))
def Hk:WS:=
 (aG (aP 3 (dm 1 [2] (dN (ae (eM (dP cL (ae (af 2) ap)) (wC (.int 1))) ap)) (aQ 0) kg (ax gv (ae (af 1) (ae (eM (af 0) (wC (.int 1))) ap)))))
 (aG (aP 4 (dm 1 [] (bT (af 3)) (aQ 0) kg (dP gH (ae (af 0) ap)))) Hl))
def za:WS:=
 (aG (aP 1 (ax hE (ae (af 0) (ae (wC (.int 11)) ap))))
 (aG (aP 2 (ax iS (ae (af 1) (ae (av aU (jC (ae (eM (wC (.int 1)) (iY (av aU (af 1) (wC (.int 2))) (wC (.int 5)))) (ae (eM (wC (.int 6)) (iY (av aU (af 1) (wC (.int 2))) (wC (.int 2)))) ap))) (iX (iY (av aU (af 1) (wC (.int 3))) (wC (.int 6))) (wC (.int 5)))) ap)))) Hk))
structure AY (ps:List Pt):Prop where
 ne:ps≠[]
 l7:ps.length<=7
 hz:∀ p∈ps,SzF 100 p
theorem u2 {G:List (List aS)}{i:Nat}(hi:i<G.length)(R:S->Prop):atT (fU G) (i:Int) R=R (.t (.lst (G[i].map spT))):=dz (cJ (by unfold fU;rw[getElem?_map,List.getElem?_eq_getElem hi];rfl))
theorem BL (G:List (List aS)):dep (.lst (fU G))<=20:=by
 have h:∀ L:List aS,dep (.lst (L.map spT))<=3:=λL=>by have:=eE bi L;simp only[dep];ext
 have:=eE h G;unfold fU;simp only[dep];ext
theorem Pz (R:S->Prop)(G:List (List aS))(h:R (.t (.bl true))):dO (.t (.lst (fU G))) (.t (.lst (fU G))) R:=by
 have e:eqT (.lst (fU G)) (.lst (fU G))=true:=by
  unfold fU;simp only[eqT];exact(iE (f:=λL:List aS=>T.lst (L.map spT)) (λa b=>by simp only[eqT];exact iE bg a b) G G).mpr rfl
 exact⟨BL G,BL G,by rw[show OO (.t (.lst (fU G))) (.t (.lst (fU G)))=true from e];exact h⟩
theorem Pa {ts hd x y:List T}{ps:List Pt}{G:List (List aS)}{K:Nat}{s:aS}{R:S->Prop}{d r:Option S}(V:AY ps)(g:Ba ps G)(h:R (.t (.bl true))) :
  Hn {nx:=λ_=>R (.t .non),rt:=R} [some (.t (.lst ts)),some (.t (.lst hd)),some (.t (.lst (ps.map aZ))),some (.t (.lst (fU G))),some (.t (.lst (fU G))),some (.t (.int (K:Int))),some (.t (spT s)),some (.t (.lst x)),some (.t (.lst y)),d,r]:=by
 have b:∀ l:List aS,got (.ol (l.map spT))=.ol (l.map spT):=λl=>de _ (bp (λ_=>rfl) l);unfold Hn;symm;refine Pz _ G ?_;symm;have l7:=V.l7;refine⟨ps,1,rfl,V.ne,l7,V.hz,le_refl _,λL k=>?_⟩;have a:0<G.length:=by have:=g.1;ext
 dsimp only;rw[b,show(0:Int)=((0:Nat):Int) from rfl,u2 a];symm;rw[decide_eq_true (Fa k.reg (g.2 0 a).reg λq z=>by rw[k.hold q z,(g.2 0 a).hold q z])]
 exact h
theorem O9 {ts hd x y:List T}{ps:List Pt}{G:List (List aS)}{K:Nat}{s:aS}{R:S->Prop}{o r:Option S}(V:AY ps)(g:Ba ps G)(d:vB ps K s)(h:R (.t (.bl true))) :
  LR {nx:=λ_=>R (.t .non),rt:=R} [some (.t (.lst ts)),some (.t (.lst hd)),some (.t (.lst (ps.map aZ))),some (.t (.lst (fU G))),some (.t (.lst (fU G))),some (.t (.int (K:Int))),some (.t (spT s)),some (.t (.lst x)),some (.t (.lst y)),o,r]:=by
 have l7:=V.l7;have a:=g.1;have k1:=d.k1;have kn:=d.kn;have a:K-1<G.length:=⋯
 have k:=g.2 (K-1) a;have i:∀ l:List aS,got (.ol (l.map spT))=.ol (l.map spT):=λl=>de _ (bp (λ_=>rfl) l);unfold LR;generalize e:Hn=F;symm;refine⟨λb=>b=false,?_,?_⟩
 .symm;rw[show(K:Int)-1=((K-1:Nat):Int) by ext,u2 a]
  symm;refine⟨G[K-1],s,rfl,by have:=k.len;ext,λp a=>bD (oJ k.reg p a).2 ⋯,bD d.sz ⋯,λm hm=>?_⟩
  have:=(sy (λp a=>k.reg.ok p a) d.ok hm).mpr ((k.hold _ (b8 d.ok)).mpr (by rw[d.dep];ext))
  symm;rw[if_neg ⋯]
  refine⟨ps,rfl,⋯,λp a=>(V.hz p a).mono3 ⋯,?_⟩
  dsimp only;rw[de _ (bp (λ_=>rfl) ps)];symm;refine⟨ps,G,rfl,g,l7,V.hz,?_⟩;symm
 .rintro b rfl;symm;rw[Bg];symm;refine⟨ps,1,rfl,V.ne,l7,V.hz,le_refl _,λL _=>?_⟩;dsimp only;rw[i,OC,<-e];exact Pa V g h
theorem O8 {ts hd x y:List T}{ps:List Pt}{G:List (List aS)}{K:Nat}{s:aS}{R:S->Prop}(V:AY ps)(g:Ba ps G)(d:vB ps K s)(h:R (.t (.bl true))) :
  Hm {nx:=λ_=>R (.t .non),rt:=R} [some (.t (.lst ts)),some (.t (.lst hd)),some (.t (.lst (ps.map aZ))),some (.t (.lst (fU G))),some (.t (.lst (fU G))),some (.t (.int (K:Int))),some (.t (spT s)),some (.t (.lst x)),some (.t (.lst y)),none,none]:=by
 have a:Sz 1 0:=⟨⋯⟩
 have l7:=V.l7;have a:=g.1;have k:(fU G).length=G.length:=by unfold fU;rw[length_map]
 let M:bf->Prop:=λa=>∃ C r:Option S,a=[some (.t (.lst ts)),some (.t (.lst hd)),some (.t (.lst (ps.map aZ))),some (.t (.lst (fU G))),some (.t (.lst (fU G))),some (.t (.int (K:Int))),some (.t (spT s)),some (.t (.lst x)),some (.t (.lst y)),C,r]
 unfold Hm;refine⟨M,?_,?_⟩
 .symm;refine⟨ij ⋯ ⋯,?_⟩
  refine kD (n:=G.length) (by rw[k];ext) (λ_=>M) ⟨_,_,rfl⟩ (λa z=>z) ?_
  rintro i a hi ⟨C,r,rfl⟩;have k:=g.2 i hi;have o:decide (G[i]=[])=decide ((K:Int)<(i:Int)+1):=decide_eq_decide.mpr (by
   have:=MO k;constructor
   .intro e
    obtain z|z:=lt_or_le (K:Int) ((i:Int)+1)
    .exact z
    .exact absurd e (this.mpr ⟨ah s,b8 d.ok,by rw[d.dep];ext⟩)
   .intro z
    obtain e|e:=Decidable.em (G[i]=[])
    .exact e
    .obtain⟨q,u,v⟩:=this.mp e;have:=d.top q u;ext)
  symm;rw[u2 hi];symm;rw[JE,o];symm;rw[if_neg (by simp),u2 hi]
  symm;refine x5 (f:=spT) (λa=>∃ r:Option S,a=[some (.t (.lst ts)),some (.t (.lst hd)),some (.t (.lst (ps.map aZ))),some (.t (.lst (fU G))),some (.t (.lst (fU G))),some (.t (.int (K:Int))),some (.t (spT s)),some (.t (.lst x)),some (.t (.lst y)),some (.t (.int (i:Int))),r]) ⟨_,rfl⟩ (by rintro a ⟨_,e⟩;exact⟨_,_,e⟩) ?_
  rintro c u a ⟨r,rfl⟩ N E;symm;refine⟨λb=>b=false,?_,?_⟩
  .symm
   split
   .have o:0<i:=⋯
    have v:i-1<G.length:=⋯
    rw[show(i:Int)-1=((i-1:Nat):Int) by ext,u2 v]
    have o:=g.2 (i-1) v;have B:=k.reg.ok c u;symm;refine⟨G[i-1],c,rfl,by have:=o.len;ext,λp v=>bD (oJ o.reg p v).2 ⋯,bD (oJ k.reg c u).2 ⋯,λm hm=>?_⟩
    have D:=(k.hold _ (b8 B)).mp (gm k.reg u (gq _));have:=(sy (λp v=>o.reg.ok p v) B hm).mpr ((o.hold _ (b8 B)).mpr ⋯)
    symm;ext
   .trivial
  .rintro b rfl;symm;exact E _ ⟨_,rfl⟩
 .rintro a ⟨C,r,rfl⟩;exact O9 V g d h
theorem O7 (V:AY ps)(i:Ba ps G)(h:R (.t (.bl true))) :
  Hl {nx:=λ_=>R (.t .non),rt:=R} [some (.t (.lst ts)),some (.ol hd),some (.ol (ps.map aZ)),some (.ol (fU G)),some (.ol (fU G)),none,none,none,none,none,none]:=by
 have l7:=V.l7;unfold Hl;generalize q:Hm=D;obtain⟨e,g,rfl⟩:∃ e g,G=e::g:=by
  cases G with
  |nil=>exact absurd i.1 (by simp)
  |cons a b=>exact⟨a,b,rfl⟩
 have o:tQ ps 1 e:=i.2 0 (by simp)
 have m:fU (e::g)=.lst (e.map spT)::fU g:=rfl;symm;rw[m];symm;refine⟨ps,rfl,⋯,λp e=>(V.hz p e).mono3 ⋯,λe g=>?_⟩
 dsimp only;rw[show(bO e).map ck=((bO e).map eX).map spT by rw[map_map];rfl,de _ (bp (λ_=>rfl) _)]
 symm;rw[if_neg (by simpa using C7 g V.ne V.hz o)]
 refine⟨ps,rfl,V.ne,l7,V.hz,λk s x y d=>?_⟩;dsimp only;rw[show got (.t (.tup [.int (k:Int),spT s,.lst x,.lst y]))=.vt (.tup [.int (k:Int),spT s,.lst x,.lst y]) from rfl,<-m];symm;rw[<-q];exact O8 V i d h
theorem O6 (V:AY ps)(h:R (.t (.bl true))) :
  Hk {nx:=λ_=>R (.t .non),rt:=R} [some (.t (.lst ts)),some (.ol hd),some (.ol (ps.map aZ)),none,none,none,none,none,none,none,none]:=by
 have d:Sz 1 0:=⟨⋯⟩
 have q:∀ l:List aS,got (.ol (l.map spT))=.ol (l.map spT):=λl=>de _ (bp (λ_=>rfl) l);have l7:=V.l7;unfold Hk;generalize v:Hl=C;symm;refine⟨ij (by rw[length_map];ext) (by rw[length_map];ext),?_⟩
 refine⟨λg b a=>∃ (G:List (List aS)) (m:Nat) (r:Option S),g=bS (G.length:Int) m/\G.length+m=ps.length+1/\b=[r,some (.t (.lst (ps.map aZ)))]/\a=fU G/\∀ i (hi:i<G.length),tQ ps (i+1) G[i],⟨[],ps.length+1,_,by rw[length_map];rfl,by simp,rfl,rfl,λi hi=>(by simp at hi)⟩,?_,?_⟩
 .rintro b a ⟨G,m,r,e,u,rfl,rfl,o⟩
  cases m with
  |succ m=>rw[i9]at e;cases e
  |zero=>
   symm;refine⟨λg b a=>∃ (pre p:List (List aS)) (r:Option S),G=pre++p/\g=fU p/\b=[r]/\a=fU pre,⟨[],G,_,rfl,rfl,rfl,rfl⟩,?_,?_⟩
   .rintro b a ⟨pre,p,r,d,k,rfl,rfl⟩;have:p=[]:=by unfold fU at k;simpa using k.symm
    subst this;rw[append_nil]at d;subst d;rw[<-v];exact O7 V ⟨⋯,o⟩ h
   .rintro x g b a ⟨pre,p,r,d,k,rfl,rfl⟩
    cases p with
    |nil=>cases k
    |cons L p=>
     obtain⟨rfl,rfl⟩:=List.cons.inj k;symm;have k:G.length=pre.length+(p.length+1):=by rw[d];simp
     exact⟨by unfold fU;rw[length_map];ext,pre++[L],p,_,by rw[List.append_assoc];exact d,rfl,rfl,by unfold fU;rw[map_append];rfl⟩
 .rintro x g b a ⟨G,m,r,e,u,rfl,rfl,o⟩
  cases m with
  |zero=>cases e
  |succ m=>
   rw[i9]at e;obtain⟨rfl,rfl⟩:=List.cons.inj e;symm;refine⟨ps,G.length+1,rfl,V.ne,l7,V.hz,⋯,λL K=>?_⟩
   dsimp only;rw[q,yf];refine⟨bp (λ_=>rfl) L,by unfold fU;rw[length_map];ext,G++[L],m,_,by rw[List.length_append];rfl,by rw[List.length_append];show G.length+1+m=_;ext,rfl,by unfold fU;rw[map_append];rfl,λi hi=>?_⟩
   rw[List.length_append,length_singleton]at hi
   obtain z|z:=lt_or_ge i G.length
   .rw[getElem_append_left z];exact o i z
   .have:i=G.length:=⋯
    subst this;rw[getElem_append_right (le_refl _)];simpa using K
theorem Md:∀ g R,yT g R->za {nx:=λ_=>R (.t .non),rt:=R} (aD ["_law_script","_law_head","_law_points_here","_law_regions","_law_kept","_law_many","_law_spot","_law_halves","_law_weights","_law_k","_law_corner"] g):=by
 rintro g R ⟨ns,rfl,a,h⟩;have d:Sz 1 0:=⟨⋯⟩
 show za _ [some (.t (.lst (ns.map .int))),none,none,none,none,none,none,none,none,none,none]
 delta za
 generalize q:Hk=B;symm;refine⟨ns,11,rfl,a,⋯,⋯,λhd a b=>?_⟩
 symm;refine wx (i:=2) ⋯ b λa _ _=>?_
 have d:=fmod_lo a (n:=5) ⋯
 have d:=fmod_hi a (n:=5) ⋯
 walk_at"go";refine wx (i:=2) ⋯ b λd _ _=>?_
 have g:=fmod_lo d (n:=2) ⋯
 have g:=fmod_hi d (n:=2) ⋯
 walk_at"go";refine wx (i:=3) ⋯ b λv _ _=>?_
 have g:=fmod_lo v (n:=6) ⋯
 have g:=fmod_hi v (n:=6) ⋯
 walk_at"go";have o:(v.fmod 6).fdiv 5=0\/(v.fmod 6).fdiv 5=1:=by
  generalize v.fmod 6=x at *;have:x=0\/x=1\/x=2\/x=3\/x=4\/x=5:=⋯
  rcases this with rfl|rfl|rfl|rfl|rfl|rfl <;> decide
 obtain⟨m,k,g,g⟩:∃ m:Int,1<=m/\m<=7/\∀ R:S->Prop,atT [T.int (1+a.fmod 5),T.int (6+d.fmod 2)] ((v.fmod 6).fdiv 5) R=R (.t (.int m)):=by
  obtain e|e:=o
  .exact⟨1+a.fmod 5,⋯,⋯,λR=>by rw[e];rfl⟩
  .exact⟨6+d.fmod 2,⋯,⋯,λR=>by rw[e];rfl⟩
 rw[g];refine⟨hd,m,rfl,⋯,b,k,⋯,λd a b=>?_⟩
 dsimp only;rw[de _ (yN d)];symm;rw[<-q];exact O6 ⟨λe=>by rw[e]at a;simp at a;ext,⋯,λp a=>⟨(BS (b p a).1).mono ⋯,(BS (b p a).2).mono ⋯⟩⟩ h
end Law
namespace PySem.W.Fast
def tw5363449582207543048:=0
def tw9186377120669640527:=0
def tw4674377249366552050:=0
def tw9966326482957640202:=0
def tw9124479269770206072:=0
def tw10804931347345516763:=0
def tw8806922866980700855:=0
def tw5743647045991079339:=0
def tw10121063564361480869:=0
def tw14110964920591419885:=0
def tw3057055841489012763:=0
def tw9971178583100222830:=0
def tw487058291141478842:=0
def tw16023151786736573867:=0
def tw13303100402210859442:=0
def tw17946942004070436661:=0
def tw6829793167814654763:=0
def tw12210619650589005013:=0
def tw4343274137427108818:=0
def tw13032443042846863858:=0
def tw11795586143265472295:=0
def tw5293352296485110247:=0
def tw9854859942587458474:=0
def tw10188660691289534281:=0
def tw2040605636758019071:=0
def tw14392212083592696996:=0
def tw4570566472767582385:=0
def tw16765764292259542698:=0
def tw10563962030100217658:=0
def tw15606972059487102088:=0
def tw641735365418427476:=0
def tw2339326465524775919:=0
def tw7331924949549520323:=0
def tw6700667573515410312:=0
def tw11039118820250867485:=0
def tw15579714318323767476:=0
def tw16418870546633797690:=0
def tw171094652539350869:=0
def tw5399007302259144811:=0
def tw772672359702862906:=0
def tw14168601219070433122:=0
def tw3086463844201841934:=0
def tw17283335732257365007:=0
def tw3704598259870534056:=0
def tw18433282769829122603:=0
def tw8775570577802677985:=0
def tw2279505230984620264:=0
def tw8585007795021061876:=0
def tw15787312537674532448:=0
def tw7611578385038497718:=0
def tw3358132975263523278:=0
def tw10658418394503072080:=0
def tw7182342977623441693:=0
def tw14536626250290336530:=0
def tw6269772121279120032:=0
def tw17303375428199080315:=0
def tw92159296419728048:=0
def tw8991839296389489463:=0
def tw2030187087317640714:=0
def tw16496933144138447731:=0
def tw8389875760389343264:=0
def tw14582908381895693792:=0
def tw15491381076661672629:=0
def tw4328302905311212250:=0
def tw15712478889192889550:=0
def tw3073599842567515618:=0
def tw3121561534718690535:=0
def tw1213898684576112791:=0
def tw12693195980003696920:=0
def tw10830574886235564345:=0
def tw6714781227664555904:=0
def tw5656296614232682069:=0
def tw8098162607477662919:=0
def tw4832029443730656409:=0
def tw7882496742696387218:=0
def tw16918030784011999979:=0
def tw16281120405669121875:=0
def tw11750473918806526381:=0
def tw243290991967029242:=0
def tw11891442414682461268:=0
def tw6895915076843191142:=0
def tw7397708738790278541:=0
def tw18185740847669893800:=0
def tw1579495667179375694:=0
def tw7262340910170896794:=0
def tw15697462170598685140:=0
def tw97758430969423263:=0
def tw2467015226257189545:=0
def tw2117742497590842833:=0
def tw3207189162623428217:=0
def tw1191276500465205977:=0
def tw3163518903767343803:=0
def tw7722194851869290396:=0
def tw14862098603603138778:=0
def tw12013556829971602845:=0
def tw14388413717741678181:=0
def tw14334985021318443196:=0
def tw9102316018903406131:=0
def tw5732308083456282820:=0
def tw15737098261107274515:=0
def tw10872120826517696467:=0
def tw732100018811026861:=0
def tw4942431919599833035:=0
def tw15693002467743397560:=0
def tw60599980898554601:=0
def tw15877698599004852013:=0
def tw11123136148249582514:=0
def tw4268450016866571299:=0
def tw10785800294657080305:=0
def tw940599932067243076:=0
def tw880555959591447029:=0
def tw12678941269156361642:=0
def tw2634684005567859746:=0
def tw74863323746033307:=0
def tw5638507832915796725:=0
def tw935768908583742948:=0
def tw8232949197876126190:=0
def tw15132512220564402459:=0
end PySem.W.Fast
namespace Law
open PySem PyProof.Rows L2 DL
set_option maxHeartbeats 4000000
def top (i:Nat):Stmt:=PySem.Challenge.pw_deepspot_k63_whole_regions_in_one_anothe.main.body.getD i (.Pass ⟨0,0,0,0⟩)
local macro_rules | `(tactic| walk_at"fs")=>`(tactic| exact⟨rfl,rfl,rfl,by decide +kernel,rfl,by decide +kernel,by decide +kernel⟩)
local macro_rules | `(tactic| walk_at"ln")=>`(tactic| (intro ss R h;repeat (first | (obtain⟨h,_⟩:=h;subst h;rfl) | (cases h with | inl h=>(repeat (first | (obtain⟨h,_⟩:=h;subst h;rfl) | (obtain⟨_,h⟩:=h))) | inr h=>(repeat (first | (obtain⟨h,_⟩:=h;subst h;rfl) | (obtain⟨_,h⟩:=h)))) | (obtain⟨_,h⟩:=h))))
theorem RG {α:Type}{P:List α->Prop}(h:∀ a,P [a]):∀ u,u.length=1->P u
 | [a],_=>h a
theorem RH {α:Type}{P:List α->Prop}(h:∀ a b,P [a,b]):∀ u,u.length=2->P u
 | [a,b],_=>h a b
theorem RJ {α:Type}{P:List α->Prop}(h:∀ a b c,P [a,b,c]):∀ u,u.length=3->P u
 | [a,b,c],_=>h a b c
theorem RK {α:Type}{P:List α->Prop}(h:∀ a b c d,P [a,b,c,d]):∀ u,u.length=4->P u
 | [a,b,c,d],_=>h a b c d
local macro_rules | `(tactic| walk_at"bn")=>`(tactic| exact fun _ _ _ _ _ _=>by first | exact RG fun _=>rfl | exact RH fun _ _=>rfl | exact RJ fun _ _ _=>rfl | exact RK fun _ _ _ _=>rfl)
section
variable {X:Cx}{e:Expr}{es:List Expr}{wa:WA}{pos:Pos}
theorem ai {k k':Nat}{x:Str}{sp:aO}{p:Pos} (C:Callee X.prog X.w X.K X.mg X.base k x sp) (hr:cu k' X.A) (ha:PA X (e::es) (cY X.K wa)) (hk:k<=k':=by decide) (hg:Gl X x:=by rfl) (hdb:(x == ("__debug__":Str))=false:=by decide)
  (he:starEach (e::es) X.env=(false,eval e X.env)::starEach es X.env:=by exact aN rfl) (hpl:(backTo pos (starEach es X.env)).any (·.1)=false:=by exact cm rfl):PE X (.Call (.Name x p) (e::es) [] pos) (au X.K (ax sp wa)):=xP C (hr.mono hk) hg ha hdb he hpl
end
structure P4 where
 (P:Program) (w:World) (K:Frg) (mg:Str->Option Value) (base:Heap) (f:Addr) (cdv:Value) (A:Around) (outer:List Env) (s:Shared) (H:Hp) (E:XK)
abbrev Ce (e:P4)(k:Nat)(x:Str)(sp:aO):Prop:=Callee e.P e.w e.K e.mg e.base k x sp
abbrev Rm (e:P4)(k:Nat)(n:Str)(st:Stmt):Prop:=cu k (e.A.deeper (envOfC n (al st) e.s.heap.objs.size e.f e.cdv))
abbrev Bd (e:P4){N ps:List Str}{st:Stmt}(_:ay N ps (al st))(n:Str)(u:WS):Prop:=ki (pz xx e.P e.w e.K e.mg e.base N n (al st) e.f e.cdv e.A e.outer e.s e.H e.E).nox (cy st) (bK e.K e.H u)
section
variable {e:P4}
abbrev lV:Stmt:=top 7
theorem dB:ay ["one","other","greater","lesser","rest"] ["one","other"] (al lV):=by walk_at"fs"
theorem zn (m0:e.mg "abs"=none) (hr:Rm e 0 "divisor" lV):Bd e dB "divisor" jn:=
 (aj (aw (i:=2) dB.nd (eP m0 (aa (dv 0) ag)))
 (aj (aw (i:=3) dB.nd (eP m0 (aa (dv 1) ag)))
 (aR (nM PassesOwn.never (mh hr (dv 3) ab) (aj (aw (i:=4) dB.nd (cZ (dv 2) (dv 3)))
 (aj (aw (i:=2) dB.nd (dv 3))
 (am (aw (i:=3) dB.nd (dv 4))))))
 (am (gE (pv 2))))))
abbrev sV:Stmt:=top 8
theorem kU:ay ["top","bottom","common"] ["top","bottom"] (al sV):=by walk_at"fs"
theorem GF (c0:Ce e 1 "divisor" cQ) (hr:Rm e 1 "ratio" sV):Bd e kU "ratio" nq:=
 (aj (bB (fB hr (dv 1) ab) (am iB) aK)
 (aj (aw (i:=2) kU.nd (ai c0 hr (aa (dv 0) (aa (dv 1) ag))))
 (aR (bB (iC (dv 1) ab) (am (aw (i:=2) kU.nd (da (dv 2)))) aK)
 (am (aC (ba (aa (ec (dv 0) (dv 2)) (aa (ec (dv 1) (dv 2)) ag))))))))
abbrev sQ:Stmt:=top 9
theorem u7:ay ["one","other"] ["one","other"] (al sQ):=by walk_at"fs"
theorem Gy (hr:Rm e 0 "below" sQ):Bd e u7 "below" mZ:=
 (am (aC (OH (aF (ao (dv 0) ab) (ao (dv 1) ab)) (aF (ao (dv 1) ab) (ao (dv 0) ab)))))
abbrev xh:Stmt:=top 11
theorem sW:ay ["a","b","c","common"] ["a","b","c"] (al xh):=by walk_at"fs"
theorem KN (c0:Ce e 1 "divisor" cQ) (hr:Rm e 1 "half" xh):Bd e sW "half" tH:=
 (aj (bB (rz (PW.pt (gF (fB hr (dv 0) ab) (fC (fB hr (dv 1) ab))))) (am iB) aK)
 (aj (aw (i:=3) sW.nd (ai c0 hr (aa (ai c0 hr (aa (dv 0) (aa (dv 1) ag))) (aa (dv 2) ag))))
 (am (aC (ba (aa (ec (dv 0) (dv 3)) (aa (ec (dv 1) (dv 3)) (aa (ec (dv 2) (dv 3)) ag))))))))
abbrev lS:Stmt:=top 12
theorem gZ:ay ["one","other","a","b"] ["one","other"] (al lS):=by walk_at"fs"
theorem zj (c3:Ce e 2 "half" kZ) (hr:Rm e 2 "between" lS):Bd e gZ "between" jj:=
 (aj (aw (i:=2) gZ.nd (bF (ao (dv 0) ab) (ao (dv 1) ab)))
 (aj (aw (i:=3) gZ.nd (bF (ao (dv 1) ab) (ao (dv 0) ab)))
 (am (aC (ai c3 hr (aa (dv 2) (aa (dv 3) (aa (bP (aF (dv 2) (ao (dv 0) ab)) (aF (dv 3) (ao (dv 0) ab))) ag))))))))
abbrev sO:Stmt:=top 13
theorem u4:ay ["one","other"] ["one","other"] (al sO):=by walk_at"fs"
theorem Gv (hr:Rm e 0 "along" sO):Bd e u4 "along" mW:=
 (am (aC (bP (aF (ao (dv 0) ab) (ao (dv 1) ab)) (aF (ao (dv 0) ab) (ao (dv 1) ab)))))
abbrev lR:Stmt:=top 14
theorem oT:ay ["point"] ["point"] (al lR):=by walk_at"fs"
theorem zi (hr:Rm e 0 "as_spot" lR):Bd e oT "as_spot" ji:=
 (am (aC (ba (aa (ba (aa (ao (dv 0) ab) (aa ab ag))) (aa (ba (aa (ao (dv 0) ab) (aa ab ag))) ag)))))
abbrev lT:Stmt:=top 15
theorem oU:ay ["spot"] ["spot"] (al lT):=by walk_at"fs"
theorem zk (hr:Rm e 0 "bottoms" lT):Bd e oU "bottoms" jk:=
 (am (aC (aF (ao (ao (dv 0) ab) ab) (ao (ao (dv 0) ab) ab))))
abbrev oO:Stmt:=top 16
theorem jg:ay ["half","spot","x","y"] ["half","spot"] (al oO):=by walk_at"fs"
theorem Bs (c7:Ce e 1 "bottoms" cO) (hr:Rm e 1 "excess" oO):Bd e jg "excess" li:=
 (aj (aw (i:=2) jg.nd (ao (dv 1) ab))
 (aj (aw (i:=3) jg.nd (ao (dv 1) ab))
 (am (aC (bF (bP (aF (aF (ao (dv 0) ab) (ao (dv 2) ab)) (ao (dv 3) ab)) (aF (aF (ao (dv 0) ab) (ao (dv 3) ab)) (ao (dv 2) ab))) (aF (ao (dv 0) ab) (ai c7 hr (aa (dv 1) ag))))))))
abbrev xj:Stmt:=top 17
theorem yR:ay ["number"] ["number"] (al xj):=by walk_at"fs"
theorem KQ (hr:Rm e 0 "sign" xj):Bd e yR "sign" tJ:=
 (aj (bB (jK (dv 0) ab) (am (aC ab)) aK)
 (aj (bB (iC (dv 0) ab) (am (aC (da ab))) aK)
 (am (aC ab))))
abbrev xi:Stmt:=top 18
theorem yQ:ay ["half","spot"] ["half","spot"] (al xi):=by walk_at"fs"
theorem KP (c9:Ce e 1 "sign" k7) (c8:Ce e 2 "excess" dE) (hr:Rm e 2 "side" xi):Bd e yQ "side" w_side:=
 (am (aC (ai c9 hr (aa (ai c8 hr (aa (dv 0) (aa (dv 1) ag))) ag))))
abbrev je:Stmt:=top 19
theorem oY:ay ["half","points"] ["half","points"] (al je):=by walk_at"fs"
theorem zu (m1:e.mg "len"=none) (hr:Rm e 0 "many_in" je):Bd e oY "many_in" jt:=
 (am (aC (bE m1 (aa (dI (N:=["point","half"]) (own:=1) (fr:=[0]) (NX:=["half","points"]) (ar:=al je) (by decide +kernel) (bN (dv 1)) bI (λ_ _ _ _=>(aI (i:=0) (show List.Nodup (["point","half"]:List Str) by decide))) (λ_ _ _ _=>(kB (xU (bP (aF (ao (dv 1) ab) (ao (dv 0) ab)) (aF (ao (dv 1) ab) (ao (dv 0) ab))) (ao (dv 1) ab)))) (λ_ _ _ _=>(dv 0))) ag))))
abbrev oP:Stmt:=top 21
theorem qA:ay ["one","other"] ["one","other"] (al oP):=by walk_at"fs"
theorem Bt (c2:Ce e 1 "below" dL) (hr:Rm e 1 "lesser" oP):Bd e qA "lesser" lj:=
 (aj (bB (fB hr (ao (dv 0) ab) (ao (dv 1) ab)) (am (aC (ai c2 hr (aa (ao (dv 0) ab) (aa (ao (dv 1) ab) ag))))) aK)
 (am (aC (ai c2 hr (aa (ao (dv 0) ab) (aa (ao (dv 1) ab) ag))))))
abbrev iM:Stmt:=top 22
theorem kW:ay ["spot"] ["spot"] (al iM):=by walk_at"fs"
theorem tX (c7:Ce e 1 "bottoms" cO) (hr:Rm e 1 "stretched" iM):Bd e kW "stretched" fK:=
 (am (aC (ba (aa (aF (ao (ao (dv 0) ab) ab) (ao (ao (dv 0) ab) ab)) (aa (aF (ao (ao (dv 0) ab) ab) (ao (ao (dv 0) ab) ab)) (aa (ai c7 hr (aa (dv 0) ag)) ag))))))
abbrev xk:Stmt:=top 23
theorem g8:ay ["one","other","third","here","there","a","b","c"] ["one","other","third"] (al xk):=by walk_at"fs"
theorem KR (c13:Ce e 2 "stretched" bZ) (c8:Ce e 2 "excess" dE) (hr:Rm e 2 "turn" xk):Bd e g8 "turn" tK:=
 (aj (aw (i:=3) g8.nd (ai c13 hr (aa (dv 0) ag)))
 (aj (aw (i:=4) g8.nd (ai c13 hr (aa (dv 1) ag)))
 (aj (aw (i:=5) g8.nd (bF (aF (ao (dv 3) ab) (ao (dv 4) ab)) (aF (ao (dv 3) ab) (ao (dv 4) ab))))
 (aj (aw (i:=6) g8.nd (bF (aF (ao (dv 3) ab) (ao (dv 4) ab)) (aF (ao (dv 3) ab) (ao (dv 4) ab))))
 (aj (aw (i:=7) g8.nd (bF (aF (ao (dv 3) ab) (ao (dv 4) ab)) (aF (ao (dv 3) ab) (ao (dv 4) ab))))
 (am (aC (ai c8 hr (aa (ba (aa (dv 5) (aa (dv 6) (aa (dv 7) ag)))) (aa (dv 2) ag))))))))))
abbrev sR:Stmt:=top 24
theorem kS:ay ["spots","kept","spot"] ["spots"] (al sR):=by walk_at"fs"
theorem Gz (m1:e.mg "len"=none) (c14:Ce e 3 "turn" hZ) (hr:Rm e 3 "chain" sR):Bd e kS "chain" ng:=
 (aj (aw (i:=1) kS.nd (dJ ag))
 (aR (cK PassesOwn.never (bN (dv 0)) (aI (i:=2) kS.nd) (aR (nM PassesOwn.never (rz (PW.pt (gF (jK (bE m1 (aa (dv 1) ag)) ab) (fC (OI (ai c14 hr (aa (ao (dv 1) (da ab)) (aa (ao (dv 1) (da ab)) (aa (dv 2) ag)))) ab))))) (am (Li (i:=1))))
 (am (e9 (i:=1) (dv 2)))))
 (am (gE (pv 1)))))
abbrev sT:Stmt:=top 25
theorem kT:ay ["points","spots","under","above"] ["points"] (al sT):=by walk_at"fs"
theorem KO (m2:e.mg "sorted"=none) (m3:e.mg "set"=none) (m1:e.mg "len"=none) (m4:e.mg "list"=none) (m5:e.mg "reversed"=none) (c6:Ce e 1 "as_spot" fv) (c15:Ce e 4 "chain" kX) (hr:Rm e 4 "hull" sT):Bd e kT "hull" tI:=
 (aj (dW (i:=1) kT.nd (N:=["point"]) (own:=1) (fr:=[]) (NX:=["points","spots","under","above"]) (ar:=al sT) (by decide +kernel) (bN (nL hr m2 m3 hr.hd (dv 0))) bI (λ_ _ _ _=>(aI (i:=0) (show List.Nodup (["point"]:List Str) by decide))) (λ_ _ _ _=>dr) (λ_ _ _ _=>(ai c6 hr (aa (dv 0) ag))))
 (aj (bB (iC (bE m1 (aa (dv 1) ag)) ab) (am (gE (pv 1))) aK)
 (aj (aw (i:=2) kT.nd (ai c15 hr (aa (dv 1) ag)))
 (aj (aw (i:=3) kT.nd (ai c15 hr (aa (v5 m4 m5 hr.hd (dv 1)) ag)))
 (am (aC (vX (gi (dv 2) i3 (i4 (da ab))) (gi (dv 3) i3 (i4 (da ab))))))))))
abbrev mU:Stmt:=top 26
theorem vc:ay ["region"] ["region"] (al mU):=by walk_at"fs"
theorem GG (m6:e.mg "range"=none) (m1:e.mg "len"=none) (hr:Rm e 0 "sides" mU):Bd e vc "sides" nr:=
 (am (aC (dI (N:=["place","region"]) (own:=1) (fr:=[0]) (NX:=["region"]) (ar:=al mU) (by decide +kernel) (bU m6 (aa (bE m1 (aa (dv 0) ag)) ag)) bI (λ_ _ _ _=>(aI (i:=0) (show List.Nodup (["place","region"]:List Str) by decide))) (λ_ _ _ _=>dr) (λ_ _ _ _=>(ba (aa (ao (dv 1) (bF (dv 0) ab)) (aa (ao (dv 1) (dv 0)) ag)))))))
abbrev gW:Stmt:=top 27
theorem dj:ay ["corners","first","place"] ["corners"] (al gW):=by walk_at"fs"
theorem qT (m6:e.mg "range"=none) (m1:e.mg "len"=none) (c12:Ce e 2 "lesser" fc) (hr:Rm e 2 "from_least" gW):Bd e dj "from_least" e6:=
 (aj (aw (i:=1) dj.nd ab)
 (aR (cK PassesOwn.never (bU m6 (aa (bE m1 (aa (dv 0) ag)) ag)) (aI (i:=2) dj.nd) (am (bB (iD (ai c12 hr (aa (ao (dv 0) (dv 2)) (aa (ao (dv 0) (dv 1)) ag)))) (am (aw (i:=1) dj.nd (dv 2))) aK)))
 (am (aC (vX (gi (dv 0) (i4 (dv 1)) i3) (gi (dv 0) i3 (i4 (dv 1))))))))
abbrev sU:Stmt:=top 28
theorem oZ:ay ["one","one_weight","other","other_weight","top"] ["one","one_weight","other","other_weight"] (al sU):=by walk_at"fs"
theorem GC (c1:Ce e 2 "ratio" gu) (hr:Rm e 2 "mixed" sU):Bd e oZ "mixed" nj:=
 (aj (aw (i:=4) oZ.nd (bP (aF (aF (ao (dv 0) ab) (ao (dv 2) ab)) (dv 1)) (aF (aF (ao (dv 2) ab) (ao (dv 0) ab)) (dv 3))))
 (am (aC (ai c1 hr (aa (dv 4) (aa (aF (aF (ao (dv 0) ab) (ao (dv 2) ab)) (bP (dv 1) (dv 3))) ag))))))
abbrev jZ:Stmt:=top 29
theorem dC:ay ["half","one","other","one_weight","other_weight","x","y"] ["half","one","other"] (al jZ):=by walk_at"fs"
theorem vK (m0:e.mg "abs"=none) (c8:Ce e 2 "excess" dE) (c7:Ce e 1 "bottoms" cO) (c19:Ce e 3 "mixed" k5) (hr:Rm e 3 "crossing" jZ):Bd e dC "crossing" h9:=
 (aj (aw (i:=3) dC.nd (aF (eP m0 (aa (ai c8 hr (aa (dv 0) (aa (dv 2) ag))) ag)) (ai c7 hr (aa (dv 1) ag))))
 (aj (aw (i:=4) dC.nd (aF (eP m0 (aa (ai c8 hr (aa (dv 0) (aa (dv 1) ag))) ag)) (ai c7 hr (aa (dv 2) ag))))
 (aj (aw (i:=5) dC.nd (ai c19 hr (aa (ao (dv 1) ab) (aa (dv 3) (aa (ao (dv 2) ab) (aa (dv 4) ag))))))
 (aj (aw (i:=6) dC.nd (ai c19 hr (aa (ao (dv 1) ab) (aa (dv 3) (aa (ao (dv 2) ab) (aa (dv 4) ag))))))
 (am (aC (ba (aa (dv 5) (aa (dv 6) ag)))))))))
abbrev lU:Stmt:=top 30
theorem fo:ay ["region","half","kept","pair","spot"] ["region","half"] (al lU):=by walk_at"fs"
theorem zl (c17:Ce e 1 "sides" iU) (c10:Ce e 3 "side" hX) (c20:Ce e 4 "crossing" iR) (c18:Ce e 3 "from_least" fX) (hr:Rm e 4 "clipped" lU):Bd e fo "clipped" jl:=
 (aj (aw (i:=2) fo.nd (dJ ag))
 (aR (cK PassesOwn.never (bN (ai c17 hr (aa (dv 0) ag))) (aI (i:=3) fo.nd) (aR (bB (iC (aF (ai c10 hr (aa (dv 1) (aa (ao (dv 3) ab) ag))) (ai c10 hr (aa (dv 1) (aa (ao (dv 3) ab) ag)))) ab) (aj (aw (i:=4) fo.nd (ai c20 hr (aa (dv 1) (aa (ao (dv 3) ab) (aa (ao (dv 3) ab) ag)))))
 (am (bB (BR hr (dv 4) (dv 2)) (am (e9 (i:=2) (dv 4))) aK))) aK)
 (am (bB (xU (ai c10 hr (aa (dv 1) (aa (ao (dv 3) ab) ag))) ab) (am (e9 (i:=2) (ao (dv 3) ab))) aK))))
 (am (aC (ai c18 hr (aa (dv 2) ag))))))
abbrev gX:Stmt:=top 31
theorem jO:ay ["first","last","spot"] ["first","last","spot"] (al gX):=by walk_at"fs"
theorem qV (c14:Ce e 3 "turn" hZ) (c12:Ce e 2 "lesser" fc) (hr:Rm e 3 "on_stretch" gX):Bd e jO "on_stretch" e8:=
 (aj (bB (mh hr (ai c14 hr (aa (dv 0) (aa (dv 1) (aa (dv 2) ag)))) ab) (am (aC kA)) aK)
 (am (aC (vW (v6 (ai c12 hr (aa (dv 2) (aa (dv 0) ag)))) (v7 (v6 (ai c12 hr (aa (dv 1) (aa (dv 2) ag)))))))))
abbrev jc:Stmt:=top 32
theorem oX:ay ["region","spot"] ["region","spot"] (al jc):=by walk_at"fs"
theorem zr (m1:e.mg "len"=none) (m7:e.mg "min"=none) (c22:Ce e 4 "on_stretch" fY) (c17:Ce e 1 "sides" iU) (c9:Ce e 1 "sign" k7) (c14:Ce e 3 "turn" hZ) (hr:Rm e 4 "lies_in" jc):Bd e oX "lies_in" jr:=
 (aj (bB (fB hr (bE m1 (aa (dv 0) ag)) ab) (am (aC (da ab))) aK)
 (aj (bB (iC (bE m1 (aa (dv 0) ag)) ab) (am (aC (K8 (iD (ai c22 hr (aa (ao (dv 0) ab) (aa (ao (dv 0) (da ab)) (aa (dv 1) ag))))) ab (da ab)))) aK)
 (am (aC (GS m7 (aa (dI (N:=["pair","spot"]) (own:=1) (fr:=[1]) (NX:=["region","spot"]) (ar:=al jc) (by decide +kernel) (bN (ai c17 hr (aa (dv 0) ag))) bI (λ_ _ _ _=>(aI (i:=0) (show List.Nodup (["pair","spot"]:List Str) by decide))) (λ_ _ _ _=>dr) (λ_ _ _ _=>(ai c9 hr (aa (ai c14 hr (aa (ao (dv 0) ab) (aa (ao (dv 0) ab) (aa (dv 1) ag)))) ag)))) ag))))))
abbrev oN:Stmt:=top 34
theorem qz:ay ["one","other"] ["one","other"] (al oN):=by walk_at"fs"
theorem Br (hr:Rm e 0 "across" oN):Bd e qz "across" lg:=
 (am (aC (bF (aF (ao (dv 0) ab) (ao (dv 1) ab)) (aF (ao (dv 0) ab) (ao (dv 1) ab)))))
abbrev lZ:Stmt:=top 35
theorem fu:ay ["border","step","bottom","x","y"] ["border","step"] (al lZ):=by walk_at"fs"
theorem zz (c5:Ce e 1 "along" cD) (c1:Ce e 2 "ratio" gu) (hr:Rm e 2 "spot_at" lZ):Bd e fu "spot_at" jv:=
 (aj (aw (i:=2) fu.nd (aF (ai c5 hr (aa (dv 0) (aa (dv 0) ag))) (ao (dv 1) ab)))
 (aj (aw (i:=3) fu.nd (bF (aF (aF (ao (dv 0) ab) (ao (dv 0) ab)) (ao (dv 1) ab)) (aF (ao (dv 0) ab) (ao (dv 1) ab))))
 (aj (aw (i:=4) fu.nd (bP (aF (aF (ao (dv 0) ab) (ao (dv 0) ab)) (ao (dv 1) ab)) (aF (ao (dv 0) ab) (ao (dv 1) ab))))
 (am (aC (ba (aa (ai c1 hr (aa (dv 3) (aa (dv 2) ag))) (aa (ai c1 hr (aa (dv 4) (aa (dv 2) ag))) ag))))))))
abbrev sP:Stmt:=top 36
theorem u6:ay ["border","other"] ["border","other"] (al sP):=by walk_at"fs"
theorem Gx (c5:Ce e 1 "along" cD) (hr:Rm e 1 "asked" sP):Bd e u6 "asked" mY:=
 (am (aC (bF (aF (ao (dv 1) ab) (ai c5 hr (aa (dv 0) (aa (dv 0) ag)))) (aF (ai c5 hr (aa (dv 0) (aa (dv 1) ag))) (ao (dv 0) ab)))))
abbrev lY:Stmt:=top 37
theorem g7:ay ["border","other","top","bottom"] ["border","other"] (al lY):=by walk_at"fs"
theorem zv (c26:Ce e 2 "asked" iP) (c24:Ce e 1 "across" cj) (hr:Rm e 2 "meeting" lY):Bd e g7 "meeting" ju:=
 (aj (aw (i:=2) g7.nd (ai c26 hr (aa (dv 0) (aa (dv 1) ag))))
 (aj (aw (i:=3) g7.nd (ai c24 hr (aa (dv 0) (aa (dv 1) ag))))
 (aj (bB (iC (dv 3) ab) (am (aC (ba (aa (da (dv 2)) (aa (da (dv 3)) ag))))) aK)
 (am (aC (ba (aa (dv 2) (aa (dv 3) ag))))))))
abbrev oQ:Stmt:=top 38
theorem cU:ay ["border","halves","first","last","place","facing","step"] ["border","halves"] (al oQ):=by walk_at"fs"
theorem Bu (m6:e.mg "range"=none) (m1:e.mg "len"=none) (c24:Ce e 1 "across" cj) (c27:Ce e 3 "meeting" ka) (c2:Ce e 1 "below" dL) (hr:Rm e 3 "limits" oQ):Bd e cU "limits" ll:=
 (aj (aw (i:=2) cU.nd rq)
 (aj (aw (i:=3) cU.nd rq)
 (aR (cK PassesOwn.never (bU m6 (aa (bE m1 (aa (dv 1) ag)) ag)) (aI (i:=4) cU.nd) (aj (aw (i:=5) cU.nd (ai c24 hr (aa (dv 0) (aa (ao (dv 1) (dv 4)) ag))))
 (aj (aw (i:=6) cU.nd (ai c27 hr (aa (dv 0) (aa (ao (dv 1) (dv 4)) ag))))
 (aR (bB (rz (PW.pt (gF (jK (dv 5) ab) (fC (PW.pt (xX (BQ (dv 2)) (rB (iD (ai c2 hr (aa (ao (dv 2) ab) (aa (dv 6) ag))))))))))) (am (aw (i:=2) cU.nd (ba (aa (dv 6) (aa (dv 4) ag))))) aK)
 (am (bB (rz (PW.pt (gF (iC (dv 5) ab) (fC (PW.pt (xX (BQ (dv 3)) (rB (iD (ai c2 hr (aa (dv 6) (aa (ao (dv 3) ab) ag))))))))))) (am (aw (i:=3) cU.nd (ba (aa (dv 6) (aa (dv 4) ag))))) aK))))))
 (am (aC (ba (aa (dv 2) (aa (dv 3) ag))))))))
abbrev mS:Stmt:=top 39
theorem u5:ay ["border","halves"] ["border","halves"] (al mS):=by walk_at"fs"
theorem Gw (m6:e.mg "range"=none) (m1:e.mg "len"=none) (c24:Ce e 1 "across" cj) (c26:Ce e 2 "asked" iP) (hr:Rm e 2 "apart" mS):Bd e u5 "apart" mX:=
 (am (aC (dI (N:=["place","border","halves"]) (own:=1) (fr:=[0,1]) (NX:=["border","halves"]) (ar:=al mS) (by decide +kernel) (bU m6 (aa (bE m1 (aa (dv 1) ag)) ag)) bI (λ_ _ _ _=>(aI (i:=0) (show List.Nodup (["place","border","halves"]:List Str) by decide))) (λ_ _ _ _=>(kB (PW.pt (gF (fB hr (ai c24 hr (aa (dv 1) (aa (ao (dv 2) (dv 0)) ag))) ab) (fC (jK (ai c26 hr (aa (dv 1) (aa (ao (dv 2) (dv 0)) ag))) ab)))))) (λ_ _ _ _=>(dv 0)))))
abbrev sS:Stmt:=top 40
theorem u9:ay ["border","halves","ends"] ["border","halves","ends"] (al sS):=by walk_at"fs"
theorem GA (c2:Ce e 1 "below" dL) (c29:Ce e 3 "apart" o0) (hr:Rm e 3 "clash" sS):Bd e u9 "clash" nh:=
 (aj (bB (rz (PW.pt (gF (rA (ao (dv 2) ab)) (gF (rA (ao (dv 2) ab)) (fC (iD (ai c2 hr (aa (ao (ao (dv 2) ab) ab) (aa (ao (ao (dv 2) ab) ab) ag))))))))) (am (aC (dJ (aa (ao (ao (dv 2) ab) ab) (aa (ao (ao (dv 2) ab) ab) ag))))) aK)
 (am (aC (gi (ai c29 hr (aa (dv 0) (aa (dv 1) ag))) i3 (i4 ab)))))
abbrev fm:Stmt:=top 41
theorem eS:ay ["border","ends","end"] ["border","ends"] (al fm):=by walk_at"fs"
theorem nG (c25:Ce e 3 "spot_at" hY) (hr:Rm e 3 "spot_between" fm):Bd e eS "spot_between" dM:=
 (aR (cK PassesOwn.never (Lb (dv 1)) (aI (i:=2) eS.nd) (am (bB (rA (dv 2)) (am (aC (ai c25 hr (aa (dv 0) (aa (ao (dv 2) ab) ag))))) aK)))
 (am (aC (ai c25 hr (aa (dv 0) (aa (ba (aa ab (aa ab ag))) ag))))))
abbrev jd:Stmt:=top 42
theorem ft:ay ["weights","common","weight"] ["weights"] (al jd):=by walk_at"fs"
theorem zt (c0:Ce e 1 "divisor" cQ) (hr:Rm e 1 "lowered" jd):Bd e ft "lowered" js:=
 (aj (aw (i:=1) ft.nd ab)
 (aR (cK PassesOwn.never (bN (dv 0)) (aI (i:=2) ft.nd) (am (aw (i:=1) ft.nd (ai c0 hr (aa (dv 1) (aa (dv 2) ag))))))
 (am (aC (dI (N:=["weight","common"]) (own:=1) (fr:=[1]) (NX:=["weights","common","weight"]) (ar:=al jd) (by decide +kernel) (bN (dv 0)) bI (λ_ _ _ _=>(aI (i:=0) (show List.Nodup (["weight","common"]:List Str) by decide))) (λ_ _ _ _=>dr) (λ_ _ _ _=>(ec (dv 0) (dv 1))))))))
abbrev gY:Stmt:=top 43
theorem dk:ay ["chosen","one","other","third"] ["chosen"] (al gY):=by walk_at"fs"
theorem qW (m1:e.mg "len"=none) (m0:e.mg "abs"=none) (c32:Ce e 2 "lowered" hW) (c24:Ce e 1 "across" cj) (hr:Rm e 2 "weights_of" gY):Bd e dk "weights_of" cW:=
 (aj (aw (i:=1) dk.nd (ao (dv 0) ab))
 (aj (aw (i:=2) dk.nd (ao (dv 0) ab))
 (aj (bB (fB hr (bE m1 (aa (dv 0) ag)) ab) (am (aC (ai c32 hr (aa (dJ (aa (bP (eP m0 (aa (ao (dv 2) ab) ag)) (eP m0 (aa (ao (dv 2) ab) ag))) (aa (bP (eP m0 (aa (ao (dv 1) ab) ag)) (eP m0 (aa (ao (dv 1) ab) ag))) ag))) ag)))) aK)
 (aj (aw (i:=3) dk.nd (ao (dv 0) ab))
 (am (aC (ai c32 hr (aa (dJ (aa (eP m0 (aa (ai c24 hr (aa (dv 2) (aa (dv 3) ag))) ag)) (aa (eP m0 (aa (ai c24 hr (aa (dv 3) (aa (dv 1) ag))) ag)) (aa (eP m0 (aa (ai c24 hr (aa (dv 1) (aa (dv 2) ag))) ag)) ag)))) ag))))))))
abbrev er:Stmt:=top 44
theorem iO:ay ["halves","places"] ["halves","places"] (al er):=by walk_at"fs"
theorem pu (c33:Ce e 3 "weights_of" fZ) (hr:Rm e 3 "none_shared" er):Bd e iO "none_shared" cE:=
 (am (aC (ba (aa v8 (aa (dv 1) (aa (ai c33 hr (aa (dI (N:=["place","halves"]) (own:=1) (fr:=[0]) (NX:=["halves","places"]) (ar:=al er) (by decide +kernel) (bN (dv 1)) bI (λ_ _ _ _=>(aI (i:=0) (show List.Nodup (["place","halves"]:List Str) by decide))) (λ_ _ _ _=>dr) (λ_ _ _ _=>(ao (dv 1) (dv 0)))) ag)) ag))))))
abbrev oS:Stmt:=top 45
theorem cV:ay ["halves","spot","place","border","before","ends","places"] ["halves"] (al oS):=by walk_at"fs"
theorem Bw (m6:e.mg "range"=none) (m1:e.mg "len"=none) (m2:e.mg "sorted"=none) (c10:Ce e 3 "side" hX) (c28:Ce e 4 "limits" l5) (c30:Ce e 4 "clash" o3) (c34:Ce e 4 "none_shared" fx) (c31:Ce e 4 "spot_between" eU) (hr:Rm e 4 "shared" oS):Bd e cV "shared" lq:=
 (aj (aw (i:=1) cV.nd (ba (aa (ba (aa ab (aa ab ag))) (aa (ba (aa ab (aa ab ag))) ag))))
 (aR (cK PassesOwn.never (bU m6 (aa (bE m1 (aa (dv 0) ag)) ag)) (aI (i:=2) cV.nd) (aj (aw (i:=3) cV.nd (ao (dv 0) (dv 2)))
 (am (bB (iC (ai c10 hr (aa (dv 3) (aa (dv 1) ag))) ab) (aj (aw (i:=4) cV.nd (gi (dv 0) i3 (i4 (dv 2))))
 (aj (aw (i:=5) cV.nd (ai c28 hr (aa (dv 3) (aa (dv 4) ag))))
 (aj (aw (i:=6) cV.nd (ai c30 hr (aa (dv 3) (aa (dv 4) (aa (dv 5) ag)))))
 (aj (bB (jK (bE m1 (aa (dv 6) ag)) ab) (am (aC (ai c34 hr (aa (dv 0) (aa (GU m2 (aa (vX (dv 6) (dJ (aa (dv 2) ag))) ag)) ag))))) aK)
 (am (aw (i:=1) cV.nd (ai c31 hr (aa (dv 3) (aa (dv 5) ag))))))))) aK))))
 (am (aC (ba (aa v8 (aa (dv 1) ag)))))))
abbrev df:Stmt:=top 47
theorem bY:ay ["point","x","y"] ["point"] (al df):=by walk_at"fs"
theorem jz (hr:Rm e 0 "upright_and_level" df):Bd e bY "upright_and_level" ce:=
 (aj (aw (i:=1) bY.nd (ao (dv 0) ab))
 (aj (aw (i:=2) bY.nd (ao (dv 0) ab))
 (am (aC (dJ (aa (ba (aa ab (aa ab (aa (dv 1) ag)))) (aa (ba (aa (da ab) (aa ab (aa (da (dv 1)) ag)))) (aa (ba (aa ab (aa ab (aa (dv 2) ag)))) (aa (ba (aa ab (aa (da ab) (aa (da (dv 2)) ag)))) ag)))))))))
abbrev jY:Stmt:=top 48
theorem eI:ay ["points","found","one","other"] ["points"] (al jY):=by walk_at"fs"
theorem vJ (m2:e.mg "sorted"=none) (m3:e.mg "set"=none) (c36:Ce e 1 "upright_and_level" cR) (c4:Ce e 3 "between" j4) (hr:Rm e 3 "bordered" jY):Bd e eI "bordered" h8:=
 (aj (aw (i:=1) eI.nd (dJ ag))
 (aR (cK PassesOwn.never (bN (dv 0)) (aI (i:=2) eI.nd) (aj (zN (i:=1) (ai c36 hr (aa (dv 2) ag)))
 (am (cK PassesOwn.never (bN (dv 0)) (aI (i:=3) eI.nd) (am (bB (mh hr (dv 2) (dv 3)) (am (e9 (i:=1) (ai c4 hr (aa (dv 2) (aa (dv 3) ag))))) aK))))))
 (am (aC (nL hr m2 m3 hr.hd (dv 1))))))
abbrev fW:Stmt:=top 49
theorem iN:ay ["points"] ["points"] (al fW):=by walk_at"fs"
theorem pq (m1:e.mg "len"=none) (hr:Rm e 0 "need_points" fW):Bd e iN "need_points" eA:=
 (am (bB (fB hr (bE m1 (aa (dv 0) ag)) ab) (am iB) aK))
abbrev kR:Stmt:=top 50
theorem qB:ay ["points","many"] ["points","many"] (al kR):=by walk_at"fs"
theorem Bx (c38:Ce e 1 "need_points" bq) (c37:Ce e 4 "bordered" iQ) (c11:Ce e 1 "many_in" j9) (hr:Rm e 4 "strong" kR):Bd e qB "strong" lr:=
 (aj (ry (ai c38 hr (aa (dv 0) ag)))
 (am (aC (dI (N:=["found","points","many"]) (own:=1) (fr:=[0,1]) (NX:=["points","many"]) (ar:=al kR) (by decide +kernel) (bN (ai c37 hr (aa (dv 0) ag))) bI (λ_ _ _ _=>(aI (i:=0) (show List.Nodup (["found","points","many"]:List Str) by decide))) (λ_ _ _ _=>(kB (xU (ai c11 hr (aa (dv 0) (aa (dv 1) ag))) (dv 2)))) (λ_ _ _ _=>(dv 0))))))
abbrev oR:Stmt:=top 51
theorem gr:ay ["points","k","part","found"] ["points","k"] (al oR):=by walk_at"fs"
theorem Bv (m1:e.mg "len"=none) (c38:Ce e 1 "need_points" bq) (c16:Ce e 5 "hull" k4) (c39:Ce e 5 "strong" dZ) (c21:Ce e 5 "clipped" j5) (hr:Rm e 5 "region" oR):Bd e gr "region" lm:=
 (aj (ry (ai c38 hr (aa (dv 0) ag)))
 (aj (bB (iC (dv 1) ab) (am iB) aK)
 (aj (bB (jK (dv 1) (bE m1 (aa (dv 0) ag))) (am (aC (dJ ag))) aK)
 (aj (aw (i:=2) gr.nd (ai c16 hr (aa (dv 0) ag)))
 (aR (cK PassesOwn.never (bN (ai c39 hr (aa (dv 0) (aa (bP (bF (bE m1 (aa (dv 0) ag)) (dv 1)) ab) ag)))) (aI (i:=3) gr.nd) (am (aw (i:=2) gr.nd (ai c21 hr (aa (dv 2) (aa (dv 3) ag))))))
 (am (gE (pv 2))))))))
abbrev ja:Stmt:=top 52
theorem bQ:ay ["points","k","halves","weights","asked","told"] ["points"] (al ja):=by walk_at"fs"
theorem zm (m1:e.mg "len"=none) (c38:Ce e 1 "need_points" bq) (c39:Ce e 5 "strong" dZ) (c35:Ce e 5 "shared" fe) (hr:Rm e 5 "deepest" ja):Bd e bQ "deepest" jm:=
 (aj (ry (ai c38 hr (aa (dv 0) ag)))
 (aj (aw (i:=1) bQ.nd (bE m1 (aa (dv 0) ag)))
 (aj (aw (i:=2) bQ.nd (dJ ag))
 (aj (aw (i:=3) bQ.nd (dJ ag))
 (aj (aw (i:=4) bQ.nd (ai c39 hr (aa (dv 0) (aa ab ag))))
 (aj (aw (i:=5) bQ.nd (ai c35 hr (aa (dv 4) ag)))
 (aR (nM PassesOwn.never (fB hr (ao (dv 5) ab) v8) (aj (dW (i:=2) bQ.nd (N:=["place","asked"]) (own:=1) (fr:=[4]) (NX:=["points","k","halves","weights","asked","told"]) (ar:=al ja) (by decide +kernel) (bN (ao (dv 5) ab)) bI (λ_ _ _ _=>(aI (i:=0) (show List.Nodup (["place","asked"]:List Str) by decide))) (λ_ _ _ _=>dr) (λ_ _ _ _=>(ao (dv 1) (dv 0))))
 (aj (aw (i:=3) bQ.nd (ao (dv 5) ab))
 (aj (aw (i:=1) bQ.nd (bF (dv 1) ab))
 (aj (aw (i:=4) bQ.nd (ai c39 hr (aa (dv 0) (aa (bP (bF (bE m1 (aa (dv 0) ag)) (dv 1)) ab) ag))))
 (am (aw (i:=5) bQ.nd (ai c35 hr (aa (dv 4) ag)))))))))
 (am (GW (ba (aa (dv 1) (aa (ao (dv 5) ab) (aa (dv 2) (aa (dv 3) ag))))))))))))))
abbrev jf:Stmt:=top 54
theorem j3:ay ["points","spot","here"] ["points","spot"] (al jf):=by walk_at"fs"
theorem zA (c13:Ce e 2 "stretched" bZ) (hr:Rm e 2 "ways_to" jf):Bd e j3 "ways_to" jw:=
 (aj (aw (i:=2) j3.nd (ai c13 hr (aa (dv 1) ag)))
 (am (aC (dI (N:=["point","here"]) (own:=1) (fr:=[2]) (NX:=["points","spot","here"]) (ar:=al jf) (by decide +kernel) (bN (dv 0)) bI (λ_ _ _ _=>(aI (i:=0) (show List.Nodup (["point","here"]:List Str) by decide))) (λ_ _ _ _=>dr) (λ_ _ _ _=>(ba (aa (bF (aF (ao (dv 0) ab) (ao (dv 1) ab)) (ao (dv 1) ab)) (aa (bF (aF (ao (dv 0) ab) (ao (dv 1) ab)) (ao (dv 1) ab)) ag))))))))
abbrev eZ:Stmt:=top 55
theorem jN:ay ["ways","facing"] ["ways","facing"] (al eZ):=by walk_at"fs"
theorem qU (m1:e.mg "len"=none) (c5:Ce e 1 "along" cD) (hr:Rm e 1 "many_ahead" eZ):Bd e jN "many_ahead" e7:=
 (am (aC (bE m1 (aa (dI (N:=["way","facing"]) (own:=1) (fr:=[1]) (NX:=["ways","facing"]) (ar:=al eZ) (by decide +kernel) (bN (dv 0)) bI (λ_ _ _ _=>(aI (i:=0) (show List.Nodup (["way","facing"]:List Str) by decide))) (λ_ _ _ _=>(kB (xU (ai c5 hr (aa (dv 0) (aa (dv 1) ag))) ab))) (λ_ _ _ _=>(dv 0))) ag))))
abbrev fF:Stmt:=top 56
theorem g0:ay ["way","ways","thin"] ["way","ways"] (al fF):=by walk_at"fs"
theorem tV (m8:e.mg "max"=none) (m0:e.mg "abs"=none) (c5:Ce e 1 "along" cD) (hr:Rm e 1 "just_past" fF):Bd e g0 "just_past" fH:=
 (aj (aw (i:=2) g0.nd (bP ab (GR m8 (aa (dI (N:=["other","way"]) (own:=1) (fr:=[0]) (NX:=["way","ways","thin"]) (ar:=al fF) (by decide +kernel) (bN (dv 1)) bI (λ_ _ _ _=>(aI (i:=0) (show List.Nodup (["other","way"]:List Str) by decide))) (λ_ _ _ _=>dr) (λ_ _ _ _=>(eP m0 (aa (ai c5 hr (aa (dv 1) (aa (dv 0) ag))) ag)))) ag))))
 (am (aC (ba (aa (bF (aF (da (ao (dv 0) ab)) (dv 2)) (ao (dv 0) ab)) (aa (bF (aF (ao (dv 0) ab) (dv 2)) (ao (dv 0) ab)) ag))))))
abbrev jb:Stmt:=top 57
theorem j2:ay ["ways","found"] ["ways"] (al jb):=by walk_at"fs"
theorem zo (c44:Ce e 2 "just_past" g9) (hr:Rm e 2 "facings" jb):Bd e j2 "facings" jo:=
 (aj (dW (i:=1) j2.nd (N:=["way","ways"]) (own:=1) (fr:=[0]) (NX:=["ways","found"]) (ar:=al jb) (by decide +kernel) (bN (dv 0)) bI (λ_ _ _ _=>(aI (i:=0) (show List.Nodup (["way","ways"]:List Str) by decide))) (λ_ _ _ _=>(kB (mh hr (dv 0) (ba (aa ab (aa ab ag)))))) (λ_ _ _ _=>(ai c44 hr (aa (dv 0) (aa (dv 1) ag)))))
 (aj (e9 (i:=1) (ba (aa ab (aa ab ag))))
 (am (gE (pv 1)))))
abbrev fV:Stmt:=top 58
theorem fq:ay ["facing","spot","here"] ["facing","spot"] (al fV):=by walk_at"fs"
theorem pp (c13:Ce e 2 "stretched" bZ) (c3:Ce e 2 "half" kZ) (c5:Ce e 1 "along" cD) (hr:Rm e 2 "half_facing" fV):Bd e fq "half_facing" ez:=
 (aj (aw (i:=2) fq.nd (ai c13 hr (aa (dv 1) ag)))
 (am (aC (ai c3 hr (aa (aF (ao (dv 0) ab) (ao (dv 2) ab)) (aa (aF (ao (dv 0) ab) (ao (dv 2) ab)) (aa (ai c5 hr (aa (dv 0) (aa (dv 2) ag))) ag)))))))
abbrev fE:Stmt:=top 59
theorem oV:ay ["points","spot","ways","emptiest"] ["points","spot"] (al fE):=by walk_at"fs"
theorem GB {P:Program}{w:World}{K:Frg}{mg:Str->Option Value}{base:Heap}{f:Addr}{A:Around}{outer:List Env}{s:Shared}{H:Hp}{E:XK}{c T mb:Addr} (kb:K.In base) (hhd:PySem.W.codeHdIn K c T=true) (hlam:gL K=some T) (bm:∃ ob,mg "__builtins__"=some (.ref mb)/\mb≠builtinsNs/\mb≠mainGlobals/\base.get? mb=some ob/\ob.cls=.type "module"/\ob.dict=some builtinsNs/\ob.data=.plain) (m1:mg "len"=none) (m7:mg "min"=none) (c42:Callee P w K mg base 3 "ways_to" kc) (c45:Callee P w K mg base 3 "facings" j7) (c43:Callee P w K mg base 2 "many_ahead" eu) (c46:Callee P w K mg base 3 "half_facing" fw) (hr:cu 4 (A.deeper (envOfC "depth" (al fE) s.heap.objs.size f (.ref c)))) :
  ki (pz xx P w K mg base ["points","spot","ways","emptiest"] "depth" (al fE) f (.ref c) A outer s H E).nox (cy fE) (bK K H ni):=
 (aj (bB (fB hr (bE m1 (aa (dv 0) ag)) ab) (am iB) aK)
 (aj (aw (i:=2) oV.nd (ai c42 hr (aa (dv 0) (aa (dv 1) ag))))
 (aj (aw (i:=3) oV.nd (zK (x:="facing") (y:="ways") (j:=2) rfl hr.hd (cu.in1 hr).depth m7 ⟨rfl,PySem.W.codeHd_of_K kb hhd,bm⟩ ⟨rfl,rfl,rfl,by decide +kernel,rfl,rfl,λz hz=>Dl (by decide +kernel) hz⟩ hlam rfl rfl rfl rfl rfl rfl (λ_ _ _ _=>rfl) (ai c45 hr (aa (dv 2) ag)) (λ_ _ _ _=>(xP c43 ((cu.deeper (cu.in1 hr) _).mono ⋯) rfl (aa (dv 1) (aa (dv 0) ag))))))
 (am (aC (ba (aa (ai c43 hr (aa (dv 2) (aa (dv 3) ag))) (aa (ai c46 hr (aa (dv 3) (aa (dv 1) ag))) ag))))))))
abbrev mT:Stmt:=top 61
theorem va:ay ["points"] ["points"] (al mT):=by walk_at"fs"
theorem GD (c47:Ce e 5 "depth" kY) (c6:Ce e 1 "as_spot" fv) (hr:Rm e 5 "ranks" mT):Bd e va "ranks" nk:=
 (am (aC (dI (N:=["point","points"]) (own:=1) (fr:=[0]) (NX:=["points"]) (ar:=al mT) (by decide +kernel) (bN (dv 0)) bI (λ_ _ _ _=>(aI (i:=0) (show List.Nodup (["point","points"]:List Str) by decide))) (λ_ _ _ _=>dr) (λ_ _ _ _=>(ao (ai c47 hr (aa (dv 1) (aa (ai c6 hr (aa (dv 0) ag)) ag))) ab)))))
abbrev lX:Stmt:=top 63
theorem oW:ay ["_law_found"] ["_law_found"] (al lX):=by walk_at"fs"
theorem zq (m9:e.mg "isinstance"=none) (m10:e.mg "int"=none) (m11:e.mg "bool"=none) (hr:Rm e 0 "_law_whole" lX):Bd e oW "_law_whole" jq:=
 (am (aC (vW (zI m9 m10 (dv 0)) (v7 (v6 (vY m9 m11 (dv 0)))))))
abbrev fG:Stmt:=top 64
theorem cB:ay ["_law_script","_law_many","_law_found","_law_k","_law_cell","_law_at"] ["_law_script","_law_many"] (al fG):=by walk_at"fs"
theorem tW (m6:e.mg "range"=none) (m8:e.mg "max"=none) (m7:e.mg "min"=none) (m1:e.mg "len"=none) (hr:Rm e 0 "_law_numbers" fG):Bd e cB "_law_numbers" fJ:=
 (aj (dW (i:=2) cB.nd (N:=["_law_k"]) (own:=1) (fr:=[]) (NX:=["_law_script","_law_many","_law_found","_law_k","_law_cell","_law_at"]) (ar:=al fG) (by decide +kernel) (bU m6 (aa (dv 1) ag)) bI (λ_ _ _ _=>(aI (i:=0) (show List.Nodup (["_law_k"]:List Str) by decide))) (λ_ _ _ _=>dr) (λ_ _ _ _=>ab))
 (aR (cK PassesOwn.never (bU m6 (aa (GQ m8 (aa (dv 1) (aa (xQ m7 (aa (bE m1 (aa (dv 0) ag)) (aa ab ag))) ag))) ag)) (aI (i:=3) cB.nd) (aj (aw (i:=4) cB.nd ab)
 (aR (bB (jK (bE m1 (aa (dv 0) ag)) ab) (am (aw (i:=4) cB.nd (cZ (ao (dv 0) (cZ (dv 3) (xQ m7 (aa (bE m1 (aa (dv 0) ag)) (aa ab ag))))) (bP (lF ab ab) ab)))) aK)
 (aj (aw (i:=5) cB.nd (cZ (dv 3) (dv 1)))
 (am (BN (i:=2) (dv 5) (cZ (bP (bP (aF (ao (dv 2) (dv 5)) ab) (dv 4)) (aF (dv 3) (dv 3))) (bP (lF ab ab) ab))))))))
 (am (gE (pv 2)))))
abbrev lW:Stmt:=top 65
theorem g6:ay ["_law_number","_law_base","_law_place","_law_k"] ["_law_number","_law_base","_law_place"] (al lW):=by walk_at"fs"
theorem zp (m6:e.mg "range"=none) (hr:Rm e 0 "_law_digit" lW):Bd e g6 "_law_digit" jp:=
 (aR (cK PassesOwn.never (bU m6 (aa (dv 2) ag)) (aI (i:=3) g6.nd) (am (aw (i:=0) g6.nd (ec (dv 0) (dv 1)))))
 (am (aC (cZ (dv 0) (dv 1)))))
abbrev j0:Stmt:=top 66
theorem bd:ay ["_law_head","_law_many","_law_found","_law_way","_law_k","_law_number","_law_x","_law_y"] ["_law_head","_law_many"] (al j0):=by walk_at"fs"
theorem vL (m6:e.mg "range"=none) (c51:Ce e 1 "_law_digit" j8) (hr:Rm e 1 "_law_points" j0):Bd e bd "_law_points" ie:=
 (aj (aw (i:=2) bd.nd (dJ ag))
 (aj (aw (i:=3) bd.nd (cZ (ao (dv 0) ab) ab))
 (aR (cK PassesOwn.never (bU m6 (aa (dv 1) ag)) (aI (i:=4) bd.nd) (aj (aw (i:=5) bd.nd (ao (dv 0) (bP ab (dv 4))))
 (aj (aw (i:=6) bd.nd (bF (cZ (dv 5) ab) ab))
 (aj (aw (i:=7) bd.nd (bF (cZ (ec (dv 5) ab) ab) ab))
 (aR (bB (fB hr (dv 3) ab) (am (aw (i:=7) bd.nd (bF (aF ab (dv 6)) ab))) aK)
 (aR (bB (fB hr (dv 3) ab) (am (aw (i:=6) bd.nd ab)) aK)
 (aR (bB (fB hr (dv 3) ab) (am (Lh (i:=6) (j:=7) bd.nd (aa (bF (cZ (dv 5) ab) ab) (aa (bF (cZ (ec (dv 5) ab) ab) ab) ag)))) aK)
 (aR (bB (jK (dv 3) ab) (aj (aw (i:=6) bd.nd (bF (cZ (dv 5) (bP (aF ab (lF ab ab)) ab)) (lF ab ab)))
 (am (aw (i:=7) bd.nd (bF (cZ (aF (dv 5) ab) (bP (aF ab (lF ab ab)) ab)) (lF ab ab))))) aK)
 (aR (bB (rz (PW.pt (gF (jK (dv 4) ab) (fC (fB hr (ai c51 hr (aa (ao (dv 0) ab) (aa ab (aa (dv 4) ag)))) ab))))) (am (BP (ao (dv 2) (bF (dv 4) ab)) (v9 (eF (aI (i:=6) bd.nd) (eF (aI (i:=7) bd.nd) rs)) (eG (eG sx))))) aK)
 (am (e9 (i:=2) (ba (aa (dv 6) (aa (dv 7) ag))))))))))))))
 (am (gE (pv 2))))))
abbrev j1:Stmt:=top 67
theorem dD:ay ["_law_points_here","_law_numbers_here","_law_regions","_law_point","_law_number","_law_spot","_law_k"] ["_law_points_here","_law_numbers_here","_law_regions"] (al j1):=by walk_at"fs"
theorem vM (m9:e.mg "isinstance"=none) (m4:e.mg "list"=none) (m1:e.mg "len"=none) (m12:e.mg "zip"=none) (m6:e.mg "range"=none) (c49:Ce e 1 "_law_whole" hV) (c23:Ce e 5 "lies_in" dY) (hr:Rm e 5 "_law_ranked" j1):Bd e dD "_law_ranked" ig:=
 (aj (bB (rz (PW.pt (xX (wf (iD (vZ m9 m4 (dv 1)))) (rB (mh hr (bE m1 (aa (dv 1) ag)) (bE m1 (aa (dv 0) ag))))))) (am (aC kA)) aK)
 (aR (cK PassesOwn.never (Lc m12 (aa (dv 0) (aa (dv 1) ag))) (v9 (eF (aI (i:=3) dD.nd) (eF (aI (i:=4) dD.nd) rs)) (eG (eG sx))) (aj (aw (i:=5) dD.nd (ba (aa (ba (aa (ao (dv 3) ab) (aa ab ag))) (aa (ba (aa (ao (dv 3) ab) (aa ab ag))) ag))))
 (aj (bB (wf (iD (ai c49 hr (aa (dv 4) ag)))) (am (aC kA)) aK)
 (am (cK PassesOwn.never (bU m6 (aa (bE m1 (aa (dv 2) ag)) ag)) (aI (i:=6) dD.nd) (am (bB (mh hr (Ji (ai c23 hr (aa (ao (dv 2) (dv 6)) (aa (dv 5) ag))) ab) (Ji (dv 4) (bP (dv 6) ab))) (am (aC kA)) aK)))))))
 (am (aC kA))))
abbrev kQ:Stmt:=top 68
theorem eR:ay ["_law_script","_law_head","_law_points_here","_law_regions","_law_kept","_law_many","_law_spot","_law_halves","_law_weights","_law_k","_law_corner"] ["_law_script"] (al kQ):=by walk_at"fs"
theorem Oz (m6:e.mg "range"=none) (m1:e.mg "len"=none) (m4:e.mg "list"=none) (c50:Ce e 1 "_law_numbers" hE) (c52:Ce e 2 "_law_points" iS) (c40:Ce e 6 "region" gv) (c16:Ce e 5 "hull" k4) (c41:Ce e 6 "deepest" j6) (c23:Ce e 5 "lies_in" dY) (c53:Ce e 6 "_law_ranked" iT) (c48:Ce e 6 "ranks" o4) (hr:Rm e 6 "law" kQ):Bd e eR "law" za:=
 (aj (aw (i:=1) eR.nd (ai c50 hr (aa (dv 0) (aa ab ag))))
 (aj (aw (i:=2) eR.nd (ai c52 hr (aa (dv 1) (aa (ao (dJ (aa (bP ab (cZ (ao (dv 1) ab) ab)) (aa (bP ab (cZ (ao (dv 1) ab) ab)) ag))) (ec (cZ (ao (dv 1) ab) ab) ab)) ag))))
 (aj (dW (i:=3) eR.nd (N:=["_law_k","_law_points_here"]) (own:=1) (fr:=[2]) (NX:=["_law_script","_law_head","_law_points_here","_law_regions","_law_kept","_law_many","_law_spot","_law_halves","_law_weights","_law_k","_law_corner"]) (ar:=al kQ) (by decide +kernel) (bU m6 (aa (bP (bE m1 (aa (dv 2) ag)) ab) ag)) bI (λ_ _ _ _=>(aI (i:=0) (show List.Nodup (["_law_k","_law_points_here"]:List Str) by decide))) (λ_ _ _ _=>dr) (λ_ _ _ _=>(ai c40 hr (aa (dv 1) (aa (bP (dv 0) ab) ag)))))
 (aj (dW (i:=4) eR.nd (N:=["_law_corners"]) (own:=1) (fr:=[]) (NX:=["_law_script","_law_head","_law_points_here","_law_regions","_law_kept","_law_many","_law_spot","_law_halves","_law_weights","_law_k","_law_corner"]) (ar:=al kQ) (by decide +kernel) (bN (dv 3)) bI (λ_ _ _ _=>(aI (i:=0) (show List.Nodup (["_law_corners"]:List Str) by decide))) (λ_ _ _ _=>dr) (λ_ _ _ _=>(zJ m4 (aa (dv 0) ag))))
 (aj (bB (mh hr (ao (dv 3) ab) (ai c16 hr (aa (dv 2) ag))) (am (aC kA)) aK)
 (aj (BO (ai c41 hr (aa (dv 2) ag)) (v9 (eF (aI (i:=5) eR.nd) (eF (aI (i:=6) eR.nd) (eF (aI (i:=7) eR.nd) (eF (aI (i:=8) eR.nd) rs)))) (eG (eG (eG (eG sx))))))
 (aR (cK PassesOwn.never (bU m6 (aa (bE m1 (aa (dv 3) ag)) ag)) (aI (i:=9) eR.nd) (aj (bB (mh hr (BH hr (ao (dv 3) (dv 9)) (dJ ag)) (OG (bP (dv 9) ab) (dv 5))) (am (aC kA)) aK)
 (am (cK PassesOwn.never (bN (ao (dv 3) (dv 9))) (aI (i:=10) eR.nd) (am (bB (rz (PW.pt (gF (jK (dv 9) ab) (fC (iC (ai c23 hr (aa (ao (dv 3) (bF (dv 9) ab)) (aa (dv 10) ag))) ab))))) (am (aC kA)) aK))))))
 (aj (bB (rz (PW.pt (xX (iC (ai c23 hr (aa (ao (dv 3) (bF (dv 5) ab)) (aa (dv 6) ag))) ab) (rB (wf (iD (ai c53 hr (aa (dv 2) (aa (ai c48 hr (aa (dv 2) ag)) (aa (dv 3) ag)))))))))) (am (aC kA)) aK)
 (aj (zM (ai c40 hr (aa (dv 2) (aa ab ag))))
 (am (aC (vW (BH hr (dv 3) (dv 4)) (v7 (BH hr (ai c40 hr (aa (dv 2) (aa ab ag))) (ao (dv 4) ab)))))))))))))))
end
def Fd (K:Frg)(n:Str)(st:Stmt)(f:Addr):Prop:=∃ (oc:Value) (od:Option Addr) (sl:Array (Option Value)) (kV dc pm:Value) (an:Option Addr) (cd ct:Value),PySem.W.nsIn K mainGlobals n=some (some (.ref f))/\K.lookup f=some ⟨oc,od,.func (PySem.W.fnOf n n (ee st) (cy st) (al st) .none kV dc pm an cd ct),sl⟩/\PySem.W.codeIn K cd n=true/\PySem.W.keepIn K (.ref f)=true
theorem fd_mk {K:Frg}{n:Str}{st:Stmt}{f:Addr}{oc:Value}{od:Option Addr}{sl:Array (Option Value)}{kV dc pm:Value}{an:Option Addr}{cd ct:Value}(a:PySem.W.nsIn K mainGlobals n=some (some (.ref f)))(l:K.lookup f=some ⟨oc,od,.func (PySem.W.fnOf n n (ee st) (cy st) (al st) .none kV dc pm an cd ct),sl⟩)(e:PySem.W.codeIn K cd n=true)(k:PySem.W.keepIn K (.ref f)=true):Fd K n st f:=⟨_,_,_,_,_,_,_,_,_,a,l,e,k⟩
def RA (n:Str)(st:Stmt)(ps:List Str):Prop:=∀ (kV doc pm:Value) (an:Option Addr) (cdv ct:Value) (us:List Value),us.length=ps.length->bindArgs (PySem.W.fnOf n n (ee st) (cy st) (al st) .none kV doc pm an cdv ct) ⟨us,[]⟩=pure (ps.zip us)
theorem OB {P:Program}{wd:World}{K:Frg}{mg:Str->Option Value}{base h:Heap}(X:K.In h)(G:h.Ns mainGlobals mg){x:Str}{st:Stmt}{f:Addr}{N ps:List Str}{sp:aO}{w:WS}(k:Nat)(d:Fd K x st f)(S:ay N ps (al st))(hk:∀ ss R,sp ss R->w {nx:=λ_=>R (.t .non),rt:=R} (aD N ss))
  (hbody:∀ (cdv:Value) (A:Around) (outer:List Env) (s:Shared) (H:Hp) (E:XK),Rm ⟨P,wd,K,mg,base,f,cdv,A,outer,s,H,E⟩ k x st->Bd ⟨P,wd,K,mg,base,f,cdv,A,outer,s,H,E⟩ S x w) (hb:RA x st ps) (hlen:∀ ss R,sp ss R->ss.length=ps.length):Callee P wd K mg base (k+1) x sp:=by
 obtain⟨oc,od,sl,kV,dc,pm,an,cd,ct,a,l,e,q⟩:=d;exact p6 (n6 l e q) (PySem.W.mg_of X G a) ((n6 l e q).binds hb) (BJ (n6 l e q) S hlen hbody hk)
theorem all_mk {l:PySem.W.OpenLaw}{w:World}{K:Frg}{h:Heap}{mg:Str->Option Value}{cc T:Addr}{ts:List Addr}{odC odL anL:Option Addr}{vsC:Array Value}{slC slL:Array (Option Value)}{ocL kVL dcL pmL ctL:Value}{fa f_0 f_1 f_2 f_3 f_4 f_5 f_6 f_7 f_8 f_9 f_10 f_11 f_12 f_13 f_14 f_15 f_16 f_17 f_18 f_19 f_20 f_21 f_22 f_23 f_24 f_25 f_26 f_27 f_28 f_29 f_30 f_31 f_32 f_33 f_34 f_35 f_36 f_37 f_38 f_39 f_40 f_41 f_42 f_43 f_44 f_45 f_46 f_47 f_48 f_49 f_50 f_51 f_52 f_53 f_54:Addr} (X:K.In h) (G:h.Ns mainGlobals mg) (hfa:mg "law"=some (.ref fa))
  (d0:Fd K "divisor" lV f_0) (d1:Fd K "ratio" sV f_1) (d2:Fd K "below" sQ f_2) (d3:Fd K "half" xh f_3) (d4:Fd K "between" lS f_4) (d5:Fd K "along" sO f_5) (d6:Fd K "as_spot" lR f_6) (d7:Fd K "bottoms" lT f_7) (d8:Fd K "excess" oO f_8) (d9:Fd K "sign" xj f_9) (d10:Fd K "side" xi f_10) (d11:Fd K "many_in" je f_11) (d12:Fd K "lesser" oP f_12) (d13:Fd K "stretched" iM f_13) (d14:Fd K "turn" xk f_14) (d15:Fd K "chain" sR f_15) (d16:Fd K "hull" sT f_16) (d17:Fd K "sides" mU f_17) (d18:Fd K "from_least" gW f_18) (d19:Fd K "mixed" sU f_19) (d20:Fd K "crossing" jZ f_20) (d21:Fd K "clipped" lU f_21) (d22:Fd K "on_stretch" gX f_22) (d23:Fd K "lies_in" jc f_23) (d24:Fd K "across" oN f_24) (d25:Fd K "spot_at" lZ f_25) (d26:Fd K "asked" sP f_26) (d27:Fd K "meeting" lY f_27) (d28:Fd K "limits" oQ f_28) (d29:Fd K "apart" mS f_29) (d30:Fd K "clash" sS f_30) (d31:Fd K "spot_between" fm f_31) (d32:Fd K "lowered" jd f_32) (d33:Fd K "weights_of" gY f_33) (d34:Fd K "none_shared" er f_34) (d35:Fd K "shared" oS f_35) (d36:Fd K "upright_and_level" df f_36) (d37:Fd K "bordered" jY f_37) (d38:Fd K "need_points" fW f_38) (d39:Fd K "strong" kR f_39) (d40:Fd K "region" oR f_40) (d41:Fd K "deepest" ja f_41) (d42:Fd K "ways_to" jf f_42) (d43:Fd K "many_ahead" eZ f_43) (d44:Fd K "just_past" fF f_44) (d45:Fd K "facings" jb f_45) (d46:Fd K "half_facing" fV f_46) (aL:PySem.W.nsIn K mainGlobals "depth"=some (some (.ref f_47))) (lL:K.lookup f_47=some ⟨ocL,odL,.func (PySem.W.fnOf "depth" "depth" (ee fE) (cy fE) (al fE) .none kVL dcL pmL anL (.ref cc) ctL),slL⟩) (eL:PySem.W.codeIn K (.ref cc) "depth"=true) (kL:PySem.W.keepIn K (.ref f_47)=true) (d48:Fd K "ranks" mT f_48) (d49:Fd K "_law_whole" lX f_49) (d50:Fd K "_law_numbers" fG f_50) (d51:Fd K "_law_digit" lW f_51) (d52:Fd K "_law_points" j0 f_52) (d53:Fd K "_law_ranked" j1 f_53) (d54:Fd K "law" kQ f_54)
  (gc:K.lookup cc=some ⟨.type "code",odC,.fields vsC,slC⟩) (gt:(vsC[11]?:Option Value)=some (.ref T)) (hhd:PySem.W.codeHdIn K cc T=true) (gn:K.lookup T=none) (gs:T∈ts) (z0:PySem.W.nsIn K mainGlobals "abs"=some none) (z1:PySem.W.nsIn K mainGlobals "len"=some none) (z2:PySem.W.nsIn K mainGlobals "sorted"=some none) (z3:PySem.W.nsIn K mainGlobals "set"=some none) (z4:PySem.W.nsIn K mainGlobals "list"=some none) (z5:PySem.W.nsIn K mainGlobals "reversed"=some none) (z6:PySem.W.nsIn K mainGlobals "range"=some none) (z7:PySem.W.nsIn K mainGlobals "min"=some none) (z8:PySem.W.nsIn K mainGlobals "max"=some none) (z9:PySem.W.nsIn K mainGlobals "isinstance"=some none) (z10:PySem.W.nsIn K mainGlobals "int"=some none) (z11:PySem.W.nsIn K mainGlobals "bool"=some none) (z12:PySem.W.nsIn K mainGlobals "zip"=some none)
 :∃ (fd:FuncData) (c T:Addr),(∀ (s:Shared) (v:Value),BindsTo s fd ⟨[v],[]⟩ [("_law_script",v)])/\T∈ts/\K.lookup T=none/\PySem.W.codeHdIn K c T=true/\gL K=some T/\∀ base:Heap,K.In base->base.Ns mainGlobals mg->Nv mg base->ix l.prog w K mg base xx 7 fa fd ["_law_script"] (tq K yT):=by
 obtain⟨oc,od,sl,kV,dc,pm,an,cd,ct,a,l1,e1,k1⟩:=d54;have e:=hfa.symm.trans (PySem.W.mg_of X G a)
 cases e
 have hlam:gL K=some T:=zZ aL lL rfl gc gt;have m0:=PySem.W.mg_none_of X G z0;have m1:=PySem.W.mg_none_of X G z1;have m2:=PySem.W.mg_none_of X G z2;have m3:=PySem.W.mg_none_of X G z3;have m4:=PySem.W.mg_none_of X G z4;have m5:=PySem.W.mg_none_of X G z5;have m6:=PySem.W.mg_none_of X G z6;have m7:=PySem.W.mg_none_of X G z7;have m8:=PySem.W.mg_none_of X G z8;have m9:=PySem.W.mg_none_of X G z9;have m10:=PySem.W.mg_none_of X G z10;have m11:=PySem.W.mg_none_of X G z11;have m12:=PySem.W.mg_none_of X G z12;refine⟨PySem.W.fnOf "law" "law" (ee kQ) (cy kQ) (al kQ) .none kV dc pm an cd ct,cc,T,λs v=>.of_eq rfl,gs,gn,hhd,hlam,λbase kb _ hBM=>?_⟩;obtain⟨mb,bm⟩:=hBM;have Q:=λ{x st f N ps sp u} k=>@OB l.prog w K mg base h X G x st f N ps sp u k;have c50:=Q 0 d50 cB sI (λ_ _ _ _ _ _ hr=>tW m6 m8 m7 m1 hr) (by walk_at"bn") (by walk_at"ln")
 have c51:=Q 0 d51 g6 wU (λ_ _ _ _ _ _ hr=>zp m6 hr) (by walk_at"bn") (by walk_at"ln")
 have c52:=Q 1 d52 bd uS (λ_ _ _ _ _ _ hr=>vL m6 c51 hr) (by walk_at"bn") (by walk_at"ln")
 have c38:=Q 0 d38 iN oy (λ_ _ _ _ _ _ hr=>pq m1 hr) (by walk_at"bn") (by walk_at"ln")
 have c6:=Q 0 d6 oT wK (λ_ _ _ _ _ _ hr=>zi hr) (by walk_at"bn") (by walk_at"ln")
 have c7:=Q 0 d7 oU wM (λ_ _ _ _ _ _ hr=>zk hr) (by walk_at"bn") (by walk_at"ln")
 have c13:=Q 1 d13 kW sJ (λ_ _ _ _ _ _ hr=>tX c7 hr) (by walk_at"bn") (by walk_at"ln")
 have c8:=Q 1 d8 jg An (λ_ _ _ _ _ _ hr=>Bs c7 hr) (by walk_at"bn") (by walk_at"ln")
 have c14:=Q 2 d14 g8 HQ (λ_ _ _ _ _ _ hr=>KR c13 c8 hr) (by walk_at"bn") (by walk_at"ln")
 have c15:=Q 3 d15 kS EK (λ_ _ _ _ _ _ hr=>Gz m1 c14 hr) (by walk_at"bn") (by walk_at"ln")
 have c16:=Q 4 d16 kT HI (λ_ _ _ _ _ _ hr=>KO m2 m3 m1 m4 m5 c6 c15 hr) (by walk_at"bn") (by walk_at"ln")
 have c36:=Q 0 d36 bY iL (λ_ _ _ _ _ _ hr=>jz hr) (by walk_at"bn") (by walk_at"ln")
 have c0:=Q 0 d0 dB wQ (λ_ _ _ _ _ _ hr=>zn m0 hr) (by walk_at"bn") (by walk_at"ln")
 have c3:=Q 1 d3 sW HH (λ_ _ _ _ _ _ hr=>KN c0 hr) (by walk_at"bn") (by walk_at"ln")
 have c4:=Q 2 d4 gZ wL (λ_ _ _ _ _ _ hr=>zj c3 hr) (by walk_at"bn") (by walk_at"ln")
 have c37:=Q 3 d37 eI uQ (λ_ _ _ _ _ _ hr=>vJ m2 m3 c36 c4 hr) (by walk_at"bn") (by walk_at"ln")
 have c11:=Q 0 d11 oY wY (λ_ _ _ _ _ _ hr=>zu m1 hr) (by walk_at"bn") (by walk_at"ln")
 have c39:=Q 4 d39 qB Av (λ_ _ _ _ _ _ hr=>Bx c38 c37 c11 hr) (by walk_at"bn") (by walk_at"ln")
 have c17:=Q 0 d17 vc ER (λ_ _ _ _ _ _ hr=>GG m6 m1 hr) (by walk_at"bn") (by walk_at"ln")
 have c9:=Q 0 d9 yR HN (λ_ _ _ _ _ _ hr=>KQ hr) (by walk_at"bn") (by walk_at"ln")
 have c10:=Q 2 d10 yQ HL (λ_ _ _ _ _ _ hr=>KP c9 c8 hr) (by walk_at"bn") (by walk_at"ln")
 have c1:=Q 1 d1 kU EQ (λ_ _ _ _ _ _ hr=>GF c0 hr) (by walk_at"bn") (by walk_at"ln")
 have c19:=Q 2 d19 oZ EN (λ_ _ _ _ _ _ hr=>GC c1 hr) (by walk_at"bn") (by walk_at"ln")
 have c20:=Q 3 d20 dC uR (λ_ _ _ _ _ _ hr=>vK m0 c8 c7 c19 hr) (by walk_at"bn") (by walk_at"ln")
 have c2:=Q 0 d2 u7 EJ (λ_ _ _ _ _ _ hr=>Gy hr) (by walk_at"bn") (by walk_at"ln")
 have c12:=Q 1 d12 qA Ao (λ_ _ _ _ _ _ hr=>Bt c2 hr) (by walk_at"bn") (by walk_at"ln")
 have c18:=Q 2 d18 dj pL (λ_ _ _ _ _ _ hr=>qT m6 m1 c12 hr) (by walk_at"bn") (by walk_at"ln")
 have c21:=Q 4 d21 fo wN (λ_ _ _ _ _ _ hr=>zl c17 c10 c20 c18 hr) (by walk_at"bn") (by walk_at"ln")
 have c40:=Q 5 d40 gr As (λ_ _ _ _ _ _ hr=>Bv m1 c38 c16 c39 c21 hr) (by walk_at"bn") (by walk_at"ln")
 have c24:=Q 0 d24 qz Am (λ_ _ _ _ _ _ hr=>Br hr) (by walk_at"bn") (by walk_at"ln")
 have c5:=Q 0 d5 u4 EG (λ_ _ _ _ _ _ hr=>Gv hr) (by walk_at"bn") (by walk_at"ln")
 have c26:=Q 1 d26 u6 EI (λ_ _ _ _ _ _ hr=>Gx c5 hr) (by walk_at"bn") (by walk_at"ln")
 have c27:=Q 2 d27 g7 wZ (λ_ _ _ _ _ _ hr=>zv c26 c24 hr) (by walk_at"bn") (by walk_at"ln")
 have c28:=Q 3 d28 cU Ap (λ_ _ _ _ _ _ hr=>Bu m6 m1 c24 c27 c2 hr) (by walk_at"bn") (by walk_at"ln")
 have c29:=Q 2 d29 u5 EH (λ_ _ _ _ _ _ hr=>Gw m6 m1 c24 c26 hr) (by walk_at"bn") (by walk_at"ln")
 have c30:=Q 3 d30 u9 EL (λ_ _ _ _ _ _ hr=>GA c2 c29 hr) (by walk_at"bn") (by walk_at"ln")
 have c32:=Q 1 d32 ft wX (λ_ _ _ _ _ _ hr=>zt c0 hr) (by walk_at"bn") (by walk_at"ln")
 have c33:=Q 2 d33 dk pO (λ_ _ _ _ _ _ hr=>qW m1 m0 c32 c24 hr) (by walk_at"bn") (by walk_at"ln")
 have c34:=Q 3 d34 iO oz (λ_ _ _ _ _ _ hr=>pu c33 hr) (by walk_at"bn") (by walk_at"ln")
 have c25:=Q 2 d25 fu w4 (λ_ _ _ _ _ _ hr=>zz c5 c1 hr) (by walk_at"bn") (by walk_at"ln")
 have c31:=Q 3 d31 eS mD (λ_ _ _ _ _ _ hr=>nG c25 hr) (by walk_at"bn") (by walk_at"ln")
 have c35:=Q 4 d35 cV Au (λ_ _ _ _ _ _ hr=>Bw m6 m1 m2 c10 c28 c30 c34 c31 hr) (by walk_at"bn") (by walk_at"ln")
 have c41:=Q 5 d41 bQ wO (λ_ _ _ _ _ _ hr=>zm m1 c38 c39 c35 hr) (by walk_at"bn") (by walk_at"ln")
 have c22:=Q 3 d22 jO pN (λ_ _ _ _ _ _ hr=>qV c14 c12 hr) (by walk_at"bn") (by walk_at"ln")
 have c23:=Q 4 d23 oX wW (λ_ _ _ _ _ _ hr=>zr m1 m7 c22 c17 c9 c14 hr) (by walk_at"bn") (by walk_at"ln")
 have c49:=Q 0 d49 oW wV (λ_ _ _ _ _ _ hr=>zq m9 m10 m11 hr) (by walk_at"bn") (by walk_at"ln")
 have c53:=Q 5 d53 dD uT (λ_ _ _ _ _ _ hr=>vM m9 m4 m1 m12 m6 c49 c23 hr) (by walk_at"bn") (by walk_at"ln")
 have c42:=Q 2 d42 j3 w6 (λ_ _ _ _ _ _ hr=>zA c13 hr) (by walk_at"bn") (by walk_at"ln")
 have c44:=Q 1 d44 g0 sG (λ_ _ _ _ _ _ hr=>tV m8 m0 c5 hr) (by walk_at"bn") (by walk_at"ln")
 have c45:=Q 2 d45 j2 wR (λ_ _ _ _ _ _ hr=>zo c44 hr) (by walk_at"bn") (by walk_at"ln")
 have c43:=Q 1 d43 jN pM (λ_ _ _ _ _ _ hr=>qU m1 c5 hr) (by walk_at"bn") (by walk_at"ln")
 have c46:=Q 2 d46 fq ox (λ_ _ _ _ _ _ hr=>pp c13 c3 c5 hr) (by walk_at"bn") (by walk_at"ln")
 have F:=n6 (st:=fE) lL eL kL;have c47:Callee l.prog w K mg base 5 "depth" kY:=p6 F (PySem.W.mg_of X G aL) (F.binds (ps:=["points","spot"]) (by walk_at"bn")) (GV ⟨⟨_,_,_,_,_,_,_,_,rfl,lL,eL⟩,kL,hhd,hlam⟩ oV (by walk_at"ln") (λA outer s H E hr=>GB kb hhd hlam bm m1 m7 c42 c45 c43 c46 hr) EM)
 have c48:=Q 5 d48 va EO (λ_ _ _ _ _ _ hr=>GD c47 c6 hr) (by walk_at"bn") (by walk_at"ln")
 exact BJ (n6 (st:=kQ) l1 e1 k1) eR (by walk_at"ln") (λcdv A outer s H E hr=>Oz (e:=⟨l.prog,w,K,mg,base,_,cdv,A,outer,s,H,E⟩) m6 m1 m4 c50 c52 c40 c16 c41 c23 c53 c48 hr) Md
end Law
open PySem PySem.W PyProof.Rows
set_option maxRecDepth 100000 in
set_option maxHeartbeats 0 in
theorem PySem.Challenge.cw_deepspot_k63_whole_regions_in_one_anothe_holds : PySem.Challenge.rw_deepspot_k63_whole_regions_in_one_anothe.Holds := by
 w_on;o_law;k_head;(case hw=>w_witness2)
 k_fill
 refine DL.walkT (l:=PySem.Challenge.rw_deepspot_k63_whole_regions_in_one_anothe) (n:=63) (k:=7) (x:="_law_script") rfl ⋯ rfl ⟨rfl,⋯,⋯⟩ (λw h Y=>PySem.W.km_in_of Y) (λw h Y=>PySem.W.km_tabs_of Y) ?F
 case F=>
  intro w mg fa h KX G hmg;refine' Law.all_mk KX G hmg (Law.fd_mk ?_ ?_ ?_ ?_) (Law.fd_mk ?_ ?_ ?_ ?_) (Law.fd_mk ?_ ?_ ?_ ?_) (Law.fd_mk ?_ ?_ ?_ ?_) (Law.fd_mk ?_ ?_ ?_ ?_) (Law.fd_mk ?_ ?_ ?_ ?_) (Law.fd_mk ?_ ?_ ?_ ?_) (Law.fd_mk ?_ ?_ ?_ ?_) (Law.fd_mk ?_ ?_ ?_ ?_) (Law.fd_mk ?_ ?_ ?_ ?_) (Law.fd_mk ?_ ?_ ?_ ?_) (Law.fd_mk ?_ ?_ ?_ ?_) (Law.fd_mk ?_ ?_ ?_ ?_) (Law.fd_mk ?_ ?_ ?_ ?_) (Law.fd_mk ?_ ?_ ?_ ?_) (Law.fd_mk ?_ ?_ ?_ ?_) (Law.fd_mk ?_ ?_ ?_ ?_) (Law.fd_mk ?_ ?_ ?_ ?_) (Law.fd_mk ?_ ?_ ?_ ?_) (Law.fd_mk ?_ ?_ ?_ ?_) (Law.fd_mk ?_ ?_ ?_ ?_) (Law.fd_mk ?_ ?_ ?_ ?_) (Law.fd_mk ?_ ?_ ?_ ?_) (Law.fd_mk ?_ ?_ ?_ ?_) (Law.fd_mk ?_ ?_ ?_ ?_) (Law.fd_mk ?_ ?_ ?_ ?_) (Law.fd_mk ?_ ?_ ?_ ?_) (Law.fd_mk ?_ ?_ ?_ ?_) (Law.fd_mk ?_ ?_ ?_ ?_) (Law.fd_mk ?_ ?_ ?_ ?_) (Law.fd_mk ?_ ?_ ?_ ?_) (Law.fd_mk ?_ ?_ ?_ ?_) (Law.fd_mk ?_ ?_ ?_ ?_) (Law.fd_mk ?_ ?_ ?_ ?_) (Law.fd_mk ?_ ?_ ?_ ?_) (Law.fd_mk ?_ ?_ ?_ ?_) (Law.fd_mk ?_ ?_ ?_ ?_) (Law.fd_mk ?_ ?_ ?_ ?_) (Law.fd_mk ?_ ?_ ?_ ?_) (Law.fd_mk ?_ ?_ ?_ ?_) (Law.fd_mk ?_ ?_ ?_ ?_) (Law.fd_mk ?_ ?_ ?_ ?_) (Law.fd_mk ?_ ?_ ?_ ?_) (Law.fd_mk ?_ ?_ ?_ ?_) (Law.fd_mk ?_ ?_ ?_ ?_) (Law.fd_mk ?_ ?_ ?_ ?_) (Law.fd_mk ?_ ?_ ?_ ?_) ?aL ?lL ?eL ?kL (Law.fd_mk ?_ ?_ ?_ ?_) (Law.fd_mk ?_ ?_ ?_ ?_) (Law.fd_mk ?_ ?_ ?_ ?_) (Law.fd_mk ?_ ?_ ?_ ?_) (Law.fd_mk ?_ ?_ ?_ ?_) (Law.fd_mk ?_ ?_ ?_ ?_) (Law.fd_mk ?_ ?_ ?_ ?_) ?gc ?gt ?gh ?gn ?gs ?_ ?_ ?_ ?_ ?_ ?_ ?_ ?_ ?_ ?_ ?_ ?_ ?_
  (case aL=>k_is)
  (case lL=>k_is)
  (case eL=>k_is)
  (case kL=>k_is)
  (case gc=>k_is)
  (case gt=>rfl)
  (case gh=>kernel_rfl)
  (case gn=>kernel_rfl)
  (case gs=>k_mem)
  all_goals(try k_is)

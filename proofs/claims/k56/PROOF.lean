import PyProof.Rows.All
import Wide.All
import OpenK.AllK
import Wide.FinOn
import Lean
import PyProof.EqAt
import PyProof.EqKinds
import PyProof.TupleCall
import PyProof.NeKinds
import PyProof.EnumMake
import PyProof.Draws
import PyProof.ListNew
import PyProof.Rows.IntBool
import KE.LcSums
import PyProof.ListMulRoad
import PyProof.WalksT
import PyProof.ZipIter
import PyProof.Rows.ZipGen
import PyProof.SumWalk
import PyProof.Rows.CallKwBuiltin
import PyProof.AutoListH
import PyProof.WalkInts
import KE.KRevIter
import PyProof.ListStr
import PyProof.ListRange
import KE.KSortTup
import KE.KLam
import KE.KNestM
import KE.KFind
import KE.KTryDeep
import KE.KIsAll
import PyProof.ExcArgsOwn
import PyProof.Rows.SetFrom
import PyProof.StrWalks
import PyProof.CollectIter
import PyProof.FactsAll.set
import PyProof.StrCalls2
import PyProof.StrLawsIn
import PyProof.SliceStr2
import PyProof.StrOps2
import PyProof.StrBlockH
import PyProof.Rows.StrItems
import PyProof.Rows.StrSplitAre
import PyProof.StrLawsTight
import KE.KIntText
import KE.IntTextText
import PyProof.CompFree
import PyProof.Rows.StrSplitJoin
import PyProof.Rows.FStr
import PyProof.FactsAll.bool_1
import PyProof.ReprLen
import PyProof.FactsAll.NoneType_1
import PyProof.FitsInt
import PyProof.StrBlock
import PyProof.JoinWalk
import KE.KUnpack
import PyProof.Rows.StrFit
import PyProof.StrLawsFirst
import PyProof.Rows.StrLawsPart
import PyProof.FactsAll.str_6
import PyProof.FactsAll.str_8
import PyProof.Rows.StrCase
import PySem.Challenge.RW_pagewalks_k56_words_refused
set_option maxHeartbeats 0
set_option Elab.async false
set_option bootstrap.genMatcherCode false
set_option genSizeOfSpec false
set_option genSizeOf false
set_option linter.all false
set_option maxRecDepth 100000
set_option hygiene false
local macro_rules|`(00)=>`(by lia)
local macro_rules|`(01)=>`(by decide)
local macro_rules|`(02)=>`(by rfl)
local macro_rules|`(03)=>`(by decide +kernel)
local macro_rules|`(04)=>`(envOfC qual scope s.heap.objs.size f cd)
local macro_rules|`(05)=>`(by simp)
local macro_rules|`(06)=>`(model X.prog X.w)
local macro_rules|`(07)=>`(model prog w)
local macro_rules|`(08)=>`(λcdv A' outer s H vs Q E hr h=>?_)
local macro_rules|`(09)=>`(Or.inl rfl)
local macro_rules|`(010)=>`(z7 X N' scope cl s3.heap.objs.size s3 H3 fp)
local macro_rules|`(011)=>`(.ListComp elt [⟨tg,iter,ifs,0⟩] scope pos)
local macro_rules|`(012)=>`(@ze _ _ _ _ _ 02 zE zw)
local macro_rules|`(013)=>`(Addr×Obj)
local macro_rules|`(014)=>`(hr.mono 01)
local macro_rules|`(015)=>`(z7 X N' scope cl C s H fp)
local macro_rules|`(016)=>`((false,eval e X.env))
local macro_rules|`(017)=>`(λvs H Q E h=>?_)
local macro_rules|`(018)=>`(⟨_,rfl,rfl,_,rfl,?_⟩)
local macro_rules|`(019)=>`(⟨rfl,rfl,.inl rfl⟩)
local macro_rules|`(020)=>`(s.heap.objs.size+1)
local macro_rules|`(021)=>`(by show 1<=10;decide)
local macro_rules|`(022)=>`(λ_ z=>by cases z)
local macro_rules|`(023)=>`(.ref s.heap.objs.size)
local macro_rules|`(024)=>`(.ref a)
local macro_rules|`(025)=>`(.ref D)
local macro_rules|`(026)=>`(Zy (JW P w Cs) P w K mg base N qual scope f cd A outer s H E)
local macro_rules|`(027)=>`(Zy (ye P w C) P w K mg base N qual scope f cd A outer s H E)
local macro_rules|`(028)=>`(λ_ _=>rfl)
local macro_rules|`(029)=>`((relabel scope X.env).names.lookup x=some .cell\/(relabel scope X.env).names.lookup x=some .free)
local macro_rules|`(030)=>`(@ze _ _ _ _ _ 02 (pv 1) zw)
local macro_rules|`(031)=>`(Bs.getD t (0,1))
local macro_rules|`(032)=>`(q1 ⟨ZA XT 02 012 02 02 01⟩)
local macro_rules|`(033)=>`(qx zG (qv 0) qi)
local macro_rules|`(034)=>`(.lst ys)
local macro_rules|`(035)=>`(.ref C)
abbrev SV:=PySem.Str->Option PySem.Value
abbrev LI:=List (Int×Int)
abbrev FR:=PySem.W.Frag
def ZB:=@PySem.Heap.get?_push_of_some
def Z00:=@List.length_map
def Z01:=@Nat.le_refl
def Z02:=@List.getElem?_eq_getElem
def Z03:=@List.mem_cons_of_mem
def Z04:=@List.mem_singleton
def Z05:=@List.size_toArray
def Z06:=@List.getD_eq_getElem?_getD
def Z07:=@Array.length_toList
def Z08:=@List.mem_cons
def Z09:=@List.length_cons
def Z0w:=@PySem.Heap.lt_size
def Z0K:=@List.mem_cons_self
def Z0N:=@Nat.lt_of_lt_of_le
def Z0U:=@Bool.false_ne_true
def Z0X:=@Nat.le_trans
def Z10:=@PySem.Heap.get?_push_size
def Z11:=@Array.toList_append
def Z12:=@Option.some.inj
def Z13:=@Nat.ne_of_lt
def Z14:=@List.length_append
def Z15:=@List.getElem?_eq_some_iff
def Z16:=@List.map_append
def Z17:=@PySem.Str.cps_append
def Z18:=@List.take_of_length_le
def Z19:=@Nat.zero_le
def Z1a:=@List.getElem?_map
def Z1e:=@Rat.intCast_mul
def Z1g:=@List.mem_append_right
def Z1y:=@List.mem_append
def Z1Y:=@List.map_cons
def Z20:=@Array.toList_inj
def Z21:=@PySem.F.plainAttrs_str
def Z22:=@List.length_take
def Z23:=@List.mem_map
def Z24:=@PySem.W.mg_none_of
def Z25:=@List.append_assoc
def Z26:=@List.all_eq_true
def Z27:=@List.length_eq_zero_iff
def Z28:=@Rat.intCast_le_intCast
def Z29:=@List.getElem_mem
def Z2m:=@Bool.and_eq_true
def Z2u:=@List.mem_of_getElem?
def Z2x:=@List.not_mem_nil
def Z2I:=@Nat.lt_irrefl
def Z2Q:=@List.mem_append_left
def Z30:=@PySem.boot_len
def Z31:=@List.length_drop
def Z32:=@PySem.mem_of_lookup
def Z33:=@PyProof.Rows.callWith_type1
def Z34:=@Array.getElem?_toList
def Z35:=@List.take_add_one
def Z36:=@List.length_range
def Z37:=@List.getElem?_append_left
def Z38:=@List.replicate_succ
def Z39:=@List.length_singleton
def Z3o:=@Int.toNat_natCast
def Z3I:=@List.mem_range
def Z3J:=@PySem.W.kia_one
def Z3K:=@Nat.pow_le_pow_right
def Z3L:=@Nat.ne_of_gt
def Z3M:=@PySem.F.slot_str_split
def Z3N:=@PyProof.Rows.slot_tuple_getitem
def Z3O:=@Ne.symm
def Z3P:=@List.filterMap_cons
def Z3Q:=@PySem.W.mg_of
def Z3R:=@List.map_nil
def Z3S:=@List.cons.injEq
def Z3T:=@Int.eq_ofNat_of_zero_le
def Z3Z:=@PySem.F.slot_str_startswith
def Z40:=@List.append_nil
def Z41:=@PySem.F.excBase_ValueError
def Z42:=@Int.fdiv_eq_ediv_of_nonneg
def Z43:=@List.mem_filterMap
def Z44:=@List.countP_append
def Z45:=@Array.getElem?_eq_getElem
def Z46:=@Rat.intCast_sub
def Z47:=@Nat.not_lt_zero
def Z48:=@PySem.F.plainAttrs_list
def Z49:=@List.length_pos_iff
def Z4e:=@List.getElem_of_mem
def Z4K:=@Int.mul_nonneg
def Z4L:=@PySem.Heap.size_push
def Z4O:=@PySem.Str.ext'
def Z4X:=@List.flatten_cons
def Z50:=@List.cons.inj
def Z51:=@List.getElem?_append_right
def Z52:=@PySem.Heap.get?_update_other
def Z53:=@Nat.lt_of_le_of_lt
def Z54:=@List.pairwise_cons
def Z55:=@List.foldl_cons
def Z56:=@PySem.F.type_str_split
def Z57:=@Array.size_append
def Z58:=@List.drop_zero
def Z59:=@Nat.pow_succ
def Z5d:=@List.countP_cons
def Z5h:=@Nat.mul_le_mul_right
def Z5j:=@PySem.F.type_str_startswith
def Z5n:=@List.range_succ
def Z5q:=@List.length_nil
def Z5t:=@List.forIn_cons
open PySem PySem.Spec PyProof PyProof.Rows PySem.W
variable{K:FR}{s:Shared}{n:Nat}
def zl0:0<=PySem.sizeLine:=01
def zl1:1<=PySem.sizeLine:=01
def zl2:2<=PySem.sizeLine:=01
def zl3:3<=PySem.sizeLine:=01
namespace L2
noncomputable abbrev Key:=Sum Int Str
noncomputable def Z0Q:Key->Value->Bool
 | .inl k,v=>Value.isInt k v
 | .inr x,v=>Value.isStrOf x v
noncomputable def Z6h(w:World):Key->Int
 | .inl k=>hashInt k
 | .inr x=>hashStr w x
def Zn:∀ {k:Key}{v:Value},Z0Q k v=true->(∃ i t,k=Sum.inl i/\v=Value.int i t)\/(∃ x t,k=Sum.inr x/\v=Value.str x t)
 | .inl i,v,h=>by
   obtain⟨t,e⟩:=Value.isInt_shape (k:=i) (v:=v) h;exact .inl ⟨i,t,rfl,e⟩
 | .inr x,v,h=>by
   obtain⟨t,e⟩:=Value.isStrOf_shape (x:=x) (v:=v) h;exact .inr ⟨x,t,rfl,e⟩
def Z1U(a b:Int):decide ((Sum.inl a:Key)=Sum.inl b)=(a == b):=by
 by_cases e:a=b;subst e;simp;have h:¬ (Sum.inl a:Key)=Sum.inl b:=λq=>e (Sum.inl.inj q);rw[decide_eq_false h];exact (beq_eq_false_iff_ne.mpr e).symm
def Z2R(a b:Str):decide ((Sum.inr a:Key)=Sum.inr b)=decide (a=b):=by
 by_cases e:a=b;subst e;simp;have h:¬ (Sum.inr a:Key)=Sum.inr b:=λq=>e (Sum.inr.inj q);rw[decide_eq_false h,decide_eq_false e]
def Z2r(a:Int)(b:Str):decide ((Sum.inl a:Key)=Sum.inr b)=false:=decide_eq_false (λq=>nomatch q)
def Z3y(a:Str)(b:Int):decide ((Sum.inr a:Key)=Sum.inl b)=false:=decide_eq_false (λq=>nomatch q)
noncomputable def jX(prog:Program)(w:World):PySem.KeyKind prog w Key where
 is:=Z0Q
 hash:=Z6h w
 inj:=λv a b ha d=>by
  rcases Zn ha with⟨i,t,rfl,rfl⟩|⟨x,t,rfl,rfl⟩;rcases Zn d with⟨j,u,rfl,e⟩|⟨y,u,rfl,e⟩;injection e with e1 _;rw[e1];exact nomatch e;rcases Zn d with⟨j,u,rfl,e⟩|⟨y,u,rfl,e⟩;exact nomatch e;injection e with e1 _;rw[e1]
 byValue:=λk v h=>by
  rcases Zn h with⟨i,t,rfl,rfl⟩|⟨x,t,rfl,rfl⟩ <;> rfl
 pyHash:=λc h=>by
  rcases Zn c with⟨i,t,rfl,rfl⟩|⟨x,t,rfl,rfl⟩;exact wpAny_pyHash_int h;exact wpAny_pyHash_str h
 eqBool:=λf c h=>by
  rcases Zn f with⟨i,t,rfl,rfl⟩|⟨x,t,rfl,rfl⟩;rcases Zn c with⟨j,u,rfl,rfl⟩|⟨y,u,rfl,rfl⟩;rw[Z1U] at h;exact wpAny_eqBool_int h;rw[Z2r] at h;exact SeqAt.EqAt.int_str i t y u _ _ _ _ h;rcases Zn c with⟨j,u,rfl,rfl⟩|⟨y,u,rfl,rfl⟩;rw[Z3y] at h;exact SeqAt.EqAt.str_int x t j u _ _ _ _ h;rw[Z2R] at h;exact wpAny_eqBool_str h
 «strs»:=λk x t v h=>by
  rcases Zn h with⟨i,u,rfl,e⟩|⟨y,u,rfl,e⟩;exact nomatch e;injection e with e1 _;subst e1;cases v <;> rfl
inductive V where
 | Zc | bl (b:Bool) | int (i:Int) | str (x:Str) | byt (b:Array UInt8) | flt (b:UInt64) | ref (a:Addr) | ty (n:String)
 deriving DecidableEq
noncomputable def RelV:V->Value->Prop
 | .Zc,u=>u=Value.none
 | .bl b,u=>u=Value.bool b
 | .int i,u=>∃ t,u=Value.int i t
 | .str x,u=>∃ t,u=Value.str x t
 | .byt b,u=>∃ t,u=Value.bytes b t
 | .flt b,u=>∃ t,u=Value.float b t
 | .ref a,u=>u=Value.ref a
 | .ty n,u=>u=Value.type n
noncomputable abbrev Vals:List V->List Value->Prop:=Paired RelV
def Vals.length(r:Vals xs us):xs.length=us.length:=Paired.length r
def Vals.get:∀ {xs:List V}{us:List Value}{i:Nat}{x:V},Vals xs us->xs[i]?=some x->∃ u,us[i]?=some u/\RelV x u
 | _,_,_,_,.nil,e=>by simp at e
 | _,_,0,_,.cons r _,e=>by simp at e;subst e;exact⟨_,rfl,r⟩
 | _,_,i+1,x,.cons _ t,e=>by
   obtain⟨u,b,a⟩:=Vals.get (i:=i) (x:=x) t (by simpa using e);exact⟨u,by simpa using b,a⟩
def Vals.set{x:V}(r:RelV x u):∀ {xs:List V}{us:List Value}(i:Nat),Vals xs us->Vals (xs.set i x) (us.set i u)
 | _,_,_,.nil=>.nil
 | _,_,0,.cons _ t=>.cons r t
 | _,_,i+1,.cons q t=>.cons q (Vals.set r i t)
def Vals.append:∀ {xs ys:List V}{us ws:List Value},Vals xs us->Vals ys ws->Vals (xs ++ ys) (us ++ ws)
 | _,_,_,_,.nil,s=>s
 | _,_,_,_,.cons r t,s=>.cons r (Vals.append t s)
def Vals.take:∀ {xs:List V}{us:List Value}(n:Nat),Vals xs us->Vals (xs.take n) (us.take n)
 | _,_,0,_=>.nil
 | _,_,_+1,.nil=>.nil
 | _,_,n+1,.cons r t=>.cons r (Vals.take n t)
def Vals.drop:∀ {xs:List V}{us:List Value}(n:Nat),Vals xs us->Vals (xs.drop n) (us.drop n)
 | _,_,0,r=>r
 | _,_,_+1,.nil=>.nil
 | _,_,n+1,.cons _ t=>Vals.drop n t
noncomputable def UH:Option V->Option Value->Prop
 | some v,some u=>RelV v u
 | none,none=>True
 | _,_=>False
noncomputable def KV{κ:Type}:List (κ×V)->List (κ×Value)->Prop:=Paired λ(p:κ×V) (q:κ×Value)=>p.1=q.1/\RelV p.2 q.2
noncomputable def kV:Key->V
 | .inl i=>.int i
 | .inr x=>.str x
inductive HO where
 | lst (xs:List V)
 | tup (xs:List V)
 | dK (kvs:List (Key×V)) | dT (kvs:List (List Key×V))
 | set (S:Int->Bool) (n:Nat)
 | ins (C dx:Addr) (fs:List (Str×V))
 | own (x:Addr)
 | xd (fs:List (Str×V))
 | met (f x:Addr)
 | rng (lo hi:Int)
 | frz (o:Obj) (u:HO)
 | Qd (ps:Array Value)
 | ext (φ:Heap->Prop)
noncomputable abbrev Hp:=Addr->Option HO
noncomputable def upd(H:Hp)(a:Addr)(o:HO):Hp:=λb=>if b=a then some o else H b
def zq:upd H a o a=some o:=by unfold upd;rw[if_pos rfl]
def zC(h:b≠a):upd H a o b=H b:=by unfold upd;rw[if_neg h]
def Z1b{H:Hp}{a b:Addr}{o u:HO}(h:H a=some o)(h':H b=some u)(d:o≠u):a≠b:=by
 intro e;subst e;rw[h] at h';exact d (Z12 h')
def zo{H:Hp}{a b:Addr}{o:HO}(h:H a=some o)(h':H b=none):a≠b:=by
 intro e;subst e;rw[h] at h';cases h'
noncomputable def yb(h:Heap)(a:Addr)(items:Array Value):Prop:=∃ o,h.get? a=some o/\(o.cls,o.dict)=(Value.type "tuple",(none:Option Addr))/\∃ n,o.data=.seq items n
def yb.tup{h:Heap}{a:Addr}{items:Array Value}(p:yb h a items):PyProof.Rows.IsTup h a items:=by
 obtain⟨o,e,c,n,d⟩:=p;exact⟨o,e,congrArg Prod.fst c,n,d⟩
def yb.new(h:Heap)(items:Array Value):yb (h.push { cls:=.type "tuple",data:=.seq items }) h.objs.size items:=⟨_,Z10 _ rfl,rfl,_,rfl⟩
section
variable(P:Program)(w:World)
noncomputable def Zl(H:Hp)(h:Heap)(a:Addr):HO->Prop
 | .lst xs=>xs.length<=sizeLine/\∃ (its:List Value) (n:Nat),Vals xs its/\h.get? a=some { cls:=.type "list",data:=.seq its.toArray n }
 | .tup xs=>xs.length<=sizeLine/\∃ its:List Value,Vals xs its/\yb h a its.toArray
 | .dK kvs=>kvs.length<=sizeLine/\(a == sysModules)=false/\∃ vs,KV kvs vs/\h.DictOf (jX P w) a vs
 | .dT kvs=>kvs.length<=sizeLine/\(a == sysModules)=false/\∃ xs:List (List Key×Addr×Value),
  Paired (λ(p:List Key×V) (q:List Key×Addr×Value)=>p.1=q.1/\H q.2.1=some (.tup (p.1.map kV))/\RelV p.2 q.2.2) kvs xs/\
  ∃ o b i,h.get? a=some o/\o.ExactDict/\o.data=.dict b i/\b.toList=xs.map (entryOfKey (tupleKind (jX P w)))/\(xs.map (·.1)).Nodup
 | .set S n=>h.SetOf (intKind P w) a S n
 | .ins C dx fs=>H dx=some (.own a)/\fs.length<=1000/\dx≠a/\h.get? a=some (PySem.W.instObj C dx)/\
  ∃ mA,h.Ns1 dx mA/\(∀ f,UH (fs.lookup f) (mA f))/\PySem.Within mA (fs.map (·.1))
 | .own _=>∃ o,h.get? a=some o
 | .xd fs=>∃ mA,h.Ns1 a mA/\∀ f,UH (fs.lookup f) (mA f)
 | .rng lo hi=>∃ t u v,h.get? a=some { cls:=.type "range",data:=.fields #[.int lo t,.int hi u,.int 1 v] }
 | .frz o u=>h.get? a=some o/\Zl H h a u
 | .Qd ps=>h.get? a=some { cls:=.none,data:=.fields ps }
 | .met f x=>h.get? a=some (PySem.W.methodObj (.ref f) (.ref x))
 | .ext φ=>φ h/\(∃ o,h.get? a=some o)/\∀ d c:Heap,φ d->(∀ o,d.get? a=some o->c.get? a=some o)->φ c
noncomputable def Xx(H:Hp)(h:Heap):Prop:=∀ a o,H a=some o->Zl P w H h a o
end
def Zl.lt(x:Zl P w H h a o):a<h.objs.size:=by
 cases o with
 | lst xs=>obtain⟨_,_,_,_,e⟩:=x;exact Z0w e
 | tup xs=>obtain⟨_,_,_,p⟩:=x;exact p.tup.lt
 | dK kvs=>obtain⟨_,_,_,_,o,_,_,e,_⟩:=x;exact Z0w e
 | dT kvs=>obtain⟨_,_,_,_,o,_,_,e,_⟩:=x;exact Z0w e
 | set S n=>obtain⟨o,_,_,_,e,_⟩:=x;exact Z0w e
 | ins C dx fs=>obtain⟨_,_,_,e,_⟩:=x;exact Z0w e
 | own y=>obtain⟨_,e⟩:=x;exact Z0w e
 | xd fs=>obtain⟨_,⟨_,_,_,e,_⟩,_⟩:=x;exact Z0w e
 | rng lo hi=>obtain⟨_,_,_,e⟩:=x;exact Z0w e
 | frz ob u=>obtain⟨e,_⟩:=x;exact Z0w e
 | Qd ps=>exact Z0w (show h.get? a=some _ from x)
 | met f y=>exact Z0w (show h.get? a=some _ from x)
 | ext φ=>obtain⟨_,⟨_,e⟩,_⟩:=x;exact Z0w e
def Paired.Z1Z{α β:Type}{F G:α->β->Prop}:∀ {d:List α}{c:List β},Paired F d c->(∀ a b,F a b->G a b)->Paired G d c
 | _,_,.nil,_=>.nil
 | _,_,.cons r t,f=>.cons (f _ _ r) (Paired.Z1Z t f)
def Zl.stay(x:Zl P w H h a o)(k:∀ b u,(b=a\/H b=some (.own a))->h.get? b=some u->h'.get? b=some u)(s:∀ b,H b=some (.own a)->H' b=some (.own a))(l:∀ b xs,H b=some (.tup xs)->H' b=some (.tup xs)):Zl P w H' h' a o:=by
 induction o with
 | lst xs=>obtain⟨z,its,n,r,e⟩:=x;exact⟨z,its,n,r,k _ _ (.inl rfl) e⟩
 | tup xs=>obtain⟨z,its,r,ob,e,c⟩:=x;exact⟨z,its,r,ob,k _ _ (.inl rfl) e,c⟩
 | dK kvs=>obtain⟨z,y,vs,r,ob,i,j,e,c⟩:=x;exact⟨z,y,vs,r,ob,i,j,k _ _ (.inl rfl) e,c⟩
 | dT kvs =>
   obtain⟨z,y,xs,r,ob,i,j,e,c⟩:=x;exact⟨z,y,xs,Paired.Z1Z r λp q z=>⟨z.1,l _ _ z.2.1,z.2.2⟩,ob,i,j,k _ _ (.inl rfl) e,c⟩
 | set S n=>obtain⟨ob,i,j,t,e,c⟩:=x;exact⟨ob,i,j,t,k _ _ (.inl rfl) e,c⟩
 | ins C dx fs =>
   obtain⟨d,z,ne,e,mA,⟨od,i,j,m,c⟩,r⟩:=x;exact⟨s _ d,z,ne,k _ _ (.inl rfl) e,mA,⟨od,i,j,k _ _ (.inr d) m,c⟩,r⟩
 | own y=>obtain⟨ob,e⟩:=x;exact⟨ob,k _ _ (.inl rfl) e⟩
 | xd fs=>obtain⟨mA,⟨od,i,j,e,c⟩,r⟩:=x;exact⟨mA,⟨od,i,j,k _ _ (.inl rfl) e,c⟩,r⟩
 | rng lo hi=>obtain⟨t,u,v,e⟩:=x;exact⟨t,u,v,k _ _ (.inl rfl) e⟩
 | frz ob u ih=>obtain⟨e,q⟩:=x;exact⟨k _ _ (.inl rfl) e,ih q⟩
 | Qd ps =>
   have e:h.get? a=some { cls:=.none,data:=.fields ps }:=x;show h'.get? a=some { cls:=.none,data:=.fields ps };exact k a _ (.inl rfl) e
 | met f y =>
   have e:h.get? a=some (PySem.W.methodObj (.ref f) (.ref y)):=x;show h'.get? a=some (PySem.W.methodObj (.ref f) (.ref y));exact k a _ (.inl rfl) e
 | ext φ=>obtain⟨p,⟨o,e⟩,st⟩:=x;exact⟨st _ _ p λo q=>k _ _ (.inl rfl) q,⟨o,k _ _ (.inl rfl) e⟩,st⟩
def Xx.lt(x:Xx P w H h)(e:H a=some o):a<h.objs.size:=(x a o e).lt
def Xx.fresh{h:Heap}{a:Addr}(x:Xx P w H h)(e:h.objs.size<=a):H a=none:=by
 cases q:H a with
 | none=>rfl
 | some u=>exact absurd (Z0N (x.lt q) e) (Z2I _)
def Xx.kept(x:Xx P w H h)(k:∀ b u,h.get? b=some u->h'.get? b=some u):Xx P w H h':=λa o e =>
 (x a o e).stay (λb u _ q=>k b u q) (λ_ q=>q) λ_ _ q=>q
def Xx.laid{h h':Heap}{a:Addr}(x:Xx P w H h)(k:∀ b u,h.get? b=some u->h'.get? b=some u)(d:h.objs.size<=a)(new:Zl P w (upd H a o) h' a o):Xx P w (upd H a o) h':=λb u e=>by
 have hn:=x.fresh d;by_cases hb:b=a;subst hb;rw[zq] at e;cases e;exact new;rw[zC hb] at e;exact (x b u e).stay (λc v _ q=>k c v q) (λc q=>by rw[zC (zo q hn)];exact q) λc xs q=>by rw[zC (zo q hn)];exact q
noncomputable def Rd(H:Hp)(a:Addr)(u:HO):Prop:=H a=some u\/∃ o,H a=some (.frz o u)
def Rd.ok(r:Rd H a u)(x:Xx P w H h):Zl P w H h a u:=by
 rcases r with r |⟨o,r⟩;exact x a u r;obtain⟨_,q⟩:=x a _ r;exact q
noncomputable def Mut:Option HO->Prop
 | some (.lst _)=>True
 | some (.dK _)=>True
 | some (.dT _)=>True
 | some (.set _ _)=>True
 | some (.ins _ _ _)=>True
 | some (.ext _)=>True
 | _=>False
def Xx.write{x e:Addr}(ok:Xx P w H h)(f:Mut (H x))(he:e=x\/H e=some (.own x))(k:∀ b u,b≠e->h.get? b=some u->h'.get? b=some u)(j:∃ u,h'.get? e=some u)(new:Zl P w (upd H x o') h' x o'):Xx P w (upd H x o') h':=λb u q=>by
 have a:∀ c y,H c=some (.own y)->c≠x:=λc y r z=>by subst z;rw[r] at f;exact f
 have d:∀ c xs,H c=some (.tup xs)->c≠x:=λc xs r z=>by subst z;rw[r] at f;exact f
 by_cases hb:b=x;subst hb;rw[zq] at q;cases q;exact new;rw[zC hb] at q;by_cases hbe:b=e;have l:H b=some (.own x):=by
  rcases he with z | z;exact absurd (hbe.trans z) hb;rw[hbe];exact z
 rw[q] at l;cases l;obtain⟨v,m⟩:=j;exact⟨v,by rw[hbe];exact m⟩;refine (ok b u q).stay (λc v i r=>k c v ?_ r) (λc r=>by rw[zC (a c b r)];exact r) λc xs r=>by rw[zC (d c xs r)];exact r
 rcases i with rfl | i;exact hbe;rintro rfl;rcases he with z | z;exact a c b i z;rw[i] at z;cases z;exact hb rfl
structure Un(fs ex:List Addr)(H H':Hp)(h h':Heap):Prop where
 keep:∀ b o,h.get? b=some o->H b=none->b∉fs->b∉ex->h'.get? b=some o
 slot:∀ b o,h.get? b=some o->H b=none->b∈fs->b∉ex->∃ sl,h'.get? b=some { o with slots:=sl }
 free:∀ b o,h.get? b=some o->H b=none->b∉ex->H' b=none
 there:∀ b o,h.get? b=some o->b∉ex->∃ o',h'.get? b=some o'
 tups:∀ b xs,H b=some (.tup xs)->H' b=some (.tup xs)
 frzs:∀ b o u,H b=some (.frz o u)->H' b=some (.frz o u)
 tbls:∀ b ps,H b=some (.Qd ps)->∃ more,H' b=some (.Qd (ps ++ more))
def Un.any{fs:List Addr}(u:Un fs ex H H1 h h1)(q:h.get? b=some ob)(n:H b=none)(a:b∉ex):∃ sl,h1.get? b=some { ob with slots:=sl }:=by
 by_cases hb:b∈fs;exact u.slot b ob q n hb a;exact⟨ob.slots,u.keep b ob q n hb a⟩
def Un.kept{fs:List Addr}(k:∀ b u,h.get? b=some u->h'.get? b=some u):Un fs ex H H h h' :=
 ⟨λb ob q _ _ _=>k b ob q,λb ob q _ _ _=>⟨ob.slots,k b ob q⟩,λ_ _ _ n _=>n,λb ob q _=>⟨ob,k b ob q⟩,λ_ _ q=>q,λ_ _ _ q=>q,λ_ ps q=>⟨#[],by rw[q];simp⟩⟩
def Un.refl{fs:List Addr}:Un fs ex H H h h:=Un.kept λ_ _ q=>q
def Un.laid{fs:List Addr}(k:∀ b u,h.get? b=some u->h'.get? b=some u)(c:h.objs.size<=a)(hn:H a=none):Un fs ex H (upd H a o) h h' where
 keep:=λb u q _ _ _=>k b u q
 slot:=λb u q _ _ _=>⟨u.slots,k b u q⟩
 free:=λb u q n _=>by rw[zC (Z13 (Z0N (Z0w q) c))];exact n
 there:=λb u q _=>⟨u,k b u q⟩
 tups:=λb xs q=>by rw[zC (zo q hn)];exact q
 frzs:=λb u xs q=>by rw[zC (zo q hn)];exact q
 tbls:=λb ps q=>⟨#[],by rw[zC (zo q hn),q];simp⟩
def Un.write{fs:List Addr}{x e:Addr}(a:Mut (H x))(he:e=x\/H e=some (.own x))(k:∀ b u,b≠e->h.get? b=some u->h'.get? b=some u)(c:∃ u,h'.get? e=some u):Un fs ex H (upd H x o) h h':=by
 have f:∀ b,H b=none->b≠x:=λb n z=>by subst z;rw[n] at a;exact a
 have d:∀ b,H b=none->b≠e:=λb n z=>by
  subst z;rcases he with r | r;exact f b n r;rw[n] at r;cases r
 have hm:∀ b u,H b=some u->¬ Mut (some u)->b≠x:=λb u q nm z=>by subst z;rw[q] at a;exact nm a
 refine⟨λb u q n _ _=>k b u (d b n) q,λb u q n _ _=>⟨u.slots,k b u (d b n) q⟩,λb u q n _=>by rw[zC (f b n)];exact n,λb u q _=>?_,
  λb xs q=>by rw[zC (hm b _ q λz=>z)];exact q,λb u xs q=>by rw[zC (hm b _ q λz=>z)];exact q,λb ps q=>⟨#[],by rw[zC (hm b _ q λz=>z),q];simp⟩⟩
 by_cases hbe:b=e;subst hbe;exact c;exact⟨u,k b u hbe q⟩
noncomputable def trk(h:Heap)(H:Hp):List Addr:=(List.range h.objs.size).filter λa=>(H a).isSome
noncomputable def Uy(h:Heap)(H:Hp):Heap:=PySem.W.hideAll h (trk h H)
def z5f(h:Heap)(H:Hp):(Uy h H).objs.size=h.objs.size:=PySem.W.hideAll_size _ _
def z7N(e:h.get? b=some o)(n:H b=none):(Uy h H).get? b=some o :=
 PySem.W.hideAll_get _ e λhm=>by
  have q:(H b).isSome=true:=(List.mem_filter.mp hm).2;rw[n] at q;simp at q
def Jz(e:(Uy h H).get? b=some o):h.get? b=some o/\H b=none:=by
 have a:h.get? b=some o:=PySem.W.of_hideAll (trk h H) e;refine⟨a,?_⟩;cases q:H b with
 | none=>rfl
 | some x =>
   have hm:b∈trk h H:=List.mem_filter.mpr ⟨Z3I.mpr (Z0w a),by simp[q]⟩;have z:(Uy h H).get? b=none:=PySem.W.hideAll_none (trk h H) hm;rw[z] at e;cases e
noncomputable def yn(g h:Heap)(L:Addr):List 013:=(List.range h.objs.size).filterMap λa=>if a=L\/(g.get? a).isSome=true then none else (h.get? a).map λo=>(a,o)
def vI{g:Heap}(c:a≠L)(d:g.get? a=none)(b:h.get? a=some o):(a,o)∈yn g h L :=
 Z43.mpr ⟨a,Z3I.mpr (Z0w b),by simp[c,d,b]⟩
def xx{g:Heap}(a:p∈yn g h L):p.1≠L/\g.get? p.1=none/\h.get? p.1=some p.2:=by
 obtain⟨b,_,e⟩:=Z43.mp a;split at e;cases e;rename_i hn;cases q:h.get? b with
 | none=>rw[q] at e;simp at e
 | some u =>
   rw[q] at e;simp only[Option.map_some,Option.some.injEq] at e;subst e;refine⟨λz=>hn (.inl z),?_,q⟩;show g.get? b=none;cases r:g.get? b with
   | none=>rfl
   | some v=>exact (hn (.inr (by simp[r]))).elim
def z0h{g:Heap}:News g L h (yn g h L):=λp d=>let ⟨a,b,c⟩:=xx d;⟨c,a,b⟩
structure Mod(K:FR)(mg:SV)(base:Heap):Prop where
 kin:K.In base
 glob:base.Ns mainGlobals mg
 blt:∃ mb,base.Ns builtinsNs mb/\∀ x:Str,x≠"__name__"->mb x=bootBuiltins x
 nolimit:base.NoLimit
set_option genInjectivity false in
set_option genInjectivity false in
structure Cx where
 prog:Program
 w:World
 K:FR
 mg:SV
 base:Heap
 A:Around
 N:List Str
 s₀:Shared
 H₀:Hp
 env:Env
 outer:List Env
 stack:List Env
 ex:List Addr
 fn:Str->Bool
 calm:Bool
 pn:List 013
 xe:Value->Shared->Prop
noncomputable def frs(l:List Env):List Addr:=l.filterMap (·.frame)
noncomputable abbrev Cx.fs(X:Cx):List Addr:=frs X.outer
noncomputable def Vis(sc:Scope)(x:Str):Prop:=sc.names.lookup x=some .local\/sc.names.lookup x=some .cell\/sc.names.lookup x=some .free
noncomputable def Loc(sc:Scope)(x:Str):Prop:=sc.names.lookup x=some .local\/sc.names.lookup x=some .cell
noncomputable def Look(env:Env)(h:Heap)(m:SV)(x:Str)(u:Value):Prop :=
 (env.kindOf x=some .local/\m x=some u)\/((env.kindOf x=some .cell\/env.kindOf x=some .free)/\∃ c,env.cells.lookup x=some c/\h.IsCell c (some u))
set_option genInjectivity false in
structure Cx.Ok(X:Cx):Prop where
 mod:Mod X.K X.mg X.base
 kind:X.env.scope.kind=.function
 glob:X.env.globals=mainGlobals
 blt:X.env.builtins=builtinsNs
 above:X.s₀.heap.objs.size<=X.env.locals
 inj:∀ x y c,X.env.cells.lookup x=some c->X.env.cells.lookup y=some c->x=y
 has:∀ x,(X.env.kindOf x=some .cell\/X.env.kindOf x=some .free)->∃ c,X.env.cells.lookup x=some c
 cab:∀ x c,X.fn x=true->X.env.cells.lookup x=some c->X.s₀.heap.objs.size<=c
 hd:X.calm=true->X.A.handled=none
 frames:X.A.frames=some X.stack
 stk:X.stack=X.outer\/(X.stack=X.env :: X.outer/\X.env.frame=some X.env.locals)
 exf:∀ b∈X.ex,b≠X.env.locals/\∀ x c,X.env.cells.lookup x=some c->c≠b
 bs:∀ b o,X.base.get? b=some o->X.s₀.heap.get? b=some o/\X.H₀ b=none
 bsz:X.base.objs.size<=X.s₀.heap.objs.size
 noex:∀ b o,X.base.get? b=some o->b∉X.ex
 exfs:∀ b∈X.ex,b∉X.fs
 xo:X.s₀.heap.FunFrames X.base X.outer
 frf:∀ b∈X.fs,X.H₀ b=none
set_option genInjectivity false in
structure Inv(X:Cx)(pins:List 013)(σ:List (Option V))(H:Hp)(s:Shared):Prop where
 ok:X.Ok
 os:s.os=X.s₀.os
 bare:AllBare s.gens
 base:Un X.fs X.ex X.H₀ H X.s₀.heap s.heap
 loc:∃ m,s.heap.Ns X.env.locals m/\∀ (i:Nat) (x:Str) (v:V),X.N[i]?=some x->σ[i]?=some (some v)->Vis X.env.scope x->∃ u,RelV v u/\Look X.env s.heap m x u
 cell:∀ x c,X.env.cells.lookup x=some c->∃ v,s.heap.IsCell c v
 free:H X.env.locals=none
 freeC:∀ x c,X.env.cells.lookup x=some c->H c=none
 pin:∀ p∈X.pn ++ pins,s.heap.get? p.1=some p.2/\H p.1=none/\p.1≠X.env.locals/\p.1∉X.fs/\∀ v,p.2.data≠.cell v
 hok:Xx X.prog X.w H s.heap
 len:σ.length=X.N.length
def Cx.Ok.Z6j{X:Cx}(ok:X.Ok)(e:X.base.get? b=some o):b∉X.fs:=λa=>by
 have:=(ok.xo.mem a).1;rw[e] at this;cases this
def Inv.bs(I:Inv X pins σ H s):∀ b o,X.base.get? b=some o->s.heap.get? b=some o/\H b=none:=λb o e =>
 ⟨I.base.keep b o (I.ok.bs b o e).1 (I.ok.bs b o e).2 (I.ok.Z6j e) (I.ok.noex b o e),I.base.free b o (I.ok.bs b o e).1 (I.ok.bs b o e).2 (I.ok.noex b o e)⟩
def Inv.bk(I:Inv X pins σ H s):∀ b o,X.base.get? b=some o->s.heap.get? b=some o:=λb o e=>(I.bs b o e).1
def Inv.mod(I:Inv X pins σ H s):Mod X.K X.mg X.base:=I.ok.mod
def Inv.YY(I:Inv X pins σ H s):X.K.In s.heap:=I.ok.mod.kin.keeps I.bk
def Inv.lt(I:Inv X pins σ H s):X.env.locals<s.heap.objs.size:=let ⟨_,hn,_⟩:=I.loc;hn.lt
def Inv.sz(I:Inv X pins σ H s):X.s₀.heap.objs.size<=s.heap.objs.size:=Z0X I.ok.above (Nat.le_of_lt I.lt)
def Inv.Z6A{X:Cx}{a:Addr}(I:Inv X pins σ H s)(h:s.heap.objs.size<=a):a∉X.fs:=λc=>by
 obtain⟨_,o,b,_⟩:=I.ok.xo.mem c;exact absurd (Z0N (Z0w b) (Z0X I.sz h)) (Z2I _)
def Inv.cne(I:Inv X pins σ H s):∀ x c,X.env.cells.lookup x=some c->c≠X.env.locals:=λx c e z=>by
 obtain⟨v,o,d,hd⟩:=I.cell x c e;obtain⟨m,⟨o',f,h,b,a,_⟩,_⟩:=I.loc;rw[z,b] at d;cases d;rw[a] at hd;cases hd
def Inv.xo(I:Inv X pins σ H s):s.heap.FunFrames X.base X.outer:=by
 have all:∀ (l:List Env),(∀ b∈frs l,b∈X.fs)->X.s₀.heap.FunFrames X.base l->s.heap.FunFrames X.base l:=by
  intro l
  induction l with
  | nil=>intro _ _;trivial
  | cons env r ih =>
    intro d hl;obtain⟨h,⟨L,o,hf,hn,f,hd⟩,hr⟩:=hl;have c:L∈X.fs:=d L (by unfold frs;rw[Z3P,hf];exact Z0K);obtain⟨sl,e⟩:=I.base.slot L o f (I.ok.frf L c) c λz=>I.ok.exfs L z c;exact⟨h,⟨L,_,hf,hn,e,hd⟩,ih (λb a=>d b (by unfold frs;rw[Z3P,hf];exact Z03 _ a)) hr⟩
 exact all X.outer (λ_ a=>a) I.ok.xo
def Inv.stack(I:Inv X pins σ H s):s.heap.FunFrames X.base X.stack:=by
 rcases I.ok.stk with e |⟨e,hf⟩;rw[e];exact I.xo;rw[e];obtain⟨m,hn,_⟩:=I.loc;refine .cons (by rw[I.ok.kind];decide) hf hn ?_ I.xo;exact Heap.get?_none_of_le (Z0X I.ok.bsz I.ok.above)
def Inv.uG(I:Inv X pins σ H s):∀ b∈frs X.stack,b∈X.env.locals :: X.fs:=λb a=>by
 rcases I.ok.stk with e |⟨e,hf⟩;rw[e] at a;exact Z03 _ a;rw[e] at a;unfold frs at a;rw[Z3P,hf] at a;exact a
def Inv.YR(I:Inv X pins σ H s):∀ b∈frs X.stack,H b=none:=λb a=>by
 rcases Z08.mp (I.uG b a) with e | a;rw[e];exact I.free;obtain⟨_,o,c,_⟩:=I.ok.xo.mem a;exact I.base.free b o c (I.ok.frf b a) λz=>I.ok.exfs b z a
def Inv.step{X:Cx}{pins:List 013}{σ:List (Option V)}{H H':Hp}{s:Shared}{h':Heap}{g':Array GenState}{t':Nat}{d':Drawn}{ch:List Addr}(I:Inv X pins σ H s)
 (h:∀ b∈ch,(b∈X.ex\/X.s₀.heap.objs.size<=b)/\b≠X.env.locals/\(∀ x c,X.env.cells.lookup x=some c->c≠b)/\∀ p∈X.pn ++ pins,p.1≠b)
 (keep:∀ b o,b≠X.env.locals->b∉X.fs->b∉ch->s.heap.get? b=some o->H b=none->h'.get? b=some o)
 (slot:∀ b o,b≠X.env.locals->b∈X.fs->b∉ch->s.heap.get? b=some o->H b=none->∃ sl,h'.get? b=some { o with slots:=sl }) (free:∀ b o,b∉ch->s.heap.get? b=some o->H b=none->H' b=none)
 (there:∀ b o,b∉ch->s.heap.get? b=some o->∃ o',h'.get? b=some o')
 (tups:∀ b xs,H b=some (.tup xs)->H' b=some (.tup xs)) (frzs:∀ b o u,H b=some (.frz o u)->H' b=some (.frz o u)) (tbls:∀ b ps,H b=some (.Qd ps)->∃ more,H' b=some (.Qd (ps ++ more)))
 (ns:∀ m,s.heap.Ns X.env.locals m->h'.Ns X.env.locals m) (hok:Xx X.prog X.w H' h') (K:AllBare g') :
 Inv X pins σ H' { s with heap:=h',gens:=g',drawn:=d',toks:=t' }:=by
 have C:∀ b o,X.s₀.heap.get? b=some o->b≠X.env.locals:=λb o e=>Z13 (Z0N (Z0w e) I.ok.above);have t:∀ b o,X.s₀.heap.get? b=some o->b∉X.ex->b∉ch:=λb o e a y=>by
  rcases (h b y).1 with z | z;exact a z;exact absurd (Z0N (Z0w e) z) (Z2I _)
 have cellK:∀ x c,X.env.cells.lookup x=some c->∀ v,s.heap.IsCell c v->h'.IsCell c v:=λx c e v ⟨o,A,hd⟩=>by
  have f:c∉ch:=λz=>(h c z).2.2.1 x c e rfl;by_cases hc:c∈X.fs;obtain⟨sl,q⟩:=slot c o (I.cne x c e) hc f A (I.freeC x c e);exact⟨_,q,hd⟩;exact⟨o,keep c o (I.cne x c e) hc f A (I.freeC x c e),hd⟩
 refine⟨I.ok,I.os,K,⟨λb o e n y a=>?_,λb o e n y a=>?_,λb o e n a=>?_,λb o e a=>?_,λb xs e=>tups b xs (I.base.tups b xs e),λb o xs e=>frzs b o xs (I.base.frzs b o xs e),λb ps e=>?_⟩,?_,λx c e=>?_,?_,λx c e=>?_,λp F=>?_,hok,I.len⟩;exact keep b o (C b o e) y (t b o e a) (I.base.keep b o e n y a) (I.base.free b o e n a);obtain⟨sl,j⟩:=I.base.slot b o e n y a;obtain⟨D,B⟩:=slot b _ (C b o e) y (t b o e a) j (I.base.free b o e n a);exact⟨D,B⟩;obtain⟨o',j⟩:=I.base.there b o e a;exact free b o' (t b o e a) j (I.base.free b o e n a);obtain⟨o',j⟩:=I.base.there b o e a;exact there b o' (t b o e a) j;obtain⟨J,j⟩:=I.base.tbls b ps e;obtain⟨L,B⟩:=tbls b _ j;exact⟨J ++ L,by rw[B,Array.append_assoc]⟩;obtain⟨m,hn,hl⟩:=I.loc;refine⟨m,ns m hn,λi x v j B G=>?_⟩;obtain⟨u,r,l⟩:=hl i x v j B G;refine⟨u,r,?_⟩;rcases l with l |⟨k,c,e,z⟩;exact .inl l;exact .inr ⟨k,c,e,cellK x c e _ z⟩;obtain⟨v,z⟩:=I.cell x c e;exact⟨v,cellK x c e v z⟩;obtain⟨m,⟨o,_,_,A,_⟩,_⟩:=I.loc;exact free _ o (λz=>(h _ z).2.1 rfl) A I.free
 obtain⟨v,o,A,hd⟩:=I.cell x c e;exact free c o (λz=>(h c z).2.2.1 x c e rfl) A (I.freeC x c e);obtain⟨e,n,ne,E,d⟩:=I.pin p F;have f:p.1∉ch:=λz=>(h p.1 z).2.2.2 p F rfl;exact⟨keep p.1 p.2 ne E f e n,free p.1 p.2 f e n,ne,E,d⟩
def Inv.un(I:Inv X pins σ H s)(u:Un X.fs [] H H' s.heap h')(hok:Xx X.prog X.w H' h'):Inv X pins σ H' { s with heap:=h',toks:=t' }:=by
 obtain⟨m,⟨o,l,p,h,r⟩,_⟩:=id I.loc;obtain⟨sl,j⟩:=u.any h I.free 05;exact I.step (g':=s.gens) (d':=s.drawn) (ch:=[]) (λ_ z=>nomatch z) (λb o _ d _ e n=>u.keep b o e n d 05) (λb o _ d _ e n=>u.slot b o e n d 05) (λb o _ e n=>u.free b o e n 05) (λb o _ e=>u.there b o e 05) u.tups u.frzs u.tbls (λk hm=>by
  obtain⟨o',c,f,a,i⟩:=hm;rw[h] at a;cases a;exact⟨_,c,f,j,i⟩) hok I.bare
def Inv.call(I:Inv X pins σ H s)(u:Un (frs X.stack) ch H H' s.heap h')(hok:Xx X.prog X.w H' h')(t:AllBare g')(f:∀ b∈ch,(b∈X.ex\/X.s₀.heap.objs.size<=b)/\b≠X.env.locals/\(∀ x c,X.env.cells.lookup x=some c->c≠b)/\∀ p∈X.pn ++ pins,p.1≠b) :
 Inv X pins σ H' { s with heap:=h',gens:=g',drawn:=d',toks:=t' }:=by
 obtain⟨m,⟨o,y,A,k,r⟩,_⟩:=id I.loc;obtain⟨sl,j⟩:=u.any k I.free λz=>(f _ z).2.1 rfl;exact I.step (ch:=ch) f (λb o j q a e n=>u.keep b o e n (λz=>(Z08.mp (I.uG b z)).elim j q) a) (λb o _ _ a e n=>u.any e n a) (λb o a e n=>u.free b o e n a) (λb o a e=>u.there b o e a) u.tups u.frzs u.tbls (λv hm=>by
  obtain⟨o',h,i,d,l⟩:=hm;rw[k] at d;cases d;exact⟨_,h,i,j,l⟩) hok t
def Inv.turned(I:Inv X pins σ H s)(k:∀ b o,b≠it->s.heap.get? b=some o->h'.get? b=some o)(hn:H it=none)(f:it≠X.env.locals)(y:it∈X.ex\/X.s₀.heap.objs.size<=it)(l:∀ x c,X.env.cells.lookup x=some c->c≠it)(i:∀ p∈X.pn ++ pins,p.1≠it):Inv X pins σ H { s with heap:=h',toks:=t' }:=by
 have d:∀ b u,H b=some u->b≠it:=λb u e z=>by rw[z,hn] at e;cases e
 refine I.step (g':=s.gens) (d':=s.drawn) (ch:=[it]) (λb w=>?_) (λb o _ _ a e _=>k b o (λz=>a (by simp[z])) e) (λb o _ _ a e _=>⟨o.slots,k b o (λz=>a (by simp[z])) e⟩) (λ_ _ _ _ n=>n)
  (λb o a e=>⟨o,k b o (λz=>a (by simp[z])) e⟩) (λ_ _ e=>e) (λ_ _ _ e=>e) (λb ps e=>⟨#[],by rw[e];simp⟩) (λm hm=>?_) (λb u e=>?_) I.bare
 have e:b=it:=by simpa using w
 subst e;exact⟨y,f,l,i⟩;obtain⟨o,j,t,h,r⟩:=hm;exact⟨o,j,t,k _ o (Z3O f) h,r⟩;refine (I.hok b u e).stay (λc v a q=>k c v ?_ q) (λ_ q=>q) λ_ _ q=>q;rcases a with z | z;rw[z];exact d b u e;exact d c _ z
def Inv.tok(I:Inv X pins σ H s)(t:Nat):Inv X pins σ H { s with toks:=t }:=I.un (h':=s.heap) (t':=t) Un.refl I.hok
def Inv.kept(I:Inv X pins σ H s)(k:∀ b u,s.heap.get? b=some u->h'.get? b=some u):Inv X pins σ H { s with heap:=h',toks:=t' }:=I.un (Un.kept k) (I.hok.kept k)
def Inv.laid{X:Cx}{h':Heap}{a:Addr}(I:Inv X pins σ H s)(k:∀ b u,s.heap.get? b=some u->h'.get? b=some u)(c:s.heap.objs.size<=a)(new:Zl X.prog X.w (upd H a o) h' a o) :
 Inv X pins σ (upd H a o) { s with heap:=h',toks:=t' }:=I.un (Un.laid k c (I.hok.fresh c)) (I.hok.laid k c new)
def Inv.write{x e:Addr}(I:Inv X pins σ H s)(c:Mut (H x))(he:e=x\/H e=some (.own x))(k:∀ b u,b≠e->s.heap.get? b=some u->h'.get? b=some u)(a:∃ u,h'.get? e=some u)(new:Zl X.prog X.w (upd H x o) h' x o):Inv X pins σ (upd H x o) { s with heap:=h',toks:=t' }:=I.un (Un.write c he k a) (I.hok.write c he k a new)
def Inv.weak(I:Inv X pins σ H s)(hl:σ'.length=σ.length)(w:∀ (i:Nat) v,σ'[i]?=some (some v)->σ[i]?=some (some v)):Inv X pins σ' H s :=
 ⟨I.ok,I.os,I.bare,I.base,let ⟨m,hn,hl'⟩:=I.loc;⟨m,hn,λi x v b a c=>hl' i x v b (w i v a) c⟩,I.cell,I.free,I.freeC,I.pin,I.hok,hl.trans I.len⟩
def Inv.z4e(I:Inv X pins σ H s)(h:∀ p∈a,s.heap.get? p.1=some p.2/\H p.1=none/\p.1≠X.env.locals/\p.1∉X.fs/\∀ v,p.2.data≠.cell v):Inv X a σ H s :=
 ⟨I.ok,I.os,I.bare,I.base,I.loc,I.cell,I.free,I.freeC,λp b=>(Z1y.mp b).elim (λz=>I.pin p (Z2Q _ z)) (h p),I.hok,I.len⟩
def Ua{N:List Str}(f:N.Nodup){i j:Nat}{x:Str}(a:N[i]?=some x)(b:N[j]?=some x):i=j:=by
 obtain⟨k,d⟩:=Z15.mp a;obtain⟨h,c⟩:=Z15.mp b;exact (List.getElem_inj f).mp (d.trans c.symm)
def Q6{x:Str}(I:Inv X pins σ H s)(hN:X.N.Nodup)(hi:X.N[i]?=some x)(B:Loc X.env.scope x)(r:RelV v u)(h:∀ s',Inv X pins (σ.set i (some v)) H s'->(∃ a,Heap.SameBut a s.heap s'.heap/\(a=X.env.locals\/X.env.cells.lookup x=some a))->Q () s')(hf:X.fn x=true\/X.env.scope.names.lookup x=some .local:=by first | exact .inl rfl | exact .inr rfl | assumption):wpAny M A (storeName X.env x u) Q E s:=by
 obtain⟨m,hn,hl⟩:=id I.loc;have R:(X.env.scope.kind == .class || (X.env.scope.kind == .module && X.env.locals != X.env.globals))=false:=by rw[I.ok.kind];rfl
 have F:i<σ.length:=by rw[I.len];exact (Z15.mp hi).1
 have cne:=I.cne;have tracked:∀ {a:Addr}{h':Heap},(∃ o,s.heap.get? a=some o/\H a=none)->Heap.SameBut a s.heap h'->Xx X.prog X.w H h':=λ{a h'} ha f b ob e=>by
  obtain⟨_,_,C⟩:=ha;refine (I.hok b ob e).stay (λc T t q=>(f.2 c ?_).trans q) (λ_ q=>q) λ_ _ q=>q;rintro rfl;rcases t with rfl | t;rw[C] at e;cases e;rw[C] at t;cases t
 rcases B with G | G;refine wpAny_storeName_local G hn (λh' W f=>?_) R
 obtain⟨oL,_,_,hoL,_⟩:=id hn;refine h _ ⟨I.ok,I.os,I.bare,⟨λb o e n J B=>?_,λb o e n J B=>?_,I.base.free,λb o e B=>?_,I.base.tups,I.base.frzs,I.base.tbls⟩,⟨_,W,λj y U l D e3=>?_⟩,λy c e=>?_,I.free,I.freeC,λp Z=>?_,tracked ⟨oL,hoL,I.free⟩ f,by simpa using I.len⟩ ⟨_,f,.inl rfl⟩;exact (f.2 b (Z13 (Z0N (Z0w e) I.ok.above))).trans (I.base.keep b o e n J B);obtain⟨sl,l⟩:=I.base.slot b o e n J B;exact⟨sl,(f.2 b (Z13 (Z0N (Z0w e) I.ok.above))).trans l⟩;obtain⟨o',l⟩:=I.base.there b o e B;exact⟨o',(f.2 b (Z13 (Z0N (Z0w e) I.ok.above))).trans l⟩;by_cases hj:j=i;subst hj;rw[hi] at l;cases l;rw[List.getElem?_set_self F] at D;cases D;exact⟨u,r,.inl ⟨G,05⟩⟩;rw[List.getElem?_set_ne (Z3O hj)] at D;obtain⟨u',Y,q⟩:=hl j y U l D e3;refine⟨u',Y,?_⟩;rcases q with⟨k,e⟩|⟨k,c,e,z⟩;refine .inl ⟨k,?_⟩;have:y≠x:=λe=>hj (Ua hN l (e ▸ hi))
 simp[this,e];exact .inr ⟨k,c,e,z.sameBut f (cne y c e)⟩;obtain⟨T,z⟩:=I.cell y c e;exact⟨T,z.sameBut f (cne y c e)⟩;obtain⟨e,n,ne,nf,d⟩:=I.pin p Z;exact⟨(f.2 p.1 ne).trans e,n,ne,nf,d⟩;have K:X.fn x=true:=by
  rcases hf with z | z;exact z;rw[z] at G;cases G
 obtain⟨c,t⟩:=I.ok.has x (.inl G);obtain⟨T,z⟩:=I.cell x c t;refine wpAny_storeName_cell I.ok.kind G t z (λh' L f=>?_);obtain⟨oc,P,O⟩:=id z;refine h { s with heap:=h' } ⟨I.ok,I.os,I.bare,⟨λb o e n J B=>?_,λb o e n J B=>?_,I.base.free,λb o e B=>?_,I.base.tups,I.base.frzs,I.base.tbls⟩,⟨m,hn.sameBut f (Z3O (cne x c t)),λj y U l D e3=>?_⟩,λy S e=>?_,I.free,I.freeC,λp Z=>?_,tracked ⟨oc,P,I.freeC x c t⟩ f,by simpa using I.len⟩ ⟨c,f,.inr t⟩;exact (f.2 b (Z13 (Z0N (Z0w e) (I.ok.cab x c K t)))).trans (I.base.keep b o e n J B);obtain⟨sl,l⟩:=I.base.slot b o e n J B;exact⟨sl,(f.2 b (Z13 (Z0N (Z0w e) (I.ok.cab x c K t)))).trans l⟩;obtain⟨o',l⟩:=I.base.there b o e B;exact⟨o',(f.2 b (Z13 (Z0N (Z0w e) (I.ok.cab x c K t)))).trans l⟩;by_cases hj:j=i;subst hj;rw[hi] at l;cases l;rw[List.getElem?_set_self F] at D;cases D;exact⟨u,r,.inr ⟨.inl G,c,t,L⟩⟩;rw[List.getElem?_set_ne (Z3O hj)] at D;obtain⟨u',Y,q⟩:=hl j y U l D e3;refine⟨u',Y,?_⟩;rcases q with q |⟨k,S,e,z'⟩;exact .inl q;refine .inr ⟨k,S,e,z'.sameBut f ?_⟩;rintro rfl;exact hj (Ua hN l (I.ok.inj _ _ _ e t ▸ hi));by_cases hcc:S=c;subst hcc;exact⟨_,L⟩;obtain⟨w2,z2⟩:=I.cell y S e;exact⟨w2,z2.sameBut f hcc⟩;obtain⟨e,n,ne,nf,d⟩:=I.pin p Z;refine⟨(f.2 p.1 ?_).trans e,n,ne,nf,d⟩;intro q;rw[q,P] at e;have q':oc=p.2:=Z12 e;exact d T (by rw[← q'];exact O)
def z0C{x:Str}(I:Inv X pins σ H s)(a:X.N.Nodup)(hi:X.N[i]?=some x)(b:Loc X.env.scope x)(r:RelV v u)(h:∀ s',Inv X pins (σ.set i (some v)) H s'->Q () s')(hf:X.fn x=true\/X.env.scope.names.lookup x=some .local:=by first | exact .inl rfl | exact .inr rfl | assumption):wpAny M A (storeName X.env x u) Q E s :=
 Q6 I a hi b r (λs' I' _=>h s' I') hf
def Inv.z4i(I:Inv X pins σ H s)(d:s'.os=s.os)(u:Un (frs X.stack) ch H H' s.heap s'.heap)(hok:Xx X.prog X.w H' s'.heap)(f:AllBare s'.gens)(a:∀ b∈ch,(b∈X.ex\/X.s₀.heap.objs.size<=b)/\b≠X.env.locals/\(∀ x c,X.env.cells.lookup x=some c->c≠b)/\∀ p∈X.pn ++ pins,p.1≠b):Inv X pins σ H' s':=by
 obtain⟨h',g',d',t',o'⟩:=s';have e:o'=s.os:=d;subst e;exact I.call (g':=g') (t':=t') (d':=d') u hok f a
noncomputable abbrev XK:=Value->Option Addr->Hp->Prop
noncomputable abbrev St:=List (Option V)
noncomputable abbrev VK:=V->Hp->Prop
noncomputable abbrev TE:=St->Hp->VK->Prop
noncomputable abbrev TT:=St->Hp->(Bool->Hp->Prop)->Prop
noncomputable abbrev TA:=St->Hp->(List V->Hp->Prop)->Prop
set_option genInjectivity false in
structure Ends where
 nx:St->Hp->Prop
 rt:VK
 bk:St->Hp->Prop:=λ_ _=>False
 ct:St->Hp->Prop:=λ_ _=>False
noncomputable abbrev TS:=Ends->St->Hp->Prop
noncomputable def EP(X:Cx)(pins:List 013)(σ:St)(Q:VK)(u:Value)(s':Shared):Prop:=∃ v H',Inv X pins σ H' s'/\RelV v u/\Q v H'
noncomputable def TP(X:Cx)(pins:List 013)(σ:St)(Q:Bool->Hp->Prop)(b:Bool)(s':Shared):Prop:=∃ H',Inv X pins σ H' s'/\Q b H'
noncomputable def AP(X:Cx)(pins:List 013)(σ:St)(Q:List V->Hp->Prop)(us:List Value)(s':Shared):Prop:=∃ vs H',Inv X pins σ H' s'/\Vals vs us/\Q vs H'
noncomputable def SP(X:Cx)(pins:List 013)(D:Ends)(f:Flow)(s':Shared):Prop :=
 match f with
 | .next=>∃ a H',Inv X pins a H' s'/\D.nx a H'
 | .brk=>∃ a H',Inv X pins a H' s'/\D.bk a H'
 | .cont=>∃ a H',Inv X pins a H' s'/\D.ct a H'
 | .ret u=>∃ v a H',Inv X pins a H' s'/\RelV v u/\D.rt v H'
noncomputable def PE(X:Cx)(e:Expr)(t:TE):Prop :=
 ∀ (pins:List 013) (s:Shared) (σ:St) (H:Hp) (Q:VK),Inv X pins σ H s->t σ H Q->wpAny 06 X.A (eval e X.env) (EP X pins σ Q) X.xe s
noncomputable def PT(X:Cx)(e:Expr)(t:TT):Prop :=
 ∀ (pins:List 013) (s:Shared) (σ:St) (H:Hp) (Q:Bool->Hp->Prop),Inv X pins σ H s->t σ H Q->wpAny 06 X.A (isTrue e X.env (eval e X.env)) (TP X pins σ Q) X.xe s
noncomputable def PW(X:Cx)(e:Expr)(t:TT):Prop :=
 ∀ (whole:Sem Value) (pins:List 013) (s:Shared) (σ:St) (H:Hp) (Q:Bool->Hp->Prop),Inv X pins σ H s->t σ H Q->wpAny 06 X.A (isTrue e X.env whole) (TP X pins σ Q) X.xe s
def PW.pt{e:Expr}(h:PW X e t):PT X e t:=h _
noncomputable def PA(X:Cx)(a:List Expr)(t:TA):Prop :=
 ∀ (pos:Pos) (pins:List 013) (s:Shared) (σ:St) (H:Hp) (Q:List V->Hp->Prop),Inv X pins σ H s->t σ H Q->wpAny 06 X.A (spliced (backTo pos (starEach a X.env))) (AP X pins σ Q) X.xe s
noncomputable def PS(X:Cx)(st:Stmt)(t:TS):Prop :=
 ∀ (pins:List 013) (s:Shared) (σ:St) (H:Hp) (D:Ends),Inv X pins σ H s->t D σ H->wpAny 06 X.A (exec st X.env) (SP X pins D) X.xe s
noncomputable def Xq(X:Cx)(st:List Stmt)(t:TS):Prop :=
 ∀ (pins:List 013) (s:Shared) (σ:St) (H:Hp) (D:Ends),Inv X pins σ H s->t D σ H->wpAny 06 X.A (execs st X.env) (SP X pins D) X.xe s
def z8{α:Type}{t:Sem α}{Q Q':α->Shared->Prop}(h:wpAny M A t Q E s)(b:∀ a s,Q a s->Q' a s):wpAny M A t Q' E s:=wpAny_mono h b λ_ _ x=>x
noncomputable def z1e(i:Nat):TE:=λσ H Q=>∃ v,σ[i]?=some (some v)/\Q v H
noncomputable def tC(v:V):TE:=λ_ H Q=>Q v H
def Z2h{X:Cx}{x:Str}{pos:Pos}(f:X.N[i]?=some x)(d:Vis X.env.scope x)(hd:(x == ("__debug__":Str))=false:=by decide)(b:(x == ("__classdict__":Str))=false:=by decide):PE X (.Name x pos) (z1e i):=by
 intro pins s σ H Q I h;obtain⟨v,e,h⟩:=h;obtain⟨m,hn,hl⟩:=I.loc;obtain⟨u,r,l⟩:=hl i x v f e d;have fin:EP X pins σ Q u s:=⟨v,H,I,r,h⟩;rcases l with⟨a,hm⟩|⟨a,c,hc,hcell⟩;exact wpAny_Name (wpAny_loadName_local I.ok.kind a hn hm fin) hd;rcases a with a | a;exact wpAny_Name (wpAny_loadName_cell I.ok.kind a hc hcell fin) hd;exact wpAny_Name (wpAny_loadName_free I.ok.kind a hc hcell fin b) hd
def zF{i j pos}:PE X (.Constant (.int i) j pos) (tC (.int i)):=λ_ _ _ H _ I h=>wpAny_Constant_int ⟨.int i,H,I.tok _,⟨_,rfl⟩,h⟩
def Z4Z{b j pos}:PE X (.Constant (.bool b) j pos) (tC (.bl b)):=λ_ _ _ H _ I h=>Constant_bool ⟨.bl b,H,I,rfl,h⟩
def vh{j pos}:PE X (.Constant .none j pos) (tC .Zc):=λ_ _ _ H _ I h=>Constant_none ⟨.Zc,H,I,rfl,h⟩
def zE{x j pos}:PE X (.Constant (.str x) j pos) (tC (.str x)):=λ_ _ _ H _ I h=>Calls.Constant_str ⟨.str x,H,I.tok _,⟨_,rfl⟩,h⟩
noncomputable def Gl(X:Cx)(x:Str):Prop:=X.env.kindOf x=some .globalImplicit
def yE{X:Cx}{σ:St}{x:Str}{pos:Pos}(I:Inv X pins σ H s)(a:Gl X x)(hm:X.mg x=some u)(h:Q u s)(hd:(x == ("__debug__":Str))=false:=by decide):wpAny 06 X.A (eval (.Name x pos) X.env) Q E s :=
 Calls.Name_function_global I.ok.kind a (Calls.loadGlobal_global (by rw[I.ok.glob];exact I.mod.glob.keeps I.bk) hm h) hd
def yX{X:Cx}{E:Value->Shared->Prop}{pins:List 013}{s:Shared}{σ:St}{H:Hp}{x:Str}{u:Value}{pos:Pos}{Q:Value->Shared->Prop}(I:Inv X pins σ H s)(c:Gl X x)(hm:X.mg x=none)(a:bootBuiltins x=some u)(h:Q u s)
 (hn:x≠"__name__":=by decide) (hd:(x == ("__debug__":Str))=false:=by decide):wpAny 06 X.A (eval (.Name x pos) X.env) Q E s:=by
 obtain⟨mb,d,b⟩:=I.mod.blt;exact Calls.Name_function_global I.ok.kind c (Calls.loadGlobal_builtin (by rw[I.ok.glob];exact I.mod.glob.keeps I.bk) hm (by rw[I.ok.blt];exact d.keeps I.bk) ((b x hn).trans a) h) hd
def Zp{x:Str}{pos:Pos}(a:Gl X x)(hm:X.mg x=some u)(r:RelV v u)(hd:(x == ("__debug__":Str))=false:=by decide):PE X (.Name x pos) (tC v) :=
 λ_ _ _ H _ I h=>yE I a hm ⟨v,H,I,r,h⟩ hd
def Yh{x:Str}{pos:Pos}(b:Gl X x)(hm:X.mg x=none)(a:bootBuiltins x=some u)(r:RelV v u)(hn:x≠"__name__":=by decide)(hd:(x == ("__debug__":Str))=false:=by decide):PE X (.Name x pos) (tC v) :=
 λ_ _ _ H _ I h=>yX I b hm a ⟨v,H,I,r,h⟩ hn hd
noncomputable def tB(t:TE):TT:=λσ H Q=>t σ H λx H1=>∃ c,x=.bl c/\Q c H1
def z7l{e:Expr}(h:PE X e t)(he:∀ whole,isTrue e X.env whole=(do let v ←whole;standAt e.pos;holding [v] (truthy v)):=by intro _;rfl):PT X e (tB t):=by
 intro pins s σ H Q I hw;refine isTrue_plain (z8 (h pins s σ H _ I hw) λv s1 ⟨x,H1,I1,a,q1⟩=>?_) (he _);obtain⟨d,rfl,q⟩:=q1;cases a;exact wpAny_truthy_bool ⟨H1,I1,q⟩
noncomputable def Z5g(t u:TT):TT:=λσ H Q=>t σ H λc H1=>if c=true then u σ H1 Q else Q false H1
noncomputable def tOr(t u:TT):TT:=λσ H Q=>t σ H λc H1=>if c=true then Q true H1 else u σ H1 Q
noncomputable def Z2A(t:TT):TT:=λσ H Q=>t σ H λc H1=>Q (!c) H1
def z9B{pos:Pos}(ha:PT X a tA):PW X (.BoolOp .And [a] pos) tA:=by
 intro b pins s σ H Q I h;refine isTrue_and (z8 (ha pins s σ H Q I h) λc s1 e=>?_);cases c with
 | true=>exact isTrue_and_nil e
 | false=>exact e
def Z2b{pos:Pos}(ha:PT X a tA):PW X (.BoolOp .Or [a] pos) tA:=by
 intro b pins s σ H Q I h;refine isTrue_or (z8 (ha pins s σ H Q I h) λc s1 e=>?_);cases c with
 | false=>exact isTrue_or_nil e
 | true=>exact e
def Z1C{pos:Pos}(ha:PT X a tA)(f:PW X (.BoolOp .And (b :: rest) pos) tB'):PW X (.BoolOp .And (a :: b :: rest) pos) (Z5g tA tB'):=by
 intro d pins s σ H Q I h;refine isTrue_and (z8 (ha pins s σ H _ I h) λc s1 zq=>?_);obtain⟨H1,I1,q1⟩:=zq;cases c with
 | true=>exact f d pins s1 σ H1 Q I1 q1
 | false=>exact⟨H1,I1,q1⟩
def Z3Y{pos:Pos}(ha:PT X a tA)(f:PW X (.BoolOp .Or (b :: rest) pos) tB'):PW X (.BoolOp .Or (a :: b :: rest) pos) (tOr tA tB'):=by
 intro d pins s σ H Q I h;refine isTrue_or (z8 (ha pins s σ H _ I h) λc s1 zq=>?_);obtain⟨H1,I1,q1⟩:=zq;cases c with
 | true=>exact⟨H1,I1,q1⟩
 | false=>exact f d pins s1 σ H1 Q I1 q1
def z8y{pos:Pos}(ha:PT X a tA):PT X (.UnaryOp .Not a pos) (Z2A tA):=by
 intro pins s σ H Q I h;exact isTrue_not (ha pins s σ H (λc H1=>Q (!c) H1) I h)
noncomputable def Z0S(a tb:TE):TE:=λσ H Q=>a σ H λx H1=>∃ c,x=.bl c/\if c=true then tb σ H1 Q else Q (.bl false) H1
noncomputable def Z5k(a tb:TE):TE:=λσ H Q=>a σ H λx H1=>∃ c,x=.bl c/\if c=true then Q (.bl true) H1 else tb σ H1 Q
noncomputable def Z1i(a:TE):TE:=λσ H Q=>a σ H λx H1=>∃ c,x=.bl c/\Q (.bl (!c)) H1
def z8x{pos:Pos}{op}(h:PE X a t):PE X (.BoolOp op [a] pos) t:=λpins s σ H Q I hw=>BoolOp_one (h pins s σ H Q I hw)
def Z3w{pos:Pos}(ha:PE X a ta)(f:PE X (.BoolOp .And (b :: rest) pos) tb):PE X (.BoolOp .And (a :: b :: rest) pos) (Z0S ta tb):=by
 intro pins s σ H Q I h;refine BoolOp_and (z8 (ha pins s σ H _ I h) λv s1 zq=>?_);obtain⟨x,H1,I1,d,q1⟩:=zq;obtain⟨c,rfl,q1⟩:=q1;cases d;refine wpAny_truthy_bool ?_;cases c with
 | true=>exact f pins s1 σ H1 Q I1 q1
 | false=>exact⟨.bl false,H1,I1,rfl,q1⟩
def Z0V{pos:Pos}(ha:PE X a ta)(f:PE X (.BoolOp .Or (b :: rest) pos) tb):PE X (.BoolOp .Or (a :: b :: rest) pos) (Z5k ta tb):=by
 intro pins s σ H Q I h;refine BoolOp_or (z8 (ha pins s σ H _ I h) λv s1 zq=>?_);obtain⟨x,H1,I1,d,q1⟩:=zq;obtain⟨c,rfl,q1⟩:=q1;cases d;refine wpAny_truthy_bool ?_;cases c with
 | false=>exact f pins s1 σ H1 Q I1 q1
 | true=>exact⟨.bl true,H1,I1,rfl,q1⟩
def z6E{pos:Pos}(ha:PE X a ta):PE X (.UnaryOp .Not a pos) (Z1i ta):=by
 intro pins s σ H Q I h;refine UnaryOp_ (z8 (ha pins s σ H _ I h) λv s1 zq=>?_);obtain⟨x,H1,I1,b,q1⟩:=zq;obtain⟨c,rfl,q1⟩:=q1;cases b;exact not_of (wpAny_truthy_bool ⟨.bl (!c),H1,I1,rfl,q1⟩)
noncomputable def tIf(t:TT)(a tb:TE):TE:=λσ H Q=>t σ H λc H1=>if c=true then a σ H1 Q else tb σ H1 Q
def z0g{pos:Pos}(f:PT X c tA)(ha:PE X a ta)(i:PE X b tb):PE X (.IfExp c a b pos) (tIf tA ta tb):=by
 intro pins s σ H Q I h;refine wpAny_IfExp (z8 (f pins s σ H _ I h) λd s1 zq=>?_);obtain⟨H1,I1,q1⟩:=zq;cases d with
 | true=>exact ha pins s1 σ H1 Q I1 q1
 | false=>exact i pins s1 σ H1 Q I1 q1
noncomputable def zJ(K:FR)(H:Hp)(a:Addr)(xs:List V):Prop :=
 Rd H a (.lst xs)\/
  ∃ (o:Obj) (its:Array Value) (n:Nat),K.lookup a=some o/\o.cls=.type "list"/\o.dict=none/\o.data=.seq its n/\its.size<=sizeLine/\Vals xs its.toList
noncomputable def zO(K:FR)(H:Hp)(a:Addr)(xs:List V):Prop :=
 Rd H a (.tup xs)\/
  ∃ (o:Obj) (its:Array Value) (n:Nat),K.lookup a=some o/\o.cls=.type "tuple"/\o.data=.seq its n/\its.size<=sizeLine/\Vals xs its.toList
noncomputable def Z6y:Value->Option V
 | .none=>some .Zc
 | .bool b=>some (.bl b)
 | .int i _=>some (.int i)
 | .str x _=>some (.str x)
 | .bytes b _=>some (.byt b)
 | .float b _=>some (.flt b)
 | .ref a=>some 024
 | .type n=>some (.ty n)
 | _=>none
def RelV.abs{x:V}(r:RelV x u):Z6y u=some x:=by
 cases x with
 | Zc=>cases r;rfl
 | bl _=>cases r;rfl
 | int _=>obtain⟨t,rfl⟩:=r;rfl
 | str _=>obtain⟨t,rfl⟩:=r;rfl
 | byt _=>obtain⟨t,rfl⟩:=r;rfl
 | flt _=>obtain⟨t,rfl⟩:=r;rfl
 | ref _=>cases r;rfl
 | ty _=>cases r;rfl
def RelV.inj{x:V}(r:RelV x u)(q:RelV y u):x=y:=Z12 (r.abs.symm.trans q.abs)
def Vals.inj:∀ {xs ys:List V}{us:List Value},Vals xs us->Vals ys us->xs=ys
 | _,_,_,.nil,.nil=>rfl
 | _,_,_,.cons r t,.cons r' t'=>by rw[r.inj r',Vals.inj t t']
def zJ.of(h:H a=some (.lst xs)):zJ K H a xs:=.inl (.inl h)
def zO.of(h:H a=some (.tup xs)):zO K H a xs:=.inl (.inl h)
def Inv.list{X:Cx}{σ:St}{xs:List V}(I:Inv X pins σ H s)(h:zJ X.K H a xs):∃ its:List Value,Vals xs its/\PlainL s.heap a its.toArray/\xs.length<=sizeLine:=by
 rcases h with h |⟨o,its,n,d,c,hd,b,f,r⟩;obtain⟨z,its,n,r,e⟩:=h.ok I.hok;exact⟨its,r,⟨_,n,e,rfl,rfl,rfl⟩,z⟩;refine⟨its.toList,r,⟨o,n,I.YY a o d,c,hd,by simpa using b⟩,?_⟩;have e:=r.length;simp only[Z07] at e;lia
def Inv.tuple{X:Cx}{σ:St}{xs:List V}(I:Inv X pins σ H s)(h:zO X.K H a xs):∃ its:List Value,Vals xs its/\IsTup s.heap a its.toArray/\xs.length<=sizeLine:=by
 rcases h with h |⟨o,its,n,d,c,b,f,r⟩;obtain⟨z,its,r,p⟩:=h.ok I.hok;exact⟨its,r,p.tup,z⟩;refine⟨its.toList,r,⟨o,I.YY a o d,c,n,by simpa using b⟩,?_⟩;have e:=r.length;simp only[Z07] at e;lia
def Inv.Qu{X:Cx}{σ:St}(I:Inv X pins σ H s)(h:zJ X.K H a xs)(h':zJ X.K H a ys):xs=ys:=by
 obtain⟨its,r,⟨o,n,e,_,_,d⟩,_⟩:=I.list h;obtain⟨its',c,⟨o',n',b,_,_,d'⟩,_⟩:=I.list h';rw[e] at b;cases b;rw[d] at d';injection d' with d1 _;have:its=its':=by simpa using congrArg Array.toList d1
 subst this;exact r.inj c
def Inv.yH{X:Cx}{σ:St}(I:Inv X pins σ H s)(h:zO X.K H a xs)(h':zO X.K H a ys):xs=ys:=by
 obtain⟨its,r,⟨o,e,_,n,d⟩,_⟩:=I.tuple h;obtain⟨its',c,⟨o',b,_,n',d'⟩,_⟩:=I.tuple h';rw[e] at b;cases b;rw[d] at d';injection d' with d1 _;have:its=its':=by simpa using congrArg Array.toList d1
 subst this;exact r.inj c
noncomputable abbrev Cx.xR(X:Cx)(E:Value->Shared->Prop):Cx:={ X with xe:=E }
noncomputable abbrev Cx.nox(X:Cx):Cx:=X.xR λ_ _=>False
def Cx.Ok.xR{X:Cx}(ok:X.Ok)(E:Value->Shared->Prop):(X.xR E).Ok :=
 ⟨ok.mod,ok.kind,ok.glob,ok.blt,ok.above,ok.inj,ok.has,ok.cab,ok.hd,ok.frames,ok.stk,ok.exf,ok.bs,ok.bsz,ok.noex,ok.exfs,ok.xo,ok.frf⟩
def Cx.Ok.yQ{X:Cx}(ok:(X.xR E).Ok):X.Ok :=
 ⟨ok.mod,ok.kind,ok.glob,ok.blt,ok.above,ok.inj,ok.has,ok.cab,ok.hd,ok.frames,ok.stk,ok.exf,ok.bs,ok.bsz,ok.noex,ok.exfs,ok.xo,ok.frf⟩
def Inv.xR{X:Cx}{σ:St}(I:Inv X pins σ H s)(E:Value->Shared->Prop):Inv (X.xR E) pins σ H s:=⟨I.ok.xR E,I.os,I.bare,I.base,I.loc,I.cell,I.free,I.freeC,I.pin,I.hok,I.len⟩
def Inv.yQ{X:Cx}{σ:St}(I:Inv (X.xR E) pins σ H s):Inv X pins σ H s:=⟨I.ok.yQ,I.os,I.bare,I.base,I.loc,I.cell,I.free,I.freeC,I.pin,I.hok,I.len⟩
def SP.yQ(h:SP (X.xR E) pins D f s'):SP X pins D f s':=by
 cases f with
 | next=>obtain⟨a,H',I,q⟩:=h;exact⟨a,H',I.yQ,q⟩
 | brk=>obtain⟨a,H',I,q⟩:=h;exact⟨a,H',I.yQ,q⟩
 | cont=>obtain⟨a,H',I,q⟩:=h;exact⟨a,H',I.yQ,q⟩
 | ret u=>obtain⟨v,a,H',I,r,q⟩:=h;exact⟨v,a,H',I.yQ,r,q⟩
def Xq.nox{st:List Stmt}(h:Xq X.nox st t):Xq X st t:=λpins s σ H D I hw =>
 wpAny_mono (h pins s σ H D (I.xR _) hw) (λ_ _ q=>q.yQ) λ_ _ z=>False.elim z
noncomputable def z6f:TS:=λD σ H=>D.nx σ H
noncomputable def z2Q(t u:TS):TS:=λD σ H=>t { D with nx:=u D } σ H
def Qt:Xq X [] z6f:=λ_ _ σ H _ I h=>wpAny_execs_nil ⟨σ,H,I,h⟩
def z9{X:Cx}{st:Stmt}{rest:List Stmt}{t u:TS}(c:PS X st t)(b:Xq X rest u):Xq X (st :: rest) (z2Q t u):=by
 intro pins s σ H D I h;refine wpAny_execs_cons (z8 (c pins s σ H { D with nx:=u D } I h) λf s1 q=>?_);cases f with
 | next =>
   obtain⟨a,H',I',q⟩:=q;exact b pins s1 a H' D I' q
 | ret v=>exact q
 | brk=>exact q
 | cont=>exact q
def zU{X:Cx}{st:Stmt}{t:TS}(a:PS X st t):Xq X [st] t:=by
 intro pins s σ H D I h;refine wpAny_execs_cons (z8 (a pins s σ H D I h) λf s1 q=>?_);cases f with
 | next=>exact wpAny_execs_nil q
 | ret v=>exact q
 | brk=>exact q
 | cont=>exact q
def Inv.quiet{X:Cx}{σ:St}(I:Inv X pins σ H s):interactive X.env=false:=by simp[interactive,I.ok.kind]
noncomputable def Z1r(a:TE):TS:=λD σ H=>a σ H λ_ H1=>D.nx σ H1
def Jh{e:Expr}{pos:Pos}(he:PE X e te)(a:swapsWith e none pos.line X.env=pure false:=by rfl):PS X (.Expr e pos) (Z1r te):=by
 intro pins s σ H D I h;exact wpAny_Expr_any (z8 (he pins s σ H _ I h) λv s1 ⟨x,H1,I1,b,q1⟩=>⟨σ,H1,I1,q1⟩) I.quiet a
noncomputable def Z2S(a:TE):TS:=λD σ H=>a σ H D.rt
def vB{X:Cx}{e:Expr}{a:TE}{pos:Pos}(he:PE X e a):PS X (.Return (some e) pos) (Z2S a):=by
 intro pins s σ H D I h;exact wpAny_Return_some (z8 (he pins s σ H _ I h) λv s1 ⟨x,H1,I1,b,q1⟩=>⟨x,σ,H1,I1,b,q1⟩)
noncomputable def Z2t(c:TT)(t u:TS):TS:=λD σ H=>c σ H λb H1=>if b=true then t D σ H1 else u D σ H1
def Qe{X:Cx}{t u:TS}{pos:Pos}{c:Expr}{a b:List Stmt}{f:TT}(i:PT X c f)(ha:Xq X a t)(j:Xq X b u):PS X (.If c a b pos) (Z2t f t u):=by
 intro pins s σ H D I h;refine wpAny_If (z8 (i pins s σ H _ I h) λd s1 zq=>?_);obtain⟨H1,I1,q1⟩:=zq;cases d with
 | true=>exact ha pins s1 σ H1 D I1 q1
 | false=>exact j pins s1 σ H1 D I1 q1
noncomputable abbrev TG:=V->St->Hp->(St->Hp->Prop)->Prop
noncomputable abbrev TGs:=List V->St->Hp->(St->Hp->Prop)->Prop
noncomputable def PG(X:Cx)(target:Expr)(t:TG):Prop :=
 ∀ (pins:List 013) (s:Shared) (σ:St) (H:Hp) (v:V) (u:Value) (Q:St->Hp->Prop),Inv X pins σ H s->RelV v u->t v σ H Q->
   wpAny 06 X.A (assign target X.env u) (λ_ s'=>∃ a H',Inv X pins a H' s'/\Q a H') X.xe s
noncomputable def PGs(X:Cx)(b:List Expr)(t:TGs):Prop :=
 ∀ (pins:List 013) (s:Shared) (σ:St) (H:Hp) (vs:List V) (us:List Value) (Q:St->Hp->Prop),Inv X pins σ H s->Vals vs us->t vs σ H Q->
   wpAny 06 X.A (assignInOrder ((assignEach b X.env).map (·.2)) us) (λ_ s'=>∃ a H',Inv X pins a H' s'/\Q a H') X.xe s
noncomputable abbrev Z2q:=V->V->V->Hp->(Hp->Prop)->Prop
noncomputable def Z4B(X:Cx)(t:Z2q):Prop :=
 ∀ (pins:List 013) (s:Shared) (σ:St) (H:Hp) (o i v:V) (a b u:Value) (Q:Hp->Prop),Inv X pins σ H s->RelV o a->RelV i b->RelV v u->t o i v H Q->
   wpAny 06 X.A (setItem a b u) (λ_ s'=>∃ H',Inv X pins σ H' s'/\Q H') X.xe s
noncomputable def ZF(i:Nat):TG:=λv σ H Q=>Q (σ.set i (some v)) H
def Zd{pos:Pos}{x:Str}(b:X.N.Nodup)(hi:X.N[i]?=some x)(a:Loc X.env.scope x)(hf:X.fn x=true\/X.env.scope.names.lookup x=some .local:=by first | exact .inl rfl | exact .inr rfl | assumption):PG X (.Name x pos) (ZF i):=by
 intro pins s σ H v u Q I r h;exact wpAny_assign_Name (z0C I b hi a r (λs' I'=>⟨_,H,I',h⟩) hf)
noncomputable def Z4z:TGs:=λvs σ H Q=>vs=[]/\Q σ H
noncomputable def Z0Y(t:TG)(u:TGs):TGs:=λvs σ H Q=>∃ v r,vs=v :: r/\t v σ H λa H'=>u r a H' Q
def YT:PGs X [] Z4z:=by
 intro pins s σ H vs us Q I r h;obtain⟨e,h⟩:=h;subst e;cases r;exact assignInOrder_nil ⟨σ,H,I,h⟩
def Zr{e:Expr}(f:PG X e t)(d:PGs X es u)(c:(assignEach (e :: es) X.env).map (·.2)=assign e X.env :: (assignEach es X.env).map (·.2):=by rfl):PGs X (e :: es) (Z0Y t u):=by
 intro pins s σ H vs us Q I r h;obtain⟨v,i,b,h⟩:=h;subst b;cases r with
 | cons r rr =>
   rw[c];refine assignInOrder_cons (z8 (f pins s σ H _ _ _ I r h) λ_ s1 zq=>?_);obtain⟨a,H1,I1,q1⟩:=zq;exact d pins s1 a H1 _ _ Q I1 rr q1
noncomputable def z9J(K:FR)(n:Nat)(t:TGs):TG:=λv σ H Q=>∃ a xs,v=.ref a/\zO K H a xs/\xs.length=n/\t xs σ H Q
def z3f{X:Cx}{pos:Pos}{c:List Expr}{k:Nat}{t:TGs}{n:Nat}(m:X.calm=true)(h:PGs X c t)
 (hn:(assignEach c X.env).length=n:=by rfl) (d:(assignEach c X.env).findIdx? (·.1)=none:=by rfl):PG X (.Tuple c k pos) (z9J X.K n t):=by
 intro pins s σ H v u Q I r hw;obtain⟨a,xs,l,j,hl,hw⟩:=hw;subst l;cases r;obtain⟨its,f,i,q⟩:=I.tuple j;refine assign_Tuple_tuple (I.ok.hd m) i (by simp[hn,← hl,f.length]) d λh' p=>?_;have I1:Inv X pins σ H { s with heap:=h' }:=I.kept (t':=s.toks) λb o e=>p b o (Z13 (Z0w e)) e;exact h pins _ σ H xs _ Q I1 (by simpa using f) hw
noncomputable def Z6m(to a:TE)(t:Z2q):TG:=λv σ H Q=>to σ H λo H1=>a σ H1 λi H2=>t o i v H2 λH3=>Q σ H3
def z8z{pos:Pos}(d:PE X o to)(hi:PE X i ti)(j:Z4B X t)(ha:∀ v,assign (.Subscript o i pos) X.env v=(do
  let a ←holding [v] (eval o X.env);let b ←holding [v,a] (eval i X.env)
  standAt pos
  holding [v,a,b] (setItem a b v)
  release [v,a,b] []):=by intro _;rfl):PG X (.Subscript o i pos) (Z6m to ti t):=by
 intro pins s σ H v u Q I r h;rw[ha];refine wpAny_bind (wpAny_holding (z8 (d pins s σ H _ I h) λa s1 zq=>?_));obtain⟨x,H1,I1,c,q1⟩:=zq;refine wpAny_bind (wpAny_holding (z8 (hi pins s1 σ H1 _ I1 q1) λb s2 zq=>?_));obtain⟨y,H2,I2,f,q2⟩:=zq;refine wpAny_bind (wpAny_standAt (wpAny_bind (wpAny_holding (z8 (j pins s2 σ H2 x y v a b u _ I2 c f r q2) λ_ s3 zq=>?_))));obtain⟨H3,I3,q3⟩:=zq;exact wpAny_release ⟨σ,H3,I3,q3⟩
noncomputable def z4R(a:TE)(g:TG):TS:=λD σ H=>a σ H λx H1=>g x σ H1 D.nx
def z3c{pos:Pos}{e:Expr}{g:TG}(he:PE X e te)(c:PG X tg g)(b:swapsWithSole [tg] e pos.line X.env=pure false:=by rfl)(hw:swappedStores [tg] e X.env=pure none:=by rfl)(d:(assignEach [tg] X.env).map (·.2)=[assign tg X.env]:=by rfl):PS X (.Assign [tg] e pos) (z4R te g):=by
 intro pins s σ H D I h;refine wpAny_Assign_stores (z8 (he pins s σ H _ I h) λv s1 ⟨x,H1,I1,a,q1⟩=>?_) b hw;rw[d];exact z8 (c pins s1 σ H1 x v _ I1 a q1) λ_ s2 q=>q
def Q9{pos:Pos}{x:Str}{e:Expr}(b:X.N.Nodup)(hi:X.N[i]?=some x)(d:Loc X.env.scope x)(he:PE X e te)(c:swapsWith e (some (.Name x pos')) pos.line X.env=pure false:=by rfl)(hf:X.fn x=true\/X.env.scope.names.lookup x=some .local:=by first | exact .inl rfl | exact .inr rfl | assumption) :
 PS X (.Assign [.Name x pos'] e pos) (z4R te (ZF i)):=by
 intro pins s σ H D I h;refine wpAny_Assign_Name (z8 (he pins s σ H _ I h) λv s1 ⟨y,H1,I1,a,q1⟩=>?_) c;exact z0C I1 b hi d a (λs2 I2=>⟨_,H1,I2,q1⟩) hf
noncomputable def jO(c:TT)(tb:TS):TS:=λD σ H=>∃ W:Nat->St->Hp->Prop,(∃ m,W m σ H)/\∀ m σ H,W m σ H->
 c σ H λb H1=>if b=true then ∃ N:St->Hp->Prop,(∀ a H',N a H'->∃ d,d<m/\W d a H')/\tb { D with nx:=N,ct:=N,bk:=D.nx } σ H1 else D.nx σ H1
def z1f{pos:Pos}(m:PassesOwn 06 X.A X.env X.xe)(p:PT X c tc)(q:Xq X body tb):PS X (.While c body [] pos) (jO tc tb):=by
 intro pins s σ H D I h;obtain⟨W,⟨m0,w0⟩,turn⟩:=h;refine wpAny_While (codeAny_whileLoop (λn s'=>∃ i H',Inv X pins i H' s'/\W n i H') ?_ m0 ⟨σ,H,I,w0⟩);rintro n s1 ⟨d,H1,I1,o⟩;refine wpAny_passesOwn m (z8 (p pins s1 d H1 _ I1 (turn n d H1 o)) λb s2 zq=>?_);obtain⟨H2,I2,q2⟩:=zq;cases b with
 | true =>
   obtain⟨N,l,q2⟩:=q2;rw[if_pos rfl];refine wpAny_passesOwn m (z8 (q pins s2 d H2 _ I2 q2) λf s3 q3=>?_);cases f with
   | next =>
     obtain⟨a,H3,I3,n3⟩:=q3;obtain⟨j,hm,k⟩:=l a H3 n3;exact⟨j,hm,a,H3,I3,k⟩
   | cont =>
     obtain⟨a,H3,I3,n3⟩:=q3;obtain⟨j,hm,k⟩:=l a H3 n3;exact⟨j,hm,a,H3,I3,k⟩
   | brk=>exact q3
   | ret v=>exact q3
 | false =>
   rw[if_neg Z0U];exact wpAny_execs_nil ⟨d,H2,I2,q2⟩
set_option genInjectivity false in
structure It where
 go:Nat->Hp->Prop
 yld:Nat->Hp->V->Hp->Prop
 stop:Nat->Hp->Prop
noncomputable def xg(X:Cx)(pins:List 013)(H:Hp)(b:Addr):Prop :=
 H b=none/\b≠X.env.locals/\b∉X.fs/\(b∈X.ex\/X.s₀.heap.objs.size<=b)/\(∀ x c,X.env.cells.lookup x=some c->c≠b)/\∀ p∈X.pn ++ pins,p.1≠b
def Inv.z0G{σ:St}{b:Addr}(I:Inv X pins σ H s)(a:s.heap.objs.size<=b)(hn:H' b=none):xg X pins H' b:=by
 refine⟨hn,Z3L (Z0N I.lt a),I.Z6A a,.inr (Z0X I.sz a),λx c e z=>?_,λp d z=>?_⟩;obtain⟨v,q⟩:=I.cell x c e;exact absurd (Z0N q.lt (by rw[z];exact a)) (Z2I _);exact absurd (Z0N (Z0w (I.pin p d).1) (by rw[z];exact a)) (Z2I _)
structure Turn(P:Program)(w:World)(K:FR)(tg:Expr)(J:It)(fp:List Addr)(it:Addr)(tn:Nat->Heap->Prop):Prop where
 mem:it∈fp
 obj:∀ i h,tn i h->∀ b∈fp,∃ o,h.get? b=some o/\∀ v,o.data≠.cell v
 keep:∀ i h h',tn i h->(∀ b∈fp,∀ o,h.get? b=some o->h'.get? b=some o)->tn i h'
 item:∀ (X:Cx),X.prog=P->X.w=w->X.K=K->X.calm=true->∀ (i:Nat) (pins:List 013) (s:Shared) (σ:St) (H:Hp) (E:Value->Shared->Prop),Inv X pins σ H s->(∀ b∈fp,xg X pins H b)->tn i s.heap->J.go i H->
  wpAny (model P w) X.A (pyNext (.ref it)) (λr s1=>∃ u,r=some u/\
   wpAny (model P w) X.A (letOwnedTupleGo tg (.ref it) u) (λ_ s2=>∃ x H',Inv X pins σ H' s2/\RelV x u/\J.yld i H x H'/\tn (i+1) s2.heap/\∀ b∈fp,H' b=none) E s1) E s
 done:∀ (X:Cx),X.prog=P->X.w=w->X.K=K->X.calm=true->∀ (i:Nat) (pins:List 013) (s:Shared) (σ:St) (H:Hp) (E:Value->Shared->Prop),Inv X pins σ H s->(∀ b∈fp,xg X pins H b)->tn i s.heap->J.stop i H->
  wpAny (model P w) X.A (pyNext (.ref it)) (λr s1=>r=none/\Inv X pins σ H s1) E s
 self:∀ (A:Around) (i:Nat) (s:Shared) (Q:Value->Shared->Prop) (E:Value->Shared->Prop),tn i s.heap->Q (.ref it) s->wpAny (model P w) A (pyIter (.ref it)) Q E s
noncomputable abbrev TI:=St->Hp->(It->Hp->Prop)->Prop
noncomputable def PIE(X:Cx)(pins:List 013)(σ:St)(tg:Expr)(R:It->Hp->Prop)(a:Value)(s2:Shared):Prop :=
 ∃ (it:Addr) (fp:List Addr) (tn:Nat->Heap->Prop) (J:It) (H':Hp),a=.ref it/\Inv X pins σ H' s2/\Turn X.prog X.w X.K tg J fp it tn/\tn 0 s2.heap/\(∀ b∈fp,xg X pins H' b)/\R J H'
noncomputable def PI(X:Cx)(tg iter:Expr)(a:TI):Prop :=
 ∀ (pins:List 013) (s:Shared) (σ:St) (H:Hp) (R:It->Hp->Prop),Inv X pins σ H s->a σ H R->
   wpAny 06 X.A (eval iter X.env) (λv s1=>wpAny 06 X.A (pyIter v) (PIE X pins σ tg R) X.xe s1) X.xe s
def z0L{o:Obj}{n:String}(c:s.heap.get? it=some o)(b:o.cls=.type n)(hd:o.data=.fields vs)(hn:["enumerate","zip","dict_itemiterator","dict_reverseitemiterator","odict_iterator","itertools.zip_longest","itertools.pairwise"].contains n=false)(a:Q () s):wpAny M A (letOwnedTupleGo tg (.ref it) u) Q E s:=by
 unfold letOwnedTupleGo;cases tg <;> first
  | exact wpAny_pure a
  | (cases u <;> first
   | exact wpAny_pure a
   | (refine wpAny_bind (wpAny_load c ?_)
      rw[b,hd];show wpAny M A (if (["enumerate","zip","dict_itemiterator","dict_reverseitemiterator","odict_iterator","itertools.zip_longest","itertools.pairwise"].contains n && vs[0]? == some (rawInt _))=true then _ else _) Q E s;rw[if_neg (by intro h;rw[hn,Bool.false_and] at h;cases h)];exact wpAny_pure a))
noncomputable def Itl(K:FR)(a:Addr):It :=
 ⟨λi H=>∃ xs x,zJ K H a xs/\xs[i]?=some x,λi H x H'=>H'=H/\∀ xs,zJ K H a xs->xs[i]?=some x,λi H=>∃ xs,zJ K H a xs/\xs.length<=i⟩
noncomputable def Itt(K:FR)(a:Addr):It :=
 ⟨λi H=>∃ xs x,zO K H a xs/\xs[i]?=some x,λi H x H'=>H'=H/\∀ xs,zO K H a xs->xs[i]?=some x,λi H=>∃ xs,zO K H a xs/\xs.length<=i⟩
noncomputable def Itr(lo:Int)(n:Nat):It:=⟨λi _=>i<n,λi H x H'=>H'=H/\x=.int (lo+i),λi _=>n<=i⟩
def U5(a it:Addr):Turn P w K tg (Itl K a) [it] it (λi h=>h.IsListIter it a i) where
 mem:=05
 obj:=λi h st b f=>by
  have e:b=it:=by simpa using f
  subst e;obtain⟨o,e,c,d⟩:=st;exact⟨o,e,λv z=>by rw[d] at z;cases z⟩
 keep:=λi h h' st k=>st.at λo e=>k it 05 o e
 item:=by
  intro X q hw m B i pins s σ H E I hf st t;subst q hw m;obtain⟨xs,x,l,A⟩:=t;obtain⟨its,n,p,D⟩:=I.list l;obtain⟨u,C,J⟩:=n.get A;obtain⟨f0,f1,f2,y,f4,r⟩:=hf it 05;refine wpAny_pyNext_list_item st p.isList (x:=u) (by simpa using C) λh' j sb=>?_;have I1:Inv X pins σ H { s with heap:=h' }:=I.turned (t':=s.toks) (λb o f e=>(sb.2 b f).trans e) f0 f1 y f4 r;obtain⟨o,e,c,d⟩:=id j;exact⟨u,rfl,z0L (s:={ s with heap:=h' }) e c d 01 ⟨x,H,I1,J,⟨rfl,λys F=>by rw[I.Qu F l];exact A⟩,j,λb f=>(hf b f).1⟩⟩
 done:=by
  intro X q hw m B i pins s σ H E I hf st t;subst q hw m;obtain⟨xs,l,A⟩:=t;obtain⟨its,n,p,D⟩:=I.list l;obtain⟨f0,f1,f2,y,f4,r⟩:=hf it 05;have hl:=n.length;exact wpAny_pyNext_list_end (I.ok.hd B) st p.isList (by simp;lia) λh' G=>⟨rfl,I.turned (t':=s.toks) (λb o f e=>G b o f e) f0 f1 y f4 r⟩
 self:=λ_ _ _ _ _ st h=>wpAny_pyIter_listiter st h
def VI(a it:Addr):Turn P w K tg (Itt K a) [it] it (λi h=>h.IsTupleIter it a i) where
 mem:=05
 obj:=λi h st b f=>by
  have e:b=it:=by simpa using f
  subst e;obtain⟨o,e,c,d⟩:=st;exact⟨o,e,λv z=>by rw[d] at z;cases z⟩
 keep:=λi h h' st k=>st.at λo e=>k it 05 o e
 item:=by
  intro X q hw m B i pins s σ H E I hf st t;subst q hw m;obtain⟨xs,x,l,A⟩:=t;obtain⟨its,n,p,D⟩:=I.tuple l;obtain⟨u,C,J⟩:=n.get A;obtain⟨f0,f1,f2,y,f4,r⟩:=hf it 05;refine wpAny_pyNext_tuple_item st (show s.heap.IsTuple a its.toArray from p) (x:=u) (by simpa using C) λh' j sb=>?_;have I1:Inv X pins σ H { s with heap:=h' }:=I.turned (t':=s.toks) (λb o f e=>(sb.2 b f).trans e) f0 f1 y f4 r;obtain⟨o,e,c,d⟩:=id j;exact⟨u,rfl,z0L (s:={ s with heap:=h' }) e c d 01 ⟨x,H,I1,J,⟨rfl,λys F=>by rw[I.yH F l];exact A⟩,j,λb f=>(hf b f).1⟩⟩
 done:=by
  intro X q hw m B i pins s σ H E I hf st t;subst q hw m;obtain⟨xs,l,A⟩:=t;obtain⟨its,n,p,D⟩:=I.tuple l;obtain⟨f0,f1,f2,y,f4,r⟩:=hf it 05;have hl:=n.length;exact wpAny_pyNext_tuple_end (I.ok.hd B) st (show s.heap.IsTuple a its.toArray from p) (by simp;lia) λh' G=>⟨rfl,I.turned (t':=s.toks) (λb o f e=>G b o f e) f0 f1 y f4 r⟩
 self:=λ_ _ _ _ _ st h=>wpAny_pyIter_tupleiter st h
def z1R(it:Addr)(lo:Int)(n:Nat):Turn P w K tg (Itr lo n) [it] it (λi h=>IsRangeIter h it (lo+(i:Nat) * 1) ((n:Int) - (i:Nat)) 1) where
 mem:=05
 obj:=λi h st b a=>by
  have e:b=it:=by simpa using a
  subst e;exact⟨_,st,λv z=>by
   have u:Data.fields _=Data.cell v:=z;cases u⟩
 keep:=λi h h' st k=>k it 05 _ st
 item:=by
  intro X f hw d j i pins s σ H E I hf st m;subst f hw d;obtain⟨f0,f1,f2,p,f4,l⟩:=hf it 05;have W:=Walks.range (prog:=X.prog) (w:=X.w) (I.ok.hd j) it lo 1 n;refine W.item i s _ _ m st λv h' q r c y=>?_;obtain⟨t,rfl⟩:=r;have I1:Inv X pins σ H { s with heap:=h',toks:=q }:=I.turned (λb o a e=>y b o (by simpa using a) e) f0 f1 p f4 l;refine⟨_,rfl,z0L (s:={ s with heap:=h',toks:=q }) (n:="range_iterator") c rfl rfl 01 ⟨.int (lo+i),H,I1,⟨t,?_⟩,⟨rfl,rfl⟩,c,λb a=>(hf b a).1⟩⟩;rw[Int.mul_one]
 done:=by
  intro X f hw d j i pins s σ H E I hf st m;subst f hw d;obtain⟨f0,f1,f2,p,f4,l⟩:=hf it 05;exact wpAny_pyNext_range_end (I.ok.hd j) st (by have:n<=i:=m;lia) λh' A=>⟨rfl,I.turned (t':=s.toks) (λb o a e=>A b o a e) f0 f1 p f4 l⟩
 self:=λ_ _ _ _ _ st h=>wpAny_pyIter_rangeiter st h
noncomputable def Z1k(K:FR)(b:TE):TI:=λσ H R=>b σ H λx H1=>∃ a,x=.ref a/\(∃ xs,zJ K H1 a xs)/\R (Itl K a) H1
noncomputable def Z4u(K:FR)(b:TE):TI:=λσ H R=>b σ H λx H1=>∃ a,x=.ref a/\(∃ xs,zO K H1 a xs)/\R (Itt K a) H1
def QK{X:Cx}{tg:Expr}{l:Expr}{c:TE}(hl:PE X l c):PI X tg l (Z1k X.K c):=by
 intro pins s σ H R I h;refine z8 (hl pins s σ H _ I h) λv s1 zq=>?_;obtain⟨x,H1,I1,f,q1⟩:=zq;obtain⟨a,e,⟨xs,d⟩,q⟩:=q1;subst e;cases f;obtain⟨its,j,p,k⟩:=I1.list d;refine wpAny_pyIter_list p.isList ?_;refine⟨s1.heap.objs.size,[s1.heap.objs.size],_,_,H1,rfl,I1.kept (t':=s1.toks) λb o e=>ZB _ e,U5 a _,⟨_,Z10 _ rfl,rfl,rfl⟩,λb i=>?_,q⟩;have e:b=s1.heap.objs.size:=by simpa using i
 subst e;exact I1.z0G (Z01 _) (I1.hok.fresh (Z01 _))
def z6R(hl:PE X l tl):PI X tg l (Z4u X.K tl):=by
 intro pins s σ H R I h;refine z8 (hl pins s σ H _ I h) λv s1 zq=>?_;obtain⟨x,H1,I1,d,q1⟩:=zq;obtain⟨a,e,⟨xs,c⟩,q⟩:=q1;subst e;cases d;obtain⟨its,i,p,j⟩:=I1.tuple c;refine wpAny_pyIter_tuple (show s1.heap.IsTuple a its.toArray from p) ?_;refine⟨s1.heap.objs.size,[s1.heap.objs.size],_,_,H1,rfl,I1.kept (t':=s1.toks) λb o e=>ZB _ e,VI a _,⟨_,Z10 _ rfl,rfl,rfl⟩,λb f=>?_,q⟩;have e:b=s1.heap.objs.size:=by simpa using f
 subst e;exact I1.z0G (Z01 _) (I1.hok.fresh (Z01 _))
def z7M{X:Cx}{σ:St}{lo:Int}(I:Inv X pins σ H s)(j:-(2 ^ 62)<=lo)(c:lo<2 ^ 62)(a:-(2 ^ 62)<=hi)(i:hi<2 ^ 62)(q:R (Itr lo (hi - lo).toNat) H):wpAny 06 X.A (pyIter 023) (PIE X pins σ tg R) E { s with heap:=s.heap.push { cls:=.type "range",data:=.fields #[.int lo t,.int hi u,.int 1 v] },toks:=tk }:=by
 refine wpAny_pyIter_range (IsRange.new ..) (small_one j c a i) ?_;have I1:Inv X pins σ H { s with heap:=s.heap.push { cls:=.type "range",data:=.fields #[.int lo t,.int hi u,.int 1 v] },toks:=tk }:=I.kept λb o e=>ZB _ e;refine⟨(s.heap.push { cls:=.type "range",data:=.fields #[.int lo t,.int hi u,.int 1 v] }).objs.size,[(s.heap.push { cls:=.type "range",data:=.fields #[.int lo t,.int hi u,.int 1 v] }).objs.size],_,_,H,rfl,
  I1.kept (t':=tk) λb o e=>ZB _ e,z1R _ lo (hi - lo).toNat,?_,λb h=>?_,q⟩
 have f:lo+((0:Nat):Int) * 1=lo:=05
 have d:(((hi - lo).toNat:Nat):Int) - ((0:Nat):Int)=Builtin.Range.rangeSize lo hi 1:=by rw[rangeSize_one];split <;> lia
 show IsRangeIter _ _ (lo+((0:Nat):Int) * 1) ((((hi - lo).toNat:Nat):Int) - ((0:Nat):Int)) 1;rw[f,d];exact Z10 _ rfl;have e:b=(s.heap.push { cls:=.type "range",data:=.fields #[.int lo t,.int hi u,.int 1 v] }).objs.size:=by simpa using h
 subst e;exact I1.z0G (Z01 _) (I1.hok.fresh (Z01 _))
noncomputable def Z0T(a:TA):TI:=λσ H R=>a σ H λvs H1=>∃ j:Int,vs=[.int j]/\-(2 ^ 62)<=j/\j<2 ^ 62/\R (Itr 0 j.toNat) H1
def jH{pos:Pos}(d:Gl X "range")(hm:X.mg "range"=none)(ha:PA X [a] ta)(c:starEach [a] X.env=[(false,eval a X.env)]:=by rfl):PI X tg (.Call (.Name "range" p) [a] [] pos) (Z0T ta):=by
 intro pins s σ H R I h;refine Call_ (yX I d hm boot_range (Z33 (z8 (ha pos pins s σ H _ I h) λus s1 ⟨vs,H1,I1,b,q1⟩=>?_) c rfl));obtain⟨j,e,q1,q2,q⟩:=q1;subst e;cases b with
 | cons r rr =>
   cases rr;obtain⟨t,rfl⟩:=r;exact call_range_1 (z7M I1 00 00 q1 q2 (by simpa using q))
noncomputable def Z3d(d:TI)(g:TG)(tb:TS):TS:=λD σ H=>d σ H λJ H1=>∃ W:Nat->Nat->St->Hp->Prop,(∃ m,W 0 m σ H1)/\∀ i m σ H,W i m σ H->
 (J.stop i H/\D.nx σ H)\/(J.go i H/\∃ N:St->Hp->Prop,(∀ a H',N a H'->∃ c,c<m/\W (i+1) c a H')/\∀ x H',J.yld i H x H'->g x σ H' λb H2=>tb { D with nx:=N,ct:=N,bk:=D.nx } b H2)
noncomputable def vn(fp:List Addr)(h:Heap):List 013:=fp.filterMap λb=>(h.get? b).map λo=>(b,o)
def yg(a:b∈fp)(e:h.get? b=some o):(b,o)∈vn fp h:=Z43.mpr ⟨b,a,by rw[e];rfl⟩
def z5H(d:p∈vn fp h):p.1∈fp/\h.get? p.1=some p.2:=by
 obtain⟨b,c,e⟩:=Z43.mp d;cases q:h.get? b with
 | none=>rw[q] at e;cases e
 | some o =>
   rw[q] at e;have a:(b,o)=p:=Z12 e;subst a;exact⟨c,q⟩
def Inv.pinned{σ:St}(I:Inv X pins σ H s)(hf:∀ b∈fp,xg X pins H b)(f:∀ b∈fp,∃ o,s.heap.get? b=some o/\∀ v,o.data≠.cell v):Inv X (pins ++ vn fp s.heap) σ H s :=
 I.z4e λp h=>(Z1y.mp h).elim (λz=>I.pin p (Z1g _ z)) λz=>by
  obtain⟨c,e⟩:=z5H z;obtain⟨f0,f1,f2,_⟩:=hf p.1 c;obtain⟨o,a,d⟩:=f p.1 c;rw[e] at a;cases a;exact⟨e,f0,f1,f2,d⟩
def Inv.xD{σ:St}(I:Inv X (pins ++ pl) σ H s):Inv X pins σ H s:=I.z4e λp a=>I.pin p (Z1g _ (Z2Q _ a))
def Z1L{g:TG}{pos:Pos}(y:PassesOwn 06 X.A X.env X.xe)(G:X.calm=true)(hi:PI X tg iter wi)(P:PG X tg g)(k:Xq X body tb)(M:∀ x,foldedSetIterable iter X.env x=pure x:=by intro _;rfl):PS X (.For tg iter body [] pos) (Z3d wi g tb):=by
 intro pins s σ H D I h;refine wpAny_For (z8 (hi pins s σ H _ I h) λv s1 U=>z8 U λY s2 Z=>?_) M;obtain⟨it,fp,tn,J,H2,e,I2,T,E,f2,W,⟨m0,w0⟩,turn⟩:=Z;subst e;have j:∀ {H':Hp},(∀ b∈fp,H' b=none)->∀ b∈fp,xg X pins H' b:=λhn b k=>⟨hn b k,(f2 b k).2⟩;refine codeAny_forLoop_any (λn s'=>∃ i l H',Inv X pins l H' s'/\tn i s'.heap/\(∀ b∈fp,H' b=none)/\W i n l H') ?_ m0 ⟨0,σ,H2,I2,E,λb k=>(f2 b k).1,w0⟩;rintro n s3 ⟨i,c,H3,I3,q,z,Q⟩;rcases turn i n c H3 Q with⟨stop,qn⟩|⟨go,N,hN,step⟩;refine wpAny_passesOwn y (z8 (T.done X rfl rfl rfl G i pins s3 c H3 X.xe I3 (j z) q stop) λr s4 ⟨hr,I4⟩=>?_)
 subst hr;exact wpAny_execs_nil ⟨c,H3,I4,qn⟩
 · refine wpAny_passesOwn y (z8 (T.item X rfl rfl rfl G i pins s3 c H3 X.xe I3 (j z) q go) λr s4 ⟨u,hr,K⟩=>?_)
   subst hr;refine wpAny_passesOwn y (z8 K λ_ s5 zq=>?_);obtain⟨x,H5,I5,r5,y5,p,F⟩:=zq;have I5':=I5.pinned (j F) (T.obj _ _ p);refine wpAny_passesOwn y (z8 (P _ s5 c H5 x u _ I5' r5 (step x H5 y5)) λ_ L zq=>?_);obtain⟨C,H6,I6,q6⟩:=zq;refine wpAny_passesOwn y (z8 (k _ L C H6 _ I6 q6) λf B q7=>?_);have again:∀ {a:St}{H7:Hp},Inv X (pins ++ vn fp s5.heap) a H7 B->N a H7->∃ m,m<n/\∃ i l H',Inv X pins l H' B/\tn i B.heap/\(∀ b∈fp,H' b=none)/\W i m l H':=λ{a H7} I7 t=>by
    obtain⟨S,hm,w7⟩:=hN a H7 t;refine⟨S,hm,i+1,a,H7,I7.xD,T.keep _ _ _ p λb k o e=>(I7.pin (b,o) (Z1g _ (Z1g _ (yg k e)))).1,λb k=>?_,w7⟩;obtain⟨o,e,d⟩:=T.obj _ _ p b k;exact (I7.pin (b,o) (Z1g _ (Z1g _ (yg k e)))).2.1
   cases f with
   | next=>obtain⟨a,H7,I7,t⟩:=q7;exact again I7 t
   | cont=>obtain⟨a,H7,I7,t⟩:=q7;exact again I7 t
   | brk=>obtain⟨a,H7,I7,q7⟩:=q7;exact⟨a,H7,I7.xD,q7⟩
   | ret v=>obtain⟨R,a,H7,I7,O,q7⟩:=q7;exact⟨R,a,H7,I7.xD,O,q7⟩
def Yw{xs:List V}{g:TG}{tb:TS}{D:Ends}(Pv:Nat->St->Hp->Prop)(h0:Pv 0 σ H)(hl:∀ i σ H,i<=xs.length->Pv i σ H->zJ K H a xs)(f:∀ i x σ H,xs[i]?=some x->Pv i σ H->g x σ H λb H2=>tb { D with nx:=Pv (i+1),ct:=Pv (i+1),bk:=D.nx } b H2)(hd:∀ σ H,Pv xs.length σ H->D.nx σ H) :
 ∃ W:Nat->Nat->St->Hp->Prop,(∃ m,W 0 m σ H)/\∀ i m σ H,W i m σ H->
   ((Itl K a).stop i H/\D.nx σ H)\/((Itl K a).go i H/\∃ N:St->Hp->Prop,(∀ c H',N c H'->∃ d,d<m/\W (i+1) d c H')/\∀ x H',(Itl K a).yld i H x H'->g x σ H' λb H2=>tb { D with nx:=N,ct:=N,bk:=D.nx } b H2):=by
 refine⟨λi m σ H=>m=xs.length - i/\i<=xs.length/\Pv i σ H,⟨xs.length,05,Z19 _,h0⟩,?_⟩;rintro i m σ H ⟨rfl,hi,p⟩;have q:=hl i σ H hi p;by_cases hlt:i<xs.length;refine .inr ⟨⟨xs,xs[i],q,by simp[hlt]⟩,Pv (i+1),λc H' h=>⟨xs.length - (i+1),00,rfl,hlt,h⟩,λx H' y=>?_⟩;obtain⟨e,y⟩:=y;subst e;exact f i x σ _ (y xs q) p;have e:i=xs.length:=00
 subst e;exact .inl ⟨⟨xs,q,Z01 _⟩,hd σ H p⟩
def z8V{xs:List V}{g:TG}{tb:TS}{D:Ends}(Pv:Nat->St->Hp->Prop)(h0:Pv 0 σ H)(hl:∀ i σ H,i<=xs.length->Pv i σ H->zO K H a xs)(f:∀ i x σ H,xs[i]?=some x->Pv i σ H->g x σ H λb H2=>tb { D with nx:=Pv (i+1),ct:=Pv (i+1),bk:=D.nx } b H2)(hd:∀ σ H,Pv xs.length σ H->D.nx σ H) :
 ∃ W:Nat->Nat->St->Hp->Prop,(∃ m,W 0 m σ H)/\∀ i m σ H,W i m σ H->
   ((Itt K a).stop i H/\D.nx σ H)\/((Itt K a).go i H/\∃ N:St->Hp->Prop,(∀ c H',N c H'->∃ d,d<m/\W (i+1) d c H')/\∀ x H',(Itt K a).yld i H x H'->g x σ H' λb H2=>tb { D with nx:=N,ct:=N,bk:=D.nx } b H2):=by
 refine⟨λi m σ H=>m=xs.length - i/\i<=xs.length/\Pv i σ H,⟨xs.length,05,Z19 _,h0⟩,?_⟩;rintro i m σ H ⟨rfl,hi,p⟩;have q:=hl i σ H hi p;by_cases hlt:i<xs.length;refine .inr ⟨⟨xs,xs[i],q,by simp[hlt]⟩,Pv (i+1),λc H' h=>⟨xs.length - (i+1),00,rfl,hlt,h⟩,λx H' y=>?_⟩;obtain⟨e,y⟩:=y;subst e;exact f i x σ _ (y xs q) p;have e:i=xs.length:=00
 subst e;exact .inl ⟨⟨xs,q,Z01 _⟩,hd σ H p⟩
def xY{lo:Int}{g:TG}{tb:TS}{D:Ends}(Pv:Nat->St->Hp->Prop)(h0:Pv 0 σ H)(d:∀ i σ H,i<n->Pv i σ H->g (.int (lo+i)) σ H λa H2=>tb { D with nx:=Pv (i+1),ct:=Pv (i+1),bk:=D.nx } a H2)(hd:∀ σ H,Pv n σ H->D.nx σ H) :
 ∃ W:Nat->Nat->St->Hp->Prop,(∃ m,W 0 m σ H)/\∀ i m σ H,W i m σ H->
   ((Itr lo n).stop i H/\D.nx σ H)\/((Itr lo n).go i H/\∃ N:St->Hp->Prop,(∀ b H',N b H'->∃ c,c<m/\W (i+1) c b H')/\∀ x H',(Itr lo n).yld i H x H'->g x σ H' λa H2=>tb { D with nx:=N,ct:=N,bk:=D.nx } a H2):=by
 refine⟨λi m σ H=>m=n - i/\i<=n/\Pv i σ H,⟨n,05,Z19 _,h0⟩,?_⟩;rintro i m σ H ⟨rfl,hi,p⟩;by_cases hlt:i<n;refine .inr ⟨hlt,Pv (i+1),λb H' f=>⟨n - (i+1),00,rfl,hlt,f⟩,λx H' y=>?_⟩;obtain⟨e,y⟩:=y;subst e y;exact d i σ _ hlt p;have e:i=n:=00
 subst e;exact .inl ⟨Z01 _,hd σ H p⟩
def z8g(Pv:St->Hp->Prop)(μ:St->Hp->Nat)(h0:Pv σ H)(d:∀ σ H,Pv σ H->c σ H λb H1=>if b=true then tb { D with nx:=λa H'=>Pv a H'/\μ a H'<μ σ H,ct:=λa H'=>Pv a H'/\μ a H'<μ σ H,bk:=D.nx } σ H1 else D.nx σ H1)(mono:∀ σ H Q Q',(∀ b H1,Q b H1->Q' b H1)->c σ H Q->c σ H Q'):jO c tb D σ H:=by
 refine⟨λm σ H=>m=μ σ H/\Pv σ H,⟨_,rfl,h0⟩,?_⟩;rintro m σ H ⟨rfl,p⟩;refine mono σ H _ _ (λb H1 q=>?_) (d σ H p);cases b with
 | true=>exact⟨_,λa H' ⟨f,l⟩=>⟨_,l,rfl,f⟩,q⟩
 | false=>exact q
noncomputable abbrev R2:=V->V->Hp->VK->Prop
noncomputable def Yl(X:Cx)(f:Value->Value->Sem Value)(r:R2):Prop :=
 ∀ (pins:List 013) (s:Shared) (σ:St) (H:Hp) (x y:V) (v u:Value) (Q:VK),Inv X pins σ H s->RelV x v->RelV y u->r x y H Q->
   wpAny 06 X.A (f v u) (EP X pins σ Q) X.xe s
noncomputable def UnR(X:Cx)(f:Value->Sem Value)(r:V->Hp->VK->Prop):Prop :=
 ∀ (pins:List 013) (s:Shared) (σ:St) (H:Hp) (x:V) (v:Value) (Q:VK),Inv X pins σ H s->RelV x v->r x H Q->
   wpAny 06 X.A (f v) (EP X pins σ Q) X.xe s
noncomputable def Zw(X:Cx)(f:Value)(r:List V->Hp->VK->Prop):Prop :=
 ∀ (pins:List 013) (s:Shared) (σ:St) (H:Hp) (xs:List V) (us:List Value) (Q:VK),Inv X pins σ H s->Vals xs us->r xs H Q->
   wpAny 06 X.A (call f us) (EP X pins σ Q) X.xe s
noncomputable def Z6t(X:Cx)(r:V->Hp->(Bool->Hp->Prop)->Prop):Prop :=
 ∀ (pins:List 013) (s:Shared) (σ:St) (H:Hp) (x:V) (v:Value) (Q:Bool->Hp->Prop),Inv X pins σ H s->RelV x v->r x H Q->
   wpAny 06 X.A (truthy v) (TP X pins σ Q) X.xe s
noncomputable def tOp(r:R2)(a tb:TE):TE:=λσ H Q=>a σ H λx H1=>tb σ H1 λy H2=>r x y H2 Q
noncomputable def tUn(r:V->Hp->VK->Prop)(a:TE):TE:=λσ H Q=>a σ H λx H1=>r x H1 Q
noncomputable def rI(C:Int->Int->Prop)(g:Int->Int->V):R2:=λx y H Q=>∃ i j,x=.int i/\y=.int j/\C i j/\Q (g i j) H
noncomputable def rI0(g:Int->Int->V):R2:=λx y H Q=>∃ i j,x=.int i/\y=.int j/\Q (g i j) H
noncomputable def rU(g:Int->V):V->Hp->VK->Prop:=λx H Q=>∃ i,x=.int i/\Q (g i) H
def Z3h{X:Cx}{a b:Expr}{d tb:TE}(ha:PE X a d)(k:PE X b tb){pins:List 013}{s:Shared}{σ:St}{H:Hp}{R:V->V->Hp->Prop}(I:Inv X pins σ H s)
 (h:d σ H λx H1=>tb σ H1 λy H2=>R x y H2) {Q:Value->Shared->Prop}{f:Value->Value->Sem Value}
 (hf:∀ v u s2 x y H2,Inv X pins σ H2 s2->RelV x v->RelV y u->R x y H2->wpAny 06 X.A (f v u) Q X.xe s2) :
 wpAny 06 X.A (eval a X.env) (λv s₁=>wpAny 06 X.A (eval b X.env) (λu c=>wpAny 06 X.A (f v u) Q X.xe c) X.xe s₁) X.xe s:=by
 refine z8 (ha pins s σ H _ I h) λv s1 zq=>?_;obtain⟨x,H1,I1,i,q1⟩:=zq;refine z8 (k pins s1 σ H1 _ I1 q1) λu s2 zq=>?_;obtain⟨y,H2,I2,j,q2⟩:=zq;exact hf v u s2 x y H2 I2 i j q2
def Zj{pos:Pos}(c:Yl X (binaryOp op) r)(ha:PE X a ta)(i:PE X b tb):PE X (.BinOp a op b pos) (tOp r ta tb):=by
 intro pins s σ H Q I h;exact wpAny_BinOp (Z3h ha i I h λv u s2 x y H2 I2 d f q=>c pins s2 σ H2 x y v u Q I2 d f q)
def z4q{pos:Pos}(c:UnR X (unaryOp op) r)(ha:PE X a ta):PE X (.UnaryOp op a pos) (tUn r ta):=by
 intro pins s σ H Q I h;exact UnaryOp_ (z8 (ha pins s σ H _ I h) λv s1 ⟨x,H1,I1,b,q1⟩=>c pins s1 σ H1 x v Q I1 b q1)
def opI{g:Int->Int->Int}(rule:∀ (i j:Int) (t u:Tok) (s:Shared) (Q:Value->Shared->Prop) (E:Value->Shared->Prop),C i j->Q (.int (g i j) s.toks) { s with toks:=s.toks+1 }->wpAny 06 X.A (f (.int i t) (.int j u)) Q E s) :
 Yl X f (rI C λi j=>.int (g i j)):=by
 intro pins s σ H x y v u Q I a c h;obtain⟨i,j,rfl,rfl,b,q⟩:=h;obtain⟨t,rfl⟩:=a;obtain⟨t',rfl⟩:=c;exact rule i j t t' s _ _ b ⟨.int (g i j),H,I.tok _,⟨_,rfl⟩,q⟩
def Z5w{g:Int->Int->Int}(rule:∀ (i j:Int) (t u:Tok) (s:Shared) (Q:Value->Shared->Prop) (E:Value->Shared->Prop),Q (.int (g i j) s.toks) { s with toks:=s.toks+1 }->wpAny 06 X.A (f (.int i t) (.int j u)) Q E s) :
 Yl X f (rI0 λi j=>.int (g i j)):=by
 intro pins s σ H x y v u Q I a b h;obtain⟨i,j,rfl,rfl,q⟩:=h;obtain⟨t,rfl⟩:=a;obtain⟨t',rfl⟩:=b;exact rule i j t t' s _ _ ⟨.int (g i j),H,I.tok _,⟨_,rfl⟩,q⟩
def z9H{g:Int->Int->Bool}(rule:∀ (i j:Int) (t u:Tok) (s:Shared) (Q:Value->Shared->Prop) (E:Value->Shared->Prop),Q (.bool (g i j)) s->wpAny 06 X.A (f (.int i t) (.int j u)) Q E s) :
 Yl X f (rI0 λi j=>.bl (g i j)):=by
 intro pins s σ H x y v u Q I a b h;obtain⟨i,j,rfl,rfl,q⟩:=h;obtain⟨t,rfl⟩:=a;obtain⟨t',rfl⟩:=b;exact rule i j t t' s _ _ ⟨.bl (g i j),H,I,rfl,q⟩
noncomputable def Z6a(i j:Int):Prop:=0<j/\j<1073741824
noncomputable def Z5I(i j:Int):Prop:=0<=j/\j<=1000000/\i.natAbs<2 ^ 64
noncomputable def Z2J(i j:Int):Prop:=(-(2 ^ 64)<i/\i<2 ^ 64)\/(-(2 ^ 64)<j/\j<2 ^ 64)
def Z2J.ok(h:Z2J i j):IntMulOk i j:=by
 rcases h with⟨h1,h2⟩|⟨h1,h2⟩;exact .of_left (intBits_le_64 h1 h2);exact .of_right (intBits_le_64 h1 h2)
def yN:Yl X (binaryOp .Add) (rI0 λi j=>.int (i+j)):=Z5w λ_ _ _ _ _ _ _ q=>add_int q
def xw:Yl X (binaryOp .Sub) (rI0 λi j=>.int (i - j)):=Z5w λ_ _ _ _ _ _ _ q=>sub_int q
def Z2U:Yl X (binaryOp .Mult) (rI Z2J λi j=>.int (i * j)):=opI λ_ _ _ _ _ _ _ a q=>mul_int q a.ok
def z9o:Yl X (binaryOp .FloorDiv) (rI Z6a λi j=>.int (i / j)):=opI λi j _ _ _ _ _ a q=>by
 have c:(0:Int)<j:=a.1;have b:j<1073741824:=a.2;exact floordiv_int 00 (by rw[Z42 i 00];exact q) (.inl (PyProof.noPylong_small 00))
def xP:Yl X (binaryOp .Mod) (rI (λ_ j=>0<j) λi j=>.int (i % j)):=opI λi j _ _ _ _ _ a q=>by
 have b:(0:Int)<j:=a;exact mod_int' 00 (by rw[Int.fmod_eq_emod_of_nonneg i 00];exact q)
def uM:Yl X (binaryOp .Pow) (rI Z5I λi j=>.int (i ^ j.toNat)):=opI λ_ _ _ _ _ _ _ a q=>pow_int_small a.1 a.2.1 a.2.2 q
def unI{g:Int->Int}(rule:∀ (i:Int) (t:Tok) (s:Shared) (Q:Value->Shared->Prop) (E:Value->Shared->Prop),Q (.int (g i) s.toks) { s with toks:=s.toks+1 }->wpAny 06 X.A (f (.int i t)) Q E s) :
 UnR X f (rU λi=>.int (g i)):=by
 intro pins s σ H x v Q I a h;obtain⟨i,rfl,q⟩:=h;obtain⟨t,rfl⟩:=a;exact rule i t s _ _ ⟨.int (g i),H,I.tok _,⟨_,rfl⟩,q⟩
def JN:UnR X (unaryOp .USub) (rU λi=>.int (-i)):=unI λ_ _ _ _ _ q=>neg_int q
noncomputable def Z4J:V->V->Bool
 | .Zc,.Zc=>true | .Zc,.int _=>true | .int _,.Zc=>true | .Zc,.bl _=>true | .bl _,.Zc=>true | .Zc,.str _=>true | .str _,.Zc=>true
 | .int _,.int _=>true | .bl _,.bl _=>true | .str _,.str _=>true | .byt _,.byt _=>true
 | .int _,.str _=>true | .str _,.int _=>true | .bl _,.str _=>true | .str _,.bl _=>true
 | _,_=>false
noncomputable def rEq:R2:=λx y H Q=>Z4J x y=true/\Q (.bl (decide (x=y))) H
noncomputable def rNe:R2:=λx y H Q=>Z4J x y=true/\Q (.bl (!decide (x=y))) H
def z3C:decide (V.int i=V.int j)=(i == j):=by
 rw[Bool.eq_iff_iff];simp
def z6n:decide (V.bl i=V.bl j)=(i == j):=by
 rw[Bool.eq_iff_iff];simp
def z3L:decide (V.str i=V.str j)=(i == j):=by
 rw[Bool.eq_iff_iff];simp
def z4f:decide (V.byt i=V.byt j)=(i.toList == j.toList):=by
 rw[Bool.eq_iff_iff];cases i;cases j;simp
def zR{σ:St}(I:Inv X pins σ H s)(q:Q (.bl k) H)(e:k=k'):EP X pins σ Q (.bool k') s:=by
 subst e;exact⟨.bl k,H,I,rfl,q⟩
def Zf:Yl X (compareOp .Eq) rEq:=by
 intro pins s σ H x y v u Q I c a h;obtain⟨b,q⟩:=h;cases x with
 | Zc =>
   cases c;cases y with
   | Zc=>cases a;exact PySem.EqNone.eq_none_none (zR I q 05)
   | bl j=>cases a;exact PySem.EqNone.eq_none_bool (zR I q 05)
   | int j=>obtain⟨t',rfl⟩:=a;exact PySem.EqNone.eq_none_int (zR I q 05)
   | str j=>obtain⟨t',rfl⟩:=a;exact PySem.EqNone.eq_none_str (zR I q 05)
   | _=>exact absurd (show false=true from b) Z0U
 | bl i =>
   cases c;cases y with
   | Zc=>cases a;exact PySem.EqNone.eq_bool_none (zR I q 05)
   | bl j=>cases a;exact eq_bool (zR I q z6n)
   | str j=>obtain⟨t',rfl⟩:=a;exact PySem.EqMixed.eq_bool_str (zR I q 05)
   | _=>exact absurd (show false=true from b) Z0U
 | int i =>
   obtain⟨t,rfl⟩:=c;cases y with
   | Zc=>cases a;exact PySem.EqNone.eq_int_none (zR I q 05)
   | int j=>obtain⟨t',rfl⟩:=a;exact eq_int (zR I q z3C)
   | str j=>obtain⟨t',rfl⟩:=a;exact PySem.EqMixed.eq_int_str (zR I q 05)
   | _=>exact absurd (show false=true from b) Z0U
 | str i =>
   obtain⟨t,rfl⟩:=c;cases y with
   | Zc=>cases a;exact PySem.EqNone.eq_str_none (zR I q 05)
   | bl j=>cases a;exact PySem.EqMixed.eq_str_bool (zR I q 05)
   | int j=>obtain⟨t',rfl⟩:=a;exact PySem.EqMixed.eq_str_int (zR I q 05)
   | str j=>obtain⟨t',rfl⟩:=a;exact eq_str (zR I q z3L)
   | _=>exact absurd (show false=true from b) Z0U
 | byt i =>
   obtain⟨t,rfl⟩:=c;cases y with
   | byt j=>obtain⟨t',rfl⟩:=a;exact PySem.W.eq_bytes (zR I q z4f)
   | _=>exact absurd (show false=true from b) Z0U
 | _=>cases y <;> exact absurd (show false=true from b) Z0U
def yL:Yl X (compareOp .NotEq) rNe:=by
 intro pins s σ H x y v u Q I c a h;obtain⟨b,q⟩:=h;cases x with
 | Zc =>
   cases c;cases y with
   | Zc=>cases a;exact PySem.EqNone.ne_none_none (zR I q 05)
   | bl j=>cases a;exact PySem.EqNone.ne_none_bool (zR I q 05)
   | int j=>obtain⟨t',rfl⟩:=a;exact PySem.EqNone.ne_none_int (zR I q 05)
   | str j=>obtain⟨t',rfl⟩:=a;exact PySem.EqNone.ne_none_str (zR I q 05)
   | _=>exact absurd (show false=true from b) Z0U
 | bl i =>
   cases c;cases y with
   | Zc=>cases a;exact PySem.EqNone.ne_bool_none (zR I q 05)
   | bl j=>cases a;exact ne_bool (zR I q (congrArg not z6n))
   | str j=>obtain⟨t',rfl⟩:=a;exact PySem.EqMixed.ne_bool_str (zR I q 05)
   | _=>exact absurd (show false=true from b) Z0U
 | int i =>
   obtain⟨t,rfl⟩:=c;cases y with
   | Zc=>cases a;exact PySem.EqNone.ne_int_none (zR I q 05)
   | int j=>obtain⟨t',rfl⟩:=a;exact ne_int (zR I q (congrArg not z3C))
   | str j=>obtain⟨t',rfl⟩:=a;exact PySem.EqMixed.ne_int_str (zR I q 05)
   | _=>exact absurd (show false=true from b) Z0U
 | str i =>
   obtain⟨t,rfl⟩:=c;cases y with
   | Zc=>cases a;exact PySem.EqNone.ne_str_none (zR I q 05)
   | bl j=>cases a;exact PySem.EqMixed.ne_str_bool (zR I q 05)
   | int j=>obtain⟨t',rfl⟩:=a;exact PySem.EqMixed.ne_str_int (zR I q 05)
   | str j=>obtain⟨t',rfl⟩:=a;exact ne_str (zR I q (congrArg not z3L))
   | _=>exact absurd (show false=true from b) Z0U
 | byt i =>
   obtain⟨t,rfl⟩:=c;cases y with
   | byt j=>obtain⟨t',rfl⟩:=a;exact PySem.W.ne_bytes (zR I q (congrArg not z4f))
   | _=>exact absurd (show false=true from b) Z0U
 | _=>cases y <;> exact absurd (show false=true from b) Z0U
def Xy:Yl X (compareOp .Lt) (rI0 λi j=>.bl (decide (i<j))):=z9H λ_ _ _ _ _ _ _ q=>lt_int q
def uV:Yl X (compareOp .LtE) (rI0 λi j=>.bl (decide (i<=j))):=z9H λ_ _ _ _ _ _ _ q=>le_int q
def Z1v:Yl X (compareOp .Gt) (rI0 λi j=>.bl (decide (j<i))):=z9H λ_ _ _ _ _ _ _ q=>gt_int q
def Uh:Yl X (compareOp .GtE) (rI0 λi j=>.bl (decide (j<=i))):=z9H λ_ _ _ _ _ _ _ q=>ge_int q
def UY:Yl X (compareOp .In) (λx y H Q=>∃ i j,x=.str i/\y=.str j/\Q (.bl (!(Builtin.Str.occurrences j i 0 j.length 1).isEmpty)) H):=by
 intro pins s σ H x y v u Q I a b h;obtain⟨i,j,rfl,rfl,q⟩:=h;obtain⟨t,rfl⟩:=a;obtain⟨t',rfl⟩:=b;exact in_str (zR I q rfl)
def z7y:Yl X (compareOp .Is) (λx y H Q=>y=.Zc/\Q (.bl (decide (x=.Zc))) H):=by
 intro pins s σ H x y v u Q I a b h;obtain⟨rfl,q⟩:=h;cases b;refine is_none_gen (zR I q ?_);cases x <;> first
  | (cases a;rfl)
  | (obtain⟨t,rfl⟩:=a;rfl)
def yj(b:Expr)(h:op≠.In:=by decide)(a:op≠.NotIn:=by decide):behindInMarks op b=false:=by
 have d:(op == CmpOp.In)=false:=by cases op <;> first | rfl | exact absurd rfl h
 have c:(op == CmpOp.NotIn)=false:=by cases op <;> first | rfl | exact absurd rfl a
 cases b <;> simp[behindInMarks,d,c]
def Z0k{pos:Pos}(c:Yl X (compareOp op) r)(ha:PE X a ta)(i:PE X b tb)(hm:behindInMarks op b=false):PE X (.Compare a [op] [b] pos) (tOp r ta tb):=by
 intro pins s σ H Q I h;exact wpAny_Compare1 (Z3h ha i I h λv u s2 x y H2 I2 d f q=>c pins s2 σ H2 x y v u Q I2 d f q) hm
noncomputable def z3J(t:TE):TT:=λσ H Q=>t σ H λx H'=>∃ k,x=.bl k/\Q k H'
def ZV{pos:Pos}(f:Yl X (compareOp op) r)(ha:PE X a ta)(j:PE X b tb)(hm:behindInMarks op b=false):PT X (.Compare a [op] [b] pos) (z3J (tOp r ta tb)):=by
 intro pins s σ H Q I h;refine wpAny_isTrue_Compare1 (z8 (ha pins s σ H _ I h) λv s1 ⟨x,H1,I1,d,q1⟩=>z8 (j pins s1 σ H1 _ I1 q1) λu s2 ⟨y,H2,I2,i,q2⟩ =>
  z8 (f pins s2 σ H2 x y v u _ I2 d i q2) λc s3 ⟨z,H3,I3,l,k,e,q3⟩=>?_) hm
 subst e;cases l;exact wpAny_truthy_bool ⟨H3,I3,q3⟩
noncomputable def z7F(r a:R2)(b tb d:TE):TE:=λσ H Q=>b σ H λx H1=>tb σ H1 λy H2=>r x y H2 λz H3=>∃ k,z=.bl k/\
 (if k=true then d σ H3 λc H4=>a y c H4 Q else Q (.bl false) H3)
def qu{pos:Pos}(l:Yl X (compareOp op) r)(f:Yl X (compareOp op') r')(ha:PE X a ta)(o:PE X b tb)(n:PE X c tc)(hm:lastMarks [op,op'] [b,c]=false:=by with_unfolding_all rfl):PE X (.Compare a [op,op'] [b,c] pos) (z7F r r' ta tb tc):=by
 intro pins s σ H Q I h;refine Compare_chain (z8 (ha pins s σ H _ I h) λv s1 ⟨x,H1,I1,j,q1⟩=>chain_link (z8 (o pins s1 σ H1 _ I1 q1) λu s2 ⟨y,H2,I2,i,q2⟩ =>
  z8 (l pins s2 σ H2 x y v u _ I2 j i q2) λd s3 ⟨z,H3,I3,p,k,e,q3⟩=>?_)) hm
 subst e;cases p;refine wpAny_truthy_bool ?_;cases k with
 | false=>exact ite_ff ⟨.bl false,H3,I3,rfl,q3⟩
 | true=>exact ite_tt (chain_last (z8 (n pins s3 σ H3 _ I3 q3) λt s4 ⟨m,H4,I4,q,q4⟩=>f pins s4 σ H4 y m u t Q I4 i q q4))
def z7j{pos:Pos}(m:Yl X (compareOp op) r)(f:Yl X (compareOp op') r')(ha:PE X a ta)(q:PE X b tb)(o:PE X c tc)(hm:lastMarks [op,op'] [b,c]=false:=by with_unfolding_all rfl):PT X (.Compare a [op,op'] [b,c] pos) (z3J (z7F r r' ta tb tc)):=by
 intro pins s σ H Q I h;refine isTrue_chain (z8 (ha pins s σ H _ I h) λv s1 ⟨x,H1,I1,j,q1⟩=>test_link (z8 (q pins s1 σ H1 _ I1 q1) λu s2 ⟨y,H2,I2,i,q2⟩ =>
  z8 (m pins s2 σ H2 x y v u _ I2 j i q2) λd s3 ⟨z,H3,I3,t,k,e,q3⟩=>?_)) hm
 subst e;cases t;refine wpAny_truthy_bool ?_;cases k with
 | false =>
   obtain⟨D,A,p⟩:=q3;cases A;exact ite_ff ⟨H3,I3,p⟩
 | true =>
   refine ite_tt (test_last (z8 (o pins s3 σ H3 _ I3 q3) λB s4 ⟨n,H4,I4,w,q4⟩=>z8 (f pins s4 σ H4 y n u B _ I4 i w q4) λd' s5 zq=>?_));obtain⟨E,H5,I5,C,k2,l,q5⟩:=zq;subst l;cases C;exact wpAny_truthy_bool ⟨H5,I5,q5⟩
noncomputable def Z2z(K:FR)(x:V)(H:Hp)(k:Bool):Prop :=
 match x with
 | .Zc=>k=false
 | .bl b=>k=b
 | .int i=>k=(i != 0)
 | .str y=>y.length<=sizeLine/\k=((y.length:Int) != 0)
 | .byt y=>y.size<=sizeLine/\k=((y.size:Int) != 0)
 | .ref p=>(∃ xs,zJ K H p xs/\k=!xs.isEmpty)\/(∃ xs,zO K H p xs/\k=!xs.isEmpty)\/∃ kvs,H p=some (.dK kvs)/\k=!kvs.isEmpty
 | _=>False
def z1J{κ:Type}{kvs:List (κ×V)}{vs:List (κ×Value)}(r:KV kvs vs):(!vs.isEmpty)=!kvs.isEmpty:=by
 cases r <;> rfl
def Um(r:Vals xs its):(!its.toArray.isEmpty)=!xs.isEmpty:=by
 cases r <;> simp
def qh:(sizeLine:Nat)<2 ^ 63:=by rw[sizeLine_eq];decide
def Z2v:Z6t X (λx H Q=>∃ k,Z2z X.K x H k/\Q k H):=by
 intro pins s σ H x v Q I c h;obtain⟨k,e,q⟩:=h;have hl:=qh;have l:sizeLine=16777216:=sizeLine_eq;cases x with
 | Zc =>
   cases c;have a:k=false:=e;subst a;exact truthy_none ⟨H,I,q⟩
 | bl b =>
   cases c;have a:k=b:=e;subst a;exact wpAny_truthy_bool ⟨H,I,q⟩
 | int i =>
   obtain⟨t,rfl⟩:=c;have a:k=(i != 0):=e;subst a;exact PySem.P.truthy_int ⟨H,I,q⟩
 | str y =>
   obtain⟨t,rfl⟩:=c;obtain⟨f,a⟩:y.length<=sizeLine/\k=((y.length:Int) != 0):=e;subst a;exact PySem.P.truthy_str 00 ⟨H,I.tok _,q⟩
 | byt y =>
   obtain⟨t,rfl⟩:=c;obtain⟨f,a⟩:y.size<=sizeLine/\k=((y.size:Int) != 0):=e;subst a;exact PySem.W.truthy_bytes 00 ⟨H,I.tok _,q⟩
 | ref p =>
   cases c;have a:(∃ xs,zJ X.K H p xs/\k=!xs.isEmpty)\/(∃ xs,zO X.K H p xs/\k=!xs.isEmpty)\/∃ kvs,H p=some (.dK kvs)/\k=!kvs.isEmpty:=e;rcases a with⟨xs,hx,a⟩|⟨xs,hx,a⟩|⟨kvs,hx,a⟩;subst a;obtain⟨its,r,pl,d⟩:=I.list hx;have hlen:=r.length;exact wpAny_truthy_list pl.isList (by simp only[Z05];lia) ⟨H,I.tok _,by rw[Um r];exact q⟩;subst a;obtain⟨its,r,pl,d⟩:=I.tuple hx;have hlen:=r.length;exact truthy_tuple pl (by simp only[Z05];lia) ⟨H,I.tok _,by rw[Um r];exact q⟩;subst a;obtain⟨d,j,vs,r,m⟩:kvs.length<=sizeLine/\(p == sysModules)=false/\∃ vs,KV kvs vs/\s.heap.DictOf (jX X.prog X.w) p vs:=I.hok p _ hx;have hlen:kvs.length=vs.length:=Paired.length r;exact wpAny_truthy_dict j m 00 ⟨H,I.tok _,by rw[z1J r];exact q⟩
 | _=>exact (show False from e).elim
def z6Q(ha:PE X a ta)(he:∀ whole,isTrue a X.env whole=(do let v ←whole;standAt a.pos;holding [v] (truthy v))) :
 PT X a (λσ H Q=>ta σ H λx H'=>∃ k,Z2z X.K x H' k/\Q k H'):=by
 intro pins s σ H Q I h;exact isTrue_plain (z8 (ha pins s σ H _ I h) λv s1 ⟨x,H1,I1,b,q1⟩=>Z2v pins s1 σ H1 x v Q I1 b q1) (he _)
def zW:Yl X (binaryOp .Add) (λx y H Q=>∃ i j,x=.str i/\y=.str j/\i.length+j.length<=sizeLine/\Q (.str (i ++ j)) H):=by
 intro pins s σ H x y v u Q I a b h;obtain⟨i,j,rfl,rfl,c,q⟩:=h;obtain⟨t,rfl⟩:=a;obtain⟨t',rfl⟩:=b;exact add_str (λt' d=>⟨.str (i ++ j),H,I.tok _,⟨_,rfl⟩,q⟩) c
def vals1{x:V}(r:Vals [x] us):∃ u,us=[u]/\RelV x u:=by
 cases r with
 | cons r1 r2=>cases r2;exact⟨_,rfl,r1⟩
def vals2{x:V}(r:Vals [x,y] us):∃ u a,us=[u,a]/\RelV x u/\RelV y a:=by
 cases r with
 | cons r1 r2 =>
   cases r2 with
   | cons r3 r4=>cases r4;exact⟨_,_,rfl,r1,r3⟩
def VT:Zw X (.builtin "abs") (λxs H Q=>∃ i,xs=[.int i]/\Q (.int (if i<0 then -i else i)) H):=by
 intro pins s σ H xs us Q I r h;obtain⟨i,rfl,q⟩:=h;obtain⟨u,rfl,t,rfl⟩:=vals1 r;exact call_abs_int λu a=>⟨.int (if i<0 then -i else i),H,I.tok _,⟨_,rfl⟩,q⟩
def ju(a:X.calm=true):Zw X (.builtin "max") (λxs H Q=>∃ i j,xs=[.int i,.int j]/\Q (.int (if j > i then j else i)) H):=by
 intro pins s σ H xs us Q I r h;obtain⟨i,j,rfl,q⟩:=h;obtain⟨u,c,rfl,⟨t,rfl⟩,⟨t',rfl⟩⟩:=vals2 r;refine max_two_ints (I.ok.hd a) λh' b k=>⟨_,H,I.kept k,?_,q⟩;by_cases hj:j > i;rw[if_pos hj,if_pos hj];exact⟨_,rfl⟩;rw[if_neg hj,if_neg hj];exact⟨_,rfl⟩
def z5J(a:X.calm=true):Zw X (.builtin "min") (λxs H Q=>∃ i j,xs=[.int i,.int j]/\Q (.int (if j<i then j else i)) H):=by
 intro pins s σ H xs us Q I r h;obtain⟨i,j,rfl,q⟩:=h;obtain⟨u,c,rfl,⟨t,rfl⟩,⟨t',rfl⟩⟩:=vals2 r;refine min_two_ints (I.ok.hd a) λh' b k=>⟨_,H,I.kept k,?_,q⟩;by_cases hj:j<i;rw[if_pos hj,if_pos hj];exact⟨_,rfl⟩;rw[if_neg hj,if_neg hj];exact⟨_,rfl⟩
def z5w:Zw X (.type "int") (λxs H Q=>(∃ i,xs=[.int i]/\Q (.int i) H)\/∃ k,xs=[.bl k]/\Q (.int (if k then 1 else 0)) H):=by
 intro pins s σ H xs us Q I r h;rcases h with⟨i,rfl,q⟩|⟨k,rfl,q⟩;obtain⟨u,rfl,t,rfl⟩:=vals1 r;exact call_int_int ⟨.int i,H,I,⟨_,rfl⟩,q⟩;obtain⟨u,rfl,a⟩:=vals1 r;cases a;exact call_int_bool ⟨.int (if k then 1 else 0),H,I.tok _,⟨_,rfl⟩,q⟩
def yc:Zw X (.type "str") (λxs H Q=>∃ i,xs=[.int i]/\i.natAbs.log2<1920/\Q (.str (toString i)) H):=by
 intro pins s σ H xs us Q I r h;obtain⟨i,rfl,a,q⟩:=h;obtain⟨u,rfl,t,rfl⟩:=vals1 r;exact PySem.P.str_of_int a ⟨.str _,H,I.tok _,⟨_,rfl⟩,q⟩
structure z3g(h:Heap)(x dx C:Addr)(mA:SV):Prop where
 obj:h.get? x=some (PySem.W.instObj C dx)
 ns:h.Ns1 dx mA
 ne:dx≠x
def z4W{h:Heap}{dx:Addr}{mA:SV}(n:h.Ns1 dx mA):∃ od,h.get? dx=some od/\∀ name,PySem.W.lookIn name od=some (mA name):=by
 obtain⟨o,c,k,i,hd,j,_,hm⟩:=n;refine⟨o,i,λname=>?_⟩;have e:=hm name;unfold nsFind findBy at e;rw[← Array.find?_toList] at e;unfold PySem.W.lookIn;rw[hd];dsimp only;split;rename_i y q;rw[q] at e;exact congrArg some e;rename_i q;rw[q] at e;have a:c.toList.any (·.refKey)=false:=by
  rw[List.any_eq_false];intro y d;obtain⟨z,t,b⟩:=j y (Array.mem_toList_iff.mp d);simp[DictEntry.refKey,b]
 have f:¬ c.toList.any (·.refKey)=true:=by rw[a];exact Z0U
 rw[if_neg f];exact congrArg some e
def z3g.look{x:Addr}(I:z3g h x dx C mA):∃ od,PySem.W.InstAt h x (PySem.W.instObj C dx) C (some od)/\∀ name,PySem.W.lookIn name od=some (mA name) :=
 let ⟨od,ho,hl⟩:=z4W I.ns
 ⟨od,⟨I.obj,rfl,rfl,ho⟩,hl⟩
def get_map{x:Addr}(X:K.In s.heap)(I:z3g s.heap x dx C mA)(d:PySem.W.plainGet K C name=true)(c:PySem.W.hasDictIn K C=true)(ha:PySem.W.findIn K 035 name=some none)(b:mA name=some v)(a:PySem.W.handedIn v=true)(h:Q v { s with toks:=s.toks+1 }) :
 wpAny 07 A (getAttr (.ref x) name expr) Q E s:=by
 obtain⟨od,J,hl⟩:=I.look;exact PySem.W.get_value X J (PySem.W.plainGet_of d).1 (PySem.W.findObj_own c ha rfl (by rw[hl,b])) a h
def z8D{x:Addr}(X:K.In s.heap)(I:z3g s.heap x dx C mA)(a:PySem.W.plainGet K C name=true)(hf:PySem.W.findIn K 035 name=some (some (.ref f)))(c:PySem.W.isFn K (.ref f)=true)(b:mA name=none)(h:Q (.ref f,[.ref x]) s) :
 wpAny 07 A (getMethod (.ref x) name pl) Q E s:=by
 obtain⟨od,J,hl⟩:=I.look;exact PySem.W.method_fn X J (PySem.W.plainGet_of a).1 (PySem.W.plainGet_of a).2 hf (beq_iff_eq.mp c) (by show (PySem.W.lookIn name od).map (·.isSome)=some false;rw[hl,b];rfl) h
def z8X{x:Addr}{ns:List Str}(X:K.In s.heap)(I:z3g s.heap x dx C mA)(p:PySem.W.findIn K 035 "__setattr__"=some (some (.builtin "object.__setattr__")))(o:PySem.W.plainOver K C=true)(l:PySem.W.takerIn K C name=some none)(m:PySem.W.hasDictIn K C=true)(hw:PySem.Within mA ns)(t:ns.length<=sizeLine)(h:∀ h',z3g h' x dx C (λy=>if y=name then some v else mA y)->Heap.SameBut dx s.heap h'->Q () { s with heap:=h',toks:=s.toks+2 }) :
 wpAny 07 A (setAttr (.ref x) name v) Q E s:=by
 obtain⟨od,J,hl⟩:=I.look;refine PySem.W.set_plain X J p (PySem.W.osa_open (s:={ s with toks:=s.toks+1 }) (r:=none) X J o l λb=>?_);obtain⟨cd,q,f⟩:=PySem.W.any_some m;have z:s.heap.get? x=some ⟨.ref C,some dx,.plain,#[]⟩:=I.obj;refine wpAny_bind (wpAny_pure (wpAny_bind (wpAny_bind (wpAny_loadPart z (wpAny_bind (PySem.W.Looks.here (s:={ s with toks:=s.toks+1 }) (PySem.W.looks_clsIn X q) ?_))))));rw[f];refine wpAny_pure (a:=some dx) (wpAny_bind (wpAny_pure (wpAny_bind ?_)));refine wpAny_nsSet1 (s:={ s with toks:=s.toks+1 }) I.ns λh' d c=>?_;obtain⟨B,n,u,i,j,k⟩:=d.count (PySem.Within.cons name v hw);refine wpAny_bind (wpAny_lookBehind i (by rw[j];exact pastItsLine_dict (Z0X k (by rw[Z09];lia))) ?_);exact wpAny_pure (h _ ⟨(c.2 _ (Z3O I.ne)).trans I.obj,d,I.ne⟩ c)
def z6T(X:K.In s.heap)(hm:PySem.W.makesIn K C=true)(hi:PySem.W.findIn K 035 "__init__"=some (some (.ref f)))(hf:PySem.W.typeIn K (.ref f)=some (.type "function"))(h:codeAny 07 (A.under (.builtin "type.__call__" ⟨.ref C :: vs,kw⟩)) (.call (.ref f) ⟨.ref 020 :: vs,kw⟩) (PySem.W.InitBack 020 R)
  { s with heap:=(s.heap.push PySem.W.emptyDict).push (PySem.W.instObj C s.heap.objs.size) }) :
 codeAny 07 A (.call 035 ⟨vs,kw⟩) R s:=by
 obtain⟨a,g,d,t,os⟩:=s;exact PySem.W.make_core (PySem.W.makes_of X hm) (PySem.W.looks_findIn X hi) (λself=>PySem.W.bind_fn X self hf) (.inl rfl) h
noncomputable def Z0(f:Str)(v:V):List (Str×V)->List (Str×V)
 | []=>[(f,v)]
 | (g,x) :: r=>if g=f then (g,v) :: r else (g,x) :: Z0 f v r
def zT(f g:Str)(v:V):∀ fs:List (Str×V),(Z0 f v fs).lookup g=if g=f then some v else fs.lookup g
 | []=>by
   show List.lookup g [(f,v)]=_;by_cases h:g=f;have a:(g == f)=true:=beq_iff_eq.mpr h;simp only[List.lookup,a,if_pos h];have a:(g == f)=false:=beq_eq_false_iff_ne.mpr h;simp only[List.lookup,a,if_neg h]
 | (k,x) :: r=>by
   have b:=zT f g v r;rw[show Z0 f v ((k,x) :: r)=(if k=f then (k,v) :: r else (k,x) :: Z0 f v r) from rfl];by_cases hk:k=f;rw[if_pos hk];by_cases h:g=k;have a:(g == k)=true:=beq_iff_eq.mpr h;simp only[List.lookup,a,if_pos (h.trans hk)];have a:(g == k)=false:=beq_eq_false_iff_ne.mpr h;simp only[List.lookup,a,if_neg (λe:g=f=>h (e.trans hk.symm))];rw[if_neg hk];by_cases h:g=k;have a:(g == k)=true:=beq_iff_eq.mpr h;simp only[List.lookup,a,if_neg (λe:g=f=>hk (h.symm.trans e))];have a:(g == k)=false:=beq_eq_false_iff_ne.mpr h;simp only[List.lookup,a];exact b
def vg(f:Str)(v:V):∀ fs:List (Str×V),f∈(Z0 f v fs).map (·.1)/\∀ g,g∈fs.map (·.1)->g∈(Z0 f v fs).map (·.1)
 | []=>⟨by simp[Z0],λg h=>by simp at h⟩
 | (k,x) :: r=>by
   obtain⟨i1,i2⟩:=vg f v r;rw[show Z0 f v ((k,x) :: r)=(if k=f then (k,v) :: r else (k,x) :: Z0 f v r) from rfl];by_cases hk:k=f;rw[if_pos hk];subst hk;exact⟨05,λg h=>by simpa using h⟩;rw[if_neg hk];refine⟨?_,λg h=>?_⟩;rw[Z1Y];exact Z03 _ i1;rw[Z1Y] at h ⊢;rcases Z08.mp h with e | e;exact Z08.mpr (.inl e);exact Z03 _ (i2 g e)
def vV(f:Str)(v:V):∀ fs:List (Str×V),(Z0 f v fs).length<=fs.length+1
 | []=>by simp[Z0]
 | (k,x) :: r=>by
   have a:=vV f v r;rw[show Z0 f v ((k,x) :: r)=(if k=f then (k,v) :: r else (k,x) :: Z0 f v r) from rfl];by_cases hk:k=f;rw[if_pos hk,Z09,Z09];lia;rw[if_neg hk,Z09,Z09];lia
def UH.some_of(r:UH (some v) o):∃ u,o=some u/\RelV v u:=by
 cases o with
 | none=>exact (show False from r).elim
 | some u=>exact⟨u,rfl,r⟩
def UH.none_of(r:UH none o):o=none:=by
 cases o with
 | none=>rfl
 | some u=>exact (show False from r).elim
def z5s(r:RelV v u):PySem.W.handedIn u=true:=by
 cases v with
 | Zc=>cases (show u=Value.none from r);rfl
 | bl b=>cases (show u=Value.bool b from r);rfl
 | int i=>obtain⟨t,e⟩:=(show ∃ t,u=Value.int i t from r);cases e;rfl
 | str x=>obtain⟨t,e⟩:=(show ∃ t,u=Value.str x t from r);cases e;rfl
 | byt b=>obtain⟨t,e⟩:=(show ∃ t,u=Value.bytes b t from r);cases e;rfl
 | flt b=>obtain⟨t,e⟩:=(show ∃ t,u=Value.float b t from r);cases e;rfl
 | ref a=>cases (show u=Value.ref a from r);rfl
 | ty n=>cases (show u=Value.type n from r);rfl
def Vu{fs:List (Str×V)}(hok:Xx P w H h)(e:H a=some (.ins C dx fs)):∃ mA,z3g h a dx C mA/\(∀ f,UH (fs.lookup f) (mA f))/\PySem.Within mA (fs.map (·.1))/\fs.length<=1000/\H dx=some (.own a):=by
 obtain⟨d,z,ne,ob,mA,n,r,q⟩:=(show Zl P w H h a (.ins C dx fs) from hok a _ e);exact⟨mA,⟨ob,n,ne⟩,r,q,z,d⟩
structure JY(K:FR)(C:Addr):Prop where
 pg:PySem.W.plainGet K C Str.empty=true
 hd:PySem.W.hasDictIn K C=true
 po:PySem.W.plainOver K C=true
 sa:PySem.W.findIn K 035 "__setattr__"=some (some (.builtin "object.__setattr__"))
def JY.get(c:JY K C)(f:Str):PySem.W.plainGet K C f=true:=c.pg
noncomputable def Yn(K:FR)(C:Addr)(f:Str):Prop:=PySem.W.findIn K 035 f=some none
def Yn.Z5v(n:Yn K C f):PySem.W.takerIn K C f=some none:=by
 unfold PySem.W.takerIn;rw[show PySem.W.findIn K 035 f=some none from n];rfl
structure Meth(K:FR)(C:Addr)(m:Str)(f:Addr):Prop where
 at_:PySem.W.findIn K 035 m=some (some (.ref f))
 fn:PySem.W.isFn K (.ref f)=true
 kp:PySem.W.keepIn K (.ref f)=true
def z1O{X:Cx}{σ:St}{fs:List (Str×V)}(I:Inv X pins σ H s)(e:H a=some (.ins C dx fs))(c:JY X.K C)(n:Yn X.K C f)(l:fs.lookup f=some v)(h:∀ u s',Inv X pins σ H s'->RelV v u->Q u s'):wpAny 06 A (getAttr 024 f b) Q E s:=by
 obtain⟨mA,O,r,_,_,_⟩:=Vu I.hok e;obtain⟨u,i,d⟩:=UH.some_of (v:=v) (o:=mA f) (by rw[← l];exact r f);exact get_map I.YY O (c.get f) c.hd n i (z5s d) (h u _ (I.tok _) d)
def XF{X:Cx}{σ:St}{fs:List (Str×V)}{g:Addr}(I:Inv X pins σ H s)(e:H a=some (.ins C dx fs))(c:JY X.K C)(k:Meth X.K C m g)(l:fs.lookup m=none)(h:Q (.ref g,[.ref a]) s):wpAny 06 A (getMethod 024 m pl) Q E s:=by
 obtain⟨mA,O,r,_,_,_⟩:=Vu I.hok e;have hn:mA m=none:=UH.none_of (by rw[← l];exact r m);exact z8D I.YY O (c.get m) k.at_ k.fn hn h
def z2j{X:Cx}{σ:St}{fs:List (Str×V)}(I:Inv X pins σ H s)(e:H a=some (.ins C dx fs))(c:JY X.K C)(n:Yn X.K C f)(hl:fs.length<1000)(l:RelV y u)(h:∀ s',Inv X pins σ (upd H a (.ins C dx (Z0 f y fs))) s'->Q () s'):wpAny 06 A (setAttr 024 f u) Q E s:=by
 obtain⟨mA,O,r,i,_,d⟩:=Vu I.hok e;have m:(fs.map (·.1)).length<=sizeLine:=by rw[Z00,sizeLine_eq];lia
 refine z8X I.YY O c.sa c.po n.Z5v c.hd i m λh' O' sb=>h _ ?_;have hd:∃ o,h'.get? dx=some o:=let ⟨o,_,_,e',_⟩:=O'.ns;⟨o,e'⟩;refine I.write (x:=a) (e:=dx) (by rw[e];exact True.intro) (.inr d) (λb q k z=>(sb.2 b k).trans z) hd ?_;refine⟨by rw[zC O.ne];exact d,?_,O.ne,O'.obj,_,O'.ns,λg=>?_,λg j=>?_⟩;have:=vV f y fs;lia;show UH ((Z0 f y fs).lookup g) (if g=f then some u else mA g);rw[zT];by_cases q:g=f;rw[if_pos q,if_pos q];exact l;rw[if_neg q,if_neg q];exact r g;by_cases q:g=f;rw[q];exact (vg f y fs).1;refine (vg f y fs).2 g (i g λz=>j ?_);show (if g=f then some u else mA g)=none;rw[if_neg q];exact z
def Inv.made{σ:St}(I:Inv X pins σ H s):Inv X pins σ (upd (upd H s.heap.objs.size (.own 020)) 020 (.ins C s.heap.objs.size []))
 { s with heap:=(s.heap.push PySem.W.emptyDict).push (PySem.W.instObj C s.heap.objs.size) }:=by
 have c:(s.heap.push PySem.W.emptyDict).get? s.heap.objs.size=some PySem.W.emptyDict:=Z10 s.heap rfl;have f:((s.heap.push PySem.W.emptyDict).push (PySem.W.instObj C s.heap.objs.size)).get? 020=some (PySem.W.instObj C s.heap.objs.size):=by
  have:=Z10 (s.heap.push PySem.W.emptyDict) (o:=PySem.W.instObj C s.heap.objs.size) rfl;rwa [Z4L] at this
 have h:(s.heap.push PySem.W.emptyDict).Ns s.heap.objs.size (λ_=>none):=⟨PySem.W.emptyDict,#[],_,c,rfl,(λe he=>absurd he 05),λ_=>rfl⟩;have I1:=I.laid (a:=s.heap.objs.size) (o:=.own 020) (h':=s.heap.push PySem.W.emptyDict) (t':=s.toks) (λb u q=>ZB _ q) (Z01 _) ⟨_,c⟩;refine I1.laid (a:=s.heap.objs.size+1) (o:=.ins C s.heap.objs.size []) (t':=s.toks) (λb u q=>ZB _ q) (Nat.le_of_eq (Z4L _ _)) ?_;have ne:s.heap.objs.size≠s.heap.objs.size+1:=Z13 (Nat.lt_succ_self _);refine⟨by rw[zC ne,zq],Z19 _,ne,f,λ_=>none,(Heap.Ns1.of_empty h).at λo q=>ZB _ q,λ_=>True.intro,λy d=>absurd rfl d⟩
def Z0z{e:Expr}{pos:Pos}(a:attributeBase e f env (eval e env)=eval e env)(h:wpAny 07 A (eval e env) (λo s₁=>wpAny 07 A (getAttr o f true) Q E s₁) E s):wpAny 07 A (eval (.Attribute e f pos) env) Q E s :=
 Attribute_any_ h (by rw[arm_eval_Attribute,a])
noncomputable def Z3V(K:FR)(b:TE)(f:Str):TE:=λσ H Q=>b σ H λx H1=>∃ a C dx fs v,x=.ref a/\H1 a=some (.ins C dx fs)/\JY K C/\Yn K C f/\fs.lookup f=some v/\Q v H1
noncomputable def Z4g(K:FR)(b c:TE)(f:Str):TS:=λD σ H=>c σ H λy H1=>b σ H1 λx H2=>∃ a C dx fs,x=.ref a/\H2 a=some (.ins C dx fs)/\JY K C/\Yn K C f/\fs.length<1000/\
 D.nx σ (upd H2 a (.ins C dx (Z0 f y fs)))
def X5{e:Expr}{pos:Pos}(he:PE X e ta)(j:attributeBase e f X.env (eval e X.env)=eval e X.env):PE X (.Attribute e f pos) (Z3V X.K ta f):=by
 intro pins s σ H Q I h;refine Z0z j (z8 (he pins s σ H _ I h) λu s1 zq=>?_);obtain⟨x,H1,I1,d,a,C,dx,fs,v,ex,b,c,n,l,q⟩:=zq;subst ex;obtain rfl:u=Value.ref a:=d;exact z1O I1 b c n l λk s2 I2 i=>⟨v,H1,I2,i,q⟩
def Z2K{pos:Pos}{b:TE}(ha:PE X o ta)(d:PE X value b)(p:swapsWith value (some (.Attribute o f pos')) pos.line X.env=pure false):PS X (.Assign [.Attribute o f pos'] value pos) (Z4g X.K ta b f):=by
 intro pins s σ H D I h;refine plainObj_wpAny_Assign_Attribute (z8 (d pins s σ H _ I h) λu s1 ⟨y,H1,I1,j,q⟩=>z8 (ha pins s1 σ H1 _ I1 q) λk s2 ⟨x,H2,I2,m,a,C,dx,fs,ex,i,c,n,l,q2⟩=>?_) p;subst ex;obtain rfl:k=Value.ref a:=m;exact z2j I2 i c n l j λs3 I3=>⟨σ,_,I3,q2⟩
inductive XI (K:FR) (H:Hp):V->Value->Prop where
 | Zc:XI K H .Zc (.type "NoneType")
 | bl (x:Bool):XI K H (.bl x) (.type "bool")
 | int (i:Int):XI K H (.int i) (.type "int")
 | str (x:Str):XI K H (.str x) (.type "str")
 | flt (x:UInt64):XI K H (.flt x) (.type "float")
 | lst {a:Addr}{xs:List V}(e:H a=some (.lst xs)):XI K H 024 (.type "list")
 | frz {a:Addr}{o:Obj}{xs:List V}(e:H a=some (.frz o (.lst xs))):XI K H 024 (.type "list")
 | tup {a:Addr}{xs:List V}(e:H a=some (.tup xs)):XI K H 024 (.type "tuple")
 | dK {a:Addr}{kvs:List (Key×V)}(e:H a=some (.dK kvs)):XI K H 024 (.type "dict")
 | dT {a:Addr}{kvs:List (List Key×V)}(e:H a=some (.dT kvs)):XI K H 024 (.type "dict")
 | ins {a C dx:Addr}{fs:List (Str×V)}(e:H a=some (.ins C dx fs)) (cl:JY K C) (ha:PySem.W.findIn K 035 "__class__"=some (some (.builtin "object.__class__")))
  (hn:PySem.W.specialIn K (.builtin "object.__class__") "__get__"=some (some (.builtin "getset_descriptor.__get__"))) (htk:PySem.W.takesIn K (.builtin "object.__class__")=some true)
  (hm:PySem.W.mroIn K C (.type "object")=some true):XI K H 024 035
def z4G{X:Cx}{σ:St}{x:V}(I:Inv X pins σ H s)(d:RelV x u)(ty:XI X.K H x t)(e:PySem.W.kitOne X.K t c=some b)(h:∀ k,Q (.bool b) { s with toks:=k }) :
 wpAny 06 A (call (.builtin "isinstance") [u,c]) Q E s:=by
 cases ty with
 | Zc=>cases (show u=Value.none from d);exact Z3J PySem.W.kitx_none I.YY True.intro e (λz=>nomatch z) h
 | bl y=>cases (show u=Value.bool y from d);exact Z3J PySem.W.kitx_bool I.YY True.intro e (λz=>nomatch z) h
 | int i=>obtain⟨t,q⟩:=(show ∃ t,u=Value.int i t from d);cases q;exact Z3J PySem.W.kitx_int I.YY True.intro e (λz=>nomatch z) h
 | str y=>obtain⟨t,q⟩:=(show ∃ t,u=Value.str y t from d);cases q;exact Z3J PySem.W.kitx_str I.YY True.intro e (λz=>nomatch z) h
 | flt y=>obtain⟨t,q⟩:=(show ∃ t,u=Value.float y t from d);cases q;exact Z3J PySem.W.kitx_float I.YY True.intro e (λz=>nomatch z) h
 | @lst a xs ea =>
   cases (show u=Value.ref a from d);obtain⟨_,_,n,_,f⟩:=(show Zl X.prog X.w H s.heap a (.lst xs) from I.hok a _ ea);exact Z3J PySem.W.kitx_list I.YY ⟨_,f,rfl⟩ e (λz=>nomatch z) h
 | @frz a ob xs ea =>
   cases (show u=Value.ref a from d);obtain⟨_,_,_,n,_,f⟩:=(show Zl X.prog X.w H s.heap a (.frz ob (.lst xs)) from I.hok a _ ea);exact Z3J PySem.W.kitx_list I.YY ⟨_,f,rfl⟩ e (λz=>nomatch z) h
 | @tup a xs ea =>
   cases (show u=Value.ref a from d);obtain⟨_,_,_,p⟩:=(show Zl X.prog X.w H s.heap a (.tup xs) from I.hok a _ ea);obtain⟨o,f,j,_⟩:=p.tup;exact Z3J PySem.W.kitx_tuple I.YY ⟨o,f,j⟩ e (λz=>nomatch z) h
 | @dK a kvs ea =>
   cases (show u=Value.ref a from d);obtain⟨_,_,vs,_,p⟩:=(show Zl X.prog X.w H s.heap a (.dK kvs) from I.hok a _ ea);obtain⟨o,l,m,f,j,_⟩:=p;exact Z3J PySem.W.kitx_dict I.YY ⟨o,f,j.1⟩ e (λz=>nomatch z) h
 | @dT a kvs ea =>
   cases (show u=Value.ref a from d);obtain⟨_,_,xs,_,o,l,m,f,j,_⟩:=(show Zl X.prog X.w H s.heap a (.dT kvs) from I.hok a _ ea);exact Z3J PySem.W.kitx_dict I.YY ⟨o,f,j.1⟩ e (λz=>nomatch z) h
 | @ins a C dx fs ea cl ha hn htk hm =>
   cases (show u=Value.ref a from d);obtain⟨mA,O,_⟩:=Vu I.hok ea;obtain⟨od,J,_⟩:=O.look;exact Z3J (PySem.W.kitx_own (cl.get _) cl.hd ha hn htk hm) I.YY J e (λz=>nomatch z) h
structure zX(k:Nat)(A:Around):Prop where
 hd:A.handled=none
 dp:A.depth+3 * k+5<recursionLimit
 un:A.units+16 * k+200<cLine
 gd:A.guards=some []
def zX.mono(r:zX k A)(h:j<=k):zX j A:=⟨r.hd,by have:=r.dp;lia,by have:=r.un;lia,r.gd⟩
def zX.deeper(r:zX (k+1) A)(env:Env):zX k (A.deeper env) :=
 ⟨r.hd,by have:=r.dp;show A.depth+1+3 * k+5<_;lia,by have:=r.un;show A.units+3+16 * k+200<_;lia,r.gd⟩
def zX.in1(r:zX (k+1) A):zX k A.in1 :=
 ⟨r.hd,by have:=r.dp;show A.depth+3 * k+5<_;lia,by have:=r.un;show A.units+1+16 * k+200<_;lia,r.gd⟩
def z3e{A:Around}{C:Addr}{us:List Value}{kw:List (Str×Value)}:(A.under (.builtin "type.__call__" ⟨.ref C :: us,kw⟩)).depth=A.depth+1:=by
 first | rfl | simp[Around.under,Code.weight,Code.isCreation,Code.isGuard,Code.isCaller,Code.frames,Code.isFrame,guardIds]
def z2i{A:Around}{C:Addr}{us:List Value}{kw:List (Str×Value)}:(A.under (.builtin "type.__call__" ⟨.ref C :: us,kw⟩)).units=A.units+1:=by
 first | rfl | simp[Around.under,Code.cUnits,Code.frames,Code.isFrame]
def z0J{A:Around}:(A.under (.builtin "type.__call__" ⟨.ref C :: us,kw⟩)).guards=A.guards:=by
 cases h:A.guards <;> first | rfl | simp[Around.under,Code.guards,Code.isGuard,guardIds,pushGuards,h]
def zX.make(r:zX (k+1) A)(C:Addr)(us:List Value)(kw:List (Str×Value)):zX k (A.under (.builtin "type.__call__" ⟨.ref C :: us,kw⟩)) :=
 ⟨r.hd,by have:=r.dp;rw[z3e];lia,by have:=r.un;rw[z2i];lia,by rw[z0J];exact r.gd⟩
def zX.depth(r:zX k A):A.depth<recursionLimit:=by have:=r.dp;lia
def zX.units(r:zX k A):A.units+64<cLine:=by have:=r.un;lia
def zX.Z2N(r:zX k A):A.units<cLine:=by have:=r.un;lia
noncomputable def Qg:TA:=λ_ H Q=>Q [] H
noncomputable def QI(a:TE)(tr:TA):TA:=λσ H Q=>a σ H λx H1=>tr σ H1 λxs H2=>Q (x :: xs) H2
def zw:PA X [] Qg:=λ_ _ _ _ H Q I h=>Calls.spliced_nil ⟨[],H,I,.nil,h⟩
def Y0{e:Expr}(ha:PE X e te)(hr:PA X es t)(c:starEach (e :: es) X.env=016 :: starEach es X.env:=by rfl):PA X (e :: es) (QI te t):=by
 intro pos pins s σ H Q I h;rw[c];show wpAny _ _ (spliced (016 :: backTo pos (starEach es X.env))) _ _ s;refine Calls.spliced_cons (z8 (ha pins s σ H _ I h) λu s1 zq=>?_);obtain⟨x,H1,I1,a,q1⟩:=zq;exact z8 (hr pos pins s1 σ H1 _ I1 q1) λus s2 ⟨xs,H2,I2,b,q2⟩=>⟨x :: xs,H2,I2,.cons a b,q2⟩
noncomputable def Z6B(t:TA):TE:=λσ H Q=>t σ H λxs H1=>xs.length<=sizeLine/\∀ p,H1 p=none->Q (.ref p) (upd H1 p (.tup xs))
def Z2D{pos:Pos}{x1}(h:PA X es t):PE X (.Tuple es x1 pos) (Z6B t):=by
 intro pins s σ H Q I a;refine wpAny_Tuple_spliced (z8 (h pos pins s σ H _ I a) λus s1 ⟨xs,H1,I1,r,z,q⟩=>⟨by rw[← r.length];exact z,?_⟩);have hf:H1 s1.heap.objs.size=none:=I1.hok.fresh (Z01 _);refine⟨.ref s1.heap.objs.size,upd H1 s1.heap.objs.size (.tup xs),I1.laid (t':=s1.toks) (λb u e=>ZB _ e) (Z01 _) ?_,rfl,q _ hf⟩;exact⟨z,us,r,⟨_,Z10 _ rfl,rfl,_,rfl⟩⟩
noncomputable abbrev Sp:=List V->Hp->VK->XK->Prop
noncomputable abbrev qq:=List Env->Hp->Shared->XK->Value->Shared->Prop
structure z1T(P:Program)(w:World)(K:FR)(mg:SV)(base:Heap)(A:Around)(outer:List Env)(s:Shared)(H:Hp):Prop where
 frames:A.frames=some outer
 mod:Mod K mg base
 bs:∀ b o,base.get? b=some o->s.heap.get? b=some o/\H b=none
 bsz:base.objs.size<=s.heap.objs.size
 xo:s.heap.FunFrames base outer
 frf:∀ b∈frs outer,H b=none
 hok:Xx P w H s.heap
 bare:AllBare s.gens
noncomputable def CE(outer:List Env)(P:Program)(w:World)(H:Hp)(s:Shared)(Q:VK)(u:Value)(s':Shared):Prop :=
 ∃ v H',s'.os=s.os/\AllBare s'.gens/\Un (frs outer) [] H H' s.heap s'.heap/\Xx P w H' s'.heap/\RelV v u/\Q v H'
noncomputable def CR(CX:qq)(outer:List Env)(P:Program)(w:World)(H:Hp)(s:Shared)(Q:VK)(E:XK)(r:Result)(s':Shared):Prop :=
 match r with
 | .ok (.ret u)=>CE outer P w H s Q u s'
 | .ok _=>False
 | .error e=>CX outer H s E e s'
structure Zo(P:Program)(w:World)(K:FR)(mg:SV)(base:Heap)(CX:qq)(k:Nat)(f:Addr)(fd:FuncData)(ps:List Str)(sp:Sp):Prop where
 len:∀ vs H Q E,sp vs H Q E->vs.length=ps.length
 run:∀ (A:Around) (outer:List Env) (s:Shared) (H:Hp) (args:Args) (us:List Value) (vs:List V) (Q:VK) (E:XK),zX k A->z1T P w K mg base A outer s H->BindsTo s fd args (ps.zip us)->Vals vs us->sp vs H Q E->
  codeAny (model P w) A (.call (.ref f) args) (CR CX outer P w H s Q E) s
def Zo.mono{mg:SV}{sp:Sp}(F:Zo P w K mg base CX j f fd ps sp)(h:j<=k) :
 Zo P w K mg base CX k f fd ps sp:=⟨F.len,λA outer s H args us vs Q E hr=>F.run A outer s H args us vs Q E (hr.mono h)⟩
def Zo.imp{mg:SV}{sp:Sp}(F:Zo P w K mg base CX k f fd ps sp)(h:∀ vs H Q E,sp' vs H Q E->sp vs H Q E):Zo P w K mg base CX k f fd ps sp' :=
 ⟨λvs H Q E q=>F.len vs H Q E (h _ _ _ _ q),λA outer s H args us vs Q E hr he c a b=>F.run A outer s H args us vs Q E hr he c a (h _ _ _ _ b)⟩
def z1T.make{mg:SV}(e:z1T P w K mg base A outer s H)(C:Addr)(us:List Value)(kw:List (Str×Value)) :
 z1T P w K mg base (A.under (.builtin "type.__call__" ⟨.ref C :: us,kw⟩)) outer s H:=⟨by first | exact e.frames | (simpa[Around.under,Code.envs,Code.isFrame,pushEnvs] using e.frames),e.mod,e.bs,e.bsz,e.xo,e.frf,e.hok,e.bare⟩
def Inv.Z2l{X:Cx}{σ:St}(I:Inv X pins σ H s):z1T X.prog X.w X.K X.mg X.base X.A X.stack s H :=
 ⟨I.ok.frames,I.ok.mod,I.bs,Z0X I.ok.bsz I.sz,I.stack,I.YR,I.hok,I.bare⟩
def Inv.after{X:Cx}{σ:St}(I:Inv X pins σ H s)(h:CE X.stack X.prog X.w H s Q u s'):EP X pins σ Q u s':=by
 obtain⟨v,H',os,bare,un,hok,r,q⟩:=h;obtain⟨c,g,d,t,a⟩:=s';obtain rfl:a=s.os:=os;exact⟨v,H',I.call (h':=c) (g':=g) (d':=d) (t':=t) (ch:=[]) un hok bare (λb z=>absurd z 05),r,q⟩
noncomputable def vO(sp:Sp)(a:List V)(E:XK)(t:TA):TE:=λσ H Q=>t σ H λvs H1=>sp (vs ++ a) H1 Q E
noncomputable def jv(C:Addr)(m:Str)(sp:Sp)(b:List V)(E:XK)(c:TE)(t:TA):TE:=λσ H Q=>c σ H λx H1=>∃ a dx fs,x=.ref a/\H1 a=some (.ins C dx fs)/\fs.lookup m=none/\
 t σ H1 λvs H2=>sp (x :: (vs ++ b)) H2 Q E
noncomputable def z3t(C:Addr)(sp:Sp)(a:List V)(E:XK)(t:TA):TE:=λσ H Q=>t σ H λvs H1=>∀ x dx,H1 x=none->H1 dx=none->dx≠x->
 sp (.ref x :: (vs ++ a)) (upd (upd H1 dx (.own x)) x (.ins C dx [])) (λv H2=>v=.Zc/\Q (.ref x) H2) E
noncomputable def Binds(K:FR)(fd:FuncData)(ps:List Str)(ds:List Value):Prop :=
 ∀ (s:Shared) (us:List Value),K.In s.heap->(us ++ ds).length=ps.length->BindsTo s fd ⟨us,[]⟩ (ps.zip (us ++ ds))
def Binds.all(h:∀ us:List Value,us.length=ps.length->bindArgs fd ⟨us,[]⟩=pure (ps.zip us)):Binds K fd ps []:=λs us _ hl=>by
 rw[Z40] at hl ⊢;exact .of_eq (h us hl)
noncomputable def Passes(CX:qq)(X:Cx)(E:XK):Prop:=∀ (pins:List 013) (σ:St) (H:Hp) (s:Shared) (e:Value) (s':Shared),Inv X pins σ H s->CX X.stack H s E e s'->X.xe e s'
def Ug{X:Cx}{sp:Sp}{σ:St}(F:Zo X.prog X.w X.K X.mg X.base CX k f fd ps sp)(hr:zX k X.A)(c:Binds X.K fd ps ds)(hd:Vals dvs ds)(d:Passes CX X E)(I:Inv X pins σ H s)(r:Vals vs us)(h:sp (vs ++ dvs) H Q E):wpAny 06 X.A (call (.ref f) us) (EP X pins σ Q) X.xe s:=by
 have b:Vals (vs ++ dvs) (us ++ ds):=r.append hd;have hl:(us ++ ds).length=ps.length:=by rw[← b.length];exact F.len _ _ _ _ h
 refine wpAny_call (codeAny_mono (F.run X.A X.stack s H ⟨us,[]⟩ (us ++ ds) (vs ++ dvs) Q E hr I.Z2l (c s us I.YY hl) b h) λr s' a=>?_);cases r with
 | error e=>exact d pins σ H s e s' I a
 | ok fl =>
   cases fl with
   | ret u=>exact I.after a
   | next=>exact False.elim a
   | brk=>exact False.elim a
   | cont=>exact False.elim a
def JA{X:Cx}{CX:qq}{k:Nat}{f:Addr}{fd:FuncData}{ps:List Str}{sp:Sp}{b:List V}{ds:List Value}{E:XK}{x:Str}{p pos:Pos}{e:Expr}{a:List Expr}{t:TA}(F:Zo X.prog X.w X.K X.mg X.base CX k f fd ps sp)(hr:zX k X.A)(l:Gl X x)(hm:X.mg x=some (.ref f))(j:PySem.W.keepIn X.K (.ref f)=true)(i:Binds X.K fd ps ds)(hd:Vals b ds)(m:Passes CX X E)
 (ha:PA X (e :: a) t) (d:(x == ("__debug__":Str))=false:=by decide) (he:starEach (e :: a) X.env=016 :: starEach a X.env:=by rfl) (c:(backTo pos (starEach a X.env)).any (·.1)=false:=by rfl) :
 PE X (.Call (.Name x p) (e :: a) [] pos) (vO sp b E t):=by
 intro pins s σ H Q I h;refine wpAny_Call_Name_kw (yE I l hm ?_ d);refine PySem.W.callWith_K (h₀:=X.base) I.ok.mod.kin j (z8 (ha pos pins s σ H _ I h) λus s1 ⟨vs,H1,I1,r,q⟩=>⟨I1.YY,?_⟩) he c;exact Ug F hr i hd m I1 r q
def z8h{sp:Sp}{x:Str}{pos:Pos}(F:Zo X.prog X.w X.K X.mg X.base CX k f fd ps sp)(hr:zX k X.A)(c:Gl X x)(hm:X.mg x=some (.ref f))(b:PySem.W.keepIn X.K (.ref f)=true)(d:Binds X.K fd ps ds)(hd:Vals dvs ds)(i:Passes CX X E)(a:(x == ("__debug__":Str))=false:=by decide):PE X (.Call (.Name x p) [] [] pos) (vO sp dvs E Qg):=by
 intro pins s σ H Q I h;refine wpAny_Call_Name_kw (yE I c hm ?_ a);exact PySem.W.callWith_K0 I.YY b (Ug (us:=[]) F hr d hd i I .nil h)
def z9g{X:Cx}{CX:qq}{k:Nat}{f C:Addr}{fd:FuncData}{ps:List Str}{sp:Sp}{d:List V}{ds:List Value}{E:XK}{m:Str}{pos apos:Pos}{e o:Expr}{b:List Expr}{n:TE}{t:TA}{pl:Sem Bool}(he:PE X o n)(c:JY X.K C)(hm:Meth X.K C m f)(F:Zo X.prog X.w X.K X.mg X.base CX k f fd ps sp)(hr:zX k X.A)(v:Binds X.K fd ps ds)(hd:Vals d ds)(B:Passes CX X E)(ha:PA X (e :: b) t)
 (j:starEach (e :: b) X.env=016 :: starEach b X.env:=by rfl) (i:(backTo pos (starEach b X.env)).any (·.1)=false:=by rfl)
 (y:eval (.Call (.Attribute o m apos) (e :: b) [] pos) X.env=(do
  let ov ←eval o X.env
  standAt apos.atName
  let (f,first) ←holding [ov] (getMethod ov m pl)
  callWith pos f first (backTo pos (starEach (e :: b) X.env)) (backToKw pos (keywordEach [] X.env))):=by rfl) :
 PE X (.Call (.Attribute o m apos) (e :: b) [] pos) (jv C m sp d E n t):=by
 intro pins s σ H Q I h;refine PySem.W.methodCall_KW (pl:=pl) (z8 (he pins s σ H _ I h) λu s1 ⟨x,H1,I1,z,a,dx,fs,ex,p,l,q⟩=>?_) y;subst ex;obtain rfl:u=Value.ref a:=z;refine XF I1 p c hm l ?_;refine PySem.W.callWith_K (first:=[.ref a]) (h₀:=X.base) I.ok.mod.kin hm.kp (z8 (ha pos pins s1 σ H1 _ I1 q) λus s2 ⟨vs,H2,I2,r,q2⟩=>⟨I2.YY,?_⟩) j i
 exact Ug (us:=.ref a :: us) (vs:=.ref a :: vs) F hr v hd B I2 (.cons rfl r) q2
def z8t{sp:Sp}{pos:Pos}(he:PE X o ta)(c:JY X.K C)(hm:Meth X.K C m f)(F:Zo X.prog X.w X.K X.mg X.base CX k f fd ps sp)(hr:zX k X.A)(j:Binds X.K fd ps ds)(hd:Vals dvs ds)(n:Passes CX X E)(b:eval (.Call (.Attribute o m apos) [] [] pos) X.env=(do
  let ov ←eval o X.env
  standAt apos.atName
  let (f,first) ←holding [ov] (getMethod ov m pl)
  callWith pos f first (backTo pos (starEach [] X.env)) (backToKw pos (keywordEach [] X.env))):=by rfl) :
 PE X (.Call (.Attribute o m apos) [] [] pos) (jv C m sp dvs E ta Qg):=by
 intro pins s σ H Q I h;refine PySem.W.methodCall_KW (pl:=pl) (z8 (he pins s σ H _ I h) λu s1 ⟨x,H1,I1,i,a,dx,fs,ex,d,l,q⟩=>?_) b;subst ex;obtain rfl:u=Value.ref a:=i;refine XF I1 d c hm l ?_;exact PySem.W.callWith_K0 (first:=[.ref a]) I1.YY hm.kp (Ug (us:=[.ref a]) (vs:=[.ref a]) F hr j hd n I1 (.cons rfl .nil) q)
structure Mk(K:FR)(C f:Addr):Prop where
 makes:PySem.W.makesIn K C=true
 init:PySem.W.findIn K 035 "__init__"=some (some (.ref f))
 fn:PySem.W.isFn K (.ref f)=true
 kp:PySem.W.keepIn K 035=true
def z1g{X:Cx}{sp:Sp}{σ:St}(M:Mk X.K C f)(F:Zo X.prog X.w X.K X.mg X.base CX k f fd ps sp)(hr:zX (k+1) X.A)(i:Binds X.K fd ps ds)(hd:Vals dvs ds)(j:Passes CX X E)(I:Inv X pins σ H s)(r:Vals vs us)(h:∀ x dx,H x=none->H dx=none->dx≠x->sp (.ref x :: (vs ++ dvs)) (upd (upd H dx (.own x)) x (.ins C dx [])) (λv H2=>v=.Zc/\Q (.ref x) H2) E) :
 wpAny 06 X.A (call 035 us) (EP X pins σ Q) X.xe s:=by
 have b:=h 020 s.heap.objs.size (I.hok.fresh (Nat.le_succ _)) (I.hok.fresh (Z01 _)) (Z13 (Nat.lt_succ_self _));have I2:=Inv.made (C:=C) I;have c:Vals (V.ref 020 :: (vs ++ dvs)) (Value.ref 020 :: (us ++ ds)):=.cons rfl (r.append hd);have hl:(Value.ref 020 :: us ++ ds).length=ps.length:=by
  have e:=c.length;rw[F.len _ _ _ _ b] at e;exact e.symm
 refine wpAny_call (z6T (f:=f) I.YY M.makes M.init (beq_iff_eq.mp M.fn) (codeAny_mono (F.run _ X.stack _ _ ⟨Value.ref 020 :: us,[]⟩ (Value.ref 020 :: (us ++ ds)) _ _ E (hr.make C us [])
  (I2.Z2l.make C us []) (i _ (Value.ref 020 :: us) I2.YY hl) c b) λr s' a=>?_))
 cases r with
 | error e=>exact j pins σ _ _ e s' I2 a
 | ok fl =>
   cases fl with
   | ret u =>
     obtain⟨v,H',I3,d,ev,q3⟩:=I2.after a;subst ev;exact⟨d,⟨V.ref 020,H',I3,rfl,q3⟩⟩
   | next=>exact False.elim a
   | brk=>exact False.elim a
   | cont=>exact False.elim a
def z9N{X:Cx}{CX:qq}{k:Nat}{f C:Addr}{fd:FuncData}{ps:List Str}{sp:Sp}{b:List V}{ds:List Value}{E:XK}{x:Str}{p pos:Pos}{e:Expr}{a:List Expr}{t:TA}(M:Mk X.K C f)(F:Zo X.prog X.w X.K X.mg X.base CX k f fd ps sp)(hr:zX (k+1) X.A)(j:Gl X x)(hm:X.mg x=some 035)(i:Binds X.K fd ps ds)(hd:Vals b ds)(l:Passes CX X E)
 (ha:PA X (e :: a) t) (d:(x == ("__debug__":Str))=false:=by decide) (he:starEach (e :: a) X.env=016 :: starEach a X.env:=by rfl) (c:(backTo pos (starEach a X.env)).any (·.1)=false:=by rfl) :
 PE X (.Call (.Name x p) (e :: a) [] pos) (z3t C sp b E t):=by
 intro pins s σ H Q I h;refine wpAny_Call_Name_kw (yE I j hm ?_ d);refine PySem.W.callWith_K (h₀:=X.base) I.ok.mod.kin M.kp (z8 (ha pos pins s σ H _ I h) λus s1 ⟨vs,H1,I1,r,q⟩=>⟨I1.YY,?_⟩) he c;exact z1g M F hr i hd l I1 r q
def z8s{sp:Sp}{x:Str}{pos:Pos}(M:Mk X.K C f)(F:Zo X.prog X.w X.K X.mg X.base CX k f fd ps sp)(hr:zX (k+1) X.A)(b:Gl X x)(hm:X.mg x=some 035)(c:Binds X.K fd ps ds)(hd:Vals dvs ds)(d:Passes CX X E)(a:(x == ("__debug__":Str))=false:=by decide):PE X (.Call (.Name x p) [] [] pos) (z3t C sp dvs E Qg):=by
 intro pins s σ H Q I h;refine wpAny_Call_Name_kw (yE I b hm ?_ a);exact PySem.W.callWith_K0 I.YY M.kp (z1g (us:=[]) M F hr c hd d I .nil h)
structure zB(N P:List Str)(sc:Scope):Prop where
 kind:sc.kind=.function
 co:sc.isCoroutine=false
 gen:sc.isGenerator=false
 nd:N.Nodup
 pre:N.take P.length=P
 par:∀ x∈P,sc.names.lookup x=some .local\/sc.names.lookup x=some .cell
 nofree:∀ y∈sc.names,y.2≠.free
def jr{kindOf:Str->Option NameKind}{x:Str}:∀ {binds:List (Str×Value)}{m:SV},(∀ v,(x,v)∉binds)->bindL kindOf binds m x=m x
 | [],_,_=>rfl
 | (n,v) :: r,m,h=>by
   unfold bindL;rw[jr λw hw=>h w (Z03 _ hw)];split;have:x≠n:=by rintro rfl;exact h v Z0K
   simp[this];rfl
def UU{kindOf:Str->Option NameKind}{x:Str}:∀ {binds:List (Str×Value)}{m:SV},(∀ v,(x,v)∉binds)->bindC kindOf binds m x=m x
 | [],_,_=>rfl
 | (n,v) :: r,m,h=>by
   unfold bindC;rw[UU λw hw=>h w (Z03 _ hw)];split;rfl;have:x≠n:=by rintro rfl;exact h v Z0K
   simp[this]
def jz{kindOf:Str->Option NameKind}{x:Str}:∀ {P:List Str}{vs:List Value}{i:Nat}{m:SV},P.Nodup->P[i]?=some x->vs[i]?=some v->kindOf x=some .local->
 bindL kindOf (P.zip vs) m x=some v
 | [],_,_,_,_,h,_,_=>by simp at h
 | _ :: _,[],_,_,_,_,h,_=>by simp at h
 | p :: P,w :: vs,0,m,nd,h1,h2,hk=>by
   simp at h1 h2;subst h1;subst h2;show bindL kindOf ((p,w) :: P.zip vs) m p=_;unfold bindL;rw[jr λv a=>(List.nodup_cons.mp nd).1 (List.of_mem_zip a).1,if_pos hk];simp
 | p :: P,w :: vs,i+1,m,nd,h1,h2,hk=>by
   show bindL kindOf ((p,w) :: P.zip vs) m x=_;unfold bindL;exact jz (i:=i) (List.nodup_cons.mp nd).2 (by simpa using h1) (by simpa using h2) hk
def jJ{kindOf:Str->Option NameKind}{x:Str}:∀ {P:List Str}{vs:List Value}{i:Nat}{m:SV},P.Nodup->P[i]?=some x->vs[i]?=some v->kindOf x≠some .local->
 bindC kindOf (P.zip vs) m x=some v
 | [],_,_,_,_,h,_,_=>by simp at h
 | _ :: _,[],_,_,_,_,h,_=>by simp at h
 | p :: P,w :: vs,0,m,nd,h1,h2,hk=>by
   simp at h1 h2;subst h1;subst h2;show bindC kindOf ((p,w) :: P.zip vs) m p=_;unfold bindC;rw[UU λv a=>(List.nodup_cons.mp nd).1 (List.of_mem_zip a).1,if_neg hk];simp
 | p :: P,w :: vs,i+1,m,nd,h1,h2,hk=>by
   show bindC kindOf ((p,w) :: P.zip vs) m x=_;unfold bindC;exact jJ (i:=i) (List.nodup_cons.mp nd).2 (by simpa using h1) (by simpa using h2) hk
noncomputable def start(N:List Str)(vs:List V):St:=vs.map some ++ List.replicate (N.length - vs.length) none
noncomputable def Zy(CX:qq)(P:Program)(w:World)(K:FR)(mg:SV)(base:Heap)(N:List Str)(qual:Str)(scope:Scope)(f:Addr)(cd:Value)(A:Around)(outer:List Env)(s:Shared)(H:Hp)(E:XK):Cx where
 prog:=P
 w:=w
 K:=K
 mg:=mg
 base:=base
 A:=A.deeper 04
 N:=N
 s₀:=s
 H₀:=H
 env:=envOfC qual scope s.heap.objs.size f cd
 outer:=outer
 stack:=envOfC qual scope s.heap.objs.size f cd :: outer
 ex:=[]
 calm:=true
 fn:=λ_=>true
 pn:=[]
 xe:=λe s'=>wpAny (model P w) (A.deeper 04) (leaving 04 e) (λ_ a=>CX outer H s E e a) (λb a=>CX outer H s E b a) s'
def z0H{sc:Scope}{x:Str}(h:sc.names.lookup x=some .cell):∃ c,(cellsFrom n sc.names []).lookup x=some c:=by
 have q:=PySem.W.cellsFrom_some sc.names n [] (.inl h);exact Option.isSome_iff_exists.mp q
def z5q{mg:SV}(S:zB N ps scope)(hd:A.handled=none)(j:z1T P w K mg base A outer s H)(hl:vs.length=ps.length)(r:Vals vs us)(x:InCallC s s.heap.objs.size (bindL (envOfC qual scope s.heap.objs.size f cd).kindOf (ps.zip us) λ_=>none) (cellsFrom 020 scope.names []) (bindC (envOfC qual scope s.heap.objs.size f cd).kindOf (ps.zip us) λ_=>none) s1) :
 Inv (Zy CX P w K mg base N qual scope f cd A outer s H E) [] (start N vs) H s1:=by
 have G:ps.length<=N.length:=by have:=congrArg List.length S.pre;rw[Z22] at this;lia
 obtain⟨B,I,rfl,D⟩:=x.done;have m:∀ b:Addr,b∉(Zy CX P w K mg base N qual scope f cd A outer s H E).ex:=λb z=>absurd (show b∈([]:List Addr) from z) 05;refine⟨⟨j.mod,S.kind,rfl,rfl,Z01 _,λy z c B d=>?_,λy l=>?_,λy c _ h=>?_,λ_=>hd,Around.frames_deeper j.frames,.inr ⟨rfl,rfl⟩,λb z=>absurd z (m b),j.bs,j.bsz,λb _ _=>m b,λb z=>absurd z (m b),j.xo,j.frf⟩,
  rfl,j.bare,Un.kept D,⟨_,x.toInCall.ns,λi y v B d J=>?_⟩,λy c h=>⟨_,x.cell y c h⟩,j.hok.fresh (Z01 _),λy c h=>?_,λp t=>absurd (show p∈([]:List 013) from t) 05,j.hok.kept D,?_⟩
 exact name_of_addr x.apart (Z32 B) (Z32 d);have l:scope.names.lookup y=some .cell\/scope.names.lookup y=some .free:=l;rcases l with l | l;exact z0H l;exact absurd rfl (S.nofree _ (Z32 l));exact Nat.le_of_lt (x.above y c (Z32 h));have hi:i<vs.length:=by
  unfold start at d;by_cases hi:i<vs.length;exact hi;rw[Z51 (by simpa using hi)] at d;rw[List.getElem?_replicate] at d;split at d <;> cases d
 have ha:vs[i]?=some v:=by
  unfold start at d;rw[Z37 (by simpa using hi),Z1a] at d;cases e:vs[i]? with
  | none=>rw[e] at d;cases d
  | some a=>rw[e] at d;cases d;rfl
 obtain⟨u,C,F⟩:=r.get ha;have t:ps[i]?=some y:=by
  rw[← S.pre,List.getElem?_take_of_lt 00];exact B
 have o:ps.Nodup:=by rw[← S.pre];exact S.nd.sublist (List.take_sublist _ _)
 refine⟨u,F,?_⟩;rcases S.par y (Z2u t) with k | k;exact .inl ⟨k,jz o t C k⟩;obtain⟨c,e⟩:=z0H (n:=s.heap.objs.size+1) k;refine .inr ⟨.inl k,c,e,?_⟩;have q:=x.cell y c e;rw[jJ o t C (by show scope.names.lookup y≠_;rw[k];decide)] at q;exact q;exact j.hok.fresh (Nat.le_of_lt (x.above y c (Z32 h)));unfold start;show _=N.length;rw[Z14,Z00,List.length_replicate];lia
def z7p{mg:SV}{kV ct:Value}{sp:Sp}(lk:K.lookup f=some ⟨oc,od,.func (PySem.W.fnOf name qual params body scope dV kV doc pm an cdv ct),osl⟩)(m:PySem.W.codeIn K cdv qual=true)(S:zB N ps scope)(len:∀ vs H Q E,sp vs H Q E->vs.length=ps.length)(d:∀ (A:Around) (outer:List Env) (s:Shared) (H:Hp) (vs:List V) (Q:VK) (E:XK),zX k (A.deeper (envOfC qual scope s.heap.objs.size f cdv))->sp vs H Q E->
  ∃ t,Xq (Zy CX P w K mg base N qual scope f cdv A outer s H E) body t/\t { nx:=λ_ H'=>Q .Zc H',rt:=Q } (start N vs) H) :
 Zo P w K mg base CX (k+1) f (PySem.W.fnOf name qual params body scope dV kV doc pm an cdv ct) ps sp:=by
 refine⟨len,λA outer s H args us vs Q E hr i z r j=>?_⟩;have hl:=len _ _ _ _ j;have KX:K.In s.heap:=i.mod.kin.keeps λb o e=>(i.bs b o e).1;have lim:s.heap.NoLimit:=i.mod.nolimit.keeps λb o e=>(i.bs b o e).1;have c:∀ y∈ps.zip us,scope.names.lookup y.1=some .local\/(scope.names.lookup y.1=some .cell/\((cellsFrom 020 scope.names []).lookup y.1).isSome=true):=λ⟨n,v⟩ C=>by
  rcases S.par n (List.of_mem_zip C).1 with q | q;exact .inl q;exact .inr ⟨q,PySem.W.cellsFrom_some _ _ _ (.inl q)⟩
 refine codeAny_call_function hr.depth (KX _ _ lk) rfl S.co S.gen rfl (PySem.W.codeRec_of KX m) (z _ _ _ _ ?_);refine wpAny_newFunctionEnv_cells S.kind c λenv he s1 x=>?_;subst he;refine⟨lim.keeps x.toInCall.keep,codeAny_func ?_⟩;obtain⟨t,B,p⟩:=d A outer s H vs Q E (hr.deeper _) j;have I:Inv (Zy CX P w K mg base N qual scope f cdv A outer s H E) [] (start N vs) H s1:=z5q S hr.hd i hl r x;refine wpAny_mono (B [] s1 (start N vs) H _ I p) (λfl s' h=>?_) λe s' h=>h;have fin:∀ {a:St}{H':Hp}{v:V}{u:Value},Inv (Zy CX P w K mg base N qual scope f cdv A outer s H E) [] a H' s'->RelV v u->Q v H'->CE outer P w H s Q u s' :=
  λ{a H' v u} J l q=>⟨v,H',J.os,J.bare,J.base,J.hok,l,q⟩
 cases fl with
 | ret u =>
   obtain⟨v,a,H',J,l,q⟩:=h;exact fin J l q
 | next =>
   obtain⟨a,H',J,q⟩:=h;exact fin (v:=V.Zc) (u:=Value.none) J rfl q
 | brk =>
   obtain⟨_,_,_,q⟩:=h;exact False.elim q
 | cont =>
   obtain⟨_,_,_,q⟩:=h;exact False.elim q
noncomputable def tCB(r:List V->Hp->VK->Prop)(t:TA):TE:=λσ H Q=>t σ H λvs H1=>r vs H1 Q
def Zq{X:Cx}{x:Str}{p pos:Pos}{e:Expr}{a:List Expr}{t:TA}{id:String}{r:List V->Hp->VK->Prop}(i:Zw X (.builtin id) r)(j:Gl X x)(hm:X.mg x=none)(d:bootBuiltins x=some (.builtin id))(ha:PA X (e :: a) t)(hn:x≠"__name__":=by decide)(b:(x == ("__debug__":Str))=false:=by decide)
 (he:starEach (e :: a) X.env=016 :: starEach a X.env:=by rfl) (c:(backTo pos (starEach a X.env)).any (·.1)=false:=by rfl):PE X (.Call (.Name x p) (e :: a) [] pos) (tCB r t):=by
 intro pins s σ H Q I h;refine wpAny_Call_Name_kw (yX I j hm d ?_ hn b);exact PyProof.Rows.callWith_builtin1 (z8 (ha pos pins s σ H _ I h) λus s1 ⟨vs,H1,I1,f,q1⟩=>i pins s1 σ H1 vs us Q I1 f q1) he c
def vd{X:Cx}{x:Str}{p pos:Pos}{e:Expr}{a:List Expr}{t:TA}{T:String}{r:List V->Hp->VK->Prop}(i:Zw X (.type T) r)(j:Gl X x)(hm:X.mg x=none)(d:bootBuiltins x=some (.type T))(ha:PA X (e :: a) t)(hn:x≠"__name__":=by decide)(b:(x == ("__debug__":Str))=false:=by decide)
 (he:starEach (e :: a) X.env=016 :: starEach a X.env:=by rfl) (c:(backTo pos (starEach a X.env)).any (·.1)=false:=by rfl):PE X (.Call (.Name x p) (e :: a) [] pos) (tCB r t):=by
 intro pins s σ H Q I h;refine wpAny_Call_Name_kw (yX I j hm d ?_ hn b);exact Z33 (z8 (ha pos pins s σ H _ I h) λus s1 ⟨vs,H1,I1,f,q1⟩=>i pins s1 σ H1 vs us Q I1 f q1) he c
end L2
namespace HT
def z7u(A:Around)(s:Shared)(a:Int)(t:Tok)(c:Int)(u:Tok):∃ e,SeqAt.EqAt A s (.int a t) (.int c u) e/\(e=true↔a=c) :=
 ⟨(a == c),SeqAt.EqAt.int_int a t c u,05⟩
section
open PySem.SeqAt
open PySem.AutoSeq1 (wpAny_loadPart')
open PySem.MeetsSeq PySem.MeetsSeq2 PySem.MeetsSeq3
end
def z9E(m:IsTup s.heap t vs.toArray)(p:IsTup s.heap b ws.toArray)(j:vs≠[])(q:ws=[]->Q (.ref t) s)(o:ws≠[]->Q 023 { s with heap:=s.heap.push { cls:=.type "tuple",data:=.seq (vs ++ ws).toArray } })(i:vs.length+ws.length<=sizeLine):wpAny 07 A (binaryOp .Add (.ref t) (.ref b)) Q E s:=by
 obtain⟨⟨cls,dd,data,sl⟩,h,l,n,hd⟩:=id m;obtain⟨⟨k,c,data2,f⟩,a,d,n2,hd2⟩:=id p;simp only at l hd d hd2;subst l hd d hd2;have e:vs.toArray ++ ws.toArray=(vs ++ ws).toArray:=05
 by_cases hw:ws=[];exact concat_meets ⟨_,h,rfl⟩ ⟨_,a,rfl⟩ noFill_tuple_add seq_tuple_add PySem.F.slot_tuple_add PySem.F.entry_tuple_add (PySem.F.args_tuple_add_2 _ _)
  (tuple_addW1 t b vs.toArray ws.toArray n n2 dd c sl f (by simpa using j) (by simp[hw])) ⟨h,a,q hw⟩
 refine concat_meets ⟨_,h,rfl⟩ ⟨_,a,rfl⟩ noFill_tuple_add seq_tuple_add PySem.F.slot_tuple_add PySem.F.entry_tuple_add (PySem.F.args_tuple_add_2 _ _)
  (tuple_addW2 t b vs.toArray ws.toArray n n2 dd c sl f (by simpa using j) (by simpa using hw) (by rw[Z05,Z05];exact i)) ⟨h,a,?_⟩
 rw[e];exact o hw
noncomputable def Z7(n d:Nat):Option Int->Nat
 | none=>d
 | some v=>if v<0 then (v+(n:Int)).toNat else min v.toNat n
def yM(n d:Nat):Z7 n d none=d:=rfl
def yC(n d k:Nat):Z7 n d (some (k:Int))=min k n:=by
 show (if (k:Int)<0 then ((k:Int)+(n:Int)).toNat else min (k:Int).toNat n)=min k n;rw[if_neg 00,Z3o]
def z2U(n d:Nat)(hd:d<=n)(o:Option Int):Z7 n d o<=n:=by
 cases o with
 | none=>exact hd
 | some v =>
   show (if v<0 then (v+(n:Int)).toNat else min v.toNat n)<=n;by_cases hv:v<0;rw[if_pos hv];lia;rw[if_neg hv];exact Nat.min_le_right _ _
def z3w(v:Int)(n d:Nat):(if v<0 then max (v+(n:Int)) 0 else min v (n:Int))=((Z7 n d (some v):Nat):Int):=by
 show (if v<0 then max (v+(n:Int)) 0 else min v (n:Int))=(((if v<0 then (v+(n:Int)).toNat else min v.toNat n):Nat):Int);by_cases hv:v<0;simp only[if_pos hv];lia;simp only[if_neg hv];lia
def z2H(lo hi:Option Int)(n:Nat):Builtin.Slice.sliceAdjust lo hi 1 (n:Int)=(((Z7 n 0 lo:Nat):Int),((Z7 n n hi:Nat):Int)):=by
 have a:¬ ((1:Int)<0):=00
 unfold Builtin.Slice.sliceAdjust;simp only[a,if_false];refine Prod.ext ?_ ?_;cases lo with
 | none=>rfl
 | some v=>exact z3w v n 0
 cases hi with
 | none=>rfl
 | some v=>exact z3w v n n
def z2s(i j:Nat):Builtin.Slice.slicePlaces (i:Int) (j:Int) 1=j - i:=by
 unfold Builtin.Slice.slicePlaces;have a:(1:Int) > 0:=00
 simp only[a,if_true,Int.ediv_one];split <;> lia
def V4(p:IsPart v o)(h:Q o s):wpAny 07 A (Builtin.Slice.slicePartIndex v) Q E s:=by
 cases p with
 | none=>exact slicePart_none h
 | int i t=>exact slicePart_int h
def YB{lo:Option Int}(c:s.heap.IsSliceOf sl vl vu .none)(pl:IsPart vl lo)(pu:IsPart vu hi)(h:Q (((Z7 n 0 lo:Nat):Int),1,Z7 n n hi - Z7 n 0 lo) s):wpAny 07 A (Builtin.Slice.sliceApplied (.ref sl) (pure (n:Int))) Q E s:=by
 obtain⟨os,a,d,b⟩:=id c;unfold Builtin.Slice.sliceApplied Builtin.Slice.sliceFields;refine wpAny_bind (wpAny_bind (wpAny_field a b (x:=vl) rfl (wpAny_bind (wpAny_field a b (x:=vu) rfl (wpAny_bind (wpAny_field a b (x:=.none) rfl (wpAny_pure ?_)))))));refine wpAny_bind (slicePart_none ?_);show wpAny _ _ (if ((1:Int) == 0)=true then _ else _) _ _ s;rw[if_neg 01];refine wpAny_bind (V4 pl (wpAny_bind (V4 pu (wpAny_bind (wpAny_pure ?_)))));show wpAny _ _ (match Builtin.Slice.sliceAdjust lo hi 1 (n:Int) with | (lo,hi)=>pure (lo,(1:Int),Builtin.Slice.slicePlaces lo hi 1)) _ _ s
 rw[z2H lo hi n];show wpAny _ _ (pure (((Z7 n 0 lo:Nat):Int),(1:Int),Builtin.Slice.slicePlaces ((Z7 n 0 lo:Nat):Int) ((Z7 n n hi:Nat):Int) 1)) _ _ s;rw[z2s];exact wpAny_pure h
def z6l(xs:Array Value)(i k:Nat):((List.range k).filterMap λ(m:Nat)=>xs[((i:Int)+(m:Int) * 1).toNat]?).toArray=((xs.toList.drop i).take k).toArray:=by
 have e:(λ(m:Nat)=>xs[((i:Int)+(m:Int) * 1).toNat]?)=λm=>xs[i+m]?:=by
  funext m;have:((i:Int)+(m:Int) * 1).toNat=i+m:=00
  rw[this]
 rw[e];have:=pick_run xs i k;rw[List.filterMap_map] at this;have a:((λx=>xs[x]?) ∘ λx=>i+x)=λm=>xs[i+m]?:=rfl;rw[a] at this;rw[this]
def Qw{lo:Option Int}(b:IsTup s.heap t items)(j:s.heap.IsSliceOf sl vl vu .none)(pl:IsPart vl lo)(pu:IsPart vu hi)(hw:¬ (Z7 items.size 0 lo=0/\Z7 items.size items.size hi=items.size))(h:Q 023 { s with heap:=s.heap.push { cls:=.type "tuple",data:=.seq ((items.toList.drop (Z7 items.size 0 lo)).take (Z7 items.size items.size hi - Z7 items.size 0 lo)).toArray } })(k:items.size<=sizeLine):wpAny 07 A (getItem (.ref t) (.ref sl)) Q E s:=by
 have a:sizeOk (.seq ((items.toList.drop (Z7 items.size 0 lo)).take (Z7 items.size items.size hi - Z7 items.size 0 lo)).toArray):=by
  show ((items.toList.drop (Z7 items.size 0 lo)).take (Z7 items.size items.size hi - Z7 items.size 0 lo)).toArray.size<=sizeLine;rw[Z05,Z22,Z31,Z07];omega
 have n:Z7 items.size items.size hi<=items.size:=z2U _ _ (Z01 _) hi;obtain⟨os,d,c,l⟩:=id j;have f:s.TypeIs (.ref sl) "slice":=⟨os,d,c⟩;unfold getItem
 try with_reducible refine wpAny_holding ?_
 first | refine wpAny_bind (wpAny_pure ?_) | skip
 refine wpAny_bind (wpAny_sequenceKey b.typeIs 01 ?_);refine wpAny_bind (wpAny_callSpecial?_slot (name:=Str.ofString "__getitem__") b.typeIs Z3N
  (wpAny_call_entry Z3N b.typeIs entry_tuple_getitem ?_ (args_tuple_getitem _ _)))
 show wpAny _ _ (Builtin.Tuple.tupleItemsOf (.ref t) >>= _) _ _ s;refine wpAny_bind (tupleItemsOf_ b ?_);refine wpAny_bind (wpAny_typeOf f ?_);rw[if_pos 01];refine wpAny_bind (YB j pl pu ?_);have i:¬ ((((Z7 items.size 0 lo:Nat):Int) == 0 && (1:Int) == 1 && (Z7 items.size items.size hi - Z7 items.size 0 lo) == items.size)=true):=by
  intro q;rw[Z2m,Z2m] at q;have q1:((Z7 items.size 0 lo:Nat):Int)=0:=eq_of_beq q.1.1;have q2:Z7 items.size items.size hi - Z7 items.size 0 lo=items.size:=eq_of_beq q.2;exact hw ⟨by omega,by omega⟩
 show wpAny _ _ (if (((Z7 items.size 0 lo:Nat):Int) == 0 && (1:Int) == 1 && (Z7 items.size items.size hi - Z7 items.size 0 lo) == items.size)=true then _ else _) _ _ s;rw[if_neg i,z6l]
 first
  | exact wpAny_bind (m:=Builtin.Tuple.tupleExact _) (wpAny_newObj_type (wpAny_pure ⟨_,rfl,wpAny_pure h⟩) a)
  | exact wpAny_bind (m:=Builtin.Tuple.tupleExact _) (wpAny_newObj_type (wpAny_bind (wpAny_pure (wpAny_pure ⟨_,rfl,wpAny_pure h⟩))) a)
  | exact wpAny_bind (wpAny_bind (m:=Builtin.Tuple.tupleExact _) (wpAny_newObj_type (wpAny_pure (wpAny_pure ⟨_,rfl,wpAny_pure h⟩)) a))
  | exact wpAny_bind (wpAny_bind (m:=Builtin.Tuple.tupleExact _) (wpAny_newObj_type (wpAny_pure ⟨_,rfl,wpAny_pure h⟩) a))
end HT
namespace L2
noncomputable abbrev TO:=St->Hp->(Option Int->Hp->Prop)->Prop
noncomputable def PO(X:Cx)(e:Option Expr)(t:TO):Prop :=
 ∀ (pins:List 013) (s:Shared) (σ:St) (H:Hp) (Q:Option Int->Hp->Prop),Inv X pins σ H s->t σ H Q->
   wpAny 06 X.A (evalPart e X.env) (λu s'=>∃ o H',Inv X pins σ H' s'/\IsPart u o/\Q o H') X.xe s
noncomputable def z3H:TO:=λ_ H Q=>Q none H
noncomputable def Z1o(t:TE):TO:=λσ H Q=>t σ H λx H1=>∃ i,x=.int i/\Q (some i) H1
def intsAre_of{ns:List Int}:∀ {us:List Value},Vals (ns.map V.int) us->IntsAre us ns:=by
 induction ns with
 | nil=>intro us r;rw[Z3R] at r;cases r;exact .nil
 | cons n ns ih =>
   intro us r;rw[Z1Y] at r;cases r with
   | cons r1 r2 =>
     obtain⟨t,e⟩:=r1;subst e;exact .cons n t (ih r2)
def yF:PO X none z3H:=by
 intro pins s σ H Q I h;rw[evalPart_none];exact wpAny_pure ⟨none,H,I,.none,h⟩
def yz{e:Expr}(h:PE X e te):PO X (some e) (Z1o te):=by
 intro pins s σ H Q I hw;rw[evalPart_some];refine z8 (h pins s σ H _ I hw) λu s1 zq=>?_;obtain⟨x,H1,I1,a,q1⟩:=zq;obtain⟨i,rfl,q⟩:=q1;obtain⟨t,rfl⟩:=a;exact⟨some i,H1,I1,.int i t,q⟩
noncomputable def SlR(X:Cx)(r:V->Option Int->Option Int->Hp->VK->Prop):Prop :=
 ∀ (pins:List 013) (s:Shared) (σ:St) (H:Hp) (x:V) (v a b:Value) (lo hi:Option Int) (sl:Addr) (Q:VK),Inv X pins σ H s->RelV x v->s.heap.IsSliceOf sl a b .none->IsPart a lo->IsPart b hi->r x lo hi H Q->
   ∃ T id,typeLookup (.type T) "__getitem__"=pure (some (.builtin id))/\s.TypeIs v T/\wpAny 06 X.A (getItem v (.ref sl)) (EP X pins σ Q) X.xe s
def SlR.or(h:SlR X r)(h':SlR X r'):SlR X (λx lo hi H Q=>r x lo hi H Q\/r' x lo hi H Q):=by
 intro pins s σ H x v a d lo hi sl Q I c b pl pu q;rcases q with q | q;exact h pins s σ H x v a d lo hi sl Q I c b pl pu q;exact h' pins s σ H x v a d lo hi sl Q I c b pl pu q
noncomputable def tSl(r:V->Option Int->Option Int->Hp->VK->Prop)(b:TE)(a c:TO):TE:=λσ H Q=>b σ H λx H1=>a σ H1 λl H2=>c σ H2 λu H3=>r x l u H3 Q
def yd{e:Expr}{lo:Option Expr}{pos:Pos}(hr:SlR X r)(he:PE X e te)(hl:PO X lo tl)(f:PO X hi th):PE X (.Subscript e (.Slice lo hi none p2) pos) (tSl r te tl th):=by
 intro pins s σ H Q I h;refine Subscript_ (z8 (he pins s σ H _ I h) λv s1 zq=>?_);obtain⟨x,H1,I1,d,q1⟩:=zq;refine wpAny_Slice (z8 (hl pins s1 σ H1 _ I1 q1) λa s2 ⟨l,H2,I2,pl,q2⟩=>z8 (f pins s2 σ H2 _ I2 q2) λc s3 zq=>?_);obtain⟨u,H3,I3,pu,q3⟩:=zq;rw[evalPart_none];refine wpAny_pure ?_;have I4:Inv X pins σ H3 { s3 with heap:=s3.heap.push { cls:=.type "slice",data:=.fields #[a,c,.none] } }:=I3.kept (t':=s3.toks) λb ob q=>ZB _ q;obtain⟨T,id,i,j,k⟩:=hr pins { s3 with heap:=s3.heap.push { cls:=.type "slice",data:=.fields #[a,c,.none] } } σ H3 x v a c l u s3.heap.objs.size Q I4 d (Heap.IsSliceOf.new ..) pl pu q3;show wpAny 06 X.A (subscriptTail e (.Slice lo hi none p2) v (.ref s3.heap.objs.size)) (EP X pins σ Q) X.xe { s3 with heap:=s3.heap.push { cls:=.type "slice",data:=.fields #[a,c,.none] } };exact tail_any (ops:=[.ref s3.heap.objs.size,v]) j i k (by with_unfolding_all rfl)
noncomputable def yO(xs:List V)(lo hi:Option Int):List V:=(xs.drop (HT.Z7 xs.length 0 lo)).take (HT.Z7 xs.length xs.length hi - HT.Z7 xs.length 0 lo)
def vR(xs:List V)(lo hi:Option Int):(yO xs lo hi).length<=xs.length:=by
 unfold yO;rw[Z22,Z31];lia
noncomputable def Z6i(K:FR):V->Option Int->Option Int->Hp->VK->Prop:=λx lo hi H Q=>∃ a xs,x=.ref a/\zO K H a xs/\
 ¬ (HT.Z7 xs.length 0 lo=0/\HT.Z7 xs.length xs.length hi=xs.length)/\∀ p,H p=none->Q (.ref p) (upd H p (.tup (yO xs lo hi)))
def Z2d:SlR X (Z6i X.K):=by
 intro pins s σ H x v k l lo hi sl Q I i f pl pu h;obtain⟨a,xs,rfl,j,hw,q⟩:=h;cases i;obtain⟨its,r,c,d⟩:=I.tuple j;have hlen:its.toArray.size=xs.length:=by rw[Z05];exact r.length.symm
 refine⟨"tuple",_,Z3N.lookup,c.typeIs,?_⟩;refine HT.Qw c f pl pu (by rw[hlen];exact hw) ?_ (by rw[hlen];exact d);rw[hlen];refine⟨.ref s.heap.objs.size,_,I.laid (t':=s.toks) (o:=.tup (yO xs lo hi)) (λb ob q=>ZB _ q) (Z01 _) ?_,rfl,q _ (I.hok.fresh (Z01 _))⟩;exact⟨Z0X (vR xs lo hi) d,_,(r.drop (HT.Z7 xs.length 0 lo)).take (HT.Z7 xs.length xs.length hi - HT.Z7 xs.length 0 lo),yb.new _ _⟩
noncomputable def Z4p(K:FR):R2:=λx y H Q=>∃ a b xs ys,x=.ref a/\y=.ref b/\zO K H a xs/\zO K H b ys/\xs≠[]/\xs.length+ys.length<=sizeLine/\
 (ys=[]->Q 024 H)/\(ys≠[]->∀ p,H p=none->Q (.ref p) (upd H p (.tup (xs ++ ys))))
def Vals.j7(r:Vals xs us):us=[]↔xs=[]:=by
 cases r with
 | nil=>simp
 | cons _ _=>simp
def z8T:Yl X (binaryOp .Add) (Z4p X.K):=by
 intro pins s σ H x y v u Q I k n h;obtain⟨a,b,xs,ys,rfl,rfl,ha,m,p,i,q1,q2⟩:=h;cases k;cases n;obtain⟨its,d,j,_⟩:=I.tuple ha;obtain⟨f,c,l,_⟩:=I.tuple m;refine HT.z9E j l (λz=>p (d.j7.mp z)) (λz=>⟨.ref a,H,I,rfl,q1 (c.j7.mp z)⟩) (λz=>?_) (by rw[← d.length,← c.length];exact i);refine⟨.ref s.heap.objs.size,_,I.laid (t':=s.toks) (o:=.tup (xs ++ ys)) (λb ob q=>ZB _ q) (Z01 _) ?_,rfl,q2 (λw=>z (c.j7.mpr w)) _ (I.hok.fresh (Z01 _))⟩;exact⟨by rw[Z14];exact i,_,d.append c,yb.new _ _⟩
noncomputable def ixN(n:Nat)(i:Int):Option Nat:=if 0<=i then (if i<n then some i.toNat else none) else if -(n:Int)<=i then some (i+n).toNat else none
noncomputable def atI{α:Type}(xs:List α)(i:Int):Option α:=(ixN xs.length i).bind λj=>xs[j]?
def z4l(h:ixN n i=some j):seqIndex? i n=some j/\j<n/\-(n:Int)<=i/\i<n:=by
 unfold ixN at h;by_cases h0:0<=i;rw[if_pos h0] at h;by_cases h1:i<n;rw[if_pos h1] at h;have e:i.toNat=j:=Z12 h;exact⟨by rw[seqIndex_of h0 h1,e],00,00,h1⟩;rw[if_neg h1] at h;cases h;rw[if_neg h0] at h;by_cases h1:-(n:Int)<=i;rw[if_pos h1] at h;have e:(i+n).toNat=j:=Z12 h;exact⟨by rw[seqIndex_neg 00 h1,e],00,h1,00⟩;rw[if_neg h1] at h;cases h
def jZ{α:Type}{xs:List α}{v:α}(h:atI xs i=some v):∃ j,seqIndex? i xs.length=some j/\xs[j]?=some v/\j<xs.length/\-(xs.length:Int)<=i/\i<xs.length:=by
 unfold atI at h;cases e:ixN xs.length i with
 | none=>rw[e] at h;cases h
 | some j =>
   rw[e] at h;obtain⟨c,b,a,d⟩:=z4l e;exact⟨j,c,h,b,a,d⟩
def zS{α:Type}{xs:List α}{j:Nat}{v:α}(h:xs[j]?=some v):atI xs (j:Int)=some v:=by
 have a:j<xs.length:=(Z15.mp h).1;have e:ixN xs.length (j:Int)=some j:=by
  unfold ixN;rw[if_pos 00,if_pos 00];simp
 unfold atI;rw[e];exact h
def z7X{α:Type}(xs:List α)(v:α):atI (xs ++ [v]) (-1)=some v:=by
 have hl:(xs ++ [v]).length=xs.length+1:=05
 have e:ixN (xs ++ [v]).length (-1)=some xs.length:=by
  unfold ixN;rw[hl,if_neg 01,if_pos 00];congr 1;lia
 unfold atI;rw[e];show (xs ++ [v])[xs.length]?=some v;simp
noncomputable def z4t(b:Expr):Prop:=∀ o i,subscripted b false o i=operate [o,i] (getItem o i)
noncomputable def IxR(X:Cx)(r:R2):Prop :=
 ∀ (value slice:Expr) (pins:List 013) (s:Shared) (σ:St) (H:Hp) (x y:V) (v u:Value) (Q:VK),Inv X pins σ H s->RelV x v->RelV y u->r x y H Q->
   subscripted slice false v u=operate [v,u] (getItem v u)->wpAny 06 X.A (subscriptTail value slice v u) (EP X pins σ Q) X.xe s
noncomputable def MtR(X:Cx)(id:String)(r:V->List V->Hp->VK->Prop):Prop :=
 ∀ (pins:List 013) (s:Shared) (σ:St) (H:Hp) (x:V) (xs:List V) (v:Value) (us:List Value) (Q:VK),Inv X pins σ H s->RelV x v->Vals xs us->r x xs H Q->
   wpAny 06 X.A (call (.builtin id) (v :: us)) (EP X pins σ Q) X.xe s
def Zg{pos:Pos}(hr:IxR X r)(ha:PE X a ta)(i:PE X b tb)(d:z4t b):PE X (.Subscript a b pos) (tOp r ta tb):=by
 intro pins s σ H Q I h;exact Subscript_ (Z3h ha i I h λv u s2 x y H2 I2 c f q=>hr a b pins s2 σ H2 x y v u Q I2 c f q (d _ _))
noncomputable def z7c(K:FR):R2:=λx y H Q=>∃ p xs i v,x=.ref p/\y=.int i/\zJ K H p xs/\atI xs i=some v/\Q v H
noncomputable def z9C(K:FR):R2:=λx y H Q=>∃ p xs i v,x=.ref p/\y=.int i/\zO K H p xs/\atI xs i=some v/\Q v H
noncomputable def Z5Y:R2:=λx y H Q=>∃ z i c,x=.str z/\y=.int i/\z.length<=sizeLine/\atI z.cps.toList i=some c/\Q (.str ⟨#[c]⟩) H
def zI:IxR X (z7c X.K):=by
 intro value slice pins s σ H x y v u Q I o m h f;obtain⟨p,xs,i,z,rfl,rfl,k,he,q⟩:=h;cases o;obtain⟨t,rfl⟩:=m;obtain⟨its,r,pl,B⟩:=I.list k;obtain⟨j,a,A,C,l,n⟩:=jZ he;obtain⟨w,d,b⟩:=r.get A;have hl:=r.length;have hn:=qh;have fin:EP X pins σ Q w s:=⟨z,H,I,b,q⟩;by_cases h0:0<=i;have c:i.toNat=j:=by
  rw[seqIndex_of h0 n] at a;exact Z12 a
 exact item_listR pl.isList h0 00 (by rw[c];simpa using d) fin f;have c:(i+(its.toArray.size:Int)).toNat=j:=by
  rw[seqIndex_neg 00 l] at a;rw[Z05,← hl];exact Z12 a
 exact subscriptTail_builtinR (x:=w) pl.isList.typeIs slot_list_getitem.lookup
  (wpAny_getItem_list_neg (Q:=λr s'=>r=w/\EP X pins σ Q r s') pl.isList 00 (by rw[Z05] <;> lia) 00 (by rw[c];simpa using d) ⟨rfl,fin⟩) f
def zG:IxR X (z9C X.K):=by
 intro value slice pins s σ H x y v u Q I l d h k;obtain⟨p,xs,i,z,rfl,rfl,b,he,q⟩:=h;cases l;obtain⟨t,rfl⟩:=d;obtain⟨its,r,pl,n⟩:=I.tuple b;obtain⟨j,f,m,A,o,B⟩:=jZ he;obtain⟨w,c,a⟩:=r.get m;have hl:=r.length;have hn:=qh;have fin:EP X pins σ Q w s:=⟨z,H,I,a,q⟩;exact subscriptTail_builtinR (x:=w) pl.typeIs slot_tuple_getitem.lookup
  (getItem_tuple (j:=j) (Q:=λr s'=>r=w/\EP X pins σ Q r s') pl 00 00 (by rw[Z05,← hl];exact f) (by simpa using c) ⟨rfl,fin⟩) k
def z7f:IxR X Z5Y:=by
 intro value slice pins s σ H x y v u Q I m o h l;obtain⟨z,i,c,rfl,rfl,r,he,q⟩:=h;obtain⟨t,rfl⟩:=m;obtain⟨t',rfl⟩:=o;obtain⟨j,a,n,p,k,b⟩:=jZ he;have hl:z.cps.toList.length=z.length:=by simp[Str.length]
 rw[hl] at a k b;have hn:=qh;exact tail_any (typeIs_str s z t) slot_str_getitem.lookup (getItem_str (c:=c) (by
  have d:decide (i < -(2 ^ 63:Int))=false:=decide_eq_false 00;have f:decide (i ≥ 2 ^ 63)=false:=decide_eq_false 00;rw[d,f,Bool.or_false]) (by rw[a];simpa using n) ⟨.str ⟨#[c]⟩,H,I.tok _,⟨_,rfl⟩,q⟩) l
def z2r(its:List Value)(n j:Nat)(u:Value):Obj.mapSeq (·.setIfInBounds j u) { cls:=.type "list",data:=.seq its.toArray n }={ cls:=.type "list",data:=.seq (its.set j u).toArray n }:=by
 simp[Obj.mapSeq]
def Inv.lst{X:Cx}{pins:List 013}{σ:St}{H:Hp}{s:Shared}{p:Addr}{xs:List V}(I:Inv X pins σ H s)(h:H p=some (.lst xs)) :
 ∃ (its:List Value) (n:Nat),Vals xs its/\s.heap.get? p=some { cls:=.type "list",data:=.seq its.toArray n }/\xs.length<=sizeLine:=by
 obtain⟨z,its,n,r,e⟩:=I.hok p _ h;exact⟨its,n,r,e,z⟩
def Inv.Z3r{σ:St}{ys:List V}{its its':List Value}(I:Inv X pins σ H s)(h:H p=some (.lst xs))(c:s.heap.get? p=some { cls:=.type "list",data:=.seq its.toArray n })(hf:f { cls:=.type "list",data:=.seq its.toArray n }={ cls:=.type "list",data:=.seq its'.toArray n' })(r:Vals ys its')(d:ys.length<=sizeLine)(t:Nat) :
 Inv X pins σ (upd H p 034) { s with heap:=s.heap.update p f,toks:=t }:=by
 have e:(s.heap.update p f).get? p=some { cls:=.type "list",data:=.seq its'.toArray n' }:=by
  rw[Heap.get?_update_self f c (by rw[hf] <;> rfl),hf]
 refine I.write (x:=p) (e:=p) (by rw[h];trivial) (.inl rfl) (λb u a q=>(Z52 _ _ (Z3O a)).trans q) ⟨_,e⟩ ?_;exact⟨d,its',n',r,e⟩
noncomputable def Z5e:V->V->V->Hp->(Hp->Prop)->Prop:=λo i v H Q=>∃ p xs k j,o=.ref p/\i=.int k/\H p=some (.lst xs)/\ixN xs.length k=some j/\Q (upd H p (.lst (xs.set j v)))
def set_list:Z4B X Z5e:=by
 intro pins s σ H o i v B C u Q I A w z h;obtain⟨p,xs,k,j,rfl,rfl,f,m,q⟩:=h;cases A;obtain⟨t,rfl⟩:=w;obtain⟨its,n,r,c,y⟩:=I.lst f;obtain⟨a,D,l,d⟩:=z4l m;have hl:=r.length;have hn:=qh;have I':Inv X pins σ (upd H p (.lst (xs.set j v))) { s with heap:=s.heap.update p (Obj.mapSeq (·.setIfInBounds j u)) } :=
  I.Z3r f c (z2r its n j u) (r.set z j) (by rw[List.length_set];exact y) s.toks
 by_cases h0:0<=k;have b:k.toNat=j:=by
  rw[seqIndex_of h0 d] at a;exact Z12 a
 exact PySem.W.ki_setAt c h0 00 (by rw[Z05,← hl];exact d) (by rw[b];exact⟨_,I',q⟩);have b:(k+(its.toArray.size:Int)).toNat=j:=by
  rw[seqIndex_neg 00 l] at a;rw[Z05,← hl];exact Z12 a
 exact PySem.W.ki_setBack c 00 (by rw[Z05,← hl];exact l) 00 (by rw[b];exact⟨_,I',q⟩)
def Js(lo hi:Option Int)(n:Nat):(sliceBounds lo hi none n).1=((HT.Z7 n 0 lo:Nat):Int)/\(sliceBounds lo hi none n).2.1=((HT.Z7 n n hi:Nat):Int)/\(sliceBounds lo hi none n).2.2=1:=by
 refine⟨?_,?_,rfl⟩;cases lo with
 | none=>simp[sliceBounds,HT.Z7]
 | some i =>
   simp only[sliceBounds,HT.Z7,Option.getD_none,show (1:Int) > 0 by decide,if_true];by_cases h:i<0;simp only[h,if_true] <;> lia;simp only[h,if_false] <;> lia
 cases hi with
 | none=>simp[sliceBounds,HT.Z7]
 | some i =>
   simp only[sliceBounds,HT.Z7,Option.getD_none,show (1:Int) > 0 by decide,if_true];by_cases h:i<0;simp only[h,if_true] <;> lia;simp only[h,if_false] <;> lia
def UR(its:List Value)(lo hi:Option Int):slicePick its.toArray lo hi none=((its.drop (HT.Z7 its.length 0 lo)).take (HT.Z7 its.length its.length hi - HT.Z7 its.length 0 lo)).toArray:=by
 obtain⟨c,b,a⟩:=Js lo hi its.toArray.size;unfold slicePick;rw[c,b,a];simp only[sliceRange_one,pick_run,Z05] <;> rfl
noncomputable def Z6d(K:FR):V->Option Int->Option Int->Hp->VK->Prop:=λx lo hi H Q=>∃ a xs,x=.ref a/\zJ K H a xs/\∀ p,H p=none->Q (.ref p) (upd H p (.lst (yO xs lo hi)))
def Vy:SlR X (Z6d X.K):=by
 intro pins s σ H x v k l lo hi sl Q I f d pl pu h;obtain⟨a,xs,rfl,i,q⟩:=h;cases f;obtain⟨its,r,c,j⟩:=I.list i;have hlen:=r.length;refine⟨"list",_,slot_list_getitem.lookup,c.isList.typeIs,?_⟩;refine wpAny_getItem_list_slice c.isList d pl pu .none 05 ?_ (by rw[Z05] <;> lia);rw[UR,← hlen];refine⟨.ref s.heap.objs.size,_,I.laid (t':=s.toks) (o:=.lst (yO xs lo hi)) (λb ob q=>ZB _ q) (Z01 _) ?_,rfl,q _ (I.hok.fresh (Z01 _))⟩;exact⟨Z0X (vR xs lo hi) j,_,0,(r.drop (HT.Z7 xs.length 0 lo)).take (HT.Z7 xs.length xs.length hi - HT.Z7 xs.length 0 lo),Z10 _ rfl⟩
noncomputable def vZ:V->Bool
 | .Zc=>true
 | .bl _=>true
 | .int _=>true
 | .str _=>true
 | _=>false
noncomputable def eqV:V->V->Bool
 | .Zc,.Zc=>true
 | .bl a,.bl b=>a == b
 | .bl a,.int b=>(if a then 1 else 0) == b
 | .int a,.bl b=>a == (if b then 1 else 0)
 | .int a,.int b=>a == b
 | .str a,.str b=>a == b
 | _,_=>false
def VV{x:V}(f:RelV y u)(c:RelV x v)(h:vZ y=true)(d:vZ x=true):SeqAt.EqAt A s u v (eqV y x):=by
 cases y with
 | Zc =>
   cases f;cases x with
   | Zc=>cases c;exact SeqAt.EqAt.same _
   | bl b=>cases c;exact SeqAt.EqAt.none_bool b
   | int b=>obtain⟨t,rfl⟩:=c;exact SeqAt.EqAt.none_int b t
   | str b=>obtain⟨t,rfl⟩:=c;exact SeqAt.EqAt.none_str b t
   | _=>exact absurd (show false=true from d) Z0U
 | bl a =>
   cases f;cases x with
   | Zc=>cases c;exact SeqAt.EqAt.bool_none a
   | bl b=>cases c;exact SeqAt.EqAt.bool_bool a b
   | int b=>obtain⟨t,rfl⟩:=c;exact SeqAt.EqAt.bool_int a b t
   | str b=>obtain⟨t,rfl⟩:=c;exact SeqAt.EqAt.bool_str a b t
   | _=>exact absurd (show false=true from d) Z0U
 | int a =>
   obtain⟨t',rfl⟩:=f;cases x with
   | Zc=>cases c;exact SeqAt.EqAt.int_none a t'
   | bl b=>cases c;exact SeqAt.EqAt.int_bool a t' b
   | int b=>obtain⟨t,rfl⟩:=c;exact SeqAt.EqAt.int_int a t' b t
   | str b=>obtain⟨t,rfl⟩:=c;exact SeqAt.EqAt.int_str a t' b t
   | _=>exact absurd (show false=true from d) Z0U
 | str a =>
   obtain⟨t',rfl⟩:=f;cases x with
   | Zc=>cases c;exact SeqAt.EqAt.str_none a t'
   | bl b=>cases c;exact SeqAt.EqAt.str_bool a t' b
   | int b=>obtain⟨t,rfl⟩:=c;exact SeqAt.EqAt.str_int a t' b t
   | str b=>obtain⟨t,rfl⟩:=c;exact SeqAt.EqAt.str_str a t' b t
   | _=>exact absurd (show false=true from d) Z0U
 | _=>exact absurd (show false=true from h) Z0U
noncomputable def eqU(x:V)(u:Value):Bool:=match u with
 | .none=>eqV .Zc x
 | .bool b=>eqV (.bl b) x
 | .int i _=>eqV (.int i) x
 | .str z _=>eqV (.str z) x
 | _=>false
def z7m{x:V}(r:RelV y u)(f:vZ y=true):eqU x u=eqV y x:=by
 cases y with
 | Zc=>cases r;rfl
 | bl b=>cases r;rfl
 | int i=>obtain⟨t,rfl⟩:=r;rfl
 | str z=>obtain⟨t,rfl⟩:=r;rfl
 | _=>exact absurd (show false=true from f) Z0U
def JT{x:V}:∀ {xs:List V}{us:List Value},Vals xs us->xs.all vZ=true->us.any (eqU x)=xs.any λy=>eqV y x
 | _,_,.nil,_=>rfl
 | y :: xs,u :: us,.cons r t,f=>by
   rw[List.all_cons,Z2m] at f;rw[List.any_cons,List.any_cons,z7m r f.1,JT t f.2]
def uK{x:V}(b:RelV x v)(c:vZ x=true):∀ {xs:List V}{us:List Value},Vals xs us->xs.all vZ=true->∀ u∈us,SeqAt.EqAt A s u v (eqU x u)
 | _,_,.nil,_=>λu a=>by cases a
 | y :: xs,u :: us,.cons r t,f=>λd a=>by
   rw[List.all_cons,Z2m] at f;rcases Z08.mp a with rfl | a;rw[z7m r f.1];exact VV r b f.1 c;exact uK b c t f.2 d a
noncomputable def inV(x:V)(xs:List V):Bool:=xs.any λy=>eqV y x
noncomputable def rIn(K:FR)(neg:Bool):R2:=λx y H Q=>∃ p xs,y=.ref p/\(zJ K H p xs\/zO K H p xs)/\vZ x=true/\xs.all vZ=true/\Q (.bl (if neg then !inV x xs else inV x xs)) H
def Yv:Yl X (compareOp .In) (rIn X.K false):=by
 intro pins s σ H x y v u Q I b d h;obtain⟨p,xs,rfl,a,c,fs,q⟩:=h;cases d;rcases a with a | a;obtain⟨its,r,pl,f⟩:=I.list a;refine SeqAt.in_listAt (eqU x) pl.isList (λw hw=>uK b c r fs w (by simpa using hw)) ⟨.bl _,H,I,rfl,?_⟩
 rw[show its.toArray.any (eqU x)=its.any (eqU x) by simp,JT r fs];exact q;obtain⟨its,r,pl,f⟩:=I.tuple a;refine SeqAt.in_tupleAt (eqU x) pl (λw hw=>uK b c r fs w (by simpa using hw)) ⟨.bl _,H,I,rfl,?_⟩;rw[show its.toArray.any (eqU x)=its.any (eqU x) by simp,JT r fs];exact q
def zP:Zw X (.builtin "len") (λxs H Q=>∃ p ys,xs=[.ref p]/\(zJ X.K H p ys\/zO X.K H p ys)/\Q (.int ys.length) H):=by
 intro pins s σ H xs us Q I r h;obtain⟨p,ys,rfl,a,q⟩:=h;obtain⟨u,rfl,d⟩:=vals1 r;cases d;have hn:=qh;rcases a with a | a;obtain⟨its,b,pl,c⟩:=I.list a;have hlen:=b.length;exact Calls.call_len_list pl.isList (by simp only[Z05] <;> lia) ⟨.int ys.length,H,I.tok _,⟨s.toks+1,by rw[Z05,hlen]⟩,q⟩;obtain⟨its,b,pl,c⟩:=I.tuple a;have hlen:=b.length;exact len_tuple pl (by simp only[Z05] <;> lia) ⟨.int ys.length,H,I.tok _,⟨s.toks+1,by rw[Z05,hlen]⟩,q⟩
def Y8:Zw X (.builtin "len") (λxs H Q=>∃ z,xs=[.str z]/\z.length<=sizeLine/\Q (.int z.length) H):=by
 intro pins s σ H xs us Q I r h;obtain⟨z,rfl,a,q⟩:=h;obtain⟨u,rfl,t,rfl⟩:=vals1 r;have hn:=qh;exact len_str 00 ⟨.int z.length,H,I.tok _,⟨_,rfl⟩,q⟩
def Uw:Zw X (.type "tuple") (λxs H Q=>∃ p ys,xs=[.ref p]/\((zJ X.K H p ys/\∀ l,H l=none->Q (.ref l) (upd H l (.tup ys)))\/(zO X.K H p ys/\Q (.ref p) H))):=by
 intro pins s σ H xs us Q I r h;obtain⟨p,ys,rfl,h⟩:=h;obtain⟨u,rfl,d⟩:=vals1 r;cases d;rcases h with⟨hq,q⟩|⟨hq,q⟩;obtain⟨its,a,pl,c⟩:=I.list hq;have hlen:=a.length;refine call_tuple_list pl.isList (λh' kp=>?_) (by simp only[Z05] <;> lia)
 have I1:Inv X pins σ H { s with heap:=h' }:=I.kept (t':=s.toks) kp;have I2:Inv X pins σ (upd H h'.objs.size (.tup ys)) { s with heap:=h'.push { cls:=.type "tuple",data:=.seq its.toArray } } :=
  I1.laid (t':=s.toks) (λb o e=>ZB _ e) (Z01 _) (show Zl X.prog X.w _ _ _ (.tup ys) from ⟨c,its,a,yb.new _ _⟩)
 exact⟨.ref h'.objs.size,_,I2,rfl,q _ (I1.hok.fresh (Z01 _))⟩;obtain⟨its,a,pl,c⟩:=I.tuple hq;exact call_tuple_same pl ⟨.ref p,H,I,rfl,q⟩
noncomputable def tyV(K:FR)(T:String)(x:V)(H:Hp):Prop:=match x with
 | .str _=>T="str"
 | .int _=>T="int"
 | .ref p=>(T="list"/\∃ xs,zJ K H p xs)\/(T="tuple"/\∃ o,K.lookup p=some o/\o.cls=.type "tuple"/\o.dict=none)\/
  (T="dict"/\((∃ kvs,H p=some (.dK kvs))\/∃ kvs,H p=some (.dT kvs)))\/(T="set"/\∃ S n,H p=some (.set S n))
 | _=>False
def z6F{X:Cx}{σ:St}{x:V}(I:Inv X pins σ H s)(r:RelV x v)(ty:tyV X.K T x H) :
 s.TypeIs v T/\∀ a,v=.ref a->∃ ob,s.heap.get? a=some ob/\ob.dict=none:=by
 cases x with
 | str z =>
   obtain⟨t,rfl⟩:=r;cases (show T="str" from ty);exact⟨typeIs_str s z t,λ_ e=>nomatch e⟩
 | int i =>
   obtain⟨t,rfl⟩:=r;cases (show T="int" from ty);exact⟨typeIs_int s i t,λ_ e=>nomatch e⟩
 | ref p =>
   cases r;rcases ty with⟨rfl,xs,hq⟩|⟨rfl,o,hk,hc,hd⟩|⟨rfl,hk⟩|⟨rfl,S,n,hk⟩;obtain⟨its,_,pl,_⟩:=I.list hq;refine⟨pl.isList.typeIs,λa e=>?_⟩
   cases e;obtain⟨o,n,e,c,hd,_⟩:=pl;exact⟨o,e,hd⟩;refine⟨⟨o,I.YY p o hk,hc⟩,λa e=>?_⟩;cases e;exact⟨o,I.YY _ o hk,hd⟩;have z:∃ o,s.heap.get? p=some o/\o.ExactDict:=by
    rcases hk with⟨kvs,hk⟩|⟨kvs,hk⟩;obtain⟨_,_,_,_,o,_,_,e,ex,_⟩:=I.hok p _ hk;exact⟨o,e,ex⟩;obtain⟨_,_,_,_,o,_,_,e,ex,_⟩:=I.hok p _ hk;exact⟨o,e,ex⟩
   obtain⟨o,e,ex⟩:=z;refine⟨⟨o,e,ex.1⟩,λa b=>?_⟩;cases b;exact⟨o,e,ex.2.1⟩;obtain⟨o,_,_,_,e,ex,_⟩:=I.hok p _ hk;refine⟨⟨o,e,ex.1⟩,λa b=>?_⟩;cases b;exact⟨o,e,ex.2.1⟩
 | _=>exact False.elim ty
noncomputable def Z6C(K:FR)(T:String)(r:V->List V->Hp->VK->Prop)(to:TE):TE:=λσ H Q=>to σ H λx H1=>tyV K T x H1/\r x [] H1 Q
noncomputable def tBM(K:FR)(T:String)(r:V->List V->Hp->VK->Prop)(to:TE)(t:TA):TE:=λσ H Q=>to σ H λx H1=>tyV K T x H1/\t σ H1 λxs H2=>r x xs H2 Q
def z7Y{X:Cx}{apos cpos:Pos}{id:String}(j:PlainAttrs T)(slot:Slot T name id)(c:typeOf (.builtin id)=pure (.type "method_descriptor"))(hm:MtR X id r)(f:PE X o to)(b:attributeBase o name X.env (eval o X.env)=eval o X.env:=by rfl)(a:(apos.endLine == cpos.line)=true:=by rfl):PE X (.Call (.Attribute o name apos) [] [] cpos) (Z6C X.K T r to):=by
 intro pins s σ H Q I h;refine wpAny_Call_method0_late b a (z8 (f pins s σ H _ I h) λv s1 zq=>?_);obtain⟨x,H1,I1,d,ty,q1⟩:=zq;obtain⟨k,i⟩:=z6F I1 d ty;exact⟨T,id,j,slot,c,k,i,Calls.callWith_builtin rfl (PySem.evalArgs_none (hm pins s1 σ H1 x [] v [] Q I1 d .nil q1))⟩
def z3l{X:Cx}{e:Expr}{apos cpos:Pos}{id:String}(l:PlainAttrs T)(slot:Slot T name id)(f:typeOf (.builtin id)=pure (.type "method_descriptor"))(hm:MtR X id r)(k:PE X o to)(ha:PA X (e :: es) t)(b:attributeBase o name X.env (eval o X.env)=eval o X.env:=by rfl)(d:((backTo cpos (starEach (e :: es) X.env)).all (λx=>!x.1) && (backToKw cpos (keywordEach [] X.env)).all (λx=>x.1.isSome)
  && decide ((e :: es).length+([]:List Keyword).length+(if ([]:List Keyword).isEmpty then 0 else 1)<30))=true:=by rfl)(c:(apos.endLine == cpos.line)=true:=by rfl)(q:starEach (e :: es) X.env=016 :: starEach es X.env:=by rfl)(a:(backTo cpos (starEach es X.env)).any (·.1)=false:=by rfl) :
 PE X (.Call (.Attribute o name apos) (e :: es) [] cpos) (tBM X.K T r to t):=by
 intro pins s σ H Q I h;refine wpAny_Call_method_late b d c rfl (z8 (k pins s σ H _ I h) λv s1 zq=>?_);obtain⟨x,H1,I1,j,ty,q1⟩:=zq;obtain⟨m,p⟩:=z6F I1 j ty;refine⟨T,id,l,slot,f,m,p,?_⟩;have i:=ha cpos pins s1 σ H1 _ I1 q1;rw[q] at i ⊢;refine Calls.callWith_builtin (by show (false || (backTo cpos (starEach es X.env)).any (·.1))=false;rw[a] <;> rfl) (Calls.evalArgs_plain ?_)
 exact z8 i λus s2 ⟨vs,H2,I2,n,q2⟩=>hm pins s2 σ H2 x vs v us Q I2 j n q2
noncomputable def MtM(X:Cx)(id:String)(r:V->List V->Hp->VK->Prop):Prop :=
 ∀ (pins:List 013) (s:Shared) (σ:St) (H:Hp) (x:V) (xs:List V) (v:Value) (us:List Value) (Q:VK),Inv X pins σ H s->RelV x v->Vals xs us->r x xs H Q->
   wpAny 06 X.A (call (.builtin id) (v :: us)) (EP X pins σ Q) X.xe s
def Vals.one:∀ {x:V}{us:List Value},Vals [x] us->∃ u,us=[u]/\RelV x u
 | _,_,.cons r .nil=>⟨_,rfl,r⟩
def Vals.zero:∀ {us:List Value},Vals [] us->us=[]
 | _,.nil=>rfl
def Vals.dropLast(h:Vals xs us):Vals xs.dropLast us.dropLast:=by
 induction h with
 | nil=>exact .nil
 | cons r t ih =>
   cases t with
   | nil=>exact .nil
   | cons q t'=>exact .cons r ih
def Vals.rep(h:Vals xs us):∀ k:Nat,Vals (List.replicate k xs).flatten (List.replicate k us).flatten
 | 0=>.nil
 | k+1=>by
   rw[Z38,Z38,Z4X,Z4X];exact Vals.append h (Vals.rep h k)
def z2b{α:Type}(l:List α):l.eraseIdx (l.length - 1)=l.dropLast:=by
 induction l with
 | nil=>rfl
 | cons a r ih =>
   cases r with
   | nil=>rfl
   | cons b r =>
     have e:(a :: b :: r).length - 1=((b :: r).length - 1)+1:=by
      have d:(a :: b :: r).length=r.length+2:=rfl;have c:(b :: r).length=r.length+1:=rfl;lia
     rw[e,List.eraseIdx_cons_succ,ih]
     all_goals rfl
def Inv.Z3B{σ:St}{ys:List V}{its its':List Value}(I:Inv X pins σ H s)(h:H l=some (.lst xs))(e:s.heap.get? l=some { cls:=.type "list",data:=.seq its.toArray n })(hf:f its.toArray=its'.toArray)(a:Vals ys its')(d:ys.length<=sizeLine) :
 Inv X pins σ (upd H l 034) { s with heap:=s.heap.update l (Obj.mapSeq f),toks:=t' }:=by
 have q:=PySem.IsL.update e f;rw[hf] at q;refine I.write (x:=l) (e:=l) (by rw[h];exact trivial) (.inl rfl) (λi u c b=>(Z52 s.heap (Obj.mapSeq f) (Z3O c)).trans b) ⟨_,q⟩ ?_;exact⟨d,its',_,a,q⟩
def Inv.Z5H{σ:St}{ys:List V}{its:List Value}(I:Inv X pins σ H s)(a:Vals ys its)(b:ys.length<=sizeLine) :
 Inv X pins σ (upd H s.heap.objs.size 034) { s with heap:=s.heap.push { cls:=.type "list",data:=.seq its.toArray },toks:=t' } :=
 I.laid (λ_ _ q=>ZB _ q) (Z01 _) ⟨b,its,0,a,Z10 _ rfl⟩
def Inv.fresh{σ:St}(I:Inv X pins σ H s):H s.heap.objs.size=none:=I.hok.fresh (Z01 _)
def Inv.z5b{σ:St}{xs:List V}(I:Inv X pins σ H s)(a:H l=some (.lst xs)):xs.length<=sizeLine/\∃ (its:List Value) (n:Nat),Vals xs its/\xs.length=its.length/\s.heap.get? l=some { cls:=.type "list",data:=.seq its.toArray n }:=by
 obtain⟨z,its,n,r,e⟩:=I.hok l _ a;exact⟨z,its,n,r,r.length,e⟩
def z7v(h:n<=sizeLine):Builtin.List.listTooLong n=false:=by
 unfold Builtin.List.listTooLong;exact decide_eq_false 00
noncomputable def z9z:V->List V->Hp->VK->Prop:=λx vs H Q=>∃ l xs y,x=.ref l/\vs=[y]/\H l=some (.lst xs)/\xs.length<sizeLine/\Q .Zc (upd H l (.lst (xs ++ [y])))
def yG:MtM X "list.append" z9z:=by
 intro pins s σ H x vs v us Q I c b h;obtain⟨l,xs,y,rfl,rfl,a,f,q⟩:=h;cases c;obtain⟨u,rfl,d⟩:=b.one;obtain⟨z,its,n,r,hl,e⟩:=I.z5b a;refine call_meets F.slot_list_append ⟨_,e,rfl⟩ F.entry_list_append (F.args_list_append_2 _ _) (PySem.list_append l its.toArray n u (by rw[Z05];lia)) ⟨e,?_⟩;refine⟨.Zc,_,I.Z3B (its':=its ++ [u]) a e 05 (r.append (.cons d .nil)) ?_,rfl,q⟩;rw[Z14,Z39];lia
noncomputable def Z0v:V->List V->Hp->VK->Prop:=λx vs H Q=>∃ l b xs zs,x=.ref l/\vs=[.ref b]/\H l=some (.lst xs)/\H b=some (.lst zs)/\xs.length+zs.length<=sizeLine/\Q .Zc (upd H l (.lst (xs ++ zs)))
def z4T:MtM X "list.extend" Z0v:=by
 intro pins s σ H x vs v us Q I p m h;obtain⟨l,b,xs,zs,rfl,rfl,f,k,y,q⟩:=h;cases p;obtain⟨u,rfl,t⟩:=m.one;cases t;obtain⟨z,its,n,r,hl,e⟩:=I.z5b f;obtain⟨w,a,n2,j,i,o⟩:=I.z5b k;have d:its.toArray.size+a.toArray.size<=sizeLine:=by rw[Z05,Z05];lia
 have c:¬ (!its.toArray.isEmpty && Builtin.List.listTooLong (its.toArray.size+a.toArray.size))=true:=by
  rw[z7v d,Bool.and_false];exact Z0U
 refine call_meets F.slot_list_extend ⟨_,e,rfl⟩ F.entry_list_extend (F.args_list_extend_2 _ _)
  (AutoSeq1.list_extend_list_list_0 l its.toArray n b a.toArray n2 c (by rw[Z05];lia) 00) ⟨e,o,?_⟩
 refine⟨.Zc,_,I.Z3B (its':=its ++ a) f e 05 (r.append j) ?_,rfl,q⟩;rw[Z14];lia
noncomputable def Z5L:V->List V->Hp->VK->Prop:=λx vs H Q=>∃ l xs y,x=.ref l/\vs=[]/\H l=some (.lst xs)/\xs[xs.length - 1]?=some y/\Q y (upd H l (.lst xs.dropLast))
def Z1E:MtM X "list.pop" Z5L:=by
 intro pins s σ H x vs v us Q I j f h;obtain⟨l,xs,y,rfl,rfl,c,d,q⟩:=h;cases j;have a:=f.zero;subst a;obtain⟨z,its,n,r,hl,e⟩:=I.z5b c;obtain⟨u,i,k⟩:=r.get d;have b:its.toArray[its.toArray.size - 1]?=some u:=by
  show its.toArray[its.length - 1]?=some u;rw[← Z34,← hl];exact i
 refine call_meets F.slot_list_pop ⟨_,e,rfl⟩ F.entry_list_pop (F.args_list_pop_1 _) (MeetsSeq.list_pop_last l its.toArray n u b (by rw[Z05];lia)) ⟨e,?_⟩;refine⟨y,_,I.Z3B (its':=its.dropLast) c e ?_ r.dropLast ?_,k,q⟩;show its.toArray.eraseIdxIfInBounds (its.toArray.size - 1)=its.dropLast.toArray;rw[Z05,List.eraseIdxIfInBounds_toArray,z2b];rw[List.length_dropLast];lia
noncomputable def Z6F:R2:=λx y H Q=>∃ l b xs zs,x=.ref l/\y=.ref b/\H l=some (.lst xs)/\H b=some (.lst zs)/\xs.length+zs.length<=sizeLine/\∀ p,H p=none->Q (.ref p) (upd H p (.lst (xs ++ zs)))
def Z3A:Yl X (binaryOp .Add) Z6F:=by
 intro pins s σ H x y v u Q I j m h;obtain⟨l,b,xs,zs,rfl,rfl,o,c,t,q⟩:=h;cases j;cases m;obtain⟨z,its,n,r,hl,e⟩:=I.z5b o;obtain⟨p,a,n2,f,k,d⟩:=I.z5b c;refine PySem.P.add_list e d ?_ (by rw[Z05,Z05];lia);have i:its.toArray ++ a.toArray=(its ++ a).toArray:=05
 rw[i];exact⟨.ref _,_,I.Z5H (t':=s.toks) (r.append f) (by rw[Z14];lia),rfl,q _ I.fresh⟩
def len_rep{α:Type}(xs:List α)(k:Nat):(List.replicate k xs).flatten.length=k * xs.length:=by
 induction k with
 | zero=>simp
 | succ k ih=>rw[Z38,Z4X,Z14,ih,Nat.succ_mul,Nat.add_comm]
end L2
namespace Att
open PySem.Calls
def Vg:∀ (ns:List Int) (vs:List Value),WellAll P h vs (ns.map WData.int)->IntsAre vs ns:=by
 intro ns
 induction ns with
 | nil =>
   intro vs w;rw[Z3R] at w;cases w;exact .nil
 | cons n ns ih =>
   intro vs w;rw[Z1Y] at w;cases w with
   | cons a b =>
     cases a;exact .cons _ _ (ih _ b)
def z4U{l:OpenLaw}{h:Heap}(hn:l.most=some n)(b:l.row.toRowW.claim.pre args=true)(j:WellAll P h vals args) :
 ∃ a vs ns,vals=[Value.ref a]/\args=[WData.list (ns.map WData.int)]/\h.get? a=some { cls:=.type "list",data:=.seq vs.toArray }/\IntsAre vs ns/\ns.length<=n:=by
 have i:WShape.hasAll [] args [.list .int]=true:=(pre_splitW b).1;have k:l.pre.holds [] { args:=args }=true:=(pre_splitW b).2;obtain⟨d,r,rfl,s,o⟩:=hasAllW_cons i;obtain rfl:=hasAllW_nil o;obtain⟨xs,rfl,m⟩:=hasW_list s;obtain⟨ns,rfl⟩:=items_int m;have hlen:ns.length<=n:=by
  unfold OpenLaw.pre at k;have f:(WTm.not (.lt (.lit (.int (n:Int))) (.len (.arg 0)))).holds [] { args:=[.list (ns.map .int)] }=true:=by
   have f:=(holds_andW k).1;rw[hn] at f;exact f
  have c:=condW_of f (w_not (w_lt w_lit (w_len_list (w_arg rfl))));rw[Z00] at c;refine Nat.le_of_not_lt λq=>?_;have p:(n:Int)<((ns.length:Nat):Int):=00
  first
   | (rw[decide_eq_true p] at c;exact absurd c (01))
   | (simp at c;lia)
 cases j with
 | cons w1 w2 =>
   cases w2;cases w1 with
   | list ho hall=>exact⟨_,_,ns,rfl,rfl,ho,Vg ns _ hall,hlen⟩
def z4B(l:OpenLaw)(args:List WData):l.row.toRowW.claim.post args (.bool true) args=true :=
 postW_of (r:=l.row.toRowW) (X:=(true == true))
  (show WShape.has [] (.bool true) .bool=true by first | rfl | decide | simp[WShape.has,WShape.arms,WShape.armsAll])
  (show (WTm.eq .res (.lit (.bool true))).value [] { args:=args,res:=some (.bool true),after:=args }=some (.bool (true == true)) from w_eq_bool (w_res rfl) w_lit) rfl
def z0d{l:OpenLaw}{d:DefRec}(hn:l.most=some n)(m:d.params.defaults=[])(call:∀ (w:World) (s₀ s₁:Shared) (mg mb:SV) (b:Addr) (o:Obj) (pm cd doc:Value) (a:Addr) (vs:List Value) (ns:List Int),
  Ground q loose [] XP w s₀ mg mb s₁.heap->YP w s₁.heap->
  s₁.heap.get? b=some o->o.data=.func (docDef d.name d.params d.body d.scope pm cd doc)->s₁.heap.CodeRec cd d.name->mg d.name=some (.ref b)->
  s₁.heap.get? a=some { cls:=.type "list",data:=.seq vs.toArray }->IntsAre vs ns->ns.length<=n->s₁.gens=#[]->
  codeAny (model l.prog w) callerA (.call (.ref b) ⟨[.ref a],[]⟩) (λr s'=>r=.ok (.ret (.bool true))/\OldK s₁.heap s'.heap/\s'.os=s₁.os/\AllBare s'.gens) s₁) :
 WalkO q loose XP YP l.row.toRowW d [] (λf vs=>PySem.call f vs):=by
 intro w s₀ s₁ mg mb G Y b o pm cd doc A kV u hd i p j C args vals as c s y k D;obtain rfl:A=.none:=Dflts.none p m;obtain rfl:kV=.none:=Dflts.noKw p;obtain⟨a,vs,ns,rfl,rfl,h,hints,hlen⟩:=z4U hn c k;refine enter_call (codeAny_mono (call w s₀ s₁ mg mb b o pm cd doc a vs ns G Y u (fd_plain hd) i j h hints hlen C) λr s' t=>?_);obtain⟨rfl,B,z,v⟩:=t;exact⟨.inl ⟨.bool true,.bool true,[],rfl,λ_=>rfl,.bool true,z4B l _,λ_=>⟨List.Pairwise.nil,λ_ hm=>(nomatch hm)⟩⟩,B,z,v⟩
end Att
namespace L2
def jK:∀ {vs:List Value}{ns:List Int},IntsAre vs ns->Vals (ns.map V.int) vs
 | _,_,.nil=>.nil
 | _,_,.cons n t h=>.cons ⟨t,rfl⟩ (jK h)
noncomputable def inClass(s:Stmt)(j:Nat):Stmt:=match s with
 | .ClassDef _ _ _ body _ _ _ _ _ _ _=>body.getD j (.Pass ⟨0,0,0,0⟩)
 | _=>.Pass ⟨0,0,0,0⟩
noncomputable def ZK(s:Stmt):Arguments:=match s with
 | .FunctionDef _ a _ _ _ _ _ _ _ _=>a
 | _=>{ posonlyargs:=[],args:=[],vararg:=none,kwonlyargs:=[],kw_defaults:=[],kwarg:=none,defaults:=[] }
noncomputable def Zs(s:Stmt):List Stmt:=match s with
 | .FunctionDef _ _ b _ _ _ _ _ _ _=>b
 | _=>[]
noncomputable def zh(s:Stmt):Scope:=match s with
 | .FunctionDef _ _ _ _ _ _ sc _ _ _=>sc
 | _=>{ kind:=.function,names:=[],isGenerator:=false,isCoroutine:=false }
noncomputable abbrev yV:qq:=λ_ _ _ _ _ _=>False
noncomputable abbrev E0:XK:=λ_ _ _=>False
def xU:Passes yV X E0:=λ_ _ _ _ _ _ _ h=>h.elim
structure QX(K:FR)(x qual:Str)(st:Stmt)(f:Addr)(fd:FuncData):Prop where
 ex:∃ (oc:Value) (od:Option Addr) (kV doc pm:Value) (an:Option Addr) (cdv ct:Value) (osl:Array (Option Value)),
  fd=PySem.W.fnOf x qual (ZK st) (Zs st) (zh st) .none kV doc pm an cdv ct/\K.lookup f=some ⟨oc,od,.func fd,osl⟩/\PySem.W.codeIn K cdv qual=true
 kp:PySem.W.keepIn K (.ref f)=true
def QX.ok{mg:SV}{x:Str}{st:Stmt}{sp:Sp}(F:QX K x qual st f fd)(S:zB N ps (zh st))(len:∀ vs H Q E,sp vs H Q E->vs.length=ps.length)(a:∀ (cdv:Value) (A:Around) (outer:List Env) (s:Shared) (H:Hp) (vs:List V) (Q:VK) (E:XK),zX k (A.deeper (envOfC qual (zh st) s.heap.objs.size f cdv))->sp vs H Q E->
  ∃ t,Xq (Zy yV P w K mg base N qual (zh st) f cdv A outer s H E).nox (Zs st) t/\t { nx:=λ_ H'=>Q .Zc H',rt:=Q } (start N vs) H):Zo P w K mg base yV (k+1) f fd ps sp:=by
 obtain⟨oc,od,kV,doc,pm,an,cdv,ct,osl,rfl,lk,b⟩:=F.ex;refine z7p lk b S len λA outer s H vs Q E hr c=>?_;obtain⟨t,h,q⟩:=a cdv A outer s H vs Q E hr c;exact⟨t,h.nox,q⟩
def QX.binds{x:Str}{st:Stmt}(F:QX K x qual st f fd)(h:∀ (kV doc pm:Value) (an:Option Addr) (cdv ct:Value) (us:List Value),us.length=ps.length->bindArgs (PySem.W.fnOf x qual (ZK st) (Zs st) (zh st) .none kV doc pm an cdv ct) ⟨us,[]⟩=pure (ps.zip us)):Binds K fd ps []:=by
 obtain⟨oc,od,kV,doc,pm,an,cdv,ct,osl,rfl,lk,a⟩:=F.ex;exact .all (h kV doc pm an cdv ct)
def z2h{x:Str}{st:Stmt}{kV ct:Value}(l:K.lookup f=some ⟨oc,od,.func (PySem.W.fnOf x qual (ZK st) (Zs st) (zh st) .none kV doc pm an cdv ct),osl⟩)(c:PySem.W.codeIn K cdv qual=true)(k:PySem.W.keepIn K (.ref f)=true):QX K x qual st f (PySem.W.fnOf x qual (ZK st) (Zs st) (zh st) .none kV doc pm an cdv ct):=⟨⟨oc,od,kV,doc,pm,an,cdv,ct,osl,rfl,l,c⟩,k⟩
def ZM(h:n<=1000):n<sizeLine:=Z53 h 01
def pv{X:Cx}{x:Str}{pos:Pos}(i:Nat)(c:X.N[i]?=some x:=by rfl)(b:Vis X.env.scope x:=by first | exact Or.inl rfl | exact Or.inr 09 | exact Or.inr (Or.inr rfl))(hd:(x == ("__debug__":Str))=false:=by decide)(a:(x == ("__classdict__":Str))=false:=by decide):PE X (.Name x pos) (z1e i):=Z2h c b hd a
def Z4D{A B:Prop}(h:B):if false=true then A else B:=by
 rw[if_neg Z0U];exact h
def Z6E{A B:Prop}(h:A):if true=true then A else B:=by
 rw[if_pos rfl];exact h
noncomputable def zu(H H':Hp):Prop:=∀ b o,H b=some o->H' b=some o
def zu.refl(H:Hp):zu H H:=λ_ _ h=>h
def zu.trans(a:zu H H1)(b:zu H1 H2):zu H H2:=λc o h=>b c o (a c o h)
def zu.free(e:zu H H')(h:H' l=Option.none):H l=Option.none:=by
 cases q:H l with
 | none=>rfl
 | some o =>
   rw[e l o q] at h;cases h
def zu.seq(e:zu H H')(h:zJ K H a xs):zJ K H' a xs:=by
 rcases h with (h |⟨o,h⟩) | h;exact .inl (.inl (e _ _ h));exact .inl (.inr ⟨o,e _ _ h⟩);exact .inr h
def Jx{pos:Pos}(I:Nat->Shared->Prop)(turn:∀ n s,I n s->wpAny 07 A (pyNext it) (λr s₁=>match r with
  | none=>R (.ok .next) s₁
  | some v=>wpAny 07 A (letOwnedTupleGo target it v) (λ_ b=>wpAny 07 A (assign target env v) (λ_ i =>
   wpAny 07 A (forIn ifs true λc r=>if r=true then do let ok ←isTrue c env (eval c env);pure (ForInStep.yield ok) else pure (ForInStep.yield r)) (λok a =>
    if ok=true then wpAny 07 A (eval elt env) (λx j =>
     wpAny 07 A (call (.builtin "list.append") [acc,x]) (λ_ l=>∃ m,m<n/\I m l) (λ_ _=>False) j) (λ_ _=>False) a
    else ∃ m,m<n/\I m a) (λ_ _=>False) i) (λ_ _=>False) b) (λ_ _=>False) s₁) (λ_ _=>False) s)(n:Nat)(h:I n s) :
 codeAny 07 A (.compLoop (.ListComp elt [⟨target,iter,ifs,0⟩] scope pos) 0 it acc env) R s:=by
 refine codeAny_loop rfl I (λn s u=>?_) n h;show wpAny _ A ((compTurn (.ListComp elt [⟨target,iter,ifs,0⟩] scope pos) 0 it acc env).onRaise (λx=>do noteFrame x env;theTreesLotGoes x)) _ _ s;refine wpAny_noted ?_;rw[compTurn_list];have y:∀ {E':Value->Shared->Prop}(x:Value) (s':Shared),False->E' x s':=λ_ _ f=>f.elim;refine wpAny_bind (wpAny_standAt (wpAny_bind (wpAny_mono (turn n s u) (λr s₁ k=>?_) λ_ _ f=>f.elim)));cases r with
 | none=>exact wpAny_pure k
 | some v =>
   refine wpAny_bind (wpAny_mono k (λ_ b o=>?_) λ_ _ f=>f.elim);refine wpAny_bind (wpAny_mono o (λ_ i p=>wpAny_bind (wpAny_mono p (λok a d=>?_) λ_ _ f=>f.elim)) λ_ _ f=>f.elim);cases ok with
   | false=>exact wpAny_pure ⟨rfl,d⟩
   | true =>
     exact wpAny_bind (wpAny_bind (wpAny_mono d (λx j q=>wpAny_bind (wpAny_mono q (λ_ l t=>wpAny_pure (wpAny_pure ⟨rfl,t⟩)) λ_ _ f=>f.elim)) λ_ _ f=>f.elim))
noncomputable def z7(X:Cx)(N':List Str)(scope:Scope)(cl:List (Str×Addr))(C:Addr)(s:Shared)(H:Hp)(fp:List Addr):Cx where
 prog:=X.prog
 w:=X.w
 K:=X.K
 mg:=X.mg
 base:=X.base
 A:=X.A
 N:=N'
 s₀:=s
 H₀:=H
 env:=compEnvC scope cl C X.env
 outer:=X.stack
 stack:=X.stack
 ex:=fp
 fn:=λ_=>false
 calm:=X.calm
 pn:=[]
 xe:=λ_ _=>False
noncomputable def PTs(X:Cx)(ifs:List Expr)(t:TT):Prop :=
 ∀ (pins:List 013) (s:Shared) (σ:St) (H:Hp) (Q:Bool->Hp->Prop),Inv X pins σ H s->t σ H Q->
   wpAny 06 X.A (forIn ifs true λc r=>if r=true then do let ok ←isTrue c X.env (eval c X.env);pure (ForInStep.yield ok) else pure (ForInStep.yield r)) (TP X pins σ Q) X.xe s
def Z8:PTs X [] (λ_ H Q=>Q true H):=λ_ _ _ H _ I h=>wpAny_pure ⟨H,I,h⟩
def z9P(h:PT X c t):PTs X [c] t:=λpins s σ H Q I hw=>by
 simp only[Z5t,List.forIn_nil,if_true];exact wpAny_bind (wpAny_bind (wpAny_mono (h pins s σ H Q I hw) (λb s' a=>wpAny_pure (wpAny_pure a)) λ_ _ x=>x))
noncomputable def Uq(X:Cx)(sc:Scope):List Str->List (Option Nat)->Prop
 | [],[]=>True
 | _ :: N,none :: ks=>Uq X sc N ks
 | x :: N,some k :: ks=>(X.N[k]?=some x/\X.env.scope.names.lookup x=some .cell/\(sc.names.lookup x=some .cell\/sc.names.lookup x=some .free))/\Uq X sc N ks
 | _,_=>False
def Uq.len:∀ {N:List Str}{a:List (Option Nat)},Uq X sc N a->a.length=N.length
 | [],[],_=>rfl
 | _ :: N,none :: a,h=>by simp[Uq.len (show Uq X sc N a from h)]
 | _ :: N,some _ :: a,h=>by simp[Uq.len (show Uq X sc N a from h.2)]
 | [],_ :: _,h=>by cases h
 | _ :: _,[],h=>by cases h
def Uq.get:∀ {N:List Str}{a:List (Option Nat)}{i k:Nat}{x:Str},Uq X sc N a->N[i]?=some x->a[i]?=some (some k)->
 X.N[k]?=some x/\X.env.scope.names.lookup x=some .cell/\(sc.names.lookup x=some .cell\/sc.names.lookup x=some .free)
 | [],[],_,_,_,_,e,_=>by simp at e
 | [],_ :: _,_,_,_,h,_,_=>by cases h
 | _ :: _,[],_,_,_,h,_,_=>by cases h
 | _ :: N,none :: a,0,k,x,h,e1,e2=>by simp at e2
 | _ :: N,none :: a,i+1,k,x,h,e1,e2=>Uq.get (i:=i) (show Uq X sc N a from h) (by simpa using e1) (by simpa using e2)
 | y :: N,some j :: a,0,k,x,h,e1,e2=>by
   simp at e1 e2;subst e1 e2;exact h.1
 | _ :: N,some _ :: a,i+1,k,x,h,e1,e2=>Uq.get (i:=i) (show Uq X sc N a from h.2) (by simpa using e1) (by simpa using e2)
noncomputable def V8(a:List (Option Nat))(σ:St):St:=a.map λo=>match o with
 | none=>none
 | some k=>σ.getD k none
noncomputable def QD(J:It)(D:Addr)(g:TG)(tt:TT)(f:TE)(Q:VK)(σ0:St)(H0:Hp):Prop :=
 ∃ W:Nat->Nat->List V->St->Hp->Prop,(∃ m,W 0 m [] σ0 H0)/\∀ i m ys d H',W i m ys d H'->H' D=some 034/\
   ((J.stop i H'/\Q 025 H')\/(J.go i H'/\∀ x H2,J.yld i H' x H2->g x d H2 λa H3=>tt a H3 λb H4=>if b=true then
     f a H4 λy H5=>H5 D=some 034/\ys.length<sizeLine/\∃ c,c<m/\W (i+1) c (ys ++ [y]) a (upd H5 D (.lst (ys ++ [y]))) else ∃ c,c<m/\W (i+1) c ys a H4))
noncomputable def Qk(a:TI)(b:List (Option Nat))(g:TG)(tt:TT)(c:TE):TE:=λσ H Q=>a σ H λJ H1=>∀ D,H1 D=none->QD J D g tt c Q (V8 b σ) (upd H1 D (.lst []))
def z3U{X:Cx}{σ:St}{scope:Scope}{pos:Pos}{cl:List (Str×Addr)}{g:TG}(L:X.calm=true)(hi:PI X tg iter wi)(U:closureFor scope X.env=pure cl)(hcl:∀ x c,cl.lookup x=some c->X.env.cells.lookup x=some c)(Z:∀ y∈scope.names,y.2≠.cell)(F:scope.kind=.function)(O:∀ y∈scope.names,y.2=.local->scope.names.lookup y.1=some .local)(S:∀ x,029->∃ c,cl.lookup x=some c)(Q:Uq X (relabel scope X.env) N' ks)(hg:∀ C s H fp,PG 015 tg g)(ht:∀ C s H fp,PTs 015 ifs tt)(he:∀ C s H fp,PE 015 elt te)(hs:∀ x,foldedSetIterable iter X.env x=pure x)(I:Inv X pins σ H s)(h:Qk wi ks g tt te σ H QV)(fin:∀ {C D:Addr}{H5:Hp}{s6:Shared}{w:Flow},QV 025 H5->(∃ m,s6.heap.Ns C m)->Inv X pins σ H5 s6->C≠X.env.locals->(∀ x c,X.env.cells.lookup x=some c->c≠C)->(∀ (f:St) (s':Shared),Inv X pins f H5 s'->∀ Y,Heap.SameBut C s'.heap Y->Inv X pins f H5 { s' with heap:=Y })->compPost 06 X.A X.xe use QQ 025 C (.ok w) s6) :
 wpAny 06 X.A (comprehension 011 scope X.env pos3 (newList []) false (eval iter X.env) use) QQ X.xe s:=by
 refine wpAny_comprehension_free (use:=use) rfl hs U F O (z8 (hi pins s σ H _ I h) λv s1 h1=>z8 h1 λitv s2 h2=>?_);obtain⟨it,fp,tn,J,H2,e,I2,T,st2,f2,R⟩:=h2;subst e;refine wpAny_newObj_type (wpAny_newFunctionEnv Z (by intro y hy;simp at hy) (λt B E=>?_) F);dsimp only at B E ⊢;have hD:H2 s2.heap.objs.size=none:=I2.hok.fresh (Z01 _);obtain⟨W,⟨m0,w0⟩,turn⟩:=R _ hD;generalize hs3:({ s2 with heap:=s2.heap.push { cls:=.type "list",dict:=none,data:=.seq ([]:List Value).toArray } }:Shared)=s3;have e3:s3.heap=s2.heap.push { cls:=.type "list",dict:=none,data:=.seq ([]:List Value).toArray }:=by rw[← hs3]
 have I3:Inv X pins σ (upd H2 s2.heap.objs.size (.lst [])) s3:=by
  rw[← hs3];exact I2.laid (t':=s2.toks) (λb o e=>ZB _ e) (Z01 _) ⟨Z19 _,[],0,.nil,Z10 _ rfl⟩
 generalize hD0:s2.heap.objs.size=D at *;generalize hH3:upd H2 D (.lst [])=H3 at *;rw[← e3] at B E ⊢;have kp:∀ b o,s3.heap.get? b=some o->t.get? b=some o:=λb o e=>E.extBut b o (Z13 (Z0w e)) (ZB _ e);have K:∀ b∈fp,xg X pins H3 b/\b<s3.heap.objs.size:=λb a=>by
  obtain⟨o,ho,_⟩:=T.obj 0 _ st2 b a;have hlt:b<D:=by rw[← hD0];exact Z0w ho
  refine⟨⟨?_,(f2 b a).2⟩,?_⟩;rw[← hH3,zC (Z13 hlt)];exact (f2 b a).1;rw[e3,Z4L,hD0];exact Nat.lt_succ_of_lt hlt
 have st3:tn 0 t:=T.keep 0 s2.heap t st2 λb a o e=>kp b o (by rw[e3];exact ZB _ e);have j:∀ x c,cl.lookup x=some c->X.env.cells.lookup x=some c:=hcl;have N:∀ b∈fp,b∉frs X.stack:=λb a z=>by
  rcases Z08.mp (I3.uG b z) with e | e;exact (K b a).1.2.1 e;exact (K b a).1.2.2.1 e
 have Cfresh:H3 s3.heap.objs.size=none:=I3.hok.fresh (Z01 _);have ok':(z7 X N' scope cl s3.heap.objs.size s3 H3 fp).Ok:=by
  refine⟨I3.ok.mod,F,I3.ok.glob,I3.ok.blt,Z01 _,λx y c h1 h2=>I3.ok.inj x y c (j x c h1) (j y c h2),λx hx=>S x hx,λx c hf _=>absurd (show false=true from hf) Z0U,λz=>I3.ok.hd z,I3.ok.frames,.inl rfl,
   λb a=>⟨Z13 (K b a).2,λx c e=>(K b a).1.2.2.2.2.1 x c (j x c e)⟩,I3.bs,Z0X I3.ok.bsz I3.sz,λb o e a=>?_,λb a=>N b a,I3.stack,I3.YR⟩
  rcases (K b a).1.2.2.2.1 with z | z;exact I3.ok.noex b o e z;exact absurd (Z0N (Z0w e) (Z0X I3.ok.bsz z)) (Z2I _)
 have I4:Inv 010 [] (V8 ks σ) H3 { s3 with heap:=t,toks:=s3.toks+([]:List (Str×Value)).length }:=by
  refine⟨ok',rfl,I3.bare,Un.kept kp,⟨_,B,λi x v e1 e2 e3'=>?_⟩,λx c e=>?_,Cfresh,λx c e=>I3.freeC x c (j x c e),λp hp=>absurd (show p∈([]:List 013) from hp) 05,I3.hok.kept kp,?_⟩;have G:(V8 ks σ)[i]?=some (some v):=e2;unfold V8 at G;rw[Z1a] at G;cases hk:ks[i]? with
  | none=>rw[hk] at G;cases G
  | some o =>
    rw[hk] at G;cases o with
    | none=>cases G
    | some k =>
      have ev:σ.getD k none=some v:=Z12 G;obtain⟨c1,c2,c3⟩:=Q.get e1 hk;obtain⟨m,hn,hl⟩:=I3.loc;have es:σ[k]?=some (some v):=by
       rw[Z06] at ev;cases q:σ[k]? with
       | none=>rw[q] at ev;cases ev
       | some z=>rw[q] at ev;exact congrArg some ev
      obtain⟨u,r,l⟩:=hl k x v c1 es (.inr (.inl c2));refine⟨u,r,.inr ⟨c3,?_⟩⟩;rcases l with⟨l1,_⟩|⟨_,c,l2,l3⟩;have l1':X.env.scope.names.lookup x=some .local:=l1;rw[c2] at l1';cases l1';obtain⟨c',hc'⟩:=S x c3;have:X.env.cells.lookup x=some c':=j x c' hc';rw[l2] at this;cases this;refine⟨c,hc',?_⟩;obtain⟨o,ho,hd⟩:=l3;exact⟨o,kp c o ho,hd⟩
  obtain⟨v,o,ho,hd⟩:=I3.cell x c (j x c e);exact⟨v,o,kp c o ho,hd⟩;show (V8 ks σ).length=N'.length;unfold V8;rw[Z00,Q.len]
 have Cne:∀ p∈X.pn ++ pins,p.1≠s3.heap.objs.size:=λp hp=>Z13 (Z0w (I3.pin p hp).1);have M:∀ {H':Hp},(∀ b∈fp,H' b=none)->∀ b∈fp,xg 010 [] H' b:=λhn b a =>
  ⟨hn b a,Z13 (K b a).2,N b a,.inl a,λx c e=>(K b a).1.2.2.2.2.1 x c (j x c e),λp hp=>absurd (show p∈([]:List 013) from hp) 05⟩
 have loop:codeAny 06 X.A (.compLoop 011 0 (.ref it) 025 (compEnvC scope cl s3.heap.objs.size X.env))
  (compPost 06 X.A X.xe use QQ 025 s3.heap.objs.size) { s3 with heap:=t,toks:=s3.toks+([]:List (Str×Value)).length }:=by
  refine Jx (λn s'=>∃ i ys f H',Inv 010 [] f H' s'/\tn i s'.heap/\(∀ b∈fp,H' b=none)/\W i n ys f H') ?_ m0 ⟨0,[],_,_,I4,st3,λb a=>(K b a).1.1,w0⟩;rintro n s5 ⟨i,ys,P,H5,I5,st5,fr5,w5⟩;obtain⟨hD5,tq⟩:=turn i n ys P H5 w5;rcases tq with⟨stop,q⟩|⟨go,step⟩;refine z8 (T.done 010 rfl rfl rfl L i [] s5 P H5 _ I5 (M fr5) st5 stop) λr s6 ⟨hr,I6⟩=>?_
  subst hr;obtain⟨m,hn,_⟩:=I6.loc;have cL:∀ x c,X.env.cells.lookup x=some c->c≠s3.heap.objs.size:=λx c e=>by
   obtain⟨v,q⟩:=I3.cell x c e;exact Z13 q.lt
  exact fin q ⟨m,hn⟩ (I3.z4i (ch:=fp) I6.os I6.base I6.hok I6.bare λb a=>⟨(K b a).1.2.2.2.1,(K b a).1.2.1,(K b a).1.2.2.2.2.1,(K b a).1.2.2.2.2.2⟩) (Z3L I3.lt) cL λf s' I' Y sb=>I'.turned (t':=s'.toks) (it:=s3.heap.objs.size) (λb o a e=>(sb.2 b a).trans e) I6.free (Z3L I3.lt) (.inr I3.sz) cL Cne;refine z8 (T.item 010 rfl rfl rfl L i [] s5 P H5 _ I5 (M fr5) st5 go) λr s6 zq=>?_;obtain⟨u,hr,h6⟩:=zq;subst hr;refine z8 h6 λ_ s7 zq=>?_;obtain⟨x,H7,I7,r7,y7,st7,fr7⟩:=zq;have I7':=I7.pinned (M fr7) (T.obj _ _ st7);refine z8 (hg _ _ _ _ _ s7 P H7 x u _ I7' r7 (step x H7 y7)) λ_ s8 zq=>?_;obtain⟨σ8,H8,I8,q8⟩:=zq;refine z8 (ht _ _ _ _ _ s8 σ8 H8 _ I8 q8) λok s9 zq=>?_;obtain⟨H9,I9,q9⟩:=zq;have again:∀ {f:St}{H':Hp}{s':Shared}{ys':List V},Inv 010 ([] ++ vn fp s7.heap) f H' s'->(∃ m',m'<n/\W (i+1) m' ys' f H')->
   ∃ m',m'<n/\∃ i ys f H',Inv 010 [] f H' s'/\tn i s'.heap/\(∀ b∈fp,H' b=none)/\W i m' ys f H':=λ{f H' s' ys'} I' hw=>by
   obtain⟨m',hm,w'⟩:=hw;refine⟨m',hm,i+1,ys',f,H',I'.xD,T.keep _ _ _ st7 λb a o e=>(I'.pin (b,o) (Z1g _ (Z1g _ (yg a e)))).1,λb a=>?_,w'⟩;obtain⟨o,e,d⟩:=T.obj _ _ st7 b a;exact (I'.pin (b,o) (Z1g _ (Z1g _ (yg a e)))).2.1
  cases ok with
  | false =>
    rw[if_neg Z0U] at q9 ⊢;exact again I9 q9
  | true =>
    rw[if_pos rfl] at q9 ⊢;refine z8 (he _ _ _ _ _ s9 σ8 H9 _ I9 q9) λy s10 zq=>?_;obtain⟨yv,H10,I10,r10,q10,z10,w10⟩:=zq;refine z8 (yG _ s10 σ8 H10 025 [yv] 025 [y] (λv H'=>v=.Zc/\H'=upd H10 D (.lst (ys ++ [yv]))) I10 rfl (.cons r10 .nil) ⟨D,ys,yv,rfl,rfl,q10,z10,rfl,rfl⟩) λ_ s11 zq=>?_;obtain⟨_,H11,I11,_,_,e11⟩:=zq;subst e11;exact again I11 w10
 have es:({ s3 with heap:=t,toks:=s3.toks+([]:List (Str×Value)).length }:Shared)={ s2 with heap:=t,toks:=s2.toks+([]:List (Str×Value)).length }:=by rw[← hs3]
 rw[es] at loop;exact codeAny_compStart_list loop (T.self _ 0 _ _ _ st3 loop)
def Z0x{pos:Pos}{g:TG}(d:X.calm=true)(hi:PI X tg iter wi)(i:closureFor scope X.env=pure cl)(n:∀ x c,cl.lookup x=some c->X.env.cells.lookup x=some c)(f:∀ y∈scope.names,y.2≠.cell)(b:scope.kind=.function)(a:∀ y∈scope.names,y.2=.local->scope.names.lookup y.1=some .local)(k:∀ x,029->∃ c,cl.lookup x=some c)(j:Uq X (relabel scope X.env) N' ks)(u:∀ C s H fp,PG 015 tg g)(p:∀ C s H fp,PTs 015 ifs tt)(he:∀ C s H fp,PE 015 elt te)(r:∀ x,foldedSetIterable iter X.env x=pure x:=by intro _;rfl):PE X 011 (Qk wi ks g tt te):=by
 intro pins s σ H Q I h;rw[eval_ListComp];exact z3U (use:=none) (QQ:=EP X pins σ Q) d hi i n f b a k j u p he r I h λ{C D H5 o w} q ⟨m,hn⟩ J _ _ t=>⟨m,hn,λl sb=>⟨.ref D,H5,t σ o J l sb,rfl,q⟩⟩
noncomputable def Sz(n:Nat)(k:Int):Prop:=k.natAbs<2 ^ n
def Sz.mono(h:Sz n k)(l:n<=m):Sz m k:=Z0N h (Z3K 01 l)
def Sz.mul(h:Sz n a)(h':Sz m b):Sz (n+m) (a * b):=by
 unfold Sz at *;rw[Int.natAbs_mul,Nat.pow_add];exact Nat.mul_lt_mul'' h h'
def Sz.add(h:Sz n a)(h':Sz n b):Sz (n+1) (a+b):=by
 unfold Sz at *;rw[Z59,Nat.mul_two];exact Z53 (Int.natAbs_add_le a b) (Nat.add_lt_add h h')
def Sz.neg(h:Sz n a):Sz n (-a):=by
 unfold Sz at *;rw[Int.natAbs_neg];exact h
def Sz.sub(h:Sz n a)(h':Sz n b):Sz (n+1) (a - b):=by
 rw[Int.sub_eq_add_neg];exact h.add h'.neg
def Sz.bits(h:Sz n k):Builtin.Int.intBits k<=n:=by
 unfold Builtin.Int.intBits;split;exact Z19 _;rename_i hk;have h0:k.natAbs≠0:=λz=>hk (by simp at z;simp[z]);have:=(Nat.log2_lt h0).mpr h;lia
def Sz.log2(h:Sz n k)(hn:0<n):k.natAbs.log2<n:=by
 by_cases h0:k.natAbs=0;rw[h0];exact hn;exact (Nat.log2_lt h0).mpr h
noncomputable def z6Z(i j:Int):Prop:=Sz 100000 i/\Sz 100000 j
def z6Z.ok(h:z6Z i j):IntMulOk i j:=by
 have b:=h.1.bits;have a:=h.2.bits;have e:Builtin.Int.intTooBig ((Builtin.Int.intBits i:Int)+Builtin.Int.intBits j)=false:=by
  unfold Builtin.Int.intTooBig;refine decide_eq_false ?_;have:(bitsLine:Nat)=134217728:=rfl;rw[this];lia
 unfold IntMulOk;simp[e]
noncomputable def Z4j(_ j:Int):Prop:=j≠0/\Sz 9000 j
def ZW:Yl X (binaryOp .Mult) (rI z6Z λi j=>.int (i * j)):=opI λ_ _ _ _ _ _ _ a q=>mul_int q a.ok
def yR:Yl X (binaryOp .FloorDiv) (rI Z4j λi j=>.int (i.fdiv j)):=opI λ_ _ _ _ _ _ _ a q=>floordiv_int a.1 q (.inl (PyProof.noPylong_of_log2 (a.2.log2 01)))
inductive Dt where
 | Zc | bl (b:Bool) | int (i:Int) | str (x:Str) | tup (xs:List Dt) | lst (xs:List Dt)
mutual
def Den(K:FR)(H:Hp):Dt->V->Prop
 | .Zc,v=>v=.Zc
 | .bl b,v=>v=.bl b
 | .int i,v=>v=.int i
 | .str x,v=>v=.str x
 | .tup ds,v=>∃ a xs,v=.ref a/\zO K H a xs/\Zb K H ds xs
 | .lst ds,v=>∃ a xs,v=.ref a/\zJ K H a xs/\Zb K H ds xs
def Zb(K:FR)(H:Hp):List Dt->List V->Prop
 | [],xs=>xs=[]
 | d :: ds,xs=>∃ x r,xs=x :: r/\Den K H d x/\Zb K H ds r
end
mutual
def Ut:Dt->Dt->Bool
 | .Zc,.Zc=>true
 | .bl a,.bl b=>a == b
 | .bl a,.int b=>(if a then 1 else 0) == b
 | .int a,.bl b=>a == (if b then 1 else 0)
 | .int a,.int b=>a == b
 | .str a,.str b=>a == b
 | .tup xs,.tup ys=>Yz xs ys
 | .lst xs,.lst ys=>Yz xs ys
 | _,_=>false
def Yz:List Dt->List Dt->Bool
 | [],[]=>true
 | x :: xs,y :: ys=>Ut x y && Yz xs ys
 | _,_=>false
end
mutual
def Qv:Dt->Nat
 | .tup xs=>xj xs+1
 | .lst xs=>xj xs+1
 | _=>0
def xj:List Dt->Nat
 | []=>0
 | x :: xs=>max (Qv x) (xj xs)
end
mutual
def uc:∀ d:Dt,Ut d d=true
 | .Zc=>rfl
 | .bl b=>by simp[Ut]
 | .int b=>by simp[Ut]
 | .str b=>by simp[Ut]
 | .tup xs=>by simp only[Ut];exact YA xs
 | .lst xs=>by simp only[Ut];exact YA xs
def YA:∀ ds:List Dt,Yz ds ds=true
 | []=>rfl
 | x :: xs=>by simp only[Yz,uc x,YA xs,Bool.and_self]
end
def Zb.length:∀ {ds:List Dt}{xs:List V},Zb K H ds xs->xs.length=ds.length
 | [],_,h=>by simp only[Zb] at h;subst h;rfl
 | d :: ds,_,h=>by
   simp only[Zb] at h;obtain⟨x,r,rfl,_,h⟩:=h;simp[Zb.length h]
def Va{X:Cx}{σ:St}(I:Inv X pins σ H s)(h:zO X.K H a xs)(h':zJ X.K H a ys):False:=by
 obtain⟨its,_,⟨o,e,c,_⟩,_⟩:=I.tuple h;obtain⟨its',_,⟨o',n',b,d,_⟩,_⟩:=I.list h';rw[e] at b;cases b;rw[c] at d;have:("tuple":String)="list":=by injection d
 exact absurd this 01
mutual
def Den.inj{X:Cx}{σ:St}(I:Inv X pins σ H s):∀ {d e:Dt}{v:V},Den X.K H d v->Den X.K H e v->d=e
 | .Zc,e,v,h,h'=>by
   simp only[Den] at h;subst h;cases e <;> simp only[Den] at h' <;> first
    | rfl
    | (obtain⟨_,_,z,_⟩:=h';cases z;done)
    | (cases h';done)
 | .bl b,e,v,h,h'=>by
   simp only[Den] at h;subst h;cases e <;> simp only[Den] at h' <;> first
    | (obtain⟨_,_,z,_⟩:=h';cases z;done)
    | (cases h';rfl)
    | (cases h';done)
 | .int b,e,v,h,h'=>by
   simp only[Den] at h;subst h;cases e <;> simp only[Den] at h' <;> first
    | (obtain⟨_,_,z,_⟩:=h';cases z;done)
    | (cases h';rfl)
    | (cases h';done)
 | .str b,e,v,h,h'=>by
   simp only[Den] at h;subst h;cases e <;> simp only[Den] at h' <;> first
    | (obtain⟨_,_,z,_⟩:=h';cases z;done)
    | (cases h';rfl)
    | (cases h';done)
 | .tup ds,e,v,h,h'=>by
   simp only[Den] at h;obtain⟨a,xs,rfl,f,hd⟩:=h;cases e with
   | tup es =>
     simp only[Den] at h';obtain⟨b,ys,z,c,he⟩:=h';cases z;rw[I.yH c f] at he;rw[Zb.inj I hd he]
   | lst es =>
     simp only[Den] at h';obtain⟨b,ys,z,c,he⟩:=h';cases z;exact (Va I f c).elim
   | Zc=>simp only[Den] at h';cases h'
   | bl b=>simp only[Den] at h';cases h'
   | int b=>simp only[Den] at h';cases h'
   | str b=>simp only[Den] at h';cases h'
 | .lst ds,e,v,h,h'=>by
   simp only[Den] at h;obtain⟨a,xs,rfl,f,hd⟩:=h;cases e with
   | lst es =>
     simp only[Den] at h';obtain⟨b,ys,z,c,he⟩:=h';cases z;rw[I.Qu c f] at he;rw[Zb.inj I hd he]
   | tup es =>
     simp only[Den] at h';obtain⟨b,ys,z,c,he⟩:=h';cases z;exact (Va I c f).elim
   | Zc=>simp only[Den] at h';cases h'
   | bl b=>simp only[Den] at h';cases h'
   | int b=>simp only[Den] at h';cases h'
   | str b=>simp only[Den] at h';cases h'
def Zb.inj{X:Cx}{σ:St}(I:Inv X pins σ H s):∀ {ds a:List Dt}{vs:List V},Zb X.K H ds vs->Zb X.K H a vs->ds=a
 | [],[],_,_,_=>rfl
 | [],e :: a,vs,h,h'=>by
   simp only[Zb] at h h';subst h;obtain⟨_,_,z,_⟩:=h';cases z
 | d :: ds,[],vs,h,h'=>by
   simp only[Zb] at h h';subst h';obtain⟨_,_,z,_⟩:=h;cases z
 | d :: ds,e :: a,vs,h,h'=>by
   simp only[Zb] at h h';obtain⟨x,r,rfl,f,c⟩:=h;obtain⟨y,j,z,b,i⟩:=h';cases z;rw[Den.inj I f b,Zb.inj I c i]
end
noncomputable def Yj(ds a:List Dt)(j:Nat):Bool:=match ds[j]?,a[j]? with
 | some d,some e=>Ut d e
 | _,_=>true
def vm:∀ (ds a:List Dt),ds.length=a.length->(List.range ds.length).all (Yj ds a)=Yz ds a
 | [],[],_=>rfl
 | d :: ds,e :: a,h=>by
   have c:=vm ds a (by simpa using h);rw[Z09,List.range_succ_eq_map,List.all_cons,List.all_map];have f:Yj (d :: ds) (e :: a) 0=Ut d e:=rfl;have b:(Yj (d :: ds) (e :: a)) ∘ Nat.succ=Yj ds a:=by
    funext j;simp[Yj,Function.comp]
   rw[f,b,c];rfl
def uF:∀ (ds a:List Dt),ds.length≠a.length->Yz ds a=false
 | [],[],h=>absurd rfl h
 | [],_ :: _,_=>rfl
 | _ :: _,[],_=>rfl
 | d :: ds,e :: a,h=>by
   simp only[Yz];rw[uF ds a (by simpa using h),Bool.and_false]
def Zb.get:∀ {ds:List Dt}{xs:List V}{j:Nat}{d:Dt},Zb K H ds xs->ds[j]?=some d->∃ x,xs[j]?=some x/\Den K H d x
 | [],_,_,_,_,e=>by simp at e
 | d :: ds,xs,0,d',h,e=>by
   simp only[Zb] at h;obtain⟨x,r,rfl,c,_⟩:=h;simp at e;subst e;exact⟨x,rfl,c⟩
 | d :: ds,xs,j+1,d',h,e=>by
   simp only[Zb] at h;obtain⟨x,r,rfl,_,b⟩:=h;obtain⟨y,a,f⟩:=Zb.get (j:=j) b (by simpa using e);exact⟨y,by simpa using a,f⟩
def jI:∀ {ds:List Dt}{j:Nat}{d:Dt},ds[j]?=some d->Qv d<=xj ds
 | [],_,_,e=>by simp at e
 | d :: ds,0,d',e=>by simp at e;subst e;simp only[xj];exact Nat.le_max_left _ _
 | d :: ds,j+1,d',e=>by
   have:=jI (ds:=ds) (j:=j) (d:=d') (by simpa using e);simp only[xj];exact Z0X this (Nat.le_max_right _ _)
def QH{X:Cx}{A:Around}{us vs:List Value}(n:Nat)(z:∀ (A:Around) (d e:Dt) (x y:V) (u v:Value),Qv d<=n->A.units+n<cLine->Den X.K H d x->Den X.K H e y->RelV x u->RelV y v->SeqAt.EqAt A s u v (Ut d e))(hd:xj ds<=n)(G:A.units+n+1<cLine)(k:Zb X.K H ds xs)(m:Zb X.K H es ys)(f:Vals xs us)(l:Vals ys vs) :
 ∀ j (g1:j<us.toArray.size) (g2:j<vs.toArray.size),SeqAt.EqAt A.in1 s us.toArray[j] vs.toArray[j] (Yj ds es j):=by
 intro j g1 g2;have q:=k.length;have p:=m.length;have r:=f.length;have E:=l.length;have a:j<us.length:=by simpa using g1
 have b:j<vs.length:=by simpa using g2
 have w:j<ds.length:=by rw[← q,r];exact a
 have t:j<es.length:=by rw[← p,E];exact b
 have c:ds[j]?=some ds[j]:=by simp[w]
 have h:es[j]?=some es[j]:=by simp[t]
 obtain⟨x,ex,dx⟩:=k.get c;obtain⟨y,D,C⟩:=m.get h;obtain⟨u,i,F⟩:=f.get ex;obtain⟨v,ev,o⟩:=l.get D;have B:Yj ds es j=Ut ds[j] es[j]:=by unfold Yj;rw[c,h]
 rw[B];have a1:us.toArray[j]=u:=by
  have:us[j]?=some us[j]:=by simp[a]
  rw[this] at i;simpa using Z12 i
 have a2:vs.toArray[j]=v:=by
  have:vs[j]?=some vs[j]:=by simp[b]
  rw[this] at ev;simpa using Z12 ev
 rw[a1,a2];exact z A.in1 _ _ x y u v (Z0X (jI c) hd) (by show A.units+1+n<cLine;lia) dx C F o
def Jk{X:Cx}{σ:St}{A:Around}(I:Inv X pins σ H s)(n:Nat)(z:∀ (A:Around) (d e:Dt) (x y:V) (u v:Value),Qv d<=n->A.units+n<cLine->Den X.K H d x->Den X.K H e y->RelV x u->RelV y v->SeqAt.EqAt A s u v (Ut d e))(hd:xj ds<=n)(p:A.units+n+1<cLine)(ha:zO X.K H a xs)(B:zO X.K H b ys)(m:Zb X.K H ds xs)(l:Zb X.K H es ys) :
 SeqAt.RcAt A s 024 (.ref b) (Yz ds es)/\SeqAt.RcNeAt A s 024 (.ref b) (!Yz ds es):=by
 obtain⟨its,h,o,_⟩:=I.tuple ha;obtain⟨c,k,w,_⟩:=I.tuple B;have r:=m.length;have i:=l.length;have t:=h.length;have j:=k.length;have f:A.units<cLine:=00
 have q:=SeqAt.RcAt.tuples (A:=A) (s:=s) (e:=Yj ds es) o w f (QH n z hd p m l h k);have q2:=SeqAt.RcNeAt.tuples (A:=A) (s:=s) (e:=Yj ds es) o w f (QH n z hd p m l h k);have e:((List.range (min its.toArray.size c.toArray.size)).all (Yj ds es) && its.toArray.size == c.toArray.size)=Yz ds es:=by
  simp only[Z05];by_cases hl:ds.length=es.length;have:its.length=c.length:=by rw[← t,← j,r,i,hl]
  rw[this,Nat.min_self,← j,i,← hl,vm ds es hl];simp;have:its.length≠c.length:=by rw[← t,← j,r,i];exact hl
  rw[uF ds es hl];simp[this]
 rw[e] at q q2;exact⟨q,q2⟩
def jM{X:Cx}{σ:St}{A:Around}(I:Inv X pins σ H s)(n:Nat)(B:∀ (A:Around) (d e:Dt) (x y:V) (u v:Value),Qv d<=n->A.units+n<cLine->Den X.K H d x->Den X.K H e y->RelV x u->RelV y v->SeqAt.EqAt A s u v (Ut d e))(hd:xj ds<=n)(w:A.units+n+1<cLine)(ha:zJ X.K H a xs)(C:zJ X.K H b ys)(r:Zb X.K H ds xs)(p:Zb X.K H es ys) :
 SeqAt.RcAt A s 024 (.ref b) (Yz ds es)/\SeqAt.RcNeAt A s 024 (.ref b) (!Yz ds es):=by
 obtain⟨its,k,i,_⟩:=I.list ha;obtain⟨h,o,j,_⟩:=I.list C;have l:=r.length;have t:=p.length;have m:=k.length;have z:=o.length;have f:A.units<cLine:=00
 by_cases hl:ds.length=es.length;have c:its.toArray.size=h.toArray.size:=by simp only[Z05];rw[← m,← z,l,t,hl]
 have q:=SeqAt.RcAt.lists (A:=A) (s:=s) (e:=Yj ds es) i.isList j.isList c f (QH n B hd w r p k o);have q2:=SeqAt.RcNeAt.lists (A:=A) (s:=s) (e:=Yj ds es) i.isList j.isList c f (QH n B hd w r p k o);have e:(List.range its.toArray.size).all (Yj ds es)=Yz ds es:=by
  simp only[Z05];rw[← m,l,vm ds es hl]
 rw[e] at q q2;exact⟨q,q2⟩;have c:(its.toArray.size != h.toArray.size)=true:=by
  simp only[Z05];rw[← m,← z,l,t];simpa using hl
 rw[uF ds es hl];exact⟨SeqAt.RcAt.lists_lengths i.isList j.isList c f,SeqAt.RcNeAt.lists_lengths i.isList j.isList c f⟩
def Q2{X:Cx}{σ:St}(I:Inv X pins σ H s):∀ (n:Nat) (A:Around) (d e:Dt) (x y:V) (u v:Value),Qv d<=n->A.units+n<cLine->Den X.K H d x->Den X.K H e y->RelV x u->RelV y v->SeqAt.EqAt A s u v (Ut d e):=by
 intro n
 induction n with
 | zero =>
   intro A d e x y u v hd D k c l h;have f:A.units<cLine:=00
   cases d with
   | tup ds=>simp only[Qv] at hd;lia
   | lst ds=>simp only[Qv] at hd;lia
   | Zc =>
     simp only[Den] at k;subst k;cases e with
     | tup es =>
       simp only[Den] at c;obtain⟨b,ys,rfl,j,_⟩:=c;cases l;cases h;obtain⟨its,_,p,_⟩:=I.tuple j;exact SeqAt.EqAt.none_tuple p f
     | lst es =>
       simp only[Den] at c;obtain⟨b,ys,rfl,j,_⟩:=c;cases l;cases h;obtain⟨its,_,p,_⟩:=I.list j;exact SeqAt.EqAt.none_list p.isList f
     | _=>simp only[Den] at c;subst c;exact VV l h rfl rfl
   | bl i =>
     simp only[Den] at k;subst k;cases e with
     | tup es =>
       simp only[Den] at c;obtain⟨b,ys,rfl,j,_⟩:=c;cases l;cases h;obtain⟨its,_,p,_⟩:=I.tuple j;exact SeqAt.EqAt.bool_tuple _ p f
     | lst es =>
       simp only[Den] at c;obtain⟨b,ys,rfl,j,_⟩:=c;cases l;cases h;obtain⟨its,_,p,_⟩:=I.list j;exact SeqAt.EqAt.bool_list _ p.isList f
     | _=>simp only[Den] at c;subst c;exact VV l h rfl rfl
   | int i =>
     simp only[Den] at k;subst k;cases e with
     | tup es =>
       simp only[Den] at c;obtain⟨b,ys,rfl,j,_⟩:=c;obtain⟨t,rfl⟩:=l;cases h;obtain⟨its,_,p,_⟩:=I.tuple j;exact SeqAt.EqAt.int_tuple _ _ p f
     | lst es =>
       simp only[Den] at c;obtain⟨b,ys,rfl,j,_⟩:=c;obtain⟨t,rfl⟩:=l;cases h;obtain⟨its,_,p,_⟩:=I.list j;exact SeqAt.EqAt.int_list _ _ p.isList f
     | _=>simp only[Den] at c;subst c;exact VV l h rfl rfl
   | str i =>
     simp only[Den] at k;subst k;cases e with
     | tup es =>
       simp only[Den] at c;obtain⟨b,ys,rfl,j,_⟩:=c;obtain⟨t,rfl⟩:=l;cases h;obtain⟨its,_,p,_⟩:=I.tuple j;exact SeqAt.EqAt.str_tuple _ _ p f
     | lst es =>
       simp only[Den] at c;obtain⟨b,ys,rfl,j,_⟩:=c;obtain⟨t,rfl⟩:=l;cases h;obtain⟨its,_,p,_⟩:=I.list j;exact SeqAt.EqAt.str_list _ _ p.isList f
     | _=>simp only[Den] at c;subst c;exact VV l h rfl rfl
 | succ n ih =>
   intro A d e x y u v hd D k c l h;have f:A.units<cLine:=00
   by_cases hle:Qv d<=n;exact ih A d e x y u v hle 00 k c l h;cases d with
   | tup ds =>
     simp only[Qv] at hd;have o:=k;simp only[Den] at k;obtain⟨a,xs,rfl,z,q⟩:=k;cases l;have B:=I.tuple z;obtain⟨its,C,m,_⟩:=B;cases e with
     | tup es =>
       have w:=c;simp only[Den] at c;obtain⟨b,ys,rfl,j,r⟩:=c;cases h;by_cases hab:a=b;subst hab;rw[Den.inj I o w,uc];exact SeqAt.EqAt.same _;simp only[Ut];exact SeqAt.EqAt.of_refs hab (Jk I n ih 00 00 z j q r).1
     | lst es =>
       simp only[Den] at c;obtain⟨b,ys,rfl,j,_⟩:=c;cases h;obtain⟨its',_,p,_⟩:=I.list j;exact SeqAt.EqAt.tuple_list m p.isList f
     | Zc=>simp only[Den] at c;subst c;cases h;exact SeqAt.EqAt.tuple_none m f
     | bl i=>simp only[Den] at c;subst c;cases h;exact SeqAt.EqAt.tuple_bool _ m f
     | int i=>simp only[Den] at c;subst c;obtain⟨t,rfl⟩:=h;exact SeqAt.EqAt.tuple_int _ _ m f
     | str i=>simp only[Den] at c;subst c;obtain⟨t,rfl⟩:=h;exact SeqAt.EqAt.tuple_str _ _ m f
   | lst ds =>
     simp only[Qv] at hd;have o:=k;simp only[Den] at k;obtain⟨a,xs,rfl,z,q⟩:=k;cases l;have B:=I.list z;obtain⟨its,C,m,_⟩:=B;cases e with
     | lst es =>
       have w:=c;simp only[Den] at c;obtain⟨b,ys,rfl,j,r⟩:=c;cases h;by_cases hab:a=b;subst hab;rw[Den.inj I o w,uc];exact SeqAt.EqAt.same _;simp only[Ut];exact SeqAt.EqAt.of_refs hab (jM I n ih 00 00 z j q r).1
     | tup es =>
       simp only[Den] at c;obtain⟨b,ys,rfl,j,_⟩:=c;cases h;obtain⟨its',_,p,_⟩:=I.tuple j;exact SeqAt.EqAt.list_tuple m.isList p f
     | Zc=>simp only[Den] at c;subst c;cases h;exact SeqAt.EqAt.list_none m.isList f
     | bl i=>simp only[Den] at c;subst c;cases h;exact SeqAt.EqAt.list_bool _ m.isList f
     | int i=>simp only[Den] at c;subst c;obtain⟨t,rfl⟩:=h;exact SeqAt.EqAt.list_int _ _ m.isList f
     | str i=>simp only[Den] at c;subst c;obtain⟨t,rfl⟩:=h;exact SeqAt.EqAt.list_str _ _ m.isList f
   | _=>simp only[Qv] at hle;lia
noncomputable def Z4d(K:FR)(neg:Bool):R2:=λx y H Q=>∃ a b xs ys ds c,x=.ref a/\y=.ref b/\((zO K H a xs/\zO K H b ys)\/(zJ K H a xs/\zJ K H b ys))/\Zb K H ds xs/\Zb K H c ys/\xj ds<=20/\
 Q (.bl (if neg then !Yz ds c else Yz ds c)) H
def Z3H(hr:zX k X.A):Yl X (compareOp .Eq) (Z4d X.K false):=by
 intro pins s σ H x y v u Q I i j h;obtain⟨a,b,xs,ys,ds,m,rfl,rfl,f,d,c,hd,q⟩:=h;cases i;cases j;have l:=hr.units;rcases f with⟨ha,hb⟩|⟨ha,hb⟩;exact (Jk (A:=X.A) I 20 (Q2 I 20) hd 00 ha hb d c).1 _ _ _ _ ⟨.bl _,H,I,rfl,q⟩;exact (jM (A:=X.A) I 20 (Q2 I 20) hd 00 ha hb d c).1 _ _ _ _ ⟨.bl _,H,I,rfl,q⟩
def Z1D(hr:zX k X.A):Yl X (compareOp .NotEq) (Z4d X.K true):=by
 intro pins s σ H x y v u Q I i j h;obtain⟨a,b,xs,ys,ds,m,rfl,rfl,f,d,c,hd,q⟩:=h;cases i;cases j;have l:=hr.units;rcases f with⟨ha,hb⟩|⟨ha,hb⟩;exact (Jk (A:=X.A) I 20 (Q2 I 20) hd 00 ha hb d c).2 _ _ _ _ ⟨.bl _,H,I,rfl,q⟩;exact (jM (A:=X.A) I 20 (Q2 I 20) hd 00 ha hb d c).2 _ _ _ _ ⟨.bl _,H,I,rfl,q⟩
noncomputable def Z6g(K:FR):List V->Hp->VK->Prop:=λxs H Q=>∃ x T t b,xs=[x,.ty T]/\XI K H x t/\PySem.W.kitOne K t (.type T)=some b/\Q (.bl b) H
def Qc:Zw X (.builtin "isinstance") (Z6g X.K):=by
 intro pins s σ H xs us Q I r h;obtain⟨x,T,t,b,rfl,ty,e,q⟩:=h;obtain⟨u,f,rfl,d,a⟩:=vals2 r;cases a;exact z4G I d ty e λc=>⟨.bl b,H,I.tok c,rfl,q⟩
def Z2w(K:FR):PySem.W.kitOne K (.type "tuple") (.type "tuple")=some true:=rfl
def Z3x(K:FR):PySem.W.kitOne K (.type "int") (.type "int")=some true:=02
def Z2f(K:FR):PySem.W.kitOne K (.type "int") (.type "bool")=some false:=02
end L2
namespace Pw
noncomputable def mk(a b:Int):Int×Int:=if b<0 then (a.fdiv (-(Int.gcd a b:Int)),b.fdiv (-(Int.gcd a b:Int))) else (a.fdiv (Int.gcd a b:Int),b.fdiv (Int.gcd a b:Int))
noncomputable def Canon(p:Int×Int):Prop:=0<p.2/\Int.gcd p.1 p.2=1
def z9O(h:b≠0):0<(Int.gcd a b:Int):=by
 have:0<Int.gcd a b:=Nat.pos_of_ne_zero λz=>h (Int.gcd_eq_zero_iff.mp z).2;lia
def VL{k m n:Int}(h:k∣m * n)(c:Int.gcd m k=1):k∣n:=by
 have b:k.natAbs∣m.natAbs * n.natAbs:=by rw[← Int.natAbs_mul];exact Int.natAbs_dvd_natAbs.mpr h
 have a:Nat.Coprime k.natAbs m.natAbs:=by
  show Nat.gcd _ _=1;rw[Nat.gcd_comm];exact c
 exact Int.natAbs_dvd_natAbs.mp (Nat.Coprime.dvd_of_dvd_mul_left a b)
def Qh(h:b≠0):Canon (mk a b)/\(mk a b).1 * b=a * (mk a b).2:=by
 have k:=z9O (a:=a) h;obtain⟨x,i⟩:((Int.gcd a b:Nat):Int)∣a:=Int.gcd_dvd_left ..;obtain⟨y,d⟩:((Int.gcd a b:Nat):Int)∣b:=Int.gcd_dvd_right ..;generalize hG:(Int.gcd a b:Int)=g at *;have j:g≠0:=00
 have f:Int.gcd x y=1:=by
  have l:Int.gcd a b=Int.gcd (g * x) (g * y):=by rw[← i,← d]
  rw[Int.gcd_mul_left] at l;have n:(g.natAbs:Int)=g:=00
  have t:(Int.gcd a b:Int)=g.natAbs:=by rw[hG,n]
  have r:Int.gcd a b=g.natAbs:=00
  have o:g.natAbs * Int.gcd x y=g.natAbs * 1:=by rw[← l,r];simp
  exact Nat.eq_of_mul_eq_mul_left 00 o
 have p:a.fdiv g=x:=by rw[i];exact Int.mul_fdiv_cancel_left _ j
 have q:b.fdiv g=y:=by rw[d];exact Int.mul_fdiv_cancel_left _ j
 have s:a.fdiv (-g)=-x:=by
  have:a=(-g) * (-x):=by rw[Int.neg_mul_neg];exact i
  rw[this];exact Int.mul_fdiv_cancel_left _ 00
 have m:b.fdiv (-g)=-y:=by
  have:b=(-g) * (-y):=by rw[Int.neg_mul_neg];exact d
  rw[this];exact Int.mul_fdiv_cancel_left _ 00
 unfold mk;rw[hG];by_cases hb:b<0;rw[if_pos hb,s,m];have c:y<0:=by
  refine Int.not_le.mp λc=>?_;have:=Z4K (Int.le_of_lt k) c;lia
 refine⟨⟨by show 0 < -y;lia,by show Int.gcd (-x) (-y)=1;rw[Int.neg_gcd,Int.gcd_neg];exact f⟩,?_⟩;show -x * b=a * -y;rw[i,d];grind;rw[if_neg hb,p,q];have c:0<y:=by
  refine Int.not_le.mp λc=>?_;have:=Z4K (Int.le_of_lt k) (show 0<=-y by lia);rw[Int.mul_neg,← d] at this;lia
 refine⟨⟨c,f⟩,?_⟩;show x * b=a * y;rw[i,d];grind
def QO(i:Canon p)(c:Canon q)(h:p.1 * q.2=q.1 * p.2):p=q:=by
 obtain⟨b,a⟩:=p;obtain⟨q1,q2⟩:=q;obtain⟨a1,a2⟩:=i;obtain⟨b1,b2⟩:=c;simp only at *;have d:a∣q2:=by
  have:a∣b * q2:=⟨q1,by rw[h];grind⟩;exact VL this a2
 have f:q2∣a:=by
  have:q2∣q1 * a:=⟨b,by rw[← h];grind⟩;exact VL this b2
 have e:a=q2:=Int.dvd_antisymm 00 00 d f;subst e;have:b=q1:=Int.eq_of_mul_eq_mul_right 00 h;rw[this]
def z9F(h:b≠0)(d:Canon p)(hw:p.1 * b=a * p.2):mk a b=p:=by
 obtain⟨c,w⟩:=Qh (a:=a) h;refine QO c d (Int.eq_of_mul_eq_mul_right h ?_);grind
def z8l(h:Canon p):mk p.1 p.2=p:=z9F (by have:=h.1;lia) h (by grind)
def z8m{x:Int}(a:0<=x)(b:0<y):Int.gcd y (x % y)=Int.gcd x y:=by
 obtain⟨m,rfl⟩:=Z3T a;obtain⟨n,rfl⟩:=Z3T (Int.le_of_lt b);show Nat.gcd n (((m:Int) % (n:Int)).natAbs)=Nat.gcd m n;have e:((m:Int) % (n:Int)).natAbs=m % n:=by rw[← Int.natCast_emod,Int.natAbs_natCast]
 rw[e,Nat.gcd_comm m n,Nat.gcd_comm n (m % n),← Nat.gcd_rec]
end Pw
namespace L2
def Za{b:Bool}{A B:Prop}(e:b=true)(a:A):if b=true then A else B:=by rw[if_pos e];exact a
def Ze{b:Bool}{A B:Prop}(e:b=false)(h:B):if b=true then A else B:=by rw[e];exact Z4D h
def if2{b:Bool}{A B:Prop}(c:b=true->A)(a:b=false->B):if b=true then A else B:=by
 cases b with
 | true=>exact Z6E (c rfl)
 | false=>exact Z4D (a rfl)
def vne(h:i≠j):(!decide (V.int i=V.int j))=true:=by
 rw[decide_eq_false (λz=>h (V.int.inj z))];rfl
def veq(h:i=j):(!decide (V.int i=V.int j))=false:=by
 rw[decide_eq_true (congrArg V.int h)];rfl
def yW(n:Nat)(h:k.natAbs<2 ^ n)(l:n<=m:=by decide):Sz m k:=Sz.mono h l
noncomputable def Wt(Pv:Nat->List V->St->Hp->Prop)(n:Nat):Nat->Nat->List V->St->Hp->Prop:=λi m ys σ H=>m=n - i/\i<=n/\Pv i ys σ H
def Wt.next(h:i<n)(p:Pv (i+1) ys σ H):∃ a,a<n - i/\Wt Pv n (i+1) a ys σ H:=⟨n - (i+1),by omega,rfl,h,p⟩
def Ql{g:TG}(Pv:Nat->List V->St->Hp->Prop)(h0:Pv 0 [] σ0 H0)(hl:∀ i ys σ H,Pv i ys σ H->zO K H a xs/\H D=some 034)(j:∀ i x ys σ H,xs[i]?=some x->i<xs.length->Pv i ys σ H->g x σ H λc H3=>tt c H3 λb H4=>if b=true then
  te c H4 λy H5=>H5 D=some 034/\ys.length<sizeLine/\∃ f,f<xs.length - i/\Wt Pv xs.length (i+1) f (ys ++ [y]) c (upd H5 D (.lst (ys ++ [y]))) else ∃ f,f<xs.length - i/\Wt Pv xs.length (i+1) f ys c H4)(hd:∀ ys σ H,Pv xs.length ys σ H->Q 025 H) :
 QD (Itt K a) D g tt te Q σ0 H0:=by
 refine⟨Wt Pv xs.length,⟨xs.length,rfl,Z19 _,h0⟩,?_⟩;rintro i m ys d H' ⟨rfl,hi,p⟩;obtain⟨h,k⟩:=hl i ys d H' p;refine⟨k,?_⟩;by_cases hlt:i<xs.length;refine .inr ⟨⟨xs,xs[i],h,by simp[hlt]⟩,λx H2 y=>?_⟩;obtain⟨e,y⟩:=y;subst e;exact j i x ys d _ (y xs h) hlt p;have e:i=xs.length:=00
 subst e;exact .inl ⟨⟨xs,h,Z01 _⟩,hd ys d H' p⟩
def Z6{g:TG}(Pv:Nat->List V->St->Hp->Prop)(h0:Pv 0 [] σ0 H0)(hl:∀ i ys σ H,Pv i ys σ H->zJ K H a xs/\H D=some 034)(j:∀ i x ys σ H,xs[i]?=some x->i<xs.length->Pv i ys σ H->g x σ H λc H3=>tt c H3 λb H4=>if b=true then
  te c H4 λy H5=>H5 D=some 034/\ys.length<sizeLine/\∃ f,f<xs.length - i/\Wt Pv xs.length (i+1) f (ys ++ [y]) c (upd H5 D (.lst (ys ++ [y]))) else ∃ f,f<xs.length - i/\Wt Pv xs.length (i+1) f ys c H4)(hd:∀ ys σ H,Pv xs.length ys σ H->Q 025 H) :
 QD (Itl K a) D g tt te Q σ0 H0:=by
 refine⟨Wt Pv xs.length,⟨xs.length,rfl,Z19 _,h0⟩,?_⟩;rintro i m ys d H' ⟨rfl,hi,p⟩;obtain⟨h,k⟩:=hl i ys d H' p;refine⟨k,?_⟩;by_cases hlt:i<xs.length;refine .inr ⟨⟨xs,xs[i],h,by simp[hlt]⟩,λx H2 y=>?_⟩;obtain⟨e,y⟩:=y;subst e;exact j i x ys d _ (y xs h) hlt p;have e:i=xs.length:=00
 subst e;exact .inl ⟨⟨xs,h,Z01 _⟩,hd ys d H' p⟩
def VN(e:X.K=K):IxR X (z7c K):=e ▸ zI
def z3p(e:X.K=K):IxR X (z9C K):=e ▸ zG
def jj(K:FR)(H:Hp):∀ ns:List Int,Zb K H (ns.map Dt.int) (ns.map V.int)
 | []=>by simp only[Z3R,Zb]
 | n :: ns=>by
   simp only[Z1Y,Zb];exact⟨_,_,rfl,by simp only[Den],jj K H ns⟩
def jG:∀ ns ms:List Int,Yz (ns.map Dt.int) (ms.map Dt.int)=decide (ns=ms)
 | [],[]=>rfl
 | [],_ :: _=>rfl
 | _ :: _,[]=>rfl
 | n :: ns,m :: ms=>by
   simp only[Z1Y,Yz,Ut];rw[jG ns ms];by_cases h:n=m;subst h;simp;simp[h]
def z4o(K:FR)(H:Hp)(x y:Int):Zb K H [Dt.int x,Dt.int y] [V.int x,V.int y]:=jj K H [x,y]
def Z0O(x y z u:Int):Yz [Dt.int x,Dt.int y] [Dt.int z,Dt.int u]=decide ((x,y)=(z,u)):=by
 rw[show ([Dt.int x,Dt.int y]:List Dt)=[x,y].map Dt.int from rfl,show ([Dt.int z,Dt.int u]:List Dt)=[z,u].map Dt.int from rfl,jG];simp
noncomputable def Kp(p:Addr)(H H':Hp):Prop:=∀ b o,H b=some o->b≠p->H' b=some o
def Kp.trans(a:Kp p H H1)(b:Kp p H1 H2):Kp p H H2:=λc o h n=>b c o (a c o h n) n
def Kp.set:Kp p H (upd H p o):=λb u h n=>by rw[zC n];exact h
def zu.kp(k:zu H H1):Kp p H H1:=λb o e _=>k b o e
def zu.new(a:H q=none):zu H (upd H q o):=λb u h=>by rw[zC (zo h a)];exact h
def zu.z2T(e:zu H H')(h:zO K H a xs):zO K H' a xs:=by
 rcases h with (h |⟨o,h⟩) | h;exact .inl (.inl (e _ _ h));exact .inl (.inr ⟨o,e _ _ h⟩);exact .inr h
noncomputable def YF:Sp:=λvs H Q _=>∃ x y:Int,vs=[.int x,.int y]/\0<=x/\0<=y/\Q (.int (Int.gcd x y:Int)) H
noncomputable def Z1I:Sp:=λvs H Q _=>∃ x y:Int,vs=[.int x,.int y]/\y≠0/\Sz 8000 x/\Sz 8000 y/\∀ p,H p=none->Q (.ref p) (upd H p (.tup [.int (Pw.mk x y).1,.int (Pw.mk x y).2]))
end L2
namespace Pw
noncomputable def z6g(p q:Int×Int):Int×Int:=mk (p.1 * q.2+q.1 * p.2) (p.2 * q.2)
noncomputable def z3s(p q:Int×Int):Int×Int:=mk (p.1 * q.2 - q.1 * p.2) (p.2 * q.2)
noncomputable def u5(p q:Int×Int):Int×Int:=mk (p.1 * q.1) (p.2 * q.2)
structure Fr(A:Int×Int)(n d:Int):Prop where
 canon:Canon A
 ne:d≠0
 w:A.1 * d=n * A.2
def Fr.pos{n:Int}(h:Fr A n d):A.2≠0:=by have:=h.canon.1;lia
def Fr.made{n:Int}(h:d≠0):Fr (Pw.mk n d) n d:=⟨(Qh h).1,h,(Qh h).2⟩
def Fr.of(h:Canon A):Fr A A.1 A.2:=⟨h,by have:=h.1;lia,rfl⟩
end Pw
namespace L2
noncomputable def Z5a(t u:TS):TS:=λD σ H=>∃ R:St->Hp->Prop,t { D with nx:=R } σ H/\∀ a H',R a H'->u D a H'
def z9l{X:Cx}{st:Stmt}{rest:List Stmt}{t u:TS}(d:PS X st t)(c:Xq X rest u):Xq X (st :: rest) (Z5a t u):=by
 intro pins s σ H D I h;obtain⟨R,h,b⟩:=h;refine wpAny_execs_cons (z8 (d pins s σ H { D with nx:=R } I h) λf s1 q=>?_);cases f with
 | next =>
   obtain⟨a,H',I',q⟩:=q;exact c pins s1 a H' D I' (b a H' q)
 | ret v=>exact q
 | brk=>exact q
 | cont=>exact q
noncomputable def Z1q(t:TA):TE:=λσ H Q=>t σ H λxs H1=>xs.length<=sizeLine/\∀ (p:Addr) (H':Hp),zu H1 H'->H1 p=none->H' p=some (.tup xs)->Q (.ref p) H'
noncomputable def Z1l(t:TA):TE:=λσ H Q=>t σ H λxs H1=>xs.length<=sizeLine/\∀ (p:Addr) (H':Hp),zu H1 H'->H1 p=none->H' p=some (.lst xs)->Q (.ref p) H'
def Xd{X:Cx}{a:List Expr}{t:TA}{pos:Pos}{x1}(h:PA X a t):PE X (.Tuple a x1 pos) (Z1q t):=by
 intro pins s σ H Q I c;refine wpAny_Tuple_spliced (z8 (h pos pins s σ H _ I c) λus s1 ⟨xs,H1,I1,r,z,q⟩=>⟨by rw[← r.length];exact z,?_⟩);have hf:H1 s1.heap.objs.size=none:=I1.hok.fresh (Z01 _);refine⟨.ref s1.heap.objs.size,upd H1 s1.heap.objs.size (.tup xs),I1.laid (t':=s1.toks) (λb u e=>ZB _ e) (Z01 _) ?_,rfl,q _ _ (zu.new hf) hf zq⟩;exact⟨z,us,r,⟨_,Z10 _ rfl,rfl,_,rfl⟩⟩
def Yk{X:Cx}{a:List Expr}{t:TA}{pos:Pos}(h:PA X a t):PE X (.List a pos) (Z1l t):=by
 intro pins s σ H Q I c;refine wpAny_List_spliced (z8 (h pos pins s σ H _ I c) λus s1 ⟨xs,H1,I1,r,z,q⟩=>⟨by rw[← r.length];exact z,?_⟩);have hf:H1 s1.heap.objs.size=none:=I1.hok.fresh (Z01 _);refine⟨.ref s1.heap.objs.size,upd H1 s1.heap.objs.size (.lst xs),I1.laid (t':=s1.toks) (λb u e=>ZB _ e) (Z01 _) ?_,rfl,q _ _ (zu.new hf) hf zq⟩;exact⟨z,us,0,r,Z10 _ rfl⟩
noncomputable def VF(n:Nat)(A:Int×Int):Prop:=Sz n A.1/\Sz n A.2
def VF.mono(h:VF n A)(l:n<=m):VF m A:=⟨h.1.mono l,h.2.mono l⟩
noncomputable abbrev Vj(_:FR)(H:Hp)(p:Addr)(A:Int×Int):Prop:=H p=some (.tup [.int A.1,.int A.2])
noncomputable def z2v(K:FR):Sp:=λvs H Q _=>∃ (p q:Addr) (A B:Int×Int),vs=[.ref p,.ref q]/\Vj K H p A/\Vj K H q B/\VF 3000 A/\VF 3000 B/\Q (.bl (decide (A.1 * B.2<B.1 * A.2))) H
end L2
namespace Srt
noncomputable def run{α:Type}(lt:Nat->Nat->Bool):KasT α->α
 | .ret a=>a
 | .ask i j k=>run lt (k (lt i j))
def run_bind{α β:Type}(lt:Nat->Nat->Bool)(f:α->KasT β):∀ t:KasT α,run lt (t.bind f)=run lt (f (run lt t))
 | .ret _=>rfl
 | .ask i j k=>by
   show run lt ((k (lt i j)).bind f)=_;rw[run_bind lt f (k (lt i j))];rfl
noncomputable def e(p:Array Nat)(k:Nat):Nat:=p.getD k 0
def z8A(h:p[i]?=q[k]?):e p i=e q k:=by
 have a:p.getD i 0=(p[i]?).getD 0:=by simp[Array.getD_eq_getD_getElem?]
 have b:q.getD k 0=(q[k]?).getD 0:=by simp[Array.getD_eq_getD_getElem?]
 show p.getD i 0=q.getD k 0;rw[a,b,h]
def ZT(a:j<=p.size)(b:i<=k)(c:k<j):e (kas_rev p i j) k=e p (i+j - 1 - k):=by
 unfold kas_rev;refine z8A ?_;rw[getElem?_mirror a ((j - i) / 2) 00 k];split;rfl;rename_i h;have:i+j - 1 - k=k:=00
 rw[this]
def yi(a:j<=p.size)(h:k<i\/j<=k):e (kas_rev p i j) k=e p k:=by
 unfold kas_rev;refine z8A ?_;rw[getElem?_mirror a ((j - i) / 2) (by omega) k];split;omega;rfl
def z4u(b:k<p.size)(hl:l<=k):e (bubble p k (k - l)) i=if i=l then e p k else if l<i/\i<=k then e p (i - 1) else e p i:=by
 have h:=getElem?_bubble b (k - l) 00 i;have a:k - (k - l)=l:=00
 rw[a] at h;split;rename_i hi;rw[if_pos hi] at h;exact z8A h;rename_i hi;rw[if_neg hi] at h;split;rename_i h2;rw[if_pos h2] at h;exact z8A h;rename_i h2;rw[if_neg h2] at h;exact z8A h
def xu(p:Array Nat)(i j:Nat):(kas_rev p i j).size=p.size:=mirror_size _ _ _ _
def yq(p:Array Nat)(i j:Nat):(kas_rev p i j).Perm p:=mirror_perm _ _ _ _
structure Ord(lt:Nat->Nat->Bool):Prop where
 asym:∀ i j,lt i j=true->lt j i=false
 trans:∀ i j k,lt j i=false->lt k j=false->lt k i=false
section
variable{lt:Nat->Nat->Bool}(O:Ord lt)
noncomputable def Up(lt:Nat->Nat->Bool)(p:Array Nat)(b:Nat):Prop:=∀ k,1<=k->k<b->lt (e p k) (e p (k - 1))=false
noncomputable def Alike(lt:Nat->Nat->Bool)(p:Array Nat)(a b:Nat):Prop:=∀ i j,a<=i->i<b->a<=j->j<b->lt (e p i) (e p j)=false
include O
theorem irr(i:Nat):lt i i=false:=by
 cases h:lt i i with
 | false=>rfl
 | true=>rw[O.asym i i h] at h;cases h
theorem Up.pair(h:Up lt p b):∀ d i,i+d<b->lt (e p (i+d)) (e p i)=false
 | 0,i,_=>irr O _
 | d+1,i,hb=>O.trans _ _ _ (Up.pair h d i 00) (by
     have:=h (i+(d+1)) 00 hb;rw[show i+(d+1) - 1=i+d by lia] at this;exact this)
theorem Up.le(h:Up lt p b)(a:i<=j)(c:j<b):lt (e p j) (e p i)=false:=by
 have:=Up.pair O h (j - i) i 00;rw[show i+(j - i)=j by lia] at this;exact this
theorem z2X:∀ (f n:Nat),1<=n->Up lt p n->n<=run lt (kas_asc p f n)/\run lt (kas_asc p f n)<=n+f/\Up lt p (run lt (kas_asc p f n))/\(run lt (kas_asc p f n)<n+f->lt (e p (run lt (kas_asc p f n))) (e p (run lt (kas_asc p f n) - 1))=true)
 | 0,n,h1,h=>⟨Z01 _,Z01 _,h,λz=>absurd z (Z2I _)⟩
 | f+1,n,h1,h=>by
   have a:run lt (kas_asc p (f+1) n)=run lt (if lt (e p n) (e p (n - 1))=true then KasT.ret n else kas_asc p f (n+1)):=rfl;cases c:lt (e p n) (e p (n - 1)) with
   | true =>
     rw[a,c,if_pos rfl];exact⟨Z01 _,Nat.le_add_right _ _,h,λ_=>c⟩
   | false =>
     rw[a,c,if_neg Z0U];obtain⟨a1,a2,a3,a4⟩:=z2X (p:=p) f (n+1) 00 (λk k1 k2=>by
      by_cases hk:k<n;exact h k k1 hk;have:k=n:=00;subst this;exact c)
     exact⟨00,00,a3,λz=>a4 00⟩
theorem VX(h:Up lt p k):∀ (f l r:Nat),r<=l+f->l<=r->r<=k->(∀ i,i<l->lt (e p k) (e p i)=false)->(∀ i,r<=i->i<k->lt (e p k) (e p i)=true)->
 run lt (kas_place p k f l r)<=k/\(∀ i,i<run lt (kas_place p k f l r)->lt (e p k) (e p i)=false)/\(∀ i,run lt (kas_place p k f l r)<=i->i<k->lt (e p k) (e p i)=true)
 | 0,l,r,h1,h2,h3,h4,h5=>by
   have:r=l:=00
   subst this;exact⟨h3,h4,h5⟩
 | f+1,l,r,h1,h2,h3,h4,h5=>by
   have b:run lt (kas_place p k (f+1) l r)=run lt (if l ≥ r then KasT.ret l else KasT.ask (e p k) (e p ((l+r) / 2)) λc=>if c=true then kas_place p k f l ((l+r) / 2) else kas_place p k f ((l+r) / 2+1) r):=rfl;rw[b];by_cases hlr:l ≥ r;rw[if_pos hlr];have:r=l:=00
   subst this;exact⟨h3,h4,h5⟩;rw[if_neg hlr];have a:run lt (KasT.ask (e p k) (e p ((l+r) / 2)) λc=>if c=true then kas_place p k f l ((l+r) / 2) else kas_place p k f ((l+r) / 2+1) r)=run lt (if lt (e p k) (e p ((l+r) / 2))=true then kas_place p k f l ((l+r) / 2) else kas_place p k f ((l+r) / 2+1) r):=rfl;rw[a];cases c:lt (e p k) (e p ((l+r) / 2)) with
   | true =>
     rw[if_pos rfl];refine VX h f l ((l+r) / 2) 00 00 00 h4 λi i1 i2=>?_;cases d:lt (e p k) (e p i) with
     | true=>rfl
     | false =>
       have:=O.trans _ _ _ (Up.le O h i1 i2) d;rw[c] at this;cases this
   | false =>
     rw[if_neg Z0U];refine VX h f ((l+r) / 2+1) r 00 00 h3 (λi i1=>?_) h5;exact O.trans _ _ _ (Up.le O h (show i<=(l+r) / 2 by lia) 00) c
end
noncomputable def Ls(lt:Nat->Nat->Bool)(i j:Nat):Prop:=lt i j=false/\(lt j i=true\/j<=i)
noncomputable def UpS(lt:Nat->Nat->Bool)(p:Array Nat)(b:Nat):Prop:=∀ k,1<=k->k<b->Ls lt (e p k) (e p (k - 1))
noncomputable def Qf(lt:Nat->Nat->Bool)(p:Array Nat)(b:Nat):Prop:=∀ k,1<=k->k<b->Ls lt (e p (k - 1)) (e p k)
structure Pf(p:Array Nat)(k:Nat):Prop where
 lo:∀ i,i<k->e p i<k
 hi:∀ i,k<=i->i<p.size->e p i=i
def Pf.range(h:k<=n):Pf (List.toArray (List.range n)) k:=by
 have he:∀ i,i<n->e (List.toArray (List.range n)) i=i:=λi hi=>by
  unfold e;rw[Array.getD_eq_getD_getElem?];simp[hi]
 refine⟨λi hi=>?_,λi _ hi=>he i (by simpa using hi)⟩;rw[he i 00];exact hi
def Pf.mono(h:Pf p k)(b:k<=m)(hm:m<=p.size):Pf p m:=⟨λi hi=>by
 by_cases c:i<k;have:=h.lo i c;lia;rw[h.hi i 00 00];exact hi,λi d a=>h.hi i 00 a⟩
def Pf.rev(h:Pf p k)(l:b<=k)(j:k<=p.size):Pf (kas_rev p a b) k:=⟨λi hi=>by
 by_cases c:a<=i/\i<b;rw[ZT 00 c.1 c.2];exact h.lo _ 00;rw[yi 00 00];exact h.lo i hi,λi f d=>by
 rw[xu] at d;rw[yi 00 00];exact h.hi i f d⟩
section
variable{lt:Nat->Nat->Bool}(O:Ord lt)
def UpS.up(h:UpS lt p b):Up lt p b:=λk k1 k2=>(h k k1 k2).1
def UpS.ext(a:Pf p n)(hm:m<=p.size)(h0:UpS lt p n)(h:Up lt p m):UpS lt p m:=λk k1 k2=>by
 by_cases c:k<n;exact h0 k k1 c;refine⟨h k k1 k2,.inr ?_⟩;have b:=a.hi k 00 00;by_cases d:k - 1<n;have:=a.lo (k - 1) d;lia;have:=a.hi (k - 1) 00 00;lia
def Qf.upS(hn:n<=p.size)(h:Qf lt p n):UpS lt (kas_rev p 0 n) n:=λk k1 k2=>by
 rw[ZT (k:=k) hn (Z19 _) k2,ZT (k:=k - 1) hn (Z19 _) 00];have:=h (0+n - 1 - (k - 1)) 00 00;rw[show 0+n - 1 - (k - 1) - 1=0+n - 1 - k by lia] at this;exact this
include O
theorem blk(a:n<=p.size)(l:q+1<=n)(hd:Qf lt p (n - q))(ha:Alike lt p (n - (q+1)) n)(i:1<=n - (q+1)->lt (e p (n - (q+1))) (e p (n - (q+1) - 1))=true)(f:Pf p (n - (q+1))) :
 Qf lt (kas_rev p (n - (q+1)) n) n:=λk k1 k2=>by
 by_cases c:k<n - (q+1);rw[yi (k:=k) a (by omega),yi (k:=k - 1) a (by omega)];exact hd k k1 (by omega);by_cases d:k=n - (q+1);rw[yi (k:=k - 1) a (by omega),ZT (k:=k) a (by omega) k2];have h:=i (by omega);rw[← d] at h;have j:=ha k (n - (q+1)+n - 1 - k) (by omega) k2 (by omega) (by omega);have b:lt (e p (n - (q+1)+n - 1 - k)) (e p (k - 1))=true:=by
  cases hc:lt (e p (n - (q+1)+n - 1 - k)) (e p (k - 1)) with
  | true=>rfl
  | false =>
    have:=O.trans _ _ _ hc j;rw[h] at this;cases this
 exact⟨O.asym _ _ b,.inl b⟩;rw[ZT (k:=k) a (by omega) k2,ZT (k:=k - 1) a (by omega) (by omega)];refine⟨ha _ _ (by omega) (by omega) (by omega) (by omega),.inr ?_⟩;rw[f.hi _ (by omega) (by omega),f.hi _ (by omega) (by omega)];omega
noncomputable def DI(lt:Nat->Nat->Bool)(p:Array Nat)(n q:Nat):Prop:=q+1<=n/\Qf lt p (n - q)/\Alike lt p (n - (q+1)) n/\(1<=n - (q+1)->lt (e p (n - (q+1))) (e p (n - (q+1) - 1))=true)/\Pf p (n - (q+1))
theorem DI.one(h:Qf lt p n)(c:lt (e p n) (e p (n - 1))=true)(d:Pf p n):DI lt p (n+1) 0:=by
 refine⟨00,λk k1 k2=>?_,λi j i1 i2 m l=>?_,λ_=>c,d⟩;by_cases hk:k<n;exact h k k1 hk;have f:k=n:=00
 subst f;exact⟨O.asym _ _ c,.inl c⟩;have b:i=n:=00
 have a:j=n:=00
 subst b a;exact irr O _
theorem z4k(h:lt a b=true)(g:lt c b=false):lt a c=true:=by
 cases d:lt a c with
 | true=>rfl
 | false=>rw[O.trans _ _ _ g d] at h;cases h
theorem Qs:∀ (f:Nat) (p:Array Nat) (n q:Nat),n+f<=p.size->DI lt p n q->∃ r,run lt (kas_desc f p n q)=r/\r.1.Perm p/\n<=r.2.1/\r.2.1<=n+f/\DI lt r.1 r.2.1 r.2.2
 | 0,p,n,q,_,h=>⟨_,rfl,Array.Perm.refl _,Z01 _,Z01 _,h⟩
 | f+1,p,n,q,hz,h=>by
   obtain⟨B,hd,ha,z,o⟩:=id h;have A:run lt (kas_desc (f+1) p n q)=run lt (if lt (e p n) (e p (n - 1))=true then (if q > 0 then kas_desc f (kas_rev p (n - (q+1)) n) (n+1) 0 else kas_desc f p (n+1) 0)
    else .ask (e p (n - 1)) (e p n) λd=>if d=true then .ret (p,n,q) else kas_desc f p (n+1) (q+1)):=rfl
   cases c:lt (e p n) (e p (n - 1)) with
   | true =>
     rw[A,c,if_pos rfl];by_cases q0:q > 0;rw[if_pos q0];have D:=xu p (n - (q+1)) n;have C:=blk O 00 B hd ha z o;have F:lt (e (kas_rev p (n - (q+1)) n) n) (e (kas_rev p (n - (q+1)) n) (n - 1))=true:=by
      rw[yi (k:=n) 00 (Or.inr (Z01 _)),ZT (k:=n - 1) 00 00 00];exact z4k O c (ha (n - (q+1)+n - 1 - (n - 1)) (n - 1) 00 00 00 00)
     obtain⟨r,b,a,v,y,l⟩:=Qs f (kas_rev p (n - (q+1)) n) (n+1) 0 00 (DI.one O C F ((o.mono (m:=n) 00 00).rev (Z01 _) 00));exact⟨r,b,a.trans (yq ..),00,00,l⟩;rw[if_neg q0];have eq:q=0:=00;subst eq;obtain⟨r,b,a,v,y,l⟩:=Qs f p (n+1) 0 00 (DI.one O hd c (o.mono 00 00));exact⟨r,b,a,00,00,l⟩
   | false =>
     rw[A,c,if_neg Z0U];show ∃ r,run lt (if lt (e p (n - 1)) (e p n)=true then KasT.ret (p,n,q) else kas_desc f p (n+1) (q+1))=r/\_;cases c2:lt (e p (n - 1)) (e p n) with
     | true =>
       rw[if_pos rfl];exact⟨_,rfl,Array.Perm.refl _,Z01 _,Nat.le_add_right _ _,h⟩
     | false =>
       rw[if_neg Z0U];have t:Alike lt p (n+1 - (q+1+1)) (n+1):=λi j i1 i2 H G=>by
        by_cases hi:i<n;by_cases hj:j<n;exact ha i j 00 hi 00 hj;have u:j=n:=00;subst u;exact O.trans _ _ _ c2 (ha i (j - 1) 00 hi 00 00);have E:i=n:=00;subst E;by_cases hj:j<i;exact O.trans _ _ _ (ha (i - 1) j 00 00 00 hj) c;have u:j=i:=00;subst u;exact irr O _
       have w:n+1 - (q+1+1)=n - (q+1):=00;have s:n+1 - (q+1)=n - q:=00;obtain⟨r,b,a,v,y,l⟩:=Qs f p (n+1) (q+1) 00 ⟨00,by rw[s];exact hd,t,by rw[w];exact z,by rw[w];exact o⟩;exact⟨r,b,a,00,00,l⟩
noncomputable def RI(lt:Nat->Nat->Bool)(p:Array Nat)(m:Nat)(r:Nat×Array Nat):Prop:=r.2.Perm p/\1<=r.1/\r.1<=m/\UpS lt r.2 r.1/\Pf r.2 r.1
theorem jx(d:1<=n)(hn:n<=m)(i:m<=p.size)(h:Qf lt p n)(b:Pf p n):RI lt p m (run lt (kas_tail3 n m p)):=by
 have c:run lt (kas_tail3 n m p)=(run lt (kas_asc (kas_rev p 0 n) (m - n) n),kas_rev p 0 n):=by
  unfold kas_tail3;rw[run_bind];rfl
 rw[c];have f:=xu p 0 n;have u:=h.upS 00;obtain⟨a1,a2,a3,_⟩:=z2X O (p:=kas_rev p 0 n) (m - n) n d u.up;have a:Pf (kas_rev p 0 n) n:=b.rev (Z01 _) 00;have z:run lt (kas_asc (kas_rev p 0 n) (m - n) n)<=(kas_rev p 0 n).size:=00
 exact⟨yq ..,by show 1<=run lt _;lia,by show run lt _<=m;lia,UpS.ext a z u a3,a.mono a1 z⟩
theorem Qj(hn:n+1<=m)(u:m<=p.size)(h:Qf lt p n)(j:lt (e p n) (e p (n - 1))=true)(k:Pf p n):RI lt p m (run lt (kas_descPart n m p)):=by
 obtain⟨r,f,c,t,s,a5,b,d,l,a⟩:=Qs O (m - (n+1)) p (n+1) 0 00 (DI.one O h j k);have o:run lt (kas_descPart n m p)=run lt (if r.2.2 > 0 then kas_tail3 r.2.1 m (kas_rev r.1 (r.2.1 - (r.2.2+1)) r.2.1) else kas_tail3 r.2.1 m r.1):=by
  unfold kas_descPart;rw[run_bind,f]
 rw[o];have z:=c.size_eq;split;have q:=xu r.1 (r.2.1 - (r.2.2+1)) r.2.1;obtain⟨b1,b2⟩:=jx O (n:=r.2.1) (m:=m) 00 00 00 (blk O 00 a5 b d l a) ((a.mono (m:=r.2.1) 00 00).rev (Z01 _) 00);exact⟨b1.trans ((yq ..).trans c),b2⟩;have i:r.2.2=0:=00
 rw[i] at b a;obtain⟨b1,b2⟩:=jx O (n:=r.2.1) (m:=m) 00 00 00 b (a.mono 00 00);exact⟨b1.trans c,b2⟩
theorem z5A(s:1<=m)(l:m<=p.size)(b:∀ k,k<=m->Pf p k):RI lt p m (run lt (kas_count m p)):=by
 obtain⟨a1,a2,a3,a4⟩:=z2X O (p:=p) (m - 1) 1 (Z01 _) (λk k1 k2=>00);have q:run lt (kas_count m p)=run lt (if (run lt (kas_asc p (m - 1) 1) == m)=true then KasT.ret (run lt (kas_asc p (m - 1) 1),p) else if run lt (kas_asc p (m - 1) 1) > 1 then
  .ask (e p 0) (e p (run lt (kas_asc p (m - 1) 1) - 1)) λc=>if c=true then .ret (run lt (kas_asc p (m - 1) 1),p) else kas_descPart (run lt (kas_asc p (m - 1) 1)) m (kas_rev p 0 (run lt (kas_asc p (m - 1) 1)))
  else kas_descPart (run lt (kas_asc p (m - 1) 1)) m p):=by
  unfold kas_count;rw[run_bind];rfl
 rw[q];generalize run lt (kas_asc p (m - 1) 1)=n at *;have un:UpS lt p n:=UpS.ext (b 0 00) 00 (λk _ k2=>absurd k2 (Z47 _)) a3;have pn:Pf p n:=b n 00;have fin:RI lt p m (n,p):=⟨Array.Perm.refl _,a1,by show n<=m;lia,un,pn⟩;split;exact fin;rename_i hne;have d:n≠m:=λz=>hne (by simp[z]);have a:=a4 00;split;show RI lt p m (run lt (if lt (e p 0) (e p (n - 1))=true then KasT.ret (n,p) else kas_descPart n m (kas_rev p 0 n)));cases c:lt (e p 0) (e p (n - 1)) with
 | true =>
   rw[if_pos rfl];exact fin
 | false =>
   rw[if_neg Z0U];have al:Alike lt p 0 n:=λi j _ i2 _ t=>O.trans _ _ _ (O.trans _ _ _ (Up.le O a3 (show j<=n - 1 by lia) 00) c) (Up.le O a3 (Z19 i) i2);have r:=xu p 0 n;have f:=b 0 00;have o:Qf lt (kas_rev p 0 n) n:=λk k1 k2=>by
    rw[ZT (k:=k) 00 (Z19 _) k2,ZT (k:=k - 1) 00 (Z19 _) 00];refine⟨al _ _ (Z19 _) 00 (Z19 _) 00,.inr ?_⟩;rw[f.hi _ (Z19 _) 00,f.hi _ (Z19 _) 00];lia
   have s1:lt (e (kas_rev p 0 n) n) (e (kas_rev p 0 n) (n - 1))=true:=by
    rw[yi (k:=n) 00 (Or.inr (Z01 _)),ZT (k:=n - 1) 00 (Z19 _) 00];exact z4k O a (al (0+n - 1 - (n - 1)) (n - 1) (Z19 _) 00 (Z19 _) 00)
   obtain⟨b1,b2⟩:=Qj O (n:=n) (m:=m) 00 00 o s1 (pn.rev (Z01 _) 00);exact⟨b1.trans (yq ..),b2⟩
 have h:n=1:=00
 subst h;exact Qj O 00 l (λk k1 k2=>00) a pn
theorem z3E:∀ (f:Nat) (p:Array Nat) (k:Nat),k+f<=p.size->1<=k->UpS lt p k->Pf p k->(run lt (kas_bin f p k)).Perm p/\UpS lt (run lt (kas_bin f p k)) (k+f)
 | 0,p,k,_,_,h,_=>⟨Array.Perm.refl _,h⟩
 | f+1,p,k,hz,d,h,pf=>by
   have n:run lt (kas_bin (f+1) p k)=run lt (kas_bin f (bubble p k (k - run lt (kas_place p k k 0 k))) (k+1)):=by
    show run lt ((kas_place p k k 0 k).bind λl=>kas_bin f (bubble p k (k - l)) (k+1))=_;rw[run_bind]
   rw[n];obtain⟨a1,a2,a3⟩:=VX O h.up k 0 k 00 (Z19 _) (Z01 _) (λi hi=>absurd hi (Z47 _)) (λi d b=>00);generalize run lt (kas_place p k k 0 k)=l at *;have a:k<p.size:=00
   have q:=pf.hi k (Z01 _) a;have up:UpS lt (bubble p k (k - l)) (k+1):=λj m o=>by
    rw[z4u a a1,z4u a a1];by_cases c1:j=l;rw[if_pos c1,if_neg 00,if_neg 00];refine⟨a2 _ 00,.inr ?_⟩;have:=pf.lo (j - 1) 00;lia;rw[if_neg c1];by_cases c2:j - 1=l;rw[if_pos c2,if_pos 00];have:=a3 (j - 1) 00 00;exact⟨O.asym _ _ this,.inl this⟩;rw[if_neg c2];by_cases c3:l<j - 1/\j - 1<=k;rw[if_pos c3,if_pos 00];exact h (j - 1) 00 00;rw[if_neg c3,if_neg 00];exact h j m 00
   have c:Pf (bubble p k (k - l)) (k+1):=⟨λi hi=>by
    rw[z4u a a1];split;lia;split;have:=pf.lo (i - 1) 00;lia;have:=pf.lo i 00;lia,λi d b=>by
    rw[bubble_size] at b;rw[z4u a a1,if_neg 00,if_neg 00];exact pf.hi i 00 b⟩
   obtain⟨b1,b2⟩:=z3E f (bubble p k (k - l)) (k+1) (by rw[bubble_size];lia) 00 up c;rw[show k+(f+1)=k+1+f by lia];exact⟨b1.trans (bubble_perm ..),b2⟩
theorem z0b(hn:1<=n):(run lt (kas_sort n)).toList.Perm (List.range n)/\UpS lt (run lt (kas_sort n)) n:=by
 have d:n<=(List.toArray (List.range n)).size:=05
 obtain⟨a2,a3,a4,a5,a6⟩:=z5A O (p:=List.toArray (List.range n)) hn d λk b=>Pf.range b;have c:run lt (kas_sort n)=run lt (if (run lt (kas_count n (List.toArray (List.range n)))).1<n then kas_bin (n - max (run lt (kas_count n (List.toArray (List.range n)))).1 1) (run lt (kas_count n (List.toArray (List.range n)))).2 (max (run lt (kas_count n (List.toArray (List.range n)))).1 1) else .ret (run lt (kas_count n (List.toArray (List.range n)))).2):=by
  unfold kas_sort;rw[run_bind]
 rw[c];generalize run lt (kas_count n (List.toArray (List.range n)))=r at *;have hm:max r.1 1=r.1:=00
 rw[hm];have z:=a2.size_eq;split;obtain⟨b1,b2⟩:=z3E O (n - r.1) r.2 r.1 00 a3 a5 a6;rw[show r.1+(n - r.1)=n by lia] at b2;exact⟨(b1.trans a2).toList,b2⟩;have a:r.1=n:=00
 rw[a] at a5;exact⟨a2.toList,a5⟩
end
noncomputable def ZS{α:Type}(n:Nat):KasT α->(α->Prop)->Prop
 | .ret a,Q=>Q a
 | .ask i j k,Q=>i<n/\j<n/\∀ b,ZS n (k b) Q
def ZS.bind{α β:Type}{n:Nat}{f:α->KasT β}{Q:β->Prop}:∀ {t:KasT α},ZS n t (λa=>ZS n (f a) Q)->ZS n (t.bind f) Q
 | .ret _,h=>h
 | .ask _ _ _,h=>⟨h.1,h.2.1,λb=>ZS.bind (h.2.2 b)⟩
def Jg{α:Type}{n:Nat}(lt:Nat->Nat->Bool){cmp:Nat->Nat->(Bool->Shared->Prop)->Shared->Prop}{P:Shared->Prop}(h:∀ i j (C:Bool->Shared->Prop) s,i<n->j<n->P s->(∀ s',P s'->C (lt i j) s')->cmp i j C s)
 {Q:α->Shared->Prop}{T:α->Prop}:∀ (t:KasT α) (s:Shared),ZS n t T->P s->(∀ s',P s'->Q (run lt t) s')->t.kasWp cmp Q s
 | .ret a,s,_,p,q=>q s p
 | .ask i j k,s,a,p,q=>h i j _ s a.1 a.2.1 p λs' b=>Jg lt h (k (lt i j)) s' (a.2.2 _) b q
noncomputable def AllLt(n:Nat)(p:Array Nat):Prop:=∀ k,p.getD k 0<n
def AllLt.perm(hn:0<n)(h:AllLt n p)(pm:q.Perm p):AllLt n q:=λk=>by
 by_cases hk:k<q.size;have b:q.getD k 0=q[k]:=by simp[Array.getD,hk]
 rw[b];have hm:q[k]∈q:=Array.getElem_mem hk;have c:q[k]∈p:=by
  have:=pm.toList.mem_iff (a:=q[k]);simpa using this.mp (by simpa using hm)
 obtain⟨j,d,f⟩:=Array.mem_iff_getElem.mp c;have:=h j;have i:p.getD j 0=p[j]:=by simp[Array.getD,d]
 rw[i,f] at this;exact this;have b:q.getD k 0=0:=by simp[Array.getD,hk]
 rw[b];exact hn
section
variable{n:Nat}(hn:0<n)
include hn
theorem uq(h:AllLt n p):∀ f m,ZS n (kas_asc p f m) (λ_=>True)
 | 0,_=>trivial
 | f+1,m=>⟨h _,h _,λb=>by
     cases b with
     | true=>exact trivial
     | false=>exact uq h f (m+1)⟩
theorem xW:∀ (f:Nat) (p:Array Nat) (m q:Nat),AllLt n p->ZS n (kas_desc f p m q) (λr=>AllLt n r.1)
 | 0,p,_,_,h=>h
 | f+1,p,m,q,h=>⟨h _,h _,λb=>by
     cases b with
     | true =>
       show ZS n (if true=true then (if q > 0 then kas_desc f (kas_rev p (m - (q+1)) m) (m+1) 0 else kas_desc f p (m+1) 0) else _) _;rw[if_pos rfl];split;exact xW f _ _ _ (h.perm hn (yq ..));exact xW f _ _ _ h
     | false =>
       show ZS n (if false=true then _ else KasT.ask (p.getD (m - 1) 0) (p.getD m 0) λd=>if d=true then KasT.ret (p,m,q) else kas_desc f p (m+1) (q+1)) _;rw[if_neg Z0U];refine⟨h _,h _,λd=>?_⟩;cases d with
       | true=>exact h
       | false=>exact xW f _ _ _ h⟩
theorem ZS.mono{α:Type}{Q Q':α->Prop}(c:∀ a,Q a->Q' a):∀ {t:KasT α},ZS n t Q->ZS n t Q'
 | .ret a,h=>c a h
 | .ask _ _ _,h=>⟨h.1,h.2.1,λb=>ZS.mono c (h.2.2 b)⟩
theorem VM(h:AllLt n p)(m r:Nat):ZS n (kas_tail3 m r p) (λx=>AllLt n x.2):=by
 have h':=h.perm hn (yq p 0 m);exact ZS.bind (ZS.mono hn (λ_ _=>h') (uq hn h' _ _))
theorem Xv(h:AllLt n p)(m r:Nat):ZS n (kas_descPart m r p) (λx=>AllLt n x.2):=by
 refine ZS.bind (ZS.mono hn (λx a=>?_) (xW hn _ _ _ _ h));split;exact VM hn (a.perm hn (yq ..)) _ _;exact VM hn a _ _
theorem z2t(h:AllLt n p)(r:Nat):ZS n (kas_count r p) (λx=>AllLt n x.2):=by
 refine ZS.bind (ZS.mono hn (λm _=>?_) (uq hn h _ _));split;exact h;split;refine⟨h _,h _,λb=>?_⟩;cases b with
 | true=>exact h
 | false=>exact Xv hn (h.perm hn (yq ..)) _ _
 exact Xv hn h _ _
theorem XQ(h:AllLt n p)(k:Nat):∀ f l r,ZS n (kas_place p k f l r) (λ_=>True)
 | 0,_,_=>trivial
 | f+1,l,r=>by
   show ZS n (if l ≥ r then KasT.ret l else KasT.ask (p.getD k 0) (p.getD ((l+r) / 2) 0) λc=>if c=true then kas_place p k f l ((l+r) / 2) else kas_place p k f ((l+r) / 2+1) r) _;split;exact trivial;refine⟨h _,h _,λb=>?_⟩;cases b with
   | true=>exact XQ h k f _ _
   | false=>exact XQ h k f _ _
theorem z0E:∀ (f:Nat) (p:Array Nat) (k:Nat),AllLt n p->ZS n (kas_bin f p k) (λ_=>True)
 | 0,_,_,_=>trivial
 | f+1,p,k,h=>ZS.bind (ZS.mono hn (λl _=>z0E f _ _ (h.perm hn (bubble_perm ..))) (XQ hn h k _ _ _))
theorem ja:ZS n (kas_sort n) (λ_=>True):=by
 have h0:AllLt n (List.toArray (List.range n)):=λk=>by
  by_cases hk:k<n;simp[Array.getD,hk];simp[Array.getD,hk];exact hn
 refine ZS.bind (ZS.mono hn (λr hr=>?_) (z2t hn h0 n));split;exact z0E hn _ _ _ hr;exact trivial
end
end Srt
namespace L2
def Z0j(vs:List Value):(vs.toArray.zip vs.toArray).map (·.2)=vs.toArray:=by
 apply Z20.mp;simp[List.map_snd_zip]
def Z2G{h:Heap}{a:Addr}{m f:SV}(x:h.Ns a m)(y:h.Ns a f):m=f:=by
 obtain⟨o,l,n,i,hd,_,hm⟩:=x;obtain⟨o',j,k,c,b,_,d⟩:=y;rw[i] at c;cases c;rw[hd] at b;cases b;funext z;rw[← hm z,← d z]
def Zl.there(x:Zl P w H h a o):∃ u,h.get? a=some u:=by
 cases o with
 | lst xs=>obtain⟨_,_,_,_,e⟩:=x;exact⟨_,e⟩
 | tup xs=>obtain⟨_,_,_,ob,e,_⟩:=x;exact⟨_,e⟩
 | dK kvs=>obtain⟨_,_,_,_,o,_,_,e,_⟩:=x;exact⟨_,e⟩
 | dT kvs=>obtain⟨_,_,_,_,o,_,_,e,_⟩:=x;exact⟨_,e⟩
 | set S n=>obtain⟨o,_,_,_,e,_⟩:=x;exact⟨_,e⟩
 | ins C dx fs=>obtain⟨_,_,_,e,_⟩:=x;exact⟨_,e⟩
 | own y=>obtain⟨_,e⟩:=x;exact⟨_,e⟩
 | xd fs=>obtain⟨_,⟨_,_,_,e,_⟩,_⟩:=x;exact⟨_,e⟩
 | rng lo hi=>obtain⟨_,_,_,e⟩:=x;exact⟨_,e⟩
 | frz ob u=>obtain⟨e,_⟩:=x;exact⟨_,e⟩
 | Qd ps=>exact⟨_,(show h.get? a=some _ from x)⟩
 | met f y=>exact⟨_,(show h.get? a=some _ from x)⟩
 | ext φ=>obtain⟨_,⟨_,e⟩,_⟩:=x;exact⟨_,e⟩
def z4J:∀ (xs:List V),xs.length<2->(List.range xs.length).map (λi=>xs.getD i V.Zc)=xs
 | [],_=>rfl
 | [_],_=>rfl
 | _ :: _ :: _,h=>by simp at h;lia
noncomputable def z7z(X:Cx)(s:Shared)(xs:List V)(lt:Nat->Nat->Bool):Prop:=∀ (vs:List Value) (s':Shared),Vals xs vs->2<=vs.length->(∀ b o,b≠X.env.locals->s.heap.get? b=some o->s'.heap.get? b=some o)->∃ κ:SortKind,(∀ (R:SortKind->Shared->Prop),R κ s'->wpAny 06 X.A.in1.in1 (keyKind' vs.toArray) R (λ_ _=>False) s')/\
 ∀ (i j:Nat) (C:Bool->Shared->Prop) (s2:Shared),i<vs.length->j<vs.length->(∀ b o,b≠X.env.locals->s.heap.get? b=some o->s2.heap.get? b=some o)->C (lt i j) s2->kas_ask X.prog X.w X.A.in1.in1 κ vs i j C s2
def JB{A:Around}{vs:List Value}(i:T="list"\/T="tuple")(c:∃ o,s.heap.get? t=some o/\o.cls=.type T/\∃ n,o.data=.seq vs.toArray n)(few:vs.length<=sizeLine)(h:∀ (g:Heap) (D:Addr),(∀ b o,s.heap.get? b=some o->g.get? b=some o)->(∀ b o,s.heap.get? b=some o->b≠D)->g.get? D=some (seqObj "list" vs.toArray 0)->
  wpAny 07 A.in1.in1 (Builtin.«list.sort» ⟨[.ref D],[]⟩) (λfin s'=>fin=.done (.ret .none)/\Q 025 s') E { s with heap:=g }) :
 wpAny 07 A (call (.builtin "sorted") [.ref t]) Q E s:=by
 obtain⟨o,f,j,n,hd⟩:=c;refine Calls.call_function_entry kind_sorted plain_sorted entry_sorted (args_sorted1 _) ?_;unfold Builtin.«sorted»;refine wpAny_bind (m:=checkCount "sorted" 1 1 _) (wpAny_pure ?_);refine wpAny_bind (wpAny_collect_seq t i f j hd (λg kp=>?_) (by rw[Z05];exact few));refine wpAny_bind (wpAny_newList ?_ few);have a:(g.push (seqObj "list" vs.toArray 0)).get? g.objs.size=some (seqObj "list" vs.toArray 0):=Z10 _ rfl;have lt:∀ b o,s.heap.get? b=some o->b<g.objs.size:=λb o e=>Z0w (kp b o e);refine wpAny_bind (wpAny_holding (wpAny_call_entry slot_list_sort ⟨_,a,rfl⟩ entry_list_sort ?body (args_list_sort _)))
 case body =>
  refine wpAny_mono (h (g.push (seqObj "list" vs.toArray 0)) g.objs.size (λb o e=>ZB _ (kp b o e)) (λb o e=>Z13 (lt b o e)) a) (λfin s' hf=>?_) λ_ _ e=>e;obtain⟨rfl,d⟩:=hf;exact⟨_,rfl,wpAny_pure ⟨_,rfl,d⟩⟩
def z1h{g:Heap}{vs:List Value}{Q:Value->Shared->Prop}(keep:∀ b o,s.heap.get? b=some o->g.get? b=some o)(m:∀ b o,s.heap.get? b=some o->b≠D)(d:g.get? D=some (seqObj "list" vs.toArray 0))(r:vs.length<2)(h:∀ (h':Heap) (c:Nat),(∀ b o,s.heap.get? b=some o->h'.get? b=some o)->h'.get? D=some (seqObj "list" vs.toArray c)->Q 025 { s with heap:=h' }) :
 wpAny 07 A (Builtin.«list.sort» ⟨[.ref D],[]⟩) (λfin s'=>fin=.done (.ret .none)/\Q 025 s') E { s with heap:=g }:=by
 obtain⟨l,j⟩:∃ l,(g.update D (Obj.mapSeq λ_=>(#[]:Array Value))).get? D=some (seqObj "list" #[] l):=⟨_,get?_update_seq d λ_=>#[]⟩;have few:vs.length<=sizeLine:=by rw[sizeLine_eq];lia
 rw[list_sort_plain];refine wpAny_bind (listItems_at d rfl ?_);refine wpAny_bind (listUpdate_at d rfl ?_ (by rw[Z05];lia) (Z19 _));refine wpAny_bind (seqEpoch_at j rfl ?_);refine wpAny_bind (wpAny_newTuple ?_ few);refine wpAny_bind (wpAny_newList ?_ (Z19 _));refine wpAny_holding ?_;show wpAny 07 _ _ _ E { s with heap:=((g.update D (Obj.mapSeq λ_=>(#[]:Array Value))).push (seqObj "tuple" vs.toArray 0)).push (seqObj "list" #[] 0) };dsimp only;have i:vs.toArray.size<2:=by rw[Z05];exact r
 rw[if_pos i,if_pos i];refine wpAny_bind (wpAny_pure ?_);refine wpAny_bind (wpAny_pure ?_);dsimp only;have a:(((g.update D (Obj.mapSeq λ_=>(#[]:Array Value))).push (seqObj "tuple" vs.toArray 0)).push (seqObj "list" #[] 0)).get? D=some (seqObj "list" #[] l):=ZB _ (ZB _ j);have f:(arrOf (SortSt.mk' general' (vs.toArray.zip vs.toArray) #[] 7 none)).map (·.2)=vs.toArray:=Z0j vs
 rw[f];refine wpAny_bind (seqEpoch_at a rfl ?_);refine wpAny_bind (listUpdate_at a rfl ?_ (Z19 _) (by show vs.toArray.size<=_;rw[Z05];lia));simp only[bne_self_eq_false,Bool.false_eq_true,if_false];obtain⟨k,n⟩:∃ k,((((g.update D (Obj.mapSeq λ_=>(#[]:Array Value))).push (seqObj "tuple" vs.toArray 0)).push (seqObj "list" #[] 0)).update D (Obj.mapSeq λ_=>vs.toArray)).get? D=some (seqObj "list" vs.toArray k):=⟨_,get?_update_seq a λ_=>vs.toArray⟩;refine wpAny_pure ⟨rfl,h _ k (λb o q=>?_) n⟩;have p:=m b o q;exact (Z52 _ _ (Z3O p)).trans (ZB _ (ZB _ ((Z52 _ _ (Z3O p)).trans (keep b o q))))
def Inv.z1Y{X:Cx}{σ:St}{h':Heap}{ws:List V}{out:List Value}(I:Inv X pins σ H s)(hn:s.heap.Ns X.env.locals m)(F:Fr X.base X.env.locals h' m)(k:∀ b o,b≠X.env.locals->s.heap.get? b=some o->h'.get? b=some o)(a:H D=none)(d:∀ o,s.heap.get? D≠some o)(i:h'.get? D=some { cls:=.type "list",data:=.seq out.toArray c })(r:Vals ws out)(j:ws.length<=sizeLine) :
 Inv X pins σ (upd H D (.lst ws)) { s with heap:=h',toks:=t' }:=by
 have l:∀ b o,s.heap.get? b=some o->b≠D:=λb o e z=>by subst z;exact d o e
 have nL:∀ b u,H b=some u->b≠X.env.locals:=λb u e z=>by rw[z,I.free] at e;cases e
 refine I.step (g':=s.gens) (d':=s.drawn) (ch:=[]) (λ_ z=>nomatch z) (λb o f _ _ e _=>k b o f e) (λb o f _ _ e _=>⟨o.slots,k b o f e⟩) (λb o _ e n=>by rw[zC (l b o e)];exact n) (λb o _ e=>?_)
  (λb xs e=>by rw[zC (zo e a)];exact e) (λb o u e=>by rw[zC (zo e a)];exact e) (λb ps e=>⟨#[],by rw[zC (zo e a),e];simp⟩) (λt hm=>?_) (λb u e=>?_) I.bare
 by_cases hb:b=X.env.locals;obtain⟨o',_,_,h,_⟩:=F.ns;exact⟨o',by rw[hb];exact h⟩;exact⟨o,k b o hb e⟩;rw[← Z2G hn hm];exact F.ns;by_cases hb:b=D;subst hb;rw[zq] at e;cases e;exact⟨j,out,c,r,i⟩;rw[zC hb] at e;refine (I.hok b u e).stay (λx v p q=>k x v ?_ q) (λx q=>by rw[zC (zo q a)];exact q) λx xs q=>by rw[zC (zo q a)];exact q
 rcases p with z | z;rw[z];exact nL b u e;exact nL x _ z
def Jf(p:Array Nat)(j:Nat):p.toList.getD j 0=Srt.e p j:=by
 unfold Srt.e;simp[Z06]
def z7r{X:Cx}{σ:St}{g:Heap}{its:List Value}{xs:List V}(I:Inv X pins σ H s)(t:∀ b o,s.heap.get? b=some o->g.get? b=some o)(d:∀ b o,s.heap.get? b=some o->b≠D)(M:g.get? D=some (seqObj "list" its.toArray 0))(S:Vals xs its)(h64:xs.length<64)(lt:Nat->Nat->Bool)(O:Srt.Ord lt)(h:z7z X s xs lt)(q:∀ (p:List Nat),p.Perm (List.range xs.length)->(∀ k,1<=k->k<xs.length->lt (p.getD k 0) (p.getD (k - 1) 0)=false)->H D=none->Q 025 (upd H D (.lst (p.map λi=>xs.getD i .Zc)))) :
 wpAny 06 X.A.in1.in1 (Builtin.«list.sort» ⟨[.ref D],[]⟩) (λfin s'=>fin=.done (.ret .none)/\EP X pins σ Q 025 s') E { s with heap:=g }:=by
 have hlen:=S.length;by_cases h2:its.length<2;refine z1h t d M h2 λh' c kp ho=>?_;have hf:H D=none:=by
  cases z:H D with
  | none=>rfl
  | some u =>
    obtain⟨o,e⟩:=Zl.there (I.hok D u z);exact absurd rfl (d _ _ e)
 obtain⟨m,hn,_⟩:=id I.loc;have F:Fr X.base X.env.locals h' m:=Fr.kept ⟨hn,I.bk,Z0X I.ok.bsz I.ok.above⟩ kp;have I':Inv X pins σ (upd H D (.lst xs)) { s with heap:=h' }:=I.z1Y (t':=s.toks) hn F (λb o _ e=>kp b o e) hf (λo e=>d _ _ e rfl) ho S (by rw[sizeLine_eq];lia);have v:=q (List.range xs.length) (List.Perm.refl _) (λk k1 k2=>00) hf;have ex:(List.range xs.length).map (λi=>xs.getD i .Zc)=xs:=by
  exact z4J xs 00
 rw[ex] at v;exact⟨.ref D,_,I',rfl,v⟩;obtain⟨m,hn,_⟩:=id I.loc;have F:Fr X.base X.env.locals s.heap m:=⟨hn,I.bk,Z0X I.ok.bsz I.ok.above⟩;have N:News X.base X.env.locals s.heap (yn X.base s.heap X.env.locals):=z0h;have f:∀ {h':Heap}{r:List 013},Fr X.base X.env.locals h' m->News X.base X.env.locals h' r->(∀ p∈yn X.base s.heap X.env.locals,p∈r)->∀ b o,b≠X.env.locals->s.heap.get? b=some o->h'.get? b=some o:=λ{h' r} F' N' sub b o hb e=>by
  cases z:X.base.get? b with
  | some u =>
    have:=I.bk b u z;rw[e] at this;cases this;exact F'.keep b _ z
  | none=>exact (N' (b,o) (sub _ (vI hb z e))).1
 have R:2<=its.length:=00
 have oL:∃ o,s.heap.get? X.env.locals=some o:=by obtain⟨o,_,_,e,_⟩:=F.ns;exact⟨o,e⟩
 obtain⟨oL,eL⟩:=oL;have h0:X.base.get? D=none:=by
  cases z:X.base.get? D with
  | none=>rfl
  | some u=>exact absurd rfl (d _ _ (F.keep _ _ z))
 refine kat_list_sort (s:={ s with heap:=g }) (F.kept t) (N.grown t) M (Z3O (d _ _ eL)) h0 (λp G=>d _ _ (N p G).1) R 00 λT h' F' N'=>?_;have kp:=f F' N' (λp G=>Z03 _ G);have nDD:=N' (D,seqObj "list" #[] T) Z0K;have y:∀ o,s.heap.get? D≠some o:=λo e=>d D o e rfl;have J:H D=none:=by
  cases z:H D with
  | none=>rfl
  | some u =>
    obtain⟨o,e⟩:=Zl.there (I.hok D u z);exact absurd e (y o)
 have hD:∀ q∈yn X.base s.heap X.env.locals,q.1≠D:=λq v=>d _ _ (N q v).1;obtain⟨κ,W,K⟩:=h its { s with heap:=h' } S R kp;refine W _ ?_;have Y:0<its.length:=00
 refine Srt.Jg (n:=its.length) (P:=λs'=>s'={ s with heap:=h' }) lt (λi j C s2 hi hj p2 hc=>by subst p2;exact K i j C _ hi hj kp (hc _ rfl)) (kas_sort its.length) _ (Srt.ja Y) rfl λs2 p2=>?_;subst p2;obtain⟨pm,up⟩:=Srt.z0b O (n:=its.length) 00;generalize Srt.run lt (kas_sort its.length)=p at *;refine KasFin.intro F' N' (.head λx hx=>hD x hx) λh3 c F3 N3=>?_;have U:=f F3 N3 (λp G=>Z03 _ G);have Z:=(N3 (D,listOf (List.toArray (p.toList.map λi=>its.getD i Value.none)) c) Z0K).1;have rel:Vals (p.toList.map λi=>xs.getD i .Zc) (p.toList.map λi=>its.getD i Value.none):=by
  have key:∀ (l:List Nat),(∀ i∈l,i<its.length)->Vals (l.map λi=>xs.getD i .Zc) (l.map λi=>its.getD i Value.none):=by
   intro l
   induction l with
   | nil=>intro _;exact .nil
   | cons a l ih =>
     intro B;have ha:=B a Z0K;have L:a<xs.length:=00;obtain⟨u,hu,ru⟩:=S.get (i:=a) (x:=xs[a]) (by simp[L]);have T:xs.getD a .Zc=xs[a]:=(by simp[L]);have e2:its.getD a Value.none=u:=(by rw[Z06,hu];rfl);rw[Z1Y,Z1Y,T,e2];exact .cons ru (ih λi hi=>B i (Z03 _ hi))
  exact key _ λi hi=>Z3I.mp (pm.mem_iff.mp hi)
 have v:=q p.toList (by rw[hlen];exact pm) (λk k1 k2=>by
  have:=(up k k1 00).1;rw[Jf,Jf];exact this) J
 refine⟨rfl,.ref D,_,I.z1Y (t':=s.toks) hn F3 U J y Z rel ?_,rfl,v⟩;rw[Z00,pm.length_eq,Z36,← hlen];rw[hlen,sizeLine_eq];lia
def uY{X:Cx}{σ:St}{xs:List V}(I:Inv X pins σ H s)(hl:zJ X.K H l xs\/zO X.K H l xs)(h:xs.length<64)(lt:Nat->Nat->Bool)(O:Srt.Ord lt)(d:z7z X s xs lt)(q:∀ (p:List Nat) (D:Addr),p.Perm (List.range xs.length)->(∀ k,1<=k->k<xs.length->lt (p.getD k 0) (p.getD (k - 1) 0)=false)->H D=none->Q 025 (upd H D (.lst (p.map λi=>xs.getD i .Zc)))) :
 wpAny 06 X.A (call (.builtin "sorted") [.ref l]) (EP X pins σ Q) X.xe s:=by
 have ⟨T,hT,its,f,ht⟩:∃ T,(T="list"\/T="tuple")/\∃ its,Vals xs its/\∃ o,s.heap.get? l=some o/\o.cls=.type T/\∃ n,o.data=.seq its.toArray n:=by
  rcases hl with hl | hl;obtain⟨its,f,pl,_⟩:=I.list hl;exact⟨_,.inl rfl,its,f,pl.isList⟩;obtain⟨its,f,pl,_⟩:=I.tuple hl;exact⟨_,.inr rfl,its,f,pl⟩
 refine JB hT ht (by rw[← f.length,sizeLine_eq];lia) λg D kp j m=>?_;exact z7r I kp j m f h lt O d λp a b c=>q p D a b c
def yu{α:Type}{R:α->α->Prop}(tr:∀ a b c,R a b->R b c->R a c):∀ l:List α,(∀ k a b,l[k]?=some a->l[k+1]?=some b->R a b)->l.Pairwise R
 | [],_=>.nil
 | [a],_=>by simp
 | a :: b :: l,h=>by
   have f:=yu tr (b :: l) λk x y j i=>h (k+1) x y (by simpa using j) (by simpa using i);refine Z54.mpr ⟨λc d=>?_,f⟩;rcases Z08.mp d with rfl | d;exact h 0 a c rfl rfl;exact tr a b c (h 0 a b rfl rfl) ((Z54.mp f).1 c d)
def range_getD{α:Type}(l:List α)(d:α):(List.range l.length).map (λi=>l.getD i d)=l:=by
 refine List.ext_getElem 05 λi b a=>?_;simp[a]
def map_getD{α β:Type}{f:α->β}{l:List α}{d:α}{d':β}:∀ {p:List Nat},(∀ i∈p,i<l.length)->(p.map λi=>(l.map f).getD i d')=(p.map λi=>l.getD i d).map f
 | [],_=>rfl
 | i :: p,h=>by
   have hi:=h i Z0K;rw[Z1Y,Z1Y,Z1Y,map_getD (d:=d) (d':=d') λj a=>h j (Z03 _ a)];simp[hi]
def ji{α:Type}{l:List α}{d:α}{p:List Nat}(h:p.Perm (List.range l.length)):(p.map λi=>l.getD i d).Perm l:=by
 have:=h.map (λi=>l.getD i d);rw[range_getD] at this;exact this
def jA(r:Vals xs vs)(h:i<vs.length):RelV (xs.getD i .Zc) (vs.getD i Value.none):=by
 have h':i<xs.length:=by rw[r.length];exact h
 obtain⟨u,a,d⟩:=r.get (i:=i) (x:=xs[i]) (by simp[h']);have b:xs.getD i .Zc=xs[i]:=by simp[h']
 have c:vs.getD i Value.none=u:=by rw[Z06,a];rfl
 rw[b,c];exact d
noncomputable def ltI(ns:List Int)(i j:Nat):Bool:=decide (ns.getD i 0<ns.getD j 0)
def Z0F(ns:List Int):Srt.Ord (ltI ns):=by
 refine⟨λi j h=>?_,λi j k b a=>?_⟩ <;> simp only[ltI,decide_eq_true_eq,decide_eq_false_iff_not] at * <;> lia
noncomputable def uu(p q:Int×Int):Bool:=decide (p.1<q.1\/(p.1=q.1/\p.2<q.2))
noncomputable def yf(p q:Int×Int):Prop:=p.1<q.1\/(p.1=q.1/\p.2<=q.2)
def Z0m(h:uu q p=false):yf p q:=by
 simp only[uu,yf,decide_eq_false_iff_not] at *;lia
def VO(a b c:Int×Int)(f:yf a b)(d:yf b c):yf a c:=by
 simp only[yf] at *;lia
noncomputable def ltP(ps:LI)(i j:Nat):Bool:=uu (ps.getD i (0,0)) (ps.getD j (0,0))
def z9u(ps:LI):Srt.Ord (ltP ps):=by
 refine⟨λi j h=>?_,λi j k b a=>?_⟩ <;> simp only[ltP,uu,decide_eq_true_eq,decide_eq_false_iff_not] at * <;> omega
def vL{α:Type}{R:α->α->Prop}(tr:∀ a b c,R a b->R b c->R a c){l:List α}{d:α}{p:List Nat}(h:p.Perm (List.range l.length)){lt:Nat->Nat->Bool}
 (up:∀ k,1<=k->k<l.length->lt (p.getD k 0) (p.getD (k - 1) 0)=false) (m:∀ i j,lt j i=false->R (l.getD i d) (l.getD j d)):(p.map λi=>l.getD i d).Pairwise R:=by
 refine yu tr _ λk a b ha f=>?_;have hl:p.length=l.length:=by rw[h.length_eq,Z36]
 rw[Z1a] at ha f;cases e1:p[k]? with
 | none=>rw[e1] at ha;cases ha
 | some i =>
   cases e2:p[k+1]? with
   | none=>rw[e2] at f;cases f
   | some j =>
     rw[e1] at ha;rw[e2] at f;have ha:l.getD i d=a:=Z12 ha;have f:l.getD j d=b:=Z12 f;subst ha f;have n:k+1<p.length:=(Z15.mp e2).1;have:=up (k+1) 00 00;have g1:p.getD (k+1) 0=j:=(by rw[Z06,e2];rfl);have g2:p.getD (k+1 - 1) 0=i:=(by rw[Z06,Nat.add_sub_cancel,e1];rfl);rw[g1,g2] at this;exact m i j this
noncomputable def dtP(p:Int×Int):Dt:=.tup [.int p.1,.int p.2]
noncomputable def ZJ(K:FR)(H:Hp)(ps:LI)(vs:List V):Prop:=Zb K H (ps.map dtP) vs
def U9{α:Type}{f:α->Dt}{l:List α}{d:α}{vs:List V}(h:Zb K H (l.map f) vs):∀ {p:List Nat},(∀ i∈p,i<l.length)->Zb K H ((p.map λi=>l.getD i d).map f) (p.map λi=>vs.getD i .Zc)
 | [],_=>by simp only[Z3R,Zb]
 | i :: p,hp=>by
   have hi:=hp i Z0K;simp only[Z1Y,Zb];obtain⟨x,k,dx⟩:=h.get (j:=i) (d:=f l[i]) (by simp[hi]);refine⟨_,_,rfl,?_,U9 h λj a=>hp j (Z03 _ a)⟩;have b:l.getD i d=l[i]:=by simp[hi]
   have c:vs.getD i .Zc=x:=by rw[Z06,k];rfl
   rw[b,c];exact dx
def z7G(h:ZJ K H ps vs)(hi:i<ps.length):∃ a,vs.getD i .Zc=.ref a/\zO K H a [.int (ps.getD i (0,0)).1,.int (ps.getD i (0,0)).2]:=by
 obtain⟨x,k,dx⟩:=Zb.get (j:=i) (d:=dtP ps[i]) h (by simp[hi]);have c:ps.getD i (0,0)=ps[i]:=by simp[hi]
 have f:vs.getD i .Zc=x:=by rw[Z06,k];rfl
 rw[c,f];simp only[dtP,Den,Zb] at dx;obtain⟨a,xs,rfl,b,y,r,rfl,rfl,y2,l,rfl,rfl,rfl⟩:=dx;exact⟨a,rfl,b⟩
def Inv.Z4s{X:Cx}{σ:St}(I:Inv X pins σ H s)(h:zO X.K H a xs):a≠X.env.locals:=by
 rintro rfl;obtain⟨its,_,⟨o,e,c,n,d⟩,_⟩:=I.tuple h;obtain⟨m,⟨o',f,i,b,hd,_⟩,_⟩:=I.loc;rw[e] at b;cases b;rw[d] at hd;cases hd
noncomputable def Z1W(K:FR):List V->Hp->VK->Prop:=λxs H Q=>∃ (l:Addr) (ns:List Int),xs=[.ref l]/\zJ K H l (ns.map V.int)/\ns.length<64/\∀ (ms:List Int) (D:Addr),ms.Perm ns->ms.Pairwise (·<=·)->H D=none->Q 025 (upd H D (.lst (ms.map V.int)))
def JI:Zw X (.builtin "sorted") (Z1W X.K):=by
 intro pins s σ H xs us Q I r h;obtain⟨l,ns,rfl,hl,k,q⟩:=h;obtain⟨u,rfl,rfl⟩:=vals1 r;refine uY I (.inl hl) (by rw[Z00];exact k) (ltI ns) (Z0F ns) (λvs s' f F kp=>?_) λp D pm up B=>?_;have v:=intsAre_of f;refine⟨oneType',λR z=>?_,λi j C s2 hi G _ A=>?_⟩;rw[ksk_kind (keys:=vs.toArray) (kz:=ns) (by simpa using v) (by simpa using F)];exact wpAny_pure z;unfold kas_ask;have hn:vs.length=ns.length:=by rw[← f.length,Z00]
 have n:∀ {i:Nat},i<vs.length->∃ t,vs.getD i Value.none=.int (ns.getD i 0) t:=λ{i} hi=>by
  have o:=jA f hi;have m:i<ns.length:=00
  have e:(ns.map V.int).getD i .Zc=.int (ns.getD i 0):=by simp[m]
  rw[e] at o;exact o
 obtain⟨t,w⟩:=n hi;obtain⟨t',y⟩:=n G;rw[w,y];exact kat_lt_int A;rw[Z00] at pm up;have E:∀ i∈p,i<ns.length:=λi hi=>Z3I.mp (pm.mem_iff.mp hi);rw[map_getD (d:=0) E];exact q _ D (ji pm) (vL (R:=λa b:Int=>a<=b) (λa b c=>Int.le_trans) pm up λi j h=>by simp only[ltI,decide_eq_false_iff_not] at h;lia) B
def Y3(env:Env):∀ (names:List (Str×NameKind)) (cs:List (Str×Addr)),(∀ y∈names,y.2=.free->∃ c,env.cells.lookup y.1=some c)->(∀ p∈cs,env.cells.lookup p.1=some p.2)->
 ∃ cl:List (Str×Addr),(forIn names cs λx cs=>(match x with | (name,kind)=>if (kind == .free)=true then do let __do_lift ←cellOf env name;pure (ForInStep.yield ((name,__do_lift) :: cs)) else pure (ForInStep.yield cs):Sem (ForInStep (List (Str×Addr)))))=pure cl/\
   (∀ p∈cl,env.cells.lookup p.1=some p.2)/\(∀ p∈cs,p∈cl)/\∀ x,(x,NameKind.free)∈names->∃ c,(x,c)∈cl
 | [],cs,_,hc=>⟨cs,by rw[List.forIn_nil],hc,λ_ h=>h,λx h=>by simp at h⟩
 | (n,k) :: names,cs,h,hc=>by
   have h':=λy m=>h y (Z03 _ m);rw[Z5t];by_cases hk:k=.free;subst hk;obtain⟨c,e⟩:=h (n,.free) Z0K rfl;obtain⟨cl,i,f,d,j⟩:=Y3 env names ((n,c) :: cs) h' λp b=>by
    rcases Z08.mp b with rfl | b;exact e;exact hc p b
   refine⟨cl,?_,f,λp b=>d p (Z03 _ b),λx a=>?_⟩;have l:cellOf env n=pure c:=by unfold cellOf;rw[e]
   simp only[l,beq_self_eq_true,if_true,pure_bind];exact i;rcases Z08.mp a with z | a;cases z;exact⟨c,d _ Z0K⟩;exact j x a;obtain⟨cl,i,f,d,j⟩:=Y3 env names cs h' hc;refine⟨cl,?_,f,d,λx a=>?_⟩
   have:(k == NameKind.free)=false:=by simpa using hk
   simp only[this,Bool.false_eq_true,if_false,pure_bind];exact i;rcases Z08.mp a with z | a;cases z;exact absurd rfl hk;exact j x a
def yP{x:Str}:∀ {l:List (Str×Addr)},(x,c)∈l->∃ a,l.lookup x=some a
 | [],h=>by simp at h
 | (n,d) :: l,h=>by
   rw[List.lookup_cons];cases e:x == n with
   | true=>exact⟨d,rfl⟩
   | false =>
     rcases Z08.mp h with z | h;cases z;simp at e;exact yP h
def X7(h:∀ y∈scope.names,y.2=.free->∃ c,env.cells.lookup y.1=some c) :
 ∃ cl,closureFor scope env=pure cl/\(∀ x c,cl.lookup x=some c->env.cells.lookup x=some c)/\∀ x,(x,NameKind.free)∈scope.names->∃ c,cl.lookup x=some c:=by
 obtain⟨cl,f,d,_,i⟩:=Y3 env scope.names [] h (λp j=>by simp at j);refine⟨cl,?_,λx c a=>d (x,c) (Z32 a),λx a=>?_⟩;unfold closureFor;refine Eq.trans (congrArg (λt=>t >>= λcs=>pure cs) ?_) (bind_pure _);exact f;obtain⟨c,b⟩:=i x a;exact yP b
def ZQ{pos:Pos}{g:TG}(N':List Str)(o:List (Option Nat))(f:X.calm=true)(hi:PI X tg iter wi)(d:∀ y∈scope.names,y.2=.free->X.env.scope.names.lookup y.1=some .cell)(a:∀ y∈scope.names,y.2≠.cell)(c:scope.kind=.function)(b:∀ y∈scope.names,y.2=.local->scope.names.lookup y.1=some .local)(i:Uq X (relabel scope X.env) N' o)(w:∀ cl C s H fp,PG 015 tg g)(t:∀ cl C s H fp,PTs 015 ifs tt)(he:∀ cl C s H fp,PE 015 elt te)(v:∀ x,foldedSetIterable iter X.env x=pure x:=by intro _;rfl):PE X 011 (Qk wi o g tt te):=by
 intro pins s σ H Q I h;obtain⟨cl,q,p,m⟩:=X7 (scope:=scope) (env:=X.env) λy j hf=>I.ok.has y.1 (.inl (d y j hf));refine Z0x f hi q p a c b (λx l=>?_) i (w cl) (t cl) (he cl) v pins s σ H Q I h;have key:∀ k,(x,k)∈(relabel scope X.env).names->k=.cell\/k=.free->(x,NameKind.free)∈scope.names:=λk hm u=>by
  unfold relabel at hm;obtain⟨⟨n,r⟩,j,e⟩:=Z23.mp hm;dsimp only at e;split at e;rename_i hc;cases e;have:r=.free:=by simp at hc;exact hc.1.1
  rw[← this];exact j;cases e;rcases u with rfl | rfl;exact absurd rfl (a _ j);exact j
 rcases l with l | l;exact m x (key _ (Z32 l) (.inl rfl));exact m x (key _ (Z32 l) (.inr rfl))
def z7P{lo:Int}{g:TG}(Pv:Nat->List V->St->Hp->Prop)(h0:Pv 0 [] σ0 H0)(hl:∀ i ys σ H,Pv i ys σ H->H D=some 034)(f:∀ i ys σ H,i<n->Pv i ys σ H->g (.int (lo+i)) σ H λa H3=>tt a H3 λb H4=>if b=true then
  te a H4 λy H5=>H5 D=some 034/\ys.length<sizeLine/\∃ d,d<n - i/\Wt Pv n (i+1) d (ys ++ [y]) a (upd H5 D (.lst (ys ++ [y]))) else ∃ d,d<n - i/\Wt Pv n (i+1) d ys a H4)(hd:∀ ys σ H,Pv n ys σ H->Q 025 H) :
 QD (Itr lo n) D g tt te Q σ0 H0:=by
 refine⟨Wt Pv n,⟨n,rfl,Z19 _,h0⟩,?_⟩;rintro i m ys c H' ⟨rfl,hi,p⟩;refine⟨hl i ys c H' p,?_⟩;by_cases hlt:i<n;refine .inr ⟨hlt,λx H2 y=>?_⟩;obtain⟨e,y⟩:=y;subst e y;exact f i ys c _ hlt p;have e:i=n:=00
 subst e;exact .inl ⟨Z01 _,hd ys c H' p⟩
def xX{X:Cx}{K:FR}{a:List Expr}{k:Nat}{t:TGs}{pos:Pos}(n:Nat)(e:X.K=K)(c:X.calm=true)(h:PGs X a t)
 (hn:(assignEach a X.env).length=n:=by rfl) (b:(assignEach a X.env).findIdx? (·.1)=none:=by rfl):PG X (.Tuple a k pos) (z9J K n t):=e ▸ z3f c h hn b
noncomputable def Z4a(K:FR):List V->Hp->VK->Prop:=λxs H Q=>∃ (l:Addr) (ns:List Int),xs=[.ref l]/\zJ K H l (ns.map V.int)/\Q (.int ns.sum) H
def z7H(k:X.calm=true):Zw X (.builtin "sum") (Z4a X.K):=by
 intro pins s σ H xs us Q I r h;obtain⟨l,ns,rfl,hl,q⟩:=h;obtain⟨u,rfl,rfl⟩:=vals1 r;obtain⟨its,c,pl,_⟩:=I.list hl;have hi:=intsAre_of c;obtain⟨xs,b⟩:=hi.allInts.items;have a:s.heap.IsList l (intItems xs):=b ▸ pl.isList;refine sum_intListG (I.ok.hd k) a λh' j t' i=>?_;have d:ns=xs.toList.map (·.1):=by
  rw[← nums_intItems,← b];exact (show numsOf its.toArray.toList=ns from hi.numsOf).symm
 have f:preSum (numAt xs) xs.size=ns.sum:=by
  rw[preSum_eq,Z18 05,d]
 rw[f];exact⟨.int ns.sum,H,I.kept (t':=j) i,⟨_,rfl⟩,q⟩
def z7t{H:Hp}{Q:VK}{o:HO}(h:∀ (p:Addr) (H':Hp),zu H H'->H p=none->H' p=some o->Q (.ref p) H'):∀ p,H p=none->Q (.ref p) (upd H p o):=λp a=>h p _ (zu.new a) a zq
noncomputable def KL(H H':Hp):Prop:=∀ b o,H b=some o->(∀ xs,o≠.lst xs)->H' b=some o
def zu.kl(s:zu H H'):KL H H':=λb o h _=>s b o h
def KL.set(h:H l=some (.lst xs)):KL H (upd H l 034):=λb o e n=>by
 have:b≠l:=by rintro rfl;rw[h] at e;cases e;exact n xs rfl
 rw[zC this];exact e
def KL.tup{H H':Hp}{b:Addr}{xs:List V}(k:KL H H')(h:H b=some (.tup xs)):H' b=some (.tup xs):=k b _ h λ_ z=>by cases z
def KL.z2T(e:KL H H')(h:zO K H a xs):zO K H' a xs:=by
 rcases h with (h |⟨o,h⟩) | h;exact .inl (.inl (e _ _ h λ_ z=>by cases z))
 exact .inl (.inr ⟨o,e _ _ h λ_ z=>by cases z⟩);exact .inr h
def Y4:ZJ K H [] []:=by simp only[ZJ,Z3R,Zb]
def YG(h:zO K H a [.int p.1,.int p.2])(r:ZJ K H ps vs):ZJ K H (p :: ps) (.ref a :: vs):=by
 simp only[ZJ,Z1Y,Zb,dtP,Den];exact⟨_,_,rfl,⟨a,_,rfl,h,_,_,rfl,rfl,_,_,rfl,rfl,rfl⟩,r⟩
def Z1(h:ZJ K H (p :: ps) vs):∃ a r,vs=.ref a :: r/\zO K H a [.int p.1,.int p.2]/\ZJ K H ps r:=by
 simp only[ZJ,Z1Y,Zb,dtP,Den] at h;obtain⟨x,r,rfl,⟨a,xs,rfl,b,y,c,rfl,rfl,y2,d,rfl,rfl,rfl⟩,hr⟩:=h;exact⟨a,r,rfl,b,hr⟩
def ZJ.kl(k:KL H H'):∀ {ps:LI}{vs:List V},ZJ K H ps vs->ZJ K H' ps vs
 | [],vs,h=>by
   simp only[ZJ,Z3R,Zb] at h;subst h;exact Y4
 | p :: ps,vs,h=>by
   obtain⟨a,r,rfl,b,hr⟩:=Z1 h;exact YG (k.z2T b) (ZJ.kl k hr)
def ZJ.snoc(c:zO K H a [.int p.1,.int p.2]):∀ {ps:LI}{vs:List V},ZJ K H ps vs->ZJ K H (ps ++ [p]) (vs ++ [.ref a])
 | [],vs,h=>by
   simp only[ZJ,Z3R,Zb] at h;subst h;exact YG c Y4
 | q :: ps,vs,h=>by
   obtain⟨b,r,rfl,d,hr⟩:=Z1 h;exact YG d (ZJ.snoc c hr)
def ZJ.append{qs:LI}(a:ZJ K H qs us):∀ {ps:LI}{vs:List V},ZJ K H ps vs->ZJ K H (ps ++ qs) (vs ++ us)
 | [],vs,h=>by
   simp only[ZJ,Z3R,Zb] at h;subst h;exact a
 | q :: ps,vs,h=>by
   obtain⟨b,r,rfl,c,hr⟩:=Z1 h;exact YG c (ZJ.append a hr)
def ZJ.len(h:ZJ K H ps vs):vs.length=ps.length:=by
 have:=Zb.length h;rw[Z00] at this;exact this
def ZJ.get{K:FR}{H:Hp}{ps:LI}{vs:List V}(h:ZJ K H ps vs){i:Nat}{v:V}(b:vs[i]?=some v):∃ a p,ps[i]?=some p/\v=.ref a/\zO K H a [.int p.1,.int p.2]:=by
 have hi:i<ps.length:=by rw[← h.len];exact (Z15.mp b).1
 obtain⟨a,e,q⟩:=z7G h hi;have c:vs.getD i .Zc=v:=by rw[Z06,b];rfl
 have d:ps.getD i (0,0)=ps[i]:=by simp[hi]
 rw[c] at e;rw[d] at q;exact⟨a,ps[i],by simp[hi],e,q⟩
def z4M{ns:List Int}(p:ms.Perm ns)(d:ms.Pairwise (·<=·))(c:ns.Pairwise (·<=·)):ms=ns:=p.eq_of_pairwise (λa b _ _ x y=>Int.le_antisymm x y) d c
noncomputable def Z1s:R2:=λx y H Q=>∃ l b xs zs,x=.ref l/\y=.ref b/\H l=some (.lst xs)/\H b=some (.lst zs)/\xs.length+zs.length<=sizeLine/\∀ (p:Addr) (H':Hp),zu H H'->H p=none->H' p=some (.lst (xs ++ zs))->Q (.ref p) H'
noncomputable def z9I(K:FR):List V->Hp->VK->Prop:=λxs H Q=>∃ (l:Addr) (ns:List Int),xs=[.ref l]/\zJ K H l (ns.map V.int)/\ns.length<64/\∀ (ms:List Int) (D:Addr) (H':Hp),ms.Perm ns->ms.Pairwise (·<=·)->zu H H'->H D=none->H' D=some (.lst (ms.map V.int))->Q 025 H'
noncomputable def Z2P(K:FR):List V->Hp->VK->Prop:=λxs H Q=>∃ (p:Addr) (ys:List V),xs=[.ref p]/\zJ K H p ys/\∀ (t:Addr) (H':Hp),zu H H'->H t=none->H' t=some (.tup ys)->Q (.ref t) H'
def Yi:Yl X (binaryOp .Add) Z1s:=λpins s σ H x y v u Q I f i ⟨l,b,xs,zs,a,c,j,h,d,q⟩=>Z3A pins s σ H x y v u Q I f i ⟨l,b,xs,zs,a,c,j,h,d,z7t q⟩
def UJ:Zw X (.builtin "sorted") (z9I X.K):=λpins s σ H xs us Q I r ⟨l,ns,e,f,d,q⟩=>JI pins s σ H xs us Q I r ⟨l,ns,e,f,d,λms D a b c=>q ms D _ a b (zu.new c) c zq⟩
def X9:Zw X (.type "tuple") (Z2P X.K):=λpins s σ H xs us Q I r ⟨p,ys,e,a,q⟩=>Uw pins s σ H xs us Q I r ⟨p,ys,e,.inl ⟨a,z7t q⟩⟩
end L2
namespace Pw
noncomputable def outs(ps:LI)(page:Int):List Int:=(ps.filter λp=>decide (p.1=page)).map (·.2)
def jF(ps:LI)(p:Int×Int)(page:Int):outs (ps ++ [p]) page=outs ps page ++ (if p.1=page then [p.2] else []):=by
 unfold outs;rw[List.filter_append,Z16];by_cases h:p.1=page <;> simp[h]
def xy(ps:LI)(page:Int):(outs ps page).length<=ps.length:=by
 unfold outs;rw[Z00];exact List.length_filter_le ..
end Pw
namespace L2
noncomputable def xN(K:FR)(H:Hp)(w:Addr)(pages:Int)(ps:LI):Prop:=∃ (ws:Addr) (us:List V),H w=some (.tup [.int pages,.ref ws])/\H ws=some (.tup us)/\ZJ K H ps us
def xN.kl(h:xN K H w pages ps)(k:KL H H'):xN K H' w pages ps:=by
 obtain⟨ws,us,a,b,c⟩:=h;exact⟨ws,us,k.tup a,k.tup b,c.kl k⟩
def xN.same(h:xN K H w pages ps)(k:zu H H'):xN K H' w pages ps:=h.kl k.kl
noncomputable def VC(K:FR)(f:LI->Int->List Int):Sp:=λvs H Q _=>∃ (w:Addr) (pages page:Int) (ps:LI),vs=[.ref w,.int page]/\xN K H w pages ps/\ps.length<=100/\
 ∀ (p:Addr) (H':Hp),zu H H'->H p=none->H' p=some (.lst ((f ps page).map V.int))->Q (.ref p) H'
open Builtin in
def Qm(a:Int)(t:Tok)(l:Addr)(items:Array Value)(n:Nat)(dd:Option Addr)(sl:Array (Option Value)) :
 Meets (Builtin.«int.__rmul__» ⟨[.int a t,.ref l],[]⟩) (λ_ R s=>s.heap.get? l=some { cls:=.type "tuple",dict:=dd,data:=.seq items n,slots:=sl }/\R (.ok (.ret Value.notImplemented)) s) :=
 .of_wp λprog w A R s h=>by obtain⟨c,g,d,b,os⟩:=s;obtain⟨hl,h⟩:=h;wp_walk;exact⟨_,rfl,h⟩
def xB:fillsNumberSlot (.type "tuple") "mul"=pure false :=
 PySem.fillsNumberSlot_seq (id:="tuple.__mul__") (r:=some (.builtin "tuple.__rmul__")) F.slot_tuple_mul.lookup 03 F.slot_tuple_rmul.lookup 03
def u0:seqRepeat? (.type "tuple")=pure (some (.builtin "tuple.__mul__")):=by
 unfold seqRepeat?;rw[PySem.seqSlot_of (T:="tuple") (name:="__mul__") (id:="tuple.__mul__") F.slot_tuple_mul.lookup 03,PySem.seqSlot_of (T:="tuple") (name:="__rmul__") (id:="tuple.__rmul__") F.slot_tuple_rmul.lookup 03];rfl
open Builtin in
def z1b(l:Addr)(items:Array Value)(n:Nat)(dd:Option Addr)(sl:Array (Option Value))(u:Tok) :
 Meets (Builtin.«tuple.__mul__» ⟨[.ref l,.int 1 u],[]⟩) (λ_ R s=>s.heap.get? l=some { cls:=.type "tuple",dict:=dd,data:=.seq items n,slots:=sl }/\R (.ok (.ret (.ref l))) s) :=
 .of_wp λprog w A R s h=>by obtain⟨b,g,d,a,os⟩:=s;obtain⟨hl,h⟩:=h;have f1:=AutoSeq1.idx_int;have f2:=AutoSeq1.sub_tuple_tuple;wp_walk using wpAny_loadPart' hl;exact⟨_,rfl,h⟩
open Builtin in
def JM(l:Addr)(items:Array Value)(n:Nat)(dd:Option Addr)(sl:Array (Option Value))(x:Int)(u:Tok)(b:(decide (x < -(2 ^ 63)) || decide (x ≥ 2 ^ 63))=false)(k:(items.isEmpty || x == 1)=false)(j:(decide (x<=0) || items.isEmpty)=false)(a:¬ (items.size * x > (2 ^ 63 - 1) / 8))(f:Builtin.Tuple.tupleTooMany (items.size * x)=false)(c:sizeOk (.seq ((List.replicate x.toNat items).foldl (· ++ ·) #[]))) :
 Meets (Builtin.«tuple.__mul__» ⟨[.ref l,.int x u],[]⟩) (λ_ R s=>s.heap.get? l=some { cls:=.type "tuple",dict:=dd,data:=.seq items n,slots:=sl }/\R (.ok (.ret 023)) { s with heap:=s.heap.push { cls:=.type "tuple",data:=.seq ((List.replicate x.toNat items).foldl (· ++ ·) #[]) } }) :=
 .of_wp λprog w A R s h=>by obtain⟨m,g,d,i,os⟩:=s;obtain⟨hl,h⟩:=h;have f1:=AutoSeq1.idx_int;have f2:=AutoSeq1.sub_tuple_tuple;wp_walk using wpAny_loadPart' hl;refine wpAny_ite_false (by simpa using b) ?_;wp_walk using wpAny_loadPart' hl;refine wpAny_ite_false (decide_eq_false a) ?_;wp_walk using wpAny_loadPart' hl;refine wpAny_ite_false (decide_eq_false (Nat.not_lt.mpr c)) ?_;wp_walk using wpAny_loadPart' hl;exact⟨_,rfl,h⟩
noncomputable def Z4k:R2:=λx y H Q=>∃ l k xs,x=.ref l/\y=.int k/\H l=some (.tup xs)/\xs≠[]/\1<=k/\k<2 ^ 60/\xs.length * k.toNat<=sizeLine/\
 ∀ (p:Addr) (H':Hp),zu H H'->H' p=some (.tup (List.replicate k.toNat xs).flatten)->Q (.ref p) H'
def uL(its:List Value)(m:Nat):List.foldl (λx1 x2=>x1 ++ x2) #[] (List.replicate m its.toArray)=(List.replicate m its).flatten.toArray:=by
 have:∀ (m:Nat) (a:List Value),List.foldl (λx1 x2=>x1 ++ x2) a.toArray (List.replicate m its.toArray)=(a ++ (List.replicate m its).flatten).toArray:=λm=>by
  induction m with
  | zero=>intro a;simp
  | succ m ih=>intro a;rw[Z38,Z55,Z38,Z4X,show a.toArray ++ its.toArray=(a ++ its).toArray by simp,ih (a ++ its),Z25]
 have:=this m [];rw[List.nil_append] at this;exact this
def z9T:Yl X (binaryOp .Mult) Z4k:=by
 intro pins s σ H x y v u Q I E C h;obtain⟨l,k,xs,rfl,rfl,A,i,J,G,d,q⟩:=h;cases E;obtain⟨t,rfl⟩:=C;obtain⟨z,its,r,p⟩:xs.length<=sizeLine/\∃ its:List Value,Vals xs its/\yb s.heap l its.toArray:=I.hok l _ A;have p:=p.tup;obtain⟨⟨cls,dd,data,sl⟩,a,w,n,hd⟩:=id p;simp only at w hd;subst w hd;have hlen:its.toArray.size=xs.length:=by rw[Z05];exact r.length.symm
 have m:0<xs.length:=Z49.mpr i;by_cases hk:k=1;subst hk;refine wpAny_binaryOp_repeat_ref (T:="tuple") (U:="int") 01 ⟨_,a,rfl⟩ (λs'=>typeIs_int s' 1 t) xB F.fills_int_mul F.slot_int_rmul u0 F.slot_int_index.lookup
  (call_meets F.slot_int_rmul (typeIs_int s 1 t) F.entry_int_rmul (F.args_int_rmul_2 _ _) (Qm 1 t l its.toArray n dd sl)
   ⟨a,rfl,⟨_,a,rfl⟩,call_meets F.slot_tuple_mul ⟨_,a,rfl⟩ F.entry_tuple_mul (F.args_tuple_mul_2 _ _) (z1b l its.toArray n dd sl t) ⟨a,?_⟩⟩)
 refine⟨.ref l,H,I,rfl,q l H (zu.refl _) ?_⟩;have:(List.replicate (1:Int).toNat xs).flatten=xs:=by
  show (List.replicate 1 xs).flatten=xs;simp
 rw[this];exact A;have f:(List.replicate k.toNat its).flatten.length<=sizeLine:=by
  rw[len_rep,← r.length,Nat.mul_comm];exact d
 have j:((its.toArray.size:Nat):Int) * k=((xs.length * k.toNat:Nat):Int):=by
  rw[hlen,Int.natCast_mul,Int.toNat_of_nonneg 00]
 have B:((sizeLine:Nat):Int)<=(2 ^ 63 - 1) / 8:=01
 have D:((xs.length * k.toNat:Nat):Int)<=((sizeLine:Nat):Int):=Int.ofNat_le.mpr d;have c:its.toArray.isEmpty=false:=by
  rw[Bool.eq_false_iff];intro h;have:=Array.isEmpty_iff.mp h;have G:its.toArray.size=0:=by rw[this];rfl
  lia
 refine wpAny_binaryOp_repeat_ref (T:="tuple") (U:="int") 01 ⟨_,a,rfl⟩ (λs'=>typeIs_int s' k t) xB F.fills_int_mul F.slot_int_rmul u0 F.slot_int_index.lookup
  (call_meets F.slot_int_rmul (typeIs_int s k t) F.entry_int_rmul (F.args_int_rmul_2 _ _) (Qm k t l its.toArray n dd sl)
   ⟨a,rfl,⟨_,a,rfl⟩,call_meets F.slot_tuple_mul ⟨_,a,rfl⟩ F.entry_tuple_mul (F.args_tuple_mul_2 _ _)
    (JM l its.toArray n dd sl k t (by rw[decide_eq_false 00,decide_eq_false 00];rfl) (by rw[c];simpa using hk) (by rw[c,decide_eq_false 00];rfl)
     (by rw[j];lia) (by unfold Builtin.Tuple.tupleTooMany;rw[j];exact decide_eq_false 00) (by rw[uL];show (List.replicate k.toNat its).flatten.toArray.size<=sizeLine;rw[Z05];exact f)) ⟨a,?_⟩⟩)
 rw[uL];refine⟨.ref s.heap.objs.size,_,I.laid (t':=s.toks) (o:=.tup (List.replicate k.toNat xs).flatten) (λb ob q=>ZB _ q) (Z01 _) ?_,rfl,q _ _ (zu.new I.fresh) zq⟩;exact⟨by rw[len_rep,Nat.mul_comm];exact d,_,r.rep k.toNat,yb.new _ _⟩
def VY:∀ {bs:List Bool}{its:List Value},Vals (bs.map V.bl) its->LSm.BoolsAre its bs
 | [],_,.nil=>.nil
 | b :: bs,_,.cons r t=>by
   cases r;exact .cons b (VY t)
noncomputable def Z5W(K:FR):List V->Hp->VK->Prop:=λxs H Q=>∃ (l:Addr) (bs:List Bool),xs=[.ref l]/\zJ K H l (bs.map V.bl)/\Q (.bl (bs.all id)) H
def xF(p:X.calm=true):Zw X (.builtin "all") (Z5W X.K):=by
 intro pins s σ H xs us Q I r h;obtain⟨l,bs,rfl,hl,q⟩:=h;obtain⟨u,rfl,rfl⟩:=vals1 r;obtain⟨its,k,pl,_⟩:=I.list hl;have f:=VY k;have a:=pl.isList;have j:=I.ok.hd p;have c:l<s.heap.objs.size:=by obtain⟨_,e,_⟩:=a;exact Z0w e
 refine call_all_walk (wpAny_pyIter_list a ?_);refine⟨s.heap.objs.size,[s.heap.objs.size,l],[s.heap.objs.size],its.toArray.size,_,_,λi=>(bs[i]?).getD true,rfl,Walks.list (A:=X.A.in1) j _ l (Z13 c) its.toArray,
  ⟨⟨_,Z10 _ rfl,rfl,rfl⟩,a.push _⟩,λi v s' Q' E' o d=>?_,λh' n m=>?_⟩
 obtain⟨b,e,rfl⟩:=f.get i v (by simpa using o);simp only[e,Option.getD_some] at d;exact wpAny_truthy_bool d;have e:((List.range its.toArray.size).all λi=>(bs[i]?).getD true)=bs.all id:=by
  rw[Z05,f.length];exact LSm.range_all bs
 rw[e];exact⟨.bl (bs.all id),H,I.kept (t':=n) (LSm.kept_iter m),rfl,q⟩
end L2
namespace Pw
def z5c(c:0<b)(ha:0<=a):0<=(mk a b).1:=by
 obtain⟨⟨d,_⟩,w⟩:=Qh (a:=a) (b:=b) 00;have h:0<=(mk a b).1 * b:=by rw[w];exact Z4K ha 00
 exact Int.nonneg_of_mul_nonneg_left h c
def z5T:∀ {l:List Int},(∀ n∈l,0<=n)->0<=l.sum
 | [],_=>by simp
 | a :: l,h=>by
   have:=z5T λn hn=>h n (Z03 _ hn);have:=h a Z0K;rw[List.sum_cons];lia
def Z6w{n:Int}(hn:0<n):mk 1 n=(1,n):=z8l (p:=(1,n)) ⟨hn,by simp[Canon]⟩
end Pw
namespace L2
noncomputable def X8(K:FR)(H:Hp):LI->List V->Prop
 | [],vs=>vs=[]
 | A :: As,vs=>∃ p r,vs=.ref p :: r/\Vj K H p A/\X8 K H As r
noncomputable def Xo(A:Int×Int):Dt:=.tup [.int A.1,.int A.2]
def X8.same(s:zu H H'):∀ {As:LI}{vs:List V},X8 K H As vs->X8 K H' As vs
 | [],_,h=>h
 | _ :: _,_,⟨p,r,e,f,h⟩=>⟨p,r,e,s _ _ f,X8.same s h⟩
def X8.snoc(f:Vj K H p A):∀ {As:LI}{vs:List V},X8 K H As vs->X8 K H (As ++ [A]) (vs ++ [.ref p])
 | [],_,h=>by
   have h:_=([]:List V):=h;subst h;exact⟨p,[],rfl,f,rfl⟩
 | _ :: _,_,⟨q,r,e,g,h⟩=>⟨q,r ++ [.ref p],by rw[e];rfl,g,X8.snoc f h⟩
def X8.len:∀ {As:LI}{vs:List V},X8 K H As vs->vs.length=As.length
 | [],_,h=>by
   have h:_=([]:List V):=h;subst h;rfl
 | _ :: _,_,⟨p,r,e,f,h⟩=>by rw[e];simp[X8.len h]
def X8.kp(k:KL H H'):∀ {As:LI}{vs:List V},X8 K H As vs->X8 K H' As vs
 | [],_,h=>h
 | _ :: _,_,⟨p,r,e,f,h⟩=>⟨p,r,e,k.tup f,X8.kp k h⟩
def X8.at{K:FR}{H:Hp}{As:LI}{vs:List V}(h:X8 K H As vs){j:Nat}{A:Int×Int}(e:As[j]?=some A):∃ p,vs[j]?=some (.ref p)/\Vj K H p A:=by
 induction As generalizing vs j with
 | nil=>simp at e
 | cons B As ih =>
   obtain⟨p,r,rfl,f,h⟩:=h;cases j with
   | zero=>simp at e;subst e;exact⟨p,05,f⟩
   | succ j =>
     obtain⟨q,a,b⟩:=ih h (j:=j) (by simpa using e);exact⟨q,by simpa using a,b⟩
def X8.rep(f:Vj K H p A):∀ n:Nat,X8 K H (List.replicate n A) (List.replicate n [V.ref p]).flatten
 | 0=>rfl
 | n+1=>by
   rw[Z38,Z38,Z4X];exact⟨p,_,rfl,f,X8.rep f n⟩
def z4y(e:X.K=K)(a:X.calm=true):Zw X (.builtin "sum") (Z4a K):=e ▸ z7H a
def ze{X:Cx}{e:Expr}{a:List Expr}{b:TE}{t:TA}(c:starEach (e :: a) X.env=016 :: starEach a X.env)(f:PE X e b)(d:PA X a t):PA X (e :: a) (QI b t):=Y0 f d c
def Zi{X:Cx}{pos:Pos}{i:Nat}{x:Str}{e:Expr}{a:TE}{pos':Pos}(b:swapsWith e (some (.Name x pos')) pos.line X.env=pure false)(hf:X.fn x=true\/X.env.scope.names.lookup x=some .local)(c:X.N.Nodup)(hi:X.N[i]?=some x)(d:Loc X.env.scope x)(he:PE X e a) :
 PS X (.Assign [.Name x pos'] e pos) (z4R a (ZF i)):=Q9 c hi d he b hf
noncomputable def Z6D(K:FR)(neg:Bool):R2:=λx y H Q=>∃ a b xs,x=.ref a/\y=.ref b/\((zO K H a xs/\zO K H b [])\/(zJ K H a xs/\zJ K H b []))/\Q (.bl (if neg then !xs.isEmpty else xs.isEmpty)) H
def z9s{X:Cx}{σ:St}{A:Around}{xs:List V}(I:Inv X pins σ H s)(f:A.units<cLine)(ha:zO X.K H a xs)(n:zO X.K H b []) :
 SeqAt.RcAt A s 024 (.ref b) xs.isEmpty/\SeqAt.RcNeAt A s 024 (.ref b) (!xs.isEmpty):=by
 obtain⟨its,k,d,_⟩:=I.tuple ha;obtain⟨h,m,i,_⟩:=I.tuple n;cases m;have l:=k.length;have q:=SeqAt.RcAt.tuples (A:=A) (s:=s) (e:=λ_=>true) d i f (λj o c=>absurd c (Z47 j));have q2:=SeqAt.RcNeAt.tuples (A:=A) (s:=s) (e:=λ_=>true) d i f (λj o c=>absurd c (Z47 j));have e:((List.range (min its.toArray.size ([]:List Value).toArray.size)).all (λ_=>true) && its.toArray.size == ([]:List Value).toArray.size)=xs.isEmpty:=by
  cases xs <;> cases its <;> simp at l ⊢
 rw[e] at q q2;exact⟨q,q2⟩
def Z0f{X:Cx}{σ:St}{A:Around}{xs:List V}(I:Inv X pins σ H s)(f:A.units<cLine)(ha:zJ X.K H a xs)(o:zJ X.K H b []) :
 SeqAt.RcAt A s 024 (.ref b) xs.isEmpty/\SeqAt.RcNeAt A s 024 (.ref b) (!xs.isEmpty):=by
 obtain⟨its,k,d,_⟩:=I.list ha;obtain⟨l,n,h,_⟩:=I.list o;cases n;have m:=k.length;cases xs with
 | nil =>
   cases k;exact⟨SeqAt.RcAt.lists (A:=A) (s:=s) (e:=λ_=>true) d.isList h.isList rfl f (λj p i=>absurd i (Z47 j)),SeqAt.RcNeAt.lists (A:=A) (s:=s) (e:=λ_=>true) d.isList h.isList rfl f (λj p i=>absurd i (Z47 j))⟩
 | cons x xs =>
   have c:(its.toArray.size != ([]:List Value).toArray.size)=true:=by
    cases its <;> simp at m ⊢
   exact⟨SeqAt.RcAt.lists_lengths d.isList h.isList c f,SeqAt.RcNeAt.lists_lengths d.isList h.isList c f⟩
def z5Z(hr:zX k X.A):Yl X (compareOp .Eq) (Z6D X.K false):=by
 intro pins s σ H x y v u Q I d f h;obtain⟨a,b,xs,rfl,rfl,c,q⟩:=h;cases d;cases f;have i:=hr.units;rcases c with⟨ha,hb⟩|⟨ha,hb⟩;exact (z9s (A:=X.A) I 00 ha hb).1 _ _ _ _ ⟨.bl _,H,I,rfl,q⟩;exact (Z0f (A:=X.A) I 00 ha hb).1 _ _ _ _ ⟨.bl _,H,I,rfl,q⟩
end L2
namespace HT
def z7h{ws:List Value}(l:IsTup s.heap t ([]:List Value).toArray)(m:IsTup s.heap b ws.toArray)(h:Q (.ref b) s):wpAny 07 A (binaryOp .Add (.ref t) (.ref b)) Q E s:=by
 obtain⟨⟨cls,dd,data,sl⟩,i,k,n,hd⟩:=id l;obtain⟨⟨j,d,data2,f⟩,c,a,n2,hd2⟩:=id m;simp only at k hd a hd2;subst k hd a hd2;exact concat_meets ⟨_,i,rfl⟩ ⟨_,c,rfl⟩ noFill_tuple_add seq_tuple_add PySem.F.slot_tuple_add PySem.F.entry_tuple_add (PySem.F.args_tuple_add_2 _ _)
  (tuple_addW0 t b _ ws.toArray n n2 dd d sl f rfl) ⟨i,c,h⟩
end HT
namespace L2
noncomputable def Z2e:R2:=λx y H Q=>∃ a b xs ys,x=.ref a/\y=.ref b/\H a=some (.tup xs)/\H b=some (.tup ys)/\xs.length+ys.length<=sizeLine/\∀ (p:Addr) (H':Hp),zu H H'->H' p=some (.tup (xs ++ ys))->Q (.ref p) H'
def z0M:Yl X (binaryOp .Add) Z2e:=by
 intro pins s σ H x y v u Q I d i h;obtain⟨a,b,xs,ys,rfl,rfl,ha,c,n,q⟩:=h;cases hx:xs with
 | nil =>
   subst hx;cases d;cases i;obtain⟨_,its,k,j⟩:([]:List V).length<=sizeLine/\∃ its:List Value,Vals [] its/\yb s.heap a its.toArray:=I.hok a _ ha;obtain⟨_,f,o,m⟩:ys.length<=sizeLine/\∃ its:List Value,Vals ys its/\yb s.heap b its.toArray:=I.hok b _ c;cases k;exact HT.z7h j.tup m.tup ⟨.ref b,H,I,rfl,q b H (zu.refl _) c⟩
 | cons z zs =>
   refine z8T pins s σ H _ _ v u Q I d i ⟨a,b,xs,ys,rfl,rfl,zO.of ha,zO.of c,by rw[hx];simp,n,λe=>?_,λ_ p l=>q p _ (zu.new l) zq⟩;subst e;exact q a H (zu.refl _) (by rw[Z40];exact ha)
noncomputable def Z1n(K:FR):V->Option Int->Option Int->Hp->VK->Prop:=λx lo hi H Q=>∃ a xs,x=.ref a/\zO K H a xs/\
 ¬ (HT.Z7 xs.length 0 lo=0/\HT.Z7 xs.length xs.length hi=xs.length)/\∀ (p:Addr) (H':Hp),zu H H'->H p=none->H' p=some (.tup (yO xs lo hi))->Q (.ref p) H'
def Ja:SlR X (Z1n X.K):=λpins s σ H x v b h lo hi sl Q I d c pl pu ⟨a,xs,e,i,f,q⟩=>Z2d pins s σ H x v b h lo hi sl Q I d c pl pu ⟨a,xs,e,i,f,z7t q⟩
section
variable{κ:Type}[DecidableEq κ]
end
def Inv.big{σ:St}(I:Inv X pins σ H s):sysModules<s.heap.objs.size:=by
 have h:mainGlobals<s.heap.objs.size:=(I.mod.glob.keeps I.bk).lt;exact Nat.lt_trans 01 h
noncomputable def Z5i(i:Expr):Prop:=∀ a b,subscripted i false a b=operate [a,b] (getItem a b)
def z9S{pos:Pos}{id:String}(hl:typeLookup (.type T) "__getitem__"=pure (some (.builtin id)))(k:Z5i slice)(h:wpAny 07 A (eval value env) (λo s₁=>wpAny 07 A (eval slice env) (λi a=>a.TypeIs o T/\wpAny 07 A (getItem o i) Q E a) E s₁) E s) :
 wpAny 07 A (eval (.Subscript value slice pos) env) Q E s:=by
 refine Subscript_ (wpAny_mono h (λo s₁ d=>wpAny_mono d (λi a b=>?_) λ_ _ x=>x) λ_ _ x=>x);obtain⟨j,b⟩:=b;unfold subscriptTail;refine wpAny_bind ?_;rw[getitemInPython_of_ne j.not_modules];refine wpAny_bind (wpAny_specialOf j hl ?_);have fin:wpAny 07 A (subscripted slice false o i) (λr c=>wpAny 07 A (letTemporaryGo value o r >>= λ_=>pure r) Q E c) E a:=by
  rw[k o i];exact wpAny_operating (wpAny_mono b (λr c f=>wpAny_bind (wpAny_letTemporaryGo (wpAny_pure f))) λ_ _ x=>x)
 first
  | exact wpAny_pure (wpAny_bind fin)
  | exact wpAny_bind (wpAny_pure (wpAny_bind fin))
  | exact wpAny_bind fin
def z5S(h:Heap)(a:sysModules<h.objs.size):Zl P w H (h.push { cls:=.type "dict",data:=.dict #[] }) h.objs.size (.dK []) :=
 ⟨Z19 _,beq_eq_false_iff_ne.mpr (Z3O (Z13 a)),[],.nil,Heap.DictOf.new h⟩
noncomputable def Z2p:TE:=λ_ H Q=>∀ p,H p=none->Q (.ref p) (upd H p (.dK []))
def z6S{pos:Pos}:PE X (.Dict [] [] pos) Z2p:=λpins s σ H Q I h =>
 wpAny_Dict_empty ⟨.ref s.heap.objs.size,_,I.laid (a:=s.heap.objs.size) (o:=.dK []) (t':=s.toks) (λ_ _ q=>ZB _ q) (Z01 _) (z5S s.heap I.big),rfl,h _ (I.hok.fresh (Z01 _))⟩
def z9e{pos:Pos}:PE X (.UnaryOp .USub (.Constant (.int 1) j pos') pos) (tC (.int (-1))):=λpins s σ H Q I h=>z4q JN zF pins s σ H Q I ⟨_,rfl,h⟩
def z9Q{g:TG}{pos:Pos}(a:∀ x:Value,foldedSetIterable iter X.env x=pure x)(f:PassesOwn 06 X.A X.env X.xe)(b:X.calm=true)(hi:PI X tg iter wi)(c:PG X tg g)(d:Xq X body tb) :
 PS X (.For tg iter body [] pos) (Z3d wi g tb):=Z1L f b hi c d a
end L2
namespace Pw
noncomputable def qs:Nat->(Nat->Rat)->Rat
 | 0,_=>0
 | n+1,f=>qs n f+f n
def zN{g:Nat->Rat}:∀ {n:Nat},(∀ i,i<n->f i=g i)->qs n f=qs n g
 | 0,_=>rfl
 | n+1,h=>by
   show qs n f+f n=qs n g+g n;rw[zN (n:=n) λi hi=>h i 00,h n 00]
def Z2(f g:Nat->Rat):∀ n,qs n (λi=>f i+g i)=qs n f+qs n g
 | 0=>by show (0:Rat)=0+0;grind
 | n+1=>by
   show qs n _+(f n+g n)=(qs n f+f n)+(qs n g+g n);rw[Z2 f g n];grind
def zZ(c:Rat)(f:Nat->Rat):∀ n,qs n (λi=>c * f i)=c * qs n f
 | 0=>by show (0:Rat)=c * 0;grind
 | n+1=>by
   show qs n _+c * f n=c * (qs n f+f n);rw[zZ c f n];grind
def Qa:∀ n,qs n (λ_=>0)=0
 | 0=>rfl
 | n+1=>by show qs n _+0=(0:Rat);rw[Qa n];grind
def JC(f:Nat->Nat->Rat)(m:Nat):∀ n,qs n (λi=>qs m (λj=>f i j))=qs m (λj=>qs n (λi=>f i j))
 | 0=>(Qa m).symm
 | n+1=>by
   show qs n _+qs m _=qs m (λj=>qs n (λi=>f i j)+f n j);rw[Z2,JC f m n]
def Q5:∀ {n:Nat},(∀ i,i<n->0<=f i)->0<=qs n f
 | 0,_=>by show (0:Rat)<=0;grind
 | n+1,h=>by
   have b:=Q5 (n:=n) λi hi=>h i 00;have a:=h n 00;show 0<=qs n f+f n;grind
def z1z{g:Nat->Rat}:∀ {n:Nat},(∀ i,i<n->f i<=g i)->qs n f<=qs n g
 | 0,_=>by show (0:Rat)<=0;grind
 | n+1,h=>by
   have b:=z1z (n:=n) λi hi=>h i 00;have a:=h n 00;show qs n f+f n<=qs n g+g n;grind
def x6:∀ {n:Nat},k<n->(∀ i,i<n->i≠k->f i=0)->qs n f=f k
 | n+1,hk,h=>by
   show qs n f+f n=f k;by_cases e:k=n;subst e;rw[zN (g:=λ_=>0) λi hi=>h i 00 00,Qa];grind;rw[x6 (n:=n) 00 λi hi hn=>h i 00 hn,h n 00 00];grind
noncomputable def val(A:Int×Int):Rat:=(A.1:Rat) / (A.2:Rat)
def ZD{d:Int}(h:d≠0):(d:Rat)≠0:=by simpa using h
def div_eq{a b c d:Rat}(f:b≠0)(hd:d≠0):a / b=c / d↔a * d=c * b:=by
 constructor;intro h;grind;intro h;grind
def Z2X{n:Int}(h:Fr A n d):val A=(n:Rat) / (d:Rat):=by
 unfold val;rw[div_eq (ZD h.pos) (ZD h.ne)]
 exact_mod_cast h.w
def val_inj(a:Canon A)(b:Canon B)(h:val A=val B):A=B:=by
 have ha:=(Fr.of a).pos;have c:=(Fr.of b).pos;unfold val at h;rw[div_eq (ZD ha) (ZD c)] at h;exact QO a b (by exact_mod_cast h)
def val_mk(h:b≠0):val (mk a b)=(a:Rat) / (b:Rat):=Z2X (Fr.made h)
def xJ(h:b≠0):Canon (mk a b):=(Qh h).1
def z5h(ha:A.2≠0)(a:B.2≠0):val (z6g A B)=val A+val B:=by
 unfold z6g;rw[val_mk (Int.mul_ne_zero ha a)];unfold val;have b:=ZD ha;have c:=ZD a;rw[Rat.intCast_add,Z1e,Z1e,Z1e];grind
def z5a(ha:A.2≠0)(a:B.2≠0):val (z3s A B)=val A - val B:=by
 unfold z3s;rw[val_mk (Int.mul_ne_zero ha a)];unfold val;have b:=ZD ha;have c:=ZD a;rw[Z46,Z1e,Z1e,Z1e];grind
def V1(ha:A.2≠0)(a:B.2≠0):val (u5 A B)=val A * val B:=by
 unfold u5;rw[val_mk (Int.mul_ne_zero ha a)];unfold val;have b:=ZD ha;have c:=ZD a;rw[Z1e,Z1e];grind
def vJ(ha:A.2≠0)(a:B.2≠0):Canon (z3s A B):=xJ (Int.mul_ne_zero ha a)
def Qn(ha:A.2≠0)(a:B.2≠0):Canon (u5 A B):=xJ (Int.mul_ne_zero ha a)
def ZR(h:Canon A):A.2≠0:=by have:=h.1;lia
def z9i:Canon (0,1):=⟨01,01⟩
def Z3X:val (1,1)=1:=by unfold val;show ((1:Int):Rat) / ((1:Int):Rat)=1;rw[Rat.intCast_one];grind
noncomputable def Z1F(A B:Int×Int)(c m:Int):Int×Int:=z6g (u5 A B) (u5 (z3s (1,1) A) (mk c m))
def z0B(a:Canon A)(b:Canon B)(hm:m≠0):val (Z1F A B c m)=val A * val B+(1 - val A) * ((c:Rat) / (m:Rat)):=by
 have ha:=ZR a;have d:=ZR b;unfold Z1F;rw[z5h (ZR (Qn ha d)) (ZR (Qn (ZR (vJ 01 ha)) (ZR (xJ hm)))),V1 ha d,V1 (ZR (vJ 01 ha)) (ZR (xJ hm)),z5a 01 ha,Z3X,val_mk hm]
noncomputable def yJ(ps:LI)(A:Int×Int)(Bs:LI)(page:Int):LI :=
 if outs ps page=[] then Bs else (List.range Bs.length).map λt=>Z1F A 031 ((outs ps page).count (t:Int):Nat) ((outs ps page).length:Nat)
noncomputable def ZO(Bs:LI):Prop:=∀ B∈Bs,Canon B
def ZO.getD(h:ZO Bs)(t:Nat):Canon 031:=by
 rw[Z06];cases e:Bs[t]? with
 | none=>exact z9i
 | some B=>exact h B (Z2u e)
def xM(h:outs ps page≠[]):(((outs ps page).length:Nat):Int)≠0:=by
 have:=Z49.mpr h;lia
def Q0:∀ {l:List Int},(∀ x∈l,0<=x/\x<n)->qs n (λt=>((l.count (t:Int):Nat):Rat))=((l.length:Nat):Rat)
 | [],_=>by
   rw[zN (g:=λ_=>0) λi _=>05,Qa];simp
 | x :: l,h=>by
   have b:=Q0 (l:=l) λy a=>h y (Z03 _ a);have d:=h x Z0K;rw[zN (g:=λt=>((l.count (t:Int):Nat):Rat)+(if (t:Int)=x then 1 else 0)) λt _=>?_,Z2,b,x6 (k:=x.toNat) 00 λi _ hi=>?_];rw[if_pos 00];simp;rw[if_neg 00];rw[List.count_cons];by_cases c:(t:Int)=x;rw[if_pos c,if_pos (by simp[c])];simp;rw[if_neg c,if_neg (by simpa using λz=>c z.symm)];simp;grind
def yU{f:Nat->Int×Int}{d:Int×Int}(h:t<n):((List.range n).map f).getD t d=f t:=by
 rw[Z06,Z1a,List.getElem?_range h];rfl
def z0a{x:Int}(ok:∀ p∈ps,0<=p.2/\p.2<pages)(h:x∈outs ps page):0<=x/\x<pages:=by
 unfold outs at h;obtain⟨p,a,rfl⟩:=Z23.mp h;exact ok p (List.mem_filter.mp a).1
def z6j(ok:∀ p∈ps,0<=p.2/\p.2<(n:Int))(a:Canon A)(b:ZO Bs)(hn:Bs.length=n)(d:qs n (λt=>val 031)=1) :
 qs n (λt=>val ((yJ ps A Bs page).getD t (0,1)))=1:=by
 unfold yJ;split;exact d;rename_i h;have hm:=xM h;have f:=Q0 (n:=n) (l:=outs ps page) λx i=>z0a ok i;have c:=ZD hm;rw[zN (g:=λt=>val A * val 031+((1 - val A) / ((((outs ps page).length:Nat):Int):Rat)) * (((outs ps page).count (t:Int):Nat):Rat)) λt j=>?_,Z2,zZ,zZ,f,d];have e:((((outs ps page).length:Nat):Int):Rat)=(((outs ps page).length:Nat):Rat):=rfl;rw[e] at c ⊢;grind;rw[yU 00,z0B a (b.getD t) hm];have e:((((outs ps page).count (t:Int):Nat):Int):Rat)=(((outs ps page).count (t:Int):Nat):Rat):=rfl;rw[e];grind
def Je:∀ ws:List Int,qs ws.length (λt=>((ws.getD t 0:Int):Rat))=((ws.sum:Int):Rat):=by
 intro ws;have key:∀ k,k<=ws.length->qs k (λt=>((ws.getD t 0:Int):Rat))=(((ws.take k).sum:Int):Rat):=by
  intro k
  induction k with
  | zero=>intro _;simp[qs]
  | succ k ih =>
    intro a;show qs k _+_=_;have e:ws[k]?=some ws[k]:=05;rw[ih 00,List.take_succ,List.sum_append,Rat.intCast_add,e];show _+((ws.getD k 0:Int):Rat)=_;rw[Z06,e];simp
 have:=key ws.length (Z01 _);rwa [Z18 (Z01 _)] at this
end Pw
namespace L2
def Inv.z9A{X:Cx}{pins:List 013}{σ:St}{H:Hp}{s:Shared}{h':Heap}{ch:List Addr}{t':Nat}(I:Inv X pins σ H s)(k:∀ b ob,b∉ch->s.heap.get? b=some ob->h'.get? b=some ob)(f:∀ b∈ch,xg X pins H b):Inv X pins σ H { s with heap:=h',toks:=t' }:=by
 have d:∀ b u,H b=some u->b∉ch:=λb u q z=>by rw[(f b z).1] at q;cases q
 refine I.step (g':=s.gens) (d':=s.drawn) (ch:=ch) (λb l=>?_) (λb ob _ _ a q _=>k b ob a q) (λb ob _ _ a q _=>⟨ob.slots,k b ob a q⟩) (λ_ _ _ _ n=>n)
  (λb ob a q=>⟨ob,k b ob a q⟩) (λ_ _ q=>q) (λ_ _ _ q=>q) (λb ps q=>⟨#[],by rw[q];simp⟩) (λm hm=>?_) (λb u q=>?_) I.bare
 have z:=f b l;exact⟨z.2.2.2.1,z.2.1,z.2.2.2.2.1,z.2.2.2.2.2⟩;obtain⟨ob,i,j,h,r⟩:=hm;exact⟨ob,i,j,k _ ob (λz=>(f _ z).2.1 rfl) h,r⟩;refine (I.hok b u q).stay (λc v a z=>k c v ?_ z) (λ_ z=>z) λ_ _ z=>z;rcases a with z | z;rw[z];exact d b u q;exact d c _ z
def Inv.z3b{X:Cx}{pins:List 013}{σ:St}{H:Hp}{s:Shared}{h':Heap}{ch:List Addr}{T:Addr}{o:HO}{t':Nat}(I:Inv X pins σ H s)(k:∀ b ob,b∉ch->s.heap.get? b=some ob->h'.get? b=some ob)(i:∀ b∈ch,xg X pins H b)
 (j:s.heap.objs.size<=T) (new:Zl X.prog X.w (upd H T o) h' T o):Inv X pins σ (upd H T o) { s with heap:=h',toks:=t' }:=by
 have hn:H T=none:=I.hok.fresh j;have neT:∀ b ob,s.heap.get? b=some ob->b≠T:=λb ob q=>Z13 (Z0N (Z0w q) j);have d:∀ b u,H b=some u->b∉ch:=λb u q z=>by rw[(i b z).1] at q;cases q
 refine I.step (g':=s.gens) (d':=s.drawn) (ch:=ch) (λb f=>?_) (λb ob _ _ a q _=>k b ob a q) (λb ob _ _ a q _=>⟨ob.slots,k b ob a q⟩)
  (λb ob _ q n=>by rw[zC (neT b ob q)];exact n) (λb ob a q=>⟨ob,k b ob a q⟩)
  (λb xs q=>by rw[zC (zo q hn)];exact q) (λb ob u q=>by rw[zC (zo q hn)];exact q) (λb ps q=>⟨#[],by rw[zC (zo q hn),q];simp⟩) (λm hm=>?_) (λb u q=>?_) I.bare
 have z:=i b f;exact⟨z.2.2.2.1,z.2.1,z.2.2.2.2.1,z.2.2.2.2.2⟩;obtain⟨ob,p,t,l,r⟩:=hm;exact⟨ob,p,t,k _ ob (λz=>(i _ z).2.1 rfl) l,r⟩;by_cases f:b=T;subst f;rw[zq] at q;cases q;exact new;rw[zC f] at q;refine (I.hok b u q).stay (λc v a z=>?_) (λc z=>by rw[zC (zo z hn)];exact z) λc xs z=>by rw[zC (zo z hn)];exact z
 rcases a with h | h;subst h;exact k _ v (d _ u q) z;exact k c v (d c _ h) z
noncomputable def z6A(prog:Program)(w:World)(A:Around)(I:Addr)(wr:List Addr)(n:Nat)(Pt:Nat->Array Value->Prop)(St:Nat->Heap->Prop)(Mid:Nat->Addr->Heap->Prop):Prop :=
 ∀ (i:Nat) (s:Shared) (Q:Option Value->Shared->Prop) (E:Value->Shared->Prop),i<n->St i s.heap->
   (∀ (T:Addr) (x y:Value) (h':Heap) (a:Nat),Pt i #[x,y]->s.heap.objs.size<=T->h'.get? T=some { cls:=.type "tuple",data:=.seq #[x,y] }->Mid i T h'->(∀ b o,b∉wr->s.heap.get? b=some o->h'.get? b=some o)->Q (some (.ref T)) { s with heap:=h',toks:=a })->
   wpAny 07 A (pyNext (.ref I)) Q E s
def z2k{St:Nat->Heap->Prop}(D:Draws prog w A.in1 it fp n Pp St)(e:Addr)(f:e≠it)(c:e∉fp) :
 z6A prog w A e [e,it] n (λi vals=>∃ t x,Pp i x/\vals=#[.int i t,x]) (λi h=>(∃ old,IsEnum h e it i old)/\St i h) (λi T h=>(∃ x,IsEnumOut h e it ((i:Int)+1) x T)/\St (i+1) h/\T≠e/\T≠it):=λi s Q E hi d q=>by
 obtain⟨⟨old,he⟩,j⟩:=d;refine wpAny_pyNext_enum_itemD D he j hi f c λx v u B m a C F r=>?_;have p:e<s.heap.objs.size:=Z0w he;have l:it<s.heap.objs.size:=by obtain⟨_,y⟩:=D.live _ _ j;exact Z0w y
 exact q _ _ _ v (u+1) ⟨_,_,B,rfl⟩ (Z01 _) C ⟨⟨_,m⟩,a,Z3L p,Z3L l⟩ λb o k y=>r b o (λz=>k (by simp[z])) (λz=>k (by simp[z])) y
noncomputable def ItP(go:Nat->Hp->Prop)(pr:Nat->Hp->V->V->Prop)(stop:Nat->Hp->Prop):It:=⟨go,λi H x H'=>∃ T u v,x=.ref T/\H T=none/\H'=upd H T (.tup [u,v])/\pr i H u v,stop⟩
def ur(hI:I∈fp)(hw:∀ b∈wr,b∈fp)(obj:∀ i h,tn i h->∀ b∈fp,∃ o,h.get? b=some o/\∀ v,o.data≠.cell v)(keep:∀ i h h',tn i h->(∀ b∈fp,∀ o,h.get? b=some o->h'.get? b=some o)->tn i h')(self:∀ (A:Around) (i:Nat) (s:Shared) (Q:Value->Shared->Prop) (E:Value->Shared->Prop),tn i s.heap->Q (.ref I) s->wpAny (model P w) A (pyIter (.ref I)) Q E s)(it:∀ (X:Cx),X.prog=P->X.w=w->X.K=K->X.calm=true->∀ (i:Nat) (pins:List 013) (s:Shared) (σ:St) (H:Hp),Inv X pins σ H s->(∀ b∈fp,xg X pins H b)->tn i s.heap->go i H->
  ∃ c n Pt St Mid,(WalksT P w X.A I c wr n Pt St Mid/\z6A P w X.A I wr n Pt St Mid)/\i<n/\St i s.heap/\(∀ h',St (i+1) h'->tn (i+1) h')/\∀ vals,Pt i vals->∃ u v x y,vals=#[x,y]/\RelV u x/\RelV v y/\pr i H u v)(R:∀ (X:Cx),X.prog=P->X.w=w->X.K=K->X.calm=true->∀ (i:Nat) (pins:List 013) (s:Shared) (σ:St) (H:Hp),Inv X pins σ H s->(∀ b∈fp,xg X pins H b)->tn i s.heap->stop i H->
  ∃ c n Pt St Mid,WalksT P w X.A I c wr n Pt St Mid/\St n s.heap) :
 Turn P w K (.Tuple elts ek epos) (ItP go pr stop) fp I tn where
 mem:=hI
 obj:=obj
 keep:=keep
 self:=self
 item:=by
  intro X m a k p i pins s σ H E I0 hf st L;obtain⟨c,n,Pt,St,Mid,⟨W,WN⟩,hi,j,B,D⟩:=it X m a k p i pins s σ H I0 hf st L;subst m a k;refine WN i s _ _ hi j λT x0 y0 S M N r t f C=>⟨.ref T,rfl,?_⟩;refine W.go elts ek epos i T _ _ _ f λh2 G l=>?_;obtain⟨u,v,x,y,z,ru,O,F⟩:=D _ N;cases z;have Z:∀ b∈wr,xg X pins H b:=λb d=>hf b (hw b d);have J:T∉wr:=W.apart i T _ f;have hn:H T=none:=I0.hok.fresh r;have I2:Inv X pins σ (upd H T (.tup [u,v])) { s with heap:=h2,toks:=M } :=
   I0.z3b (ch:=wr) (λb ob d q=>l b ob d (C b ob d q)) Z r ⟨by show 2<=sizeLine;decide,[x0,y0],.cons ru (.cons O .nil),⟨_,l T _ J t,rfl,_,rfl⟩⟩
  refine⟨.ref T,_,I2,rfl,⟨T,u,v,rfl,hn,rfl,F⟩,B _ G,λb d=>?_⟩;obtain⟨ob,U,_⟩:=obj i _ st b d;rw[zC (Z13 (Z0N (Z0w U) r))];exact (hf b d).1
 done:=by
  intro X m a k p i pins s σ H E I0 hf st L;obtain⟨c,n,Pt,St,Mid,W,j⟩:=R X m a k p i pins s σ H I0 hf st L;subst m a k;exact W.done s _ _ j λS M Y=>⟨rfl,I0.z9A Y λb d=>hf b (hw b d)⟩
def z2z(c:s.heap.IsTupleIter j t i)(h:s.heap.IsTuple t its)(k:its[i]?=some y)(q:∀ d,d.IsTupleIter j t (i+1)->Heap.SameBut j s.heap d->Q y { s with heap:=d }):wpAny 07 A (Builtin.SmallTypes.nextOf (.ref j)) Q E s:=by
 obtain⟨n,b,f,a⟩:=id c;obtain⟨o,gt,ct,m,l⟩:=h;unfold Builtin.SmallTypes.nextOf;refine wpAny_bind (wpAny_callSpecial?_slot (name:=Str.ofString "__next__") c.typeIs slot_tupleiter_next (wpAny_call_entry slot_tupleiter_next c.typeIs entry_tupleiter_next ?_ (args_tupleiter_next _)));show wpAny _ _ (field (.ref j) 0 >>= _) _ _ s;refine wpAny_bind (wpAny_field b a (x:=.ref t) rfl ?_);show wpAny _ _ (if (Value.ref t == Value.none)=true then _ else _) _ _ s;rw[if_neg (show ¬ ((Value.ref t == Value.none)=true) from Z0U)];show wpAny _ _ (field (.ref j) 1 >>= _) _ _ s;refine wpAny_bind (wpAny_field b a (x:=.int i 0) rfl ?_);show wpAny _ _ (seqItems? (.ref t) >>= _) _ _ s;refine wpAny_bind (wpAny_seqItems gt l ?_);simp only[Z3o,k];refine wpAny_bind (wpAny_setField b a 05 (wpAny_pure ⟨y,rfl,wpAny_pure (q _ ?_ (Heap.SameBut.update ..))⟩));exact⟨_,Heap.get?_update_self _ b (Obj.isFreed_of_fields (Obj.data_mapFields a _)),(Obj.cls_mapFields ..).trans f,by rw[Obj.data_mapFields a];simp[rawInt]⟩
def z2y(h:A.handled=none)(b:s.heap.IsTupleIter j t i)(k:s.heap.IsTuple t its)(l:its[i]?=none)(q:∀ f e,Heap.ExtBut j s.heap f->(∃ o,f.get? e=some o/\o.cls=.type "StopIteration")->E (.ref e) { s with heap:=f }):wpAny 07 A (Builtin.SmallTypes.nextOf (.ref j)) Q E s:=by
 obtain⟨u,c,p,d⟩:=id b;obtain⟨v,gt,ct,r,n⟩:=k;unfold Builtin.SmallTypes.nextOf;refine wpAny_bind (wpAny_callSpecial?_slot (name:=Str.ofString "__next__") b.typeIs slot_tupleiter_next (wpAny_call_entry slot_tupleiter_next b.typeIs entry_tupleiter_next ?_ (args_tupleiter_next _)));show wpAny _ _ (field (.ref j) 0 >>= _) _ _ s;refine wpAny_bind (wpAny_field c d (x:=.ref t) rfl ?_);show wpAny _ _ (if (Value.ref t == Value.none)=true then _ else _) _ _ s;rw[if_neg (show ¬ ((Value.ref t == Value.none)=true) from Z0U)];show wpAny _ _ (field (.ref j) 1 >>= _) _ _ s;refine wpAny_bind (wpAny_field c d (x:=.int i 0) rfl ?_);show wpAny _ _ (seqItems? (.ref t) >>= _) _ _ s;refine wpAny_bind (wpAny_seqItems gt n ?_);simp only[Z3o,l];refine wpAny_bind (wpAny_rule (wpAny_bind (wpAny_setField c d 05 ?_)));show wpAny _ _ (newExc (.type "StopIteration") [] >>= _) _ _ _;refine wpAny_bind ?_;simp only[newExc,newTuple];refine wpAny_bind (wpAny_newObj_type ?_ (by size_fits));refine wpAny_bind (m:=firstArgMember _ _) (wpAny_of_eq (a:=Value.none) (by first | rfl | (simp only[firstArgMember];rfl)) ?_)
 refine wpAny_newObj_type ?_ (by size_fits);simp only[raiseNew];refine wpAny_bind (wpAny_handled ?_)
 first | rw[show A.in1.handled=none from h] | rw[h]
 refine wpAny_bind (wpAny_pure (wpAny_throw ?_));exact q _ _ (((Heap.SameBut.update ..).extBut.push _).push _) ⟨_,Z10 _ rfl,rfl⟩
def Z1B(j:A.handled=none)(it l:Addr)(d:l≠it)(its:Array Value) :
 Draws prog w A it [it,l] its.size (λi v=>its[i]?=some v) (λi h=>h.IsTupleIter it l i/\h.IsTuple l its) where
 live:=λ_ _ st=>by
  obtain⟨o,c,_⟩:=st.1;exact⟨o,c⟩
 frame:=λ_ _ _ st f=>by
  obtain⟨o,c,r⟩:=st.2;exact⟨st.1.at λo e=>f it 05 o e,o,f l 05 o c,r⟩
 item:=λi s Q E hi st m=>by
  obtain⟨s1,o,c,r⟩:=st;exact z2z s1 ⟨o,c,r⟩ (y:=its[i]) (by simp[hi]) λn a b=>m _ n s.toks (by simp[hi]) ⟨a,o,b.extBut l o d c,r⟩ b
 done:=λs Q E st k=>z2y j st.1 st.2 05 k
noncomputable def z5L(K:FR)(a:Addr):It:=ItP (λi H=>∃ xs x,zJ K H a xs/\xs[i]?=some x) (λi H u v=>u=.int i/\∀ xs,zJ K H a xs->xs[i]?=some v) (λi H=>∃ xs,zJ K H a xs/\xs.length=i)
def z2C{e:Addr}(c:e≠it)(F:a≠e)(f:a≠it):Turn P w K (.Tuple elts ek epos) (z5L K a) [e,it] e (λi h=>(∃ old,IsEnum h e it i old)/\h.IsListIter it a i):=by
 have d:e∉[it,a]:=λz=>by
  rcases Z08.mp z with z | z;exact c z;exact F (Z04.mp z).symm
 refine ur (wr:=[e,it]) 05 (λb C=>C) (λi h st b C=>?_) (λi h h' st k=>?_) (λA i s Q E st q=>?_) ?_ ?_;obtain⟨⟨old,g⟩,o,L,oc,od⟩:=st;rcases Z08.mp C with z | z;subst z;exact⟨_,g,λv z=>by cases z⟩
 have z:=Z04.mp z;subst z;exact⟨o,L,λv z=>by rw[od] at z;cases z⟩;obtain⟨⟨old,g⟩,g2⟩:=st;exact⟨⟨old,k e 05 _ g⟩,g2.at λo z=>k it 05 o z⟩;obtain⟨⟨old,g⟩,g2⟩:=st;exact wpAny_pyIter_enum g q;intro X R G m r i pins s σ H I0 hf st I;obtain⟨xs,x,j,B⟩:=I;rw[← m] at j;obtain⟨its,n,p,O⟩:=I0.list j;obtain⟨u,M,T⟩:=n.get B;have hl:=n.length;have J:i<xs.length:=(Z15.mp B).1;refine⟨_,_,_,_,_,⟨WalksT.enumerateD (Draws.list (prog:=P) (w:=w) (A:=X.A.in1) (I0.ok.hd r) it a f its.toArray) e c d 05,z2k (Draws.list (prog:=P) (w:=w) (A:=X.A.in1) (I0.ok.hd r) it a f its.toArray) e c d⟩,by rw[Z05];lia,⟨st.1,st.2,p.isList⟩,λh' z=>⟨z.1,z.2.1⟩,?_⟩;rintro vals ⟨t,y,S,rfl⟩;refine⟨.int i,x,_,y,rfl,⟨t,rfl⟩,?_,rfl,λys D=>?_⟩;have:its[i]?=some y:=by simpa using S
 rw[M] at this;cases this;exact T;have l:zJ X.K H a ys:=by rw[m];exact D
 rw[I0.Qu l j];exact B;intro X R G m r i pins s σ H I0 hf st I;obtain⟨xs,j,B⟩:=I;rw[← m] at j;obtain⟨its,n,p,O⟩:=I0.list j;have hl:=n.length;have N:its.toArray.size=i:=by rw[Z05];lia
 refine⟨_,_,_,_,_,WalksT.enumerateD (Draws.list (prog:=P) (w:=w) (A:=X.A.in1) (I0.ok.hd r) it a f its.toArray) e c d 05,?_⟩;rw[N];exact⟨st.1,st.2,p.isList⟩
noncomputable def Z4R(K:FR)(b:TA):TI:=λσ H R=>b σ H λvs H1=>∃ a xs,vs=[.ref a]/\zJ K H1 a xs/\R (z5L K a) H1
def Z2F{pos:Pos}(m:Gl X "enumerate")(hm:X.mg "enumerate"=none)(ha:PA X [a] ta)(k:starEach [a] X.env=[(false,eval a X.env)]:=by rfl):PI X (.Tuple elts ek epos) (.Call (.Name "enumerate" p) [a] [] pos) (Z4R X.K ta):=by
 intro pins s σ H R I h;refine Call_ (yX I m hm boot_enumerate (Z33 (z8 (ha pos pins s σ H _ I h) λus s1 ⟨vs,H1,I1,f,q1⟩=>?_) k rfl));obtain⟨l,xs,rfl,hl,q⟩:=q1;obtain⟨u,rfl,n⟩:=vals1 f;cases n;obtain⟨its,t,pl,v⟩:=id (I1.list hl);have c:l<s1.heap.objs.size:=by obtain⟨o,z,_⟩:=pl.isList;exact Z0w z
 refine call_enumerate_list pl.isList λr he hit i j=>?_;have I2:Inv X pins σ H1 { s1 with heap:=r }:=I1.kept (t':=s1.toks) j;have nx:∀ b,s1.heap.objs.size<=b->xg X pins H1 b:=λb d=>I1.z0G d (I1.hok.fresh d);refine wpAny_pyIter_enum he ⟨_,[s1.heap.objs.size+1,s1.heap.objs.size],_,_,H1,rfl,I2,z2C (Nat.succ_ne_self _) (Z13 (Nat.lt_succ_of_lt c)) (Z13 c),⟨⟨_,he⟩,hit⟩,λb d=>?_,q⟩;rcases Z08.mp d with z | z;subst z;exact nx _ (Nat.le_succ _);have z:=Z04.mp z;subst z;exact nx _ (Z01 _)
noncomputable def ZE(K:FR)(mg:SV)(nm:Str)(st:Stmt)(ps:List Str):Prop:=∃ (f:Addr) (fd:FuncData),QX K nm nm st f fd/\mg nm=some (.ref f)/\Binds K fd ps []
noncomputable def Def(P:Program)(w:World)(K:FR)(mg:SV)(base:Heap)(k:Nat)(nm:Str)(ps:List Str)(sp:Sp):Prop :=
 ∃ (f:Addr) (fd:FuncData),PySem.W.keepIn K (.ref f)=true/\mg nm=some (.ref f)/\Binds K fd ps []/\Zo P w K mg base yV k f fd ps sp
def ZE.def{mg:SV}{st:Stmt}{sp:Sp}(S:ZE K mg nm st ps)(h:∀ f fd,QX K nm nm st f fd->Zo P w K mg base yV k f fd ps sp):Def P w K mg base k nm ps sp:=by
 obtain⟨f,fd,F,m,b⟩:=S;exact⟨f,fd,F.kp,m,b,h f fd F⟩
def Def.imp{mg:SV}{sp:Sp}(D:Def P w K mg base k nm ps sp)(h:∀ vs H Q E,sp' vs H Q E->sp vs H Q E):Def P w K mg base k nm ps sp':=by
 obtain⟨f,fd,a,b,c,F⟩:=D;exact⟨f,fd,a,b,c,F.imp h⟩
def Zx{sp:Sp}{e:Expr}{pos:Pos}(i:Gl X nm)(he:starEach (e :: es) X.env=016 :: starEach es X.env)(h:(backTo pos (starEach es X.env)).any (·.1)=false)(d:(nm == ("__debug__":Str))=false)(D:Def X.prog X.w X.K X.mg X.base k nm ps sp)(hr:zX k X.A)(ha:PA X (e :: es) t) :
 PE X (.Call (.Name nm p) (e :: es) [] pos) (vO sp [] E0 t):=by
 obtain⟨f,fd,a,b,c,F⟩:=D;exact JA F hr i b a c .nil xU ha d he h
def jk(he:∀ whole,isTrue a X.env whole=(do let v ←whole;standAt a.pos;holding [v] (truthy v)))(ha:PE X a ta):PT X a (λσ H Q=>ta σ H λx H'=>∃ k,Z2z X.K x H' k/\Q k H'):=z6Q ha he
def Vr{pos:Pos}(c:Gl X "enumerate")(b:starEach [a] X.env=[(false,eval a X.env)])(e:X.K=K)(hm:X.mg "enumerate"=none)(ha:PA X [a] ta):PI X (.Tuple elts ek epos) (.Call (.Name "enumerate" p) [a] [] pos) (Z4R K ta):=e ▸ Z2F c hm ha b
def ux{g:TG}(Pv:Nat->List V->St->Hp->Prop)(h0:Pv 0 [] σ0 H0)(hl:∀ i ys σ H,Pv i ys σ H->zJ K H a xs/\H D=some 034)(l:∀ i x ys σ H T G,xs[i]?=some x->i<xs.length->Pv i ys σ H->H T=none->zu H G->G T=some (.tup [.int i,x])->g (.ref T) σ G λc H3=>tt c H3 λb H4=>if b=true then
  te c H4 λy H5=>H5 D=some 034/\ys.length<sizeLine/\∃ f,f<xs.length - i/\Wt Pv xs.length (i+1) f (ys ++ [y]) c (upd H5 D (.lst (ys ++ [y]))) else ∃ f,f<xs.length - i/\Wt Pv xs.length (i+1) f ys c H4)(hd:∀ ys σ H,Pv xs.length ys σ H->Q 025 H):QD (z5L K a) D g tt te Q σ0 H0:=by
 refine⟨Wt Pv xs.length,⟨xs.length,rfl,Z19 _,h0⟩,?_⟩;rintro i m ys d H' ⟨rfl,hi,p⟩;obtain⟨h,n⟩:=hl i ys d H' p;refine⟨n,?_⟩;by_cases hlt:i<xs.length;refine .inr ⟨⟨xs,xs[i],h,by simp[hlt]⟩,λx H2 y=>?_⟩;obtain⟨T,u,v,rfl,j,rfl,rfl,k⟩:=y;exact l i v ys d H' T _ (k xs h) hlt p j (zu.new j) zq;have e:i=xs.length:=00
 subst e;exact .inl ⟨⟨xs,h,rfl⟩,hd ys d H' p⟩
structure Txt(mg:SV):Prop where
 abs:mg "abs"=none
 isi:mg "isinstance"=none
 tup:mg "tuple"=none
 int:mg "int"=none
 bool:mg "bool"=none
 lst:mg "list"=none
 enu:mg "enumerate"=none
 len:mg "len"=none
 range:mg "range"=none
 srt:mg "sorted"=none
 sum:mg "sum"=none
 zip:mg "zip"=none
 max:mg "max"=none
noncomputable def SqF(K:FR)(H:Hp)(p:Addr)(A:Int×Int):Prop:=zO K H p [.int A.1,.int A.2]
def SqF.of(h:Vj K H p A):SqF K H p A:=zO.of h
def SqF.same(h:SqF K H p A)(s:zu H H'):SqF K H' p A:=s.z2T h
noncomputable def VA:Sp:=λvs H Q _=>∃ x y:Int,vs=[.int x,.int y]/\y≠0/\Sz 8000 x/\Sz 8000 y/\∀ (p:Addr) (H':Hp),zu H H'->H' p=some (.tup [.int (Pw.mk x y).1,.int (Pw.mk x y).2])->Q (.ref p) H'
set_option genInjectivity false in
structure Gv(K:FR)(H:Hp)(w lp ls:Addr)(pages:Int)(ps:LI)(A:Int×Int)(Bs:LI)(us:List V):Prop where
 web:xN K H w pages ps
 few:ps.length<=100
 lk:∀ p∈ps,0<=p.1/\p.1<pages/\0<=p.2/\p.2<pages
 leap:Vj K H lp A
 ca:Pw.Canon A
 sa:VF 100 A
 leaps:H ls=some (.tup us)
 row:X8 K H Bs us
 cb:Pw.ZO Bs
 sb:∀ B∈Bs,VF 600 B
 len:(Bs.length:Int)=pages
 plo:1<=pages
 phi:pages<=13
def Gv.same(g:Gv K H w lp ls pages ps A Bs us)(s:zu H H'):Gv K H' w lp ls pages ps A Bs us :=
 { g with web:=g.web.same s,leap:=s _ _ g.leap,leaps:=s _ _ g.leaps,row:=g.row.same s }
def z2P{x:Str}{pos:Pos}{g:TG}(F:swapsWith 011 (some (.Name x pos')) pos2.line X.env=pure true)(L:X.N.Nodup)(u:X.N[i]?=some x)(n:X.env.scope.names.lookup x=some .local)(f:X.calm=true)(hi:PI X tg iter wi)(k:closureFor scope X.env=pure cl)(B:∀ x c,cl.lookup x=some c->X.env.cells.lookup x=some c)(j:∀ y∈scope.names,y.2≠.cell)(d:scope.kind=.function)(b:∀ y∈scope.names,y.2=.local->scope.names.lookup y.1=some .local)(p:∀ x,029->∃ c,cl.lookup x=some c)(l:Uq X (relabel scope X.env) N' ks)(Q:∀ C s H fp,PG 015 tg g)(O:∀ C s H fp,PTs 015 ifs tt)(he:∀ C s H fp,PE 015 elt te)(P:∀ x,foldedSetIterable iter X.env x=pure x:=by intro _;rfl):PS X (.Assign [.Name x pos'] 011 pos2) (z4R (Qk wi ks g tt te) (ZF i)):=by
 intro pins s σ H DD I h;rw[exec_Assign_Name_used _ _ _ _ F];refine wpAny_bind (wpAny_standAt (wpAny_bind ?_));show wpAny _ _ (do let _ ←comprehension 011 scope X.env _ (newList []) false (eval iter X.env) (some (assign (.Name x pos') X.env))) _ _ s;refine wpAny_bind (wpAny_mono (z3U (use:=some (assign (.Name x pos') X.env)) (QQ:=λ_ s'=>SP X pins DD .next s') f hi k B j d b p l Q O he P I (show Qk wi ks g tt te σ H λv H1=>DD.nx (σ.set i (some v)) H1 from h) λ{C D H5 R w} q ⟨m,hn⟩ J nL cL t=>?_) (λ_ s' G=>wpAny_pure (wpAny_pure G)) λ_ _ z=>z);refine wpAny_assign_Name (Q6 (v:=.ref D) J L u (.inl n) rfl (λK I7 A=>?_) (.inr n));obtain⟨a,E,ha⟩:=A;have M:C≠a:=λz=>by
  rcases ha with e | e;exact nL (z.trans e);exact cL _ _ e z.symm
 exact⟨m,hn.at' λo e=>(E.2 _ M).trans e,λr sb=>⟨_,H5,t _ K I7 r sb,q⟩⟩
def z9V{x:Str}{pos:Pos}{g:TG}(i:Nat)(N':List Str)(t:List (Option Nat))(q:swapsWith 011 (some (.Name x pos')) pos2.line X.env=pure true)(z:X.N.Nodup)(p:X.N[i]?=some x)(o:X.env.scope.names.lookup x=some .local)(f:X.calm=true)(hi:PI X tg iter wi)(d:∀ y∈scope.names,y.2=.free->X.env.scope.names.lookup y.1=some .cell)(a:∀ y∈scope.names,y.2≠.cell)(c:scope.kind=.function)(b:∀ y∈scope.names,y.2=.local->scope.names.lookup y.1=some .local)(j:Uq X (relabel scope X.env) N' t)(F:∀ cl C s H fp,PG 015 tg g)(A:∀ cl C s H fp,PTs 015 ifs tt)(he:∀ cl C s H fp,PE 015 elt te)(E:∀ x,foldedSetIterable iter X.env x=pure x:=by intro _;rfl):PS X (.Assign [.Name x pos'] 011 pos2) (z4R (Qk wi t g tt te) (ZF i)):=by
 intro pins s σ H D I h;obtain⟨cl,v,u,r⟩:=X7 (scope:=scope) (env:=X.env) λy l hf=>I.ok.has y.1 (.inl (d y l hf));refine z2P q z p o f hi v u a c b (λx m=>?_) j (F cl) (A cl) (he cl) E pins s σ H D I h;have key:∀ k,(x,k)∈(relabel scope X.env).names->k=.cell\/k=.free->(x,NameKind.free)∈scope.names:=λk hm B=>by
  unfold relabel at hm;obtain⟨⟨n,w⟩,l,e⟩:=Z23.mp hm;dsimp only at e;split at e;rename_i hc;cases e;have:w=.free:=by simp at hc;exact hc.1.1
  rw[← this];exact l;cases e;rcases B with rfl | rfl;exact absurd rfl (a _ l);exact l
 rcases m with m | m;exact r x (key _ (Z32 m) (.inl rfl));exact r x (key _ (Z32 m) (.inr rfl))
def mem_getD{Bs:LI}(h:t<Bs.length):Bs.getD t (0,1)∈Bs:=by
 rw[Z06,Z02 h];exact Z29 h
end L2
namespace Pw
def cpos{d:Int}(h:0<d):(0:Rat)<(d:Rat):=by
 have:((0:Int):Rat)<(d:Rat):=Rat.intCast_lt_intCast.mpr h;simpa using this
def cnn{d:Int}(h:0<=d):(0:Rat)<=(d:Rat):=by
 have:((0:Int):Rat)<=(d:Rat):=Z28.mpr h;simpa using this
def xG{a b c:Rat}(h:a<=b)(d:0<=c):a * c<=b * c:=Rat.mul_le_mul_of_nonneg_right h d
def yw{a b:Rat}(ha:0<=a)(c:0<=b):0<=a * b:=by
 have:=xG ha c;grind
def z8p{a b:Rat}(ha:0<=a)(c:0<b):0<=a / b:=by
 rw[Rat.div_def];exact yw ha (Rat.le_of_lt (Rat.inv_pos.mpr c))
def z4N{a b c:Rat}(d:0<c)(h:a * c<=b * c):a<=b:=Rat.le_of_mul_le_mul_right h d
def z2m(h:0<A.2)(a:0<=A.1):0<=val A:=z8p (cnn a) (cpos h)
def Z0B(h:0<A.2)(a:A.1<=A.2):val A<=1:=by
 have b:=cpos h;refine z4N b ?_;unfold val;have:(A.1:Rat)<=(A.2:Rat):=Z28.mpr a;have e:(A.1:Rat) / (A.2:Rat) * (A.2:Rat)=A.1:=by have:=ZD (d:=A.2) 00;grind
 rw[e];grind
noncomputable def Z2Z(w d:Int):Int:=(w.fdiv (Int.gcd w d:Int)) * d
def Z0n(hw:0<w)(hd:0<d):Z2Z w d=(Int.lcm w d:Int):=by
 unfold Z2Z;have j:=z9O (a:=w) (b:=d) 00;obtain⟨u,c⟩:=Int.gcd_dvd_left w d;have i:w.fdiv (Int.gcd w d:Int)=u:=by
  conv=>lhs;lhs;rw[c]
  rw[Z42 _ 00,Int.mul_ediv_cancel_left _ 00]
 rw[i];have key:(Int.gcd w d:Int) * (Int.lcm w d:Int)=w * d:=by
  have:=Int.gcd_mul_lcm w d;have h:((Int.gcd w d * Int.lcm w d:Nat):Int)=(((w * d).natAbs:Nat):Int):=by rw[this,Int.natAbs_mul]
  have f:(((w * d).natAbs:Nat):Int)=w * d:=Int.natAbs_of_nonneg (Int.le_of_lt (Int.mul_pos hw hd));rw[← f,← h];push_cast;rfl
 refine Int.eq_of_mul_eq_mul_left (a:=(Int.gcd w d:Int)) 00 ?_;rw[key]
 conv=>rhs;rw[c]
 rw[Int.mul_assoc]
structure Yd(As:LI)(L:Int):Prop where
 pos:0<L
 dvd:∀ A∈As,A.2∣L
 least:∀ M:Int,0<M->(∀ A∈As,A.2∣M)->L∣M
def Yd.nil:Yd [] 1:=⟨01,05,λM _ _=>Int.one_dvd M⟩
def Yd.snoc(h:Yd As L)(c:0<A.2):Yd (As ++ [A]) (Z2Z L A.2):=by
 rw[Z0n h.pos c];refine⟨?_,λB a=>?_,λM f hd=>?_⟩;have:=Int.lcm_pos (m:=L) (n:=A.2) (by have:=h.pos;lia) 00;lia;rcases Z1y.mp a with a | a;exact Int.dvd_trans (h.dvd B a) (Int.dvd_lcm_left _ _);rw[Z04.mp a];exact Int.dvd_lcm_right _ _;have d:=h.least M f λB a=>hd B (Z2Q _ a)
 have b:=hd A 05;obtain⟨m,rfl⟩:∃ m:Nat,M=m:=⟨M.toNat,00⟩;exact Int.natCast_dvd_natCast.mpr (Int.lcm_dvd d b)
def Yd.le(h:Yd As L)(a:0<M)(hd:∀ A∈As,A.2∣M):L<=M:=Int.le_of_dvd a (h.least M a hd)
noncomputable def YL(As:LI)(L:Int):List Int:=As.map λA=>A.1 * (L.fdiv A.2)
def z3O{L:Int}(a:0<A.2)(b:0<L)(h:A.2∣L):((A.1 * (L.fdiv A.2):Int):Rat)=val A * (L:Rat):=by
 obtain⟨u,rfl⟩:=h;have e:(A.2 * u).fdiv A.2=u:=by rw[Z42 _ 00,Int.mul_ediv_cancel_left _ 00]
 rw[e];unfold val;have:=ZD (d:=A.2) 00;rw[Z1e,Z1e];grind
def z3S:∀ n,qs n (λi=>((f i:Int):Rat))=((((List.range n).map f).sum:Int):Rat)
 | 0=>by simp[qs]
 | n+1=>by
   show qs n _+_=_;rw[z3S n,Z5n,Z16,List.sum_append,Rat.intCast_add];simp
end Pw
namespace L2
noncomputable def Sq(b:Bool)(K:FR)(H:Hp)(a:Addr)(xs:List V):Prop:=if b=true then zJ K H a xs else zO K H a xs
noncomputable def ItB(b:Bool)(K:FR)(a:Addr):It:=if b=true then Itl K a else Itt K a
noncomputable def Z5U(K:FR)(c:TE):TI:=λσ H R=>c σ H λx H1=>∃ (b:Bool) (a:Addr),x=.ref a/\(∃ xs,Sq b K H1 a xs)/\R (ItB b K a) H1
def Sq.same(h:Sq b K H a xs)(s:zu H H'):Sq b K H' a xs:=by
 cases b;exact s.z2T h;exact s.seq h
def z8o(hl:PE X l tl):PI X tg l (Z5U X.K tl):=by
 intro pins s σ H R I h;refine z8 (hl pins s σ H _ I h) λv s1 zq=>?_;obtain⟨x,H1,I1,f,q1⟩:=zq;obtain⟨b,a,e,⟨xs,c⟩,q⟩:=q1;subst e;cases f;cases b with
 | true =>
   have c:zJ X.K H1 a xs:=c;have q:R (Itl X.K a) H1:=q;obtain⟨its,i,p,j⟩:=I1.list c;refine wpAny_pyIter_list p.isList ?_;refine⟨s1.heap.objs.size,[s1.heap.objs.size],_,_,H1,rfl,I1.kept (t':=s1.toks) λb o e=>ZB _ e,U5 a _,⟨_,Z10 _ rfl,rfl,rfl⟩,λb d=>?_,q⟩;have e:b=s1.heap.objs.size:=by simpa using d
   subst e;exact I1.z0G (Z01 _) (I1.hok.fresh (Z01 _))
 | false =>
   have c:zO X.K H1 a xs:=c;have q:R (Itt X.K a) H1:=q;obtain⟨its,i,p,j⟩:=I1.tuple c;refine wpAny_pyIter_tuple (show s1.heap.IsTuple a its.toArray from p) ?_;refine⟨s1.heap.objs.size,[s1.heap.objs.size],_,_,H1,rfl,I1.kept (t':=s1.toks) λb o e=>ZB _ e,VI a _,⟨_,Z10 _ rfl,rfl,rfl⟩,λb d=>?_,q⟩;have e:b=s1.heap.objs.size:=by simpa using d
   subst e;exact I1.z0G (Z01 _) (I1.hok.fresh (Z01 _))
def z6G{g:TG}(Pv:Nat->List V->St->Hp->Prop)(h0:Pv 0 [] σ0 H0)(hl:∀ i ys σ H,Pv i ys σ H->Sq b K H a xs/\H D=some 034)(f:∀ i x ys σ H,xs[i]?=some x->i<xs.length->Pv i ys σ H->g x σ H λc H3=>tt c H3 λb H4=>if b=true then
  te c H4 λy H5=>H5 D=some 034/\ys.length<sizeLine/\∃ d,d<xs.length - i/\Wt Pv xs.length (i+1) d (ys ++ [y]) c (upd H5 D (.lst (ys ++ [y]))) else ∃ d,d<xs.length - i/\Wt Pv xs.length (i+1) d ys c H4)(hd:∀ ys σ H,Pv xs.length ys σ H->Q 025 H):QD (ItB b K a) D g tt te Q σ0 H0:=by
 cases b;exact Ql Pv h0 hl f hd;exact Z6 Pv h0 hl f hd
def Z0D{xs:List V}{g:TG}{tb:TS}{D:Ends}(Pv:Nat->St->Hp->Prop)(h0:Pv 0 σ H)(hl:∀ i σ H,i<=xs.length->Pv i σ H->Sq b K H a xs)(h:∀ i x σ H,xs[i]?=some x->Pv i σ H->g x σ H λc H2=>tb { D with nx:=Pv (i+1),ct:=Pv (i+1),bk:=D.nx } c H2)(hd:∀ σ H,Pv xs.length σ H->D.nx σ H) :
 ∃ W:Nat->Nat->St->Hp->Prop,(∃ m,W 0 m σ H)/\∀ i m σ H,W i m σ H->
   ((ItB b K a).stop i H/\D.nx σ H)\/((ItB b K a).go i H/\∃ N:St->Hp->Prop,(∀ d H',N d H'->∃ f,f<m/\W (i+1) f d H')/\∀ x H',(ItB b K a).yld i H x H'->g x σ H' λc H2=>tb { D with nx:=N,ct:=N,bk:=D.nx } c H2):=by
 cases b;exact z8V Pv h0 hl h hd;exact Yw Pv h0 hl h hd
set_option genInjectivity false in
structure Pr(A:Int×Int)(Bs:LI)(S:Int):Prop where
 a0:0<A.1
 a1:A.1<=A.2
 nn:∀ B∈Bs,0<=B.1
 one:Pw.qs Bs.length (λt=>Pw.val 031)=1
 spos:0<S
 ssz:Sz 700 S
 sdvd:∀ B∈Bs,B.2∣S
end L2
namespace Pw
def Z3n{n:Int}(h:Fr A n d):A.2∣d:=by
 have w:=h.w;have:A.2∣A.1 * d:=⟨n,by rw[w];exact Int.mul_comm ..⟩;exact VL this h.canon.2
def z7R:∀ {n k:Nat},k<n->(∀ i,i<n->0<=f i)->f k<=qs n f
 | n+1,k,hk,h=>by
   show f k<=qs n f+f n;by_cases e:k=n;subst e;have:=Q5 (n:=k) (f:=f) λi hi=>h i 00;grind;have b:=z7R (n:=n) (k:=k) 00 λi hi=>h i 00;have a:=h n 00;grind
noncomputable def Z3l(ps:LI)(A:Int×Int)(Bs Rs:LI)(n t:Nat):Rat:=qs n (λi=>val (Rs.getD i (0,1)) * val ((yJ ps A Bs i).getD t (0,1)))
end Pw
namespace L2
def z4m{g:Int}(f:0<L)(d:0<g)(z:Sz k L):Sz k (L.fdiv g):=by
 have b:L.natAbs<2 ^ k:=z;show (L.fdiv g).natAbs<2 ^ k;rw[Z42 _ 00];have c:0<=L / g:=Int.ediv_nonneg 00 00;have a:L / g<=L:=Int.ediv_le_self _ 00;lia
def z6h{x:Int}(h0:0<=x)(h:x<=y)(z:Sz k y):Sz k x:=by
 have a:y.natAbs<2 ^ k:=z;show x.natAbs<2 ^ k;lia
def Z3z{x:Int}(a:0<y):0<(Int.gcd x y:Int)/\(Int.gcd x y:Int)<=y :=
 ⟨Pw.z9O 00,Int.le_of_dvd a (Int.gcd_dvd_right ..)⟩
noncomputable def JH(K:FR):Sp:=λvs H Q _=>∃ (b:Bool) (a:Addr) (us:List V) (As:LI) (M:Int),vs=[.ref a]/\Sq b K H a us/\X8 K H As us/\(∀ A∈As,0<A.2)/\0<M/\Sz 8000 M/\(∀ A∈As,A.2∣M)/\∀ L,Pw.Yd As L->Q (.int L) H
noncomputable def QF(K:FR):Sp:=λvs H Q _=>∃ (b:Bool) (a:Addr) (us:List V) (As:LI) (L:Int),vs=[.ref a,.int L]/\Sq b K H a us/\X8 K H As us/\As.length<=100/\(∀ A∈As,0<A.2/\VF 8000 A)/\0<L/\Sz 8000 L/\
 ∀ (p:Addr) (H':Hp),zu H H'->H p=none->H' p=some (.lst ((Pw.YL As L).map V.int))->Q (.ref p) H'
def Yd.Z0R(h:Pw.Yd As L)(a:0<M)(hd:∀ A∈As,A.2∣M)(z:Sz k M):Sz k L:=z6h (Int.le_of_lt h.pos) (h.le a hd) z
def z7k:∀ {ns:List Int},(∀ n∈ns,Sz k n)->Sz (k+ns.length) ns.sum
 | [],_=>by show (0:Int).natAbs<2 ^ (k+0);exact Nat.two_pow_pos _
 | n :: ns,h=>by
   have b:=z7k (ns:=ns) λm hm=>h m (Z03 _ hm);have a:=h n Z0K;rw[List.sum_cons];exact ((a.mono 00).add b).mono (by rw[Z09];lia)
def Xa{ns:List Int}(h:i<ns.length):ns[i]?=some (ns.getD i 0):=by
 rw[Z06,Z02 h];rfl
def ZO.pos(h:Pw.ZO As):∀ A∈As,0<A.2:=λA a=>(h A a).1
end L2
namespace Pw
noncomputable abbrev y9:=Nat->Rat
noncomputable def expand(r:y9)(D:List Nat->Rat):List Nat->Rat
 | []=>0
 | c :: cs=>r c * D cs - expand r (λl=>D (c :: l)) cs
noncomputable def det:List y9->List Nat->Rat
 | [],_=>1
 | r :: rs,cols=>expand r (det rs) cols
def yo(h:∀ l,D l=E l):∀ cs,expand r D cs=expand r E cs:=λcs=>by
 have:D=E:=funext h;rw[this]
def YZ(r:y9):∀ cs,expand r (λ_=>0) cs=0
 | []=>rfl
 | c :: cs=>by
   show r c * 0 - expand r (λl=>0) cs=0;rw[YZ r cs];grind
def Yg(r:y9)(a b:Rat):∀ (cs:List Nat) (D E:List Nat->Rat),expand r (λl=>a * D l+b * E l) cs=a * expand r D cs+b * expand r E cs
 | [],D,E=>by show (0:Rat)=a * 0+b * 0;grind
 | c :: cs,D,E=>by
   show r c * (a * D cs+b * E cs) - expand r (λl=>a * D (c :: l)+b * E (c :: l)) cs=a * (r c * D cs - expand r (λl=>D (c :: l)) cs)+b * (r c * E cs - expand r (λl=>E (c :: l)) cs);rw[Yg r a b cs];grind
def yp(r s:y9)(a b:Rat):∀ (cs:List Nat) (D:List Nat->Rat),expand (λc=>a * r c+b * s c) D cs=a * expand r D cs+b * expand s D cs
 | [],D=>by show (0:Rat)=a * 0+b * 0;grind
 | c :: cs,D=>by
   show (a * r c+b * s c) * D cs - expand _ (λl=>D (c :: l)) cs=a * (r c * D cs - expand r (λl=>D (c :: l)) cs)+b * (s c * D cs - expand s (λl=>D (c :: l)) cs);rw[yp r s a b cs];grind
def yr(r:y9):∀ (cs:List Nat) (D:List Nat->Rat),expand r (expand r D) cs=0
 | [],D=>rfl
 | c :: cs,D=>by
   show r c * expand r D cs - expand r (λl=>r c * D l - expand r (λl=>D (c :: l)) l) cs=0;have e:expand r (λl=>r c * D l - expand r (λl=>D (c :: l)) l) cs=r c * expand r D cs+(-1) * expand r (expand r (λl=>D (c :: l))) cs:=by
    rw[← Yg];exact yo (λl=>by grind) cs
   rw[e,yr r cs];grind
def vW(r s:y9)(cs:List Nat)(D:List Nat->Rat):expand r (expand s D) cs=-expand s (expand r D) cs:=by
 have h:=yr (λc=>1 * r c+1 * s c) cs D;have e:expand (λc=>1 * r c+1 * s c) (expand (λc=>1 * r c+1 * s c) D) cs=expand (λc=>1 * r c+1 * s c) (λl=>1 * expand r D l+1 * expand s D l) cs:=yo (λl=>yp r s 1 1 l D) cs;rw[e,yp,Yg,Yg,yr,yr] at h;grind
def yl{s:y9}:∀ {cs:List Nat}{D:List Nat->Rat},(∀ c∈cs,r c=s c)->expand r D cs=expand s D cs
 | [],D,_=>rfl
 | c :: cs,D,h=>by
   show r c * D cs - expand r _ cs=s c * D cs - expand s _ cs;rw[h c Z0K,yl λx a=>h x (Z03 _ a)]
def YS:∀ {cs:List Nat}{D:List Nat->Rat},(∀ c∈cs,r c=0)->expand r D cs=0
 | [],D,_=>rfl
 | c :: cs,D,h=>by
   show r c * D cs - expand r _ cs=0;rw[h c Z0K,YS λx a=>h x (Z03 _ a)];grind
noncomputable def v9(rs:List y9)(u:y9):Prop:=∀ cols,det (u :: rs) cols=0
def v9.mem:∀ {rs:List y9}{r:y9},r∈rs->v9 rs r
 | s :: rs,r,h=>λcols=>by
   rcases Z08.mp h with rfl | h;exact yr _ _ _;show expand r (expand s (det rs)) cols=0;rw[vW];have:expand s (expand r (det rs)) cols=expand s (λ_=>0) cols:=yo (v9.mem h) cols
   rw[this,YZ];grind
def v9.cons{s:y9}(h:v9 rs u):v9 (s :: rs) u:=λcols=>by
 show expand u (expand s (det rs)) cols=0;rw[vW];have:expand s (expand u (det rs)) cols=expand s (λ_=>0) cols:=yo h cols;rw[this,YZ];grind
def v9.lin(a b:Rat)(i:v9 rs u)(d:v9 rs v):v9 rs (λc=>a * u c+b * v c):=λcols=>by
 have h:expand u (det rs) cols=0:=i cols;have f:expand v (det rs) cols=0:=d cols;show expand _ (det rs) cols=0;rw[yp,h,f];grind
section
variable(A:Nat->y9)
noncomputable def Rk:Nat->List y9
 | 0=>[]
 | k+1=>A k :: Rk k
noncomputable def Kk:Nat->List Nat
 | 0=>[]
 | k+1=>k :: Kk k
noncomputable def dd(k:Nat):Rat:=det (Rk A k) (Kk k)
noncomputable def BB(k:Nat)(v:y9)(j:Nat):Rat:=det (v :: Rk A k) (j :: Kk k)
def Xf(k:Nat):dd A (k+1)=BB A k (A k) k:=rfl
def z4n:dd A 0=1:=rfl
def z2f:∀ {k c:Nat},c∈Kk k↔c<k
 | 0,c=>by simp[Kk]
 | k+1,c=>by
   show c∈k :: Kk k↔_;rw[Z08,z2f];lia
def Jd:∀ {k i:Nat},i<k->A i∈Rk A k
 | k+1,i,h=>by
   show A i∈A k :: Rk A k;by_cases e:i=k;subst e;exact Z0K;exact Z03 _ (Jd 00)
def Jy(k:Nat)(u v:y9)(a b:Rat)(j:Nat):BB A k (λc=>a * u c+b * v c) j=a * BB A k u j+b * BB A k v j:=yp u v a b _ _
def qS(b:u j=v j)(h:∀ c,c<k->u c=v c):BB A k u j=BB A k v j:=yl λc a=>by
 rcases Z08.mp a with rfl | a;exact b;exact h c (z2f.mp a)
def X6(h:∀ c,c<k->w c=0)(j:Nat):BB A k w j=w j * dd A k:=by
 show w j * det (Rk A k) (Kk k) - expand w _ (Kk k)=w j * dd A k;rw[YS λc a=>h c (z2f.mp a)];unfold dd;grind
def Z2s(h:i<k)(j:Nat):BB A k (A i) j=0:=v9.mem (Jd A h) _
def reduced(k:Nat)(hd:∀ l,l<=k->dd A l≠0):∀ v:y9,∃ w:y9,v9 (Rk A k) (λc=>v c - w c)/\∀ c,c<k->w c=0:=by
 induction k with
 | zero =>
   intro v;refine⟨v,λcols=>?_,λc p=>00⟩;exact YS λc _=>by grind
 | succ k b =>
   intro v;have b:=b λl hl=>hd l 00;obtain⟨x,nx,o⟩:=b v;obtain⟨y,d,f⟩:=b (A k);have m:=hd k 00;have a:=hd (k+1) 00;have h:dd A (k+1)=y k * dd A k:=by
    have i:BB A k (A k) k=BB A k y k:=by
     have:=d (k :: Kk k);have j:BB A k (λc=>1 * A k c+(-1) * y c) k=0:=by
      rw[qS A (v:=λc=>A k c - y c) (by grind) (λc _=>by grind)];exact this
     rw[Jy] at j;grind
    rw[Xf,i,X6 A f]
   have r:y k≠0:=λz=>a (by rw[h,z];grind);refine⟨λc=>x c - x k / y k * y c,?_,λc p=>?_⟩;have n1:v9 (Rk A (k+1)) (λc=>v c - x c):=nx.cons;have n2:v9 (Rk A (k+1)) (λc=>A k c - y c):=d.cons;have n3:v9 (Rk A (k+1)) (A k):=v9.mem (Jd A 00);have n:=v9.lin 1 (-1) n3 n2;have q:=v9.lin 1 (x k / y k) n1 n;intro cols;have:=q cols;rw[← this];exact yl λc _=>by grind
   show x c - x k / y k * y c=0;by_cases e:c=k;subst e;grind;rw[o c 00,f c 00];grind
def uE{w:y9}(hn:v9 (Rk A k) (λc=>v c - w c))(b:∀ c,c<k->w c=0)(j:Nat):BB A k v j=w j * dd A k:=by
 have a:BB A k (λc=>1 * v c+(-1) * w c) j=0:=by
  rw[qS A (v:=λc=>v c - w c) (by grind) (λc _=>by grind)];exact hn _
 rw[Jy,X6 A b] at a;grind
def z4j(hd:∀ l,l<=k+1->dd A l≠0)(v:y9)(j:Nat):BB A (k+1) v j * dd A k=dd A (k+1) * BB A k v j - BB A k v k * BB A k (A k) j:=by
 obtain⟨x,nx,d⟩:=reduced A k (λl hl=>hd l 00) v;obtain⟨y,b,f⟩:=reduced A k (λl hl=>hd l 00) (A k);have m:=hd k 00;have a:=hd (k+1) 00;have h:dd A (k+1)=y k * dd A k:=by rw[Xf];exact uE A b f k
 have q:y k≠0:=λz=>a (by rw[h,z];grind);have n1:v9 (Rk A (k+1)) (λc=>v c - x c):=nx.cons;have n2:v9 (Rk A (k+1)) (λc=>A k c - y c):=b.cons;have n3:v9 (Rk A (k+1)) (A k):=v9.mem (Jd A 00);have n:=v9.lin 1 (-1) n3 n2;have o:=v9.lin 1 (x k / y k) n1 n;have i:v9 (Rk A (k+1)) (λc=>v c - (x c - x k / y k * y c)):=λcols=>by
  have:=o cols;rw[← this];exact yl λc _=>by grind
 have p:∀ c,c<k+1->x c - x k / y k * y c=0:=λc r=>by
  by_cases e:c=k;subst e;grind;rw[d c 00,f c 00];grind
 rw[uE A i p j,uE A nx d j,uE A nx d k,uE A b f j,h];grind
end
noncomputable def ZN(q:Rat):Prop:=∃ n:Int,q=(n:Rat)
def ZN.mul(a:ZN p)(b:ZN q):ZN (p * q):=by
 obtain⟨x,rfl⟩:=a;obtain⟨y,rfl⟩:=b;exact⟨x * y,by rw[Z1e]⟩
def ZN.sub(a:ZN p)(b:ZN q):ZN (p - q):=by
 obtain⟨x,rfl⟩:=a;obtain⟨y,rfl⟩:=b;exact⟨x - y,by rw[Z46]⟩
def uy:∀ {cs:List Nat}{D:List Nat->Rat},(∀ c∈cs,ZN (r c))->(∀ l,ZN (D l))->ZN (expand r D cs)
 | [],D,_,_=>⟨0,rfl⟩
 | c :: cs,D,h,hD=>((h c Z0K).mul (hD cs)).sub (uy (λx a=>h x (Z03 _ a)) λl=>hD (c :: l))
def z4r:∀ {rs:List y9},(∀ r∈rs,∀ c,ZN (r c))->∀ cols,ZN (det rs cols)
 | [],_,_=>⟨1,rfl⟩
 | r :: rs,h,cols=>uy (λc _=>h r Z0K c) (z4r λx a=>h x (Z03 _ a))
def UW{V:Rat}(f:0<=U)(d:0<=V)(hr:∀ c,-U<=r c/\r c<=U):∀ {cs:List Nat}{D:List Nat->Rat},(∀ l,l.length+1=cs.length->-V<=D l/\D l<=V)->-(((cs.length:Nat):Rat) * (U * V))<=expand r D cs/\expand r D cs<=((cs.length:Nat):Rat) * (U * V)
 | [],D,_=>by
   show -(((0:Nat):Rat) * (U * V))<=0/\(0:Rat)<=((0:Nat):Rat) * (U * V);simp
 | c :: cs,D,hD=>by
   obtain⟨i1,i2⟩:=UW f d hr (cs:=cs) (D:=λl=>D (c :: l)) λl hl=>hD (c :: l) (by simp only[Z09];lia);obtain⟨i,j⟩:=hr c;obtain⟨k,m⟩:=hD cs (by simp only[Z09]);have key:-(U * V)<=r c * D cs/\r c * D cs<=U * V:=by
    have h:=yw (a:=U - r c) (b:=V - D cs) (by grind) (by grind);have n:=yw (a:=U+r c) (b:=V+D cs) (by grind) (by grind);have o:=yw (a:=U - r c) (b:=V+D cs) (by grind) (by grind);have p:=yw (a:=U+r c) (b:=V - D cs) (by grind) (by grind);constructor <;> grind
   have e:(((c :: cs).length:Nat):Rat)=((cs.length:Nat):Rat)+1:=by rw[Z09];push_cast;rfl
   show -_<=r c * D cs - expand r _ cs/\r c * D cs - expand r _ cs<=_;rw[e];grind
def pow_succ'(Y:Nat)(m:Nat):((Y ^ (m+1):Nat):Rat)=((Y ^ m:Nat):Rat) * (Y:Rat):=by rw[Z59];push_cast;rfl
def Z0L(m:Nat):(0:Rat)<=((m:Nat):Rat):=by
 have:=cnn (d:=(m:Int)) 00;exact this
def Z1t(h:a<=b):((a:Nat):Rat)<=((b:Nat):Rat):=by
 have:((a:Int):Rat)<=((b:Int):Rat):=Z28.mpr 00;exact this
def z2M(b:13 * U<=Y):∀ {rs:List y9},(∀ r∈rs,∀ c,-((U:Nat):Rat)<=r c/\r c<=((U:Nat):Rat))->∀ cols:List Nat,cols.length<=13->-((Y ^ rs.length:Nat):Rat)<=det rs cols/\det rs cols<=((Y ^ rs.length:Nat):Rat)
 | [],_,cols,_=>by
   show -(((Y ^ 0:Nat)):Rat)<=1/\(1:Rat)<=((Y ^ 0:Nat):Rat);rw[Nat.pow_zero];exact⟨01,01⟩
 | r :: rs,h,cols,hc=>by
   have k:=z2M b (rs:=rs) λx j=>h x (Z03 _ j);have a:=Z0L (Y ^ rs.length);have i:=Z0L U;obtain⟨b1,b2⟩:=UW (r:=r) i a (h r Z0K) (cs:=cols) (D:=det rs) λl hl=>k l 00;have k1:((cols.length:Nat):Rat) * (((U:Nat):Rat) * ((Y ^ rs.length:Nat):Rat))<=((Y ^ (rs.length+1):Nat):Rat):=by
    rw[pow_succ'];have d:((cols.length:Nat):Rat) * ((U:Nat):Rat)<=((Y:Nat):Rat):=by
     have:((cols.length * U:Nat):Rat)<=((Y:Nat):Rat):=Z1t (Z0X (Z5h U hc) b);have f:((cols.length * U:Nat):Rat)=((cols.length:Nat):Rat) * ((U:Nat):Rat):=(by push_cast;rfl);rw[← f];exact this
    have m:=xG d a;grind
   show -(((Y ^ (rs.length+1):Nat)):Rat)<=expand r (det rs) cols/\expand r (det rs) cols<=((Y ^ (rs.length+1):Nat):Rat);grind
noncomputable def eV(i:Nat):y9:=λc=>if c=i then -1 else 0
noncomputable def vv(A:Nat->y9)(k i:Nat):y9:=if i<k then eV i else A i
noncomputable def ya(f:Nat->Nat->Int)(k:Nat)(d:Int)(i j:Nat):Int:=if i=k then f k j else (f k k * f i j - f i k * f k j).fdiv d
structure Stg(A:Nat->y9)(n k:Nat)(f:Nat->Nat->Int)(d:Int):Prop where
 d:(d:Rat)=dd A k
 f:∀ i j,i<n->j<=n->(f i j:Rat)=if j<k then (if i=j then dd A k else 0) else BB A k (vv A k i) j
def z2B:∀ c,c<k->eV k c=0:=λc a=>by unfold eV;rw[if_neg 00]
def z4g{m d:Int}(hd:d≠0):(m * d).fdiv d=m:=Int.mul_fdiv_cancel _ hd
def Z3i(a:∀ i c,ZN (A i c))(k i:Nat):∀ c,ZN (vv A k i c):=λc=>by
 unfold vv;split;unfold eV;split;exact⟨-1,rfl⟩;exact⟨0,rfl⟩;exact a i c
def jL{A:Nat->y9}{p:y9->Prop}(h:∀ i,p (A i)):∀ k,∀ r∈Rk A k,p r
 | 0,r,hr=>by simp[Rk] at hr
 | k+1,r,hr=>by
   rcases Z08.mp hr with rfl | hr;exact h k;exact jL h k r hr
def Z2o(b:∀ i c,ZN (A i c))(a:∀ c,ZN (v c))(j:Nat):ZN (BB A k v j) :=
 z4r (λr hr=>by
  rcases Z08.mp hr with rfl | hr;exact a;exact jL (p:=λr=>∀ c,ZN (r c)) b k r hr) _
def Stg.exact{A:Nat->y9}{n k:Nat}{f:Nat->Nat->Int}{d:Int}(h:Stg A n k f d)(u:∀ i c,ZN (A i c))(v:k<n)(hd:∀ l,l<=k+1->dd A l≠0){i j:Nat}(hi:i<n)(w:j<=n)(s:i≠k) :
 ∃ m:Int,f k k * f i j - f i k * f k j=m * d/\(m:Rat)=if j<k+1 then (if i=j then dd A (k+1) else 0) else BB A (k+1) (vv A (k+1) i) j:=by
 have q:=h.f k k v 00;have a:=h.f i j hi w;have o:=h.f i k hi 00;have b:=h.f k j v w;have p:vv A k k=A k:=by unfold vv;rw[if_neg 00]
 have t:vv A (k+1) i=vv A k i:=by
  unfold vv;by_cases e:i<k;rw[if_pos e,if_pos 00];rw[if_neg e,if_neg 00]
 rw[if_neg 00,p] at q;rw[if_neg 00] at o;have r:(f k k:Rat)=dd A (k+1):=by rw[Xf];exact q
 rw[p] at b;have y:=hd k 00;have fin:∀ m:Int,(((f k k * f i j - f i k * f k j:Int)):Rat)=(m:Rat) * (d:Rat)->f k k * f i j - f i k * f k j=m * d:=λm e=>by
  have:(((f k k * f i j - f i k * f k j:Int)):Rat)=((m * d:Int):Rat):=by rw[e,Z1e]
  exact_mod_cast this
 by_cases c1:j<k;rw[if_pos c1,if_neg 00] at b;rw[if_pos c1] at a;rw[if_pos (by lia:j<k+1)];by_cases e:i=j;rw[if_pos e] at a ⊢;refine⟨f k k,fin _ ?_,r⟩;rw[Z46,Z1e,Z1e,b,a,h.d];grind;rw[if_neg e] at a ⊢;refine⟨0,fin _ ?_,05⟩;rw[Z46,Z1e,Z1e,b,a,Rat.intCast_zero];grind;by_cases c2:j=k;subst c2;rw[if_pos (by lia:j<j+1),if_neg s];exact⟨0,by rw[Int.mul_comm (f i j)];lia,05⟩;rw[if_neg c1] at a b;rw[if_neg (by lia:¬ j<k+1),t];obtain⟨m,hm⟩:=Z2o u (k:=k+1) (Z3i u k i) j;refine⟨m,fin m ?_,hm.symm⟩;rw[Z46,Z1e,Z1e,r,a,o,b,h.d,← hm];exact (z4j A hd (vv A k i) j).symm
def Stg.next{f:Nat->Nat->Int}{d:Int}(h:Stg A n k f d)(w:∀ i c,ZN (A i c))(u:k<n)(hd:∀ l,l<=k+1->dd A l≠0):Stg A n (k+1) (ya f k d) (f k k):=by
 have o:=h.f k k u 00;have b:vv A k k=A k:=by unfold vv;rw[if_neg 00]
 rw[if_neg 00,b] at o;have t:=hd k 00;have s:d≠0:=λz=>t (by rw[← h.d,z];rfl);refine⟨by rw[Xf];exact o,λi j hi v=>?_⟩;unfold ya;by_cases e:i=k;subst e;rw[if_pos rfl];have a:=h.f i j hi v;rw[b] at a;by_cases c1:j<i;rw[if_pos c1,if_neg 00] at a;rw[if_pos 00,if_neg 00,a];rw[if_neg c1] at a;by_cases c2:j=i;subst c2;rw[if_pos 00,if_pos rfl,a,Xf];rw[if_neg 00,a];have p:vv A (i+1) i=eV i:=by unfold vv;rw[if_pos 00]
 rw[p];have:=z4j A hd (eV i) j;rw[X6 A z2B,X6 A z2B] at this;have r:eV i j=0:=by unfold eV;rw[if_neg c2]
 have q:eV i i=-1:=by unfold eV;rw[if_pos rfl]
 rw[r,q] at this;generalize BB A (i+1) (eV i) j=x at *;generalize BB A i (A i) j=y at *;generalize dd A (i+1)=z at *;have B:(x - y) * dd A i=0:=by grind
 grind;rw[if_neg e];obtain⟨m,r,q⟩:=h.exact w u hd hi v e;rw[r,z4g s];exact q
structure Sgn(n k:Nat)(f:Nat->Nat->Int):Prop where
 off:∀ i j,i<n->k<=j->j<n->i≠j->f i j<=0
 col:∀ j,k<=j->j<n->0<qs n (λi=>if k<=i then (f i j:Rat) else 0)
 rhs:∀ i,i<n->0<=f i n
def Qz{g:Nat->Rat}:∀ {n k:Nat},k<n->qs n (λi=>if k<=i then g i else 0)=g k+qs n (λi=>if k+1<=i then g i else 0)
 | n+1,k,h=>by
   show qs n _+(if k<=n then g n else 0)=g k+(qs n _+(if k+1<=n then g n else 0));by_cases e:k=n;subst e;rw[if_pos 00,if_neg 00,zN (g:=λ_=>0) λi hi=>by rw[if_neg 00],zN (f:=λi=>if k+1<=i then g i else 0) (g:=λ_=>0) λi hi=>by rw[if_neg 00]];grind;rw[if_pos 00,if_pos 00,Qz (n:=n) 00];grind
def Sgn.pivot(h:Sgn n k f)(a:k<n):0<f k k:=by
 have d:=h.col k 00 a;rw[Qz a] at d;have c:qs n (λi=>if k+1<=i then (f i k:Rat) else 0)<=qs n (λ_=>0):=z1z λi hi=>by
  split;have:=h.off i k hi 00 a 00;have:(f i k:Rat)<=((0:Int):Rat):=Z28.mpr this;simpa using this;grind
 rw[Qa] at c;have b:(0:Rat)<(f k k:Rat):=by grind
 have:((0:Int):Rat)<(f k k:Rat):=by simpa using b
 exact Rat.intCast_lt_intCast.mp this
def z2G{x:Int}(hd:0<d)(h:x * d<=0):x<=0:=by
 refine Int.not_lt.mp λz=>?_;have:=Int.mul_pos z hd;lia
def Sgn.next(h:Sgn n k f)(b:k<n)(hd:0<d)(ex:∀ i j,i<n->j<=n->i≠k->f k k * f i j - f i k * f k j=ya f k d i j * d):Sgn n (k+1) (ya f k d):=by
 have p:=h.pivot b;refine⟨λi j hi m c l=>?_,λj m c=>?_,λi hi=>?_⟩;by_cases e:i=k;subst e;unfold ya;rw[if_pos rfl];exact h.off i j hi 00 c l;refine z2G hd ?_;rw[← ex i j hi 00 e];have a1:=h.off i j hi 00 c l;have a2:=h.off i k hi 00 b e;have a3:=h.off k j b 00 c 00;have b1:f k k * f i j<=0:=Int.mul_nonpos_of_nonneg_of_nonpos (Int.le_of_lt p) a1;have b2:0<=f i k * f k j:=Int.mul_nonneg_of_nonpos_of_nonpos a2 a3;lia;have o:=cpos hd;have e:qs n (λi=>if k+1<=i then (ya f k d i j:Rat) else 0) * (d:Rat)=(f k k:Rat) * qs n (λi=>if k<=i then (f i j:Rat) else 0) - (f k j:Rat) * qs n (λi=>if k<=i then (f i k:Rat) else 0):=by
  rw[Qz (g:=λi=>(f i j:Rat)) b,Qz (g:=λi=>(f i k:Rat)) b,Rat.mul_comm,← zZ,Rat.mul_add,Rat.mul_add,← zZ,← zZ];have q:qs n (λi=>(d:Rat) * (if k+1<=i then (ya f k d i j:Rat) else 0))=qs n (λi=>(f k k:Rat) * (if k+1<=i then (f i j:Rat) else 0)+(-1) * ((f k j:Rat) * (if k+1<=i then (f i k:Rat) else 0))):=zN λi hi=>by
   split;have:=ex i j hi 00 00;have:((f k k * f i j - f i k * f k j:Int):Rat)=((ya f k d i j * d:Int):Rat):=by rw[this]
   rw[Z46,Z1e,Z1e,Z1e] at this;grind;grind
  rw[q,Z2,zZ (-1)];grind
 have a3:=h.off k j b 00 c 00;have r:(f k j:Rat)<=0:=by
  have:(f k j:Rat)<=((0:Int):Rat):=Z28.mpr a3;simpa using this
 have s1:=h.col j 00 c;have s2:=h.col k 00 b;have s:=Rat.mul_pos (cpos p) s1;have t:=yw (a:=-(f k j:Rat)) (by grind) (Rat.le_of_lt s2);have:0<qs n (λi=>if k+1<=i then (ya f k d i j:Rat) else 0) * (d:Rat):=by rw[e];grind
 refine Rat.not_le.mp λz=>?_;have:=xG z (Rat.le_of_lt o);grind;by_cases e:i=k;subst e;unfold ya;rw[if_pos rfl];exact h.rhs i hi;have a2:=h.off i k hi 00 b e;have a1:=h.rhs i hi;have a3:=h.rhs k b;have b1:0<=f k k * f i n:=Z4K (Int.le_of_lt p) a1;have b2:f i k * f k n<=0:=Int.mul_nonpos_of_nonpos_of_nonneg a2 a3;have:=ex i n hi (Z01 _) e;refine Int.not_lt.mp λz=>?_;have:=Int.mul_neg_of_neg_of_pos z hd;lia
noncomputable def fF(f0:Nat->Nat->Int):Nat->(Nat->Nat->Int)×Int
 | 0=>(f0,1)
 | k+1=>(ya (fF f0 k).1 k (fF f0 k).2,(fF f0 k).1 k k)
noncomputable def aV(f0:Nat->Nat->Int)(i:Nat):y9:=λc=>(f0 i c:Rat)
def z6P(f0:Nat->Nat->Int):∀ i c,ZN (aV f0 i c):=λi c=>⟨f0 i c,rfl⟩
def jo(s0:Sgn n 0 f0):∀ k,k<=n->Stg (aV f0) n k (fF f0 k).1 (fF f0 k).2/\Sgn n k (fF f0 k).1/\0<(fF f0 k).2/\∀ l,l<=k->0<dd (aV f0) l
 | 0,_=>by
   refine⟨⟨rfl,λi j hi q=>?_⟩,s0,by show (0:Int)<1;decide,λl hl=>?_⟩;rw[if_neg 00];have e:vv (aV f0) 0 i=aV f0 i:=by unfold vv;rw[if_neg 00]
   rw[e,X6 _ (λc r=>00),z4n];show (f0 i j:Rat)=(f0 i j:Rat) * 1;grind;rw[show l=0 by lia,z4n];decide
 | k+1,hk=>by
   obtain⟨st,o,dp,dl⟩:=jo s0 k 00;have pv:=o.pivot 00;have h:((fF f0 k).1 k k:Rat)=dd (aV f0) (k+1):=by
    have:=st.f k k 00 00;rw[if_neg 00] at this;have e:vv (aV f0) k k=aV f0 k:=(by unfold vv;rw[if_neg 00]);rw[e] at this;rw[Xf];exact this
   have a:∀ l,l<=k+1->0<dd (aV f0) l:=λl hl=>by
    by_cases e:l=k+1;subst e;rw[← h];exact cpos pv;exact dl l 00
   have d:∀ l,l<=k+1->dd (aV f0) l≠0:=λl hl z=>by
    have:=a l hl;rw[z] at this;exact absurd this 01
   refine⟨st.next (z6P f0) 00 d,o.next 00 dp λi j hi q b=>?_,pv,a⟩;obtain⟨m,p,_⟩:=st.exact (z6P f0) 00 d hi q b;rw[p];unfold ya;rw[if_neg b,p,z4g 00]
def z4F(s0:Sgn n 0 f0)(hi:i<n):qs n (λj=>(f0 i j:Rat) * ((fF f0 n).1 j n:Rat))=((fF f0 n).2:Rat) * (f0 i n:Rat):=by
 obtain⟨st,o,dp,dl⟩:=jo s0 n (Z01 _);have l:∀ j,j<n->((fF f0 n).1 j n:Rat)=BB (aV f0) n (eV j) n:=λj b=>by
  have:=st.f j n b (Z01 _);rw[if_neg 00] at this;have e:vv (aV f0) n j=eV j:=by unfold vv;rw[if_pos b]
  rw[e] at this;exact this
 have h0:=Z2s (aV f0) hi n;have part:∀ m,m<=n->BB (aV f0) n (λc=>if c<m then aV f0 i c else 0) n=(-1) * qs m (λj=>(f0 i j:Rat) * BB (aV f0) n (eV j) n):=by
  intro m
  induction m with
  | zero =>
    intro _;rw[X6 _ (λc h=>05)];simp[qs]
  | succ m ih =>
    intro hm;have e:BB (aV f0) n (λc=>if c<m+1 then aV f0 i c else 0) n=BB (aV f0) n (λc=>1 * (if c<m then aV f0 i c else 0)+(-(f0 i m:Rat)) * eV m c) n:=by
     have pt:∀ c:Nat,(if c<m+1 then aV f0 i c else 0)=1 * (if c<m then aV f0 i c else 0)+(-(f0 i m:Rat)) * eV m c:=λc=>by
      unfold eV;by_cases c1:c<m;rw[if_pos 00,if_pos c1,if_neg 00];grind;by_cases a:c=m;subst a;rw[if_pos 00,if_neg 00,if_pos rfl];show (f0 i c:Rat)=_;grind;rw[if_neg 00,if_neg c1,if_neg a];grind
     exact qS _ (pt n) λc _=>pt c
    rw[e,Jy,ih 00];show _=(-1) * (qs m _+_);grind
 have split:BB (aV f0) n (aV f0 i) n=BB (aV f0) n (λc=>1 * (if c<n then aV f0 i c else 0)+(-(f0 i n:Rat)) * eV n c) n:=by
  have pt:∀ c:Nat,c<=n->aV f0 i c=1 * (if c<n then aV f0 i c else 0)+(-(f0 i n:Rat)) * eV n c:=λc h=>by
   unfold eV;by_cases c1:c<n;rw[if_pos c1,if_neg 00];grind;have a:c=n:=00
   subst a;rw[if_neg 00,if_pos rfl];show (f0 i c:Rat)=_;grind
  exact qS _ (pt n (Z01 _)) λc h=>pt c 00
 rw[split,Jy,part n (Z01 _),X6 _ z2B] at h0;have k:eV n n=-1:=by unfold eV;rw[if_pos rfl]
 rw[k,← st.d] at h0;rw[zN λj b=>by rw[l j b]];grind
def le_pow(a:1<=Y)(h:m<=k):Y ^ m<=Y ^ k:=Z3K a h
def z2R:∀ k,(Kk k).length=k
 | 0=>rfl
 | k+1=>by show (k :: Kk k).length=_;rw[Z09,z2R k]
def z1V(A:Nat->y9):∀ k,(Rk A k).length=k
 | 0=>rfl
 | k+1=>by show (A k :: Rk A k).length=_;rw[Z09,z1V A k]
def Z4x(s0:Sgn n 0 f0)(hn:n<=12)(C:1<=U)(t:13 * U<=Y)(w:∀ i j,(f0 i j).natAbs<=U)(A:k<=n):(∀ i j,i<n->j<=n->((fF f0 k).1 i j).natAbs<=Y ^ 13)/\(fF f0 k).2.natAbs<=Y ^ 13:=by
 obtain⟨st,E,dp,dl⟩:=jo s0 k A;have b:∀ i c,-((U:Nat):Rat)<=aV f0 i c/\aV f0 i c<=((U:Nat):Rat):=λi c=>by
  have h:=w i c;have a:((-(U:Int):Int):Rat)<=(f0 i c:Rat):=Z28.mpr 00;have q:(f0 i c:Rat)<=(((U:Int)):Rat):=Z28.mpr 00;rw[Rat.intCast_neg] at a;exact⟨a,q⟩
 have one:(1:Rat)<=((U:Nat):Rat):=Z1t C;have v:∀ i c,-((U:Nat):Rat)<=eV i c/\eV i c<=((U:Nat):Rat):=λi c=>by
  unfold eV;split <;> grind
 have o:1<=Y:=00
 have toInt:∀ {x:Int}{m:Nat},m<=13->-((Y ^ m:Nat):Rat)<=(x:Rat)/\(x:Rat)<=((Y ^ m:Nat):Rat)->x.natAbs<=Y ^ 13:=λ{x m} hm h=>by
  have F:=le_pow o hm;obtain⟨a,q⟩:=h;have l:((-((Y ^ m:Nat):Int):Int):Rat)<=(x:Rat):=by rw[Rat.intCast_neg];exact a
  have s:(x:Rat)<=((((Y ^ m:Nat):Int)):Rat):=q;have a1:=Z28.mp l;have a2:=Z28.mp s;generalize Y ^ 13=z at *;generalize Y ^ m=y at *;lia
 have u:-((Y ^ k:Nat):Rat)<=dd (aV f0) k/\dd (aV f0) k<=((Y ^ k:Nat):Rat):=by
  have:=z2M t (rs:=Rk (aV f0) k) (λr hr=>jL (p:=λr=>∀ c,-((U:Nat):Rat)<=r c/\r c<=((U:Nat):Rat)) b k r hr) (Kk k) (by rw[z2R];lia);rwa [z1V] at this
 refine⟨λi j hi B=>?_,toInt (m:=k) 00 (by rw[st.d];exact u)⟩;have e:=st.f i j hi B;split at e;split at e;exact toInt (m:=k) 00 (by rw[e];exact u);have D:(fF f0 k).1 i j=0:=by exact_mod_cast e
 rw[D];simp;refine toInt (m:=k+1) 00 ?_;rw[e];have:=z2M t (rs:=vv (aV f0) k i :: Rk (aV f0) k) (λr hr=>by
  rcases Z08.mp hr with rfl | hr;unfold vv;split;exact v i;exact b i;exact jL (p:=λr=>∀ c,-((U:Nat):Rat)<=r c/\r c<=((U:Nat):Rat)) b k r hr) (j :: Kk k) (by rw[Z09,z2R];lia)
 rwa [Z09,z1V] at this
noncomputable def Z5(x:Rat):Rat:=if x<0 then -x else x
def z3R(x:Rat):0<=Z5 x:=by unfold Z5;split <;> grind
def z8r(x y:Rat):Z5 (x+y)<=Z5 x+Z5 y:=by unfold Z5;split <;> split <;> split <;> grind
def z5j{x:Rat}(h:Z5 x<=0):x=0:=by unfold Z5 at h;split at h <;> grind
def z6k{x:Rat}(d:0<=c):Z5 (x * c)<=Z5 x * c:=by
 unfold Z5;split <;> split;grind;rename_i h1 h2;have:=yw (a:=x) (b:=c) (by grind) d;grind;rename_i h1 h2;have:=yw (a:=-x) (b:=c) (by grind) d;grind;grind
def z3r(f:Nat->Rat):∀ n,Z5 (qs n f)<=qs n (λi=>Z5 (f i))
 | 0=>by show Z5 0<=0;unfold Z5;grind
 | n+1=>by
   have b:=z3r f n;have a:=z8r (qs n f) (f n);show Z5 (qs n f+f n)<=qs n _+Z5 (f n);grind
def z6x{W:Nat->Nat->Rat}{x:Nat->Rat}(h:∀ i t,i<n->t<n->a * B t<=W i t)(m:∀ i,i<n->qs n (λt=>W i t)=1)(f:qs n B=1)(c:qs n x=qs n y) :
 qs n (λt=>Z5 (qs n (λi=>x i * W i t) - qs n (λi=>y i * W i t)))<=(1 - a) * qs n (λi=>Z5 (x i - y i)):=by
 have o:∀ t,t<n->Z5 (qs n (λi=>x i * W i t) - qs n (λi=>y i * W i t))<=qs n (λi=>Z5 (x i - y i) * (W i t - a * B t)):=λt d=>by
  have e:qs n (λi=>x i * W i t) - qs n (λi=>y i * W i t)=qs n (λi=>(x i - y i) * (W i t - a * B t)):=by
   have j:qs n (λi=>(x i - y i) * (W i t - a * B t))=qs n (λi=>(x i * W i t+(-1) * (y i * W i t))+((-(a * B t)) * x i+(a * B t) * y i)):=zN λi _=>by grind
   rw[j,Z2,Z2,Z2,zZ,zZ,zZ,c];grind
  rw[e];have q:=z3r (λi=>(x i - y i) * (W i t - a * B t)) n;have p:qs n (λi=>Z5 ((x i - y i) * (W i t - a * B t)))<=qs n (λi=>Z5 (x i - y i) * (W i t - a * B t)):=z1z λi hi=>z6k (by have:=h i t hi d;grind);grind
 have b:=z1z o;rw[JC (λt i=>Z5 (x i - y i) * (W i t - a * B t))] at b;have k:qs n (λi=>qs n (λt=>Z5 (x i - y i) * (W i t - a * B t)))=qs n (λi=>(1 - a) * Z5 (x i - y i)):=zN λi hi=>by
  rw[zZ];have l:qs n (λt=>W i t - a * B t)=1 - a:=by
   have:qs n (λt=>W i t - a * B t)=qs n (λt=>W i t+(-a) * B t):=zN λt _=>by grind
   rw[this,Z2,zZ,m i hi,f];grind
  rw[l];grind
 rw[k,zZ] at b;exact b
def unique{W:Nat->Nat->Rat}{x:Nat->Rat}(ha:0<a)(k:∀ i t,i<n->t<n->a * B t<=W i t)(d:∀ i,i<n->qs n (λt=>W i t)=1)(l:qs n B=1)(c:qs n x=qs n y)(o:∀ t,t<n->qs n (λi=>x i * W i t)=x t)(m:∀ t,t<n->qs n (λi=>y i * W i t)=y t):∀ t,t<n->x t=y t:=by
 have h:=z6x k d l c;rw[zN (g:=λt=>Z5 (x t - y t)) λt b=>by rw[o t b,m t b]] at h;have h0:0<=qs n (λt=>Z5 (x t - y t)):=Q5 λt _=>z3R _;have p:qs n (λt=>Z5 (x t - y t))<=0:=by
  refine Rat.not_lt.mp λz=>?_;have:=Rat.mul_pos ha z;grind
 intro t b;have j:=z7R (f:=λt=>Z5 (x t - y t)) b λi _=>z3R _;have:=z5j (x:=x t - y t) (Rat.le_trans j p);grind
noncomputable def mp(ps:LI)(j:Nat):Int:=(max 1 (outs ps (j:Int)).length:Nat)
noncomputable def cn(ps:LI)(j i:Nat):Int:=((outs ps (j:Int)).count (i:Int):Nat)
noncomputable def fac(ps:LI)(A:Int×Int)(j i:Nat):Int:=if j=i then A.2 * mp ps j - (A.2 - A.1) * cn ps j i else -((A.2 - A.1) * cn ps j i)
noncomputable def uo(ps:LI)(A:Int×Int)(ss:List Int)(n i j:Nat):Int:=if i<n then (if j<n then fac ps A j i else if j=n then ss.getD i 0 else 0) else 0
def V2(ps:LI)(j i:Nat):((ps.count ((j:Int),(i:Int)):Nat):Int)=cn ps j i:=by
 unfold cn outs;congr 1
 induction ps with
 | nil=>rfl
 | cons p ps ih =>
   obtain⟨a,b⟩:=p;rw[List.count_cons];by_cases h:a=(j:Int);subst h;rw[List.filter_cons_of_pos 05,Z1Y,List.count_cons,ih];simp;rw[List.filter_cons_of_neg (by simpa using h),ih];simp[h]
def Ji(lk:∀ p∈ps,0<=p.2/\p.2<(n:Int))(j:Nat):qs n (λi=>(cn ps j i:Rat))=(((outs ps (j:Int)).length:Nat):Rat):=Q0 λx a=>z0a lk a
structure YH(ps:LI)(A:Int×Int)(ss:List Int)(n:Nat):Prop where
 lk:∀ p∈ps,0<=p.2/\p.2<(n:Int)
 a0:0<A.1
 a1:A.1<=A.2
 len:ss.length=n
 nn:∀ s∈ss,0<=s
 pos:0<ss.sum
def z0S(ps:LI)(A:Int×Int)(j i:Nat):(fac ps A j i:Rat)=(if i=j then (A.2:Rat) * (mp ps j:Rat) else 0)+(-((A.2:Rat) - (A.1:Rat))) * (cn ps j i:Rat):=by
 unfold fac;by_cases e:j=i;subst e;rw[if_pos rfl,if_pos rfl,Z46,Z1e,Z1e,Z46];grind;rw[if_neg e,if_neg (λz=>e z.symm),Rat.intCast_neg,Z1e,Z46];grind
def Z1m(ps:LI)(j:Nat):1<=mp ps j/\(((outs ps (j:Int)).length:Nat):Int)<=mp ps j:=by unfold mp;lia
def YH.sgn(h:YH ps A ss n):Sgn n 0 (uo ps A ss n):=by
 refine⟨λi j hi _ c d=>?_,λj _ c=>?_,λi hi=>?_⟩;unfold uo fac;rw[if_pos hi,if_pos c,if_neg (λz=>d z.symm)];have:0<=(A.2 - A.1) * cn ps j i:=Z4K (by have:=h.a1;lia) (by unfold cn;lia);lia;rw[zN (g:=λi=>(if i=j then (A.2:Rat) * (mp ps j:Rat) else 0)+(-((A.2:Rat) - (A.1:Rat))) * (cn ps j i:Rat)) λi hi=>?_,Z2,zZ,Ji h.lk,x6 c λi _ hi=>by rw[if_neg hi]];rw[if_pos rfl];obtain⟨m,k⟩:=Z1m ps j;have f:(((outs ps (j:Int)).length:Nat):Rat)<=(mp ps j:Rat):=by
  have:((((outs ps (j:Int)).length:Nat):Int):Rat)<=(mp ps j:Rat):=Z28.mpr k;exact this
 have a1:(A.1:Rat)<=(A.2:Rat):=Z28.mpr h.a1;have l:=Rat.mul_pos (cpos h.a0) (cpos (show (0:Int)<mp ps j by lia));have o:=yw (a:=(A.2:Rat) - (A.1:Rat)) (b:=(mp ps j:Rat) - (((outs ps (j:Int)).length:Nat):Rat)) (by grind) (by grind);grind;rw[if_pos (Z19 _)];unfold uo;rw[if_pos hi,if_pos c];exact z0S ps A j i;unfold uo;rw[if_pos hi,if_neg 00,if_pos rfl];exact h.nn _ (Z2u (L2.Xa (by have:=h.len;lia)))
section
variable(ps:LI)(A:Int×Int)(ss:List Int)(n:Nat)
noncomputable def xS(j:Nat):Int:=(fF (uo ps A ss n) n).1 j n
noncomputable def dS:Int:=(fF (uo ps A ss n) n).2
noncomputable def vS(j:Nat):Int:=mp ps j * xS ps A ss n j
noncomputable def VS:Int:=((List.range n).map (vS ps A ss n)).sum
noncomputable def shL:LI:=(List.range n).map λj=>mk (vS ps A ss n j) (VS ps A ss n)
end
def YH.Z6l(h:YH ps A ss n)(a:j<n):0<=xS ps A ss n j:=((jo h.sgn n (Z01 _)).2.1).rhs j a
def YH.d_pos(h:YH ps A ss n):0<dS ps A ss n:=(jo h.sgn n (Z01 _)).2.2.1
def YH.Z4w(h:YH ps A ss n)(a:j<n):0<=vS ps A ss n j:=Z4K (by have:=(Z1m ps j).1;lia) (h.Z6l a)
def YH.row(h:YH ps A ss n)(hi:i<n):(A.2:Rat) * (vS ps A ss n i:Rat)=((A.2:Rat) - (A.1:Rat)) * qs n (λj=>(cn ps j i:Rat) * (xS ps A ss n j:Rat))+(dS ps A ss n:Rat) * (ss.getD i 0:Rat):=by
 have b:=z4F h.sgn hi;have f:uo ps A ss n i n=ss.getD i 0:=by unfold uo;rw[if_pos hi,if_neg 00,if_pos rfl]
 rw[f] at b;have d:qs n (λj=>(uo ps A ss n i j:Rat) * ((fF (uo ps A ss n) n).1 j n:Rat))=qs n (λj=>(if j=i then (A.2:Rat) * (vS ps A ss n i:Rat) else 0)+(-((A.2:Rat) - (A.1:Rat))) * ((cn ps j i:Rat) * (xS ps A ss n j:Rat))):=zN λj a=>by
  have c:uo ps A ss n i j=fac ps A j i:=by unfold uo;rw[if_pos hi,if_pos a]
  rw[c,z0S];show _ * (xS ps A ss n j:Rat)=_;by_cases e:j=i;subst e;rw[if_pos rfl,if_pos rfl];unfold vS;rw[Z1e];grind;rw[if_neg e,if_neg (λz=>e z.symm)];grind
 rw[d,Z2,zZ,x6 hi λj _ a=>by rw[if_neg a],if_pos rfl] at b;have k:((fF (uo ps A ss n) n).2:Rat)=(dS ps A ss n:Rat):=rfl;rw[k] at b;grind
def z1y:(VS ps A ss n:Rat)=qs n (λj=>(vS ps A ss n j:Rat)):=(z3S n).symm
noncomputable def dg(ps:LI)(A:Int×Int)(ss:List Int)(n j:Nat):Rat:=if outs ps (j:Int)=[] then (vS ps A ss n j:Rat) else 0
def Z1d(j:Nat):(((outs ps (j:Int)).length:Nat):Rat) * (xS ps A ss n j:Rat)=(vS ps A ss n j:Rat)+(-1) * dg ps A ss n j:=by
 unfold dg vS;by_cases e:outs ps (j:Int)=[];rw[if_pos e,e];simp;grind;rw[if_neg e];have:mp ps j=(((outs ps (j:Int)).length:Nat):Int):=by
  unfold mp;have:=Z49.mpr e;lia
 rw[this,Z1e];have a:((((outs ps (j:Int)).length:Nat):Int):Rat)=(((outs ps (j:Int)).length:Nat):Rat):=rfl;rw[a];grind
def YH.all(h:YH ps A ss n):(A.1:Rat) * (VS ps A ss n:Rat)+((A.2:Rat) - (A.1:Rat)) * qs n (λj=>dg ps A ss n j)=(dS ps A ss n:Rat) * (ss.sum:Rat):=by
 have a:qs n (λi=>(A.2:Rat) * (vS ps A ss n i:Rat))=qs n (λi=>((A.2:Rat) - (A.1:Rat)) * qs n (λj=>(cn ps j i:Rat) * (xS ps A ss n j:Rat))+(dS ps A ss n:Rat) * (ss.getD i 0:Rat)):=zN λi hi=>h.row hi;rw[zZ,Z2,zZ,zZ,JC (λi j=>(cn ps j i:Rat) * (xS ps A ss n j:Rat)),← z1y] at a;have c:qs n (λj=>qs n (λi=>(cn ps j i:Rat) * (xS ps A ss n j:Rat)))=qs n (λj=>(vS ps A ss n j:Rat)+(-1) * dg ps A ss n j):=zN λj d=>by
  have:qs n (λi=>(cn ps j i:Rat) * (xS ps A ss n j:Rat))=qs n (λi=>(xS ps A ss n j:Rat) * (cn ps j i:Rat)):=zN λi _=>Rat.mul_comm ..;rw[this,zZ,Ji h.lk,← Z1d];grind
 have b:qs n (λi=>(ss.getD i 0:Rat))=(ss.sum:Rat):=by
  have:=Je ss;rwa [h.len] at this
 rw[c,b,Z2,zZ,← z1y] at a;grind
def Z5p(h:YH ps A ss n)(a:j<n):0<=dg ps A ss n j/\dg ps A ss n j<=(vS ps A ss n j:Rat):=by
 have:=cnn (h.Z4w a);unfold dg;split <;> grind
def YH.Z1h(h:YH ps A ss n):0<VS ps A ss n:=by
 have m:=h.all;have d:=z1z λj f=>(Z5p h (j:=j) f).2;rw[← z1y] at d;have a1:(A.1:Rat)<=(A.2:Rat):=Z28.mpr h.a1;have i:=Rat.mul_pos (cpos h.d_pos) (cpos h.pos);have l:=yw (a:=(A.2:Rat) - (A.1:Rat)) (b:=(VS ps A ss n:Rat) - qs n (λj=>dg ps A ss n j)) (by grind) (by grind);have a2:=cpos (show 0<A.2 by have:=h.a0;have:=h.a1;lia);have k:0<(A.2:Rat) * (VS ps A ss n:Rat):=by grind
 have c:(0:Rat)<(VS ps A ss n:Rat):=by
  refine Rat.not_le.mp λz=>?_;have:=xG z (Rat.le_of_lt a2);grind
 have:((0:Int):Rat)<(VS ps A ss n:Rat):=by simpa using c
 exact Rat.intCast_lt_intCast.mp this
structure yk(ps:LI)(A:Int×Int)(Bs:LI)(n:Nat)(Ss:LI):Prop where
 len:Ss.length=n
 canon:ZO Ss
 nn:∀ S∈Ss,0<=S.1
 one:qs n (λt=>val (Ss.getD t (0,1)))=1
 stay:∀ t,t<n->Z3l ps A Bs Ss n t=val (Ss.getD t (0,1))
def Vx(ca:Canon A)(cb:ZO Bs)(hn:Bs.length=n)(a:t<n):val ((yJ ps A Bs (j:Nat)).getD t (0,1))=if outs ps (j:Int)=[] then val 031 else val A * val 031+(1 - val A) * ((cn ps j t:Rat) / (((outs ps (j:Int)).length:Nat):Rat)):=by
 unfold yJ;split;rfl;rename_i h;rw[yU 00,z0B ca (cb.getD t) (xM h)];rfl
def Z3s{Bs:LI}{ss:List Int}{L:Int}(h:YH ps A ss n)(ca:Canon A)(cb:ZO Bs)(hn:Bs.length=n)(E:0<L)(q:∀ t,t<n->(ss.getD t 0:Rat)=val 031 * (L:Rat))(one:qs n (λt=>val 031)=1):yk ps A Bs n (shL ps A ss n):=by
 have r:=h.Z1h;have z:=cpos r;have C:=ZD (d:=VS ps A ss n) 00;have vs:∀ t,t<n->val ((shL ps A ss n).getD t (0,1))=(vS ps A ss n t:Rat) / (VS ps A ss n:Rat):=λt a=>by
  unfold shL;rw[yU a,val_mk 00]
 refine⟨by unfold shL;simp,λS o=>?_,λS o=>?_,?_,λt a=>?_⟩;obtain⟨t,_,rfl⟩:=Z23.mp o;exact xJ 00;obtain⟨t,a,rfl⟩:=Z23.mp o;exact z5c r (h.Z4w (Z3I.mp a));rw[zN (g:=λt=>(1 / (VS ps A ss n:Rat)) * (vS ps A ss n t:Rat)) λt a=>by rw[vs t a];grind,zZ,← z1y];grind;rw[vs t a];unfold Z3l;have B:0<A.2:=ca.1;have D:=ZD (ZR ca);have p:val A * (A.2:Rat)=(A.1:Rat):=by unfold val;grind
 have k:(ss.sum:Rat)=(L:Rat):=by
  have y:qs n (λi=>(ss.getD i 0:Rat))=(ss.sum:Rat):=by
   have:=Je ss;rwa [h.len] at this
  rw[← y,zN (g:=λt=>(L:Rat) * val 031) λt a=>by rw[q t a];grind,zZ,one];grind
 have c:=h.all;rw[k] at c;have m:=h.row a;rw[q t a] at m;have key:qs n (λj=>(vS ps A ss n j:Rat) * val ((yJ ps A Bs (j:Nat)).getD t (0,1)))=(val A * val 031) * (VS ps A ss n:Rat)+(1 - val A) * qs n (λj=>(cn ps j t:Rat) * (xS ps A ss n j:Rat))+((1 - val A) * val 031) * qs n (λj=>dg ps A ss n j):=by
  have u:qs n (λj=>(vS ps A ss n j:Rat) * val ((yJ ps A Bs (j:Nat)).getD t (0,1)))=qs n (λj=>((val A * val 031) * (vS ps A ss n j:Rat)+(1 - val A) * ((cn ps j t:Rat) * (xS ps A ss n j:Rat)))+((1 - val A) * val 031) * dg ps A ss n j):=zN λj s=>by
   rw[Vx ca cb hn a];have f:=Z1d (ps:=ps) (A:=A) (ss:=ss) (n:=n) j;unfold dg at f ⊢;by_cases e:outs ps (j:Int)=[];rw[if_pos e,if_pos e];have:cn ps j t=0:=by unfold cn;rw[e];rfl
   rw[this];simp;grind;rw[if_neg e] at f ⊢;rw[if_neg e];have hl:(((outs ps (j:Int)).length:Nat):Rat)≠0:=ZD (xM e);generalize (((outs ps (j:Int)).length:Nat):Rat)=l at *;have:(vS ps A ss n j:Rat)=l * (xS ps A ss n j:Rat):=by grind
   rw[this];grind
  rw[u,Z2,Z2,zZ,zZ,zZ,← z1y]
 have w:qs n (λi=>val ((shL ps A ss n).getD i (0,1)) * val ((yJ ps A Bs (i:Nat)).getD t (0,1)))=(1 / (VS ps A ss n:Rat)) * qs n (λj=>(vS ps A ss n j:Rat) * val ((yJ ps A Bs (j:Nat)).getD t (0,1))):=by
  rw[← zZ];exact zN λj s=>by rw[vs j s];grind
 rw[w,key];generalize qs n (λj=>(cn ps j t:Rat) * (xS ps A ss n j:Rat))=Cq at *;generalize qs n (λj=>dg ps A ss n j)=Dq at *;generalize val 031=b at *;generalize (vS ps A ss n t:Rat)=v at *;generalize (VS ps A ss n:Rat)=V at *;generalize (dS ps A ss n:Rat)=d at *;generalize val A=α at *;generalize (A.2:Rat)=a2 at *;generalize (A.1:Rat)=a1 at *;subst p;have k1:a2 * v=a2 * ((1 - α) * Cq+(α * V+(1 - α) * Dq) * b):=by grind
 have k2:v=(1 - α) * Cq+(α * V+(1 - α) * Dq) * b:=by grind
 rw[k2];grind
end Pw
namespace L2
noncomputable def Z6k(r:V->List V->Hp->VK->Prop)(to:TE)(t:TA):TE:=λσ H Q=>to σ H λx H1=>(∃ (p:Addr) (xs:List V),x=.ref p/\H1 p=some (.tup xs))/\t σ H1 λxs H2=>r x xs H2 Q
def z8f{e:Expr}{cpos:Pos}{id:String}(c:attributeBase o name X.env (eval o X.env)=eval o X.env)(f:((backTo cpos (starEach (e :: es) X.env)).all (λx=>!x.1) && (backToKw cpos (keywordEach [] X.env)).all (λx=>x.1.isSome) && decide ((e :: es).length+([]:List Keyword).length+(if ([]:List Keyword).isEmpty then 0 else 1)<30))=true)(d:(apos.endLine == cpos.line)=true)(y:starEach (e :: es) X.env=016 :: starEach es X.env)(b:(backTo cpos (starEach es X.env)).any (·.1)=false)(u:PlainAttrs "tuple")(slot:Slot "tuple" name id)(i:typeOf (.builtin id)=pure (.type "method_descriptor"))(hm:MtM X id r)(n:PE X o to)(ha:PA X (e :: es) t):PE X (.Call (.Attribute o name apos) (e :: es) [] cpos) (Z6k r to t):=by
 intro pins s σ H Q I h;refine wpAny_Call_method_late c f d rfl (z8 (n pins s σ H _ I h) λv s1 zq=>?_);obtain⟨x,H1,I1,m,ty,q1⟩:=zq;obtain⟨p,xs,rfl,z⟩:=ty;cases m;obtain⟨_,its,_,ob,k,l,n1,A⟩:xs.length<=sizeLine/\∃ its:List Value,Vals xs its/\yb s1.heap p its.toArray:=I1.hok p _ z;refine⟨"tuple",id,u,slot,i,⟨ob,k,congrArg Prod.fst l⟩,λa q=>by cases q;exact⟨ob,k,congrArg Prod.snd l⟩,?_⟩;have j:=ha cpos pins s1 σ H1 _ I1 q1;rw[y] at j ⊢;refine Calls.callWith_builtin (by show (false || (backTo cpos (starEach es X.env)).any (·.1))=false;rw[b] <;> rfl) (Calls.evalArgs_plain ?_)
 exact z8 j λus s2 ⟨vs,H2,I2,w,q2⟩=>hm pins s2 σ H2 (.ref p) vs (.ref p) us Q I2 rfl w q2
noncomputable def Z4m(K:FR):V->List V->Hp->VK->Prop:=λo xs H Q=>∃ (t q:Addr) (us:List V) (ps:LI) (p:Int×Int),o=.ref t/\xs=[.ref q]/\H t=some (.tup us)/\ZJ K H ps us/\zO K H q [.int p.1,.int p.2]/\Q (.int ((ps.count p:Nat):Int)) H
open Classical in
def z5k(hr:zX k X.A):MtM X "tuple.count" (Z4m X.K):=by
 intro pins s σ H x vs v J Q I S L h;obtain⟨t,q,us,ps,p,rfl,rfl,P,j,M,k⟩:=h;cases S;obtain⟨u,rfl,U⟩:=L.one;cases U;obtain⟨its,r,pl,Z⟩:=I.tuple (zO.of P);obtain⟨⟨c,dd,O,sl⟩,e,o,n,hd⟩:=pl;have o:c=.type "tuple":=o;have hd:O=.seq its.toArray n:=hd;subst o hd;have W:=hr.units;have T:X.A.in1.units<=X.A.units+8:=by
  first | exact Nat.le_add_right _ _ | (simp[Around.in1]) | (unfold Around.in1;simp)
 have E:X.A.in1.units+20<cLine:=00
 refine call_meets F.slot_tuple_count ⟨_,e,rfl⟩ F.entry_tuple_count (F.args_tuple_count_2 _ _) (SeqAt.tuple_countAt t its.toArray n dd sl (.ref q) (λy=>decide (∃ a,y=.ref a/\zO X.K H a [.int p.1,.int p.2]))) ⟨e,λy D=>?_,?_⟩;have D:y∈its:=by simpa using D
 obtain⟨i,hi,rfl⟩:=Z4e D;have hl:=r.length;obtain⟨a,d,Y,N,f⟩:=j.get (i:=i) (v:=us[i]) 05;obtain⟨w,m,l⟩:=r.get (i:=i) (x:=us[i]) 05;rw[N] at l;cases l;have m:its[i]=.ref a:=by
  have:=m;rw[Z02 hi] at this;exact Z12 this
 rw[m];have key:=Q2 I 20 (X.A.in1) (Xo d) (Xo p) 024 (.ref q) 024 (.ref q) (by unfold Xo;simp only[Qv,xj];decide) E (by unfold Xo;simp only[Den];exact⟨a,_,rfl,f,z4o _ _ _ _⟩) (by unfold Xo;simp only[Den];exact⟨q,_,rfl,M,z4o _ _ _ _⟩) rfl rfl;have R:Ut (Xo d) (Xo p)=decide (∃ b,Value.ref a=.ref b/\zO X.K H b [.int p.1,.int p.2]):=by
  unfold Xo;simp only[Ut];rw[Z0O];by_cases hh:d=p;subst hh;rw[decide_eq_true (show (d.1,d.2)=(d.1,d.2) from rfl),decide_eq_true ⟨a,rfl,f⟩];rw[decide_eq_false (λz=>hh z),decide_eq_false];rintro⟨b,B,G⟩;cases B;have:=I.yH f G;simp at this;exact hh (Prod.ext this.1 this.2)
 rw[← R];exact key;refine⟨.int _,H,I.tok _,⟨_,rfl⟩,?_⟩;have cnt:∀ {ps:LI}{us:List V}{its:List Value},ZJ X.K H ps us->Vals us its->its.countP (λy=>decide (∃ a,y=.ref a/\zO X.K H a [.int p.1,.int p.2]))=ps.count p:=by
  intro ps
  induction ps with
  | nil =>
    intro us its j r;have hl:=j.len;have:us=[]:=Z27.mp hl;subst this;cases r;rfl
  | cons d ps ih =>
    intro us its j r;obtain⟨a,J,rfl,f,C⟩:=Z1 j;cases r with
    | cons ra rr =>
      cases ra;rw[Z5d,List.count_cons,ih C rr];congr 1;by_cases hh:d=p;subst hh;rw[if_pos (decide_eq_true ⟨a,rfl,f⟩),if_pos 05];rw[if_neg,if_neg (by simpa using hh)];intro z;obtain⟨b,B,G⟩:=of_decide_eq_true z;cases B;have:=I.yH f G;simp at this;exact hh (Prod.ext this.1 this.2)
 show Q (.int ((List.countP _ its.toArray.toList:Nat):Int)) H;rw[List.toList_toArray,cnt j r];exact k
noncomputable def ZG(f:Nat->Int)(m:Nat):List V:=((List.range m).map f).map V.int
def Zh(f:Nat->Int)(m:Nat):(ZG f m).length=m:=by unfold ZG;simp
def Yy(h:j<m):(ZG f m)[j]?=some (.int (f j)):=by
 unfold ZG;rw[Z1a,Z1a,List.getElem?_range h];rfl
def yI(f:Nat->Int)(m:Nat):ZG f (m+1)=ZG f m ++ [.int (f m)]:=by
 unfold ZG;rw[Z5n,Z16,Z16];rfl
def XN{g:Nat->Int}(h:∀ j,j<m->f j=g j):ZG f m=ZG g m:=by
 unfold ZG;congr 1;exact List.map_congr_left λj a=>h j (Z3I.mp a)
noncomputable def Xp(H:Hp)(n m:Nat)(f:Nat->Nat->Int)(us:List V):Prop:=us.length=n/\∀ i,i<n->∃ q,us[i]?=some (.ref q)/\H q=some (.lst (ZG (f i) m))
def Xp.same(h:Xp H n m f us)(s:zu H H'):Xp H' n m f us :=
 ⟨h.1,λi hi=>by
  obtain⟨q,a,b⟩:=h.2 i hi;exact⟨q,a,s _ _ b⟩⟩
def Xp.snoc(h:Xp H n m f us)(c:H q=some (.lst (ZG (f n) m))):Xp H (n+1) m f (us ++ [.ref q]):=by
 refine⟨by rw[Z14,h.1];rfl,λi hi=>?_⟩;by_cases e:i=n;subst e;exact⟨q,by rw[← h.1];simp,c⟩;obtain⟨d,a,b⟩:=h.2 i 00;exact⟨d,by rw[Z37 (by rw[h.1];lia)];exact a,b⟩
def Xp.put{xs:List V}(h:Xp H n m f us)(c:∀ i,i<n->us[i]?≠some 025):Xp (upd H D o) n m f us :=
 ⟨h.1,λi hi=>by
  obtain⟨q,a,b⟩:=h.2 i hi;exact⟨q,a,by rw[zC (λz=>c i hi (by rw[a,z]))];exact b⟩⟩
noncomputable def Jc(K:FR):Sp:=λvs H Q _=>∃ (w:Addr) (pages:Int) (j:Nat) (ps:LI),vs=[.ref w,.int j]/\xN K H w pages ps/\ps.length<=100/\∀ H',zu H H'->Q (.int (Pw.mp ps j)) H'
noncomputable def z0f(K:FR):Sp:=λvs H Q _=>∃ (w lp:Addr) (pages:Int) (j i:Nat) (ps:LI) (A:Int×Int),vs=[.ref w,.ref lp,.int j,.int i]/\xN K H w pages ps/\ps.length<=100/\Vj K H lp A/\VF 150 A/\∀ H',zu H H'->Q (.int (Pw.fac ps A j i)) H'
noncomputable def V5(K:FR):Sp:=λvs H Q _=>∃ (w lp:Addr) (pages:Int) (i:Nat) (st:Int) (ps:LI) (A:Int×Int),vs=[.ref w,.ref lp,.int i,.int st]/\xN K H w pages ps/\1<=pages/\pages<=13/\ps.length<=100/\Vj K H lp A/\VF 150 A/\
 ∀ (p:Addr) (H':Hp),zu H H'->H p=none->H' p=some (.lst (ZG (λj=>Pw.fac ps A j i) pages.toNat ++ [.int st]))->Q (.ref p) H'
noncomputable def vG(K:FR):Sp:=λvs H Q _=>∃ (e c:Addr) (k m:Nat) (d:Int) (f g:Nat->Int),vs=[.ref e,.ref c,.int k,.int d]/\H e=some (.lst (ZG f m))/\H c=some (.lst (ZG g m))/\k<m/\m<=20/\d≠0/\Sz 8000 d/\(∀ j,j<m->Sz 8000 (f j)/\Sz 8000 (g j))/\
 ∀ (p:Addr) (H':Hp),zu H H'->H p=none->H' p=some (.lst (ZG (λj=>(g k * f j - f k * g j).fdiv d) m))->Q (.ref p) H'
noncomputable def z0X(K:FR):Sp:=λvs H Q _=>∃ (e:Addr) (us:List V) (n z:Nat) (f0:Nat->Nat->Int),vs=[.ref e]/\H e=some (.lst us)/\Xp H n (n+1) f0 us/\Pw.Sgn n 0 f0/\1<=n/\n<=12/\z<=150/\(∀ i j,(f0 i j).natAbs<=2 ^ z)/\
 ∀ (t l:Addr) (H':Hp),zu H H'->H' t=some (.tup [.ref l,.int (Pw.fF f0 n).2])->H' l=some (.lst (ZG (λi=>(Pw.fF f0 n).1 i n) n))->Q (.ref t) H'
def Z1j(s0:Pw.Sgn n 0 f0)(hn:n<=12)(c:∀ i j,(f0 i j).natAbs<=2 ^ z)(d:k<=n):(∀ i j,i<n->j<=n->Sz ((z+4) * 13+1) ((Pw.fF f0 k).1 i j))/\Sz ((z+4) * 13+1) (Pw.fF f0 k).2:=by
 obtain⟨f,a⟩:=Pw.Z4x (U:=2 ^ z) (Y:=2 ^ (z+4)) s0 hn (Nat.two_pow_pos _) (by rw[Nat.pow_add];lia) c d;have e:(2 ^ (z+4)) ^ 13=2 ^ ((z+4) * 13):=(Nat.pow_mul ..).symm;rw[e] at a;have lt:2 ^ ((z+4) * 13)<2 ^ ((z+4) * 13+1):=Nat.pow_lt_pow_right 01 00;refine⟨λi j hi b=>?_,Z53 a lt⟩;have:=f i j hi b;rw[e] at this;exact Z53 this lt
def Z1G(few:ps.length<=100)(h:Pw.YH ps A ss n)(sa:Sz z A.2)(d:∀ s∈ss,s<=2 ^ z):∀ i j,(Pw.uo ps A ss n i j).natAbs<=2 ^ (z+7):=by
 intro i j;have a0:=h.a0;have a1:=h.a1;have c:A.2.natAbs<2 ^ z:=sa;have m:(2:Nat) ^ (z+7)=2 ^ z * 128:=by rw[Nat.pow_add]
 unfold Pw.uo;split;split;have hl:=Pw.xy ps (j:Int);have k:=List.count_le_length (a:=(i:Int)) (l:=Pw.outs ps (j:Int));have hm:1<=Pw.mp ps j/\Pw.mp ps j<=100:=by unfold Pw.mp;lia
 have b:0<=Pw.cn ps j i/\Pw.cn ps j i<=100:=by unfold Pw.cn;lia
 have k1:0<=A.2 * Pw.mp ps j:=Z4K 00 00;have k2:A.2 * Pw.mp ps j<=A.2 * 100:=Int.mul_le_mul_of_nonneg_left hm.2 00;have k3:0<=(A.2 - A.1) * Pw.cn ps j i:=Z4K 00 b.1;have o:(A.2 - A.1) * Pw.cn ps j i<=(A.2 - A.1) * 100:=Int.mul_le_mul_of_nonneg_left b.2 00;unfold Pw.fac;split <;> lia;split;have f:Pw.YH ps A ss n:=h;by_cases hi:i<ss.length;have hm:ss.getD i 0∈ss:=Z2u (Xa hi);have b1:=d _ hm;have b2:=h.nn _ hm;have:((2:Int) ^ z)=((2 ^ z:Nat):Int):=by push_cast;rfl
 rw[this] at b1;lia;rw[Z06,List.getElem?_eq_none 00];simp;simp;simp
noncomputable def z1m(K:FR):Sp:=λvs H Q _=>∃ (w lp ls:Addr) (pages:Int) (ps:LI) (A:Int×Int) (Bs:LI) (us:List V) (S:Int) (z:Nat),vs=[.ref w,.ref lp,.ref ls]/\Gv K H w lp ls pages ps A Bs us/\Pr A Bs S/\pages<=12/\z<=140/\VF z A/\Sz z S/\
 ∀ (p:Addr) (H':Hp) (ss:List Int) (L:Int),Pw.YH ps A ss pages.toNat->0<L->(∀ t,t<pages.toNat->(ss.getD t 0:Rat)=Pw.val 031 * (L:Rat))->(∀ j,j<pages.toNat->Sz ((z+11) * 13+8) (Pw.vS ps A ss pages.toNat j))->zu H H'->H' p=some (.lst (ZG (Pw.vS ps A ss pages.toNat) pages.toNat))->Q (.ref p) H'
noncomputable def ue(K:FR):Sp:=λvs H Q _=>∃ (w lp ls:Addr) (pages:Int) (ps:LI) (A:Int×Int) (Bs:LI) (us:List V) (S:Int) (z:Nat),vs=[.ref w,.ref lp,.ref ls]/\Gv K H w lp ls pages ps A Bs us/\Pr A Bs S/\pages<=12/\z<=140/\VF z A/\Sz z S/\
 ∀ (t:Addr) (H':Hp) (Ss:LI) (V':Int) (ys:List V),Pw.yk ps A Bs pages.toNat Ss->0<V'->Sz ((z+11) * 13+20) V'->(∀ S∈Ss,S.2∣V')->zu H H'->H' t=some (.tup ys)->X8 K H' Ss ys->Q (.ref t) H'
end L2
namespace Pw
def Z2V(ca:Canon A)(cb:ZO Bs)(hn:Bs.length=n)(pr:L2.Pr A Bs S)(c:t<n):val A * val 031<=val ((yJ ps A Bs (j:Nat)).getD t (0,1)):=by
 rw[Vx ca cb hn c];have a0:=z2m ca.1 (by have:=pr.a0;lia);have a1:=Z0B ca.1 pr.a1;have b:=L2.mem_getD (Bs:=Bs) (t:=t) 00;have b0:=z2m (cb _ b).1 (pr.nn _ b);split;have:=yw (a:=1 - val A) (by grind) b0;grind;rename_i h;have f:(0:Rat)<(((outs ps (j:Int)).length:Nat):Rat):=cpos (d:=(((outs ps (j:Int)).length:Nat):Int)) (by have:=Z49.mpr h;lia);have i:=z8p (cnn (d:=cn ps j t) (by unfold cn;lia)) f;have:=yw (a:=1 - val A) (by grind) i;grind
def yk.unique(lk:∀ p∈ps,0<=p.2/\p.2<(n:Int))(ca:Canon A)(cb:ZO Bs)(hn:Bs.length=n)(pr:L2.Pr A Bs S)(h:yk ps A Bs n Ss)(h':yk ps A Bs n Ts):Ss=Ts:=by
 have one:=pr.one;rw[hn] at one;have u:=Pw.unique (n:=n) (W:=λi t=>val ((yJ ps A Bs i).getD t (0,1))) (B:=λt=>val 031) (a:=val A) (x:=λt=>val (Ss.getD t (0,1))) (y:=λt=>val (Ts.getD t (0,1)))
  (by
   have f:=cpos ca.1;have c:=cpos pr.a0;unfold val;rw[Rat.div_def];exact Rat.mul_pos c (Rat.inv_pos.mpr f))
  (λi t _ b=>Z2V ca cb hn pr b) (λi _=>z6j lk ca cb hn one) one (by rw[h.one,h'.one]) (λt b=>h.stay t b) (λt b=>h'.stay t b)
 refine List.ext_getElem (by rw[h.len,h'.len]) λi c d=>?_;have:=u i (by have:=h.len;lia);rw[Z06,Z02 c,Z06,Z02 d] at this;exact val_inj (h.canon _ (Z29 c)) (h'.canon _ (Z29 d)) this
def yk.le1(h:yk ps A Bs n Ss):∀ S∈Ss,S.1<=S.2:=by
 intro S b;obtain⟨i,hi,rfl⟩:=Z4e b;have c:=h.canon _ (Z29 hi);have a:=z7R (n:=n) (k:=i) (f:=λt=>val (Ss.getD t (0,1))) (by have:=h.len;lia) λt o=>by
  have:=L2.mem_getD (Bs:=Ss) (t:=t) (by have:=h.len;lia);exact z2m (h.canon _ this).1 (h.nn _ this)
 rw[h.one] at a;rw[Z06,Z02 hi] at a;have a:val Ss[i]<=1:=a;have m:=cpos c.1;have j:=xG a (Rat.le_of_lt m);have l:=ZD (ZR c);have e:val Ss[i] * (Ss[i].2:Rat)=(Ss[i].1:Rat):=by unfold val;grind
 rw[e] at j;have d:(Ss[i].1:Rat)<=(Ss[i].2:Rat):=by grind
 exact Z28.mp d
end Pw
namespace L2
def z6o:∀ {ns:List Int}{s:Int},(∀ n∈ns,0<=n)->s∈ns->s<=ns.sum
 | n :: ns,s,h,a=>by
   have c:=Pw.z5T λm hm=>h m (Z03 _ hm);have b:=h n Z0K;rw[List.sum_cons];rcases Z08.mp a with rfl | a;lia;have:=z6o (λm hm=>h m (Z03 _ hm)) a
   lia
end L2
namespace Pw
def Z2k(hn:1<=n)(h:∀ t,t<n->B t=1 / (n:Rat)):qs n B=1:=by
 have a:((n:Nat):Rat)≠0:=ZD (d:=(n:Int)) 00;have key:∀ m,qs m (λ_=>1 / (n:Rat))=(m:Rat) * (1 / (n:Rat)):=λm=>by
  induction m with
  | zero=>show (0:Rat)=((0:Nat):Rat) * _;simp
  | succ m ih =>
    show qs m _+_=_;rw[ih];have:((m+1:Nat):Rat)=(m:Rat)+1:=(by push_cast;rfl);rw[this];grind
 rw[zN h,key];grind
def Z0I(h:ms.Perm ps)(j i:Nat):cn ms j i=cn ps j i:=by
 rw[← V2,← V2,h.count_eq]
end Pw
namespace L2
def zD(h:∀ R:St->Hp->Prop,R=u D->t { D with nx:=R } σ H):z2Q t u D σ H:=h _ rfl
structure z8n(z TI TO i1 i2:Addr)(f1 f2:List Addr):Prop where
 a1:TI≠z
 a2:TO≠z
 a3:i1≠z
 a4:i2≠z
 a5:TI≠TO
 a6:TI≠i1
 a7:TI≠i2
 a8:TO≠i1
 a9:TO≠i2
 b0:i1≠i2
 b1:z∉f1
 b2:z∉f2
 b3:TO∉f1
 b4:TO∉f2
 b5:i2∉f1
 b6:i1∉f2
def Draws.but{St:Nat->Heap->Prop}(D:Draws prog w A it f n Pp St)(a:c∉f)(x:Heap.ExtBut c h h')(st:St i h):St i h' :=
 D.frame i h h' st λb d o e=>x b o (λy=>a (y ▸ d)) e
def z5D{prog:Program}{w:World}{A:Around}{E:Value->Shared->Prop}{s:Shared}{z TI TO i1 i2:Addr}{f1 f2:List Addr}{n1 n2 k:Nat}{P1 P2:Nat->Value->Prop}{S1 S2:Nat->Heap->Prop}{a b:Value}{Q:Value->Shared->Prop}(D1:Draws prog w A i1 f1 n1 P1 S1)(D2:Draws prog w A i2 f2 n2 P2 S2)(Z:z8n z TI TO i1 i2 f1 f2)
 (D:IsZip s.heap z TI TO .none) (gI:IsPair s.heap TI (.ref i1) (.ref i2)) (gO:IsPair s.heap TO a b) (g1:S1 k s.heap) (g2:S2 k s.heap) (Y:k<n1) (X:k<n2)
 (q:∀ x y l tk,P1 k x->P2 k y->IsZip l z TI TO (rawInt s.heap.objs.size)->IsPair l TO x y->S1 (k+1) l->S2 (k+1) l->IsPair l s.heap.objs.size x y->
  (∀ c o,c≠z->c≠TO->c≠i1->c≠i2->s.heap.get? c=some o->l.get? c=some o)->Q 023 { s with heap:=l,toks:=tk }) :
 wpAny 07 A (Builtin.«zip.__next__» ⟨[.ref z],[]⟩) (λfin s'=>∃ v,fin=.done (.ret v)/\Q v s') E s:=by
 show wpAny _ _ (field (.ref z) 2 >>= _) _ _ _;refine wpAny_bind (wpAny_field D rfl (x:=.bool false) rfl ?_);show wpAny _ _ (field (.ref z) 3 >>= _) _ _ _;refine wpAny_bind (wpAny_field D rfl (x:=.ref TI) rfl (wpAny_bind (wpAny_seqItems gI rfl ?_)));show wpAny _ _ (Builtin.SmallTypes.ownedTupleIsFree (.ref z) >>= _) _ _ _;refine wpAny_bind ?_;unfold Builtin.SmallTypes.ownedTupleIsFree;refine wpAny_bind (wpAny_field D rfl (x:=.none) rfl (wpAny_pure ?_));simp only[if_true];refine wpAny_bind (wpAny_rule (wpAny_bind (wpAny_field D rfl (x:=.ref TO) rfl (wpAny_bind (wpAny_setField_rec D 05 λp1 j t1=>?_)))));replace j:IsZip p1 z TI TO .ellipsis:=j;refine wpAny_bind ?_;simp only[List.zipIdx_cons,List.zipIdx_nil,Z5t,List.forIn_nil];refine wpAny_bind (wpAny_bind (wpAny_onRaise ?_));show wpAny _ _ (Builtin.SmallTypes.nextOf (.ref i1) >>= _) _ _ _;refine wpAny_bind (D1.item k _ _ _ Y (Draws.but D1 Z.b1 t1.extBut g1) λx p2 tk2 px R B=>wpAny_pure ?_);have r:IsPair p2 TO a b:=B.extBut _ _ Z.a8 (t1.extBut _ _ Z.a2 gO);refine wpAny_bind (wpAny_seqItems r rfl (wpAny_bind (wpAny_updateSeq_pair r λp3 n t3=>?_)));replace n:IsPair p3 TO x b:=n;refine wpAny_bind (wpAny_letGo (wpAny_pure ?_));refine wpAny_bind (wpAny_bind (wpAny_onRaise ?_));show wpAny _ _ (Builtin.SmallTypes.nextOf (.ref i2) >>= _) _ _ _;refine wpAny_bind (D2.item k _ _ _ X (Draws.but D2 Z.b4 t3.extBut (Draws.but D2 Z.b6 B.extBut (Draws.but D2 Z.b2 t1.extBut g2))) λy p4 M py J p=>wpAny_pure ?_);have t:IsPair p4 TO x b:=p.extBut _ _ Z.a9 n;refine wpAny_bind (wpAny_seqItems t rfl (wpAny_bind (wpAny_updateSeq_pair t λd h C=>?_)));replace h:IsPair d TO x y:=h;refine wpAny_bind (wpAny_letGo (wpAny_pure (wpAny_pure ?_)));refine wpAny_bind (wpAny_seqItems h rfl (wpAny_bind (wpAny_newTuple ?_)));have sz:d.objs.size=s.heap.objs.size:=by rw[C.1,p.1,t3.1,B.1,t1.1]
 have F:IsZip d z TI TO .ellipsis:=C.extBut _ _ Z.a2.symm (p.extBut _ _ Z.a4.symm (t3.extBut _ _ Z.a2.symm (B.extBut _ _ Z.a3.symm j)));have K:∀ c o,c≠z->c≠TO->c≠i1->c≠i2->s.heap.get? c=some o->d.get? c=some o:=λc o i H S P e=>C.extBut _ _ H (p.extBut _ _ P (t3.extBut _ _ H (B.extBut _ _ S (t1.extBut _ _ i e))));have O:S1 (k+1) d:=Draws.but D1 Z.b3 C.extBut (Draws.but D1 Z.b5 p.extBut (Draws.but D1 Z.b3 t3.extBut R));have L:S2 (k+1) d:=Draws.but D2 Z.b4 C.extBut J;have T:z<d.objs.size:=Z0w F;show wpAny _ _ (Builtin.SmallTypes.ownedTupleHandOut (.ref z) (.ref d.objs.size) >>= _) _ _ _;refine wpAny_bind ?_;unfold Builtin.SmallTypes.ownedTupleHandOut;have I:IsZip (d.push { cls:=.type "tuple",data:=.seq #[x,y] }) z TI TO .ellipsis:=ZB _ F;refine wpAny_bind (wpAny_setField_rec I 05 λp7 m W=>?_);replace m:IsZip p7 z TI TO (rawInt d.objs.size):=m;refine wpAny_setField_rec m 05 λG f U=>?_;replace f:IsZip G z TI TO (rawInt d.objs.size):=f;have up:∀ c o,c≠z->d.get? c=some o->G.get? c=some o:=λc o i e=>U.extBut _ _ i (W.extBut _ _ i (ZB _ e));have u:IsPair G d.objs.size x y:=U.extBut _ _ (Z3L T) (W.extBut _ _ (Z3L T) (Z10 _ rfl));rw[sz] at f u;refine wpAny_pure ⟨_,rfl,?_⟩;show Q (.ref d.objs.size) _;rw[sz];exact q x y G M px py f (up _ _ Z.a2 h) (D1.frame _ _ _ O λb N o e=>up _ o (λy=>Z.b1 (y ▸ N)) e) (D2.frame _ _ _ L λb N o e=>up _ o (λy=>Z.b2 (y ▸ N)) e) u λc o i H S P e=>up c o i (K c o i H S P e)
def z7s{TI TO:Addr}{f2:List Addr}(D1:Draws prog w A i1 f1 n1 P1 S1)(D2:Draws prog w A i2 f2 n2 P2 S2)(Z:z8n z TI TO i1 i2 f1 f2)(p:IsZip s.heap z TI TO .none)(I:IsPair s.heap TI (.ref i1) (.ref i2))(J:IsPair s.heap TO a b)(g1:S1 k s.heap)(g2:S2 k s.heap)(O:k=n1\/(k<n1/\k=n2))(q:∀ t e H,(∀ c o,c≠z->c≠TO->c≠i1->c≠i2->s.heap.get? c=some o->t.get? c=some o)->(∃ o,t.get? e=some o/\o.cls=.type "StopIteration")->E (.ref e) { s with heap:=t,toks:=H }) :
 wpAny 07 A (Builtin.«zip.__next__» ⟨[.ref z],[]⟩) Q E s:=by
 show wpAny _ _ (field (.ref z) 2 >>= _) _ _ _;refine wpAny_bind (wpAny_field p rfl (x:=.bool false) rfl ?_);show wpAny _ _ (field (.ref z) 3 >>= _) _ _ _;refine wpAny_bind (wpAny_field p rfl (x:=.ref TI) rfl (wpAny_bind (wpAny_seqItems I rfl ?_)));show wpAny _ _ (Builtin.SmallTypes.ownedTupleIsFree (.ref z) >>= _) _ _ _;refine wpAny_bind ?_;unfold Builtin.SmallTypes.ownedTupleIsFree;refine wpAny_bind (wpAny_field p rfl (x:=.none) rfl (wpAny_pure ?_));simp only[if_true];refine wpAny_bind (wpAny_rule (wpAny_bind (wpAny_field p rfl (x:=.ref TO) rfl (wpAny_bind (wpAny_setField_rec p 05 λN h t1=>?_)))));replace h:IsZip N z TI TO .ellipsis:=h;refine wpAny_bind ?_;simp only[List.zipIdx_cons,List.zipIdx_nil,Z5t,List.forIn_nil];refine wpAny_bind (wpAny_bind (wpAny_onRaise ?_));show wpAny _ _ (Builtin.SmallTypes.nextOf (.ref i1) >>= _) _ _ _;rcases O with e |⟨u,e⟩;subst e;refine wpAny_bind (D1.done _ _ _ (Draws.but D1 Z.b1 t1.extBut g1) λy e i he=>?_)
 obtain⟨r,d,f⟩:=he;have n:IsZip y z TI TO .ellipsis:=i _ _ Z.a3.symm h;have v:e≠z:=λx=>by subst x;rw[n] at d;cases d;simp at f
 exact wpAny_setField_rec n 05 λD _ t3=>q D e _ (λc o m _ B _ x=>t3.extBut _ _ m (i _ _ B (t1.extBut _ _ m x))) ⟨r,t3.extBut _ _ v d,f⟩;subst e;refine wpAny_bind (D1.item k _ _ _ u (Draws.but D1 Z.b1 t1.extBut g1) λx y S T M i=>wpAny_pure ?_);have j:IsPair y TO a b:=i.extBut _ _ Z.a8 (t1.extBut _ _ Z.a2 J);refine wpAny_bind (wpAny_seqItems j rfl (wpAny_bind (wpAny_updateSeq_pair j λD P t3=>?_)));refine wpAny_bind (wpAny_letGo (wpAny_pure (wpAny_bind (wpAny_bind (wpAny_onRaise ?_)))));show wpAny _ _ (Builtin.SmallTypes.nextOf (.ref i2) >>= _) _ _ _;refine wpAny_bind (D2.done _ _ _ (Draws.but D2 Z.b4 t3.extBut (Draws.but D2 Z.b6 i.extBut (Draws.but D2 Z.b2 t1.extBut g2))) λR e C he=>?_);obtain⟨r,d,f⟩:=he;have l:IsZip R z TI TO .ellipsis:=C _ _ Z.a4.symm (t3.extBut _ _ Z.a2.symm (i.extBut _ _ Z.a3.symm h));have v:e≠z:=λx=>by subst x;rw[l] at d;cases d;simp at f
 exact wpAny_setField_rec l 05 λL _ F=>q L e _ (λc o m G B K x=>F.extBut _ _ m (C _ _ K (t3.extBut _ _ G (i.extBut _ _ B (t1.extBut _ _ m x))))) ⟨r,F.extBut _ _ v d,f⟩
noncomputable def ZSt(z TI TO i1 i2:Addr)(S1 S2:Nat->Heap->Prop)(i:Nat)(h:Heap):Prop:=IsZip h z TI TO .none/\IsPair h TI (.ref i1) (.ref i2)/\(∃ a b,IsPair h TO a b)/\S1 i h/\S2 i h
noncomputable def Z4P(z TI TO i1 i2:Addr)(S1 S2:Nat->Heap->Prop)(i:Nat)(T:Addr)(h:Heap):Prop:=IsZip h z TI TO (rawInt T)/\IsPair h TI (.ref i1) (.ref i2)/\(∃ a b,IsPair h TO a b)/\S1 (i+1) h/\S2 (i+1) h/\T≠z/\T≠TO/\T≠i1/\T≠i2
def Z1w{TI TO:Addr}{f2:List Addr}(D1:Draws prog w A.in1 i1 f1 n1 P1 S1)(D2:Draws prog w A.in1 i2 f2 n2 P2 S2)(Z:z8n z TI TO i1 i2 f1 f2) :
 z6A prog w A z [z,TO,i1,i2] (min n1 n2) (λi vals=>∃ x y,P1 i x/\P2 i y/\vals=#[x,y]) (ZSt z TI TO i1 i2 S1 S2) (Z4P z TI TO i1 i2 S1 S2):=λi s Q E hi st q=>by
 obtain⟨f,h,⟨a,b,j⟩,g1,g2⟩:=st;have k:s.TypeIs (.ref z) "zip":=⟨_,f,rfl⟩;have gt:∀ {c:Addr}{o:Obj},s.heap.get? c=some o->s.heap.objs.size≠c:=λe=>Z3L (Z0w e);unfold pyNext;refine wpAny_bind (wpAny_attempt (wpAny_callSpecial?_slot (name:=Str.ofString "__next__") k F.slot_zip_next (wpAny_call_entry F.slot_zip_next k F.entry_zip_next
  (z5D D1 D2 Z f h j g1 g2 (Z0N hi (Nat.min_le_left ..)) (Z0N hi (Nat.min_le_right ..)) λx y n l m py a1 a2 a3 a4 a5 kp=>wpAny_pure ?_) (F.args_zip_next_1 _))))
 exact q _ _ _ n l ⟨_,_,m,py,rfl⟩ (Z01 _) a5 ⟨a1,kp _ _ Z.a1 Z.a5 Z.a6 Z.a7 h,⟨_,_,a2⟩,a3,a4,gt f,gt j,(by obtain⟨_,e⟩:=D1.live _ _ g1;exact gt e),(by obtain⟨_,e⟩:=D2.live _ _ g2;exact gt e)⟩
  λc o d e=>kp c o (λy=>d (by simp[y])) (λy=>d (by simp[y])) (λy=>d (by simp[y])) (λy=>d (by simp[y])) e
def walkZ{TI TO:Addr}{f2:List Addr}(D1:Draws prog w A.in1 i1 f1 n1 P1 S1)(D2:Draws prog w A.in1 i2 f2 n2 P2 S2)(Z:z8n z TI TO i1 i2 f1 f2) :
 WalksT prog w A z ([z,TI,TO,i1,i2] ++ (f1 ++ f2)) [z,TO,i1,i2] (min n1 n2) (λi vals=>∃ x y,P1 i x/\P2 i y/\vals=#[x,y]) (ZSt z TI TO i1 i2 S1 S2) (Z4P z TI TO i1 i2 S1 S2) where
 sub:=λc d=>by
  simp at d ⊢;rcases d with rfl | rfl | rfl | rfl <;> simp
 frame:=λi h h' st l=>by
  obtain⟨m,n,⟨a,b,p⟩,g1,g2⟩:=st;exact⟨l z 05 _ m,l TI 05 _ n,⟨a,b,l TO 05 _ p⟩,D1.frame _ _ _ g1 λb q o e=>l b (by simp[q]) o e,D2.frame _ _ _ g2 λb q o e=>l b (by simp[q]) o e⟩
 item:=λi s Q E hi st f=>Z1w D1 D2 Z i s Q E hi st λT x y h' u pt j D mid kp=>f T #[x,y] h' u pt j ⟨_,D,rfl,_,rfl⟩ mid kp
 go:=λelts k pos i T s Q E hm f=>by
  obtain⟨m,n,⟨a,b,p⟩,g1,g2,_⟩:=hm;exact wpAny_letOwnedTupleGo_zip m λh' r t=>f h' ⟨r,t.extBut _ _ Z.a1 n,⟨a,b,t.extBut _ _ Z.a2 p⟩,Draws.but D1 Z.b1 t.extBut g1,Draws.but D2 Z.b2 t.extBut g2⟩ λc o d e=>t.extBut _ _ (λx=>d (by simp[x])) e
 apart:=λi T h hm j=>by
  obtain⟨_,_,_,_,_,t1,C,t3,B⟩:=hm;simp at j;rcases j with y | y | y | y;exact t1 y;exact C y;exact t3 y;exact B y
 done:=λs Q E st f=>by
  obtain⟨m,n,⟨a,b,p⟩,g1,g2⟩:=st;have j:s.TypeIs (.ref z) "zip":=⟨_,m,rfl⟩;unfold pyNext;refine wpAny_bind (wpAny_attempt (wpAny_callSpecial?_slot (name:=Str.ofString "__next__") j F.slot_zip_next (wpAny_call_entry F.slot_zip_next j F.entry_zip_next (z7s D1 D2 Z m n p g1 g2 00 λh' e u l he=>?_) (F.args_zip_next_1 _))));obtain⟨o,v,d⟩:=he;refine wpAny_bind (wpAny_isInstance (T:="StopIteration") (b:=true) ⟨o,v,d⟩ isSubtype_stop (wpAny_pure ?_));exact f _ _ λc o d e=>l c o (λx=>d (by simp[x])) (λx=>d (by simp[x])) (λx=>d (by simp[x])) (λx=>d (by simp[x])) e
 self:=λi s Q E st f=>wpAny_pyIter_zip st.1 f
noncomputable def xm(b:Bool)(h:Heap)(it a:Addr)(i:Nat):Prop:=if b=true then h.IsListIter it a i else h.IsTupleIter it a i
noncomputable def vD(b:Bool)(h:Heap)(a:Addr)(its:Array Value):Prop:=if b=true then h.IsList a its else h.IsTuple a its
def j9(b:Bool)(c:A.handled=none)(it l:Addr)(a:l≠it)(its:Array Value) :
 Draws prog w A it [it,l] its.size (λi v=>its[i]?=some v) (λi h=>xm b h it l i/\vD b h l its):=by
 cases b;exact Z1B c it l a its;exact Draws.list c it l a its
def Inv.z5u{X:Cx}{σ:St}(I:Inv X pins σ H s)(h:Sq b X.K H a xs):∃ its:List Value,Vals xs its/\vD b s.heap a its.toArray:=by
 cases b;obtain⟨its,r,p,_⟩:=I.tuple h;exact⟨its,r,p⟩;obtain⟨its,r,p,_⟩:=I.list h;exact⟨its,r,p.isList⟩
def Inv.z0O{X:Cx}{σ:St}(I:Inv X pins σ H s)(h:Sq b X.K H a xs)(h':Sq b X.K H a ys):xs=ys:=by
 cases b;exact I.yH h h';exact I.Qu h h'
def xm.at(x:xm b h it a i)(k:∀ o,h.get? it=some o->h'.get? it=some o):xm b h' it a i:=by
 cases b;obtain⟨o,e,r⟩:=x;exact⟨o,k o e,r⟩;obtain⟨o,e,r⟩:=x;exact⟨o,k o e,r⟩
def xm.obj(x:xm b h it a i):∃ o,h.get? it=some o/\∀ v,o.data≠.cell v:=by
 cases b;obtain⟨o,e,c,d⟩:=x;exact⟨o,e,λv z=>by rw[d] at z;cases z⟩;obtain⟨o,e,c,d⟩:=x;exact⟨o,e,λv z=>by rw[d] at z;cases z⟩
noncomputable def Z3k(b1 b2:Bool)(K:FR)(a b:Addr):It:=ItP (λi H=>∃ xs ys x y,Sq b1 K H a xs/\Sq b2 K H b ys/\xs[i]?=some x/\ys[i]?=some y) (λi H u v=>(∀ xs,Sq b1 K H a xs->xs[i]?=some u)/\∀ ys,Sq b2 K H b ys->ys[i]?=some v) (λi H=>∃ xs ys,Sq b1 K H a xs/\Sq b2 K H b ys/\min xs.length ys.length=i)
noncomputable def z6H(z TI TO i1 i2 b a:Addr):Prop:=z8n z TI TO i1 i2 [i1,b] [i2,a]/\b≠i1/\a≠i2
def z5l{TI TO:Addr}(Z:z6H z TI TO i1 i2 l1 l2):Turn P w K (.Tuple elts ek epos) (Z3k b1 b2 K l1 l2) [z,TI,TO,i1,i2] z (λi h=>IsZip h z TI TO .none/\IsPair h TI (.ref i1) (.ref i2)/\(∃ a b,IsPair h TO a b)/\xm b1 h i1 l1 i/\xm b2 h i2 l2 i):=by
 obtain⟨Z,n1,n2⟩:=Z;refine ur (wr:=[z,TO,i1,i2]) 05 (λb t=>?_) (λi h st b t=>?_) (λi h h' st k=>?_) (λA i s Q E st q=>?_) ?_ ?_;simp at t ⊢;rcases t with y | y | y | y <;> simp[y];obtain⟨g1,g2,⟨x,y,g3⟩,j,l⟩:=st;simp at t;rcases t with y | y | y | y | y;exact⟨_,y ▸ g1,λv z=>by cases z⟩
 exact⟨_,y ▸ g2,λv z=>by cases z⟩;exact⟨_,y ▸ g3,λv z=>by cases z⟩;rw[y];exact j.obj;rw[y];exact l.obj;obtain⟨g1,g2,⟨x,y,g3⟩,j,l⟩:=st;exact⟨k z 05 _ g1,k TI 05 _ g2,⟨x,y,k TO 05 _ g3⟩,j.at λo e=>k i1 05 o e,l.at λo e=>k i2 05 o e⟩;exact wpAny_pyIter_zip st.1 q;intro X hP J n r i pins s σ H I0 hf st M;obtain⟨xs,ys,x,y,m,c,D,G⟩:=M;rw[← n] at m c;obtain⟨its,B,p⟩:=I0.z5u m;obtain⟨its',f,N⟩:=I0.z5u c;obtain⟨u,U,ru⟩:=B.get D;obtain⟨u',I,F⟩:=f.get G;have hl:=B.length;have O:=f.length;have T:i<xs.length:=(Z15.mp D).1;have Y:i<ys.length:=(Z15.mp G).1;obtain⟨g1,g2,g3,j,l⟩:=st;have D1:=j9 (prog:=P) (w:=w) (A:=X.A.in1) b1 (I0.ok.hd r) i1 l1 n1 its.toArray;have D2:=j9 (prog:=P) (w:=w) (A:=X.A.in1) b2 (I0.ok.hd r) i2 l2 n2 its'.toArray;refine⟨_,_,_,_,_,⟨walkZ D1 D2 Z,Z1w D1 D2 Z⟩,by rw[Z05,Z05];lia,⟨g1,g2,g3,⟨j,p⟩,⟨l,N⟩⟩,λh' q=>⟨q.1,q.2.1,q.2.2.1,q.2.2.2.1.1,q.2.2.2.2.1⟩,?_⟩;rintro vals ⟨v,W,S,L,rfl⟩;have C:its[i]?=some v:=by simpa using S
 have R:its'[i]?=some W:=by simpa using L
 rw[U] at C;rw[I] at R;cases C;cases R;exact⟨x,y,_,_,rfl,ru,F,λys d=>by rw[← n] at d;rw[I0.z0O d m];exact D,λys d=>by rw[← n] at d;rw[I0.z0O d c];exact G⟩;intro X hP J n r i pins s σ H I0 hf st M;obtain⟨xs,ys,m,c,D⟩:=M;rw[← n] at m c;obtain⟨its,B,p⟩:=I0.z5u m;obtain⟨its',f,N⟩:=I0.z5u c;have hl:=B.length;have O:=f.length;obtain⟨g1,g2,g3,j,l⟩:=st;have C:min its.toArray.size its'.toArray.size=i:=by rw[Z05,Z05];lia
 refine⟨_,_,_,_,_,walkZ (j9 (prog:=P) (w:=w) (A:=X.A.in1) b1 (I0.ok.hd r) i1 l1 n1 its.toArray) (j9 (prog:=P) (w:=w) (A:=X.A.in1) b2 (I0.ok.hd r) i2 l2 n2 its'.toArray) Z,?_⟩;rw[C];exact⟨g1,g2,g3,⟨j,p⟩,⟨l,N⟩⟩
noncomputable def itO(b:Bool)(l:Addr):Obj:=if b=true then { cls:=.type "list_iterator",data:=.fields #[.ref l,.int 0 0] } else { cls:=.type "tuple_iterator",data:=.fields #[.ref l,.int 0 0] }
noncomputable def zH(b1 b2:Bool)(h:Heap)(b a:Addr):Heap:=((((h.push (itO b1 b)).push (itO b2 a)).push { cls:=.type "tuple",data:=.seq #[.ref h.objs.size,.ref (h.objs.size+1)] }).push { cls:=.type "tuple",data:=.seq #[.none,.none] }).push { cls:=.type "zip",data:=.fields #[.none,.bool false,.bool false,.ref (h.objs.size+2),.ref (h.objs.size+3)] }
def jD(hl:vD b s.heap l its)(q:Q 023 { s with heap:=s.heap.push (itO b l) }):wpAny 07 A (pyIter (.ref l)) Q E s:=by
 cases b;exact wpAny_pyIter_tuple hl q;exact wpAny_pyIter_list hl q
def vD.push(x:vD b h l its)(o:Obj):vD b (h.push o) l its:=by
 cases b;obtain⟨u,e,r⟩:=x;exact⟨u,ZB _ e,r⟩;obtain⟨u,e,r⟩:=x;exact⟨u,ZB _ e,r⟩
def z8v(b1 b2:Bool)(a b:Addr)(xs ys:Array Value) :
 Meets (Builtin.«zip.__new__» ⟨[.type "zip",.ref a,.ref b],[]⟩) (λ_ R s=>vD b1 s.heap a xs/\vD b2 s.heap b ys/\R (.ok (.ret (.ref (s.heap.objs.size+4)))) { s with heap:=zH b1 b2 s.heap a b }) :=
 .of_wp λprog w A R s h=>by
  obtain⟨m,g,d,k,os⟩:=s;obtain⟨c,j,h⟩:=h;have l:=sub_zip;have i:vD b1 (Shared.heap ⟨m,g,d,k,os⟩) a xs:=c;have f:vD b2 (Shared.heap ⟨m.push (itO b1 a),g,d,k,os⟩) b ys:=j.push _;wp_walk using jD i,jD f;refine⟨_,rfl,?_⟩;simp only[Z4L];exact h
def z4S(f:vD b1 s.heap l1 xs)(i:vD b2 s.heap l2 ys)(q:∀ a,IsZip a (s.heap.objs.size+4) (s.heap.objs.size+2) (s.heap.objs.size+3) .none->IsPair a (s.heap.objs.size+2) 023 (.ref 020)->IsPair a (s.heap.objs.size+3) .none .none->xm b1 a s.heap.objs.size l1 0->xm b2 a 020 l2 0->
  (∀ c o,s.heap.get? c=some o->a.get? c=some o)->Q (.ref (s.heap.objs.size+4)) { s with heap:=a }):wpAny 07 A (call (.type "zip") [.ref l1,.ref l2]) Q E s:=by
 refine callType_new F.called_zip 01 (F.typeCall_zip_2 _ _) (F.newCall_zip_2 _ _) (λobj=>F.args_object_init_3 obj _ _) F.entry_zip_new (z8v b1 b2 l1 l2 xs ys) ⟨f,i,?_⟩;generalize hn:s.heap.objs.size=n at q;have m:(s.heap.push (itO b1 l1)).objs.size=n+1:=by rw[Z4L,hn]
 have j:((s.heap.push (itO b1 l1)).push (itO b2 l2)).objs.size=n+2:=by rw[Z4L,m]
 have k:(((s.heap.push (itO b1 l1)).push (itO b2 l2)).push { cls:=.type "tuple",data:=.seq #[.ref s.heap.objs.size,.ref 020] }).objs.size=n+3:=by rw[Z4L,j]
 have r:((((s.heap.push (itO b1 l1)).push (itO b2 l2)).push { cls:=.type "tuple",data:=.seq #[.ref s.heap.objs.size,.ref 020] }).push { cls:=.type "tuple",data:=.seq #[.none,.none] }).objs.size=n+4:=by rw[Z4L,k]
 have d:∀ b l,(itO b l).isFreed=false:=λb l=>by cases b <;> rfl
 have h:(zH b1 b2 s.heap l1 l2).get? (n+4)=some { cls:=.type "zip",data:=.fields #[.none,.bool false,.bool false,.ref (s.heap.objs.size+2),.ref (s.heap.objs.size+3)] }:=by rw[← r];exact Z10 _ rfl
 have p:(zH b1 b2 s.heap l1 l2).get? (n+3)=some { cls:=.type "tuple",data:=.seq #[.none,.none] }:=by rw[← k];exact ZB _ (Z10 _ rfl)
 have g3:(zH b1 b2 s.heap l1 l2).get? (n+2)=some { cls:=.type "tuple",data:=.seq #[.ref s.heap.objs.size,.ref 020] }:=by rw[← j];exact ZB _ (ZB _ (Z10 _ rfl))
 have g2:(zH b1 b2 s.heap l1 l2).get? (n+1)=some (itO b2 l2):=by rw[← m];exact ZB _ (ZB _ (ZB _ (Z10 _ (d _ _))))
 have g1:(zH b1 b2 s.heap l1 l2).get? n=some (itO b1 l1):=by rw[← hn];exact ZB _ (ZB _ (ZB _ (ZB _ (Z10 _ (d _ _)))))
 rw[hn] at h g3;have i1:xm b1 (zH b1 b2 s.heap l1 l2) n l1 0:=by
  cases b1;exact⟨_,g1,rfl,rfl⟩;exact⟨_,g1,rfl,rfl⟩
 have i2:xm b2 (zH b1 b2 s.heap l1 l2) (n+1) l2 0:=by
  cases b2;exact⟨_,g2,rfl,rfl⟩;exact⟨_,g2,rfl,rfl⟩
 show _/\_;exact⟨⟨_,h,rfl⟩,q _ h g3 p i1 i2 λc o x=>ZB _ (ZB _ (ZB _ (ZB _ (ZB _ x))))⟩
noncomputable def Z5c(K:FR)(c:TA):TI:=λσ H R=>c σ H λvs H1=>∃ b1 b2 a b xs ys,vs=[.ref a,.ref b]/\Sq b1 K H1 a xs/\Sq b2 K H1 b ys/\R (Z3k b1 b2 K a b) H1
def z1X{n f d:Addr}(k:f<n)(o:d<n):z6H (n+4) (n+2) (n+3) n (n+1) f d:=by
 have m:∀ c x y:Addr,c≠x->c≠y->c∉[x,y]:=λc x y a b h=>by
  rcases Z08.mp h with h | h;exact a h;exact b (Z04.mp h)
 have ne:∀ n i j:Nat,i≠j->n+i≠n+j:=λn i j h e=>h (Nat.add_left_cancel e);have nl:∀ n l i:Nat,l<n->n+i≠l:=λn l i h e=>by lia
 have nr:∀ n l i:Nat,l<n->l≠n+i:=λn l i h e=>by lia
 exact⟨⟨ne n 2 4 01,ne n 3 4 01,ne n 0 4 01,ne n 1 4 01,ne n 2 3 01,ne n 2 0 01,ne n 2 1 01,ne n 3 0 01,ne n 3 1 01,ne n 0 1 01,
  m _ _ _ (ne n 4 0 01) (nl n f 4 k),m _ _ _ (ne n 4 1 01) (nl n d 4 o),m _ _ _ (ne n 3 0 01) (nl n f 3 k),m _ _ _ (ne n 3 1 01) (nl n d 3 o),m _ _ _ (ne n 1 0 01) (nl n f 1 k),m _ _ _ (ne n 0 1 01) (nl n d 0 o)⟩,nr n f 0 k,nr n d 1 o⟩
def z0x{pos:Pos}(C:Gl X "zip")(A:starEach [a,b] X.env=[(false,eval a X.env),(false,eval b X.env)])(i:starEach [b] X.env=[(false,eval b X.env)])(t:X.K=K)(hm:X.mg "zip"=none)(ha:PA X [a,b] ta) :
 PI X (.Tuple elts ek epos) (.Call (.Name "zip" p) [a,b] [] pos) (Z5c K ta):=by
 subst t;intro pins s σ H R I h;refine Call_ (yX I C hm boot_zip (Z33 (z8 (ha pos pins s σ H _ I h) λus s1 ⟨vs,H1,I1,r,q1⟩=>?_) (by rw[A,i]) (by rw[i];rfl)));obtain⟨b1,b2,l,G,xs,ys,rfl,hl,m,q⟩:=q1;obtain⟨u,v,rfl,D,c⟩:=vals2 r;cases D;cases c;obtain⟨its,F,pl⟩:=I1.z5u hl;obtain⟨its',c,j⟩:=I1.z5u m;have lt:∀ {b:Bool}{l:Addr}{its:Array Value},vD b s1.heap l its->l<s1.heap.objs.size:=λ{b l its} x=>by
  cases b;obtain⟨o,z,_⟩:=x;exact Z0w z;obtain⟨o,z,_⟩:=x;exact Z0w z
 have k:=lt pl;have d:=lt j;refine z4S pl j λE g1 g2 g3 y B w=>?_;have I2:Inv X pins σ H1 { s1 with heap:=E }:=I1.kept (t':=s1.toks) w;have nx:∀ b,s1.heap.objs.size<=b->xg X pins H1 b:=λb f=>I1.z0G f (I1.hok.fresh f);generalize s1.heap.objs.size=n at *;refine wpAny_pyIter_zip g1 ⟨_,[n+4,n+2,n+3,n,n+1],_,_,H1,rfl,I2,z5l (z1X k d),⟨g1,g2,⟨_,_,g3⟩,y,B⟩,λb f=>?_,q⟩;simp at f;rcases f with rfl | rfl | rfl | rfl | rfl <;> exact nx _ (by first | exact Nat.le_add_right _ _ | exact Z01 _)
def zu.kpd(k:zu H H'):Kp l H H':=λb o e _=>k b o e
def z8u(Pv:St->Hp->Prop)(μ:St->Hp->Nat)(h0:Pv σ H)(f:∀ σ H,Pv σ H->c σ H λb H1=>if b=true then ∃ N:St->Hp->Prop,(∀ a H',N a H'->∃ d,d<μ σ H/\d=μ a H'/\Pv a H')/\tb { D with nx:=N,ct:=N,bk:=D.nx } σ H1 else D.nx σ H1):jO c tb D σ H :=
 ⟨λm σ H=>m=μ σ H/\Pv σ H,⟨_,rfl,h0⟩,λm σ H ⟨e,p⟩=>by subst e;exact f σ H p⟩
def wN{Pv:St->Hp->Prop}{μ:St->Hp->Nat}{n:Nat}:∀ a H',(Pv a H'/\μ a H'<n)->∃ b,b<n/\b=μ a H'/\Pv a H':=λ_ _ ⟨p,l⟩=>⟨_,l,rfl,p⟩
def Inv.Z1R{σ:St}(I:Inv X pins σ H s)(h:H a=some (.lst xs)):∃ its:List Value,Vals xs its/\s.heap.PlainList a its.toArray:=by
 obtain⟨_,its,n,r,e⟩:xs.length<=sizeLine/\∃ (its:List Value) (n:Nat),Vals xs its/\s.heap.get? a=some { cls:=.type "list",data:=.seq its.toArray n }:=I.hok a _ h;exact⟨its,r,n,e⟩
def UZ:∀ {ns:List Int}{its:List Value},Vals (ns.map V.int) its->∃ xs:Array (Int×Tok),its.toArray=intItems xs/\xs.toList.map (·.1)=ns
 | [],its,r=>by cases r;exact⟨#[],by simp[intItems],rfl⟩
 | n :: ns,its,r=>by
   obtain⟨v,vs,rfl⟩:∃ v vs,its=v :: vs:=by cases r;exact⟨_,_,rfl⟩
   have hr:RelV (.int n) v/\Vals (ns.map V.int) vs:=by
    cases r with
    | cons rx rs=>exact⟨rx,rs⟩
   obtain⟨⟨t,rfl⟩,rs⟩:=hr;obtain⟨xs,b,a⟩:=UZ rs;refine⟨((n,t) :: xs.toList).toArray,?_,?_⟩;have c:vs=xs.toList.map (λp:Int×Tok=>Value.int p.1 p.2):=by
    have:=congrArg Array.toList b;simpa[intItems] using this
   simp[intItems,c];simp[a]
noncomputable def Z3U:List V->Hp->VK->Prop:=λvs H Q=>∃ (p:Addr) (ns:List Int),vs=[.ref p]/\H p=some (.lst (ns.map V.int))/\ns≠[]/\∀ m,m∈ns->(∀ x∈ns,x<=m)->Q (.int m) H
def z4A(w:X.calm=true):Zw X (.builtin "max") Z3U:=by
 intro pins s σ H xs us Q I r h;obtain⟨p,ns,rfl,F,hn,q⟩:=h;obtain⟨u,rfl,E⟩:=vals1 r;cases E;obtain⟨its,n,pl⟩:=I.Z1R F;obtain⟨ys,o,b⟩:=UZ n;rw[o] at pl;have d:ys.size=ns.length:=by rw[← b,Z00,Z07]
 have h0:0<ys.size:=by
  rw[d];exact Z49.mpr hn
 refine max_intList (I.ok.hd w) pl.isList h0 λv h' G l C=>?_;obtain⟨t,rfl⟩:=intItems_at l;refine⟨.int (numAt ys (argBest (λi j=>decide (numAt ys i > numAt ys j)) (ys.size - 1))),H,I.kept C,⟨t,rfl⟩,q _ ?_ λx m=>?_⟩;have f:=(Array.getElem?_eq_some_iff.mp l).1;generalize argBest (λi j=>decide (numAt ys i > numAt ys j)) (ys.size - 1)=k at *;have a:k<ys.size:=by simpa[intItems] using f
 rw[← b];unfold numAt;rw[Z45 a];exact Z23.mpr ⟨ys[k],Array.getElem_mem_toList a,rfl⟩;rw[← b] at m;obtain⟨y,A,rfl⟩:=Z23.mp m;obtain⟨j,D,B⟩:=Z4e A;have c:j<ys.size:=by simpa using D
 have z:numAt ys j=y.1:=by
  unfold numAt;rw[Z45 c];show (ys[j]).1=y.1;rw[← B,Array.getElem_toList]
 rw[← z];exact (argBest_gt (numAt ys) (ys.size - 1)).2 j 00
def z4x:typeLookup (.type "list_reverseiterator") "__len__"=pure none:=by rw[typeLookup_type,builtinLookup_eq_fast];kernel_rfl
def z7Q:typeLookup (.type "list_reverseiterator") "__length_hint__"=pure (some (.builtin "list_reverseiterator.__length_hint__")):=by rw[typeLookup_type,builtinLookup_eq_fast];kernel_rfl
noncomputable def z9y(K:FR):List V->Hp->VK->Prop:=λxs H Q=>∃ (l:Addr) (vs:List V) (ps:LI),xs=[.ref l]/\zO K H l vs/\ZJ K H ps vs/\ps.length<64/\∀ (us:List V) (ms:LI) (D:Addr),ms.Perm ps->ms.Pairwise yf->ZJ K H ms us->H D=none->Q 025 (upd H D (.lst us))
def VJ:Zw X (.builtin "sorted") (z9y X.K):=by
 intro pins s σ H xs us Q I r h;obtain⟨l,xs,ps,rfl,hl,E,M,q⟩:=h;obtain⟨u,rfl,rfl⟩:=vals1 r;have hlen:xs.length=ps.length:=by have:=Zb.length E;rw[Z00] at this;exact this
 refine uY I (.inr hl) 00 (ltP ps) (z9u ps) (λvs s' J F kp=>?_) λp D pm up Y=>?_;have d:vs.length=ps.length:=by rw[← J.length,hlen]
 have tup:∀ {s2:Shared},(∀ b o,b≠X.env.locals->s.heap.get? b=some o->s2.heap.get? b=some o)->∀ {i:Nat},i<vs.length->∃ a o n t1 f,vs.getD i Value.none=.ref a/\s2.heap.get? a=some o/\o.cls=.type "tuple"/\o.data=.seq #[.int (ps.getD i (0,0)).1 t1,.int (ps.getD i (0,0)).2 f] n:=λ{s2} k {i} hi=>by
  obtain⟨a,e,G⟩:=z7G E (show i<ps.length by lia);have L:=jA J hi;rw[e] at L;obtain⟨its,O,⟨o,z,m,n,hd⟩,_⟩:=I.tuple G;obtain⟨u1,u2,rfl,⟨t1,rfl⟩,⟨f,rfl⟩⟩:=vals2 O;exact⟨a,o,n,t1,f,L,k a o (I.Z4s G) z,m,by simpa using hd⟩
 refine⟨tuples' true,λR U=>?_,λi j C s2 hi N k m=>?_⟩;have build:∀ (ws:List Value),(∀ v∈ws,∃ a o n x t1 y f,v=.ref a/\s'.heap.get? a=some o/\o.cls=.type "tuple"/\o.data=.seq #[.int x t1,.int y f] n)->∃ fs:List Value,fs.length=ws.length/\KatTups s'.heap ws fs/\∀ v∈fs,∃ x t,v=.int x t:=by
  intro ws
  induction ws with
  | nil=>intro _;exact⟨[],rfl,KatTups.nil,λv h=>by simp at h⟩
  | cons w ws ih =>
    intro h;obtain⟨fs,e,t,a⟩:=ih λv d=>h v (Z03 _ d);obtain⟨b,o,n,x,t1,y,f,rfl,z,m,hd⟩:=h w Z0K;refine⟨.int x t1 :: fs,by simp[e],KatTups.cons z m hd rfl t,λv d=>?_⟩;rcases Z08.mp d with rfl | d;exact⟨_,_,rfl⟩;exact a v d
 obtain⟨fs,e,kt,S⟩:=build vs λv d=>by
  obtain⟨i,hi,rfl⟩:=List.mem_iff_getElem.mp d;obtain⟨a,o,n,t1,f,e,z,m,hd⟩:=tup kp hi;have:vs.getD i Value.none=vs[i]:=by simp[hi]
  rw[this] at e;exact⟨a,o,n,_,t1,_,f,e,z,m,hd⟩
 refine kat_kind (T:=.type "int") kt 00 (λv d=>?_) 01 U;obtain⟨x,t,rfl⟩:=S v d;exact Looks.of_pure rfl;unfold kas_ask;obtain⟨a,o,n,t1,f,e,z,_,hd⟩:=tup k hi;obtain⟨a',o',n',P,W,e',B,_,A⟩:=tup k N;rw[e,e'];refine kat_lt z hd B A (kat_cons ?_);have c:C (uu (ps.getD i (0,0)) (ps.getD j (0,0))) s2:=m;generalize ps.getD i (0,0)=x at *;generalize ps.getD j (0,0)=y at *;refine wpAny_eqBool_int ?_;by_cases h1:x.1=y.1;rw[show (x.1 == y.1)=true by simp[h1]];refine kat_yes (kat_cons (wpAny_eqBool_int ?_));by_cases F:x.2=y.2;rw[show (x.2 == y.2)=true by simp[F]];refine kat_yes (kat_nil ?_);have:uu x y=false:=by simp only[uu,decide_eq_false_iff_not];lia
 rw[this] at c;simpa using c;rw[show (x.2 == y.2)=false by simp[F]];refine kat_no (kat_one _ _ ?_);have:uu x y=decide (x.2<y.2):=by simp only[uu,decide_eq_decide];lia
 rw[this] at c;exact lt_int c;rw[show (x.1 == y.1)=false by simp[h1]];refine kat_no (oneLt_int ?_);have:uu x y=decide (x.1<y.1):=by simp only[uu,decide_eq_decide];lia
 rw[this] at c;exact c;rw[hlen] at pm up;have Z:∀ i∈p,i<ps.length:=λi hi=>Z3I.mp (pm.mem_iff.mp hi);exact q _ _ D (ji pm) (vL VO pm up λi j h=>Z0m h) (U9 E Z) Y
noncomputable def z9G(K:FR):List V->Hp->VK->Prop:=λxs H Q=>∃ (l:Addr) (vs:List V) (ps:LI),xs=[.ref l]/\zO K H l vs/\ZJ K H ps vs/\ps.length<64/\∀ (us:List V) (ms:LI) (D:Addr) (H':Hp),ms.Perm ps->ms.Pairwise yf->ZJ K H' ms us->zu H H'->H D=none->H' D=some (.lst us)->Q 025 H'
def Uu:Zw X (.builtin "sorted") (z9G X.K):=λpins s σ H xs us Q I r ⟨l,vs,ps,e,i,h,f,q⟩=>VJ pins s σ H xs us Q I r ⟨l,vs,ps,e,i,h,f,λus ms D a b c d=>q us ms D _ a b (ZJ.kl (zu.new d).kl c) (zu.new d) d zq⟩
def z4K{β:Type}(f:Nat->β->Sem (ForInStep β))(I:List Nat->β->Shared->Prop)(Q:β->Shared->Prop)(turn:∀ x rest c s,I (x :: rest) c s->wpAny M A (f x c) (λr s'=>match r with | .yield b'=>I rest b' s' | .done b'=>Q b' s') E s)(fin:∀ c s,I [] c s->Q c s)(c:β)(h:I (List.range' a (b - a)) c s):wpAny M A (forIn [a:b] c f) Q E s:=by
 rw[Std.Legacy.Range.forIn_eq_forIn_range'];have d:([a:b]:Std.Legacy.Range).size=b - a:=by simp[Std.Legacy.Range.size]
 show wpAny M A (forIn (List.range' a ([a:b]:Std.Legacy.Range).size 1) c f) Q E s;rw[d];exact wpAny_forIn_list f I Q turn fin _ c h
def UC(l:Addr)(items:Array Value)(n:Nat)(dd:Option Addr)(sl:Array (Option Value))(x:Value)(e:Value->Bool)(j:Nat)(t:j<items.size)(hit:e items[j]=true)(o:∀ m (hm:m<items.size),m<j->e items[m]=false) :
 Meets (Builtin.«tuple.index» ⟨[.ref l,x],[]⟩)
  (λA R s=>s.heap.get? l=some { cls:=.type "tuple",dict:=dd,data:=.seq items n,slots:=sl }/\(∀ y,y∈items->SeqAt.EqAt A.in1 s y x (e y))/\R (.ok (.ret (.int j s.toks))) { s with toks:=s.toks+1 }) :=
 .of_wp λprog w A R s h=>by
  obtain⟨q,g,d,p,os⟩:=s;obtain⟨hl,he,h⟩:=h;wp_walk using AutoSeq1.wpAny_loadPart' hl,z4K _ (λrest b s'=>b.1=none/\s'=⟨q,g,d,p,os⟩/\∃ i,i<=j/\rest=List.range' i (items.size - i)) _
  case turn =>
   rintro i rest b s' ⟨r,rfl,k,hi,f⟩;have a:k<items.size:=00
   rw[show items.size - k=(items.size - (k+1))+1 by lia,List.range'_succ] at f;obtain⟨rfl,rfl⟩:=Z50 f;rw[Z45 a];dsimp only;refine wpAny_bind (he _ (Array.getElem_mem a) prog w _ _ ?_);by_cases hij:i=j;subst hij;rw[hit];wp_walk;exact⟨_,rfl,h⟩;rw[o i a 00];wp_walk;exact⟨rfl,rfl,i+1,00,rfl⟩
  case fin =>
   rintro c s' ⟨_,_,i,hi,f⟩;have:=congrArg List.length f;rw[List.length_range'] at this;simp at this;lia
  case h =>
   exact⟨rfl,rfl,0,Z19 _,05⟩
noncomputable def isP(K:FR)(H:Hp)(p:Int×Int)(y:Value):Prop:=∃ a,y=.ref a/\zO K H a [.int p.1,.int p.2]
open Classical in
def uU{X:Cx}{σ:St}{ps:LI}{its:List Value}(I:Inv X pins σ H s)(q:ZJ X.K H ps us)(r:Vals us its)(hi:i<its.length)(m:i<ps.length):decide (isP X.K H p its[i])=decide (ps[i]=p):=by
 obtain⟨a,f,h,k,j⟩:=q.get (i:=i) (v:=us[i]'(by rw[r.length];exact hi)) 05;obtain⟨w,d,c⟩:=r.get (i:=i) (x:=us[i]'(by rw[r.length];exact hi)) 05;rw[k] at c;cases c;have d:its[i]=.ref a:=by
  rw[Z02 hi] at d;exact Z12 d
 have n:ps[i]=f:=by
  rw[Z02 m] at h;exact Z12 h
 rw[d,n];by_cases hh:f=p;subst hh;rw[decide_eq_true (show f=f from rfl),decide_eq_true ⟨a,rfl,j⟩];rw[decide_eq_false hh,decide_eq_false];rintro⟨b,o,l⟩;cases o;have:=I.yH j l;simp at this;exact hh (Prod.ext this.1 this.2)
open Classical in
def z8F{X:Cx}{σ:St}{its:List Value}(hr:zX k X.A)(I:Inv X pins σ H s)(j:ZJ X.K H ps us)(r:Vals us its)(m:zO X.K H q [.int p.1,.int p.2]):∀ y∈its.toArray,SeqAt.EqAt X.A.in1 s y (.ref q) (decide (isP X.K H p y)):=by
 have C:=hr.units;have B:X.A.in1.units<=X.A.units+8:=by
  first | exact Nat.le_add_right _ _ | (simp[Around.in1]) | (unfold Around.in1;simp)
 have h:X.A.in1.units+20<cLine:=00
 intro y f;have f:y∈its:=by simpa using f
 obtain⟨i,hi,rfl⟩:=Z4e f;have hl:=r.length;have u:=j.len;rw[uU I j r hi 00];obtain⟨a,d,l,n,t⟩:=j.get (i:=i) (v:=us[i]' 00) 05;obtain⟨w,c,b⟩:=r.get (i:=i) (x:=us[i]' 00) 05;rw[n] at b;cases b;have c:its[i]=.ref a:=by
  rw[Z02 hi] at c;exact Z12 c
 have o:ps[i]' 00=d:=by
  rw[Z02 00] at l;exact Z12 l
 rw[c,o];have key:=Q2 I 20 (X.A.in1) (Xo d) (Xo p) 024 (.ref q) 024 (.ref q) (by unfold Xo;simp only[Qv,xj];decide) h (by unfold Xo;simp only[Den];exact⟨a,_,rfl,t,z4o _ _ _ _⟩) (by unfold Xo;simp only[Den];exact⟨q,_,rfl,m,z4o _ _ _ _⟩) rfl rfl;have z:Ut (Xo d) (Xo p)=decide (d=p):=by
  unfold Xo;simp only[Ut];rw[Z0O]
 rw[← z];exact key
open Classical in
def z8Z{X:Cx}{σ:St}{its:List Value}(I:Inv X pins σ H s)(a:ZJ X.K H ps us)(r:Vals us its):its.toArray.any (λy=>decide (isP X.K H p y))=decide (p∈ps):=by
 have hl:=r.length;have b:=a.len;rw[show its.toArray.any (λy=>decide (isP X.K H p y))=its.any (λy=>decide (isP X.K H p y)) by simp];by_cases hm:p∈ps;rw[decide_eq_true hm,List.any_eq_true];obtain⟨i,hi,e⟩:=Z4e hm;refine⟨its[i]' 00,Z29 _,?_⟩;rw[uU I a r 00 hi,e];simp;rw[decide_eq_false hm,List.any_eq_false];intro y c;obtain⟨i,hi,rfl⟩:=Z4e c;rw[uU I a r hi 00,decide_eq_false];simp;rintro rfl;exact hm (Z29 _)
noncomputable def Z5V(K:FR)(neg:Bool):R2:=λx y H Q=>∃ (q t:Addr) (us:List V) (ps:LI) (p:Int×Int),x=.ref q/\y=.ref t/\zO K H q [.int p.1,.int p.2]/\zO K H t us/\ZJ K H ps us/\Q (.bl (if neg then !decide (p∈ps) else decide (p∈ps))) H
open Classical in
def U7(hr:zX k X.A):Yl X (compareOp .NotIn) (Z5V X.K true):=by
 intro pins s σ H x y v u Q I d f h;obtain⟨q,t,us,ps,p,rfl,rfl,c,b,a,k⟩:=h;cases d;cases f;obtain⟨its,r,pl,i⟩:=I.tuple b;refine SeqAt.notIn_tupleAt (λy=>decide (isP X.K H p y)) pl (z8F hr I a r c) ⟨.bl _,H,I,rfl,?_⟩;rw[z8Z I a r];exact k
noncomputable def Z4b(K:FR):V->List V->Hp->VK->Prop:=λo xs H Q=>∃ (t q:Addr) (us:List V) (ps:LI) (p:Int×Int),o=.ref t/\xs=[.ref q]/\H t=some (.tup us)/\ZJ K H ps us/\zO K H q [.int p.1,.int p.2]/\p∈ps/\Q (.int ((ps.idxOf p:Nat):Int)) H
open Classical in
def z5p(hr:zX k X.A):MtM X "tuple.index" (Z4b X.K):=by
 intro pins s σ H x vs v G Q I D l h;obtain⟨t,q,us,ps,p,rfl,rfl,B,b,o,hm,k⟩:=h;cases D;obtain⟨u,rfl,E⟩:=l.one;cases E;obtain⟨its,r,pl,J⟩:=I.tuple (zO.of B);have hl:=r.length;have C:=b.len;have heq:=z8F hr I b r o;obtain⟨⟨c,dd,w,sl⟩,e,f,n,hd⟩:=pl;have f:c=.type "tuple":=f;have hd:w=.seq its.toArray n:=hd;subst f hd;have hi:ps.idxOf p<ps.length:=List.idxOf_lt_length_of_mem hm;have d:ps.idxOf p<its.length:=00
 refine call_meets F.slot_tuple_index ⟨_,e,rfl⟩ F.entry_tuple_index (F.args_tuple_index_2 _ _) (UC t its.toArray n dd sl (.ref q) (λy=>decide (isP X.K H p y)) (ps.idxOf p) (by rw[Z05];lia) ?_ (λm a j=>?_)) ⟨e,heq,.int _,H,I.tok _,⟨_,rfl⟩,k⟩;rw[List.getElem_toArray];show decide (isP X.K H p (its[ps.idxOf p]))=true;rw[uU I b r d hi,List.getElem_idxOf];simp;rw[List.getElem_toArray];rw[Z05] at a;show decide (isP X.K H p (its[m]))=false;rw[uU I b r a 00,decide_eq_false];intro z;have:=List.not_of_lt_findIdx (p:=(· == p)) (xs:=ps) (i:=m) j
 rw[z] at this;simp at this
noncomputable def ZP(K:FR)(H:Hp)(a:Addr)(n:Int)(ps:LI):Prop:=∃ (t:Addr) (us:List V),H a=some (.tup [.int n,.ref t])/\H t=some (.tup us)/\ZJ K H ps us
def ZP.kl{n:Int}(h:ZP K H a n ps)(k:KL H H'):ZP K H' a n ps:=by
 obtain⟨t,us,c,b,p⟩:=h;exact⟨t,us,k.tup c,k.tup b,ZJ.kl k p⟩
def ZP.same{n:Int}(h:ZP K H a n ps)(k:zu H H'):ZP K H' a n ps:=h.kl k.kl
def Z3j{ns:LI}(p:ms.Perm ns)(d:ms.Pairwise yf)(c:ns.Pairwise yf):ms=ns:=p.eq_of_pairwise (λa b _ _ x y=>by
 simp only[yf] at x y;exact Prod.ext 00 00) d c
def uf{α:Type}[BEq α][LawfulBEq α](l:List α)(a:α)(h:a∈l):l.eraseIdx (l.idxOf a)=l.erase a:=by
 rw[List.erase_eq_eraseIdx_of_idxOf rfl]
def Z5Q{xs:List V}{i:Nat}(h:i<xs.length):yO xs none (some (i:Int))=xs.take i:=by
 unfold yO;rw[HT.yC,HT.yM,Z58,Nat.sub_zero,Nat.min_eq_left 00]
def Z1N{xs:List V}{i:Nat}(h:i<xs.length):yO xs (some ((i:Int)+1)) none=xs.drop (i+1):=by
 unfold yO;rw[show (i:Int)+1=((i+1:Nat):Int) from rfl,HT.yC,HT.yM,Nat.min_eq_left 00];exact Z18 (by rw[Z31];lia)
def ZJ.take:∀ {ps:LI}{vs:List V}(i:Nat),ZJ K H ps vs->ZJ K H (ps.take i) (vs.take i)
 | [],vs,i,h=>by
   simp only[ZJ,Z3R,Zb] at h;subst h;rw[List.take_nil,List.take_nil];exact Y4
 | p :: ps,vs,0,h=>by rw[List.take_zero,List.take_zero];exact Y4
 | p :: ps,vs,i+1,h=>by
   obtain⟨a,r,rfl,b,hr⟩:=Z1 h;rw[List.take_succ_cons,List.take_succ_cons];exact YG b (ZJ.take i hr)
def ZJ.drop:∀ {ps:LI}{vs:List V}(i:Nat),ZJ K H ps vs->ZJ K H (ps.drop i) (vs.drop i)
 | [],vs,i,h=>by
   simp only[ZJ,Z3R,Zb] at h;subst h;rw[List.drop_nil,List.drop_nil];exact Y4
 | p :: ps,vs,0,h=>by rw[Z58,Z58];exact h
 | p :: ps,vs,i+1,h=>by
   obtain⟨a,r,rfl,b,hr⟩:=Z1 h;rw[List.drop_succ_cons,List.drop_succ_cons];exact ZJ.drop i hr
def Vc(ps:LI)(h:p∈ps):ps.take (ps.idxOf p) ++ ps.drop (ps.idxOf p+1)=ps.erase p:=by
 rw[← uf _ _ h,List.eraseIdx_eq_take_drop_succ]
noncomputable def Jm(K:FR):Sp:=λvs H Q _=>∃ (a:Addr) (n x y:Int) (ps:LI),vs=[.ref a,.int x,.int y]/\ZP K H a n ps/\ps.length<=62/\∀ (b:Addr) (H':Hp) (ms:LI),zu H H'->H b=none->ZP K H' b n ms->ms.Perm (ps ++ [(x,y)])->ms.Pairwise yf->Q (.ref b) H'
noncomputable def QY(K:FR):Sp:=λvs H Q _=>∃ (a:Addr) (n x y:Int) (ps:LI),vs=[.ref a,.int x,.int y]/\ZP K H a n ps/\ps.length<=100/\((x,y)∉ps->∀ H',zu H H'->Q .Zc H')/\((x,y)∈ps->∀ (b:Addr) (H':Hp),zu H H'->ZP K H' b n (ps.erase (x,y))->Q (.ref b) H')
end L2
namespace Pw
def Z4l(a:t<n):val ((List.replicate n (1,(n:Int))).getD t (0,1))=1 / (n:Rat):=by
 rw[Z06,List.getElem?_replicate,if_pos a];rfl
def z7b(hn:1<=n):ZO (List.replicate n (1,(n:Int))):=λB a=>by
 rw[(List.mem_replicate.mp a).2];exact⟨by show (0:Int)<(n:Int);lia,by show Int.gcd 1 (n:Int)=1;simp⟩
end Pw
namespace L2
def Z3g(hn:n<=12):Sz 4 (n:Int)/\Sz 4 ((n:Int) - 1):=⟨by unfold Sz;omega,by unfold Sz;omega⟩
noncomputable def Vv(K:FR):Sp:=λvs H Q _=>∃ (a:Addr) (n:Nat) (r:List V),vs=[.ref a]/\H a=some (.tup (.int (n:Int) :: r))/\1<=n/\n<=12/\
 ∀ (q:Addr) (H':Hp) (us:List V),zu H H'->H' q=some (.tup us)->X8 K H' (List.replicate n (1,(n:Int))) us->Q (.ref q) H'
structure u7(K:FR)(H:Hp)(w lp ls:Addr)(n:Nat)(ps:LI)(A:Int×Int)(Bs:LI)(us:List V)(S:Int):Prop where
 g:Gv K H w lp ls (n:Int) ps A Bs us
 pr:Pr A Bs S
 n12:n<=12
 sA:VF 140 A
 sS:Sz 140 S
def u7.same(h:u7 K H w lp ls n ps A Bs us S)(s:zu H H'):u7 K H' w lp ls n ps A Bs us S:=⟨h.g.same s,h.pr,h.n12,h.sA,h.sS⟩
def Z1c(ok:Pw.yk ps A Bs n Ss)(v0:0<V')(b:Sz ((140+11) * 13+20) V')(d:∀ S∈Ss,S.2∣V'):∀ S∈Ss,VF 1983 S:=λS a=>by
 have c:=(ok.canon S a).1;have i:=ok.nn S a;have h:=ok.le1 S a;have f:S.2<=V':=Int.le_of_dvd v0 (d S a);have j:V'.natAbs<2 ^ 1983:=b;exact⟨by show S.1.natAbs<2 ^ 1983;lia,by show S.2.natAbs<2 ^ 1983;lia⟩
noncomputable def Z1O(K:FR):Sp:=λvs H Q _=>∃ (w lp ls:Addr) (n:Nat) (ps:LI) (A:Int×Int) (Bs:LI) (us:List V) (S:Int),vs=[.ref w,.ref lp,.ref ls]/\u7 K H w lp ls n ps A Bs us S/\
 ∀ (t:Addr) (H':Hp) (Ss:LI) (ys:List V),Pw.yk ps A Bs n Ss->(∀ S∈Ss,VF 1983 S)->zu H H'->H' t=some (.tup ys)->X8 K H' Ss ys->Q (.ref t) H'
def Def.sh{mg:SV}(D:Def P w K mg base k "shares" ["web","leap","leaps"] (ue K)):Def P w K mg base k "shares" ["web","leap","leaps"] (Z1O K):=by
 obtain⟨f,fd,F,m,b,G⟩:=D;refine⟨f,fd,F,m,b,G.imp λvs H Q E h=>?_⟩;obtain⟨a,lp,ls,n,ps,A,Bs,us,S,rfl,i,k⟩:=h;refine⟨a,lp,ls,(n:Int),ps,A,Bs,us,S,140,rfl,i.g,i.pr,by have:=i.n12;lia,01,i.sA,i.sS,λt H' Ss V' ys ok v0 c d s e f=>?_⟩;rw[Z3o] at ok;exact k t H' Ss ys ok (Z1c ok v0 c d) s e f
def Z1M(n1:1<=n):Pw.qs (List.replicate n ((1:Int),(n:Int))).length (λt=>Pw.val ((List.replicate n ((1:Int),(n:Int))).getD t (0,1)))=1:=by
 rw[List.length_replicate];exact Pw.Z2k n1 λt a=>Pw.Z4l a
def Z0s(n1:1<=n)(n12:n<=12)(a0:0<A.1)(a1:A.1<=A.2):Pr A (List.replicate n ((1:Int),(n:Int))) (n:Int) :=
 ⟨a0,a1,λB a=>by rw[(List.mem_replicate.mp a).2];show (0:Int)<=1;decide,Z1M n1,00,(Z3g n12).1.mono 01,λB a=>by rw[(List.mem_replicate.mp a).2];exact Int.dvd_refl _⟩
def vj(hw:ZP K H w (n:Int) ps)(few:ps.length<=100)(lk:∀ p∈ps,0<=p.1/\p.1<(n:Int)/\0<=p.2/\p.2<(n:Int))(fA:Vj K H lp A)(ca:Pw.Canon A)(a0:0<A.1)(a1:A.1<=A.2)(sa:VF 41 A)(n1:1<=n)(n12:n<=12)(e:H ev=some (.tup us))(f:X8 K H (List.replicate n ((1:Int),(n:Int))) us):u7 K H w lp ev n ps A (List.replicate n ((1:Int),(n:Int))) us (n:Int) :=
 ⟨⟨hw,few,lk,fA,ca,sa.mono 01,e,f,Pw.z7b n1,λB a=>by
  rw[(List.mem_replicate.mp a).2];exact⟨(yW 1 01:Sz 600 (1:Int)),(Z3g n12).1.mono 01⟩,by rw[List.length_replicate],00,00⟩,Z0s n1 n12 a0 a1,n12,sa.mono 01,(Z3g n12).1.mono 01⟩
noncomputable def Z5l(a:TA):TE:=λσ H Q=>a σ H λvs H1=>∃ n:Nat,vs=[.int (n:Int)]/\n<=100000/\∀ (p:Addr) (H':Hp),zu H1 H'->H1 p=none->H' p=some (.lst ((List.range n).map λ(k:Nat)=>V.int (k:Int)))->Q (.ref p) H'
def z8c:∀ {n:Nat}{its:List Value},its.length=n->(∀ (j:Nat) (v:Value),its[j]?=some v->∃ t,v=Value.int (0+(j:Int) * 1) t)->Vals ((List.range n).map λ(k:Nat)=>V.int (k:Int)) its:=by
 intro n its hl h;have key:∀ (its:List Value) (b:Nat),(∀ (j:Nat) (v:Value),its[j]?=some v->∃ t,v=Value.int ((b+j:Nat):Int) t)->Vals ((List.range' b its.length).map λ(k:Nat)=>V.int (k:Int)) its:=by
  intro its
  induction its with
  | nil=>intro b _;exact .nil
  | cons v its ih =>
    intro b h;rw[Z09,List.range'_succ,Z1Y];obtain⟨t,rfl⟩:=h 0 v rfl;refine .cons ⟨t,rfl⟩ (ih (b+1) λj v a=>?_);obtain⟨t,e⟩:=h (j+1) v (by simpa using a);exact⟨t,by rw[e];congr 2;lia⟩
 have:=key its 0 λj v a=>by
  obtain⟨t,e⟩:=h j v a;exact⟨t,by rw[e];congr 1;lia⟩
 rw[hl,← List.range_eq_range'] at this;exact this
def z9k{X:Cx}{a:Expr}{F:TA}{p i pos pos':Pos}(L:X.calm=true)(B:Gl X "list")(y:X.mg "list"=none)(z:Gl X "range")(m:X.mg "range"=none)(ha:PA X [a] F)
 (E:starEach [.Call (.Name "range" i) [a] [] pos'] X.env=[(false,eval (.Call (.Name "range" i) [a] [] pos') X.env)]:=by rfl) (A:starEach [a] X.env=[(false,eval a X.env)]:=by rfl) :
 PE X (.Call (.Name "list" p) [.Call (.Name "range" i) [a] [] pos'] [] pos) (Z5l F):=by
 intro pins s σ H Q I h;refine wpAny_Call_Name_kw (yX I B y boot_list ?_ 01 01);refine Z33 ?_ E rfl;rw[E];show wpAny _ _ (spliced ((false,eval (.Call (.Name "range" i) [a] [] pos') X.env) :: backTo pos [])) _ _ s;refine Calls.spliced_cons ?_;refine wpAny_Call_Name_kw (yX I z m boot_range ?_ 01 01);refine Z33 (z8 (ha pos' pins s σ H _ I h) λus s1 ⟨vs,H1,I1,J,q1⟩=>?_) A rfl;obtain⟨n,rfl,hn,q⟩:=q1;obtain⟨u,rfl,M⟩:=vals1 J;obtain⟨t,rfl⟩:=M;refine call_range_1 ?_;refine Calls.spliced_nil ?_;have l:(n:Int)<2 ^ 62:=00
 have C:Builtin.Range.small 0 (n:Int) 1=true:=small_one 01 01 00 l;refine call_list_range (s:={ s1 with heap:=s1.heap.push { cls:=.type "range",data:=.fields #[.int 0 s1.toks,.int (n:Int) t,.int 1 (s1.toks+1)] },toks:=s1.toks+1+1 }) (n:=n) (I1.ok.hd L) (IsRange.new ..) C (by rw[rangeSize_one];split <;> lia) 00 λh' K acc c kp D d=>?_;have w:(s1.heap.push { cls:=.type "range",data:=.fields #[.int 0 s1.toks,.int (n:Int) t,.int 1 (s1.toks+1)] }).objs.size=s1.heap.objs.size+1:=size_push' _ _;rw[show ({ s1 with heap:=s1.heap.push { cls:=.type "range",data:=.fields #[.int 0 s1.toks,.int (n:Int) t,.int 1 (s1.toks+1)] },toks:=s1.toks+1+1 }:Shared).heap.objs.size=s1.heap.objs.size+1 from w] at D ⊢;have r:∀ b o,s1.heap.get? b=some o->h'.get? b=some o:=λb o e=>kp b o (ZB _ e);have f:H1 (s1.heap.objs.size+1)=none:=I1.hok.fresh (Nat.le_succ _);refine⟨.ref _,_,I1.laid (t':=K) (o:=.lst ((List.range n).map λ(k:Nat)=>V.int (k:Int))) r (Nat.le_succ _) ⟨?_,acc.toList,c,?_,?_⟩,rfl,q _ _ (zu.new f) f zq⟩;rw[Z00,Z36,sizeLine_eq];lia;refine z8c (by rw[Z07];exact d.1) λj v G=>d.2 j v (by rw[← Z34];exact G);rw[D]
end L2
namespace Pw
def Z0g(lk:∀ p∈ps,0<=p.2/\p.2<(n:Int))(a:∀ p∈ms,0<=p.2/\p.2<(n:Int))(h:qs n (λi=>(cn ps j i:Rat))=qs n (λi=>(cn ms k i:Rat))):(outs ps (j:Int)).length=(outs ms (k:Int)).length:=by
 rw[Ji lk,Ji a] at h
 exact_mod_cast h
def z7S(ca:Canon A)(cb:ZO Bs)(hn:Bs.length=n)(lk:∀ p∈ps,0<=p.2/\p.2<(n:Int))(c:∀ p∈ms,0<=p.2/\p.2<(n:Int))(h:∀ i,i<n->cn ps j i=cn ms j i)(b:t<n) :
 val ((yJ ps A Bs (j:Nat)).getD t (0,1))=val ((yJ ms A Bs (j:Nat)).getD t (0,1)):=by
 have hl:=Z0g (j:=j) (k:=j) lk c (zN λi hi=>by rw[h i hi]);rw[Vx ca cb hn b,Vx ca cb hn b,h t b,hl];by_cases ho:outs ps (j:Int)=[];have a:outs ms (j:Int)=[]:=Z27.mp (by rw[← hl,ho];rfl);rw[if_pos ho,if_pos a];have a:outs ms (j:Int)≠[]:=λz=>ho (Z27.mp (by rw[hl,z];rfl));rw[if_neg ho,if_neg a]
def yk.ways(hw:∀ j t,j<n->t<n->val ((yJ ps A Bs (j:Nat)).getD t (0,1))=val ((yJ ms A Bs (j:Nat)).getD t (0,1)))(h:yk ps A Bs n Ss):yk ms A Bs n Ss:=by
 refine⟨h.len,h.canon,h.nn,h.one,λt a=>?_⟩;rw[← h.stay t a];unfold Z3l;exact zN λj b=>by rw[hw j t b a]
def yk.perm(ca:Canon A)(cb:ZO Bs)(hn:Bs.length=n)(lk:∀ p∈ps,0<=p.2/\p.2<(n:Int))(pm:ms.Perm ps)(h:yk ps A Bs n Ss):yk ms A Bs n Ss :=
 h.ways λj t c a=>z7S ca cb hn lk (λp b=>lk p (pm.mem_iff.mp b)) (λi _=>(Z0I pm j i).symm) a
end Pw
namespace L2
noncomputable def oiL(ord:List Nat):List Int:=ord.map λ(k:Nat)=>(k:Int)
end L2
namespace Pw
noncomputable def Xn:List Int->Nat->List (List Int)
 | _,0=>[[]]
 | [],_+1=>[]
 | x :: r,m+1=>(Xn r m).map (x :: ·) ++ Xn r (m+1)
def QS(l:List Int):Xn l 0=[[]]:=by cases l <;> rfl
def JQ:∀ {l:List Int}{m:Nat}{r:List Int},r∈Xn l m->r.length=m
 | l,0,r,h=>by rw[QS] at h;rw[Z04.mp h];rfl
 | [],m+1,r,h=>by simp[Xn] at h
 | x :: l,m+1,r,h=>by
   simp only[Xn,Z1y,Z23] at h;rcases h with⟨q,hq,rfl⟩| h;rw[Z09,JQ hq];exact JQ h
def Ym:∀ {l:List Int}{m:Nat}{r:List Int},r∈Xn l m↔r.Sublist l/\r.length=m
 | l,0,r=>by
   rw[QS,Z04];constructor;rintro rfl;exact⟨List.nil_sublist _,rfl⟩;rintro⟨_,h⟩;exact Z27.mp h
 | [],m+1,r=>by
   constructor;intro h;simp[Xn] at h;rintro⟨h,a⟩;rw[List.sublist_nil.mp h] at a;simp at a
 | x :: l,m+1,r=>by
   simp only[Xn,Z1y,Z23];constructor;rintro (⟨q,c,rfl⟩| h);obtain⟨b,a⟩:=Ym.mp c;exact⟨b.cons_cons x,by rw[Z09,a]⟩;obtain⟨b,a⟩:=Ym.mp h;exact⟨b.cons x,a⟩;rintro⟨h,a⟩;cases h with
   | cons _ h=>exact .inr (Ym.mpr ⟨h,a⟩)
   | cons_cons _ h =>
     rename_i q;exact .inl ⟨q,Ym.mpr ⟨h,by simpa using a⟩,rfl⟩
def VG:∀ (l:List Int) (m:Nat),(Xn l m).length<=2 ^ l.length
 | l,0=>by rw[QS];exact Nat.one_le_two_pow
 | [],m+1=>by simp[Xn]
 | x :: l,m+1=>by
   simp only[Xn,Z14,Z00,Z09];have a:=VG l m;have b:=VG l (m+1);rw[Z59];lia
noncomputable def xC(l:List Int)(m j:Nat):List (List Int):=((List.range j).map λt=>(Xn (l.drop (t+1)) m).map (l.getD t 0 :: ·)).flatten
def vY(l:List Int)(m j:Nat):xC l m (j+1)=xC l m j ++ (Xn (l.drop (j+1)) m).map (l.getD j 0 :: ·):=by
 unfold xC;rw[Z5n,Z16,List.flatten_append];simp
def Ue:∀ (l:List Int) (m:Nat),xC l m l.length=Xn l (m+1)
 | [],m=>rfl
 | x :: l,m=>by
   simp only[Xn];rw[← Ue l m];unfold xC;rw[Z09,List.range_succ_eq_map,Z1Y,Z4X,List.map_map];congr 1
def z1H(l:List Int)(m j:Nat):(xC l m j).length<=j * 2 ^ l.length:=by
 induction j with
 | zero=>simp[xC]
 | succ j ih =>
   rw[vY,Z14,Z00];have a:=VG (l.drop (j+1)) m;have b:2 ^ (l.drop (j+1)).length<=2 ^ l.length:=Z3K 01 (by rw[Z31];lia);rw[Nat.succ_mul];lia
end Pw
namespace L2
noncomputable def ZU(H:Hp)(Fs:List (List Int))(us:List V)(X:Addr):Prop:=us.length=Fs.length/\∀ (i:Nat) (row:List Int),Fs[i]?=some row->∃ r:Addr,us[i]?=some (V.ref r)/\r≠X/\H r=some (.lst (row.map V.int))
def ZU.nil(H:Hp)(X:Addr):ZU H [] [] X:=⟨rfl,λi row e=>by simp at e⟩
def ZU.keep(h:ZU H Fs us X)(s:∀ b o,H b=some o->b≠X->H' b=some o):ZU H' Fs us X :=
 ⟨h.1,λi row e=>by obtain⟨r,a,n,b⟩:=h.2 i row e;exact⟨r,a,n,s _ _ b n⟩⟩
def ZU.append(h:ZU H Fs us X)(g:ZU H Gs vs X):ZU H (Fs ++ Gs) (us ++ vs) X:=by
 refine⟨by rw[Z14,Z14,h.1,g.1],λi row e=>?_⟩;by_cases hi:i<Fs.length;rw[Z37 hi] at e;obtain⟨r,a,n,b⟩:=h.2 i row e;exact⟨r,by rw[Z37 (by rw[h.1];exact hi)];exact a,n,b⟩;rw[Z51 00] at e;obtain⟨r,a,n,b⟩:=g.2 _ row e;exact⟨r,by rw[Z51 (by rw[h.1];lia),h.1];exact a,n,b⟩
def ZU.one{row:List Int}(n:r≠X)(e:H r=some (.lst (row.map V.int))):ZU H [row] [.ref r] X:=⟨rfl,λi b a=>by
 cases i with
 | zero=>cases a;exact⟨r,rfl,n,e⟩
 | succ i=>simp at a⟩
def Z0G{xs:List V}{g:TG}{tb:TS}{DD:Ends}(Pv:Nat->St->Hp->Prop)(h0:Pv 0 σ H)(hl:∀ i σ H,Pv i σ H->zJ K H a xs)(k:∀ i x σ H T G,xs[i]?=some x->i<xs.length->Pv i σ H->H T=none->zu H G->G T=some (.tup [.int i,x])->g (.ref T) σ G λb H2=>tb { DD with nx:=Pv (i+1),ct:=Pv (i+1),bk:=DD.nx } b H2)(hd:∀ σ H,Pv xs.length σ H->DD.nx σ H) :
 ∃ W:Nat->Nat->St->Hp->Prop,(∃ m,W 0 m σ H)/\∀ i m σ H,W i m σ H->
   ((z5L K a).stop i H/\DD.nx σ H)\/((z5L K a).go i H/\∃ N:St->Hp->Prop,(∀ c H',N c H'->∃ f,f<m/\W (i+1) f c H')/\∀ x H',(z5L K a).yld i H x H'->g x σ H' λb H2=>tb { DD with nx:=N,ct:=N,bk:=DD.nx } b H2):=by
 refine⟨λi m σ H=>m=xs.length - i/\i<=xs.length/\Pv i σ H,⟨xs.length,05,Z19 _,h0⟩,?_⟩;rintro i m σ H ⟨rfl,hi,p⟩;have d:=hl i σ H p;by_cases hlt:i<xs.length;refine .inr ⟨⟨xs,xs[i],d,by simp[hlt]⟩,Pv (i+1),λc H' l=>⟨xs.length - (i+1),00,rfl,hlt,l⟩,λx H' y=>?_⟩;obtain⟨T,u,v,rfl,h,rfl,rfl,j⟩:=y;exact k i v σ H T _ (j xs d) hlt p h (zu.new h) zq;have e:i=xs.length:=00
 subst e;exact .inl ⟨⟨xs,d,rfl⟩,hd σ H p⟩
def ZE.bot{mg:SV}{st:Stmt}{sp:Sp}(S:ZE K mg nm st ps)(h:∀ vs H Q E,¬ sp vs H Q E)(k:Nat):Def P w K mg base k nm ps sp :=
 S.def λf fd F=>⟨λvs H Q E z=>absurd z (h vs H Q E),λA outer s H args us vs Q E _ _ _ _ z=>absurd z (h vs H Q E)⟩
end L2
namespace Pw
noncomputable def z2u(Ss:LI)(x y:Nat):Bool:=decide ((Ss.getD y (0,1)).1 * (Ss.getD x (0,1)).2<(Ss.getD x (0,1)).1 * (Ss.getD y (0,1)).2)
noncomputable def toL(x:Nat)(row:List Int):LI:=row.map λr=>(r,(x:Int))
noncomputable def UQ(ps:LI)(A:Int×Int)(Bs:LI)(n x y:Nat)(row:List Int):Prop:=∃ ms Ss,ms.Perm (ps ++ toL x row)/\yk ms A Bs n Ss/\z2u Ss x y=true
def z6z{x:Nat}{row:List Int}(ca:Canon A)(cb:ZO Bs)(d:Bs.length=n)(pr:L2.Pr A Bs S)(lk:∀ p∈ms,0<=p.2/\p.2<(n:Int))(pm:ms.Perm (ps ++ toL x row))(ok:yk ms A Bs n Ss):UQ ps A Bs n x y row↔z2u Ss x y=true:=by
 constructor;rintro⟨a,Ss',b,c,h⟩;have f:ms.Perm a:=pm.trans b.symm;have:Ss=Ss':=yk.unique lk ca cb d pr ok (yk.perm ca cb d (λp i=>lk p (f.symm.mem_iff.mp i)) f c);rw[this];exact h;intro h;exact⟨ms,Ss,pm,ok,h⟩
end Pw
namespace L2
noncomputable def z1a(K:FR):Sp:=λvs H Q _=>∃ (w C:Addr) (n:Int) (x:Nat) (ps:LI) (row:List Int),vs=[.ref w,.ref C,.int (x:Int)]/\ZP K H w n ps/\H C=some (.lst (row.map V.int))/\ps.length+row.length<=60/\∀ (b:Addr) (H':Hp) (ms:LI),zu H H'->ZP K H' b n ms->ms.Perm (ps ++ Pw.toL x row)->Q (.ref b) H'
noncomputable def z3Y(K:FR):Sp:=λvs H Q _=>∃ (w lp ls:Addr) (n x y:Nat) (ps:LI) (A:Int×Int) (Bs:LI) (us:List V) (S:Int),vs=[.ref w,.ref lp,.ref ls,.int (x:Int),.int (y:Int)]/\u7 K H w lp ls n ps A Bs us S/\x<n/\y<n/\∀ (H':Hp) (Ss:LI),Pw.yk ps A Bs n Ss->zu H H'->Q (.bl (Pw.z2u Ss x y)) H'
def u7.links{x:Nat}{row:List Int}(h:u7 K H w lp ls n ps A Bs us S)(few:ps.length+row.length<=60)(d:x<n)(hr:∀ r∈row,0<=r/\r<(n:Int))(hw:ZP K H w2 (n:Int) ms)(pm:ms.Perm (ps ++ Pw.toL x row)):u7 K H w2 lp ls n ms A Bs us S:=by
 have hf:ms.length<=100:=by rw[pm.length_eq,Z14];unfold Pw.toL;rw[Z00];lia
 have a:∀ p∈ms,0<=p.1/\p.1<(n:Int)/\0<=p.2/\p.2<(n:Int):=λp c=>by
  rcases Z1y.mp (pm.mem_iff.mp c) with z | z;exact h.g.lk p z;obtain⟨r,b,rfl⟩:=Z23.mp z;have:=hr r b;show 0<=r/\r<(n:Int)/\0<=(x:Int)/\(x:Int)<n;lia
 exact⟨{ h.g with web:=hw,few:=hf,lk:=a },h.pr,h.n12,h.sA,h.sS⟩
end L2
namespace Pw
noncomputable def uD(P:List Int->Prop)(l:List Int):Option (List Int)->Prop
 | none=>∀ m row,row∈Xn l m->¬ P row
 | some row=>∃ m i:Nat,(Xn l m)[i]?=some row/\P row/\(∀ b r,b<m->r∈Xn l b->¬ P r)/\∀ (a:Nat) r,a<i->(Xn l m)[a]?=some r->¬ P r
def uD.sub{row:List Int}(h:uD P l (some row)):row.Sublist l/\P row:=by
 obtain⟨m,i,e,p,_⟩:=h;exact⟨(Ym.mp (Z2u e)).1,p⟩
end Pw
namespace L2
open Pw
noncomputable def Xg(H0:Hp)(us:List V):Prop:=∀ r,V.ref r∈us->H0 r=none
def Xg.append(h:Xg H0 us)(g:Xg H0 vs):Xg H0 (us ++ vs):=λr hr=>by
 rcases Z1y.mp hr with z | z;exact h r z;exact g r z
def Xg.nil(H0:Hp):Xg H0 []:=λr hr=>by simp at hr
def Xg.one(h:H0 q=none):Xg H0 [.ref q]:=λr hr=>by
 have:=Z04.mp hr;injection this with this;rw[this];exact h
noncomputable def Z5f(H0 H:Hp)(D:Addr)(Fs:List (List Int)):Prop:=∃ us,H D=some (.lst us)/\us.length=Fs.length/\(∀ (i:Nat) (row:List Int),Fs[i]?=some row->∃ r:Addr,us[i]?=some (V.ref r)/\H r=some (.lst (row.map V.int)))/\Xg H0 us
def ZU.Z4E(h:ZU H Fs us X)(e:H D=some (.lst us))(n:Xg H0 us):Z5f H0 H D Fs :=
 ⟨us,e,h.1,λi row e=>by obtain⟨r,a,_,b⟩:=h.2 i row e;exact⟨r,a,b⟩,n⟩
noncomputable def VP(K:FR)(m:Nat):Sp:=λvs H Q _=>∃ (p:Addr) (l:List Int),vs=[.ref p,.int (m:Int)]/\H p=some (.lst (l.map V.int))/\l.length<=12/\∀ (D:Addr) (H':Hp),zu H H'->H D=none->Z5f H H' D (Pw.Xn l m)->Q 025 H'
noncomputable def Z4i(K:FR)(M:Nat):Sp:=λvs H Q E=>∃ m,m<M/\VP K m vs H Q E
noncomputable def Jb(K:FR)(M:Nat):Sp:=λvs H Q E=>∃ m,m<=M/\VP K m vs H Q E
noncomputable def Z3v(G:Hp)(a:V)(o:Option (List Int)):Prop:=(o=none/\a=.Zc)\/∃ b row,o=some row/\a=.ref b/\G b=some (.lst (row.map V.int))
def jV(h:Q [] H):Qg σ H Q:=h
noncomputable def FnAt(K:FR)(n:Str)(st:Stmt):Prop:=∃ f fd,PySem.W.nsIn K mainGlobals n=some (some (.ref f))/\QX K n n st f fd
def FnAt.of{n:Str}{st:Stmt}{kV ct:Value}(a:PySem.W.nsIn K mainGlobals n=some (some (.ref f)))(l:K.lookup f=some ⟨oc,od,.func (PySem.W.fnOf n n (ZK st) (Zs st) (zh st) .none kV doc pm an cdv ct),osl⟩)(c:PySem.W.codeIn K cdv n=true)(k:PySem.W.keepIn K (.ref f)=true):FnAt K n st:=⟨_,_,a,z2h l c k⟩
def FnAt.fnd{h:Heap}{mg:SV}{n:Str}{st:Stmt}(ps:List Str)(x:FnAt K n st)(XK:K.In h)(G:h.Ns mainGlobals mg)(b:∀ (kV doc pm:Value) (an:Option Addr) (cdv ct:Value) (us:List Value),us.length=ps.length->bindArgs (PySem.W.fnOf n n (ZK st) (Zs st) (zh st) .none kV doc pm an cdv ct) ⟨us,[]⟩=pure (ps.zip us)):ZE K mg n st ps:=by
 obtain⟨f,fd,a,F⟩:=x;exact⟨f,fd,F,Z3Q XK G a,F.binds b⟩
noncomputable def z8S(ns:List Nat):List V:=ns.map λ(k:Nat)=>V.int (k:Int)
noncomputable abbrev z4w(p:Pos):Arguments:={ posonlyargs:=[],args:=[{ arg:="page",annotation:=none,pos:=p }],vararg:=none,kwonlyargs:=[],kw_defaults:=[],kwarg:=none,defaults:=[] }
noncomputable abbrev JG:Scope:={ kind:=.function,names:=[("page",.local),("numbers",.free)],isGenerator:=false,isCoroutine:=false }
noncomputable abbrev z5o(p1 p2 p3 p4:Pos):Expr:=.UnaryOp .USub (.Subscript (.Name "numbers" p1) (.Name "page" p2) p3) p4
def z8C{x:Int}{tx:Tok}(c:A.depth<recursionLimit)(u:s.heap.get? f=some (kla_obj "<lambda>" qual (z4w p) (z5o p1 p2 p3 p4) JG [("numbers",cN)] pm c' ctv))(n:s.heap.CodeRec (.ref c') qual)(lim:s.heap.NoLimit)(d:s.heap.IsCell cN (some (.ref nl)))(hl:s.heap.IsList nl its)(hi:0<=i)(j:i<2 ^ 63)(z:its[i.toNat]?=some (.int x tx))(h:∀ h' v t',(∀ b o,s.heap.get? b=some o->h'.get? b=some o)->Q (.int (-x) t') { s with heap:=h',toks:=v }) :
 wpAny 07 A (call (.ref f) [.int i t]) Q E s:=by
 refine wpAny_call (kla_callFunE c u rfl rfl rfl rfl n ?_);show wpAny 07 A.in1 (pure [(("page":Str),Value.int i t)]) _ _ s;refine wpAny_pure (wpAny_newFunctionEnv (show ∀ x∈JG.names,x.2≠.cell by decide) (λy r=>by rcases Z04.mp r with rfl;rfl) (λa m l=>?_) rfl);have kp:∀ b o,s.heap.get? b=some o->a.get? b=some o:=λb o e=>l.extBut b o (Z13 (Z0w e)) (ZB _ e);refine⟨lim.keeps kp,kla_codeExpr ?_⟩;obtain⟨oc,q,k⟩:=d;refine UnaryOp_ (Subscript_ (wpAny_Name (wpAny_loadName_free rfl rfl rfl ⟨oc,kp _ _ q,k⟩ (wpAny_Name (wpAny_loadName_local rfl rfl m rfl ?_)))));exact item_listR (hl.at λo e=>kp _ _ e) hi j z (neg_int (h a _ _ kp)) rfl
noncomputable def z4v(a:Addr)(o:Obj):HO:=.ext λh=>h.get? a=some o
noncomputable def Ul(c:Addr)(qual:Str):HO:=.ext λh=>h.CodeRec (.ref c) qual
noncomputable def Tab(P:Addr)(pos:Pos)(qual:Str)(H:Hp):Prop:=H P=some (.Qd #[])\/∃ a,H P=some (.Qd #[rawInt pos.line,rawInt pos.col,.ref a])/\H a=some (Ul a qual)
noncomputable def Bm(base:Heap)(mg:SV):Prop:=∃ bm ob,mg "__builtins__"=some (.ref bm)/\bm≠builtinsNs/\bm≠mainGlobals/\base.get? bm=some ob/\ob.cls=.type "module"/\ob.dict=some builtinsNs/\ob.data=.plain
def jc(e:h.get? a=some o):Zl P w H h a (z4v a o):=⟨e,⟨o,e⟩,λd c b k=>k o b⟩
def z1L(e:h.CodeRec 024 q):Zl P w H h a (Ul a q):=by
 obtain⟨c,o,vs,t,b,f,d,v⟩:=id e;cases b;refine⟨e,⟨o,f⟩,λl j i k=>?_⟩;obtain⟨c,o,vs,t,b,f,d,v⟩:=i;cases b;exact⟨_,o,vs,t,rfl,k o f,d,v⟩
def z7B{X:Cx}{σ:St}{pos:Pos}(I:Inv X pins σ H s)(B:Bm X.base X.mg)(C:CodeHd X.base c P)(k:X.env.code=.ref c)(T:Tab P pos qual H)(hq:X.env.qual ++ "<lambda>"=qual)(E:closureFor JG X.env=pure [(("numbers":Str),cN)])(h:∀ f a i pm H' s',Inv X pins σ H' s'->(∀ b o,b≠P->H b=some o->H' b=some o)->(∀ b,H b=none->b≠f->b≠a->H' b=none)->H f=none->H' f=some (z4v f (kla_obj "<lambda>" qual (z4w p) (z5o p1 p2 p3 p4) JG [("numbers",cN)] pm a i))->H' a=some (Ul a qual)->Tab P pos qual H'->(∀ b o,b≠P->s.heap.get? b=some o->s'.heap.get? b=some o)->Q (.ref f) s') :
 wpAny 06 X.A (eval (.Lambda (z4w p) (z5o p1 p2 p3 p4) JG pos) X.env) Q X.xe s:=by
 refine kla_eval rfl ?_;rw[hq];have hg:s.heap.Ns mainGlobals X.mg:=I.mod.glob.keeps I.bk;have tr:∃ u,H P=some u:=by
  rcases T with T |⟨_,T,_⟩;exact⟨_,T⟩;exact⟨_,T⟩
 have hgP:mainGlobals≠P:=λq=>by
  obtain⟨o,es,ep,e,_⟩:=I.mod.glob;obtain⟨u,G⟩:=tr;rw[q] at e;rw[(I.bs _ _ e).2] at G;cases G
 have S:s.heap.BuiltinsAt X.mg P:=by
  obtain⟨bm,ob,b1,b2,b3,b4,b5⟩:=B;refine⟨bm,ob,b1,b2,b3,λq=>?_,I.bk _ _ b4,b5⟩;obtain⟨u,G⟩:=tr;rw[q] at b4;rw[(I.bs _ _ b4).2] at G;cases G
 rcases T with T |⟨a,T,Tc⟩;have O:s.heap.get? P=some (tabObj #[]):=I.hok P _ T;refine kla_makeFunction (ps:=#[]) E I.ok.glob hg k (C.keeps I.bk) O trivial rfl hgP S λa i h' U hx l F N W=>?_
 generalize hobj:kla_obj "<lambda>" qual (z4w p) (z5o p1 p2 p3 p4) JG [("numbers",cN)] ((X.mg "__name__").getD .none) a i=ob;have nP:P<s.heap.objs.size:=Z0w O;have fc:H a=none:=I.hok.fresh l;have sz:s.heap.objs.size<=h'.objs.size:=Z0X l (Nat.le_of_lt F);have K:H h'.objs.size=none:=I.hok.fresh sz;have cP:a≠P:=λq=>by subst q;exact Z2I _ (Z0N nP l)
 have fP:h'.objs.size≠P:=λq=>by rw[← q] at nP;exact Z2I _ (Z0N nP sz)
 have Z:a≠h'.objs.size:=Z13 F;have keep:∀ b o,b≠P->s.heap.get? b=some o->(h'.push ob).get? b=some o:=λb o S e=>ZB _ (hx b o S e);have m:h'.get? P=some (tabObj #[rawInt pos.line,rawInt pos.col,.ref a]):=by simpa using W
 generalize eH:upd (upd (upd H P (.Qd #[rawInt pos.line,rawInt pos.col,.ref a])) a (Ul a qual)) h'.objs.size (z4v h'.objs.size ob)=H';have L:H' h'.objs.size=some (z4v h'.objs.size ob):=by rw[← eH,zq]
 have r:H' a=some (Ul a qual):=by rw[← eH,zC Z,zq]
 have D:H' P=some (.Qd #[rawInt pos.line,rawInt pos.col,.ref a]):=by rw[← eH,zC fP.symm,zC cP.symm,zq]
 have R:∀ b,b≠P->b≠a->b≠h'.objs.size->H' b=H b:=λb y h2 h3=>by rw[← eH,zC h3,zC h2,zC y]
 have j:∀ b o,b≠P->H b=some o->H' b=some o:=λb o y e=>by rw[R b y (zo e fc) (zo e K)];exact e
 have hok:Xx X.prog X.w H' (h'.push ob):=λb u e=>by
  by_cases b1:b=h'.objs.size;subst b1;rw[L] at e;cases e;exact jc (Z10 _ (by rw[← hobj];rfl));by_cases b2:b=a;subst b2;rw[r] at e;cases e;obtain⟨c,o,vs,t,ec,eo,d,v⟩:=N;cases ec;exact z1L ⟨_,o,vs,t,rfl,ZB _ eo,d,v⟩;by_cases b3:b=P;subst b3;rw[D] at e;cases e;exact ZB _ m;rw[R b b3 b2 b1] at e;refine (I.hok b u e).stay (λx v Y q=>keep x v ?_ q) (λx q=>j x _ ?_ q) λx xs q=>j x _ ?_ q;rintro rfl;rcases Y with z | z;exact b3 z.symm;rw[T] at z;cases z;rintro rfl;rw[T] at q;cases q;rintro rfl;rw[T] at q;cases q
 have un:Un X.fs [] H H' s.heap (h'.push ob):=by
  have nn:∀ b,H b=none->b≠P:=λb n q=>by subst q;rw[T] at n;cases n
  refine⟨λb o e n _ _=>keep b o (nn b n) e,λb o e n _ _=>⟨o.slots,keep b o (nn b n) e⟩,λb o e n _=>?_,λb o e _=>?_,λb xs e=>j b _ ?_ e,λb o u e=>j b _ ?_ e,λb ps e=>?_⟩;have lb:=Z0w e;rw[R b (nn b n) (Z13 (Z0N lb l)) (Z13 (Z0N lb sz))];exact n;by_cases z:b=P;subst z;exact⟨_,ZB _ m⟩;exact⟨o,keep b o z e⟩;rintro rfl;rw[T] at e;cases e;rintro rfl;rw[T] at e;cases e;by_cases z:b=P;subst z;rw[T] at e;cases e;exact⟨#[rawInt pos.line,rawInt pos.col,.ref a],by rw[D];simp⟩;exact⟨#[],by rw[j b _ z e];simp⟩
 subst hobj;exact h _ a i _ H' _ (I.un (t':=U) un hok) j (λb n y h2=>by rw[R b (λq=>by subst q;rw[T] at n;cases n) h2 y];exact n) K L r (.inr ⟨a,D,r⟩) keep;have O:s.heap.get? P=some (tabObj #[rawInt pos.line,rawInt pos.col,.ref a]):=I.hok P _ T;refine kla_makeFunctionHit (ps:=#[rawInt pos.line,rawInt pos.col,.ref a]) (cv:=.ref a) E I.ok.glob hg k (C.keeps I.bk) O trivial (by simp[codeAmong,rawInt]) S λi h' U kp sz=>?_;generalize hobj:({ cls:=.type "function",data:=.func (kla_fn "<lambda>" qual (z4w p) (z5o p1 p2 p3 p4) JG [("numbers",cN)] ((X.mg "__name__").getD .none) 024 i) }:Obj)=ob;have K:H h'.objs.size=none:=I.hok.fresh sz;have M:∀ b o,s.heap.get? b=some o->(h'.push ob).get? b=some o:=λb o e=>ZB _ (kp b o e);have j:∀ b o,H b=some o->upd H h'.objs.size (z4v h'.objs.size ob) b=some o:=λb o e=>by rw[zC (zo e K)];exact e
 have J:=I.laid (t':=U) (o:=z4v h'.objs.size ob) M sz (jc (Z10 _ (by rw[← hobj];rfl)));subst hobj;exact h _ a i _ _ _ J (λb o _ e=>j b o e) (λb n y _=>by rw[zC y];exact n) K zq (j _ _ Tc) (.inr ⟨a,j _ _ T,j _ _ Tc⟩) λb o _ e=>M b o e
noncomputable def Z1V(vs:List Value)(n:Nat):Prop:=vs.length=n/\∀ (j:Nat) (x:Value),vs[j]?=some x->∃ t,x=.int (j:Int) t
def j8{prog:Program}{w:World}{A:Around}{E:Value->Shared->Prop}{s:Shared}{r:Addr}{n:Nat}{t u v:Tok}{Q:Value->Shared->Prop}(k:A.handled=none)(hr:IsRange s.heap r 0 (n:Int) 1 t u v)(hn:n<=1000)
 (h:∀ h' d acc c,(∀ b o,b≠s.heap.objs.size->(s.heap.push { cls:=.type "list",data:=.seq ([]:List Value).toArray }).get? b=some o->h'.get? b=some o)->h'.get? s.heap.objs.size=some { cls:=.type "list",dict:=none,data:=.seq acc c,slots:=#[] }->ItemsOf (λi v=>∃ t,v=.int (0+i * 1) t) acc n->Q 023 { s with heap:=h',toks:=d }) :
 wpAny 07 A.in1 (Builtin.List.listExtendWith 023 (.ref r) 023)
  (λfin s'=>match fin with | .done f=>(match (Except.ok f:Result) with | .ok (.ret v)=>Q v s' | .ok _=>False | .error e=>E e s') | .again c'=>c'.quiet=true/\codeAny 07 A c' (λr s'=>match r with | .ok (.ret v)=>Q v s' | .ok _=>False | .error e=>E e s') s') (λe s'=>match (Except.error e:Result) with | .ok (.ret v)=>Q v s' | .ok _=>False | .error e=>E e s') { s with heap:=s.heap.push { cls:=.type "list",data:=.seq ([]:List Value).toArray } }:=by
 have j:Builtin.Range.small 0 (n:Int) 1=true:=small_one 01 01 00 00;exact wpAny_extend_range (R:=λr s'=>match r with | .ok (.ret v)=>Q v s' | .ok _=>False | .error e=>E e s') (s:={ s with heap:=s.heap.push { cls:=.type "list",data:=.seq ([]:List Value).toArray } }) (n:=n) k (ZB _ hr) j (by rw[rangeSize_one];split <;> lia) 00 s.heap.objs.size _ 0 (Z10 _ rfl) λh' d acc c kp l a=>h h' d acc c kp l a
def z0p(i:A.handled=none)(hr:IsRange s.heap r 0 (n:Int) 1 t u v)(hn:n<=1000)(h:∀ h' f vs,Z1V vs n->(∀ b o,s.heap.get? b=some o->h'.get? b=some o)->Q vs { s with heap:=h',toks:=f }):wpAny 07 A (collect (.ref r)) Q E s:=by
 unfold collect;refine wpAny_bind (wpAny_runValue (codeAny_builtin F.entry_proto_collect ?_));rw[Around.under_plainId F.plain_proto_collect _];show wpAny _ A.in1 (newList [] >>= λl=>again (.builtin "list.__iadd__" ⟨[l,.ref r],[]⟩)) _ _ s;refine wpAny_bind (wpAny_newObj_type ?_);refine wpAny_pure ⟨plainId_quiet F.plain_list_iadd _,codeAny_builtin F.entry_list_iadd ?_⟩;rw[Around.under_plainId F.plain_list_iadd _];show wpAny _ A.in1 (Builtin.List.listExtendWith 023 (.ref r) 023) _ _ _;refine j8 (Q:=λv s'=>wpAny 07 A (match v with | .ref a=>do { let o ←load a;match o.data with | .seq xs _=>pure xs.toList | _=>unsupported "internal:collect" } | _=>unsupported "internal:collect") Q E s') i hr hn λh' f acc c kp k d=>?_
 show wpAny _ A (load s.heap.objs.size >>= _) _ _ _;refine wpAny_bind (wpAny_load k (wpAny_pure ?_));refine h h' f acc.toList ⟨by rw[Z07];exact d.1,λj x m=>?_⟩ λb o e=>kp b o (Z13 (Z0w e)) (ZB _ e);obtain⟨t,e⟩:=d.2 j x (by rw[← Z34];exact m);exact⟨t,by rw[e];congr 1;lia⟩
def jN(i:A.handled=none)(hr:IsRange s.heap r 0 (n:Int) 1 t u v)(hn:n<=1000)(h:∀ (g:Heap) (D:Addr) (c:Nat) (vs:List Value),Z1V vs n->(∀ b o,s.heap.get? b=some o->g.get? b=some o)->(∀ b o,s.heap.get? b=some o->b<D)->g.get? D=some (seqObj "list" vs.toArray 0)->
  wpAny 07 A.in1.in1 (ksk_tree D (.ref f) false) (λfin s'=>fin=.done (.ret .none)/\Q 025 s') E { s with heap:=g,toks:=c }) :
 wpAny 07 A (call (.builtin "sorted") [.ref r] [(Str.ofString "key",.ref f)]) Q E s:=by
 refine call_function_entry_kw kind_sorted plain_sorted entry_sorted (ksk_s1 _ _) ?_;unfold Builtin.«sorted»;refine wpAny_bind (m:=checkCount "sorted" 1 1 _) (wpAny_pure ?_);refine wpAny_bind (z0p i hr hn λg c vs d kp=>?_);have few:vs.length<=sizeLine:=by rw[d.1,sizeLine_eq];lia
 refine wpAny_bind (wpAny_newList ?_ few);have a:(g.push (seqObj "list" vs.toArray 0)).get? g.objs.size=some (seqObj "list" vs.toArray 0):=Z10 _ rfl;have lt:∀ b o,s.heap.get? b=some o->b<g.objs.size:=λb o e=>Z0w (kp b o e);refine wpAny_bind (wpAny_holding (wpAny_call_entry_kw slot_list_sort ⟨_,a,rfl⟩ entry_list_sort ?body (ksk_l1 _ _)))
 case body =>
  show wpAny 07 A.in1.in1 (Builtin.«list.sort» ⟨[.ref g.objs.size],[(Str.ofString "key",.ref f)]⟩) _ _ _;rw[ksk_t1];refine wpAny_mono (h (g.push (seqObj "list" vs.toArray 0)) g.objs.size c vs d (λb o e=>ZB _ (kp b o e)) lt a) (λfin s' hf=>?_) λ_ _ e=>e;obtain⟨rfl,j⟩:=hf;exact⟨_,rfl,wpAny_pure ⟨_,rfl,j⟩⟩
def ints_snoc{ns:List Int}(h:IntsAre vs ns):IntsAre (vs ++ [.int k t]) (ns ++ [k]):=ksk_snoc h
def z0k{Fin:List Value->Nat->Shared->Prop}(y:Z1V vs n)(B:∀ q∈news,q.1<D)(l:D<kS)(turn:∀ (i:Nat) (E:Tok) (h:Heap) (d:Nat) (R:Value->Shared->Prop),i<n->Fr h₀ L h m->News h₀ L h news->(∀ h' u t',(∀ b o,h.get? b=some o->h'.get? b=some o)->R (.int (key i) t') { s with heap:=h',toks:=u })->wpAny 07 A (call (.ref f) [.int (i:Int) E]) R (λ_ _=>False) { s with heap:=h,toks:=d })(fin:∀ a e h d,Fr h₀ L h m->News h₀ L h ((kS,seqObj "list" (List.toArray a) e) :: (D,seqObj "list" #[] e1) :: news)->IntsAre a ((List.range n).map key)->Fin a e { s with heap:=h,toks:=d }) :
 ∀ (r:List Value) (j:Nat) (a:List Value) (e:Nat) (h:Heap) (d:Nat),r=vs.drop j->j<=n->Fr h₀ L h m->News h₀ L h ((kS,seqObj "list" (List.toArray a) e) :: (D,seqObj "list" #[] e1) :: news)->IntsAre a ((List.range j).map key)->KatKeys prog w A h₀ L m kS (.ref f) Fin r a e { s with heap:=h,toks:=d }
 | [],j,a,e,h,d,hr,hj,F,N,hi=>by
   have:j=n:=by
    have:=congrArg List.length hr;rw[Z31,y.1] at this;simp at this;lia
   subst this;exact KatKeys.nil (fin a e h d F N hi)
 | v :: r,j,a,e,h,d,hr,hj,F,N,hi=>by
   have k:j<n:=by
    have:=congrArg List.length hr;rw[Z31,y.1,Z09] at this;lia
   have hd:vs.drop j=vs[j]'(by rw[y.1];exact k) :: vs.drop (j+1):=List.drop_eq_getElem_cons (by rw[y.1];exact k);rw[hd] at hr;injection hr with e1' e2';obtain⟨t,C⟩:=y.2 j v (by rw[e1'];simp);subst C;refine KatKeys.cons (turn j t h d _ k F (λp z=>N p (.tail _ (.tail _ z))) λh' u t' kp=>?_);refine KatBack.intro (F.kept kp) (N.grown kp) (.head λp z=>?_) λG c F2 N2=>?_;rcases Z08.mp z with rfl | z;exact Z13 l;exact Z13 (Nat.lt_trans (B p z) l);refine z0k y B l turn fin r (j+1) _ c G u e2' k F2 N2 ?_;rw[Z5n,Z16];exact ints_snoc hi
noncomputable def ltK(key:Nat->Int)(i j:Nat):Bool:=decide (key i<key j)
def Z0J(key:Nat->Int):Srt.Ord (ltK key):=by
 refine⟨λi j h=>?_,λi j k b a=>?_⟩ <;> simp only[ltK,decide_eq_true_eq,decide_eq_false_iff_not] at * <;> lia
noncomputable def Stb(key:Nat->Int)(p:List Nat):Prop:=∀ k,1<=k->k<p.length->key (p.getD (k - 1) 0)<key (p.getD k 0)\/(key (p.getD (k - 1) 0)=key (p.getD k 0)/\p.getD (k - 1) 0<=p.getD k 0)
def z4E{ps:List (Int×Value)}{kz:List Int}{vs:List Value}(h:ps.Perm (kz.zip vs))(a:kz.length=vs.length)(b:vs.length<2):ps.map Prod.snd=vs:=by
 rcases vs with _ |⟨y,_ |⟨z,r⟩⟩;have e:kz=[]:=List.eq_nil_of_length_eq_zero a;subst e;rw[show ps=[] from List.perm_nil.mp h];rfl;obtain⟨k,rfl⟩:=List.length_eq_one_iff.mp a;rw[show ps=[(k,y)] from List.perm_singleton.mp h];rfl;simp at b;lia
def z5K{X:Cx}{σ:St}(I:Inv X pins σ H s)(hc:X.calm=true)(hr:IsRange s.heap r 0 (n:Int) 1 t u v)(W:n<64)(turn:∀ (i:Nat) (T:Tok) (h:Heap) (K:Nat) (R:Value->Shared->Prop),i<n->(∀ b o,b≠X.env.locals->s.heap.get? b=some o->h.get? b=some o)->(∀ h' B t',(∀ b o,h.get? b=some o->h'.get? b=some o)->R (.int (key i) t') { s with heap:=h',toks:=B })->
  wpAny 06 X.A.in1.in1 (call (.ref f) [.int (i:Int) T]) R (λ_ _=>False) { s with heap:=h,toks:=K })(q:∀ (p:List Nat) (D:Addr),p.Perm (List.range n)->Stb key p->H D=none->Q 025 (upd H D (.lst (p.map λ(i:Nat)=>V.int (i:Int))))) :
 wpAny 06 X.A (call (.builtin "sorted") [.ref r] [(Str.ofString "key",.ref f)]) (EP X pins σ Q) X.xe s:=by
 refine jN (I.ok.hd hc) hr 00 λg D K vs y kpg E hoL=>?_;obtain⟨m,hn,_⟩:=id I.loc;have F0:Fr X.base X.env.locals s.heap m:=⟨hn,I.bk,Z0X I.ok.bsz I.ok.above⟩;have F:=F0.kept kpg;have N:News X.base X.env.locals g (yn X.base s.heap X.env.locals):=News.grown z0h kpg;have d:∀ {h':Heap}{r:List 013},Fr X.base X.env.locals h' m->News X.base X.env.locals h' r->(∀ p∈yn X.base s.heap X.env.locals,p∈r)->∀ b o,b≠X.env.locals->s.heap.get? b=some o->h'.get? b=some o:=λ{h' r} F' N' sub b o hb e=>by
  cases z:X.base.get? b with
  | some u =>
    have:=I.bk b u z;rw[e] at this;cases this;exact F'.keep b _ z
  | none=>exact (N' (b,o) (sub _ (vI hb z e))).1
 have hLD:X.env.locals<D:=by obtain⟨o,_,_,ho,_⟩:=hn;exact E _ _ ho
 have L:∀ p∈yn X.base s.heap X.env.locals,p.1<D:=λp G=>E _ _ (xx G).2.2;have Z:X.base.get? D=none:=by
  cases z:X.base.get? D with
  | none=>rfl
  | some o=>exact absurd (E D o (I.bk _ _ z)) (Z2I _)
 have hHD:H D=none:=by
  cases z:H D with
  | none=>rfl
  | some u =>
    obtain⟨o,e⟩:=Zl.there (I.hok D u z);exact absurd (E _ _ e) (Z2I _)
 have J:∀ (i:Nat) (T:Tok) (h:Heap) (K:Nat) (R:Value->Shared->Prop),i<n->Fr X.base X.env.locals h m->News X.base X.env.locals h (yn X.base s.heap X.env.locals)->(∀ h' B t',(∀ b o,h.get? b=some o->h'.get? b=some o)->R (.int (key i) t') { s with heap:=h',toks:=B })->
  wpAny 06 X.A.in1.in1 (call (.ref f) [.int (i:Int) T]) R (λ_ _=>False) { s with heap:=h,toks:=K }:=λi T h K R hi F' N' k=>turn i T h K R hi (d F' N' λp G=>G) k
 have fin:∀ {p:List Nat}{S:Heap}{O c:Nat}{out:List Value},p.Perm (List.range n)->Stb key p->Fr X.base X.env.locals S m->(∀ b o,b≠X.env.locals->s.heap.get? b=some o->S.get? b=some o)->S.get? D=some (seqObj "list" out.toArray c)->out=(p.map λi=>vs.getD i Value.none)->
  EP X pins σ Q 025 { s with heap:=S,toks:=O }:=λ{p S O c out} pm st F3 kp3 hD3 eo=>by
  have rel:Vals (p.map λ(i:Nat)=>V.int (i:Int)) out:=by
   subst eo;have key:∀ (l:List Nat),(∀ i∈l,i<n)->Vals (l.map λ(i:Nat)=>V.int (i:Int)) (l.map λi=>vs.getD i Value.none):=by
    intro l
    induction l with
    | nil=>intro _;exact .nil
    | cons a l ih =>
      intro hl';have ha:a<vs.length:=(by rw[y.1];exact hl' a Z0K);obtain⟨t,et⟩:=y.2 a vs[a] (by simp[ha]);have e2:vs.getD a Value.none=vs[a]:=(by simp[ha]);rw[Z1Y,Z1Y,e2,et];exact .cons ⟨t,rfl⟩ (ih λi hi=>hl' i (Z03 _ hi))
   exact key _ λi hi=>Z3I.mp (pm.mem_iff.mp hi)
  refine⟨.ref D,_,I.z1Y (t':=O) hn F3 kp3 hHD (λo e=>Z2I _ (E D o e)) hD3 rel ?_,rfl,q p D pm st hHD⟩;rw[Z00,pm.length_eq,Z36,sizeLine_eq];lia
 by_cases h2:2<=n;have h2':2<=vs.length:=by rw[y.1];exact h2
 refine kat_keyed F N hoL (Z3L hLD) Z (λp G=>Z13 (L p G)) h2' (by rw[y.1];exact W) λkS e1 h' F' N' l0 l1=>?_;refine z0k (s:=s) (n:=n) (key:=key) (D:=D) y L l0 J (λU e h K F2 N2 hi=>?_) vs 0 [] 0 h' K rfl (Z19 _) F' N' .nil;have hkl:U.length=n:=by rw[hi.length];simp
 rw[ksk_kind (keys:=List.toArray U) (kz:=(List.range n).map key) (by simpa using hi) (by simpa using (by lia:2<=U.length))];refine wpAny_pure ?_;show (kas_sort vs.length).kasWp (kas_ask X.prog X.w X.A.in1.in1 oneType' U) (λp s3=>KatFin X.base X.env.locals m kS D U e e1 (p.toList.map λi=>vs.getD i Value.none) _ s3) _;rw[y.1];refine Srt.Jg (n:=n) (P:=λs'=>s'={ s with heap:=h,toks:=K }) (ltK key) (λi j C s2 hi' hj p2 hc'=>?_) (kas_sort n) _ (Srt.ja 00) rfl λs2 p2=>?_;subst p2;unfold kas_ask;have gi:∀ {i:Nat},i<n->∃ t,U.getD i Value.none=.int (key i) t:=λ{i} hi2=>by
  obtain⟨t,et⟩:=hi.get i (key i) (by simp[hi2]);exact⟨t,by rw[Z06,et];rfl⟩
 obtain⟨t1,e1⟩:=gi hi';obtain⟨t2,e2⟩:=gi hj;rw[e1,e2];exact kat_lt_int (hc' _ rfl);subst p2;obtain⟨pm,st⟩:=Srt.z0b (Z0J key) (n:=n) 00;generalize Srt.run (ltK key) (kas_sort n)=p at *;have hpl:p.toList.length=n:=by rw[pm.length_eq,Z36]
 refine KatFin.intro F2 N2 (.head λx M=>?_) λS c3 F3 N3=>KasFin.intro F3 N3 (.tail (Z3L l0) (.head λx M=>Z13 (L x M))) λh4 c4 F4 N4=>⟨rfl,?_⟩;rcases Z08.mp M with rfl | M;exact Z13 l0;exact Z13 (l1 x M);refine fin pm (λk k1 k2=>?_) F4 (d F4 N4 λx M=>.tail _ (.tail _ M)) (N4 (D,listOf (List.toArray (p.toList.map λi=>vs.getD i Value.none)) c4) (.tail _ (.head _))).1 rfl
 have:=st k k1 00;rw[Jf,Jf];obtain⟨a1,a2⟩:=this;simp only[ltK,decide_eq_true_eq,decide_eq_false_iff_not] at a1 a2;lia;refine ksk_sort (s:={ s with heap:=g,toks:=K }) (kz:=(List.range n).map key) F N hoL (Z3L hLD) Z (λp G=>Z13 (L p G)) (by simp[y.1]) (by rw[y.1];exact W) (λi v k Y hki h tk2 own F2 N2=>?_) λS O out c3 F3 N3 ko=>⟨rfl,?_⟩;have hi:i<n:=by rw[← y.1];exact (Z15.mp Y).1
 obtain⟨T,rfl⟩:=y.2 i v Y;have:k=key i:=by
  rw[Z1a,List.getElem?_range hi] at hki;exact (Z12 hki).symm
 subst this;exact J i T h tk2 _ hi F2 (λp G=>N2 p (Z2Q _ G)) λh' B t' kp=>⟨h',B,t',rfl,rfl,F2.kept kp,N2.grown kp⟩;obtain⟨ps,G,ho,_⟩:=ko;have eo:out.toList=vs:=by
  rw[ho];exact z4E G (by simp[y.1]) (by rw[y.1];lia)
 refine fin (p:=List.range n) (List.Perm.refl _) (λk k1 k2=>by rw[Z36] at k2;lia) F3 (d F3 N3 λx M=>.tail _ M) (out:=out.toList) (c:=c3) (by rw[Array.toArray_toList];exact (N3 _ (.head _)).1) ?_;rw[eo];have:∀ (l:List Value),(List.range l.length).map (λi=>l.getD i Value.none)=l:=λl=>by
  apply List.ext_getElem;simp;intro i h1 h2;simp at h1 h2 ⊢;simp[h1]
 rw[← y.1];exact (this vs).symm
def z1j(h:env.cells.lookup ("numbers":Str)=some c):closureFor JG env=pure [(("numbers":Str),c)]:=by
 unfold closureFor;show (do let __s ←forIn [(("page":Str),NameKind.local),(("numbers":Str),NameKind.free)] ([]:List (Str×Addr)) _;pure __s)=_;rw[Z5t];simp only[show (NameKind.local == NameKind.free)=false from rfl,Bool.false_eq_true,if_false,pure_bind];rw[Z5t];simp only[show (NameKind.free == NameKind.free)=true from rfl,if_true,cellOf,h,pure_bind,List.forIn_nil]
def Inv.Z4C{X:Cx}{σ:St}(I:Inv X pins σ H s)(h:zJ X.K H a xs):a≠X.env.locals:=by
 rintro rfl;obtain⟨its,_,pl,_⟩:=I.list h;obtain⟨o,e,c,n,d⟩:=pl.isList;obtain⟨m,⟨o',f,i,b,hd,_⟩,_⟩:=I.loc;rw[e] at b;cases b;rw[d] at hd;cases hd
noncomputable def z7n(K:FR)(P:Addr)(pos:Pos)(qual:Str)(i:Nat)(a:TA):TE:=λσ H Q=>a σ H λvs H1=>∃ (n:Nat) (nl:Addr) (ms:List Int),vs=[.int (n:Int)]/\n<64/\σ[i]?=some (some (.ref nl))/\zJ K H1 nl (ms.map V.int)/\n<=ms.length/\Tab P pos qual H1/\
 ∀ (p:List Nat) (D:Addr) (H':Hp),p.Perm (List.range n)->Stb (λi=>-(ms.getD i 0)) p->(∀ b o,b≠P->H1 b=some o->H' b=some o)->H1 D=none->H' D=some (.lst (p.map λ(i:Nat)=>V.int (i:Int)))->Tab P pos qual H'->Q 025 H'
def z2D{X:Cx}{a:Expr}{ta:TA}{i:Nat}{P c:Addr}{qual:Str}{p Z q pos pos' l kp p1 p2 p3 p4:Pos}(hr:zX 2 X.A)(hc:X.calm=true)(B:Bm X.base X.mg)(C:CodeHd X.base c P)(w:X.env.code=.ref c)(hq:X.env.qual ++ "<lambda>"=qual)
 (hgS:Gl X "sorted") (hmS:X.mg "sorted"=none) (hgE:Gl X "range") (hmE:X.mg "range"=none) (hN:X.N[i]?=some ("numbers":Str)) (hK:X.env.scope.names.lookup ("numbers":Str)=some .cell) (ha:PA X [a] ta)
 (hs:starEach [.Call (.Name "range" Z) [a] [] pos'] X.env=[(false,eval (.Call (.Name "range" Z) [a] [] pos') X.env)]:=by rfl) (hs2:starEach [a] X.env=[(false,eval a X.env)]:=by rfl) :
 PE X (.Call (.Name "sorted" p) [.Call (.Name "range" Z) [a] [] pos'] [⟨some "key",.Lambda (z4w q) (z5o p1 p2 p3 p4) JG l,kp⟩] pos) (z7n X.K P l qual i ta):=by
 intro pins s σ H Q I h;refine wpAny_Call_Name_kw (yX I hgS hmS boot_sorted ?_ 01 01);refine callWith_kw ?_ (by rw[hs];rfl) (by rw[hs];rfl);rw[hs];show wpAny _ _ (spliced ((false,eval (.Call (.Name "range" Z) [a] [] pos') X.env) :: backTo pos [])) _ _ s;refine Calls.spliced_cons ?_;refine wpAny_Call_Name_kw (yX I hgE hmE boot_range ?_ 01 01);refine Z33 (z8 (ha pos' pins s σ H _ I h) λus s1 ⟨vs,H1,I1,r1,q1⟩=>?_) hs2 rfl;obtain⟨n,nl,ms,rfl,hn,hσ,hl,hml,T,q⟩:=q1;obtain⟨u,rfl,ru⟩:=vals1 r1;obtain⟨t,rfl⟩:=ru;refine call_range_1 ?_;refine Calls.spliced_nil ?_;refine kws_cons ?_;have G:IsRange (s1.heap.push { cls:=.type "range",data:=.fields #[.int 0 s1.toks,.int (n:Int) t,.int 1 (s1.toks+1)] }) s1.heap.objs.size 0 (n:Int) 1 s1.toks t (s1.toks+1):=IsRange.new ..;have I2:Inv X pins σ H1 { s1 with heap:=s1.heap.push { cls:=.type "range",data:=.fields #[.int 0 s1.toks,.int (n:Int) t,.int 1 (s1.toks+1)] },toks:=s1.toks+1+1 }:=I1.kept λb o e=>ZB _ e;obtain⟨cN,F⟩:=I2.ok.has "numbers" (.inl hK);have trP:∃ u,H1 P=some u:=by
  rcases T with T |⟨_,T,_⟩;exact⟨_,T⟩;exact⟨_,T⟩
 have rP:s1.heap.objs.size≠P:=λz=>by
  obtain⟨u,hu⟩:=trP;have:=I1.hok.lt hu;rw[← z] at this;exact Z2I _ this
 refine z7B I2 B C w T hq (z1j F) λf c' ctv pm H2 s2 I3 Y hF hf U L T' keep=>kws_nil ?_;have r:=keep _ _ rP G;have M:zJ X.K H2 nl (ms.map V.int):=by
  have ne:∀ {o:HO},H1 nl=some o->(∀ ps,o≠.Qd ps)->nl≠P:=λ{o} e no z=>by
   rcases T with T |⟨_,T,_⟩;rw[z,T] at e;cases e;exact no _ rfl;rw[z,T] at e;cases e;exact no _ rfl
  rcases hl with (e |⟨o,e⟩) | e;exact .inl (.inl (Y _ _ (ne e λps z=>by cases z) e))
  exact .inl (.inr ⟨o,Y _ _ (ne e λps z=>by cases z) e⟩);exact .inr e
 obtain⟨its,rv,pl,_⟩:=I3.list M;have ia:=intsAre_of rv;obtain⟨m,hns,W⟩:=I3.loc;obtain⟨u,ru,lk⟩:=W i "numbers" (.ref nl) hN hσ (.inr (.inl hK));obtain rfl:u=.ref nl:=ru;have cell:s2.heap.IsCell cN (some (.ref nl)):=by
  rcases lk with⟨k,_⟩|⟨_,c2,e2,z⟩;have k:X.env.scope.names.lookup ("numbers":Str)=some .local:=k;rw[hK] at k;cases k;rw[F] at e2;cases e2;exact z
 have hfo:s2.heap.get? f=some _:=(I3.hok f _ U).1;have hcr:s2.heap.CodeRec (.ref c') qual:=(I3.hok c' _ L).1;have O:∀ {b:Addr}{o:HO},H2 b=some o->b≠X.env.locals:=λ{b o} e z=>by rw[z,I3.free] at e;cases e
 refine z5K (key:=λi=>-(ms.getD i 0)) I3 hc r hn (λj tj h tk R hj kp k=>?_) λp D pm st E=>?_;have S:j<ms.length:=Z0N hj hml;obtain⟨tx,hx⟩:=ia.get j ms[j] (by simp[S]);have ex:ms.getD j 0=ms[j]:=by simp[S]
 have bl:∀ b o,X.base.get? b=some o->b≠X.env.locals:=λb o e z=>by
  have h1:=Z0w e;have h2:=Z0X I3.ok.bsz I3.ok.above;rw[z] at h1;exact absurd (Z0N h1 h2) (Z2I _)
 have J:h.CodeRec (.ref c') qual:=by
  obtain⟨c,o,vs,t,ec,eo,d,v⟩:=hcr;cases ec;exact⟨_,o,vs,t,rfl,kp _ _ (O L) eo,d,v⟩
 have y:h.IsCell cN (some (.ref nl)):=by
  obtain⟨o,e,d⟩:=cell;exact⟨o,kp _ _ (I3.cne _ _ F) e,d⟩
 refine z8C (s:={ s2 with heap:=h,toks:=tk }) (i:=(j:Int)) (x:=ms[j]) (its:=its.toArray) (hr.in1.in1.depth) (kp _ _ (O U) hfo) J (I3.ok.mod.nolimit.keeps λb o e=>kp b o (bl b o e) (I3.bk b o e)) y (pl.isList.at λo e=>kp _ _ (I3.Z4C M) e) 00 00 (by simpa using hx) λh' tk' t' kp'=>?_;have:=k h' tk' t' kp';rw[ex] at this;exact this;have hD1:H1 D=none:=by
  cases z:H1 D with
  | none=>rfl
  | some o =>
    by_cases e:D=P;subst e;rcases T' with T' |⟨_,T',_⟩;rw[T'] at E;cases E;rw[T'] at E;cases E;rw[Y _ _ e z] at E;cases E
 have up:∀ b o,H2 b=some o->upd H2 D (.lst (p.map λ(i:Nat)=>V.int (i:Int))) b=some o:=λb o e=>by rw[zC (zo e E)];exact e
 refine q p D _ pm st (λb o hb e=>up b o (Y b o hb e)) hD1 zq ?_;rcases T' with T' |⟨c2,T',Tc⟩;exact .inl (up _ _ T');exact .inr ⟨c2,up _ _ T',up _ _ Tc⟩
noncomputable def z7d(P:Addr)(H:Hp):Prop:=H P=some (.Qd #[])/\∀ b,b≠P->H b=none\/∃ o xs,H b=some (.frz o (.lst xs))
def z4P{mg:SV}{x:Str}{sp:Sp}{ns:List Int}(KX:K.In s₁.heap)(C:s₁.heap.Ns mainGlobals mg)(f:s₁.heap.Ns builtinsNs mb)(O:∀ x:Str,x≠"__name__"->mb x=bootBuiltins x)(y:s₁.heap.NoLimit)(hg:s₁.gens=#[])(Q:∃ bm ob,mg "__builtins__"=some (.ref bm)/\bm≠builtinsNs/\s₁.heap.get? bm=some ob/\ob.cls=.type "module"/\ob.dict=some builtinsNs/\ob.data=.plain)(B:s₁.heap.get? tb=some (tabObj #[]))(M:K.lookup tb=none)(hC:codeHdIn K c tb=true)(ha:s₁.heap.get? a=some { cls:=.type "list",data:=.seq vs.toArray })(hi:IntsAre vs ns)(hl:ns.length<=sizeLine)(hr:zX k callerA)(F:∀ base:Heap,K.In base->base.Ns mainGlobals mg->Bm base mg->Zo P w K mg base CX k fa fd [x] sp)(D:∀ (s:Shared) (u:Value),BindsTo s fd ⟨[u],[]⟩ [(x,u)])(U:∀ H:Hp,z7d tb H->zJ K H a (ns.map V.int)->sp [.ref a] H (λv _=>v=.bl true) λ_ _ _=>False)(W:∀ H e s',CX [] H s₁ (λ_ _ _=>False) e s'->False) :
 codeAny (model P w) callerA (.call (.ref fa) ⟨[.ref a],[]⟩) (λr s'=>r=.ok (.ret (.bool true))/\OldK s₁.heap s'.heap/\s'.os=s₁.os/\AllBare s'.gens) s₁:=by
 have Y:=jK hi;have G:=hi.length;have at_:a≠tb:=λz=>by rw[z,B] at ha;cases ha
 have core:∀ H:Hp,z7d tb H->zJ K H a (ns.map V.int)->Xx P w H s₁.heap->(∀ b,H b≠none->b=a\/b=tb)->(H a≠none->K.lookup a=none)->
  codeAny (model P w) callerA (.call (.ref fa) ⟨[.ref a],[]⟩) (λr s'=>r=.ok (.ret (.bool true))/\OldK s₁.heap s'.heap/\s'.os=s₁.os/\AllBare s'.gens) s₁:=by
  intro H I hS hok R hK;have i:∀ {b:Addr}{o:Obj},s₁.heap.get? b=some o->H b=none->(Uy s₁.heap H).get? b=some o:=λe n=>z7N e n;have N:∀ {b:Addr}{o:Obj},s₁.heap.get? b=some o->(∀ its n,o.data≠.seq its n)->o.cls≠.none->H b=none:=λ{b o} e d1 d2=>by
   cases q:H b with
   | none=>rfl
   | some u =>
     rcases R b (by rw[q];simp) with j | j;subst j;rw[ha] at e;cases e;exact absurd rfl (d1 _ _);subst j;rw[B] at e;cases e;exact absurd rfl d2
  have S:∀ {b:Addr}{o:Obj}{p:Array DictEntry}{t:Nat},s₁.heap.get? b=some o->o.data=.dict p t->H b=none:=λ{b o p t} e d=>by
   cases q:H b with
   | none=>rfl
   | some u =>
     rcases R b (by rw[q];simp) with j | j;subst j;rw[ha] at e;cases e;have d':Data.seq vs.toArray _=Data.dict p t:=d;cases d';subst j;rw[B] at e;cases e;have d':Data.fields #[]=Data.dict p t:=d;cases d'
  have l:∀ {b:Addr}{m:SV},s₁.heap.Ns b m->(Uy s₁.heap H).Ns b m:=λ{b m} ⟨o,p,t,e,d,r⟩=>⟨o,p,t,i e (S e d),d,r⟩;have E:K.In (Uy s₁.heap H):=λb o e=>i (KX b o e) (by
   cases q:H b with
   | none=>rfl
   | some u =>
     rcases R b (by rw[q];simp) with j | j;subst j;rw[hK (by rw[q];simp)] at e;cases e;subst j;rw[M] at e;cases e)
  have hM:Mod K mg (Uy s₁.heap H):=⟨E,l C,⟨mb,l f,O⟩,let ⟨Z,h1,h2⟩:=y;⟨Z,l h1,h2⟩⟩;have J:Bm (Uy s₁.heap H) mg:=by
   obtain⟨bm,ob,b1,b2,b3,b4,b5,b6⟩:=Q;refine⟨bm,ob,b1,b2,λz=>?_,i b3 (N b3 (λits n z=>by rw[b6] at z;cases z) (by rw[b4];intro z;cases z)),b4,b5,b6⟩;obtain⟨o,p,t,e,d,_⟩:=C;rw[z,e] at b3;cases b3;rw[d] at b6;cases b6
  have e0:z1T P w K mg (Uy s₁.heap H) callerA [] s₁ H:=⟨rfl,hM,λb o e=>Jz e,Nat.le_of_eq (z5f _ _),trivial,λb f=>absurd (show b∈([]:List Addr) from f) 05,hok,.of_eq hg⟩;refine codeAny_mono ((F _ E (l C) J).run callerA [] s₁ H ⟨[.ref a],[]⟩ [.ref a] [.ref a] _ _ hr e0 (D s₁ 024) (.cons rfl .nil) (U H I hS)) λr s' h=>?_;cases r with
  | error e=>exact (W H e s' h).elim
  | ok fl =>
    cases fl with
    | next=>exact False.elim h
    | brk=>exact False.elim h
    | cont=>exact False.elim h
    | ret u =>
      obtain⟨v,H',os,bare,un,A,r',q⟩:=h;have q':v=.bl true:=q;subst q';obtain rfl:u=Value.bool true:=r';have kept:∀ b o,b≠tb->s₁.heap.get? b=some o->s'.heap.get? b=some o:=λb o f e=>by
       cases q:H b with
       | none=>exact un.keep b o e q (by intro z;exact absurd (show b∈([]:List Addr) from z) 05) 05
       | some u =>
         rcases I.2 b f with z |⟨ob,xs,z⟩;rw[q] at z;cases z;have z2:=un.frzs b ob _ z;obtain⟨X,_⟩:=hok b _ z;obtain⟨e2,_⟩:=A b _ z2;rw[e] at X;cases X;exact e2
      refine⟨rfl,?_,os,bare⟩;obtain⟨more,hm⟩:=un.tbls tb _ I.1;have T:s'.heap.get? tb=some (tabObj (#[] ++ more)):=A tb _ hm;have C1:CodeHd s₁.heap c tb:=codeHd_of_K KX hC;have C2:CodeHd s'.heap c tb:=(codeHd_of_K E hC).keeps λb o e=>kept b o (λz=>by rw[z] at e;have:=(Jz e).2;rw[I.1] at this;cases this) (Jz e).1;refine OldK.step_table (.refl _) (C1.tab B) (C1.tab B) (C2.tab T) kept λz=>?_;obtain⟨Z,⟨o,p,t,e,d,_⟩,_⟩:=y;rw[← z,B] at e;cases e;cases d
 cases hk:K.lookup a with
 | some o =>
   have e:=KX a o hk;rw[ha] at e;cases e;refine core (λb=>if b=tb then some (.Qd #[]) else none) ⟨if_pos rfl,λb f=>.inl (if_neg f)⟩ (.inr ⟨_,vs.toArray,_,hk,rfl,rfl,rfl,by rw[Z05,G];exact hl,by simpa using Y⟩) (λb u z=>?_) (λb z=>?_) λz=>absurd (if_neg at_) z;by_cases f:b=tb;have L:=(if_pos f).symm.trans z;cases L;subst f;exact B;have L:=(if_neg f).symm.trans z;cases L;by_cases f:b=tb;exact .inr f;exact absurd (if_neg f) z
 | none =>
   refine core (λb=>if b=tb then some (.Qd #[]) else if b=a then some (.frz { cls:=.type "list",data:=.seq vs.toArray } (.lst (ns.map V.int))) else none) ⟨if_pos rfl,λb f=>?_⟩ (.inl (.inr ⟨{ cls:=.type "list",data:=.seq vs.toArray },?_⟩)) (λb u z=>?_) (λb z=>?_) λ_=>hk;show (if b=tb then _ else _)=none\/∃ o xs,(if b=tb then _ else _)=some _;rw[if_neg f];by_cases hb2:b=a;exact .inr ⟨_,_,if_pos hb2⟩;exact .inl (if_neg hb2);show (if a=tb then _ else _)=some _;rw[if_neg at_];exact if_pos rfl;have z:(if b=tb then some (HO.Qd #[]) else if b=a then some (.frz { cls:=.type "list",data:=.seq vs.toArray } (.lst (ns.map V.int))) else none)=some u:=z;by_cases f:b=tb;rw[if_pos f] at z;cases z;subst f;exact B;rw[if_neg f] at z;by_cases hb2:b=a;rw[if_pos hb2] at z;cases z;subst hb2;exact⟨ha,by rw[Z00];exact hl,vs,_,Y,ha⟩;rw[if_neg hb2] at z;cases z;have z:(if b=tb then some (HO.Qd #[]) else if b=a then some (.frz { cls:=.type "list",data:=.seq vs.toArray } (.lst (ns.map V.int))) else none)≠none:=z;by_cases f:b=tb;exact .inr f;rw[if_neg f] at z;by_cases hb2:b=a;exact .inl hb2;exact absurd (if_neg hb2) z
def z7x{l:PySem.W.OpenLaw}{d:DefRec}{K:Params->FR}{CX:World->qq}{sp:World->Sp}{x:Str}(hn:l.most=some n)(m:n<=sizeLine)(z:d.params.defaults=[])(hr:zX k callerA)(C:∀ (w:World) (h:Heap),YP w h->(K w.params).In h)(I:∀ (w:World) (h:Heap),YP w h->h.get? tb=some (tabObj #[]))(t:∀ p:Params,(K p).lookup tb=none)(hC:∀ p:Params,codeHdIn (K p) c tb=true)(F:∀ (w:World) (mg:SV) (j:Addr) (h:Heap),(K w.params).In h->h.Ns mainGlobals mg->mg d.name=some (.ref j)->
  ∃ fd:FuncData,(∀ (s:Shared) (u:Value),BindsTo s fd ⟨[u],[]⟩ [(x,u)])/\
    ∀ base:Heap,(K w.params).In base->base.Ns mainGlobals mg->Bm base mg->Zo l.prog w (K w.params) mg base (CX w) k j fd [x] (sp w))(y:∀ (w:World) (H:Hp) (a:Addr) (ns:List Int),ns.length<=n->z7d tb H->zJ (K w.params) H a (ns.map V.int)->sp w [.ref a] H (λv _=>v=.bl true) λ_ _ _=>False)(A:∀ (w:World) (H:Hp) (s:Shared) (e:Value) (s':Shared),CX w [] H s (λ_ _ _=>False) e s'->False) :
 PySem.W.WalkO q loose XP YP l.row.toRowW d [] (λf vs=>PySem.call f vs):=by
 refine Att.z0d hn z λw s₀ s₁ mg mb j o pm cd doc a vs ns G Y N hd E r i hints hlen M=>?_;have KX:=C w _ Y;obtain⟨fd,J,B⟩:=F w mg j _ KX G.T.g r;exact z4P KX G.T.g G.T.b G.T.builtins G.T.nolimit M G.T.bmain (I w _ Y) (t w.params) (hC w.params) i hints (Z0X hlen m) hr B J (λH L D=>y w H a ns hlen L D) λH e s'=>A w H s₁ e s'
def QX.okC{mg:SV}{x:Str}{st:Stmt}{sp:Sp}(F:QX K x qual st f fd)(S:zB N ps (zh st))(len:∀ vs H Q E,sp vs H Q E->vs.length=ps.length)(a:∀ (cdv:Value) (A:Around) (outer:List Env) (s:Shared) (H:Hp) (vs:List V) (Q:VK) (E:XK),fd.code=cdv->zX k (A.deeper (envOfC qual (zh st) s.heap.objs.size f cdv))->sp vs H Q E->
  ∃ t,Xq (Zy yV P w K mg base N qual (zh st) f cdv A outer s H E).nox (Zs st) t/\t { nx:=λ_ H'=>Q .Zc H',rt:=Q } (start N vs) H):Zo P w K mg base yV (k+1) f fd ps sp:=by
 obtain⟨oc,od,kV,doc,pm,an,cdv,ct,osl,rfl,lk,b⟩:=F.ex;refine z7p lk b S len λA outer s H vs Q E hr c=>?_;obtain⟨t,h,q⟩:=a cdv A outer s H vs Q E rfl hr c;exact⟨t,h.nox,q⟩
end L2
namespace Pw
noncomputable def RkR(Ss:LI)(i j:Nat):Prop:=val (Ss.getD j (0,1))<val (Ss.getD i (0,1))\/(val (Ss.getD i (0,1))=val (Ss.getD j (0,1))/\i<j)
def RkR.trans(i j k:Nat)(h:RkR Ss i j)(h':RkR Ss j k):RkR Ss i k:=by
 unfold RkR at *;rcases h with h |⟨h,l⟩ <;> rcases h' with h' |⟨h',a⟩;exact .inl (Std.lt_trans h' h);exact .inl (by rw[← h'];exact h);exact .inl (by rw[h];exact h');exact .inr ⟨h.trans h',00⟩
structure Rkd(Ss:LI)(n:Nat)(p:List Nat):Prop where
 pm:p.Perm (List.range n)
 up:p.Pairwise (RkR Ss)
def Z4M(hl:Ss.length=n)(pos:∀ S∈Ss,0<S.2)(m:0<L)(u:∀ S∈Ss,S.2∣L)(pm:p.Perm (List.range n))(st:L2.Stb (λi=>-((YL Ss L).getD i 0)) p):Rkd Ss n p:=by
 refine⟨pm,L2.yu RkR.trans p λk a b ha f=>?_⟩;have t:k+1<p.length:=(Z15.mp f).1;have s:=st (k+1) 00 t;have ga:p.getD (k+1 - 1) 0=a:=by rw[Nat.add_sub_cancel,Z06,ha];rfl
 have o:p.getD (k+1) 0=b:=by rw[Z06,f];rfl
 rw[ga,o] at s;have nd:p.Nodup:=pm.nodup_iff.mpr List.nodup_range;have ne:a≠b:=λe=>by
  subst e;have:=(List.getElem?_inj (show k<p.length by lia) nd).mp (ha.trans f.symm);lia
 have lt:∀ x,x∈p->x<n:=λx j=>Z3I.mp (pm.mem_iff.mp j);have key:∀ x,x<n->(((YL Ss L).getD x 0:Int):Rat)=val (Ss.getD x (0,1)) * (L:Rat):=λx j=>by
  have c:x<Ss.length:=00
  have q:(YL Ss L).getD x 0=Ss[x].1 * (L.fdiv Ss[x].2):=by unfold YL;simp[c]
  have r:Ss.getD x (0,1)=Ss[x]:=by simp[c]
  rw[q,r];exact z3O (pos _ (Z29 _)) m (u _ (Z29 _))
 have d:=key a (lt a (Z2u ha));have h:=key b (lt b (Z2u f));have L0:(0:Rat)<(L:Rat):=by exact_mod_cast m
 dsimp only at s;rcases s with s |⟨s,l⟩;refine .inl ?_;have:(YL Ss L).getD b 0<(YL Ss L).getD a 0:=00
 have:(((YL Ss L).getD b 0:Int):Rat)<(((YL Ss L).getD a 0:Int):Rat):=by exact_mod_cast this
 rw[d,h] at this;exact (Rat.mul_lt_mul_right L0).mp this;refine .inr ⟨?_,00⟩;have:(YL Ss L).getD a 0=(YL Ss L).getD b 0:=00
 rw[this,h] at d;refine Rat.le_antisymm (Rat.not_lt.mp λz=>?_) (Rat.not_lt.mp λz=>?_);have:=(Rat.mul_lt_mul_right L0).mpr z;rw[d] at this;exact absurd this Rat.lt_irrefl;have:=(Rat.mul_lt_mul_right L0).mpr z;rw[d] at this;exact absurd this Rat.lt_irrefl
end Pw
namespace L2
noncomputable def xr:Str:=("ranked":Str) ++ ".<locals>." ++ "<lambda>"
noncomputable def z1o(K:FR)(tb:Addr)(pos:Pos):Sp:=λvs H Q _=>∃ (w lp ls:Addr) (pages:Int) (ps:LI) (A:Int×Int) (Bs:LI) (us:List V) (S:Int) (z:Nat),vs=[.ref w,.ref lp,.ref ls]/\Gv K H w lp ls pages ps A Bs us/\Pr A Bs S/\pages<=12/\z<=140/\VF z A/\Sz z S/\Tab tb pos xr H/\
 ∀ (D:Addr) (H':Hp) (Ss:LI) (p:List Nat),Pw.yk ps A Bs pages.toNat Ss->Pw.Rkd Ss pages.toNat p->Kp tb H H'->H D=none->H' D=some (.lst (z8S p))->Tab tb pos xr H'->Q 025 H'
noncomputable def xQ(K:FR)(nm:Str)(c:Addr):Prop:=∃ f oc od fd sl,PySem.W.nsIn K mainGlobals nm=some (some (.ref f))/\K.lookup f=some ⟨oc,od,.func fd,sl⟩/\fd.code=.ref c
def xQ.at{mg:SV}{st:Stmt}(x:xQ K nm c)(XK:K.In h)(G:h.Ns mainGlobals mg)(F:QX K nm nm st f fd)(m:mg nm=some (.ref f)):fd.code=.ref c:=by
 obtain⟨k,oc,od,i,sl,a,l,e⟩:=x;have:=(Z3Q XK G a).symm.trans m;cases this;obtain⟨b,d,kV,doc,pm,an,cdv,ct,osl,j,lk,_⟩:=F.ex;rw[l] at lk;injection lk with lk;injection lk with _ _ h3 _;injection h3 with h3;rw[← h3];exact e
def ZE.Z5N{mg:SV}{st:Stmt}{sp:Sp}(S:ZE K mg nm st ps)(C:xQ K nm c)(XK:K.In h)(G:h.Ns mainGlobals mg)(a:∀ f fd,QX K nm nm st f fd->fd.code=.ref c->Zo P w K mg base yV k f fd ps sp):Def P w K mg base k nm ps sp:=by
 obtain⟨f,fd,F,m,b⟩:=S;exact⟨f,fd,F.kp,m,b,a f fd F (C.at XK G F m)⟩
structure KU(H H':Hp):Prop where
 tup:∀ b xs,H b=some (.tup xs)->H' b=some (.tup xs)
 frz:∀ b o u,H b=some (.frz o u)->H' b=some (.frz o u)
def zu.ku(s:zu H H'):KU H H':=⟨λb _ h=>s b _ h,λb _ _ h=>s b _ h⟩
def KU.z2T(e:KU H H')(h:zO K H a xs):zO K H' a xs:=by
 rcases h with (h |⟨o,h⟩) | h;exact .inl (.inl (e.tup _ _ h));exact .inl (.inr ⟨o,e.frz _ _ _ h⟩);exact .inr h
def ZJ.ku(k:KU H H'):∀ {ps:LI}{vs:List V},ZJ K H ps vs->ZJ K H' ps vs
 | [],vs,h=>by
   simp only[ZJ,Z3R,Zb] at h;subst h;exact Y4
 | p :: ps,vs,h=>by
   obtain⟨a,r,rfl,b,hr⟩:=Z1 h;exact YG (k.z2T b) (ZJ.ku k hr)
noncomputable def Kx(S:List Addr)(H H':Hp):Prop:=∀ b o,H b=some o->b∉S->H' b=some o
def Kx.trans(a:Kx S H H1)(b:Kx S H1 H2):Kx S H H2:=λc o h n=>b c o (a c o h n) n
def zu.kx(s:zu H H'):Kx S H H':=λb o h _=>s b o h
def Kp.kx(k:Kp p H H')(h:p∈S):Kx S H H':=λb o e n=>k b o e λz=>n (z ▸ h)
def Tab.same{pos:Pos}(t:Tab tb pos q H)(s:zu H H'):Tab tb pos q H':=by
 rcases t with t |⟨c,b,a⟩;exact .inl (s _ _ t);exact .inr ⟨c,s _ _ b,s _ _ a⟩
def Tab.Qd{pos:Pos}(t:Tab tb pos q H):∃ ps,H tb=some (.Qd ps):=by
 rcases t with t |⟨c,a,_⟩;exact⟨_,t⟩;exact⟨_,a⟩
def Tab.ne{pos:Pos}(t:Tab tb pos q H)(h:H b=some o)(n:∀ ps,o≠.Qd ps):b≠tb:=λz=>by
 obtain⟨ps,e⟩:=t.Qd;rw[z,e] at h;cases h;exact n _ rfl
def zJ.kx(h:zJ K H a xs)(k:Kx S H H')(n:∀ o,H a=some o->(∀ ps,o≠.Qd ps)->a∉S):zJ K H' a xs:=by
 rcases h with (h |⟨o,h⟩) | h;exact .inl (.inl (k _ _ h (n _ h λ_ z=>by cases z)))
 exact .inl (.inr ⟨o,k _ _ h (n _ h λ_ z=>by cases z)⟩);exact .inr h
def xQ.of(a:PySem.W.nsIn K mainGlobals nm=some (some (.ref f)))(l:K.lookup f=some ⟨oc,od,.func fd,sl⟩)(e:fd.code=.ref c):xQ K nm c:=⟨f,oc,od,fd,sl,a,l,e⟩
noncomputable def jy(K:FR)(C:Addr)(m q:Str)(st:Stmt):Prop:=∃ f fd,Meth K C m f/\QX K m q st f fd
def jy.of{st:Stmt}{kV ct:Value}(a:PySem.W.findIn K 035 m=some (some (.ref f)))(i:PySem.W.isFn K (.ref f)=true)(l:K.lookup f=some ⟨oc,od,.func (PySem.W.fnOf m q (ZK st) (Zs st) (zh st) .none kV doc pm an cdv ct),osl⟩)(c:PySem.W.codeIn K cdv q=true)(k:PySem.W.keepIn K (.ref f)=true):jy K C m q st:=⟨_,_,⟨a,i,k⟩,z2h l c k⟩
noncomputable def qI(K:FR)(C:Addr)(m q:Str)(st:Stmt)(ps:List Str):Prop:=∃ (f:Addr) (fd:FuncData),QX K m q st f fd/\Meth K C m f/\Binds K fd ps []
def jy.fnd{st:Stmt}(ps:List Str)(x:jy K C m q st)(b:∀ (kV doc pm:Value) (an:Option Addr) (cdv ct:Value) (us:List Value),us.length=ps.length->bindArgs (PySem.W.fnOf m q (ZK st) (Zs st) (zh st) .none kV doc pm an cdv ct) ⟨us,[]⟩=pure (ps.zip us)):qI K C m q st ps:=by
 obtain⟨f,fd,a,F⟩:=x;exact⟨f,fd,F,a,F.binds b⟩
noncomputable def ZC(P:Program)(w:World)(K:FR)(mg:SV)(base:Heap)(CX:qq)(k:Nat)(C:Addr)(m:Str)(ps:List Str)(sp:Sp):Prop :=
 ∃ (f:Addr) (fd:FuncData),Meth K C m f/\Binds K fd ps []/\Zo P w K mg base CX k f fd ps sp
def qI.def{mg:SV}{st:Stmt}{sp:Sp}(S:qI K C m q st ps)(h:∀ f fd,QX K m q st f fd->Zo P w K mg base CX k f fd ps sp):ZC P w K mg base CX k C m ps sp:=by
 obtain⟨f,fd,F,a,b⟩:=S;exact⟨f,fd,a,b,h f fd F⟩
def Zt{sp:Sp}{e:Expr}{pos:Pos}(d:starEach (e :: es) X.env=016 :: starEach es X.env)(h:(backTo pos (starEach es X.env)).any (·.1)=false)(i:eval (.Call (.Attribute o m apos) (e :: es) [] pos) X.env=(do
  let ov ←eval o X.env
  standAt apos.atName
  let (f,first) ←holding [ov] (getMethod ov m pl)
  callWith pos f first (backTo pos (starEach (e :: es) X.env)) (backToKw pos (keywordEach [] X.env))))(he:PE X o ta)(c:JY X.K C)(D:ZC X.prog X.w X.K X.mg X.base CX k C m ps sp)(hr:zX k X.A)(j:Passes CX X E)(ha:PA X (e :: es) t) :
 PE X (.Call (.Attribute o m apos) (e :: es) [] pos) (jv C m sp [] E ta t):=by
 obtain⟨f,fd,a,b,F⟩:=D;exact z9g he c a F hr b .nil j ha d h i
def u4{sp:Sp}{pos:Pos}(d:eval (.Call (.Attribute o m apos) [] [] pos) X.env=(do
 let ov ←eval o X.env
 standAt apos.atName
 let (f,first) ←holding [ov] (getMethod ov m pl)
 callWith pos f first (backTo pos (starEach [] X.env)) (backToKw pos (keywordEach [] X.env))))(he:PE X o ta)(c:JY X.K C)(D:ZC X.prog X.w X.K X.mg X.base CX k C m ps sp)(hr:zX k X.A)(h:Passes CX X E) :
 PE X (.Call (.Attribute o m apos) [] [] pos) (jv C m sp [] E ta Qg):=by
 obtain⟨f,fd,a,b,F⟩:=D;exact z8t he c a F hr b .nil h d
noncomputable def MkD(P:Program)(w:World)(K:FR)(mg:SV)(base:Heap)(CX:qq)(k:Nat)(C:Addr)(x:Str)(ps:List Str)(sp:Sp):Prop :=
 ∃ (f:Addr) (fd:FuncData),Mk K C f/\mg x=some 035/\Binds K fd ps []/\Zo P w K mg base CX k f fd ps sp
def Uk{sp:Sp}{e:Expr}{pos:Pos}{x:Str}(i:Gl X x)(he:starEach (e :: es) X.env=016 :: starEach es X.env)(h:(backTo pos (starEach es X.env)).any (·.1)=false)(d:(x == ("__debug__":Str))=false)(D:MkD X.prog X.w X.K X.mg X.base CX k C x ps sp)(hr:zX (k+1) X.A)(j:Passes CX X E)(ha:PA X (e :: es) t) :
 PE X (.Call (.Name x p) (e :: es) [] pos) (z3t C sp [] E t):=by
 obtain⟨f,fd,a,b,c,F⟩:=D;exact z9N a F hr i b c .nil j ha d he h
def Def.Z3u{mg:SV}{sp:Sp}(D:Def P w K mg base k nm ps sp)(h:mg nm'=mg nm):Def P w K mg base k nm' ps sp:=by
 obtain⟨f,fd,a,b,c,F⟩:=D;exact⟨f,fd,a,h.trans b,c,F⟩
noncomputable abbrev Wb:=Int×LI
def kNL:¬ (("now":Str)="leap"):=03
def kNP:¬ (("now":Str)="past"):=03
def kLP:¬ (("leap":Str)="past"):=03
noncomputable def lvF(now lp pd:Addr):List (Str×V):=Z0 "past" (.ref pd) (Z0 "leap" (.ref lp) (Z0 "now" (.ref now) []))
def JU(now lp pd:Addr):lvF now lp pd=([("now",V.ref now),("leap",V.ref lp),("past",V.ref pd)]:List (Str×V)):=by
 have a:Z0 "leap" (V.ref lp) (Z0 "now" (V.ref now) [])=([("now",V.ref now),("leap",V.ref lp)]:List (Str×V)):=by
  show (if ("now":Str)="leap" then [(("now":Str),V.ref lp)] else (("now":Str),V.ref now) :: Z0 "leap" (V.ref lp) [])=_;rw[if_neg kNL];rfl
 unfold lvF;rw[a];show (if ("now":Str)="past" then _ else (("now":Str),V.ref now) :: (if ("leap":Str)="past" then _ else (("leap":Str),V.ref lp) :: Z0 "past" (V.ref pd) []))=_;rw[if_neg kNP,if_neg kLP];rfl
def ZY(now lp pd:Addr):(lvF now lp pd).lookup ("now":Str)=some (.ref now):=by
 unfold lvF;rw[zT,if_neg kNP,zT,if_neg kNL,zT,if_pos rfl]
def qC(now lp pd:Addr):(lvF now lp pd).lookup ("leap":Str)=some (.ref lp):=by
 unfold lvF;rw[zT,if_neg kLP,zT,if_pos rfl]
def uB(now lp pd:Addr):(lvF now lp pd).lookup ("past":Str)=some (.ref pd):=by
 unfold lvF;rw[zT,if_pos rfl]
def Z4(now lp pd:Addr){m:Str}(c:¬ m="past")(b:¬ m="leap")(a:¬ m="now"):(lvF now lp pd).lookup m=none:=by
 unfold lvF;rw[zT,if_neg c,zT,if_neg b,zT,if_neg a]
 all_goals rfl
def z3z(now lp pd b:Addr):Z0 "now" (.ref b) (lvF now lp pd)=lvF b lp pd:=by
 rw[JU,JU];show (if ("now":Str)="now" then [(("now":Str),V.ref b),("leap",V.ref lp),("past",V.ref pd)] else _)=_;rw[if_pos rfl]
def z3I(now lp pd:Addr):(lvF now lp pd).length<1000:=by rw[JU];show 3<1000;decide
structure UO(K:FR)(C:Addr):Prop where
 cl:JY K C
 nN:Yn K C "now"
 nL:Yn K C "leap"
 nP:Yn K C "past"
structure Lv(C:Addr)(H:Hp)(p now lp pd:Addr)(us:List V):Prop where
 ob:∃ dx,H p=some (.ins C dx (lvF now lp pd))
 pl:H pd=some (.lst us)
def Lv.same(l:Lv C H p now lp pd us)(s:zu H H'):Lv C H' p now lp pd us:=⟨let ⟨dx,h⟩:=l.ob;⟨dx,s _ _ h⟩,s _ _ l.pl⟩
def Lv.kx(l:Lv C H p now lp pd us)(k:Kx S H H')(a:p∉S)(b:pd∉S):Lv C H' p now lp pd us:=⟨let ⟨dx,h⟩:=l.ob;⟨dx,k _ _ h a⟩,k _ _ l.pl b⟩
def Lv.ku(l:Lv C H p now lp pd us)(k:Kx [p,pd] H H'):KU H H':=by
 obtain⟨⟨dx,h⟩,a⟩:=l;refine⟨λb xs e=>k b _ e ?_,λb o u e=>k b _ e ?_⟩ <;>
 · intro z
   rcases Z08.mp z with rfl | z;rw[h] at e;cases e;obtain rfl:=Z04.mp z;rw[a] at e;cases e
noncomputable def Wbs(K:FR)(H:Hp)(Ws:List Wb)(us:List V):Prop:=Paired (λ(W:Wb) (u:V)=>∃ a,u=.ref a/\ZP K H a W.1 W.2) Ws us
def ZP.ku{n:Int}(h:ZP K H a n ps)(k:KU H H'):ZP K H' a n ps:=by
 obtain⟨t,us,c,b,p⟩:=h;exact⟨t,us,k.tup _ _ c,k.tup _ _ b,ZJ.ku k p⟩
def Wbs.ku(h:Wbs K H Ws us)(k:KU H H'):Wbs K H' Ws us:=Paired.Z1Z h λW u ⟨a,e,x⟩=>⟨a,e,x.ku k⟩
def Wbs.nil:Wbs K H [] []:=Paired.nil
def Wbs.len(h:Wbs K H Ws us):us.length=Ws.length:=(Paired.length h).symm
def Wbs.snoc(ha:ZP K H a W.1 W.2):∀ {Ws:List Wb}{us:List V},Wbs K H Ws us->Wbs K H (Ws ++ [W]) (us ++ [.ref a])
 | _,_,Paired.nil=>Paired.cons ⟨a,rfl,ha⟩ Paired.nil
 | _,_,Paired.cons x r=>Paired.cons x (Wbs.snoc ha r)
def Wbs.z6c:∀ {Ws:List Wb}{us:List V},Wbs K H (Ws ++ [W]) us->∃ vs a,us=vs ++ [.ref a]/\Wbs K H Ws vs/\ZP K H a W.1 W.2
 | [],_,Paired.cons ⟨a,e,x⟩ Paired.nil=>⟨[],a,by rw[e];rfl,Paired.nil,x⟩
 | _ :: Ws,_,Paired.cons y r=>by
   obtain⟨vs,a,rfl,c,b⟩:=Wbs.z6c r;exact⟨_ :: vs,a,rfl,Paired.cons y c,b⟩
noncomputable def Zv(K:FR)(C:Addr)(H:Hp)(p pd lp:Addr)(W:Wb)(Ws:List Wb):Prop:=∃ now us,Lv C H p now lp pd us/\ZP K H now W.1 W.2/\Wbs K H Ws us
def Zv.same(l:Zv K C H p pd lp W Ws)(s:zu H H'):Zv K C H' p pd lp W Ws:=by
 obtain⟨now,us,a,b,c⟩:=l;exact⟨now,us,a.same s,b.same s,c.ku s.ku⟩
def Zv.kx(l:Zv K C H p pd lp W Ws)(k:Kx S H H')(u:KU H H')(f:p∉S)(d:pd∉S):Zv K C H' p pd lp W Ws:=by
 obtain⟨now,us,a,b,c⟩:=l;exact⟨now,us,a.kx k f d,b.ku u,c.ku u⟩
noncomputable def Yc(C:Addr):Sp:=λvs H Q _=>∃ (p dx a lp:Addr),vs=[.ref p,.ref a,.ref lp]/\H p=some (.ins C dx [])/\∀ (pd:Addr) (H':Hp),H pd=none->Lv C H' p a lp pd []->Kp p H H'->Q .Zc H'
noncomputable def QJ(C:Addr):Sp:=λvs H Q _=>∃ (p b now lp pd:Addr) (us:List V),vs=[.ref p,.ref b]/\Lv C H p now lp pd us/\us.length<=5000/\∀ H',Lv C H' p b lp pd (us ++ [.ref now])->Kx [p,pd] H H'->Q .Zc H'
noncomputable def z1i(K:FR):Sp:=λvs H Q _=>∃ (n x y:Int) (q:Addr),vs=[.int n,.ref q]/\H q=some (.tup [.int x,.int y])/\Q (.bl (decide (0<=x/\x<n/\0<=y/\y<n))) H
noncomputable def Jj(K:FR)(C:Addr):Sp:=λvs H Q _=>∃ (p pd lp:Addr) (W:Wb) (Ws:List Wb),vs=[.ref p]/\Zv K C H p pd lp W Ws/\(Ws=[]->∀ H',zu H H'->Q (.bl false) H')/\
 (∀ W0 Ws0,Ws=Ws0 ++ [W0]->∀ H',Zv K C H' p pd lp W0 Ws0->Kx [p,pd] H H'->Q (.bl true) H')
noncomputable def Q4(K:FR)(C:Addr):Sp:=λvs H Q _=>∃ (p pd lp:Addr) (W:Wb) (Ws:List Wb),vs=[.ref p]/\Zv K C H p pd lp W Ws/\∀ a,ZP K H a W.1 W.2->Q 024 H
noncomputable abbrev evL(n:Nat):LI:=List.replicate n (1,(n:Int))
noncomputable def jq(K:FR)(C:Addr):Sp:=λvs H Q _=>∃ (p pd lp:Addr) (n:Nat) (ps:LI) (Ws:List Wb) (A:Int×Int),vs=[.ref p]/\Zv K C H p pd lp ((n:Int),ps) Ws/\1<=n/\n<=12/\ps.length<=62/\(∀ q∈ps,0<=q.1/\q.1<(n:Int)/\0<=q.2/\q.2<(n:Int))/\Vj K H lp A/\Pw.Canon A/\0<A.1/\A.1<=A.2/\VF 41 A/\
 ∀ (t:Addr) (H':Hp) (Ss:LI) (ys:List V),Pw.yk ps A (evL n) n Ss->(∀ S∈Ss,VF 1983 S)->zu H H'->H' t=some (.tup ys)->X8 K H' Ss ys->Q (.ref t) H'
noncomputable def MkF(K:FR)(mg:SV)(C:Addr)(x q:Str)(st:Stmt)(ps:List Str):Prop:=∃ (f:Addr) (fd:FuncData),QX K "__init__" q st f fd/\Mk K C f/\mg x=some 035/\Binds K fd ps []
def MkF.def{mg:SV}{x:Str}{st:Stmt}{sp:Sp}(S:MkF K mg C x q st ps)(h:∀ f fd,QX K "__init__" q st f fd->Zo P w K mg base CX k f fd ps sp):MkD P w K mg base CX k C x ps sp:=by
 obtain⟨f,fd,F,a,m,b⟩:=S;exact⟨f,fd,a,m,b,h f fd F⟩
noncomputable def QB:Sp:=λvs H Q _=>∃ i:Int,vs=[.int i]/\Q (.bl true) H
structure OkL(W:Wb):Prop where
 n1:1<=W.1
 n12:W.1<=12
 few:W.2.length<=60
 up:W.2.Pairwise yf
 rng:∀ p∈W.2,0<=p.1/\p.1<W.1/\0<=p.2/\p.2<W.1
structure z0Y(K:FR)(x:Str)(C:Addr):Prop where
 ns:PySem.W.nsIn K mainGlobals x=some (some 035)
 cl:JY K C
 makes:PySem.W.makesIn K C=true
 kp:PySem.W.keepIn K 035=true
def z0Y.of{x:Str}(a:PySem.W.nsIn K mainGlobals x=some (some 035))(pg:PySem.W.plainGet K C Str.empty=true)(hd:PySem.W.hasDictIn K C=true)(po:PySem.W.plainOver K C=true)(sa:PySem.W.findIn K 035 "__setattr__"=some (some (.builtin "object.__setattr__")))(mk:PySem.W.makesIn K C=true)(kc:PySem.W.keepIn K 035=true):z0Y K x C:=⟨a,⟨pg,hd,po,sa⟩,mk,kc⟩
def z0Y.mkf{mg:SV}{x:Str}{st:Stmt}(ps:List Str)(c:z0Y K x C)(m:jy K C "__init__" q st)(XK:K.In h)(G:h.Ns mainGlobals mg)(b:∀ (kV doc pm:Value) (an:Option Addr) (cdv ct:Value) (us:List Value),us.length=ps.length->bindArgs (PySem.W.fnOf "__init__" q (ZK st) (Zs st) (zh st) .none kV doc pm an cdv ct) ⟨us,[]⟩=pure (ps.zip us)):MkF K mg C x q st ps:=by
 obtain⟨f,fd,a,F⟩:=m;exact⟨f,fd,F,⟨c.makes,a.at_,a.fn,c.kp⟩,Z3Q XK G c.ns,F.binds b⟩
noncomputable def z0U(K:FR)(x y:Str):Prop:=∃ f,PySem.W.nsIn K mainGlobals x=some (some f)/\PySem.W.nsIn K mainGlobals y=some (some f)
def z0U.of{x:Str}(a:PySem.W.nsIn K mainGlobals x=some (some f))(b:PySem.W.nsIn K mainGlobals y=some (some f)):z0U K x y:=⟨f,a,b⟩
def z0U.mg{mg:SV}{x:Str}(a:z0U K x y)(XK:K.In h)(G:h.Ns mainGlobals mg):mg y=mg x:=by
 obtain⟨f,a,b⟩:=a;rw[Z3Q XK G a,Z3Q XK G b]
noncomputable def Ve(K:FR)(x:Str)(i:Int):Prop:=∃ t,PySem.W.nsIn K mainGlobals x=some (some (.int i t))
def Ve.of{x:Str}(a:PySem.W.nsIn K mainGlobals x=some (some (.int i t))):Ve K x i:=⟨t,a⟩
def Ve.mg{mg:SV}{x:Str}(a:Ve K x i)(XK:K.In h)(G:h.Ns mainGlobals mg):∃ t,mg x=some (.int i t):=by
 obtain⟨t,a⟩:=a;exact⟨t,Z3Q XK G a⟩
def Tab.kx{pos:Pos}(t:Tab tb pos q H)(k:Kx S H H')(h:∀ b∈S,(∃ xs,H b=some (.lst xs))\/∃ C dx fs,H b=some (.ins C dx fs)):Tab tb pos q H':=by
 have ne:∀ {b:Addr}{o:HO},H b=some o->(∀ xs,o≠.lst xs)->(∀ C dx fs,o≠.ins C dx fs)->b∉S:=λ{b o} e n1 n2 z=>by
  rcases h b z with⟨xs,e'⟩|⟨C,dx,fs,e'⟩;rw[e] at e';cases e';exact n1 _ rfl;rw[e] at e';cases e';exact n2 _ _ _ rfl
 rcases t with t |⟨c,d,a⟩;exact .inl (k _ _ t (ne t 022 λ_ _ _ z=>by cases z))
 exact .inr ⟨c,k _ _ d (ne d 022 λ_ _ _ z=>by cases z),k _ _ a (ne a (λ_ z=>by unfold Ul at z;cases z) λ_ _ _ z=>by unfold Ul at z;cases z)⟩
noncomputable def U3(K:FR)(C tb:Addr)(pos:Pos):Sp:=λvs H Q _=>∃ (p pd lp:Addr) (n:Nat) (ps:LI) (Ws:List Wb) (A:Int×Int),vs=[.ref p]/\Zv K C H p pd lp ((n:Int),ps) Ws/\1<=n/\n<=12/\ps.length<=62/\(∀ q∈ps,0<=q.1/\q.1<(n:Int)/\0<=q.2/\q.2<(n:Int))/\Vj K H lp A/\Pw.Canon A/\0<A.1/\A.1<=A.2/\VF 41 A/\Tab tb pos xr H/\
 ∀ (D:Addr) (H':Hp) (Ss:LI) (r:List Nat),Pw.yk ps A (evL n) n Ss->Pw.Rkd Ss n r->Kp tb H H'->H D=none->H' D=some (.lst (z8S r))->Tab tb pos xr H'->Q 025 H'
structure UnB(fs:List Addr)(H H':Hp)(h B h':Heap):Prop where
 keep:∀ b o,h.get? b=some o->H b=none->b∉fs->B.get? b=some o
 slot:∀ b o,h.get? b=some o->H b=none->b∈fs->∃ sl,h'.get? b=some { o with slots:=sl }
 free:∀ b o,h.get? b=some o->H b=none->H' b=none
 there:∀ b o,h.get? b=some o->b∉fs->∃ o',B.get? b=some o'
 tups:∀ b xs,H b=some (.tup xs)->H' b=some (.tup xs)
 frzs:∀ b o u,H b=some (.frz o u)->H' b=some (.frz o u)
 tbls:∀ b ps,H b=some (.Qd ps)->∃ more,H' b=some (.Qd (ps ++ more))
def UnB.un{fs:List Addr}(u:UnB fs H H' h B h')(st:B.StaysIn h')(c:∀ b∈fs,H b=none):Un fs [] H H' h h' where
 keep:=λb o q n a _=>st _ _ (u.keep b o q n a)
 slot:=λb o q n a _=>u.slot b o q n a
 free:=λb o q n _=>u.free b o q n
 there:=λb o q _=>by
  by_cases a:b∈fs;obtain⟨sl,e⟩:=u.slot b o q (c b a) a;exact⟨_,e⟩;obtain⟨o',e⟩:=u.there b o q a;exact⟨o',st _ _ e⟩
 tups:=u.tups
 frzs:=u.frzs
 tbls:=u.tbls
noncomputable def ye(P:Program)(w:World)(C:Addr):qq:=λouter H s E e s'=>∃ (a t:Addr) (B:Heap) (H':Hp),e=.ref a/\s'.os=s.os/\AllBare s'.gens/\Heap.FlyingW B outer a 035 (.ref t) s'.heap/\Xx P w H' B/\UnB (frs outer) H H' s.heap B s'.heap/\E 035 none H'
def z3A(x:Xx P w H h)(n:∀ b∈as,H b=none):Xx P w H (hideAll h as):=λa o e =>
 (x a o e).stay (λb u c q=>hideAll_get _ q λz=>by
  have:=n b z;rcases c with rfl | c;rw[this] at e;cases e;rw[this] at c;cases c) (λ_ q=>q) λ_ _ q=>q
def z3F(hf:env.frame=some L)(h:b∈frs (env :: outer)):b=L\/b∈frs outer:=by
 unfold frs at h ⊢;rw[Z3P,hf] at h;exact Z08.mp h
def Y6{X:Cx}{σ:St}{s1:Shared}(I:Inv X pins σ H1 s1)(c:b∈frs X.stack):∃ o,s1.heap.get? b=some o/\∀ vs,o.data≠.fields vs:=by
 obtain⟨_,o,a,hd⟩:=I.stack.mem c;exact⟨o,a,hd⟩
def UX{mg:SV}{σ:St}{s1:Shared}{e:Addr}(I:Inv 027 pins σ H1 s1)(l:Heap.MadeExcOf s1.heap h2 e 035 vs)(m:E 035 none H1) :
 (Zy (ye P w C) P w K mg base N qual scope f cd A outer s H E).xe (.ref e) { s1 with heap:=h2 }:=by
 have j:frs (Zy (ye P w C) P w K mg base N qual scope f cd A outer s H E).stack=frs (envOfC qual scope s.heap.objs.size f cd :: outer):=rfl;have c:∀ b o,s.heap.get? b=some o->b∉frs outer->b∉frs (envOfC qual scope s.heap.objs.size f cd :: outer):=λb o q n z=>by
  rcases z3F rfl z with z | z;have:=Z0w q;rw[z] at this;exact absurd this (Z2I _);exact n z
 show wpAny (model P w) (A.deeper 04) (leaving 04 (.ref e)) _ _ _;refine wpAny_leaves_madeW (base:=hideAll s1.heap (frs (envOfC qual scope s.heap.objs.size f cd :: outer))) (h:=s1.heap) (outer:=outer) (L:=s.heap.objs.size) I.ok.frames rfl (λb o q=>of_hideAll _ q) (funFrames_hide I.stack λenv he b a=>Z43.mpr ⟨env,he,a⟩) l λh' t x1 x2 x3 p=>?_;refine⟨e,t,_,H1,rfl,I.os,I.bare,x1,z3A I.hok λb a=>I.YR b a,⟨λb o q n a=>hideAll_get _ (I.base.keep b o q n a (by simp[Zy])) (c b o q a),λb o q n a=>?_,λb o q n=>I.base.free b o q n (by simp[Zy]),λb o q a=>?_,I.base.tups,I.base.frzs,I.base.tbls⟩,m⟩;obtain⟨sl,d⟩:=I.base.slot b o q n a (by simp[Zy]);obtain⟨o',k,hd⟩:=Y6 I (b:=b) (by rw[j];unfold frs;rw[Z3P];exact Z03 _ a);rw[d] at k;cases k;obtain⟨i,r⟩:=p b _ (l.keeps _ _ d) hd;exact⟨i,r⟩;obtain⟨o',d⟩:=I.base.there b o q (by simp[Zy]);exact⟨o',hideAll_get _ d (c b o q a)⟩
def Yx{mg:SV}:Passes (ye P w C) 027 E:=by
 intro pins σ H1 s1 e s2 I h;obtain⟨a,t,B,H2,rfl,os,bare,fl,hok,u,p⟩:=h;have k:∀ b o,s.heap.get? b=some o->b∉frs outer->b∉frs (envOfC qual scope s.heap.objs.size f cd :: outer):=λb o q n z=>by
  rcases z3F rfl z with z | z;have:=Z0w q;rw[z] at this;exact absurd this (Z2I _);exact n z
 show wpAny (model P w) (A.deeper 04) (leaving 04 024) _ _ _;refine wpAny_leaves_onW (outer:=outer) (L:=s.heap.objs.size) I.ok.frames rfl fl λh' x1 x2=>?_;refine⟨a,t,B,H2,rfl,os.trans I.os,bare,x1,hok,⟨λb o q n d=>u.keep b o (I.base.keep b o q n d (by simp[Zy])) (I.base.free b o q n (by simp[Zy])) (k b o q d),λb o q n d=>?_,λb o q n=>?_,λb o q d=>?_,λb xs q=>u.tups b xs (I.base.tups b xs q),λb o m q=>u.frzs b o m (I.base.frzs b o m q),λb ps q=>?_⟩,p⟩;have j:b∈frs (envOfC qual scope s.heap.objs.size f cd :: outer):=by unfold frs;rw[Z3P];exact Z03 _ d
 obtain⟨sl,c⟩:=I.base.slot b o q n d (by simp[Zy]);obtain⟨o',l,hd⟩:=Y6 I (b:=b) j;rw[c] at l;cases l;obtain⟨r,v⟩:=u.slot b _ c (I.base.free b o q n (by simp[Zy])) j;obtain⟨i,y⟩:=x2 b _ v hd;exact⟨i,y⟩;obtain⟨o',c⟩:=I.base.there b o q (by simp[Zy]);exact u.free b o' c (I.base.free b o q n (by simp[Zy]));obtain⟨o',c⟩:=I.base.there b o q (by simp[Zy]);exact u.there b o' c (k b o q d);obtain⟨D,c⟩:=I.base.tbls b ps q;obtain⟨F,l⟩:=u.tbls b _ c;exact⟨D ++ F,by rw[l,Array.append_assoc]⟩
def z3j:Passes (ye P w C) X E0:=λ_ _ _ _ _ _ _ h=>by
 obtain⟨_,_,_,_,_,_,_,_,_,_,z⟩:=h;exact z.elim
noncomputable abbrev Z2B:List Value:=[.type "ValueError",.type "Exception",.type "BaseException",.type "object"]
structure V9(K:FR)(mg:SV)(x:Str)(C:Addr):Prop where
 ns:PySem.W.nsIn K mainGlobals x=some (some 035)
 bound:mg x=some 035
 exc:PySem.W.excIn K C Z2B "ValueError.__new__"=true
 kts:PySem.W.ktsIn K C "BaseException"=true
def z8w(X:K.In h)(q:PySem.W.excIn K C bmB newId=true):∃ bm N nm qn bs hdct sn sub ab col dd k0 k1 k2 k3 k5 mN,h.get? C=some (excClassObj nm qn C N bs bm hdct sn sub ab col dd k0 k1 k2 k3 k5 newId)/\h.Ns N mN/\mN "__init__"=none/\OwnTail h bmB bm:=by
 unfold excIn at q;split at q
 next dd cx sls hl =>
  split at q
  next C0 bms z0 z1 z2 z3 nn z5 hmr hsl =>
   rw[Z2m,Z2m,Z2m,Z2m,Z2m] at q;have c:C0=C:=beq_iff_eq.mp q.1.1.1.1.1;have b:nn=newId:=beq_iff_eq.mp q.1.1.1.1.2;have k:cx.hasDel=false:=by simpa using q.1.1.1.2
   have d:nsIn K cx.ns "__init__"=some none:=beq_iff_eq.mp q.2;have f:sls=#[z0,z1,z2,z3,some (.builtin nn),z5]:=by
    cases sls with
    | mk l =>
      have a:l=_:=hsl;rw[a]
   have i:cx={ cx with mro:=.ref C :: bms,hasDel:=false }:=by
    cases cx with
    | mk =>
      cases c;cases hmr;cases k;rfl
   refine⟨bms,cx.ns,cx.name,cx.qualname,cx.bases,cx.hasDict,cx.slotNames,cx.subclasses,cx.abstract,cx.collection,dd,z0,z1,z2,z3,z5,_,?_,.of_isNs (isNs_of_in X q.1.2),nsMap_none_of_in X q.1.2 d,tail_of_in X q.1.1.2⟩;have j:=X _ _ hl;rw[j,f,b];exact congrArg (λy=>some (Obj.mk (.type "type") dd (.cls y) #[z0,z1,z2,z3,some (.builtin newId),z5])) i
  next=>cases q
 next=>cases q
noncomputable def z2c(E:XK)(C:Addr)(t:TA):TS:=λ_ σ H=>t σ H λvs H1=>vs.length<=10/\E 035 none H1
def ZA{mg:SV}{x:Str}{e:Expr}{cpos pos:Pos}(T:V9 K mg x C)(m:Gl 027 x)(ha:PA 027 (e :: es) t)(he:starEach (e :: es) 04=(false,eval e 04) :: starEach es 04)(a:(backTo cpos (starEach es 04)).any (·.1)=false)(k:(x == ("__debug__":Str))=false) :
 PS 027 (.Raise (some (.Call (.Name x np) (e :: es) [] cpos)) none pos) (z2c E C t):=by
 intro pins s1 σ H1 D I h;obtain⟨bm,Nn,nm,qn,bs,hdct,sn,sub,ab,col,dd,k0,k1,k2,k3,k5,mN,hC,r,i,Tl⟩:=z8w (h:=base) I.ok.mod.kin T.exc;have j:(backTo cpos (starEach (e :: es) 04)).any (·.1)=false:=by rw[he];show (false || (backTo cpos (starEach es 04)).any (·.1))=false;rw[a];rfl
 refine wpAny_Raise_call_subU (C:=C) (nm:=nm) (q:=qn) (N:=Nn) (bs:=bs) (bm:=bm) (hdct:=hdct) (sn:=sn) (sub:=sub) (ab:=ab) (col:=col) (dd:=dd) (k0:=k0) (k1:=k1) (k2:=k2) (k3:=k3) (k5:=k5)
  Z41 03 Z41 (mN:=mN) (Tl.hasType Z41.hasBase) (I.ok.hd rfl) j i (yE I m T.bound ⟨rfl,?_⟩ k)
 have n:=ha cpos pins s1 σ H1 _ I h;have c:wpAny (model P w) (A.deeper 04) (spliced (backTo cpos (starEach (e :: es) 04))) _ _ s1:=n;show wpAny (model P w) (A.deeper 04) (evalArgs 035 true (backTo cpos (starEach (e :: es) 04)) []) _ _ s1;rw[he] at c ⊢;refine Calls.evalArgs_plain (wpAny_mono c (λus s2 q=>?_) λ_ _ y=>y);obtain⟨vs,H2,I2,p,lv,l⟩:=q;have d:∀ b o,base.get? b=some o->s2.heap.get? b=some o:=I2.bk;refine⟨rfl,?_,d _ _ hC,r.keeps d,Tl.keeps d,λh' u hm=>UX I2 hm l⟩;show us.length<=sizeLine;rw[← p.length,sizeLine_eq];lia
def QX.okN{mg:SV}{x:Str}{st:Stmt}{sp:Sp}(F:QX K x qual st f fd)(S:zB N ps (zh st))(len:∀ vs H Q E,sp vs H Q E->vs.length=ps.length)(a:∀ (cdv:Value) (A:Around) (outer:List Env) (s:Shared) (H:Hp) (vs:List V) (Q:VK) (E:XK),zX k (A.deeper (envOfC qual (zh st) s.heap.objs.size f cdv))->sp vs H Q E->
  ∃ t,Xq (Zy CX P w K mg base N qual (zh st) f cdv A outer s H E) (Zs st) t/\t { nx:=λ_ H'=>Q .Zc H',rt:=Q } (start N vs) H):Zo P w K mg base CX (k+1) f fd ps sp:=by
 obtain⟨oc,od,kV,doc,pm,an,cdv,ct,osl,rfl,lk,b⟩:=F.ex;exact z7p lk b S len λA outer s H vs Q E hr c=>a cdv A outer s H vs Q E hr c
noncomputable def XW(C:Addr)(X:Cx)(pins:List 013)(Rx:Hp->Prop):Value->Shared->Prop:=λe s2=>∃ a H1 s1,Inv X pins a H1 s1/\ye X.prog X.w C X.stack H1 s1 (λ_ _ H'=>Rx H') e s2
noncomputable abbrev Cx.z5y(X:Cx)(C:Addr)(pins:List 013)(Rx:Hp->Prop):Cx:={ X with pn:=X.pn ++ pins,xe:=XW C X pins Rx }
noncomputable abbrev Cx.exc(X:Cx)(a:Addr):Cx:={ X with A:=X.A.mark (some 024),calm:=false,xe:=λ_ _=>False }
def Inv.z5y{X:Cx}{σ:St}(I:Inv X pins σ H s):Inv (X.z5y C pins Rx) [] σ H s :=
 ⟨⟨I.ok.mod,I.ok.kind,I.ok.glob,I.ok.blt,I.ok.above,I.ok.inj,I.ok.has,I.ok.cab,I.ok.hd,I.ok.frames,I.ok.stk,I.ok.exf,I.ok.bs,I.ok.bsz,I.ok.noex,I.ok.exfs,I.ok.xo,I.ok.frf⟩,I.os,I.bare,I.base,I.loc,I.cell,I.free,I.freeC,λp a=>I.pin p (by simpa using a),I.hok,I.len⟩
def Inv.z6p{X:Cx}{σ:St}(I:Inv (X.z5y C pins Rx) pins' σ H s):Inv X pins σ H s :=
 ⟨⟨I.ok.mod,I.ok.kind,I.ok.glob,I.ok.blt,I.ok.above,I.ok.inj,I.ok.has,I.ok.cab,I.ok.hd,I.ok.frames,I.ok.stk,I.ok.exf,I.ok.bs,I.ok.bsz,I.ok.noex,I.ok.exfs,I.ok.xo,I.ok.frf⟩,I.os,I.bare,I.base,I.loc,I.cell,I.free,I.freeC,λp a=>I.pin p (Z2Q _ a),I.hok,I.len⟩
def Inv.exc{X:Cx}{σ:St}(I:Inv X pins σ H s):Inv (X.exc a) pins σ H s :=
 ⟨⟨I.ok.mod,I.ok.kind,I.ok.glob,I.ok.blt,I.ok.above,I.ok.inj,I.ok.has,I.ok.cab,(λz=>Bool.noConfusion z),I.ok.frames,I.ok.stk,I.ok.exf,I.ok.bs,I.ok.bsz,I.ok.noex,I.ok.exfs,I.ok.xo,I.ok.frf⟩,I.os,I.bare,I.base,I.loc,I.cell,I.free,I.freeC,I.pin,I.hok,I.len⟩
def Inv.z4h{X:Cx}{σ:St}(ok:X.Ok)(I:Inv (X.exc a) pins σ H s):Inv X pins σ H s:=⟨ok,I.os,I.bare,I.base,I.loc,I.cell,I.free,I.freeC,I.pin,I.hok,I.len⟩
def Inv.z5e{X:Cx}{σ:St}(I:Inv X pins σ H s):Inv X pins (List.replicate X.N.length none) H s:=I.weak (by rw[List.length_replicate,I.len]) λi v h=>by
 rw[List.getElem?_replicate] at h;split at h <;> cases h
def UnB.on{fs:List Addr}(u:UnB fs H H' h B h2)(i:h2.UpToSlots h5)(fr:∀ b∈fs,∃ o,h.get? b=some o/\∀ vs,o.data≠.fields vs):UnB fs H H' h B h5:=by
 refine⟨u.keep,λb o q n d=>?_,u.free,u.there,u.tups,u.frzs,u.tbls⟩;obtain⟨sl,e⟩:=u.slot b o q n d;obtain⟨o',c,hd⟩:=fr b d;rw[q] at c;cases c;obtain⟨a,f⟩:=i b _ e hd;exact⟨a,f⟩
noncomputable abbrev InB(n x y:Int):Prop:=0<=x/\x<n/\0<=y/\y<n
noncomputable def ve(K:FR)(C Xc:Addr):Sp:=λvs H Q E=>∃ (p pd lp:Addr) (W:Wb) (Ws:List Wb) (x y:Int),vs=[.ref p,.int x,.int y]/\Zv K C H p pd lp W Ws/\(InB W.1 x y->∀ H',zu H H'->Q .Zc H')/\(¬ InB W.1 x y->∀ H',zu H H'->E (.ref Xc) none H')
noncomputable def z0N(K:FR)(C Xc:Addr):Sp:=λvs H Q E=>∃ (p pd lp:Addr) (W:Wb) (Ws:List Wb) (x y:Int),vs=[.ref p,.int x,.int y]/\Zv K C H p pd lp W Ws/\Ws.length<=5000/\W.2.length<=60/\
 (InB W.1 x y/\W.2.length<60->∀ (H':Hp) (ms:LI),ms.Perm (W.2 ++ [(x,y)])->ms.Pairwise yf->Zv K C H' p pd lp (W.1,ms) (Ws ++ [W])->Kx [p,pd] H H'->Q .Zc H')/\(¬ (InB W.1 x y/\W.2.length<60)->∀ H',zu H H'->E (.ref Xc) none H')
noncomputable def uC(K:FR)(C Xc:Addr):Sp:=λvs H Q E=>∃ (p pd lp:Addr) (W:Wb) (Ws:List Wb) (x y:Int),vs=[.ref p,.int x,.int y]/\Zv K C H p pd lp W Ws/\Ws.length<=5000/\W.2.length<=60/\
 (InB W.1 x y/\(x,y)∈W.2->∀ (H':Hp),Zv K C H' p pd lp (W.1,W.2.erase (x,y)) (Ws ++ [W])->Kx [p,pd] H H'->Q .Zc H')/\(¬ (InB W.1 x y/\(x,y)∈W.2)->∀ H',zu H H'->E (.ref Xc) none H')
noncomputable def z0K(K:FR)(C Xc:Addr):Sp:=λvs H Q E=>∃ (p pd lp:Addr) (W:Wb) (Ws:List Wb),vs=[.ref p]/\Zv K C H p pd lp W Ws/\Ws.length<=5000/\
 (W.1<12->∀ (H':Hp),Zv K C H' p pd lp (W.1+1,W.2) (Ws ++ [W])->Kx [p,pd] H H'->Q (.int W.1) H')/\(¬ W.1<12->∀ H',zu H H'->E (.ref Xc) none H')
structure Vd(K:FR)(x:Str)(C:Addr):Prop where
 ns:PySem.W.nsIn K mainGlobals x=some (some 035)
 exc:PySem.W.excIn K C Z2B "ValueError.__new__"=true
 kts:PySem.W.ktsIn K C "BaseException"=true
def Vd.of{x:Str}(a:PySem.W.nsIn K mainGlobals x=some (some 035))(e:PySem.W.excIn K C Z2B "ValueError.__new__"=true)(t:PySem.W.ktsIn K C "BaseException"=true):Vd K x C:=⟨a,e,t⟩
def Vd.xt{mg:SV}{x:Str}(a:Vd K x C)(XK:K.In h)(G:h.Ns mainGlobals mg):V9 K mg x C:=⟨a.ns,Z3Q XK G a.ns,a.exc,a.kts⟩
noncomputable def lexLe:List Int->List Int->Bool
 | [],_=>true
 | _ :: _,[]=>false
 | x :: xs,y :: ys=>if x=y then lexLe xs ys else decide (x<=y)
def JK(x y:Int)(xs ys:List Int):lexLe (x :: xs) (y :: ys)=if x=y then lexLe xs ys else decide (x<=y):=rfl
section
open PySem.SeqAt
open PySem.AutoSeq1 (wpAny_loadPart')
open PySem.MeetsSeq PySem.MeetsSeq2 PySem.MeetsSeq3
def z0w(l b:Addr)(us vs:Array Value)(n m:Nat)(I M:Option Addr)(K L:Array (Option Value))(ns ms:List Int)(hi:IntsAre us.toList ns)(G:IntsAre vs.toList ms) :
 Meets (Builtin.«tuple.__le__» ⟨[.ref l,.ref b],[]⟩) (λ_ R s=>s.heap.get? l=some ⟨.type "tuple",I,.seq us n,K⟩/\s.heap.get? b=some ⟨.type "tuple",M,.seq vs m,L⟩/\R (.ok (.ret (.bool (lexLe ns ms)))) s) :=
 .of_wp λprog w A R s h=>by
  obtain⟨z,g,r,p,os⟩:=s;obtain⟨hl,J,h⟩:=h;have F:=AutoSeq1.sub_tuple_tuple;have O:us.size=ns.length:=by rw[← hi.length];simp
  have N:vs.size=ms.length:=by rw[← G.length];simp
  wp_walk using wpAny_loadPart' hl,wpAny_loadPart' J,wpAny_forIn_list _ (λrest b s'=>b.1=none/\s'=⟨z,g,r,p,os⟩/\∃ (xs ys:List Value) (f d:List Int),rest=xs.zip ys/\IntsAre xs f/\IntsAre ys d/\f.length+vs.size=d.length+us.size/\R (.ok (.ret (.bool (lexLe f d)))) ⟨z,g,r,p,os⟩) _
  case turn =>
   rintro⟨y,x⟩ rest b s' ⟨k,rfl,xs,ys,f,d,o,C,B,i,j⟩;cases C with
   | nil=>cases o
   | cons a t ix' =>
     cases B with
     | nil=>rw[List.zip_nil_right] at o;cases o
     | cons c u iy' =>
       rw[List.zip_cons_cons] at o;injection o with q1 q2;injection q1 with q3 q4;subst q3 q4;rw[JK] at j;rw[Z09,Z09] at i;obtain⟨e,he,v⟩:=HT.z7u A.in1 ⟨z,g,r,p,os⟩ a t c u;refine wpAny_bind (he prog w _ _ ?_);cases e with
       | true =>
         rw[if_pos (v.mp rfl)] at j;wp_walk;exact⟨rfl,rfl,_,_,_,_,q2,ix',iy',00,j⟩
       | false =>
         rw[if_neg (λq=>Z0U (v.mpr q))] at j;have D:∀ (E:Value->Shared->Prop) (Q:Value->Shared->Prop),Q (.bool (decide (a<=c))) ⟨z,g,r,p,os⟩->wpAny 07 A.in1 (richCompare .LtE (.int a t) (.int c u)) Q E ⟨z,g,r,p,os⟩:=λE Q h=>(PyProof.Rows.le_int h:wpAny 07 A.in1 (compareOp .LtE (.int a t) (.int c u)) Q E _);wp_walk using D;exact⟨_,rfl,by simpa using j⟩
  case fin =>
   rintro⟨b1,b2⟩ s' ⟨k,rfl,xs,ys,f,d,o,C,B,i,j⟩;simp only at k;subst k;have H:lexLe f d=decide (us.size<=vs.size):=by
    cases C with
    | nil =>
      rw[Z5q] at i;exact (decide_eq_true 00).symm
    | cons a t ix' =>
      cases B with
      | nil =>
        rw[Z5q,Z09] at i;exact (decide_eq_false 00).symm
      | cons c u iy'=>cases o
   rw[H] at j;wp_walk;exact⟨_,rfl,by simpa[Builtin.Tuple.tupleCompareSizes] using j⟩
  case h =>
   exact⟨rfl,rfl,us.toList,vs.toList,ns,ms,rfl,hi,G,00,h⟩
end
noncomputable def Z4A(K:FR):R2:=λx y H Q=>∃ a b ns ms,x=.ref a/\y=.ref b/\zO K H a (ns.map V.int)/\zO K H b (ms.map V.int)/\Q (.bl (lexLe ns ms)) H
def Z1T(m:X.A.units<cLine):Yl X (compareOp .LtE) (Z4A X.K):=by
 intro pins s σ H x y v u Q I w B h;obtain⟨a,b,ns,ms,rfl,rfl,ha,o,q⟩:=h;cases w;cases B;obtain⟨is,l,⟨⟨G,n,D,p⟩,i,d,n1,f⟩,_⟩:=I.tuple ha;obtain⟨k,t,⟨⟨C,z,E,r⟩,j,c,n2,hd2⟩,_⟩:=I.tuple o;simp only at d f c hd2;subst d f c hd2;exact richCompare_meets_room (op:=.LtE) ⟨_,i,rfl⟩ ⟨_,j,rfl⟩ PySem.F.slot_tuple_le PySem.F.entry_tuple_le (PySem.F.args_tuple_le_2 _ _) (z0w a b is.toArray k.toArray n1 n2 n z p r ns ms (by simpa using intsAre_of l) (by simpa using intsAre_of t))
  ⟨i,j,show Value.bool (lexLe ns ms)≠Value.notImplemented/\EP X pins σ Q (.bool (lexLe ns ms)) s from ⟨(λx=>nomatch x),⟨.bl _,H,I,rfl,q⟩⟩⟩ m
def z9D(e:X.K=K)(a:X.A.units<cLine):Yl X (compareOp .LtE) (Z4A K):=e ▸ Z1T a
noncomputable def Z3W(K:FR):V->Option Int->Option Int->Hp->VK->Prop:=λx _ _ H Q=>∃ a,x=.ref a/\zO K H a []/\Q 024 H
def z4L{lo:Option Int}(a:IsTup s.heap t #[])(d:s.heap.IsSliceOf sl vl vu .none)(pl:IsPart vl lo)(pu:IsPart vu hi)(h:Q (.ref t) s):wpAny 07 A (getItem (.ref t) (.ref sl)) Q E s:=by
 obtain⟨os,c,b,j⟩:=id d;unfold getItem
 try with_reducible refine wpAny_holding ?_
 first | refine wpAny_bind (wpAny_pure ?_) | skip
 refine wpAny_bind (wpAny_sequenceKey a.typeIs 01 ?_);refine wpAny_bind (wpAny_callSpecial?_slot (name:=Str.ofString "__getitem__") a.typeIs Z3N (wpAny_call_entry Z3N a.typeIs entry_tuple_getitem ?_ (args_tuple_getitem _ _)));show wpAny _ _ (Builtin.Tuple.tupleItemsOf (.ref t) >>= _) _ _ s;refine wpAny_bind (tupleItemsOf_ a ?_);refine wpAny_bind (wpAny_typeOf (show s.TypeIs (.ref sl) "slice" from ⟨os,c,b⟩) ?_);rw[if_pos 01];refine wpAny_bind (HT.YB d pl pu ?_);have f:HT.Z7 (#[]:Array Value).size 0 lo=0:=Nat.le_zero.mp (HT.z2U 0 0 (Z01 _) lo);have i:HT.Z7 (#[]:Array Value).size (#[]:Array Value).size hi=0:=Nat.le_zero.mp (HT.z2U 0 0 (Z01 _) hi);rw[f,i];show wpAny _ _ (if (((0:Nat):Int) == 0 && (1:Int) == 1 && (0 - 0:Nat) == (#[]:Array Value).size)=true then _ else _) _ _ s;rw[if_pos (show (((0:Nat):Int) == 0 && (1:Int) == 1 && (0 - 0:Nat) == (#[]:Array Value).size)=true from rfl)];unfold Builtin.Tuple.tupleIsExact;have k:=a.typeIs
 repeat (any_goals (first | assumption | wp_step))
 exact⟨_,rfl,wpAny_pure h⟩
def z9f:SlR X (Z3W X.K):=by
 intro pins s σ H x v i j lo hi sl Q I d c pl pu h;obtain⟨a,rfl,f,q⟩:=h;cases d;obtain⟨its,r,b,k⟩:=I.tuple f;cases r;exact⟨"tuple",_,Z3N.lookup,b.typeIs,z4L b c pl pu ⟨.ref a,H,I,rfl,q⟩⟩
def Z0C:SlR X (λx lo hi H Q=>Z3W X.K x lo hi H Q\/Z1n X.K x lo hi H Q):=SlR.or z9f Ja
noncomputable def Z4I(K:FR):List V->Hp->VK->Prop:=λxs H Q=>∃ a ys,xs=[.ref a,.ty "tuple"]/\zO K H a ys/\Q (.bl true) H
def vy:Zw X (.builtin "isinstance") (Z4I X.K):=by
 intro pins s σ H xs us Q I r h;obtain⟨a,ys,rfl,c,q⟩:=h;obtain⟨u,k,rfl,i,b⟩:=vals2 r;cases b;cases (show u=Value.ref a from i);obtain⟨_,_,⟨o,j,f,_⟩,_⟩:=I.tuple c;exact Z3J PySem.W.kitx_tuple I.YY ⟨o,j,f⟩ (Z2w _) (λz=>nomatch z) λd=>⟨.bl true,H,I.tok d,rfl,q⟩
noncomputable def Ju(K:FR):Sp:=λvs H Q _=>∃ (q:Addr) (x y:Int),vs=[.ref q]/\zO K H q [.int x,.int y]/\Q (.bl true) H
noncomputable def jm(K:FR):Sp:=λvs H Q _=>∃ (n x y:Int) (q:Addr),vs=[.int n,.ref q]/\zO K H q [.int x,.int y]/\Q (.bl (decide (0<=x/\x<n/\0<=y/\y<n))) H
def vo{g:TG}(hlen:zs.length<=xs.length)(Pv:Nat->List V->St->Hp->Prop)(h0:Pv 0 [] σ0 H0)(hl:∀ i ys σ H,Pv i ys σ H->Sq b1 K H a xs/\Sq b2 K H b zs/\H D=some 034)(r:∀ i x z ys σ H T G,xs[i]?=some x->zs[i]?=some z->i<zs.length->Pv i ys σ H->H T=none->zu H G->G T=some (.tup [x,z])->g (.ref T) σ G λc H3=>tt c H3 λb H4=>if b=true then
  te c H4 λy H5=>H5 D=some 034/\ys.length<sizeLine/\∃ h,h<zs.length - i/\Wt Pv zs.length (i+1) h (ys ++ [y]) c (upd H5 D (.lst (ys ++ [y]))) else ∃ h,h<zs.length - i/\Wt Pv zs.length (i+1) h ys c H4)(hd:∀ ys σ H,Pv zs.length ys σ H->Q 025 H):QD (Z3k b1 b2 K a b) D g tt te Q σ0 H0:=by
 refine⟨Wt Pv zs.length,⟨zs.length,rfl,Z19 _,h0⟩,?_⟩;rintro i m ys d H' ⟨rfl,hi,p⟩;obtain⟨j,f,q⟩:=hl i ys d H' p;refine⟨q,?_⟩;by_cases hlt:i<zs.length;have k:i<xs.length:=00
 refine .inr ⟨⟨xs,zs,xs[i],zs[i],j,f,by simp[k],by simp[hlt]⟩,λx H2 y=>?_⟩;obtain⟨T,u,v,rfl,l,rfl,o,n⟩:=y;exact r i u v ys d H' T _ (o xs j) (n zs f) hlt p l (zu.new l) zq;have e:i=zs.length:=00
 subst e;exact .inl ⟨⟨xs,zs,j,f,Nat.min_eq_right hlen⟩,hd ys d H' p⟩
def sqf(h:zO K H t xs):Sq false K H t xs:=by unfold Sq;rw[if_neg 01];exact h
def Uz{bs sub:List Value}{dd:Option Addr}{g:Array GenState}{os:OsState}{e:Addr}(hC:h.get? C=some (excClassObj nm q C N bs bm hdct sn sub ab col dd k0 k1 k2 k3 k5 newId))(k:h.get? D=some (excClassObj nm' q' D N' bs' bm' hdct' sn' sub' ab' col' dd' j0 j1 j2 j3 j5 newId'))(he:h.get? e=some oe)(b:oe.cls=.ref C)(a:bm'.contains (.type "BaseException")=true)(i:bm.contains 025=true)(l:Q true ⟨h,g,d,t,os⟩):wpAny M A (excMatches (.ref e) 025) Q E ⟨h,g,d,t,os⟩:=by
 have c:(Value.ref D :: bm').contains (.type "BaseException")=true:=by rw[List.contains_cons,a,Bool.or_true]
 have j:(Value.ref C :: bm).contains 025=true:=by rw[List.contains_cons,i,Bool.or_true]
 have f:=tc_notTuple;unfold excMatches
 repeat (first | (with_reducible refine wpAny_loadPart_at he ?_;rw[b]) | with_reducible refine wpAny_loadPart_at k ?_ | (with_reducible refine wpAny_isSubtype_exc k ?_;rw[c]) | (with_reducible refine wpAny_isSubtype_exc hC ?_;rw[j]) | wp_step)
 exact l
def Xx.none_of(x:Xx P w H h)(e:h.get? a=none):H a=none:=by
 cases q:H a with
 | none=>rfl
 | some o=>obtain⟨u,z⟩:=(x a o q).there;rw[e] at z;cases z
def Vq{X:Cx}{σ:St}{x:Str}{pos:Pos}(I:Inv X pins σ H s)(L:X.N.Nodup)(hi:X.N[i]?=some x)(R:X.env.kindOf x=some .local)(h:∀ s',Inv X pins (σ.set i none) H s'->Q () s'):wpAny M A (do bindName X.env x .none;unbindBehindTheSuite X.env x pos) Q E s:=by
 obtain⟨m,hn,hl⟩:=id I.loc;have t:(X.env.scope.kind == .class || (X.env.scope.kind == .module && X.env.locals != X.env.globals))=false:=by rw[I.ok.kind];rfl
 have r:i<σ.length:=by rw[I.len];exact (Z15.mp hi).1
 have cne:=I.cne;obtain⟨W,_,_,T,_⟩:=id hn;refine wpAny_nameGoes_keeps R hn t λh' v D f=>?_;have trk:Xx X.prog X.w H h':=λb ob e=>by
  refine (I.hok b ob e).stay (λc G C q=>(f.2 c ?_).trans q) (λ_ q=>q) λ_ _ q=>q;rintro rfl;have a:=I.free;rcases C with rfl | C;rw[a] at e;cases e;rw[a] at C;cases C
 refine h _ ⟨I.ok,I.os,I.bare,⟨λb o e n F u=>?_,λb o e n F u=>?_,I.base.free,λb o e u=>?_,I.base.tups,I.base.frzs,I.base.tbls⟩,⟨_,D,λj y J l B P=>?_⟩,λy c e=>?_,I.free,I.freeC,λp U=>?_,trk,by rw[List.length_set];exact I.len⟩;exact (f.2 b (Z13 (Z0N (Z0w e) I.ok.above))).trans (I.base.keep b o e n F u);obtain⟨sl,l⟩:=I.base.slot b o e n F u;exact⟨sl,(f.2 b (Z13 (Z0N (Z0w e) I.ok.above))).trans l⟩;obtain⟨o',l⟩:=I.base.there b o e u;exact⟨o',(f.2 b (Z13 (Z0N (Z0w e) I.ok.above))).trans l⟩;by_cases hj:j=i;subst hj;rw[List.getElem?_set_self r] at B;cases B;rw[List.getElem?_set_ne (Z3O hj)] at B;obtain⟨O,S,q⟩:=hl j y J l B P;refine⟨O,S,?_⟩;rcases q with⟨k,e⟩|⟨k,c,e,z⟩;refine .inl ⟨k,?_⟩;have:y≠x:=λe=>hj (Ua L l (e ▸ hi))
 simp[this,e];exact .inr ⟨k,c,e,z.sameBut f (cne y c e)⟩;obtain⟨G,z⟩:=I.cell y c e;exact⟨G,z.sameBut f (cne y c e)⟩;obtain⟨e,n,ne,K,d⟩:=I.pin p U;exact⟨(f.2 p.1 ne).trans e,n,ne,K,d⟩
def Z4r{bs sub:List Value}{dd:Option Addr}(X:K.In h)(hC:h.get? C=some (excClassObj nm q C N bs bm hdct sn sub ab col dd k0 k1 k2 k3 k5 newId))(e:PySem.W.mroIn K C 025=some true)(ne:D≠C):bm.contains 025=true:=by
 unfold PySem.W.mroIn at e;obtain⟨cd,a,b⟩:=Option.bind_eq_some_iff.mp e;have c:cd.mro=.ref C :: bm:=by
  unfold PySem.W.clsIn at a;split at a;rename_i ho;have:=X _ _ ho;rw[hC] at this;cases a;have:=congrArg Obj.data (Z12 this);cases this;rfl;cases a
 split at b;cases b;have e:=Z12 b;rw[c,List.contains_cons] at e;have:(Value.ref D == Value.ref C)=false:=beq_eq_false_iff_ne.mpr λz=>ne (by cases z;rfl);rw[this,Bool.false_or] at e;exact e
noncomputable abbrev Cx.z0z(X:Cx)(a:Addr)(oe:Obj)(pins:List 013):Cx:={ X with A:=X.A.mark (some 024),calm:=false,xe:=λ_ _=>False,pn:=X.pn ++ pins ++ [(a,oe)] }
def Inv.z0z{X:Cx}{b:Obj}{σ:St}(I:Inv X pins σ H s)(e:s.heap.get? a=some b)(n:H a=none)(ne:a≠X.env.locals)(f:a∉X.fs)(d:∀ v,b.data≠.cell v):Inv (X.z0z a b pins) [] σ H s :=
 ⟨⟨I.ok.mod,I.ok.kind,I.ok.glob,I.ok.blt,I.ok.above,I.ok.inj,I.ok.has,I.ok.cab,(λz=>Bool.noConfusion z),I.ok.frames,I.ok.stk,I.ok.exf,I.ok.bs,I.ok.bsz,I.ok.noex,I.ok.exfs,I.ok.xo,I.ok.frf⟩,I.os,I.bare,I.base,I.loc,I.cell,I.free,I.freeC,λp c=>by
   rw[Z40] at c;rcases Z1y.mp c with z | z;exact I.pin p z;rw[Z04.mp z];exact⟨e,n,ne,f,d⟩,I.hok,I.len⟩
def Inv.jP{X:Cx}{σ:St}(ok:X.Ok)(I:Inv (X.z0z a oe pins) pins' σ H s):Inv X pins σ H s:=⟨ok,I.os,I.bare,I.base,I.loc,I.cell,I.free,I.freeC,λp b=>I.pin p (Z2Q _ (Z2Q _ b)),I.hok,I.len⟩
open PySem.Calls
structure XcI(K:FR)(D:Addr):Prop where
 ga:findIn K 025 "__getattribute__"=some (some (.builtin "BaseException.__getattribute__"))
 gn:findIn K 025 "__getattr__"=some none
 ca:findIn K 025 "__class__"=some (some (.builtin "object.__class__"))
 mo:mroIn K D (.type "object")=some true
 mb:mroIn K D (.type "BaseException")=some true
noncomputable def Jv(h:Heap)(x D:Addr):Prop:=∃ o,h.get? x=some o/\o.cls=.ref D
def Jv.type{x:Addr}(I:Jv h x D):Looks M h (typeOf (.ref x)) 025:=by
 obtain⟨o,e,c⟩:=I;exact c ▸ (Looks.ld e).andThen .now
def Z3e{K:Frag}{x:Addr}(Z:XcI K D)(X:K.In s.heap)(I:Jv s.heap x D)(h:R (.ok (.ret 025)) s):codeAny 07 A (.call (.builtin "getset_descriptor.__get__") ⟨[.builtin "object.__class__",.ref x,tp],[]⟩) R s:=by
 obtain⟨a,g,b,t,os⟩:=s;have L0:=I.type (M:=model prog w);have L1:=looks_mroIn (M:=model prog w) X Z.mo;refine codeAny_call_builtin KF.slot_gs.plain KF.entry_gs (KF.slot_gs.check _ _ _ _ _ _ _ _ KF.type_class (KF.args_gs _ _ _) ?_);unfold Builtin.«getset_descriptor.__get__» Builtin.Getset_descriptor.descrGet;rw[dga_obj];refine wpAny_bind (wpAny_pure ?_);unfold Builtin.Getset_descriptor.descrGetter Builtin.Getset_descriptor.descrCheckInstance Builtin.Getset_descriptor.descrNameAndClass isInstance;simp only[KF.owner_class]
 repeat lk
 refine⟨Code.quiet_builtin _ 03,codeAny_builtin KF.entry_class ?_⟩;unfold Builtin.«object.__class__» shownTypeOf
 repeat lk
 exact h
def z6t{K:Frag}{x:Addr}(Z:XcI K D)(X:K.In s.heap)(I:Jv s.heap x D)(h:Q (.done (.ret 025)) s):wpAny 07 A (Builtin.«object.__getattribute__» ⟨[.ref x,.str "__class__" tk],[]⟩) Q E s:=by
 obtain⟨o,f,c⟩:=id I;have L2:=looks_findIn (M:=model prog w) X Z.ca;obtain⟨a,g,d,t,os⟩:=s;have b:(⟨a,g,d,t,os⟩:Shared).TypeIs (.builtin "object.__class__") "getset_descriptor":=F.typeOf_object_class;have j:=F.typeOf_object_class;have i:=F.slot_gs_get.lookup;have k:=F.slot_gs_set.lookup
 repeat (any_goals (first | assumption | (with_reducible refine wpAny_loadPart_at f ?_;rw[c]) | with_reducible refine L2.at ?_ | wp_step))
 refine Z3e Z X I ?_
 repeat (any_goals (first | assumption | wp_step))
def z6e{K:Frag}{x:Addr}(Z:XcI K D)(X:K.In s.heap)(I:Jv s.heap x D)(h:Q () s):wpAny M A (checkBuiltinCall "BaseException.__getattribute__" ⟨[.ref x,nameV],[]⟩) Q E s:=by
 have b:builtinKind "BaseException.__getattribute__"=some .slot:=03
 have a:splitId "BaseException.__getattribute__"=some ("BaseException","__getattribute__"):=03
 have L0:=I.type (M:=M);have L1:=looks_mroIn (M:=M) X Z.mb;have ha:=F.args_bexc_ga (.ref x) nameV;obtain⟨c,g,d,t,os⟩:=s;simp only[checkBuiltinCall,b,a];refine wpAny_bind ?_
 · unfold isInstance
   repeat (first | with_reducible refine L0.at ?_ | with_reducible refine L1.at ?_ | wp_step)
   exact h
def Z4W{K:Frag}{x:Addr}(Z:XcI K D)(X:K.In s.heap)(I:Jv s.heap x D)(h:Q 025 s):wpAny 07 A (getAttrBy (.ref x) (.str "__class__" tk) false) Q E s:=by
 have L0:=I.type (M:=model prog w);have L1:=looks_findIn (M:=model prog w) X Z.ga;have L2:=looks_findIn (M:=model prog w) X Z.gn;have i:=F.excAttr_ValueError.ga.bind (.ref x);have c:(false && onTheHeap (Value.builtin "BaseException.__getattribute__"))=false:=rfl;have a:(Value.builtin "BaseException.__getattribute__" == Value.builtin "object.__getattribute__")=false:=03
 have b:(onTheHeap (Value.ref D) && Value.builtin "BaseException.__getattribute__" == Value.builtin "object.__getattribute__")=false:=by rw[a];rfl
 obtain⟨d,g,f,t,os⟩:=s
 repeat (any_goals (first | assumption | with_reducible refine L0.at ?_ | with_reducible refine L1.at ?_ | with_reducible refine L2.at ?_ | wp_step))
 refine codeAny_call_builtin F.excAttr_ValueError.ga.plain F.entry_bexc_ga (z6e Z X I (z6t Z X I ?_))
 repeat (any_goals (first | assumption | wp_step))
def z8U{K:Frag}{x:Addr}(Z:XcI K D)(X:K.In s.heap)(I:Jv s.heap x D)(h:Q (some 025) { s with toks:=s.toks+1 }):wpAny 07 A (getAttr? (.ref x) "__class__") Q E s:=by
 obtain⟨a,g,b,t,os⟩:=s;unfold getAttr? getAttrBy?;refine wpAny_bind (wpAny_mkText (wpAny_bind (wpAny_attempt ?_)));exact Z4W (s:=⟨a,g,b,t+1,os⟩) Z X I (wpAny_pure h)
def u9{K:Frag}{x:Addr}(Z:XcI K D):KitX K (.ref x) 025 (λh=>Jv h x D) where
 ty:=λ_ _ _ I=>I.type
 it:=λ_ _ X _=>by
  have q:=Z.mo;unfold mroIn at q;obtain⟨cd,a,_⟩:=Option.bind_eq_some_iff.mp q;unfold clsIn at a;split at a;rename_i c' d' cd' sl' ho;intro A' Q' E' s' k q;unfold isType loadHead;exact wpAny_bind (wpAny_loadPart (k _ _ (X _ _ ho)) (wpAny_pure q));cases a
 ne:=λh tp dd its n sl X b=>by
  have q:=Z.mo;unfold mroIn at q;obtain⟨cd,a,_⟩:=Option.bind_eq_some_iff.mp q;refine Bool.eq_false_iff.mpr λq=>?_;have e:D=tp:=Value.ref.inj (beq_iff_eq.mp q);subst e;unfold clsIn at a;split at a;rename_i c' d' cd' sl' ho;have z:=(X _ _ ho).symm.trans b;cases z;cases a
 ca:=λX I k=>z8U Z X I k
def Z0u:bootBuiltins "ValueError"=some (.type "ValueError"):=03
noncomputable def Z5b(K:FR)(a D:Addr):List V->Hp->VK->Prop:=λxs H Q=>(∃ c b,xs=[.ref a,.ref c]/\kitOne K 025 (.ref c)=some b/\Q (.bl b) H)\/(∃ T b,xs=[.ref a,.ty T]/\kitOne K 025 (.type T)=some b/\Q (.bl b) H)\/
 ∃ (t:Addr) (cs:List Addr) (b:Bool),xs=[.ref a,.ref t]/\H t=some (.tup (cs.map V.ref))/\kitAny K 025 (cs.map Value.ref)=some b/\Q (.bl b) H
def jC:∀ {cs:List Addr}{its:List Value},Vals (cs.map V.ref) its->its=cs.map Value.ref
 | [],its,h=>by cases h;rfl
 | c :: cs,its,h=>by
   cases h with
   | cons r h=>rw[jC h,show _=Value.ref c from r];rfl
def YJ{X:Cx}{j:Obj}(Z:XcI X.K D)(A:j.cls=.ref D):Zw (X.z0z a j pins) (.builtin "isinstance") (Z5b X.K a D):=by
 intro l s σ H xs us Q I r h;have ex:Jv s.heap a D:=⟨j,(I.pin (a,j) (Z2Q _ (Z1g _ Z0K))).1,A⟩;have kin:X.K.In s.heap:=I.YY;rcases h with⟨c,b,rfl,e,q⟩|⟨T,b,rfl,e,q⟩|⟨t,cs,b,rfl,ht,e,q⟩;obtain⟨u,k,rfl,i,d⟩:=vals2 r;cases (show u=Value.ref a from i);cases (show k=Value.ref c from d);exact kia_one (u9 Z) kin ex e (λz=>nomatch z) λf=>⟨.bl b,H,I.tok f,rfl,q⟩
 obtain⟨u,k,rfl,i,d⟩:=vals2 r;cases (show u=Value.ref a from i);cases d;exact kia_one (u9 Z) kin ex e (λz=>nomatch z) λf=>⟨.bl b,H,I.tok f,rfl,q⟩;obtain⟨u,k,rfl,i,d⟩:=vals2 r;cases (show u=Value.ref a from i);cases (show k=Value.ref t from d);obtain⟨its,m,⟨o,w,v,n,p⟩,_⟩:=I.tuple (zO.of ht);have B:=jC m;subst B;obtain⟨oc,od,y,osl⟩:=o;cases v;cases p;exact kia_tup (u9 Z) kin ex w e (λz=>nomatch z) λf=>⟨.bl b,H,I.tok f,rfl,q⟩
def uN:PySem.W.kitOne K t t=some true:=by unfold PySem.W.kitOne;rw[if_pos (beq_self_eq_true _)]
noncomputable def zQ(c:Nat):Str:=⟨#[c]⟩
noncomputable def Its(x:Str):It:=⟨λi _=>i<x.cps.size,λi H v H'=>H'=H/\∃ c,x.cps[i]?=some c/\v=.str (zQ c),λi _=>x.cps.size<=i⟩
def z5z(x:Str)(t:Tok)(it:Addr):Turn P w K tg (Its x) [it] it (λi h=>h.IsStrIter it "str_ascii_iterator" x t i) where
 mem:=05
 obj:=λi h st b f=>by
  have e:b=it:=by simpa using f
  subst e;obtain⟨o,e,c,d⟩:=st;exact⟨o,e,λv z=>by rw[d] at z;cases z⟩
 keep:=λi h h' st k=>let ⟨o,ho,r⟩:=st;⟨o,k it 05 o ho,r⟩
 item:=by
  intro X m hw l q i pins s σ H E I hf st a;subst m hw l;have a:i<x.cps.size:=a;obtain⟨f0,f1,f2,p,f4,n⟩:=hf it 05;refine wpAny_pyNext_ascii_item st (c:=x.cps[i]) (by simp[a]) λh' j sb=>?_;have I1:Inv X pins σ H { s with heap:=h',toks:=s.toks+1 }:=I.turned (t':=s.toks+1) (λb o f e=>(sb.2 b f).trans e) f0 f1 p f4 n;obtain⟨o,e,c,d⟩:=id j;exact⟨_,rfl,z0L (s:={ s with heap:=h',toks:=s.toks+1 }) e c d 01 ⟨.str (zQ x.cps[i]),H,I1,⟨_,rfl⟩,⟨rfl,_,by simp[a],rfl⟩,j,λb f=>(hf b f).1⟩⟩
 done:=by
  intro X m hw l q i pins s σ H E I hf st a;subst m hw l;have a:x.cps.size<=i:=a;obtain⟨f0,f1,f2,p,f4,n⟩:=hf it 05;exact wpAny_pyNext_ascii_end (I.ok.hd q) st (Array.getElem?_eq_none a) λh' u=>⟨rfl,I.turned (t':=s.toks) (λb o f e=>u b o f e) f0 f1 p f4 n⟩
 self:=λ_ _ _ _ _ st h=>wpAny_pyIter_striter_ascii st h
def z5E(x:Str)(t:Tok)(it:Addr):Turn P w K tg (Its x) [it] it (λi h=>h.IsStrIter it "str_iterator" x t i) where
 mem:=05
 obj:=λi h st b f=>by
  have e:b=it:=by simpa using f
  subst e;obtain⟨o,e,c,d⟩:=st;exact⟨o,e,λv z=>by rw[d] at z;cases z⟩
 keep:=λi h h' st k=>let ⟨o,ho,r⟩:=st;⟨o,k it 05 o ho,r⟩
 item:=by
  intro X m hw l q i pins s σ H E I hf st a;subst m hw l;have a:i<x.cps.size:=a;obtain⟨f0,f1,f2,p,f4,n⟩:=hf it 05;refine wpAny_pyNext_wide_item st (c:=x.cps[i]) (by simp[a]) λh' j sb=>?_;have I1:Inv X pins σ H { s with heap:=h',toks:=s.toks+1 }:=I.turned (t':=s.toks+1) (λb o f e=>(sb.2 b f).trans e) f0 f1 p f4 n;obtain⟨o,e,c,d⟩:=id j;exact⟨_,rfl,z0L (s:={ s with heap:=h',toks:=s.toks+1 }) e c d 01 ⟨.str (zQ x.cps[i]),H,I1,⟨_,rfl⟩,⟨rfl,_,by simp[a],rfl⟩,j,λb f=>(hf b f).1⟩⟩
 done:=by
  intro X m hw l q i pins s σ H E I hf st a;subst m hw l;have a:x.cps.size<=i:=a;obtain⟨f0,f1,f2,p,f4,n⟩:=hf it 05;exact wpAny_pyNext_wide_end (I.ok.hd q) st (Array.getElem?_eq_none a) λh' u=>⟨rfl,I.turned (t':=s.toks) (λb o f e=>u b o f e) f0 f1 p f4 n⟩
 self:=λ_ _ _ _ _ st h=>wpAny_pyIter_striter_wide st h
noncomputable def Z6u(a:TE):TI:=λσ H R=>a σ H λv H1=>∃ x,v=.str x/\R (Its x) H1
def z8k(hl:PE X l tl):PI X tg l (Z6u tl):=by
 intro pins s σ H R I h;refine z8 (hl pins s σ H _ I h) λv s1 zq=>?_;obtain⟨z,H1,I1,a,q1⟩:=zq;obtain⟨x,rfl,q⟩:=q1;obtain⟨t,rfl⟩:=a;have fp:∀ b∈[s1.heap.objs.size],xg X pins H1 b:=λb c=>by
  have e:b=s1.heap.objs.size:=by simpa using c
  subst e;exact I1.z0G (Z01 _) (I1.hok.fresh (Z01 _))
 cases ha:x.cps.all (·<128) with
 | true=>exact wpAny_pyIter_ascii ha ⟨s1.heap.objs.size,[s1.heap.objs.size],_,_,H1,rfl,I1.kept (t':=s1.toks) λb o e=>ZB _ e,z5z x t _,⟨_,Z10 _ rfl,rfl,rfl⟩,fp,q⟩
 | false=>exact wpAny_pyIter_wide ha ⟨s1.heap.objs.size,[s1.heap.objs.size],_,_,H1,rfl,I1.kept (t':=s1.toks) λb o e=>ZB _ e,z5E x t _,⟨_,Z10 _ rfl,rfl,rfl⟩,fp,q⟩
def z5X{x:Str}{g:TG}(Pv:Nat->List V->St->Hp->Prop)(h0:Pv 0 [] σ0 H0)(hl:∀ i ys σ H,Pv i ys σ H->H D=some 034)(j:∀ i c ys σ H,x.cps[i]?=some c->i<x.cps.size->Pv i ys σ H->g (.str (zQ c)) σ H λa H3=>tt a H3 λb H4=>if b=true then
  te a H4 λy H5=>H5 D=some 034/\ys.length<sizeLine/\∃ f,f<x.cps.size - i/\Wt Pv x.cps.size (i+1) f (ys ++ [y]) a (upd H5 D (.lst (ys ++ [y]))) else ∃ f,f<x.cps.size - i/\Wt Pv x.cps.size (i+1) f ys a H4)(hd:∀ ys σ H,Pv x.cps.size ys σ H->Q 025 H) :
 QD (Its x) D g tt te Q σ0 H0:=by
 refine⟨Wt Pv x.cps.size,⟨x.cps.size,rfl,Z19 _,h0⟩,?_⟩;rintro i m ys d H' ⟨rfl,hi,p⟩;refine⟨hl i ys d H' p,?_⟩;by_cases hlt:i<x.cps.size;refine .inr ⟨hlt,λv H2 y=>?_⟩;obtain⟨e,c,k,h⟩:=y;subst e h;exact j i c ys d _ k hlt p;have e:i=x.cps.size:=00
 subst e;exact .inl ⟨Z01 _,hd ys d H' p⟩
open Builtin Builtin.Str in
def sub_one(x:Str)(c i:Nat)(h:i<x.cps.size):subAt x (zQ c) i=decide (x.cps[i]=c):=by
 unfold subAt zQ;have e:x.cps.extract i (i+(⟨#[c]⟩:Str).length)=#[x.cps[i]]:=by
  apply Z20.mp;show (x.cps.extract i (i+1)).toList=[x.cps[i]];rw[Array.toList_extract];simp[List.extract,List.drop_eq_getElem_cons (show i<x.cps.toList.length by simpa using h)]
 rw[e];by_cases hq:x.cps[i]=c;simp[hq];simp[hq]
def Z3a(x:Str)(c:Nat):(!(Builtin.Str.occurrences x (zQ c) 0 x.length 1).isEmpty)=decide (c∈x.cps.toList):=StrLaws.found_one x c
noncomputable def Z9(P:Program)(w:World)(K:FR)(mg:SV)(base:Heap)(CX:qq)(k:Nat)(nm:Str)(ps:List Str)(sp:Sp):Prop :=
 ∃ (f:Addr) (fd:FuncData),PySem.W.keepIn K (.ref f)=true/\mg nm=some (.ref f)/\Binds K fd ps []/\Zo P w K mg base CX k f fd ps sp
def ZE.Vl{mg:SV}{st:Stmt}{sp:Sp}(S:ZE K mg nm st ps)(h:∀ f fd,QX K nm nm st f fd->Zo P w K mg base CX k f fd ps sp):Z9 P w K mg base CX k nm ps sp:=by
 obtain⟨f,fd,F,m,b⟩:=S;exact⟨f,fd,F.kp,m,b,h f fd F⟩
def Zz{sp:Sp}{e:Expr}{pos:Pos}(i:Gl X nm)(he:starEach (e :: es) X.env=016 :: starEach es X.env)(h:(backTo pos (starEach es X.env)).any (·.1)=false)(d:(nm == ("__debug__":Str))=false)(D:Z9 X.prog X.w X.K X.mg X.base CX k nm ps sp)(hr:zX k X.A)(j:Passes CX X E)(ha:PA X (e :: es) t) :
 PE X (.Call (.Name nm p) (e :: es) [] pos) (vO sp [] E t):=by
 obtain⟨f,fd,a,b,c,F⟩:=D;exact JA F hr i b a c .nil j ha d he h
def z3m:∀ l:List (Str×Tok),Vals ((l.map (·.1)).map V.str) (strValues l)
 | []=>.nil
 | (_,t) :: l=>.cons ⟨t,rfl⟩ (z3m l)
def JJ:∀ {ys:List Str}{us:List Value},Vals (ys.map V.str) us->∃ l:List (Str×Tok),us=strValues l/\l.map (·.1)=ys
 | [],_,.nil=>⟨[],rfl,rfl⟩
 | y :: ys,_,.cons ⟨t,e⟩ r=>by
   obtain⟨l,b,a⟩:=JJ r;subst e b;exact⟨(y,t) :: l,rfl,by rw[Z1Y,a]⟩
noncomputable def Z1J:V->List V->Hp->VK->Prop:=λx xs H Q=>∃ (z:Str) (c:Nat),x=.str z/\xs=[.str (zQ c)]/\z.cps.size<=8000/\∀ p H',zu H H'->H p=none->H' p=some (.lst ((Txt.split z (zQ c)).map V.str))->Q (.ref p) H'
def xq:MtR X "str.split" Z1J:=by
 intro pins s σ H x xs v us Q I f r h;obtain⟨z,c,rfl,rfl,few,q⟩:=h;obtain⟨t,rfl⟩:=f;obtain⟨u,rfl,t',rfl⟩:=vals1 r;have i:z.length<=8000:=few;have hl:=split_le z (zQ c);have d:((zQ c).length == 0)=false:=rfl;have a:z.length<=sizeLine:=by rw[sizeLine_eq];lia
 have fin:∀ (l:List (Str×Tok)) (k:Nat),l.map (·.1)=Txt.split z (zQ c)->EP X pins σ Q 023 { s with toks:=k,heap:=s.heap.push { cls:=.type "list",data:=.seq (strValues l).toArray } }:=λl k e =>
  ⟨.ref s.heap.objs.size,_,I.laid (t':=k) (λb o g=>ZB _ g) (Z01 _) (show Zl X.prog X.w _ _ _ (.lst ((Txt.split z (zQ c)).map V.str)) from
   ⟨by rw[Z00,sizeLine_eq];lia,strValues l,_,by rw[← e];exact z3m l,Z10 _ rfl⟩),rfl,z7t q _ (I.hok.fresh (Z01 _))⟩
 cases h1:(decide (z.length<(zQ c).length) || decide (Builtin.Str.strKind z<Builtin.Str.strKind (zQ c)));cases hf:(Builtin.Str.occurrences z (zQ c) 0 z.length (z.length+1)).isEmpty;have e:Txt.split z (zQ c)=Builtin.Str.partsBetween z (Builtin.Str.occurrences z (zQ c) 0 z.length (z.length+1)) (zQ c).length:=(if_neg (ne_true_of_eq_false h1)).trans (if_neg (ne_true_of_eq_false hf));refine call_meets Z3M (typeIs_str _ _ _) PySem.F.entry_str_split (PySem.F.args_str_split_2 _ _) (meets_str_split_sep z (zQ c) t t' h1 d hf a (by rw[← e,sizeLine_eq];lia)) ?_;show wants (EP X pins σ Q) X.xe _ { s with toks:=_,heap:=s.heap.push { cls:=.type "list",data:=.seq (strsFrom s.toks (Builtin.Str.partsBetween z (Builtin.Str.occurrences z (zQ c) 0 z.length (z.length+1)) (zQ c).length)).toArray } };rw[strsFrom_eq];exact fin (numbered s.toks _) _ ((numbered_texts _ _).trans e.symm);exact call_meets Z3M (typeIs_str _ _ _) PySem.F.entry_str_split (PySem.F.args_str_split_2 _ _) (meets_str_split_not_found z (zQ c) t t' h1 d hf)
  (fin [(z,t)] s.toks ((if_neg (ne_true_of_eq_false h1)).trans (if_pos hf)).symm)
 exact call_meets Z3M (typeIs_str _ _ _) PySem.F.entry_str_split (PySem.F.args_str_split_2 _ _) (meets_str_split_cannot_occur z (zQ c) t t' h1)
  (fin [(z,t)] s.toks (if_pos h1).symm)
noncomputable def Z0b:V->List V->Hp->VK->Prop:=λx xs H Q=>∃ (z:Str) (c:Nat),x=.str z/\xs=[.str (zQ c)]/\Q (.bl (decide (z.cps.toList.head?=some c))) H
def U8:MtR X "str.startswith" Z0b:=by
 intro pins s σ H x xs v us Q I b r h;obtain⟨z,c,rfl,rfl,q⟩:=h;obtain⟨t,rfl⟩:=b;obtain⟨u,rfl,t',rfl⟩:=vals1 r;refine call_gives Z3Z (typeIs_str _ _ _) PySem.F.entry_str_startswith (PySem.F.args_str_startswith_2 _ _) (gives_str_startswith z (zQ c) t t') ?_;have e:(decide (0+(zQ c).length<=z.length) && Builtin.Str.subAt z (zQ c) 0)=decide (z.cps.toList.head?=some c):=by
  by_cases h0:0<z.cps.size;rw[sub_one z c 0 h0];have a:decide (0+(zQ c).length<=z.length)=true:=decide_eq_true (show 0+1<=z.cps.size by lia);rw[a,Bool.true_and,List.head?_eq_getElem?,Z34,Z45 h0];simp;have a:decide (0+(zQ c).length<=z.length)=false:=decide_eq_false (show ¬ 0+1<=z.cps.size by lia);have d:z.cps.toList=[]:=Z27.mp (by rw[Z07];lia);rw[a,d];rfl
 exact⟨.bl _,H,I,(by show Value.bool _=Value.bool _;rw[← e]),q⟩
noncomputable def Z5Z:V->Option Int->Option Int->Hp->VK->Prop:=λv lo hi H Q=>∃ x:Str,v=.str x/\x.cps.size<=8000/\Q (.str (Txt.slice x lo hi)) H
def XG:SlR X Z5Z:=by
 intro pins s σ H x v d f lo hi sl Q I c b pl pu h;obtain⟨z,rfl,few,q⟩:=h;obtain⟨t,rfl⟩:=c;have a:z.length<=sizeLine:=by rw[sizeLine_eq];exact Z0X few 01
 cases pl with
 | none =>
   cases pu with
   | none=>exact⟨"str",_,PySem.F.slot_str_getitem.lookup,typeIs_str _ _ _,wpAny_getItem_str_slice (l:=none) (u:=none) (st:=none) b rfl (post_val_or_str ⟨Z0X (Txt.slice_le z _ _) a,λt' k=>⟨.str (Txt.slice z none none),H,I.tok _,⟨_,rfl⟩,q⟩⟩)⟩
   | int j u=>exact⟨"str",_,PySem.F.slot_str_getitem.lookup,typeIs_str _ _ _,wpAny_getItem_str_slice (l:=none) (u:=some (j,u)) (st:=none) b rfl (post_val_or_str ⟨Z0X (Txt.slice_le z _ _) a,λt' k=>⟨.str (Txt.slice z none (some j)),H,I.tok _,⟨_,rfl⟩,q⟩⟩)⟩
 | int i u' =>
   cases pu with
   | none=>exact⟨"str",_,PySem.F.slot_str_getitem.lookup,typeIs_str _ _ _,wpAny_getItem_str_slice (l:=some (i,u')) (u:=none) (st:=none) b rfl (post_val_or_str ⟨Z0X (Txt.slice_le z _ _) a,λt' k=>⟨.str (Txt.slice z (some i) none),H,I.tok _,⟨_,rfl⟩,q⟩⟩)⟩
   | int j u=>exact⟨"str",_,PySem.F.slot_str_getitem.lookup,typeIs_str _ _ _,wpAny_getItem_str_slice (l:=some (i,u')) (u:=some (j,u)) (st:=none) b rfl (post_val_or_str ⟨Z0X (Txt.slice_le z _ _) a,λt' k=>⟨.str (Txt.slice z (some i) (some j)),H,I.tok _,⟨_,rfl⟩,q⟩⟩)⟩
noncomputable def Z0P:List V->Hp->VK->Prop:=λxs H Q=>∃ (x:Str) (n:Int),xs=[.str x]/\PySem.intText? x=some n/\x.cps.size<=640/\Q (.int n) H
def YC:Zw X (.type "int") Z0P:=by
 intro pins s σ H xs us Q I r h;obtain⟨x,n,rfl,e,few,q⟩:=h;obtain⟨u,rfl,t,rfl⟩:=vals1 r;exact PySem.W.KIN.call_text e few ⟨.int n,H,I.tok _,⟨_,rfl⟩,q⟩
noncomputable def rJoin(K:FR):V->List V->Hp->VK->Prop:=λx xs H Q=>∃ (sep:Str) (l:Addr) (ys:List Str),x=.str sep/\xs=[.ref l]/\zJ K H l (ys.map V.str)/\JoinOk sep ys=true/\Q (.str (Txt.join sep ys)) H
def z8K:MtR X "str.join" (rJoin X.K):=by
 intro pins s σ H x xs v us Q I b r h;obtain⟨sep,l,ys,rfl,rfl,hl,ok,q⟩:=h;obtain⟨t,rfl⟩:=b;obtain⟨u,rfl,c⟩:=vals1 r;cases c;obtain⟨its,a,pl,d⟩:=id (I.list hl);obtain⟨ps,rfl,e⟩:=JJ a;exact SC.join pl.isList e ok λt' k=>⟨.str _,H,I.tok _,⟨_,rfl⟩,q⟩
def z0o(e:X.K=K):MtR X "str.join" (rJoin K):=by
 subst e;exact z8K
def Z1f(k:Nat):∀ (ys:List Str) (n m:Nat),(∀ y∈ys,y.cps.size<=m)->ys.foldl (λn (p:Str)=>n+p.length+k) n<=n+ys.length * (m+k)
 | [],n,m,_=>by simp
 | y :: ys,n,m,h=>by
   rw[Z55];refine Z0X (Z1f k ys _ m λz a=>h z (Z03 _ a)) ?_;have:y.length<=m:=h y (Z0K ..);rw[Z09,Nat.add_mul];lia
def z2O(h:∀ y∈ys,y.cps.size<=m)(few:ys.length * (m+sep.cps.size)<=1000000):JoinOk sep ys=true:=by
 unfold JoinOk;rw[List.foldl_toArray];have:=Z1f sep.length ys 0 m h;have e:sep.length=sep.cps.size:=rfl;rw[e] at this ⊢;unfold Builtin.Str.tooLong;rw[Bool.not_eq_true',decide_eq_false_iff_not,sizeLine_eq];lia
def jB(sep:Array Nat):∀ (ys:List Str) (a:Array Nat) (m:Nat),(∀ y∈ys,y.cps.size<=m)->(ys.foldl (λacc p=>acc ++ sep ++ p.cps) a).size<=a.size+ys.length * (m+sep.size)
 | [],a,m,_=>by simp
 | y :: ys,a,m,h=>by
   rw[Z55];refine Z0X (jB sep ys _ m λz b=>h z (Z03 _ b)) ?_;have:y.cps.size<=m:=h y (Z0K ..);rw[Z09,Nat.add_mul,Z57,Z57];lia
def Q7(h:∀ y∈ys,y.cps.size<=m):(Txt.join sep ys).cps.size<=ys.length * (m+sep.cps.size):=by
 unfold Txt.join Builtin.Str.glued;cases ys with
 | nil=>exact Z19 _
 | cons y ys =>
   refine Z0X (jB sep.cps ys y.cps m λz a=>h z (Z03 _ a)) ?_;have:y.cps.size<=m:=h y (Z0K ..);rw[Z09,Nat.add_mul];lia
end L2
namespace Pw
open PySem.NumText
def Y7(x:Str)(i:Nat)(h:i<=x.cps.size):(Txt.slice x (some (i:Int)) none).cps.toList=x.cps.toList.drop i:=by
 have e:Builtin.Str.strSliceIndices (some (i:Int)) none 1 x.length=(List.range (x.length - i)).map (i+·):=by
  have hl:x.length=x.cps.size:=rfl;have a:max (0:Int) (min (i:Int) (x.length:Int))=((i:Nat):Int):=00
  simp only[Builtin.Str.strSliceIndices,show ((1:Int) > 0)=True by simp,if_true,show ¬ ((i:Int)<0) by lia,if_false,a];exact sliceRange_one i x.length
 unfold Txt.slice;rw[e];split;rename_i hc;have d:=(Bool.and_eq_true_iff.mp hc).2;rw[Z00,Z36,beq_iff_eq] at d;have hl:x.length=x.cps.size:=rfl;by_cases h0:i=0;rw[h0,Z58];have:x.cps.size=0:=00
 have b:x.cps.toList=[]:=Z27.mp (by rw[Z07];exact this);rw[b,List.drop_nil];show (List.filterMap _ _)=_;apply List.ext_getElem?;intro k;rw[List.getElem?_drop];have key:∀ n,(List.filterMap (λj=>x.cps[j]?) ((List.range n).map (i+·)))=(x.cps.toList.drop i).take n:=by
  intro n
  induction n with
  | zero=>simp
  | succ n ih =>
    rw[Z5n,Z16,List.filterMap_append,ih,Z35,List.getElem?_drop,Z34];simp only[Z1Y,Z3R];cases hx:x.cps[i+n]? with
    | none=>simp[hx]
    | some c=>simp[hx]
 rw[key];have hl:x.length=x.cps.size:=rfl;have:(x.cps.toList.drop i).take (x.length - i)=x.cps.toList.drop i:=Z18 (by rw[Z31,Z07];lia);rw[this,List.getElem?_drop]
noncomputable def Xu(c:Nat):Bool:=decide (48<=c/\c<=57)
def z8b(c:Nat):decide (c∈("0123456789":Str).cps.toList)=Xu c:=by
 have e:("0123456789":Str).cps.toList=[48,49,50,51,52,53,54,55,56,57]:=03
 unfold Xu;rw[e];by_cases h:c<58;exact (show ∀ c:Nat,c<58->decide (c∈[48,49,50,51,52,53,54,55,56,57])=decide (48<=c/\c<=57) by decide +kernel) c h;rw[decide_eq_false (show ¬ (48<=c/\c<=57) by lia)];exact decide_eq_false λm=>h ((show ∀ x∈[48,49,50,51,52,53,54,55,56,57],x<58 by decide) c m)
noncomputable def xn(m:Nat)(x:Str):Prop:=1<=x.cps.size/\x.cps.size<=m/\x.cps.toList.all Xu=true/\(x.cps.toList=[48]\/x.cps.toList.head?≠some 48)
noncomputable instance (m:Nat) (x:Str):Decidable (xn m x):=by unfold xn;infer_instance
def ZH{x:Str}(h:xn m x):AllDigits x.cps.toList:=λc a=>of_decide_eq_true (Z26.mp h.2.2.1 c a)
def ua{x:Str}(h:xn m x):x.cps.toList≠[]:=λe=>by
 have:=h.1;rw[← Z07,e] at this;simp at this
noncomputable def num?(x:Str):Option Int:=if xn 13 x then some ((digitsVal x.cps.toList:Nat):Int) else none
noncomputable def Y9(x:Str):Str:=if x.cps.toList.head?=some 45 then Txt.slice x (some 1) none else x
noncomputable def Zk(x:Str):Option Int:=if xn 13 (Y9 x)/\x.cps.toList≠[45,48] then PySem.intText? x else none
def uv:∀ (cs:List Nat) (a:Nat),AllDigits cs->cs.foldl (λacc c=>acc * 10+(c - 48)) a<(a+1) * 10 ^ cs.length
 | [],a,_=>by simp
 | c :: cs,a,h=>by
   have f:=h c (Z0K ..);have b:=uv cs (a * 10+(c - 48)) λd hd=>h d (Z03 _ hd);rw[Z55,Z09,Z59];refine Z0N b ?_;have:a * 10+(c - 48)+1<=(a+1) * 10:=00
   calc _<=(a+1) * 10 * 10 ^ cs.length:=Z5h _ this
    _=_:=by rw[Nat.mul_assoc,Nat.mul_comm 10]
def Z3E{x:Str}(h:xn 13 x):digitsVal x.cps.toList<10 ^ 13:=by
 have:=uv x.cps.toList 0 (ZH h);have a:x.cps.toList.length<=13:=by rw[Z07];exact h.2.1
 rw[Nat.zero_add,Nat.one_mul] at this;exact Z0N this (Z3K 01 a)
def jQ{x:Str}(h:xn 13 x):PySem.intText? x=some ((digitsVal x.cps.toList:Nat):Int) :=
 intText_digits (ZH h) (ua h) (Z0X h.2.1 01)
def Z1P{x:Str}{n:Int}(h:num? x=some n):0<=n/\n<10 ^ 13:=by
 unfold num? at h;split at h;rename_i f;cases h;have:=Z3E f;lia;cases h
def z0Z{x:Str}(h:xn m x):x.cps.toList.head?≠some 45:=λe=>by
 have:=ZH h 45 (List.mem_of_mem_head? e);lia
def z9c{x:Str}{n:Int}(h:num? x=some n):PySem.intText? x=some n/\x.cps.size<=13:=by
 unfold num? at h;split at h;rename_i f;cases h;exact⟨jQ f,f.2.1⟩;cases h
def z9r{x:Str}{n:Int}(h:num? x=some n):Zk x=some n:=by
 have hi:=z9c h;unfold num? at h;split at h;rename_i f;have e:Y9 x=x:=by unfold Y9;rw[if_neg (z0Z f)]
 unfold Zk;rw[e,if_pos ⟨f,λz=>z0Z f (by rw[z];rfl)⟩];exact hi.1;cases h
def QE{x:Str}(h:x.cps.toList.head?=some 45):(Txt.slice x (some 1) none).cps.toList=x.cps.toList.tail:=by
 have a:1<=x.cps.size:=by
  rw[← Z07];cases e:x.cps.toList with
  | nil=>rw[e] at h;cases h
  | cons c cs=>simp
 have:=Y7 x 1 a;rw[List.drop_one] at this;exact this
def z0r{x:Str}(h:x.cps.toList.head?=some 45):Zk x=(num? (Txt.slice x (some 1) none)).bind λn=>if n=0 then none else some (-n):=by
 have ct:=QE h;have ex:x.cps.toList=45 :: x.cps.toList.tail:=by
  cases e:x.cps.toList with
  | nil=>rw[e] at h;cases h
  | cons c cs=>rw[e] at h;cases h;rfl
 unfold Zk num?;rw[show Y9 x=Txt.slice x (some 1) none by unfold Y9;rw[if_pos h]];by_cases f:xn 13 (Txt.slice x (some 1) none);rw[if_pos f,Option.bind_some];by_cases z:x.cps.toList=[45,48];have t:(Txt.slice x (some 1) none).cps.toList=[48]:=by rw[ct,z];rfl
 rw[if_neg (λq=>q.2 z),t];rfl;have hlen:x.length<=4300:=by
  have a:=f.2.1;rw[← Z07,ct,List.length_tail,Z07] at a;show x.cps.size<=4300;lia
 rw[if_pos ⟨f,z⟩,intText_neg ex (ct ▸ ZH f) (ct ▸ ua f) hlen,← ct];have pos:0<digitsVal (Txt.slice x (some 1) none).cps.toList:=by
  rcases f.2.2.2 with g | g;exact absurd (by rw[ex,← ct,g]) z;cases e:(Txt.slice x (some 1) none).cps.toList with
  | nil=>exact absurd e (ua f)
  | cons c cs =>
    have b:=ZH f c (by rw[e];exact Z0K ..);rw[e] at g;refine digitsVal_pos ?_;have:c≠48:=λq=>g (by rw[q];rfl);lia
 rw[if_neg 00];rw[if_neg f,if_neg (λq=>f q.1)];rfl
def z8a{x:Str}(h:x.cps.toList.head?≠some 45):Zk x=num? x:=by
 unfold Zk num?;have e:Y9 x=x:=by unfold Y9;rw[if_neg h]
 rw[e];by_cases f:xn 13 x;rw[if_pos f,if_pos ⟨f,λz=>h (by rw[z];rfl)⟩];exact jQ f;rw[if_neg f,if_neg λq=>f q.1]
def Z3F{x:Str}{n:Int}(h:Zk x=some n)(p:0<=n):num? x=some n:=by
 by_cases hd:x.cps.toList.head?=some 45;rw[z0r hd] at h;cases hn:num? (Txt.slice x (some 1) none) with
 | none=>rw[hn] at h;cases h
 | some m =>
   rw[hn,Option.bind_some] at h;have:=Z1P hn;split at h;cases h;cases h;lia
 rw[← z8a hd];exact h
def Z0a{x:Str}(f:xn 13 (Y9 x)):∃ n,PySem.intText? x=some n/\x.cps.size<=14:=by
 by_cases h:x.cps.toList.head?=some 45;have e:Y9 x=Txt.slice x (some 1) none:=by unfold Y9;rw[if_pos h]
 rw[e] at f;have ct:=QE h;have ex:x.cps.toList=45 :: x.cps.toList.tail:=by
  cases e:x.cps.toList with
  | nil=>rw[e] at h;cases h
  | cons c cs=>rw[e] at h;cases h;rfl
 have a:=f.2.1;rw[← Z07,ct,List.length_tail,Z07] at a;exact⟨_,intText_neg ex (ct ▸ ZH f) (ct ▸ ua f) (by show x.cps.size<=4300;lia),00⟩;have e:Y9 x=x:=by unfold Y9;rw[if_neg h]
 rw[e] at f;exact⟨_,jQ f,Z0X f.2.1 01⟩
noncomputable def UP(c:Nat)(w:Str):Option (Int×Int):=match Txt.split w (L2.zQ c) with
 | [u,v]=>(Zk u).bind λa=>(Zk v).bind λb=>some (a,b)
 | _=>none
def z4c{x:Str}(h:UP c x=some A):∃ u v,Txt.split x (L2.zQ c)=[u,v]/\Zk u=some A.1/\Zk v=some A.2:=by
 unfold UP at h;split at h;rename_i u v e;cases hu:Zk u with
 | none=>rw[hu] at h;cases h
 | some a =>
   cases hv:Zk v with
   | none=>rw[hu,hv] at h;cases h
   | some b=>rw[hu,hv] at h;cases h;exact⟨u,v,e,hu,hv⟩
 cases h
def Z4o{x:Str}(e:Txt.split x (L2.zQ c)=[u,v])(f:Zk u=some a)(d:Zk v=some b):UP c x=some (a,b):=by
 unfold UP;rw[e];show (Zk u).bind _=_;rw[f];show (Zk v).bind _=_;rw[d];rfl
structure Yu(x:Str)(n:Int)(ps:LI):Prop where
 words:∃ wp ws,Txt.split x (L2.zQ 32)=("pages":Str) :: wp :: ws/\Zk wp=some n/\ws.map (UP 62)=ps.map some
 n1:1<=n
 n12:n<=12
 few:ps.length<=60
 rng:∀ p∈ps,0<=p.1/\p.1<n/\0<=p.2/\p.2<n
 up:ps.Pairwise L2.yf
noncomputable def z6B(x:Str)(A:Int×Int):Prop:=UP 47 x=some A/\1<=A.2/\Int.gcd A.1 A.2=1
end Pw
namespace L2
structure Fly(B:Heap)(l:List Env)(a:Addr)(cls a0:Value)(h:Heap):Prop where
 stay:B.StaysIn h
 new:B.get? a=none
 fr:h.FunFrames B l
 tr:∃ fl,h.TracedAtW B a cls a0 fl
def z9L(x:Fly B l a cls a0 s.heap)(k:∀ h',Fly B l a cls a0 h'->s.heap.UpToSlots h'->Q () { s with heap:=h' }):wpAny M A (setFlight 024 fr) Q E s:=by
 obtain⟨x1,x2,x3,fl,u,vs,T,y,n,j,v,p,r,t,m,i,h,w⟩:=x;have sz:3<n.size:=(Array.getElem?_eq_some_iff.mp w).1;generalize hv:(fr.elim Value.none λf=>rawInt f)=nv;have d:∀ b,b≠T->(s.heap.update T (Obj.mapFields (·.setIfInBounds 3 nv))).get? b=s.heap.get? b:=λb c=>Z52 _ _ (Z3O c)
 have rc:∀ b o,s.heap.get? b=some o->(∀ ws,o.data≠.fields ws)->b≠T:=λb o c hn q=>by
  subst q;rw[i] at c;cases c;exact hn n h
 unfold setFlight;refine wpAny_bind (wpAny_field j p r ?_);rw[if_pos (by simp:(Value.ref T != Value.none)=true),hv];refine wpAny_setField i h sz (k _ ⟨λb o c=>?_,x2,x3.of_keeps λb o c hn=>⟨o,(d b (rc b o c hn)).trans c,rfl⟩,nv,?_⟩ λb o c hn=>⟨o.slots,(d b (rc b o c hn)).trans c⟩);refine (d b λq=>?_).trans (x1 b o c);subst q;rw[t] at c;cases c;exact⟨u,vs,T,_,_,(d a (Z3O m)).trans j,v,p,r,t,m,Heap.get?_update_self _ i (Obj.isFreed_of_fields (Obj.data_mapFields h _)),Obj.data_mapFields h _,by simp[sz]⟩
def z1P(j:A.frames=some (env :: outer))(hf:env.frame=some L)(x:Fly B (env :: outer) a cls a0 s.heap)(k:∀ h',Heap.FlyingW B outer a cls a0 h'->s.heap.UpToSlots h'->Q () { s with heap:=h' }):wpAny M A (leaving env 024) Q E s:=by
 obtain⟨x1,x2,x3,fl,tr⟩:=x;unfold leaving;refine wpAny_bind ?_;have land:∀ f,Heap.HeldW B (env :: outer) a cls a0 L f->s.heap.UpToSlots f->wpAny M A (setFlight 024 none) Q E { s with heap:=f }:=λf w H=>by
  refine wpAny_landsW w λD h G=>?_;obtain⟨k1,k2,⟨_,_,k3⟩,n⟩:=h;exact k D ⟨k1,k2,k3,n⟩ (H.trans G)
 by_cases e:fl=rawInt L;subst e;exact wpAny_noteFrame_againW hf tr (land _ ⟨x1,x2,x3,tr⟩ (Heap.UpToSlots.refl _));obtain⟨I,vs,T,J,u,t,⟨F,m⟩,p,v,C,z,i,l,r⟩:=tr;subst F;have sz:3<u.size:=(Array.getElem?_eq_some_iff.mp r).1;have d:∀ b,b≠T->(s.heap.update T (Obj.mapFields (·.setIfInBounds 3 Value.none))).get? b=s.heap.get? b:=λb c=>Z52 _ _ (Z3O c)
 have rc:∀ b o,s.heap.get? b=some o->(∀ ws,o.data≠.fields ws)->b≠T:=λb o c hn q=>by
  subst q;rw[i] at c;cases c;exact hn u l
 unfold noteFrame;simp only[hf];refine wpAny_bind (wpAny_field t p v ?_);rw[if_pos (by simp:(Value.ref T != Value.none)=true)];refine wpAny_bind (wpAny_field i l r ?_);have ne:(fl == rawInt L)=false:=by simpa using e
 rw[ne,if_neg Z0U];refine wpAny_bind (wpAny_setField i l sz ?_);refine wpAny_entryW j (x3.of_keeps λb o c hn=>⟨o,(d b (rc b o c hn)).trans c,rfl⟩) hf ((d a (Z3O z)).trans t) (λb o c=>?_) x2 p (Array.getElem?_eq_some_iff.mp v).1 m λf y=>?_;refine (d b λq=>?_).trans (x1 b o c);subst q;rw[C] at c;cases c;obtain⟨k1,k2,k3,n⟩:=y;exact land f ⟨k1,x2,k2,k3⟩ λb o c hn=>n b o ((d b (rc b o c hn)).trans c) hn
def Z2i{α:Type}(x:Fly B l a cls a0 s.heap)(k:∀ h',Fly B l a cls a0 h'->s.heap.UpToSlots h'->E 024 { s with heap:=h' }):wpAny M A (PySem.passOn what 024 env:Sem α) (λ_ _=>False) E s:=by
 obtain⟨_,_,_,_,i,vs,T,h,m,b,j,c,f,_⟩:=id x;unfold PySem.passOn;refine wpAny_bind (wpAny_field b c f ?_);rw[if_neg (by simp:¬ (Value.ref T == Value.none)=true)];exact wpAny_bind (z9L x λh' d u=>wpAny_throw (k h' d u))
noncomputable def z8Y(X:Cx)(C:Addr)(E:XK):Prop:=∀ (a t:Addr) (B:Heap) (H':Hp) (s':Shared),X.Ok->s'.os=X.s₀.os->AllBare s'.gens->Fly B X.stack a 035 (.ref t) s'.heap->Xx X.prog X.w H' B->UnB X.fs X.H₀ H' X.s₀.heap B s'.heap->E 035 none H'->X.xe 024 s'
def Z6n{mg:SV}:z8Y 027 C E:=by
 intro a t B H' s' ok os bare fl hok u i;show wpAny (model P w) (A.deeper 04) (leaving 04 024) _ _ _;refine z1P (outer:=outer) (L:=s.heap.objs.size) ok.frames rfl fl λh' x1 x2=>?_;refine⟨a,t,B,H',rfl,os,bare,x1,hok,⟨u.keep,λb o q n h=>?_,u.free,u.there,u.tups,u.frzs,u.tbls⟩,i⟩;obtain⟨sl,j⟩:=u.slot b o q n h;obtain⟨_,o',k,hd⟩:=ok.xo.mem h;have c:s.heap.get? b=some o':=k;rw[q] at c;cases c;obtain⟨d,l⟩:=x2 b _ j hd;exact⟨d,l⟩
def jd{h h' B B':Heap}:∀ {l:List Env},h.FunFrames B l->(∀ b,B.get? b=none->B'.get? b=none)->(∀ b∈frs l,h'.get? b=h.get? b)->h'.FunFrames B' l
 | [],_,_,_=>trivial
 | env :: l,⟨k,⟨L,o,hf,hn,ho,hd⟩,r⟩,hB,hh=>by
   have m:L∈frs (env :: l):=by unfold frs;rw[Z3P,hf];exact Z0K ..
   refine⟨k,⟨L,o,hf,hB _ hn,(hh L m).trans ho,hd⟩,jd r hB λb a=>hh b ?_⟩;unfold frs at a ⊢;rw[Z3P,hf];exact Z03 _ a
noncomputable def Yp(X:Cx)(N':List Str)(scope:Scope)(cl:List (Str×Addr))(C:Addr)(s:Shared)(H:Hp)(fp:List Addr)(Xc:Addr)(E:XK):Cx :=
 (z7 X N' scope cl C s H fp).xR λe s2=>∃ pins a H1 s1,Inv 015 pins a H1 s1/\ye X.prog X.w Xc X.stack H1 s1 E e s2
def Z5o:Passes (ye X.prog X.w Xc) (Yp X N' scope cl C s H fp Xc E) E:=λpins σ H1 s1 e s2 I h=>⟨pins,σ,H1,s1,I.yQ,h⟩
def hidden:(hideAll h [b]).get? b=none:=hideAll_none [b] (Z04.mpr rfl)
def z6r{X:Cx}{s3:Shared}{σ:St}{e:Value}(hX:z8Y X Xc E)(hex:X.ex=[])(i:X.stack=X.env :: X.outer)(y:X.env.frame=some X.env.locals)(I3:Inv X pins σ H3 s3)(f3:∀ b∈fp,xg X pins H3 b)(hx:(Yp X N' scope cl s3.heap.objs.size s3 H3 fp Xc E).xe e s2) :
 notedBy 06 X.A (compEnvC scope cl s3.heap.objs.size X.env) (λx P=>compPost 06 X.A X.xe none Q acc s3.heap.objs.size (.error x) P) e s2:=by
 obtain⟨O,σ1,H1,s1,I1,a,t,B,H',rfl,os,bare,fl,hok,u,hE⟩:=hx;show wpAny 06 X.A (noteFrame 024 X.env) _ _ s2;have N:X.A.frames=some (X.env :: X.outer):=by rw[← i];exact I3.ok.frames
 refine wpAny_looks_onW (env:=X.env) (outer:=X.outer) N y (by rw[← i];exact fl) λh2 held u2=>?_;rw[← i] at held;generalize hC:s3.heap.objs.size=C0 at *;obtain⟨I,⟨p,es,ep,L,S,r⟩,_⟩:=I1.loc;have below:∀ b o,s3.heap.get? b=some o->b≠C0:=λb o q z=>by
  have:=Z0w q;rw[z,← hC] at this;exact Z2I _ this
 have Y:C0∉frs X.stack:=λz=>by
  obtain⟨_,o,ho,_⟩:=I3.stack.mem z;exact below C0 o ho rfl
 have j:s1.heap.get? C0=some p:=L;have U:B.get? C0=some p:=u.keep C0 p j I1.free Y;have K:h2.get? C0=some p:=held.1 _ _ U;have s:∀ b,B.get? b=none->b≠C0:=λb q z=>by rw[z,U] at q;cases q
 have k:∀ b,B.get? b=none->(hideAll B [C0]).get? b=none:=λb q=>by
  cases e:(hideAll B [C0]).get? b with
  | none=>rfl
  | some o=>rw[of_hideAll _ e] at q;cases q
 have G:∀ b o,(hideAll B [C0]).get? b=some o->b≠C0:=λb o q z=>by rw[z,hidden] at q;cases q
 refine⟨I,⟨p,es,ep,K,S,r⟩,λh' sb W _=>?_⟩;have C:∀ b,b≠C0->h'.get? b=h2.get? b:=sb.2;have J:Fly (hideAll B [C0]) X.stack a (.ref Xc) (.ref t) h':=by
  obtain⟨g1,g2,g3,oe,vs,T,oT,ts,p1,p2,p3,p4,Z,p6,p7,p8⟩:=held;refine⟨λb o q=>(C b (G b o q)).trans (g1 b o (of_hideAll _ q)),k a g2,jd g3 k λb d=>C b λz=>Y (z ▸ d),_,oe,vs,T,oT,ts,(C a (s a g2)).trans p1,p2,p3,p4,k T Z,p6,(C T (s T Z)).trans p7,p8⟩
 refine Z2i J λh3 H u3=>?_;have c:∀ b,b∉X.ex:=λb=>by rw[hex];simp
 have l:∀ b o,X.s₀.heap.get? b=some o->b∉X.fs->b∉frs X.stack:=λb o q d z=>by
  rcases Z08.mp (I3.uG b z) with e | e;have:=Z0N (Z0w q) I3.ok.above;rw[e] at this;exact Z2I _ this;exact d e
 have f:∀ b o,X.s₀.heap.get? b=some o->b∉fp:=λb o q z=>by
  rcases (f3 b z).2.2.2.1 with e | e;exact c b e;exact Z2I _ (Z0N (Z0w q) e)
 have h:∀ b o,X.s₀.heap.get? b=some o->X.H₀ b=none->H1 b=none:=λb o q n=>by
  obtain⟨m,q3⟩:=I3.base.there b o q (c b);exact I1.base.free b m q3 (I3.base.free b o q n (c b)) (f b o q)
 refine hX a t (hideAll B [C0]) H' _ I3.ok (os.trans (I1.os.trans I3.os)) bare H (z3A hok λb d=>?_) ⟨λb o q n d=>?_,λb o q n d=>?_,λb o q n=>?_,λb o q d=>?_,λb xs q=>u.tups b xs (I1.base.tups b xs (I3.base.tups b xs q)),λb o v q=>u.frzs b o v (I1.base.frzs b o v (I3.base.frzs b o v q)),λb ps q=>?_⟩ hE;rw[Z04.mp d];exact u.free C0 p j I1.free;have q3:=I3.base.keep b o q n d (c b);have q1:=I1.base.keep b o q3 (I3.base.free b o q n (c b)) (l b o q d) (f b o q);exact hideAll_get _ (u.keep b o q1 (h b o q n) (l b o q d)) (by rw[Z04];exact below b o q3);obtain⟨sl3,q3⟩:=I3.base.slot b o q n d (c b);have D:b∈frs X.stack:=by
  rw[i];unfold frs;rw[Z3P,y];exact Z03 _ d
 obtain⟨sl1,q1⟩:=I1.base.slot b _ q3 (I3.base.free b o q n (c b)) D (f b o q);obtain⟨sl2,q2⟩:=u.slot b _ q1 (h b o q n) D;obtain⟨_,o',F,hd⟩:=I3.ok.xo.mem d;rw[q] at F;cases F;obtain⟨sl4,q4⟩:=u2 b _ q2 hd;have q5:h'.get? b=_:=(C b (below b _ q3)).trans q4;obtain⟨M,q6⟩:=u3 b _ q5 hd;exact⟨M,q6⟩;obtain⟨m,q3⟩:=I3.base.there b o q (c b);obtain⟨R,q1⟩:=I1.base.there b m q3 (f b o q);exact u.free b R q1 (h b o q n);obtain⟨m,q3⟩:=I3.base.there b o q (c b);obtain⟨R,q1⟩:=I1.base.there b m q3 (f b o q);obtain⟨oB,qB⟩:=u.there b R q1 (l b o q d);exact⟨oB,hideAll_get _ qB (by rw[Z04];exact below b m q3)⟩;obtain⟨m3,e3⟩:=I3.base.tbls b ps q;obtain⟨I,e1⟩:=I1.base.tbls b _ e3;obtain⟨m2,F⟩:=u.tbls b _ e1;exact⟨m3 ++ I ++ m2,by rw[F,Array.append_assoc,Array.append_assoc,Array.append_assoc]⟩
def UA{pos:Pos}(I:Nat->Shared->Prop)(turn:∀ n s,I n s->wpAny 07 A (pyNext it) (λr s₁=>match r with
  | none=>R (.ok .next) s₁
  | some v=>wpAny 07 A (letOwnedTupleGo target it v) (λ_ b=>wpAny 07 A (assign target env v) (λ_ f =>
   wpAny 07 A (forIn ifs true λc r=>if r=true then do let ok ←isTrue c env (eval c env);pure (ForInStep.yield ok) else pure (ForInStep.yield r)) (λok a =>
    if ok=true then wpAny 07 A (eval elt env) (λx i =>
     wpAny 07 A (call (.builtin "list.append") [acc,x]) (λ_ k=>∃ m,m<n/\I m k) Ex i) Ex a
    else ∃ m,m<n/\I m a) Ex f) Ex b) Ex s₁) Ex s)(o:∀ x s',Ex x s'->notedBy 07 A env (λx u=>R (.error x) u) x s')(n:Nat)(h:I n s) :
 codeAny 07 A (.compLoop (.ListComp elt [⟨target,iter,ifs,0⟩] scope pos) 0 it acc env) R s:=by
 refine codeAny_loop rfl I (λn s y=>?_) n h;show wpAny _ A ((compTurn (.ListComp elt [⟨target,iter,ifs,0⟩] scope pos) 0 it acc env).onRaise (λx=>do noteFrame x env;theTreesLotGoes x)) _ _ s;refine wpAny_noted ?_;rw[compTurn_list];refine wpAny_bind (wpAny_standAt (wpAny_bind (wpAny_mono (turn n s y) (λr s₁ j=>?_) o)));cases r with
 | none=>exact wpAny_pure j
 | some v =>
   refine wpAny_bind (wpAny_mono j (λ_ b l=>?_) o);refine wpAny_bind (wpAny_mono l (λ_ f p=>wpAny_bind (wpAny_mono p (λok a d=>?_) o)) o);cases ok with
   | false=>exact wpAny_pure ⟨rfl,d⟩
   | true =>
     exact wpAny_bind (wpAny_bind (wpAny_mono d (λx i q=>wpAny_bind (wpAny_mono q (λ_ k t=>wpAny_pure (wpAny_pure ⟨rfl,t⟩)) o)) o))
def z4z{pos:Pos}{g:TG}(hX:z8Y X Xc E)(hex:X.ex=[])(hst:X.stack=X.env :: X.outer)(hfm:X.env.frame=some X.env.locals)(M:X.calm=true)(hi:PI X tg iter wi)(hclos:closureFor scope X.env=pure cl)(hcl:∀ x c,cl.lookup x=some c->X.env.cells.lookup x=some c)(hcell:∀ y∈scope.names,y.2≠.cell)(G:scope.kind=.function)(S:∀ y∈scope.names,y.2=.local->scope.names.lookup y.1=some .local)(Z:∀ x,029->∃ c,cl.lookup x=some c)(Y:Uq X (relabel scope X.env) N' ks)(hg:∀ C s H fp,PG (Yp X N' scope cl C s H fp Xc E) tg g)(ht:∀ C s H fp,PTs (Yp X N' scope cl C s H fp Xc E) ifs tt)(he:∀ C s H fp,PE (Yp X N' scope cl C s H fp Xc E) elt te)(hs:∀ x,foldedSetIterable iter X.env x=pure x:=by intro _;rfl):PE X 011 (Qk wi ks g tt te):=by
 intro pins s σ H Q I h;rw[eval_ListComp];refine wpAny_comprehension_free (use:=none) rfl hs hclos G S (z8 (hi pins s σ H _ I h) λv s1 h1=>z8 h1 λitv s2 h2=>?_);obtain⟨it,fp,tn,J,H2,e,I2,T,st2,f2,R⟩:=h2;subst e;refine wpAny_newObj_type (wpAny_newFunctionEnv hcell (by intro y hy;simp at hy) (λt B F=>?_) G);dsimp only at B F ⊢;have hD:H2 s2.heap.objs.size=none:=I2.hok.fresh (Z01 _);obtain⟨W,⟨m0,w0⟩,turn⟩:=R _ hD;generalize hs3:({ s2 with heap:=s2.heap.push { cls:=.type "list",dict:=none,data:=.seq ([]:List Value).toArray } }:Shared)=s3;have e3:s3.heap=s2.heap.push { cls:=.type "list",dict:=none,data:=.seq ([]:List Value).toArray }:=by rw[← hs3]
 have I3:Inv X pins σ (upd H2 s2.heap.objs.size (.lst [])) s3:=by
  rw[← hs3];exact I2.laid (t':=s2.toks) (λb o e=>ZB _ e) (Z01 _) ⟨Z19 _,[],0,.nil,Z10 _ rfl⟩
 generalize hD0:s2.heap.objs.size=D at *;generalize hH3:upd H2 D (.lst [])=H3 at *;rw[← e3] at B F ⊢;have kp:∀ b o,s3.heap.get? b=some o->t.get? b=some o:=λb o e=>F.extBut b o (Z13 (Z0w e)) (ZB _ e);have L:∀ b∈fp,xg X pins H3 b/\b<s3.heap.objs.size:=λb a=>by
  obtain⟨o,ho,_⟩:=T.obj 0 _ st2 b a;have hlt:b<D:=by rw[← hD0];exact Z0w ho
  refine⟨⟨?_,(f2 b a).2⟩,?_⟩;rw[← hH3,zC (Z13 hlt)];exact (f2 b a).1;rw[e3,Z4L,hD0];exact Nat.lt_succ_of_lt hlt
 have st3:tn 0 t:=T.keep 0 s2.heap t st2 λb a o e=>kp b o (by rw[e3];exact ZB _ e);have j:∀ x c,cl.lookup x=some c->X.env.cells.lookup x=some c:=hcl;have P:∀ b∈fp,b∉frs X.stack:=λb a z=>by
  rcases Z08.mp (I3.uG b z) with e | e;exact (L b a).1.2.1 e;exact (L b a).1.2.2.1 e
 have Cfresh:H3 s3.heap.objs.size=none:=I3.hok.fresh (Z01 _);have ok':(z7 X N' scope cl s3.heap.objs.size s3 H3 fp).Ok:=by
  refine⟨I3.ok.mod,G,I3.ok.glob,I3.ok.blt,Z01 _,λx y c h1 h2=>I3.ok.inj x y c (j x c h1) (j y c h2),λx hx=>Z x hx,λx c hf _=>absurd (show false=true from hf) Z0U,λz=>I3.ok.hd z,I3.ok.frames,.inl rfl,
   λb a=>⟨Z13 (L b a).2,λx c e=>(L b a).1.2.2.2.2.1 x c (j x c e)⟩,I3.bs,Z0X I3.ok.bsz I3.sz,λb o e a=>?_,λb a=>P b a,I3.stack,I3.YR⟩
  rcases (L b a).1.2.2.2.1 with z | z;exact I3.ok.noex b o e z;exact absurd (Z0N (Z0w e) (Z0X I3.ok.bsz z)) (Z2I _)
 have I4:Inv 010 [] (V8 ks σ) H3 { s3 with heap:=t,toks:=s3.toks+([]:List (Str×Value)).length }:=by
  refine⟨ok',rfl,I3.bare,Un.kept kp,⟨_,B,λi x v e1 e2 e3'=>?_⟩,λx c e=>?_,Cfresh,λx c e=>I3.freeC x c (j x c e),λp hp=>absurd (show p∈([]:List 013) from hp) 05,I3.hok.kept kp,?_⟩;have K:(V8 ks σ)[i]?=some (some v):=e2;unfold V8 at K;rw[Z1a] at K;cases hk:ks[i]? with
  | none=>rw[hk] at K;cases K
  | some o =>
    rw[hk] at K;cases o with
    | none=>cases K
    | some k =>
      have ev:σ.getD k none=some v:=Z12 K;obtain⟨c1,c2,c3⟩:=Y.get e1 hk;obtain⟨m,hn,hl⟩:=I3.loc;have es:σ[k]?=some (some v):=by
       rw[Z06] at ev;cases q:σ[k]? with
       | none=>rw[q] at ev;cases ev
       | some z=>rw[q] at ev;exact congrArg some ev
      obtain⟨u,r,l⟩:=hl k x v c1 es (.inr (.inl c2));refine⟨u,r,.inr ⟨c3,?_⟩⟩;rcases l with⟨l1,_⟩|⟨_,c,l2,l3⟩;have l1':X.env.scope.names.lookup x=some .local:=l1;rw[c2] at l1';cases l1';obtain⟨c',hc'⟩:=Z x c3;have:X.env.cells.lookup x=some c':=j x c' hc';rw[l2] at this;cases this;refine⟨c,hc',?_⟩;obtain⟨o,ho,hd⟩:=l3;exact⟨o,kp c o ho,hd⟩
  obtain⟨v,o,ho,hd⟩:=I3.cell x c (j x c e);exact⟨v,o,kp c o ho,hd⟩;show (V8 ks σ).length=N'.length;unfold V8;rw[Z00,Y.len]
 have Cne:∀ p∈X.pn ++ pins,p.1≠s3.heap.objs.size:=λp hp=>Z13 (Z0w (I3.pin p hp).1);have back:∀ {f:St}{H':Hp}{s':Shared},Inv 010 [] f H' s'->∀ N:Heap,Heap.SameBut s3.heap.objs.size s'.heap N->Inv X pins σ H' { s' with heap:=N }:=λ{f H' s'} I' N sb=>by
  have J1:Inv X pins σ H' s':=I3.z4i (ch:=fp) I'.os I'.base I'.hok I'.bare λb a=>⟨(L b a).1.2.2.2.1,(L b a).1.2.1,(L b a).1.2.2.2.2.1,(L b a).1.2.2.2.2.2⟩;refine J1.turned (t':=s'.toks) (it:=s3.heap.objs.size) (λb o a e=>(sb.2 b a).trans e) I'.free (Z3L I3.lt) (.inr I3.sz) (λx c e=>?_) Cne;obtain⟨v,q⟩:=I3.cell x c e;exact Z13 q.lt
 have O:∀ {H':Hp},(∀ b∈fp,H' b=none)->∀ b∈fp,xg 010 [] H' b:=λhn b a =>
  ⟨hn b a,Z13 (L b a).2,P b a,.inl a,λx c e=>(L b a).1.2.2.2.2.1 x c (j x c e),λp hp=>absurd (show p∈([]:List 013) from hp) 05⟩
 have loop:codeAny 06 X.A (.compLoop 011 0 (.ref it) 025 (compEnvC scope cl s3.heap.objs.size X.env))
  (compPost 06 X.A X.xe none (EP X pins σ Q) 025 s3.heap.objs.size) { s3 with heap:=t,toks:=s3.toks+([]:List (Str×Value)).length }:=by
  refine UA (Ex:=(Yp X N' scope cl s3.heap.objs.size s3 H3 fp Xc E).xe) (λn s'=>∃ i ys f H',Inv 010 [] f H' s'/\tn i s'.heap/\(∀ b∈fp,H' b=none)/\W i n ys f H') ?_ (λx s2 hx=>z6r hX hex hst hfm I3 (λb a=>(L b a).1) hx) m0 ⟨0,[],_,_,I4,st3,λb a=>(L b a).1.1,w0⟩;rintro n s5 ⟨i,ys,U,H5,I5,st5,fr5,w5⟩;obtain⟨hD5,tq⟩:=turn i n ys U H5 w5;rcases tq with⟨stop,q⟩|⟨go,step⟩;refine z8 (T.done 010 rfl rfl rfl M i [] s5 U H5 _ I5 (O fr5) st5 stop) λr s6 ⟨hr,I6⟩=>?_
  subst hr;obtain⟨m,hn,_⟩:=I6.loc;exact⟨m,hn,λN sb=>⟨.ref D,H5,back I6 N sb,rfl,q⟩⟩;refine z8 (T.item 010 rfl rfl rfl M i [] s5 U H5 _ I5 (O fr5) st5 go) λr s6 zq=>?_;obtain⟨u,hr,h6⟩:=zq;subst hr;refine z8 h6 λ_ s7 zq=>?_;obtain⟨x,H7,I7,r7,y7,st7,fr7⟩:=zq;have I7':=I7.pinned (O fr7) (T.obj _ _ st7);refine z8 (hg _ _ _ _ _ s7 U H7 x u _ (I7'.xR _) r7 (step x H7 y7)) λ_ s8 zq=>?_;obtain⟨σ8,H8,I8,q8⟩:=zq;refine z8 (ht _ _ _ _ _ s8 σ8 H8 _ I8 q8) λok s9 zq=>?_;obtain⟨H9,I9,q9⟩:=zq;have again:∀ {f:St}{H':Hp}{s':Shared}{ys':List V},Inv (Yp X N' scope cl s3.heap.objs.size s3 H3 fp Xc E) ([] ++ vn fp s7.heap) f H' s'->(∃ m',m'<n/\W (i+1) m' ys' f H')->
   ∃ m',m'<n/\∃ i ys f H',Inv 010 [] f H' s'/\tn i s'.heap/\(∀ b∈fp,H' b=none)/\W i m' ys f H':=λ{f H' s' ys'} I0 hw=>by
   have I':=I0.yQ;obtain⟨m',hm,w'⟩:=hw;refine⟨m',hm,i+1,ys',f,H',I'.xD,T.keep _ _ _ st7 λb a o e=>(I'.pin (b,o) (Z1g _ (Z1g _ (yg a e)))).1,λb a=>?_,w'⟩;obtain⟨o,e,d⟩:=T.obj _ _ st7 b a;exact (I'.pin (b,o) (Z1g _ (Z1g _ (yg a e)))).2.1
  cases ok with
  | false =>
    rw[if_neg Z0U] at q9 ⊢;exact again I9 q9
  | true =>
    rw[if_pos rfl] at q9 ⊢;refine z8 (he _ _ _ _ _ s9 σ8 H9 _ I9 q9) λy s10 zq=>?_;obtain⟨yv,H10,I10,r10,q10,z10,w10⟩:=zq;refine z8 (yG _ s10 σ8 H10 025 [yv] 025 [y] (λv H'=>v=.Zc/\H'=upd H10 D (.lst (ys ++ [yv]))) I10 rfl (.cons r10 .nil) ⟨D,ys,yv,rfl,rfl,q10,z10,rfl,rfl⟩) λ_ s11 zq=>?_;obtain⟨_,H11,I11,_,_,e11⟩:=zq;subst e11;exact again I11 w10
 have es:({ s3 with heap:=t,toks:=s3.toks+([]:List (Str×Value)).length }:Shared)={ s2 with heap:=t,toks:=s2.toks+([]:List (Str×Value)).length }:=by rw[← hs3]
 rw[es] at loop;exact codeAny_compStart_list loop (T.self _ 0 _ _ _ st3 loop)
def z5U{pos:Pos}{g:TG}(v:z8Y X Xc E)(hex:X.ex=[])(o:X.stack=X.env :: X.outer)(m:X.env.frame=some X.env.locals)(N':List Str)(q:List (Option Nat))(f:X.calm=true)(hi:PI X tg iter wi)(d:∀ y∈scope.names,y.2=.free->X.env.scope.names.lookup y.1=some .cell)(a:∀ y∈scope.names,y.2≠.cell)(c:scope.kind=.function)(b:∀ y∈scope.names,y.2=.local->scope.names.lookup y.1=some .local)(i:Uq X (relabel scope X.env) N' q)(B:∀ cl C s H fp,PG (Yp X N' scope cl C s H fp Xc E) tg g)(w:∀ cl C s H fp,PTs (Yp X N' scope cl C s H fp Xc E) ifs tt)(he:∀ cl C s H fp,PE (Yp X N' scope cl C s H fp Xc E) elt te)(A:∀ x,foldedSetIterable iter X.env x=pure x:=by intro _;rfl):PE X 011 (Qk wi q g tt te):=by
 intro pins s σ H Q I h;obtain⟨cl,t,r,p⟩:=X7 (scope:=scope) (env:=X.env) λy j hf=>I.ok.has y.1 (.inl (d y j hf));refine z4z v hex o m f hi t r a c b (λx l=>?_) i (B cl) (w cl) (he cl) A pins s σ H Q I h;have key:∀ k,(x,k)∈(relabel scope X.env).names->k=.cell\/k=.free->(x,NameKind.free)∈scope.names:=λk hm z=>by
  unfold relabel at hm;obtain⟨⟨n,u⟩,j,e⟩:=Z23.mp hm;dsimp only at e;split at e;rename_i hc;cases e;have:u=.free:=by simp at hc;exact hc.1.1
  rw[← this];exact j;cases e;rcases z with rfl | rfl;exact absurd rfl (a _ j);exact j
 rcases l with l | l;exact p x (key _ (Z32 l) (.inl rfl));exact p x (key _ (Z32 l) (.inr rfl))
noncomputable def z0V:Sp:=λvs H Q _=>∃ (x:Str) (m:Nat),vs=[.str x,.int (m:Int)]/\x.cps.size<=8000/\m<=100/\∀ H',zu H H'->Q (.bl (decide (Pw.xn m x))) H'
noncomputable def z2p(Xc:Addr):Sp:=λvs H Q E=>∃ x:Str,vs=[.str x]/\x.cps.size<=8000/\(∀ n H',Pw.Zk x=some n->zu H H'->Q (.int n) H')/\(Pw.Zk x=none->∀ H',zu H H'->E (.ref Xc) none H')
noncomputable def jU(Xc:Addr):Sp:=λvs H Q E=>∃ (x:Str) (c:Nat),vs=[.str x,.str (zQ c)]/\x.cps.size<=8000/\(∀ A p H',Pw.UP c x=some A->zu H H'->H p=none->H' p=some (.tup [.int A.1,.int A.2])->Q (.ref p) H')/\(Pw.UP c x=none->∀ H',zu H H'->E (.ref Xc) none H')
noncomputable def jS(K:FR):Sp:=λvs H Q _=>∃ (p:Addr) (A:Int×Int),vs=[.ref p]/\SqF K H p A/\Q (.bl (decide (1<=A.2/\Int.gcd A.1 A.2=1))) H
noncomputable def JP(K:FR)(Xc:Addr):Sp:=λvs H Q E=>∃ x:Str,vs=[.str x]/\x.cps.size<=8000/\(∀ A p H',Pw.z6B x A->zu H H'->Vj K H' p A->Q (.ref p) H')/\((¬ ∃ A,Pw.z6B x A)->∀ H',zu H H'->E (.ref Xc) none H')
noncomputable instance (p q:Int×Int):Decidable (yf p q):=by unfold yf;infer_instance
noncomputable def vt(K:FR):Sp:=λvs H Q _=>∃ (t:Addr) (us:List V) (ps:LI),vs=[.ref t]/\H t=some (.tup us)/\ZJ K H ps us/\ps.length<=62/\∀ H',zu H H'->Q (.bl (decide (ps.Pairwise yf))) H'
noncomputable def UB(n:Int)(ps:LI):Prop:=ps.length<=60/\(∀ p∈ps,0<=p.1/\p.1<n/\0<=p.2/\p.2<n)/\ps.Pairwise yf
noncomputable instance (n:Int) (ps:LI):Decidable (UB n ps):=by unfold UB;infer_instance
noncomputable def z0D(K:FR):Sp:=λvs H Q _=>∃ (t:Addr) (n:Int) (us:List V) (ps:LI),vs=[.int n,.ref t]/\H t=some (.tup us)/\ZJ K H ps us/\ps.length<=9000/\∀ H',zu H H'->Q (.bl (decide (UB n ps))) H'
noncomputable def z0n(K:FR):Sp:=λvs H Q _=>∃ (a:Addr) (n:Int) (ps:LI),vs=[.ref a]/\ZP K H a n ps/\ps.length<=9000/\∀ H',zu H H'->Q (.bl (decide (1<=n/\n<=12/\UB n ps))) H'
noncomputable def VW(K:FR)(Xc:Addr):Sp:=λvs H Q E=>∃ x:Str,vs=[.str x]/\x.cps.size<=8000/\(∀ n ps a H',Pw.Yu x n ps->zu H H'->ZP K H' a n ps->Q 024 H')/\((¬ ∃ n ps,Pw.Yu x n ps)->∀ H',zu H H'->E (.ref Xc) none H')
noncomputable def zY(H:Hp)(d:Addr)(B:Nat):Prop:=∃ a b c:Int,H d=some (.lst [.int a,.int b,.int c])/\0<=c/\c<=(B:Int)
def zY.up(h:zY H d B)(l:B<=B'):zY H d B':=let ⟨a,b,c,e,c0,c1⟩:=h;⟨a,b,c,e,c0,00⟩
def zY.same(h:zY H d B)(s:zu H H'):zY H' d B:=let ⟨a,b,c,e,r⟩:=h;⟨a,b,c,s _ _ e,r⟩
noncomputable def z1W:Sp:=λvs H Q _=>∃ (x:Int) (k:Nat),vs=[.int x,.int (k:Int)]/\∀ d H',zu H H'->H d=none->zY H' d k->Q (.ref d) H'
noncomputable def YW:Sp:=λvs H Q _=>∃ (d:Addr) (m:Int) (B:Nat),vs=[.ref d,.int m]/\0<m/\m<2 ^ 60/\B<=100000/\zY H d B/\∀ n H',0<=n->n<m->zY H' d (B+1)->Kp d H H'->Q (.int n) H'
def Q3(x y:Str):decide (V.str x=V.str y)=decide (x.cps.toList=y.cps.toList):=by
 rw[decide_eq_decide];constructor;intro e;rw[V.str.inj e];intro e;have:x=y:=Z4O (Z20.mp e);rw[this]
def Z0W:(Str.ofString "").cps.toList=[]:=03
def t_0:(Str.ofString "0").cps.toList=[48]:=03
def Z5X:(Str.ofString "-0").cps.toList=[45,48]:=03
def c_0:Str.ofString "0"=zQ 48:=03
def c_m:Str.ofString "-"=zQ 45:=03
def Z5S:Str.ofString "/"=zQ 47:=03
def Z4q:Str.ofString ">"=zQ 62:=03
def z6O:Str.ofString " "=zQ 32:=03
def uX(e:Str.ofString a=zQ c):[V.str (Str.ofString a)]=[V.str (zQ c)]:=by rw[e]
def Ui{x:Str}(h:x.cps.size<=8000):x.length<=sizeLine:=by rw[sizeLine_eq];exact Z0X h 01
def J4{x:Str}(m:x.cps.size<=8000)(h:H D=none)(k:∀ G,zu H G->G D=some (.lst ((x.cps.toList.map Pw.Xu).map V.bl))->Q 025 G) :
 QD (Its x) D (ZF 0) (λx H Q=>Q true H) (tOp (λx y H Q=>∃ i j,x=V.str i/\y=V.str j/\Q (V.bl !(Builtin.Str.occurrences j i 0 j.length 1).isEmpty) H) (z1e 0) (tC (V.str (Str.ofString "0123456789")))) Q [none] (upd H D (.lst [])):=by
 refine z5X (x:=x) (D:=D) (λi ys σ G=>zu H G/\G D=some 034/\ys=((x.cps.toList.take i).map Pw.Xu).map V.bl/\∃ v,σ=[v]) ?_ ?_ ?_ ?_;exact⟨zu.new h,zq,rfl,none,rfl⟩;rintro i ys σ G ⟨_,e,_⟩;exact e
 · rintro i c ys σ G l d ⟨f,a,rfl,v,rfl⟩
   dsimp only [ZF];rw[if_pos rfl];refine⟨_,rfl,_,_,rfl,rfl,a,?_,Wt.next d ⟨λb o e=>by rw[zC (zo e h)];exact f _ _ e,zq,?_,_,rfl⟩⟩;rw[Z00,Z00,Z22,Z07,sizeLine_eq];lia;rw[Z3a,Pw.z8b,Z35,Z34,l,Z16,Z16];rfl
 rintro ys σ G ⟨f,a,rfl,_⟩;rw[Z18 (by rw[Z07];exact Z01 _)] at a;exact k G f a
def zu.Zc(s:zu H G)(h:G q=none):H q=none:=by
 cases e:H q with
 | none=>rfl
 | some o=>rw[s _ _ e] at h;cases h
def z5I(p q:Int×Int):lexLe [p.1,p.2] [q.1,q.2]=decide (yf p q):=by
 have h:yf p q↔(p.1<q.1\/(p.1=q.1/\p.2<=q.2)):=Iff.rfl;rw[JK];split;rw[JK];split;exact (decide_eq_true (h.mpr 00)).symm;exact decide_eq_decide.mpr (by rw[h];lia);exact decide_eq_decide.mpr (by rw[h];lia)
noncomputable def adj:LI->List Bool
 | p :: q :: r=>lexLe [p.1,p.2] [q.1,q.2] :: adj (q :: r)
 | _=>[]
def z3V:∀ ps:LI,(adj ps).all id=decide (ps.Pairwise yf)
 | []=>by simp[adj]
 | [p]=>by simp[adj]
 | p :: q :: r=>by
   rw[adj,List.all_cons,z3V (q :: r),z5I];show (decide _ && decide _)=_;rw[← Bool.decide_and,decide_eq_decide];constructor;rintro⟨c,b⟩;refine Z54.mpr ⟨λz a=>?_,b⟩;rcases Z08.mp a with rfl | a;exact c;exact VO p q z c ((Z54.mp b).1 z a);intro h;exact⟨(Z54.mp h).1 q (Z0K ..),(Z54.mp h).2⟩
def z3G:∀ (ps:LI) (i:Nat) (p q:Int×Int),ps[i]?=some p->ps[i+1]?=some q->(adj ps)[i]?=some (lexLe [p.1,p.2] [q.1,q.2])
 | [],_,_,_,h,_=>by simp at h
 | [_],i,_,_,_,h=>by simp at h
 | a :: b :: r,0,p,q,h1,h2=>by
   simp at h1 h2;subst h1 h2;rfl
 | a :: b :: r,i+1,p,q,h1,h2=>by
   rw[adj,List.getElem?_cons_succ];exact z3G (b :: r) i p q (by simpa using h1) (by simpa using h2)
def JL:∀ ps:LI,(adj ps).length=ps.length - 1
 | []=>rfl
 | [_]=>rfl
 | a :: b :: r=>by rw[adj,Z09,JL (b :: r)];simp
def z8I{x:Int}(h0:0<M)(h:M<2 ^ 40):Sz 100000 (x % M):=yW 40 (by
 have a:=Int.emod_nonneg x (show M≠0 by lia);have b:=Int.emod_lt_of_pos x h0;lia)
def vC{x:Str}{n:Int}{qs:LI}(h:Pw.Yu x n ps)(h':Pw.Yu x m qs):n=m/\ps=qs:=by
 obtain⟨wp,ws,e,sn,i⟩:=h.words;obtain⟨f,d,c,a,b⟩:=h'.words;rw[e] at c;cases c;rw[sn] at a;rw[i] at b;refine⟨Z12 a,?_⟩;have:=congrArg (List.filterMap id) b;simpa[List.filterMap_map] using this
def z4a(l:List Nat):(l.map Pw.Xu).all id=l.all Pw.Xu:=by
 rw[List.all_map];rfl
noncomputable def z3u(CX:qq)(X:Cx)(E:St->XK):Prop:=∀ (pins:List 013) (σ:St) (H:Hp) (s:Shared) (e:Value) (s':Shared),Inv X pins σ H s->CX X.stack H s (E σ) e s'->X.xe e s'
def zY.lst{H:Hp}{d:Addr}{B:Nat}(h:zY H d B):∃ xs,H d=some (.lst xs):=let ⟨_,_,_,e,_⟩:=h;⟨_,e⟩
def zY.ne(h:zY H d B)(n:H l=none):l≠d:=λz=>by
 obtain⟨_,e⟩:=h.lst;rw[z,e] at n;cases n
def zY.kp(h:zY H d B)(k:Kp l H H')(n:d≠l):zY H' d B:=let ⟨a,b,c,e,r⟩:=h;⟨a,b,c,k _ _ e n,r⟩
def zK(x y:Str):(x ++ y).cps.size=x.cps.size+y.cps.size:=by
 rw[Z17,Z57]
def QG(x:Str):x.length=x.cps.size:=rfl
def YD{xs zs:List Str}(e:H l=some (.lst (xs.map V.str)))(a:H b=some (.lst (zs.map V.str)))(few:xs.length+zs.length<=100000)(k:∀ p H',zu H H'->H p=none->H' p=some (.lst ((xs ++ zs).map V.str))->Q (.ref p) H'):Z1s (.ref l) (.ref b) H Q :=
 ⟨l,b,_,_,rfl,rfl,e,a,by rw[Z00,Z00,sizeLine_eq];lia,λp H' s n e=>k p H' s n (by rw[Z16];exact e)⟩
def ZL{i:Int}(h0:0<=i)(a:i<=99):(Str.ofString (toString i)).cps.size<=2:=by
 have key:∀ n:Nat,n<=99->(Str.ofString (toString ((n:Nat):Int))).cps.size<=2:=03
 obtain⟨n,rfl⟩:=Z3T h0;exact key n 00
def z0Q(y:A.handled=none)(hit:s.heap.IsRevIter I l ((items.size:Int) - 1))(hl:s.heap.IsList l items)(t:l≠I)(hn:items.size<=sizeLine)(q:∀ h' B,(∀ b o,b≠I->s.heap.get? b=some o->h'.get? b=some o)->Q items.reverse.toList { s with heap:=h',toks:=B }) :
 wpAny 07 A (collect (.ref I)) Q E s:=by
 have h:I<s.heap.objs.size:=by obtain⟨o,z,_⟩:=hit;exact Z0w z
 have m:l<s.heap.objs.size:=by obtain⟨o,z,_⟩:=hl;exact Z0w z
 have n:s.heap.objs.size∉[I,l]:=λhm=>by
  rcases Z08.mp hm with z | z;exact Z3L h z;exact Z3L m (Z04.mp z)
 unfold collect;refine wpAny_bind (wpAny_runValue (codeAny_builtin F.entry_proto_collect ?_));rw[Around.under_plainId F.plain_proto_collect _];show wpAny _ A.in1 (newList [] >>= λl=>(again (.builtin "list.__iadd__" ⟨[l,.ref I],[]⟩))) _ _ s;refine wpAny_bind (wpAny_newObj_type ?_);refine wpAny_pure ⟨plainId_quiet F.plain_list_iadd _,codeAny_builtin F.entry_list_iadd ?_⟩;rw[Around.under_plainId F.plain_list_iadd _];have up1:∀ b o,s.heap.get? b=some o->(s.heap.push { cls:=.type "list",data:=.seq ([]:List Value).toArray }).get? b=some o:=λb o e=>ZB _ e;have j:(s.heap.push { cls:=.type "list",data:=.seq ([]:List Value).toArray }).get? s.heap.objs.size=some { cls:=.type "list",data:=.seq ([]:List Value).toArray }:=Z10 _ rfl;generalize hh1:s.heap.push { cls:=.type "list",data:=.seq ([]:List Value).toArray }=h1 at up1 j;have c:h1.IsRevIter I l ((items.size:Int) - 1):=hit.at λo e=>up1 _ _ e;have p:h1.IsList l items:=hl.at λo e=>up1 _ _ e;have d:Shared.TypeIs { s with heap:=h1 } (.ref I) "list_reverseiterator":=Heap.IsRevIter.typeIs (s:={ s with heap:=h1 }) c;show wpAny _ A.in1 (Builtin.List.listExtendWith 023 (.ref I) 023) _ _ { s with heap:=h1 };unfold Builtin.List.listExtendWith;refine wpAny_bind (wpAny_typeOf d ?_);have g1:Builtin.List.listSameRef 023 (.ref I)=false:=by simp[Builtin.List.listSameRef,Z3L h]
 rw[if_neg (by rw[g1];decide)];refine wpAny_bind (wpAny_pyIter_revIter (s:={ s with heap:=h1 }) c ?_);refine wpAny_bind (wpAny_holding ?_);unfold Builtin.List.listLengthHint;refine wpAny_bind (wpAny_specialOf d z4x ?_);show wpAny _ A.in1 (specialOf (Value.ref I) (Str.ofString "__length_hint__") >>= _) _ _ _;refine wpAny_bind (wpAny_specialOf d z7Q ?_);generalize hid:("list_reverseiterator.__length_hint__":String)=id0
 wp_delta
 rw[show splitId id0=some ("list_reverseiterator","__length_hint__") from by subst hid;decide +kernel];subst hid;refine wpAny_bind (wpAny_isInstance (b:=true) d (by rw[isSubtype_type];kernel_rfl) ?_);refine wpAny_pure ?_;rw[if_neg 01];refine wpAny_pure ⟨plainId_quiet F.plain_extend_loop _,codeAny_extend_loopS (Walks.listRev (prog:=prog) (w:=w) (A:=A.in1) y I l t items).toS hn s.heap.objs.size n _ items.size 0 _ _ _ rfl (Z19 _) ⟨Z19 _,by simpa using c,p⟩ j (ItemsOf.nil _) λs' f G hm u a=>?_⟩;have e:f=items.reverse:=by
  apply Array.ext;rw[a.1,Array.size_reverse];intro i r D;have:=a.2 i f[i] 05;rw[a.1] at r;rw[Array.getElem_reverse];rw[Z45 00] at this;exact (Z12 this).symm
 subst e;show wpAny _ A (load s.heap.objs.size >>= _) _ _ s';refine wpAny_bind (wpAny_load u ?_);refine wpAny_pure ?_;rw[Moved.eq_with hm];refine q s'.heap s'.toks λb o C v=>hm.heap b o (λk=>?_) (up1 b o v);rcases Z08.mp k with z | z;exact Z13 (Z0w v) z;exact C (Z04.mp z)
noncomputable def tFS(c d:Str)(a tb:TE):TE:=λσ H Q=>a σ H λv H1=>∃ i,v=.int i/\i.natAbs.log2<1920/\(Str.ofString (toString i)).cps.size<=100/\tb σ H1 λu H2=>∃ j,u=.int j/\j.natAbs.log2<1920/\(Str.ofString (toString j)).cps.size<=100/\Q (.str (c ++ Str.ofString (toString i) ++ d ++ Str.ofString (toString j))) H2
def vN(x:Str):Str.empty ++ x=x:=by
 refine Z4O (Z20.mp ?_);rw[Z17,Z11];rfl
def Z4N{pos:Pos}{j1 j2}(o:c.cps.size<=100)(hd:d.cps.size<=100)(ha:PE X a ta)(k:PE X b tb):PE X (.JoinedStr [.Constant (.str c) j1 p1,.FormattedValue a (-1) none p2,.Constant (.str d) j2 p3,.FormattedValue b (-1) none p4] pos) (tFS c d ta tb):=by
 intro pins s σ H Q I h;refine JoinedStr_many (joinParts_cons (Calls.Constant_str ⟨by rw[vN,QG,sizeLine_eq];lia,?_⟩));rw[vN];refine joinParts_cons (FormattedValue_plain (z8 (ha pins _ σ H _ (I.tok _) h) λv s1 zq=>?_));obtain⟨x,H1,I1,f,q1⟩:=zq;obtain⟨i,rfl,hi,p,q⟩:=q1;obtain⟨t,rfl⟩:=f;refine formatField_int_small hi ⟨by rw[QG,zK,sizeLine_eq];lia,?_⟩;refine joinParts_cons (Calls.Constant_str ⟨by rw[QG,zK,zK,sizeLine_eq];lia,?_⟩);refine joinParts_cons (FormattedValue_plain (z8 (k pins _ σ H1 _ ((I1.tok _).tok _) q) λu s2 zq=>?_));obtain⟨y,H2,I2,l,q2⟩:=zq;obtain⟨j,rfl,m,n,q⟩:=q2;obtain⟨r,rfl⟩:=l;have fit:(c ++ Str.ofString (toString i) ++ d ++ Str.ofString (toString j)).length<=sizeLine:=by rw[QG,zK,zK,zK,sizeLine_eq];lia
 refine formatField_int_small m ⟨fit,joinParts_nil ⟨.str _,H2,(I2.tok _).tok _,⟨_,rfl⟩,q⟩ fit⟩
end L2
namespace Pw
open PySem.NumText
noncomputable def jl(s:List Nat)(y:List Nat)(ys:List (List Nat)):List Nat:=y ++ ys.flatMap (s ++ ·)
def jw(sep:Array Nat):∀ (ys:List Str) (a:Array Nat),(ys.foldl (λacc p=>acc ++ sep ++ p.cps) a).toList=a.toList ++ (ys.map (·.cps.toList)).flatMap (sep.toList ++ ·)
 | [],a=>by simp
 | y :: ys,a=>by
   rw[Z55,jw sep ys];simp[Z25]
def join_list(sep y:Str)(ys:List Str):(Txt.join sep (y :: ys)).cps.toList=jl sep.cps.toList y.cps.toList (ys.map (·.cps.toList)):=by
 unfold Txt.join Builtin.Str.glued jl;exact jw sep.cps ys y.cps
def yh(sep:Str):∀ (ys:List Str) (y:Str),(Str.join sep (y :: ys)).cps.toList=jl sep.cps.toList y.cps.toList (ys.map (·.cps.toList))
 | [],y=>by simp[Str.join,jl]
 | z :: ys,y=>by
   have a:=yh sep ys z;show (y ++ sep ++ Str.join sep (z :: ys)).cps.toList=_;rw[Z17,Z17,Z11,Z11,a];unfold jl;simp[Z25]
def Ub:∀ {y z r s:List Nat},c∉y->c∉z->y ++ c :: r=z ++ c :: s->y=z/\r=s
 | [],[],_,_,_,_,e=>⟨rfl,(Z50 e).2⟩
 | [],b :: z,_,_,_,hz,e=>absurd (Z50 e).1 λq=>hz (by rw[q];exact Z0K ..)
 | a :: y,[],_,_,hy,_,e=>absurd (Z50 e).1 λq=>hy (by rw[← q];exact Z0K ..)
 | a :: y,b :: z,r,s,hy,hz,e=>by
   have h:=Z50 e;obtain⟨f,d⟩:=Ub (λq=>hy (Z03 _ q)) (λq=>hz (Z03 _ q)) h.2;exact⟨by rw[h.1,f],d⟩
def z7V:∀ {ys zs:List (List Nat)}{y z:List Nat},c∉y->c∉z->(∀ a∈ys,c∉a)->(∀ a∈zs,c∉a)->jl [c] y ys=jl [c] z zs->y=z/\ys=zs
 | [],[],y,z,_,_,_,_,e=>by
   simp only[jl,List.flatMap_nil,Z40] at e;exact⟨e,rfl⟩
 | [],w :: ws,y,z,hy,_,_,_,e=>by
   refine absurd ?_ hy;simp only[jl,List.flatMap_nil,Z40] at e;rw[e];simp
 | a :: as,[],y,z,_,hz,_,_,e=>by
   refine absurd ?_ hz;simp only[jl,List.flatMap_nil,Z40] at e;rw[← e];simp
 | a :: as,b :: bs,y,z,hy,hz,hys,hzs,e=>by
   have i:y ++ c :: jl [c] a as=z ++ c :: jl [c] b bs:=by
    simpa[jl,Z25] using e
   obtain⟨j,h⟩:=Ub hy hz i;obtain⟨f,k⟩:=z7V (hys a (Z0K ..)) (hzs b (Z0K ..)) (λq d=>hys q (Z03 _ d)) (λq d=>hzs q (Z03 _ d)) h;exact⟨j,by rw[f,k]⟩
def map_inj:∀ {xs ys:List Str},xs.map (·.cps.toList)=ys.map (·.cps.toList)->xs=ys
 | [],[],_=>rfl
 | [],_ :: _,e=>by simp at e
 | _ :: _,[],e=>by simp at e
 | x :: xs,y :: ys,e=>by
   rw[Z1Y,Z1Y] at e;have h:=Z50 e;rw[Z4O (Z20.mp h.1),map_inj h.2]
def XS(i:c∉y.cps.toList)(b:∀ w∈ys,c∉w.cps.toList):Txt.split (Txt.join (L2.zQ c) (y :: ys)) (L2.zQ c)=y :: ys:=by
 have f:=PyProof.Rows.split_pos (Txt.join (L2.zQ c) (y :: ys)) (L2.zQ c);have d:=StrLaws.join_split (Txt.join (L2.zQ c) (y :: ys)) (L2.zQ c);have hf:=StrLaws.split_free (Txt.join (L2.zQ c) (y :: ys)) c;change ∀ p∈Txt.split (Txt.join (L2.zQ c) (y :: ys)) (L2.zQ c),_ at hf;cases e:Txt.split (Txt.join (L2.zQ c) (y :: ys)) (L2.zQ c) with
 | nil=>rw[e] at f;simp at f
 | cons z zs =>
   rw[e] at d hf;have h:=congrArg (λs:Str=>s.cps.toList) d;rw[yh,join_list] at h;have k:(L2.zQ c).cps.toList=[c]:=rfl;rw[k] at h;obtain⟨l,j⟩:=z7V (hf z (Z0K ..)) i (λa ha=>by
    obtain⟨w,hw,rfl⟩:=Z23.mp ha;exact hf w (Z03 _ hw)) (λa ha=>by
    obtain⟨w,hw,rfl⟩:=Z23.mp ha;exact b w hw) h
   rw[Z4O (Z20.mp l),map_inj j]
noncomputable abbrev ns(n:Int):Str:=Str.ofString (toString n)
noncomputable def VH(m:Nat):List Nat:=(Nat.toDigits 10 m).map Char.toNat
def Qp(h:¬ m<10):VH m=VH (m / 10) ++ [48+m % 10]:=by
 have hm:m % 10<10:=Nat.mod_lt m 01;have t:Nat.toDigits 10 (m / 10) ++ Nat.toDigits 10 (m % 10)=Nat.toDigits 10 (10 * (m / 10)+m % 10):=Nat.toDigits_append_toDigits 01 00 hm;rw[Nat.div_add_mod] at t;unfold VH;rw[← t,Z16,Nat.toDigits_of_lt_base hm];have key:∀ d,d<10->(Nat.digitChar d).toNat=48+d:=01
 show _ ++ [(Nat.digitChar (m % 10)).toNat]=_;rw[key _ hm]
def xZ(h:m<10):VH m=[48+m]:=by
 unfold VH;rw[Nat.toDigits_of_lt_base h];have key:∀ d,d<10->(Nat.digitChar d).toNat=48+d:=01
 show [(Nat.digitChar m).toNat]=_;rw[key _ h]
def Q8(m:Nat):AllDigits (VH m)/\VH m≠[]/\(m≠0->(VH m).head?≠some 48)/\∀ k,1<=k->m<10 ^ k->(VH m).length<=k:=by
 induction m using Nat.strongRecOn with
 | _ m ih =>
   by_cases h:m<10;rw[xZ h];refine⟨λc n=>?_,05,λh0 e=>?_,λk l _=>by simpa using l⟩;rw[Z04.mp n];lia;have:=Z12 e;lia;obtain⟨a,b,c,d⟩:=ih (m / 10) 00;have hm:m % 10<10:=Nat.mod_lt m 01;rw[Qp h];refine⟨λx j=>?_,05,λ_ e=>?_,λk l i=>?_⟩;rcases Z1y.mp j with j | j;exact a x j;rw[Z04.mp j];lia;refine c 00 ?_;cases hd:VH (m / 10) with
   | nil=>exact absurd hd b
   | cons x xs=>rw[hd] at e;exact e
   rw[Z14,Z39];have k2:2<=k:=by
    rcases Nat.lt_or_ge k 2 with f | f;have:k=1:=00;subst this;lia;exact f
   have:=d (k - 1) 00 (by
    have e:10 ^ k=10 ^ (k - 1) * 10:=(by rw[← Z59];congr 1;lia);rw[e] at i;exact Nat.div_lt_of_lt_mul (by rw[Nat.mul_comm];exact i))
   lia
def YX(m:Nat):(ns ((m:Nat):Int)).cps.toList=VH m:=PySem.W.KIN.signs_num m
def z7W(m:Nat):(ns (Int.negSucc m)).cps.toList=45 :: VH (m+1):=by
 unfold ns VH;rw[PyProof.Rows.signs_ofString];show ("-" ++ Nat.repr (m+1)).toList.map Char.toNat=_;rw[String.toList_append,Z16,Nat.toList_repr];rfl
def jT{n:Int}(h0:0<=n)(j:n<10 ^ 13):num? (ns n)=some n:=by
 obtain⟨m,rfl⟩:=Z3T h0;obtain⟨a,b,c,d⟩:=Q8 m;have e:=YX m;have f:xn 13 (ns ((m:Nat):Int)):=by
  refine⟨?_,?_,?_,?_⟩;rw[← Z07,e];exact Z49.mpr b;rw[← Z07,e];exact d 13 01 00;rw[e];exact Z26.mpr λx i=>decide_eq_true (a x i);rw[e];by_cases h:m=0;subst h;exact .inl rfl;exact .inr (c h)
 unfold num?;rw[if_pos f,e];unfold VH;rw[PySem.W.KIN.val_back]
def Vp{n:Int}(h0:-(10 ^ 13)<n)(c:n<10 ^ 13):Zk (ns n)=some n:=by
 by_cases hn:0<=n;exact z9r (jT hn c);cases n with
 | ofNat m=>exact absurd (Int.natCast_nonneg m) hn
 | negSucc m =>
   have e:=z7W m;have hd:(ns (Int.negSucc m)).cps.toList.head?=some 45:=by rw[e];rfl
   have ct:=QE hd;rw[e,List.tail_cons] at ct;have b:Txt.slice (ns (Int.negSucc m)) (some 1) none=ns (((m+1:Nat):Nat):Int):=Z4O (Z20.mp (by rw[ct,YX]));have a:num? (ns (((m+1:Nat):Nat):Int))=some (((m+1:Nat):Nat):Int):=jT 00 00;rw[z0r hd,b,a,Option.bind_some,if_neg 00];congr 1
def z3d{n:Int}(h:c∈(ns n).cps.toList):c=45\/(48<=c/\c<=57):=by
 cases n with
 | ofNat m =>
   have e:=YX m;change (ns (Int.ofNat m)).cps.toList=_ at e;rw[e] at h;exact .inr ((Q8 m).1 c h)
 | negSucc m =>
   rw[z7W m] at h;rcases Z08.mp h with h | h;exact .inl h;exact .inr ((Q8 (m+1)).1 c h)
noncomputable def wd(p:Int×Int):Str:=ns p.1 ++ Str.ofString ">" ++ ns p.2
noncomputable def frT(A:Int×Int):Str:=ns A.1 ++ Str.ofString "/" ++ ns A.2
noncomputable def Jr(n:Int)(ps:LI):Str:=Txt.join (L2.zQ 32) (Str.ofString "pages" :: ns n :: ps.map wd)
def z6K(c:Nat)(x y:Str):Txt.join (L2.zQ c) [x,y]=x ++ L2.zQ c ++ y:=by
 refine Z4O (Z20.mp ?_);rw[join_list,Z17,Z17,Z11,Z11];simp[jl]
def Z4V(f:c≠45)(a:¬ (48<=c/\c<=57))(d:-(10 ^ 13)<A.1/\A.1<10 ^ 13)(b:-(10 ^ 13)<A.2/\A.2<10 ^ 13):UP c (ns A.1 ++ L2.zQ c ++ ns A.2)=some A:=by
 have free:∀ n,c∉(ns n).cps.toList:=λn h=>by
  rcases z3d h with h | h;exact f h;exact a h
 rw[← z6K];exact Z4o (XS (free _) λw hw=>by rw[Z04.mp hw];exact free _) (Vp d.1 d.2) (Vp b.1 b.2)
def QA{n:Int}{ps:LI}(n1:1<=n)(n12:n<=12)(few:ps.length<=60)(rng:∀ p∈ps,0<=p.1/\p.1<n/\0<=p.2/\p.2<n)(up:ps.Pairwise L2.yf):Yu (Jr n ps) n ps:=by
 have fr:∀ (n:Int),32∉(ns n).cps.toList:=λn h=>by
  rcases z3d h with h | h;cases h;lia
 refine⟨⟨ns n,ps.map wd,XS 03 λw hw=>?_,Vp 00 00,?_⟩,n1,n12,few,rng,up⟩;rcases Z08.mp hw with rfl | hw;exact fr n;obtain⟨p,_,rfl⟩:=Z23.mp hw;unfold wd;rw[Z17,Z17,Z11,Z11];intro h;rcases Z1y.mp h with h | h;rcases Z1y.mp h with h | h;exact fr _ h;rw[show (Str.ofString ">").cps.toList=[62] by decide +kernel] at h;simp at h;exact fr _ h;rw[List.map_map];refine List.map_congr_left λp a=>?_
 have r:=rng p a;show UP 62 (wd p)=some p;unfold wd;rw[L2.Z4q];exact Z4V 01 01 ⟨00,00⟩ ⟨00,00⟩
def Z3f(n:Int)(ps:LI):Str.ofString "pages " ++ ns n ++ Txt.join (Str.ofString "") (ps.map λp=>Str.ofString " " ++ ns p.1 ++ Str.ofString ">" ++ ns p.2)=Jr n ps:=by
 refine Z4O (Z20.mp ?_);unfold Jr;rw[join_list,Z17,Z17,Z11,Z11];have b:∀ l:List Str,(Txt.join (Str.ofString "") l).cps.toList=(l.map (·.cps.toList)).flatMap id:=λl=>by
  cases l with
  | nil=>rfl
  | cons y ys =>
    rw[join_list,L2.Z0W];simp[jl]
 rw[b];have c:(Str.ofString "pages ").cps.toList=(Str.ofString "pages").cps.toList ++ [32]:=03
 have a:(Str.ofString " ").cps.toList=[32]:=03
 rw[c];show _=jl [32] _ _;unfold jl;rw[Z1Y,List.flatMap_cons,Z25,Z25,Z25];congr 1;show [32] ++ _=[32] ++ _;congr 2;rw[List.map_map,List.map_map,List.flatMap_map,List.flatMap_map];refine congrArg (λf=>List.flatMap f ps) (funext λp=>?_);show (Str.ofString " " ++ ns p.1 ++ Str.ofString ">" ++ ns p.2).cps.toList=[32] ++ (wd p).cps.toList;unfold wd;rw[Z17,Z17,Z17,Z17,Z17];simp only[Z11,a,Z25]
end Pw
namespace L2
def Z6r(h0:-(10 ^ 13)<i)(a:i<10 ^ 13):i.natAbs.log2<1920:=by
 have:i.natAbs.log2<44:=by
  rcases Nat.eq_zero_or_pos i.natAbs with h | h;rw[h];decide;exact (Nat.log2_lt 00).mpr 00
 lia
noncomputable def Jo(K:FR):Sp:=λvs H Q _=>∃ (a:Addr) (n:Int) (ps:LI),vs=[.ref a]/\ZP K H a n ps/\0<=n/\n<=12/\ps.length<=60/\(∀ p∈ps,0<=p.1/\p.1<n/\0<=p.2/\p.2<n)/\∀ H',zu H H'->Q (.str (Pw.Jr n ps)) H'
def z0y{n:Int}(o:OkL (n,ps)):(Pw.Jr n ps).cps.size<=1000:=by
 have few:ps.length<=60:=o.few;have n1:1<=n:=o.n1;have n12:n<=12:=o.n12;have i:(Str.ofString "pages").cps.size=5:=03
 have a:=ZL (show 0<=n by lia) (show n<=99 by lia);have c:∀ z∈Str.ofString "pages" :: Pw.ns n :: ps.map Pw.wd,z.cps.size<=5:=λz h=>by
  rcases Z08.mp h with rfl | h;lia;rcases Z08.mp h with rfl | h;exact Z0X a 01;obtain⟨p,d,rfl⟩:=Z23.mp h;have r:0<=p.1/\p.1<n/\0<=p.2/\p.2<n:=o.rng p d;have a:=ZL r.1 (show p.1<=99 by lia);have f:=ZL r.2.2.1 (show p.2<=99 by lia);have j:(Str.ofString ">").cps.size=1:=03
  unfold Pw.wd;rw[zK,zK];show (Str.ofString (toString p.1)).cps.size+_+(Str.ofString (toString p.2)).cps.size<=5;lia
 have b:(Str.ofString "pages" :: Pw.ns n :: ps.map Pw.wd).length<=62:=by
  rw[Z09,Z09,Z00];lia
 unfold Pw.Jr;refine Z0X (Q7 c) ?_;show _ * (5+1)<=_;exact Z0X (Z5h _ b) 01
noncomputable def bOf(p:Prop):Bool:=@decide p (Classical.propDecidable p)
noncomputable def Qx(K:FR):Sp:=λvs H Q _=>∃ (w lp ls pl:Addr) (n x y:Nat) (ps:LI) (A:Int×Int) (Bs:LI) (us:List V) (S:Int) (l a:List Int),vs=[.ref w,.ref lp,.ref ls,.int (x:Int),.int (y:Int),.ref pl]/\u7 K H w lp ls n ps A Bs us S/\x<n/\y<n/\ps.length+l.length<=60/\H pl=some (.lst (l.map V.int))/\l.length<=12/\(∀ r∈l,0<=r/\r<(n:Int))/\a.Perm l/\a.Pairwise (·<=·)/\
 (∀ H',zu H H'->(∀ m row,row∈Pw.Xn a m->¬ Pw.UQ ps A Bs n x y row)->Q .Zc H')/\
 (∀ (b:Addr) (H':Hp) (row:List Int) (m i:Nat),zu H H'->H b=none->H' b=some (.lst (row.map V.int))->(Pw.Xn a m)[i]?=some row->Pw.UQ ps A Bs n x y row->(∀ d r,d<m->r∈Pw.Xn a d->¬ Pw.UQ ps A Bs n x y r)->(∀ (c:Nat) r,c<i->(Pw.Xn a m)[c]?=some r->¬ Pw.UQ ps A Bs n x y r)->Q (.ref b) H')
def z7e{x:Nat}(i:u7 K H w lp ls n ps A Bs us S)(C:x<n)(f:y<n)(few:ps.length+l.length<=60)(e:H pl=some (.lst (l.map V.int)))(a:l.length<=12)(hr:∀ r∈l,0<=r/\r<(n:Int))(pm:ris.Perm l)(z:ris.Pairwise (·<=·))(k:∀ d G o,zu H G->Z3v G d o->Pw.uD (Pw.UQ ps A Bs n x y) ris o->(∀ b,d=.ref b->H b=none)->Q d G):Qx K [.ref w,.ref lp,.ref ls,.int (x:Int),.int (y:Int),.ref pl] H Q E :=
 ⟨w,lp,ls,pl,n,x,y,ps,A,Bs,us,S,l,ris,rfl,i,C,f,few,e,a,hr,pm,z,λG s h=>k _ G none s (.inl ⟨rfl,rfl⟩) h nofun,λb G row m j s nb t q p B u=>k _ G (some row) s (.inr ⟨b,row,rfl,rfl,t⟩) ⟨m,j,q,p,B,u⟩ λc v=>by cases v;exact nb⟩
def z6u(h:∀ D',D'=D->z2Q t u D' σ H):z2Q t u D σ H:=h D rfl
def Z0t(I:St->Hp->Prop)(a:∀ D':Ends,D'.nx=I->t D' σ H)(b:∀ R:St->Hp->Prop,R=u D->∀ σ H,I σ H->R σ H):Z5a t u D σ H:=⟨I,a _ rfl,b _ rfl⟩
def Z5m{D:Ends}(h:D.nx=I)(p:I σ H):D.nx σ H:=h ▸ p
def z4I(Pv:St->Hp->Prop)(μ:St->Hp->Nat)(h0:Pv σ H)(f:∀ B:TS,B=tb->∀ σ H,Pv σ H->c σ H λb H1=>if b=true then ∃ N:St->Hp->Prop,(∀ a H',N a H'->∃ d,d<μ σ H/\d=μ a H'/\Pv a H')/\B { D with nx:=N,ct:=N,bk:=D.nx } σ H1 else D.nx σ H1):jO c tb D σ H:=z8u Pv μ h0 (f tb rfl)
def isStr_of(x:Str)(t:Tok):Value.isStrOf x (.str x t)=true:=by unfold Value.isStrOf;simp
noncomputable def DcK(w:World)(K:FR)(z:Addr)(f:SV):Prop:=(z == sysModules)=false/\∃ o a b,K.lookup z=some o/\o.ExactDict/\o.data=.dict a b/\(∀ e∈a,∃ x:Str,(Value.isStrOf x e.key)=true/\e.hash=hashStr w x)/\∀ x,findBy Value.isStrOf a x=f x
def DcK.map{X:Cx}{σ:St}(d:DcK X.w X.K z f)(I:Inv X pins σ H s):s.heap.MapOf (PySem.strKind X.prog X.w) z f:=by
 obtain⟨_,o,a,b,l,x,h,c,i⟩:=d;exact⟨o,a,b,I.YY z o l,x,h,λe he=>c e he,i⟩
noncomputable def Z0A(w:World)(K:FR):R2:=λx y H Q=>∃ (t:Str) (z:Addr) (f:SV),x=.str t/\y=.ref z/\DcK w K z f/\Q (.bl (!(f t).isSome)) H
def z4C:Yl X (compareOp .NotIn) (Z0A X.w X.K):=by
 intro pins s σ H x y v u Q I b c h;obtain⟨t,z,f,rfl,rfl,d,q⟩:=h;obtain⟨a,rfl⟩:=b;cases c;refine wpAny_notIn_of (knd:=PySem.strKind X.prog X.w) (k:=t) (isStr_of t a) d.1 (d.map I) ?_;exact⟨.bl _,H,I.tok _,rfl,q⟩
noncomputable def Z2C(w:World)(K:FR)(b ty:TE):TE:=λσ H Q=>b σ H λx H1=>ty σ H1 λy H2=>∃ (z:Addr) (t:Str) (f:SV) (a:Addr),x=.ref z/\y=.str t/\DcK w K z f/\f t=some 024/\Q 024 H2
def z8i{pos:Pos}(l:PE X o td)(hi:PE X i ty)(r:Z5i i):PE X (.Subscript o i pos) (Z2C X.w X.K td ty):=by
 intro pins s σ H Q I h;refine z9S PySem.F.slot_dict_getitem.lookup r (z8 (l pins s σ H _ I h) λu s1 ⟨x,H1,I1,q,q1⟩=>z8 (hi pins s1 σ H1 _ I1 q1) λC s2 zq=>?_);obtain⟨y,H2,I2,v,z,t,f,a,ex,p,d,j,q2⟩:=zq;subst ex p;obtain rfl:u=Value.ref z:=q;obtain⟨n,rfl⟩:=v;have m:=d.map I2;obtain⟨o',A,B,c,b,_⟩:=id m;exact⟨⟨o',c,b.1⟩,wpAny_getItem_of (knd:=PySem.strKind X.prog X.w) (k:=t) (isStr_of t n) m j ⟨.ref a,H2,I2.tok _,rfl,q2⟩⟩
end L2
namespace Pw
noncomputable def pk:Nat->Nat->List Nat
 | 0,_=>[]
 | k+1,r=>pk k (r / 10) ++ [48+r % 10]
def z3h:∀ k r,(pk k r).length=k
 | 0,_=>rfl
 | k+1,r=>by unfold pk;rw[Z14,z3h k];rfl
def z3y:∀ k,pk k 0=List.replicate k 48
 | 0=>rfl
 | k+1=>by unfold pk;rw[Nat.zero_div,z3y k,List.replicate_succ']
def U6(a:0<q):∀ (k r:Nat),r<10 ^ k->VH (q * 10 ^ k+r)=VH q ++ pk k r
 | 0,r,h=>by
   have:r=0:=by rw[Nat.pow_zero] at h;lia
   subst this;rw[Nat.pow_zero,Nat.mul_one,Nat.add_zero];exact (Z40 _).symm
 | k+1,r,h=>by
   have b:q * 10 ^ (k+1)+r=10 * (q * 10 ^ k)+r:=by rw[Z59];grind
   have c:0<10 ^ k:=Nat.pow_pos 01;have d:1<=q * 10 ^ k:=Nat.mul_pos a c;rw[b,Qp 00,show (10 * (q * 10 ^ k)+r) / 10=q * 10 ^ k+r / 10 by lia,show (10 * (q * 10 ^ k)+r) % 10=r % 10 by lia,
    U6 a k (r / 10) (by rw[Z59] at h;lia),Z25]
   rfl
def z6W:∀ (k r:Nat),r<10 ^ (k+1)->pk (k+1) r=List.replicate (k+1 - (VH r).length) 48 ++ VH r
 | 0,r,h=>by
   have h:r<10:=by simpa using h
   rw[xZ h];show [] ++ [48+r % 10]=List.replicate 0 48 ++ [48+r];rw[Nat.mod_eq_of_lt h];rfl
 | k+1,r,h=>by
   by_cases z:r<10;rw[xZ z];show pk (k+1) (r / 10) ++ [48+r % 10]=_;rw[show r / 10=0 by lia,z3y,Nat.mod_eq_of_lt z];rfl;rw[Qp z];show pk (k+1) (r / 10) ++ [48+r % 10]=_;rw[z6W k (r / 10) (by rw[Z59] at h;lia),Z14,Z25];congr 2;simp only[Z09,Z5q];lia
noncomputable def pkS(k r:Nat):Str:=⟨(pk k r).toArray⟩
def z0P(a:0<q)(hr:r<10 ^ 60):ns (((q * 10 ^ 60+r:Nat)):Int)=ns ((q:Nat):Int) ++ pkS 60 r:=by
 have e:(ns (((q * 10 ^ 60+r:Nat)):Int)).cps.toList=(ns ((q:Nat):Int) ++ pkS 60 r).cps.toList:=by
  rw[YX,U6 a 60 r hr];show _=((ns ((q:Nat):Int)).cps ++ (pk 60 r).toArray).toList;rw[Z11,YX]
 have:=Z20.mp e;cases h1:ns (((q * 10 ^ 60+r:Nat)):Int);cases h2:(ns ((q:Nat):Int) ++ pkS 60 r);rw[h1,h2] at this;congr
end Pw
namespace L2
noncomputable def Z1A:V->List V->Hp->VK->Prop:=λx vs H Q=>∃ m:Nat,x=.str (Pw.ns ((m:Nat):Int))/\vs=[.int 60]/\m<10 ^ 60/\Q (.str (Pw.pkS 60 m)) H
def z6y:MtR X "str.zfill" Z1A:=by
 intro pins s σ H x xs v us Q I o r h;obtain⟨m,rfl,rfl,hm,q⟩:=h;obtain⟨t,rfl⟩:=o;obtain⟨u,rfl,t',rfl⟩:=vals1 r;have hd:=Pw.Q8 m;have hl:=hd.2.2.2 60 01 hm;have d:=Pw.YX m;have hlen:(Pw.ns ((m:Nat):Int)).length=(Pw.VH m).length:=by
  show (Pw.ns ((m:Nat):Int)).cps.size=_;rw[← d,Z07]
 refine call_gives PySem.F.slot_str_zfill (typeIs_str _ _ _) PySem.F.entry_str_zfill (PySem.F.args_str_zfill_2 _ _) (gives_str_zfill _ 60 t t' 01 01) ?_;have j:=Pw.z6W 59 m hm;have i:∀ y:Str,y.cps.toList=Pw.pk 60 m->y=Pw.pkS 60 m:=λy k=>by
  obtain⟨cs⟩:=y;unfold Pw.pkS;rw[← k]
 by_cases h60:(60:Int)<=((Pw.ns ((m:Nat):Int)).length:Int);rw[if_pos h60];have:Pw.ns ((m:Nat):Int)=Pw.pkS 60 m:=i _ (by rw[d,j,show 59+1 - (Pw.VH m).length=0 by lia];rfl);exact⟨.str (Pw.pkS 60 m),H,I,⟨t,by rw[this]⟩,q⟩
 · rw[if_neg h60]
   have p:zfilled (Pw.ns ((m:Nat):Int)) (Int.toNat 60 - (Pw.ns ((m:Nat):Int)).length)=Pw.pkS 60 m:=by
    refine i _ ?_;rw[hlen];have f:=hd.2.1;have a:=hd.1;obtain⟨c,l,b⟩:=List.exists_cons_of_ne_nil f;have w:=a c (by rw[b];exact Z0K ..);have h0:(Pw.ns ((m:Nat):Int)).cps[0]?=some c:=(by rw[← Z34,d,b];rfl);have n:zfilled (Pw.ns ((m:Nat):Int)) (Int.toNat 60 - (Pw.VH m).length)=Builtin.Str.padded (Pw.ns ((m:Nat):Int)) (Int.toNat 60 - (Pw.VH m).length) 0 48:=by
     unfold zfilled;rw[h0];split
     · next e=>cases e;lia
     · next e=>cases e;lia
     rfl
    rw[n];unfold Builtin.Str.padded;rw[Z11,Z11,d,Array.toList_replicate,Array.toList_replicate,j];simp
   rw[p];exact⟨(by show (Pw.pkS 60 m).cps.size<=sizeLine;unfold Pw.pkS;rw[Z05,Pw.z3h,sizeLine_eq];decide),.str _,H,I.tok _,⟨_,rfl⟩,q⟩
def Vn(sep:Str)(t:Tok)(ps:List (Str×Tok))(I l:Addr)(hok:JoinOk sep (ps.reverse.map (·.1))=true)(hn:ps.length<=sizeLine):Meets (Builtin.«str.join» ⟨[.str sep t,.ref I],[]⟩) (λA R s=>A.handled=none/\s.heap.IsRevIter I l ((ps.length:Int) - 1)/\s.heap.IsList l (strValues ps).toArray/\l≠I/\
 ∀ h' f t',(∀ b o,b≠I->s.heap.get? b=some o->h'.get? b=some o)->R (.ok (.ret (.str (Txt.join sep (ps.reverse.map (·.1))) t'))) { s with heap:=h',toks:=f }):=by
 intro prog w A R s ⟨h,hit,hl,d,q⟩;have j:=Heap.IsRevIter.typeIs (s:=s) hit;have a:(strValues ps).toArray.size=ps.length:=by rw[Z05];unfold strValues;rw[Z00]
 rw[join_tree_other];refine wpAny_bind (wpAny_typeOf j ?_);rw[if_neg 01];refine wpAny_bind (wpAny_tryCatch (wpAny_pyIter_revIter hit ?_));refine wpAny_bind (z0Q (items:=(strValues ps).toArray) h (by rw[a];exact hit) hl d (by rw[a];exact hn) λh' f kp=>?_);have e:(strValues ps).toArray.reverse.toList=strValues ps.reverse:=by
  rw[Array.toList_reverse];unfold strValues;rw[List.map_reverse]
 rw[e];unfold JoinOk at hok;rw[Bool.not_eq_true'] at hok;have g:∀ l:List (Str×Tok),Builtin.Str.tooLong ((l.map (·.1)).toArray.foldl (·+·.length+sep.length) 0)=false->Gives (joinTail sep (strValues l)) (joinMade sep l):=λl i=>by
  have c:=gives_joinTail sep l i;cases l with
  | nil=>exact c
  | cons p r=>cases r with
    | nil=>exact c
    | cons q r'=>exact c
 exact g _ hok prog w A R _ (post_join ps.reverse ⟨joinFit_length hok,λt' k=>q h' k t' kp⟩)
noncomputable def Z3c(c:Str)(a:TA):TE:=λσ H Q=>a σ H λvs H1=>∃ (l:Addr) (ys:List Str),vs=[.ref l]/\H1 l=some (.lst (ys.map V.str))/\ys.length<=1000/\JoinOk c ys.reverse=true/\Q (.str (Txt.join c ys.reverse)) H1
def z0q{X:Cx}{c:Str}{a:Expr}{y:TA}{j}{p k apos cpos pos':Pos}(G:X.calm=true)(t:Gl X "reversed")(r:X.mg "reversed"=none)(ha:PA X [a] y)
 (d:attributeBase (.Constant (.str c) j k) "join" X.env (eval (.Constant (.str c) j k) X.env)=eval (.Constant (.str c) j k) X.env:=by rfl)
 (i:((backTo cpos (starEach [.Call (.Name "reversed" p) [a] [] pos'] X.env)).all (λx=>!x.1) && (backToKw cpos (keywordEach [] X.env)).all (λx=>x.1.isSome)
  && decide (([.Call (.Name "reversed" p) [a] [] pos']:List Expr).length+([]:List Keyword).length+(if ([]:List Keyword).isEmpty then 0 else 1)<30))=true:=by rfl)
 (f:(apos.endLine == cpos.line)=true:=by rfl) (K:starEach [.Call (.Name "reversed" p) [a] [] pos'] X.env=[(false,eval (.Call (.Name "reversed" p) [a] [] pos') X.env)]:=by rfl)
 (w:starEach [a] X.env=[(false,eval a X.env)]:=by rfl) :
 PE X (.Call (.Attribute (.Constant (.str c) j k) "join" apos) [.Call (.Name "reversed" p) [a] [] pos'] [] cpos) (Z3c c y):=by
 intro pins s0 σ H Q I0 h;refine wpAny_Call_method_late d i f rfl (Calls.Constant_str ?_);have I:Inv X pins σ H { s0 with toks:=s0.toks+1 }:=I0.tok _;generalize ({ s0 with toks:=s0.toks+1 }:Shared)=s at I;refine⟨"str","str.join",Z21,PySem.F.slot_str_join,PySem.F.type_str_join,typeIs_str _ _ _,(λa E=>by cases E),?_⟩;rw[K];refine Calls.callWith_builtin 02 (Calls.evalArgs_plain ?_);show wpAny _ _ (spliced ((false,eval (.Call (.Name "reversed" p) [a] [] pos') X.env) :: backTo cpos [])) _ _ s;refine Calls.spliced_cons ?_;refine wpAny_Call_Name_kw (yX I t r boot_reversed ?_ 01 01);refine Z33 (z8 (ha pos' pins s σ H _ I h) λus s1 ⟨vs,H1,I1,C,q1⟩=>?_) w rfl;obtain⟨l,ys,rfl,hl,few,hok,q⟩:=q1;obtain⟨u,rfl,L⟩:=vals1 C;cases L;obtain⟨its,B,pl,M⟩:=id (I1.list (zJ.of hl));obtain⟨ps,rfl,e⟩:=JJ B;have m:l<s1.heap.objs.size:=by obtain⟨o,z,_⟩:=pl.isList;exact Z0w z
 have n:ps.length=ys.length:=by rw[← e,Z00]
 refine call_reversed_list pl.isList ?_;refine Calls.spliced_nil ?_;have v:(strValues ps).toArray.size=ps.length:=by rw[Z05];unfold strValues;rw[Z00]
 have A:ps.reverse.map (·.1)=ys.reverse:=by rw[List.map_reverse,e]
 refine call_meets PySem.F.slot_str_join (typeIs_str _ _ _) PySem.F.entry_str_join (PySem.F.args_str_join_2 _ _) (Vn c _ ps _ l (by rw[A];exact hok) (by rw[n,sizeLine_eq];lia)) ⟨I1.ok.hd G,⟨_,Z10 _ rfl,rfl,by rw[v];rfl⟩,pl.isList.at λo e=>ZB _ e,Z13 m,λh' D t' J=>?_⟩;have kp:∀ b o,s1.heap.get? b=some o->h'.get? b=some o:=λb o e=>J b o (Z13 (Z0w e)) (ZB _ e);rw[A];exact⟨.str _,H1,I1.kept (t':=D) kp,⟨_,rfl⟩,q⟩
end L2
namespace Pw
noncomputable def ptT(l:List Int):Str:=Txt.join (L2.zQ 32) (l.map ns)
noncomputable def Z1x:Option (List Int)->Str
 | none=>Str.ofString "never"
 | some []=>Str.ofString "now"
 | some (x :: l)=>ptT (x :: l)
def z8H(a:0<q)(hr:r<10 ^ 60)(hm:m=q * 10 ^ 60+r)(us:List Str):Txt.join (Str.ofString "") (ns ((q:Nat):Int) :: pkS 60 r :: us)=Txt.join (Str.ofString "") (ns ((m:Nat):Int) :: us):=by
 refine Z4O (Z20.mp ?_);have b:(Str.ofString "").cps.toList=[]:=03
 subst hm;rw[z0P a hr];generalize pkS 60 r=z;generalize ns ((q:Nat):Int)=y;rw[join_list,join_list,b,Z17,Z11];unfold jl;simp only[Z1Y,List.flatMap_cons,List.nil_append,Z25]
noncomputable def JV(z y:Str):Bool:=decide (0+y.length<=z.length) && Builtin.Str.subAt z y 0
def Vt(y t:Str):JV (y ++ t) y=true:=by
 unfold JV Builtin.Str.subAt;rw[Z2m];refine⟨decide_eq_true ?_,?_⟩;show 0+y.cps.size<=(y.cps ++ t.cps).size;rw[Z57];lia;show (((y.cps ++ t.cps).extract 0 (0+y.cps.size)) == y.cps)=true;simp
def z1t(i:Nat)(d:z.cps.toList[i]?=some a)(c:y.cps.toList[i]?=some b)(ne:a≠b):JV z y=false:=by
 cases h:JV z y with
 | false=>rfl
 | true =>
   exfalso;unfold JV Builtin.Str.subAt at h;rw[Z2m] at h;have e:=eq_of_beq h.2;have hi:=(Z15.mp c).1;rw[Z07] at hi;have:(z.cps.extract 0 (0+y.length))[i]?=z.cps[i]?:=by
    rw[Array.getElem?_extract];have f:i<min (0+y.length) z.cps.size - 0:=by
     have j:=of_decide_eq_true h.1;change 0+y.cps.size<=z.cps.size at j;show i<min (0+y.cps.size) z.cps.size - 0;lia
    rw[if_pos f,Nat.zero_add]
   rw[e] at this;rw[Z34] at d c;rw[c,d] at this;cases this;exact ne rfl
end Pw
namespace L2
noncomputable def z8e:V->List V->Hp->VK->Prop:=λx vs H Q=>∃ z y:Str,x=.str z/\vs=[.str y]/\Q (.bl (Pw.JV z y)) H
def VZ:MtR X "str.startswith" z8e:=by
 intro pins s σ H x xs v us Q I a r h;obtain⟨z,y,rfl,rfl,q⟩:=h;obtain⟨t,rfl⟩:=a;obtain⟨u,rfl,t',rfl⟩:=vals1 r;refine call_gives Z3Z (typeIs_str _ _ _) PySem.F.entry_str_startswith (PySem.F.args_str_startswith_2 _ _) (gives_str_startswith z y t t') ?_;exact⟨.bl _,H,I,rfl,q⟩
def lgN(h:m<2 ^ 1920):m.log2<1920:=by
 by_cases z:m=0;subst z;decide;exact (Nat.log2_lt z).mpr h
def z2W(h:n<2 ^ 1990):(Pw.ns (n:Int)).cps.size<=600:=by
 have a:(2:Nat) ^ 1990<10 ^ 600:=03
 rw[← Z07,Pw.YX];exact (Pw.Q8 n).2.2.2 600 01 (Nat.lt_trans h a)
def YU(h0:0<=z)(i:z<100):Pw.xn 2 (Pw.ns z)/\(Pw.ns z).cps.size<=2:=by
 obtain⟨m,rfl⟩:∃ m:Nat,z=(m:Int):=⟨z.toNat,00⟩;obtain⟨a,b,c,d⟩:=Pw.Q8 m;have e:=Pw.YX m;have l:=d 2 01 00;have h:(Pw.ns (m:Int)).cps.size=(Pw.VH m).length:=by rw[← e,Z07]
 refine⟨⟨by rw[h];exact Z49.mpr b,00,?_,?_⟩,00⟩;rw[e,Z26];exact λq f=>decide_eq_true (a q f);rw[e];by_cases z:m=0;subst z;exact .inl (Pw.xZ 01);exact .inr (c z)
def JS(h0:0<=z)(a:z<100):PySem.intText? (Pw.ns z)=some z:=by
 have:=Pw.Vp (n:=z) 00 00;unfold Pw.Zk at this;split at this;exact this;cases this
noncomputable def uH:Sp:=λvs H Q _=>∃ n:Nat,vs=[.int (n:Int)]/\n<2 ^ 1990/\∀ H',zu H H'->Q (.str (Pw.ns (n:Int))) H'
noncomputable def J2:Sp:=λvs H Q _=>∃ n:Nat,vs=[.int (n:Int)]/\n<2 ^ 1990/\∀ H',zu H H'->Q (.str (Pw.ns (n:Int))) H'
noncomputable def z3v(K:FR):Sp:=λvs H Q _=>∃ (p:Addr) (A:Int×Int),vs=[.ref p]/\SqF K H p A/\0<=A.1/\0<=A.2/\VF 1983 A/\∀ H',zu H H'->Q (.str (Pw.frT A)) H'
structure LvS(K:FR)(C:Addr)(H:Hp)(p pd lp:Addr)(n:Nat)(ps:LI)(Ws:List Wb)(A:Int×Int):Prop where
 l:Zv K C H p pd lp ((n:Int),ps) Ws
 n1:1<=n
 n12:n<=12
 few:ps.length<=60
 rng:∀ q∈ps,0<=q.1/\q.1<(n:Int)/\0<=q.2/\q.2<(n:Int)
 fA:Vj K H lp A
 ca:Pw.Canon A
 a0:0<A.1
 a1:A.1<=A.2
 sA:VF 41 A
noncomputable def z3Q(K:FR):Sp:=λvs H Q _=>∃ (L:Addr) (l:List Int),vs=[.ref L]/\zJ K H L (l.map V.int)/\l.length<=12/\(∀ x∈l,0<=x/\x<100)/\∀ H',zu H H'->Q (.str (Pw.ptT l)) H'
noncomputable def U4:Str:=Str.ofString "ok"
noncomputable def U0(K:FR)(C:Addr):Sp:=λvs H Q _=>∃ (p pd lp L:Addr) (n:Nat) (ps:LI) (Ws:List Wb) (A:Int×Int),vs=[.ref p,.ref L]/\LvS K C H p pd lp n ps Ws A/\∀ H',zu H H'->Q (.str (Pw.Jr (n:Int) ps)) H'
noncomputable def jf(K:FR)(C tb:Addr)(pos:Pos):Sp:=λvs H Q _=>∃ (p pd lp L:Addr) (n:Nat) (ps:LI) (Ws:List Wb) (A:Int×Int),vs=[.ref p,.ref L]/\LvS K C H p pd lp n ps Ws A/\Tab tb pos xr H/\
 ∀ (H':Hp) (Ss:LI) (r:List Nat),Pw.yk ps A (evL n) n Ss->Pw.Rkd Ss n r->Kp tb H H'->Tab tb pos xr H'->Q (.str (Pw.ptT (r.map λ(k:Nat)=>(k:Int)))) H'
noncomputable def dkF(p:Addr):List (Str×V):=Z0 "live" (.ref p) []
def VR(p:Addr):(dkF p).lookup ("live":Str)=some (.ref p):=by unfold dkF;rw[zT,if_pos rfl]
def z3n(p q:Addr):Z0 "live" (.ref q) (dkF p)=dkF q:=by
 unfold dkF;show (if ("live":Str)="live" then [(("live":Str),V.ref q)] else _)=_;rw[if_pos rfl];rfl
structure DkT(K:FR)(Cd:Addr):Prop where
 cl:JY K Cd
 nL:Yn K Cd "live"
noncomputable def Ur(Cd:Addr)(H:Hp)(d p:Addr):Prop:=∃ dx,H d=some (.ins Cd dx (dkF p))
noncomputable def um(K:FR)(C Cd:Addr):Sp:=λvs H Q _=>∃ (d dx:Addr),vs=[.ref d]/\H d=some (.ins Cd dx [])/\∀ (p pd lp:Addr) (H':Hp),H p=none->H pd=none->Ur Cd H' d p->Zv K C H' p pd lp (1,[]) []->Vj K H' lp (1,2)->Kp d H H'->Q .Zc H'
def je{sp:Sp}{pos:Pos}{x:Str}(h:Gl X x)(d:(x == ("__debug__":Str))=false)(D:MkD X.prog X.w X.K X.mg X.base CX k C x ps sp)(hr:zX (k+1) X.A)(i:Passes CX X E):PE X (.Call (.Name x p) [] [] pos) (z3t C sp [] E Qg):=by
 obtain⟨f,fd,a,b,c,F⟩:=D;exact z8s a F hr h b c .nil i d
def vc{R:Addr->V->Hp->Prop}(hw:ZP K H wa W.1 W.2)(k:∀ (p pd:Addr) (H':Hp),H p=none->H pd=none->Zv K C H' p pd lp W []->zu H H'->R p .Zc H') :
 ∀ x dx,H x=none->H dx=none->dx≠x->Yc C [.ref x,.ref wa,.ref lp] (upd (upd H dx (.own x)) x (.ins C dx [])) (R x) E:=λx dx c a ne=>by
 refine⟨x,dx,wa,lp,rfl,zq,λpd H' mp lv kp=>?_⟩;have f:zu H H':=λb o e=>kp b o (by rw[zC (zo e c),zC (zo e a)];exact e) (zo e c);have d:H pd=none:=by
  by_cases z:pd=x;rw[z];exact c;rw[zC z] at mp;by_cases z2:pd=dx;rw[z2];exact a;rw[zC z2] at mp;exact mp
 exact k x pd H' c d ⟨wa,[],lv,hw.same f,Wbs.nil⟩ f
def z7i(K:FR):PySem.W.kitOne K (.type "str") (.type "str")=some true:=02
def z1U{fs:List (Str×V)}(h:H d=some (.ins C dx fs)):KU H (upd H d o) :=
 ⟨λb xs e=>by rw[zC (by rintro rfl;rw[h] at e;cases e)];exact e,λb q u e=>by rw[zC (by rintro rfl;rw[h] at e;cases e)];exact e⟩
def Zv.Z1Q{fs:List (Str×V)}(l:Zv K C H p pd lp W Ws)(h:H d=some (.ins Cd dx fs))(n1:p≠d)(n2:pd≠d):Zv K C (upd H d o) p pd lp W Ws :=
 l.kx (S:=[d]) (λb q e nb=>by rw[zC (by rintro rfl;exact nb (Z04.mpr rfl))];exact e) (z1U h) (λz=>n1 (Z04.mp z)) (λz=>n2 (Z04.mp z))
def U1(y t:Str)(i:Nat)(h:y.cps.size=i):Txt.slice (y ++ t) (some (i:Int)) none=t:=by
 refine Z4O (Z20.mp ?_);rw[Pw.Y7 _ _ (by rw[zK];lia)];rw[Z17,Z11,← h,← Z07];exact List.drop_left ..
end L2
namespace Pw
def Z4f:32∉(ns z).cps.toList:=λh=>by
 rcases z3d h with e |⟨e,_⟩ <;> lia
def jb{hd:Str}{ws:List Int}(h:32∉hd.cps.toList):Txt.split (Txt.join (L2.zQ 32) (hd :: ws.map ns)) (L2.zQ 32)=hd :: ws.map ns :=
 XS h λw hw=>by
  obtain⟨z,_,rfl⟩:=Z23.mp hw;exact Z4f
end Pw
namespace L2
noncomputable def AnC(P:Program)(w:World)(K:FR)(mg:SV)(base:Heap)(a:SV)(hd:Str)(m:Nat)(sp:Sp):Prop:=∃ (t f:Addr) (fd:FuncData),a hd=some (.ref t)/\(∀ H,zO K H t [.int (m:Int),.ref f])/\PySem.W.keepIn K (.ref f)=true/\Binds K fd ["live","pages"] []/\Zo P w K mg base yV 16 f fd ["live","pages"] sp
def Z4Q{mg:SV}{m:Nat}{hd:Str}{sp:Sp}(D:Def P w K mg base k nm ["live","pages"] sp)(i:k<=16)(h:fz hd=some (.ref t))(lt:K.lookup t=some ⟨.type "tuple",od,.seq #[.int (m:Int) tk,.ref f] n,sl⟩)(d:mg nm=some (.ref f)):AnC P w K mg base fz hd m sp:=by
 obtain⟨j,fd,a,b,c,F⟩:=D;rw[d] at b;cases b;exact⟨t,f,fd,h,λH=>.inr ⟨_,_,_,lt,rfl,rfl,zl2,.cons ⟨_,rfl⟩ (.cons rfl .nil)⟩,a,c,F.mono i⟩
structure Ds(K:FR)(C Cd tb:Addr)(pos:Pos)(H:Hp)(d p pd lp:Addr)(n:Nat)(ps:LI)(Ws:List Wb)(A:Int×Int):Prop where
 o:Ur Cd H d p
 s:LvS K C H p pd lp n ps Ws A
 t:Tab tb pos xr H
def Ds.same{pos:Pos}(h:Ds K C Cd tb pos H d p pd lp n ps Ws A)(s:zu H H'):Ds K C Cd tb pos H' d p pd lp n ps Ws A :=
 ⟨let ⟨dx,e⟩:=h.o;⟨dx,s _ _ e⟩,{ h.s with l:=h.s.l.same s,fA:=s _ _ h.s.fA },h.t.same s⟩
def Ds.kx{pos:Pos}{n':Nat}{ps':LI}(h:Ds K C Cd tb pos H d p pd lp n ps Ws A)(k:Kx [p,pd] H H')(l:Zv K C H' p pd lp ((n':Int),ps') Ws')(n1:1<=n')(n12:n'<=12)(few:ps'.length<=60)(rng:∀ q∈ps',0<=q.1/\q.1<(n':Int)/\0<=q.2/\q.2<(n':Int)):Ds K C Cd tb pos H' d p pd lp n' ps' Ws' A:=by
 obtain⟨now,us,lv,hw,m⟩:=id h.s.l;obtain⟨⟨dl,hl⟩,a⟩:=id lv;obtain⟨dx,c⟩:=h.o;have nd:d∉[p,pd]:=λz=>by
  rcases Z08.mp z with z | z;subst z;rw[hl] at c;have i:=congrArg List.length (HO.ins.inj (Z12 c)).2.2;rw[JU] at i;exact absurd i (by show ¬ (3:Nat)=1;decide);rw[Z04.mp z,a] at c;cases c
 have ku:KU H H':=lv.ku k;have j:tb∉[p,pd]:=λz=>by
  rcases Z08.mp z with z | z;exact h.t.ne hl 022 z.symm
  exact h.t.ne a 022 (Z04.mp z).symm
 refine⟨⟨dx,k _ _ c nd⟩,⟨l,n1,n12,few,rng,ku.tup _ _ h.s.fA,h.s.ca,h.s.a0,h.s.a1,h.s.sA⟩,?_⟩;exact Tab.kx h.t k λb f=>by
  rcases Z08.mp f with rfl | f;exact .inr ⟨_,_,_,hl⟩;rw[Z04.mp f];exact .inl ⟨_,a⟩
noncomputable def z5d(K:FR)(x y:Str):Prop:=∃ t,PySem.W.nsIn K mainGlobals x=some (some (.str y t))
def z5d.of{x:Str}(a:PySem.W.nsIn K mainGlobals x=some (some (.str y t))):z5d K x y:=⟨t,a⟩
def z5d.mg{mg:SV}{x:Str}(a:z5d K x y)(XK:K.In h)(G:h.Ns mainGlobals mg):∃ t,mg x=some (.str y t):=by
 obtain⟨t,a⟩:=a;exact⟨t,Z3Q XK G a⟩
noncomputable def z3x(w:World):List DictEntry->Prop
 | []=>True
 | e :: es=>(∃ x t,e.key=.str x t/\e.hash=hashStr w x)/\z3x w es
def z3x.all(h:z3x w b):∀ e∈b,∃ x:Str,(Value.isStrOf x e.key)=true/\e.hash=hashStr w x:=by
 induction b with
 | nil=>intro e he;cases he
 | cons a l ih =>
   intro e he;obtain⟨⟨x,t,d,c⟩,r⟩:=h;rcases Z08.mp he with rfl | he;exact⟨x,by rw[d];exact isStr_of x t,c⟩;exact ih r e he
noncomputable def z9R(w:World)(K:FR)(nm:Str)(a:SV):Prop:=∃ z,PySem.W.nsIn K mainGlobals nm=some (some (.ref z))/\DcK w K z a
def z9R.of(a:PySem.W.nsIn K mainGlobals nm=some (some (.ref z)))(l:K.lookup z=some ⟨.type "dict",none,.dict es ep,#[]⟩)(c:(z == sysModules)=false)(b:z3x w es.toList):z9R w K nm (λx=>findBy Value.isStrOf es x) :=
 ⟨z,a,c,_,es,ep,l,⟨rfl,rfl,rfl⟩,rfl,λe he=>b.all e (Array.mem_toList_iff.mpr he),λ_=>rfl⟩
noncomputable def Yb(K:FR)(a:SV)(hd:Str)(m:Nat)(nm:Str):Prop:=∃ (t f:Addr) (od:Option Addr) (b:Tok) (n:Nat) (sl:Array (Option Value)),a hd=some (.ref t)/\K.lookup t=some ⟨.type "tuple",od,.seq #[.int (m:Int) b,.ref f] n,sl⟩/\PySem.W.nsIn K mainGlobals nm=some (some (.ref f))
def Yb.of{hd:Str}{m:Nat}(a:fz hd=some (.ref t))(l:K.lookup t=some ⟨.type "tuple",od,.seq #[.int (m:Int) tk,.ref f] n,sl⟩)(b:PySem.W.nsIn K mainGlobals nm=some (some (.ref f))):Yb K fz hd m nm:=⟨t,f,od,tk,n,sl,a,l,b⟩
def Yb.anc{mg:SV}{hd:Str}{sp:Sp}(x:Yb K fz hd m nm)(XK:K.In h)(G:h.Ns mainGlobals mg)(D:Def P w K mg base k nm ["live","pages"] sp)(c:k<=16):AnC P w K mg base fz hd m sp:=by
 obtain⟨t,f,od,d,n,sl,a,l,b⟩:=x;exact Z4Q D c a l (Z3Q XK G b)
def Ur.no{Cd:Addr}(h:¬ ("live":Str)=m):(dkF p).lookup m=none:=by
 unfold dkF;rw[zT,if_neg (λz=>h z.symm)];rfl
def Ds.new{pos:Pos}{n':Nat}{ps':LI}(h:Ds K C Cd tb pos H d p pd lp n ps Ws A)(k:Kp d H H')(o:Ur Cd H' d p')(l:Zv K C H' p' pd' lp' ((n':Int),ps') [])(n1:1<=n')(n12:n'<=12)(few:ps'.length<=60)(rng:∀ q∈ps',0<=q.1/\q.1<(n':Int)/\0<=q.2/\q.2<(n':Int))(f:Vj K H' lp' A')(ca:Pw.Canon A')(a0:0<A'.1)(a1:A'.1<=A'.2)(sA:VF 41 A'):Ds K C Cd tb pos H' d p' pd' lp' n' ps' [] A'/\KU H H':=by
 obtain⟨dx,a⟩:=h.o;exact⟨⟨o,⟨l,n1,n12,few,rng,f,ca,a0,a1,sA⟩,Tab.kx h.t (k.kx (S:=[d]) 05) λb c=>by rw[Z04.mp c];exact .inr ⟨_,_,_,a⟩⟩,λb xs e=>k _ _ e (by rintro rfl;rw[a] at e;cases e),λb u q e=>k _ _ e (by rintro rfl;rw[a] at e;cases e)⟩
structure Qq(p:Prop):Prop where
 h:p
def qz{X:Cx}{rest:List Stmt}{t:TS}(a:Qq (Xq X rest t)):Xq X rest t:=a.h
def qc{st:Stmt}(a:Qq (PS X st t))(b:Qq (Xq X rest u)):Qq (Xq X (st :: rest) (z2Q t u)):=⟨z9 a.h b.h⟩
def q1{st:Stmt}(a:Qq (PS X st t)):Qq (Xq X [st] t):=⟨zU a.h⟩
def q0:Qq (Xq X [] z6f):=⟨Qt⟩
def qr{e:Expr}{pos:Pos}(a:Qq (PE X e te)):Qq (PS X (.Return (some e) pos) (Z2S te)):=⟨vB a.h⟩
def qf{e:Expr}{pos:Pos}(c:Qq (PT X e tc))(p:Qq (Xq X a t))(q:Qq (Xq X b u)):Qq (PS X (.If e a b pos) (Z2t tc t u)):=⟨Qe c.h p.h q.h⟩
noncomputable def qs{e:Expr}{pos:Pos}{x:Str}(i:Nat)(q:Qq (PE X e te))(a:swapsWith e (some (.Name x pos')) pos.line X.env=pure false:=by rfl)(hf:X.fn x=true\/X.env.scope.names.lookup x=some .local:=by first | exact Or.inl rfl | exact Or.inr rfl)(c:X.N.Nodup:=by assumption)(hi:X.N[i]?=some x:=by rfl)(b:Loc X.env.scope x:=by first | exact Or.inl rfl | exact Or.inr rfl):Qq (PS X (.Assign [.Name x pos'] e pos) (z4R te (ZF i))):=⟨Zi a hf c hi b q.h⟩
def qa{e:Expr}(p:Qq (PE X e te))(q:Qq (PA X es ta))(a:starEach (e :: es) X.env=016 :: starEach es X.env:=by rfl):Qq (PA X (e :: es) (QI te ta)):=⟨ze a p.h q.h⟩
def qn:Qq (PA X [] Qg):=⟨zw⟩
def qv{X:Cx}{pos:Pos}{x:Str}(i:Nat)(c:X.N[i]?=some x:=by rfl)(b:Vis X.env.scope x:=by first | exact Or.inl rfl | exact Or.inr 09 | exact Or.inr (Or.inr rfl))(hd:(x == ("__debug__":Str))=false:=by decide)(a:(x == ("__classdict__":Str))=false:=by decide):Qq (PE X (.Name x pos) (z1e i)):=⟨pv i c b hd a⟩
def qi{pos:Pos}{j}:Qq (PE X (.Constant (.int i) j pos) (tC (.int i))):=⟨zF⟩
def qw{pos:Pos}{x:Str}{j}:Qq (PE X (.Constant (.str x) j pos) (tC (.str x))):=⟨zE⟩
def qb{pos:Pos}{j}:Qq (PE X (.Constant (.bool c) j pos) (tC (.bl c))):=⟨Z4Z⟩
def qx{e:Expr}{pos:Pos}(a:IxR X r)(p:Qq (PE X e te))(q:Qq (PE X f tf))(b:z4t f:=by exact λ_ _=>rfl):Qq (PE X (.Subscript e f pos) (tOp r te tf)):=⟨Zg a p.h q.h b⟩
def qo{e:Expr}{pos:Pos}(a:Yl X (binaryOp op) r)(p:Qq (PE X e te))(q:Qq (PE X f tf)):Qq (PE X (.BinOp e op f pos) (tOp r te tf)):=⟨Zj a p.h q.h⟩
def qd{X:Cx}{e:Expr}{a:List Expr}{d:TA}{pos pos':Pos}{nm:Str}{k:Nat}{sp:Sp}{ps:List Str}(D:Def X.prog X.w X.K X.mg X.base k nm ps sp)(q:Qq (PA X (e :: a) d))(f:Gl X nm:=by rfl)(he:starEach (e :: a) X.env=016 :: starEach a X.env:=by rfl)(c:(backTo pos (starEach a X.env)).any (·.1)=false:=by rfl)(b:(nm == ("__debug__":Str))=false:=by decide)(hr:zX k X.A:=by first | assumption | exact zX.mono (by assumption) 01):Qq (PE X (.Call (.Name nm pos') (e :: a) [] pos) (vO sp [] E0 d)):=⟨Zx f he c b D hr q.h⟩
def qk{e:Expr}{pos:Pos}(a:Yl X (compareOp op) r)(p:Qq (PE X e te))(q:Qq (PE X f tf))(hm:behindInMarks op f=false:=by first | exact yj _ | rfl):Qq (PT X (.Compare e [op] [f] pos) (z3J (tOp r te tf))):=⟨ZV a p.h q.h hm⟩
def qe{e:Expr}{pos:Pos}(a:Yl X (compareOp op) r)(p:Qq (PE X e te))(q:Qq (PE X f tf))(hm:behindInMarks op f=false:=by first | exact yj _ | rfl):Qq (PE X (.Compare e [op] [f] pos) (tOp r te tf)):=⟨Z0k a p.h q.h hm⟩
def qt{pos:Pos}{j}(q:Qq (PA X es ta)):Qq (PE X (.Tuple es j pos) (Z1q ta)):=⟨Xd q.h⟩
def ql{pos:Pos}(q:Qq (PA X es ta)):Qq (PE X (.List es pos) (Z1l ta)):=⟨Yk q.h⟩
def qp{e:Expr}(q:Qq (PE X e te))(he:∀ whole,isTrue e X.env whole=(do let v ←whole;standAt e.pos;holding [v] (truthy v)):=by intro _;rfl):Qq (PT X e (tB te)):=⟨z7l q.h he⟩
def qT{e:Expr}{pos:Pos}(q:Qq (PT X e tc)):Qq (PT X (.UnaryOp .Not e pos) (Z2A tc)):=⟨z8y q.h⟩
def qW{e:Expr}(q:Qq (PW X e tc)):Qq (PT X e tc):=⟨PW.pt q.h⟩
def qO{e:Expr}{pos:Pos}(p:Qq (PT X e tc))(q:Qq (PW X (.BoolOp .Or (f :: es) pos) tu)):Qq (PW X (.BoolOp .Or (e :: f :: es) pos) (tOr tc tu)):=⟨Z3Y p.h q.h⟩
def qP{e:Expr}{pos:Pos}(p:Qq (PT X e tc)):Qq (PW X (.BoolOp .Or [e] pos) tc):=⟨Z2b p.h⟩
def qA{e:Expr}{pos:Pos}(p:Qq (PT X e tc))(q:Qq (PW X (.BoolOp .And (f :: es) pos) tu)):Qq (PW X (.BoolOp .And (e :: f :: es) pos) (Z5g tc tu)):=⟨Z1C p.h q.h⟩
def qB{e:Expr}{pos:Pos}(p:Qq (PT X e tc)):Qq (PW X (.BoolOp .And [e] pos) tc):=⟨z9B p.h⟩
def qF{pos:Pos}{g:TG}(i:Qq (PI X tg iter wi))(j:Qq (PG X tg g))(q:Qq (Xq X body tb))(a:∀ x:Value,foldedSetIterable iter X.env x=pure x:=by exact λ_=>rfl)(c:PassesOwn 06 X.A X.env X.xe:=by exact PassesOwn.never)(b:X.calm=true:=by rfl):Qq (PS X (.For tg iter body [] pos) (Z3d wi g tb)):=⟨z9Q a c b i.h j.h q.h⟩
def qg{X:Cx}{pos:Pos}{x:Str}(i:Nat)(b:X.N.Nodup:=by assumption)(hi:X.N[i]?=some x:=by rfl)(a:Loc X.env.scope x:=by first | exact Or.inl rfl | exact Or.inr rfl)(hf:X.fn x=true\/X.env.scope.names.lookup x=some .local:=by first | exact .inl rfl | exact .inr rfl | assumption):Qq (PG X (.Name x pos) (ZF i)):=⟨Zd b hi a hf⟩
def qL{e:Expr}(q:Qq (PE X e te)):Qq (PI X f e (Z1k X.K te)):=⟨QK q.h⟩
def qU{e:Expr}(q:Qq (PE X e te)):Qq (PI X f e (Z4u X.K te)):=⟨z6R q.h⟩
def qX{e:Expr}{pos:Pos}(q:Qq (PE X e te))(a:swapsWith e none pos.line X.env=pure false:=by rfl):Qq (PS X (.Expr e pos) (Z1r te)):=⟨Jh q.h a⟩
def qD{e:Expr}{pos:Pos}{x:Str}(q:Qq (PE X e te))(a:attributeBase e x X.env (eval e X.env)=eval e X.env:=by rfl):Qq (PE X (.Attribute e x pos) (Z3V X.K te x)):=⟨X5 q.h a⟩
def qy{X:Cx}{e:Expr}{a:List Expr}{f:TA}{pos pos':Pos}{x:Str}{id:String}{rc:List V->Hp->VK->Prop}(c:Zw X (.builtin id) rc)(hm:X.mg x=none)(i:bootBuiltins x=some (.builtin id))(q:Qq (PA X (e :: a) f))(j:Gl X x:=by rfl)(hn:x≠"__name__":=by decide)(b:(x == ("__debug__":Str))=false:=by decide)(he:starEach (e :: a) X.env=016 :: starEach a X.env:=by rfl)(d:(backTo pos (starEach a X.env)).any (·.1)=false:=by rfl):Qq (PE X (.Call (.Name x pos') (e :: a) [] pos) (tCB rc f)):=⟨Zq c j hm i q.h hn b he d⟩
def qY{X:Cx}{e:Expr}{a:List Expr}{f:TA}{pos pos':Pos}{x:Str}{T:String}{rc:List V->Hp->VK->Prop}(c:Zw X (.type T) rc)(hm:X.mg x=none)(i:bootBuiltins x=some (.type T))(q:Qq (PA X (e :: a) f))(j:Gl X x:=by rfl)(hn:x≠"__name__":=by decide)(b:(x == ("__debug__":Str))=false:=by decide)(he:starEach (e :: a) X.env=016 :: starEach a X.env:=by rfl)(d:(backTo pos (starEach a X.env)).any (·.1)=false:=by rfl):Qq (PE X (.Call (.Name x pos') (e :: a) [] pos) (tCB rc f)):=⟨vd c j hm i q.h hn b he d⟩
def qm{X:Cx}{e:Expr}{cpos apos:Pos}{name id:String}(j:PlainAttrs T)(slot:Slot T name id)(f:typeOf (.builtin id)=pure (.type "method_descriptor"))(hm:MtR X id rm)(p:Qq (PE X o te))(q:Qq (PA X (e :: es) ta))(c:attributeBase o name X.env (eval o X.env)=eval o X.env:=by rfl)(d:((backTo cpos (starEach (e :: es) X.env)).all (λx=>!x.1) && (backToKw cpos (keywordEach [] X.env)).all (λx=>x.1.isSome)
  && decide ((e :: es).length+([]:List Keyword).length+(if ([]:List Keyword).isEmpty then 0 else 1)<30))=true:=by rfl)(b:(apos.endLine == cpos.line)=true:=by rfl)(i:starEach (e :: es) X.env=016 :: starEach es X.env:=by rfl)(a:(backTo cpos (starEach es X.env)).any (·.1)=false:=by rfl) :
 Qq (PE X (.Call (.Attribute o name apos) (e :: es) [] cpos) (tBM X.K T rm te ta)):=⟨z3l j slot f hm p.h q.h c d b i a⟩
def qM{X:Cx}{e o:Expr}{j:TE}{a:List Expr}{i:TA}{pos apos:Pos}{k:Nat}{sp:Sp}{ps:List Str}{C:Addr}{m:Str}{pl:Sem Bool}(p:Qq (PE X o j))(c:JY X.K C)(D:ZC X.prog X.w X.K X.mg X.base yV k C m ps sp)(q:Qq (PA X (e :: a) i))(d:starEach (e :: a) X.env=016 :: starEach a X.env:=by rfl)(b:(backTo pos (starEach a X.env)).any (·.1)=false:=by rfl)
 (l:eval (.Call (.Attribute o m apos) (e :: a) [] pos) X.env=(do
  let ov ←eval o X.env
  standAt apos.atName
  let (f,first) ←holding [ov] (getMethod ov m pl)
  callWith pos f first (backTo pos (starEach (e :: a) X.env)) (backToKw pos (keywordEach [] X.env))):=by rfl)
 (hr:zX k X.A:=by first | assumption | exact zX.mono (by assumption) 01):Qq (PE X (.Call (.Attribute o m apos) (e :: a) [] pos) (jv C m sp [] E0 j i)):=⟨Zt d b l p.h c D hr xU q.h⟩
def q2{pos:Pos}{sp:Sp}(p:Qq (PE X o te))(c:JY X.K C)(D:ZC X.prog X.w X.K X.mg X.base yV k C m ps sp)(a:eval (.Call (.Attribute o m apos) [] [] pos) X.env=(do
  let ov ←eval o X.env
  standAt apos.atName
  let (f,first) ←holding [ov] (getMethod ov m pl)
  callWith pos f first (backTo pos (starEach [] X.env)) (backToKw pos (keywordEach [] X.env))):=by rfl)(hr:zX k X.A:=by first | assumption | exact zX.mono (by assumption) 01):Qq (PE X (.Call (.Attribute o m apos) [] [] pos) (jv C m sp [] E0 te Qg)):=⟨u4 a p.h c D hr xU⟩
def q3{e:Expr}{pos:Pos}(p:Qq (PE X o te))(q:Qq (PE X e tf))(a:swapsWith e (some (.Attribute o f' pos')) pos.line X.env=pure false:=by rfl):Qq (PS X (.Assign [.Attribute o f' pos'] e pos) (Z4g X.K te tf f')):=⟨Z2K p.h q.h a⟩
def q4{e:Expr}{pos:Pos}(p:Qq (PE X e te))(q:Qq (PE X (.BoolOp .And (f :: es) pos) tf)):Qq (PE X (.BoolOp .And (e :: f :: es) pos) (Z0S te tf)):=⟨Z3w p.h q.h⟩
def q5{e:Expr}{pos:Pos}(p:Qq (PE X e te))(q:Qq (PE X (.BoolOp .Or (f :: es) pos) tf)):Qq (PE X (.BoolOp .Or (e :: f :: es) pos) (Z5k te tf)):=⟨Z0V p.h q.h⟩
def q6{e:Expr}{pos:Pos}{op}(p:Qq (PE X e te)):Qq (PE X (.BoolOp op [e] pos) te):=⟨z8x p.h⟩
def q7{e:Expr}{pos:Pos}(p:Qq (PE X e te)):Qq (PE X (.UnaryOp .Not e pos) (Z1i te)):=⟨z6E p.h⟩
def q8{e:Expr}{pos:Pos}(c:Qq (PT X o tc))(p:Qq (PE X e te))(q:Qq (PE X f tf)):Qq (PE X (.IfExp o e f pos) (tIf tc te tf)):=⟨z0g c.h p.h q.h⟩
def q9{e:Expr}{pos:Pos}{lo:Option Expr}(a:SlR X rs)(q:Qq (PE X e te))(l:Qq (PO X lo tl))(h:Qq (PO X hi th)):Qq (PE X (.Subscript e (.Slice lo hi none p2) pos) (tSl rs te tl th)):=⟨yd a q.h l.h h.h⟩
def qQ{e:Expr}(q:Qq (PE X e te)):Qq (PO X (some e) (Z1o te)):=⟨yz q.h⟩
def qK:Qq (PO X none z3H):=⟨yF⟩
def qR{X:Cx}{e f:Expr}{a:TA}{pos pos':Pos}(hm:X.mg "range"=none)(q:Qq (PA X [e] a))(c:Gl X "range":=by rfl)(b:starEach [e] X.env=[016]:=by rfl):Qq (PI X f (.Call (.Name "range" pos') [e] [] pos) (Z0T a)):=⟨jH c hm q.h b⟩
def qH{e:Expr}{g:TG}(p:Qq (PG X e g))(q:Qq (PGs X es ug))(a:(assignEach (e :: es) X.env).map (·.2)=assign e X.env :: (assignEach es X.env).map (·.2):=by rfl):Qq (PGs X (e :: es) (Z0Y g ug)):=⟨Zr p.h q.h a⟩
def qN:Qq (PGs X [] Z4z):=⟨YT⟩
def qJ{X:Cx}{a:List Expr}{pos:Pos}{c:TGs}{j:Nat}{n:Nat}(q:Qq (PGs X a c))(d:X.calm=true:=by rfl)(hn:(assignEach a X.env).length=n:=by rfl)(b:(assignEach a X.env).findIdx? (·.1)=none:=by rfl):Qq (PG X (.Tuple a j pos) (z9J X.K n c)):=⟨z3f d q.h hn b⟩
def qG{pos:Pos}{g:TG}(sc:Scope)(N':List Str)(n:List (Option Nat))(i:Qq (PI X tg iter wi))(k:Uq X (relabel scope X.env) N' n)(j:∀ cl C s H fp,N'.Nodup->Qq (PG 015 tg g))(l:∀ cl C s H fp,Qq (PTs 015 ifs tt))(m:∀ cl C s H fp,Qq (PE 015 elt te))(o:X.env.scope=sc:=by rfl)(f:∀ y∈scope.names,y.2=.free->sc.names.lookup y.1=some .cell:=by decide +kernel)(d:∀ y∈scope.names,y.2≠.cell:=by decide)(b:scope.kind=.function:=by rfl)(a:∀ y∈scope.names,y.2=.local->scope.names.lookup y.1=some .local:=by decide +kernel)(p:N'.Nodup:=by decide +kernel)(c:X.calm=true:=by rfl)(q:∀ x,foldedSetIterable iter X.env x=pure x:=by intro _;rfl):Qq (PE X 011 (Qk wi n g tt te)) :=
 ⟨ZQ N' n c i.h (by rw[o];exact f) d b a k (λcl C s H fp=>(j cl C s H fp p).h) (λcl C s H fp=>(l cl C s H fp).h) (λcl C s H fp=>(m cl C s H fp).h) q⟩
def qj{X:Cx}{a:List Expr}{pos:Pos}{c:TGs}(K:FR)(n:Nat){j:Nat}(q:Qq (PGs X a c))(d:X.K=K:=by rfl)(f:X.calm=true:=by rfl)(hn:(assignEach a X.env).length=n:=by rfl)(b:(assignEach a X.env).findIdx? (·.1)=none:=by rfl):Qq (PG X (.Tuple a j pos) (z9J K n c)):=⟨xX n d f q.h hn b⟩
def qV:Qq (PTs X [] (λ_ H Q=>Q true H)):=⟨Z8⟩
def fs{N ps:List Str}{sc:Scope}(a:sc.kind=.function:=by rfl)(b:sc.isCoroutine=false:=by rfl)(c:sc.isGenerator=false:=by rfl)(d:N.Nodup:=by decide +kernel)(e:N.take ps.length=ps:=by rfl)(f:∀ x∈ps,sc.names.lookup x=some .local\/sc.names.lookup x=some .cell:=by decide +kernel)(g:∀ y∈sc.names,y.2≠.free:=by decide +kernel):zB N ps sc:=⟨a,b,c,d,e,f,g⟩
def QX.yy{mg:SV}{x:Str}{st:Stmt}{sp:Sp}(F:QX K x qual st f fd)(S:zB N ps (zh st))(c:N.Nodup->∀ (cdv:Value) (A:Around) (outer:List Env) (s:Shared) (H:Hp) (vs:List V) (Q:VK) (E:XK),zX k (A.deeper (envOfC qual (zh st) s.heap.objs.size f cdv))->sp vs H Q E->
  ∃ t,Qq (Xq (Zy yV P w K mg base N qual (zh st) f cdv A outer s H E).nox (Zs st) t)/\t { nx:=λ_ H'=>Q .Zc H',rt:=Q } (start N vs) H)(len:∀ vs H Q E,sp vs H Q E->vs.length=ps.length:=by (intro vs H Q E h;repeat first | (obtain⟨rfl,_⟩:=h;rfl) | obtain⟨_,h⟩:=h)):Zo P w K mg base yV (k+1) f fd ps sp :=
 F.ok S len λcdv A outer s H vs Q E hr h=>let ⟨t,a,b⟩:=c S.nd cdv A outer s H vs Q E hr h;⟨t,a.h,b⟩
def FnAt.g{h:Heap}{mg:SV}{n:Str}{st:Stmt}{ps:List Str}(x:FnAt K n st)(XK:K.In h)(G:h.Ns mainGlobals mg)(b:∀ (kV doc pm:Value) (an:Option Addr) (cdv ct:Value) (us:List Value),us.length=ps.length->bindArgs (PySem.W.fnOf n n (ZK st) (Zs st) (zh st) .none kV doc pm an cdv ct) ⟨us,[]⟩=pure (ps.zip us):=by (intro _ _ _ _ _ _ us hl;repeat first | (simp at hl;done) | (rcases us with _ |⟨_,us⟩;· first | (simp at hl;done) | rfl))):ZE K mg n st ps:=x.fnd ps XK G b
def jy.g{st:Stmt}(x:jy K C m q st)(b:∀ (kV doc pm:Value) (an:Option Addr) (cdv ct:Value) (us:List Value),us.length=ps.length->bindArgs (PySem.W.fnOf m q (ZK st) (Zs st) (zh st) .none kV doc pm an cdv ct) ⟨us,[]⟩=pure (ps.zip us):=by (intro _ _ _ _ _ _ us hl;repeat first | (simp at hl;done) | (rcases us with _ |⟨_,us⟩;· first | (simp at hl;done) | rfl))):qI K C m q st ps:=x.fnd ps b
noncomputable def JW(P:Program)(w:World)(Cs:List Addr):qq:=λouter H s E e s'=>∃ C,C∈Cs/\ye P w C outer H s E e s'
def Z0Z{mg:SV}{e:Value}(hC:C∈Cs)(h:(Zy (ye P w C) P w K mg base N qual scope f cd A outer s H E).xe e s'):(Zy (JW P w Cs) P w K mg base N qual scope f cd A outer s H E).xe e s' :=
 wpAny_mono (show wpAny (model P w) _ (leaving _ e) _ _ s' from h) (λ_ _ q=>⟨C,hC,q⟩) λ_ _ q=>⟨C,hC,q⟩
def z2g{mg:SV}{σ:St}{s1:Shared}{e:Addr}(hC:C∈Cs)(I:Inv 026 pins σ H1 s1)(a:Heap.MadeExcOf s1.heap h2 e 035 vs)(b:E 035 none H1) :
 (Zy (JW P w Cs) P w K mg base N qual scope f cd A outer s H E).xe (.ref e) { s1 with heap:=h2 } :=
 Z0Z hC (UX (I.xR (Zy (ye P w C) P w K mg base N qual scope f cd A outer s H E).xe) a b)
def z3q{mg:SV}(hC:C∈Cs):Passes (ye P w C) 026 E:=λpins σ H1 s1 e s2 I h =>
 Z0Z hC (Yx pins σ H1 s1 e s2 (I.xR (Zy (ye P w C) P w K mg base N qual scope f cd A outer s H E).xe) h)
def Z2M{mg:SV}(a:∀ C∈Cs',C∈Cs):Passes (JW P w Cs') 026 E:=λpins σ H1 s1 e s2 I ⟨C,hC,h⟩=>z3q (a C hC) pins σ H1 s1 e s2 I h
def QZ{mg:SV}{x:Str}{e:Expr}{cpos pos:Pos}(i:C∈Cs)(T:V9 K mg x C)(n:Gl 026 x)(ha:PA 026 (e :: es) t)(he:starEach (e :: es) 04=(false,eval e 04) :: starEach es 04)(a:(backTo cpos (starEach es 04)).any (·.1)=false)(l:(x == ("__debug__":Str))=false) :
 PS 026 (.Raise (some (.Call (.Name x np) (e :: es) [] cpos)) none pos) (z2c E C t):=by
 intro pins s1 σ H1 D I h;obtain⟨bm,Nn,nm,qn,bs,hdct,sn,sub,ab,col,dd,k0,k1,k2,k3,k5,mN,hC,u,j,Tl⟩:=z8w (h:=base) I.ok.mod.kin T.exc;have k:(backTo cpos (starEach (e :: es) 04)).any (·.1)=false:=by rw[he];show (false || (backTo cpos (starEach es 04)).any (·.1))=false;rw[a];rfl
 refine wpAny_Raise_call_subU (C:=C) (nm:=nm) (q:=qn) (N:=Nn) (bs:=bs) (bm:=bm) (hdct:=hdct) (sn:=sn) (sub:=sub) (ab:=ab) (col:=col) (dd:=dd) (k0:=k0) (k1:=k1) (k2:=k2) (k3:=k3) (k5:=k5)
  Z41 03 Z41 (mN:=mN) (Tl.hasType Z41.hasBase) (I.ok.hd rfl) k j (yE I n T.bound ⟨rfl,?_⟩ l)
 have p:=ha cpos pins s1 σ H1 _ I h;have c:wpAny (model P w) (A.deeper 04) (spliced (backTo cpos (starEach (e :: es) 04))) _ _ s1:=p;show wpAny (model P w) (A.deeper 04) (evalArgs 035 true (backTo cpos (starEach (e :: es) 04)) []) _ _ s1;rw[he] at c ⊢;refine Calls.evalArgs_plain (wpAny_mono c (λus s2 q=>?_) λ_ _ y=>y);obtain⟨vs,H2,I2,r,lv,m⟩:=q;have d:∀ b o,base.get? b=some o->s2.heap.get? b=some o:=I2.bk;refine⟨rfl,?_,d _ _ hC,u.keeps d,Tl.keeps d,λh' v hm=>z2g i I2 hm m⟩;show us.length<=sizeLine;rw[← r.length,sizeLine_eq];lia
noncomputable def XWA(Cs:List Addr)(X:Cx)(pins:List 013)(Rx:Addr->Hp->Prop):Value->Shared->Prop:=λe s2=>∃ C a H1 s1,C∈Cs/\Inv X pins a H1 s1/\ye X.prog X.w C X.stack H1 s1 (λ_ _ H'=>Rx C H') e s2
noncomputable abbrev Cx.z2A(X:Cx)(Cs:List Addr)(pins:List 013)(Rx:Addr->Hp->Prop):Cx:={ X with pn:=X.pn ++ pins,xe:=XWA Cs X pins Rx }
def Inv.z2A{X:Cx}{σ:St}(I:Inv X pins σ H s):Inv (X.z2A Cs pins Rx) [] σ H s:=(I.z5y (C:=0) (Rx:=λ_=>True)).xR _
def Inv.Uc{X:Cx}{σ:St}(I:Inv (X.z2A Cs pins Rx) pins' σ H s):Inv X pins σ H s :=
 Inv.z6p (C:=0) (Rx:=λ_=>True) (I.xR (XW 0 X pins λ_=>True))
def Z3C{X:Cx}{pins:List 013}{Rx:Addr->Hp->Prop}:Passes (JW X.prog X.w Cs) (X.z2A Cs pins Rx) (λv _ H'=>∃ C,v=.ref C/\Rx C H'):=λb σ H s e s' I ⟨C,hC,h⟩=>by
 refine⟨C,σ,H,s,hC,I.Uc,?_⟩;obtain⟨a,t,B,H',k,j,i,f,c,l,C',d,m⟩:=h;cases d;exact⟨a,t,B,H',k,j,i,f,c,l,m⟩
noncomputable def Z3m(X:Cx):List ExceptHandler->List (Addr×TS)->Prop
 | [],q=>q=[]
 | h :: r,q=>∃ x i c b j D f d,h=.ExceptHandler (some (.Name x i)) none (c :: b) j/\q=(D,f) :: d/\V9 X.K X.mg x D/\Gl X x/\(x == ("__debug__":Str))=false/\(∀ a,Xq (X.exc a) (c :: b) f)/\Z3m X r d
def UE{bs sub:List Value}{dd:Option Addr}{g:Array GenState}{os:OsState}{e:Addr}(hC:h.get? C=some (excClassObj nm q C N bs bm hdct sn sub ab col dd k0 k1 k2 k3 k5 newId))(j:h.get? D=some (excClassObj nm' q' D N' bs' bm' hdct' sn' sub' ab' col' dd' j0 j1 j2 j3 j5 newId'))(he:h.get? e=some oe)(b:oe.cls=.ref C)(a:bm'.contains (.type "BaseException")=true)(i:(Value.ref C :: bm).contains 025=false)(k:Q false ⟨h,g,d,t,os⟩):wpAny M A (excMatches (.ref e) 025) Q E ⟨h,g,d,t,os⟩:=by
 have c:(Value.ref D :: bm').contains (.type "BaseException")=true:=by rw[List.contains_cons,a,Bool.or_true]
 have f:=tc_notTuple;unfold excMatches
 repeat (first | (with_reducible refine wpAny_loadPart_at he ?_;rw[b]) | with_reducible refine wpAny_loadPart_at j ?_ | (with_reducible refine wpAny_isSubtype_exc j ?_;rw[c]) | (with_reducible refine wpAny_isSubtype_exc hC ?_;rw[i]) | wp_step)
 exact k
def Z4S{bs sub:List Value}{dd:Option Addr}(X:K.In h)(hC:h.get? C=some (excClassObj nm q C N bs bm hdct sn sub ab col dd k0 k1 k2 k3 k5 newId))(e:PySem.W.mroIn K C 025=some false):(Value.ref C :: bm).contains 025=false:=by
 unfold PySem.W.mroIn at e;obtain⟨cd,a,b⟩:=Option.bind_eq_some_iff.mp e;have c:cd.mro=.ref C :: bm:=by
  unfold PySem.W.clsIn at a;split at a;rename_i ho;have:=X _ _ ho;rw[hC] at this;cases a;have:=congrArg Obj.data (Z12 this);cases this;rfl;cases a
 split at b;cases b;have e:=Z12 b;rw[c] at e;exact e
noncomputable def Z5s(n:Nat)(b:List (Addr×TS))(Rx:Addr->Hp->Prop)(tb:TS):TS:=λD σ H=>tb D σ H/\∀ C H',Rx C H'->∃ a,b.lookup C=some a/\a D (List.replicate n none) H'
def z9a{d:List ExceptHandler}{pos:Pos}(M:X.stack=X.env :: X.outer)(U:X.env.frame=some X.env.locals)(kts:∀ C∈Cs,PySem.W.ktsIn X.K C "BaseException"=true)(no:∀ C∈Cs,∀ D∈q.map Prod.fst,D≠C->PySem.W.mroIn X.K C 025=some false)(E:∀ pins,Xq (X.z2A Cs pins Rx) body tb)(Y:Z3m X (h₀ :: d) q):PS X (.Try body (h₀ :: d) [] [] pos) (Z5s X.N.length q Rx tb):=by
 intro pins s σ H D I h;obtain⟨h1,h2⟩:=h;refine wpAny_Try_except (wpAny_mono (E pins [] s σ H D I.z2A h1) (λf s1 hf=>?_) λe s2 he=>?_)
 · have cv:SP X pins D f s1:=by
    cases f with
    | next=>obtain⟨c,H',J,q⟩:=hf;exact⟨c,H',J.Uc,q⟩
    | brk=>obtain⟨c,H',J,q⟩:=hf;exact⟨c,H',J.Uc,q⟩
    | cont=>obtain⟨c,H',J,q⟩:=hf;exact⟨c,H',J.Uc,q⟩
    | ret u=>obtain⟨v,c,H',J,r,q⟩:=hf;exact⟨v,c,H',J.Uc,r,q⟩
   cases f with
   | next=>exact wpAny_execs_nil cv
   | brk=>exact cv
   | cont=>exact cv
   | ret u=>exact cv
 · obtain⟨C,σ1,H1,s1,hC,I1,a,t,B,H2,rfl,os,bare,fl,hok,u,hE⟩:=he
   obtain⟨ts,hl,h2⟩:=h2 C H2 hE;have no:=no C hC;have i:=I1.ok;have R:∀ b∈frs X.stack,∃ o,s1.heap.get? b=some o/\∀ vs,o.data≠.fields vs:=λb E=>Y6 I1 E;have S:Heap.FlyingW B (X.env :: X.outer) a 035 (.ref t) s2.heap:=by rw[← M];exact fl
   have mk:∀ l:Heap,B.StaysIn l->s2.heap.UpToSlots l->Inv X pins (List.replicate X.N.length none) H2 { s2 with heap:=l }:=λl st sm =>
    (I1.z5e.z4i (s':={ s2 with heap:=l }) (ch:=[]) os ((u.on sm R).un st λb E=>I1.YR b E) (hok.kept st) bare λb z=>absurd z 05)
   refine wpAny_looks_onW (outer:=X.outer) (by rw[i.frames,M]) U S λh4 y G=>?_;refine wpAny_landsW y λl m F=>?_;have J5:=mk l m.1 (G.trans F);obtain⟨nm,q',Nn,bs,bm,hdct,sn,sub,ab,col,dd,k0,k1,k2,k3,k5,newId,n,p,_⟩:=kts_cls J5.YY (kts C hC);obtain⟨ob,L,k⟩:=m.there;have go:∀ (d:List ExceptHandler) (q:List (Addr×TS)),Z3m X d q->q.lookup C=some ts->(∀ D∈q.map Prod.fst,D≠C->PySem.W.mroIn X.K C 025=some false)->wpAny 06 X.A (handleBy 024 X.env d) (SP X pins D) X.xe { s2 with heap:=l }:=by
    intro d
    induction d with
    | nil =>
      intro q Q hl _;rw[show q=[] from Q] at hl;cases hl
    | cons h₁ r ih =>
      intro q Q hl no;obtain⟨x,p2,b₀,P,p3,D',ts',q,rfl,rfl,T,hg,hdb,Y,hr⟩:=Q;refine wpAny_handleBy_cons (codeAny_handlers_test ?_) (by intro q;cases q);refine yE (X:=X.exc a) (J5.exc (a:=a)) hg T.bound ?_ hdb;rw[List.lookup_cons] at hl;by_cases e:C=D'
      · subst e
        rw[beq_self_eq_true] at hl;cases hl;refine wpAny_excMatches_sub_self n L k p (codeAny_handlers_suite ?_);refine lands_againW m λh6 fl6 sm6=>?_;have J6:=mk h6 fl6.1 ((G.trans F).trans sm6);refine wpAny_mono (Y a pins _ _ H2 D (J6.exc (a:=a)) h2) (λf s3 hf=>?_) λe s3 z=>z.elim;cases f with
        | next=>obtain⟨c,H',J,q⟩:=hf;exact⟨c,H',J.z4h i,q⟩
        | brk=>obtain⟨c,H',J,q⟩:=hf;exact⟨c,H',J.z4h i,q⟩
        | cont=>obtain⟨c,H',J,q⟩:=hf;exact⟨c,H',J.z4h i,q⟩
        | ret u=>obtain⟨v,c,H',J,r,q⟩:=hf;exact⟨v,c,H',J.z4h i,r,q⟩
      have e':(C == D')=false:=beq_eq_false_iff_ne.mpr e;rw[e'] at hl;obtain⟨nm',q'',Nn',bs',bm',Z,sn',sub',ab',col',dd',j0,j1,j2,j3,j5,O,hD,j,_⟩:=kts_cls J5.YY T.kts;refine UE n hD L k j (Z4S J5.YY n (no D' 05 (Z3O e))) ?_;exact ih q hr hl λD hD=>no D (by simp[hD])
   exact go _ _ Y hl no
def Zo.any{mg:SV}{sp:Sp}(F:Zo P w K mg base yV k f fd ps sp):Zo P w K mg base CX k f fd ps sp :=
 ⟨F.len,λA outer s H args us vs Q E hr a b c d=>codeAny_mono (F.run A outer s H args us vs Q E hr a b c d) λr s' x=>match r,x with
  | .ok (.ret _),x=>x
  | .error _,x=>x.elim⟩
noncomputable def z9U(X:Cx)(CX:qq)(k:Nat)(E:XK)(a:TE)(t:TA):TE:=λσ H Q=>a σ H λv H1=>∃ (f:Addr) (fd:FuncData) (ps:List Str) (sp:Sp),v=.ref f/\PySem.W.keepIn X.K (.ref f)=true/\Binds X.K fd ps []/\Zo X.prog X.w X.K X.mg X.base CX k f fd ps sp/\t σ H1 λvs H2=>sp (vs ++ []) H2 Q E
def z4Q{e:Expr}{pos:Pos}(hr:zX k X.A)(m:Passes CX X E)(b:PE X c tc)(ha:PA X (e :: es) t)(i:eval (.Call c (e :: es) [] pos) X.env=(do callWith pos (← eval c X.env) [] (backTo pos (starEach (e :: es) X.env)) (backToKw pos (keywordEach [] X.env))):=by rfl)(he:starEach (e :: es) X.env=016 :: starEach es X.env:=by rfl)(a:(backTo pos (starEach es X.env)).any (·.1)=false:=by rfl):PE X (.Call c (e :: es) [] pos) (z9U X CX k E tc t):=by
 intro pins s σ H Q I h;rw[i];refine wpAny_bind (z8 (b pins s σ H _ I h) λu s1 zq=>?_);obtain⟨v,H1,I1,r,q⟩:=zq;obtain⟨f,fd,ps,sp,rfl,j,d,F,q⟩:=q;cases r;refine PySem.W.callWith_K (h₀:=X.base) I1.ok.mod.kin j (z8 (ha pos pins s1 σ H1 _ I1 q) λus s2 ⟨vs,H2,I2,l,q2⟩=>⟨I2.YY,?_⟩) he a;exact Ug F hr d .nil m I2 l q2
def tkd(h0:0<m)(b:m<2 ^ 60)(a:B<=100000)(hd:zY H d B)(k:∀ n H',0<=n->n<m->zY H' d (B+1)->Kp d H H'->Q (.int n) H'):YW [.ref d,.int m] H Q E:=⟨d,m,B,rfl,h0,b,a,hd,k⟩
def tkc(a:σ[i]?=some (some (.ref d)))(h0:0<m)(c:m<2 ^ 60)(b:B<=100000)(hd:zY H d B)(k:∀ n H',0<=n->n<m->zY H' d (B+1)->Kp d H H'->Q (.int n) H'):vO YW [] E (QI (z1e i) (QI (tC (.int m)) Qg)) σ H Q:=⟨_,a,tkd (E:=E) h0 c b hd k⟩
def ixl(a:zJ K H p xs)(ha:atI xs z=some v)(q:Q v H):z7c K (.ref p) (.int z) H Q:=⟨p,xs,z,v,rfl,rfl,a,ha,q⟩
def ixt(a:zO K H p xs)(ha:atI xs z=some v)(q:Q v H):z9C K (.ref p) (.int z) H Q:=⟨p,xs,z,v,rfl,rfl,a,ha,q⟩
def Zu(a:zO K H p xs)(ha:atI xs z=some v)(q:Q v H):tC (.int z) σ H λy H2=>z9C K (.ref p) y H2 Q:=⟨p,xs,z,v,rfl,rfl,a,ha,q⟩
def Z3(a:zJ K H p xs)(ha:atI xs z=some v)(q:Q v H):tC (.int z) σ H λy H2=>z7c K (.ref p) y H2 Q:=⟨p,xs,z,v,rfl,rfl,a,ha,q⟩
noncomputable def nlT:Str:=Str.ofString "NoLink"
noncomputable def noT:Str:=Str.ofString "none"
noncomputable def z4s(K:FR)(C Xl:Addr):Sp:=λvs H Q E=>∃ (p pd lp L:Addr) (W:Wb) (Ws:List Wb) (x y:Int),vs=[.ref p,.ref L]/\H L=some (.lst [.int x,.int y])/\Zv K C H p pd lp W Ws/\Ws.length<=5000/\W.2.length<=60/\
 (InB W.1 x y/\W.2.length<60->∀ (H':Hp) (ms:LI),ms.Perm (W.2 ++ [(x,y)])->ms.Pairwise yf->Zv K C H' p pd lp (W.1,ms) (Ws ++ [W])->Kx [p,pd] H H'->Q (.str U4) H')/\(¬ (InB W.1 x y/\W.2.length<60)->∀ H',zu H H'->E (.ref Xl) none H')
noncomputable def jn(K:FR)(C Xl:Addr):Sp:=λvs H Q E=>∃ (p pd lp L:Addr) (W:Wb) (Ws:List Wb) (x y:Int),vs=[.ref p,.ref L]/\H L=some (.lst [.int x,.int y])/\Zv K C H p pd lp W Ws/\Ws.length<=5000/\W.2.length<=60/\
 (InB W.1 x y/\(x,y)∈W.2->∀ (H':Hp),Zv K C H' p pd lp (W.1,W.2.erase (x,y)) (Ws ++ [W])->Kx [p,pd] H H'->Q (.str U4) H')/\(¬ (InB W.1 x y/\(x,y)∈W.2)->∀ H',zu H H'->E (.ref Xl) none H')
noncomputable def z3N(K:FR)(C Xl:Addr):Sp:=λvs H Q E=>∃ (p pd lp L:Addr) (n:Nat) (ps:LI) (Ws:List Wb),vs=[.ref p,.ref L]/\Zv K C H p pd lp ((n:Int),ps) Ws/\Ws.length<=5000/\n<=12/\
 (n<12->∀ (H':Hp),Zv K C H' p pd lp (((n+1:Nat):Int),ps) (Ws ++ [((n:Int),ps)])->Kx [p,pd] H H'->Q (.str (Pw.ns (n:Int))) H')/\(¬ n<12->∀ H',zu H H'->E (.ref Xl) none H')
noncomputable def z3D(K:FR)(C:Addr):Sp:=λvs H Q _=>∃ (p pd lp L:Addr) (W:Wb) (Ws:List Wb),vs=[.ref p,.ref L]/\Zv K C H p pd lp W Ws/\(Ws=[]->∀ H',zu H H'->Q (.str noT) H')/\∀ W0 Ws0,Ws=Ws0 ++ [W0]->∀ H',Zv K C H' p pd lp W0 Ws0->Kx [p,pd] H H'->Q (.str U4) H'
noncomputable def z2x(K:FR)(C Xl:Addr):Sp:=λvs H Q E=>∃ (p pd lp:Addr) (W:Wb) (Ws:List Wb) (x:Int),vs=[.ref p,.int x]/\Zv K C H p pd lp W Ws/\(x<W.1->∀ H',zu H H'->Q .Zc H')/\(¬ x<W.1->∀ H',zu H H'->E (.ref Xl) none H')
noncomputable def z1q(K:FR)(C Xl:Addr):Sp:=λvs H Q E=>∃ (p pd lp L:Addr) (n c:Nat) (ps:LI) (Ws:List Wb) (A:Int×Int),vs=[.ref p,.ref L]/\H L=some (.lst [.int (c:Int)])/\LvS K C H p pd lp n ps Ws A/\
 (c<n->∀ (H':Hp) (Ss:LI),Pw.yk ps A (evL n) n Ss->(∀ S∈Ss,VF 1983 S)->zu H H'->Q (.str (Pw.frT (Ss.getD c (0,1)))) H')/\(¬ c<n->∀ H',zu H H'->E (.ref Xl) none H')
noncomputable def z3W(K:FR)(C Xl:Addr):Sp:=λvs H Q E=>∃ (p pd lp L:Addr) (n x y:Nat) (ps:LI) (Ws:List Wb) (A:Int×Int),vs=[.ref p,.ref L]/\H L=some (.lst [.int (x:Int),.int (y:Int)])/\LvS K C H p pd lp n ps Ws A/\
 (x<n/\y<n/\x≠y->ps.length+6<=60/\∀ (H':Hp) (o:Option (List Int)),Pw.uD (Pw.UQ ps A (evL n) n x y) (oiL (List.range (min 6 n))) o->zu H H'->Q (.str (Pw.Z1x o)) H')/\(¬ (x<n/\y<n/\x≠y)->∀ H',zu H H'->E (.ref Xl) none H')
noncomputable def jW(P:Program)(w:World)(K:FR)(mg:SV)(base:Heap)(b:Nat)(a:SV)(Xl Xm:Addr):Sp:=λvs H Q E=>∃ (p:Addr) (x hd:Str) (ws:List Str),vs=[.ref p,.str x]/\x.cps.size<=8000/\Txt.split x (zQ 32)=hd :: ws/\ws.length<=5000/\(∀ z∈ws,z.cps.size<=8000)/\
 (((a hd=none\/∃ z∈ws,¬ Pw.xn 2 z)/\∀ H',zu H H'->E (.ref Xm) none H')\/
  ∃ (t f:Addr) (m:Nat) (fd:FuncData) (sp:Sp),a hd=some (.ref t)/\(∀ H,zO K H t [.int (m:Int),.ref f])/\PySem.W.keepIn K (.ref f)=true/\Binds K fd ["live","pages"] []/\Zo P w K mg base (ye P w Xl) b f fd ["live","pages"] sp/\(∀ z∈ws,Pw.xn 2 z)/\
   ((ws.length≠m/\∀ H',zu H H'->E (.ref Xm) none H')\/
    ∃ zs:List Int,ws=zs.map Pw.ns/\(∀ z∈zs,0<=z/\z<100)/\zs.length=m/\m<=2/\∀ (L:Addr) (H':Hp),zu H H'->H L=none->H' L=some (.lst (zs.map V.int))->sp [.ref p,.ref L] H' Q E))
noncomputable def z7U(A:Int×Int):Prop:=Pw.Canon A/\0<A.1/\A.1<=A.2
noncomputable def ErX(Xc:Addr)(H:Hp)(E:XK):Prop:=∀ H',zu H H'->E (.ref Xc) none H'
noncomputable def vf(K:FR):Sp:=λvs H Q _=>∃ (p:Addr) (A:Int×Int),vs=[.ref p]/\SqF K H p A/\(1<=A.2/\Int.gcd A.1 A.2=1)/\Q (.bl (decide (0<A.1/\A.1<=A.2))) H
inductive Hd where
 | link | unlink | page | undo | show | share | rank | pass
noncomputable def Hd.tx:Hd->Str
 | .link=>Str.ofString "link"
 | .unlink=>Str.ofString "unlink"
 | .page=>Str.ofString "page"
 | .undo=>Str.ofString "undo"
 | .show=>Str.ofString "show"
 | .share=>Str.ofString "share"
 | .rank=>Str.ofString "rank"
 | .pass=>Str.ofString "pass"
noncomputable def Hd.ar(h:Hd)(x y:Nat):List Int:=match h with
 | .link | .unlink | .pass=>[(x:Int),(y:Int)]
 | .share=>[(x:Int)]
 | _=>[]
noncomputable def Hd.nr(h:Hd):Nat:=(h.ar 0 0).length
def Hd.z2l(h:Hd)(x y:Nat):(h.ar x y).length=h.nr:=by cases h <;> rfl
noncomputable def Hd.cm(h:Hd)(x y:Nat):Str:=Txt.join (zQ 32) (h.tx :: (h.ar x y).map Pw.ns)
noncomputable def z1x(h:Hd)(x y n:Nat)(ps:LI):Prop:=match h with
 | .link=>¬ (x<n/\y<n/\ps.length<60)
 | .unlink=>¬ (x<n/\y<n/\((x:Int),(y:Int))∈ps)
 | .page=>¬ n<12
 | .share=>¬ x<n
 | .pass=>¬ (x<n/\y<n/\x≠y)
 | _=>False
noncomputable abbrev z7O(n:Nat)(ps:LI)(Ws:List Wb)(n':Nat)(ps':LI)(Ws':List Wb):Prop:=n'=n/\ps'=ps/\Ws'=Ws
noncomputable def z9Z(A:Int×Int)(h:Hd)(x y n:Nat)(ps:LI)(Ws:List Wb)(a:Str)(n':Nat)(ps':LI)(Ws':List Wb):Prop:=match h with
 | .link=>a=U4/\n'=n/\ps'.Perm (ps ++ [((x:Int),(y:Int))])/\ps'.Pairwise yf/\Ws'=Ws ++ [((n:Int),ps)]
 | .unlink=>a=U4/\n'=n/\ps'=ps.erase ((x:Int),(y:Int))/\Ws'=Ws ++ [((n:Int),ps)]
 | .page=>a=Pw.ns (n:Int)/\n'=n+1/\ps'=ps/\Ws'=Ws ++ [((n:Int),ps)]
 | .undo=>(Ws=[]/\a=noT/\z7O n ps Ws n' ps' Ws')\/(Ws=Ws' ++ [((n':Int),ps')]/\a=U4)
 | .show=>a=Pw.Jr (n:Int) ps/\z7O n ps Ws n' ps' Ws'
 | .share=>(∃ Ss,Pw.yk ps A (evL n) n Ss/\a=Pw.frT (Ss.getD x (0,1)))/\z7O n ps Ws n' ps' Ws'
 | .rank=>(∃ Ss r,Pw.yk ps A (evL n) n Ss/\Pw.Rkd Ss n r/\a=Pw.ptT (r.map λ(k:Nat)=>(k:Int)))/\z7O n ps Ws n' ps' Ws'
 | .pass=>(∃ o,Pw.uD (Pw.UQ ps A (evL n) n x y) (oiL (List.range (min 6 n))) o/\a=Pw.Z1x o)/\z7O n ps Ws n' ps' Ws'
end L2
namespace Pw
def Vz{hd:Str}(i:Nat)(c:hd.cps.toList[i]?=some a)(d:y.cps.toList[i]?=some b)(ne:a≠b):JV (Txt.join (L2.zQ 32) (hd :: r)) y=false:=by
 refine z1t i ?_ d ne;rw[join_list];unfold jl;rw[Z37 (Z15.mp c).1];exact c
end Pw
namespace L2
noncomputable def Hd.sp(K:FR)(C Xl tb:Addr)(pos:Pos):Hd->Sp
 | .link=>z4s K C Xl
 | .unlink=>jn K C Xl
 | .page=>z3N K C Xl
 | .undo=>z3D K C
 | .show=>U0 K C
 | .share=>z1q K C Xl
 | .rank=>jf K C tb pos
 | .pass=>z3W K C Xl
noncomputable def AnX(P:Program)(w:World)(K:FR)(mg:SV)(base:Heap)(a:SV)(Xl:Addr)(hd:Str)(m:Nat)(sp:Sp):Prop:=∃ (t f:Addr) (fd:FuncData),a hd=some (.ref t)/\(∀ H,zO K H t [.int (m:Int),.ref f])/\PySem.W.keepIn K (.ref f)=true/\Binds K fd ["live","pages"] []/\Zo P w K mg base (ye P w Xl) 16 f fd ["live","pages"] sp
def AnC.x{mg:SV}{hd:Str}{sp:Sp}(h:AnC P w K mg base fz hd m sp):AnX P w K mg base fz Xl hd m sp :=
 let ⟨t,f,fd,a,b,c,d,F⟩:=h;⟨t,f,fd,a,b,c,d,F.any⟩
structure YO(K:FR)(C Cd tb:Addr)(pos:Pos)(H:Hp)(d p pd lp:Addr)(n:Nat)(ps:LI)(Ws:List Wb)(A:Int×Int):Prop where
 h:Ds K C Cd tb pos H d p pd lp n ps Ws A
 up:ps.Pairwise yf
 old:∀ W∈Ws,OkL W
def YO.Vo{pos:Pos}(D:YO K C Cd tb pos H d p pd lp n ps Ws A):OkL ((n:Int),ps):=⟨by have:=D.h.s.n1;show 1<=(n:Int);lia,by have:=D.h.s.n12;show (n:Int)<=12;lia,D.h.s.few,D.up,D.h.s.rng⟩
def YO.same{pos:Pos}(D:YO K C Cd tb pos H d p pd lp n ps Ws A)(s:zu H H'):YO K C Cd tb pos H' d p pd lp n ps Ws A:=⟨D.h.same s,D.up,D.old⟩
def YO.past{pos:Pos}(D:YO K C Cd tb pos H d p pd lp n ps Ws A):∀ W∈Ws ++ [((n:Int),ps)],OkL W:=λW a=>by
 rcases Z1y.mp a with z | z;exact D.old W z;rw[Z04.mp z];exact D.Vo
def kx3(k:Kx [p,pd] H H'):Kx [p,pd,tb] H H':=λb o e n=>k b o e λz=>n (by
 rcases Z08.mp z with z | z;rw[z];simp;rw[Z04.mp z];simp)
def YO.kx{pos:Pos}{n':Nat}(D:YO K C Cd tb pos H d p pd lp n ps Ws A)(k:Kx [p,pd] H H')(l:Zv K C H' p pd lp ((n':Int),ps') Ws')(o:OkL ((n':Int),ps'))(old:∀ W∈Ws',OkL W):YO K C Cd tb pos H' d p pd lp n' ps' Ws' A :=
 ⟨D.h.kx k l (by have:=o.n1;change 1<=(n':Int) at this;lia) (by have:=o.n12;change (n':Int)<=12 at this;lia) o.few o.rng,o.up,old⟩
def Hd.first(h:Hd):(∃ a:Nat,h.tx.cps.toList[0]?=some a/\a≠119)/\∃ (i a b:Nat),h.tx.cps.toList[i]?=some a/\(Str.ofString "leap ").cps.toList[i]?=some b/\a≠b:=by
 cases h;exact⟨⟨108,03,01⟩,1,105,101,03,03,01⟩;exact⟨⟨117,03,01⟩,0,117,108,03,03,01⟩;exact⟨⟨112,03,01⟩,0,112,108,03,03,01⟩;exact⟨⟨117,03,01⟩,0,117,108,03,03,01⟩;exact⟨⟨115,03,01⟩,0,115,108,03,03,01⟩;exact⟨⟨115,03,01⟩,0,115,108,03,03,01⟩;exact⟨⟨114,03,01⟩,0,114,108,03,03,01⟩;exact⟨⟨112,03,01⟩,0,112,108,03,03,01⟩
def Hd.short(h:Hd):h.tx.cps.size<=8/\32∉h.tx.cps.toList:=by cases h <;> exact⟨03,03⟩
def Hd.bound{x:Nat}(h:Hd)(c:x<100)(b:y<100):∀ z∈h.ar x y,0<=z/\z<100:=λz a=>by
 have:z=(x:Int)\/z=(y:Int):=by cases h <;> simp[Hd.ar] at a <;> first | exact a | exact .inl a
 lia
noncomputable def JZ:Str:=Str.ofString "NoText"
noncomputable def JX:Str:=Str.ofString "NoCommand"
def Z6s(ha:PySem.W.ktsIn K a "BaseException"=true)(f:PySem.W.ktsIn K b "BaseException"=true)(d:PySem.W.ktsIn K c "BaseException"=true):∀ C∈[a,b,c],PySem.W.ktsIn K C "BaseException"=true:=λC h=>by
 simp only[Z08,Z2x,or_false] at h;rcases h with rfl | rfl | rfl <;> assumption
def yT:Passes (JW P w Cs) X E0:=λ_ _ _ _ _ _ _ ⟨_,_,h⟩=>z3j _ _ _ _ _ _ ‹_› h
def Yb.anx{mg:SV}{hd:Str}{sp:Sp}(x:Yb K fz hd m nm)(XK:K.In h)(G:h.Ns mainGlobals mg)(D:Z9 P w K mg base (ye P w Xl) k nm ["live","pages"] sp)(i:k<=16):AnX P w K mg base fz Xl hd m sp:=by
 obtain⟨t,f,od,j,n,sl,a,l,b⟩:=x;obtain⟨o,fd,c,d,e,F⟩:=D;rw[Z3Q XK G b] at d;cases d;exact⟨t,f,fd,a,λH=>.inr ⟨_,_,_,l,rfl,rfl,zl2,.cons ⟨_,rfl⟩ (.cons rfl .nil)⟩,c,e,F.mono i⟩
open PySem.Builtin.Str
noncomputable def j4(c:Nat)(z a b d:Str):Prop:=(c∉z.cps.toList/\a=z/\b=Str.empty/\d=Str.empty)\/(c∉a.cps.toList/\z=a ++ zQ c ++ d/\b=zQ c)
def z9X(c:Nat)(z:Str):match occurrences z (zQ c) 0 z.length 1 with
 | i :: _=>j4 c z (strSub z 0 i) (zQ c) (strSub z (i+1) z.length)
 | []=>j4 c z z Str.empty Str.empty:=by
 have one:∀ k,k<z.length->¬ StrLaws.At z (zQ c) z.length k->z.cps.toList[k]?≠some c:=λk a no e=>no ⟨by show k+1<=_;lia,by
  rw[sub_one z c k a];rw[Z34,Z45 a] at e;exact decide_eq_true (Z12 e)⟩
 rcases StrLaws.occ_head z (zQ c) 1 (Z01 1) with⟨h0,hn⟩|⟨i,r,h0,hi,hn⟩;rw[h0];refine .inl ⟨λh=>?_,rfl,rfl,rfl⟩
 obtain⟨k,a,e⟩:=List.mem_iff_getElem.mp h;rw[Z07] at a;exact one k a (hn k) (by rw[Z02 (by rw[Z07];exact a),e]);rw[h0];obtain⟨i1,i2⟩:=hi;have d:i+1<=z.length:=i1;refine .inr ⟨λh=>?_,?_,rfl⟩;rw[StrLaws.strSub_toList,Z58,Nat.sub_zero] at h;obtain⟨k,a,e⟩:=List.mem_iff_getElem.mp h;rw[Z22,Z07] at a;rw[List.getElem_take] at e;exact one k (by show k<z.cps.size;lia) (hn k 00) (by rw[Z02 (by rw[Z07];lia),e]);have b:=StrLaws.partition_sum z (zQ c);unfold Txt.partition at b;rw[h0] at b;exact b.symm
noncomputable def Z4n:V->List V->Hp->VK->Prop:=λx xs H Q=>∃ (z:Str) (c:Nat),x=.str z/\xs=[.str (zQ c)]/\z.cps.size<=8000/\∀ a b d,j4 c z a b d->∀ p H',zu H H'->H p=none->H' p=some (.tup [.str a,.str b,.str d])->Q (.ref p) H'
def z9h:MtR X "str.partition" Z4n:=by
 intro pins s σ H x xs v us Q I p r h;obtain⟨z,c,rfl,rfl,few,q⟩:=h;obtain⟨t,rfl⟩:=p;obtain⟨u,rfl,t',rfl⟩:=vals1 r;have m:z.length<=sizeLine:=by rw[sizeLine_eq];exact Z0X few 01
 refine call_meets PySem.F.slot_str_partition (typeIs_str _ _ _) PySem.F.entry_str_partition (PySem.F.args_str_partition_2 _ _) (meets_str_partition z (zQ c) t t' rfl m) ?_;have f:=z9X c z;have fin:∀ (a b d:Str) (l tb j:Tok) (k:Nat),j4 c z a b d->EP X pins σ Q 023 { s with toks:=k,heap:=s.heap.push { cls:=.type "tuple",data:=.seq [Value.str a l,.str b tb,.str d j].toArray } }:=λa b d l tb j k n =>
  ⟨.ref s.heap.objs.size,_,I.laid (t':=k) (λb o g=>ZB _ g) (Z01 _) (show Zl X.prog X.w _ _ _ (.tup [.str a,.str b,.str d]) from
   ⟨by rw[sizeLine_eq];show 3<=16777216;decide,_,.cons ⟨l,rfl⟩ (.cons ⟨tb,rfl⟩ (.cons ⟨j,rfl⟩ .nil)),yb.new _ _⟩),rfl,z7t (q a b d n) _ (I.hok.fresh (Z01 _))⟩
 cases h1:occurrences z (zQ c) 0 z.length 1 with
 | nil=>rw[h1] at f;exact fin z Str.empty Str.empty t s.toks s.toks (s.toks+1) f
 | cons i r=>rw[h1] at f;exact fin (strSub z 0 i) (zQ c) (strSub z (i+1) z.length) s.toks t' (s.toks+1) (s.toks+1+1) f
noncomputable abbrev Cx.V7(X:Cx)(Cs:List Addr)(pins:List 013)(Rx:Addr->St->Hp->Prop):Cx:={ X with pn:=X.pn ++ pins,xe:=λe s2=>∃ C σ1 H1 s1,C∈Cs/\Inv X pins σ1 H1 s1/\ye X.prog X.w C X.stack H1 s1 (λ_ _ H'=>Rx C σ1 H') e s2 }
def Inv.V7{X:Cx}{σ:St}(I:Inv X pins σ H s):Inv (X.V7 Cs pins Rx) [] σ H s:=(I.z5y (C:=0) (Rx:=λ_=>True)).xR _
def Inv.QU{X:Cx}{σ:St}(I:Inv (X.V7 Cs pins Rx) pins' σ H s):Inv X pins σ H s :=
 Inv.z6p (C:=0) (Rx:=λ_=>True) (Inv.yQ (X:=X.z5y 0 pins λ_=>True) (E:=(X.V7 Cs pins Rx).xe) I)
def Z0E{X:Cx}{pins:List 013}{Rx:Addr->St->Hp->Prop}:z3u (JW X.prog X.w Cs) (X.V7 Cs pins Rx) (λσ v _ H'=>∃ C,v=.ref C/\Rx C σ H'):=λb σ H s e s' I ⟨C,hC,h⟩=>by
 refine⟨C,σ,H,s,hC,I.QU,?_⟩;obtain⟨a,t,B,H',k,j,i,f,c,l,C',d,m⟩:=h;cases d;exact⟨a,t,B,H',k,j,i,f,c,l,m⟩
noncomputable def Z1S(Cs:List Addr)(i:Nat)(Rx:Addr->St->Hp->Prop)(tb:TS)(b:Addr->Addr->TS):TS:=λD σ H=>tb D σ H/\∀ (C a:Addr) (σ1:St) (H':Hp),C∈Cs->Rx C σ1 H'->b C a { nx:=λσ H=>D.nx (σ.set i none) H,bk:=λσ H=>D.bk (σ.set i none) H,ct:=λσ H=>D.ct (σ.set i none) H,rt:=D.rt } (σ1.set i (some 024)) H'
def z7q{X:Cx}{Cs:List Addr}{D:Addr}{Rx:Addr->St->Hp->Prop}{x n:Str}{i:Nat}{body:List Stmt}{p:Stmt}{d:List Stmt}{tb:TS}{ts:Addr->Addr->TS}{np Q pos:Pos}(T:V9 X.K X.mg x D)(kC:∀ C∈Cs,PySem.W.ktsIn X.K C "BaseException"=true)(up:∀ C∈Cs,PySem.W.mroIn X.K C 025=some true)(ne:∀ C∈Cs,D≠C)(m:X.stack=X.env :: X.outer)(S:X.env.frame=some X.env.locals)(hg:Gl X x)(hdb:(x == ("__debug__":Str))=false)
 (U:X.N.Nodup) (hi:X.N[i]?=some n) (O:X.env.scope.names.lookup n=some .local)
 (Z:∀ pins,Xq (X.V7 Cs pins Rx) body tb) (hs:∀ C∈Cs,∀ a M pins,M.cls=.ref C->Xq (X.z0z a M pins) (p :: d) (ts C a)):PS X (.Try body [.ExceptHandler (some (.Name x np)) (some n) (p :: d) Q] [] [] pos) (Z1S Cs i Rx tb ts):=by
 intro pins s σ H D' I h;obtain⟨h1,h2⟩:=h;refine wpAny_Try_except (wpAny_mono (Z pins [] s σ H D' I.V7 h1) (λf s1 hf=>?_) λe s2 he=>?_)
 · have cv:SP X pins D' f s1:=by
    cases f with
    | next=>obtain⟨c,H',J,q⟩:=hf;exact⟨c,H',J.QU,q⟩
    | brk=>obtain⟨c,H',J,q⟩:=hf;exact⟨c,H',J.QU,q⟩
    | cont=>obtain⟨c,H',J,q⟩:=hf;exact⟨c,H',J.QU,q⟩
    | ret u=>obtain⟨v,c,H',J,r,q⟩:=hf;exact⟨v,c,H',J.QU,r,q⟩
   cases f with
   | next=>exact wpAny_execs_nil cv
   | brk=>exact cv
   | cont=>exact cv
   | ret u=>exact cv
 · obtain⟨C,E,H1,s1,j,I1,a,t,B,H2,rfl,os,bare,fl,hok,u,hE⟩:=he
   have k:=I1.ok;have y:∀ b∈frs X.stack,∃ o,s1.heap.get? b=some o/\∀ vs,o.data≠.fields vs:=λb Z=>Y6 I1 Z;have fl':Heap.FlyingW B (X.env :: X.outer) a 035 (.ref t) s2.heap:=by rw[← m];exact fl
   have mk:∀ G:Heap,B.StaysIn G->s2.heap.UpToSlots G->Inv X pins E H2 { s2 with heap:=G }:=λG st sm =>
    (I1.z4i (s':={ s2 with heap:=G }) (ch:=[]) os ((u.on sm y).un st λb Z=>I1.YR b Z) (hok.kept st) bare λb z=>absurd z 05)
   refine wpAny_looks_onW (outer:=X.outer) (by rw[k.frames,m]) S fl' λh4 F sm4=>?_;refine wpAny_landsW F λG A sm5=>?_;have J5:=mk G A.1 (sm4.trans sm5);obtain⟨nm',q',Nn',bs',bm',hdct',sn',sub',ab',col',dd',j0,j1,j2,j3,j5,newId',hD,l,_⟩:=kts_cls J5.YY T.kts;obtain⟨nm,q,Nn,bs,bm,hdct,sn,sub,ab,col,dd,k0,k1,k2,k3,k5,newId,hC,hbase,_⟩:=kts_cls J5.YY (kC C j);obtain⟨ob,hob,Y⟩:=A.there;refine wpAny_handleBy_cons (codeAny_handlers_test ?_) (by intro q;cases q);refine yE (X:=X.exc a) (J5.exc (a:=a)) hg T.bound ?_ hdb;refine Uz hC hD hob Y l (Z4r J5.YY hC (up C j) (ne C j)) (codeAny_handlers_suite_as ?_);refine lands_againW A λh6 L sm6=>?_;have sm:=(sm4.trans sm5).trans sm6;have J6:=mk h6 L.1 sm;obtain⟨M,ws,P,hoec,w,_⟩:=L.first
   have na:H2 a=none:=hok.none_of L.2.1;have R:a∉frs X.stack:=λz=>by
    obtain⟨o',e',hd⟩:=y a z;obtain⟨sl,e2⟩:=(u.on sm y).slot a o' e' (I1.YR a z) z;rw[P] at e2;cases e2;exact hd _ w
   have nl:a≠X.env.locals:=λz=>R (by unfold frs;rw[m,z];exact Z43.mpr ⟨X.env,Z0K,S⟩);have nf:a∉X.fs:=λz=>R (by unfold frs;rw[m];obtain⟨e,he,hf⟩:=Z43.mp z;exact Z43.mpr ⟨e,Z03 _ he,hf⟩);have J6':Inv (X.z0z a M pins) [] E H2 { s2 with heap:=h6 }:=J6.z0z P na nl nf (λv z=>by rw[w] at z;cases z);refine Q6 (X:=X.z0z a M pins) (v:=.ref a) (i:=i) J6' U hi (.inl O) rfl (λs7 J7 _=>?_) (.inr O);refine wpAny_mono (hs C j a M pins hoec [] s7 _ H2 _ J7 (h2 C a E H2 j hE)) (λf s8 hf=>?_) λe s3 z=>z.elim;cases f with
   | next=>obtain⟨c,H',J,q⟩:=hf;exact Vq (J.jP k) U hi O λs9 J9=>⟨_,H',J9,q⟩
   | brk=>obtain⟨c,H',J,q⟩:=hf;exact Vq (J.jP k) U hi O λs9 J9=>⟨_,H',J9,q⟩
   | cont=>obtain⟨c,H',J,q⟩:=hf;exact Vq (J.jP k) U hi O λs9 J9=>⟨_,H',J9,q⟩
   | ret u=>obtain⟨v,c,H',J,r,q⟩:=hf;exact Vq (J.jP k) U hi O λs9 J9=>⟨v,_,H',J9,r,q⟩
noncomputable def Z3D(C:Addr)(m:Str)(sp:Sp)(E:St->XK)(b:TE)(t:TA):TE:=λσ H Q=>b σ H λx H1=>∃ a dx fs,x=.ref a/\H1 a=some (.ins C dx fs)/\fs.lookup m=none/\t σ H1 λvs H2=>sp (x :: vs) H2 Q (E σ)
def z7K{sp:Sp}{e:Expr}{pos:Pos}(j:starEach (e :: es) X.env=016 :: starEach es X.env)(i:(backTo pos (starEach es X.env)).any (·.1)=false)(z:eval (.Call (.Attribute o m apos) (e :: es) [] pos) X.env=(do
  let ov ←eval o X.env
  standAt apos.atName
  let (f,first) ←holding [ov] (getMethod ov m pl)
  callWith pos f first (backTo pos (starEach (e :: es) X.env)) (backToKw pos (keywordEach [] X.env))))(he:PE X o ta)(c:JY X.K C)(D:ZC X.prog X.w X.K X.mg X.base CX k C m ps sp)(hr:zX k X.A)(G:z3u CX X E)(ha:PA X (e :: es) t) :
 PE X (.Call (.Attribute o m apos) (e :: es) [] pos) (Z3D C m sp E ta t):=by
 obtain⟨f,fd,hm,v,F⟩:=D;intro pins s σ H Q I h;refine PySem.W.methodCall_KW (pl:=pl) (z8 (he pins s σ H _ I h) λu s1 ⟨x,H1,I1,B,a,dx,fs,ex,p,l,q⟩=>?_) z;subst ex;obtain rfl:u=Value.ref a:=B;refine XF I1 p c hm l ?_;refine PySem.W.callWith_K (first:=[.ref a]) (h₀:=X.base) I.ok.mod.kin hm.kp (z8 (ha pos pins s1 σ H1 _ I1 q) λus s2 ⟨vs,H2,I2,r,q2⟩=>⟨I2.YY,?_⟩) j i
 have n:Vals (V.ref a :: vs) (Value.ref a :: us):=.cons rfl r;have hl:(Value.ref a :: us).length=ps.length:=by rw[← n.length];exact F.len _ _ _ _ q2
 have d:=v s2 (.ref a :: us) I2.YY (by rw[Z40];exact hl);rw[Z40] at d;refine wpAny_call (codeAny_mono (F.run X.A X.stack s2 H2 ⟨.ref a :: us,[]⟩ (.ref a :: us) (.ref a :: vs) Q (E σ) hr I2.Z2l d n q2) λy s' b=>?_);cases y with
 | error e=>exact G pins σ H2 s2 e s' I2 b
 | ok fl =>
   cases fl with
   | ret u=>exact I2.after b
   | next=>exact False.elim b
   | brk=>exact False.elim b
   | cont=>exact False.elim b
end L2
namespace Pw
def z6v(x:Str)(i:Nat)(h:i<=x.cps.size):(Txt.slice x none (some (i:Int))).cps.toList=x.cps.toList.take i:=by
 have hl:x.length=x.cps.size:=rfl;have e:Builtin.Str.strSliceIndices none (some (i:Int)) 1 x.length=List.range i:=by
  have a:max (0:Int) (min (i:Int) (x.length:Int))=((i:Nat):Int):=00
  simp only[Builtin.Str.strSliceIndices,show ((1:Int) > 0)=True by simp,if_true,show ¬ ((i:Int)<0) by lia,if_false,a];have:=sliceRange_one 0 i;rw[Nat.sub_zero] at this;refine Eq.trans this ?_;refine (List.map_congr_left λk _=>Nat.zero_add k).trans (List.map_id _)
 unfold Txt.slice;rw[e];split;rename_i hc;have b:=(Bool.and_eq_true_iff.mp hc).2;rw[Z36,beq_iff_eq] at b;exact (Z18 (by rw[Z07];lia)).symm;show (List.filterMap _ _)=_;have p:=StrLaws.picks x.cps.toList i 0 (by rw[Z07];lia);rw[Z58] at p;rw[← p,List.map_congr_left (g:=id) (λk _=>Nat.zero_add k),List.map_id];simp only[Z34]
noncomputable def pS(c:Nat):Bool:=decide (c=32\/c=62)
noncomputable def ctS(x:Str):Nat:=x.cps.toList.countP pS
def uI{x:Str}{n:Int}(h:Zk x=some n)(b:c∈x.cps.toList):c=45\/(48<=c/\c<=57):=by
 unfold Zk at h;split at h
 case isFalse=>cases h
 rename_i f;have d:=ZH f.1;by_cases hd:x.cps.toList.head?=some 45;have e:Y9 x=Txt.slice x (some 1) none:=by unfold Y9;rw[if_pos hd]
 rw[e,QE hd] at d;cases ex:x.cps.toList with
 | nil=>rw[ex] at b;cases b
 | cons a r =>
   rw[ex] at b hd d;cases hd;rcases Z08.mp b with z | z;exact .inl z;exact .inr (d c z)
 have e:Y9 x=x:=by unfold Y9;rw[if_neg hd]
 rw[e] at d;exact .inr (d c b)
def Jq{l:List Nat}(h:∀ c∈l,c≠32/\c≠62):l.countP pS=0:=by
 rw[List.countP_eq_zero];intro c a;have:=h c a;unfold pS;rw[decide_eq_true_iff];lia
def Z4v(h:UP 62 w=some A)(a:32∉w.cps.toList):w.cps.toList.countP pS=1:=by
 obtain⟨u,v,e,i,d⟩:=z4c h;have j:=StrLaws.join_split w (L2.zQ 62);rw[e] at j;have f:u.cps.toList ++ (62 :: v.cps.toList)=w.cps.toList:=by
  rw[← j,yh];unfold jl;simp[L2.zQ]
 rw[← f] at a ⊢;rw[Z44,Z5d,Jq λc b=>?_,Jq λc b=>?_];rfl;have:=uI d b;lia;have:=uI i b;lia
def Z1u:∀ (ys:List Str) (ps:LI) (y:List Nat),ys.map (UP 62)=ps.map some->(∀ w∈ys,32∉w.cps.toList)->(jl [32] y (ys.map (·.cps.toList))).countP pS=y.countP pS+2 * ps.length
 | [],[],y,_,_=>by simp[jl]
 | w :: ys,A :: ps,y,h,hf=>by
   rw[Z1Y,Z1Y,Z3S] at h;have a:=Z1u ys ps y h.2 λb hw=>hf b (Z03 _ hw);have p:=Z4v h.1 (hf w (Z0K ..));unfold jl at a ⊢;rw[Z44] at a ⊢;rw[Z1Y,List.flatMap_cons,Z44,List.singleton_append,Z5d,p];have e:(if pS 32=true then 1 else 0)=1:=rfl;rw[e,Z09];lia
 | [],_ :: _,_,h,_=>by cases h
 | _ :: _,[],_,h,_=>by cases h
def Yu.ct{x:Str}{n:Int}{ps:LI}(h:Yu x n ps):ctS x=2 * ps.length+1:=by
 obtain⟨wp,ws,e,hn,a⟩:=h.words;have fr:=StrLaws.split_free x 32;have j:=StrLaws.join_split x (L2.zQ 32);change ∀ p∈Txt.split x (L2.zQ 32),_ at fr;rw[e] at j fr;unfold ctS;rw[← j,yh];have b:jl (L2.zQ 32).cps.toList ("pages":Str).cps.toList ((wp :: ws).map (·.cps.toList))=("pages":Str).cps.toList ++ 32 :: jl [32] wp.cps.toList (ws.map (·.cps.toList)):=by
  unfold jl;simp[L2.zQ]
 rw[b,Z44,Z5d,Z1u ws ps _ a λw hw=>fr w (by simp[hw]),Jq (l:=wp.cps.toList) λc f=>?_];have i:("pages":Str).cps.toList.countP pS=0:=03
 have d:(if pS 32=true then 1 else 0)=1:=rfl;rw[i,d];lia;have:=uI hn f;lia
structure Xi(x:Str):Prop where
 asc:∀ c∈x.cps.toList,c<128
 few:x.cps.size<=2900
 web:119∉x.cps.toList\/ctS x<=6\/124<=ctS x
 leap:108∉x.cps.toList\/101∉x.cps.toList\/x.cps.size<=14
noncomputable def Z0d(x y:Str):Prop:=y=x\/(∃ i,y.cps.toList=x.cps.toList.take i ++ x.cps.toList.drop (i+1))\/(∃ i s,s∈[32,48,62,47,10,90]/\y.cps.toList=x.cps.toList.take i ++ s :: x.cps.toList.drop i)\/y.cps.toList=x.cps.toList.map PyProof.Rows.up1
structure OkW(y:Str):Prop where
 few:y.cps.size<=2950
 leap:∀ t,y=Str.ofString "leap " ++ t->t.cps.size<=10
 web:∀ t n ps,y=Str.ofString "web " ++ t->Yu t n ps->ps.length<=2
def z9p:¬ (97<=PyProof.Rows.up1 c/\PyProof.Rows.up1 c<=122):=by
 unfold PyProof.Rows.up1;split <;> lia
def jY{x:Str}(m:Z0d x y)(f:97<=c)(b:c<=122)(a:c∈y.cps.toList):c∈x.cps.toList:=by
 rcases m with rfl |⟨i,e⟩|⟨i,s,h,e⟩| e;exact a;rw[e] at a;rcases Z1y.mp a with z | z;exact List.mem_of_mem_take z;exact List.mem_of_mem_drop z;rw[e] at a;rcases Z1y.mp a with z | z;exact List.mem_of_mem_take z;rcases Z08.mp z with z | z;rw[z] at f b;have:∀ s∈[32,48,62,47,10,90],s<97:=01
 have:=this s h;lia;exact List.mem_of_mem_drop z;rw[e] at a;obtain⟨d,_,rfl⟩:=Z23.mp a;exact absurd ⟨f,b⟩ z9p
def z0e(l:List Nat)(i:Nat):l.countP pS=(l.take i).countP pS+(l.drop i).countP pS:=by
 rw[← Z44,List.take_append_drop]
def Z2a(c:Nat):pS (PyProof.Rows.up1 c)=pS c:=by
 unfold pS PyProof.Rows.up1;rw[decide_eq_decide];split <;> lia
def Z2j{x:Str}(m:Z0d x y):ctS y<=ctS x+1/\ctS x<=ctS y+1/\y.cps.size<=x.cps.size+1:=by
 have sz:∀ z:Str,z.cps.size=z.cps.toList.length:=λz=>Z07.symm;rcases m with rfl |⟨i,e⟩|⟨i,s,b,e⟩| e;lia;unfold ctS;rw[sz,sz,e,Z44,z0e x.cps.toList i,Z14,Z22,Z31];have:(x.cps.toList.drop (i+1)).countP pS<=(x.cps.toList.drop i).countP pS/\(x.cps.toList.drop i).countP pS<=(x.cps.toList.drop (i+1)).countP pS+1:=by
  rw[← List.drop_drop];cases x.cps.toList.drop i with
  | nil=>simp
  | cons a r =>
    rw[Z5d,List.drop_one,List.tail_cons];split <;> lia
 lia;unfold ctS;rw[sz,sz,e,Z44,Z5d,z0e x.cps.toList i,Z14,Z09,Z22,Z31];split <;> lia;unfold ctS;rw[sz,sz,e,Z00,List.countP_map];have:(pS ∘ PyProof.Rows.up1)=pS:=funext Z2a;rw[this];lia
def Xi.ok{x:Str}(p:Xi x)(m:Z0d x y):OkW y:=by
 obtain⟨d,i,k⟩:=Z2j m;have hf:=p.few;refine⟨00,λt e=>?_,λt n ps e w=>?_⟩;have mem:∀ c∈(Str.ofString "leap ").cps.toList,c∈y.cps.toList:=λc b=>by
  rw[e,Z17,Z11];exact Z2Q _ b
 have sz:y.cps.size=5+t.cps.size:=by
  rw[e,Z17,Z57];have:(Str.ofString "leap ").cps.size=5:=03
  lia
 rcases p.leap with h | h | h;exact absurd (jY m 01 01 (mem 108 03)) h;exact absurd (jY m 01 01 (mem 101 03)) h;lia;have a:119∈y.cps.toList:=by
  rw[e,Z17,Z11];exact Z2Q _ 03
 have f:ctS y=1+ctS t:=by
  unfold ctS;rw[e,Z17,Z11,Z44];have:(Str.ofString "web ").cps.toList.countP pS=1:=03
  rw[this]
 have j:=w.ct;have few:=w.few;rcases p.web with h | h | h;exact absurd (jY m 01 01 a) h;lia;lia
structure Ux(z:Str):Prop where
 asc:∀ c∈z.cps.toList,c<128/\c≠119/\c≠108/\c≠101
 few:z.cps.size<=1400
noncomputable def z5g(x:Str):Bool:=x.cps.toList.all (λc=>decide (c<128)) && decide (x.cps.size<=2900) && decide (119∉x.cps.toList\/ctS x<=6\/124<=ctS x) && decide (108∉x.cps.toList\/101∉x.cps.toList\/x.cps.size<=14)
def Xi.of{x:Str}(h:z5g x=true):Xi x:=by
 unfold z5g at h;rw[Z2m,Z2m,Z2m,Z26] at h;exact⟨λc a=>of_decide_eq_true (h.1.1.1 c a),of_decide_eq_true h.1.1.2,of_decide_eq_true h.1.2,of_decide_eq_true h.2⟩
def xK(x:Str)(i:Nat):(Txt.slice x (some (i:Int)) none).cps.toList=x.cps.toList.drop i:=by
 by_cases h:i<=x.cps.size;exact Y7 x i h;have e:Txt.slice x (some (i:Int)) none=Txt.slice x (some ((x.cps.size:Nat):Int)) none:=by
  have hl:x.length=x.cps.size:=rfl;have a:max (0:Int) (min (i:Int) (x.length:Int))=max (0:Int) (min ((x.cps.size:Nat):Int) (x.length:Int)):=00
  unfold Txt.slice;rw[show Builtin.Str.strSliceIndices (some (i:Int)) none 1 x.length=Builtin.Str.strSliceIndices (some ((x.cps.size:Nat):Int)) none 1 x.length by
   simp only[Builtin.Str.strSliceIndices,show ¬ ((i:Int)<0) by lia,show ¬ (((x.cps.size:Nat):Int)<0) by lia,if_false,show ((1:Int) > 0)=True by simp,if_true,a]]
 rw[e,Y7 x _ (Z01 _),List.drop_of_length_le (by rw[Z07];lia),List.drop_of_length_le (by rw[Z07];lia)]
def pre_app(b:(h.cps.toList.all (λc=>decide (c<128/\c≠119)) && decide (h.cps.size<=50) && decide (108∉h.cps.toList\/101∉h.cps.toList))=true)(ha:∀ c∈a.cps.toList,c<128/\c≠119/\c≠108/\c≠101)(f:a.cps.size<=2810):Xi (h ++ a):=by
 rw[Z2m,Z2m,Z26] at b;obtain⟨⟨b1,b2⟩,b3⟩:=b;have m:∀ c,c∈(h ++ a).cps.toList->c∈h.cps.toList\/c∈a.cps.toList:=λc d=>by
  rw[Z17,Z11] at d;exact Z1y.mp d
 have n:∀ {c},c∉h.cps.toList->(c∈a.cps.toList->False)->c∉(h ++ a).cps.toList:=λx y z=>(m _ z).elim x y;refine⟨λc d=>?_,?_,.inl (n (λz=>(of_decide_eq_true (b1 _ z)).2 rfl) λz=>(ha _ z).2.1 rfl),?_⟩;rcases m c d with z | z;exact (of_decide_eq_true (b1 _ z)).1;exact (ha _ z).1;have:=of_decide_eq_true b2;rw[L2.zK];lia;rcases of_decide_eq_true b3 with z | z;exact .inl (n z λq=>(ha _ q).2.2.1 rfl)
 exact .inr (.inl (n z λq=>(ha _ q).2.2.2 rfl))
def Ux.two(ha:Ux a)(f:Ux b):(∀ c∈(a ++ Str.ofString " " ++ b).cps.toList,c<128/\c≠119/\c≠108/\c≠101)/\(a ++ Str.ofString " " ++ b).cps.size<=2810:=by
 have h:(Str.ofString " ").cps.toList=[32]:=03
 have i:(Str.ofString " ").cps.size=1:=03
 have f1:=ha.few;have f2:=f.few;refine⟨λc d=>?_,by rw[L2.zK,L2.zK];lia⟩;rw[Z17,Z17,Z11,Z11,h] at d;rcases Z1y.mp d with z | z;rcases Z1y.mp z with z | z;exact ha.asc c z;rw[Z04.mp z];decide;exact f.asc c z
def z5n(h:xn 2 z):∃ m:Nat,m<100/\z=ns (m:Int):=by
 obtain⟨d,i,c,l⟩:=h;rw[← Z07] at d i;rw[Z26] at c;have fin:∀ m:Nat,z.cps.toList=VH m->z=ns (m:Int):=λm e=>Z4O (Z20.mp (e.trans (YX m).symm))
 match hz:z.cps.toList with
 | []=>rw[hz] at d;simp at d
 | [a] =>
   have f:=of_decide_eq_true (c a (by rw[hz];simp));refine⟨a - 48,00,fin _ ?_⟩;rw[hz,xZ 00];congr 1;lia
 | [a,b] =>
   have f:=of_decide_eq_true (c a (by rw[hz];simp));have g:=of_decide_eq_true (c b (by rw[hz];simp));have ne:a≠48:=by
    rcases l with q | q;rw[hz] at q;cases q;rw[hz] at q;exact λe=>q (by rw[e];rfl)
   refine⟨(a - 48) * 10+(b - 48),00,fin _ ?_⟩;have j:((a - 48) * 10+(b - 48)) / 10=a - 48:=00
   have k:((a - 48) * 10+(b - 48)) % 10=b - 48:=00
   rw[hz,Qp 00,j,k,xZ 00,List.singleton_append];congr 1;lia;congr 1;lia
 | _ :: _ :: _ :: _=>rw[hz] at i;simp at i
def split_head{x:Str}(b:32∉y.cps.toList)(e:x=y ++ L2.zQ 32 ++ t):∃ r,Txt.split x (L2.zQ 32)=y :: r:=by
 have fr:=StrLaws.split_free x 32;have j:=StrLaws.join_split x (L2.zQ 32);change ∀ p∈Txt.split x (L2.zQ 32),_ at fr;have a:=PyProof.Rows.split_pos x (L2.zQ 32)
 match hs:Txt.split x (L2.zQ 32),a with
 | u :: r,_ =>
   refine⟨r,?_⟩;rw[hs] at j fr;have hl:=congrArg (λs:Str=>s.cps.toList) j;have c:x.cps.toList=y.cps.toList ++ 32 :: t.cps.toList:=by
    rw[e,Z17,Z17,Z11,Z11];show (_ ++ [32]) ++ _=_;simp
   change (Str.join _ _).cps.toList=x.cps.toList at hl;rw[yh,c] at hl;unfold jl at hl;cases r with
   | nil =>
     have:(32:Nat)∈u.cps.toList:=by
      simp at hl;rw[hl];simp
     exact absurd this (fr u 05)
   | cons w r =>
     have:=(Ub (r:=w.cps.toList ++ ((r.map (·.cps.toList)).flatMap ((L2.zQ 32).cps.toList ++ ·))) (fr u 05) b (by rw[← hl];simp[L2.zQ])).1
     rw[Z4O (Z20.mp this)]
end Pw
namespace L2
noncomputable def Z4G:R2:=λx y H Q=>∃ (z:Str) (n:Int),x=.str z/\y=.int n/\2<=n/\n<=3000/\1<=z.cps.size/\z.cps.size<=20/\∀ r:Str,r.cps.toList=(List.replicate n.toNat z.cps.toList).flatten->Q (.str r) H
def z3M:Yl X (binaryOp .Mult) Z4G:=by
 intro pins s σ H x y v u Q I l o h;obtain⟨z,n,rfl,rfl,n2,n3,f,d,q⟩:=h;obtain⟨t,rfl⟩:=l;obtain⟨t',rfl⟩:=o;have key:∀ k (a:Array Nat),((List.replicate k z.cps).foldl (· ++ ·) a).toList=a.toList ++ (List.replicate k z.cps.toList).flatten:=by
  intro k
  induction k with
  | zero=>intro a;simp
  | succ k ih=>intro a;rw[Z38,Z55,ih,Z11,Z38,Z4X,Z25]
 have c:∀ k (a:Array Nat),((List.replicate k z.cps).foldl (· ++ ·) a).size=a.size+z.cps.size * k:=by
  intro k
  induction k with
  | zero=>intro a;simp
  | succ k ih=>intro a;rw[Z38,Z55,ih,Z57,Nat.mul_succ];lia
 have m:z.length=z.cps.size:=rfl;have j:(n == 1 || z.length == 0)=false:=by
  have a:(n == 1)=false:=by simp;lia
  have b:(z.length == 0)=false:=by rw[m];simp;intro e;rw[e] at f;simp at f
  rw[a,b];rfl
 have i:z.cps.size * n.toNat<=20 * 3000:=Nat.mul_le_mul d 00;refine P.mul_str ?_ (λ_ _=>?_) (λ_ _=>?_) ?_;rw[decide_eq_false 00,decide_eq_false 00];rfl;show ¬ ((z.cps.size:Nat):Int) > _;have:((z.cps.size:Nat):Int)<=(2 ^ 63 - 1) / n:=Int.le_ediv_of_mul_le 00 (by
  have e:((z.cps.size:Nat):Int) * n=((z.cps.size * n.toNat:Nat):Int):=by rw[Int.natCast_mul,Int.toNat_of_nonneg 00]
  rw[e];lia)
 lia;show Builtin.Str.tooLong (z.cps.size * n.toNat)=false;unfold Builtin.Str.tooLong;rw[decide_eq_false_iff_not,sizeLine_eq];lia;rw[if_neg 00,j,if_neg Z0U];have e:=c n.toNat #[];rw[Array.size_empty,Nat.zero_add] at e;refine⟨?_,⟨.str _,H,I.tok _,⟨_,rfl⟩,q ⟨(List.replicate n.toNat z.cps).foldl (· ++ ·) #[]⟩ (key n.toNat #[])⟩⟩
 show ((List.replicate n.toNat z.cps).foldl (· ++ ·) #[]).size<=sizeLine
 rw[e,sizeLine_eq];lia
noncomputable def z6I:Sp:=λvs H Q _=>∃ (d:Addr) (B:Nat),vs=[.ref d]/\B<=90000/\zY H d B/\∀ z H',Pw.Ux z->zY H' d (B+100)->Kp d H H'->Q (.str z) H'
noncomputable def hdW(way:Int):Str:=if way=0 then Str.ofString "web " else Str.ofString "leap "
noncomputable def z4d:Sp:=λvs H Q _=>∃ (d:Addr) (way:Int) (B:Nat),vs=[.ref d,.int way]/\B<=90000/\zY H d B/\∀ z H',Pw.Xi (hdW way ++ z)->zY H' d (B+100)->Kp d H H'->Q (.str z) H'
noncomputable def z0v:Sp:=λvs H Q _=>∃ c:Int,vs=[.int c]/\∀ y H',Pw.OkW y->zu H H'->Q (.str y) H'
noncomputable def z3P:Sp:=λvs H Q _=>∃ x:Str,vs=[.str x]/\x.cps.size<=8000/\∀ H',zu H H'->Q (.bl (decide (Pw.xn 2 x))) H'
noncomputable def z8W(t:Str):Prop:=∃ n ps,Pw.Yu t n ps
noncomputable def z5V(t:Str):Prop:=∃ A,Pw.z6B t A/\z7U A
noncomputable def TxD(hd t a:Str):Prop:=(hd=Str.ofString "web"/\(z8W t/\a=Str.ofString ""\/¬ z8W t/\a=JZ))\/(hd=Str.ofString "leap"/\(z5V t/\a=Str.ofString ""\/¬ z5V t/\a=JZ))
noncomputable def CmD(h:Hd)(a b n:Nat)(ps:LI)(c:Str):Prop:=z1x h a b n ps/\c=nlT\/¬ z1x h a b n ps/\c=Str.ofString ""
noncomputable def z7g(x:Str):Prop:=∃ (h:Hd) (a b:Nat),a<100/\b<100/\x=h.cm a b
noncomputable def QM(x:Str)(n:Nat)(ps:LI)(c:Str):Prop :=
 (∃ hd t,x=hd ++ zQ 32 ++ t/\TxD hd t c)\/
 (Pw.JV x (Str.ofString "web ")=false/\Pw.JV x (Str.ofString "leap ")=false/\((¬ z7g x/\c=JX)\/∃ (h:Hd) (a b:Nat),a<100/\b<100/\x=h.cm a b/\CmD h a b n ps c))
noncomputable def z0I:Sp:=λvs H Q _=>∃ hd t:Str,vs=[.str hd,.str t]/\t.cps.size<=8000/\(hd=Str.ofString "web"\/hd=Str.ofString "leap")/\∀ a H',zu H H'->TxD hd t a->Q (.str a) H'
noncomputable def J3(K:FR):Sp:=λvs H Q _=>∃ (h:Hd) (d:Addr) (n:Nat) (ps:LI) (u v:Str),vs=[.str h.tx,.ref d,.str u,.str v]/\(h=.link\/h=.unlink\/h=.pass)/\ZP K H d (n:Int) ps/\OkL ((n:Int),ps)/\u.cps.size<=8000/\v.cps.size<=8000/\
 ((¬ (Pw.xn 2 u/\Pw.xn 2 v))->∀ H',zu H H'->Q (.str JX) H')/\∀ (a b:Nat),a<100->b<100->u=Pw.ns (a:Int)->v=Pw.ns (b:Int)->∀ c H',zu H H'->CmD h a b n ps c->Q (.str c) H'
noncomputable def z3i(K:FR):Sp:=λvs H Q _=>∃ (x:Str) (b:Addr) (n:Nat) (ps:LI),vs=[.str x,.ref b]/\x.cps.size<=8000/\ZP K H b (n:Int) ps/\OkL ((n:Int),ps)/\∀ a H',zu H H'->QM x n ps a->Q (.str a) H'
noncomputable def z0i(hd:Str)(m:Nat):Nat:=if hd=Str.ofString "web"\/hd=Str.ofString "leap" then 0 else if hd=Str.ofString "undo" then m - 1 else if hd=Str.ofString "link"\/hd=Str.ofString "unlink"\/hd=Str.ofString "page" then m+1 else m
noncomputable def z6a:Sp:=λvs H Q _=>∃ (m:Nat) (x hd:Str) (r:List Str),vs=[.int (m:Int),.str x]/\m<=1000/\x.cps.size<=8000/\Txt.split x (zQ 32)=hd :: r/\∀ H',zu H H'->Q (.int (z0i hd m:Nat)) H'
noncomputable def z0s(K:FR)(Xt:Addr):Sp:=λvs H Q E=>∃ x:Str,vs=[.str x]/\x.cps.size<=8000/\(∀ A p H',Pw.z6B x A->z7U A->zu H H'->Vj K H' p A->Q (.ref p) H')/\(¬ z5V x->ErX Xt H E)
noncomputable def z8j(P:Program)(w:World)(K:FR)(mg:SV)(base:Heap)(h:Nat)(f:SV)(C Cd Xl Xt Xm d p pd lp:Addr)(W:Wb)(x:Str)(H:Hp)(Q:VK)(E:XK):Prop :=
 (Pw.JV x (Str.ofString "web ")=false/\Pw.JV x (Str.ofString "leap ")=false/\jW P w K mg base h f Xl Xm [.ref p,.str x] H Q E)\/
  (∃ t:Str,x=Str.ofString "web " ++ t/\(∀ (n:Nat) (ps:LI),Pw.Yu t (n:Int) ps->∀ (b a:Addr) (H':Hp),H b=none->H a=none->Ur Cd H' d b->Zv K C H' b a lp ((n:Int),ps) []->Kp d H H'->Q (.str U4) H')/\(¬ z8W t->ErX Xt H E))\/
  (∃ t:Str,x=Str.ofString "leap " ++ t/\(∀ A',Pw.z6B t A'->z7U A'->∀ (b a c:Addr) (H':Hp),H b=none->H a=none->Ur Cd H' d b->Zv K C H' b a c W []->Vj K H' c A'->Kp d H H'->Q (.str U4) H')/\(¬ z5V t->ErX Xt H E))
noncomputable def Zm(P:Program)(w:World)(K:FR)(mg:SV)(base:Heap)(b:Nat)(a:SV)(C Cd Xl Xt Xm:Addr):Sp:=λvs H Q E=>∃ (d p pd lp:Addr) (v:V) (W:Wb) (Ws:List Wb) (A:Int×Int),vs=[.ref d,v]/\Ur Cd H d p/\Zv K C H p pd lp W Ws/\Vj K H lp A/\
 ((∃ t,XI K H v t/\PySem.W.kitOne K t (.type "str")=some false/\ErX Xm H E)\/∃ x:Str,v=.str x/\x.cps.size<=8000/\z8j P w K mg base b a C Cd Xl Xt Xm d p pd lp W x H Q E)
noncomputable def z7w(P:Program)(w:World)(K:FR)(mg:SV)(base:Heap)(f:SV)(C Cd Xl Xt Xm:Addr):Sp:=λvs H Q _=>∃ (d dx:Addr) (fs:List (Str×V)) (v:V) (c:Str),vs=[.ref d,v,.str c]/\H d=some (.ins Cd dx fs)/\fs.lookup (Str.ofString "say")=none/\
 ∀ (G:Hp) (Q':VK) (E':XK),zu H G->(∀ a H',c=Str.ofString ""->(∀ b o,H b=none->G b=some o->H' b=some o)->(∀ G',zu H' G'->Q (.bl true) G')->Q' (.str a) H')->
   (∀ X H',((X=Xm/\c=JX)\/(X=Xt/\c=JZ)\/(X=Xl/\c=nlT))->(∀ G',zu H' G'->Q (.bl true) G')->E' (.ref X) none H')->Zm P w K mg base 16 f C Cd Xl Xt Xm [.ref d,v] G Q' E'
open PySem.Builtin.Str
def z5x(d:X.calm=true):Zw X (.builtin "max") (λvs H Q=>∃ (p:Addr) (x y:Int),vs=[.ref p]/\H p=some (.tup [.int x,.int y])/\Q (.int (if y > x then y else x)) H):=by
 intro pins s σ H xs us Q I r h;obtain⟨p,x,y,rfl,F,q⟩:=h;obtain⟨u,rfl,K⟩:=vals1 r;cases K;obtain⟨_,its,G,J⟩:=(show Zl X.prog X.w H s.heap p (.tup [.int x,.int y]) from I.hok p _ F);obtain⟨a,rfl,t,rfl⟩:∃ a,its=[.int x a.1,.int y a.2]/\∃ t:Tok×Tok,a=t:=by
  cases G with
  | cons r1 r2 =>
    cases r2 with
    | cons r2 r3 =>
      cases r3;obtain⟨t,rfl⟩:=r1;obtain⟨u,rfl⟩:=r2;exact⟨(t,u),rfl,_,rfl⟩
 obtain⟨t,u⟩:=a;obtain⟨o,m,l,n,hd⟩:=J;have z:s.heap.IsTuple p (intItems #[(x,t),(y,u)]):=⟨o,m,congrArg Prod.fst l,n,by rw[hd];simp[intItems]⟩;have f:p<s.heap.objs.size:=Z0w m;refine call_max_walk (wpAny_pyIter_tuple z ?_);refine⟨_,[_,p],[_],_,_,_,_,rfl,Walks.tuple (A:=X.A.in1) (I.ok.hd d) _ p (Z13 f) (intItems #[(x,t),(y,u)]),
  ⟨⟨_,Z10 _ rfl,rfl,rfl⟩,z.push _⟩,λc d=>?_,by simp[intItems],CmpOf.ints_gt (numAt #[(x,t),(y,u)]) (λ_ _=>intItems_at),λv h' L D E=>?_⟩
 show c<(s.heap.push _).objs.size;rw[Z4L];rcases Z08.mp d with rfl | d;exact Nat.lt_succ_self _;rcases Z08.mp d with rfl | d;exact Nat.lt_succ_of_lt f;cases d;have hold:∀ c o,s.heap.get? c=some o->h'.get? c=some o:=λc o e=>by
  refine E c o (λhm=>?_) (ZB _ e);rcases Z08.mp hm with C | hm;exact absurd (C ▸ Z0w e) (Z2I _);cases hm
 have B:∃ t',v=Value.int (if y > x then y else x) t':=by
  have b:(intItems #[(x,t),(y,u)])[argBest (λi j=>decide (numAt #[(x,t),(y,u)] i > numAt #[(x,t),(y,u)] j)) 1]?=some v:=by
   have k:(intItems #[(x,t),(y,u)]).size - 1=1:=by simp[intItems]
   rw[← k];exact D
  by_cases hba:y > x;have e:argBest (λi j=>decide (numAt #[(x,t),(y,u)] i > numAt #[(x,t),(y,u)] j)) 1=1:=by simp[argBest,numAt,hba]
  rw[e] at b;exact⟨u,by simpa[intItems,hba] using b.symm⟩;have e:argBest (λi j=>decide (numAt #[(x,t),(y,u)] i > numAt #[(x,t),(y,u)] j)) 1=0:=by simp[argBest,numAt,hba]
  rw[e] at b;exact⟨t,by simpa[intItems,hba] using b.symm⟩
 obtain⟨t',rfl⟩:=B;exact⟨.int _,H,I.kept hold,⟨t',rfl⟩,q⟩
def z4V:MtR X "str.upper" (λx xs H Q=>∃ z:Str,x=.str z/\xs=[]/\(∀ c∈z.cps.toList,c<128)/\z.cps.size<=100000/\∀ y:Str,y.cps.toList=z.cps.toList.map PyProof.Rows.up1->Q (.str y) H):=by
 intro pins s σ H x xs v us Q I a r h;obtain⟨z,rfl,rfl,asc,few,q⟩:=h;obtain⟨t,rfl⟩:=a;cases r;have fit:tooLong (Txt.upper z).length=false:=fit_upper (by show z.cps.size<=_;lia);have e:=upper_ascii asc;refine call_gives PySem.F.slot_str_upper (typeIs_str _ _ _) PySem.F.entry_str_upper (PySem.F.args_str_upper_1 _) (gives_str_upper z t fit) ?_;rw[e] at fit;show (Made.str (Txt.upper z)).post (EP X pins σ Q) s;rw[e];exact⟨(by show (z.cps.map _).size<=sizeLine;rw[Array.size_map,sizeLine_eq];lia),⟨.str _,H,I.tok _,⟨_,rfl⟩,q _ (by show (z.cps.map _).toList=_;rw[Array.toList_map])⟩⟩
def Z6o(ha:PySem.W.ktsIn K a "BaseException"=true):∀ C∈[a],PySem.W.ktsIn K C "BaseException"=true:=λC h=>by rw[Z04.mp h];exact ha
def z7C{X:Cx}{pins:List 013}{Rx:Addr->Hp->Prop}:Passes (ye X.prog X.w C) (X.z2A [C] pins Rx) (λv _ H'=>∃ C,v=.ref C/\Rx C H'):=λpins σ H s e s' I h=>Z3C pins σ H s e s' I ⟨C,05,h⟩
noncomputable def Z5O(Xl Xt Xm:Addr)(a:Str)(Q:VK)(d:Addr)(v:V)(C:Addr)(σ:St)(H':Hp):Prop:=(∃ kl:Addr,σ=[some (.ref d),some v,some (.str a),some .Zc,some (.ref kl),some (.bl false),none])/\((C=Xm/\a=JX)\/(C=Xt/\a=JZ)\/(C=Xl/\a=nlT))/\∀ G,zu H' G->Q (.bl true) G
structure KiT(K:FR)(Xl Xt Xm Xk:Addr):Prop where
 k:∀ C∈[Xl,Xt,Xm],∀ D∈[Xl,Xt,Xm],PySem.W.kitOne K 035 025=some (decide (C=D))
 n:∀ C∈[Xl,Xt,Xm],PySem.W.kitOne K 035 (.ref Xk)=some false
 v:∀ C∈[Xl,Xt,Xm],PySem.W.kitOne K 035 (.type "ValueError")=some true
 nd:[Xl,Xt,Xm].Nodup
noncomputable def z6i(tb:Addr)(pos:Pos):Sp:=λvs H Q _=>vs=[]/\Tab tb pos xr H/\∀ H',Q (.bl true) H'
noncomputable def Z0l:List Str:=["0","1","2","3","4","11","12","99","100","00","01","-1","","x"]
noncomputable def Z0p(r:Str):List Str:=["+1","1_0",r]
noncomputable def Z3p(z:Str):Bool:=z.cps.toList.all (λc=>decide (c<128/\c≠119/\c≠108/\c≠101)) && decide (z.cps.size<=1400)
def Ux.of(h:Z3p z=true):Pw.Ux z:=by
 unfold Z3p at h;rw[Z2m,Z26] at h;exact⟨λc a=>of_decide_eq_true (h.1 c a),of_decide_eq_true h.2⟩
def z9Y(hr:r.cps.toList=(List.replicate 1400 (Str.ofString "7").cps.toList).flatten):∀ z∈Z0l ++ Z0p r,Pw.Ux z:=by
 intro z b;rcases Z1y.mp b with h | h;have:Z0l.all Z3p=true:=03
 exact Ux.of (Z26.mp this z h);simp only[Z0p,Z08,Z2x,or_false] at h;rcases h with rfl | rfl | rfl;exact Ux.of 03;exact Ux.of 03;have e:(Str.ofString "7").cps.toList=[55]:=03
 rw[e] at hr;refine⟨λc a=>?_,?_⟩;rw[hr] at a;obtain⟨l,hl,a⟩:=List.mem_flatten.mp a;rw[(List.mem_replicate.mp hl).2] at a;rw[Z04.mp a];decide;rw[← Z07,hr];simp
noncomputable def z3o:List Str:=["1/2 ","3/2"]
noncomputable def z0l:List Str:=["pages 3 0>1 1>2","pages 1","pages 2 0>1 0>1","pages 0","pages 13"]
noncomputable def z1w:List Str:=["pages 2 1>0 0>1","","x","pages 2 0>2","pages 2  0>1","pages 2 0>1 "]
noncomputable def z3B:List Str:=["1/2","1/1","3/20","0/1","2/1","-1/2","2/4","1/0","","1","x","01/2"]
def Z0c(hr:r.cps.toList=(List.replicate 61 (Str.ofString " 0>0").cps.toList).flatten):∀ z∈(z0l ++ z1w) ++ [Str.ofString "pages 1" ++ r],Pw.Xi (Str.ofString "web " ++ z):=by
 intro z a;rcases Z1y.mp a with h | h;have:(z0l ++ z1w).all (λz=>Pw.z5g (Str.ofString "web " ++ z))=true:=03
 exact Pw.Xi.of (Z26.mp this z h);rw[Z04.mp h];have e:r=⟨((List.replicate 61 (Str.ofString " 0>0").cps.toList).flatten).toArray⟩:=Z4O (Z20.mp (by rw[hr]));rw[e];exact Pw.Xi.of 03
def z6J:∀ z∈z3B ++ z3o,Pw.Xi (Str.ofString "leap " ++ z):=by
 intro z a;have:(z3B ++ z3o).all (λz=>Pw.z5g (Str.ofString "leap " ++ z))=true:=03
 exact Pw.Xi.of (Z26.mp this z a)
noncomputable def z9W:List Str:=[""," ","undo","show","rank","page","undo ","show 1","rank 0","page 1"]
noncomputable def Z0H:List Str:=["web","leap","link","link 1","share","pass 1","share 0 1"]
noncomputable def z9n:List Str:=["link 0 1 2","Show","pages 2","say 1","unlink 0"]
def z9x:∀ z∈(z9W ++ Z0H) ++ z9n,Pw.Xi z:=by
 intro z a;have:((z9W ++ Z0H) ++ z9n).all Pw.z5g=true:=03
 exact Pw.Xi.of (Z26.mp this z a)
def QC{ys:List Str}(e:H l=some (.lst (ys.map V.str)))(h0:0<=j)(a:j<(ys.length:Int))(k:∀ z,z∈ys->Q (.str z) H):z7c K (.ref l) (.int j) H Q:=by
 obtain⟨i,rfl⟩:=Z3T h0;have hi:i<ys.length:=00
 exact ixl (zJ.of e) (zS (by rw[Z1a,Z02 hi];rfl)) (k _ (Z29 hi))
def z6D{x:V}(h0:0<=w)(a:w<2):∃ v,atI [x,y] w=some v/\(v=x\/v=y):=by
 have:w=0\/w=1:=00
 rcases this with rfl | rfl;exact⟨x,rfl,.inl rfl⟩;exact⟨y,rfl,.inr rfl⟩
end L2
namespace Pw
def Z4T{x:Str}(h:JV x y=true):∃ t,x=y ++ t:=by
 unfold JV Builtin.Str.subAt at h;rw[Z2m] at h;have e:=eq_of_beq h.2;refine⟨⟨x.cps.extract y.cps.size x.cps.size⟩,Z4O ?_⟩;rw[Z17];apply Z20.mp;have a:=congrArg Array.toList e;rw[Z11];have l:y.length=y.cps.size:=rfl;rw[l,Nat.zero_add] at a;simp only[Array.toList_extract,List.extract_eq_take_drop,Nat.sub_zero,Z58] at a ⊢;rw[← a,← Z07 (xs:=x.cps)];have:(x.cps.toList.drop y.cps.size).take (x.cps.toList.length - y.cps.size)=x.cps.toList.drop y.cps.size:=Z18 (by rw[Z31];exact Z01 _);rw[this,a,← a,List.take_append_drop]
def Z2L{x:Str}(i:32∉y.cps.toList)(h:32∉x.cps.toList\/∃ a d,32∉a.cps.toList/\x=a ++ L2.zQ 32 ++ d/\a≠y):JV x (y ++ L2.zQ 32)=false:=by
 cases e:JV x (y ++ L2.zQ 32) with
 | false=>rfl
 | true =>
   exfalso;obtain⟨t,b⟩:=Z4T e;rcases h with h |⟨a,d,j,f,c⟩;refine h ?_;rw[b,Z17,Z17,Z11,Z11];show 32∈(_ ++ [32]) ++ _;simp;have:=congrArg (λs:Str=>s.cps.toList) (f.symm.trans b)
   simp only[Z17,Z11] at this;change (a.cps.toList ++ [32]) ++ d.cps.toList=(y.cps.toList ++ [32]) ++ t.cps.toList at this;rw[Z25,Z25] at this;exact c (Z4O (Z20.mp (Ub j i this).1))
end Pw
namespace L2
def z3K(x:Str):∀ ys:List Str,inV (.str x) (ys.map V.str)=decide (x∈ys)
 | []=>by simp[inV]
 | y :: ys=>by
   have a:=z3K x ys;unfold inV at a ⊢;rw[Z1Y,List.any_cons,a];have e:eqV (.str y) (.str x)=decide (x=y):=by
    show (y == x)=_;rw[Bool.eq_iff_iff,beq_iff_eq,decide_eq_true_iff,eq_comm]
   rw[e];simp
def J8{x:Str}{ys:List Str}(e:H t=some (.tup (ys.map V.str)))(q:Q (.bl (decide (x∈ys))) H):rIn K false (.str x) (.ref t) H Q :=
 ⟨t,_,rfl,.inr (zO.of e),rfl,by rw[List.all_map];exact Z26.mpr λ_ _=>rfl,by
  show Q (.bl (inV _ _)) H;rw[z3K];exact q⟩
def z1k(x y:Str):decide (V.str x=V.str y)=decide (x=y):=by
 rw[decide_eq_decide];exact⟨λz=>V.str.inj z,λz=>by rw[z]⟩
noncomputable def Hd.back(x:Str):Option Hd:=([.link,.unlink,.page,.undo,.show,.share,.rank,.pass]:List Hd).find? λh=>h.tx == x
def Hd.z4b(h:Hd):Hd.back h.tx=some h:=by cases h <;> kernel_rfl
def Hd.Jl{h h':Hd}(e:h.tx=h'.tx):h=h':=by
 have:=h.z4b;rw[e,h'.z4b] at this;exact (Z12 this).symm
def z0R{h h':Hd}(n:h≠h'):decide (V.str h.tx=V.str h'.tx)=false:=decide_eq_false λz=>n (Hd.Jl (V.str.inj z))
def yY(x:Str)(h:Hd)(a b:Nat):x=h.cm a b↔Txt.split x (zQ 32)=h.tx :: (h.ar a b).map Pw.ns:=by
 constructor;rintro rfl;exact Pw.jb h.short.2;intro e;have j:=StrLaws.join_split x (zQ 32);rw[e] at j;refine Z4O (Z20.mp ?_);unfold Hd.cm;rw[Pw.join_list,← Pw.yh,j]
def cm0(h:Hd)(e:h.nr=0):h.tx=h.cm 0 0:=by
 have:h.ar 0 0=[]:=Z27.mp e;unfold Hd.cm;rw[this];refine Z4O (Z20.mp ?_);rw[Z3R,Pw.join_list];unfold Pw.jl;simp
def QM.cm(ha:a<100)(d:b<100)(c:CmD h a b n ps due):QM (h.cm a b) n ps due:=by
 obtain⟨⟨f,q1,q2⟩,i,j,k,q3,q4,q5⟩:=h.first
 exact .inr ⟨Pw.Vz 0 q1 (b:=119) 03 q2,Pw.Vz i q3 q4 q5,.inr ⟨h,a,b,ha,d,rfl,c⟩⟩
def z9w{sp:Sp}{pos:Pos}(h:Gl X nm)(d:(nm == ("__debug__":Str))=false)(D:Def X.prog X.w X.K X.mg X.base k nm ps sp)(hr:zX k X.A):PE X (.Call (.Name nm p) [] [] pos) (vO sp [] E0 Qg):=by
 obtain⟨f,fd,a,b,c,F⟩:=D;exact z8h F hr h b a c .nil xU d
end L2
namespace Pw
def Z0q{x:Str}{n:Int}(h:Zk x=some n)(p:0<=n)(z:x.cps.size<=10):n<10 ^ 10:=by
 have h:=Z3F h p;unfold num? at h;split at h;rename_i f;cases h;have:=uv x.cps.toList 0 (ZH f);have a:x.cps.toList.length<=10:=by rw[Z07];exact z
 rw[Nat.zero_add,Nat.one_mul] at this;have:=Z0N this (Z3K 01 a);show ((NumText.digitsVal x.cps.toList:Nat):Int)<_;unfold NumText.digitsVal;lia;cases h
end Pw
namespace L2
def Qy{mg:SV}{pos:Pos}{x:Nat}(D:YO K C Cd tb pos H d p pd lp n ps Ws A)(an:AnX P w K mg base fz Xl h.tx h.nr (h.sp K C Xl tb pos))(j:Ws.length<=5000)(hx:x<100)(hy:y<100)(hp:h=.pass->ps.length+6<=60)(k:∀ a n' ps' Ws' H',¬ z1x h x y n ps->z9Z A h x y n ps Ws a n' ps' Ws'->YO K C Cd tb pos H' d p pd lp n' ps' Ws' A->Kx [p,pd,tb] H H'->Q (.str a) H')(J:z1x h x y n ps->∀ H',zu H H'->E (.ref Xl) none H') :
 Zm P w K mg base 16 fz C Cd Xl Xt Xm [.ref d,.str (h.cm x y)] H Q E:=by
 obtain⟨t,f,fd,a1,a2,a3,a4,a5⟩:=an;obtain⟨h8,O⟩:=h.short;have U:=h.bound hx hy;have al:=h.z2l x y;have T:h.nr<=2:=by cases h <;> decide
 have hm:∀ y'∈h.tx :: (h.ar x y).map Pw.ns,y'.cps.size<=8:=λy' Y=>by
  rcases Z08.mp Y with e | e;rw[e];exact h8;obtain⟨z,j,rfl⟩:=Z23.mp e;have b:=U z j;have:=(YU b.1 b.2).2;lia
 have sz:=Q7 (sep:=zQ 32) hm;rw[Z09,Z00,al] at sz;have zc:(zQ 32).cps.size=1:=rfl;rw[zc] at sz;have G:(h.cm x y).cps.size<=8000:=by
  have:=Z5h (8+1) (show h.nr+1<=3 by lia);exact Z0X sz (Z0X this 01)
 obtain⟨⟨c1,q1,q2⟩,i,c2,c3,q3,q4,q5⟩:=h.first
 refine⟨d,p,pd,lp,_,_,Ws,A,rfl,D.h.o,D.h.s.l,D.h.s.fA,.inr ⟨_,rfl,G,.inl ⟨Pw.Vz 0 q1 (b:=119) 03 q2,Pw.Vz i q3 q4 q5,p,_,h.tx,(h.ar x y).map Pw.ns,rfl,G,Pw.jb O,by rw[Z00,al];lia,λz j=>Z0X (hm z (Z03 _ j)) 01,.inr ⟨t,f,h.nr,fd,_,a1,a2,a3,a4,a5,λz j=>?_,.inr ⟨h.ar x y,rfl,U,al,T,λL H1 s m X=>?_⟩⟩⟩⟩⟩;obtain⟨q,v,rfl⟩:=Z23.mp j;exact (YU (U q v).1 (U q v).2).1;have D1:=D.same s;have n1:=D.h.s.n1;have n12:=D.h.s.n12;have N:∀ {a n' ps' Ws' H'},¬ z1x h x y n ps->z9Z A h x y n ps Ws a n' ps' Ws'->YO K C Cd tb pos H' d p pd lp n' ps' Ws' A->Kx [p,pd] H1 H'->Q (.str a) H':=λnb r d2 k2=>k _ _ _ _ _ nb r d2 (s.kx.trans (kx3 k2));have st:∀ {a H'},¬ z1x h x y n ps->z9Z A h x y n ps Ws a n ps Ws->zu H1 H'->Q (.str a) H':=λnb r s2=>N nb r (D1.same s2) s2.kx;clear hm sz G zc U al h8 O q1 q2 q3 q4 q5 T a1 a2 a3 a4 a5;cases h with
 | link =>
   refine⟨p,pd,lp,L,((n:Int),ps),Ws,x,y,rfl,X,D1.h.s.l,j,D.h.s.few,λ⟨hb,I⟩ H2 ms pm pw B k2=>?_,λnb H2 s2=>J (λ⟨a,b,c⟩=>nb ⟨⟨00,by show (x:Int)<(n:Int);lia,00,by show (y:Int)<(n:Int);lia⟩,c⟩) H2 (s.trans s2)⟩;have R:0<=(x:Int)/\(x:Int)<(n:Int)/\0<=(y:Int)/\(y:Int)<(n:Int):=hb;refine N (λz=>z ⟨00,00,I⟩) ⟨rfl,rfl,pm,pw,rfl⟩ (D1.kx k2 B ⟨D.Vo.n1,D.Vo.n12,?_,pw,λq v=>?_⟩ D.past) k2;show ms.length<=60;rw[pm.length_eq,Z14,Z39];exact I;rcases Z1y.mp (pm.mem_iff.mp v) with z | z;exact D.h.s.rng q z;rw[Z04.mp z];exact R
 | unlink =>
   refine⟨p,pd,lp,L,((n:Int),ps),Ws,x,y,rfl,X,D1.h.s.l,j,D.h.s.few,λ⟨hb,hi⟩ H2 B k2=>?_,λnb H2 s2=>J (λ⟨a,b,c⟩=>nb ⟨⟨00,by show (x:Int)<(n:Int);lia,00,by show (y:Int)<(n:Int);lia⟩,c⟩) H2 (s.trans s2)⟩;have R:0<=(x:Int)/\(x:Int)<(n:Int)/\0<=(y:Int)/\(y:Int)<(n:Int):=hb;exact N (λz=>z ⟨00,00,hi⟩) ⟨rfl,rfl,rfl,rfl⟩ (D1.kx k2 B ⟨D.Vo.n1,D.Vo.n12,Z0X (List.length_erase_le ..) D.h.s.few,D.up.erase _,λq v=>D.h.s.rng q (List.mem_of_mem_erase v)⟩ D.past) k2
 | page =>
   refine⟨p,pd,lp,L,n,ps,Ws,rfl,D1.h.s.l,j,n12,λhn H2 B k2=>?_,λnb H2 s2=>J nb H2 (s.trans s2)⟩;exact N (λz=>z hn) ⟨rfl,rfl,rfl,rfl⟩ (D1.kx k2 B ⟨by show 1<=((n+1:Nat):Int);lia,by show ((n+1:Nat):Int)<=12;lia,D.h.s.few,D.up,λq v=>by have:=D.h.s.rng q v;show 0<=q.1/\q.1<((n+1:Nat):Int)/\0<=q.2/\q.2<((n+1:Nat):Int);lia⟩ D.past) k2
 | undo =>
   refine⟨p,pd,lp,L,((n:Int),ps),Ws,rfl,D1.h.s.l,λz H2 s2=>st (λz=>z) (.inl ⟨z,rfl,rfl,rfl,rfl⟩) s2,λW0 Ws0 e H2 B k2=>?_⟩;have o0:=D.old W0 (by rw[e];simp);obtain⟨Z,M⟩:∃ Z:Nat,W0.1=(Z:Int):=⟨W0.1.toNat,by have:=o0.n1;lia⟩;have eW:W0=((Z:Int),W0.2):=Prod.ext M rfl;rw[eW] at B o0;exact N (λz=>z) (.inr ⟨by rw[← eW];exact e,rfl⟩) (D1.kx k2 B o0 λW hW=>D.old W (by rw[e];exact Z2Q _ hW)) k2
 | «show»=>exact⟨p,pd,lp,L,n,ps,Ws,A,rfl,D1.h.s,λH2 s2=>st (λz=>z) ⟨rfl,rfl,rfl,rfl⟩ s2⟩
 | share=>exact⟨p,pd,lp,L,n,x,ps,Ws,A,rfl,X,D1.h.s,λF H2 Ss ok sz s2=>st (λz=>z F) ⟨⟨Ss,ok,rfl⟩,rfl,rfl,rfl⟩ s2,λF H2 s2=>J F H2 (s.trans s2)⟩
 | rank =>
   refine⟨p,pd,lp,L,n,ps,Ws,A,rfl,D1.h.s,D1.h.t,λH2 Ss r ok rk kp tab=>?_⟩;refine k _ _ _ _ _ (λz=>z) ⟨⟨Ss,r,ok,rk,rfl⟩,rfl,rfl,rfl⟩ ⟨?_,D.up,D.old⟩ (λb o e nb=>kp b o (s b o e) λz=>nb (by rw[z];simp));have h':=D1.h;obtain⟨dx,ed⟩:=h'.o;have nd:d≠tb:=h'.t.ne ed 022;obtain⟨now,us,lv,hw,hs⟩:=id h'.s.l;obtain⟨⟨dl,hl⟩,hpd⟩:=id lv;have np:p≠tb:=h'.t.ne hl 022;have npd:pd≠tb:=h'.t.ne hpd 022;have nlp:lp≠tb:=h'.t.ne h'.s.fA 022;have ku:KU H1 H2:=⟨λb xs e=>kp b _ e (h'.t.ne e 022),λb q u e=>kp b _ e (h'.t.ne e 022)⟩;exact⟨⟨dx,kp _ _ ed nd⟩,{ h'.s with l:=h'.s.l.kx (S:=[tb]) (λb q e nb=>kp b q e λz=>nb (Z04.mpr z)) ku (λz=>np (Z04.mp z)) (λz=>npd (Z04.mp z)),fA:=kp _ _ h'.s.fA nlp },tab⟩
 | pass=>exact⟨p,pd,lp,L,n,x,y,ps,Ws,A,rfl,X,D1.h.s,λF=>⟨hp rfl,λH2 o lo s2=>st (λz=>z F) ⟨⟨o,lo,rfl⟩,rfl,rfl,rfl⟩ s2⟩,λF H2 s2=>J F H2 (s.trans s2)⟩
noncomputable def z7Z(x:Str)(n:Nat)(ps:LI)(Ws:List Wb)(n':Nat)(ps':LI)(Ws':List Wb):Prop :=
 (∃ hd t,(hd=Str.ofString "web"\/hd=Str.ofString "leap")/\x=hd ++ zQ 32 ++ t/\Ws'=[]/\(ps'.length<=2\/ps'=ps))\/∃ h a b c A,x=Hd.cm h a b/\z9Z A h a b n ps Ws c n' ps' Ws'
def kx4(k:Kx S H H')(s:∀ b∈S,b∈[d,p,pd,tb]):Kx [d,p,pd,tb] H H':=λb o e n=>k b o e λz=>n (s b z)
def z3T{mg:SV}{pos:Pos}{x:Str}(an:∀ h:Hd,AnX P w K mg base fz Xl h.tx h.nr (h.sp K C Xl tb pos))(fzk:∀ y,fz y=none\/∃ h:Hd,y=h.tx)(B:x.cps.size<=2950)(no:¬ z7g x)(j:ErX Xm H E):jW P w K mg base 16 fz Xl Xm [.ref p,.str x] H Q E:=by
 obtain⟨hd,r,i⟩:∃ hd r,Txt.split x (zQ 32)=hd :: r:=by
  match hh:Txt.split x (zQ 32),split_pos x (zQ 32) with
  | w0 :: r,_=>exact⟨w0,r,rfl⟩
 have sh:∀ y∈Txt.split x (zQ 32),y.cps.size<=8000:=λy s=>Z0X (part_short s) (Z0X B 01);have o:=split_le x (zQ 32);rw[i] at sh o;rw[Z09] at o;have D:x.length=x.cps.size:=rfl;have c:x.cps.size<=8000:=00
 rcases fzk hd with fn |⟨h,rfl⟩;exact⟨p,x,hd,r,rfl,c,i,00,λz d=>sh z (Z03 _ d),.inl ⟨.inl fn,j⟩⟩
 by_cases af:∀ z∈r,Pw.xn 2 z
 case neg =>
  have:∃ z∈r,¬ Pw.xn 2 z:=Classical.byContradiction λn=>af λz d=>Classical.byContradiction λm=>n ⟨z,d,m⟩;exact⟨p,x,_,r,rfl,c,i,00,λz d=>sh z (Z03 _ d),.inl ⟨.inr this,j⟩⟩
 obtain⟨t,f,fd,a1,a2,a3,a4,a5⟩:=an h;refine⟨p,x,_,r,rfl,c,i,00,λz d=>sh z (Z03 _ d),.inr ⟨t,f,h.nr,fd,_,a1,a2,a3,a4,a5,af,.inl ⟨λe=>no ?_,j⟩⟩⟩;obtain⟨a,b,ha,k,A⟩:∃ a b:Nat,a<100/\b<100/\∀ l,l=r.length->r=(([(a:Int),(b:Int)]:List Int).take l).map Pw.ns:=by
  have q:r.length<=2:=by rw[e];cases h <;> decide
  match r,af,q with
  | [],_,_=>exact⟨0,0,01,01,λl e=>by rw[e];rfl⟩
  | [u],af,_ =>
    obtain⟨a,ha,rfl⟩:=Pw.z5n (af u 05);exact⟨a,0,ha,01,λl e=>by rw[e];rfl⟩
  | [u,v],af,_ =>
    obtain⟨a,ha,rfl⟩:=Pw.z5n (af u 05);obtain⟨b,k,rfl⟩:=Pw.z5n (af v 05);exact⟨a,b,ha,k,λl e=>by rw[e];rfl⟩
 refine⟨h,a,b,ha,k,(yY x h a b).mpr ?_⟩;rw[i,A _ e.symm];cases h <;> rfl
def z3k{mg:SV}{pos:Pos}{x:Str}(D:YO K C Cd tb pos H d p pd lp n ps Ws A)(an:∀ h:Hd,AnX P w K mg base fz Xl h.tx h.nr (h.sp K C Xl tb pos))(fzk:∀ y,fz y=none\/∃ h:Hd,y=h.tx)(ok:Pw.OkW x)(dk:QM x n ps due)(hz:Ws.length<=5000)(hp:ps.length+6<=60)(k:∀ a p' m T n' ps' Ws' A' H',due=Str.ofString ""->z7Z x n ps Ws n' ps' Ws'->YO K C Cd tb pos H' d p' m T n' ps' Ws' A'->Kx [d,p,pd,tb] H H'->(m=pd\/H m=none)->Q (.str a) H')(I:∀ X H',((X=Xm/\due=JX)\/(X=Xt/\due=JZ)\/(X=Xl/\due=nlT))->zu H H'->E (.ref X) none H'):Zm P w K mg base 16 fz C Cd Xl Xt Xm [.ref d,.str x] H Q E:=by
 have one:Str.ofString ""≠JZ/\Str.ofString ""≠nlT:=03
 have j:=Z0X ok.few (show 2950<=8000 by decide);have n1:=D.h.s.n1;have n12:=D.h.s.n12;rcases dk with⟨hd,t,rfl,⟨rfl,tx⟩|⟨rfl,tx⟩⟩|⟨s1,s2,⟨no,rfl⟩|⟨h,a,b,ha,hb,rfl,c⟩⟩
 · have e:Str.ofString "web" ++ zQ 32 ++ t=Str.ofString "web " ++ t:=by rw[show Str.ofString "web "=Str.ofString "web" ++ zQ 32 by decide +kernel]
   refine⟨d,p,pd,lp,_,_,Ws,A,rfl,D.h.o,D.h.s.l,D.h.s.fA,.inr ⟨_,rfl,j,.inr (.inl ⟨t,e,λn' ps' f M i G Z q L J B=>?_,λnw H' s=>?_⟩)⟩⟩
   · rcases tx with⟨_,e0⟩|⟨nw,_⟩
     case inr=>exact absurd ⟨_,_,f⟩ nw
     have O:Vj K G lp A:=B _ _ D.h.s.fA (λz=>by obtain⟨_,e⟩:=D.h.o;have:=D.h.s.fA;unfold Vj at this;rw[z,e] at this;cases this);have w1:=f.n1;have w12:=f.n12;obtain⟨N,u6⟩:=D.h.new (n':=n') (ps':=ps') B L J 00 00 f.few f.rng O D.h.s.ca D.h.s.a0 D.h.s.a1 D.h.s.sA;exact k _ M i lp n' ps' [] A G e0 (.inl ⟨_,t,.inl rfl,rfl,rfl,.inl (ok.web t _ _ e f)⟩) ⟨N,f.up,λW h=>by cases h⟩ (kx4 (S:=[d]) (B.kx 05) 05) (.inr q)
   rcases tx with⟨iw,_⟩|⟨_,e0⟩;exact absurd iw nw;exact I _ _ (.inr (.inl ⟨rfl,e0⟩)) s
 · have e:Str.ofString "leap" ++ zQ 32 ++ t=Str.ofString "leap " ++ t:=by rw[show Str.ofString "leap "=Str.ofString "leap" ++ zQ 32 by decide +kernel]
   refine⟨d,p,pd,lp,_,_,Ws,A,rfl,D.h.o,D.h.s.l,D.h.s.fA,.inr ⟨_,rfl,j,.inr (.inr ⟨t,e,λA' U ga M i R G Z q L J O B=>?_,λnw H' s=>?_⟩)⟩⟩
   · rcases tx with⟨_,e0⟩|⟨nw,_⟩
     case inr=>exact absurd ⟨_,U,ga⟩ nw
     obtain⟨ca,a0,a1⟩:=id ga;have z2:A'.2<10 ^ 10:=by
      obtain⟨u,v,e2,hu,Y⟩:=Pw.z4c U.1;refine Pw.Z0q Y 00 (Z0X (part_short (x:=t) (y:=zQ 47) (by rw[e2];simp)) (ok.leap t e))
     obtain⟨N,u6⟩:=D.h.new (n':=n) (ps':=ps) B L J n1 n12 D.h.s.few D.h.s.rng O ca a0 a1 ⟨yW 40 00,yW 40 00⟩;exact k _ M i R n ps [] A' G e0 (.inl ⟨_,t,.inr rfl,rfl,rfl,.inr rfl⟩) ⟨N,D.up,λW h=>by cases h⟩ (kx4 (S:=[d]) (B.kx 05) 05) (.inr q)
   rcases tx with⟨iw,_⟩|⟨_,e0⟩;exact absurd iw nw;exact I _ _ (.inr (.inl ⟨rfl,e0⟩)) s
 exact⟨d,p,pd,lp,_,_,Ws,A,rfl,D.h.o,D.h.s.l,D.h.s.fA,.inr ⟨_,rfl,j,.inl ⟨s1,s2,z3T an fzk ok.few no λH' s=>I _ _ (.inl ⟨rfl,rfl⟩) s⟩⟩⟩;refine Qy D (an h) hz ha hb (λ_=>hp) (λF n' ps' Ws' H' nb r d2 k2=>?_) λbd H' s=>?_;rcases c with⟨bd,_⟩|⟨_,e0⟩;exact absurd bd nb;exact k F p pd lp n' ps' Ws' A H' e0 (.inr ⟨h,a,b,F,A,rfl,r⟩) d2 (kx4 k2 05) (.inl rfl);rcases c with⟨_,e0⟩|⟨nb,_⟩;exact I _ _ (.inr (.inr ⟨rfl,e0⟩)) s;exact absurd bd nb
def Z3G(h:Hd)(m:Nat):z0i h.tx m=match h with | .undo=>m - 1 | .link=>m+1 | .unlink=>m+1 | .page=>m+1 | _=>m:=by
 unfold z0i;cases h <;> rw[if_neg 03] <;> first | (rw[if_pos 03];done) | (rw[if_neg 03,if_pos 03];done) | rw[if_neg 03,if_neg 03]
def z7Z.many{x hd:Str}(h:z7Z x n ps Ws n' ps' Ws')(l:Txt.split x (zQ 32)=hd :: r)(m:2<=M)(b:∀ W∈Ws ++ [((n:Int),ps)],W.2.length<=M):Ws'.length=z0i hd Ws.length/\∀ W∈Ws' ++ [((n':Int),ps')],W.2.length<=M+1:=by
 have b0:=b _ (Z1g _ (Z04.mpr rfl));change ps.length<=M at b0;have d:∀ W∈Ws,W.2.length<=M:=λW f=>b W (Z2Q _ f);have on:∀ {Ws':List Wb}{q:LI},(∀ W∈Ws',W.2.length<=M)->q.length<=M+1->∀ W∈Ws' ++ [((n':Int),q)],W.2.length<=M+1:=λa c W f=>by
  rcases Z1y.mp f with z | z;have:=a W z;lia;rw[Z04.mp z];exact c
 rcases h with⟨h0,t,hh,rfl,rfl,hps⟩|⟨h,i,j,ans,A,rfl,r⟩;have k:32∉h0.cps.toList:=by rcases hh with rfl | rfl <;> decide +kernel
 obtain⟨o,e⟩:=Pw.split_head k (x:=h0 ++ zQ 32 ++ t) rfl;rw[l] at e;cases e;refine⟨by unfold z0i;rw[if_pos hh];rfl,on 022 ?_⟩;rcases hps with z | rfl <;> lia;have e:=(yY _ h i j).mp rfl;rw[l] at e;cases e;rw[Z3G];cases h with
 | link =>
   obtain⟨_,rfl,pm,_,rfl⟩:=r;exact⟨by rw[Z14];rfl,on b (by rw[pm.length_eq,Z14,Z39];lia)⟩
 | unlink =>
   obtain⟨_,rfl,rfl,rfl⟩:=r;exact⟨by rw[Z14];rfl,on b (Z0X (List.length_erase_le ..) 00)⟩
 | page =>
   obtain⟨_,rfl,rfl,rfl⟩:=r;exact⟨by rw[Z14];rfl,on b 00⟩
 | undo =>
   rcases r with⟨rfl,_,rfl,rfl,rfl⟩|⟨rfl,_⟩;exact⟨rfl,on d 00⟩;refine⟨by rw[Z14];rfl,on (λW f=>d W (Z2Q _ f)) ?_⟩
   have:=d _ (Z1g _ (Z04.mpr rfl));change ps'.length<=M at this;lia
 | «show» =>
   obtain⟨_,rfl,rfl,rfl⟩:=r;exact⟨rfl,on d 00⟩
 | share =>
   obtain⟨_,rfl,rfl,rfl⟩:=r;exact⟨rfl,on d 00⟩
 | rank =>
   obtain⟨_,rfl,rfl,rfl⟩:=r;exact⟨rfl,on d 00⟩
 | pass =>
   obtain⟨_,rfl,rfl,rfl⟩:=r;exact⟨rfl,on d 00⟩
def YO.keep{pos:Pos}(D:YO K C Cd tb pos H d p pd lp n ps Ws A)(k:Kx [d,p,pd,tb] H H')(e:H l=some o)(a:∀ C dx fs,o≠.ins C dx fs)(c:∀ q,o≠.Qd q)(ne:l≠pd):H' l=some o:=by
 refine k _ _ e λz=>?_;obtain⟨dx,f⟩:=D.h.o;obtain⟨now,us,⟨⟨dl,i⟩,_⟩,_⟩:=id D.h.s.l;obtain⟨q,b⟩:=D.h.t.Qd;simp only[Z08,Z2x,or_false] at z;rcases z with z | z | z | z;rw[z,f] at e;cases e;exact a _ _ _ rfl;rw[z,i] at e;cases e;exact a _ _ _ rfl;exact ne z;rw[z,b] at e;cases e;exact c _ rfl
def z7A{mg:SV}{pos:Pos}{x:Str}{n':Nat}(D:YO K C Cd tb pos H d p pd lp n ps Ws A)(e:x=Str.ofString "web " ++ t)(I:x.cps.size<=8000)(a:Pw.Yu t (n':Int) ps')(k:∀ m b H',H m=none->H b=none->YO K C Cd tb pos H' d m b lp n' ps' [] A->Kx [d,p,pd,tb] H H'->Q (.str U4) H'):Zm P w K mg base 16 fz C Cd Xl Xt Xm [.ref d,.str x] H Q E:=by
 refine⟨d,p,pd,lp,_,_,Ws,A,rfl,D.h.o,D.h.s.l,D.h.s.fA,.inr ⟨_,rfl,I,.inr (.inl ⟨t,e,λn2 B f y c G u j v r i=>?_,λnw=>absurd ⟨_,_,a⟩ nw⟩)⟩⟩;obtain⟨M,rfl⟩:=vC a f;obtain rfl:n'=n2:=00
 have q:Vj K G lp A:=i _ _ D.h.s.fA (λz=>by obtain⟨_,e⟩:=D.h.o;have:=D.h.s.fA;unfold Vj at this;rw[z,e] at this;cases this);have L:=a.n1;have F:=a.n12;obtain⟨J,N⟩:=D.h.new (n':=n') (ps':=ps') i v r 00 00 a.few a.rng q D.h.s.ca D.h.s.a0 D.h.s.a1 D.h.s.sA;exact k y c G u j ⟨J,a.up,λW h=>by cases h⟩ (kx4 (S:=[d]) (i.kx 05) 05)
def YI{mg:SV}{pos:Pos}(D:YO K C Cd tb pos H d p pd lp n ps Ws A)(an:AnX P w K mg base fz Xl (Hd.tx .show) (Hd.nr .show) (Hd.sp K C Xl tb pos .show))(c:Ws.length<=5000)(k:∀ H',YO K C Cd tb pos H' d p pd lp n ps Ws A->Kx [d,p,pd,tb] H H'->Q (.str (Pw.Jr (n:Int) ps)) H'):Zm P w K mg base 16 fz C Cd Xl Xt Xm [.ref d,.str (Str.ofString "show")] H Q E:=by
 rw[show Str.ofString "show"=Hd.cm .show 0 0 from cm0 .show rfl];refine Qy D an c 01 01 (λz=>by cases z) (λa n' ps' Ws' H' _ r b k2=>?_) λz=>z.elim;obtain⟨rfl,rfl,rfl,rfl⟩:=r;exact k H' b (kx4 k2 05)
def Xb{mg:SV}{pos:Pos}(D:YO K C Cd tb pos H d p pd lp n ps Ws A)(an:AnX P w K mg base fz Xl (Hd.tx .undo) (Hd.nr .undo) (Hd.sp K C Xl tb pos .undo))(c:Ws.length<=5000)(k0:Ws=[]->∀ H',YO K C Cd tb pos H' d p pd lp n ps Ws A->Kx [d,p,pd,tb] H H'->Q (.str noT) H')(k1:∀ (n':Nat) (ps':LI) (Ws':List Wb),Ws=Ws' ++ [((n':Int),ps')]->∀ H',YO K C Cd tb pos H' d p pd lp n' ps' Ws' A->Kx [d,p,pd,tb] H H'->Q (.str U4) H'):Zm P w K mg base 16 fz C Cd Xl Xt Xm [.ref d,.str (Str.ofString "undo")] H Q E:=by
 rw[show Str.ofString "undo"=Hd.cm .undo 0 0 from cm0 .undo rfl];refine Qy D an c 01 01 (λz=>by cases z) (λa n' ps' Ws' H' _ r b k2=>?_) λz=>z.elim;rcases r with⟨e,rfl,rfl,rfl,rfl⟩|⟨e,rfl⟩;exact k0 e H' b (kx4 k2 05);exact k1 n' ps' Ws' e H' b (kx4 k2 05)
def Z5u(ns:List Int):∃ cs:List Int,yO (ns.map V.int) (some 1) (some 51)=cs.map V.int/\cs.length<=50:=by
 unfold yO;refine⟨_,by rw[← List.map_drop,← List.map_take],?_⟩;rw[Z22];have a:=HT.yC (ns.map V.int).length 0 1;have b:=HT.yC (ns.map V.int).length (ns.map V.int).length 51;change HT.Z7 _ _ (some 1)=_ at a;change HT.Z7 _ _ (some 51)=_ at b;rw[a,b,Z31];rw[Z00];lia
def z0m{pos:Pos}(tab:Tab tb pos xr H)(hd:H d=none)(i:H dx=none)(mp:upd (upd H dx (.own d)) d (.ins Cd dx []) p=none)(c:upd (upd H dx (.own d)) d (.ins Cd dx []) pd=none)(o:Ur Cd G d p)(v:Zv K C G p pd lp (1,[]) [])(f:Vj K G lp (1,2))(k:Kp d (upd (upd H dx (.own d)) d (.ins Cd dx [])) G):YO K C Cd tb pos G d p pd lp 1 [] [] (1,2)/\zu H G/\H p=none/\H pd=none:=by
 have t1:zu H (upd (upd H dx (.own d)) d (.ins Cd dx [])):=λb o e=>by rw[zC (zo e hd),zC (zo e i)];exact e
 have s1:zu H G:=λb o e=>k b o (t1 b o e) (zo e hd);exact⟨⟨⟨o,⟨v,01,01,01,(λq a=>by cases a),f,⟨01,01⟩,01,01,⟨yW 41 01,yW 41 01⟩⟩,tab.same s1⟩,.nil,λW h=>by cases h⟩,s1,t1.free mp,t1.free c⟩
def YO.new{pos:Pos}(D:YO K C Cd tb pos H d p pd lp n ps Ws A)(k:Kx [d,p,pd,tb] G G'):∀ b o,H b=none->G b=some o->G' b=some o:=λb o a e=>by
 refine k _ _ e λz=>?_;obtain⟨dx,i⟩:=D.h.o;obtain⟨now,us,⟨⟨dl,j⟩,f⟩,_⟩:=id D.h.s.l;obtain⟨q,c⟩:=D.h.t.Qd;simp only[Z08,Z2x,or_false] at z;rcases z with rfl | rfl | rfl | rfl;rw[i] at a;cases a;rw[j] at a;cases a;rw[f] at a;cases a;rw[c] at a;cases a
def Z2g(hd:Str)(m:Nat):z0i hd m<=m+1:=by
 unfold z0i;split;lia;split;lia;split <;> lia
noncomputable def LpK(K:FR)(C Cd tb:Addr)(pos:Pos)(a d q:Addr)(cs:List Int)(i:Nat)(σ:St)(G:Hp):Prop:=∃ (p pd lp:Addr) (n:Nat) (ps:LI) (Ws:List Wb) (A:Int×Int) (b v4 c v6:Option V),σ=[some 024,some (.ref d),some (.int (Ws.length:Nat)),b,v4,c,v6,none]/\YO K C Cd tb pos G d p pd lp n ps Ws A/\(∀ W∈Ws ++ [((n:Int),ps)],W.2.length<=5+i)/\Ws.length<=1+i/\G q=some (.lst (cs.map V.int))/\q≠pd
noncomputable def LqK(K:FR)(C Cd tb:Addr)(pos:Pos)(a d:Addr)(m:Nat)(b v4 c v6:Option V)(i:Nat)(σ:St)(G:Hp):Prop:=∃ (p pd lp:Addr) (n:Nat) (ps:LI) (Ws:List Wb) (A:Int×Int) (f:Option V),σ=[some 024,some (.ref d),some (.int (m:Int)),b,v4,c,v6,f]/\YO K C Cd tb pos G d p pd lp n ps Ws A/\Ws.length+i=m
def Vw{a b:Nat}(ha:a<100)(f:b<100)(e:Pw.ns (a:Int)=Pw.ns (b:Int)):a=b:=by
 have c:=Pw.jT (n:=(a:Int)) 00 00;have d:=Pw.jT (n:=(b:Int)) 00 00;rw[e,d] at c;have:=Z12 c;lia
def Z0M{x hd:Str}(c:Txt.split x (zQ 32)=y :: r)(e:x=hd ++ zQ 32 ++ t)(h:hd=Str.ofString "web"\/hd=Str.ofString "leap"):y=hd:=by
 have a:32∉hd.cps.toList:=by rcases h with rfl | rfl <;> decide +kernel
 obtain⟨d,b⟩:=Pw.split_head a e;rw[c] at b;exact (Z50 b).1
def TxD.hd{hd:Str}(h:TxD hd t due):hd=Str.ofString "web"\/hd=Str.ofString "leap":=h.imp (·.1) (·.1)
def Hd.z8B(h:Hd):¬ (h.tx=Str.ofString "web"\/h.tx=Str.ofString "leap"):=by cases h <;> decide +kernel
def QM.Z1z(ha:a<100)(k:b<100)(d:QM (h.cm a b) n ps due):CmD h a b n ps due:=by
 have m:=(yY _ h a b).mp rfl;rcases d with⟨hd,t,e,td⟩|⟨_,_,⟨no,_⟩|⟨h',i,j,ha',hb',e,c⟩⟩;have:=Z0M m e td.hd;exact absurd (this ▸ td.hd) h.z8B;exact absurd ⟨h,a,b,ha,k,rfl⟩ no;have o:=(yY _ h' i j).mp e;rw[m,Z3S] at o;obtain⟨l,f⟩:=o;have l:=Hd.Jl l;subst l;have q1:∀ {u v:Nat},u<100->v<100->[Pw.ns (u:Int)]=[Pw.ns (v:Int)]->u=v:=λx y z=>Vw x y (Z50 z).1
 cases h with
 | link =>
   have f:[Pw.ns (a:Int),Pw.ns (b:Int)]=[Pw.ns (i:Int),Pw.ns (j:Int)]:=f;rw[Z3S] at f;rw[Vw ha ha' f.1,q1 k hb' f.2];exact c
 | unlink =>
   have f:[Pw.ns (a:Int),Pw.ns (b:Int)]=[Pw.ns (i:Int),Pw.ns (j:Int)]:=f;rw[Z3S] at f;rw[Vw ha ha' f.1,q1 k hb' f.2];exact c
 | pass =>
   have f:[Pw.ns (a:Int),Pw.ns (b:Int)]=[Pw.ns (i:Int),Pw.ns (j:Int)]:=f;rw[Z3S] at f;rw[Vw ha ha' f.1,q1 k hb' f.2];exact c
 | share=>rw[q1 ha ha' f];exact c
 | page=>exact c
 | undo=>exact c
 | «show»=>exact c
 | rank=>exact c
def QM.Z1p{hd:Str}(hw:hd=Str.ofString "web"\/hd=Str.ofString "leap")(d:QM (hd ++ zQ 32 ++ t) n ps due):TxD hd t due:=by
 rcases d with⟨hd',t',e',td⟩|⟨s1,s2,_⟩;have n1:32∉hd.cps.toList:=by rcases hw with rfl | rfl <;> decide +kernel
 have n2:32∉hd'.cps.toList:=by rcases td.hd with rfl | rfl <;> decide +kernel
 have a:=congrArg (λs:Str=>s.cps.toList) e';simp only[Z17,Z11] at a;change (hd.cps.toList ++ [32]) ++ t.cps.toList=(hd'.cps.toList ++ [32]) ++ t'.cps.toList at a;rw[Z25,Z25] at a;obtain⟨q1,q2⟩:=Pw.Ub n1 n2 a;have q1:hd=hd':=Z4O (Z20.mp q1);have q2:t=t':=Z4O (Z20.mp q2);subst q1 q2;exact td;rcases hw with rfl | rfl;rw[show Str.ofString "web "=Str.ofString "web" ++ zQ 32 by decide +kernel,Pw.Vt] at s1;cases s1;rw[show Str.ofString "leap "=Str.ofString "leap" ++ zQ 32 by decide +kernel,Pw.Vt] at s2;cases s2
noncomputable def stN:Nat->Nat
 | 0=>1
 | _=>2
noncomputable def stP:Nat->LI
 | 0=>[]
 | 1=>[(0,1)]
 | _=>[(0,1),(1,0)]
noncomputable def stW:Nat->List Wb
 | 0=>[]
 | 1=>[]
 | _=>[(2,[(0,1)])]
noncomputable def Uo:List Str:=["web pages 2 0>1","link 1 0","link 1 2","unlink 0 0","undo 1","web x"]
noncomputable def Us:List Str:=["leap 2/1","pass 0 0","share 2"]
def z9m(m:2<=i)(hi:i<9)(d:QM ((Uo ++ Us).getD i "") 2 [(0,1),(1,0)] due):due≠Str.ofString "":=by
 have f:JX≠Str.ofString ""/\JZ≠Str.ofString ""/\nlT≠Str.ofString "":=03
 have cm:∀ (h:Hd) (a b:Nat),a<100->b<100->(Uo ++ Us).getD i ""=h.cm a b->z1x h a b 2 [(0,1),(1,0)]->due≠Str.ofString "":=λh a b ha l e o=>by
  rw[e] at d;rcases d.Z1z ha l with⟨_,rfl⟩|⟨nb,_⟩;exact f.2.2;exact absurd o nb
 have tx:∀ (t:Str),(∃ hd,(hd=Str.ofString "web"/\¬ z8W t\/hd=Str.ofString "leap"/\¬ z5V t)/\(Uo ++ Us).getD i ""=hd ++ zQ 32 ++ t)->due≠Str.ofString "":=λt ⟨hd,j,e⟩=>by
  rw[e] at d;have wl:Str.ofString "web"≠Str.ofString "leap":=03
  rcases d.Z1p (j.imp (·.1) (·.1)) with⟨rfl,⟨iw,_⟩|⟨_,rfl⟩⟩|⟨rfl,⟨iw,_⟩|⟨_,rfl⟩⟩
  rcases j with⟨_,n⟩|⟨z,_⟩;exact absurd iw n;exact absurd z wl;exact f.2.1;rcases j with⟨z,_⟩|⟨_,n⟩;exact absurd z.symm wl;exact absurd iw n;exact f.2.1
 match i,m,hi with
 | 2,_,_=>exact cm .link 1 2 01 01 03 (show ¬ (1<2/\2<2/\2<60) by decide)
 | 3,_,_=>exact cm .unlink 0 0 01 01 03 (show ¬ (0<2/\0<2/\((0:Int),(0:Int))∈[((0:Int),(1:Int)),(1,0)]) by decide)
 | 4,_,_ =>
   rcases d with⟨hd,t,e,td⟩|⟨_,_,⟨_,rfl⟩|⟨h,a,b,ha,l,e,c⟩⟩;have:=Z0M (y:=Str.ofString "undo") (r:=["1"]) 03 e td.hd;exact absurd (by have:=td.hd;rwa [← ‹Str.ofString "undo"=hd›] at this) (Hd.z8B .undo);exact f.1;have k:=(yY _ h a b).mp e;rw[show Txt.split ((Uo ++ Us).getD 4 "") (zQ 32)=[Hd.tx .undo,"1"] by decide +kernel,Z3S] at k;have:=Hd.Jl k.1;subst this;cases k.2
 | 5,_,_ =>
   refine tx "x" ⟨_,.inl ⟨rfl,λ⟨n,ps,w⟩=>?_⟩,03⟩;obtain⟨wp,ws,e,_⟩:=w.words;rw[show Txt.split ("x":Str) (zQ 32)=[("x":Str)] by decide +kernel] at e;cases e
 | 6,_,_ =>
   refine tx "2/1" ⟨_,.inr ⟨rfl,λ⟨A,w,g⟩=>?_⟩,03⟩;have:=w.1;rw[show Pw.UP 47 ("2/1":Str)=some (2,1) by decide +kernel] at this;cases this;exact absurd g.2.2 01
 | 7,_,_=>exact cm .pass 0 0 01 01 03 (show ¬ (0<2/\0<2/\0≠0) by decide)
 | 8,_,_=>exact cm .share 2 0 01 01 03 (show ¬ 2<2 by decide)
def z2d{mg:SV}{pos:Pos}(hi:i<9)(D:YO K C Cd tb pos H d p pd lp (stN i) (stP i) (stW i) A)(an:∀ h:Hd,AnX P w K mg base fz Xl h.tx h.nr (h.sp K C Xl tb pos))(fzk:∀ y,fz y=none\/∃ h:Hd,y=h.tx)(l:QM ((Uo ++ Us).getD i "") (stN i) (stP i) due)(k:∀ a v f u A' H',due=Str.ofString ""->YO K C Cd tb pos H' d v f u (stN (i+1)) (stP (i+1)) (stW (i+1)) A'->Kx [d,p,pd,tb] H H'->(f=pd\/H f=none)->Q (.str a) H')(F:∀ X H',((X=Xm/\due=JX)\/(X=Xt/\due=JZ)\/(X=Xl/\due=nlT))->zu H H'->YO K C Cd tb pos H' d p pd lp (stN (i+1)) (stP (i+1)) (stW (i+1)) A->E (.ref X) none H'):Zm P w K mg base 16 fz C Cd Xl Xt Xm [.ref d,.str ((Uo ++ Us).getD i "")] H Q E:=by
 match i,hi with
 | 0,_ =>
   have e:(Uo ++ Us).getD 0 ""=Str.ofString "web" ++ zQ 32 ++ Pw.Jr 2 [(0,1)]:=03
   have B:Pw.Yu (Pw.Jr 2 [(0,1)]) 2 [(0,1)]:=Pw.QA 01 01 01 01 01;have wl:Str.ofString "web"≠Str.ofString "leap":=03
   rw[e] at l;have o:due=Str.ofString "":=by
    rcases l.Z1p (.inl rfl) with⟨_,⟨_,z⟩|⟨n,_⟩⟩|⟨z,_⟩;exact z;exact absurd ⟨_,_,B⟩ n;exact absurd z wl
   refine z7A D (n':=2) (ps':=[(0,1)]) (t:=Pw.Jr 2 [(0,1)]) 03 03 B λv f H' _ m D' q=>k _ v f lp A H' o D' q (.inr m)
 | 1,_ =>
   have e:(Uo ++ Us).getD 1 ""=Hd.cm .link 1 0:=03
   have nb:¬ z1x .link 1 0 2 [(0,1)]:=λz=>z ⟨01,01,01⟩;rw[e] at l ⊢;have o:due=Str.ofString "":=by
    rcases l.Z1z (01) (01) with⟨b,_⟩|⟨_,z⟩;exact absurd b nb;exact z
   refine Qy D (an .link) 01 01 01 (λz=>by cases z) (λa n' ps' Ws' H' _ r D' q=>?_) λb=>absurd b nb;obtain⟨_,rfl,pm,G,rfl⟩:=r;have:ps'=[(0,1),(1,0)]:=Z3j (pm.trans (by exact List.Perm.refl _)) G 01;subst this;exact k _ p pd lp A H' o D' (kx4 q 05) (.inl rfl)
 | j+2,hi =>
   have ne:=z9m 00 hi l;have mem:(Uo ++ Us).getD (j+2) ""∈Uo ++ Us:=by
    rw[Z06,Z02 (show j+2<(Uo ++ Us).length from hi)];exact Z29 _
   have ok:Pw.OkW ((Uo ++ Us).getD (j+2) ""):=(Pw.Xi.of (Z26.mp (show (Uo ++ Us).all Pw.z5g=true by decide +kernel) _ mem)).ok (.inl rfl);exact z3k D an fzk ok l (show 1<=5000 by decide) (show 2+6<=60 by decide) (λ_ _ _ _ _ _ _ _ _ o=>absurd o ne) λX H' c s=>F X H' c s (D.same s)
noncomputable def Z4H(K:FR)(H:Hp)(v:V):Prop:=(∃ t,XI K H v t/\PySem.W.kitOne K t (.type "str")=some false)\/v=.str (Str.ofString "")
def z8q{mg:SV}{pos:Pos}{n:Addr}(D:YO K C Cd tb pos H d p pd lp n ps Ws A)(an:∀ h:Hd,AnX P w K mg base fz Xl h.tx h.nr (h.sp K C Xl tb pos))(fzk:∀ y,fz y=none\/∃ h:Hd,y=h.tx)(nw:Z4H K H v)(c:ErX Xm H E):Zm P w K mg base 16 fz C Cd Xl Xt Xm [.ref d,v] H Q E:=by
 refine⟨d,p,pd,lp,_,_,Ws,A,rfl,D.h.o,D.h.s.l,D.h.s.fA,?_⟩;rcases nw with⟨t,h1,h2⟩| rfl;exact .inl ⟨t,h1,h2,c⟩;refine .inr ⟨_,rfl,03,.inl ⟨03,03,z3T an fzk 03 (λ⟨h,a,b,_,_,e⟩=>?_) c⟩⟩
 have:=(yY _ h a b).mp e;rw[show Txt.split (Str.ofString "") (zQ 32)=[Str.ofString ""] by decide +kernel,Z3S] at this;cases h <;> exact absurd this.1 03
structure UG(H:Hp)(pd hl tp dc dp L:Addr)(u:V):Prop where
 h:H hl=some (.lst [.str (Str.ofString "show")])
 t:H tp=some (.tup [.str (Str.ofString "show")])
 c:H dc=some (.dK [])
 p:H dp=some (.lst [u])
 l:H L=some (.lst [.Zc,.bl true,.int 0,.ref hl,.ref tp,.ref dc,.str (Str.ofString ""),.ref dp])
 n1:hl≠pd
 n2:dp≠pd
 n3:L≠pd
def UG.same(h:UG H pd hl tp dc dp L u)(s:zu H H'):UG H' pd hl tp dc dp L u:=⟨s _ _ h.h,s _ _ h.t,s _ _ h.c,s _ _ h.p,s _ _ h.l,h.n1,h.n2,h.n3⟩
def UG.keep{pos:Pos}{p n:Addr}(h:UG H pd hl tp dc dp L u)(D:YO K C Cd tb pos H d p pd lp n ps Ws A)(k:Kx [d,p,pd,tb] H H'):UG H' pd hl tp dc dp L u:=by
 have g:∀ {l:Addr}{o:HO},H l=some o->(∀ C dx fs,o≠.ins C dx fs)->(∀ q,o≠.Qd q)->l≠pd->H' l=some o:=λe a b c=>D.keep k e a b c;obtain⟨_,_,⟨_,f⟩,_⟩:=id D.h.s.l;exact⟨g h.h (λ_ _ _ z=>by cases z) 022 h.n1,g h.t (λ_ _ _ z=>by cases z) 022 (λz=>by have:=h.t;rw[z,f] at this;cases this),g h.c (λ_ _ _ z=>by cases z) 022 (λz=>by have:=h.c;rw[z,f] at this;cases this),g h.p (λ_ _ _ z=>by cases z) 022 h.n2,g h.l (λ_ _ _ z=>by cases z) 022 h.n3,h.n1,h.n2,h.n3⟩
def UG.not{K:FR}{H:Hp}{pd:Addr}{v:V}{hl tp dc dp L:Addr}{u:V}(h:UG H pd hl tp dc dp L u){i:Nat}(e:([.Zc,.bl true,.int 0,.ref hl,.ref tp,.ref dc,.str (Str.ofString ""),.ref dp]:List V)[i]?=some v):Z4H K H v:=by
 have:=Z2u e;simp only[Z08,Z2x,or_false] at this;rcases this with rfl | rfl | rfl | rfl | rfl | rfl | rfl | rfl;exact .inl ⟨_,.Zc,rfl⟩;exact .inl ⟨_,.bl _,rfl⟩;exact .inl ⟨_,.int _,rfl⟩;exact .inl ⟨_,.lst h.h,rfl⟩;exact .inl ⟨_,.tup h.t,rfl⟩;exact .inl ⟨_,.dK h.c,rfl⟩;exact .inr rfl;exact .inl ⟨_,.lst h.p,rfl⟩
noncomputable def TaK(K:FR)(C Cd tb:Addr)(pos:Pos)(d a q:Addr)(i:Nat)(σ:St)(G:Hp):Prop:=∃ (p pd lp:Addr) (A:Int×Int) (v2:Option V),σ=[some (.ref d),some 024,v2,none,none,none,none]/\YO K C Cd tb pos G d p pd lp (stN i) (stP i) (stW i) A/\G q=some (.lst ((Uo ++ Us).map V.str))/\q≠pd
noncomputable def TbK(K:FR)(C Cd tb:Addr)(pos:Pos)(d a hl p pd lp:Addr)(A:Int×Int)(v2:Option V)(i:Nat)(σ:St)(G:Hp):Prop:=∃ (b:Addr) (u:V) (c:Option V),σ=[some (.ref d),some 024,v2,some (.ref hl),some (.ref b),c,none]/\YO K C Cd tb pos G d p pd lp 2 [(0,1),(1,0)] [(2,[(0,1)])] A/\G hl=some (.lst [.str (Str.ofString "show")])/\hl≠pd/\G b=some (.lst [u])/\b≠pd
noncomputable def TcK(K:FR)(C Cd tb:Addr)(pos:Pos)(d a hl tp dc dp L p pd lp:Addr)(u:V)(A:Int×Int)(v2 b:Option V)(_:Nat)(σ:St)(G:Hp):Prop:=∃ v6:Option V,σ=[some (.ref d),some 024,v2,some (.ref hl),some (.ref dp),b,v6]/\YO K C Cd tb pos G d p pd lp 2 [(0,1),(1,0)] [(2,[(0,1)])] A/\UG G pd hl tp dc dp L u
noncomputable def z8d:List DictEntry->Prop
 | []=>True
 | e :: es=>(∃ (h:Hd) (t:Tok),e.key=.str h.tx t)/\z8d es
def Z2O(h:z8d es.toList):∀ y,findBy Value.isStrOf es y=none\/∃ h:Hd,y=h.tx:=λy=>by
 have all:∀ {l:List DictEntry},z8d l->∀ e∈l,∃ (h:Hd) (t:Tok),e.key=.str h.tx t:=λ{l} hl=>by
  induction l with
  | nil=>intro e he;cases he
  | cons a l ih =>
    intro e he;rcases Z08.mp he with rfl | he;exact hl.1;exact ih hl.2 e he
 unfold findBy;cases e:es.find? (λe=>Value.isStrOf y e.key) with
 | none=>exact .inl rfl
 | some a =>
   refine .inr ?_;obtain⟨h,t,c⟩:=all h a (Array.mem_toList_iff.mpr (Array.mem_of_find?_eq_some e));have q:=Array.find?_some e;obtain⟨t',b⟩:=Value.isStrOf_shape q;rw[c] at b;cases b;exact⟨h,rfl⟩
def KiT.of{k:Addr}(x1:a≠b)(x2:a≠c)(x3:b≠c)(f:PySem.W.kitOne K 024 024=some true)(i:PySem.W.kitOne K (.ref b) (.ref b)=some true)(j:PySem.W.kitOne K (.ref c) (.ref c)=some true)(ab:PySem.W.kitOne K 024 (.ref b)=some false)(ac:PySem.W.kitOne K 024 (.ref c)=some false)(h:PySem.W.kitOne K (.ref b) 024=some false)(l:PySem.W.kitOne K (.ref b) (.ref c)=some false)(ca:PySem.W.kitOne K (.ref c) 024=some false)(cb:PySem.W.kitOne K (.ref c) (.ref b)=some false)(n:∀ C∈[a,b,c],PySem.W.kitOne K 035 (.ref k)=some false)(v:∀ C∈[a,b,c],PySem.W.kitOne K 035 (.type "ValueError")=some true):KiT K a b c k:=by
 refine⟨λC hC D d=>?_,n,v,by simp[x1,x2,x3]⟩;simp only[Z08,Z2x,or_false] at hC d;rcases hC with rfl | rfl | rfl <;> rcases d with rfl | rfl | rfl <;> first | (rw[decide_eq_true rfl];assumption) | (rw[decide_eq_false (by first | assumption | exact Z3O (by assumption))];assumption)
def z8G{P:Addr->Prop}{a b c:Addr}(i:P a)(f:P b)(d:P c):∀ C∈[a,b,c],P C:=λC h=>by
 simp only[Z08,Z2x,or_false] at h;rcases h with rfl | rfl | rfl <;> assumption
end L2
namespace Lw
open L2
noncomputable def top(i:Nat):Stmt:=PySem.Challenge.pw_pagewalks_k56_words_refused.main.body.getD i (.Pass ⟨0,0,0,0⟩)
noncomputable abbrev z2N:Stmt:=top 7
noncomputable abbrev xV:Stmt:=top 8
noncomputable abbrev z6V:Stmt:=top 9
noncomputable abbrev Z3t:Stmt:=top 10
noncomputable abbrev z4p:Stmt:=top 11
noncomputable abbrev vE:Stmt:=top 12
noncomputable abbrev z1Q:Stmt:=top 13
noncomputable abbrev VB:Stmt:=top 14
noncomputable abbrev qZ:Stmt:=top 16
noncomputable abbrev Qi:Stmt:=top 17
noncomputable abbrev vz:Stmt:=top 21
noncomputable abbrev yD:Stmt:=top 22
noncomputable abbrev Ye:Stmt:=top 23
noncomputable abbrev uA:Stmt:=top 24
noncomputable abbrev Uj:Stmt:=top 25
noncomputable abbrev z7J:Stmt:=top 26
noncomputable abbrev z6L:Stmt:=top 27
noncomputable abbrev z2I:Stmt:=top 29
noncomputable abbrev Jw:Stmt:=top 30
noncomputable abbrev Xe:Stmt:=top 31
noncomputable abbrev QW:Stmt:=top 32
noncomputable abbrev VD:Stmt:=top 33
noncomputable abbrev JO:Stmt:=top 35
noncomputable abbrev z6U:Stmt:=top 38
noncomputable abbrev uP:Stmt:=top 39
noncomputable abbrev yZ:Stmt:=top 44
noncomputable abbrev Ys:Stmt:=top 45
noncomputable abbrev yx:Stmt:=top 46
noncomputable abbrev Y5:Stmt:=top 47
noncomputable abbrev ym:Stmt:=top 48
noncomputable abbrev Yr:Stmt:=top 49
noncomputable abbrev xA:Stmt:=top 50
noncomputable abbrev yt:Stmt:=top 51
noncomputable abbrev xh:Stmt:=top 52
noncomputable abbrev YK:Stmt:=top 54
noncomputable abbrev uS:Stmt:=top 55
noncomputable abbrev X4:Stmt:=top 56
noncomputable abbrev Yo:Stmt:=top 57
noncomputable abbrev Qo:Stmt:=top 61
noncomputable abbrev YM:Stmt:=top 62
noncomputable abbrev XD:Stmt:=top 63
noncomputable abbrev YN:Stmt:=top 64
noncomputable abbrev XE:Stmt:=top 65
noncomputable abbrev XC:Stmt:=top 66
noncomputable abbrev X3:Stmt:=top 67
noncomputable abbrev xO:Stmt:=top 68
noncomputable abbrev XO:Stmt:=top 69
noncomputable abbrev XZ:Stmt:=top 70
noncomputable abbrev xT:Stmt:=top 72
noncomputable abbrev yK:Stmt:=top 73
noncomputable abbrev X0:Stmt:=top 77
noncomputable abbrev XU:Stmt:=top 78
noncomputable abbrev YV:Stmt:=top 79
noncomputable abbrev XR:Stmt:=top 80
noncomputable abbrev xE:Stmt:=top 81
noncomputable abbrev ZX:Stmt:=top 82
noncomputable abbrev yS:Stmt:=top 83
noncomputable abbrev Yt:Stmt:=top 84
noncomputable abbrev vq:Stmt:=top 85
noncomputable abbrev x9:Stmt:=top 86
noncomputable abbrev Yq:Stmt:=top 87
noncomputable abbrev ZZ:Stmt:=top 88
noncomputable abbrev JF:Stmt:=top 89
noncomputable abbrev ud:Stmt:=inClass (top 41) 0
noncomputable abbrev V6:Stmt:=inClass (top 41) 1
noncomputable abbrev vA:Stmt:=inClass (top 41) 2
noncomputable abbrev V0:Stmt:=inClass (top 41) 3
noncomputable abbrev XA:Stmt:=inClass (top 41) 4
noncomputable abbrev uQ:Stmt:=inClass (top 41) 5
noncomputable abbrev uR:Stmt:=inClass (top 41) 6
noncomputable abbrev j6:Stmt:=inClass (top 41) 7
noncomputable abbrev XJ:Stmt:=inClass (top 41) 8
noncomputable abbrev XH:Stmt:=inClass (top 41) 9
noncomputable abbrev XY:Stmt:=inClass (top 74) 0
noncomputable abbrev vp:Stmt:=inClass (top 74) 1
def QN:zB ["one","other","rest"] ["one","other"] (zh xV):=fs
def jt{mg:SV}(F:QX K "common" "common" xV f fd):Zo P w K mg base yV 1 f fd ["one","other"] YF:=by
 refine F.ok QN 017 (λcdv A outer s H vs Q E hr h=>?_);obtain⟨x,y,rfl,_⟩:=h;rfl;obtain⟨x,y,rfl,t,o,k⟩:=h;refine⟨_,@qz _ _ _ ⟨z9 (z1f PassesOwn.never (ZV yL (pv 1) zF (yj _)) (z9 (Q9 (i:=2) QN.nd rfl 09 (Zj xP (pv 0) (pv 1))) (z9 (Q9 (i:=0) QN.nd rfl 09 (pv 1)) (zU (Q9 (i:=1) QN.nd rfl 09 (pv 2)))))) (zU (vB (pv 0)))⟩,?_⟩;refine z8g (λσ H'=>∃ (a b:Int) (r:Option V),σ=[some (.int a),some (.int b),r]/\0<=a/\0<=b/\Int.gcd a b=Int.gcd x y/\H'=H)
  (λσ _=>match σ with | [_,some (.int b),_]=>b.toNat | _=>0) ⟨x,y,none,rfl,t,o,rfl,rfl⟩ ?_ ?_
 rintro σ H' ⟨a,b,r,rfl,ha,l,d,rfl⟩;refine 018;by_cases h0:b=0;refine Ze (veq h0) ?_;subst h0;refine⟨_,rfl,?_⟩;have e:(a:Int)=(Int.gcd x y:Int):=by rw[← d,Int.gcd_zero_right];lia
 show Q (.int a) _;rw[e];exact k;refine Za (vne h0) ?_;have c:0<b:=00
 refine⟨_,rfl,_,rfl,_,_,rfl,rfl,c,?_⟩;refine⟨_,rfl,?_⟩;refine⟨_,rfl,?_⟩;refine⟨⟨b,a % b,_,rfl,l,Int.emod_nonneg _ 00,?_,rfl⟩,?_⟩;rw[Pw.z8m ha c,d];show (a % b).toNat<b.toNat;have B:=Int.emod_nonneg a (show b≠0 by lia);have C:=Int.emod_lt_of_pos a c;lia;rintro σ H' q u j ⟨v,e,p,n,m,z⟩;exact⟨v,e,p,n,m,j _ _ z⟩
def z8J(x:Int):0<=(if x<0 then -x else x):=by split <;> lia
def z9K(x y:Int):Int.gcd (if x<0 then -x else x) (if y<0 then -y else y)=Int.gcd x y:=by
 split <;> split <;> simp[Int.neg_gcd,Int.gcd_neg]
def Z3b{x:Int}(h:Sz n y)(a:y≠0):Sz n (Int.gcd x y:Int):=by
 show (Int.gcd x y:Int).natAbs<2 ^ n;have:Int.gcd x y<=y.natAbs:=Nat.le_of_dvd 00 (Int.gcd_dvd_natAbs_right ..);have h':y.natAbs<2 ^ n:=h;lia
def z2o:zB ["above","below","divisor"] ["above","below"] (zh z4p):=fs
def z9M{mg:SV}(F:QX K "made" "made" z4p f fd)(zabs:mg "abs"=none)(FC:QX K "common" "common" xV fC fdC)(l:mg "common"=some (.ref fC))(j:Binds K fdC ["one","other"] []) :
 Zo P w K mg base yV 2 f fd ["above","below"] Z1I:=by
 have GC:Zo P w K mg base yV 1 fC fdC ["one","other"] YF:=jt FC;refine F.ok z2o 017 (λcdv A outer s H vs Q E hr h=>?_);obtain⟨x,y,rfl,_⟩:=h;rfl;obtain⟨x,y,rfl,d,o,m,k⟩:=h;refine⟨_,@qz _ _ _ ⟨z9 (Q9 (i:=2) z2o.nd rfl 09 (JA GC hr rfl l FC.kp j .nil xU (Y0 (Zq VT 02 zabs boot_abs (Y0 (pv 0) zw)) (Y0 (Zq VT 02 zabs boot_abs (Y0 (pv 1) zw)) zw)))) (z9 (Qe (ZV Xy (pv 1) zF (yj _)) (zU (Q9 (i:=2) z2o.nd rfl 09 (z4q JN (pv 2)))) Qt) (zU (vB (Z2D (Y0 (Zj yR (pv 0) (pv 2)) (Y0 (Zj yR (pv 1) (pv 2)) zw))))))⟩,?_⟩;refine⟨_,rfl,x,rfl,_,rfl,y,rfl,_,_,rfl,z8J x,z8J y,?_⟩;rw[z9K];have n:=Pw.z9O (a:=x) d;have b:=(Z3b (x:=x) m d).mono (show 8000<=9000 by decide);refine⟨_,rfl,_,_,rfl,rfl,_,rfl,?_⟩;refine if2 (λh=>?_) (λh=>?_);have h:y<0:=of_decide_eq_true h;refine⟨_,rfl,_,rfl,?_⟩;refine⟨_,rfl,_,rfl,_,_,rfl,rfl,⟨00,b.neg⟩,_,rfl,_,rfl,_,_,rfl,rfl,⟨00,b.neg⟩,zl2,λp c=>?_⟩;have:=k p c;unfold Pw.mk at this;rw[if_pos h] at this;exact this;have h:¬ y<0:=of_decide_eq_false h;refine⟨_,rfl,_,rfl,_,_,rfl,rfl,⟨00,b⟩,_,rfl,_,rfl,_,_,rfl,rfl,⟨00,b⟩,zl2,λp c=>?_⟩;have:=k p c;unfold Pw.mk at this;rw[if_neg h] at this;exact this
def ndL:(["here","there","page"]:List Str).Nodup:=03
def z9d:zB ["web","page"] ["web","page"] (zh Uj):=fs
def z6Y{mg:SV}(F:QX K "leads" "leads" Uj f fd):Zo P w K mg base yV 1 f fd ["web","page"] (VC K Pw.outs):=by
 refine F.ok z9d 017 (λcdv A outer s H vs Q E hr h=>?_);obtain⟨x,y,z,ps,rfl,_⟩:=h;rfl
 · obtain⟨t,pages,page,ps,rfl,⟨ws,us,hw,l,r⟩,few,k⟩:=h
   refine⟨_,@qz _ _ _ ⟨zU (vB (ZQ ["here","there","page"] [none,none,some 1] rfl (z6R (Zg zG (pv 0) zF 028)) (by show ∀ y:Str×NameKind,y∈_->y.2=NameKind.free->(zh Uj).names.lookup y.1=some .cell;decide +kernel) 01 rfl 03 ⟨019,trivial⟩ (λcl C s H fp=>xX (K:=K) 2 rfl rfl (Zr (Zd (i:=0) ndL rfl 09 (.inr rfl)) (Zr (Zd (i:=1) ndL rfl 09 (.inr rfl)) YT))) (λcl C s H fp=>z9P (ZV Zf (pv 0) (pv 2) (yj _))) (λcl C s H fp=>pv 1)))⟩,?_⟩;refine⟨_,rfl,t,_,_,_,rfl,rfl,zO.of hw,rfl,ws,rfl,⟨_,zO.of l⟩,λD m=>?_⟩;have hl:=r.len;refine Ql (K:=K) (a:=ws) (D:=D) (xs:=us) (λi ys σ H'=>zu H H'/\H' ws=some (.tup us)/\H' D=some 034/\ys=(Pw.outs (ps.take i) page).map V.int/\∃ x y,σ=[x,y,some (.int page)]) ?_ ?_ ?_ ?_;exact⟨zu.new m,zu.new m _ _ l,zq,rfl,none,none,rfl⟩;rintro i ys σ H' ⟨s1,j,d,_,_⟩;exact⟨zO.of j,d⟩
   · rintro i v ys σ H' hi n ⟨s1,j,d,rfl,x,y,rfl⟩
     obtain⟨a,p,B,rfl,u⟩:=r.get hi;have q:ps.take (i+1)=ps.take i ++ [p]:=(by rw[List.take_succ,B];rfl);refine⟨a,_,rfl,s1.z2T u,rfl,_,_,rfl,_,_,rfl,rfl,?_⟩;refine⟨_,rfl,_,rfl,rfl,_,rfl,?_⟩;have hlen:((Pw.outs (ps.take i) page).map V.int).length<sizeLine:=by
      rw[Z00];have G:=Pw.xy (ps.take i) page;have I:(ps.take i).length<=ps.length:=(by rw[Z22];lia);have:(sizeLine:Nat)=16777216:=sizeLine_eq;lia
     by_cases c:p.1=page
     · refine Za (by rw[c];simp) ?_
       refine⟨_,rfl,d,hlen,Wt.next n ⟨λb o e=>?_,?_,zq,?_,_,_,rfl⟩⟩;rw[zC (zo e m)];exact s1 b o e;rw[zC (zo l m)];exact j;rw[q,Pw.jF,if_pos c,Z16];rfl
     · refine Ze (by simpa using c) ?_
       exact Wt.next n ⟨s1,j,d,by rw[q,Pw.jF,if_neg c,Z40],_,_,rfl⟩
   rintro ys σ H' ⟨s1,j,d,rfl,_⟩;rw[hl,Z18 (Z01 _)] at d;exact k D H' s1 m d
def Z3q{mg:SV}(S:ZE K mg "made" z4p ["above","below"])(C:ZE K mg "common" xV ["one","other"])(T:Txt mg):Def P w K mg base 2 "made" ["above","below"] VA:=by
 obtain⟨l,h,FC,i,a⟩:=C;exact S.def λf fd F=>(z9M F T.abs FC i a).imp λvs H Q E ⟨x,y,e,j,d,c,b⟩=>⟨x,y,e,j,d,c,λp k=>b p _ (zu.new k) zq⟩
def Z0h{mg:SV}(S:ZE K mg "leads" Uj ["web","page"]):Def P w K mg base 1 "leads" ["web","page"] (VC K Pw.outs):=S.def λf fd F=>z6Y F
open L2
def z5Y{mg:SV}(S:ZE K mg "common" xV ["one","other"]):Def P w K mg base 1 "common" ["one","other"] YF:=S.def λf fd F=>jt F
def z9v:zB ["some","whole","each"] ["some"] (zh z1Q):=fs
def Z0i{mg:SV}(S:ZE K mg "shared_below" z1Q ["some"])(C:Def P w K mg base 1 "common" ["one","other"] YF):Def P w K mg base 2 "shared_below" ["some"] (JH K):=S.def λf fd F=>by
 refine F.yy z9v λnd cdv A' outer s H vs Q E hr h=>?_;obtain⟨b,a,us,As,M,rfl,l,fl,pos,r,m,t,k⟩:=h;refine⟨_,(qc (qs 1 qi) (qc (qF ⟨z8o (pv 0)⟩ (qg 2) (q1 (qs 1 (qo ZW (qo yR (qv 1) (qd C (qa (qv 1) (qa (qx zG (qv 2) qi) qn)))) (qx zG (qv 2) qi))))) (q1 (qr (qv 1))))),?_⟩;refine⟨_,rfl,b,a,rfl,⟨us,l⟩,?_⟩;have hl:=fl.len;refine Z0D (b:=b) (K:=K) (a:=a) (xs:=us) (λi σ G=>G=H/\∃ (L:Int) (v:Option V),Pw.Yd (As.take i) L/\σ=[some 024,some (.int L),v]) ⟨rfl,1,none,Pw.Yd.nil,rfl⟩ (λi σ G _ h=>h.1 ▸ l) ?_ ?_;rintro i x σ G hi ⟨rfl,L,v,c,rfl⟩;have y:i<us.length:=(Z15.mp hi).1;have d:As[i]?=some As[i]:=05
 obtain⟨p,n,fp⟩:=fl.at d;rw[hi] at n;cases n;have mA:=Z2u d;have q:=pos _ mA;have u:Sz 8000 L:=Yd.Z0R c r (λA d=>t A (List.mem_of_mem_take d)) m;have o:Sz 8000 As[i].2:=z6h 00 (Int.le_of_dvd r (t _ mA)) m;obtain⟨g1,g2⟩:=Z3z (x:=L) q;have j:=c.pos;refine⟨_,rfl,_,rfl,_,rfl,Zu (zO.of fp) rfl ⟨L,As[i].2,rfl,00,00,_,_,rfl,rfl,⟨00,(z6h 00 g2 o).mono 01⟩,_,rfl,Zu (zO.of fp) rfl ⟨_,_,rfl,rfl,⟨(z4m j g1 u).mono 01,o.mono 01⟩,rfl,_,_,?_,rfl⟩⟩⟩;rw[List.take_succ,d];exact c.snoc q;rintro σ G ⟨rfl,L,v,c,rfl⟩;rw[hl,Z18 (Z01 _)] at c;exact⟨_,rfl,k L c⟩
def Z6b:(["each","below"]:List Str).Nodup:=03
def z7L:zB ["some","below"] ["some","below"] (zh VB):=fs
def z6N{mg:SV}(S:ZE K mg "aboves" VB ["some","below"]):Def P w K mg base 1 "aboves" ["some","below"] (QF K):=S.def λf fd F=>by
 refine F.ok z7L 017 08;obtain⟨_,_,_,_,_,rfl,_⟩:=h;rfl
 · obtain⟨b,a,us,As,L,rfl,n,fl,few,pos,v,t,k⟩:=h
   refine⟨_,@qz _ _ _ (q1 (qr ⟨ZQ ["each","below"] [none,some 1] rfl (z8o (pv 0)) (by show ∀ y:Str×NameKind,y∈_->y.2=NameKind.free->(zh VB).names.lookup y.1=some .cell;decide +kernel) 01 rfl 03 ⟨019,trivial⟩ (λcl C s H fp=>Zd (i:=0) Z6b rfl 09 (.inr rfl)) (λcl C s H fp=>Z8) (λcl C s H fp=>Zj ZW (Zg (z3p (K:=K) rfl) (pv 0) zF 028) (Zj yR (pv 1) (Zg (z3p (K:=K) rfl) (pv 0) zF 028)))⟩)),?_⟩;refine⟨_,rfl,b,a,rfl,⟨us,n⟩,λD l=>?_⟩;have hl:=fl.len;refine z6G (b:=b) (K:=K) (a:=a) (D:=D) (xs:=us) (λi ys σ H'=>zu H H'/\H' D=some 034/\ys=(Pw.YL (As.take i) L).map V.int/\∃ x,σ=[x,some (.int L)]) ?_ ?_ ?_ ?_;exact⟨zu.new l,zq,rfl,none,rfl⟩;rintro i ys σ H' ⟨s1,c,_⟩;exact⟨n.same s1,c⟩
   · rintro i x ys σ H' hi m ⟨s1,c,rfl,z,rfl⟩
     have j:As[i]?=some As[i]:=05;obtain⟨p,q,fp⟩:=fl.at j;rw[hi] at q;cases q;have mA:=Z2u j;obtain⟨u,r⟩:=pos _ mA;have d:=s1 _ _ fp;dsimp only [ZF];rw[if_pos rfl];refine⟨_,rfl,Zu (zO.of d) rfl ⟨_,rfl,_,rfl,Zu (zO.of d) rfl ⟨_,_,rfl,rfl,⟨00,r.2.mono 01⟩,_,_,rfl,rfl,⟨r.1.mono 01,(z4m v u t).mono 01⟩,c,?_,Wt.next m ⟨λb o e=>?_,zq,?_,_,rfl⟩⟩⟩⟩;unfold Pw.YL;rw[Z00,Z00,Z22];exact ZM 00;rw[zC (zo e l)];exact s1 _ _ e;unfold Pw.YL;rw[List.take_succ,j,Z16,Z16];rfl
   rintro ys σ H' ⟨s1,c,rfl,_⟩;rw[hl,Z18 (Z01 _)] at c;exact k D H' s1 l c
def Z0o:zB ["web","page"] ["web","page"] (zh z2I):=fs
def z9q{mg:SV}(S:ZE K mg "parts" z2I ["web","page"])(T:Txt mg)(Ld:Def P w K mg base 1 "leads" ["web","page"] (VC K Pw.outs)):Def P w K mg base 2 "parts" ["web","page"] (Jc K):=S.def λf fd F=>by
 refine F.ok Z0o 017 08;obtain⟨_,_,_,_,rfl,_⟩:=h;rfl;obtain⟨a,pages,j,ps,rfl,hw,few,k⟩:=h;refine⟨_,@qz _ _ _ (q1 (qr (qy (ju rfl) T.max boot_max (qa qi (qa (qy zP T.len Z30 (qa (qd Ld (qa (qv 0) (qa (qv 1) qn))) qn)) qn))))),?_⟩;refine⟨_,rfl,_,rfl,a,pages,j,ps,rfl,hw,few,λl H1 s1 n1 b=>?_⟩;refine⟨l,_,rfl,.inl (zJ.of b),_,_,rfl,?_⟩;have:=k H1 s1;unfold Pw.mp at this;rw[Z00];have e:(if (((Pw.outs ps (j:Int)).length:Nat):Int) > 1 then (((Pw.outs ps (j:Int)).length:Nat):Int) else 1)=((max 1 (Pw.outs ps (j:Int)).length:Nat):Int):=by split <;> lia
 rw[e];exact this
def z6b:zB ["web","leap","here","there","along"] ["web","leap","here","there"] (zh Jw):=fs
def z7o{mg:SV}(S:ZE K mg "factor" Jw ["web","leap","here","there"])(T:Txt mg)(Pa:Def P w K mg base 2 "parts" ["web","page"] (Jc K)):Def P w K mg base 3 "factor" ["web","leap","here","there"] (z0f K):=S.def λf fd F=>by
 refine F.yy z6b λnd cdv A' outer s H vs Q E hr h=>?_;obtain⟨o,lp,pages,j,i,ps,A,rfl,hw,few,c,sa,k⟩:=h;refine⟨_,(qc (qs 4 (qo ZW (qo xw (qx zG (qv 1) qi) (qx zG (qv 1) qi)) ⟨z8f 02 02 02 02 02 PySem.F.plainAttrs_tuple PySem.F.slot_tuple_count PySem.F.type_tuple_count (z5k hr) (Zg zG (pv 0) zF 028) (@ze _ _ _ _ _ 02 (@Xd _ _ _ _ _ (@ze _ _ _ _ _ 02 (pv 2) (@ze _ _ _ _ _ 02 (pv 3) zw))) zw)⟩)) (qc (qf (qk Zf (qv 2) (qv 3)) (q1 (qr (qo xw (qo ZW (qx zG (qv 1) qi) (qd Pa (qa (qv 0) (qa (qv 2) qn)))) (qv 4)))) q0) (q1 (qr ⟨z4q JN (pv 4)⟩)))),?_⟩;obtain⟨ws,n,d,b,m⟩:=id hw;have t:=Pw.xy ps (j:Int);have r:=List.count_le_length (a:=(i:Int)) (l:=Pw.outs ps (j:Int));refine⟨_,rfl,Zu (zO.of c) rfl ⟨_,rfl,Zu (zO.of c) rfl ⟨_,_,rfl,rfl,?_⟩⟩⟩;refine⟨_,rfl,Zu (zO.of d) rfl ⟨⟨ws,n,rfl,b⟩,_,rfl,_,rfl,zl2,λq H1 s1 n1 p=>?_⟩⟩;refine⟨ws,q,n,ps,((j:Int),(i:Int)),rfl,rfl,s1 _ _ b,m.kl s1.kl,zO.of p,?_⟩;rw[Pw.V2];have v:Sz 10 (Pw.cn ps j i):=yW 10 (by unfold Pw.cn;lia);refine⟨_,_,rfl,rfl,⟨(sa.2.sub sa.1).mono 01,v.mono 01⟩,?_⟩;refine⟨_,rfl,_,rfl,rfl,_,rfl,?_⟩;unfold Pw.fac at k;by_cases e:j=i;refine Za (by subst e;simp) ?_;rw[if_pos e] at k;refine⟨_,rfl,Zu (zO.of (s1 _ _ c)) rfl ⟨_,rfl,_,rfl,o,pages,j,ps,rfl,hw.same s1,few,λH2 s2=>?_⟩⟩;have u:Sz 10 (Pw.mp ps j):=yW 10 (by unfold Pw.mp;lia);exact⟨_,_,rfl,rfl,⟨sa.2.mono 01,u.mono 01⟩,_,rfl,_,_,rfl,rfl,k H2 (s1.trans s2)⟩;refine Ze (by simp;lia) ?_;rw[if_neg e] at k;exact⟨_,rfl,_,rfl,k H1 s1⟩
def Z6p:(["here","web","leap","page"]:List Str).Nodup:=03
def z1I:zB ["web","leap","page","start"] ["web","leap","page","start"] (zh Xe):=fs
def z2Z{mg:SV}(S:ZE K mg "equation" Xe ["web","leap","page","start"])(T:Txt mg)(Fa:Def P w K mg base 3 "factor" ["web","leap","here","there"] (z0f K)):Def P w K mg base 4 "equation" ["web","leap","page","start"] (V5 K):=S.def λf fd F=>by
 refine F.ok z1I 017 08;obtain⟨_,_,_,_,_,_,_,rfl,_⟩:=h;rfl
 · obtain⟨d,lp,pages,i,st,ps,A,rfl,hw,plo,phi,few,r,sa,k⟩:=h
   refine⟨_,@qz _ _ _ (q1 (qr (qo Yi ⟨ZQ ["here","web","leap","page"] [none,some 0,some 1,some 2] rfl (jH rfl T.range (@ze _ _ _ _ _ 02 (Zg zG (pv 0) zF 028) zw)) (by show ∀ y:Str×NameKind,y∈_->y.2=NameKind.free->(zh Xe).names.lookup y.1=some .cell;decide +kernel) 01 rfl 03 ⟨019,019,019,trivial⟩ (λcl C s H fp=>Zd (i:=0) Z6p rfl 09 (.inr rfl)) (λcl C s H fp=>Z8) (λcl C s H fp=>Zx 02 02 02 01 Fa hr (@ze _ _ _ _ _ 02 (pv 1) (@ze _ _ _ _ _ 02 (pv 2) (@ze _ _ _ _ _ 02 (pv 0) (@ze _ _ _ _ _ 02 (pv 3) zw)))))⟩ (ql (qa (qv 3) qn))))),?_⟩;obtain⟨ws,B,c,q,z⟩:=id hw;refine⟨_,rfl,Zu (zO.of c) rfl ⟨pages,rfl,00,00,λD m=>?_⟩⟩;refine z7P (lo:=0) (n:=pages.toNat) (D:=D) (λj ys σ H'=>zu H H'/\H' D=some 034/\ys=ZG (λj=>Pw.fac ps A j i) j/\∃ x,σ=[x,some (.ref d),some (.ref lp),some (.int i)]) ?_ ?_ ?_ ?_;exact⟨zu.new m,zq,rfl,none,rfl⟩;rintro j ys σ H' ⟨_,e,_⟩;exact e
   · rintro j ys σ H' v ⟨s1,a,rfl,x,rfl⟩
     rw[Int.zero_add];dsimp only [ZF];rw[if_pos rfl];refine⟨_,rfl,_,rfl,_,rfl,_,rfl,d,lp,pages,j,i,ps,A,rfl,hw.same s1,few,s1 _ _ r,sa,λH2 s2=>?_⟩;refine⟨s2 _ _ a,by rw[Zh];exact ZM 00,Wt.next v ⟨λb o e=>?_,zq,(yI _ _).symm,_,rfl⟩⟩;rw[zC (zo e m)];exact s2 _ _ (s1 _ _ e)
   rintro ys σ H1 ⟨s1,a,rfl,_⟩;refine⟨_,rfl,zl1,λl H2 s2 n2 t=>?_⟩;refine⟨D,l,_,_,rfl,rfl,s2 _ _ a,t,by rw[Zh];exact Nat.le_of_lt (ZM (by show pages.toNat+1<=1000;lia)),λp H3 s3 n3 u=>?_⟩;have n:H p=none:=(s1.trans s2).free n3;exact k p H3 (s1.trans (s2.trans s3)) n u
def Z5r:(["one","two","chosen","place","equation","before"]:List Str).Nodup:=03
def z4D:zB ["equation","chosen","place","before"] ["equation","chosen","place","before"] (zh qZ):=fs
def z5B{mg:SV}(S:ZE K mg "cleared" qZ ["equation","chosen","place","before"])(T:Txt mg):Def P w K mg base 1 "cleared" ["equation","chosen","place","before"] (vG K):=S.def λf fd F=>by
 refine F.ok z4D 017 08;obtain⟨_,_,_,_,_,_,_,rfl,_⟩:=h;rfl
 · obtain⟨e,c,p,m,d,f1,g1,rfl,he,r,u,hm,hd,R,B,k⟩:=h
   refine⟨_,@qz _ _ _ (q1 (qr ⟨ZQ ["one","two","chosen","place","equation","before"] [none,none,some 1,some 2,some 0,some 3] rfl (z0x 02 02 02 rfl T.zip (@ze _ _ _ _ _ 02 (pv 0) 030)) (by show ∀ y:Str×NameKind,y∈_->y.2=NameKind.free->(zh qZ).names.lookup y.1=some .cell;decide +kernel) 01 rfl 03 ⟨019,019,019,019,trivial⟩ (λcl C s H fp=>xX (K:=K) 2 rfl rfl (Zr (Zd (i:=0) Z5r rfl 09 (.inr rfl)) (Zr (Zd (i:=1) Z5r rfl 09 (.inr rfl)) YT))) (λcl C s H fp=>Z8) (λcl C s H fp=>Zj yR (Zj xw (Zj ZW (Zg (VN (K:=K) rfl) (pv 2) (pv 3) 028) (pv 0)) (Zj ZW (Zg (VN (K:=K) rfl) (pv 4) (pv 3) 028) (pv 1))) (pv 5))⟩)),?_⟩;refine⟨_,rfl,_,rfl,true,true,e,c,_,_,rfl,zJ.of he,zJ.of r,λD t=>?_⟩;refine vo (b1:=true) (b2:=true) (K:=K) (a:=e) (b:=c) (D:=D) (xs:=ZG f1 m) (zs:=ZG g1 m) (Nat.le_of_eq (by rw[Zh,Zh])) (λi ys σ H'=>zu H H'/\H' D=some 034/\ys=ZG (λj=>(g1 p * f1 j - f1 p * g1 j).fdiv d) i/\∃ x y,σ=[x,y,some (.ref c),some (.int p),some (.ref e),some (.int d)]) ?_ ?_ ?_ ?_;exact⟨zu.new t,zq,rfl,none,none,rfl⟩;rintro i ys σ H' ⟨s2,n,_⟩;exact⟨zJ.of (s2 _ _ he),zJ.of (s2 _ _ r),n⟩
   · rintro i x z ys σ H' TT G hi I l ⟨s2,n,rfl,W,X,rfl⟩ J q U
     rw[Zh] at l;rw[Yy l] at hi I;cases hi;cases I;obtain⟨M,N⟩:=B i l;obtain⟨O,L⟩:=B p u;refine⟨TT,_,rfl,zO.of U,rfl,_,_,rfl,_,_,rfl,rfl,?_⟩;dsimp only [ZF];rw[if_pos rfl];refine⟨_,rfl,_,rfl,ixl (v:=.int (g1 p)) (zJ.of (q _ _ (s2 _ _ r))) (zS (Yy u)) ⟨_,rfl,_,_,rfl,rfl,⟨L.mono 01,M.mono 01⟩,?_⟩⟩;refine⟨_,rfl,_,rfl,ixl (v:=.int (f1 p)) (zJ.of (q _ _ (s2 _ _ he))) (zS (Yy u)) ⟨_,rfl,_,_,rfl,rfl,⟨O.mono 01,N.mono 01⟩,_,_,rfl,rfl,_,rfl,_,_,rfl,rfl,⟨hd,R.mono 01⟩,?_⟩⟩;refine⟨q _ _ n,by rw[Zh];exact ZM 00,Wt.next (by rw[Zh];exact l) ⟨λb o A=>?_,zq,(yI _ _).symm,_,_,rfl⟩⟩;rw[zC (zo A t)];exact q _ _ (s2 _ _ A)
   rintro ys σ H' ⟨s2,n,rfl,_⟩;rw[Zh] at n;exact k D H' s2 t n
def Z4U:(["turn","each","place","chosen","before"]:List Str).Nodup:=03
def z6q:zB ["equations","before","place","chosen"] ["equations"] (zh Qi):=fs
def z5R{mg:SV}(S:ZE K mg "solved" Qi ["equations"])(T:Txt mg)(Cl:Def P w K mg base 1 "cleared" ["equation","chosen","place","before"] (vG K)):Def P w K mg base 2 "solved" ["equations"] (z0X K):=S.def λf fd F=>by
 refine F.yy z6q λnd cdv A' outer s H vs Q E hr h=>?_;obtain⟨e0,A,n,z,f0,rfl,L,U,sg,n1,n12,hz,hb,k⟩:=h;refine⟨_,(qc (qs 1 qi) (qc (qF (qR T.range (qa (qy zP T.len Z30 (qa (qv 0) qn)) qn)) (qg 2) (qc (qs 3 (qx zI (qv 0) (qv 2))) (qc ⟨z9V 0 ["turn","each","place","chosen","before"] [none,none,some 2,some 3,some 1] 02 nd rfl rfl rfl (Vr 02 02 rfl T.enu (@ze _ _ _ _ _ 02 (pv 0) zw)) (by show ∀ y:Str×NameKind,y∈_->y.2=NameKind.free->(zh Qi).names.lookup y.1=some .cell;decide +kernel) 01 rfl 03 ⟨019,019,019,trivial⟩ (λcl C s H fp=>xX (K:=K) 2 rfl rfl (Zr (Zd (i:=0) Z4U rfl 09 (.inr rfl)) (Zr (Zd (i:=1) Z4U rfl 09 (.inr rfl)) YT))) (λcl C s H fp=>Z8) (λcl C s H fp=>z0g (ZV Zf (pv 0) (pv 2) (yj _)) (pv 3) (Zx 02 02 02 01 Cl hr (@ze _ _ _ _ _ 02 (pv 1) (@ze _ _ _ _ _ 02 (pv 3) (@ze _ _ _ _ _ 02 (pv 2) (@ze _ _ _ _ _ 02 (pv 4) zw))))))⟩ (q1 (qs 1 (qx zI (qv 3) (qv 2))))))) (q1 (qr (qt (qa ⟨ZQ ["each"] [none] rfl (@QK _ _ _ _ (pv 0)) (by show ∀ y:Str×NameKind,y∈_->y.2=NameKind.free->(zh Qi).names.lookup y.1=some .cell;decide +kernel) 01 rfl 03 trivial (λcl C s H fp=>Zd (i:=0) (show (["each"]:List Str).Nodup by decide +kernel) rfl 09 (.inr rfl)) (λcl C s H fp=>Z8) (λcl C s H fp=>Zg (VN (K:=K) rfl) (pv 0) z9e 028)⟩ (qa (qv 1) qn))))))),?_⟩;have Y:=U.1;refine⟨_,rfl,e0,A,rfl,.inl (zJ.of L),(A.length:Int),rfl,00,00,?_⟩;rw[Y];refine xY (lo:=0) (n:=(n:Int).toNat) (λj σ G=>zu H G/\∃ (eq:Addr) (us:List V) (v2 Z:Option V),G eq=some (.lst us)/\Xp G n (n+1) (Pw.fF f0 j).1 us/\σ=[some (.ref eq),some (.int (Pw.fF f0 j).2),v2,Z]) ?_ ?_ ?_;exact⟨zu.refl _,e0,A,none,none,L,U,rfl⟩
 · rintro j σ G hj ⟨sG,eq,us,v2,Z,J,mt,rfl⟩
   rw[Int.zero_add];have hjn:j<n:=00
   obtain⟨st,sgn,dp,dl⟩:=Pw.jo sg j 00;obtain⟨zf,zd⟩:=Z1j sg n12 hb (k:=j) 00;obtain⟨q,eq1,X⟩:=mt.2 j hjn;have u:=mt.1;refine⟨_,rfl,_,rfl,eq,us,(j:Nat),.ref q,rfl,rfl,zJ.of J,zS eq1,?_⟩;refine⟨_,rfl,eq,us,rfl,zJ.of J,λD I=>?_⟩;refine ux (K:=K) (a:=eq) (D:=D) (xs:=us) (λi ys σ H'=>zu G H'/\H' D=some 034/\(∀ i:Nat,ys[i]?≠some (V.ref D))/\Xp H' i (n+1) (Pw.ya (Pw.fF f0 j).1 j (Pw.fF f0 j).2) ys/\∃ x y,σ=[x,y,some (.int j),some (.ref q),some (.int (Pw.fF f0 j).2)]) ?_ ?_ ?_ ?_;exact⟨zu.new I,zq,λi=>05,⟨rfl,λi hi=>00⟩,none,none,rfl⟩;rintro i ys σ H' ⟨s1,c,_⟩;exact⟨zJ.of (s1 _ _ J),c⟩
   · rintro i x ys σ H' TT G1 hi p ⟨s1,c,nD,d,x',y',rfl⟩ hTT s2 eT
     obtain⟨q2,eq2,B⟩:=mt.2 i 00;rw[hi] at eq2;cases eq2;have l:=s1.trans s2;refine⟨TT,_,rfl,zO.of eT,rfl,_,_,rfl,_,_,rfl,rfl,?_⟩;dsimp only [ZF];rw[if_pos rfl];have W:=s2 _ _ c;have fin:∀ (r:Addr) (G2:Hp),zu G1 G2->r≠D->G2 r=some (.lst (ZG (Pw.ya (Pw.fF f0 j).1 j (Pw.fF f0 j).2 i) (n+1)))->G2 D=some 034/\ys.length<sizeLine/\∃ m',m'<us.length - i/\Wt (λi ys σ H'=>zu G H'/\H' D=some 034/\(∀ i:Nat,ys[i]?≠some (V.ref D))/\Xp H' i (n+1) (Pw.ya (Pw.fF f0 j).1 j (Pw.fF f0 j).2) ys/\∃ x y,σ=[x,y,some (.int j),some (.ref q),some (.int (Pw.fF f0 j).2)]) us.length (i+1) m' (ys ++ [.ref r]) [some (.int i),some (.ref q2),some (.int j),some (.ref q),some (.int (Pw.fF f0 j).2)] (upd G2 D (.lst (ys ++ [.ref r]))):=λr G2 s3 hrD hr2=>by
      have N:∀ i:Nat,(ys ++ [V.ref r])[i]?≠some (V.ref D):=λM z=>by
       by_cases hi':M<ys.length;rw[Z37 hi'] at z;exact nD M z;rw[Z51 00] at z;cases hz':M - ys.length with
       | zero=>rw[hz'] at z;simp at z;exact hrD z
       | succ m=>rw[hz'] at z;simp at z
      refine⟨s3 _ _ W,by rw[d.1];exact ZM 00,Wt.next p ⟨λb o R=>?_,zq,N,?_,_,_,rfl⟩⟩;rw[zC (zo R I)];exact s3 _ _ (l _ _ R);exact Xp.put (xs:=[]) ((d.same (s2.trans s3)).snoc hr2) λM _=>N M
     refine⟨_,rfl,_,rfl,rfl,_,rfl,?_⟩;by_cases hij:i=j;refine Za (by subst hij;simp) ?_;refine⟨_,rfl,fin q G1 (zu.refl _) (zo X I) ?_⟩;have e:ZG (Pw.ya (Pw.fF f0 j).1 j (Pw.fF f0 j).2 i) (n+1)=ZG ((Pw.fF f0 j).1 j) (n+1):=XN λt ht=>(by unfold Pw.ya;rw[if_pos hij]);rw[e];exact l _ _ X;refine Ze (by simp;lia) ?_;refine⟨_,rfl,_,rfl,_,rfl,_,rfl,q2,q,j,n+1,_,(Pw.fF f0 j).1 i,(Pw.fF f0 j).1 j,rfl,l _ _ B,l _ _ X,00,00,00,zd.mono 00,λt ht=>⟨(zf i t 00 00).mono 00,(zf j t 00 00).mono 00⟩,λr G2 s3 n3 e3=>?_⟩;refine fin r G2 s3 (λz=>?_) ?_;rw[z,W] at n3;cases n3;have e:ZG (Pw.ya (Pw.fF f0 j).1 j (Pw.fF f0 j).2 i) (n+1)=ZG (λt=>((Pw.fF f0 j).1 j j * (Pw.fF f0 j).1 i t - (Pw.fF f0 j).1 i j * (Pw.fF f0 j).1 j t).fdiv (Pw.fF f0 j).2) (n+1):=XN λt ht=>(by unfold Pw.ya;rw[if_neg hij]);rw[e];exact e3
   rintro ys σ G1 ⟨s1,c,_,d,_⟩;rw[u] at d;refine⟨_,rfl,_,rfl,ixl (v:=.int ((Pw.fF f0 j).1 j j)) (zJ.of (s1 _ _ X)) (zS (Yy 00)) ?_⟩;exact⟨sG.trans s1,D,ys,_,_,c,d,rfl⟩
 · rintro σ G ⟨sG,eq,us,v2,Z,J,mt,rfl⟩
   have O:(n:Int).toNat=n:=00
   rw[O] at mt;rw[O];refine⟨_,rfl,eq,rfl,⟨_,zJ.of J⟩,λD I=>?_⟩;have u:=mt.1;refine Z6 (K:=K) (a:=eq) (D:=D) (xs:=us) (λi ys σ H'=>zu G H'/\H' D=some 034/\ys=ZG (λi=>(Pw.fF f0 n).1 i n) i/\∃ x,σ=[x]) ?_ ?_ ?_ ?_;exact⟨zu.new I,zq,rfl,none,rfl⟩;rintro i ys σ H' ⟨s1,c,_⟩;exact⟨zJ.of (s1 _ _ J),c⟩
   · rintro i x ys σ H' hi p ⟨s1,c,rfl,x',rfl⟩
     obtain⟨q2,eq2,B⟩:=mt.2 i 00;rw[hi] at eq2;cases eq2;dsimp only [ZF];rw[if_pos rfl];have hat:atI (ZG ((Pw.fF f0 n).1 i) (n+1)) (-1)=some (.int ((Pw.fF f0 n).1 i n)):=(by rw[yI];exact z7X _ _);refine⟨_,rfl,q2,_,(-1:Int),_,rfl,rfl,zJ.of (s1 _ _ B),hat,c,by rw[Zh];exact ZM 00,Wt.next p ⟨λb o R=>?_,zq,(yI _ _).symm,_,rfl⟩⟩;rw[zC (zo R I)];exact s1 _ _ R
   rintro ys σ G1 ⟨s1,c,rfl,_⟩;rw[u] at c;refine⟨_,rfl,zl2,λt G2 s2 n2 e2=>?_⟩;exact k t D G2 (sG.trans (s1.trans s2)) e2 (s2 _ _ c)
def Z4t:(["page","start","web","leap"]:List Str).Nodup:=03
def Z4Y:(["page","number","web"]:List Str).Nodup:=03
def z7a:zB ["web","leap","leaps","starts","found"] ["web","leap","leaps"] (zh QW):=fs
def z7I{mg:SV}(S:ZE K mg "visits" QW ["web","leap","leaps"])(T:Txt mg)(Ab:Def P w K mg base 1 "aboves" ["some","below"] (QF K))(Be:Def P w K mg base 2 "shared_below" ["some"] (JH K))(So:Def P w K mg base 2 "solved" ["equations"] (z0X K))(Eq:Def P w K mg base 4 "equation" ["web","leap","page","start"] (V5 K))(Pa:Def P w K mg base 2 "parts" ["web","page"] (Jc K)):Def P w K mg base 5 "visits" ["web","leap","leaps"] (z1m K):=S.def λf fd F=>by
 refine F.yy z7a λnd cdv A' outer s H vs Q E hr h=>?_;obtain⟨wa,lp,ls,pages,ps,A,Bs,us,SS,z,rfl,g,pr,p12,hz,sz,sS,k⟩:=h;have hr1:=hr.mono (show 1<=4 by decide);have v:=hr.mono (show 2<=4 by decide);refine⟨_,(qc (qs 3 ⟨Zx 02 02 02 01 Ab hr1 (@ze _ _ _ _ _ 02 (pv 2) (@ze _ _ _ _ _ 02 (Zx 02 02 02 01 Be v (@ze _ _ _ _ _ 02 (pv 2) zw)) zw))⟩) (qc (qs 4 ⟨Zx 02 02 02 01 So v (@ze _ _ _ _ _ 02 (ZQ ["page","start","web","leap"] [none,none,some 0,some 1] rfl (Vr 02 02 rfl T.enu (@ze _ _ _ _ _ 02 (pv 3) zw)) (by show ∀ y:Str×NameKind,y∈_->y.2=NameKind.free->(zh QW).names.lookup y.1=some .cell;decide +kernel) 01 rfl 03 ⟨019,019,trivial⟩ (λcl C s H fp=>xX (K:=K) 2 rfl rfl (Zr (Zd (i:=0) Z4t rfl 09 (.inr rfl)) (Zr (Zd (i:=1) Z4t rfl 09 (.inr rfl)) YT))) (λcl C s H fp=>Z8) (λcl C s H fp=>Zx 02 02 02 01 Eq hr (@ze _ _ _ _ _ 02 (pv 2) (@ze _ _ _ _ _ 02 (pv 3) (@ze _ _ _ _ _ 02 (pv 0) 030))))) zw)⟩) (q1 (qr ⟨ZQ ["page","number","web"] [none,none,some 0] rfl (Vr 02 02 rfl T.enu (@ze _ _ _ _ _ 02 (Zg zG (pv 4) zF 028) zw)) (by show ∀ y:Str×NameKind,y∈_->y.2=NameKind.free->(zh QW).names.lookup y.1=some .cell;decide +kernel) 01 rfl 03 ⟨019,trivial⟩ (λcl C s H fp=>xX (K:=K) 2 rfl rfl (Zr (Zd (i:=0) Z4Y rfl 09 (.inr rfl)) (Zr (Zd (i:=1) Z4Y rfl 09 (.inr rfl)) YT))) (λcl C s H fp=>Z8) (λcl C s H fp=>Zj ZW (Zx 02 02 02 01 Pa v (@ze _ _ _ _ _ 02 (pv 2) (@ze _ _ _ _ _ 02 (pv 0) zw))) (pv 1))⟩)))),?_⟩;have plo:=g.plo;have hlen:=g.len;have hlB:=g.row.len;have few:=g.few;have X:Bs.length=pages.toNat:=00
 refine⟨_,rfl,_,rfl,false,ls,us,Bs,SS,rfl,zO.of g.leaps,g.row,ZO.pos g.cb,pr.spos,pr.ssz.mono 01,pr.sdvd,λL hL=>?_⟩;have q:=hL.pos;have hLS:=hL.le pr.spos pr.sdvd;have zL:Sz 700 L:=Yd.Z0R hL pr.spos pr.sdvd pr.ssz;refine⟨false,ls,us,Bs,L,rfl,zO.of g.leaps,g.row,00,λB hB=>⟨(g.cb B hB).1,(g.sb B hB).mono 01⟩,q,zL.mono 01,λsa H1 s1 n1 e1=>?_⟩;have N:(Pw.YL Bs L).length=pages.toNat:=by unfold Pw.YL;rw[Z00];exact X
 have hB:∀ t,t<pages.toNat->((Pw.YL Bs L).getD t 0:Rat)=Pw.val 031 * (L:Rat):=λt ht=>by
  have J:t<Bs.length:=00
  have hR:Bs[t]?=some Bs[t]:=05
  have e1:(Pw.YL Bs L).getD t 0=Bs[t].1 * (L.fdiv Bs[t].2):=by
   unfold Pw.YL;rw[Z06,Z1a,hR];rfl
  have M:Bs.getD t (0,1)=Bs[t]:=by rw[Z06,hR];rfl
  have mR:=Z29 J;rw[e1,M,Pw.z3O (g.cb _ mR).1 q (hL.dvd _ mR)]
 have one:=pr.one;rw[X] at one;have W:∀ s∈Pw.YL Bs L,0<=s:=λs hs=>by
  obtain⟨B,hB',rfl⟩:=Z23.mp hs;have c:=(g.cb B hB').1;exact Z4K (pr.nn B hB') (by rw[Z42 _ 00];exact Int.ediv_nonneg 00 00)
 have R:(Pw.YL Bs L).sum=L:=by
  have h3:=Pw.Je (Pw.YL Bs L);rw[N,Pw.zN (g:=λt=>(L:Rat) * Pw.val 031) λt ht=>by rw[hB t ht];grind,Pw.zZ,one] at h3;have:(L:Rat)=((Pw.YL Bs L).sum:Rat):=by rw[← h3];grind
  exact_mod_cast this.symm
 have lk:∀ p∈ps,0<=p.2/\p.2<((pages.toNat:Nat):Int):=λp hp=>by
  have:=g.lk p hp;lia
 have eo:Pw.YH ps A (Pw.YL Bs L) pages.toNat:=⟨lk,pr.a0,pr.a1,N,W,by rw[R];exact q⟩;have sle:∀ s∈Pw.YL Bs L,s<=2 ^ z:=λs hs=>by
  have h1:s<=(Pw.YL Bs L).sum:=z6o W hs;have h2:SS.natAbs<2 ^ z:=sS;have:((2:Int) ^ z)=((2 ^ z:Nat):Int):=by push_cast;rfl
  rw[this];lia
 have ez:=Z1G few eo sz.2 sle;have g1:=g.same s1;refine⟨_,rfl,sa,_,rfl,zJ.of e1,λD hD=>?_⟩;refine ux (K:=K) (a:=sa) (D:=D) (xs:=(Pw.YL Bs L).map V.int) (λi ys σ H'=>zu H1 H'/\H' D=some 034/\(∀ i:Nat,ys[i]?≠some (V.ref D))/\Xp H' i (pages.toNat+1) (Pw.uo ps A (Pw.YL Bs L) pages.toNat) ys/\∃ x y,σ=[x,y,some (.ref wa),some (.ref lp)]) ?_ ?_ ?_ ?_;exact⟨zu.new hD,zq,λi=>05,⟨rfl,λi hi=>00⟩,none,none,rfl⟩;rintro i ys σ H' ⟨s2,M,_⟩;exact⟨zJ.of (s2 _ _ e1),M⟩
 · rintro i x ys σ H' TT G hi d ⟨s2,M,nD,mt,x',y',rfl⟩ hTT I eT
   rw[Z00] at d;have ex:x=.int ((Pw.YL Bs L).getD i 0):=by
    rw[Z1a,Xa 00] at hi;cases hi;rfl
   subst ex;have u:=s2.trans I;refine⟨TT,_,rfl,zO.of eT,rfl,_,_,rfl,_,_,rfl,rfl,?_⟩;dsimp only [ZF];rw[if_pos rfl];refine⟨_,rfl,_,rfl,_,rfl,_,rfl,wa,lp,pages,i,_,ps,A,rfl,(g1.same u).web,plo,00,few,(g1.same u).leap,g.sa.mono 01,λr G2 s3 n3 e3=>?_⟩;have eD:=I _ _ M;have hrD:r≠D:=λn=>by rw[n,eD] at n3;cases n3
   have Y:∀ i:Nat,(ys ++ [V.ref r])[i]?≠some (V.ref D):=λi' n=>by
    by_cases J:i'<ys.length;rw[Z37 J] at n;exact nD i' n;rw[Z51 00] at n;cases hz':i' - ys.length with
    | zero=>rw[hz'] at n;simp at n;exact hrD n
    | succ m=>rw[hz'] at n;simp at n
   refine⟨s3 _ _ eD,by rw[mt.1];exact ZM 00,Wt.next (by rw[Z00];exact d) ⟨λb o Z=>?_,zq,Y,?_,_,_,rfl⟩⟩;rw[zC (zo Z hD)];exact s3 _ _ (u _ _ Z);refine Xp.put (xs:=[]) ((mt.same (I.trans s3)).snoc ?_) λi' _=>Y i';have e:ZG (Pw.uo ps A (Pw.YL Bs L) pages.toNat i) (pages.toNat+1)=ZG (λj=>Pw.fac ps A j i) pages.toNat ++ [.int ((Pw.YL Bs L).getD i 0)]:=by
    rw[yI];have a1:ZG (Pw.uo ps A (Pw.YL Bs L) pages.toNat i) pages.toNat=ZG (λj=>Pw.fac ps A j i) pages.toNat:=XN λt ht=>(by unfold Pw.uo;rw[if_pos 00,if_pos ht]);have a2:Pw.uo ps A (Pw.YL Bs L) pages.toNat i pages.toNat=(Pw.YL Bs L).getD i 0:=(by unfold Pw.uo;rw[if_pos 00,if_neg 00,if_pos rfl]);rw[a1,a2]
   rw[e];exact e3
 rintro ys σ H2 ⟨s2,M,_,mt,_⟩;rw[Z00,N] at mt;refine⟨D,ys,pages.toNat,z+7,Pw.uo ps A (Pw.YL Bs L) pages.toNat,rfl,M,mt,eo.sgn,00,00,00,ez,λt l H3 s3 e3 e4=>?_⟩;obtain⟨zf,zd⟩:=Z1j eo.sgn 00 ez (k:=pages.toNat) (Z01 _);have U:=s1.trans (s2.trans s3);have g3:=g.same U;refine⟨_,rfl,Zu (zO.of e3) rfl ⟨l,_,rfl,zJ.of e4,λD2 hD2=>?_⟩⟩;refine ux (K:=K) (a:=l) (D:=D2) (xs:=ZG (λi=>(Pw.fF (Pw.uo ps A (Pw.YL Bs L) pages.toNat) pages.toNat).1 i pages.toNat) pages.toNat) (λi ys σ H'=>zu H3 H'/\H' D2=some 034/\ys=ZG (Pw.vS ps A (Pw.YL Bs L) pages.toNat) i/\∃ x y,σ=[x,y,some (.ref wa)]) ?_ ?_ ?_ ?_;exact⟨zu.new hD2,zq,rfl,none,none,rfl⟩;rintro i ys σ H' ⟨s5,O,_⟩;exact⟨zJ.of (s5 _ _ e4),O⟩
 · rintro i x ys σ H' TT G hi d ⟨s5,O,rfl,x',y',rfl⟩ hTT I eT
   rw[Zh] at d;rw[Yy d] at hi;cases hi;refine⟨TT,_,rfl,zO.of eT,rfl,_,_,rfl,_,_,rfl,rfl,?_⟩;dsimp only [ZF];rw[if_pos rfl];have hol:=Pw.xy ps (i:Int);have zm:Sz 7 (Pw.mp ps i):=yW 7 (by unfold Pw.mp;lia);refine⟨_,rfl,_,rfl,wa,pages,i,ps,rfl,(g3.same (s5.trans I)).web,few,λG2 s6=>?_⟩;refine⟨_,rfl,_,_,rfl,rfl,⟨zm.mono 01,(zf i _ d (Z01 _)).mono 00⟩,s6 _ _ (I _ _ O),by rw[Zh];exact ZM 00,Wt.next (by rw[Zh];exact d) ⟨λb o Z=>?_,zq,(yI _ _).symm,_,_,rfl⟩⟩;rw[zC (zo Z hD2)];exact s6 _ _ (I _ _ (s5 _ _ Z))
 rintro ys σ H4 ⟨s5,O,rfl,_⟩;rw[Zh] at O;refine k D2 H4 (Pw.YL Bs L) L eo q hB (λj hj=>?_) (U.trans s5) O;have hol:=Pw.xy ps (j:Int);have zm:Sz 7 (Pw.mp ps j):=yW 7 (by unfold Pw.mp;lia);exact (zm.mul (zf j _ hj (Z01 _))).mono 00
def Z5J:(["each","numbers"]:List Str).Nodup:=03
def z6w:zB ["web","leap","leaps","numbers"] ["web","leap","leaps"] (zh VD):=fs
def z8E{mg:SV}(S:ZE K mg "shares" VD ["web","leap","leaps"])(T:Txt mg)(Vi:Def P w K mg base 5 "visits" ["web","leap","leaps"] (z1m K))(M:Def P w K mg base 2 "made" ["above","below"] VA):Def P w K mg base 6 "shares" ["web","leap","leaps"] (ue K):=S.def λf fd F=>by
 refine F.yy z6w λnd cdv A' outer s H vs Q E hr h=>?_;obtain⟨U,lp,ls,pages,ps,A,Bs,us,SS,z,rfl,g,pr,B,Y,sz,sS,k⟩:=h;have u:=hr.mono (show 2<=5 by decide);refine⟨_,(qc (qs 3 (qd Vi (qa (qv 0) (qa (qv 1) (qa (qv 2) qn))) (hr:=hr))) (q1 (qr (qY X9 T.tup boot_tuple (qa ⟨ZQ ["each","numbers"] [none,some 3] rfl (@QK _ _ _ _ (pv 3)) (by show ∀ y:Str×NameKind,y∈_->y.2=NameKind.free->(zh VD).names.lookup y.1=some .cell;decide +kernel) 01 rfl 03 ⟨019,trivial⟩ (λcl C s H fp=>Zd (i:=0) Z5J rfl 09 (.inr rfl)) (λcl C s H fp=>Z8) (λcl C s H fp=>Zx 02 02 02 01 M u (@ze _ _ _ _ _ 02 (pv 0) (@ze _ _ _ _ _ 02 (Zq (z4y (K:=K) rfl rfl) 02 T.sum boot_sum 030) zw)))⟩ qn))))),?_⟩;have plo:=g.plo;have hlen:=g.len;refine⟨_,rfl,_,rfl,_,rfl,U,lp,ls,pages,ps,A,Bs,us,SS,z,rfl,g,pr,B,Y,sz,sS,λm H1 ss L I v Z G s1 q=>?_⟩;have R:=I.Z1h;have J:Sz ((z+11) * 13+20) (Pw.VS ps A ss pages.toNat):=by
  refine (z7k (k:=(z+11) * 13+8) λn hn=>?_).mono (by rw[Z00,Z36];lia);obtain⟨t,ht,rfl⟩:=Z23.mp hn;exact G t (Z3I.mp ht)
 refine⟨_,rfl,m,rfl,⟨_,zJ.of q⟩,λD N=>?_⟩;refine Z6 (K:=K) (a:=m) (D:=D) (xs:=ZG (Pw.vS ps A ss pages.toNat) pages.toNat) (λi ys σ H'=>zu H1 H'/\H' D=some 034/\X8 K H' ((List.range i).map λj=>Pw.mk (Pw.vS ps A ss pages.toNat j) (Pw.VS ps A ss pages.toNat)) ys/\∃ x,σ=[x,some (.ref m)]) ?_ ?_ ?_ ?_;exact⟨zu.new N,zq,rfl,none,rfl⟩;rintro i ys σ H' ⟨s2,l,_⟩;exact⟨zJ.of (s2 _ _ q),l⟩
 · rintro i x ys σ H' hi c ⟨s2,l,fl,x',rfl⟩
   rw[Zh] at c;rw[Yy c] at hi;cases hi;dsimp only [ZF];rw[if_pos rfl];refine⟨_,rfl,_,rfl,m,(List.range pages.toNat).map (Pw.vS ps A ss pages.toNat),rfl,zJ.of (s2 _ _ q),_,_,rfl,(by show Pw.VS ps A ss pages.toNat≠0;lia),(G i c).mono 00,J.mono 00,λr G2 s3 X=>?_⟩;have p:=s3 _ _ l;refine⟨p,by rw[fl.len,Z00,Z36];exact ZM 00,Wt.next (by rw[Zh];exact c) ⟨λb o O=>?_,zq,?_,_,rfl⟩⟩;rw[zC (zo O N)];exact s3 _ _ (s2 _ _ O);rw[Z5n,Z16];exact ((fl.same s3).snoc (A:=Pw.mk (Pw.vS ps A ss pages.toNat i) (Pw.VS ps A ss pages.toNat)) X).kp (KL.set p)
 rintro ys σ H2 ⟨s2,l,fl,_⟩;rw[Zh] at fl;refine⟨D,ys,rfl,zJ.of l,λt H3 s3 n3 p=>?_⟩;have d:Bs.length=pages.toNat:=00
 have one:=pr.one;rw[d] at one;refine k t H3 (Pw.shL ps A ss pages.toNat) (Pw.VS ps A ss pages.toNat) ys (Pw.Z3s I g.ca g.cb d v Z one) R J (λS W=>?_) (s1.trans (s2.trans s3)) p (fl.same s3);obtain⟨t,_,rfl⟩:=Z23.mp W;exact Pw.Z3n (Pw.Fr.made 00)
noncomputable abbrev YQ:Pos:=⟨92,37,92,64⟩
def z1n:zB ["web","leap","leaps","row","numbers"] ["web","leap","leaps"] (zh JO):=fs
def z6d{mg:SV}(S:ZE K mg "ranked" JO ["web","leap","leaps"])(T:Txt mg)(B:Bm base mg)(KB:K.In base)(CO:xQ K "ranked" c)(XK:K.In h)(G:h.Ns mainGlobals mg)(hC:PySem.W.codeHdIn K c tb=true)(Sh:Def P w K mg base 6 "shares_shares" ["web","leap","leaps"] (ue K))(Ab:Def P w K mg base 1 "aboves" ["some","below"] (QF K))(Be:Def P w K mg base 2 "shared_below" ["some"] (JH K)):Def P w K mg base 7 "ranked" ["web","leap","leaps"] (z1o K tb YQ):=ZE.Z5N S CO XK G λf fd F r=>by
 have nd:=z1n.nd;refine QX.okC F z1n 017 (λcdv A' outer s H vs Q E u hr h=>?_);obtain⟨_,_,_,_,_,_,_,_,_,_,rfl,_⟩:=h;rfl;obtain⟨J,lp,ls,pages,ps,A,Bs,us,SS,z,rfl,g,pr,v,O,sz,sS,tab,k⟩:=h;have m:cdv=.ref c:=u.symm.trans r;refine⟨_,@qz _ _ _ (qc (qs 3 (qd Sh (qa (qv 0) (qa (qv 1) (qa (qv 2) qn))))) (qc (qs 4 (qd Ab (qa (qv 3) (qa (qd Be (qa (qv 3) qn)) qn)))) (q1 (qr ⟨z2D (i:=4) (P:=tb) (c:=c) (qual:=xr) 014 rfl B (PySem.W.codeHd_of_K KB hC) m rfl rfl T.srt rfl T.range rfl rfl (@ze _ _ _ _ _ 02 (Zg zG (pv 0) zF 028) zw)⟩)))),?_⟩;refine⟨_,rfl,_,rfl,_,rfl,J,lp,ls,pages,ps,A,Bs,us,SS,z,rfl,g,pr,v,O,sz,sS,λt H1 Ss V' ys ok v0 N y s1 U fl=>?_⟩;have a:Sz ((140+11) * 13+20) V':=N.mono 00;have ssz:=Z1c ok v0 a y;have spos:∀ S∈Ss,0<S.2:=λS l=>(ok.canon S l).1;have hl:=ok.len;have sqf:Sq false K H1 t ys:=by
  unfold Sq;rw[if_neg 01];exact zO.of U
 refine⟨_,rfl,_,rfl,false,t,ys,Ss,V',rfl,sqf,fl,spos,v0,a.mono 01,y,λL d=>?_⟩;have M:Sz 8000 L:=by
  have C:L<=V':=Int.le_of_dvd v0 (d.least V' v0 y);have I:=d.pos;have h3:Sz 8000 V':=a.mono 01;unfold Sz at *;lia
 refine⟨false,t,ys,Ss,L,rfl,sqf,fl,00,λS l=>⟨spos S l,(ssz S l).mono 01⟩,d.pos,M,λnl H2 s2 R q=>?_⟩;obtain⟨lk,uw,hw,_,_⟩:=g.web.same (s1.trans s2);refine⟨_,rfl,Zu (zO.of hw) rfl ⟨pages.toNat,nl,Pw.YL Ss L,?_,00,rfl,zJ.of q,by unfold Pw.YL;rw[Z00,hl];exact Z01 _,?_,λp D H' pm st kp X Y j=>?_⟩⟩;rw[Int.toNat_of_nonneg (by have:=g.plo;lia)];rcases tab with tab |⟨Z,C,I⟩;exact .inl ((s1.trans s2) _ _ tab);exact .inr ⟨Z,(s1.trans s2) _ _ C,(s1.trans s2) _ _ I⟩;refine k D H' Ss p ok (Pw.Z4M hl spos d.pos d.dvd pm st) (λb o e n=>kp b o n ((s1.trans s2) _ _ e)) ((s1.trans s2).free X) Y j
open L2
def Z0y:zB ["thing"] ["thing"] (zh z2N):=fs
def z2V{mg:SV}(S:ZE K mg "is_whole" z2N ["thing"])(T:Txt mg) :Def P w K mg base 1 "is_whole" ["thing"] QB:=S.def λf fd F=>by
 refine F.yy Z0y λnd cdv A' outer s H vs Q E hr h=>?_;obtain⟨i,rfl,k⟩:=h;refine⟨_,(q1 (qr (q4 (qy Qc T.isi boot_isinstance (qa (qv 0) (qa ⟨Yh (v:=.ty "int") 02 T.int boot_int rfl⟩ qn))) (q6 (q7 (qy Qc T.isi boot_isinstance (qa (qv 0) (qa ⟨Yh (v:=.ty "bool") 02 T.bool boot_bool rfl⟩ qn)))))))),?_⟩;exact⟨_,rfl,_,_,_,true,rfl,.int i,Z3x _,_,rfl,Za rfl ⟨_,rfl,_,_,_,false,rfl,.int i,Z2f _,_,rfl,k⟩⟩
def Z2y:zB ["thing"] ["thing"] (zh z6V):=fs
def Xh{mg:SV}(S:ZE K mg "is_pair_of_wholes" z6V ["thing"])(T:Txt mg)(Wh:Def P w K mg base 1 "is_whole" ["thing"] QB):Def P w K mg base 2 "is_pair_of_wholes" ["thing"] (Ju K):=S.def λf fd F=>by
 refine F.yy Z2y λnd cdv A' outer s H vs Q E hr h=>?_;obtain⟨q,x,y,rfl,a,k⟩:=h;refine⟨_,(q1 (qr (q4 (qy vy T.isi boot_isinstance (qa (qv 0) (qa ⟨Yh (v:=.ty "tuple") 02 T.tup boot_tuple rfl⟩ qn))) (q4 (qe Zf (qy zP T.len Z30 (qa (qv 0) qn)) qi) (q4 (qd Wh (qa 033 qn)) (q6 (qd Wh (qa 033 qn)))))))),?_⟩;refine⟨_,rfl,q,_,rfl,a,_,rfl,Za rfl ?_⟩;refine⟨_,rfl,q,_,rfl,.inr a,rfl,_,rfl,Za rfl ?_⟩;refine⟨_,rfl,q,_,_,_,rfl,rfl,a,rfl,_,rfl,_,rfl,Za rfl ?_⟩;exact⟨_,rfl,q,_,_,_,rfl,rfl,a,rfl,_,rfl,k⟩
def z2n:zB ["pages","thing"] ["pages","thing"] (zh vz):=fs
def z5t{mg:SV}(S:ZE K mg "is_link" vz ["pages","thing"])(T:Txt mg)(Pw2:Def P w K mg base 2 "is_pair_of_wholes" ["thing"] (Ju K)):Def P w K mg base 3 "is_link" ["pages","thing"] (jm K):=S.def λf fd F=>by
 refine F.yy z2n λnd cdv A' outer s H vs Q E hr h=>?_;obtain⟨n,x,y,q,rfl,d,k⟩:=h;refine⟨_,(q1 (qr (q4 (qd Pw2 (qa (qv 1) qn)) (q4 ⟨qu uV Xy zF (Zg zG (pv 1) zF 028) (pv 0) (by with_unfolding_all rfl)⟩ (q6 ⟨qu uV Xy zF (Zg zG (pv 1) zF 028) (pv 0) (by with_unfolding_all rfl)⟩))))),?_⟩;refine⟨_,rfl,q,x,y,rfl,d,_,rfl,Za rfl ?_⟩;refine⟨_,rfl,q,_,_,_,rfl,rfl,d,rfl,_,_,rfl,rfl,_,rfl,?_⟩;rcases (Decidable.em (0<=x)).symm with c | c;rw[decide_eq_false (λz=>c z.1)] at k
 rw[decide_eq_false c];exact Ze rfl ⟨_,rfl,Ze rfl k⟩;rw[decide_eq_true c];refine Za rfl ⟨_,rfl,_,_,rfl,rfl,_,rfl,?_⟩;rcases (Decidable.em (x<n)).symm with b | b;rw[decide_eq_false (λz=>b z.2.1)] at k
 rw[decide_eq_false b];exact Ze rfl k;rw[decide_eq_true b];refine Za rfl ?_;refine⟨_,rfl,q,_,_,_,rfl,rfl,d,rfl,_,_,rfl,rfl,_,rfl,?_⟩;rcases (Decidable.em (0<=y)).symm with a | a;rw[decide_eq_false (λz=>a z.2.2.1)] at k
 rw[decide_eq_false a];exact Ze rfl k;rw[decide_eq_true a];refine Za rfl ⟨_,rfl,_,_,rfl,rfl,?_⟩;rw[decide_eq_decide.mpr (show (0<=x/\x<n/\0<=y/\y<n)↔y<n from ⟨λz=>z.2.2.2,λz=>⟨c,b,a,z⟩⟩)] at k;exact k
def UI:zB ["links"] ["links"] (zh yD):=fs
def Jp{mg:SV}(S:ZE K mg "are_rising" yD ["links"])(T:Txt mg)(zall:mg "all"=none):Def P w K mg base 1 "are_rising" ["links"] (vt K):=S.def λf fd F=>by
 refine F.yy UI λnd cdv A' outer s H vs Q E hr h=>?_;obtain⟨t,us,ps,rfl,c,I,few,k⟩:=h;refine⟨_,(q1 (qr (qy (xF rfl) zall boot_all (qa (qG (zh yD) ["one","other"] [none,none] ⟨z0x 02 02 02 rfl T.zip (@ze _ _ _ _ _ 02 (pv 0) (@ze _ _ _ _ _ 02 (yd Z0C (pv 0) (yz zF) yF) zw))⟩ trivial (λ_ _ _ _ _ _=>(qj K 2 (qH (qg 0) (qH (qg 1) qN)))) (λ_ _ _ _ _=>qV) (λ_ _ _ _ _=>(qe (z9D (K:=K) rfl hr.Z2N) (qv 0) (qv 1)))) qn)))),?_⟩;have hl:=I.len;refine⟨_,rfl,_,rfl,_,rfl,?_⟩;cases us with
 | nil =>
   refine .inl ⟨t,rfl,zO.of c,false,false,t,t,[],[],rfl,sqf (zO.of c),sqf (zO.of c),λD l=>?_⟩;refine vo (K:=K) (b1:=false) (b2:=false) (a:=t) (b:=t) (D:=D) (xs:=[]) (zs:=[]) (Z01 _) (λi ys σ G=>zu H G/\G D=some 034/\ys=[]) ⟨zu.new l,zq,rfl⟩ ?_ ?_ ?_;rintro i ys σ G ⟨s,e,_⟩;exact⟨sqf (zO.of (s _ _ c)),sqf (zO.of (s _ _ c)),e⟩;rintro i x z ys σ G T G' Z _ d;exact absurd d (Z47 _);rintro ys σ G ⟨s,e,rfl⟩;refine⟨D,[],rfl,zJ.of e,?_⟩;have:=k G s;rw[decide_eq_true (by rw[Z27.mp hl.symm];exact List.Pairwise.nil)] at this;exact this
 | cons u us =>
   refine .inr ⟨t,_,rfl,zO.of c,?_,λq G1 s1 m1 m=>?_⟩;rw[show (some (1:Int))=some ((1:Nat):Int) from rfl,HT.yC,HT.yM,Z09];lia;have L:yO (u :: us) (some 1) none=us:=by
    unfold yO;rw[show (some (1:Int))=some ((1:Nat):Int) from rfl,HT.yC,HT.yM,Z09,Nat.min_eq_left 00];show (us.take _)=us;exact Z18 00
   rw[L] at m;rw[Z09] at hl;have y:=I.kl s1.kl;refine⟨false,false,t,q,u :: us,us,rfl,sqf (zO.of (s1 _ _ c)),sqf (zO.of m),λD l=>?_⟩;refine vo (K:=K) (b1:=false) (b2:=false) (a:=t) (b:=q) (D:=D) (xs:=u :: us) (zs:=us) (by rw[Z09];lia) (λi ys σ G=>zu G1 G/\G D=some 034/\ys=((adj ps).take i).map V.bl/\∃ v w,σ=[v,w]) ⟨zu.new l,zq,rfl,none,none,rfl⟩ ?_ ?_ ?_;rintro i ys σ G ⟨s,e,_⟩;exact⟨sqf (zO.of (s _ _ (s1 _ _ c))),sqf (zO.of (s _ _ m)),e⟩
   · rintro i x z ys σ G T G' W X d ⟨C,N,rfl,v,w,rfl⟩ Y B U
     have j:=y.kl (C.trans B).kl;obtain⟨J,p,ex,rfl,A⟩:=j.get W;obtain⟨O,n,M,rfl,r⟩:=j.get (i:=i+1) (by simpa using X);have R:=z3G ps i p n ex M;refine⟨T,_,rfl,zO.of U,rfl,_,_,rfl,_,_,rfl,rfl,?_⟩;refine Za rfl ?_;refine⟨_,rfl,_,rfl,J,O,[p.1,p.2],[n.1,n.2],rfl,rfl,A,r,B _ _ N,(by rw[Z00,Z22,JL,sizeLine_eq];lia),Wt.next d ⟨λb o e=>by rw[zC (zo e l)];exact B _ _ (C _ _ e),zq,?_,_,_,rfl⟩⟩;rw[Z35,R,Z16];rfl
   rintro ys σ G ⟨s,e,rfl,_⟩;refine⟨D,_,rfl,zJ.of e,?_⟩;rw[Z18 (by rw[JL];lia),z3V];exact k G (s1.trans s)
def JD:zB ["pages","thing"] ["pages","thing"] (zh Ye):=fs
def z0W{mg:SV}(S:ZE K mg "are_links" Ye ["pages","thing"])(T:Txt mg)(I:mg "MOST_PAGES"=some (.int 12 tP))(y:mg "MOST_LINKS"=some (.int 60 tL))(zall:mg "all"=none)(Il:Def P w K mg base 3 "is_link" ["pages","thing"] (jm K))(Ri:Def P w K mg base 1 "are_rising" ["links"] (vt K)):Def P w K mg base 4 "are_links" ["pages","thing"] (z0D K):=S.def λf fd F=>by
 refine F.yy JD λnd cdv A' outer s H vs Q E hr h=>?_;obtain⟨t,n,us,ps,rfl,d,c,few,k⟩:=h;refine⟨_,(qc (qf (qW (qO (qT (qp (qy vy T.isi boot_isinstance (qa (qv 1) (qa ⟨Yh (v:=.ty "tuple") 02 T.tup boot_tuple rfl⟩ qn))))) (qP (qk Z1v (qy zP T.len Z30 (qa (qv 1) qn)) ⟨Zp (v:=.int 60) 02 y ⟨_,rfl⟩⟩)))) (q1 (qr qb)) q0) (q1 (qr (q4 (qy (xF rfl) zall boot_all (qa (qG (zh Ye) ["each","pages"] [none,some 0] (qU (qv 1)) ⟨019,trivial⟩ (λ_ _ _ _ _ _=>(qg 0)) (λ_ _ _ _ _=>qV) (λ_ _ _ _ _=>(qd Il (qa (qv 1) (qa (qv 0) qn))))) qn)) (q6 (qd Ri (qa (qv 1) qn))))))),?_⟩;have hl:=c.len;refine⟨_,rfl,t,_,rfl,zO.of d,_,rfl,Ze rfl ?_⟩;have no:∀ H',zu H H'->¬ UB n ps->Q (.bl false) H':=λH' s h=>by
  have:=k H' s;rwa [decide_eq_false h] at this
 refine⟨_,rfl,t,_,rfl,.inr (zO.of d),_,_,rfl,rfl,_,rfl,?_⟩;by_cases h60:us.length<=60
 case neg=>exact Za (decide_eq_true (show (60:Int)<((us.length:Nat):Int) by lia)) (no H (zu.refl H) λf=>h60 (by rw[hl];exact f.1))
 refine Ze (decide_eq_false (show ¬ (60:Int)<((us.length:Nat):Int) by lia)) ?_;refine⟨_,rfl,t,rfl,⟨_,zO.of d⟩,λD m=>?_⟩;refine Ql (K:=K) (a:=t) (D:=D) (xs:=us) (λi ys σ G=>zu H G/\G D=some 034/\ys=((ps.take i).map λp=>decide (0<=p.1/\p.1<n/\0<=p.2/\p.2<n)).map V.bl/\∃ v,σ=[v,some (.int n)]) ⟨zu.new m,zq,rfl,none,rfl⟩ ?_ ?_ ?_;rintro i ys σ G ⟨s,e,_⟩;exact⟨zO.of (s _ _ d),e⟩
 · rintro i x ys σ G C j ⟨r,B,rfl,v,rfl⟩
   obtain⟨A,q,ex,rfl,l⟩:=(c.kl r.kl).get C;dsimp only [ZF];rw[if_pos rfl];refine⟨_,rfl,_,rfl,n,q.1,q.2,A,rfl,l,B,(by rw[Z00,Z00,Z22,sizeLine_eq];lia),Wt.next j ⟨λb o e=>by rw[zC (zo e m)];exact r _ _ e,zq,?_,_,rfl⟩⟩;rw[Z35,ex,Z16,Z16];rfl
 · rintro ys σ G ⟨s,e,rfl,_⟩
   refine⟨D,_,rfl,zJ.of e,?_⟩;rw[Z18 00,List.all_map];by_cases rng:∀ p∈ps,0<=p.1/\p.1<n/\0<=p.2/\p.2<n
   case neg =>
    have:(ps.all (id ∘ λp=>decide (0<=p.1/\p.1<n/\0<=p.2/\p.2<n)))=false:=by
     rw[Bool.eq_false_iff];intro z;exact rng λp c=>of_decide_eq_true (Z26.mp z p c)
    rw[this];exact⟨_,rfl,Ze rfl (no G s λf=>rng f.2.1)⟩
   have:(ps.all (id ∘ λp=>decide (0<=p.1/\p.1<n/\0<=p.2/\p.2<n)))=true:=Z26.mpr λp c=>decide_eq_true (rng p c);rw[this];refine⟨_,rfl,Za rfl ⟨_,rfl,t,us,ps,rfl,s _ _ d,c.kl s.kl,00,λG' s'=>?_⟩⟩;have:=k G' (s.trans s');rwa [decide_eq_decide.mpr (show UB n ps↔ps.Pairwise yf from ⟨λf=>f.2.2,λu=>⟨00,rng,u⟩⟩)] at this
def z4Z:zB ["thing","pages"] ["thing"] (zh uA):=fs
def z7T{mg:SV}(S:ZE K mg "is_web" uA ["thing"])(T:Txt mg)(d:mg "MOST_PAGES"=some (.int 12 tP))(j:mg "MOST_LINKS"=some (.int 60 tL))(Wh:Def P w K mg base 1 "is_whole" ["thing"] QB)(Al:Def P w K mg base 4 "are_links" ["pages","thing"] (z0D K)):Def P w K mg base 5 "is_web" ["thing"] (z0n K):=S.def λf fd F=>by
 refine F.yy z4Z λnd cdv A' outer s H vs Q E hr h=>?_;obtain⟨a,n,ps,rfl,hw,few,k⟩:=h;refine⟨_,(qc (qf (qW (qO (qT (qp (qy vy T.isi boot_isinstance (qa (qv 0) (qa ⟨Yh (v:=.ty "tuple") 02 T.tup boot_tuple rfl⟩ qn))))) (qP (qk yL (qy zP T.len Z30 (qa (qv 0) qn)) qi)))) (q1 (qr qb)) q0) (qc (qs 1 033) (q1 (qr (q4 (qd Wh (qa (qv 1) qn)) (q4 ⟨qu uV uV zF (pv 1) (Zp (v:=.int 12) 02 d ⟨_,rfl⟩) (by with_unfolding_all rfl)⟩ (q6 (qd Al (qa (qv 1) (qa 033 qn)))))))))),?_⟩;obtain⟨t,us,b,c,i⟩:=hw;have no:∀ H',zu H H'->¬ (1<=n/\n<=12/\UB n ps)->Q (.bl false) H':=λH' s h=>by
  have:=k H' s;rwa [decide_eq_false h] at this
 refine⟨_,rfl,a,_,rfl,zO.of b,_,rfl,Ze rfl ?_⟩;refine⟨_,rfl,a,_,rfl,.inr (zO.of b),rfl,_,rfl,Ze rfl ?_⟩;refine⟨_,rfl,Zu (zO.of b) rfl ?_⟩;refine⟨_,rfl,n,rfl,_,rfl,Za rfl ?_⟩;refine⟨_,rfl,_,_,rfl,rfl,_,rfl,?_⟩;by_cases h1:1<=n
 case neg =>
  rw[decide_eq_false h1];exact Ze rfl ⟨_,rfl,Ze rfl (no H (zu.refl H) λf=>h1 f.1)⟩
 rw[decide_eq_true h1];refine Za rfl ⟨_,_,rfl,rfl,_,rfl,?_⟩;by_cases h2:n<=12
 case neg =>
  rw[decide_eq_false h2];exact Ze rfl (no H (zu.refl H) λf=>h2 f.2.1)
 rw[decide_eq_true h2];refine Za rfl ?_;refine⟨_,rfl,_,rfl,Zu (zO.of b) rfl ⟨t,n,us,ps,rfl,c,i,few,λG s=>?_⟩⟩;have:=k G s;rwa [decide_eq_decide.mpr (show (1<=n/\n<=12/\UB n ps)↔UB n ps from ⟨λf=>f.2.2,λf=>⟨h1,h2,f⟩⟩)] at this
def V3:zB ["text","most"] ["text","most"] (zh ym):=fs
def UT{mg:SV}(S:ZE K mg "are_figures" ym ["text","most"])(T:Txt mg)(zall:mg "all"=none):Def P w K mg base 1 "are_figures" ["text","most"] z0V:=S.def λf fd F=>by
 refine F.yy V3 λnd cdv A' outer s H vs Q E hr h=>?_;obtain⟨x,m,rfl,a,d,k⟩:=h;refine⟨_,(qc (qf (qW (qO (qk Zf (qv 0) qw) (qO (qk Z1v (qy Y8 T.len Z30 (qa (qv 0) qn)) (qv 1)) (qP (qT (qp (qy (xF rfl) zall boot_all (qa (qG (zh ym) ["sign"] [none] ⟨z8k (pv 0)⟩ trivial (λ_ _ _ _ _ _=>(qg 0)) (λ_ _ _ _ _=>qV) (λ_ _ _ _ _=>(qe UY (qv 0) qw))) qn)))))))) (q1 (qr qb)) q0) (q1 (qr (q5 (qe Zf (qv 0) qw) (q6 (q7 (qm Z21 Z3Z Z5j U8 (qv 0) (qa qw qn)))))))),?_⟩;have b:=Ui a;have no:∀ H',zu H H'->¬ Pw.xn m x->Q (.bl false) H':=λH' s h=>by
  have:=k H' s;rwa [decide_eq_false h] at this
 refine 018;rw[Q3,Z0W];by_cases h0:x.cps.toList=[];rw[decide_eq_true h0];exact Za rfl (Za rfl (no H (zu.refl H) λf=>Pw.ua f h0));rw[decide_eq_false h0];refine Ze rfl ?_;refine⟨_,rfl,x,rfl,b,_,rfl,_,_,rfl,rfl,_,rfl,?_⟩;by_cases h1:x.cps.size<=m
 case neg =>
  exact Za (decide_eq_true (show ((m:Nat):Int)<((x.cps.size:Nat):Int) by lia)) (Za rfl (no H (zu.refl H) λf=>h1 f.2.1))
 refine Ze (decide_eq_false (show ¬ ((m:Nat):Int)<((x.cps.size:Nat):Int) by lia)) ?_;refine⟨_,rfl,x,rfl,λD c=>J4 a c λG s e=>?_⟩;refine⟨D,_,rfl,zJ.of e,?_⟩;rw[z4a];by_cases h2:x.cps.toList.all Pw.Xu=true
 case neg =>
  rw[Bool.not_eq_true] at h2;rw[h2];exact⟨_,rfl,Za rfl (no G s λf=>by rw[f.2.2.1] at h2;cases h2)⟩
 rw[h2];refine⟨_,rfl,Ze rfl ?_⟩;refine 018;rw[Q3,t_0];by_cases h3:x.cps.toList=[48];rw[decide_eq_true h3];have f:Pw.xn m x:=⟨Nat.pos_of_ne_zero λz=>h0 (Z27.mp (by rw[Z07];exact z)),h1,h2,.inl h3⟩;have:=k G s;rw[decide_eq_true f] at this;exact Za rfl this;rw[decide_eq_false h3];refine Ze rfl ⟨_,rfl,rfl,x,48,rfl,uX c_0,?_⟩;have key:(!decide (x.cps.toList.head?=some 48))=decide (Pw.xn m x):=by
  rw[← decide_not,decide_eq_decide];exact⟨λh=>⟨Nat.pos_of_ne_zero λz=>h0 (Z27.mp (by rw[Z07];exact z)),h1,h2,.inr h⟩,λf=>f.2.2.2.resolve_left h3⟩
 have:=k G s;rw[← key] at this;exact⟨_,rfl,this⟩
def Z1K:zB ["web","one","other"] ["web","one","other"] (zh z6U):=fs
def z0c{mg:SV}(S:ZE K mg "with_link" z6U ["web","one","other"])(T:Txt mg) :Def P w K mg base 1 "with_link" ["web","one","other"] (Jm K):=S.def λf fd F=>by
 refine F.yy Z1K λnd cdv A' outer s H vs Q E hr h=>?_;obtain⟨a,n,x,y,ps,rfl,hw,few,k⟩:=h;refine⟨_,(q1 (qr (qt (qa 033 (qa (qY X9 T.tup boot_tuple (qa (qy Uu T.srt boot_sorted (qa (qo z0M 033 (qt (qa (qt (qa (qv 1) (qa (qv 2) qn))) qn))) qn)) qn)) qn))))),?_⟩;obtain⟨t,us,r,A,o⟩:=hw;have hl:=o.len;refine⟨_,rfl,Zu (zO.of r) rfl ?_⟩;refine⟨_,rfl,Zu (zO.of r) rfl ⟨_,rfl,_,rfl,zl2,λq G1 s1 M v=>⟨zl1,λq1 G2 s2 O z=>?_⟩⟩⟩;have d:=s1.trans s2;refine⟨t,q1,us,[.ref q],rfl,rfl,d _ _ A,z,?_,λp G3 s3 D=>?_⟩;rw[sizeLine_eq];simp only[Z09,Z5q];lia;have c:=d.trans s3;have m:ZJ K G3 (ps ++ [(x,y)]) (us ++ [.ref q]):=ZJ.snoc (p:=(x,y)) (zO.of (s3 _ _ (s2 _ _ v))) (o.kl c.kl);refine⟨p,_,_,rfl,zO.of D,m,?_,λws ms D2 G4 pm C i s4 L G=>?_⟩;rw[Z14,Z39];lia;refine⟨D2,ws,rfl,zJ.of G,λI G5 s5 N B=>⟨zl2,λb G6 l u J=>?_⟩⟩;have j:=c.trans (s4.trans (s5.trans l));exact k b G6 ms j ((c.trans (s4.trans s5)).free u) ⟨I,ws,J,l _ _ B,i.kl (s5.trans l).kl⟩ pm C
def z5v:zB ["web","one","other","links","place"] ["web","one","other"] (zh uP):=fs
def uz{mg:SV}(S:ZE K mg "without_link" uP ["web","one","other"])(T:Txt mg) :Def P w K mg base 1 "without_link" ["web","one","other"] (QY K):=S.def λf fd F=>by
 refine F.yy z5v λnd cdv A' outer s H vs Q E hr h=>?_;obtain⟨a,n,x,y,ps,rfl,hw,few,k1,k2⟩:=h;refine⟨_,(qc (qs 3 033) (qc (qf (qk (U7 hr) (qt (qa (qv 1) (qa (qv 2) qn))) (qv 3)) (q1 (qr ⟨vh⟩)) q0) (qc (qs 4 ⟨z8f 02 02 02 02 02 PySem.F.plainAttrs_tuple PySem.F.slot_tuple_index PySem.F.type_tuple_index (z5p hr) (pv 3) (@ze _ _ _ _ _ 02 (@Xd _ _ _ _ _ (@ze _ _ _ _ _ 02 (pv 1) (@ze _ _ _ _ _ 02 (pv 2) zw))) zw)⟩) (q1 (qr (qt (qa 033 (qa (qo z0M (q9 Ja (qv 3) qK (qQ (qv 4))) (q9 Ja (qv 3) (qQ (qo yN (qv 4) qi)) qK)) qn)))))))),?_⟩;obtain⟨t,us,l,j,k⟩:=hw;have hl:=k.len;refine⟨_,rfl,Zu (zO.of l) rfl ?_⟩;refine⟨_,rfl,_,rfl,zl2,λq G1 s1 J r=>⟨_,rfl,q,t,us,ps,(x,y),rfl,rfl,zO.of r,zO.of (s1 _ _ j),k.kl s1.kl,_,rfl,?_⟩⟩;by_cases hm:(x,y)∈ps;rw[decide_eq_true hm];refine Ze rfl ?_;have hi:=List.idxOf_lt_length_of_mem hm;refine⟨_,rfl,⟨t,us,rfl,s1 _ _ j⟩,_,rfl,_,rfl,zl2,λq2 G2 s2 L u=>?_⟩;have c:=s1.trans s2;refine⟨t,q2,us,ps,(x,y),rfl,rfl,c _ _ j,k.kl c.kl,zO.of u,hm,?_⟩;have i:ps.idxOf (x,y)<us.length:=00
 refine⟨_,rfl,Zu (zO.of (c _ _ l)) rfl ?_⟩;refine⟨_,rfl,_,rfl,_,rfl,t,us,rfl,zO.of (c _ _ j),?_,λA G3 s3 D m=>?_⟩;rw[HT.yC,HT.yM];lia;refine⟨_,rfl,_,rfl,_,_,rfl,rfl,_,rfl,t,us,rfl,zO.of (s3 _ _ (c _ _ j)),?_,λB G4 s4 I p=>?_⟩;rw[show ((ps.idxOf (x,y):Nat):Int)+1=((ps.idxOf (x,y)+1:Nat):Int) from rfl,HT.yC,HT.yM];lia;rw[Z5Q i] at m;rw[Z1N i] at p;refine⟨A,B,_,_,rfl,rfl,s4 _ _ m,p,?_,λv G5 s5 z=>⟨zl2,λb G6 o G C=>?_⟩⟩;rw[Z22,Z31,sizeLine_eq];lia;have d:=c.trans (s3.trans (s4.trans (s5.trans o)));refine k2 hm b G6 d ⟨v,_,C,o _ _ z,?_⟩;rw[← Vc ps hm];exact ZJ.append ((k.kl d.kl).drop _) ((k.kl d.kl).take _);rw[decide_eq_false hm];refine Za rfl ?_;exact k1 hm G1 s1
def Z2E:zB ["web"] ["web"] (zh z6L):=fs
def Z2n{mg:SV}(S:ZE K mg "even" z6L ["web"])(T:Txt mg)(M:Def P w K mg base 2 "made" ["above","below"] VA):Def P w K mg base 3 "even" ["web"] (Vv K):=S.def λf fd F=>by
 refine F.yy Z2E λnd cdv A' outer s H vs Q E hr h=>?_;obtain⟨d,n,r,rfl,e,n1,n12,k⟩:=h;refine⟨_,(q1 (qr (qo z9T (qt (qa (qd M (qa qi (qa 033 qn))) qn)) 033))),?_⟩;refine⟨_,rfl,Zu (zO.of e) (zS (j:=0) rfl) ⟨1,(n:Int),rfl,00,yW 1 01,yW (m:=8000) 4 00,λp G1 s1 a=>⟨zl1,λq G2 s2 i b=>?_⟩⟩⟩;have hm:Pw.mk 1 (n:Int)=(1,(n:Int)):=Pw.Z6w 00;rw[hm] at a;refine⟨_,rfl,Zu (zO.of ((s1.trans s2) _ _ e)) (zS (j:=0) rfl) ⟨q,(n:Int),_,rfl,rfl,b,05,00,00,?_,λt G3 s3 c=>k t G3 _ (s1.trans (s2.trans s3)) c ?_⟩⟩;rw[sizeLine_eq,Z3o];show 1 * n<=_;lia;rw[Z3o];exact X8.rep (p:=p) (A:=(1,(n:Int))) (s3 _ _ (s2 _ _ a)) n
def z0j:zB ["web"] ["web"] (zh Y5):=fs
def z2J{mg:SV}(S:ZE K mg "show_web" Y5 ["web"])(T:Txt mg)(zstr:mg "str"=none):Def P w K mg base 1 "show_web" ["web"] (Jo K):=S.def λf fd F=>by
 refine F.yy z0j λnd cdv A' outer s H vs Q E hr h=>?_;obtain⟨a,n,ps,rfl,hw,I,n12,few,rng,k⟩:=h;refine⟨_,(q1 (qr (qo zW (qo zW qw (qY yc zstr boot_str (qa 033 qn))) (qm Z21 PySem.F.slot_str_join PySem.F.type_str_join (z0o (K:=K) rfl) qw (qa (qG (zh Y5) ["here","there"] [none,none] (qU 033) trivial (λ_ _ _ _ _ _=>(qj K 2 (qH (qg 0) (qH (qg 1) qN)))) (λ_ _ _ _ _=>qV) (λ_ _ _ _ _=>⟨Z4N 03 03 (pv 0) (pv 1)⟩)) qn))))),?_⟩;obtain⟨t,us,A,y,l⟩:=hw;have hl:=l.len;have m:∀ i:Int,0<=i->i<=99->i.natAbs.log2<1920:=λi h0 W=>Z6r 00 00;have R:(Str.ofString "pages ").cps.size=6:=03
 have C:=ZL I (show n<=99 by lia);refine⟨_,rfl,Zu (zO.of A) rfl ⟨n,rfl,m n I 00,_,_,rfl,rfl,(by rw[QG,QG,sizeLine_eq];lia),rfl,?_⟩⟩;refine⟨_,rfl,Zu (zO.of A) rfl ⟨t,rfl,⟨_,zO.of y⟩,λD B=>?_⟩⟩;refine Ql (K:=K) (a:=t) (D:=D) (xs:=us) (λi ys σ G=>zu H G/\G D=some 034/\ys=((ps.take i).map λp=>Str.ofString " " ++ Pw.ns p.1 ++ Str.ofString ">" ++ Pw.ns p.2).map V.str/\∃ v w,σ=[v,w]) ⟨zu.new B,zq,rfl,none,none,rfl⟩ ?_ ?_ ?_;rintro i ys σ G ⟨s,e,_⟩;exact⟨zO.of (s _ _ y),e⟩
 · rintro i x ys σ G O q ⟨j,d,rfl,v,Y,rfl⟩
   obtain⟨M,c,ex,rfl,u⟩:=(l.kl j.kl).get O;have r:=rng c (Z2u ex);have C:=ZL r.1 (show c.1<=99 by lia);have N:=ZL r.2.2.1 (show c.2<=99 by lia);refine⟨M,_,rfl,u,rfl,_,_,rfl,_,_,rfl,rfl,?_⟩;refine Za rfl ?_;refine⟨_,rfl,c.1,rfl,m _ r.1 00,00,_,rfl,c.2,rfl,m _ r.2.2.1 00,00,d,(by rw[Z00,Z00,Z22,sizeLine_eq];lia),Wt.next q ⟨λb o e=>by rw[zC (zo e B)];exact j _ _ e,zq,?_,_,_,rfl⟩⟩;rw[Z35,ex,Z16,Z16];rfl
 rintro ys σ G ⟨j,d,rfl,_⟩;rw[Z18 00] at d;have J:∀ z∈ps.map (λp=>Str.ofString " " ++ Pw.ns p.1 ++ Str.ofString ">" ++ Pw.ns p.2),z.cps.size<=6:=λz h=>by
  obtain⟨p,l,rfl⟩:=Z23.mp h;have r:=rng p l;have C:=ZL r.1 (show p.1<=99 by lia);have N:=ZL r.2.2.1 (show p.2<=99 by lia);have X:(Str.ofString " ").cps.size=1:=03
  have U:(Str.ofString ">").cps.size=1:=03
  rw[zK,zK,zK];show _+(Str.ofString (toString p.1)).cps.size+_+(Str.ofString (toString p.2)).cps.size<=6;lia
 have zn:(Str.ofString "").cps.size=0:=03
 have L:=Q7 (sep:=Str.ofString "") J;rw[Z00,zn] at L;refine⟨_,D,_,rfl,rfl,zJ.of d,z2O J ?_,_,_,rfl,rfl,?_,?_⟩;rw[Z00,zn];lia;rw[QG,QG,zK,sizeLine_eq];lia;rw[Pw.Z3f];exact k G j
open L2
def z5F:zB ["self","web","leap"] ["self","web","leap"] (zh ud):=fs
def Z2Y{mg:SV}(S:MkF K mg C "Live" "Live.__init__" ud ["self","web","leap"])(T:Txt mg)(LT:UO K C) :MkD P w K mg base yV 1 C "Live" ["self","web","leap"] (Yc C):=S.def λf fd F=>by
 refine F.yy z5F λnd cdv A' outer s H vs Q E hr h=>?_;obtain⟨p,dx,a,lp,rfl,j,k⟩:=h;refine⟨_,(qc (q3 (qv 0) (qv 1)) (qc (q3 (qv 0) (qv 2)) (q1 (q3 (qv 0) (ql qn))))),?_⟩;refine⟨_,rfl,_,rfl,p,C,dx,_,rfl,j,LT.cl,LT.nN,(by show 0<1000;decide),?_⟩;refine⟨_,rfl,_,rfl,p,C,dx,_,rfl,zq,LT.cl,LT.nL,(by show 1<1000;decide),?_⟩;refine⟨zl0,λpd G1 s1 c i=>?_⟩;have ne:p≠pd:=zo zq c;rw[zC ne.symm,zC ne.symm] at c;refine⟨_,rfl,p,C,dx,_,rfl,s1 _ _ zq,LT.cl,LT.nP,(by rw[show Z0 "leap" (V.ref lp) (Z0 "now" (V.ref a) [])=([("now",V.ref a),("leap",V.ref lp)]:List (Str×V)) from (by show (if ("now":Str)="leap" then [(("now":Str),V.ref lp)] else (("now":Str),V.ref a) :: Z0 "leap" (V.ref lp) [])=_;rw[if_neg kNL];rfl)];show 2<1000;decide),?_⟩;refine k pd _ c ⟨⟨dx,zq⟩,by rw[zC ne.symm];exact i⟩ λb o e d=>?_;rw[zC d];exact s1 _ _ (by rw[zC d,zC d];exact e)
def z4X:zB ["self","web"] ["self","web"] (zh V6):=fs
def Z2H{mg:SV}(S:qI K C "turn" "Live.turn" V6 ["self","web"])(T:Txt mg)(LT:UO K C) :ZC P w K mg base yV 1 C "turn" ["self","web"] (QJ C):=S.def λf fd F=>by
 refine F.yy z4X λnd cdv A' outer s H vs Q E hr h=>?_;obtain⟨p,b,now,lp,pd,us,rfl,l,j,k⟩:=h;refine⟨_,(qc (qX (qm Z48 PySem.F.slot_list_append PySem.F.type_list_append yG (qD (qv 0)) (qa (qD (qv 0)) qn))) (q1 (q3 (qv 0) (qv 1)))),?_⟩;obtain⟨⟨dx,a⟩,d⟩:=l;have ne:p≠pd:=Z1b a d (by intro z;cases z);refine⟨_,rfl,p,C,dx,_,_,rfl,a,LT.cl,LT.nP,uB _ _ _,.inl ⟨rfl,_,zJ.of d⟩,_,rfl,p,C,dx,_,_,rfl,a,LT.cl,LT.nN,ZY _ _ _,pd,_,_,rfl,rfl,d,(by rw[sizeLine_eq];lia),?_⟩;refine⟨_,rfl,_,rfl,p,C,dx,_,rfl,(by rw[zC ne];exact a),LT.cl,LT.nN,z3I _ _ _,?_⟩;refine k _ ⟨⟨dx,Eq.trans zq (congrArg (λl=>some (HO.ins C dx l)) (z3z _ _ _ _))⟩,by rw[zC ne.symm];exact zq⟩ λc o e i=>?_;rw[zC (λz=>i (by rw[z];simp)),zC (λz=>i (by rw[z];simp))];exact e
def uW:zB ["self","one","other"] ["self","one","other"] (zh vA):=fs
def Z0e{mg:SV}(S:qI K C "check" "Live.check" vA ["self","one","other"])(T:Txt mg)(LT:UO K C)(XT:V9 K mg "NoLink" Xc)(Il:Def P w K mg base 3 "is_link" ["pages","thing"] (z1i K)):ZC P w K mg base (ye P w Xc) 4 C "check" ["self","one","other"] (ve K C Xc):=S.def λf fd F=>by
 have nd:=uW.nd;refine F.okN uW 017 08;obtain⟨_,_,_,_,_,_,_,rfl,_⟩:=h;rfl;obtain⟨p,pd,lp,W,Ws,x,y,rfl,l,k,b⟩:=h;refine⟨_,@qz _ _ _ (q1 (qf (qT (qp (qd Il (qa (qx zG (qD (qv 0)) qi) (qa (qt (qa (qv 1) (qa (qv 2) qn))) qn))))) 032 q0)),?_⟩;obtain⟨now,us,lv,hw,m⟩:=l;obtain⟨⟨dx,d⟩,n⟩:=lv;obtain⟨t,ws,c,i,o⟩:=hw;refine⟨_,rfl,p,C,dx,_,_,rfl,d,LT.cl,LT.nN,ZY _ _ _,Zu (zO.of c) rfl ⟨_,rfl,_,rfl,zl2,λq G1 s1 j a=>?_⟩⟩;refine⟨W.1,x,y,q,rfl,a,_,rfl,?_⟩;by_cases hb:InB W.1 x y;rw[decide_eq_true hb];exact Ze rfl (k hb G1 s1);rw[decide_eq_false hb];exact Za rfl ⟨021,b hb G1 s1⟩
def z6M:zB ["self"] ["self"] (zh j6):=fs
def Z4F{mg:SV}(S:qI K C "web" "Live.web" j6 ["self"])(T:Txt mg)(LT:UO K C) :ZC P w K mg base yV 1 C "web" ["self"] (Q4 K C):=S.def λf fd F=>by
 refine F.yy z6M λnd cdv A' outer s H vs Q E hr h=>?_;obtain⟨p,pd,lp,W,Ws,rfl,l,k⟩:=h;refine⟨_,(q1 (qr (qD (qv 0)))),?_⟩;obtain⟨now,us,lv,hw,b⟩:=id l;obtain⟨⟨dx,a⟩,c⟩:=id lv;exact⟨_,rfl,p,C,dx,_,_,rfl,a,LT.cl,LT.nN,ZY _ _ _,k now hw⟩
def jE:zB ["self","one","other"] ["self","one","other"] (zh V0):=fs
def Z2W{mg:SV}(S:qI K C "link" "Live.link" V0 ["self","one","other"])(T:Txt mg)(LT:UO K C)(XT:V9 K mg "NoLink" Xc)(J:mg "MOST_PAGES"=some (.int 12 tP))(B:mg "MOST_LINKS"=some (.int 60 tL))(Ch:ZC P w K mg base (ye P w Xc) 4 C "check" ["self","one","other"] (ve K C Xc))(Tu:ZC P w K mg base yV 1 C "turn" ["self","web"] (QJ C))(Wi:Def P w K mg base 1 "with_link" ["web","one","other"] (Jm K)):ZC P w K mg base (ye P w Xc) 5 C "link" ["self","one","other"] (z0N K C Xc):=S.def λf fd F=>by
 have nd:=jE.nd;refine F.okN jE 017 08;obtain⟨_,_,_,_,_,_,_,rfl,_⟩:=h;rfl;obtain⟨p,pd,lp,W,Ws,x,y,rfl,l,L,u,k,m⟩:=h;refine⟨_,@qz _ _ _ (qc (qX ⟨Zt 02 02 02 (pv 0) LT.cl Ch 014 Yx (@ze _ _ _ _ _ 02 (pv 1) (@ze _ _ _ _ _ 02 (pv 2) zw))⟩) (qc (qf (qk Uh (qy zP T.len Z30 (qa (qx zG (qD (qv 0)) qi) qn)) ⟨Zp (v:=.int 60) 02 B ⟨_,rfl⟩⟩) 032 q0) (q1 (qX (qM (qv 0) LT.cl Tu (qa (qd Wi (qa (qD (qv 0)) (qa (qv 1) (qa (qv 2) qn)))) qn)))))),?_⟩;obtain⟨now,us,lv,hw,n⟩:=id l;obtain⟨⟨dx,c⟩,I⟩:=id lv;obtain⟨t,ws,A,r,G⟩:=id hw;have hl:=G.len;have o:=n.len;refine⟨_,rfl,p,dx,_,rfl,c,Z4 _ _ _ 03 03 03,_,rfl,_,rfl,p,pd,lp,W,Ws,x,y,rfl,l,λi G1 s1=>?_,λi G1 s1=>m (λz=>i z.1) G1 s1⟩;refine⟨_,rfl,p,C,dx,_,_,rfl,s1 _ _ c,LT.cl,LT.nN,ZY _ _ _,Zu (zO.of (s1 _ _ A)) rfl ⟨t,_,rfl,.inr (zO.of (s1 _ _ r)),_,_,rfl,rfl,_,rfl,?_⟩⟩;rcases (Decidable.em (W.2.length<60)).symm with hf | hf;rw[decide_eq_true (show (60:Int)<=((ws.length:Nat):Int) by rw[hl];lia)];exact Za rfl ⟨021,m (λz=>hf z.2) G1 s1⟩
 rw[decide_eq_false (show ¬ (60:Int)<=((ws.length:Nat):Int) by rw[hl];lia)];refine Ze rfl ?_;refine⟨_,rfl,p,dx,_,rfl,s1 _ _ c,Z4 _ _ _ 03 03 03,_,rfl,p,C,dx,_,_,rfl,s1 _ _ c,LT.cl,LT.nN,ZY _ _ _,_,rfl,_,rfl,now,W.1,x,y,W.2,rfl,hw.same s1,00,λb G2 ms s2 mb j pm D=>?_⟩;have a:=s1.trans s2;refine⟨p,b,now,lp,pd,us,rfl,lv.same a,00,λG3 q k3=>?_⟩;have d:=(lv.same a).ku k3;exact k ⟨i,hf⟩ G3 ms pm D ⟨b,_,q,j.ku d,((n.ku a.ku).ku d).snoc ((hw.same a).ku d)⟩ ((zu.kx a).trans k3)
def vU:zB ["self","one","other","fewer"] ["self","one","other"] (zh XA):=fs
def z5W{mg:SV}(S:qI K C "unlink" "Live.unlink" XA ["self","one","other"])(T:Txt mg)(LT:UO K C)(XT:V9 K mg "NoLink" Xc)(Ch:ZC P w K mg base (ye P w Xc) 4 C "check" ["self","one","other"] (ve K C Xc))(Tu:ZC P w K mg base yV 1 C "turn" ["self","web"] (QJ C))(Wo:Def P w K mg base 1 "without_link" ["web","one","other"] (QY K)):ZC P w K mg base (ye P w Xc) 5 C "unlink" ["self","one","other"] (uC K C Xc):=S.def λf fd F=>by
 have nd:=vU.nd;refine F.okN vU 017 08;obtain⟨_,_,_,_,_,_,_,rfl,_⟩:=h;rfl;obtain⟨p,pd,lp,W,Ws,x,y,rfl,l,v,t,k,n⟩:=h;refine⟨_,@qz _ _ _ (qc (qX ⟨Zt 02 02 02 (pv 0) LT.cl Ch 014 Yx (@ze _ _ _ _ _ 02 (pv 1) (@ze _ _ _ _ _ 02 (pv 2) zw))⟩) (qc (qs 3 (qd Wo (qa (qD (qv 0)) (qa (qv 1) (qa (qv 2) qn))))) (qc (qf (qk z7y (qv 3) ⟨vh⟩) 032 q0) (q1 (qX (qM (qv 0) LT.cl Tu (qa (qv 3) qn))))))),?_⟩;obtain⟨now,us,lv,hw,o⟩:=id l;obtain⟨⟨dx,i⟩,u⟩:=id lv;have q:=o.len;refine⟨_,rfl,p,dx,_,rfl,i,Z4 _ _ _ 03 03 03,_,rfl,_,rfl,p,pd,lp,W,Ws,x,y,rfl,l,λd G1 s1=>?_,λd G1 s1=>n (λz=>d z.1) G1 s1⟩;refine⟨_,rfl,p,C,dx,_,_,rfl,s1 _ _ i,LT.cl,LT.nN,ZY _ _ _,_,rfl,_,rfl,now,W.1,x,y,W.2,rfl,hw.same s1,00,λhn G2 s2=>?_,λm b G2 s2 j=>?_⟩;exact⟨_,rfl,rfl,_,rfl,Za rfl ⟨021,n (λz=>hn z.2) G2 (s1.trans s2)⟩⟩;have a:=s1.trans s2;refine⟨_,rfl,rfl,_,rfl,Ze rfl ?_⟩;refine⟨_,rfl,p,dx,_,rfl,a _ _ i,Z4 _ _ _ 03 03 03,_,rfl,?_⟩;refine⟨p,b,now,lp,pd,us,rfl,lv.same a,00,λG3 r k3=>?_⟩;have c:=(lv.same a).ku k3;exact k ⟨d,m⟩ G3 ⟨b,_,r,j.ku c,((o.ku a.ku).ku c).snoc ((hw.same a).ku c)⟩ ((zu.kx a).trans k3)
def jh:zB ["self","number"] ["self"] (zh uQ):=fs
def Z1X{mg:SV}(S:qI K C "page" "Live.page" uQ ["self"])(T:Txt mg)(LT:UO K C)(XT:V9 K mg "NoLink" Xc)(u:mg "MOST_PAGES"=some (.int 12 tP))(z:mg "MOST_LINKS"=some (.int 60 tL))(Tu:ZC P w K mg base yV 1 C "turn" ["self","web"] (QJ C)):ZC P w K mg base (ye P w Xc) 2 C "page" ["self"] (z0K K C Xc):=S.def λf fd F=>by
 have nd:=jh.nd;refine F.okN jh 017 08;obtain⟨_,_,_,_,_,rfl,_⟩:=h;rfl;obtain⟨p,pd,lp,W,Ws,rfl,l,D,k,q⟩:=h;refine⟨_,@qz _ _ _ (qc (qs 1 (qx zG (qD (qv 0)) qi)) (qc (qf (qk Uh (qv 1) ⟨Zp (v:=.int 12) 02 u ⟨_,rfl⟩⟩) 032 q0) (qc (qX (qM (qv 0) LT.cl Tu (qa (qt (qa (qo yN (qv 1) qi) (qa (qx zG (qD (qv 0)) qi) qn))) qn))) (q1 (qr (qv 1)))))),?_⟩;obtain⟨now,us,lv,hw,i⟩:=id l;obtain⟨⟨dx,c⟩,B⟩:=id lv;obtain⟨t,ws,d,o,y⟩:=id hw;have j:=i.len;refine⟨_,rfl,p,C,dx,_,_,rfl,c,LT.cl,LT.nN,ZY _ _ _,Zu (zO.of d) rfl ?_⟩;refine⟨_,rfl,_,_,rfl,rfl,_,rfl,?_⟩;rcases (Decidable.em (W.1<12)).symm with hn | hn;rw[decide_eq_true (show (12:Int)<=W.1 by lia)];exact Za rfl ⟨021,q hn H (zu.refl H)⟩;rw[decide_eq_false (show ¬ (12:Int)<=W.1 by lia)];refine Ze rfl ?_;refine⟨_,rfl,p,dx,_,rfl,c,Z4 _ _ _ 03 03 03,_,rfl,_,_,rfl,rfl,_,rfl,p,C,dx,_,_,rfl,c,LT.cl,LT.nN,ZY _ _ _,Zu (zO.of d) rfl ⟨zl2,λb G1 s1 A m=>?_⟩⟩
 refine⟨p,b,now,lp,pd,us,rfl,lv.same s1,00,λG3 n k3=>?_⟩;have a:=(lv.same s1).ku k3;have r:ZP K G1 b (W.1+1) W.2:=⟨t,ws,m,s1 _ _ o,y.ku s1.ku⟩;exact⟨_,rfl,k hn G3 ⟨b,_,n,r.ku a,((i.ku s1.ku).ku a).snoc ((hw.same s1).ku a)⟩ ((zu.kx s1).trans k3)⟩
def z5i:zB ["self"] ["self"] (zh uR):=fs
def Z2c{mg:SV}(S:qI K C "undo" "Live.undo" uR ["self"])(T:Txt mg)(LT:UO K C) :ZC P w K mg base yV 1 C "undo" ["self"] (Jj K C):=S.def λf fd F=>by
 refine F.yy z5i λnd cdv A' outer s H vs Q E hr h=>?_;obtain⟨p,pd,lp,W,Ws,rfl,l,k0,k1⟩:=h;refine⟨_,(qc (qf (qT ⟨jk (λ_=>rfl) (X5 (pv 0) rfl)⟩) (q1 (qr qb)) q0) (qc (q3 (qv 0) ⟨z7Y Z48 PySem.F.slot_list_pop PySem.F.type_list_pop Z1E (X5 (pv 0) rfl)⟩) (q1 (qr qb)))),?_⟩;obtain⟨now,us,lv,hw,m⟩:=id l;obtain⟨⟨dx,d⟩,i⟩:=id lv;have ne:p≠pd:=Z1b d i (by intro z;cases z);have b:=m.len;refine⟨_,rfl,p,C,dx,_,_,rfl,d,LT.cl,LT.nP,uB _ _ _,_,.inl ⟨us,zJ.of i,rfl⟩,?_⟩;rcases List.eq_nil_or_concat Ws with rfl |⟨Ws0,W0,rfl⟩;cases us with
 | nil=>exact Za rfl (k0 rfl H (zu.refl H))
 | cons u us=>cases b
 rw[List.concat_eq_append] at m b l k1;obtain⟨vs,a,rfl,j,k⟩:=m.z6c;rw[show (vs ++ [V.ref a]).isEmpty=false by cases vs <;> rfl];refine Ze rfl ?_;refine⟨_,rfl,p,C,dx,_,_,rfl,d,LT.cl,LT.nP,uB _ _ _,.inl ⟨rfl,_,zJ.of i⟩,pd,_,.ref a,rfl,rfl,i,05,?_⟩;refine⟨_,rfl,p,C,dx,_,rfl,(by rw[zC ne];exact d),LT.cl,LT.nN,z3I _ _ _,?_⟩;have r:Lv C (upd (upd H pd (.lst (vs ++ [V.ref a]).dropLast)) p (.ins C dx (Z0 "now" 024 (lvF now lp pd)))) p a lp pd vs:=⟨⟨dx,Eq.trans zq (congrArg (λl=>some (HO.ins C dx l)) (z3z _ _ _ _))⟩,by rw[zC ne.symm,zq,List.dropLast_concat]⟩;have k3:Kx [p,pd] H (upd (upd H pd (.lst (vs ++ [V.ref a]).dropLast)) p (.ins C dx (Z0 "now" 024 (lvF now lp pd)))):=λc o e q=>by
  rw[zC (λz=>q (by rw[z];simp)),zC (λz=>q (by rw[z];simp))];exact e
 have n:=lv.ku k3;exact k1 W0 Ws0 rfl _ ⟨a,vs,r,k.ku n,j.ku n⟩ k3
def z1l:zB ["self"] ["self"] (zh XJ):=fs
def z6m{mg:SV}(S:qI K C "shares" "Live.shares" XJ ["self"])(T:Txt mg)(LT:UO K C)(Sh:Def P w K mg base 6 "shares_shares" ["web","leap","leaps"] (Z1O K))(Ev:Def P w K mg base 3 "even" ["web"] (Vv K)):ZC P w K mg base yV 7 C "shares" ["self"] (jq K C):=S.def λf fd F=>by
 refine F.yy z1l λnd cdv A' outer s H vs Q E hr h=>?_;obtain⟨p,pd,lp,n,ps,Ws,A,rfl,l,n1,n12,few,lk,fA,ca,a0,a1,sA,k⟩:=h;refine⟨_,(q1 (qr (qd Sh (qa (qD (qv 0)) (qa (qD (qv 0)) (qa (qd Ev (qa (qD (qv 0)) qn)) qn)))))),?_⟩;obtain⟨now,us,lv,hw,j⟩:=id l;obtain⟨⟨dx,a⟩,m⟩:=id lv;obtain⟨t,ws,d,i,o⟩:=id hw;refine⟨_,rfl,p,C,dx,_,_,rfl,a,LT.cl,LT.nN,ZY _ _ _,_,rfl,p,C,dx,_,_,rfl,a,LT.cl,LT.nL,qC _ _ _,_,rfl,p,C,dx,_,_,rfl,a,LT.cl,LT.nN,ZY _ _ _,now,n,_,rfl,d,n1,n12,λev G1 vs s1 b f1=>?_⟩;exact⟨now,lp,ev,n,ps,A,evL n,vs,(n:Int),rfl,vj (hw.same s1) 00 lk (s1 _ _ fA) ca a0 a1 sA n1 n12 b f1,λt' G2 Ss ys ok sz s2 c f2=>k t' G2 Ss ys ok sz (s1.trans s2) c f2⟩
def z0T:zB ["self"] ["self"] (zh XH):=fs
def z7D{mg:SV}(S:qI K C "ranked" "Live.ranked" XH ["self"])(T:Txt mg)(LT:UO K C)(Rk:Def P w K mg base 7 "ranked_shares" ["web","leap","leaps"] (z1o K tb YQ))(Ev:Def P w K mg base 3 "even" ["web"] (Vv K)):ZC P w K mg base yV 8 C "ranked" ["self"] (U3 K C tb YQ):=S.def λf fd F=>by
 refine F.yy z0T λnd cdv A' outer s H vs Q E hr h=>?_;obtain⟨p,pd,lp,n,ps,Ws,A,rfl,l,n1,n12,few,lk,fA,ca,a0,a1,sA,tab,k⟩:=h;refine⟨_,(q1 (qr (qd Rk (qa (qD (qv 0)) (qa (qD (qv 0)) (qa (qd Ev (qa (qD (qv 0)) qn)) qn)))))),?_⟩;obtain⟨now,us,lv,hw,y⟩:=id l;obtain⟨⟨dx,a⟩,z⟩:=id lv;obtain⟨t,ws,m,v,B⟩:=id hw;refine⟨_,rfl,p,C,dx,_,_,rfl,a,LT.cl,LT.nN,ZY _ _ _,_,rfl,p,C,dx,_,_,rfl,a,LT.cl,LT.nL,qC _ _ _,_,rfl,p,C,dx,_,_,rfl,a,LT.cl,LT.nN,ZY _ _ _,now,n,_,rfl,m,n1,n12,λev G1 vs s1 d f1=>?_⟩;have i:=vj (hw.same s1) (show ps.length<=100 by lia) lk (s1 _ _ fA) ca a0 a1 sA n1 n12 d f1;refine⟨now,lp,ev,(n:Int),ps,A,evL n,vs,(n:Int),140,rfl,i.g,i.pr,by have:=i.n12;lia,01,i.sA,i.sS,tab.same s1,λD G2 Ss r ok c k2 u j q=>?_⟩;rw[Z3o] at ok c;exact k D G2 Ss r ok c (λb o e n=>k2 b o (s1 _ _ e) n) (s1.free u) j q
open L2
def z1S:zB ["places","many","found","turn","place"] ["places","many"] (zh YK):=fs
def jg{mg:SV}(S:ZE K mg "choices" YK ["places","many"])(T:Txt mg)(Ch:Def P w K mg base k "choices" ["places","many"] (Z4i K M)):Def P w K mg base (k+1) "choices" ["places","many"] (Jb K M):=S.def λf fd F=>by
 refine F.yy z1S λnd cdv A' outer s H vs Q E hr h=>?_;obtain⟨m,hM,p,l,rfl,ep,l12,kk⟩:=h;refine⟨_,(qc (qf (qk Zf (qv 1) qi) (q1 (qr (ql (qa (ql qn) qn)))) q0) (qc (qs 2 (ql qn)) (qc (qF ⟨Vr 02 02 rfl T.enu (@ze _ _ _ _ _ 02 (pv 0) zw)⟩ (qJ (qH (qg 3) (qH (qg 4) qN))) (q1 (qX (qm Z48 PySem.F.slot_list_extend PySem.F.type_list_extend z4T (qv 2) (qa (qG (zh YK) ["rest","place"] [none,some 4] (qL (qd Ch (qa (q9 Vy (qv 0) (qQ (qo yN (qv 3) qi)) qK) (qa (qo xw (qv 1) qi) qn)))) ⟨019,trivial⟩ (λ_ _ _ _ _ _=>(qg 0)) (λ_ _ _ _ _=>qV) (λ_ _ _ _ _=>(qo Yi (ql (qa (qv 1) qn)) (qv 0)))) qn))))) (q1 (qr (qv 2)))))),?_⟩;refine 018;cases m with
 | zero =>
   refine Za (decide_eq_true rfl) ?_;exact⟨zl0,λq G1 s1 W U=>⟨zl1,λD G2 s2 m2 e2=>kk D G2 (s1.trans s2) (s1.free m2) (by
    rw[Pw.QS];exact (ZU.one (row:=[]) (X:=D) (zo U m2) (s2 _ _ U)).Z4E e2 (Xg.one W))⟩⟩
 | succ m =>
   refine Ze (decide_eq_false (by simp;lia)) ?_;refine⟨zl0,λD G1 s1 W U=>?_⟩;refine⟨_,rfl,p,_,rfl,zJ.of (s1 _ _ ep),?_⟩;refine Z0G (K:=K) (a:=p) (xs:=l.map V.int) (λj σ G=>zu H G/\∃ (us:List V) (v3 v4:Option V),G D=some (.lst us)/\ZU G (Pw.xC l m j) us D/\Xg H us/\σ=[some (.ref p),some (.int ((m+1:Nat):Int)),some 025,v3,v4]) ?_ ?_ ?_ ?_;exact⟨s1,[],none,none,U,ZU.nil _ _,Xg.nil _,rfl⟩;rintro j σ G ⟨O,_⟩;exact zJ.of (O _ _ ep)
   · rintro j u σ G T' G' Y hj ⟨O,us,v3,v4,eD,N,nU,rfl⟩ mT sT eT
     rw[Z00] at hj;have hju:u=.int (l.getD j 0):=by
      rw[Z1a,Xa hj] at Y;cases Y;rfl
     subst hju;have I:=sT _ _ eD;have t:zu H G':=O.trans sT;have rD':=N.keep (H':=G') λb o e _=>sT _ _ e;refine⟨T',_,rfl,zO.of eT,rfl,_,_,rfl,_,_,rfl,rfl,?_⟩;refine⟨_,rfl,.inl ⟨rfl,_,zJ.of I⟩,_,rfl,_,rfl,_,_,rfl,rfl,_,rfl,p,_,rfl,zJ.of (t _ _ ep),λq hq=>?_⟩;have s2:zu G' (upd G' q (.lst (yO (l.map V.int) (some (((j:Nat):Int)+1)) none))):=zu.new hq;have e2:(upd G' q (.lst (yO (l.map V.int) (some (((j:Nat):Int)+1)) none))) q=some (.lst ((l.drop (j+1)).map V.int)):=by
      rw[zq,Z1N (by rw[Z00];exact hj),List.map_drop]
     generalize upd G' q (.lst (yO (l.map V.int) (some (((j:Nat):Int)+1)) none))=G2 at s2 e2;refine⟨_,rfl,_,_,rfl,rfl,m,00,q,l.drop (j+1),?_,e2,by rw[Z31];lia,λC G3 s3 m3 hM=>?_⟩;show [V.ref q,V.int (((m+1:Nat):Int) - 1)]=[V.ref q,V.int ((m:Nat):Int)];rw[show ((m+1:Nat):Int) - 1=((m:Nat):Int) by lia];obtain⟨cs,eC,lC,rC,_⟩:=hM;refine⟨C,rfl,⟨cs,zJ.of eC⟩,λE hE=>?_⟩;have L:=s3 _ _ (s2 _ _ I);have hED:D≠E:=zo L hE;have few2:=Pw.VG (l.drop (j+1)) m;have few3:2 ^ (l.drop (j+1)).length<=2 ^ 12:=Z3K 01 (by rw[Z31];lia);refine Z6 (K:=K) (a:=C) (D:=E) (xs:=cs) (λi ys σ G=>zu G3 G/\G E=some 034/\(∃ ws:List V,ys=ws/\ZU G (((Pw.Xn (l.drop (j+1)) m).map (l.getD j 0 :: ·)).take i) ws D/\(∀ w∈ws,w≠.ref E)/\Xg H ws)/\∃ r,σ=[r,some (.int (l.getD j 0))]) ?_ ?_ ?_ ?_
     exact⟨zu.new hE,zq,⟨[],rfl,ZU.nil _ _,λw hw=>by simp at hw,Xg.nil _⟩,none,rfl⟩;rintro i ys σ G ⟨J,Z,_⟩;exact⟨zJ.of (J _ _ eC),Z⟩
     · rintro i u ys σ G Y hi ⟨J,Z,⟨ws,rfl,rg,ng,nW⟩,r0,rfl⟩
       have d:i<(Pw.Xn (l.drop (j+1)) m).length:=00;obtain⟨r,er,fr⟩:=rC i _ (Z02 d);rw[Y] at er;cases er;dsimp only [ZF];rw[if_pos rfl];refine⟨_,rfl,zl1,λq1 G4 s4 m4 e4=>⟨_,rfl,q1,r,_,_,rfl,rfl,e4,s4 _ _ (J _ _ fr),?_,λq2 G5 s5 R e5=>?_⟩⟩;have:=Pw.JQ (Z29 d);rw[sizeLine_eq,Z00,this];have h3:=(Pw.Ym.mp (Z29 d)).1.length_le;rw[Z31] at h3;simp only[Z09,Z5q];lia;have A:=s4.trans s5;have eE5:=A _ _ Z;have nE:q2≠E:=(by rintro rfl;rw[s4 _ _ Z] at R;cases R);have nD:q2≠D:=(by rintro rfl;rw[s4 _ _ (J _ _ L)] at R;cases R);refine⟨eE5,?_,Wt.next hi ⟨λb o e=>?_,zq,⟨_,rfl,?_,?_,nW.append (Xg.one (t.free (s2.free (s3.free (J.free (s4.free R))))))⟩,_,rfl⟩⟩;have:=rg.1;rw[Z22,Z00] at this;rw[sizeLine_eq];lia;rw[zC (zo e hE)];exact A _ _ (J _ _ e);rw[Z35,Z1a,Z02 d];have y:∀ {G':Hp}{o:HO}{Fs:List (List Int)}{vs:List V},ZU G' Fs vs D->(∀ v∈vs,v≠.ref E)->ZU (upd G' E o) Fs vs D:=λ{G' o Fs vs} h hn=>⟨h.1,λi row e=>by
        obtain⟨r,a,n,b⟩:=h.2 i row e;exact⟨r,a,n,by rw[zC (λz=>hn _ (Z2u a) (by rw[z]))];exact b⟩⟩
       refine y ((rg.keep λb o e _=>A _ _ e).append (ZU.one nD e5)) λv c=>?_;rcases Z1y.mp c with c | c;exact ng v c;rw[Z04.mp c];intro z;cases z;exact nE rfl;intro v c;rcases Z1y.mp c with c | c;exact ng v c;rw[Z04.mp c];intro z;cases z;exact nE rfl
     rintro ys σ G4 ⟨s4,e4,⟨ws,rfl,r4,n4,nW⟩,_⟩;rw[lC,Z18 (by rw[Z00];exact Z01 _)] at r4;have B:=s2.trans (s3.trans s4);have eD4:=B _ _ I;have l1:=N.1;have l2:=r4.1;have l3:=Pw.z1H l m j;rw[Z00] at l2;have l4:j * 2 ^ l.length<=12 * 2 ^ 12:=Nat.mul_le_mul 00 (Z3K 01 l12);refine⟨D,E,us,ys,rfl,rfl,eD4,e4,?_,?_⟩;rw[sizeLine_eq];lia;refine⟨λb o e=>?_,us ++ ys,_,_,zq,?_,nU.append nW,rfl⟩;rw[zC (zo e W)];exact B _ _ (t _ _ e);rw[Pw.vY];exact ((rD'.keep λb o e _=>B _ _ e).append r4).keep λb o e nb=>by rw[zC nb];exact e
   rintro σ G ⟨O,us,v3,v4,eD,N,nU,rfl⟩;rw[Z00,Pw.Ue] at N;exact⟨_,rfl,kk D G O W (N.Z4E eD nU)⟩
def Xr{mg:SV}(S:ZE K mg "choices" YK ["places","many"])(T:Txt mg):∀ M:Nat,Def P w K mg base (M+1) "choices" ["places","many"] (Jb K M)
 | 0=>jg S T (S.bot (λvs H Q E h=>by obtain⟨a,e,_⟩:=h;lia) 0)
 | M+1=>jg S T ((Xr S T M).imp λvs H Q E h=>by
     obtain⟨a,e,h⟩:=h;exact⟨a,00,h⟩)
def z2w:zB ["one","other"] ["one","other"] (zh vE):=fs
def z5m{mg:SV}(S:ZE K mg "is_less" vE ["one","other"])(T:Txt mg) :Def P w K mg base 1 "is_less" ["one","other"] (z2v K):=S.def λf fd F=>by
 refine F.yy z2w λnd cdv A' outer s H vs Q E hr h=>?_;obtain⟨p,q,A,B,rfl,fA,a,sa,sb,k⟩:=h;refine⟨_,(q1 (qr (qe Xy (qo ZW 033 (qx zG (qv 1) qi)) (qo ZW (qx zG (qv 1) qi) 033)))),?_⟩;exact⟨_,rfl,p,_,_,_,rfl,rfl,SqF.of fA,rfl,_,rfl,q,_,_,_,rfl,rfl,SqF.of a,rfl,_,_,rfl,rfl,⟨sa.1.mono 01,sb.2.mono 01⟩,_,rfl,q,_,_,_,rfl,rfl,SqF.of a,rfl,_,rfl,p,_,_,_,rfl,rfl,SqF.of fA,rfl,_,_,rfl,rfl,⟨sb.1.mono 01,sa.2.mono 01⟩,_,_,rfl,rfl,k⟩
def z5G:zB ["web","chosen","page","place"] ["web","chosen","page"] (zh uS):=fs
def z6C{mg:SV}(S:ZE K mg "linked" uS ["web","chosen","page"])(T:Txt mg)(Wi:Def P w K mg base 1 "with_link" ["web","one","other"] (Jm K)):Def P w K mg base 2 "linked" ["web","chosen","page"] (z1a K):=S.def λf fd F=>by
 refine F.yy z5G λnd cdv A' outer s H vs Q E hr h=>?_;obtain⟨z,C,n,x,ps,row,rfl,y,r,few,k⟩:=h;refine⟨_,(qc (qF (qL (qv 1)) (qg 3) (q1 (qs 0 (qd Wi (qa (qv 0) (qa (qv 3) (qa (qv 2) qn))))))) (q1 (qr (qv 0)))),?_⟩;refine⟨_,rfl,C,rfl,⟨_,zJ.of r⟩,?_⟩;refine Yw (K:=K) (a:=C) (xs:=row.map V.int) (λj σ G=>zu H G/\∃ (c:Addr) (ms:LI) (v:Option V),ZP K G c n ms/\ms.Perm (ps ++ Pw.toL x (row.take j))/\σ=[some (.ref c),some 035,some (.int (x:Int)),v]) ?_ ?_ ?_ ?_;exact⟨zu.refl _,z,ps,none,y,by unfold Pw.toL;simp,rfl⟩;rintro j σ G _ h;exact zJ.of (h.1 _ _ r);rintro j u σ G i ⟨q,c,ms,v,m,d,rfl⟩;have t:j<row.length:=by have:=(Z15.mp i).1;rw[Z00] at this;exact this
 rw[Z1a,Z02 t] at i;cases i;have D:ms.length<=60:=by
  have:=d.length_eq;unfold Pw.toL at this;rw[Z14,Z00,Z22] at this;lia
 refine⟨_,rfl,_,rfl,_,rfl,c,n,row[j],(x:Int),ms,rfl,m,00,λb G8 l A I p o B=>⟨q.trans A,b,l,_,p,?_,rfl⟩⟩;refine o.trans ((d.append_right _).trans ?_);rw[Z25,Z35,Z02 t];unfold Pw.toL;rw[show (Option.toList (some row[j]))=[row[j]] from rfl,Z16];exact List.Perm.refl _;rintro σ G ⟨q,c,ms,v,m,d,rfl⟩;rw[Z00,Z18 (Z01 _)] at d;exact⟨_,rfl,k c G ms q m d⟩
def z1p:zB ["web","leap","leaps","one","other","row"] ["web","leap","leaps","one","other"] (zh X4):=fs
def z1Z{mg:SV}(S:ZE K mg "is_ahead" X4 ["web","leap","leaps","one","other"])(T:Txt mg)(Sh:Def P w K mg base 6 "shares_shares" ["web","leap","leaps"] (Z1O K))(Il:Def P w K mg base 1 "is_less" ["one","other"] (z2v K)):Def P w K mg base 7 "is_ahead" ["web","leap","leaps","one","other"] (z3Y K):=S.def λf fd F=>by
 refine F.yy z1p λnd cdv A' outer s H vs Q E hr h=>?_;obtain⟨b,lp,ls,n,x,y,ps,A,Bs,us,S,rfl,i,o,m,k⟩:=h;refine⟨_,(qc (qs 5 (qd Sh (qa (qv 0) (qa (qv 1) (qa (qv 2) qn))))) (q1 (qr (qd Il (qa (qx zG (qv 5) (qv 4)) (qa (qx zG (qv 5) (qv 3)) qn)))))),?_⟩;refine⟨_,rfl,_,rfl,_,rfl,b,lp,ls,n,ps,A,Bs,us,S,rfl,i,λt G1 Ss ys ok sz s1 a f1=>?_⟩;have hl:=ok.len;obtain⟨p,c,fp⟩:=f1.at (j:=y) (A:=Ss.getD y (0,1)) (by rw[Z06,Z02 00];rfl);obtain⟨q,eq,l⟩:=f1.at (j:=x) (A:=Ss.getD x (0,1)) (by rw[Z06,Z02 00];rfl);have mp:=mem_getD (Bs:=Ss) (t:=y) 00;have d:=mem_getD (Bs:=Ss) (t:=x) 00;exact⟨_,rfl,_,rfl,ixt (zO.of a) (zS c) ⟨_,rfl,_,rfl,ixt (zO.of a) (zS eq) ⟨p,q,_,_,rfl,fp,l,(sz _ mp).mono 01,(sz _ d).mono 01,k G1 Ss ok s1⟩⟩⟩
def VU:zB ["web","leap","leaps","one","other","places","rising","many","chosen"] ["web","leap","leaps","one","other","places"] (zh Yo):=fs
def Uv{mg:SV}(S:ZE K mg "least_links" Yo ["web","leap","leaps","one","other","places"])(T:Txt mg)(Ch:Def P w K mg base 13 "choices" ["places","many"] (Jb K 12))(Lk:Def P w K mg base 2 "linked" ["web","chosen","page"] (z1a K))(Ah:Def P w K mg base 7 "is_ahead" ["web","leap","leaps","one","other"] (z3Y K)):Def P w K mg base 14 "least_links" ["web","leap","leaps","one","other","places"] (Qx K):=S.def λf fd F=>by
 refine F.yy VU λnd cdv A' outer s H vs Q E hr h=>?_;obtain⟨U,lp,ls,pl,n,x,y,ps,A,Bs,us,S,l,ris,rfl,i,hx,hy,few,el,l12,hr0,pmr,O,kN,kS⟩:=h;refine⟨_,(qc (qs 6 (qy UJ T.srt boot_sorted (qa (qv 5) qn))) (qc (qF (qR T.range (qa (qo yN (qy zP T.len Z30 (qa (qv 6) qn)) qi) qn)) (qg 7) (q1 (qF (qL (qd Ch (qa (qv 6) (qa (qv 7) qn)))) (qg 8) (q1 (qf (qp (qd Ah (qa (qd Lk (qa (qv 0) (qa (qv 8) (qa (qv 3) qn)))) (qa (qv 1) (qa (qv 2) (qa (qv 3) (qa (qv 4) qn))))))) (q1 (qr (qv 8))) q0))))) (q1 (qr ⟨vh⟩)))),?_⟩;have ca:=i.g.ca;have cb:=i.g.cb;have hb:Bs.length=n:=by have:=i.g.len;lia
 have pr:=i.pr;refine⟨_,rfl,pl,l,rfl,zJ.of el,00,λrs R G1 I Y s1 m1 e1=>?_⟩;have ers:rs=ris:=z4M (I.trans pmr.symm) Y O;subst ers;have lr:rs.length=l.length:=I.length_eq;have hrr:∀ r∈rs,0<=r/\r<(n:Int):=λr hr=>hr0 r (I.mem_iff.mp hr);have X:(rs.map V.int).length=rs.length:=Z00 ..;refine⟨_,rfl,R,_,rfl,.inl (zJ.of e1),_,_,rfl,rfl,_,rfl,00,00,?_⟩;rw[X];have hN:(((rs.length:Nat):Int)+1).toNat=rs.length+1:=00
 rw[hN];refine xY (lo:=0) (n:=rs.length+1) (λm σ G=>zu H G/\G R=some (.lst (rs.map V.int))/\(∀ J r,J<m->r∈Pw.Xn rs J->¬ Pw.UQ ps A Bs n x y r)/\∃ (v7 D:Option V),σ=[some (.ref U),some (.ref lp),some (.ref ls),some (.int (x:Int)),some (.int (y:Int)),some (.ref pl),some (.ref R),v7,D]) ?_ ?_ ?_;exact⟨s1,e1,λJ r h=>absurd h (Z47 _),none,none,rfl⟩;rintro m σ G hm ⟨N,eR,B,v7,D,rfl⟩;rw[Int.zero_add];refine⟨_,rfl,_,rfl,m,00,R,rs,rfl,eR,00,λC G2 s2 m2 hM=>?_⟩;obtain⟨cs,eC,lC,rC,nC⟩:=hM;refine⟨C,rfl,⟨cs,zJ.of eC⟩,?_⟩;refine Yw (K:=K) (a:=C) (xs:=cs) (λj σ G'=>zu G2 G'/\(∀ v r,v<j->(Pw.Xn rs m)[v]?=some r->¬ Pw.UQ ps A Bs n x y r)/\∃ D:Option V,σ=[some (.ref U),some (.ref lp),some (.ref ls),some (.int (x:Int)),some (.int (y:Int)),some (.ref pl),some (.ref R),some (.int ((m:Nat):Int)),D]) ?_ ?_ ?_ ?_;exact⟨zu.refl _,λv r h=>absurd h (Z47 _),D,rfl⟩;rintro j σ G' _ h;exact zJ.of (h.1 _ _ eC);rintro j u σ G' hu ⟨c,o,D,rfl⟩;have hj:j<cs.length:=(Z15.mp hu).1;have t:j<(Pw.Xn rs m).length:=00
 obtain⟨r,er,fr⟩:=rC j _ (Z02 t);rw[hu] at er;cases er;have sub:=(Pw.Ym.mp (Z29 t)).1;have d:∀ q∈(Pw.Xn rs m)[j],0<=q/\q<(n:Int):=λq hq=>hrr q (sub.subset hq);have lrow:=sub.length_le;have s2':=s2.trans c;have sH:=N.trans s2';have i2:=i.same sH;refine⟨_,rfl,_,rfl,_,rfl,U,r,(n:Int),x,ps,(Pw.Xn rs m)[j],rfl,i2.g.web,c _ _ fr,00,λb G3 ms s3 Z M=>?_⟩;have i3:=(i2.same s3).links (row:=(Pw.Xn rs m)[j]) 00 hx d Z M;refine⟨_,rfl,_,rfl,_,rfl,_,rfl,b,lp,ls,n,x,y,ms,A,Bs,us,S,rfl,i3,hx,hy,λG4 Ss W s4=>⟨_,rfl,?_⟩⟩;have iff:=Pw.z6z (y:=y) ca cb hb pr (λp hp=>(i3.g.lk p hp).2.2) M W;refine if2 (λh=>?_) (λh=>?_);refine⟨_,rfl,kS r G4 _ m j (sH.trans (s3.trans s4)) (N.free (nC r (Z2u hu))) (s4 _ _ (s3 _ _ (c _ _ fr))) (Z02 t) (iff.mpr h) B o⟩;refine⟨c.trans (s3.trans s4),λv r' L k=>?_,_,rfl⟩;by_cases e:v<j;exact o v r' e k;have:v=j:=00
 subst this;rw[Z02 t] at k;cases k;intro z;rw[iff.mp z] at h;cases h;rintro σ G' ⟨c,o,D,rfl⟩;refine⟨N.trans (s2.trans c),c _ _ (s2 _ _ eR),λJ r hm' k=>?_,_,_,rfl⟩;by_cases e:J<m;exact B J r e k;have:J=m:=00
 subst this;obtain⟨v,L,e'⟩:=Z4e k;exact o v r 00 (by rw[Z02 L,e']);rintro σ G ⟨N,eR,B,v7,D,rfl⟩;refine kN G N λm row d=>?_;have:=Pw.Ym.mp d;have h2:=this.1.length_le;exact B m row 00 d
open L2
def Vf:zB ["number","pieces"] ["number"] (zh yZ):=fs
def VQ{mg:SV}(S:ZE K mg "show_figures" yZ ["number"])(T:Txt mg)(zstr:mg "str"=none)(zrev:mg "reversed"=none):Def P w K mg base 1 "show_figures" ["number"] uH:=S.def λf fd F=>by
 refine F.yy Vf λnd cdv A' outer s H vs Q E hr h=>?_;obtain⟨n,rfl,hn,k⟩:=h;refine⟨_,(qc (qs 1 (ql qn)) (qc ⟨z1f PassesOwn.never (ZV Uh (pv 0) (Zj uM zF zF) (yj _)) (@z9 _ _ _ _ _ (Jh (z3l Z48 PySem.F.slot_list_append PySem.F.type_list_append yG (pv 1) (@ze _ _ _ _ _ 02 (z3l Z21 PySem.F.slot_str_zfill PySem.F.type_str_zfill z6y (vd yc 02 zstr boot_str (@ze _ _ _ _ _ 02 (Zj xP (pv 0) (Zj uM zF zF)) zw)) (@ze _ _ _ _ _ 02 zF zw)) zw))) (@zU _ _ _ (@Zi _ _ 0 _ _ _ _ 02 09 nd rfl 09 (Zj yR (pv 0) (Zj uM zF zF)))))⟩ (qc (qX (qm Z48 PySem.F.slot_list_append PySem.F.type_list_append yG (qv 1) (qa (qY yc zstr boot_str (qa (qv 0) qn)) qn))) (q1 (qr ⟨z0q rfl 02 zrev 030⟩))))),?_⟩;refine zD λRR d=>?_;refine⟨zl0,λb G1 s1 L W=>?_⟩;show RR [_,_] _;subst d;refine zD λRR d=>?_;have a:((10:Int) ^ (Int.toNat 60))=((10 ^ 60:Nat):Int):=rfl;have p:0<10 ^ 60:=Nat.pow_pos 01;have M:∀ u:Nat,(Pw.pkS 60 u).cps.size=60:=λu=>by unfold Pw.pkS;rw[Z05,Pw.z3h]
 refine z4I (λσ G=>zu H G/\∃ (m:Nat) (us:List Str),G b=some (.lst (us.map V.str))/\m<2 ^ 1990/\(∀ u∈us,u.cps.size<=60)/\us.length * 60+(Pw.ns (m:Int)).cps.size<=600/\Txt.join (Str.ofString "") (Pw.ns (m:Int) :: us.reverse)=Pw.ns (n:Int)/\σ=[some (.int (m:Int)),some (.ref b)]) (λσ _=>match σ with | some (.int m) :: _=>m.toNat | _=>0) ?_ ?_
 exact⟨s1,n,[],W,hn,λu h=>by simp at h,by have:=z2W hn;simp only[Z5q];lia,rfl,rfl⟩;rintro B Z σ G ⟨U,m,us,t,hm,R,X,N,rfl⟩;refine⟨_,rfl,_,_,rfl,rfl,⟨01,01,01⟩,_,_,rfl,rfl,_,rfl,if2 (λh=>?_) (λh=>?_)⟩;have h:((10:Int) ^ (Int.toNat 60))<=(m:Int):=of_decide_eq_true h;rw[a] at h;have h:10 ^ 60<=m:=00
 have hd:=Nat.div_add_mod m (10 ^ 60);have hr:=Nat.mod_lt m p;have J:0<m / 10 ^ 60:=Nat.div_pos h p;have j:m / 10 ^ 60<m:=Nat.div_lt_self 00 01;have i:=Pw.z0P J hr;rw[show m / 10 ^ 60 * 10 ^ 60+m % 10 ^ 60=m by rw[Nat.mul_comm];exact hd] at i;have Y:(Pw.ns (m:Int)).cps.size=(Pw.ns ((m / 10 ^ 60:Nat):Int)).cps.size+60:=by rw[i,zK,M]
 have O:(Pw.ns ((m / 10 ^ 60:Nat):Int)).cps.size ≥ 0:=Z19 _;have A:(((m % 10 ^ 60:Nat)):Int).natAbs.log2<1920:=by
  rw[Int.natAbs_natCast];refine lgN ?_;exact Nat.lt_trans hr 03
 have emod:(m:Int) % ((10:Int) ^ (Int.toNat 60))=((m % 10 ^ 60:Nat):Int):=by rw[a];exact (Int.natCast_emod ..).symm
 have ediv:(m:Int).fdiv ((10:Int) ^ (Int.toNat 60))=((m / 10 ^ 60:Nat):Int):=by
  rw[a,Z42 _ 00];exact (Int.natCast_ediv ..).symm
 have l:=Pw.z8H J hr (show m=m / 10 ^ 60 * 10 ^ 60+m % 10 ^ 60 by rw[Nat.mul_comm];exact hd.symm) us.reverse;rw[N] at l;have C:m / 10 ^ 60<2 ^ 1990:=Nat.lt_trans j hm;generalize hQ:m / 10 ^ 60=q at *;generalize hRm:m % 10 ^ 60=r at *;refine⟨_,wN,?_⟩;subst Z;refine zD λR2 y=>?_;refine⟨_,rfl,.inl ⟨rfl,_,zJ.of t⟩,_,rfl,_,_,rfl,rfl,⟨01,01,01⟩,_,_,rfl,rfl,(by rw[a];lia),(r:Int),congrArg (λz=>[V.int z]) emod,A,rfl,r,rfl,rfl,hr,b,_,_,rfl,rfl,t,?_,?_⟩;rw[Z00,sizeLine_eq];lia;show R2 [_,_] _;subst y;refine⟨_,rfl,_,_,rfl,rfl,⟨01,01,01⟩,_,_,rfl,rfl,?_,?_⟩;exact⟨by rw[a];lia,by rw[a];show (10 ^ 60:Nat)<2 ^ _;decide +kernel⟩;refine⟨⟨λc o e=>by rw[zC (zo e L)];exact U _ _ e,q,us ++ [Pw.pkS 60 r],?_,C,?_,?_,?_,congrArg (λz=>[some (V.int z),some (V.ref b)]) ediv⟩,?_⟩;rw[zq,Z16];rfl;intro u I;rcases Z1y.mp I with z | z;exact R u z;rw[Z04.mp z,M];exact Z01 _;rw[Z14,Z39];lia;rw[List.reverse_append];exact l;show ((m:Int).fdiv ((10:Int) ^ (Int.toNat 60))).toNat<(m:Int).toNat;rw[ediv,Z3o,Z3o];exact j;show RR [_,_] _;subst d;have h:¬ ((10:Int) ^ (Int.toNat 60))<=(m:Int):=of_decide_eq_false h;rw[a] at h;have h:m<10 ^ 60:=00
 have D:((m:Nat):Int).natAbs.log2<1920:=by
  rw[Int.natAbs_natCast];refine lgN ?_;exact Nat.lt_trans h 03
 refine⟨_,rfl,.inl ⟨rfl,_,zJ.of t⟩,_,rfl,(m:Int),rfl,D,b,_,_,rfl,rfl,t,?_,?_⟩;rw[Z00,sizeLine_eq];lia;have m5:∀ z∈(us ++ [Pw.ns (m:Int)]).reverse,z.cps.size<=600:=λz O=>by
  rcases Z1y.mp (List.mem_reverse.mp O) with v | v;exact Z0X (R z v) 01;rw[Z04.mp v];lia
 have zn:(Str.ofString "").cps.size=0:=03
 refine⟨_,rfl,b,us ++ [Pw.ns (m:Int)],rfl,?_,?_,z2O m5 ?_,?_⟩;rw[zq,Z16];rfl;rw[Z14,Z39];lia;rw[List.length_reverse,Z14,Z39,zn];have:us.length<=10:=00
 have:=Z5h (600+0) (show us.length+1<=11 by lia);lia;rw[List.reverse_append];show Q (.str (Txt.join (Str.ofString "") (Pw.ns (m:Int) :: us.reverse))) _;rw[N];exact k _ λc o e=>by rw[zC (zo e L)];exact U _ _ e
def uJ:zB ["number"] ["number"] (zh Ys):=fs
def UM{mg:SV}(S:ZE K mg "show_number" Ys ["number"])(T:Txt mg)(Sf:Def P w K mg base 1 "show_figures" ["number"] uH):Def P w K mg base 2 "show_number" ["number"] J2:=S.def λf fd F=>by
 refine F.yy uJ λnd cdv A' outer s H vs Q E hr h=>?_;obtain⟨n,rfl,hn,k⟩:=h;refine⟨_,(qc (qf (qk Xy (qv 0) qi) (q1 (qr (qo zW qw (qd Sf (qa ⟨z4q JN (pv 0)⟩ qn))))) q0) (q1 (qr (qd Sf (qa (qv 0) qn))))),?_⟩;refine⟨_,rfl,_,_,rfl,rfl,_,rfl,Ze (decide_eq_false 00) ?_⟩;exact⟨_,rfl,n,rfl,hn,k⟩
def vH:zB ["fraction"] ["fraction"] (zh yx):=fs
def Vb{mg:SV}(S:ZE K mg "show_fraction" yx ["fraction"])(T:Txt mg)(Sn:Def P w K mg base 2 "show_number" ["number"] J2):Def P w K mg base 3 "show_fraction" ["fraction"] (z3v K):=S.def λf fd F=>by
 refine F.yy vH λnd cdv A' outer s H vs Q E hr h=>?_;obtain⟨p,A,rfl,c,i,j,d,k⟩:=h;refine⟨_,(q1 (qr (qo zW (qo zW (qd Sn (qa 033 qn)) qw) (qd Sn (qa 033 qn))))),?_⟩;obtain⟨a1,a2⟩:=A;obtain⟨a,rfl⟩:∃ m:Nat,a1=(m:Int):=⟨a1.toNat,by simp only at i;lia⟩;obtain⟨b,rfl⟩:∃ m:Nat,a2=(m:Int):=⟨a2.toNat,by simp only at j;lia⟩;have b1:a<2 ^ 1990:=Z0N (show a<2 ^ 1983 from d.1) (Z3K 01 01);have b2:b<2 ^ 1990:=Z0N (show b<2 ^ 1983 from d.2) (Z3K 01 01);have n:=z2W b1;have o:=z2W b2;have l:(Str.ofString "/").cps.size=1:=03
 refine⟨_,rfl,Zu c rfl ⟨a,rfl,b1,λG s=>⟨_,_,rfl,rfl,(by rw[QG,QG,sizeLine_eq];lia),?_⟩⟩⟩;refine⟨_,rfl,p,_,_,_,rfl,rfl,SqF.same c s,rfl,b,rfl,b2,λG2 s2=>⟨_,_,rfl,rfl,(by rw[QG,QG,zK,sizeLine_eq];lia),k G2 (s.trans s2)⟩⟩
def z5C:zB ["pages"] ["pages"] (zh Qo):=fs
def z8L{mg:SV}(S:ZE K mg "parted" Qo ["pages"])(T:Txt mg)(zstr:mg "str"=none):Def P w K mg base 1 "parted" ["pages"] (z3Q K):=S.def λf fd F=>by
 refine F.yy z5C λnd cdv A' outer s H vs Q E hr h=>?_;obtain⟨L,l,rfl,q,y,n,k⟩:=h;refine⟨_,(q1 (qr (qm Z21 PySem.F.slot_str_join PySem.F.type_str_join (z0o (K:=K) rfl) qw (qa (qG (zh Qo) ["page"] [none] (qL (qv 0)) trivial (λ_ _ _ _ _ _=>(qg 0)) (λ_ _ _ _ _=>qV) (λ_ _ _ _ _=>(qY yc zstr boot_str (qa (qv 0) qn)))) qn)))),?_⟩;have t:∀ i:Int,0<=i->i<100->i.natAbs.log2<1920:=λi h0 I=>Z53 (Nat.log2_le_self _) 00;refine⟨rfl,_,rfl,L,rfl,⟨_,q⟩,λD m=>?_⟩;refine Z6 (K:=K) (a:=L) (D:=D) (xs:=l.map V.int) (λi ys σ G=>zu H G/\G D=some 034/\ys=((l.take i).map Pw.ns).map V.str/\∃ v,σ=[v]) ?_ ?_ ?_ ?_;exact⟨zu.new m,zq,rfl,none,rfl⟩;rintro i ys σ G ⟨c,e,_⟩;exact⟨c.seq q,e⟩
 · rintro i u ys σ G j hi ⟨c,d,rfl,v,rfl⟩
   rw[Z00] at hi;rw[Z1a,Z02 hi] at j;cases j;have b:=n _ (Z29 hi);dsimp only [ZF];refine Za rfl ?_;refine⟨_,rfl,l[i],rfl,t _ b.1 b.2,d,(by rw[Z00,Z00,Z22,sizeLine_eq];lia),Wt.next (by rw[Z00];exact hi) ⟨λb o e=>by rw[zC (zo e m)];exact c _ _ e,zq,?_,_,rfl⟩⟩;rw[Z35,Z02 hi,Z16,Z16];rfl
 rintro ys σ G ⟨c,d,rfl,_⟩;rw[Z00,Z18 (Z01 _)] at d;have A:∀ z∈l.map Pw.ns,z.cps.size<=6:=λz h=>by
  obtain⟨p,B,rfl⟩:=Z23.mp h;have r:=n p B;have C:=ZL r.1 (show p<=99 by lia);show (Str.ofString (toString p)).cps.size<=6;lia
 have zn:(Str.ofString " ").cps.size=1:=03
 refine⟨_,D,_,rfl,rfl,zJ.of d,z2O A ?_,?_⟩;rw[Z00,zn];lia;exact k G c
def Xs:zB ["live","page"] ["live","page"] (zh YM):=fs
def JR{mg:SV}(S:ZE K mg "check_page" YM ["live","page"])(T:Txt mg)(LT:UO K C)(XL:V9 K mg "NoLink" Xl)(Wl:ZC P w K mg base yV 1 C "web" ["self"] (Q4 K C)):Z9 P w K mg base (ye P w Xl) 2 "check_page" ["live","page"] (z2x K C Xl):=S.Vl λf fd F=>by
 have nd:=Xs.nd;refine F.okN Xs 017 08;obtain⟨_,_,_,_,_,_,rfl,_⟩:=h;rfl;obtain⟨p,pd,lp,W,Ws,x,rfl,l,k,b⟩:=h;refine⟨_,@qz _ _ _ (q1 (qf (qk Uh (qv 1) (qx zG (q2 (qv 0) LT.cl Wl) qi)) (q1 ⟨ZA XL 02 012 02 02 01⟩) q0)),?_⟩;obtain⟨now,us,lv,hw,j⟩:=id l;obtain⟨⟨dx,d⟩,m⟩:=id lv;refine⟨_,rfl,_,rfl,p,dx,_,rfl,d,Z4 _ _ _ 03 03 03,p,pd,lp,W,Ws,rfl,l,λa ha=>?_⟩;obtain⟨t,ws,c,i,n⟩:=id ha;refine Zu (zO.of c) rfl ⟨_,_,rfl,rfl,_,rfl,?_⟩;by_cases hx:x<W.1;exact Ze (decide_eq_false 00) (k hx H (zu.refl _));refine Za (decide_eq_true 00) ⟨021,b hx H (zu.refl _)⟩
def vP:zB ["live","pages"] ["live","pages"] (zh XD):=fs
def z2q{mg:SV}(S:ZE K mg "say_link" XD ["live","pages"])(T:Txt mg)(LT:UO K C)(i:mg "DONE"=some (.str U4 tD))(Li:ZC P w K mg base (ye P w Xl) 5 C "link" ["self","one","other"] (z0N K C Xl)):Z9 P w K mg base (ye P w Xl) 6 "say_link" ["live","pages"] (z4s K C Xl):=S.Vl λf fd F=>by
 have nd:=vP.nd;refine F.okN vP 017 08;obtain⟨_,_,_,_,_,_,_,_,rfl,_⟩:=h;rfl;obtain⟨p,pd,lp,L,W,Ws,x,y,rfl,b,l,j,a,k,c⟩:=h;refine⟨_,@qz _ _ _ (qc (qX ⟨Zt 02 02 02 (pv 0) LT.cl Li 014 Yx (@ze _ _ _ _ _ 02 (Zg zI (pv 1) zF 028) (@ze _ _ _ _ _ 02 (Zg zI (pv 1) zF 028) zw))⟩) (q1 (qr ⟨Zp (v:=.str U4) 02 i ⟨_,rfl⟩⟩))),?_⟩;obtain⟨now,us,lv,hw,m⟩:=id l;obtain⟨⟨dx,d⟩,n⟩:=id lv;refine⟨_,rfl,p,dx,_,rfl,d,Z4 _ _ _ 03 03 03,_,rfl,Z3 (zJ.of b) rfl ⟨_,rfl,Z3 (zJ.of b) rfl ⟨p,pd,lp,W,Ws,x,y,rfl,l,j,a,k,c⟩⟩⟩
def Xz:zB ["live","pages"] ["live","pages"] (zh YN):=fs
def jR{mg:SV}(S:ZE K mg "say_unlink" YN ["live","pages"])(T:Txt mg)(LT:UO K C)(i:mg "DONE"=some (.str U4 tD))(Un:ZC P w K mg base (ye P w Xl) 5 C "unlink" ["self","one","other"] (uC K C Xl)):Z9 P w K mg base (ye P w Xl) 6 "say_unlink" ["live","pages"] (jn K C Xl):=S.Vl λf fd F=>by
 have nd:=Xz.nd;refine F.okN Xz 017 08;obtain⟨_,_,_,_,_,_,_,_,rfl,_⟩:=h;rfl;obtain⟨p,pd,lp,L,W,Ws,x,y,rfl,b,l,j,a,k,c⟩:=h;refine⟨_,@qz _ _ _ (qc (qX ⟨Zt 02 02 02 (pv 0) LT.cl Un 014 Yx (@ze _ _ _ _ _ 02 (Zg zI (pv 1) zF 028) (@ze _ _ _ _ _ 02 (Zg zI (pv 1) zF 028) zw))⟩) (q1 (qr ⟨Zp (v:=.str U4) 02 i ⟨_,rfl⟩⟩))),?_⟩;obtain⟨now,us,lv,hw,m⟩:=id l;obtain⟨⟨dx,d⟩,n⟩:=id lv;refine⟨_,rfl,p,dx,_,rfl,d,Z4 _ _ _ 03 03 03,_,rfl,Z3 (zJ.of b) rfl ⟨_,rfl,Z3 (zJ.of b) rfl ⟨p,pd,lp,W,Ws,x,y,rfl,l,j,a,k,c⟩⟩⟩
def vQ:zB ["live","pages"] ["live","pages"] (zh XE):=fs
def z2E{mg:SV}(S:ZE K mg "say_page" XE ["live","pages"])(T:Txt mg)(LT:UO K C)(zstr:mg "str"=none)(Pa:ZC P w K mg base (ye P w Xl) 2 C "page" ["self"] (z0K K C Xl)):Z9 P w K mg base (ye P w Xl) 3 "say_page" ["live","pages"] (z3N K C Xl):=S.Vl λf fd F=>by
 have nd:=vQ.nd;refine F.okN vQ 017 08;obtain⟨_,_,_,_,_,_,_,rfl,_⟩:=h;rfl;obtain⟨p,pd,lp,L,n,ps,Ws,rfl,l,i,n12,k,c⟩:=h;refine⟨_,@qz _ _ _ (q1 (qr (qY yc zstr boot_str (qa ⟨u4 02 (pv 0) LT.cl Pa 014 Yx⟩ qn)))),?_⟩;obtain⟨now,us,lv,hw,j⟩:=id l;obtain⟨⟨dx,d⟩,m⟩:=id lv;refine⟨_,rfl,p,dx,_,rfl,d,Z4 _ _ _ 03 03 03,p,pd,lp,_,Ws,rfl,l,i,λhn G a k2=>?_,λhn=>c λz=>hn (by show (n:Int)<12;lia)⟩;have hn:n<12:=by have b:(n:Int)<12:=hn;lia
 exact⟨n,rfl,Z53 (Nat.log2_le_self _) 00,k hn G a k2⟩
def z1d:zB ["live","pages"] ["live","pages"] (zh XC):=fs
def z2a{mg:SV}(S:ZE K mg "say_undo" XC ["live","pages"])(T:Txt mg)(LT:UO K C)(c:mg "DONE"=some (.str U4 tD))(Ud:ZC P w K mg base yV 1 C "undo" ["self"] (Jj K C)):Def P w K mg base 2 "say_undo" ["live","pages"] (z3D K C):=S.def λf fd F=>by
 refine F.yy z1d λnd cdv A' outer s H vs Q E hr h=>?_;obtain⟨p,pd,lp,L,W,Ws,rfl,l,k0,k1⟩:=h;refine⟨_,(q1 (qr (q8 (qp (q2 (qv 0) LT.cl Ud)) ⟨Zp (v:=.str U4) 02 c ⟨_,rfl⟩⟩ qw))),?_⟩;obtain⟨now,us,lv,hw,d⟩:=id l;obtain⟨⟨dx,b⟩,i⟩:=id lv;refine⟨_,rfl,p,dx,_,rfl,b,Z4 _ _ _ 03 03 03,p,pd,lp,W,_,rfl,l,λz G s=>?_,λW' Ws' z G a k2=>?_⟩;exact⟨_,rfl,Ze rfl (k0 z G s)⟩;exact⟨_,rfl,Za rfl (k1 W' Ws' z G a k2)⟩
def J0:zB ["live","pages"] ["live","pages"] (zh X3):=fs
def z2e{mg:SV}(S:ZE K mg "say_show" X3 ["live","pages"])(T:Txt mg)(LT:UO K C)(Wl:ZC P w K mg base yV 1 C "web" ["self"] (Q4 K C))(Sw:Def P w K mg base 1 "show_web" ["web"] (Jo K)):Def P w K mg base 2 "say_show" ["live","pages"] (U0 K C):=S.def λf fd F=>by
 refine F.yy J0 λnd cdv A' outer s H vs Q E hr h=>?_;obtain⟨p,pd,lp,L,n,ps,Ws,A,rfl,lv,k⟩:=h;refine⟨_,(q1 (qr (qd Sw (qa (q2 (qv 0) LT.cl Wl) qn)))),?_⟩;obtain⟨now,us,b,hw,d⟩:=id lv.l;obtain⟨⟨dx,c⟩,i⟩:=id b;have n12:=lv.n12;refine⟨_,rfl,p,dx,_,rfl,c,Z4 _ _ _ 03 03 03,p,pd,lp,_,Ws,rfl,lv.l,λa ha=>?_⟩;exact⟨a,(n:Int),ps,rfl,ha,00,00,lv.few,lv.rng,k⟩
open L2
def QT:zB ["live","pages"] ["live","pages"] (zh xO):=fs
def z1v{mg:SV}(S:ZE K mg "say_share" xO ["live","pages"])(T:Txt mg)(LT:UO K C)(Cp:Z9 P w K mg base (ye P w Xl) 2 "check_page" ["live","page"] (z2x K C Xl))(Sh:ZC P w K mg base yV 7 C "shares" ["self"] (jq K C))(Sr:Def P w K mg base 3 "show_fraction" ["fraction"] (z3v K)):Z9 P w K mg base (ye P w Xl) 8 "say_share" ["live","pages"] (z1q K C Xl):=S.Vl λf fd F=>by
 have nd:=QT.nd;refine F.okN QT 017 08;obtain⟨_,_,_,_,_,_,_,_,_,rfl,_⟩:=h;rfl;obtain⟨p,pd,lp,L,n,c,ps,Ws,A,rfl,i,lv,k,o⟩:=h;refine⟨_,@qz _ _ _ (qc (qX ⟨Zz 02 02 02 01 Cp 014 Yx (@ze _ _ _ _ _ 02 (pv 0) (@ze _ _ _ _ _ 02 (Zg zI (pv 1) zF 028) zw))⟩) (q1 (qr (qd Sr (qa (qx zG (q2 (qv 0) LT.cl Sh) (qx zI (qv 1) qi)) qn))))),?_⟩;obtain⟨now,us,b,hw,G⟩:=id lv.l;obtain⟨⟨dx,u⟩,I⟩:=id b;have n12:=lv.n12;have few:=lv.few;refine⟨_,rfl,_,rfl,Z3 (zJ.of i) rfl ⟨p,pd,lp,_,Ws,(c:Int),rfl,lv.l,λa G1 s1=>?_,λa=>o λz=>a (by show (c:Int)<(n:Int);lia)⟩⟩;have a:c<n:=by have r:(c:Int)<(n:Int):=a;lia
 have k:=k a;refine⟨_,rfl,p,dx,_,rfl,s1 _ _ u,Z4 _ _ _ 03 03 03,p,pd,lp,n,ps,Ws,A,rfl,lv.l.same s1,lv.n1,n12,00,lv.rng,s1 _ _ lv.fA,lv.ca,lv.a0,lv.a1,lv.sA,λt G2 Ss ys ok sz s2 m f2=>?_⟩;have D:=ok.len;have d:=mem_getD (Bs:=Ss) (t:=c) 00;obtain⟨q,ex,y⟩:=f2.at (j:=c) (A:=Ss.getD c (0,1)) (by rw[Z06,Z02 00];rfl);have B:=(ok.canon _ d).1;have v:=ok.nn _ d;refine⟨_,rfl,Z3 (zJ.of (s2 _ _ (s1 _ _ i))) rfl (ixt (zO.of m) (zS ex) ⟨q,Ss.getD c (0,1),rfl,SqF.of y,v,00,sz _ d,λG3 s3=>k G3 Ss ok sz (s1.trans (s2.trans s3))⟩)⟩
def z0F:zB ["live","pages"] ["live","pages"] (zh XO):=fs
def z1K{mg:SV}(S:ZE K mg "say_rank" XO ["live","pages"])(T:Txt mg)(LT:UO K C)(Rk:ZC P w K mg base yV 8 C "ranked" ["self"] (U3 K C tb YQ))(Pt:Def P w K mg base 1 "parted" ["pages"] (z3Q K)):Def P w K mg base 9 "say_rank" ["live","pages"] (jf K C tb YQ):=S.def λf fd F=>by
 refine F.yy z0F λnd cdv A' outer s H vs Q E hr h=>?_;obtain⟨p,pd,lp,L,n,ps,Ws,A,rfl,lv,tab,k⟩:=h;refine⟨_,(q1 (qr (qd Pt (qa (q2 (qv 0) LT.cl Rk) qn)))),?_⟩;obtain⟨now,us,d,hw,t⟩:=id lv.l;obtain⟨⟨dx,i⟩,u⟩:=id d;have few:=lv.few;have n12:=lv.n12;refine⟨_,rfl,p,dx,_,rfl,i,Z4 _ _ _ 03 03 03,p,pd,lp,n,ps,Ws,A,rfl,lv.l,lv.n1,n12,00,lv.rng,lv.fA,lv.ca,lv.a0,lv.a1,lv.sA,tab,λD G1 Ss r ok c kp q j a=>?_⟩;have b:z8S r=(r.map λ(k:Nat)=>(k:Int)).map V.int:=by unfold z8S;rw[List.map_map];rfl
 have v:r.length=n:=by rw[c.pm.length_eq,Z36]
 refine⟨D,_,rfl,zJ.of (by rw[j,b]),by rw[Z00];lia,λx o=>?_,λG2 s2=>k G2 Ss r ok c (kp.trans (zu.kpd s2)) (a.same s2)⟩;obtain⟨m,hm,rfl⟩:=Z23.mp o;have:=Z3I.mp (c.pm.mem_iff.mp hm);lia
def vX:zB ["live","pages","web","places","chosen"] ["live","pages"] (zh XZ):=fs
def z2L{mg:SV}(S:ZE K mg "say_pass" XZ ["live","pages"])(T:Txt mg)(LT:UO K C)(XL:V9 K mg "NoLink" Xl)(mM:mg "MOST_PLACES"=some (.int 6 tM))(zmin:mg "min"=none)(Cp:Z9 P w K mg base (ye P w Xl) 2 "check_page" ["live","page"] (z2x K C Xl))(Wl:ZC P w K mg base yV 1 C "web" ["self"] (Q4 K C))(Ev:Def P w K mg base 3 "even" ["web"] (Vv K))(Ll:Def P w K mg base 14 "least_links" ["web","leap","leaps","one","other","places"] (Qx K))(Pt:Def P w K mg base 1 "parted" ["pages"] (z3Q K)):Z9 P w K mg base (ye P w Xl) 15 "say_pass" ["live","pages"] (z3W K C Xl):=S.Vl λf fd F=>by
 have nd:=vX.nd;refine F.okN vX 017 08;obtain⟨_,_,_,_,_,_,_,_,_,_,rfl,_⟩:=h;rfl
 · obtain⟨p,pd,lp,L,n,x,y,ps,Ws,A,rfl,G,lv,k,W⟩:=h
   refine⟨_,@qz _ _ _ (qc (qX ⟨Zz 02 02 02 01 Cp 014 Yx (@ze _ _ _ _ _ 02 (pv 0) (@ze _ _ _ _ _ 02 (Zq (z4A rfl) 02 T.max boot_max 030) zw))⟩) (qc (qf (qk Zf (qx zI (qv 1) qi) (qx zI (qv 1) qi)) (q1 ⟨ZA XL 02 012 02 02 01⟩) q0) (qc (qs 2 (q2 (qv 0) LT.cl Wl)) (qc (qs 3 ⟨z9k rfl rfl T.lst rfl T.range (@ze _ _ _ _ _ 02 (Zq (z5J rfl) 02 zmin boot_min (@ze _ _ _ _ _ 02 (Zp (v:=.int 6) 02 mM ⟨_,rfl⟩) (@ze _ _ _ _ _ 02 (Zg zG (pv 2) zF 028) zw))) zw)⟩) (qc (qs 4 (qd Ll (qa (qv 2) (qa (qD (qv 0)) (qa (qd Ev (qa (qv 2) qn)) (qa (qx zI (qv 1) qi) (qa (qx zI (qv 1) qi) (qa (qv 3) qn)))))))) (qc (qf (qk z7y (qv 4) ⟨vh⟩) (q1 (qr qw)) q0) (q1 (qr (q8 ⟨jk (λ_=>rfl) (pv 4)⟩ (qd Pt (qa (qv 4) qn)) qw))))))))),?_⟩;refine zD λRR c=>?_;obtain⟨now,us,U,hw,hs⟩:=id lv.l;obtain⟨⟨dx,h1⟩,h2⟩:=id U;have n12:=lv.n12;have N:H L=some (.lst ([(x:Int),(y:Int)].map V.int)):=G;refine⟨_,rfl,_,rfl,L,_,rfl,N,05,λm hm I=>?_⟩;refine⟨p,pd,lp,_,Ws,m,rfl,lv.l,λj G1 s1=>?_,λj=>W λz=>j ?_⟩
   case refine_2 =>
    rcases Z08.mp hm with q | q;show m<(n:Int);lia;have:=Z04.mp q;show m<(n:Int);lia
   have j:m<(n:Int):=j;have Z:x<n:=by have:=I x 05;lia
   have Y:y<n:=by have:=I y 05;lia
   show RR [_,_,_,_,_] _;subst c;refine zD λRR c=>?_;refine⟨_,rfl,Z3 (zJ.of (s1 _ _ G)) rfl ⟨_,rfl,Z3 (zJ.of (s1 _ _ G)) rfl ⟨rfl,_,rfl,?_⟩⟩⟩;by_cases hxy:x=y;subst hxy;exact Za 05 ⟨021,W (λz=>z.2.2 rfl) G1 s1⟩;obtain⟨few,k⟩:=k ⟨Z,Y,hxy⟩;refine Ze (decide_eq_false (λz=>by injection z with z;lia)) ?_;show RR [_,_,_,_,_] _;subst c;refine zD λRR c=>?_;refine⟨_,rfl,p,dx,_,rfl,s1 _ _ h1,Z4 _ _ _ 03 03 03,p,pd,lp,_,Ws,rfl,lv.l.same s1,λM u=>?_⟩;show RR [_,_,_,_,_] _;have u:ZP K G1 M (n:Int) ps:=u;obtain⟨t,ws,X,et,hp⟩:=id u;subst c;refine zD λRR c=>?_;have emin:(if (n:Int)<6 then (n:Int) else 6)=((min 6 n:Nat):Int):=by split <;> lia
   refine⟨_,rfl,Zu (zO.of X) rfl ⟨6,(n:Int),rfl,min 6 n,congrArg (λz=>[V.int z]) emin,00,λpl G2 s2 m2 e2=>?_⟩⟩;show RR [_,_,_,_,_] _;subst c;refine zD λRR c=>?_;have J:=s1.trans s2;have O:G2 pl=some (.lst ((oiL (List.range (min 6 n))).map V.int)):=by rw[e2];unfold oiL;rw[List.map_map];rfl
   refine⟨_,rfl,_,rfl,p,C,dx,_,_,rfl,J _ _ h1,LT.cl,LT.nL,qC _ _ _,_,rfl,M,n,_,rfl,s2 _ _ X,lv.n1,n12,λev G3 vs s3 e3 f3=>?_⟩;have B:=J.trans s3;refine⟨_,rfl,Z3 (zJ.of (B _ _ G)) rfl ⟨_,rfl,Z3 (zJ.of (B _ _ G)) rfl ⟨_,rfl,?_⟩⟩⟩;refine jV ?_;show Qx K [.ref M,.ref lp,.ref ev,.int (x:Int),.int (y:Int),.ref pl] G3 _ _;have lo:(oiL (List.range (min 6 n))).length=min 6 n:=by unfold oiL;rw[Z00,Z36]
   have R:(oiL (List.range (min 6 n))).Pairwise (·<=·):=by
    unfold oiL;rw[List.pairwise_map];exact List.pairwise_lt_range.imp λ{a b} h=>by lia
   refine z7e (vj (u.same (s2.trans s3)) (by have:=lv.few;lia) lv.rng (B _ _ lv.fA) lv.ca lv.a0 lv.a1 lv.sA lv.n1 n12 e3 f3) Z Y (by rw[lo];lia) (s3 _ _ O) (by rw[lo];lia) (λr hr=>?_) (List.Perm.refl _) R λfv G4 o s4 hF i nf=>?_;obtain⟨m,hm,rfl⟩:=Z23.mp hr;have:=Z3I.mp hm;lia;show RR [_,_,_,_,_] _;subst c;refine zD λRR c=>?_;have d:=B.trans s4;rcases hF with⟨rfl,rfl⟩|⟨b,row,rfl,rfl,eb⟩;exact⟨_,rfl,rfl,_,rfl,Za rfl (k G4 none i d)⟩;refine⟨_,rfl,rfl,_,rfl,Ze rfl ?_⟩;show RR [_,_,_,_,_] _;subst c;have sub:=i.sub.1;have D:=sub.length_le;rw[lo] at D;refine⟨_,rfl,_,.inl ⟨_,zJ.of eb,rfl⟩,?_⟩;cases row with
   | nil=>exact Ze rfl (k G4 _ i d)
   | cons r0 row =>
     refine Za rfl ⟨_,rfl,b,r0 :: row,rfl,zJ.of eb,00,λq hq=>?_,λG5 s5=>k G5 _ i (d.trans s5)⟩;obtain⟨m,hm,rfl⟩:=Z23.mp (sub.subset hq);have:=Z3I.mp hm;lia
open L2
def xH:zB ["text","figures"] ["text"] (zh Yr):=fs
def UL{mg:SV}(S:ZE K mg "read_number" Yr ["text"])(T:Txt mg)(XT:V9 K mg "NoText" Xc)(i:mg "MOST_FIGURES"=some (.int 13 tF))(Fi:Def P w K mg base 1 "are_figures" ["text","most"] z0V):Z9 P w K mg base (ye P w Xc) 2 "read_number" ["text"] (z2p Xc):=S.Vl λf fd F=>by
 have nd:=xH.nd;refine F.okN xH 017 08;obtain⟨_,rfl,_⟩:=h;rfl
 · obtain⟨x,rfl,b,k,c⟩:=h
   refine⟨_,@qz _ _ _ (qc (qs 1 (q8 (qp (qm Z21 Z3Z Z5j U8 (qv 0) (qa qw qn))) (q9 XG (qv 0) (qQ qi) qK) (qv 0))) (qc (qf (qW (qO (qT (qp (qd Fi (qa (qv 1) (qa ⟨Zp (v:=.int 13) 02 i ⟨_,rfl⟩⟩ qn))))) (qP (qk Zf (qv 0) qw)))) 032 q0) (q1 (qr (qY YC T.int boot_int (qa (qv 0) qn)))))),?_⟩;refine⟨_,rfl,rfl,x,45,rfl,uX c_m,?_⟩;have go:∀ y:Str,y=Pw.Y9 x->y.cps.size<=8000->(z2Q (Z2t (tOr (Z2A (tB (vO z0V [] E0 (QI (z1e 1) (QI (tC (V.int 13)) Qg))))) (z3J (tOp rEq (z1e 0) (tC (V.str (Str.ofString "-0")))))) (z2c E Xc (QI (tC (V.str (Str.ofString "no number stands where one must"))) Qg)) z6f) (Z2S (tCB Z0P (QI (z1e 0) Qg)))) { nx:=λx H'=>Q V.Zc H',rt:=Q } [some (.str x),some (.str y)] H:=λy a j=>by
    refine⟨_,rfl,y,13,rfl,j,01,λG s=>?_⟩;by_cases f:Pw.xn 13 y
    case neg =>
     rw[decide_eq_false f];refine⟨_,rfl,Za rfl (Za rfl ?_)⟩;exact⟨021,c (by unfold Pw.Zk;rw[← a,if_neg λz=>f z.1]) G s⟩
    rw[decide_eq_true f];refine⟨_,rfl,Ze rfl 018⟩;rw[Q3,Z5X];by_cases z:x.cps.toList=[45,48];rw[decide_eq_true z];refine Za rfl ?_;exact⟨021,c (by unfold Pw.Zk;rw[← a,if_neg λq=>q.2 z]) G s⟩;rw[decide_eq_false z];refine Ze rfl ?_;have sn:Pw.Zk x=PySem.intText? x:=(by unfold Pw.Zk;rw[← a,if_pos ⟨f,z⟩]);obtain⟨n,hn,d⟩:=Pw.Z0a (a ▸ f);exact⟨_,rfl,x,n,rfl,hn,00,k n G (sn.trans hn) s⟩
   by_cases hd:x.cps.toList.head?=some 45;rw[decide_eq_true hd];refine⟨_,rfl,Za rfl ⟨_,rfl,_,rfl,x,rfl,b,?_⟩⟩;exact go _ (by unfold Pw.Y9;rw[if_pos hd]) (Z0X (Txt.slice_le x _ _) b);rw[decide_eq_false hd];refine⟨_,rfl,Ze rfl ⟨_,rfl,?_⟩⟩;exact go _ (by unfold Pw.Y9;rw[if_neg hd]) b
def qE:zB ["text","between","ends"] ["text","between"] (zh xA):=fs
def z1A{mg:SV}(S:ZE K mg "read_pair" xA ["text","between"])(T:Txt mg)(XT:V9 K mg "NoText" Xc)(Rn:Z9 P w K mg base (ye P w Xc) 2 "read_number" ["text"] (z2p Xc)):Z9 P w K mg base (ye P w Xc) 3 "read_pair" ["text","between"] (jU Xc):=S.Vl λf fd F=>by
 have nd:=qE.nd;refine F.okN qE 017 08;obtain⟨_,_,rfl,_⟩:=h;rfl
 · obtain⟨x,c,rfl,l,k,j⟩:=h
   refine⟨_,@qz _ _ _ (qc (qs 2 (qm Z21 Z3M Z56 xq (qv 0) (qa (qv 1) qn))) (qc (qf (qk yL (qy zP T.len Z30 (qa (qv 2) qn)) qi) 032 q0) (q1 (qr (qt (qa ⟨Zz 02 02 02 01 Rn 014 Yx (@ze _ _ _ _ _ 02 (Zg zI (pv 2) zF 028) zw)⟩ (qa ⟨Zz 02 02 02 01 Rn 014 Yx (@ze _ _ _ _ _ 02 (Zg zI (pv 2) zF 028) zw)⟩ qn))))))),?_⟩;refine⟨_,rfl,rfl,_,rfl,x,c,rfl,rfl,l,λp G s i e=>?_⟩;refine⟨_,rfl,p,_,rfl,.inl (zJ.of e),rfl,_,rfl,?_⟩;rw[Z00];by_cases h2:(Txt.split x (zQ c)).length=2
   case neg =>
    refine Za (by rw[Bool.not_eq_true',decide_eq_false_iff_not];intro z;have:=V.int.inj z;lia) ?_;refine⟨021,j ?_ G s⟩;unfold Pw.UP;split;rename_i u v d;rw[d] at h2;exact absurd rfl h2;rfl
   refine Ze (by rw[h2];rfl) ?_;obtain⟨u,v,d⟩:∃ u v,Txt.split x (zQ c)=[u,v]:=by
    match hh:Txt.split x (zQ c),h2 with
    | [u,v],_=>exact⟨u,v,rfl⟩
   have o:u.cps.size<=8000:=Z0X (part_short (x:=x) (y:=zQ c) (by rw[d];simp)) l;have m:v.cps.size<=8000:=Z0X (part_short (x:=x) (y:=zQ c) (by rw[d];simp)) l;have i:Pw.UP c x=(Pw.Zk u).bind λa=>(Pw.Zk v).bind λb=>some (a,b):=by unfold Pw.UP;rw[d]
   rw[d] at e;refine⟨_,rfl,Z3 (zJ.of e) rfl ⟨u,rfl,o,λa G1 ha s1=>?_,λz G1 s1=>j (by rw[i,z];rfl) G1 (s.trans s1)⟩⟩;refine⟨_,rfl,Z3 (zJ.of (s1 _ _ e)) rfl ⟨v,rfl,m,λb G2 r s2=>?_,λz G1 s2=>j (by rw[i,ha,z];rfl) G1 (s.trans (s1.trans s2))⟩⟩;refine⟨zl2,λq G3 s3 n t=>?_⟩;exact k (a,b) q G3 (by rw[i,ha,r];rfl) (s.trans (s1.trans (s2.trans s3))) ((s.trans (s1.trans s2)).Zc n) t
def Z4h:zB ["thing"] ["thing"] (zh Z3t):=fs
def UK{mg:SV}(S:ZE K mg "is_fraction" Z3t ["thing"])(T:Txt mg)(Pw2:Def P w K mg base 2 "is_pair_of_wholes" ["thing"] (Ju K))(Co:Def P w K mg base 1 "common" ["one","other"] YF):Def P w K mg base 3 "is_fraction" ["thing"] (jS K):=S.def λf fd F=>by
 refine F.yy Z4h λnd cdv A' outer s H vs Q E hr h=>?_;obtain⟨p,A,rfl,a,k⟩:=h;refine⟨_,(q1 (qr (q4 (qd Pw2 (qa (qv 0) qn)) (q4 (qe Uh 033 qi) (q6 (qe Zf (qd Co (qa (qy VT T.abs boot_abs (qa 033 qn)) (qa 033 qn))) qi)))))),?_⟩;refine⟨_,rfl,p,A.1,A.2,rfl,a,_,rfl,Za rfl ?_⟩;refine⟨_,rfl,Zu a rfl ⟨_,_,rfl,rfl,_,rfl,?_⟩⟩;by_cases h1:1<=A.2
 case neg =>
  rw[decide_eq_false h1];rw[decide_eq_false (λz=>h1 z.1)] at k;exact Ze rfl k
 rw[decide_eq_true h1];refine Za rfl ?_;refine⟨_,rfl,Zu a rfl ⟨_,rfl,_,rfl,Zu a rfl ⟨_,_,rfl,by split <;> lia,00,rfl,?_⟩⟩⟩;have e:Int.gcd (if A.1<0 then -A.1 else A.1) A.2=Int.gcd A.1 A.2:=by
  split;rw[Int.neg_gcd];rfl
 rw[e];have b:decide (V.int ((Int.gcd A.1 A.2:Nat):Int)=V.int 1)=decide (1<=A.2/\Int.gcd A.1 A.2=1):=by
  rw[decide_eq_decide];constructor;intro z;have:=V.int.inj z;exact⟨h1,00⟩;rintro⟨_,z⟩;rw[z];rfl
 rw[b];exact k
def YE:zB ["text","fraction"] ["text"] (zh yt):=fs
def Vm{mg:SV}(S:ZE K mg "read_fraction" yt ["text"])(T:Txt mg)(XT:V9 K mg "NoText" Xc)(Rp:Z9 P w K mg base (ye P w Xc) 3 "read_pair" ["text","between"] (jU Xc))(If:Def P w K mg base 3 "is_fraction" ["thing"] (jS K)):Z9 P w K mg base (ye P w Xc) 4 "read_fraction" ["text"] (JP K Xc):=S.Vl λf fd F=>by
 have nd:=YE.nd;refine F.okN YE 017 08;obtain⟨_,rfl,_⟩:=h;rfl;obtain⟨x,rfl,c,k,a⟩:=h;refine⟨_,@qz _ _ _ (qc (qs 1 ⟨Zz 02 02 02 01 Rp 014 Yx (@ze _ _ _ _ _ 02 (pv 0) 012)⟩) (qc (qf (qT (qp (qd If (qa (qv 1) qn)))) 032 q0) (q1 (qr (qv 1))))),?_⟩;refine⟨_,rfl,x,47,by rw[Z5S];rfl,c,λA p G e s d b=>?_,λe G s=>a (λ⟨A,h⟩=>by rw[h.1] at e;cases e) G s⟩;refine⟨_,rfl,p,A,rfl,zO.of b,?_⟩;refine⟨_,rfl,?_⟩;by_cases f:1<=A.2/\Int.gcd A.1 A.2=1;rw[decide_eq_true f];exact Ze rfl ⟨_,rfl,k A p G ⟨e,f.1,f.2⟩ s b⟩;rw[decide_eq_false f];refine Za rfl ?_;exact⟨021,a (λ⟨B,h⟩=>f (by have:=h.1;rw[e] at this;cases this;exact h.2)) G s⟩
def vM:zB ["text","words","web"] ["text"] (zh xh):=fs
def z2F{mg:SV}(S:ZE K mg "read_web" xh ["text"])(T:Txt mg)(XT:V9 K mg "NoText" Xc)(Rn:Z9 P w K mg base (ye P w Xc) 2 "read_number" ["text"] (z2p Xc))(Rp:Z9 P w K mg base (ye P w Xc) 3 "read_pair" ["text","between"] (jU Xc))(Iw:Def P w K mg base 5 "is_web" ["thing"] (z0n K)):Z9 P w K mg base (ye P w Xc) 6 "read_web" ["text"] (VW K Xc):=S.Vl λf fd F=>by
 have nd:=vM.nd;refine F.okN vM 017 08;obtain⟨_,rfl,_⟩:=h;rfl
 · obtain⟨x,rfl,U,k,r⟩:=h
   refine⟨_,@qz _ _ _ (qc (qs 1 (qm Z21 Z3M Z56 xq (qv 0) (qa qw qn))) (qc (qf (qW (qO (qk yL (qx zI (qv 1) qi) qw) (qP (qk Xy (qy zP T.len Z30 (qa (qv 1) qn)) qi)))) 032 q0) (qc (qs 2 (qt (qa ⟨Zz 02 02 02 01 Rn 014 Yx (@ze _ _ _ _ _ 02 (Zg zI (pv 1) zF 028) zw)⟩ (qa (qY X9 T.tup boot_tuple (qa ⟨z5U Z6n rfl rfl rfl ["word"] [none] rfl (@QK _ _ _ _ (yd Vy (pv 1) (yz zF) yF)) (by show ∀ y:Str×NameKind,y∈_->y.2=NameKind.free->(zh xh).names.lookup y.1=some .cell;decide +kernel) 01 rfl 03 trivial (λcl C s H fp=>(Zd (i:=0) (show (["word"]:List Str).Nodup by decide +kernel) rfl 09 (.inr rfl))) (λcl C s H fp=>Z8) (λcl C s H fp=>(Zz 02 02 02 01 Rp 014 Z5o (@ze _ _ _ _ _ 02 (pv 0) 012)))⟩ qn)) qn)))) (qc (qf (qT (qp (qd Iw (qa (qv 2) qn)))) 032 q0) (q1 (qr (qv 2))))))),?_⟩;refine⟨_,rfl,rfl,x,32,rfl,uX z6O,U,λp G s hp e=>?_⟩;have hlen:=split_pos x (zQ 32);have hle:=split_le x (zQ 32);have hxl:x.length<=8000:=U;obtain⟨w0,rest,O⟩:∃ w0 rest,Txt.split x (zQ 32)=w0 :: rest:=by
    match hh:Txt.split x (zQ 32),hlen with
    | w0 :: rest,_=>exact⟨w0,rest,rfl⟩
   have sh:∀ y∈Txt.split x (zQ 32),y.cps.size<=8000:=λy hy=>Z0X (part_short hy) U;rw[O] at e sh hle;rw[Z09] at hle;refine⟨_,rfl,Z3 (v:=.str w0) (zJ.of e) (zS (j:=0) rfl) ⟨rfl,_,rfl,?_⟩⟩;rw[Q3];have J:∀ {n ps},Pw.Yu x n ps->∃ wp ws,rest=wp :: ws/\w0=Str.ofString "pages"/\Pw.Zk wp=some n/\ws.map (Pw.UP 62)=ps.map some:=λ{n ps} t=>by
    obtain⟨wp,ws,h1,l,M⟩:=t.words;rw[O] at h1;cases h1;exact⟨wp,ws,rfl,rfl,l,M⟩
   by_cases h0:w0.cps.toList=(Str.ofString "pages").cps.toList
   case neg =>
    rw[decide_eq_false h0];exact Za rfl (Za rfl ⟨021,r (λ⟨n,ps,t⟩=>by obtain⟨_,_,_,h,_⟩:=J t;exact h0 (by rw[h])) G s⟩)
   rw[decide_eq_true h0];refine Ze rfl ⟨_,rfl,p,_,rfl,.inl (zJ.of e),_,_,rfl,rfl,_,rfl,?_⟩;have R:w0=Str.ofString "pages":=Z4O (Z20.mp h0);cases rest with
   | nil =>
     exact Za rfl ⟨021,r (λ⟨n,ps,t⟩=>by obtain⟨_,_,h,_⟩:=J t;cases h) G s⟩
   | cons wp ws =>
     refine Ze (decide_eq_false (by rw[Z00,Z09,Z09];show ¬ (((ws.length+1+1:Nat):Nat):Int)<2;lia)) ?_;rw[Z09] at hle;refine⟨_,rfl,Z3 (v:=.str wp) (zJ.of e) (zS (j:=1) rfl) ⟨wp,rfl,sh wp 05,λn G1 hn s1=>?_,λz G1 s1=>r (λ⟨n,ps,t⟩=>by obtain⟨_,_,h,_,l,_⟩:=J t;cases h;rw[z] at l;cases l) G1 (s.trans s1)⟩⟩;refine⟨_,rfl,_,rfl,p,_,rfl,zJ.of (s1 _ _ e),λq hq=>?_⟩;have ec:yO (List.map V.str (w0 :: wp :: ws)) (some 2) none=ws.map V.str:=by
      unfold yO;rw[show (some (2:Int))=some ((2:Nat):Int) from rfl,HT.yC,HT.yM,Z00,Z09,Z09,Nat.min_eq_left 00];show ((ws.map V.str).take _)=ws.map V.str;exact Z18 (by rw[Z00];lia)
     rw[ec];have s2:zu G1 (upd G1 q (.lst (ws.map V.str))):=zu.new hq;have eq:(upd G1 q (.lst (ws.map V.str))) q=some (.lst (ws.map V.str)):=zq;generalize upd G1 q (.lst (ws.map V.str))=G2 at s2 eq ⊢;refine⟨q,rfl,⟨_,zJ.of eq⟩,λD Z=>?_⟩;have I:zu H G2:=s.trans (s1.trans s2);refine Z6 (K:=K) (a:=q) (D:=D) (xs:=ws.map V.str) (λi ys σ G'=>zu G2 G'/\G' D=some 034/\(∃ ps,(ws.take i).map (Pw.UP 62)=ps.map some/\ZJ K G' ps ys)/\∃ v,σ=[v]) ⟨zu.new Z,zq,⟨[],rfl,rfl⟩,none,rfl⟩ ?_ ?_ ?_;rintro i ys σ G' ⟨s',e',_⟩;exact⟨zJ.of (s' _ _ eq),e'⟩
     · rintro i v ys σ G' X d ⟨s',N,⟨ps,c,L⟩,v0,rfl⟩
       rw[Z00] at d;have ev:v=.str ws[i]:=by
        rw[Z1a,Z02 d] at X;exact (Z12 X).symm
       subst ev;have u:ps.length=i:=by
        have:=congrArg List.length c;rw[Z00,Z00,Z22] at this;lia
       have W:=L.len;dsimp only [ZF];rw[if_pos rfl];refine⟨_,rfl,ws[i],62,by rw[Z4q];rfl,sh _ 05,λA t G3 hA s3 ht et=>?_,λz G3 s3=>r (λ⟨m,qs,t⟩=>?_) G3 (I.trans (s'.trans s3))⟩
       · refine⟨s3 _ _ N,by rw[W,u,sizeLine_eq];lia,Wt.next (by rw[Z00];exact d) ⟨λb o e=>by rw[zC (zo e Z)];exact s3 _ _ (s' _ _ e),zq,⟨ps ++ [A],?_,?_⟩,_,rfl⟩⟩
         rw[Z35,Z02 d,Z16,Z16,c];show _ ++ [Pw.UP 62 ws[i]]=_;rw[hA];rfl;have k1:KL G3 (upd G3 D (.lst (ys ++ [.ref t]))):=KL.set (s3 _ _ N);exact ZJ.snoc (zO.of (k1.tup et)) (ZJ.kl k1 (ZJ.kl s3.kl L))
       obtain⟨_,_,h,_,_,l⟩:=J t;cases h;have:(ws.map (Pw.UP 62))[i]?=(qs.map some)[i]?:=(by rw[l]);rw[Z1a,Z1a,Z02 d] at this;change some (Pw.UP 62 ws[i])=_ at this;rw[z] at this;cases hq2:qs[i]? with
       | none=>rw[hq2] at this;cases this
       | some B=>rw[hq2] at this;cases this
     rintro ys σ G' ⟨s',N,⟨ps,c,L⟩,_⟩;rw[Z00,List.take_length] at c;have u:ps.length=ws.length:=by
      have:=congrArg List.length c;rw[Z00,Z00] at this;lia
     refine⟨D,ys,rfl,zJ.of N,λt G3 s3 m3 e3=>?_⟩;refine⟨zl2,λa G4 s4 m4 e4=>?_⟩;have hw:ZP K G4 a n ps:=⟨t,ys,e4,s4 _ _ e3,L.kl (s3.trans s4).kl⟩;refine⟨_,rfl,a,n,ps,rfl,hw,00,λG5 s5=>?_⟩;have Y:zu H G5:=I.trans (s'.trans (s3.trans (s4.trans s5)));refine⟨_,rfl,?_⟩;by_cases f:1<=n/\n<=12/\UB n ps;rw[decide_eq_true f];refine Ze rfl ⟨_,rfl,k n ps a G5 ⟨⟨wp,ws,by rw[O,R],hn,c⟩,f.1,f.2.1,f.2.2.1,f.2.2.2.1,f.2.2.2.2⟩ Y (hw.same s5)⟩;rw[decide_eq_false f];refine Za rfl ⟨021,r (λ⟨m,qs,t⟩=>f ?_) G5 Y⟩;obtain⟨_,_,h,_,l,M⟩:=J t;cases h;rw[hn] at l;cases l;rw[c] at M;have:ps=qs:=by
      have:=congrArg (List.filterMap id) M;simpa[List.filterMap_map] using this
     subst this;exact⟨t.n1,t.n12,t.few,t.rng,t.up⟩
open L2
def Z2T:zB ["thing"] ["thing"] (zh z7J):=fs
def z4Y{mg:SV}(S:ZE K mg "is_leap" z7J ["thing"])(T:Txt mg)(If:Def P w K mg base 3 "is_fraction" ["thing"] (jS K)):Def P w K mg base 4 "is_leap" ["thing"] (vf K):=S.def λf fd F=>by
 refine F.yy Z2T λnd cdv A' outer s H vs Q E hr h=>?_;obtain⟨p,A,rfl,b,a,k⟩:=h;refine⟨_,(q1 (qr (q4 (qd If (qa (qv 0) qn)) (q6 ⟨qu Xy uV zF (Zg zG (pv 0) zF 028) (Zg zG (pv 0) zF 028) (by with_unfolding_all rfl)⟩)))),?_⟩;obtain⟨c,d⟩:=a;refine⟨_,rfl,p,A,rfl,b,_,rfl,?_⟩;rw[decide_eq_true ⟨c,d⟩];refine Za rfl ?_;refine⟨_,rfl,Zu b rfl ⟨_,_,rfl,rfl,_,rfl,?_⟩⟩;by_cases c3:0<A.1;rw[decide_eq_true c3];refine Za rfl ⟨_,rfl,Zu b rfl ⟨_,_,rfl,rfl,?_⟩⟩;show Q (.bl (decide (A.1<=A.2))) H;rw[show decide (A.1<=A.2)=decide (0<A.1/\A.1<=A.2) by simp[c3]];exact k;rw[decide_eq_false c3];refine Ze rfl ?_;rw[show decide (0<A.1/\A.1<=A.2)=false by simp[c3]] at k;exact k
def QL:zB ["text","leap"] ["text"] (zh xT):=fs
def z1u{mg:SV}(S:ZE K mg "read_leap" xT ["text"])(T:Txt mg)(XT:V9 K mg "NoText" Xt)(Rf:Z9 P w K mg base (ye P w Xt) 4 "read_fraction" ["text"] (JP K Xt))(Ip:Def P w K mg base 4 "is_leap" ["thing"] (vf K)):Z9 P w K mg base (ye P w Xt) 5 "read_leap" ["text"] (z0s K Xt):=S.Vl λf fd F=>by
 have nd:=QL.nd;refine F.okN QL 017 08;obtain⟨_,rfl,_⟩:=h;rfl;obtain⟨x,rfl,l,k,c⟩:=h;refine⟨_,@qz _ _ _ (qc (qs 1 ⟨Zz 02 02 02 01 Rf 014 Yx (@ze _ _ _ _ _ 02 (pv 0) zw)⟩) (qc (qf (qT (qp (qd Ip (qa (qv 1) qn)))) 032 q0) (q1 (qr (qv 1))))),?_⟩;refine⟨_,rfl,x,rfl,l,λA i G1 a s1 f1=>?_,λno G s=>c (λ⟨A,h,_⟩=>no ⟨A,h⟩) G s⟩;obtain⟨_,j,b⟩:=id a;refine⟨_,rfl,i,A,rfl,SqF.of f1,⟨j,b⟩,_,rfl,?_⟩;by_cases g:0<A.1/\A.1<=A.2;rw[decide_eq_true g];exact Ze rfl ⟨_,rfl,k A i G1 a ⟨⟨00,b⟩,g.1,g.2⟩ s1 f1⟩;rw[decide_eq_false g];exact Za rfl ⟨021,c (λ⟨B,h,d⟩=>g (by rw[Z12 (a.1.symm.trans h.1)];exact⟨d.2.1,d.2.2⟩)) G1 s1⟩
def vK:zB ["live","words","some","pages","answer"] ["live","words"] (zh yK):=fs
def z3a{mg:SV}(S:ZE K mg "answered" yK ["live","words"])(T:Txt mg)(XM:V9 K mg "NoCommand" Xm)(zall:mg "all"=none)(mA:mg "ANSWERS"=some (.ref zA))(dc:DcK w K zA fz)(Fi:Def P w K mg base 1 "are_figures" ["text","most"] z0V):Z9 P w K mg base (JW P w [Xl,Xm]) 17 "answered" ["live","words"] (jW P w K mg base 16 fz Xl Xm):=S.Vl λf fd F=>by
 have nd:=vK.nd;refine F.okN vK 017 08;obtain⟨_,_,_,_,rfl,_⟩:=h;rfl
 · obtain⟨p,x,hd,ws,rfl,x8,U,wn,wz,k⟩:=h
   refine⟨_,@qz _ _ _ (qc (qs 2 (qm Z21 Z3M Z56 xq (qv 1) (qa qw qn))) (qc (qs 3 (q9 Vy (qv 2) (qQ qi) qK)) (qc (qf (qW (qO (qk z4C (qx zI (qv 2) qi) ⟨Zp (v:=.ref zA) 02 mA rfl⟩) (qP (qT (qp (qy (xF rfl) zall boot_all (qa (qG (zh yK) ["each"] [none] (qL (qv 3)) trivial (λ_ _ _ _ _ _=>(qg 0)) (λ_ _ _ _ _=>qV) (λ_ _ _ _ _=>(qd Fi (qa (qv 0) (qa qi qn))))) qn))))))) (q1 ⟨QZ (C:=Xm) 05 XM 02 012 02 02 01⟩) q0) (qc (qs 4 ⟨z8i (Zp (v:=.ref zA) 02 mA rfl) (Zg zI (pv 2) zF 028) 028⟩) (qc (qf (qk yL (qy zP T.len Z30 (qa (qv 3) qn)) (qx zG (qv 4) qi)) (q1 ⟨QZ (C:=Xm) 05 XM 02 012 02 02 01⟩) q0) (q1 (qr ⟨z4Q (CX:=ye P w Xl) hr (z3q 05) (Zg zG (pv 4) zF 028) (@ze _ _ _ _ _ 02 (pv 0) (@ze _ _ _ _ _ 02 (ZQ ["each"] [none] rfl (@QK _ _ _ _ (pv 3)) (by show ∀ y:Str×NameKind,y∈_->y.2=NameKind.free->(zh yK).names.lookup y.1=some .cell;decide +kernel) 01 rfl 03 trivial (λcl C s H fp=>(Zd (i:=0) (show (["each"]:List Str).Nodup by decide +kernel) rfl 09 (.inr rfl))) (λcl C s H fp=>Z8) (λcl C s H fp=>(vd YC 02 T.int boot_int (@ze _ _ _ _ _ 02 (pv 0) zw)))) zw))⟩))))))),?_⟩;refine zD λRR c=>?_;refine⟨_,rfl,rfl,x,32,rfl,uX z6O,x8,λso G1 s1 m1 N=>?_⟩;rw[U] at N;show RR [_,_,_,_,_] _;subst c;refine zD λRR c=>?_;refine⟨_,rfl,1,rfl,so,_,rfl,zJ.of N,λpg O=>?_⟩;have s2:zu G1 (upd G1 pg (.lst (yO (List.map V.str (hd :: ws)) (some 1) none))):=zu.new O;have L:(upd G1 pg (.lst (yO (List.map V.str (hd :: ws)) (some 1) none))) pg=some (.lst (ws.map V.str)):=by
    rw[zq];have:=Z1N (xs:=List.map V.str (hd :: ws)) (i:=0) 05;rw[show (((0:Nat):Int)+1)=1 from rfl] at this;rw[this];rfl
   generalize upd G1 pg (.lst (yO (List.map V.str (hd :: ws)) (some 1) none))=G2 at s2 L;show RR [_,_,_,_,_] _;subst c;refine zD λRR c=>?_;have J:=s2 _ _ N;have lw:(ws.map V.str).length=ws.length:=by rw[Z00]
   refine⟨_,rfl,Z3 (v:=.str hd) (zJ.of J) (zS (j:=0) rfl) ⟨hd,zA,fz,rfl,rfl,dc,_,rfl,?_⟩⟩;cases ft:fz hd with
   | none =>
     refine Za rfl (Za rfl ⟨021,?_⟩);rcases k with⟨_,kE⟩|⟨t,f',m,fd',sp,ft',_⟩;exact kE G2 (s1.trans s2);rw[ft] at ft';cases ft'
   | some va =>
   refine Ze rfl ?_;refine⟨_,rfl,pg,rfl,⟨_,zJ.of L⟩,λD Z=>?_⟩;refine Z6 (K:=K) (a:=pg) (D:=D) (xs:=ws.map V.str) (λi ys σ G=>zu G2 G/\G D=some 034/\ys=((ws.take i).map λz=>decide (Pw.xn 2 z)).map V.bl/\∃ v,σ=[v]) ?_ ?_ ?_ ?_;exact⟨zu.new Z,zq,rfl,none,rfl⟩;rintro i ys σ G ⟨r,e,_⟩;exact⟨zJ.of (r _ _ L),e⟩
   · rintro i u ys σ G I hi ⟨r,X,rfl,v,rfl⟩
     rw[lw] at hi;rw[Z1a,Z02 hi] at I;cases I;dsimp only [ZF];refine Za rfl ?_;refine⟨_,rfl,ws[i],2,rfl,wz _ (Z29 hi),01,λG' s'=>?_⟩;have W:=s' _ _ X;refine⟨W,(by rw[Z00,Z00,Z22,sizeLine_eq];lia),Wt.next (by rw[lw];exact hi) ⟨λb o e=>by rw[zC (zo e Z)];exact s' _ _ (r _ _ e),zq,?_,_,rfl⟩⟩;rw[Z35,Z02 hi,Z16,Z16];rfl
   rintro ys σ G3 ⟨s3,e3,rfl,_⟩;rw[lw,Z18 (Z01 _)] at e3;refine⟨D,ws.map λz=>decide (Pw.xn 2 z),rfl,zJ.of e3,_,rfl,?_⟩;have M:=s1.trans (s2.trans s3);by_cases af:∀ z∈ws,Pw.xn 2 z
   case neg =>
    have ha:(ws.map λz=>decide (Pw.xn 2 z)).all id=false:=by
     cases q:(ws.map λz=>decide (Pw.xn 2 z)).all id with
     | false=>rfl
     | true =>
       exact absurd (λz B=>of_decide_eq_true (Z26.mp q _ (Z23.mpr ⟨z,B,rfl⟩))) af
    rw[ha];refine Za rfl ⟨021,?_⟩;rcases k with⟨_,kE⟩|⟨t,f',m,fd',sp,ft',_,_,_,_,af',_⟩;exact kE G3 M;exact absurd af' af
   have ha:(ws.map λz=>decide (Pw.xn 2 z)).all id=true:=by
    rw[Z26];intro b R;obtain⟨z,B,rfl⟩:=Z23.mp R;exact decide_eq_true (af z B)
   rw[ha];refine Ze rfl ?_;show RR [_,_,_,_,_] _;subst c;rcases k with⟨A,_⟩|⟨t,f',m,fd',sp,ft',ht,hk,R,F',_,k⟩;rcases A with A |⟨z,B,A⟩;rw[ft] at A;cases A;exact absurd (af z B) A;refine zD λRR c=>?_
   have d:=s3 _ _ L;refine⟨_,rfl,Z3 (v:=.str hd) (zJ.of (s3 _ _ J)) (zS (j:=0) rfl) ⟨zA,hd,fz,t,rfl,rfl,dc,ft',?_⟩⟩;show RR [_,_,_,_,_] _;subst c;refine zD λRR c=>?_;refine⟨_,rfl,pg,_,rfl,.inl (zJ.of d),_,rfl,t,_,_,_,rfl,rfl,ht _,rfl,rfl,_,rfl,?_⟩;rw[lw];rcases k with⟨ne,kE⟩|⟨zs,rfl,wb,zm,m2,k⟩;exact Za (vne λz=>ne 00) ⟨021,kE G3 M⟩
   have l:((zs.map Pw.ns).map V.str).length=zs.length:=by rw[Z00,Z00]
   refine Ze (by simp[zm]) ?_;show RR [_,_,_,_,_] _;subst c;refine⟨_,rfl,t,_,_,_,rfl,rfl,ht _,rfl,f',fd',_,sp,rfl,hk,R,F',_,rfl,_,rfl,pg,rfl,⟨_,zJ.of d⟩,λD2 n=>?_⟩;refine Z6 (K:=K) (a:=pg) (D:=D2) (xs:=(zs.map Pw.ns).map V.str) (λi ys σ G=>zu G3 G/\G D2=some 034/\ys=(zs.take i).map V.int/\∃ v,σ=[v]) ?_ ?_ ?_ ?_;exact⟨zu.new n,zq,rfl,none,rfl⟩;rintro i ys σ G ⟨r,e,_⟩;exact⟨zJ.of (r _ _ d),e⟩
   · rintro i u ys σ G I hi ⟨r,X,rfl,v,rfl⟩
     rw[l] at hi;rw[Z1a,Z1a,Z02 hi] at I;cases I;have b:=wb _ (Z29 hi);obtain⟨fg,sz⟩:=YU b.1 b.2;dsimp only [ZF];refine Za rfl ?_;refine⟨_,rfl,Pw.ns zs[i],zs[i],rfl,JS b.1 b.2,00,X,(by rw[Z00,Z22,sizeLine_eq];lia),Wt.next (by rw[l];exact hi) ⟨λb o e=>by rw[zC (zo e n)];exact r _ _ e,zq,?_,_,rfl⟩⟩;rw[Z35,Z02 hi,Z16];rfl
   rintro ys σ G4 ⟨s4,Y,rfl,_⟩;rw[l,Z18 (Z01 _)] at Y;exact k D2 G4 (M.trans s4) (M.free n) Y
open L2
def z1s:zB ["self"] ["self"] (zh XY):=fs
def Z0r{mg:SV}(S:MkF K mg Cd "Desk" "Desk.__init__" XY ["self"])(T:Txt mg)(DT:DkT K Cd)(Mk:MkD P w K mg base yV 1 C "Live" ["self","web","leap"] (Yc C)):MkD P w K mg base yV 3 Cd "Desk" ["self"] (um K C Cd):=S.def λf fd F=>by
 refine F.yy z1s λnd cdv A' outer s H vs Q E hr h=>?_;obtain⟨d,dx,rfl,hd,k⟩:=h;refine⟨_,(q1 (q3 (qv 0) ⟨Uk 02 02 02 01 Mk 014 xU (@ze _ _ _ _ _ 02 (@Xd _ _ _ _ _ (@ze _ _ _ _ _ 02 zF (@ze _ _ _ _ _ 02 (@Xd _ _ _ _ _ zw) zw))) (@ze _ _ _ _ _ 02 (@Xd _ _ _ _ _ (@ze _ _ _ _ _ 02 zF (@ze _ _ _ _ _ 02 zF zw))) zw))⟩)),?_⟩;refine⟨zl0,λt0 G1 s1 u m=>⟨zl2,λl G2 s2 v n=>⟨zl2,λlp G3 s3 t q=>?_⟩⟩⟩;have a:=s1.trans (s2.trans s3);have hw:ZP K G3 l 1 []:=⟨t0,[],s3 _ _ n,s3 _ _ (s2 _ _ m),Y4⟩;refine jV ?_;show ∀ x dx,G3 x=none->G3 dx=none->dx≠x->Yc C [.ref x,.ref l,.ref lp] _ _ _;refine vc (W:=(1,[])) hw λp pd G4 mp i r s4=>?_;have c:=s4 _ _ (a _ _ hd);have np:p≠d:=Z3O (zo (a _ _ hd) mp);have j:pd≠d:=Z3O (zo (a _ _ hd) i);refine⟨rfl,_,rfl,d,Cd,dx,_,rfl,c,DT.cl,DT.nL,(by show 0<1000;decide),?_⟩;refine k p pd lp _ (a.free mp) (a.free i) ⟨dx,zq⟩ (r.Z1Q c np j) ((z1U c).tup _ _ (s4 _ _ q)) λb o e nb=>?_;rw[zC nb];exact s4 _ _ (a _ _ e)
def uZ:zB ["self","words"] ["self","words"] (zh vp):=fs
def Z4y{mg:SV}(S:qI K Cd "say" "Desk.say" vp ["self","words"])(T:Txt mg)(LT:UO K C)(DT:DkT K Cd)(XM:V9 K mg "NoCommand" Xm)(zstr:mg "str"=none)(I:mg "DONE"=some (.str U4 tD))(Mk:MkD P w K mg base yV 1 C "Live" ["self","web","leap"] (Yc C))(Wl:ZC P w K mg base yV 1 C "web" ["self"] (Q4 K C))(Rw:Z9 P w K mg base (ye P w Xt) 6 "read_web" ["text"] (VW K Xt))(Rl:Z9 P w K mg base (ye P w Xt) 5 "read_leap" ["text"] (z0s K Xt))(An:Z9 P w K mg base (JW P w [Xl,Xm]) 17 "answered" ["live","words"] (jW P w K mg base 16 fz Xl Xm)):ZC P w K mg base (JW P w [Xl,Xt,Xm]) 18 Cd "say" ["self","words"] (Zm P w K mg base 16 fz C Cd Xl Xt Xm):=S.def λf fd F=>by
 have nd:=uZ.nd;refine F.okN uZ 017 08;obtain⟨_,_,_,_,_,_,_,_,rfl,_⟩:=h;rfl;obtain⟨d,p,pd,lp,v,W,Ws,A,rfl,⟨dx,hd⟩,l,fA,k⟩:=h;refine⟨_,@qz _ _ _ (qc (qf (qT (qp (qy Qc T.isi boot_isinstance (qa (qv 1) (qa ⟨Yh (v:=.ty "str") 02 zstr boot_str rfl⟩ qn))))) (q1 ⟨QZ (C:=Xm) 05 XM 02 012 02 02 01⟩) q0) (qc (qf (qp (qm Z21 Z3Z Z5j VZ (qv 1) (qa qw qn))) (qc (q3 (qv 0) ⟨Uk 02 02 02 01 Mk 014 xU (@ze _ _ _ _ _ 02 (Zz 02 02 02 01 Rw 014 (z3q 05) (@ze _ _ _ _ _ 02 (yd XG (pv 1) (yz zF) yF) zw)) (@ze _ _ _ _ _ 02 (X5 (X5 (pv 0) rfl) rfl) zw))⟩) (q1 (qr ⟨Zp (v:=.str U4) 02 I ⟨_,rfl⟩⟩))) q0) (qc (qf (qp (qm Z21 Z3Z Z5j VZ (qv 1) (qa qw qn))) (qc (q3 (qv 0) ⟨Uk 02 02 02 01 Mk 014 xU (@ze _ _ _ _ _ 02 (u4 02 (X5 (pv 0) rfl) LT.cl Wl 014 xU) (@ze _ _ _ _ _ 02 (Zz 02 02 02 01 Rl 014 (z3q 05) (@ze _ _ _ _ _ 02 (yd XG (pv 1) (yz zF) yF) zw)) zw))⟩) (q1 (qr ⟨Zp (v:=.str U4) 02 I ⟨_,rfl⟩⟩))) q0) (q1 (qr ⟨Zz 02 02 02 01 An 014 (Z2M 05) (@ze _ _ _ _ _ 02 (X5 (pv 0) rfl) 030)⟩))))),?_⟩;obtain⟨now,us,G,hw,R⟩:=id l;obtain⟨⟨dl,hl⟩,_⟩:=id G;have N:(Str.ofString "web ").cps.size=4:=03
 have J:(Str.ofString "leap ").cps.size=5:=03
 rcases k with⟨ty,hty,ni,kE⟩|⟨x,rfl,x8,k⟩;exact⟨_,rfl,_,_,_,false,rfl,hty,ni,_,rfl,Za rfl ⟨021,kE H (zu.refl H)⟩⟩;refine zD λRR c=>?_
 refine⟨_,rfl,_,_,_,true,rfl,.str x,z7i _,_,rfl,Ze rfl ?_⟩;show RR [_,_] _;unfold z8j at k;rcases k with⟨h1,h2,k⟩|⟨t,rfl,k,kE⟩|⟨t,rfl,k,kE⟩;subst c;refine zD λRR c=>?_
 refine⟨_,rfl,rfl,x,_,rfl,rfl,_,rfl,?_⟩;rw[h1];refine Ze rfl ?_;show RR [_,_] _;subst c;refine zD λRR c=>?_;refine⟨_,rfl,rfl,x,_,rfl,rfl,_,rfl,?_⟩;rw[h2];refine Ze rfl ?_;show RR [_,_] _;subst c;exact⟨_,rfl,d,Cd,dx,_,_,rfl,hd,DT.cl,DT.nL,VR _,_,rfl,k⟩;subst c;refine zD λRR c=>?_;clear c;refine⟨_,rfl,rfl,_,_,rfl,rfl,_,rfl,?_⟩;rw[Pw.Vt];refine Za rfl ?_;refine zD λR2 q=>?_;rw[zK] at x8;refine⟨_,rfl,4,rfl,_,rfl,by rw[zK];lia,?_⟩;have D:=U1 (Str.ofString "web ") t 4 N;refine⟨t,congrArg (λz=>[V.str z]) D,00,λn' ps y G1 M s1 m=>?_,λno=>kE no⟩;obtain⟨n,rfl⟩:∃ n:Nat,n'=(n:Int):=⟨n'.toNat,by have:=M.n1;lia⟩;refine⟨_,rfl,d,Cd,dx,_,_,rfl,s1 _ _ hd,DT.cl,DT.nL,VR _,p,C,dl,_,_,rfl,s1 _ _ hl,LT.cl,LT.nL,qC _ _ _,?_⟩;refine jV ?_;show ∀ x dx,G1 x=none->G1 dx=none->dx≠x->Yc C [.ref x,.ref y,.ref lp] _ _ _;refine vc (W:=((n:Int),ps)) m λu j G2 mp i B s2=>?_;have hd2:=s2 _ _ (s1 _ _ hd);have np:u≠d:=Z3O (zo (s1 _ _ hd) mp);have r:j≠d:=Z3O (zo (s1 _ _ hd) i);refine⟨rfl,_,rfl,d,Cd,dx,_,rfl,hd2,DT.cl,DT.nL,(by show 1<1000;decide),?_⟩;show R2 [_,_] _;subst q;rw[z3n];refine k n ps M u j _ (s1.free mp) (s1.free i) ⟨dx,zq⟩ (B.Z1Q hd2 np r) λb o e nb=>?_;rw[zC nb];exact s2 _ _ (s1 _ _ e);subst c;refine zD λRR c=>?_;refine⟨_,rfl,rfl,_,_,rfl,rfl,_,rfl,?_⟩;rw[Pw.z1t 0 (a:=108) (b:=119) (by rw[Z17,Z11,Z37 (by rw[Z07,J];decide)];decide +kernel) 03 01];refine Ze rfl ?_;show RR [_,_] _;subst c;refine zD λRR c=>?_;clear c;refine⟨_,rfl,rfl,_,_,rfl,rfl,_,rfl,?_⟩;rw[Pw.Vt];refine Za rfl ?_;refine zD λR2 q=>?_;rw[zK] at x8;refine⟨_,rfl,d,Cd,dx,_,_,rfl,hd,DT.cl,DT.nL,VR _,p,dl,_,rfl,hl,Z4 _ _ _ 03 03 03,p,pd,lp,W,Ws,rfl,l,λy m=>?_⟩;refine⟨_,rfl,5,rfl,_,rfl,by rw[zK];lia,?_⟩;have D:=U1 (Str.ofString "leap ") t 5 J;refine⟨t,congrArg (λz=>[V.str z]) D,00,λA' L G1 O ga s1 fl=>?_,λno=>kE no⟩;refine jV ?_;show ∀ x dx,G1 x=none->G1 dx=none->dx≠x->Yc C [.ref x,.ref y,.ref L] _ _ _;refine vc (W:=W) (m.same s1) λu j G2 mp i B s2=>?_;have hd2:=s2 _ _ (s1 _ _ hd);have np:u≠d:=Z3O (zo (s1 _ _ hd) mp);have r:j≠d:=Z3O (zo (s1 _ _ hd) i);refine⟨rfl,_,rfl,d,Cd,dx,_,rfl,hd2,DT.cl,DT.nL,(by show 1<1000;decide),?_⟩;show R2 [_,_] _;subst q;rw[z3n];refine k A' O ga u j L _ (s1.free mp) (s1.free i) ⟨dx,zq⟩ (B.Z1Q hd2 np r) ((z1U hd2).tup _ _ (s2 _ _ fl)) λb o e nb=>?_;rw[zC nb];exact s2 _ _ (s1 _ _ e)
open L2
def z1r:zB ["cell","k"] ["cell","k"] (zh XU):=fs
def z2K{mg:SV}(S:ZE K mg "_law_deck" XU ["cell","k"])(T:Txt mg) :Def P w K mg base 1 "_law_deck" ["cell","k"] z1W:=S.def λf fd F=>by
 refine F.yy z1r λnd cdv A' outer s H vs Q E hr h=>?_;obtain⟨x,n,rfl,k⟩:=h;refine⟨_,(qc (qf (qk Uh (qv 0) (qo uM qi qi)) (q1 (qr (ql (qa (qo xw (qv 0) (qo uM qi qi)) (qa qi (qa (qv 1) qn)))))) q0) (q1 (qr (ql (qa (qv 0) (qa qi (qa (qv 1) qn))))))),?_⟩;refine⟨_,rfl,_,_,rfl,rfl,⟨01,01,01⟩,_,_,rfl,rfl,_,rfl,?_⟩;refine if2 (λh=>?_) (λh=>?_);exact⟨_,rfl,_,_,rfl,rfl,⟨01,01,01⟩,_,_,rfl,rfl,_,rfl,zl3,λd G s m e=>k d G s m ⟨_,_,_,e,00,Int.le_refl _⟩⟩;exact⟨_,rfl,_,rfl,zl3,λd G s m e=>k d G s m ⟨_,_,_,e,00,Int.le_refl _⟩⟩
def z0A:zB ["deck","many","come","number"] ["deck","many"] (zh X0):=fs
def z2S{mg:SV}(S:ZE K mg "_law_take" X0 ["deck","many"])(T:Txt mg) :Def P w K mg base 1 "_law_take" ["deck","many"] YW:=S.def λf fd F=>by
 refine F.yy z0A λnd cdv A' outer s H vs Q E hr h=>?_;obtain⟨d,m,B,rfl,m0,o,l,hd,k⟩:=h;refine⟨_,(qc (qf (qk Zf (qx zI (qv 0) qi) qi) (qc (qs 2 (qo xP (qx zI (qv 0) qi) (qv 1))) (qc ⟨z3c (Zj yR (Zg zI (pv 0) zF 028) (pv 1)) (z8z (pv 0) zF set_list)⟩ (q1 (qr (qv 2))))) q0) (qc ⟨z3c (Zj yN (Zg zI (pv 0) zF 028) zF) (z8z (pv 0) zF set_list)⟩ (qc (qs 3 (qo ZW (qo xP (qx zI (qv 0) qi) qi) (qo yN (qo ZW (qx zI (qv 0) qi) (qx zI (qv 0) qi)) qi))) (qc (qs 3 (qo xP (qo yN (qo yN (qv 3) (qx zI (qv 0) qi)) qi) qi)) (qc (qs 3 (qo xP (qo ZW (qv 3) (qv 3)) qi)) (q1 (qr (qo xP (qo z9o (qo xP (qo Z2U (qv 3) qi) qi) qi) (qv 1))))))))),?_⟩;obtain⟨a,b,c,e,j,p⟩:=hd;refine⟨_,rfl,Z3 (zJ.of e) rfl ⟨rfl,_,rfl,?_⟩⟩;refine if2 (λh=>?_) (λh=>?_);have sl:Sz 9000 m:=yW 60 00;refine⟨_,rfl,Z3 (zJ.of e) rfl ⟨_,rfl,_,_,rfl,rfl,m0,?_⟩⟩;refine⟨_,rfl,Z3 (zJ.of e) rfl ⟨_,rfl,_,_,rfl,rfl,⟨00,sl⟩,_,rfl,d,_,_,0,rfl,rfl,e,rfl,?_⟩⟩;refine⟨_,rfl,?_⟩;exact k _ _ (Int.emod_nonneg _ 00) (Int.emod_lt_of_pos _ m0) ⟨_,b,c,zq,j,00⟩ Kp.set;refine⟨_,rfl,Z3 (zJ.of e) rfl ⟨_,_,rfl,rfl,_,rfl,d,_,_,2,rfl,rfl,e,rfl,?_⟩⟩;have i:(upd H d (.lst [.int a,.int b,.int (c+1)])) d=some (.lst [.int a,.int b,.int (c+1)]):=zq;have k1:Kp d H (upd H d (.lst [.int a,.int b,.int (c+1)])):=Kp.set;change z2Q _ _ _ _ (upd H d (.lst [.int a,.int b,.int (c+1)]));generalize upd H d (.lst [.int a,.int b,.int (c+1)])=G at i k1 ⊢;have sc:Sz 1000 (c+1):=yW 40 00;refine⟨_,rfl,Z3 (zJ.of i) rfl ⟨_,_,rfl,rfl,(by show (0:Int)<2147483647;decide),_,rfl,Z3 (zJ.of i) rfl ⟨_,rfl,Z3 (zJ.of i) rfl ⟨_,_,rfl,rfl,?_,?_⟩⟩⟩⟩;exact⟨sc.mono 01,sc.mono 01⟩;have q:Sz 100000 ((c+1) * (c+1)+48271):=Sz.mono (Sz.add (n:=2000) (sc.mul sc) (yW 16 01)) 01;refine⟨_,_,rfl,rfl,_,_,rfl,rfl,⟨z8I 01 01,q⟩,?_⟩;refine⟨_,rfl,_,rfl,Z3 (zJ.of i) rfl ⟨_,_,rfl,rfl,_,_,rfl,rfl,_,_,rfl,rfl,(by show (0:Int)<2147483629;decide),?_⟩⟩;refine⟨_,rfl,_,rfl,_,_,rfl,rfl,⟨z8I 01 01,z8I 01 01⟩,_,_,rfl,rfl,(by show (0:Int)<2147483587;decide),?_⟩;refine⟨_,rfl,_,_,rfl,rfl,.inr ⟨01,01⟩,_,_,rfl,rfl,(by show (0:Int)<2147483563;decide),_,_,rfl,rfl,⟨01,01⟩,_,rfl,_,_,rfl,rfl,m0,?_⟩;exact k _ G (Int.emod_nonneg _ 00) (Int.emod_lt_of_pos _ m0) ⟨a,b,c+1,i,00,00⟩ k1
def US:zB ["deck","some"] ["deck"] (zh YV):=fs
def Jt{mg:SV}(S:ZE K mg "_law_number" YV ["deck"])(T:Txt mg)(Tk:Def P w K mg base 1 "_law_take" ["deck","many"] YW):Def P w K mg base 2 "_law_number" ["deck"] z6I:=S.def λf fd F=>by
 refine F.yy US λnd cdv A' outer s H vs Q E hr h=>?_;obtain⟨d,B,rfl,M,hd,k⟩:=h;refine⟨_,(qc (qs 1 (ql (qa qw (qa qw (qa qw (qa qw (qa qw (qa qw (qa qw (qa qw (qa qw (qa qw (qa qw (qa qw (qa qw (qa qw qn)))))))))))))))) (qc (qs 1 (qo Yi (qv 1) (ql (qa qw (qa qw (qa (qo z3M qw qi) qn)))))) (q1 (qr (qx zI (qv 1) (qd Tk (qa (qv 0) (qa (qx zI (ql (qa qi (qa qi qn))) (qd Tk (qa (qv 0) (qa qi qn)))) qn)))))))),?_⟩;refine⟨(by show 14<=sizeLine;decide),λL G1 s1 n1 a=>?_⟩;have a:G1 L=some (.lst (Z0l.map V.str)):=a;refine⟨_,rfl,_,1400,rfl,rfl,01,01,03,03,λr hr=>⟨zl3,λb G2 s2 n2 q=>YD (zs:=Z0p r) (s2 _ _ a) q (by show 17<=100000;decide) λp G3 s3 n3 D=>?_⟩⟩;have i:=hd.same (s1.trans (s2.trans s3));refine⟨_,rfl,_,rfl,zl2,λL3 G4 s4 u J=>(tkc rfl 01 01 00 (i.same s4) λw G5 w0 o G k5=>?_)⟩;obtain⟨v,n,c⟩:=z6D (x:=.int 5) (y:=.int 17) w0 o;obtain⟨m,rfl,m0,t⟩:∃ m,v=.int m/\0<m/\m<=17:=by rcases c with rfl | rfl <;> exact⟨_,rfl,01,01⟩
 have nL:L3≠d:=(i.ne u);have np:p≠d:=(hd.same (s1.trans s2)).ne n3;refine⟨L3,_,_,_,rfl,rfl,zJ.of (k5 _ _ J nL),n,d,m,B+1,rfl,m0,00,00,G,λj G6 C N I l=>?_⟩;refine QC (ys:=Z0l ++ Z0p r) (l _ _ (k5 _ _ (s4 _ _ D) np) np) C (by show j<17;lia) λz A=>?_;exact k z G6 (z9Y hr z A) (I.up 00) (s1.kp.trans (s2.kp.trans (s3.kp.trans (s4.kp.trans (k5.trans l)))))
open L2
def z1c:zB ["deck","way","some"] ["deck","way"] (zh XR):=fs
def z1N{mg:SV}(S:ZE K mg "_law_text" XR ["deck","way"])(T:Txt mg)(Tk:Def P w K mg base 1 "_law_take" ["deck","many"] YW):Def P w K mg base 3 "_law_text" ["deck","way"] z4d:=S.def λf fd F=>by
 refine F.yy z1c λnd cdv A' outer s H vs Q E hr h=>?_;obtain⟨d,way,B,rfl,A,hd,k⟩:=h;refine⟨_,(qc (qf (qk Zf (qv 1) qi) (qc (qs 2 (ql (qa qw (qa qw (qa qw (qa qw (qa qw qn))))))) (qc (qs 2 (qo Yi (qv 2) (ql (qa qw (qa qw (qa qw (qa qw (qa qw (qa qw qn))))))))) (q1 (qX (qm Z48 PySem.F.slot_list_append PySem.F.type_list_append yG (qv 2) (qa (qo zW qw (qo z3M qw qi)) qn)))))) (qc (qs 2 (ql (qa qw (qa qw (qa qw (qa qw (qa qw (qa qw (qa qw (qa qw (qa qw (qa qw (qa qw (qa qw qn)))))))))))))) (q1 (qs 2 (qo Yi (qv 2) (ql (qa qw (qa qw qn)))))))) (q1 (qr (qx zI (qv 2) (qd Tk (qa (qv 0) (qa (qy zP T.len Z30 (qa (qv 2) qn)) qn))))))),?_⟩;refine 018;refine if2 (λh=>?_) (λh=>?_);have hw:hdW way=Str.ofString "web ":=by unfold hdW;rw[if_pos (by have:=of_decide_eq_true h;injection this)]
 rw[hw] at k;refine⟨(by show 5<=sizeLine;decide),λL G1 s1 n1 c=>?_⟩;have c:G1 L=some (.lst (z0l.map V.str)):=c;refine⟨_,rfl,(by show 6<=sizeLine;decide),λb G2 s2 n2 l=>YD (zs:=z1w) (s2 _ _ c) l (by show 11<=100000;decide) λp G3 s3 n3 i=>?_⟩;have a:=s1.trans (s2.trans s3);have np:p≠d:=(hd.same (s1.trans s2)).ne n3;refine⟨_,rfl,.inl ⟨rfl,_,zJ.of i⟩,_,61,rfl,rfl,01,01,03,03,λr hr=>?_⟩;have C:r.cps.size<=1000:=by rw[← Z07,hr];decide +kernel
 refine⟨_,r,rfl,rfl,?_,p,_,_,rfl,rfl,i,(by show 11<sizeLine;decide),?_⟩;rw[QG,QG,sizeLine_eq];have:(Str.ofString "pages 1").cps.size=7:=03
 lia;have u:upd G3 p (.lst ((z0l ++ z1w).map V.str ++ [.str (Str.ofString "pages 1" ++ r)])) p=some (.lst (((z0l ++ z1w) ++ [Str.ofString "pages 1" ++ r]).map V.str)):=by rw[zq,Z16];rfl
 have v:zY (upd G3 p (.lst ((z0l ++ z1w).map V.str ++ [.str (Str.ofString "pages 1" ++ r)]))) d B:=(hd.same a).kp Kp.set np.symm;have y:Kp d H (upd G3 p (.lst ((z0l ++ z1w).map V.str ++ [.str (Str.ofString "pages 1" ++ r)]))):=λb o e _=>by rw[zC (zo e ((s1.trans s2).free n3))];exact a _ _ e
 refine⟨_,rfl,_,rfl,_,rfl,p,_,rfl,.inl (zJ.of u),d,_,B,rfl,(by show (0:Int)<((12:Nat):Int);decide),(by show ((12:Nat):Int)<2 ^ 60;decide),00,v,λj G5 n m q k5=>?_⟩;refine QC (ys:=(z0l ++ z1w) ++ [Str.ofString "pages 1" ++ r]) (k5 _ _ u np) n m λz t=>?_;exact k z G5 (Z0c hr z t) (q.up 00) (y.trans k5);have hw:hdW way=Str.ofString "leap ":=by unfold hdW;rw[if_neg (by have:=of_decide_eq_false h;intro z;exact this (by rw[z]))]
 rw[hw] at k;refine⟨(by show 12<=sizeLine;decide),λL G1 s1 n1 c=>?_⟩;have c:G1 L=some (.lst (z3B.map V.str)):=c;refine⟨_,rfl,zl2,λb G2 s2 n2 l=>YD (zs:=z3o) (s2 _ _ c) l (by show 14<=100000;decide) λp G3 s3 n3 i=>?_⟩;have a:=s1.trans (s2.trans s3);have np:p≠d:=(hd.same (s1.trans s2)).ne n3;refine⟨_,rfl,_,rfl,_,rfl,p,_,rfl,.inl (zJ.of i),d,_,B,rfl,01,01,00,hd.same a,λj G5 n m q k5=>?_⟩;refine QC (ys:=z3B ++ z3o) (k5 _ _ i np) n m λz t=>?_;exact k z G5 (z6J z t) (q.up 00) (a.kp.trans k5)
open L2
def JE:zB ["cell","deck","way","words","odd","at","sign"] ["cell"] (zh xE):=fs
def z0u{mg:SV}(S:ZE K mg "_law_words" xE ["cell"])(T:Txt mg)(Dk:Def P w K mg base 1 "_law_deck" ["cell","k"] z1W)(Tk:Def P w K mg base 1 "_law_take" ["deck","many"] YW)(Nu:Def P w K mg base 2 "_law_number" ["deck"] z6I)(Tx:Def P w K mg base 3 "_law_text" ["deck","way"] z4d):Def P w K mg base 4 "_law_words" ["cell"] z0v:=S.def λf fd F=>by
 refine F.yy JE λnd cdv A' outer s H vs Q E hr h=>?_;obtain⟨c,rfl,k⟩:=h;refine⟨_,(qc (qs 1 (qd Dk (qa (qv 0) (qa qi qn)))) (qc (qs 2 (qd Tk (qa (qv 1) (qa qi qn)))) ⟨@z9l _ _ _ _ _ (@Qe _ _ _ _ _ _ _ _ (ZV Xy (pv 2) zF (yj _)) (@zU _ _ _ (@Zi _ _ 3 _ _ _ _ 02 09 nd rfl 09 (Zj zW (Zg zI (@Yk _ _ _ _ (@ze _ _ _ _ _ 02 zE 012)) (pv 2) 028) (Zx 02 02 02 01 Tx 014 (@ze _ _ _ _ _ 02 (pv 1) (@ze _ _ _ _ _ 02 (pv 2) zw)))))) (@zU _ _ _ (@Qe _ _ _ _ _ _ _ _ (ZV Xy (pv 2) zF (yj _)) (@z9 _ _ _ _ _ (@Zi _ _ 3 _ _ _ _ 02 09 nd rfl 09 (Zj zW (Zg zI (@Yk _ _ _ _ (@ze _ _ _ _ _ 02 zE (@ze _ _ _ _ _ 02 zE (@ze _ _ _ _ _ 02 zE 012)))) (Zj xw (pv 2) zF) 028) (Zx 02 02 02 01 Nu 014 030))) (@zU _ _ _ (@Zi _ _ 3 _ _ _ _ 02 09 nd rfl 09 (Zj zW (Zj zW (pv 3) zE) (Zx 02 02 02 01 Nu 014 030))))) (@zU _ _ _ (@Qe _ _ _ _ _ _ _ _ (ZV Zf (pv 2) zF (yj _)) (@zU _ _ _ (@Zi _ _ 3 _ _ _ _ 02 09 nd rfl 09 (Zj zW zE (Zx 02 02 02 01 Nu 014 030)))) (@z9 _ _ _ _ _ (@Zi _ _ 4 _ _ _ _ 02 09 nd rfl 09 (@Yk _ _ _ _ (@ze _ _ _ _ _ 02 zE (@ze _ _ _ _ _ 02 zE (@ze _ _ _ _ _ 02 zE (@ze _ _ _ _ _ 02 zE (@ze _ _ _ _ _ 02 zE (@ze _ _ _ _ _ 02 zE (@ze _ _ _ _ _ 02 zE (@ze _ _ _ _ _ 02 zE (@ze _ _ _ _ _ 02 zE 012))))))))))) (@z9 _ _ _ _ _ (@Zi _ _ 4 _ _ _ _ 02 09 nd rfl 09 (Zj Yi (pv 4) (@Yk _ _ _ _ (@ze _ _ _ _ _ 02 zE (@ze _ _ _ _ _ 02 zE (@ze _ _ _ _ _ 02 zE (@ze _ _ _ _ _ 02 zE (@ze _ _ _ _ _ 02 zE (@ze _ _ _ _ _ 02 zE 012))))))))) (@z9 _ _ _ _ _ (@Zi _ _ 4 _ _ _ _ 02 09 nd rfl 09 (Zj Yi (pv 4) (@Yk _ _ _ _ (@ze _ _ _ _ _ 02 zE (@ze _ _ _ _ _ 02 zE (@ze _ _ _ _ _ 02 zE (@ze _ _ _ _ _ 02 zE 012))))))) (@zU _ _ _ (@Zi _ _ 3 _ _ _ _ 02 09 nd rfl 09 (Zg zI (pv 4) (Zx 02 02 02 01 Tk 014 (@ze _ _ _ _ _ 02 (pv 1) (@ze _ _ _ _ _ 02 (Zq zP 02 T.len Z30 (@ze _ _ _ _ _ 02 (pv 4) zw)) zw))) 028))))))))))) (@z9 _ _ _ _ _ (@Qe _ _ _ _ _ _ _ _ (ZV Zf (Zx 02 02 02 01 Tk 014 (@ze _ _ _ _ _ 02 (pv 1) (@ze _ _ _ _ _ 02 zF zw))) zF (yj _)) (@z9 _ _ _ _ _ (@Zi _ _ 5 _ _ _ _ 02 09 nd rfl 09 (Zx 02 02 02 01 Tk 014 (@ze _ _ _ _ _ 02 (pv 1) (@ze _ _ _ _ _ 02 (Zj yN (Zq Y8 02 T.len Z30 (@ze _ _ _ _ _ 02 (pv 3) zw)) zF) zw)))) (@z9 _ _ _ _ _ (@Zi _ _ 6 _ _ _ _ 02 09 nd rfl 09 (Zg z7f zE (Zx 02 02 02 01 Tk 014 (@ze _ _ _ _ _ 02 (pv 1) (@ze _ _ _ _ _ 02 zF zw))) 028)) (@z9 _ _ _ _ _ (@Zi _ _ 2 _ _ _ _ 02 09 nd rfl 09 (Zx 02 02 02 01 Tk 014 (@ze _ _ _ _ _ 02 (pv 1) (@ze _ _ _ _ _ 02 zF zw)))) (@z9 _ _ _ _ _ (@Qe _ _ _ _ _ _ _ _ (ZV Zf (pv 2) zF (yj _)) (@zU _ _ _ (@vB _ _ _ _ (Zj zW (yd XG (pv 3) yF (yz (pv 5))) (yd XG (pv 3) (yz (Zj yN (pv 5) zF)) yF)))) Qt) (@zU _ _ _ (@Zi _ _ 3 _ _ _ _ 02 09 nd rfl 09 (Zg zI (@Yk _ _ _ _ (@ze _ _ _ _ _ 02 (Zj zW (Zj zW (yd XG (pv 3) yF (yz (pv 5))) (pv 6)) (yd XG (pv 3) (yz (pv 5)) yF)) (@ze _ _ _ _ _ 02 (z7Y Z21 PySem.F.slot_str_upper PySem.F.type_str_upper z4V (pv 3)) zw))) (Zj xw (pv 2) zF) 028))))))) Qt) (@zU _ _ _ (@vB _ _ _ _ (pv 3))))⟩)),?_⟩;refine⟨_,rfl,c,8,rfl,λd G1 s1 n1 d1=>?_⟩;refine⟨_,rfl,d,10,8,rfl,01,01,01,d1,λway G2 w0 w1 M k2=>?_⟩;have f2:∀ {H'},Kp d G1 H'->zu H H':=λk b o e=>k _ _ (s1 _ _ e) (zo e n1);have sl:∀ {x:Str},x.cps.size<=8000->x.length<=8000:=λh=>h;refine Z0t (λσ G=>∃ (x:Str) (v4:Option V),σ=[some (.int c),some (.ref d),some (.int way),some (.str x),v4,none,none]/\Pw.Xi x/\zY G d 400/\Kp d G1 G) (λDD W=>?_) ?_;have fin:∀ {x:Str}{v4:Option V}{G:Hp}{B:Nat},Pw.Xi x->zY G d B->B<=400->Kp d G1 G->DD.nx [some (.int c),some (.ref d),some (.int way),some (.str x),v4,none,none] G:=λa b l e=>Z5m W ⟨_,_,rfl,a,b.up l,e⟩;clear W;have add:∀ {x y:Str},x.cps.size<=2900->y.cps.size<=2900->x.length+y.length<=sizeLine:=λ{x y} a b=>by
  rw[sizeLine_eq];have h1:x.length<=2900:=a;have h2:y.length<=2900:=b;lia
 refine⟨_,rfl,_,_,rfl,rfl,_,rfl,if2 (λh=>?_) (λh=>?_)⟩;have h2:way<2:=of_decide_eq_true h;refine⟨zl2,λL G3 s3 n3 n=>⟨_,rfl,?_⟩⟩;obtain⟨z,U,ez⟩:∃ z,atI [V.str "web ",.str "leap "] way=some (.str z)/\z=hdW way:=by
  have:way=0\/way=1:=00
  rcases this with rfl | rfl;exact⟨_,rfl,rfl⟩;exact⟨_,rfl,rfl⟩
 refine ixl (zJ.of n) U ⟨_,rfl,_,rfl,d,way,9,rfl,01,M.same s3,λy G4 py A u=>?_⟩;rw[← ez] at py;have:=py.few;rw[zK] at this;exact⟨_,_,rfl,rfl,add 00 00,fin py A 01 (k2.trans (s3.kp.trans u))⟩;refine⟨_,rfl,_,_,rfl,rfl,_,rfl,if2 (λZ=>?_) (λZ=>?_)⟩;have h2:¬ way<2:=of_decide_eq_false h;have Z:way<6:=of_decide_eq_true Z;refine⟨(by show 4<=sizeLine;decide),λL G3 s3 n3 n=>⟨_,rfl,_,_,rfl,rfl,?_⟩⟩;have n:G3 L=some (.lst ((["link ","unlink ","pass ","link "]:List Str).map V.str)):=n;refine QC n 00 (by show way - 2<4;lia) λz U=>?_;have cz:=Z26.mp (show (["link ","unlink ","pass ","link "]:List Str).all (λh=>h.cps.toList.all (λc=>decide (c<128/\c≠119)) && decide (h.cps.size<=50) && decide (108∉h.cps.toList\/101∉h.cps.toList))=true by decide +kernel) z U;have zz:z.cps.size<=50:=of_decide_eq_true (Bool.and_eq_true_iff.mp (Bool.and_eq_true_iff.mp cz).1).2;refine⟨_,rfl,d,9,rfl,01,M.same s3,λa G4 na A u=>⟨_,_,rfl,rfl,add 00 (Z0X na.few 01),?_⟩⟩;have zs:(Str.ofString " ").cps.size=1:=03
 have za:=na.few;refine⟨_,rfl,_,_,rfl,rfl,add (by rw[zK];lia) 00,_,rfl,d,_,rfl,01,A,λb G5 nb d5 k5=>⟨_,_,rfl,rfl,add (by rw[zK,zK];lia) (Z0X nb.few 01),?_⟩⟩;have two:=na.two nb;have py:=Pw.pre_app cz two.1 two.2;rw[← Str.append_assoc,← Str.append_assoc] at py;exact fin py d5 01 (k2.trans (s3.kp.trans (u.trans k5)));refine⟨_,rfl,rfl,_,rfl,if2 (λ_=>?_) (λ_=>?_)⟩;refine⟨_,rfl,d,9,rfl,01,M,λa G4 na A u=>?_⟩;have za:=na.few;exact⟨_,_,rfl,rfl,add 03 00,fin (Pw.pre_app 03 na.asc 00) A 01 (k2.trans u)⟩;refine⟨(by show 10<=sizeLine;decide),λL G3 s3 n3 n=>?_⟩;have n:G3 L=some (.lst (z9W.map V.str)):=n;refine⟨_,rfl,(by show 7<=sizeLine;decide),λb G4 s4 n4 e4=>YD (zs:=Z0H) (s4 _ _ n) e4 (by show 17<=100000;decide) λp G5 s5 n5 e5=>?_⟩;refine⟨_,rfl,(by show 5<=sizeLine;decide),λb2 G6 s6 n6 e6=>YD (zs:=z9n) (s6 _ _ e5) e6 (by show 22<=100000;decide) λp2 G7 s7 n7 e7=>?_⟩;have N:=s3.trans (s4.trans (s5.trans (s6.trans s7)));have d7:=M.same N;have np:p2≠d:=(M.same (s3.trans (s4.trans (s5.trans s6)))).ne n7;refine⟨_,rfl,_,rfl,_,rfl,p2,_,rfl,.inl (zJ.of e7),d,_,9,rfl,01,01,01,d7,λj G8 X j1 d8 k8=>?_⟩;refine QC (ys:=(z9W ++ Z0H) ++ z9n) (k8 _ _ e7 np) X j1 λz U=>?_;exact fin (z9x z U) d8 01 (k2.trans (N.kp.trans k8));rintro RR r σ G ⟨x,v4,rfl,D,d3,k3⟩;have C:x.cps.size<=8000:=Z0X D.few 01;have hs:=Ui C;subst r;refine zD λRR r=>?_;have fin:∀ {y:Str}{v4 v5 v6:Option V}{w:Int}{G':Hp},Pw.Z0d x y->Kp d G1 G'->RR [some (.int c),some (.ref d),some (.int w),some (.str y),v4,v5,v6] G':=λm e=>by
  subst r;exact⟨_,rfl,k _ _ (D.ok m) (f2 e)⟩
 clear r;refine⟨_,rfl,d,6,400,rfl,01,01,01,d3,λq G4 q0 q1 A u=>⟨rfl,_,rfl,if2 (λ_=>?_) (λ_=>fin (.inl rfl) (k3.trans u))⟩⟩;refine⟨_,rfl,_,rfl,x,rfl,hs,_,_,rfl,rfl,d,_,401,rfl,00,by have:=sl C;lia,01,A,λat' G5 a0 a1 d5 k5=>?_⟩;refine⟨_,rfl,d,6,402,rfl,01,01,01,d5,λj G6 X j1 d6 k6=>?_⟩;obtain⟨i,rfl⟩:=Z3T X;obtain⟨at',rfl⟩:=Z3T a0;have hat:at'<=x.cps.size:=by
  have e:x.length=x.cps.size:=rfl;lia
 have es:(Str.ofString " 0>/\nZ").cps.toList=[32,48,62,47,10,90]:=03
 obtain⟨s',hc⟩:∃ s',(Str.ofString " 0>/\nZ").cps.toList[i]?=some s':=⟨_,Z02 (by rw[es];show i<6;lia)⟩;have ms:s'∈[32,48,62,47,10,90]:=by rw[← es];exact Z2u hc
 refine⟨_,_,s',rfl,rfl,by rw[sizeLine_eq];decide +kernel,zS hc,?_⟩;have I:=k3.trans (u.trans (k5.trans k6));have R:∀ lo hi,(Txt.slice x lo hi).cps.size<=2900:=λlo hi=>Z0X (Txt.slice_le x lo hi) D.few;have add:∀ {x y:Str},x.cps.size<=3000->y.cps.size<=3000->x.length+y.length<=sizeLine:=λ{x y} a b=>by
  rw[sizeLine_eq];have h1:x.length<=3000:=a;have h2:y.length<=3000:=b;lia
 have t:∀ lo hi,(Txt.slice x lo hi).cps.size<=3000:=λlo hi=>Z0X (R lo hi) 01;have O:=Pw.z6v x at' hat;have Y:=Pw.xK x at';have J:=Pw.xK x (at'+1);refine⟨_,rfl,d,3,403,rfl,01,01,01,d6,λw2 G7 b0 b1 d7 k7=>?_⟩;refine⟨_,rfl,rfl,_,rfl,if2 (λ_=>?_) (λhw=>?_)⟩;refine⟨_,rfl,_,rfl,_,rfl,x,rfl,C,_,rfl,_,rfl,_,_,rfl,rfl,_,rfl,x,rfl,C,_,_,rfl,rfl,add (t _ _) (t _ _),?_⟩;refine k _ _ (D.ok (.inr (.inl ⟨at',?_⟩))) (f2 (I.trans k7));rw[Z17,Z11,O];exact congrArg _ J;have hw':¬ w2=0:=λz=>of_decide_eq_false hw (by rw[z]);have s1z:(⟨#[s']⟩:Str).cps.size=1:=rfl;refine⟨_,rfl,_,rfl,_,rfl,x,rfl,C,_,rfl,_,_,rfl,rfl,add (t _ _) 00,_,rfl,_,rfl,_,rfl,x,rfl,C,_,_,rfl,rfl,add (by rw[zK];have:=R none (some (at':Int));lia) (t _ _),?_⟩;refine⟨_,rfl,rfl,x,rfl,rfl,D.asc,00,λy hy=>⟨zl2,λL G8 s8 n8 e8=>⟨_,rfl,_,_,rfl,rfl,?_⟩⟩⟩;obtain⟨v,hv,hv'⟩:=z6D (x:=.str (Txt.slice x none (some (at':Int)) ++ ⟨#[s']⟩ ++ Txt.slice x (some (at':Int)) none)) (y:=.str y) (w:=w2 - 1) 00 00;refine ixl (zJ.of e8) hv ?_;have kk:=I.trans (k7.trans s8.kp);rcases hv' with rfl | rfl;refine fin (.inr (.inr (.inl ⟨at',s',ms,?_⟩))) kk;rw[Z17,Z17,Z11,Z11,O,Y];show (_ ++ [s']) ++ _=_;rw[Z25,List.singleton_append];exact fin (.inr (.inr (.inr hy))) kk
open L2
def vF:zB ["word"] ["word"] (zh ZX):=fs
def Vk{mg:SV}(S:ZE K mg "_law_is_number" ZX ["word"])(T:Txt mg)(zall:mg "all"=none):Def P w K mg base 1 "_law_is_number" ["word"] z3P:=S.def λf fd F=>by
 refine F.yy vF λnd cdv A' outer s H vs Q E hr h=>?_;obtain⟨x,rfl,m,k⟩:=h;refine⟨_,(qc (qf (qW (qO (qT ⟨z7j uV uV zF (Zq Y8 02 T.len Z30 (@ze _ _ _ _ _ 02 (pv 0) zw)) zF (by with_unfolding_all rfl)⟩) (qP (qW (qA (qk Zf (qx z7f (qv 0) qi) qw) (qB (qk yL (qv 0) qw))))))) (q1 (qr qb)) q0) (q1 (qr (qy (xF rfl) zall boot_all (qa (qG (zh ZX) ["figure"] [none] ⟨z8k (pv 0)⟩ trivial (λ_ _ _ _ _ _=>(qg 0)) (λ_ _ _ _ _=>qV) (λ_ _ _ _ _=>(qe UY (qv 0) qw))) qn))))),?_⟩;have l:=Ui m;have no:∀ H',zu H H'->¬ Pw.xn 2 x->Q (.bl false) H':=λH' s h=>by
  have:=k H' s;rwa [decide_eq_false h] at this
 refine zD λRR d=>?_;have fin:(x.cps.toList=[48]\/x.cps.toList.head?≠some 48)->1<=x.cps.size->x.cps.size<=2->RR [some (.str x)] H:=λhd a i=>by
  subst d;refine⟨_,rfl,x,rfl,λD o=>J4 m o λG s e=>⟨D,_,rfl,zJ.of e,?_⟩⟩;rw[z4a];have:=k G s;have n:decide (Pw.xn 2 x)=x.cps.toList.all Pw.Xu:=by
   by_cases h3:x.cps.toList.all Pw.Xu=true;rw[h3];exact decide_eq_true ⟨a,i,h3,hd⟩;rw[decide_eq_false λf=>h3 f.2.2.1,Bool.not_eq_true _ |>.mp h3]
  rwa [n] at this
 clear d;refine⟨_,rfl,x,rfl,l,_,_,rfl,rfl,_,rfl,?_⟩;by_cases a:1<=x.cps.size
 case neg =>
  refine Ze (decide_eq_false (show ¬ (1:Int)<=((x.cps.size:Nat):Int) by lia)) ⟨_,rfl,Za rfl ?_⟩;exact Za rfl (no H (zu.refl H) λf=>a f.1)
 refine Za (decide_eq_true (show (1:Int)<=((x.cps.size:Nat):Int) by lia)) ⟨_,_,rfl,rfl,_,rfl,?_⟩;by_cases i:x.cps.size<=2
 case neg =>
  have b:decide (((x.length:Nat):Int)<=2)=false:=decide_eq_false (show ¬ ((x.cps.size:Nat):Int)<=2 by lia);rw[b];exact Za rfl (Za rfl (no H (zu.refl H) λf=>i f.2.1))
 have b:decide (((x.length:Nat):Int)<=2)=true:=decide_eq_true (show ((x.cps.size:Nat):Int)<=2 by lia);rw[b];refine Ze rfl ?_;obtain⟨c,cs,ex⟩:∃ c cs,x.cps.toList=c :: cs:=by
  cases h:x.cps.toList with
  | nil=>rw[← Z07,h] at a;simp at a
  | cons c cs=>exact⟨c,cs,rfl⟩
 refine⟨_,rfl,x,0,c,rfl,rfl,l,zS (j:=0) (by rw[ex];rfl),rfl,_,rfl,?_⟩;rw[Q3,t_0];change if decide ([c]=[48])=true then _ else _;by_cases hc:c=48;subst hc;refine Za rfl 018;rw[Q3,t_0];by_cases z:x.cps.toList=[48];rw[decide_eq_true z];exact Ze rfl (fin (.inl z) a i);rw[decide_eq_false z];exact Za rfl (no H (zu.refl H) λf=>f.2.2.2.elim z λg=>g (by rw[ex];rfl));refine Ze (decide_eq_false λz=>hc (by simpa using z)) ?_;exact Ze rfl (fin (.inr (by rw[ex];intro z;exact hc (Z12 z))) a i)
def Vh:zB ["head","text","due"] ["head","text"] (zh yS):=fs
def uT{mg:SV}(S:ZE K mg "_law_text_due" yS ["head","text"])(T:Txt mg)(XT:V9 K mg "NoText" Xt)(c:∀ C∈[Xt],∀ D∈[Xt],D≠C->PySem.W.mroIn K C 025=some false)(Rw:Z9 P w K mg base (ye P w Xt) 6 "read_web" ["text"] (VW K Xt))(Rf:Z9 P w K mg base (ye P w Xt) 4 "read_fraction" ["text"] (JP K Xt))(Ip:Def P w K mg base 4 "is_leap" ["thing"] (vf K)):Def P w K mg base 7 "_law_text_due" ["head","text"] z0I:=S.def λf fd F=>by
 refine F.yy Vh λnd cdv A' outer s H vs Q E hr h=>?_;obtain⟨hd,t,rfl,d,j,k⟩:=h;refine⟨_,(qc (qs 2 qw) (qc ⟨z9a (Cs:=[Xt]) (Rx:=λC H'=>C=Xt/\Q (.str JZ) H') (q:=[(Xt,_)]) rfl rfl (Z6o XT.kts) c (λ_=>(@zU _ _ _ (@Qe _ _ _ _ _ _ _ _ (ZV Zf (pv 0) zE (yj _)) (@zU _ _ _ (Jh (Zz 02 02 02 01 Rw 014 z7C 030))) (@zU _ _ _ (@Qe _ _ _ _ _ _ _ _ (z8y (z7l (Zx 02 02 02 01 Ip 014 (@ze _ _ _ _ _ 02 (Zz 02 02 02 01 Rf 014 z7C 030) zw)))) (@zU _ _ _ (@Zi _ _ 2 _ _ _ _ 02 09 nd rfl 09 zE)) Qt))))) ⟨_,_,_,_,_,_,_,_,rfl,rfl,XT,02,01,λ_=>(@zU _ _ _ (@Zi _ _ 2 _ _ _ _ 02 09 nd rfl 09 zE)),rfl⟩⟩ (q1 (qr (qv 2))))),?_⟩;rcases j with rfl | rfl;refine⟨?_,?_⟩;refine⟨_,rfl,rfl,_,rfl,Za (decide_eq_true rfl) ⟨_,rfl,t,rfl,d,λn ps a G l s1 _=>?_,λno G s1=>⟨Xt,rfl,rfl,k _ G s1 (.inl ⟨rfl,.inr ⟨no,rfl⟩⟩)⟩⟩⟩
 exact⟨_,rfl,k _ G s1 (.inl ⟨rfl,.inl ⟨⟨n,ps,l⟩,rfl⟩⟩)⟩;rintro C H' ⟨rfl,q⟩;exact⟨_,List.lookup_cons_self,_,rfl,q⟩;refine⟨?_,?_⟩;refine⟨_,rfl,rfl,_,rfl,Ze (decide_eq_false (by intro z;exact absurd (V.str.inj z) 03)) ?_⟩;refine⟨_,rfl,t,rfl,d,λA p G b s1 hf=>⟨p,A,rfl,SqF.of hf,b.2,_,rfl,?_⟩,λno G s1=>⟨Xt,rfl,rfl,k _ G s1 (.inr ⟨rfl,.inr ⟨λ⟨A,h,_⟩=>no ⟨A,h⟩,rfl⟩⟩)⟩⟩;have m:=b.2.1;by_cases g:0<A.1/\A.1<=A.2;rw[decide_eq_true g];exact Ze rfl ⟨_,rfl,k _ G s1 (.inr ⟨rfl,.inl ⟨⟨A,b,⟨00,b.2.2⟩,g.1,g.2⟩,rfl⟩⟩)⟩;rw[decide_eq_false g];exact Za rfl ⟨_,rfl,k _ G s1 (.inr ⟨rfl,.inr ⟨λ⟨B,h,i⟩=>g (by rw[Z12 (b.1.symm.trans h.1)];exact⟨i.2.1,i.2.2⟩),rfl⟩⟩)⟩;rintro C H' ⟨rfl,q⟩;exact⟨_,List.lookup_cons_self,_,rfl,q⟩
open L2
def uh:zB ["head","web","one","other","link"] ["head","web","one","other"] (zh Yt):=fs
def UN{mg:SV}(S:ZE K mg "_law_two_due" Yt ["head","web","one","other"])(T:Txt mg)(In:Def P w K mg base 1 "_law_is_number" ["word"] z3P):Def P w K mg base 3 "_law_two_due" ["head","web","one","other"] (J3 K):=S.def λf fd F=>by
 refine F.yy uh λnd cdv A' outer s H vs Q E hr h=>?_;obtain⟨h,G,n,ps,u,v,rfl,r,hw,ok,u8,C,k1,k2⟩:=h;refine⟨_,(qc (qf (qW (qO (qT (qp (qd In (qa (qv 2) qn)))) (qP (qT (qp (qd In (qa (qv 3) qn))))))) (q1 (qr qw)) q0) (qc (qs 4 (qt (qa (qY YC T.int boot_int (qa (qv 2) qn)) (qa (qY YC T.int boot_int (qa (qv 3) qn)) qn)))) (qc (qf (qW (qO (qk Uh (qy (z5x rfl) T.max boot_max (qa (qv 4) qn)) (qx zG (qv 1) qi)) (qP (qW (qA (qk Zf (qv 0) qw) (qB (qk Zf (qx zG (qv 4) qi) (qx zG (qv 4) qi)))))))) (q1 (qr qw)) q0) (qc (qf (qk Zf (qv 0) qw) (q1 (qr (q8 (qk Zf (qy zP T.len Z30 (qa (qx zG (qv 1) qi) qn)) qi) qw qw))) q0) (q1 (qr (q8 (qW (qA (qk Zf (qv 0) qw) (qB (qk (U7 hr) (qv 4) (qx zG (qv 1) qi))))) qw qw))))))),?_⟩;refine zD λRR d=>?_;refine⟨_,rfl,u,rfl,u8,λG1 s1=>⟨_,rfl,?_⟩⟩;by_cases fu:Pw.xn 2 u
 case neg =>
  rw[decide_eq_false fu];exact Za rfl (Za rfl (k1 (λz=>fu z.1) G1 s1))
 rw[decide_eq_true fu];refine Ze rfl ⟨_,rfl,v,rfl,C,λG2 s2=>⟨_,rfl,?_⟩⟩;by_cases fv:Pw.xn 2 v
 case neg =>
  rw[decide_eq_false fv];exact Za rfl (k1 (λz=>fv z.2) G2 (s1.trans s2))
 rw[decide_eq_true fv];refine Ze rfl ?_;obtain⟨a,ha,rfl⟩:=Pw.z5n fu;obtain⟨b,B,rfl⟩:=Pw.z5n fv;have k:=k2 a b ha B rfl rfl;have I:=(YU (z:=(a:Int)) 00 00).2;have J:=(YU (z:=(b:Int)) 00 00).2;clear k1 k2 fu fv;show RR [_,_,_,_,_] _;subst d;refine zD λRR d=>?_;refine⟨_,rfl,_,(a:Int),rfl,JS 00 00,00,_,rfl,_,(b:Int),rfl,JS 00 00,00,zl2,λp G3 s3 D o=>?_⟩;have m:=s1.trans (s2.trans s3);obtain⟨t,us,q,A,y⟩:=hw.same m;have j:∀ i,CmD h a b n ps i->Q (.str i) G3:=λi c=>k i G3 m c;clear k hw;show RR [_,_,_,_,_] _;subst d;refine zD λRR d=>?_;refine⟨_,rfl,p,_,_,rfl,o,_,rfl,Zu (zO.of q) rfl ⟨_,_,rfl,rfl,_,rfl,?_⟩⟩;by_cases hm:a<n/\b<n
 case neg =>
  refine Za (decide_eq_true ?_) (Za rfl (j _ (.inl ⟨?_,rfl⟩)));show (n:Int)<=if (b:Int) > (a:Int) then (b:Int) else (a:Int);split <;> lia;rcases r with rfl | rfl | rfl <;> exact λz=>hm ⟨z.1,z.2.1⟩
 refine Ze (decide_eq_false ?_) ?_;show ¬ (n:Int)<=if (b:Int) > (a:Int) then (b:Int) else (a:Int);split <;> lia;rcases r with rfl | rfl | rfl;refine 018;rw[show decide (V.str Hd.link.tx=V.str (Str.ofString "pass"))=false from z0R (h':=.pass) (by intro z;cases z)];refine Ze rfl (Ze rfl ?_);show RR [_,_,_,_,_] _;subst d;refine⟨_,rfl,rfl,_,rfl,Za (decide_eq_true rfl) ?_⟩;refine⟨_,rfl,Zu (zO.of q) rfl ⟨t,_,rfl,.inr (zO.of A),rfl,_,rfl,?_⟩⟩;rw[y.len];by_cases l:ps.length=60;exact Za (decide_eq_true (by rw[l];rfl)) (j _ (.inl ⟨λz=>by have:=z.2.2;lia,rfl⟩))
 have:=ok.few;change ps.length<=60 at this;exact Ze (decide_eq_false λz=>l (by have:=V.int.inj z;lia)) (j _ (.inr ⟨λz=>z ⟨hm.1,hm.2,00⟩,rfl⟩));refine 018;rw[show decide (V.str Hd.unlink.tx=V.str (Str.ofString "pass"))=false from z0R (h':=.pass) (by intro z;cases z)];refine Ze rfl (Ze rfl ?_);show RR [_,_,_,_,_] _;subst d;refine 018;rw[show decide (V.str Hd.unlink.tx=V.str (Str.ofString "link"))=false from z0R (h':=.link) (by intro z;cases z)];refine Ze rfl ⟨_,rfl,rfl,_,rfl,Za (decide_eq_true rfl) ?_⟩;refine⟨_,rfl,_,rfl,Zu (zO.of q) rfl ⟨p,t,us,ps,((a:Int),(b:Int)),rfl,rfl,zO.of o,zO.of A,y,_,rfl,?_⟩⟩;by_cases l:((a:Int),(b:Int))∈ps;rw[decide_eq_true l];exact Ze rfl (j _ (.inr ⟨λz=>z ⟨hm.1,hm.2,l⟩,rfl⟩));rw[decide_eq_false l];exact Za rfl (j _ (.inl ⟨λz=>l z.2.2,rfl⟩));refine⟨_,rfl,rfl,_,rfl,Za (decide_eq_true rfl) ?_⟩;refine⟨_,rfl,Zu (zO.of o) rfl ⟨_,rfl,Zu (zO.of o) rfl ⟨rfl,_,rfl,?_⟩⟩⟩;by_cases l:a=b;exact Za (decide_eq_true (by rw[l])) (j _ (.inl ⟨λz=>z.2.2 l,rfl⟩));refine Ze (decide_eq_false λz=>l (by have:=V.int.inj z;lia)) ?_;show RR [_,_,_,_,_] _;subst d;refine 018;rw[show decide (V.str Hd.pass.tx=V.str (Str.ofString "link"))=false from z0R (h':=.link) (by intro z;cases z)];refine Ze rfl 018;rw[show decide (V.str Hd.pass.tx=V.str (Str.ofString "unlink"))=false from z0R (h':=.unlink) (by intro z;cases z)];exact Ze rfl (Ze rfl (j _ (.inr ⟨λz=>z ⟨hm.1,hm.2,l⟩,rfl⟩)))
open L2
def z1M:zB ["words","web","head","blank","rest","parts_v"] ["words","web"] (zh vq):=fs
def z4O{mg:SV}(S:ZE K mg "_law_due" vq ["words","web"])(T:Txt mg)(In:Def P w K mg base 1 "_law_is_number" ["word"] z3P)(Td:Def P w K mg base 7 "_law_text_due" ["head","text"] z0I)(T2:Def P w K mg base 3 "_law_two_due" ["head","web","one","other"] (J3 K)):Def P w K mg base 8 "_law_due" ["words","web"] (z3i K):=S.def λf fd F=>by
 refine F.yy z1M λnd cdv A' outer s H vs Q E hr h=>?_;obtain⟨x,Z,n,ps,rfl,x8,hw,ok,k⟩:=h;refine⟨_,(qc (qf (qk Yv (qv 0) (qt (qa qw (qa qw (qa qw qn))))) (q1 (qr qw)) q0) (qc (qf (qk Zf (qv 0) qw) (q1 (qr (q8 (qk Zf (qx zG (qv 1) qi) qi) qw qw))) q0) (qc ⟨z3c (z3l Z21 PySem.F.slot_str_partition PySem.F.type_str_partition z9h (pv 0) 012) (z3f rfl (Zr (Zd (i:=2) nd rfl 09) (Zr (Zd (i:=3) nd rfl 09) (Zr (Zd (i:=4) nd rfl 09) YT))))⟩ (qc (qf (qW (qA (qk Yv (qv 2) (qt (qa qw (qa qw qn)))) (qB (qk yL (qv 3) qw)))) (q1 (qr (qd Td (qa (qv 2) (qa (qv 4) qn))))) q0) (qc (qs 5 (qm Z21 Z3M Z56 xq (qv 0) (qa qw qn))) (qc (qf (qW (qA (qk Yv (qx zI (qv 5) qi) (qt (qa qw (qa qw (qa qw qn))))) (qB (qk Zf (qy zP T.len Z30 (qa (qv 5) qn)) qi)))) (q1 (qr (qd T2 (qa (qx zI (qv 5) qi) (qa (qv 1) (qa (qx zI (qv 5) qi) (qa (qx zI (qv 5) qi) qn))))))) q0) (qc (qf (qW (qO (qk yL (qx zI (qv 5) qi) qw) (qO (qk yL (qy zP T.len Z30 (qa (qv 5) qn)) qi) (qP (qT (qp (qd In (qa (qx zI (qv 5) qi) qn)))))))) (q1 (qr qw)) q0) (q1 (qr (q8 (qk Xy (qY YC T.int boot_int (qa (qx zI (qv 5) qi) qn)) (qx zG (qv 1) qi)) qw qw)))))))))),?_⟩;refine zD λRR o=>?_;refine⟨_,rfl,zl3,λt1 G1 s1 n1 N=>J8 (ys:=["undo","show","rank"]) N ⟨_,rfl,?_⟩⟩;by_cases h1:x∈(["undo","show","rank"]:List Str);refine Za (decide_eq_true h1) (k _ G1 s1 ?_);have:∀ h:Hd,h.nr=0->h≠.page->QM h.tx n ps (Str.ofString ""):=λh e ne=>by
  rw[cm0 h e];refine QM.cm 01 01 (.inr ⟨?_,rfl⟩);cases h <;> first | exact λz=>z | (cases e;done) | exact absurd rfl ne
 simp only[Z08,Z2x,or_false] at h1;rcases h1 with rfl | rfl | rfl;exact this .undo rfl (by intro z;cases z);exact this .show rfl (by intro z;cases z);exact this .rank rfl (by intro z;cases z);refine Ze (decide_eq_false h1) ?_;show RR [_,_,_,_,_,_] _;subst o;refine zD λRR o=>?_
 refine 018;rw[z1k];obtain⟨t,us,B,e5,hp⟩:=hw.same s1;by_cases h2:x=Str.ofString "page";refine Za (decide_eq_true h2) ?_;subst h2;refine⟨_,rfl,Zu (zO.of B) rfl ⟨rfl,_,rfl,?_⟩⟩;have n12:(n:Int)<=12:=ok.n12;have:∀ p,CmD .page 0 0 n ps p->QM (Str.ofString "page") n ps p:=λp c=>by
  have:=cm0 .page rfl;rw[show Str.ofString "page"=Hd.page.cm 0 0 from this];exact QM.cm 01 01 c
 by_cases l:n=12;exact Za (decide_eq_true (by rw[l];rfl)) (k _ G1 s1 (this _ (.inl ⟨by show ¬ n<12;lia,rfl⟩)));exact Ze (decide_eq_false λz=>l (by have:=V.int.inj z;lia)) (k _ G1 s1 (this _ (.inr ⟨by show ¬ ¬ n<12;lia,rfl⟩)));refine Ze (decide_eq_false h2) ?_;show RR [_,_,_,_,_,_] _;subst o;refine zD λRR o=>?_;refine⟨_,rfl,rfl,x,32,rfl,uX z6O,x8,λa b d pa q G2 s2 n2 A=>?_⟩;refine⟨q,_,rfl,zO.of A,rfl,_,_,rfl,_,_,rfl,_,_,rfl,rfl,?_⟩;show RR [some (.str x),some (.ref Z),some (.str a),some (.str b),some (.str d),none] G2;subst o;refine zD λRR o=>?_;have s12:=s1.trans s2;refine⟨_,rfl,zl2,λt3 G3 s3 n3 e3=>J8 (ys:=["web","leap"]) e3 ⟨_,rfl,?_⟩⟩;have J:=s12.trans s3;have z0:∀ y:Str,decide (V.str y=V.str (Str.ofString ""))=decide (y=Str.empty):=λy=>z1k _ _;have go:(32∉x.cps.toList\/∃ a d,32∉a.cps.toList/\x=a ++ zQ 32 ++ d/\a∉(["web","leap"]:List Str))->RR [some (.str x),some (.ref Z),some (.str a),some (.str b),some (.str d),none] G3:=λpw=>by
  have sw:∀ y:Str,y∈(["web","leap"]:List Str)->32∉y.cps.toList->Pw.JV x (y ++ zQ 32)=false:=λy hy h32=>Pw.Z2L h32 (pw.imp id λ⟨a,d,I,p2,p3⟩=>⟨a,d,I,p2,λz=>p3 (by rw[z];exact hy)⟩);have w1:Pw.JV x (Str.ofString "web ")=false:=by
   rw[show Str.ofString "web "=Str.ofString "web" ++ zQ 32 by decide +kernel];exact sw _ 05 03
  have w2:Pw.JV x (Str.ofString "leap ")=false:=by
   rw[show Str.ofString "leap "=Str.ofString "leap" ++ zQ 32 by decide +kernel];exact sw _ 05 03
  clear sw pw pa A e3;subst o;refine zD λRR o=>?_;refine⟨_,rfl,rfl,x,32,rfl,uX z6O,x8,λso G4 s4 n4 B=>?_⟩;show RR [_,_,_,_,_,_] _;subst o;have W:=(hw.same J).same s4;have U:=J.trans s4;obtain⟨hd,r,es⟩:∃ hd r,Txt.split x (zQ 32)=hd :: r:=by
   match hh:Txt.split x (zQ 32),split_pos x (zQ 32) with
   | w0 :: r,_=>exact⟨w0,r,rfl⟩
  have lz:=split_le x (zQ 32);have sh:∀ y∈Txt.split x (zQ 32),y.cps.size<=8000:=λy hy=>Z0X (part_short hy) x8;rw[es] at B sh lz;have bad:(¬ z7g x)->∀ G,zu G4 G->Q (.str JX) G:=λno G s=>k _ G (U.trans s) (.inr ⟨w1,w2,.inl ⟨no,rfl⟩⟩);have good:∀ (h:Hd) (a b:Nat),a<100->b<100->hd :: r=h.tx :: (h.ar a b).map Pw.ns->∀ p G,zu G4 G->CmD h a b n ps p->Q (.str p) G:=λh a b ha L e p G s c=>by
   have R:=(yY x h a b).mpr (es.trans e);exact k _ G (U.trans s) (.inr ⟨w1,w2,.inr ⟨h,a,b,ha,L,R,c⟩⟩)
  have X:z7g x->∃ (h:Hd) (a b:Nat),a<100/\b<100/\hd :: r=h.tx :: (h.ar a b).map Pw.ns/\h.nr≠0:=λ⟨h,a,b,ha,L,e⟩=>by
   refine⟨h,a,b,ha,L,es.symm.trans ((yY x h a b).mp e),λz=>?_⟩;have A:x=h.tx:=by
    have al:=h.z2l a b;rw[z] at al;have q1:=(yY x h a b).mp e;rw[Z27.mp al] at q1;rw[cm0 h z];exact (yY x h 0 0).mpr (by rw[q1,Z27.mp z])
   cases h <;> first | (cases z;done) | exact h2 A | exact h1 (by rw[A];simp[Hd.tx])
  refine zD λRR o=>?_;have lc:∀ m:Int,decide (V.int (((hd :: r).map V.str).length:Nat)=V.int m)=decide (((hd :: r).length:Int)=m):=λm=>by
   rw[decide_eq_decide,Z00];exact⟨λz=>V.int.inj z,λz=>by rw[z]⟩
  have go2:¬ (hd∈(["link","unlink","pass"]:List Str)/\(hd :: r).length=3)->∀ G,zu G4 G->RR [some (.str x),some (.ref Z),some (.str a),some (.str b),some (.str d),some (.ref so)] G:=λno G C=>by
   have only:z7g x->hd=Hd.share.tx/\∃ a:Nat,a<100/\r=[Pw.ns (a:Int)]:=λc=>by
    obtain⟨h,a,b,ha,L,e,nz⟩:=X c;rw[Z3S] at e;obtain⟨N,A⟩:=e;have O:h.nr=2->(hd :: r).length=3:=λz=>(by rw[Z09,A,Z00,h.z2l,z]);cases h <;> first | exact absurd rfl nz | exact absurd ⟨by rw[N];simp[Hd.tx],O rfl⟩ no | exact⟨N,a,ha,A⟩
   subst o;refine zD λRR o=>?_;refine⟨_,rfl,Z3 (zJ.of (C _ _ B)) (zS (j:=0) rfl) ⟨rfl,_,rfl,?_⟩⟩;rw[z1k];by_cases q1:hd=Str.ofString "share"
   case neg =>
    rw[decide_eq_false q1];exact Za rfl (Za rfl (bad (λc=>q1 (only c).1) G C))
   rw[decide_eq_true q1];refine Ze rfl ⟨_,rfl,so,_,rfl,.inl (zJ.of (C _ _ B)),rfl,_,rfl,?_⟩;rw[lc];by_cases q2:((hd :: r).length:Int)=2
   case neg =>
    rw[decide_eq_false q2];refine Za rfl (Za rfl (bad (λc=>q2 ?_) G C));obtain⟨_,a,_,e⟩:=only c;rw[e];rfl
   rw[decide_eq_true q2];obtain⟨u,rfl⟩:∃ u,r=[u]:=by
    match r,q2 with
    | [u],_=>exact⟨u,rfl⟩
   refine Ze rfl ⟨_,rfl,Z3 (zJ.of (C _ _ B)) (zS (j:=1) rfl) ⟨u,rfl,sh u 05,λG6 D=>⟨_,rfl,?_⟩⟩⟩;by_cases fu:Pw.xn 2 u
   case neg =>
    rw[decide_eq_false fu];refine Za rfl (bad (λc=>fu ?_) G6 (C.trans D));obtain⟨_,a,ha,e⟩:=only c;rw[Z3S] at e;rw[e.1];exact (YU 00 00).1
   rw[decide_eq_true fu];obtain⟨m,hm,rfl⟩:=Pw.z5n fu;refine Ze rfl ?_;show RR [_,_,_,_,_,_] _;subst o;obtain⟨t',us',e5,e6,hp'⟩:=W.same (C.trans D);have zm:=(YU (z:=(m:Int)) 00 00).2;refine⟨_,rfl,Z3 (zJ.of (D _ _ (C _ _ B))) (zS (j:=1) rfl) ⟨_,(m:Int),rfl,JS 00 00,00,_,rfl,Zu (zO.of e5) (zS (j:=0) rfl) ⟨_,_,rfl,rfl,_,rfl,?_⟩⟩⟩;have gd:=good .share m 0 hm 01 (by rw[q1];rfl);by_cases l:m<n;exact Za (decide_eq_true (show (m:Int)<(n:Int) by lia)) (gd _ G6 (C.trans D) (.inr ⟨λz=>z l,rfl⟩));exact Ze (decide_eq_false (show ¬ (m:Int)<(n:Int) by lia)) (gd _ G6 (C.trans D) (.inl ⟨l,rfl⟩))
  clear o X;refine⟨_,rfl,Z3 (zJ.of B) (zS (j:=0) rfl) ⟨zl3,λt5 G5 s5 n5 e5=>J8 (ys:=["link","unlink","pass"]) e5 ⟨_,rfl,?_⟩⟩⟩;by_cases m1:hd∈(["link","unlink","pass"]:List Str)
  case neg=>exact Ze (decide_eq_false m1) (Ze rfl (go2 (λz=>m1 z.1) G5 s5))
  refine Za (decide_eq_true m1) ⟨_,rfl,so,_,rfl,.inl (zJ.of (s5 _ _ B)),rfl,_,rfl,?_⟩;rw[lc];by_cases O:((hd :: r).length:Int)=3
  case neg=>exact Ze (decide_eq_false O) (go2 (λz=>O (by rw[z.2];rfl)) G5 s5)
  refine Za (decide_eq_true O) ?_;obtain⟨u,v,rfl⟩:∃ u v,r=[u,v]:=by
   match r,O with
   | [u,v],_=>exact⟨u,v,rfl⟩
  obtain⟨h,rfl,hh⟩:∃ h:Hd,hd=h.tx/\(h=.link\/h=.unlink\/h=.pass):=by
   simp only[Z08,Z2x,or_false] at m1;rcases m1 with rfl | rfl | rfl;exact⟨.link,rfl,.inl rfl⟩;exact⟨.unlink,rfl,.inr (.inl rfl)⟩;exact⟨.pass,rfl,.inr (.inr rfl)⟩
  have M:=zJ.of (K:=K) (s5 _ _ B);have Y:∀ a b:Nat,(h.ar a b)=[(a:Int),(b:Int)]:=λa b=>by rcases hh with rfl | rfl | rfl <;> rfl
  refine⟨_,rfl,Z3 M (zS (j:=0) rfl) ⟨_,rfl,_,rfl,Z3 M (zS (j:=1) rfl) ⟨_,rfl,Z3 M (zS (j:=2) rfl) ⟨h,Z,n,ps,u,v,rfl,hh,W.same s5,ok,sh u 05,sh v 05,λnf G6 D=>bad (λc=>nf ?_) G6 (s5.trans D),λa b ha L N A p G6 D c=>good h a b ha L ?_ p G6 (s5.trans D) c⟩⟩⟩⟩;obtain⟨h',a,b,ha,L,e⟩:=c;have R:=es.symm.trans ((yY x h' a b).mp e);rw[Z3S] at R;rw[← Hd.Jl R.1,Y] at R;have A:=R.2;simp only[Z1Y,Z3R,Z3S] at A;rw[A.1,A.2.1];exact⟨(YU 00 00).1,(YU 00 00).1⟩;rw[Y,N,A];rfl
 clear o;by_cases h3:a∈(["web","leap"]:List Str)
 case neg =>
  refine Ze (decide_eq_false h3) (Ze rfl (go ?_));rcases pa with⟨I,_,_,_⟩|⟨I,p2,_⟩;exact .inl I;exact .inr ⟨a,d,I,p2,h3⟩
 refine Za (decide_eq_true h3) 018;rw[z0];rcases pa with⟨I,_,rfl,_⟩|⟨I,rfl,rfl⟩;rw[decide_eq_true rfl];exact Ze rfl (go (.inl I));rw[decide_eq_false (show ¬ zQ 32=Str.empty from λz=>absurd (congrArg (λs:Str=>s.cps.size) z) 01)]
 refine Za rfl ⟨_,rfl,_,rfl,a,d,rfl,?_,?_,λp G4 s4 td=>k p G4 (J.trans s4) (.inl ⟨a,d,rfl,td⟩)⟩;rw[zK,zK] at x8;lia;simpa only [Z08,Z2x,or_false] using h3
open L2
def z2Y:zB ["desk","words","due","answer","kinds","other","e"] ["desk","words","due"] (zh x9):=fs
def z5r{mg:SV}{Xw Xk:Addr}(S:ZE K mg "_law_met" x9 ["desk","words","due"])(T:Txt mg)(DT:DkT K Cd)(XL:V9 K mg "NoLink" Xl)(XT:V9 K mg "NoText" Xt)(XM:V9 K mg "NoCommand" Xm)(XTW:V9 K mg "WalkError" Xw)(up:∀ C∈[Xl,Xt,Xm],PySem.W.mroIn K C (.ref Xw)=some true)(nw:∀ C∈[Xl,Xt,Xm],Xw≠C)(ZI:∀ C∈[Xl,Xt,Xm],XcI K C)(X:mg "NoKind"=some (.ref Xk))(zVE:mg "ValueError"=none)(zstr:mg "str"=none)(r:KiT K Xl Xt Xm Xk)(Sy:ZC P w K mg base (JW P w [Xl,Xt,Xm]) 18 Cd "say" ["self","words"] (Zm P w K mg base 16 fz C Cd Xl Xt Xm)):Def P w K mg base 19 "_law_met" ["desk","words","due"] (z7w P w K mg base fz C Cd Xl Xt Xm):=S.def λf fd F=>by
 refine F.yy z2Y λnd cdv A' outer s H vs Q E hr h=>?_;obtain⟨d,dx,fs,v,j,rfl,hd,ns,h⟩:=h;refine⟨_,(qc (qs 3 ⟨vh⟩) (qc (qs 4 (ql qn)) (qc (qs 5 qb) (qc ⟨z7q (Cs:=[Xl,Xt,Xm]) (D:=Xw) (Rx:=λC σ H'=>Z5O Xl Xt Xm j Q d v C σ H') (i:=6) XTW (Z6s XL.kts XT.kts XM.kts) up nw rfl rfl 02 01 nd rfl rfl (λ_=>(@zU _ _ _ (@Zi _ _ 3 _ _ _ _ 02 09 nd rfl 09 (z7K rfl 02 02 (pv 0) DT.cl Sy 014 Z0E 030)))) (λC hC a oe pins t=>(@z9 _ _ _ _ _ (@Zi _ _ 4 _ _ _ _ 02 09 nd rfl 09 (@Yk _ _ _ _ (@ze _ _ _ _ _ 02 (Zq (YJ (a:=a) (ZI C (by assumption)) t) 02 T.isi boot_isinstance (@ze _ _ _ _ _ 02 (pv 6) (@ze _ _ _ _ _ 02 (Zp (v:=.ref Xm) 02 XM.bound rfl) zw))) (@ze _ _ _ _ _ 02 (Zq (YJ (a:=a) (ZI C (by assumption)) t) 02 T.isi boot_isinstance (@ze _ _ _ _ _ 02 (pv 6) (@ze _ _ _ _ _ 02 (Zp (v:=.ref Xt) 02 XT.bound rfl) zw))) (@ze _ _ _ _ _ 02 (Zq (YJ (a:=a) (ZI C (by assumption)) t) 02 T.isi boot_isinstance (@ze _ _ _ _ _ 02 (pv 6) (@ze _ _ _ _ _ 02 (Zp (v:=.ref Xl) 02 XL.bound rfl) zw))) zw))))) (@zU _ _ _ (@Zi _ _ 5 _ _ _ _ 02 09 nd rfl 09 (Z0V (Zq (YJ (a:=a) (ZI C (by assumption)) t) 02 T.isi boot_isinstance (@ze _ _ _ _ _ 02 (pv 6) (@ze _ _ _ _ _ 02 (Zp (v:=.ref Xk) 02 X rfl) zw))) (z8x (z6E (Zq (YJ (a:=a) (ZI C (by assumption)) t) 02 T.isi boot_isinstance (@ze _ _ _ _ _ 02 (pv 6) (@ze _ _ _ _ _ 02 (Yh (v:=.ty "ValueError") 02 zVE Z0u rfl) zw))))))))))⟩ (qc (qf (qk (z5Z hr) (qv 4) (ql qn)) (q1 (qr (q4 (qe Zf (qv 2) qw) (q6 (qy Qc T.isi boot_isinstance (qa (qv 3) (qa ⟨Yh (v:=.ty "str") 02 zstr boot_str rfl⟩ qn))))))) q0) (q1 (qr (q4 (q7 (qv 5)) (q6 (qe (Z3H hr) (qv 4) (qG (zh x9) ["word","due"] [none,some 2] (qL (ql (qa qw (qa qw (qa qw qn))))) ⟨019,trivial⟩ (λ_ _ _ _ _ _=>(qg 0)) (λ_ _ _ _ _=>qV) (λ_ _ _ _ _=>(qe Zf (qv 0) (qv 1)))))))))))))),?_⟩;have xs:∀ C,C∈[Xl,Xt,Xm]->(∃ b1 b2 b3,decide (C=Xm)=b1/\decide (C=Xt)=b2/\decide (C=Xl)=b3/\(((C=Xm/\j=JX)\/(C=Xt/\j=JZ)\/(C=Xl/\j=nlT))->decide (JX=j)=b1/\decide (JZ=j)=b2/\decide (nlT=j)=b3)):=λC hC=>by
  refine⟨_,_,_,rfl,rfl,rfl,λh=>?_⟩;have nd:=r.nd;simp only[List.nodup_cons,Z08,Z2x,or_false,not_or,not_false_eq_true,and_true,List.nodup_nil] at nd;obtain⟨⟨n1,n2⟩,n3⟩:=nd;have p:JX≠JZ/\JX≠nlT/\JZ≠nlT:=03
  rcases h with⟨rfl,rfl⟩|⟨rfl,rfl⟩|⟨rfl,rfl⟩ <;> simp only[decide_eq_decide] <;> refine⟨?_,?_,?_⟩ <;> simp[n1,n2,n3,p.1,p.2.1,p.2.2,Z3O n1,Z3O n2,Z3O n3,Z3O p.1,Z3O p.2.1,Z3O p.2.2]
 refine⟨Z19 _,λkl G1 s1 n1 R=>?_⟩;refine zD λR0 h0=>?_;show R0 [some (.ref d),some v,some (.str j),some .Zc,some (.ref kl),none,none] G1;subst h0;refine zD λR0 h0=>?_;show R0 [some (.ref d),some v,some (.str j),some .Zc,some (.ref kl),some (.bl false),none] G1;subst h0;refine zD λRR m=>?_;refine⟨?_,?_⟩;refine⟨_,rfl,d,dx,fs,rfl,s1 _ _ hd,ns,_,rfl,h G1 _ _ s1 (λa H' U nw q=>?_) λC H' c q=>⟨C,rfl,⟨kl,rfl⟩,c,q⟩⟩;show RR [some (.ref d),some v,some (.str j),some (.str a),some (.ref kl),some (.bl false),none] H';subst m;refine⟨_,rfl,Z19 _,λb G2 s2 n2 Z=>⟨kl,b,[],rfl,rfl,.inr ⟨zJ.of (s2 _ _ (nw _ _ n1 R)),zJ.of Z⟩,_,rfl,Za rfl ?_⟩⟩;exact⟨_,rfl,rfl,_,rfl,Za (decide_eq_true (by rw[U])) ⟨_,rfl,_,_,_,true,rfl,.str a,z7i _,q G2 s2⟩⟩
 · rintro C a σ H' hC ⟨⟨kl',rfl⟩,c,q⟩
   obtain⟨b1,b2,b3,x1,x2,x3,M⟩:=xs C hC;obtain⟨y1,y2,y3⟩:=M c;clear xs h M c;refine⟨_,rfl,.inl ⟨Xm,_,rfl,r.k C hC Xm 05,_,rfl,.inl ⟨Xt,_,rfl,r.k C hC Xt 05,_,rfl,.inl ⟨Xl,_,rfl,r.k C hC Xl 05,zl3,λb G3 s3 n3 I=>?_⟩⟩⟩⟩;rw[x1,x2,x3] at I;refine⟨_,rfl,.inl ⟨Xk,false,rfl,r.n C hC,_,rfl,Ze rfl ⟨_,rfl,.inr (.inl ⟨"ValueError",true,rfl,r.v C hC,_,rfl,?_⟩)⟩⟩⟩;show RR [some (.ref d),some v,some (.str j),some .Zc,some (.ref b),some (.bl false),none] G3;subst m;refine zD λRR m=>?_;refine⟨_,rfl,Z19 _,λl0 G4 s4 n4 Y=>⟨b,l0,_,rfl,rfl,.inr ⟨zJ.of (s4 _ _ I),zJ.of Y⟩,_,rfl,Ze rfl ?_⟩⟩;show RR [_,_,_,_,_,_,_] _;subst m;refine⟨_,rfl,_,rfl,_,rfl,Za rfl ⟨_,rfl,zl3,λl G5 s5 n5 B=>⟨_,rfl,⟨_,zJ.of B⟩,λD O=>?_⟩⟩⟩;have B:G5 l=some (.lst (([JX,JZ,nlT]:List Str).map V.str)):=B;refine Z6 (K:=K) (a:=l) (D:=D) (xs:=([JX,JZ,nlT]:List Str).map V.str) (λi ys σ G=>zu G5 G/\G D=some 034/\ys=((([JX,JZ,nlT]:List Str).take i).map λy=>V.bl (decide (y=j)))/\∃ u,σ=[u,some (.str j)]) ?_ ?_ ?_ ?_;exact⟨zu.new O,zq,rfl,none,rfl⟩;rintro i ys σ G ⟨J,e,_⟩;exact⟨zJ.of (J _ _ B),e⟩
   · rintro i u ys σ G N hi ⟨J,eD,rfl,w0,rfl⟩
     have z:i<3:=hi;rw[Z1a,Z02 z] at N;cases N;dsimp only [ZF];refine Za rfl ?_;refine⟨_,rfl,_,rfl,rfl,eD,(by rw[Z00,Z22,sizeLine_eq];lia),Wt.next hi ⟨λb o e=>by rw[zC (zo e O)];exact J _ _ e,zq,?_,_,rfl⟩⟩;rw[Z35,Z02 z,Z16,z1k];rfl
   rintro ys σ G6 ⟨L,A,rfl,_⟩;have A:G6 D=some (.lst [.bl (decide (JX=j)),.bl (decide (JZ=j)),.bl (decide (nlT=j))]):=A;rw[y1,y2,y3] at A;refine⟨b,D,_,_,[.bl b1,.bl b2,.bl b3],[.bl b1,.bl b2,.bl b3],rfl,rfl,.inr ⟨zJ.of (L _ _ (s5 _ _ (s4 _ _ I))),zJ.of A⟩,⟨_,_,rfl,rfl,_,_,rfl,rfl,_,_,rfl,rfl,rfl⟩,⟨_,_,rfl,rfl,_,_,rfl,rfl,_,_,rfl,rfl,rfl⟩,Z19 20,?_⟩;show Q (.bl (Yz [.bl b1,.bl b2,.bl b3] [.bl b1,.bl b2,.bl b3])) G6;rw[YA];exact q G6 (s3.trans (s4.trans (s5.trans L)))
open L2
def uO:zB ["many","words","head"] ["many","words"] (zh Yq):=fs
def UD{mg:SV}(S:ZE K mg "_law_changes" Yq ["many","words"])(T:Txt mg) :Def P w K mg base 1 "_law_changes" ["many","words"] z6a:=S.def λf fd F=>by
 refine F.yy uO λnd cdv A' outer s H vs Q E hr h=>?_;obtain⟨m,x,hd,r,rfl,c,i,n,k⟩:=h;refine⟨_,(qc (qs 2 (qx zI (qm Z21 Z3M Z56 xq (qv 1) (qa qw qn)) qi)) (qc (qf (qk Yv (qv 2) (qt (qa qw (qa qw qn)))) (q1 (qr qi)) q0) (qc (qf (qk Zf (qv 2) qw) (q1 (qr (qy (ju rfl) T.max boot_max (qa qi (qa (qo xw (qv 0) qi) qn))))) q0) (q1 (qr (qo yN (qv 0) (qY z5w T.int boot_int (qa (qe Yv (qv 2) (qt (qa qw (qa qw (qa qw qn))))) qn)))))))),?_⟩;refine zD λRR a=>?_;refine⟨_,rfl,rfl,x,32,rfl,uX z6O,i,λo G1 s1 p b=>?_⟩;rw[n] at b;refine ixl (zJ.of b) (zS (j:=0) rfl) ?_;show RR [_,_,_] _;subst a;refine zD λRR a=>?_;refine⟨_,rfl,zl2,λt G2 s2 q d=>J8 (ys:=["web","leap"]) d ⟨_,rfl,?_⟩⟩;unfold z0i at k;by_cases h1:hd=Str.ofString "web"\/hd=Str.ofString "leap";rw[if_pos h1] at k;refine Za (decide_eq_true (by simp only[Z08,Z2x,or_false];exact h1)) ?_;exact k G2 (s1.trans s2);rw[if_neg h1] at k;refine Ze (decide_eq_false (by simp only[Z08,Z2x,or_false];exact h1)) ?_;show RR [_,_,_] _;subst a;refine zD λRR a=>?_;refine 018;rw[z1k];by_cases h2:hd=Str.ofString "undo";rw[if_pos h2] at k;refine Za (decide_eq_true h2) ?_;refine⟨_,rfl,_,_,rfl,rfl,_,_,rfl,?_⟩;have e:(if (m:Int) - 1 > 0 then (m:Int) - 1 else 0)=((m - 1:Nat):Int):=by split <;> lia
 rw[e];exact k G2 (s1.trans s2);rw[if_neg h2] at k;refine Ze (decide_eq_false h2) ?_;show RR [_,_,_] _;subst a;refine⟨_,rfl,_,rfl,zl3,λt G3 s3 c l=>J8 (ys:=["link","unlink","page"]) l (.inr ⟨_,rfl,_,_,rfl,rfl,?_⟩)⟩;have:=k G3 (s1.trans (s2.trans s3));by_cases h3:hd=Str.ofString "link"\/hd=Str.ofString "unlink"\/hd=Str.ofString "page";rw[if_pos h3] at this;rw[if_pos (decide_eq_true (by simp only[Z08,Z2x,or_false];exact h3))];exact this;rw[if_neg h3] at this;rw[if_neg (by rw[decide_eq_true_iff];simp only[Z08,Z2x,or_false];exact h3)];show Q (.int ((m:Int)+0)) _;rw[Int.add_zero];exact this
open L2
def Xj:zB ["desk","some","words","held","deep","k","thing"] [] (zh ZZ):=fs
def XX{mg:SV}(S:ZE K mg "_law_things_right" ZZ [])(T:Txt mg)(DT:DkT K Cd)(an:∀ h:Hd,AnX P w K mg base fz Xl h.tx h.nr (h.sp K C Xl tb YQ))(fzk:∀ y,fz y=none\/∃ h:Hd,y=h.tx)(Sy:ZC P w K mg base (JW P w [Xl,Xt,Xm]) 18 Cd "say" ["self","words"] (Zm P w K mg base 16 fz C Cd Xl Xt Xm))(Mk:MkD P w K mg base yV 3 Cd "Desk" ["self"] (um K C Cd))(Me:Def P w K mg base 19 "_law_met" ["desk","words","due"] (z7w P w K mg base fz C Cd Xl Xt Xm))(Du:Def P w K mg base 8 "_law_due" ["words","web"] (z3i K))(Rw:Z9 P w K mg base (ye P w Xt) 6 "read_web" ["text"] (VW K Xt)):Def P w K mg base 20 "_law_things_right" [] (z6i tb YQ):=S.def λf fd F=>by
 refine F.yy Xj λnd cdv A' outer s H vs Q E hr h=>?_;obtain⟨rfl,tab,k⟩:=h;refine⟨_,(qc (qs 0 ⟨je 02 01 Mk 014 xU⟩) (qc (qs 1 (ql (qa qw (qa qw (qa qw (qa qw (qa qw (qa qw qn)))))))) (qc (qF (qL (qo Yi (qv 1) (ql (qa qw (qa qw (qa qw qn)))))) (qg 2) (q1 (qf (qT (qp (qd Me (qa (qv 0) (qa (qv 2) (qa (qd Du (qa (qv 2) (qa ⟨Zz 02 02 02 01 Rw 014 z3j (@ze _ _ _ _ _ 02 (Zt 02 02 02 (pv 0) DT.cl Sy 014 yT 012) zw)⟩ qn))) qn)))))) (q1 (qr qb)) q0))) (qc (qs 3 (ql (qa qw qn))) (qc (qs 4 (qv 3)) (qc (qF (qR T.range (qa qi qn)) (qg 5) (q1 (qs 4 (ql (qa (qv 4) qn))))) (qc (qF (qL (ql (qa ⟨vh⟩ (qa qb (qa qi (qa (qv 3) (qa (qt (qa qw qn)) (qa ⟨z6S⟩ (qa qw (qa (qv 4) qn)))))))))) (qg 6) (q1 (qf (qW (qO (qT (qp (qd Me (qa (qv 0) (qa (qv 6) (qa qw qn)))))) (qP (qk yL ⟨Zt 02 02 02 (pv 0) DT.cl Sy 014 yT 012⟩ qw)))) (q1 (qr qb)) q0))) (qc (qf (qk (Z1D hr) (qv 3) (ql (qa qw qn))) (q1 (qr qb)) q0) (q1 (qr (q4 (qe Zf ⟨Zt 02 02 02 (pv 0) DT.cl Sy 014 yT 012⟩ qw) (q4 (qe Zf ⟨Zt 02 02 02 (pv 0) DT.cl Sy 014 yT 012⟩ qw) (q6 (qe Zf ⟨Zt 02 02 02 (pv 0) DT.cl Sy 014 yT 012⟩ qw)))))))))))))),?_⟩;refine zD λRR j=>?_;intro d dx0 hd0 J ne0;refine⟨d,dx0,rfl,zq,λp0 q0 l0 G1 mp0 mq0 o0 v0 f0 k0=>⟨rfl,?_⟩⟩;obtain⟨D0,s1,np0,nq0⟩:=z0m tab hd0 J mp0 mq0 o0 v0 f0 k0;clear k0 v0 f0 o0 mp0 mq0 ne0 hd0 J np0 nq0 s1 tab;show RR [some (.ref d),none,none,none,none,none,none] G1;subst j;refine zD λRR j=>?_;refine⟨(by show 6<=sizeLine;decide),λN G2 s2 n2 m=>?_⟩;have m:G2 N=some (.lst (Uo.map V.str)):=m;have D2:=D0.same s2;clear D0 s2 n2;show RR [some (.ref d),some (.ref N),none,none,none,none,none] G2;subst j;refine zD λRR j=>?_;refine⟨_,rfl,zl3,λb G3 s3 n3 e3=>YD (zs:=Us) (s3 _ _ m) e3 (by show 9<=100000;decide) λq G4 s4 M B=>⟨q,rfl,⟨_,zJ.of B⟩,?_⟩⟩;have D4:=(D2.same s3).same s4;have Y:q≠q0:=by
  obtain⟨_,_,⟨_,e⟩,_⟩:=id (D2.same s3).h.s.l;exact λz=>by rw[z,e] at M;cases M
 clear D2 m s3 s4 n3 e3 M;refine Yw (K:=K) (a:=q) (xs:=(Uo ++ Us).map V.str) (TaK K C Cd tb YQ d N q) ⟨p0,q0,l0,_,none,rfl,D4,B,Y⟩ ?_ ?_ ?_;rintro i σ G _ ⟨_,_,_,_,_,_,_,e,_⟩;exact zJ.of e;rintro i v σ G U ⟨p,pd,lp,A,v2,rfl,D,eq,Y⟩;have hi:i<9:=(Z15.mp U).1;obtain rfl:v=.str ((Uo ++ Us).getD i ""):=by
  rw[Z1a,Z02 (show i<(Uo ++ Us).length from hi)] at U;rw[Z06,Z02 (show i<(Uo ++ Us).length from hi)];exact (Z12 U).symm
 clear j U D4 B;obtain⟨dx,r⟩:=id D.h.o;have y8:((Uo ++ Us).getD i "").cps.size<=8000:=by
  rw[Z06,Z02 (show i<(Uo ++ Us).length from hi)];exact of_decide_eq_true (Z26.mp (show (Uo ++ Us).all (λy=>decide (y.cps.size<=8000))=true by decide +kernel) _ (Z29 _))
 have hw5:(stW i).length<=5000:=by
  match i with
  | 0=>decide
  | 1=>decide
  | _+2=>show 1<=5000;decide
 refine⟨_,rfl,_,rfl,_,rfl,_,rfl,d,dx,_,rfl,r,Ur.no (Cd:=Cd) 03,?_⟩;show Zm P w K mg base 16 fz C Cd Xl Xt Xm [.ref d,.str (Str.ofString "show")] _ _ _;refine YI D (an .show) hw5 λG2 D2 k2=>?_;have eq2:=D.keep k2 eq (λ_ _ _ z=>by cases z) 022 Y;have Vo:=D2.Vo;have W:=Pw.QA Vo.n1 Vo.n12 Vo.few Vo.rng Vo.up;refine⟨_,rfl,Z0X (z0y Vo) 01,λn2 ps2 wa G3 wt s3 hw=>?_,λno=>absurd ⟨_,_,W⟩ no⟩;obtain⟨rfl,rfl⟩:=vC W wt;refine⟨_,wa,stN i,stP i,rfl,y8,hw,Vo,λdue G4 s4 dk=>?_⟩;have D4:=(D2.same s3).same s4;have eq4:=s4 _ _ (s3 _ _ eq2);clear D D2 eq eq2 k2 r s3 s4 wt hw W Vo;obtain⟨O,Z⟩:=id D4.h.o;refine⟨d,O,_,_,due,rfl,Z,Ur.no (Cd:=Cd) 03,λG5 Q' E' s5 kQ kE=>?_⟩;refine z2d hi (D4.same s5) an fzk dk (λans p' pd' lp' A' G6 e0 D6 k6 fr=>kQ ans G6 e0 (D4.new k6) λG7 t=>?_) λX G6 cx s6 D6=>kE X G6 cx λG7 t=>?_;refine⟨_,rfl,Ze rfl ?_⟩;refine⟨p',pd',lp',A',_,rfl,D6.same t,t _ _ ((D4.same s5).keep k6 (s5 _ _ eq4) (λ_ _ _ z=>by cases z) 022 Y),?_⟩;rcases fr with rfl | z;exact Y;exact zo (s5 _ _ eq4) z;refine⟨_,rfl,Ze rfl ?_⟩;exact⟨p,pd,lp,A,_,rfl,D6.same t,t _ _ (s6 _ _ (s5 _ _ eq4)),Y⟩;rintro σ G ⟨p,pd,lp,A,v2,rfl,D,eq,Y⟩;have D:YO K C Cd tb YQ G d p pd lp 2 [(0,1),(1,0)] [(2,[(0,1)])] A:=D;clear eq D4 B;show RR [_,_,_,_,_,_,_] _;subst j;refine zD λRR j=>?_
 refine⟨zl1,λhl G5 s5 n5 e5=>?_⟩;have D5:=D.same s5;have R:hl≠pd:=by
  obtain⟨_,_,⟨_,e⟩,_⟩:=id D.h.s.l;exact λz=>by rw[z,e] at n5;cases n5
 clear D s5 n5;show RR [some (.ref d),some (.ref N),v2,some (.ref hl),none,none,none] G5;subst j;refine zD λRR j=>?_;refine⟨_,rfl,?_⟩;show RR [some (.ref d),some (.ref N),v2,some (.ref hl),some (.ref hl),none,none] G5;subst j;refine zD λRR j=>?_;refine⟨2000,rfl,01,01,?_⟩;refine xY (lo:=0) (n:=2000) (TbK K C Cd tb YQ d N hl p pd lp A v2) ⟨hl,_,none,rfl,D5,e5,R,e5,R⟩ ?_ ?_;rintro i σ G _ ⟨b,u,v5,rfl,D,eh,R,eb,nb⟩;refine⟨_,rfl,zl1,λc G2 s2 n2 m=>?_⟩;refine⟨c,_,_,rfl,D.same s2,s2 _ _ eh,R,m,λz=>?_⟩;obtain⟨_,_,⟨_,e⟩,_⟩:=id D.h.s.l;rw[z,e] at n2;cases n2;rintro σ G ⟨b,u,v5,rfl,D,eh,R,eb,nb⟩;clear D5 e5;show RR [_,_,_,_,_,_,_] _;subst j;refine zD λRR j=>?_;refine⟨_,rfl,zl1,λtp G2 s2 n2 m dc hdc=>⟨_,rfl,(by show 8<=sizeLine;decide),λL G4 s4 M B=>⟨L,rfl,⟨_,zJ.of B⟩,?_⟩⟩⟩;have s3:zu G2 (upd G2 dc (.dK [])):=zu.new hdc;have I:=s2.trans (s3.trans s4);have D4:=D.same I;have T4:UG G4 pd hl tp dc b L u:=⟨I _ _ eh,s4 _ _ (s3 _ _ m),s4 _ _ zq,I _ _ eb,B,R,nb,λz=>by
  obtain⟨_,_,⟨_,e⟩,_⟩:=id (D.same (s2.trans s3)).h.s.l;rw[z,e] at M;cases M⟩
 clear D s2 s3 s4 I m n2 M hdc eh eb nb R;refine Yw (K:=K) (a:=L) (xs:=[.Zc,.bl true,.int 0,.ref hl,.ref tp,.ref dc,.str (Str.ofString ""),.ref b]) (TcK K C Cd tb YQ d N hl tp dc b L p pd lp u A v2 v5) ⟨none,rfl,D4,T4⟩ ?_ ?_ ?_;rintro i σ G _ ⟨_,_,_,h⟩;exact zJ.of h.l;rintro i v σ G U ⟨v6,rfl,D,h⟩;clear j D4 T4 B;obtain⟨dx,r⟩:=id D.h.o;refine⟨_,rfl,_,rfl,d,dx,_,v,JX,rfl,r,Ur.no (Cd:=Cd) 03,λG5 Q' E' s5 kQ kE=>?_⟩;refine z8q (D.same s5) an fzk ((h.same s5).not U) λG6 s6=>kE Xm G6 (.inl ⟨rfl,rfl⟩) λG7 t=>?_;have D7:=((D.same s5).same s6).same t;have h7:=((h.same s5).same s6).same t;clear D h r kQ kE s5 s6 t U;refine⟨_,rfl,Ze rfl ?_⟩;obtain⟨dx7,ed7⟩:=id D7.h.o;refine⟨_,rfl,d,dx7,_,rfl,ed7,Ur.no (Cd:=Cd) 03,?_⟩;show Zm P w K mg base 16 fz C Cd Xl Xt Xm [.ref d,.str (Str.ofString "show")] _ _ _;refine YI D7 (an .show) 01 λG8 D8 k8=>?_;refine⟨rfl,_,rfl,?_⟩;rw[show Pw.Jr ((2:Nat):Int) [(0,1),(1,0)]=Str.ofString "pages 2 0>1 1>0" by decide +kernel,decide_eq_true rfl];exact Ze rfl ⟨_,rfl,D8,h7.keep D7 k8⟩;rintro σ G ⟨v6,rfl,D,h⟩;clear D4 T4 B;show RR [_,_,_,_,_,_,_] _;subst j;refine zD λRR j=>?_;refine⟨_,rfl,zl1,λb2 G2 s2 n2 m=>⟨hl,b2,_,_,[.str (Str.ofString "show")],[.str (Str.ofString "show")],rfl,rfl,.inr ⟨zJ.of (s2 _ _ h.h),zJ.of m⟩,⟨_,_,rfl,rfl,rfl⟩,⟨_,_,rfl,rfl,rfl⟩,Z19 20,_,rfl,?_⟩⟩;rw[YA];refine Ze rfl ?_;have D2:=D.same s2;clear D h s2 m n2;show RR [_,_,_,_,_,_,_] _;subst j;obtain⟨dx,r⟩:=id D2.h.o;refine⟨_,rfl,d,dx,_,rfl,r,Ur.no (Cd:=Cd) 03,?_⟩;show Zm P w K mg base 16 fz C Cd Xl Xt Xm [.ref d,.str (Str.ofString "undo")] _ _ _;refine Xb D2 (an .undo) 01 (λz=>absurd z 05) λn' ps' Ws' z G3 D3 _=>?_;obtain⟨rfl,z2⟩:=List.append_inj' (s₁:=([]:List Wb)) (t₁:=[(2,[(0,1)])]) z rfl;obtain⟨z3,rfl⟩:=Prod.mk.inj (Z50 z2).1;obtain rfl:n'=2:=00
 clear D2 r z z2 z3;refine⟨rfl,_,rfl,Za (decide_eq_true rfl) ?_⟩;obtain⟨dx,r⟩:=id D3.h.o;refine⟨_,rfl,d,dx,_,rfl,r,Ur.no (Cd:=Cd) 03,?_⟩;show Zm P w K mg base 16 fz C Cd Xl Xt Xm [.ref d,.str (Str.ofString "show")] _ _ _;refine YI D3 (an .show) 01 λG4 D4 _=>?_;refine⟨rfl,_,rfl,?_⟩;rw[show Pw.Jr ((2:Nat):Int) [(0,1)]=Str.ofString "pages 2 0>1" by decide +kernel];refine Za (decide_eq_true rfl) ?_;obtain⟨O,Z⟩:=id D4.h.o;refine⟨_,rfl,d,O,_,rfl,Z,Ur.no (Cd:=Cd) 03,?_⟩;show Zm P w K mg base 16 fz C Cd Xl Xt Xm [.ref d,.str (Str.ofString "undo")] _ _ _;refine Xb D4 (an .undo) 01 (λ_ G5 D5 _=>⟨rfl,?_⟩) λn' ps' Ws' z=>absurd z 05;rw[decide_eq_true (show V.str noT=V.str (Str.ofString "none") from rfl)];exact k G5
open L2
noncomputable def VE(K:FR)(tb:Addr):Sp:=λvs H Q _=>∃ (a:Addr) (ns:List Int),vs=[.ref a]/\zJ K H a (ns.map V.int)/\ns.length<=63/\Tab tb YQ xr H/\∀ H',Q (.bl true) H'
def Z4c:zB ["script","desk","many","cell","words","early","due","k"] ["script"] (zh JF):=fs
def Z1H{mg:SV}(F:QX K "law" "law" JF f fd)(T:Txt mg)(DT:DkT K Cd)(an:∀ h:Hd,AnX P w K mg base fz Xl h.tx h.nr (h.sp K C Xl tb YQ))(fzk:∀ y,fz y=none\/∃ h:Hd,y=h.tx)(Sy:ZC P w K mg base (JW P w [Xl,Xt,Xm]) 18 Cd "say" ["self","words"] (Zm P w K mg base 16 fz C Cd Xl Xt Xm))(Mk:MkD P w K mg base yV 3 Cd "Desk" ["self"] (um K C Cd))(Rw:Z9 P w K mg base (ye P w Xt) 6 "read_web" ["text"] (VW K Xt))(Me:Def P w K mg base 19 "_law_met" ["desk","words","due"] (z7w P w K mg base fz C Cd Xl Xt Xm))(Du:Def P w K mg base 8 "_law_due" ["words","web"] (z3i K))(Wo:Def P w K mg base 4 "_law_words" ["cell"] z0v)(Ch:Def P w K mg base 1 "_law_changes" ["many","words"] z6a)(Th:Def P w K mg base 20 "_law_things_right" [] (z6i tb YQ)):Zo P w K mg base yV 21 f fd ["script"] (VE K tb):=by
 refine F.yy Z4c λnd cdv A' outer s H vs Q E hr h=>?_;obtain⟨a,ns,rfl,hS,hlen,tab,k⟩:=h;refine⟨_,(qc (qs 1 ⟨je 02 01 Mk 014 xU⟩) (qc (qf (qW (qO (qk yL ⟨Zt 02 02 02 (pv 1) DT.cl Sy 014 yT 012⟩ qw) (qP (qk yL ⟨Zt 02 02 02 (pv 1) DT.cl Sy 014 yT 012⟩ qw)))) (q1 (qr qb)) q0) (qc (qs 2 qi) (qc (qF (qL (q9 Vy (qv 0) (qQ qi) (qQ qi))) (qg 3) (qc (qs 4 (qd Wo (qa (qv 3) qn))) (qc (qs 5 ⟨Zt 02 02 02 (pv 1) DT.cl Sy 014 yT 012⟩) (qc (qs 6 (qd Du (qa (qv 4) (qa ⟨Zz 02 02 02 01 Rw 014 z3j (@ze _ _ _ _ _ 02 (pv 5) zw)⟩ qn)))) (qc (qf (qT (qp (qd Me (qa (qv 1) (qa (qv 4) (qa (qv 6) qn)))))) (q1 (qr qb)) q0) (qc (qf (qW (qA (qk yL (qv 6) qw) (qB (qk yL ⟨Zt 02 02 02 (pv 1) DT.cl Sy 014 yT 012⟩ (qv 5))))) (q1 (qr qb)) q0) (q1 (qf (qk Zf (qv 6) qw) (q1 (qs 2 (qd Ch (qa (qv 2) (qa (qv 4) qn))))) q0)))))))) (qc (qF (qR T.range (qa (qv 2) qn)) (qg 7) (q1 (qf (qk yL ⟨Zt 02 02 02 (pv 1) DT.cl Sy 014 yT 012⟩ qw) (q1 (qr qb)) q0))) (q1 (qr (q4 (qe Zf ⟨Zt 02 02 02 (pv 1) DT.cl Sy 014 yT 012⟩ qw) (q6 ⟨z9w 02 01 Th 014⟩))))))))),?_⟩;refine zD λRR j=>?_;intro d dx0 N I ne0;refine⟨d,dx0,rfl,zq,λp0 q0 l0 G1 mp0 Y o0 v0 f0 k0=>⟨rfl,?_⟩⟩;obtain⟨D0,s1,S,nq0⟩:=z0m tab N I mp0 Y o0 v0 f0 k0;clear k0 v0 f0 o0 mp0 Y ne0;show RR [some 024,some (.ref d),none,none,none,none,none,none] G1;subst j;refine zD λRR j=>?_;obtain⟨dx,B⟩:=id D0.h.o;refine⟨_,rfl,d,dx,_,rfl,B,Ur.no (Cd:=Cd) 03,?_⟩;show Zm P w K mg base 16 fz C Cd Xl Xt Xm [.ref d,.str (Str.ofString "web pages 4 0>1 1>2 2>0 2>3")] _ _ _;refine z7A D0 (t:="pages 4 0>1 1>2 2>0 2>3") (n':=4) (ps':=[(0,1),(1,2),(2,0),(2,3)]) 03 03 ?_ λp1 q1 G2 mp1 mq1 D1 k1=>?_;rw[show ("pages 4 0>1 1>2 2>0 2>3":Str)=Pw.Jr 4 [(0,1),(1,2),(2,0),(2,3)] by decide +kernel];exact Pw.QA 01 01 01 01 01;refine⟨rfl,_,rfl,Ze rfl ?_⟩;obtain⟨dx1,Z⟩:=id D1.h.o;refine⟨_,rfl,d,dx1,_,rfl,Z,Ur.no (Cd:=Cd) 03,?_⟩;show Zm P w K mg base 16 fz C Cd Xl Xt Xm [.ref d,.str (Str.ofString "link 3 0")] _ _ _;rw[show Str.ofString "link 3 0"=Hd.cm .link 3 0 by decide +kernel];refine Qy D1 (an .link) 01 01 01 (λz=>by cases z) (λans n' ps' Ws' G3 _ r D2 k2=>?_) λz=>absurd ⟨01,01,01⟩ z;obtain⟨rfl,rfl,pm,_,rfl⟩:=r;refine⟨rfl,_,rfl,Ze rfl ?_⟩;have kA:Kx [d,p0,q0,p1,q1,tb] H G3:=λb o e n=>by
  simp only[Z08,Z2x,or_false,not_or] at n;exact k2 _ _ (k1 _ _ (s1 _ _ e) (by simp[n])) (by simp[n])
 have U:zJ K G3 a (ns.map V.int):=hS.kx kA λo e nt z=>by
  simp only[Z08,Z2x,or_false] at z;rcases z with z | z | z | z | z | z;exact zo e N z;exact zo e S z;exact zo e nq0 z;exact zo e (s1.free mp1) z;exact zo e (s1.free mq1) z;exact tab.ne e nt z
 have b2:∀ W∈[(((4:Nat):Int),[((0:Int),(1:Int)),(1,2),(2,0),(2,3)])] ++ [(((4:Nat):Int),ps')],W.2.length<=5:=λW hW=>by
  simp only[Z1y,Z04] at hW;rcases hW with rfl | rfl;decide;show ps'.length<=5;rw[pm.length_eq];decide
 clear kA pm hS tab k1 k2 D1 D0 B Z mp1 mq1 S nq0 N I s1;show RR [some 024,some (.ref d),none,none,none,none,none,none] G3;subst j;refine zD λRR j=>?_;show RR [some 024,some (.ref d),some (.int 1),none,none,none,none,none] G3;subst j;refine zD λRR j=>?_;refine⟨_,rfl,1,rfl,51,rfl,a,_,rfl,U,λq hq=>?_⟩;obtain⟨cs,ec,hcs⟩:=Z5u ns;rw[ec];have D4:YO K C Cd tb YQ (upd G3 q (.lst (cs.map V.int))) d p1 q1 l0 4 ps' _ (1,2):=D2.same (zu.new hq);have e4:(upd G3 q (.lst (cs.map V.int))) q=some (.lst (cs.map V.int)):=zq;have u:q≠q1:=λz=>by
  obtain⟨_,_,⟨_,e⟩,_⟩:=id D2.h.s.l;rw[z,e] at hq;cases hq
 generalize upd G3 q (.lst (cs.map V.int))=G4 at D4 e4;clear D2 U hq ec;refine⟨q,rfl,⟨_,zJ.of e4⟩,?_⟩;refine Yw (K:=K) (a:=q) (xs:=cs.map V.int) (LpK K C Cd tb YQ a d q cs) ⟨p1,q1,l0,4,ps',_,_,none,none,none,none,rfl,D4,b2,Z01 _,e4,u⟩ ?_ ?_ ?_;rintro i σ G _ ⟨_,_,_,_,_,_,_,_,_,_,_,_,_,_,_,e,_⟩;exact zJ.of e;rintro i v σ G J ⟨p,pd,lp,n,ps,Ws,A,v3,v4,v5,v6,rfl,D,bd,bl,eq,u⟩;obtain⟨c,rfl⟩:∃ c:Int,v=.int c:=by
  rw[Z1a] at J;cases h:cs[i]? with
  | none=>rw[h] at J;cases J
  | some c=>rw[h] at J;exact⟨c,(Z12 J).symm⟩
 have hi:i<50:=by
  have:=(Z15.mp J).1;rw[Z00] at this;lia
 clear j;refine z6u λDD hDD=>?_;have fin:∀ {σ:L2.St}{G:Hp},LpK K C Cd tb YQ a d q cs (i+1) σ G->DD.nx σ G:=λp=>by rw[hDD];exact p
 clear hDD J hcs D4 e4 b2;refine zD λRR j=>?_;refine⟨_,rfl,c,rfl,λy G1 oky s1=>?_⟩;have y8:y.cps.size<=8000:=Z0X oky.few 01;have D1:=D.same s1;have eq1:=s1 _ _ eq;clear D s1 eq;show RR [some 024,some (.ref d),some (.int (Ws.length:Nat)),some (.int c),some (.str y),v5,v6,none] G1;subst j;refine zD λRR j=>?_;obtain⟨dx,B⟩:=id D1.h.o;refine⟨_,rfl,d,dx,_,rfl,B,Ur.no (Cd:=Cd) 03,?_⟩;show Zm P w K mg base 16 fz C Cd Xl Xt Xm [.ref d,.str (Str.ofString "show")] _ _ _;refine YI D1 (an .show) 00 λG2 D2 k2=>?_;have eq2:=D1.keep k2 eq1 (λ_ _ _ z=>by cases z) 022 u;clear D1 B eq1 k2;show RR [some 024,some (.ref d),some (.int (Ws.length:Nat)),some (.int c),some (.str y),some (.str (Pw.Jr (n:Int) ps)),v6,none] G2;subst j;refine zD λRR j=>?_;have Vo:=D2.Vo;have L:=Pw.QA Vo.n1 Vo.n12 Vo.few Vo.rng Vo.up;refine⟨_,rfl,_,rfl,Pw.Jr (n:Int) ps,rfl,Z0X (z0y Vo) 01,λn2 ps2 wa G3 wt s3 hw=>?_,λno=>absurd ⟨_,_,L⟩ no⟩;obtain⟨rfl,rfl⟩:=vC L wt;refine⟨y,wa,n,ps,rfl,y8,hw,Vo,λm G4 s4 dk=>?_⟩;have D4:=(D2.same s3).same s4;have eq4:=s4 _ _ (s3 _ _ eq2);clear D2 eq2 s3 s4 wt hw L Vo;show RR [some 024,some (.ref d),some (.int (Ws.length:Nat)),some (.int c),some (.str y),some (.str (Pw.Jr (n:Int) ps)),some (.str m),none] G4;subst j;refine zD λRR j=>?_;obtain⟨dx4,ed4⟩:=id D4.h.o;refine⟨_,rfl,_,rfl,_,rfl,d,dx4,_,.str y,m,rfl,ed4,Ur.no (Cd:=Cd) 03,λG5 Q' E' s5 kQ kE=>?_⟩;have bp:=bd _ (Z1g _ (Z04.mpr rfl));change ps.length<=5+i at bp;refine z3k (D4.same s5) an fzk oky dk 00 00 (λans p' pd' lp' n' ps' Ws' A' G6 R nx D6 k6 fr=>kQ ans G6 R (D4.new k6) λG7 O=>?_) λX G6 cx s6=>kE X G6 cx λG7 O=>?_;refine⟨_,rfl,Ze rfl ?_⟩;show RR [_,_,_,_,_,_,_,_] _;subst j;refine zD λRR j=>?_;refine 018;rw[decide_eq_true (by rw[R]:V.str m=V.str (Str.ofString ""))];refine Ze rfl (Ze rfl ?_);show RR [_,_,_,_,_,_,_,_] _;subst j;obtain⟨hd,r,es⟩:∃ hd r,Txt.split y (zQ 32)=hd :: r:=by
  match hh:Txt.split y (zQ 32),split_pos y (zQ 32) with
  | w0 :: r,_=>exact⟨w0,r,rfl⟩
 obtain⟨m1,m2⟩:=nx.many es (M:=5+i) 00 bd;refine⟨_,rfl,rfl,_,rfl,Za (decide_eq_true (by rw[R])) ⟨_,rfl,_,rfl,Ws.length,y,hd,r,rfl,00,y8,es,λG8 s8=>fin ⟨p',pd',lp',n',ps',Ws',A',some (.int c),some (.str y),some (.str (Pw.Jr (n:Int) ps)),some (.str m),?_,(D6.same O).same s8,m2,?_,s8 _ _ (O _ _ ((D4.same s5).keep k6 (s5 _ _ eq4) (λ_ _ _ z=>by cases z) 022 u)),?_⟩⟩⟩;rw[m1];rfl;rw[m1];have:=Z2g hd Ws.length;lia;rcases fr with rfl | z;exact u;exact zo (s5 _ _ eq4) z;refine⟨_,rfl,Ze rfl ?_⟩;have ne:¬ V.str m=V.str (Str.ofString ""):=λz=>by
  have z:=V.str.inj z;have d1:JX≠Str.ofString ""/\JZ≠Str.ofString ""/\nlT≠Str.ofString "":=03
  rcases cx with⟨_,e⟩|⟨_,e⟩|⟨_,e⟩ <;> rw[e] at z;exact d1.1 z;exact d1.2.1 z;exact d1.2.2 z
 have D7:=((D4.same s5).same s6).same O;have eq7:=O _ _ (s6 _ _ (s5 _ _ eq4));clear kQ kE D4 ed4 eq4 s5 s6 O cx;show RR [_,_,_,_,_,_,_,_] _;subst j;refine zD λRR j=>?_;refine 018;rw[decide_eq_false ne];refine Za rfl ?_;obtain⟨dx7,ed7⟩:=id D7.h.o;refine⟨_,rfl,d,dx7,_,rfl,ed7,Ur.no (Cd:=Cd) 03,?_⟩;show Zm P w K mg base 16 fz C Cd Xl Xt Xm [.ref d,.str (Str.ofString "show")] _ _ _;refine YI D7 (an .show) 00 λG8 D8 k8=>?_;have eq8:=D7.keep k8 eq7 (λ_ _ _ z=>by cases z) 022 u;refine 018;rw[decide_eq_true rfl];refine Ze rfl ?_;show RR [_,_,_,_,_,_,_,_] _;subst j;refine⟨_,rfl,rfl,_,rfl,Ze (decide_eq_false ne) ?_⟩;exact fin ⟨p,pd,lp,n,ps,Ws,A,_,_,_,_,rfl,D8,λW hW=>by have:=bd W hW;lia,00,eq8,u⟩;rintro σ G ⟨p,pd,lp,n,ps,Ws,A,v3,v4,v5,v6,rfl,D,bd,bl,eq,u⟩;rw[Z00] at bl;clear D4 e4 b2 eq u bd;show RR [_,_,_,_,_,_,_,_] _;subst j;refine zD λRR j=>?_;have hm:Ws.length<=51:=00
 refine⟨_,rfl,Ws.length,rfl,00,00,?_⟩;refine xY (lo:=0) (n:=((Ws.length:Nat):Int).toNat) (LqK K C Cd tb YQ a d Ws.length v3 v4 v5 v6) ⟨p,pd,lp,n,ps,Ws,A,none,rfl,D,rfl⟩ ?_ ?_;rintro i σ G hi ⟨p,pd,lp,n,ps,Vs,A,v7,rfl,D,hl⟩;have hi':i<Ws.length:=by rw[Z3o] at hi;exact hi
 obtain⟨dx,B⟩:=id D.h.o;refine⟨_,rfl,d,dx,_,rfl,B,Ur.no (Cd:=Cd) 03,?_⟩;show Zm P w K mg base 16 fz C Cd Xl Xt Xm [.ref d,.str (Str.ofString "undo")] _ _ _;refine Xb D (an .undo) 00 (λz=>by rw[z] at hl;have:([]:List Wb).length=0:=rfl;lia) λn' ps' Ws' z G2 D2 _=>?_;refine⟨rfl,_,rfl,Ze rfl ?_⟩;refine⟨p,pd,lp,n',ps',Ws',A,_,rfl,D2,?_⟩;rw[z,Z14,Z39] at hl;lia;rintro σ G ⟨p,pd,lp,n,ps,Vs,A,v7,rfl,D,hl⟩;show RR [_,_,_,_,_,_,_,_] _;subst j;obtain⟨dx,B⟩:=id D.h.o;have R:Vs=[]:=Z27.mp (by rw[Z3o] at hl;lia);refine⟨_,rfl,d,dx,_,rfl,B,Ur.no (Cd:=Cd) 03,?_⟩;show Zm P w K mg base 16 fz C Cd Xl Xt Xm [.ref d,.str (Str.ofString "undo")] _ _ _;refine Xb D (an .undo) (by rw[R];decide) (λ_ G2 D2 _=>?_) λn' ps' Ws' z=>absurd (R.symm.trans z) 05;exact⟨rfl,_,rfl,Za (decide_eq_true rfl) ⟨rfl,D2.h.t,k⟩⟩
open L2
def all_mk{l:PySem.W.OpenLaw}{w:World}{K:FR}{h:Heap}{mg:SV}{fa f89 :Addr}(XK:K.In h)(G:h.Ns mainGlobals mg)(hfa:mg "law"=some (.ref fa))
 {od an:Option Addr}{sl:Array (Option Value)}{oc kV dc pm cd ct:Value}
 (A7:FnAt K "is_whole" z2N)
 (A8:FnAt K "common" xV)
 (A9:FnAt K "is_pair_of_wholes" z6V)
 (A10:FnAt K "is_fraction" Z3t)
 (A11:FnAt K "made" z4p)
 (A12:FnAt K "is_less" vE)
 (A13:FnAt K "shared_below" z1Q)
 (A14:FnAt K "aboves" VB)
 (A16:FnAt K "cleared" qZ)
 (A17:FnAt K "solved" Qi)
 (A21:FnAt K "is_link" vz)
 (A22:FnAt K "are_rising" yD)
 (A23:FnAt K "are_links" Ye)
 (A24:FnAt K "is_web" uA)
 (A25:FnAt K "leads" Uj)
 (A26:FnAt K "is_leap" z7J)
 (A27:FnAt K "even" z6L)
 (A29:FnAt K "parts" z2I)
 (A30:FnAt K "factor" Jw)
 (A31:FnAt K "equation" Xe)
 (A32:FnAt K "visits" QW)
 (A33:FnAt K "shares" VD)
 (A35:FnAt K "ranked" JO)
 (A38:FnAt K "with_link" z6U)
 (A39:FnAt K "without_link" uP)
 (A44:FnAt K "show_figures" yZ)
 (A45:FnAt K "show_number" Ys)
 (A46:FnAt K "show_fraction" yx)
 (A47:FnAt K "show_web" Y5)
 (A48:FnAt K "are_figures" ym)
 (A49:FnAt K "read_number" Yr)
 (A50:FnAt K "read_pair" xA)
 (A51:FnAt K "read_fraction" yt)
 (A52:FnAt K "read_web" xh)
 (A54:FnAt K "choices" YK)
 (A55:FnAt K "linked" uS)
 (A56:FnAt K "is_ahead" X4)
 (A57:FnAt K "least_links" Yo)
 (A61:FnAt K "parted" Qo)
 (A62:FnAt K "check_page" YM)
 (A63:FnAt K "say_link" XD)
 (A64:FnAt K "say_unlink" YN)
 (A65:FnAt K "say_page" XE)
 (A66:FnAt K "say_undo" XC)
 (A67:FnAt K "say_show" X3)
 (A68:FnAt K "say_share" xO)
 (A69:FnAt K "say_rank" XO)
 (A70:FnAt K "say_pass" XZ)
 (A72:FnAt K "read_leap" xT)
 (A73:FnAt K "answered" yK)
 (A77:FnAt K "_law_take" X0)
 (A78:FnAt K "_law_deck" XU)
 (A79:FnAt K "_law_number" YV)
 (A80:FnAt K "_law_text" XR)
 (A81:FnAt K "_law_words" xE)
 (A82:FnAt K "_law_is_number" ZX)
 (A83:FnAt K "_law_text_due" yS)
 (A84:FnAt K "_law_two_due" Yt)
 (A85:FnAt K "_law_due" vq)
 (A86:FnAt K "_law_met" x9)
 (A87:FnAt K "_law_changes" Yq)
 (A88:FnAt K "_law_things_right" ZZ)
 (aL:PySem.W.nsIn K mainGlobals "law"=some (some (.ref f89))) (lL:K.lookup f89=some ⟨oc,od,.func (PySem.W.fnOf "law" "law" (ZK JF) (Zs JF) (zh JF) .none kV dc pm an cd ct),sl⟩) (cL:PySem.W.codeIn K cd "law"=true) (kL:PySem.W.keepIn K (.ref f89)=true)
 (zabs:PySem.W.nsIn K mainGlobals "abs"=some none)
 (zisi:PySem.W.nsIn K mainGlobals "isinstance"=some none)
 (ztup:PySem.W.nsIn K mainGlobals "tuple"=some none)
 (zint:PySem.W.nsIn K mainGlobals "int"=some none)
 (zbool:PySem.W.nsIn K mainGlobals "bool"=some none)
 (zlst:PySem.W.nsIn K mainGlobals "list"=some none)
 (zenu:PySem.W.nsIn K mainGlobals "enumerate"=some none)
 (zlen:PySem.W.nsIn K mainGlobals "len"=some none)
 (zrange:PySem.W.nsIn K mainGlobals "range"=some none)
 (zsrt:PySem.W.nsIn K mainGlobals "sorted"=some none)
 (zsum:PySem.W.nsIn K mainGlobals "sum"=some none)
 (zzip:PySem.W.nsIn K mainGlobals "zip"=some none)
 (zmax:PySem.W.nsIn K mainGlobals "max"=some none)
 (zrev:PySem.W.nsIn K mainGlobals "reversed"=some none)
 (zstr:PySem.W.nsIn K mainGlobals "str"=some none)
 (zall:PySem.W.nsIn K mainGlobals "all"=some none)
 (zmin:PySem.W.nsIn K mainGlobals "min"=some none)
 (zVE:PySem.W.nsIn K mainGlobals "ValueError"=some none)
 {C:Addr}(aC:z0Y K "Live" C)
 (n_now:PySem.W.findIn K 035 "now"=some none)
 (n_leap:PySem.W.findIn K 035 "leap"=some none)
 (n_past:PySem.W.findIn K 035 "past"=some none)
 (M_init:jy K C "__init__" "Live.__init__" ud)
 (M_turn:jy K C "turn" "Live.turn" V6)
 (M_check:jy K C "check" "Live.check" vA)
 (M_link:jy K C "link" "Live.link" V0)
 (M_unlink:jy K C "unlink" "Live.unlink" XA)
 (M_undo:jy K C "undo" "Live.undo" uR)
 (M_page:jy K C "page" "Live.page" uQ)
 (M_web:jy K C "web" "Live.web" j6)
 (M_shares:jy K C "shares" "Live.shares" XJ)
 (M_ranked:jy K C "ranked" "Live.ranked" XH)
 (I_MOST_PAGES:Ve K "MOST_PAGES" 12)
 (I_MOST_LINKS:Ve K "MOST_LINKS" 60)
 (I_MOST_FIGURES:Ve K "MOST_FIGURES" 13)
 (I_MOST_PLACES:Ve K "MOST_PLACES" 6)
 (L_shares_shares:z0U K "shares" "shares_shares")
 (L_ranked_shares:z0U K "ranked" "ranked_shares")
 {Xc_NoLink:Addr}(E_NoLink:Vd K "NoLink" Xc_NoLink)
 {Xc_NoText:Addr}(E_NoText:Vd K "NoText" Xc_NoText)
 {Xc_NoCommand:Addr}(E_NoCommand:Vd K "NoCommand" Xc_NoCommand)
 {Xc_WalkError:Addr}(E_WalkError:Vd K "WalkError" Xc_WalkError)
 {Cd:Addr}(aD:z0Y K "Desk" Cd)
 (n_live:PySem.W.findIn K (.ref Cd) "live"=some none)
 (M_dinit:jy K Cd "__init__" "Desk.__init__" XY)
 (M_say:jy K Cd "say" "Desk.say" vp)
 (S_DONE:z5d K "DONE" U4)
 {fz:SV}(D_ANS:z9R w K "ANSWERS" fz)
 (F_link:Yb K fz (Str.ofString "link") 2 "say_link")
 (F_unlink:Yb K fz (Str.ofString "unlink") 2 "say_unlink")
 (F_page:Yb K fz (Str.ofString "page") 0 "say_page")
 (F_undo:Yb K fz (Str.ofString "undo") 0 "say_undo")
 (F_show:Yb K fz (Str.ofString "show") 0 "say_show")
 (F_share:Yb K fz (Str.ofString "share") 1 "say_share")
 (F_rank:Yb K fz (Str.ofString "rank") 0 "say_rank")
 (F_pass:Yb K fz (Str.ofString "pass") 2 "say_pass")
 (x1:Xc_NoLink≠Xc_NoText)
 (x2:Xc_NoLink≠Xc_NoCommand)
 (x3:Xc_NoText≠Xc_NoCommand)
 (fzk:∀ y:Str,fz y=none\/∃ h:L2.Hd,y=h.tx)
 {Xk:Addr}(xbK:PySem.W.nsIn K mainGlobals "NoKind"=some (some (.ref Xk)))
 (y1:PySem.W.kitOne K (.ref Xc_NoLink) (.ref Xc_NoText)=some false)
 (y2:PySem.W.kitOne K (.ref Xc_NoLink) (.ref Xc_NoCommand)=some false)
 (y3:PySem.W.kitOne K (.ref Xc_NoText) (.ref Xc_NoLink)=some false)
 (y4:PySem.W.kitOne K (.ref Xc_NoText) (.ref Xc_NoCommand)=some false)
 (y5:PySem.W.kitOne K (.ref Xc_NoCommand) (.ref Xc_NoLink)=some false)
 (y6:PySem.W.kitOne K (.ref Xc_NoCommand) (.ref Xc_NoText)=some false)
 (kn1:PySem.W.kitOne K (.ref Xc_NoLink) (.ref Xk)=some false)
 (kv1:PySem.W.kitOne K (.ref Xc_NoLink) (.type "ValueError")=some true)
 (xu1:PySem.W.mroIn K Xc_NoLink (.ref Xc_WalkError)=some true)
 (xw1:Xc_WalkError≠Xc_NoLink)
 (xg1:PySem.W.findIn K (.ref Xc_NoLink) "__getattribute__"=some (some (.builtin "BaseException.__getattribute__")))
 (xh1:PySem.W.findIn K (.ref Xc_NoLink) "__getattr__"=some none)
 (xc1:PySem.W.findIn K (.ref Xc_NoLink) "__class__"=some (some (.builtin "object.__class__")))
 (xo1:PySem.W.mroIn K Xc_NoLink (.type "object")=some true)
 (xb1:PySem.W.mroIn K Xc_NoLink (.type "BaseException")=some true)
 (kn2:PySem.W.kitOne K (.ref Xc_NoText) (.ref Xk)=some false)
 (kv2:PySem.W.kitOne K (.ref Xc_NoText) (.type "ValueError")=some true)
 (xu2:PySem.W.mroIn K Xc_NoText (.ref Xc_WalkError)=some true)
 (xw2:Xc_WalkError≠Xc_NoText)
 (xg2:PySem.W.findIn K (.ref Xc_NoText) "__getattribute__"=some (some (.builtin "BaseException.__getattribute__")))
 (xh2:PySem.W.findIn K (.ref Xc_NoText) "__getattr__"=some none)
 (xc2:PySem.W.findIn K (.ref Xc_NoText) "__class__"=some (some (.builtin "object.__class__")))
 (xo2:PySem.W.mroIn K Xc_NoText (.type "object")=some true)
 (xb2:PySem.W.mroIn K Xc_NoText (.type "BaseException")=some true)
 (kn3:PySem.W.kitOne K (.ref Xc_NoCommand) (.ref Xk)=some false)
 (kv3:PySem.W.kitOne K (.ref Xc_NoCommand) (.type "ValueError")=some true)
 (xu3:PySem.W.mroIn K Xc_NoCommand (.ref Xc_WalkError)=some true)
 (xw3:Xc_WalkError≠Xc_NoCommand)
 (xg3:PySem.W.findIn K (.ref Xc_NoCommand) "__getattribute__"=some (some (.builtin "BaseException.__getattribute__")))
 (xh3:PySem.W.findIn K (.ref Xc_NoCommand) "__getattr__"=some none)
 (xc3:PySem.W.findIn K (.ref Xc_NoCommand) "__class__"=some (some (.builtin "object.__class__")))
 (xo3:PySem.W.mroIn K Xc_NoCommand (.type "object")=some true)
 (xb3:PySem.W.mroIn K Xc_NoCommand (.type "BaseException")=some true)
 {cR tb:Addr}(CO:xQ K "ranked" cR) (hC:PySem.W.codeHdIn K cR tb=true)
:∃ fd:FuncData,(∀ (s:Shared) (v:Value),BindsTo s fd ⟨[v],[]⟩ [("script",v)])/\∀ base:Heap,K.In base->base.Ns mainGlobals mg->Bm base mg->Zo l.prog w K mg base yV 21 fa fd ["script"] (VE K tb):=by
 have e:=hfa.symm.trans (Z3Q XK G aL)
 cases e
 have F89:=z2h (st:=JF) lL cL kL
 have mk_Live:=aC.mkf ["self","web","leap"] M_init XK G (by intro _ _ _ _ _ _ us hl;rcases us with _ |⟨_,_ |⟨_,_ |⟨_,_ |⟨_,_⟩⟩⟩⟩ <;> first | rfl | (simp at hl))
 have LT:UO K C:=⟨aC.cl,n_now,n_leap,n_past⟩
 obtain⟨t_MOST_PAGES,i_MOST_PAGES⟩:=I_MOST_PAGES.mg XK G
 obtain⟨t_MOST_LINKS,i_MOST_LINKS⟩:=I_MOST_LINKS.mg XK G
 obtain⟨t_MOST_FIGURES,i_MOST_FIGURES⟩:=I_MOST_FIGURES.mg XK G
 obtain⟨t_MOST_PLACES,i_MOST_PLACES⟩:=I_MOST_PLACES.mg XK G
 have l_shares_shares:=L_shares_shares.mg XK G
 have l_ranked_shares:=L_ranked_shares.mg XK G
 have XT_NoLink:=E_NoLink.xt XK G
 have XT_NoText:=E_NoText.xt XK G
 have XT_NoCommand:=E_NoCommand.xt XK G
 have XT_WalkError:=E_WalkError.xt XK G
 have mk_Desk:=aD.mkf ["self"] M_dinit XK G (by intro _ _ _ _ _ _ us hl;rcases us with _ |⟨_,_ |⟨_,_⟩⟩ <;> first | rfl | (simp at hl))
 have DT:DkT K Cd:=⟨aD.cl,n_live⟩
 obtain⟨t_DONE,i_DONE⟩:=S_DONE.mg XK G
 obtain⟨zANS,aANS,dcANS⟩:=D_ANS
 have mANS:=Z3Q XK G aANS
 have T:Txt mg:=⟨Z24 XK G zabs,Z24 XK G zisi,Z24 XK G ztup,Z24 XK G zint,Z24 XK G zbool,Z24 XK G zlst,Z24 XK G zenu,Z24 XK G zlen,Z24 XK G zrange,Z24 XK G zsrt,Z24 XK G zsum,Z24 XK G zzip,Z24 XK G zmax⟩
 have zrev:=Z24 XK G zrev
 have zstr:=Z24 XK G zstr
 have zall:=Z24 XK G zall
 have zmin:=Z24 XK G zmin
 have zVE:=Z24 XK G zVE
 refine⟨PySem.W.fnOf "law" "law" (ZK JF) (Zs JF) (zh JF) .none kV dc pm an cd ct,λs v=>.of_eq rfl,λbase KB _ hBm=>?_⟩
 · skip
   have dM:Def l.prog w K mg base 2 "made" ["above","below"] VA:=Z3q (A11.g XK G) (A8.g XK G) T
   have dCo:Def l.prog w K mg base 1 "common" ["one","other"] YF:=z5Y (A8.g XK G)
   have dBe:=Z0i (A13.g XK G) dCo
   have dAb:Def l.prog w K mg base 1 "aboves" ["some","below"] (QF K):=z6N (A14.g XK G)
   have dLd:Def l.prog w K mg base 1 "leads" ["web","page"] (VC K Pw.outs):=Z0h (A25.g XK G)
   have dPa:=z9q (A29.g XK G) T dLd
   have dFa:=z7o (A30.g XK G) T dPa
   have dEq:=z2Z (A31.g XK G) T dFa
   have dCl:Def l.prog w K mg base 1 "cleared" ["equation","chosen","place","before"] (vG K):=z5B (A16.g XK G) T
   have dSo:=z5R (A17.g XK G) T dCl
   have dVi:=z7I (A32.g XK G) T dAb dBe dSo dEq dPa
   have dSh:=z8E (A33.g XK G) T dVi dM
   have dWh:Def l.prog w K mg base 1 "is_whole" ["thing"] QB:=z2V (A7.g XK G) T
   have dPa:=Xh (A9.g XK G) T dWh
   have dIf:=UK (A10.g XK G) T dPa dCo
   have dIl:=z5t (A21.g XK G) T dPa
   have dRi:Def l.prog w K mg base 1 "are_rising" ["links"] (vt K):=Jp (A22.g XK G) T zall
   have dAl:=z0W (A23.g XK G) T i_MOST_PAGES i_MOST_LINKS zall dIl dRi
   have dIw:=z7T (A24.g XK G) T i_MOST_PAGES i_MOST_LINKS dWh dAl
   have dFi:Def l.prog w K mg base 1 "are_figures" ["text","most"] z0V:=UT (A48.g XK G) T zall
   have dRn:=UL (A49.g XK G) T XT_NoText i_MOST_FIGURES dFi
   have dRp:=z1A (A50.g XK G) T XT_NoText dRn
   have dRf:=Vm (A51.g XK G) T XT_NoText dRp dIf
   have dRw:=z2F (A52.g XK G) T XT_NoText dRn dRp dIw
   have dSs:=(dSh.sh).Z3u l_shares_shares
   have dWi:Def l.prog w K mg base 1 "with_link" ["web","one","other"] (Jm K):=z0c (A38.g XK G) T
   have dWo:Def l.prog w K mg base 1 "without_link" ["web","one","other"] (QY K):=uz (A39.g XK G) T
   have dEv:=Z2n (A27.g XK G) T dM
   have dIlI:Def l.prog w K mg base 3 "is_link" ["pages","thing"] (z1i K):=dIl.imp λvs H Q E h=>by obtain⟨n,x,y,q,e,hq,k⟩:=h;exact⟨n,x,y,q,e,zO.of hq,k⟩
   have eMk:MkD l.prog w K mg base yV 1 C "Live" ["self","web","leap"] (Yc C):=Z2Y mk_Live T LT
   have eTu:ZC l.prog w K mg base yV 1 C "turn" ["self","web"] (QJ C):=Z2H M_turn.g T LT
   have eCh:=Z0e M_check.g T LT XT_NoLink dIlI
   have eLi:=Z2W M_link.g T LT XT_NoLink i_MOST_PAGES i_MOST_LINKS eCh eTu dWi
   have eUn:=z5W M_unlink.g T LT XT_NoLink eCh eTu dWo
   have ePa:=Z1X M_page.g T LT XT_NoLink i_MOST_PAGES i_MOST_LINKS eTu
   have eUd:ZC l.prog w K mg base yV 1 C "undo" ["self"] (Jj K C):=Z2c M_undo.g T LT
   have eWe:ZC l.prog w K mg base yV 1 C "web" ["self"] (Q4 K C):=Z4F M_web.g T LT
   have eSh:=z6m M_shares.g T LT dSs dEv
   have dSv:=dSh.Z3u l_shares_shares
   have eRkD:=(z6d (A35.g XK G) T hBm KB CO XK G hC dSv dAb dBe).Z3u l_ranked_shares
   have eRk:=z7D M_ranked.g T LT eRkD dEv
   have dIs:Def l.prog w K mg base 1 "is_less" ["one","other"] (z2v K):=z5m (A12.g XK G) T
   have dLk:=z6C (A55.g XK G) T dWi
   have dAh:=z1Z (A56.g XK G) T dSs dIs
   have dCh:Def l.prog w K mg base 13 "choices" ["places","many"] (Jb K 12):=Xr (A54.g XK G) T 12
   have dLl:=Uv (A57.g XK G) T dCh dLk dAh
   have dGf:Def l.prog w K mg base 1 "show_figures" ["number"] uH:=VQ (A44.g XK G) T zstr zrev
   have dGn:=UM (A45.g XK G) T dGf
   have dGr:=Vb (A46.g XK G) T dGn
   have dSw:Def l.prog w K mg base 1 "show_web" ["web"] (Jo K):=z2J (A47.g XK G) T zstr
   have dPt:Def l.prog w K mg base 1 "parted" ["pages"] (z3Q K):=z8L (A61.g XK G) T zstr
   have dCp:=JR (A62.g XK G) T LT XT_NoLink eWe
   have dYl:=z2q (A63.g XK G) T LT i_DONE eLi
   have dYn:=jR (A64.g XK G) T LT i_DONE eUn
   have dYg:=z2E (A65.g XK G) T LT zstr ePa
   have dYu:=z2a (A66.g XK G) T LT i_DONE eUd
   have dYs:=z2e (A67.g XK G) T LT eWe dSw
   have dYh:=z1v (A68.g XK G) T LT dCp eSh dGr
   have dYr:=z1K (A69.g XK G) T LT eRk dPt
   have dYp:=z2L (A70.g XK G) T LT XT_NoLink i_MOST_PLACES zmin dCp eWe dEv dLl dPt
   have dIp:=z4Y (A26.g XK G) T dIf
   have dRl:=z1u (A72.g XK G) T XT_NoText dRf dIp
   have dAn:=z3a (Xl:=Xc_NoLink) (A73.g XK G) T XT_NoCommand zall mANS dcANS dFi
   have eDi:=Z0r mk_Desk T DT eMk
   have eSy:=Z4y M_say.g T LT DT XT_NoCommand zstr i_DONE eMk eWe dRw dRl dAn
   have an:∀ h:Hd,AnX l.prog w K mg base fz Xc_NoLink h.tx h.nr (h.sp K C Xc_NoLink tb YQ):=λh=>by
    cases h
    exact F_link.anx XK G dYl 01
    exact F_unlink.anx XK G dYn 01
    exact F_page.anx XK G dYg 01
    exact (F_undo.anc XK G dYu 01).x
    exact (F_show.anc XK G dYs 01).x
    exact F_share.anx XK G dYh 01
    exact (F_rank.anc XK G dYr 01).x
    exact F_pass.anx XK G dYp 01
   have dDk:Def l.prog w K mg base 1 "_law_deck" ["cell","k"] z1W:=z2K (A78.g XK G) T
   have dTk:Def l.prog w K mg base 1 "_law_take" ["deck","many"] YW:=z2S (A77.g XK G) T
   have dNu:=Jt (A79.g XK G) T dTk
   have dTx:=z1N (A80.g XK G) T dTk
   have dWo:=z0u (A81.g XK G) T dDk dTk dNu dTx
   have dIn:Def l.prog w K mg base 1 "_law_is_number" ["word"] z3P:=Vk (A82.g XK G) T zall
   have dTd:=uT (A83.g XK G) T XT_NoText (λC h D hd n=>absurd ((Z04.mp hd).trans (Z04.mp h).symm) n) dRw dRf dIp
   have dT2:=UN (A84.g XK G) T dIn
   have dDu:=z4O (A85.g XK G) T dIn dTd dT2
   have ki:KiT K Xc_NoLink Xc_NoText Xc_NoCommand Xk:=.of x1 x2 x3 uN uN uN y1 y2 y3 y4 y5 y6 (z8G kn1 kn2 kn3) (z8G kv1 kv2 kv3)
   have dMe:=z5r (A86.g XK G) T DT XT_NoLink XT_NoText XT_NoCommand XT_WalkError (z8G xu1 xu2 xu3) (z8G xw1 xw2 xw3) (z8G ⟨xg1,xh1,xc1,xo1,xb1⟩ ⟨xg2,xh2,xc2,xo2,xb2⟩ ⟨xg3,xh3,xc3,xo3,xb3⟩) (Z3Q XK G xbK) zVE zstr ki eSy
   have dChg:Def l.prog w K mg base 1 "_law_changes" ["many","words"] z6a:=UD (A87.g XK G) T
   have dTh:=XX (A88.g XK G) T DT an fzk eSy eDi dMe dDu dRw
   exact Z1H F89 T DT an fzk eSy eDi dRw dMe dDu dWo dChg dTh
def walk{l:PySem.W.OpenLaw}{d:DefRec}{K:Params->FR}(hn:l.most=some 63)(b:d.params.defaults=[])(m:∀ (w:World) (h:Heap),YP w h->(K w.params).In h)(r:∀ (w:World) (h:Heap),YP w h->h.get? tb=some (PySem.W.tabObj #[]))(i:∀ p:Params,(K p).lookup tb=none)(hC:∀ p:Params,PySem.W.codeHdIn (K p) c tb=true)(F:∀ (w:World) (mg:SV) (j:Addr) (h:Heap),(K w.params).In h->h.Ns mainGlobals mg->mg d.name=some (.ref j)->
  ∃ fd:FuncData,(∀ (s:Shared) (u:Value),BindsTo s fd ⟨[u],[]⟩ [("script",u)])/\∀ base:Heap,(K w.params).In base->base.Ns mainGlobals mg->Bm base mg->Zo l.prog w (K w.params) mg base yV 21 j fd ["script"] (VE (K w.params) tb)) :
 PySem.W.WalkO q loose XP YP l.row.toRowW d [] (λf vs=>PySem.call f vs) :=
 L2.z7x (n:=63) (k:=21) (x:="script") (c:=c) (tb:=tb) (CX:=λ_=>yV) (sp:=λw=>VE (K w.params) tb) hn 01 b ⟨rfl,01,01,rfl⟩ m r i hC F (λ_ _ a ns hl t o=>⟨a,ns,rfl,o,hl,.inl t.1,λ_=>rfl⟩) λ_ _ _ _ _ z=>z
end Lw
open PySem PySem.W PyProof.Rows
set_option maxRecDepth 100000 in
def PySem.W.Fast:Unit:=() where
 tw17925214159460166377:=()
 tw15584188869148839584:=()
 tw2790482214675559830:=()
 tw11953975460161756596:=()
 tw18437282899237612005:=()
 tw15060627606507103674:=()
 tw12972261291221612751:=()
 tw15610711288735153793:=()
 tw16876942160958806835:=()
 tw6637472497186379867:=()
 tw11328750362951094850:=()
 tw16754602876311106130:=()
 tw10493705028998550130:=()
 tw18173163249452386439:=()
 tw6996770414201959707:=()
 tw10174751339454271700:=()
 tw1298762425327436378:=()
 tw10862028632715050867:=()
 tw3923029355358536757:=()
 tw2885136348511571896:=()
 tw1903634426015226556:=()
 tw17464225546434619964:=()
 tw5846874989059305196:=()
 tw2666875095236845324:=()
 tw17040713962733748921:=()
 tw9860498979917497201:=()
 tw12304544935038510992:=()
 tw293985882042185635:=()
 tw9065355456237738618:=()
 tw15600979181882195311:=()
 tw6489032980602423028:=()
 tw15952441693309899542:=()
 tw2379884708345548652:=()
 tw4113237367048953435:=()
 tw6536418798450107535:=()
 tw12437451744421475518:=()
 tw17638982754672699904:=()
 tw10684463830646841552:=()
 tw4503832337538469567:=()
 tw391268975244600397:=()
 tw11754693090301403676:=()
 tw12205825011693001581:=()
 tw10515654886870055192:=()
 tw12701455219312108157:=()
 tw16343780442823171588:=()
 tw1365928996805851191:=()
 tw16215532410393641442:=()
 tw3358127559556027186:=()
 tw18056689909919136309:=()
 tw455578136877911080:=()
 tw12700155012620181319:=()
 tw7060825545502435779:=()
 tw3942152513746023971:=()
 tw11995443426593272466:=()
 tw1567590336897949361:=()
 tw15695105757865503989:=()
 tw10423298375641161768:=()
 tw4105886643483934099:=()
 tw12219982620938578121:=()
 tw16463035470413642958:=()
 tw4831200921824778953:=()
 tw9774900980567508707:=()
 tw2656944792427732402:=()
 tw15960285632480366470:=()
 tw12735457575996636247:=()
 tw6810300196370879154:=()
 tw9895636780262207188:=()
 tw14140352151508084596:=()
 tw16172011519203237895:=()
 tw13764577242627461266:=()
 tw17236152237111259831:=()
 tw6066591329595728410:=()
 tw12334242467545021193:=()
 tw3889228301661103786:=()
 tw2797845277795217306:=()
 tw58546403786428748:=()
 tw8969784417155394690:=()
 tw14844796315590832689:=()
 tw14897709388758549696:=()
 tw15247628618357117325:=()
 tw3735232960275074714:=()
 tw16577693023831883230:=()
 tw12824963358511400981:=()
 tw3350796336181049447:=()
 tw2449265816972870402:=()
 tw323005813220866924:=()
 tw14925624074822796603:=()
 tw14825033508953478116:=()
 tw10383629740734005557:=()
 tw12889083742482505330:=()
 tw837142455145122573:=()
 tw14307271417660257645:=()
 tw6398185796917712438:=()
 tw997303778496775884:=()
 tw16105097347653668781:=()
 tw8186987944323898002:=()
 tw2011753813501348041:=()
 tw8519622578159360000:=()
 tw7221783759789550455:=()
 tw9044022057703562372:=()
 tw724044014613938633:=()
 tw9138309130940868114:=()
 tw10291359566136893376:=()
 tw5780770361586280380:=()
 tw1960871840295419520:=()
 tw16118213476027935957:=()
 tw1557667380745152605:=()
 tw7008663105932560459:=()
 tw8348751997737475348:=()
 tw14572730835736809801:=()
 tw5583023690500352308:=()
 tw14293647131943121453:=()
 tw3610388342644453955:=()
 tw6439711739219556075:=()
 tw5400160548723217764:=()
 tw5602683367505435973:=()
 tw14987352140998568686:=()
 tw2160899367673313219:=()
 tw16244416985622961301:=()
 tw15765295617470525672:=()
 tw18300985282482296741:=()
 tw9305182773237265911:=()
 tw10901452317498731657:=()
 tw595656897238025496:=()
 tw16396209914108996036:=()
 tw566510431639040942:=()
 tw15162677374414802405:=()
 tw15419976211453935661:=()
 tw9093498045621335273:=()
 tw11295250006086879671:=()
 tw5675447924936516493:=()
 tw5874337809088327023:=()
 tw3513034236248620938:=()
 tw16764422792776579708:=()
 tw6067776969259014000:=()
 tw8419803547727546132:=()
 tw7376961710492412620:=()
 tw5528928444868671802:=()
 tw14000581695142463461:=()
 tw12362193851160318737:=()
 tw13364306949618965064:=()
 tw8100426399075139635:=()
 tw13189803376602571980:=()
 tw2979393759213130260:=()
 tw6827320674716883285:=()
 tw13077783179852209427:=()
 tw8726455579835943256:=()
 tw3258741536819823056:=()
 tw10745117148287250295:=()
 tw13170417133862750901:=()
 tw6443760069554024156:=()
 tw1315555778887279882:=()
 tw3745586109057556830:=()
 tw1390629881590315067:=()
 tw11254228573448433913:=()
 tw12915213648178366288:=()
 tw16253547079962027103:=()
 tw15874717323954231685:=()
 tw17657841807221464107:=()
 tw9142204427818104409:=()
 tw5059222555480526278:=()
 tw8133846951687058133:=()
 tw6432945596911440135:=()
 tw2156232022024848251:=()
 tw2277935468633940026:=()
 tw5118630974931402286:=()
 tw4539451864231869549:=()
 tw8751936295232621841:=()
 tw17294160352804510798:=()
 tw9173804545830320775:=()
 tw2477988644902269696:=()
 tw10115535709931938459:=()
 tw3712010755041528965:=()
 tw11823252329556032287:=()
 tw14899861716139426322:=()
 tw9349619948030403478:=()
 tw1886448419778133418:=()
 tw14795593477696839586:=()
 tw7401813683326327611:=()
 tw9318990738595482853:=()
 tw6786126868099272644:=()
 tw8376427035278039416:=()
 tw10323286128865368888:=()
 tw14378695790474123483:=()
 tw3767790583378950736:=()
 tw397422455172637946:=()
 tw6552757745786224273:=()
 tw16114423986335444787:=()
 tw2783475740326829372:=()
 tw16118970637964930542:=()
 tw7255615224119042220:=()
 tw10439387242068549195:=()
 tw4677365171727832989:=()
 tw11676927770568602228:=()
 tw14928590280845482404:=()
 tw511572290861852560:=()
 tw152987575065221128:=()
 tw12413623525600019542:=()
 tw15413555183436891652:=()
 tw7232710590865353390:=()
 tw12588167882651779354:=()
 tw13638253422471218810:=()
 tw13760330201852192899:=()
 tw2555671668775027011:=()
 tw12565150658820980060:=()
 tw12092474434575893020:=()
 tw3188488946799708112:=()
 tw5190439665665679791:=()
 tw11134784030999453984:=()
 tw11681061222113530366:=()
 tw4149108118021036465:=()
 tw8988792389634582721:=()
 tw14959013460271476629:=()
 tw1891897088036757893:=()
 tw11733239019147252441:=()
 tw13212922580397568860:=()
 tw16785097882766349168:=()
 tw1063020483596730867:=()
 tw9426124480271941715:=()
 tw15688990791475887433:=()
 tw16974496305278465782:=()
 tw9824419347361920905:=()
 tw344638999581470126:=()
 tw9508126621577328412:=()
 tw16429202507488232683:=()
 tw3181271381953774284:=()
 tw17520710566300209629:=()
 tw15278027587371053678:=()
 tw2406583276479124300:=()
 tw1702281864700637220:=()
 tw14313817067021545240:=()
 tw14282827847625357463:=()
 tw5344458360831556642:=()
 tw16504010269851026644:=()
 tw6598123260579968030:=()
 tw4074936008986706987:=()
 tw8844810110807250900:=()
 tw9390485314605868022:=()
 tw16530450827213150671:=()
 tw3994286194337967610:=()
 tw2637971789132676325:=()
 tw1015587799774780331:=()
 tw14912534382855983377:=()
 tw15794934764185386442:=()
 tw7663253226434782781:=()
 tw17952624037891630278:=()
 tw642358526984253972:=()
 tw4102674669858312129:=()
 tw18288673566268479733:=()
 tw15679769952720538199:=()
 tw14033052242670334165:=()
 tw9286177289726568984:=()
 tw5095955732003483389:=()
 tw12452913886628953600:=()
 tw15739707858114879454:=()
 tw5869034134842699039:=()
 tw11207756598858627587:=()
 tw2966279184273058902:=()
 tw6148785732510418805:=()
 tw14856697845470111094:=()
 tw14047618290164755967:=()
 tw12684790665998585924:=()
 tw11414207107260122921:=()
 tw5971745272099356199:=()
 tw11352159742845711642:=()
 tw11405158048017291226:=()
 tw8031816967342395027:=()
 tw3489600701592095826:=()
 tw10680733349381672181:=()
 tw15211505679675211071:=()
 tw9216020797097313283:=()
 tw17027018184540534953:=()
 tw17958117060357568898:=()
 tw17258890639106149196:=()
 tw9912514530683540225:=()
 tw17335182569559775069:=()
 tw6707340382292986791:=()
 tw2324233254030111119:=()
 tw10849812028590970302:=()
 tw15359660704791189032:=()
 tw11944577429111028697:=()
 tw2450691375715697684:=()
 tw3643757804399714220:=()
 tw14992554711599541474:=()
 tw11468744952426824395:=()
 tw8717059191293548197:=()
 tw891490008690505937:=()
 tw4807517189199109372:=()
 tw2664008950797177301:=()
 tw4529638837198401470:=()
 tw11399971712182154774:=()
 tw15699420588472810891:=()
 tw10815800290140054706:=()
 tw16083666596890366498:=()
 tw1434504082280998961:=()
 tw4819605116580254521:=()
 tw10036362194576185128:=()
 tw5220827293838018521:=()
 tw10598465086816644715:=()
 tw8783277266838417499:=()
 tw5420881560612171681:=()
 tw18268896328793452501:=()
 tw14645836578685449142:=()
 tw14749429048396581175:=()
 tw9737652309304868582:=()
 tw363006448911125815:=()
 tw2348324716703177449:=()
 tw14057050298734911363:=()
 tw9372155437078059815:=()
 tw17671932404020205948:=()
 tw15912306448466357517:=()
 tw16193674430389495558:=()
 tw2026460915468683884:=()
 tw10421230414172869163:=()
 tw17940831395641799638:=()
 tw16943891414156176819:=()
 tw11998239811205164722:=()
 tw2659591518282185722:=()
 tw7125416565253744402:=()
 tw1567775193171497411:=()
 tw13082371468380669493:=()
 tw3835638028610183970:=()
 tw1399067968602062432:=()
 tw17950305390013515112:=()
 tw8133538936176796811:=()
 tw5456131488097410748:=()
 tw9593192464120293318:=()
 tw17365228393898450225:=()
 tw10090669002547772955:=()
 tw3593299462129764312:=()
 tw3068604761580052289:=()
 tw9516549442556534288:=()
 tw793443175633238853:=()
 tw16982026140093360031:=()
 tw684151673423777562:=()
 tw2458118546804725000:=()
 tw14617693635292769577:=()
 tw11576023869366892013:=()
 tw13503876354837954249:=()
 tw4331669207185367218:=()
 tw10136504340669469380:=()
 tw12217714943222747563:=()
 tw1975232773790542965:=()
 tw1098594097098108808:=()
 tw10060588866387375582:=()
 tw8968490058625290140:=()
 tw6781736838874325371:=()
 tw17659577579258816088:=()
 tw17333406147194588669:=()
 tw4240413357642258240:=()
 tw5007016916754078740:=()
 tw10378313481856174017:=()
 tw879136604552391246:=()
 tw7204803706680613037:=()
 tw10587688533402615705:=()
 tw12059032025090658144:=()
 tw6881995776314069566:=()
 tw12024444985774020368:=()
 tw5319912130359581245:=()
 tw11859494366903752618:=()
 tw11194412970144167635:=()
 tw5326458414396659923:=()
 tw983029938088994862:=()
 tw17860757275433876953:=()
 tw7836774039155106761:=()
 tw3207885469955806911:=()
 tw6524358675910532256:=()
 tw2617775762471221994:=()
 tw2307066842180127646:=()
 tw4549180720962962423:=()
 tw5594486409055103211:=()
 tw14211631713707337336:=()
 tw14816595112383151610:=()
 tw5661577047166370813:=()
 tw16656970338252325955:=()
 tw16730793184576447062:=()
 tw6945493995964104311:=()
 tw6967134399700231433:=()
 tw3005258953787760796:=()
 tw15651827957932702886:=()
 tw10311265157814799072:=()
 tw16245802830111016855:=()
 tw2369365289538773748:=()
 tw12889905484829879694:=()
 tw8580725663971304084:=()
 tw6113412180103229088:=()
 tw13637088289454977862:=()
 tw1718509390967536645:=()
 tw12459875817594089716:=()
 tw10805271242899249685:=()
 tw4472136737091368787:=()
 tw15849743989925313395:=()
 tw14867540374928741152:=()
 tw17283432913063874778:=()
 tw855684593914554772:=()
 tw14875122073248439179:=()
 tw2784848723428188840:=()
 tw6388812385144457976:=()
 tw14736120662880341069:=()
 tw5087384631643071795:=()
 tw1300831454346133026:=()
 tw7900684104753732913:=()
 tw12018839023026074147:=()
 tw167776431449685117:=()
 tw325918857695068425:=()
 tw5669556767830361619:=()
 tw5080664333199105389:=()
 tw8119567024448943892:=()
 tw954420520095212827:=()
 tw893211289407661133:=()
 tw1244272648368272119:=()
 tw8830126753520818318:=()
 tw14186465492278406348:=()
 tw4157546020109230354:=()
 tw12644252390214364749:=()
 tw18057762404315620414:=()
 tw5333324067361610991:=()
 tw3353150473071587230:=()
 tw10692063809346144484:=()
 tw17391869144236185912:=()
 tw3590703558250258048:=()
 tw14410978479443982773:=()
 tw17674087993603433027:=()
 tw816968358102993455:=()
 tw13181056345055687009:=()
 tw16132409961595645916:=()
 tw9673911757517949904:=()
 tw3135696807882693142:=()
 tw3101484815774751040:=()
 tw17149115587317755072:=()
 tw12034992718027064494:=()
 tw1411490894547736452:=()
 tw3110658142795904670:=()
 tw12343002932048645605:=()
 tw15261556283739403037:=()
 tw9013395848005937756:=()
 tw7678859650911174999:=()
 tw17903309757012945585:=()
 tw14117768925461641362:=()
 tw9984223251669165868:=()
 tw258034498566533889:=()
 tw11763158107229741570:=()
 tw3251583849694479623:=()
 tw6985525924716522821:=()
 tw1353539631032471042:=()
 tw8456352769038251302:=()
 tw136721261663500811:=()
 tw16573403565516564609:=()
 tw3253349163372802815:=()
 tw6061635241525224906:=()
theorem PySem.Challenge.cw_pagewalks_k56_words_refused_holds : PySem.Challenge.rw_pagewalks_k56_words_refused.Holds := by
 w_on;o_law;k_head;(case hw=>w_witness2)
 k_fill
 refine Lw.walk (l:=PySem.Challenge.rw_pagewalks_k56_words_refused) (c:=217) (tb:=213) rfl rfl (λw h Y=>PySem.W.km_in_of Y) (λw h Y=>PySem.W.km_tabs_of Y _ (.head _)) (λp=>by kernel_rfl) (λp=>by kernel_rfl) ?F
 case F =>
  intro w mg fa h KX G hmg
  refine' Lw.all_mk KX G hmg ?A7 ?A8 ?A9 ?A10 ?A11 ?A12 ?A13 ?A14 ?A16 ?A17 ?A21 ?A22 ?A23 ?A24 ?A25 ?A26 ?A27 ?A29 ?A30 ?A31 ?A32 ?A33 ?A35 ?A38 ?A39 ?A44 ?A45 ?A46 ?A47 ?A48 ?A49 ?A50 ?A51 ?A52 ?A54 ?A55 ?A56 ?A57 ?A61 ?A62 ?A63 ?A64 ?A65 ?A66 ?A67 ?A68 ?A69 ?A70 ?A72 ?A73 ?A77 ?A78 ?A79 ?A80 ?A81 ?A82 ?A83 ?A84 ?A85 ?A86 ?A87 ?A88 ?aL ?lL ?cL ?kL ?zabs ?zisi ?ztup ?zint ?zbool ?zlst ?zenu ?zlen ?zrange ?zsrt ?zsum ?zzip ?zmax ?zrev ?zstr ?zall ?zmin ?zVE ?aC ?n_now ?n_leap ?n_past ?M_init ?M_turn ?M_check ?M_link ?M_unlink ?M_undo ?M_page ?M_web ?M_shares ?M_ranked ?I_MOST_PAGES ?I_MOST_LINKS ?I_MOST_FIGURES ?I_MOST_PLACES ?L_shares_shares ?L_ranked_shares ?E_NoLink ?E_NoText ?E_NoCommand ?E_WalkError ?aD ?n_live ?M_dinit ?M_say ?S_DONE ?D_ANS ?F_link ?F_unlink ?F_page ?F_undo ?F_show ?F_share ?F_rank ?F_pass ?x1 ?x2 ?x3 ?fzk ?xbK ?y1 ?y2 ?y3 ?y4 ?y5 ?y6 ?kn1 ?kv1 ?xu1 ?xw1 ?xg1 ?xh1 ?xc1 ?xo1 ?xb1 ?kn2 ?kv2 ?xu2 ?xw2 ?xg2 ?xh2 ?xc2 ?xo2 ?xb2 ?kn3 ?kv3 ?xu3 ?xw3 ?xg3 ?xh3 ?xc3 ?xo3 ?xb3 (cR:=217) (tb:=213) ?CO ?hC
  any_goals (refine' L2.FnAt.of ?a ?l ?c ?k;(case a=>k_is);(case l=>k_is);(case c=>k_is);(case k=>k_is))
  (case aL=>k_is)
  (case lL=>k_is)
  (case cL=>k_is)
  (case kL=>k_is)
  (case zabs=>k_is)
  (case zisi=>k_is)
  (case ztup=>k_is)
  (case zint=>k_is)
  (case zbool=>k_is)
  (case zlst=>k_is)
  (case zenu=>k_is)
  (case zlen=>k_is)
  (case zrange=>k_is)
  (case zsrt=>k_is)
  (case zsum=>k_is)
  (case zzip=>k_is)
  (case zmax=>k_is)
  (case zrev=>k_is)
  (case zstr=>k_is)
  (case zall=>k_is)
  (case zmin=>k_is)
  (case zVE=>k_is)
  (case aC=>refine' L2.z0Y.of ?a ?pg ?hd ?po ?sa ?mk ?kc;(case a=>k_is);(case pg=>k_is);(case hd=>k_is);(case po=>k_is);(case sa=>k_is);(case mk=>k_is);(case kc=>k_is))
  (case n_now=>k_is)
  (case n_leap=>k_is)
  (case n_past=>k_is)
  (case I_MOST_PAGES=>refine' L2.Ve.of ?a;(case a=>k_is))
  (case I_MOST_LINKS=>refine' L2.Ve.of ?a;(case a=>k_is))
  (case I_MOST_FIGURES=>refine' L2.Ve.of ?a;(case a=>k_is))
  (case I_MOST_PLACES=>refine' L2.Ve.of ?a;(case a=>k_is))
  (case L_shares_shares=>refine' L2.z0U.of ?a ?b;(case a=>k_is);(case b=>k_is))
  (case L_ranked_shares=>refine' L2.z0U.of ?a ?b;(case a=>k_is);(case b=>k_is))
  (case E_NoLink=>refine' L2.Vd.of ?a ?e ?t;(case a=>k_is);(case e=>kernel_rfl);(case t=>kernel_rfl))
  (case E_NoText=>refine' L2.Vd.of ?a ?e ?t;(case a=>k_is);(case e=>kernel_rfl);(case t=>kernel_rfl))
  (case E_NoCommand=>refine' L2.Vd.of ?a ?e ?t;(case a=>k_is);(case e=>kernel_rfl);(case t=>kernel_rfl))
  (case E_WalkError=>refine' L2.Vd.of ?a ?e ?t;(case a=>k_is);(case e=>kernel_rfl);(case t=>kernel_rfl))
  (case aD=>refine' L2.z0Y.of ?a ?pg ?hd ?po ?sa ?mk ?kc;(case a=>k_is);(case pg=>k_is);(case hd=>k_is);(case po=>k_is);(case sa=>k_is);(case mk=>k_is);(case kc=>k_is))
  (case n_live=>k_is)
  (case S_DONE=>refine' L2.z5d.of ?a;(case a=>k_is))
  (case D_ANS=>refine' L2.z9R.of ?a ?l ?z ?k;(case a=>k_is);(case l=>k_is);(case z=>decide);(case k=>exact⟨⟨_,_,rfl,rfl⟩,⟨_,_,rfl,rfl⟩,⟨_,_,rfl,rfl⟩,⟨_,_,rfl,rfl⟩,⟨_,_,rfl,rfl⟩,⟨_,_,rfl,rfl⟩,⟨_,_,rfl,rfl⟩,⟨_,_,rfl,rfl⟩,trivial⟩))
  (case F_link=>refine' L2.Yb.of ?a ?l ?n;(case a=>first | rfl | kernel_rfl);(case l=>k_is);(case n=>k_is))
  (case F_unlink=>refine' L2.Yb.of ?a ?l ?n;(case a=>first | rfl | kernel_rfl);(case l=>k_is);(case n=>k_is))
  (case F_page=>refine' L2.Yb.of ?a ?l ?n;(case a=>first | rfl | kernel_rfl);(case l=>k_is);(case n=>k_is))
  (case F_undo=>refine' L2.Yb.of ?a ?l ?n;(case a=>first | rfl | kernel_rfl);(case l=>k_is);(case n=>k_is))
  (case F_show=>refine' L2.Yb.of ?a ?l ?n;(case a=>first | rfl | kernel_rfl);(case l=>k_is);(case n=>k_is))
  (case F_share=>refine' L2.Yb.of ?a ?l ?n;(case a=>first | rfl | kernel_rfl);(case l=>k_is);(case n=>k_is))
  (case F_rank=>refine' L2.Yb.of ?a ?l ?n;(case a=>first | rfl | kernel_rfl);(case l=>k_is);(case n=>k_is))
  (case F_pass=>refine' L2.Yb.of ?a ?l ?n;(case a=>first | rfl | kernel_rfl);(case l=>k_is);(case n=>k_is))
  (case x1=>decide)
  (case x2=>decide)
  (case x3=>decide)
  (case fzk=>exact L2.Z2O ⟨⟨.link,_,rfl⟩,⟨.unlink,_,rfl⟩,⟨.page,_,rfl⟩,⟨.undo,_,rfl⟩,⟨.show,_,rfl⟩,⟨.share,_,rfl⟩,⟨.rank,_,rfl⟩,⟨.pass,_,rfl⟩,trivial⟩)
  (case xbK=>k_is)
  (case y1=>(first | k_is | kernel_rfl))
  (case y2=>(first | k_is | kernel_rfl))
  (case y3=>(first | k_is | kernel_rfl))
  (case y4=>(first | k_is | kernel_rfl))
  (case y5=>(first | k_is | kernel_rfl))
  (case y6=>(first | k_is | kernel_rfl))
  (case kn1=>(first | k_is | kernel_rfl))
  (case kv1=>(first | k_is | kernel_rfl))
  (case xu1=>(first | k_is | kernel_rfl))
  (case xw1=>decide)
  (case xg1=>(first | k_is | kernel_rfl))
  (case xh1=>(first | k_is | kernel_rfl))
  (case xc1=>(first | k_is | kernel_rfl))
  (case xo1=>(first | k_is | kernel_rfl))
  (case xb1=>(first | k_is | kernel_rfl))
  (case kn2=>(first | k_is | kernel_rfl))
  (case kv2=>(first | k_is | kernel_rfl))
  (case xu2=>(first | k_is | kernel_rfl))
  (case xw2=>decide)
  (case xg2=>(first | k_is | kernel_rfl))
  (case xh2=>(first | k_is | kernel_rfl))
  (case xc2=>(first | k_is | kernel_rfl))
  (case xo2=>(first | k_is | kernel_rfl))
  (case xb2=>(first | k_is | kernel_rfl))
  (case kn3=>(first | k_is | kernel_rfl))
  (case kv3=>(first | k_is | kernel_rfl))
  (case xu3=>(first | k_is | kernel_rfl))
  (case xw3=>decide)
  (case xg3=>(first | k_is | kernel_rfl))
  (case xh3=>(first | k_is | kernel_rfl))
  (case xc3=>(first | k_is | kernel_rfl))
  (case xo3=>(first | k_is | kernel_rfl))
  (case xb3=>(first | k_is | kernel_rfl))
  (case CO=>refine' L2.xQ.of ?a ?l ?c;(case a=>k_is);(case l=>k_is);(case c=>rfl))
  (case hC=>kernel_rfl)
  any_goals (refine' L2.jy.of ?a ?i ?l ?c ?k;(case a=>k_is);(case i=>k_is);(case l=>k_is);(case c=>k_is);(case k=>k_is))
